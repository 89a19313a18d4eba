import PyProof.Rows.All
import Wide.All
import OpenK.AllK
import Wide.FinOn
import Lean
import PyProof.EqAt
import PyProof.EqKinds
import PyProof.TupleCall
import PyProof.Rows.SetFrom
import PyProof.EnumFor
import PyProof.EnumMake
import PyProof.ZipIter
import KE.KRevIter
import PyProof.ListRange
import PyProof.FactsAll.range_iterator_1
import PyProof.Rows.TupDisplay
import PySem.SetOps
import PyProof.CollectWalk
import PyProof.Rows.SortShell
import PyProof.SetRoads
import PyProof.NeKinds
import PySem.Challenge.RW_tieword_k16_made_of
set_option Elab.async false
set_option linter.all false
set_option maxRecDepth 100000
set_option compiler.extract_closed false
set_option bootstrap.genMatcherCode false
set_option genSizeOf false
set_option genSizeOfSpec false
namespace L2
def Ya:=@Option.bind_some
def Yb:=@List.mem_cons_of_mem
def Yc:=@List.mem_cons_self
def Yd:=@PySem.Heap.get?_push_of_some
def Ye:=@List.getElem?_eq_getElem
def Yf:=@List.length_map
def Yg:=@Bool.false_ne_true
def Yh:=@List.length_append
def Yi:=@List.getElem?_eq_some_iff
def Yj:=@PySem.wpAny_bind
def Yk:=@if_pos
def Yl:=@PyProof.Rows.wpS_bind
def Ym:=@if_neg
def Yn:=@PySem.Heap.lt_size
def Yo:=@List.size_toArray
def Yp:=@PySem.Heap.get?_push_size
def Yq:=@PyProof.Rows.wpS_pure
def Yr:=@Nat.le_refl
def Ys:=@List.append_assoc
def Yt:=@List.mem_append
def Yu:=@PySem.wpAny_pure
def Yv:=@List.mem_append_right
def Yw:=@List.length_cons
def Yx:=@Bool.and_eq_true
def Yy:=@Nat.ne_of_lt
def Yz:=@decide_eq_false
def YA:=@Nat.lt_of_lt_of_le
def YB:=@List.mem_singleton
def YC:=@List.append_nil
def YD:=@List.all_eq_true
def YE:=@List.getElem?_map
def YF:=@List.mem_cons
def YG:=@List.getElem?_set_ne
def YH:=@Option.some.inj
def YI:=@List.length_set
def YJ:=@List.map_cons
def YK:=@decide_eq_true
def YL:=@List.mem_append_left
def YM:=@List.length_replicate
def YN:=@List.getD_eq_getElem?_getD
def YO:=@List.getElem?_set_self
def YQ:=@List.getElem?_append_right
def YR:=@List.length_nil
def YS:=@PySem.sizeLine_eq
def YT:=@PySem.W.mg_none_of
def YU:=@PySem.wpAny_loadPart'
def YV:=@List.drop_eq_nil_of_le
def YW:=@PySem.W.mg_of
def YX:=@decide_eq_true_eq
def YY:=@Option.map_some
def YZ:=@List.take_append_drop
def Za:=@Array.length_toList
def Zb:=@List.getElem?_append_left
def Zc:=@List.drop_eq_getElem_cons
def Zd:=@List.pairwise_cons
def Ze:=@List.length_singleton
def Zf:=@List.mem_map
def Zg:=@PyProof.Rows.wpS_forRange
def Zh:=@PySem.mem_of_lookup
def Zi:=@Nat.add_sub_cancel_left
def Zj:=@List.length_eq_zero_iff
def Zk:=@List.mem_of_getElem?
def Zl:=@Nat.lt_irrefl
def Zm:=@Nat.zero_le
def Zn:=@PySem.wpAny_mono
def Zo:=@List.nodup_cons
def Zp:=@PySem.wpAny_holding
def Zq:=@List.length_drop
def Zr:=@PySem.F.plainAttrs_list
def Zs:=@PySem.codeAny_builtin
def Zt:=@List.length_take
def Zu:=@List.lookup_cons
def Zv:=@List.length_range
def Zw:=@Array.getElem?_toList
def Zx:=@List.getElem?_eq_none
def Zy:=@List.map_map
def Zz:=@congrArg
def ZA:=@List.getElem_mem
def ZB:=@List.pairwise_singleton
def ZC:=@List.mem_range
def ZD:=@List.drop_zero
def ZE:=@of_decide_eq_true
def ZF:=@List.find?_cons
def ZG:=@List.map_append
def ZH:=@Nat.le_trans
def ZI:=@PySem.wpAny_Call_Name_kw
def ZJ:=@PyProof.Rows.wpS_mono
def ZK:=@List.Perm.append_left
def ZL:=@List.pairwise_iff_getElem
def ZM:=@List.mem_of_mem_drop
def ZN:=@List.mem_iff_getElem
def ZO:=@PySem.Around.under_plainId
def ZP:=@PySem.wpAny_truthy_bool
def ZQ:=@PySem.wpAny_passesOwn
def ZR:=@Nat.lt_succ_of_lt
def ZS:=@PySem.PassesOwn.never
def ZT:=@Nat.ne_of_gt
def ZU:=@Nat.zero_add
def ZV:=@List.getElem?_replicate
def ZW:=@List.eraseIdx_cons_succ
def ZX:=@decide_eq_false_iff_not
def ZY:=@beq_self_eq_true
def ZZ:=@decide_eq_decide
def Xa:=@List.take_zero
def Xb:=@PySem.W.cellsFrom_some
def Xc:=@Int.emod_lt_of_pos
def Xd:=@PyProof.Rows.callWith_type1
def Xe:=@PySem.Heap.get?_push_ne
def Xf:=@List.pairwise_map
def Xg:=@List.mem_of_mem_take
def Xh:=@Nat.lt_succ_self
def Xi:=@List.mem_reverse
def Xj:=@Ne.symm
def Xk:=@List.length_pos_iff
def Xl:=@Nat.le_of_lt
def Xm:=@PySem.codeAny_mono
def Xn:=@Option.isSome_iff_exists
def Xo:=@List.getElem?_take_of_lt
def Xp:=@PySem.F.slot_list_append
def Xq:=@PySem.F.type_list_append
def Xr:=@Nat.lt_or_ge
def Xs:=@PySem.F.slot_list_getattribute
def Xt:=@PySem.Calls.spliced_cons
def Xu:=@Bool.false_eq_true
def Xv:=@Nat.add_sub_cancel
def Xw:=@PySem.Code.quiet_builtin
def Xx:=@Int.emod_nonneg
def Xy:=@List.take_of_length_le
def Xz:=@List.reverse_cons
def XA:=@List.eraseIdxIfInBounds_toArray
def XB:=@PyProof.Rows.wpS_modify
def XC:=@List.getElem?_set
def XD:=@Nat.lt_trans
def XE:=@List.perm_append_comm
def XF:=@PySem.wpAny_execs_cons
def XG:=@List.drop_length
def XH:=@Nat.le_add_right
def XI:=@PySem.Heap.size_update
def XJ:=@PySem.wpAny_loadName_local
def XL:=@PySem.codeAny_call_builtin
def XM:=@PySem.Paired.length
def XN:=@List.any_cons
def XO:=@PySem.wpAny_call
def XQ:=@beq_eq_false_iff_ne
def XR:=@List.filterMap_cons
def XS:=@PySem.wpAny_execs_nil
def XT:=@List.of_mem_zip
def XU:=@PySem.pushCells_keeps
def XV:=@List.getElem?_range
def XW:=@List.nil_append
def XX:=@Nat.min_eq_left
def XY:=@List.mem_filterMap
def XZ:=@List.zip_cons_cons
def Va:=@List.getElem?_drop
def Vb:=@PySem.wpAny_Name
def Vc:=@Nat.le_of_lt_succ
def Vd:=@PySem.wpAny_rule
def Ve:=@List.ext_getElem?
def Vf:=@Nat.le_succ
def Vg:=@Bool.true_and
def Vh:=@beq_iff_eq
end L2
namespace L2
open PySem PySem.Spec PyProof.Rows
abbrev Kq:=PySem.W.Frag
abbrev Kv:=Value→Shared→Prop
abbrev Kp:=List (Addr×Obj)
abbrev Ks:=Str→Option Value
abbrev Ka:=Array (Int×Value)
abbrev Kb:=Bool→Shared→Prop
abbrev Ko:=Option Value→Shared→Prop
abbrev Kl:=List Value→Shared→Prop
abbrev Kr:=Result→Shared→Prop
abbrev Key:=Sum Int Str
def i4:Key→Value→Bool
 | .inl k,v=>Value.isInt k v
 | .inr x,v=>Value.isStrOf x v
def zh (w:World):Key→Int
 | .inl k=>hashInt k
 | .inr x=>hashStr w x
theorem aU:∀ {k:Key} {v:Value},i4 k v=true→(∃ i t,k=Sum.inl i∧v=Value.int i t)∨(∃ x t,k=Sum.inr x∧v=Value.str x t)
 | .inl i,v,h=>by
  obtain⟨t,e⟩:=Value.isInt_shape (k:=i) (v:=v) h
  exact .inl ⟨i,t,rfl,e⟩
 | .inr x,v,h=>by
  obtain⟨t,e⟩:=Value.isStrOf_shape (x:=x) (v:=v) h
  exact .inr ⟨x,t,rfl,e⟩
theorem pi (i:Int)(t:Tok):i4 (.inl i) (.int i t)=true:=by simp[i4,Value.isInt]
theorem om (x:Str)(t:Tok):i4 (.inr x) (.str x t)=true:=by simp[i4,Value.isStrOf]
theorem v6 (a b:Int):decide ((Sum.inl a:Key)=Sum.inl b)=(a == b):=by
 by_cases e:a=b
 ·subst e;simp
 ·have h:¬ (Sum.inl a:Key)=Sum.inl b:=fun q=>e (Sum.inl.inj q)
  rw[Yz h]
  exact (XQ.mpr e).symm
theorem wq (a b:Str):decide ((Sum.inr a:Key)=Sum.inr b)=decide (a=b):=by
 by_cases e:a=b
 ·subst e;simp
 ·have h:¬ (Sum.inr a:Key)=Sum.inr b:=fun q=>e (Sum.inr.inj q)
  rw[Yz h,Yz e]
theorem vi (a:Int)(b:Str):decide ((Sum.inl a:Key)=Sum.inr b)=false:=Yz (fun q=>nomatch q)
theorem vB (a:Str)(b:Int):decide ((Sum.inr a:Key)=Sum.inl b)=false:=Yz (fun q=>nomatch q)
def aE (prog:Program)(w:World):PySem.KeyKind prog w Key where
 is:=i4
 hash:=zh w
 inj:=fun v a b ha hb=>by
  rcases aU ha with⟨i,t,rfl,rfl⟩ | ⟨x,t,rfl,rfl⟩
  ·rcases aU hb with⟨j,u,rfl,e⟩ | ⟨y,u,rfl,e⟩
   ·injection e with e1 _;rw[e1]
   ·exact nomatch e
  ·rcases aU hb with⟨j,u,rfl,e⟩ | ⟨y,u,rfl,e⟩
   ·exact nomatch e
   ·injection e with e1 _;rw[e1]
 byValue:=fun k v h=>by
  rcases aU h with⟨i,t,rfl,rfl⟩ | ⟨x,t,rfl,rfl⟩ <;> rfl
 pyHash:=fun hv h=>by
  rcases aU hv with⟨i,t,rfl,rfl⟩ | ⟨x,t,rfl,rfl⟩
  ·exact wpAny_pyHash_int h
  ·exact wpAny_pyHash_str h
 eqBool:=fun hu hv h=>by
  rcases aU hu with⟨i,t,rfl,rfl⟩ | ⟨x,t,rfl,rfl⟩
  ·rcases aU hv with⟨j,u,rfl,rfl⟩ | ⟨y,u,rfl,rfl⟩
   ·rw[v6] at h;exact wpAny_eqBool_int h
   ·rw[vi] at h;exact SeqAt.EqAt.int_str i t y u _ _ _ _ h
  ·rcases aU hv with⟨j,u,rfl,rfl⟩ | ⟨y,u,rfl,rfl⟩
   ·rw[vB] at h;exact SeqAt.EqAt.str_int x t j u _ _ _ _ h
   ·rw[wq] at h;exact wpAny_eqBool_str h
 «strs»:=fun k x t v h=>by
  rcases aU h with⟨i,u,rfl,e⟩ | ⟨y,u,rfl,e⟩
  ·exact nomatch e
  ·injection e with e1 _
   subst e1
   cases v <;> rfl
theorem kC (prog:Program)(w:World)(i:Int)(t:Tok):(aE prog w).is (.inl i) (.int i t)=true:=pi i t
theorem kU (prog:Program)(w:World)(x:Str)(t:Tok):(aE prog w).is (.inr x) (.str x t)=true:=om x t
inductive V where
 | non | bl (b:Bool) | int (i:Int) | str (x:Str) | byt (b:Array UInt8) | flt (b:UInt64) | ref (a:Addr) | ty (n:String)
def RelV:V→Value→Prop
 | .non,u=>u=Value.none
 | .bl b,u=>u=Value.bool b
 | .int i,u=>∃ t,u=Value.int i t
 | .str x,u=>∃ t,u=Value.str x t
 | .byt b,u=>∃ t,u=Value.bytes b t
 | .flt b,u=>∃ t,u=Value.float b t
 | .ref a,u=>u=Value.ref a
 | .ty n,u=>u=Value.type n
abbrev Vals:List V→List Value→Prop:=Paired RelV
theorem Vals.length {xs:List V}{us:List Value}(r:Vals xs us):xs.length=us.length:=XM r
theorem Vals.get:∀ {xs:List V} {us:List Value} {i:Nat} {x:V},Vals xs us→xs[i]?=some x→∃ u,us[i]?=some u∧RelV x u
 | _,_,_,_,.nil,e=>by simp at e
 | _,_,0,_,.cons r _,e=>by simp at e;subst e;exact⟨_,rfl,r⟩
 | _,_,i+1,x,.cons _ t,e=>by
  obtain⟨u,h1,h2⟩:=Vals.get (i:=i) (x:=x) t (by simpa using e)
  exact⟨u,by simpa using h1,h2⟩
theorem Vals.set {x:V}{u:Value}(r:RelV x u):∀ {xs:List V} {us:List Value} (i:Nat),Vals xs us→Vals (xs.set i x) (us.set i u)
 | _,_,_,.nil=>.nil
 | _,_,0,.cons _ t=>.cons r t
 | _,_,i+1,.cons q t=>.cons q (Vals.set r i t)
theorem Vals.append {xs ys:List V}{us ws:List Value}(h:Vals xs us)(s:Vals ys ws):Vals (xs++ys) (us++ws):=by
 induction h with
 | nil=>exact s
 | cons r _ ih=>exact .cons r ih
theorem Vals.take:∀ {xs:List V} {us:List Value} (n:Nat),Vals xs us→Vals (xs.take n) (us.take n)
 | _,_,0,_=>.nil
 | _,_,_+1,.nil=>.nil
 | _,_,n+1,.cons r t=>.cons r (Vals.take n t)
theorem Vals.drop:∀ {xs:List V} {us:List Value} (n:Nat),Vals xs us→Vals (xs.drop n) (us.drop n)
 | _,_,0,r=>r
 | _,_,_+1,.nil=>.nil
 | _,_,n+1,.cons _ t=>Vals.drop n t
def RelO:Option V→Option Value→Prop
 | some v,some u=>RelV v u
 | none,none=>True
 | _,_=>False
def KV {κ:Type}:List (κ×V)→List (κ×Value)→Prop:=Paired fun (p:κ×V) (q:κ×Value)=>p.1=q.1∧RelV p.2 q.2
def kV:Key→V
 | .inl i=>.int i
 | .inr x=>.str x
inductive HO where
 /-- a list -/
 | lst (xs:List V)
 /-- a tuple (never changes) -/
 | tup (xs:List V)
 /-- a dict whose keys are ints and texts;one whose keys are tuples of ints and texts (the empty one is both) -/
 | dK (kvs:List (Key×V)) | dT (kvs:List (List Key×V))
 /-- a set of ints: its members,its size -/
 | set (S:Int→Bool) (n:Nat)
 /-- an instance of the class at C,its dict at dx,its attributes -/
 | ins (C dx:Addr) (fs:List (Str×V))
 /-- the dict of the instance at x -/
 | own (x:Addr)
 /-- the dict of an exception -/
 | xd (fs:List (Str×V))
 /-- a bound method,f of x -/
 | met (f x:Addr)
 /-- a range object lo,lo+1,.. below hi -/
 | rng (lo hi:Int)
 /-- a thing that is known to the object (the script;a dict while a loop walks it): read,never written while it is so -/
 | frz (o:Obj) (u:HO)
 /-- a code object's table -/
 | tbl (ps:Array Value)
 /-- any other thing,by what is true of its one object (a def of one's own: SetO a S n:=HO.ext fun h=>..) -/
 | ext (φ:Heap→Prop)
abbrev Hp:=Addr→Option HO
def upd (H:Hp)(a:Addr)(o:HO):Hp:=fun b=>if b=a then some o else H b
theorem ak {H:Hp}{a:Addr}{o:HO}:upd H a o a=some o:=by unfold upd;rw[Yk rfl]
theorem ag {H:Hp}{a b:Addr}{o:HO}(h:b≠a):upd H a o b=H b:=by unfold upd;rw[Ym h]
theorem uE {H:Hp}{a b:Addr}{o u:HO}(h:H a=some o)(h':H b=some u)(d:o≠u):a≠b:=by
 intro e;subst e;rw[h] at h';exact d (YH h')
theorem ax {H:Hp}{a b:Addr}{o:HO}(h:H a=some o)(h':H b=none):a≠b:=by
 intro e;subst e;rw[h] at h';cases h'
def NoD (h:Heap)(a:Addr):Prop:=∃ o,h.get? a=some o∧o.dict=none
theorem NoD.new (h:Heap)(items:Array Value):NoD (h.push { cls:=.type "tuple",data:=.seq items }) h.objs.size:=⟨_,Yp _ rfl,rfl⟩
section
variable (P:Program) (w:World)
def ObjOk (H:Hp)(h:Heap)(a:Addr):HO→Prop
 | .lst xs=>xs.length≤sizeLine∧∃ (its:List Value) (n:Nat),Vals xs its∧h.get? a=some { cls:=.type "list",data:=.seq its.toArray n }
 | .tup xs=>xs.length≤sizeLine∧∃ its:List Value,Vals xs its∧IsTup h a its.toArray∧NoD h a
 | .dK kvs=>kvs.length≤sizeLine∧(a == sysModules)=false∧∃ vs,KV kvs vs∧h.DictOf (aE P w) a vs
 | .dT kvs=>kvs.length≤sizeLine∧(a == sysModules)=false∧∃ xs:List (List Key×Addr×Value),
   Paired (fun (p:List Key×V) (q:List Key×Addr×Value)=>p.1=q.1∧H q.2.1=some (.tup (p.1.map kV))∧RelV p.2 q.2.2) kvs xs ∧
   ∃ o es ep,h.get? a=some o∧o.ExactDict∧o.data=.dict es ep∧es.toList=xs.map (entryOfKey (tupleKind (aE P w)))∧(xs.map (·.1)).Nodup
 | .set S n=>h.SetOf (intKind P w) a S n
 | .ins C dx fs=>H dx=some (.own a)∧fs.length≤1000∧dx≠a∧h.get? a=some (PySem.W.instObj C dx) ∧
   ∃ mA,h.Ns1 dx mA∧(∀ f,RelO (fs.lookup f) (mA f))∧PySem.Within mA (fs.map (·.1))
 | .own _=>∃ o,h.get? a=some o
 | .xd fs=>∃ mA,h.Ns1 a mA∧∀ f,RelO (fs.lookup f) (mA f)
 | .rng lo hi=>∃ t u v,h.get? a=some { cls:=.type "range",data:=.fields #[.int lo t,.int hi u,.int 1 v] }
 | .frz o u=>h.get? a=some o∧ObjOk H h a u
 | .tbl ps=>h.get? a=some { cls:=.none,data:=.fields ps }
 | .met f x=>h.get? a=some (PySem.W.methodObj (.ref f) (.ref x))
 | .ext φ=>φ h∧(∃ o,h.get? a=some o)∧∀ h1 h2:Heap,φ h1→(∀ o,h1.get? a=some o→h2.get? a=some o)→φ h2
def HOk (H:Hp)(h:Heap):Prop:=∀ a o,H a=some o→ObjOk P w H h a o
end
section
variable {P:Program} {w:World} {H H':Hp} {h h':Heap} {a:Addr} {o:HO}
theorem ObjOk.lt (x:ObjOk P w H h a o):a<h.objs.size:=by
 cases o with
 | lst xs=>obtain⟨_,_,_,_,e⟩:=x;exact Yn e
 | tup xs=>obtain⟨_,_,_,p,_⟩:=x;exact p.lt
 | dK kvs=>obtain⟨_,_,_,_,o,_,_,e,_⟩:=x;exact Yn e
 | dT kvs=>obtain⟨_,_,_,_,o,_,_,e,_⟩:=x;exact Yn e
 | set S n=>obtain⟨o,_,_,_,e,_⟩:=x;exact Yn e
 | ins C dx fs=>obtain⟨_,_,_,e,_⟩:=x;exact Yn e
 | own y=>obtain⟨_,e⟩:=x;exact Yn e
 | xd fs=>obtain⟨_,⟨_,_,_,e,_⟩,_⟩:=x;exact Yn e
 | rng lo hi=>obtain⟨_,_,_,e⟩:=x;exact Yn e
 | frz ob u=>obtain⟨e,_⟩:=x;exact Yn e
 | tbl ps=>exact Yn (show h.get? a=some _ from x)
 | met f y=>exact Yn (show h.get? a=some _ from x)
 | ext φ=>obtain⟨_,⟨_,e⟩,_⟩:=x;exact Yn e
theorem Paired.mapP {α β:Type}{F G:α→β→Prop}{l₁:List α}{l₂:List β}(h:Paired F l₁ l₂)(f:∀ a b,F a b→G a b):Paired G l₁ l₂:=by
 induction h with
 | nil=>exact .nil
 | cons r _ ih=>exact .cons (f _ _ r) ih
theorem ObjOk.stay (x:ObjOk P w H h a o)(k:∀ b u,(b=a∨H b=some (.own a))→h.get? b=some u→h'.get? b=some u)
  (ho:∀ b,H b=some (.own a)→H' b=some (.own a)) (ht:∀ b xs,H b=some (.tup xs)→H' b=some (.tup xs)):ObjOk P w H' h' a o:=by
 induction o with
 | lst xs=>obtain⟨z,its,n,r,e⟩:=x;exact⟨z,its,n,r,k _ _ (.inl rfl) e⟩
 | tup xs=>obtain⟨z,its,r,⟨ob,e,c⟩,ob2,e2,c2⟩:=x;exact⟨z,its,r,⟨ob,k _ _ (.inl rfl) e,c⟩,ob2,k _ _ (.inl rfl) e2,c2⟩
 | dK kvs=>obtain⟨z,y,vs,r,ob,es,ep,e,c⟩:=x;exact⟨z,y,vs,r,ob,es,ep,k _ _ (.inl rfl) e,c⟩
 | dT kvs=>
  obtain⟨z,y,xs,r,ob,es,ep,e,c⟩:=x
  exact⟨z,y,xs,Paired.mapP r fun p q z=>⟨z.1,ht _ _ z.2.1,z.2.2⟩,ob,es,ep,k _ _ (.inl rfl) e,c⟩
 | set S n=>obtain⟨ob,es,ep,t,e,c⟩:=x;exact⟨ob,es,ep,t,k _ _ (.inl rfl) e,c⟩
 | ins C dx fs=>
  obtain⟨d,z,ne,e,mA,⟨od,es,ep,e2,c⟩,r⟩:=x
  exact⟨ho _ d,z,ne,k _ _ (.inl rfl) e,mA,⟨od,es,ep,k _ _ (.inr d) e2,c⟩,r⟩
 | own y=>obtain⟨ob,e⟩:=x;exact⟨ob,k _ _ (.inl rfl) e⟩
 | xd fs=>obtain⟨mA,⟨od,es,ep,e,c⟩,r⟩:=x;exact⟨mA,⟨od,es,ep,k _ _ (.inl rfl) e,c⟩,r⟩
 | rng lo hi=>obtain⟨t,u,v,e⟩:=x;exact⟨t,u,v,k _ _ (.inl rfl) e⟩
 | frz ob u ih=>obtain⟨e,q⟩:=x;exact⟨k _ _ (.inl rfl) e,ih q⟩
 | tbl ps=>
  have e:h.get? a=some { cls:=.none,data:=.fields ps }:=x
  show h'.get? a=some { cls:=.none,data:=.fields ps }
  exact k a _ (.inl rfl) e
 | met f y=>
  have e:h.get? a=some (PySem.W.methodObj (.ref f) (.ref y)):=x
  show h'.get? a=some (PySem.W.methodObj (.ref f) (.ref y))
  exact k a _ (.inl rfl) e
 | ext φ=>obtain⟨p,⟨o,e⟩,st⟩:=x;exact⟨st _ _ p fun o q=>k _ _ (.inl rfl) q,⟨o,k _ _ (.inl rfl) e⟩,st⟩
theorem HOk.lt (x:HOk P w H h)(e:H a=some o):a<h.objs.size:=(x a o e).lt
theorem HOk.fresh (x:HOk P w H h)(e:h.objs.size≤a):H a=none:=by
 cases q:H a with
 | none=>rfl
 | some u=>exact absurd (YA (x.lt q) e) (Zl _)
theorem HOk.kept (x:HOk P w H h)(k:∀ b u,h.get? b=some u→h'.get? b=some u):HOk P w H h':=fun a o e=>
 (x a o e).stay (fun b u _ q=>k b u q) (fun _ q=>q) fun _ _ q=>q
theorem HOk.laid (x:HOk P w H h)(k:∀ b u,h.get? b=some u→h'.get? b=some u)(hp:h.objs.size≤a)(new:ObjOk P w (upd H a o) h' a o):HOk P w (upd H a o) h':=fun b u e=>by
 have hn:=x.fresh hp
 by_cases hb:b=a
 ·subst hb;rw[ak] at e;cases e;exact new
 ·rw[ag hb] at e
  exact (x b u e).stay (fun c v _ q=>k c v q) (fun c q=>by rw[ag (ax q hn)];exact q) fun c xs q=>by rw[ag (ax q hn)];exact q
end
def Rd (H:Hp)(a:Addr)(u:HO):Prop:=H a=some u∨∃ o,H a=some (.frz o u)
theorem Rd.ok {P:Program}{w:World}{H:Hp}{h:Heap}{a:Addr}{u:HO}(r:Rd H a u)(x:HOk P w H h):ObjOk P w H h a u:=by
 rcases r with r | ⟨o,r⟩
 ·exact x a u r
 ·obtain⟨_,q⟩:=x a _ r
  exact q
def Mut:Option HO→Prop
 | some (.lst _)=>True
 | some (.dK _)=>True
 | some (.dT _)=>True
 | some (.set _ _)=>True
 | some (.ins _ _ _)=>True
 | some (.ext _)=>True
 | _=>False
section
variable {P:Program} {w:World} {H:Hp} {h h':Heap} {x e:Addr} {o':HO}
theorem HOk.write (ok:HOk P w H h)(mu:Mut (H x))(he:e=x∨H e=some (.own x))(k:∀ b u,b≠e→h.get? b=some u→h'.get? b=some u)(heo:∃ u,h'.get? e=some u)
  (new:ObjOk P w (upd H x o') h' x o'):HOk P w (upd H x o') h':=fun b u q=>by
 have nown:∀ c y,H c=some (.own y)→c≠x:=fun c y r z=>by subst z;rw[r] at mu;exact mu
 have ntup:∀ c xs,H c=some (.tup xs)→c≠x:=fun c xs r z=>by subst z;rw[r] at mu;exact mu
 by_cases hb:b=x
 ·subst hb;rw[ak] at q;cases q;exact new
 ·rw[ag hb] at q
  by_cases hbe:b=e
  ·have q':H b=some (.own x):=by
    rcases he with z | z
    ·exact absurd (hbe.trans z) hb
    ·rw[hbe];exact z
   rw[q] at q';cases q'
   obtain⟨v,hv⟩:=heo
   exact⟨v,by rw[hbe];exact hv⟩
  ·refine (ok b u q).stay (fun c v hc r=>k c v ?_ r) (fun c r=>by rw[ag (nown c b r)];exact r) fun c xs r=>by rw[ag (ntup c xs r)];exact r
   rcases hc with rfl | hc
   ·exact hbe
   ·rintro rfl
    rcases he with z | z
    ·exact nown c b hc z
    ·rw[hc] at z;cases z;exact hb rfl
end
structure Un (fs ex:List Addr) (H H':Hp) (h h':Heap):Prop where
 keep:∀ b o,h.get? b=some o→H b=none→b∉fs→b∉ex→h'.get? b=some o
 slot:∀ b o,h.get? b=some o→H b=none→b∈fs→b∉ex→∃ sl,h'.get? b=some { o with slots:=sl }
 free:∀ b o,h.get? b=some o→H b=none→b∉ex→H' b=none
 there:∀ b o,h.get? b=some o→b∉ex→∃ o',h'.get? b=some o'
 tups:∀ b xs,H b=some (.tup xs)→H' b=some (.tup xs)
 frzs:∀ b o u,H b=some (.frz o u)→H' b=some (.frz o u)
 tbls:∀ b ps,H b=some (.tbl ps)→∃ more,H' b=some (.tbl (ps++more))
section
variable {fs fs' ex ex':List Addr} {H H1 H2:Hp} {h h1 h2 h':Heap} {a x e:Addr} {o:HO}
theorem Un.any (u:Un fs ex H H1 h h1){b:Addr}{ob:Obj}(q:h.get? b=some ob)(n:H b=none)(hx:b∉ex):∃ sl,h1.get? b=some { ob with slots:=sl }:=by
 by_cases hb:b∈fs
 ·exact u.slot b ob q n hb hx
 ·exact⟨ob.slots,u.keep b ob q n hb hx⟩
theorem Un.kept (k:∀ b u,h.get? b=some u→h'.get? b=some u):Un fs ex H H h h':=
 ⟨fun b ob q _ _ _=>k b ob q,fun b ob q _ _ _=>⟨ob.slots,k b ob q⟩,fun _ _ _ n _=>n,fun b ob q _=>⟨ob,k b ob q⟩,fun _ _ q=>q,fun _ _ _ q=>q,fun _ ps q=>⟨#[],by rw[q];simp⟩⟩
theorem Un.refl:Un fs ex H H h h:=Un.kept fun _ _ q=>q
theorem Un.laid (k:∀ b u,h.get? b=some u→h'.get? b=some u)(hp:h.objs.size≤a)(hn:H a=none):Un fs ex H (upd H a o) h h' where
 keep:=fun b u q _ _ _=>k b u q
 slot:=fun b u q _ _ _=>⟨u.slots,k b u q⟩
 free:=fun b u q n _=>by rw[ag (Yy (YA (Yn q) hp))];exact n
 there:=fun b u q _=>⟨u,k b u q⟩
 tups:=fun b xs q=>by rw[ag (ax q hn)];exact q
 frzs:=fun b u xs q=>by rw[ag (ax q hn)];exact q
 tbls:=fun b ps q=>⟨#[],by rw[ag (ax q hn),q];simp⟩
theorem Un.write (mu:Mut (H x))(he:e=x∨H e=some (.own x))(k:∀ b u,b≠e→h.get? b=some u→h'.get? b=some u)(heo:∃ u,h'.get? e=some u):Un fs ex H (upd H x o) h h':=by
 have hx:∀ b,H b=none→b≠x:=fun b n z=>by subst z;rw[n] at mu;exact mu
 have hb:∀ b,H b=none→b≠e:=fun b n z=>by
  subst z
  rcases he with r | r
  ·exact hx b n r
  ·rw[n] at r;cases r
 have hm:∀ b u,H b=some u→¬ Mut (some u)→b≠x:=fun b u q nm z=>by subst z;rw[q] at mu;exact nm mu
 refine⟨fun b u q n _ _=>k b u (hb b n) q,fun b u q n _ _=>⟨u.slots,k b u (hb b n) q⟩,fun b u q n _=>by rw[ag (hx b n)];exact n,fun b u q _=>?_,
  fun b xs q=>by rw[ag (hm b _ q fun z=>z)];exact q,fun b u xs q=>by rw[ag (hm b _ q fun z=>z)];exact q,fun b ps q=>⟨#[],by rw[ag (hm b _ q fun z=>z),q];simp⟩⟩
 by_cases hbe:b=e
 ·subst hbe;exact heo
 ·exact⟨u,k b u hbe q⟩
end
def trk (h:Heap)(H:Hp):List Addr:=(List.range h.objs.size).filter fun a=>(H a).isSome
def iz (h:Heap)(H:Hp):Heap:=PySem.W.hideAll h (trk h H)
theorem oQ (h:Heap)(H:Hp):(iz h H).objs.size=h.objs.size:=PySem.W.hideAll_size _ _
theorem ql {h:Heap}{H:Hp}{b:Addr}{o:Obj}(e:h.get? b=some o)(n:H b=none):(iz h H).get? b=some o:=
 PySem.W.hideAll_get _ e fun hm=>by
  have q:(H b).isSome=true:=(List.mem_filter.mp hm).2
  rw[n] at q;simp at q
theorem uq {h:Heap}{H:Hp}{b:Addr}{o:Obj}(e:(iz h H).get? b=some o):h.get? b=some o∧H b=none:=by
 have e':h.get? b=some o:=PySem.W.of_hideAll (trk h H) e
 refine⟨e',?_⟩
 cases q:H b with
 | none=>rfl
 | some x=>
  have hm:b∈trk h H:=List.mem_filter.mpr ⟨ZC.mpr (Yn e'),by simp[q]⟩
  have z:(iz h H).get? b=none:=PySem.W.hideAll_none (trk h H) hm
  rw[z] at e;cases e
def um (g h:Heap)(L:Addr):List (Addr×Obj):=(List.range h.objs.size).filterMap fun a=>if a=L∨(g.get? a).isSome=true then none else (h.get? a).map fun o=>(a,o)
def aN (g h:Heap)(L d:Addr):List (Addr×Obj):=(um g h L).filter fun p=>decide (p.1≠d)
structure Mod (K:PySem.W.Frag) (mg:Str→Option Value) (base:Heap):Prop where
 kin:K.In base
 glob:base.Ns mainGlobals mg
 blt:∃ mb,base.Ns builtinsNs mb∧∀ x:Str,x ≠ "__name__"→mb x=bootBuiltins x
 nolimit:base.NoLimit
structure Cx where
 prog:Program
 w:World
 K:PySem.W.Frag
 mg:Str→Option Value
 base:Heap
 A:Around
 N:List Str
 s₀:Shared
 H₀:Hp
 env:Env
 outer:List Env
 stack:List Env
 ex:List Addr
 fn:Str→Bool
 calm:Bool
 pn:List (Addr×Obj)
 xe:Value→Shared→Prop
def frs (l:List Env):List Addr:=l.filterMap (·.frame)
abbrev Cx.fs (X:Cx):List Addr:=frs X.outer
def Vis (sc:Scope)(x:Str):Prop:=sc.names.lookup x=some .local∨sc.names.lookup x=some .cell∨sc.names.lookup x=some .free
def Loc (sc:Scope)(x:Str):Prop:=sc.names.lookup x=some .local∨sc.names.lookup x=some .cell
def yR (env:Env)(h:Heap)(m:Ks)(x:Str)(u:Value):Prop:=
 (env.kindOf x=some .local∧m x=some u)∨((env.kindOf x=some .cell∨env.kindOf x=some .free)∧∃ c,env.cells.lookup x=some c∧h.IsCell c (some u))
structure Cx.Ok (X:Cx):Prop where
 mod:Mod X.K X.mg X.base
 kind:X.env.scope.kind=.function
 glob:X.env.globals=mainGlobals
 blt:X.env.builtins=builtinsNs
 above:X.s₀.heap.objs.size≤X.env.locals
 inj:∀ x y c,X.env.cells.lookup x=some c→X.env.cells.lookup y=some c→x=y
 has:∀ x,(X.env.kindOf x=some .cell∨X.env.kindOf x=some .free)→∃ c,X.env.cells.lookup x=some c
 cab:∀ x c,X.fn x=true→X.env.cells.lookup x=some c→X.s₀.heap.objs.size≤c
 hd:X.calm=true→X.A.handled=none
 frames:X.A.frames=some X.stack
 stk:X.stack=X.outer∨(X.stack=X.env::X.outer∧X.env.frame=some X.env.locals)
 exf:∀ b∈X.ex,b≠X.env.locals∧∀ x c,X.env.cells.lookup x=some c→c≠b
 bs:∀ b o,X.base.get? b=some o→X.s₀.heap.get? b=some o∧X.H₀ b=none
 bsz:X.base.objs.size≤X.s₀.heap.objs.size
 noex:∀ b o,X.base.get? b=some o→b∉X.ex
 exfs:∀ b∈X.ex,b∉X.fs
 funs:X.s₀.heap.FunFrames X.base X.outer
 frf:∀ b∈X.fs,X.H₀ b=none
structure Inv (X:Cx) (pz:List (Addr×Obj)) (σ:List (Option V)) (H:Hp) (s:Shared):Prop where
 ok:X.Ok
 os:s.os=X.s₀.os
 bare:AllBare s.gens
 base:Un X.fs X.ex X.H₀ H X.s₀.heap s.heap
 loc:∃ m,s.heap.Ns X.env.locals m∧∀ (i:Nat) (x:Str) (v:V),X.N[i]?=some x→σ[i]?=some (some v)→Vis X.env.scope x→∃ u,RelV v u∧yR X.env s.heap m x u
 cell:∀ x c,X.env.cells.lookup x=some c→∃ v,s.heap.IsCell c v
 free:H X.env.locals=none
 freeC:∀ x c,X.env.cells.lookup x=some c→H c=none
 pin:∀ p∈X.pn++pz,s.heap.get? p.1=some p.2∧H p.1=none∧p.1≠X.env.locals∧p.1∉X.fs∧∀ v,p.2.data≠.cell v
 hok:HOk X.prog X.w H s.heap
 len:σ.length=X.N.length
section
variable {X:Cx} {pz:Kp} {σ:List (Option V)} {H H':Hp} {s:Shared} {h':Heap}
theorem Cx.Ok.nofr (ok:X.Ok){b:Addr}{o:Obj}(e:X.base.get? b=some o):b∉X.fs:=fun hb=>by
 have:=(ok.funs.mem hb).1
 rw[e] at this;cases this
theorem Inv.bs (I:Inv X pz σ H s):∀ b o,X.base.get? b=some o→s.heap.get? b=some o∧H b=none:=fun b o e=>
 ⟨I.base.keep b o (I.ok.bs b o e).1 (I.ok.bs b o e).2 (I.ok.nofr e) (I.ok.noex b o e),I.base.free b o (I.ok.bs b o e).1 (I.ok.bs b o e).2 (I.ok.noex b o e)⟩
theorem Inv.bk (I:Inv X pz σ H s):∀ b o,X.base.get? b=some o→s.heap.get? b=some o:=fun b o e=>(I.bs b o e).1
theorem Inv.mod (I:Inv X pz σ H s):Mod X.K X.mg X.base:=I.ok.mod
theorem Inv.kIn (I:Inv X pz σ H s):X.K.In s.heap:=I.ok.mod.kin.keeps I.bk
theorem Inv.lt (I:Inv X pz σ H s):X.env.locals<s.heap.objs.size:=let ⟨_,hn,_⟩:=I.loc;hn.lt
theorem Inv.sz (I:Inv X pz σ H s):X.s₀.heap.objs.size≤s.heap.objs.size:=ZH I.ok.above (Xl I.lt)
theorem Inv.nofs (I:Inv X pz σ H s){a:Addr}(h:s.heap.objs.size≤a):a∉X.fs:=fun hb=>by
 obtain⟨_,o,ho,_⟩:=I.ok.funs.mem hb
 exact absurd (YA (Yn ho) (ZH I.sz h)) (Zl _)
theorem Inv.cne (I:Inv X pz σ H s):∀ x c,X.env.cells.lookup x=some c→c≠X.env.locals:=fun x c e z=>by
 obtain⟨v,o,ho,hd⟩:=I.cell x c e
 obtain⟨m,⟨o',es,ep,ho',hd',_⟩,_⟩:=I.loc
 rw[z,ho'] at ho;cases ho;rw[hd'] at hd;cases hd
theorem Inv.funs (I:Inv X pz σ H s):s.heap.FunFrames X.base X.outer:=by
 have all:∀ (l:List Env),(∀ b∈frs l,b∈X.fs)→X.s₀.heap.FunFrames X.base l→s.heap.FunFrames X.base l:=by
  intro l
  induction l with
  | nil=>intro _ _;trivial
  | cons env r ih=>
   intro hs hl
   obtain⟨hk,⟨L,o,hf,hn,ho,hd⟩,hr⟩:=hl
   have hL:L∈X.fs:=hs L (by unfold frs;rw[XR,hf];exact Yc)
   obtain⟨sl,e⟩:=I.base.slot L o ho (I.ok.frf L hL) hL fun z=>I.ok.exfs L z hL
   exact⟨hk,⟨L,_,hf,hn,e,hd⟩,ih (fun b hb=>hs b (by unfold frs;rw[XR,hf];exact Yb _ hb)) hr⟩
 exact all X.outer (fun _ hb=>hb) I.ok.funs
theorem Inv.stack (I:Inv X pz σ H s):s.heap.FunFrames X.base X.stack:=by
 rcases I.ok.stk with e | ⟨e,hf⟩
 ·rw[e];exact I.funs
 ·rw[e]
  obtain⟨m,hn,_⟩:=I.loc
  refine .cons (by rw[I.ok.kind];decide) hf hn ?_ I.funs
  exact Heap.get?_none_of_le (ZH I.ok.bsz I.ok.above)
theorem Inv.stkSub (I:Inv X pz σ H s):∀ b∈frs X.stack,b∈X.env.locals::X.fs:=fun b hb=>by
 rcases I.ok.stk with e | ⟨e,hf⟩
 ·rw[e] at hb;exact Yb _ hb
 ·rw[e] at hb
  unfold frs at hb
  rw[XR,hf] at hb
  exact hb
theorem Inv.stkFree (I:Inv X pz σ H s):∀ b∈frs X.stack,H b=none:=fun b hb=>by
 rcases YF.mp (I.stkSub b hb) with e | hb
 ·rw[e];exact I.free
 ·obtain⟨_,o,ho,_⟩:=I.ok.funs.mem hb
  exact I.base.free b o ho (I.ok.frf b hb) fun z=>I.ok.exfs b z hb
theorem Inv.step {g':Array GenState}{t':Nat}{d':Drawn}{ch:List Addr}(I:Inv X pz σ H s)
  (hch:∀ b∈ch,(b∈X.ex∨X.s₀.heap.objs.size≤b)∧b≠X.env.locals∧(∀ x c,X.env.cells.lookup x=some c→c≠b)∧∀ p∈X.pn++pz,p.1≠b)
  (keep:∀ b o,b≠X.env.locals→b∉X.fs→b∉ch→s.heap.get? b=some o→H b=none→h'.get? b=some o)
  (slot:∀ b o,b≠X.env.locals→b∈X.fs→b∉ch→s.heap.get? b=some o→H b=none→∃ sl,h'.get? b=some { o with slots:=sl }) (free:∀ b o,b∉ch→s.heap.get? b=some o→H b=none→H' b=none)
  (there:∀ b o,b∉ch→s.heap.get? b=some o→∃ o',h'.get? b=some o')
  (tups:∀ b xs,H b=some (.tup xs)→H' b=some (.tup xs)) (frzs:∀ b o u,H b=some (.frz o u)→H' b=some (.frz o u)) (tbls:∀ b ps,H b=some (.tbl ps)→∃ more,H' b=some (.tbl (ps++more)))
  (ns:∀ m,s.heap.Ns X.env.locals m→h'.Ns X.env.locals m) (hok:HOk X.prog X.w H' h') (hg:AllBare g') :
  Inv X pz σ H' { s with heap:=h',gens:=g',drawn:=d',toks:=t' }:=by
 have neL:∀ b o,X.s₀.heap.get? b=some o→b≠X.env.locals:=fun b o e=>Yy (YA (Yn e) I.ok.above)
 have neC:∀ b o,X.s₀.heap.get? b=some o→b∉X.ex→b∉ch:=fun b o e hx hb=>by
  rcases (hch b hb).1 with z | z
  ·exact hx z
  ·exact absurd (YA (Yn e) z) (Zl _)
 have cellK:∀ x c,X.env.cells.lookup x=some c→∀ v,s.heap.IsCell c v→h'.IsCell c v:=fun x c e v hh_=>by
  obtain⟨o,ho,hd⟩:=hh_
  have nch:c∉ch:=fun z=>(hch c z).2.2.1 x c e rfl
  by_cases hc:c∈X.fs
  ·obtain⟨sl,q⟩:=slot c o (I.cne x c e) hc nch ho (I.freeC x c e)
   exact⟨_,q,hd⟩
  ·exact⟨o,keep c o (I.cne x c e) hc nch ho (I.freeC x c e),hd⟩
 refine⟨I.ok,I.os,hg,⟨fun b o e n hb hx=>?_,fun b o e n hb hx=>?_,fun b o e n hx=>?_,fun b o e hx=>?_,fun b xs e=>tups b xs (I.base.tups b xs e),fun b o xs e=>frzs b o xs (I.base.frzs b o xs e),fun b ps e=>?_⟩,?_,fun x c e=>?_,?_,fun x c e=>?_,fun p hp=>?_,hok,I.len⟩
 ·exact keep b o (neL b o e) hb (neC b o e hx) (I.base.keep b o e n hb hx) (I.base.free b o e n hx)
 ·obtain⟨sl,e1⟩:=I.base.slot b o e n hb hx
  obtain⟨sl',e2⟩:=slot b _ (neL b o e) hb (neC b o e hx) e1 (I.base.free b o e n hx)
  exact⟨sl',e2⟩
 ·obtain⟨o',e1⟩:=I.base.there b o e hx
  exact free b o' (neC b o e hx) e1 (I.base.free b o e n hx)
 ·obtain⟨o',e1⟩:=I.base.there b o e hx
  exact there b o' (neC b o e hx) e1
 ·obtain⟨m1,e1⟩:=I.base.tbls b ps e
  obtain⟨m2,e2⟩:=tbls b _ e1
  exact⟨m1++m2,by rw[e2,Array.append_assoc]⟩
 ·obtain⟨m,hn,hl⟩:=I.loc
  refine⟨m,ns m hn,fun i x v e1 e2 e3=>?_⟩
  obtain⟨u,r,l⟩:=hl i x v e1 e2 e3
  refine⟨u,r,?_⟩
  rcases l with l | ⟨k,c,e,z⟩
  ·exact .inl l
  ·exact .inr ⟨k,c,e,cellK x c e _ z⟩
 ·obtain⟨v,z⟩:=I.cell x c e
  exact⟨v,cellK x c e v z⟩
 ·obtain⟨m,⟨o,_,_,ho,_⟩,_⟩:=I.loc
  exact free _ o (fun z=>(hch _ z).2.1 rfl) ho I.free
 ·obtain⟨v,o,ho,hd⟩:=I.cell x c e
  exact free c o (fun z=>(hch c z).2.2.1 x c e rfl) ho (I.freeC x c e)
 ·obtain⟨e,n,ne,nf,d⟩:=I.pin p hp
  have nch:p.1∉ch:=fun z=>(hch p.1 z).2.2.2 p hp rfl
  exact⟨keep p.1 p.2 ne nf nch e n,free p.1 p.2 nch e n,ne,nf,d⟩
theorem Inv.un {t':Nat}(I:Inv X pz σ H s)(u:Un X.fs [] H H' s.heap h')(hok:HOk X.prog X.w H' h'):Inv X pz σ H' { s with heap:=h',toks:=t' }:=by
 obtain⟨m,⟨o,es,ep,ho,r⟩,_⟩:=id I.loc
 obtain⟨sl,hL⟩:=u.any ho I.free (by simp)
 exact I.step (g':=s.gens) (d':=s.drawn) (ch:=[]) (fun _ z=>nomatch z) (fun b o _ hb _ e n=>u.keep b o e n hb (by simp)) (fun b o _ hb _ e n=>u.slot b o e n hb (by simp)) (fun b o _ e n=>u.free b o e n (by simp)) (fun b o _ e=>u.there b o e (by simp)) u.tups u.frzs u.tbls (fun m' hm=>by
  obtain⟨o',es',ep',ho',r'⟩:=hm
  rw[ho] at ho';cases ho'
  exact⟨_,es',ep',hL,r'⟩) hok I.bare
theorem Inv.call {g':Array GenState}{t':Nat}{d':Drawn}{ch:List Addr}(I:Inv X pz σ H s)(u:Un (frs X.stack) ch H H' s.heap h')(hok:HOk X.prog X.w H' h')(hg:AllBare g')
  (hch:∀ b∈ch,(b∈X.ex∨X.s₀.heap.objs.size≤b)∧b≠X.env.locals∧(∀ x c,X.env.cells.lookup x=some c→c≠b)∧∀ p∈X.pn++pz,p.1≠b) :
  Inv X pz σ H' { s with heap:=h',gens:=g',drawn:=d',toks:=t' }:=by
 obtain⟨m,⟨o,es,ep,ho,r⟩,_⟩:=id I.loc
 obtain⟨sl,hL⟩:=u.any ho I.free fun z=>(hch _ z).2.1 rfl
 exact I.step (ch:=ch) hch (fun b o hL hb hc e n=>u.keep b o e n (fun z=>(YF.mp (I.stkSub b z)).elim hL hb) hc) (fun b o _ _ hc e n=>u.any e n hc) (fun b o hc e n=>u.free b o e n hc) (fun b o hc e=>u.there b o e hc) u.tups u.frzs u.tbls (fun m' hm=>by
  obtain⟨o',es',ep',ho',r'⟩:=hm
  rw[ho] at ho';cases ho'
  exact⟨_,es',ep',hL,r'⟩) hok hg
theorem Inv.turned {t':Nat}{it:Addr}(I:Inv X pz σ H s)(k:∀ b o,b≠it→s.heap.get? b=some o→h'.get? b=some o)(hn:H it=none)(hL:it≠X.env.locals)
  (h1:it∈X.ex∨X.s₀.heap.objs.size≤it) (h2:∀ x c,X.env.cells.lookup x=some c→c≠it) (h3:∀ p∈X.pn++pz,p.1≠it):Inv X pz σ H { s with heap:=h',toks:=t' }:=by
 have nit:∀ b u,H b=some u→b≠it:=fun b u e z=>by rw[z,hn] at e;cases e
 refine I.step (g':=s.gens) (d':=s.drawn) (ch:=[it]) (fun b hb=>?_) (fun b o _ _ hc e _=>k b o (fun z=>hc (by simp[z])) e) (fun b o _ _ hc e _=>⟨o.slots,k b o (fun z=>hc (by simp[z])) e⟩) (fun _ _ _ _ n=>n)
  (fun b o hc e=>⟨o,k b o (fun z=>hc (by simp[z])) e⟩) (fun _ _ e=>e) (fun _ _ _ e=>e) (fun b ps e=>⟨#[],by rw[e];simp⟩) (fun m hm=>?_) (fun b u e=>?_) I.bare
 ·have e:b=it:=by simpa using hb
  subst e
  exact⟨h1,hL,h2,h3⟩
 ·obtain⟨o,es,ep,ho,r⟩:=hm
  exact⟨o,es,ep,k _ o (Xj hL) ho,r⟩
 ·refine (I.hok b u e).stay (fun c v hc q=>k c v ?_ q) (fun _ q=>q) fun _ _ q=>q
  rcases hc with z | z
  ·rw[z];exact nit b u e
  ·exact nit c _ z
theorem Inv.tok (I:Inv X pz σ H s)(t:Nat):Inv X pz σ H { s with toks:=t }:=I.un (h':=s.heap) (t':=t) Un.refl I.hok
theorem Inv.kept {t':Nat}(I:Inv X pz σ H s)(k:∀ b u,s.heap.get? b=some u→h'.get? b=some u):Inv X pz σ H { s with heap:=h',toks:=t' }:=I.un (Un.kept k) (I.hok.kept k)
theorem Inv.laid {a:Addr}{o:HO}{t':Nat}(I:Inv X pz σ H s)(k:∀ b u,s.heap.get? b=some u→h'.get? b=some u)(hp:s.heap.objs.size≤a)(new:ObjOk X.prog X.w (upd H a o) h' a o) :
  Inv X pz σ (upd H a o) { s with heap:=h',toks:=t' }:=I.un (Un.laid k hp (I.hok.fresh hp)) (I.hok.laid k hp new)
theorem Inv.write {x e:Addr}{o:HO}{t':Nat}(I:Inv X pz σ H s)(mu:Mut (H x))(he:e=x∨H e=some (.own x))(k:∀ b u,b≠e→s.heap.get? b=some u→h'.get? b=some u)(heo:∃ u,h'.get? e=some u)
  (new:ObjOk X.prog X.w (upd H x o) h' x o):Inv X pz σ (upd H x o) { s with heap:=h',toks:=t' }:=I.un (Un.write mu he k heo) (I.hok.write mu he k heo new)
theorem Inv.weak {σ':List (Option V)}(I:Inv X pz σ H s)(hl:σ'.length=σ.length)(w:∀ (i:Nat) v,σ'[i]?=some (some v)→σ[i]?=some (some v)):Inv X pz σ' H s:=
 ⟨I.ok,I.os,I.bare,I.base,let ⟨m,hn,hl'⟩:=I.loc;⟨m,hn,fun i x v e1 e2 e3=>hl' i x v e1 (w i v e2) e3⟩,I.cell,I.free,I.freeC,I.pin,I.hok,hl.trans I.len⟩
theorem Inv.pins_of {pz':Kp}(I:Inv X pz σ H s)(h:∀ p∈pz',s.heap.get? p.1=some p.2∧H p.1=none∧p.1≠X.env.locals∧p.1∉X.fs∧∀ v,p.2.data≠.cell v):Inv X pz' σ H s:=
 ⟨I.ok,I.os,I.bare,I.base,I.loc,I.cell,I.free,I.freeC,fun p hp=>(Yt.mp hp).elim (fun z=>I.pin p (YL _ z)) (h p),I.hok,I.len⟩
theorem gA {N:List Str}(hN:N.Nodup){i j:Nat}{x:Str}(a:N[i]?=some x)(b:N[j]?=some x):i=j:=by
 obtain⟨h1,e1⟩:=Yi.mp a
 obtain⟨h2,e2⟩:=Yi.mp b
 exact (List.getElem_inj hN).mp (e1.trans e2.symm)
theorem i6 {M:Model}{A:Around}{E:Kv}{i:Nat}{x:Str}{v:V}{u:Value}{Q:Unit→Shared→Prop}(I:Inv X pz σ H s)(hN:X.N.Nodup)(hi:X.N[i]?=some x)(hx:Loc X.env.scope x)(r:RelV v u)
  (h:∀ s',Inv X pz (σ.set i (some v)) H s'→(∃ a,Heap.SameBut a s.heap s'.heap∧(a=X.env.locals∨X.env.cells.lookup x=some a))→Q () s') (hf:X.fn x=true∨X.env.scope.names.lookup x=some .local:=by first | exact .inl rfl | exact .inr rfl | assumption):wpAny M A (storeName X.env x u) Q E s:=by
 obtain⟨m,hn,hl⟩:=id I.loc
 have hcls:(X.env.scope.kind == .class||(X.env.scope.kind == .module&&X.env.locals != X.env.globals))=false:=by rw[I.ok.kind];rfl
 have hiσ:i<σ.length:=by rw[I.len];exact (Yi.mp hi).1
 have cne:=I.cne
 have tracked:∀ {a:Addr} {h':Heap},(∃ o,s.heap.get? a=some o∧H a=none)→Heap.SameBut a s.heap h'→HOk X.prog X.w H h':=fun {a h'} ha hs b ob e=>by
  obtain⟨_,_,hfree⟩:=ha
  refine (I.hok b ob e).stay (fun c w' hc q=>(hs.2 c ?_).trans q) (fun _ q=>q) fun _ _ q=>q
  rintro rfl
  rcases hc with rfl | hc
  ·rw[hfree] at e;cases e
  ·rw[hfree] at hc;cases hc
 rcases hx with hk | hk
 ·refine wpAny_storeName_local hk hn (fun h' hn' hs=>?_) hcls
  obtain⟨oL,_,_,hoL,_⟩:=id hn
  refine h _ ⟨I.ok,I.os,I.bare,⟨fun b o e n hb hx=>?_,fun b o e n hb hx=>?_,I.base.free,fun b o e hx=>?_,I.base.tups,I.base.frzs,I.base.tbls⟩,⟨_,hn',fun j y v' e1 e2 e3=>?_⟩,fun y c e=>?_,I.free,I.freeC,fun p hp=>?_,tracked ⟨oL,hoL,I.free⟩ hs,by simpa using I.len⟩ ⟨_,hs,.inl rfl⟩
  ·exact (hs.2 b (Yy (YA (Yn e) I.ok.above))).trans (I.base.keep b o e n hb hx)
  ·obtain⟨sl,e1⟩:=I.base.slot b o e n hb hx
   exact⟨sl,(hs.2 b (Yy (YA (Yn e) I.ok.above))).trans e1⟩
  ·obtain⟨o',e1⟩:=I.base.there b o e hx
   exact⟨o',(hs.2 b (Yy (YA (Yn e) I.ok.above))).trans e1⟩
  ·by_cases hj:j=i
   ·subst hj
    rw[hi] at e1;cases e1
    rw[YO hiσ] at e2
    cases e2
    exact⟨u,r,.inl ⟨hk,by simp⟩⟩
   ·rw[YG (Xj hj)] at e2
    obtain⟨u',r',q⟩:=hl j y v' e1 e2 e3
    refine⟨u',r',?_⟩
    rcases q with⟨k,e⟩ | ⟨k,c,e,z⟩
    ·refine .inl ⟨k,?_⟩
     have:y≠x:=fun e=>hj (gA hN e1 (e ▸ hi))
     simp[this,e]
    ·exact .inr ⟨k,c,e,z.sameBut hs (cne y c e)⟩
  ·obtain⟨w',z⟩:=I.cell y c e
   exact⟨w',z.sameBut hs (cne y c e)⟩
  ·obtain⟨e,n,ne,nf,d⟩:=I.pin p hp
   exact⟨(hs.2 p.1 ne).trans e,n,ne,nf,d⟩
 ·have hfn:X.fn x=true:=by
   rcases hf with z | z
   ·exact z
   ·rw[z] at hk;cases hk
  obtain⟨c,hc⟩:=I.ok.has x (.inl hk)
  obtain⟨w',z⟩:=I.cell x c hc
  refine wpAny_storeName_cell I.ok.kind hk hc z (fun h' hc' hs=>?_)
  obtain⟨oc,hoc,hocd⟩:=id z
  refine h { s with heap:=h' } ⟨I.ok,I.os,I.bare,⟨fun b o e n hb hx=>?_,fun b o e n hb hx=>?_,I.base.free,fun b o e hx=>?_,I.base.tups,I.base.frzs,I.base.tbls⟩,⟨m,hn.sameBut hs (Xj (cne x c hc)),fun j y v' e1 e2 e3=>?_⟩,fun y c' e=>?_,I.free,I.freeC,fun p hp=>?_,tracked ⟨oc,hoc,I.freeC x c hc⟩ hs,by simpa using I.len⟩ ⟨c,hs,.inr hc⟩
  ·exact (hs.2 b (Yy (YA (Yn e) (I.ok.cab x c hfn hc)))).trans (I.base.keep b o e n hb hx)
  ·obtain⟨sl,e1⟩:=I.base.slot b o e n hb hx
   exact⟨sl,(hs.2 b (Yy (YA (Yn e) (I.ok.cab x c hfn hc)))).trans e1⟩
  ·obtain⟨o',e1⟩:=I.base.there b o e hx
   exact⟨o',(hs.2 b (Yy (YA (Yn e) (I.ok.cab x c hfn hc)))).trans e1⟩
  ·by_cases hj:j=i
   ·subst hj
    rw[hi] at e1;cases e1
    rw[YO hiσ] at e2
    cases e2
    exact⟨u,r,.inr ⟨.inl hk,c,hc,hc'⟩⟩
   ·rw[YG (Xj hj)] at e2
    obtain⟨u',r',q⟩:=hl j y v' e1 e2 e3
    refine⟨u',r',?_⟩
    rcases q with q | ⟨k,c',e,z'⟩
    ·exact .inl q
    ·refine .inr ⟨k,c',e,z'.sameBut hs ?_⟩
     rintro rfl
     exact hj (gA hN e1 (I.ok.inj _ _ _ e hc ▸ hi))
  ·by_cases hcc:c'=c
   ·subst hcc;exact⟨_,hc'⟩
   ·obtain⟨w2,z2⟩:=I.cell y c' e
    exact⟨w2,z2.sameBut hs hcc⟩
  ·obtain⟨e,n,ne,nf,d⟩:=I.pin p hp
   refine⟨(hs.2 p.1 ?_).trans e,n,ne,nf,d⟩
   intro q
   rw[q,hoc] at e
   have q':oc=p.2:=YH e
   exact d w' (by rw[← q'];exact hocd)
theorem eQ {M:Model}{A:Around}{E:Kv}{i:Nat}{x:Str}{v:V}{u:Value}{Q:Unit→Shared→Prop}(I:Inv X pz σ H s)(hN:X.N.Nodup)(hi:X.N[i]?=some x)(hx:Loc X.env.scope x)(r:RelV v u)
  (h:∀ s',Inv X pz (σ.set i (some v)) H s'→Q () s') (hf:X.fn x=true∨X.env.scope.names.lookup x=some .local:=by first | exact .inl rfl | exact .inr rfl | assumption):wpAny M A (storeName X.env x u) Q E s:=
 i6 I hN hi hx r (fun s' I' _=>h s' I') hf
theorem Inv.call' {s':Shared}{ch:List Addr}(I:Inv X pz σ H s)(ho:s'.os=s.os)(u:Un (frs X.stack) ch H H' s.heap s'.heap)(hok:HOk X.prog X.w H' s'.heap)(hg:AllBare s'.gens)
  (hch:∀ b∈ch,(b∈X.ex∨X.s₀.heap.objs.size≤b)∧b≠X.env.locals∧(∀ x c,X.env.cells.lookup x=some c→c≠b)∧∀ p∈X.pn++pz,p.1≠b):Inv X pz σ H' s':=by
 obtain⟨h',g',d',t',o'⟩:=s'
 have e:o'=s.os:=ho
 subst e
 exact I.call (g':=g') (t':=t') (d':=d') u hok hg hch
end
abbrev XK:=Value→Option Addr→Hp→Prop
abbrev St:=List (Option V)
abbrev VK:=V→Hp→Prop
abbrev TE:=St→Hp→VK→Prop
abbrev TT:=St→Hp→(Bool→Hp→Prop)→Prop
abbrev TA:=St→Hp→(List V→Hp→Prop)→Prop
structure Ends where
 nx:St→Hp→Prop
 rt:VK
 bk:St→Hp→Prop:=fun _ _=>False
 ct:St→Hp→Prop:=fun _ _=>False
abbrev TS:=Ends→St→Hp→Prop
def EP (X:Cx)(pz:Kp)(σ:St)(Q:VK)(u:Value)(s':Shared):Prop:=∃ v H',Inv X pz σ H' s'∧RelV v u∧Q v H'
def TP (X:Cx)(pz:Kp)(σ:St)(Q:Bool→Hp→Prop)(b:Bool)(s':Shared):Prop:=∃ H',Inv X pz σ H' s'∧Q b H'
def AP (X:Cx)(pz:Kp)(σ:St)(Q:List V→Hp→Prop)(us:List Value)(s':Shared):Prop:=∃ vs H',Inv X pz σ H' s'∧Vals vs us∧Q vs H'
def SP (X:Cx)(pz:Kp)(D:Ends)(f:Flow)(s':Shared):Prop:=
 match f with
 | .next=>∃ σ' H',Inv X pz σ' H' s'∧D.nx σ' H'
 | .brk=>∃ σ' H',Inv X pz σ' H' s'∧D.bk σ' H'
 | .cont=>∃ σ' H',Inv X pz σ' H' s'∧D.ct σ' H'
 | .ret u=>∃ v σ' H',Inv X pz σ' H' s'∧RelV v u∧D.rt v H'
def PE (X:Cx)(e:Expr)(t:TE):Prop:=
 ∀ (pz:Kp) (s:Shared) (σ:St) (H:Hp) (Q:VK),Inv X pz σ H s→t σ H Q→wpAny (model X.prog X.w) X.A (eval e X.env) (EP X pz σ Q) X.xe s
def PT (X:Cx)(e:Expr)(t:TT):Prop:=
 ∀ (pz:Kp) (s:Shared) (σ:St) (H:Hp) (Q:Bool→Hp→Prop),Inv X pz σ H s→t σ H Q→wpAny (model X.prog X.w) X.A (isTrue e X.env (eval e X.env)) (TP X pz σ Q) X.xe s
def PW (X:Cx)(e:Expr)(t:TT):Prop:=
 ∀ (whole:Sem Value) (pz:Kp) (s:Shared) (σ:St) (H:Hp) (Q:Bool→Hp→Prop),Inv X pz σ H s→t σ H Q→wpAny (model X.prog X.w) X.A (isTrue e X.env whole) (TP X pz σ Q) X.xe s
theorem PW.pt {X:Cx}{e:Expr}{t:TT}(h:PW X e t):PT X e t:=h _
def PA (X:Cx)(es:List Expr)(t:TA):Prop:=
 ∀ (pos:Pos) (pz:Kp) (s:Shared) (σ:St) (H:Hp) (Q:List V→Hp→Prop),Inv X pz σ H s→t σ H Q→wpAny (model X.prog X.w) X.A (spliced (backTo pos (starEach es X.env))) (AP X pz σ Q) X.xe s
def PS (X:Cx)(st:Stmt)(t:TS):Prop:=
 ∀ (pz:Kp) (s:Shared) (σ:St) (H:Hp) (D:Ends),Inv X pz σ H s→t D σ H→wpAny (model X.prog X.w) X.A (exec st X.env) (SP X pz D) X.xe s
def PSs (X:Cx)(st:List Stmt)(t:TS):Prop:=
 ∀ (pz:Kp) (s:Shared) (σ:St) (H:Hp) (D:Ends),Inv X pz σ H s→t D σ H→wpAny (model X.prog X.w) X.A (execs st X.env) (SP X pz D) X.xe s
theorem thn {α:Type}{t:Sem α}{Q Q':α→Shared→Prop}{M:Model}{A:Around}{E:Kv}{s:Shared}(h:wpAny M A t Q E s)(hQ:∀ a s,Q a s→Q' a s):wpAny M A t Q' E s:=Zn h hQ fun _ _ x=>x
theorem aR {α β:Type}{X:Cx}{pz:Kp}{σ:St}{t:Sem β}{R:α→β→Prop}{Q:α→Hp→Prop}{T:β→Shared→Prop}{M:Model}{A:Around}{E:Kv}{s:Shared}
  (h:wpAny M A t (fun u s1=>∃ x H1,Inv X pz σ H1 s1∧R x u∧Q x H1) E s) (k:∀ u s1 x H1,Inv X pz σ H1 s1→R x u→Q x H1→T u s1):wpAny M A t T E s:=
 thn h fun u s1 z=>by obtain⟨x,H1,a,b,c⟩:=z;exact k u s1 x H1 a b c
theorem un7 {β γ δ α:Type}{B A Z:β→γ→δ→α→Prop}{C:Prop}(k:∀ P F ρ d,B P F ρ d→A P F ρ d→Z P F ρ d→C)(h:∃ P F ρ d,B P F ρ d∧A P F ρ d∧Z P F ρ d):C:=by
 obtain⟨P,F,ρ,d,a,b,c⟩:=h;exact k P F ρ d a b c
section
variable {X:Cx}
def cL (i:Nat):TE:=fun σ H Q=>∃ v,σ[i]?=some (some v)∧Q v H
def tC (v:V):TE:=fun _ H Q=>Q v H
theorem kw {i:Nat}{x:Str}{pos:Pos}(hN:X.N[i]?=some x)(hv:Vis X.env.scope x)(hd:(x == ("__debug__":Str))=false:=by decide)(hcd:(x == ("__classdict__":Str))=false:=by decide):PE X (.Name x pos) (cL i):=by
 intro pz s σ H Q I h
 obtain⟨v,e,h⟩:=h
 obtain⟨m,hn,hl⟩:=I.loc
 obtain⟨u,r,l⟩:=hl i x v hN e hv
 have fin:EP X pz σ Q u s:=⟨v,H,I,r,h⟩
 rcases l with⟨hk,hm⟩ | ⟨hk,c,hc,hcell⟩
 ·exact Vb (XJ I.ok.kind hk hn hm fin) hd
 ·rcases hk with hk | hk
  ·exact Vb (wpAny_loadName_cell I.ok.kind hk hc hcell fin) hd
  ·exact Vb (wpAny_loadName_free I.ok.kind hk hc hcell fin hcd) hd
theorem q_ {i j pos}:PE X (.Constant (.int i) j pos) (tC (.int i)):=fun _ _ _ H _ I h=>wpAny_Constant_int ⟨.int i,H,I.tok _,⟨_,rfl⟩,h⟩
theorem qH {b j pos}:PE X (.Constant (.bool b) j pos) (tC (.bl b)):=fun _ _ _ H _ I h=>Constant_bool ⟨.bl b,H,I,rfl,h⟩
theorem vn {j pos}:PE X (.Constant .none j pos) (tC .non):=fun _ _ _ H _ I h=>Constant_none ⟨.non,H,I,rfl,h⟩
theorem vV {x j pos}:PE X (.Constant (.str x) j pos) (tC (.str x)):=fun _ _ _ H _ I h=>Calls.Constant_str ⟨.str x,H,I.tok _,⟨_,rfl⟩,h⟩
def Gl (X:Cx)(x:Str):Prop:=X.env.kindOf x=some .globalImplicit
theorem dP {E:Kv}{pz:Kp}{s:Shared}{σ:St}{H:Hp}{x:Str}{u:Value}{pos:Pos}{Q:Kv}(I:Inv X pz σ H s)(hg:Gl X x)(hm:X.mg x=some u)(h:Q u s)
  (hd:(x == ("__debug__":Str))=false:=by decide):wpAny (model X.prog X.w) X.A (eval (.Name x pos) X.env) Q E s:=
 Calls.Name_function_global I.ok.kind hg (Calls.loadGlobal_global (by rw[I.ok.glob];exact I.mod.glob.keeps I.bk) hm h) hd
theorem gZ {E:Kv}{pz:Kp}{s:Shared}{σ:St}{H:Hp}{x:Str}{u:Value}{pos:Pos}{Q:Kv}(I:Inv X pz σ H s)(hg:Gl X x)(hm:X.mg x=none)(hv:bootBuiltins x=some u)(h:Q u s)
  (hn:x ≠ "__name__":=by decide) (hd:(x == ("__debug__":Str))=false:=by decide):wpAny (model X.prog X.w) X.A (eval (.Name x pos) X.env) Q E s:=by
 obtain⟨mb,h1,h2⟩:=I.mod.blt
 exact Calls.Name_function_global I.ok.kind hg (Calls.loadGlobal_builtin (by rw[I.ok.glob];exact I.mod.glob.keeps I.bk) hm (by rw[I.ok.blt];exact h1.keeps I.bk) ((h2 x hn).trans hv) h) hd
theorem kd {x:Str}{v:V}{u:Value}{pos:Pos}(hg:Gl X x)(hm:X.mg x=some u)(r:RelV v u)(hd:(x == ("__debug__":Str))=false:=by decide):PE X (.Name x pos) (tC v):=
 fun _ _ _ H _ I h=>dP I hg hm ⟨v,H,I,r,h⟩ hd
theorem nQ {x:Str}{v:V}{u:Value}{pos:Pos}(hg:Gl X x)(hm:X.mg x=none)(hv:bootBuiltins x=some u)(r:RelV v u)(hn:x ≠ "__name__":=by decide)(hd:(x == ("__debug__":Str))=false:=by decide):PE X (.Name x pos) (tC v):=
 fun _ _ _ H _ I h=>gZ I hg hm hv ⟨v,H,I,r,h⟩ hn hd
variable {a b:Expr} {ta tb:TE} {pos:Pos}
def PC (X:Cx)(op:CmpOp)(a b:Expr)(t:TE):Prop:=
 ∀ (pz:Kp) (s:Shared) (σ:St) (H:Hp) (Q:VK),Inv X pz σ H s→t σ H Q→
  wpAny (model X.prog X.w) X.A (eval a X.env) (fun v s₁=>wpAny (model X.prog X.w) X.A (eval b X.env) (fun u s₂=>wpAny (model X.prog X.w) X.A (compareOp op v u) (EP X pz σ Q) X.xe s₂) X.xe s₁) X.xe s
theorem kF (b:Expr){op:CmpOp}(h:op≠.In)(h2:op≠.NotIn):behindInMarks op b=false:=by
 have e1:(op == CmpOp.In)=false:=by cases op <;> first | rfl | exact absurd rfl h
 have e2:(op == CmpOp.NotIn)=false:=by cases op <;> first | rfl | exact absurd rfl h2
 cases b <;> simp[behindInMarks,e1,e2]
instance (x:V):Decidable (x=.non):=by cases x <;> first | exact .isTrue rfl | exact .isFalse nofun
def yU (ta:TE):TE:=fun σ H Q=>ta σ H fun x H1=>Q (.bl (decide (x=.non))) H1
theorem RelV.none_iff {x:V}{v:Value}(r:RelV x v):(v == Value.none)=decide (x=.non):=by
 cases x with
 | non=>cases r;rfl
 | bl _=>cases r;rfl
 | int _=>obtain⟨t,rfl⟩:=r;rfl
 | str _=>obtain⟨t,rfl⟩:=r;rfl
 | byt _=>obtain⟨t,rfl⟩:=r;rfl
 | flt _=>obtain⟨t,rfl⟩:=r;rfl
 | ref _=>cases r;rfl
 | ty _=>cases r;rfl
theorem vq {j pos'}(ha:PE X a ta):PC X .Is a (.Constant .none j pos') (yU ta):=by
 intro pz s σ H Q I h
 refine aR (ha pz s σ H _ I h) fun v s1 x H1 I1 r1 q1=>?_
 exact Constant_none (is_none_gen ⟨.bl _,H1,I1,by rw[r1.none_iff];rfl,q1⟩)
def tB (t:TE):TT:=fun σ H Q=>t σ H fun x H1=>∃ c,x=.bl c∧Q c H1
theorem pO {op:CmpOp}{t:TE}(h:PC X op a b t)(h1:behindInMarks op b=false:=by first | exact kF _ (by decide) (by decide) | rfl):PT X (.Compare a [op] [b] pos) (tB t):=by
 intro pz s σ H Q I hw
 refine wpAny_isTrue_Compare1 (thn (h pz s σ H _ I hw) fun v s1 h1=>thn h1 fun u s2 h2=>thn h2 fun c s3 hh_=>?_) h1
 obtain⟨x,H1,I1,r1,q1⟩:=hh_
 obtain⟨d,rfl,q⟩:=q1
 cases r1
 exact ZP ⟨H1,I1,q⟩
theorem mJ {e:Expr}{t:TE}(h:PE X e t)(he:∀ whole,isTrue e X.env whole=(do let v ← whole;standAt e.pos;holding [v] (truthy v)):=by intro _;rfl):PT X e (tB t):=by
 intro pz s σ H Q I hw
 refine isTrue_plain (aR (h pz s σ H _ I hw) fun v s1 x H1 I1 r1 q1=>?_) (he _)
 obtain⟨d,rfl,q⟩:=q1
 cases r1
 exact ZP ⟨H1,I1,q⟩
variable {tA tB':TT} {aN:List Expr}
def yY (t u:TT):TT:=fun σ H Q=>t σ H fun c H1=>if c=true then u σ H1 Q else Q false H1
def tOr (t u:TT):TT:=fun σ H Q=>t σ H fun c H1=>if c=true then Q true H1 else u σ H1 Q
def zk (t:TT):TT:=fun σ H Q=>t σ H fun c H1=>Q (!c) H1
theorem t0 (ha:PT X a tA):PW X (.BoolOp .And [a] pos) tA:=by
 intro wh pz s σ H Q I h
 refine isTrue_and (thn (ha pz s σ H Q I h) fun c s1 e=>?_)
 cases c with
 | true=>exact isTrue_and_nil e
 | false=>exact e
theorem rB (ha:PT X a tA):PW X (.BoolOp .Or [a] pos) tA:=by
 intro wh pz s σ H Q I h
 refine isTrue_or (thn (ha pz s σ H Q I h) fun c s1 e=>?_)
 cases c with
 | false=>exact isTrue_or_nil e
 | true=>exact e
theorem u5 (ha:PT X a tA)(hb:PW X (.BoolOp .And (b::aN) pos) tB'):PW X (.BoolOp .And (a::b::aN) pos) (yY tA tB'):=by
 intro wh pz s σ H Q I h
 refine isTrue_and (thn (ha pz s σ H _ I h) fun c s1 hh_=>?_)
 obtain⟨H1,I1,q1⟩:=hh_
 cases c with
 | true=>exact hb wh pz s1 σ H1 Q I1 q1
 | false=>exact⟨H1,I1,q1⟩
theorem uU (ha:PT X a tA)(hb:PW X (.BoolOp .Or (b::aN) pos) tB'):PW X (.BoolOp .Or (a::b::aN) pos) (tOr tA tB'):=by
 intro wh pz s σ H Q I h
 refine isTrue_or (thn (ha pz s σ H _ I h) fun c s1 hh_=>?_)
 obtain⟨H1,I1,q1⟩:=hh_
 cases c with
 | true=>exact⟨H1,I1,q1⟩
 | false=>exact hb wh pz s1 σ H1 Q I1 q1
theorem mq (ha:PT X a tA):PT X (.UnaryOp .Not a pos) (zk tA):=by
 intro pz s σ H Q I h
 exact isTrue_not (ha pz s σ H (fun c H1=>Q (!c) H1) I h)
def xc (ta tb:TE):TE:=fun σ H Q=>ta σ H fun x H1=>∃ c,x=.bl c∧if c=true then tb σ H1 Q else Q (.bl false) H1
def yk (ta:TE):TE:=fun σ H Q=>ta σ H fun x H1=>∃ c,x=.bl c∧Q (.bl (!c)) H1
theorem vP {op}{t:TE}(h:PE X a t):PE X (.BoolOp op [a] pos) t:=fun pz s σ H Q I hw=>BoolOp_one (h pz s σ H Q I hw)
theorem pV (ha:PE X a ta)(hb:PE X (.BoolOp .And (b::aN) pos) tb):PE X (.BoolOp .And (a::b::aN) pos) (xc ta tb):=by
 intro pz s σ H Q I h
 refine BoolOp_and (aR (ha pz s σ H _ I h) fun v s1 x H1 I1 r1 q1=>?_)
 obtain⟨c,rfl,q1⟩:=q1
 cases r1
 refine ZP ?_
 cases c with
 | true=>exact hb pz s1 σ H1 Q I1 q1
 | false=>exact⟨.bl false,H1,I1,rfl,q1⟩
theorem rV (ha:PE X a ta):PE X (.UnaryOp .Not a pos) (yk ta):=by
 intro pz s σ H Q I h
 refine UnaryOp_ (aR (ha pz s σ H _ I h) fun v s1 x H1 I1 r1 q1=>?_)
 obtain⟨c,rfl,q1⟩:=q1
 cases r1
 exact not_of (ZP ⟨.bl (!c),H1,I1,rfl,q1⟩)
end
def SqL (K:Kq)(H:Hp)(a:Addr)(xs:List V):Prop:=
 Rd H a (.lst xs) ∨
  ∃ (o:Obj) (its:Array Value) (n:Nat),K.lookup a=some o∧o.cls=.type "list"∧o.dict=none∧o.data=.seq its n∧its.size≤sizeLine∧Vals xs its.toList
def SqT (K:Kq)(H:Hp)(a:Addr)(xs:List V):Prop:=
 Rd H a (.tup xs) ∨
  ∃ (o:Obj) (its:Array Value) (n:Nat),K.lookup a=some o∧o.cls=.type "tuple"∧o.data=.seq its n∧its.size≤sizeLine∧Vals xs its.toList
def zj:Value→Option V
 | .none=>some .non
 | .bool b=>some (.bl b)
 | .int i _=>some (.int i)
 | .str x _=>some (.str x)
 | .bytes b _=>some (.byt b)
 | .float b _=>some (.flt b)
 | .ref a=>some (.ref a)
 | .type n=>some (.ty n)
 | _=>none
theorem RelV.abs {x:V}{u:Value}(r:RelV x u):zj u=some x:=by
 cases x with
 | non=>cases r;rfl
 | bl _=>cases r;rfl
 | int _=>obtain⟨t,rfl⟩:=r;rfl
 | str _=>obtain⟨t,rfl⟩:=r;rfl
 | byt _=>obtain⟨t,rfl⟩:=r;rfl
 | flt _=>obtain⟨t,rfl⟩:=r;rfl
 | ref _=>cases r;rfl
 | ty _=>cases r;rfl
theorem RelV.inj {x y:V}{u:Value}(r:RelV x u)(q:RelV y u):x=y:=YH (r.abs.symm.trans q.abs)
theorem Vals.inj {xs ys:List V}{us:List Value}(h:Vals xs us):Vals ys us→xs=ys:=by
 induction h generalizing ys with
 | nil=>intro q;cases q;rfl
 | cons r _ ih=>
  intro q
  cases q with
  | cons r' t'=>rw[r.inj r',ih t']
section
variable {X:Cx} {pz:Kp} {σ:St} {H:Hp} {s:Shared} {a:Addr} {xs ys:List V}
theorem SqL.of {K:Kq}(h:H a=some (.lst xs)):SqL K H a xs:=.inl (.inl h)
theorem SqT.of {K:Kq}(h:H a=some (.tup xs)):SqT K H a xs:=.inl (.inl h)
theorem Inv.list (I:Inv X pz σ H s)(h:SqL X.K H a xs):∃ its:List Value,Vals xs its∧PlainL s.heap a its.toArray∧xs.length≤sizeLine:=by
 rcases h with h | ⟨o,its,n,hk,hc,hd,hs,hz,r⟩
 ·obtain⟨z,its,n,r,e⟩:=h.ok I.hok
  exact⟨its,r,⟨_,n,e,rfl,rfl,rfl⟩,z⟩
 ·refine⟨its.toList,r,⟨o,n,I.kIn a o hk,hc,hd,by simpa using hs⟩,?_⟩
  have e:=r.length
  simp only[Za] at e
  omega
theorem Inv.tuple (I:Inv X pz σ H s)(h:SqT X.K H a xs):∃ its:List Value,Vals xs its∧IsTup s.heap a its.toArray∧xs.length≤sizeLine:=by
 rcases h with h | ⟨o,its,n,hk,hc,hs,hz,r⟩
 ·obtain⟨z,its,r,p,_⟩:=h.ok I.hok
  exact⟨its,r,p,z⟩
 ·refine⟨its.toList,r,⟨o,I.kIn a o hk,hc,n,by simpa using hs⟩,?_⟩
  have e:=r.length
  simp only[Za] at e
  omega
theorem Inv.list_inj (I:Inv X pz σ H s)(h:SqL X.K H a xs)(h':SqL X.K H a ys):xs=ys:=by
 obtain⟨its,r,⟨o,n,e,_,_,d⟩,_⟩:=I.list h
 obtain⟨its',r',⟨o',n',e',_,_,d'⟩,_⟩:=I.list h'
 rw[e] at e';cases e'
 rw[d] at d'
 injection d' with d1 _
 have:its=its':=by simpa using Zz Array.toList d1
 subst this
 exact r.inj r'
theorem Inv.tuple_inj (I:Inv X pz σ H s)(h:SqT X.K H a xs)(h':SqT X.K H a ys):xs=ys:=by
 obtain⟨its,r,⟨o,e,_,n,d⟩,_⟩:=I.tuple h
 obtain⟨its',r',⟨o',e',_,n',d'⟩,_⟩:=I.tuple h'
 rw[e] at e';cases e'
 rw[d] at d'
 injection d' with d1 _
 have:its=its':=by simpa using Zz Array.toList d1
 subst this
 exact r.inj r'
end
abbrev Cx.wish (X:Cx)(E:Kv):Cx:={ X with xe:=E }
abbrev Cx.nox (X:Cx):Cx:=X.wish fun _ _=>False
theorem Cx.Ok.wish {X:Cx}(ok:X.Ok)(E:Kv):(X.wish E).Ok:=
 ⟨ok.mod,ok.kind,ok.glob,ok.blt,ok.above,ok.inj,ok.has,ok.cab,ok.hd,ok.frames,ok.stk,ok.exf,ok.bs,ok.bsz,ok.noex,ok.exfs,ok.funs,ok.frf⟩
theorem Cx.Ok.unwish {X:Cx}{E:Kv}(ok:(X.wish E).Ok):X.Ok:=
 ⟨ok.mod,ok.kind,ok.glob,ok.blt,ok.above,ok.inj,ok.has,ok.cab,ok.hd,ok.frames,ok.stk,ok.exf,ok.bs,ok.bsz,ok.noex,ok.exfs,ok.funs,ok.frf⟩
section
variable {X:Cx} {pz:Kp} {σ:St} {H:Hp} {s:Shared} {E:Kv}
theorem Inv.wish (I:Inv X pz σ H s)(E:Kv):Inv (X.wish E) pz σ H s:=⟨I.ok.wish E,I.os,I.bare,I.base,I.loc,I.cell,I.free,I.freeC,I.pin,I.hok,I.len⟩
theorem Inv.unwish (I:Inv (X.wish E) pz σ H s):Inv X pz σ H s:=⟨I.ok.unwish,I.os,I.bare,I.base,I.loc,I.cell,I.free,I.freeC,I.pin,I.hok,I.len⟩
theorem SP.unwish {D:Ends}{f:Flow}{s':Shared}(h:SP (X.wish E) pz D f s'):SP X pz D f s':=by
 cases f with
 | next=>obtain⟨σ',H',I,q⟩:=h;exact⟨σ',H',I.unwish,q⟩
 | brk=>obtain⟨σ',H',I,q⟩:=h;exact⟨σ',H',I.unwish,q⟩
 | cont=>obtain⟨σ',H',I,q⟩:=h;exact⟨σ',H',I.unwish,q⟩
 | ret u=>obtain⟨v,σ',H',I,r,q⟩:=h;exact⟨v,σ',H',I.unwish,r,q⟩
theorem PT.nox {e:Expr}{t:TT}(h:PT X.nox e t):PT X e t:=fun pz s σ H Q I hw=>
 Zn (h pz s σ H Q (I.wish _) hw) (fun _ _ ⟨H',I',q⟩=>⟨H',I'.unwish,q⟩) fun _ _ z=>False.elim z
theorem PSs.nox {st:List Stmt}{t:TS}(h:PSs X.nox st t):PSs X st t:=fun pz s σ H D I hw=>
 Zn (h pz s σ H D (I.wish _) hw) (fun _ _ q=>q.unwish) fun _ _ z=>False.elim z
end
section
variable {X:Cx} {st:Stmt} {aN:List Stmt} {t u:TS} {e:Expr} {te:TE} {pos:Pos}
def wW:TS:=fun D σ H=>D.nx σ H
def vz (t u:TS):TS:=fun D σ H=>t { D with nx:=u D } σ H
theorem jJ:PSs X [] wW:=fun _ _ σ H _ I h=>XS ⟨σ,H,I,h⟩
theorem cW (h1:PS X st t)(h2:PSs X aN u):PSs X (st::aN) (vz t u):=by
 intro pz s σ H D I h
 refine XF (thn (h1 pz s σ H { D with nx:=u D } I h) fun f s1 q=>?_)
 cases f with
 | next=>
  obtain⟨σ',H',I',q⟩:=q
  exact h2 pz s1 σ' H' D I' q
 | ret v=>exact q
 | brk=>exact q
 | cont=>exact q
theorem ck (h1:PS X st t):PSs X [st] t:=by
 intro pz s σ H D I h
 refine XF (thn (h1 pz s σ H D I h) fun f s1 q=>?_)
 cases f with
 | next=>exact XS q
 | ret v=>exact q
 | brk=>exact q
 | cont=>exact q
theorem Inv.quiet {pz:Kp}{σ:St}{H:Hp}{s:Shared}(I:Inv X pz σ H s):interactive X.env=false:=by simp[interactive,I.ok.kind]
def ye (te:TE):TS:=fun D σ H=>te σ H fun _ H1=>D.nx σ H1
theorem gt (he:PE X e te)(hs:swapsWith e none pos.line X.env=pure false:=by rfl):PS X (.Expr e pos) (ye te):=by
 intro pz s σ H D I h
 exact wpAny_Expr_any (aR (he pz s σ H _ I h) fun v s1 x H1 I1 r1 q1=>⟨σ,H1,I1,q1⟩) I.quiet hs
def ze (te:TE):TS:=fun D σ H=>te σ H D.rt
theorem dC (he:PE X e te):PS X (.Return (some e) pos) (ze te):=by
 intro pz s σ H D I h
 exact wpAny_Return_some (aR (he pz s σ H _ I h) fun v s1 x H1 I1 r1 q1=>⟨x,σ,H1,I1,r1,q1⟩)
def xU (c:TT)(t u:TS):TS:=fun D σ H=>c σ H fun b H1=>if b=true then t D σ H1 else u D σ H1
theorem kO {c:Expr}{a b:List Stmt}{tc:TT}(hc:PT X c tc)(ha:PSs X a t)(hb:PSs X b u):PS X (.If c a b pos) (xU tc t u):=by
 intro pz s σ H D I h
 refine wpAny_If (thn (hc pz s σ H _ I h) fun d s1 hh_=>?_)
 obtain⟨H1,I1,q1⟩:=hh_
 cases d with
 | true=>exact ha pz s1 σ H1 D I1 q1
 | false=>exact hb pz s1 σ H1 D I1 q1
def km:TS:=fun _ _ _=>False
theorem qR:PS X st km:=fun _ _ _ _ _ _ h=>h.elim
theorem jn {sts:List Stmt}:PSs X sts km:=fun _ _ _ _ _ _ h=>h.elim
end
abbrev TG:=V→St→Hp→(St→Hp→Prop)→Prop
abbrev TGs:=List V→St→Hp→(St→Hp→Prop)→Prop
def PG (X:Cx)(target:Expr)(t:TG):Prop:=
 ∀ (pz:Kp) (s:Shared) (σ:St) (H:Hp) (v:V) (u:Value) (Q:St→Hp→Prop),Inv X pz σ H s→RelV v u→t v σ H Q→
  wpAny (model X.prog X.w) X.A (assign target X.env u) (fun _ s'=>∃ σ' H',Inv X pz σ' H' s'∧Q σ' H') X.xe s
def PGs (X:Cx)(ts:List Expr)(t:TGs):Prop:=
 ∀ (pz:Kp) (s:Shared) (σ:St) (H:Hp) (vs:List V) (us:List Value) (Q:St→Hp→Prop),Inv X pz σ H s→Vals vs us→t vs σ H Q→
  wpAny (model X.prog X.w) X.A (assignInOrder ((assignEach ts X.env).map (·.2)) us) (fun _ s'=>∃ σ' H',Inv X pz σ' H' s'∧Q σ' H') X.xe s
abbrev vF:=V→V→V→Hp→(Hp→Prop)→Prop
def xK (X:Cx)(t:vF):Prop:=
 ∀ (pz:Kp) (s:Shared) (σ:St) (H:Hp) (o i v:V) (ov iv u:Value) (Q:Hp→Prop),Inv X pz σ H s→RelV o ov→RelV i iv→RelV v u→t o i v H Q→
  wpAny (model X.prog X.w) X.A (setItem ov iv u) (fun _ s'=>∃ H',Inv X pz σ H' s'∧Q H') X.xe s
abbrev TIp:=V→V→Hp→VK→Prop
def PIp (X:Cx)(op:Operator)(t:TIp):Prop:=
 ∀ (pz:Kp) (s:Shared) (σ:St) (H:Hp) (x y:V) (v u:Value) (Q:VK),Inv X pz σ H s→RelV x v→RelV y u→t x y H Q→
  wpAny (model X.prog X.w) X.A (inplaceOp op v u) (EP X pz σ Q) X.xe s
section
variable {X:Cx} {pos:Pos}
def fP (i:Nat):TG:=fun v σ H Q=>Q (σ.set i (some v)) H
theorem gn {i:Nat}{x:Str}(hN:X.N.Nodup)(hi:X.N[i]?=some x)(hx:Loc X.env.scope x)(hf:X.fn x=true∨X.env.scope.names.lookup x=some .local:=by first | exact .inl rfl | exact .inr rfl | assumption):PG X (.Name x pos) (fP i):=by
 intro pz s σ H v u Q I r h
 exact wpAny_assign_Name (eQ I hN hi hx r (fun s' I'=>⟨_,H,I',h⟩) hf)
def yi:TGs:=fun vs σ H Q=>vs=[]∧Q σ H
def uB (t:TG)(u:TGs):TGs:=fun vs σ H Q=>∃ v r,vs=v::r∧t v σ H fun σ' H'=>u r σ' H' Q
theorem ui:PGs X [] yi:=by
 intro pz s σ H vs us Q I r h
 obtain⟨e,h⟩:=h
 subst e
 cases r
 exact assignInOrder_nil ⟨σ,H,I,h⟩
theorem lj {e:Expr}{es:List Expr}{t:TG}{u:TGs}(h1:PG X e t)(h2:PGs X es u)
  (hs:(assignEach (e::es) X.env).map (·.2)=assign e X.env::(assignEach es X.env).map (·.2):=by rfl):PGs X (e::es) (uB t u):=by
 intro pz s σ H vs us Q I r h
 obtain⟨v,vr,e1,h⟩:=h
 subst e1
 cases r with
 | cons r rr=>
  rw[hs]
  refine assignInOrder_cons (thn (h1 pz s σ H _ _ _ I r h) fun _ s1 hh_=>?_)
  obtain⟨σ1,H1,I1,q1⟩:=hh_
  exact h2 pz s1 σ1 H1 _ _ Q I1 rr q1
def zq (K:Kq)(n:Nat)(t:TGs):TG:=fun v σ H Q=>∃ a xs,v=.ref a∧SqT K H a xs∧xs.length=n∧t xs σ H Q
theorem u4 {es:List Expr}{k:Nat}{t:TGs}{n:Nat}(hc:X.calm=true)(h:PGs X es t)
  (hn:(assignEach es X.env).length=n:=by rfl) (hst:(assignEach es X.env).findIdx? (·.1)=none:=by rfl):PG X (.Tuple es k pos) (zq X.K n t):=by
 intro pz s σ H v u Q I r hw
 obtain⟨a,xs,e1,hq,hl,hw⟩:=hw
 subst e1
 cases r
 obtain⟨its,rv,ht,hz⟩:=I.tuple hq
 refine assign_Tuple_tuple (I.ok.hd hc) ht (by simp[hn,← hl,rv.length]) hst fun h' hx=>?_
 have I1:Inv X pz σ H { s with heap:=h' }:=I.kept (t':=s.toks) fun b o e=>hx b o (Yy (Yn e)) e
 exact h pz _ σ H xs _ Q I1 (by simpa using rv) hw
def yM (to ti:TE)(t:vF):TG:=fun v σ H Q=>to σ H fun o H1=>ti σ H1 fun i H2=>t o i v H2 fun H3=>Q σ H3
theorem wA {o i:Expr}{to ti:TE}{t:vF}(ho:PE X o to)(hi:PE X i ti)(hs:xK X t)
  (ha:∀ v,assign (.Subscript o i pos) X.env v=(do
   let ov ← holding [v] (eval o X.env)
   let iv ← holding [v,ov] (eval i X.env)
   standAt pos
   holding [v,ov,iv] (setItem ov iv v)
   release [v,ov,iv] []):=by intro _;rfl):PG X (.Subscript o i pos) (yM to ti t):=by
 intro pz s σ H v u Q I r h
 rw[ha]
 refine Yj (Zp (aR (ho pz s σ H _ I h) fun ov s1 x H1 I1 r1 q1=>?_))
 refine Yj (Zp (aR (hi pz s1 σ H1 _ I1 q1) fun iv s2 y H2 I2 r2 q2=>?_))
 refine Yj (wpAny_standAt (Yj (Zp (thn (hs pz s2 σ H2 x y v ov iv u _ I2 r1 r2 r q2) fun _ s3 hh_=>?_))))
 obtain⟨H3,I3,q3⟩:=hh_
 exact wpAny_release ⟨σ,H3,I3,q3⟩
def rh (te:TE)(g:TG):TS:=fun D σ H=>te σ H fun x H1=>g x σ H1 D.nx
theorem wc {tg e:Expr}{te:TE}{g:TG}(he:PE X e te)(hg:PG X tg g)(hs:swapsWithSole [tg] e pos.line X.env=pure false:=by rfl)(hw:swappedStores [tg] e X.env=pure none:=by rfl)
  (h1:(assignEach [tg] X.env).map (·.2)=[assign tg X.env]:=by rfl):PS X (.Assign [tg] e pos) (rh te g):=by
 intro pz s σ H D I h
 refine wpAny_Assign_stores (aR (he pz s σ H _ I h) fun v s1 x H1 I1 r1 q1=>?_) hs hw
 rw[h1]
 exact thn (hg pz s1 σ H1 x v _ I1 r1 q1) fun _ s2 q=>q
theorem g_ {i:Nat}{x:Str}{e:Expr}{te:TE}{pos':Pos}(hN:X.N.Nodup)(hi:X.N[i]?=some x)(hx:Loc X.env.scope x)(he:PE X e te)(hs:swapsWith e (some (.Name x pos')) pos.line X.env=pure false:=by rfl)(hf:X.fn x=true∨X.env.scope.names.lookup x=some .local:=by first | exact .inl rfl | exact .inr rfl | assumption) :
  PS X (.Assign [.Name x pos'] e pos) (rh te (fP i)):=by
 intro pz s σ H D I h
 refine wpAny_Assign_Name (aR (he pz s σ H _ I h) fun v s1 y H1 I1 r1 q1=>?_) hs
 exact eQ I1 hN hi hx r1 (fun s2 I2=>⟨_,H1,I2,q1⟩) hf
def yS (i:Nat)(te:TE)(ti:TIp):TS:=fun D σ H=>∃ x,σ[i]?=some (some x)∧te σ H fun y H1=>ti x y H1 fun z H2=>D.nx (σ.set i (some z)) H2
theorem u9 {i:Nat}{x:Str}{e:Expr}{te:TE}{op:Operator}{ti:TIp}{pos':Pos}(hN:X.N.Nodup)(hi:X.N[i]?=some x)(hx:Loc X.env.scope x)(he:PE X e te)(ho:PIp X op ti)(hf:X.fn x=true∨X.env.scope.names.lookup x=some .local:=by first | exact .inl rfl | exact .inr rfl | assumption) :
  PS X (.AugAssign (.Name x pos') op e pos) (yS i te ti):=by
 intro pz s σ H D I h
 obtain⟨v,e1,h⟩:=h
 obtain⟨m,hn,hl⟩:=I.loc
 have vis:Vis X.env.scope x:=by rcases hx with k | k;exact .inl k;exact .inr (.inl k)
 obtain⟨u,r,l⟩:=hl i x v hi e1 vis
 refine wpAny_AugAssign_Name ?_
 have go:wpAny (model X.prog X.w) X.A (eval e X.env) (fun w s₂=>wpAny (model X.prog X.w) X.A (inplaceOp op u w) (fun r s₃=>wpAny (model X.prog X.w) X.A (storeName X.env x r) (fun _=>SP X pz D .next) X.xe s₃) X.xe s₂) X.xe s:=by
  refine aR (he pz s σ H _ I h) fun w s1 y H1 I1 r1 q1=>?_
  refine aR (ho pz s1 σ H1 v y u w _ I1 r r1 q1) fun z s2 zv H2 I2 r2 q2=>?_
  exact eQ I2 hN hi hx r2 (fun s3 I3=>⟨_,H2,I3,q2⟩) hf
 rcases l with⟨hk,hm⟩ | ⟨hk,c,hc,hcell⟩
 ·exact XJ I.ok.kind hk hn hm go
 ·rcases hk with hk | hk
  ·exact wpAny_loadName_cell I.ok.kind hk hc hcell go
  ·rcases hx with k | k
   ·have:X.env.scope.names.lookup x=some .free:=hk
    rw[k] at this;cases this
   ·have:X.env.scope.names.lookup x=some .free:=hk
    rw[k] at this;cases this
def ipI (f:Int→Int→Int):TIp:=fun x y H Q=>∃ i j,x=.int i∧y=.int j∧Q (.int (f i j)) H
theorem wg:PIp X .Add (ipI fun i j=>i+j):=by
 intro pz s σ H x y v u Q I r1 r2 h
 obtain⟨i,j,e1,e2,q⟩:=h
 subst e1;subst e2
 obtain⟨t,rfl⟩:=r1
 obtain⟨t',rfl⟩:=r2
 exact iadd_int ⟨.int _,H,I.tok _,⟨_,rfl⟩,q⟩
end
section
variable {X:Cx} {pos:Pos}
def vW (c:TT)(tb:TS):TS:=fun D σ H=>∃ W:Nat→St→Hp→Prop,(∃ m,W m σ H)∧∀ m σ H,W m σ H→
 c σ H fun b H1=>if b=true then ∃ N:St→Hp→Prop,(∀ σ' H',N σ' H'→∃ m',m' < m∧W m' σ' H')∧tb { D with nx:=N,ct:=N,bk:=D.nx } σ H1 else D.nx σ H1
theorem qN {c:Expr}{body:List Stmt}{tc:TT}{tb:TS}(hp:PassesOwn (model X.prog X.w) X.A X.env X.xe)(hc:PT X c tc)(hb:PSs X body tb):PS X (.While c body [] pos) (vW tc tb):=by
 intro pz s σ H D I h
 obtain⟨W,⟨m0,w0⟩,turn⟩:=h
 refine wpAny_While (codeAny_whileLoop (fun n s'=>∃ σ' H',Inv X pz σ' H' s'∧W n σ' H') ?_ m0 ⟨σ,H,I,w0⟩)
 rintro n s1 ⟨σ1,H1,I1,w1⟩
 refine ZQ hp (thn (hc pz s1 σ1 H1 _ I1 (turn n σ1 H1 w1)) fun b s2 hh_=>?_)
 obtain⟨H2,I2,q2⟩:=hh_
 cases b with
 | true=>
  obtain⟨N,hN,q2⟩:=q2
  rw[Yk rfl]
  refine ZQ hp (thn (hb pz s2 σ1 H2 _ I2 q2) fun f s3 q3=>?_)
  cases f with
  | next=>
   obtain⟨σ3,H3,I3,n3⟩:=q3
   obtain⟨m',hm,w3⟩:=hN σ3 H3 n3
   exact⟨m',hm,σ3,H3,I3,w3⟩
  | cont=>
   obtain⟨σ3,H3,I3,n3⟩:=q3
   obtain⟨m',hm,w3⟩:=hN σ3 H3 n3
   exact⟨m',hm,σ3,H3,I3,w3⟩
  | brk=>exact q3
  | ret v=>exact q3
 | false=>
  rw[Ym Yg]
  exact XS ⟨σ1,H2,I2,q2⟩
end
structure It where
 go:Nat→Hp→Prop
 yld:Nat→Hp→V→Hp→Prop
 stop:Nat→Hp→Prop
def eB (X:Cx)(pz:Kp)(H:Hp)(b:Addr):Prop:=
 H b=none∧b≠X.env.locals∧b∉X.fs∧(b∈X.ex∨X.s₀.heap.objs.size≤b)∧(∀ x c,X.env.cells.lookup x=some c→c≠b)∧∀ p∈X.pn++pz,p.1≠b
theorem Inv.fpOk {X:Cx}{pz:Kp}{σ:St}{H H':Hp}{s:Shared}{b:Addr}(I:Inv X pz σ H s)(hb:s.heap.objs.size≤b)(hn:H' b=none):eB X pz H' b:=by
 refine⟨hn,ZT (YA I.lt hb),I.nofs hb,.inr (ZH I.sz hb),fun x c e z=>?_,fun p hp z=>?_⟩
 ·obtain⟨v,q⟩:=I.cell x c e
  exact absurd (YA q.lt (by rw[z];exact hb)) (Zl _)
 ·exact absurd (YA (Yn (I.pin p hp).1) (by rw[z];exact hb)) (Zl _)
structure Turn (P:Program) (w:World) (K:PySem.W.Frag) (tg:Expr) (J:It) (fp:List Addr) (it:Addr) (tn:Nat→Heap→Prop):Prop where
 mem:it∈fp
 obj:∀ i h,tn i h→∀ b∈fp,∃ o,h.get? b=some o∧∀ v,o.data≠.cell v
 keep:∀ i h h',tn i h→(∀ b∈fp,∀ o,h.get? b=some o→h'.get? b=some o)→tn i h'
 item:∀ (X:Cx),X.prog=P→X.w=w→X.K=K→X.calm=true→∀ (i:Nat) (pz:Kp) (s:Shared) (σ:St) (H:Hp) (E:Kv),Inv X pz σ H s→(∀ b∈fp,eB X pz H b)→tn i s.heap→J.go i H→
  wpAny (model P w) X.A (pyNext (.ref it)) (fun r s1=>∃ u,r=some u ∧
   wpAny (model P w) X.A (letOwnedTupleGo tg (.ref it) u) (fun _ s2=>∃ x H',Inv X pz σ H' s2∧RelV x u∧J.yld i H x H'∧tn (i+1) s2.heap∧∀ b∈fp,H' b=none) E s1) E s
 done:∀ (X:Cx),X.prog=P→X.w=w→X.K=K→X.calm=true→∀ (i:Nat) (pz:Kp) (s:Shared) (σ:St) (H:Hp) (E:Kv),Inv X pz σ H s→(∀ b∈fp,eB X pz H b)→tn i s.heap→J.stop i H→
  wpAny (model P w) X.A (pyNext (.ref it)) (fun r s1=>r=none∧Inv X pz σ H s1) E s
 self:∀ (A:Around) (i:Nat) (s:Shared) (Q:Kv) (E:Kv),tn i s.heap→Q (.ref it) s→wpAny (model P w) A (pyIter (.ref it)) Q E s
abbrev TI:=St→Hp→(It→Hp→Prop)→Prop
def PIE (X:Cx)(pz:Kp)(σ:St)(tg:Expr)(R:It→Hp→Prop)(itv:Value)(s2:Shared):Prop:=
 ∃ (it:Addr) (fp:List Addr) (tn:Nat→Heap→Prop) (J:It) (H':Hp),itv=.ref it∧Inv X pz σ H' s2∧Turn X.prog X.w X.K tg J fp it tn∧tn 0 s2.heap∧(∀ b∈fp,eB X pz H' b)∧R J H'
def PI (X:Cx)(tg iter:Expr)(wi:TI):Prop:=
 ∀ (pz:Kp) (s:Shared) (σ:St) (H:Hp) (R:It→Hp→Prop),Inv X pz σ H s→wi σ H R→
  wpAny (model X.prog X.w) X.A (eval iter X.env) (fun v s1=>wpAny (model X.prog X.w) X.A (pyIter v) (PIE X pz σ tg R) X.xe s1) X.xe s
theorem pD {M:Model}{A:Around}{E:Kv}{s:Shared}{tg:Expr}{it:Addr}{u:Value}{o:Obj}{n:String}{vs:Array Value}{Q:Unit→Shared→Prop}(ho:s.heap.get? it=some o)(hc:o.cls=.type n)(hd:o.data=.fields vs)
  (hn:["enumerate", "zip", "dict_itemiterator", "dict_reverseitemiterator", "odict_iterator", "itertools.zip_longest", "itertools.pairwise"].contains n=false) (hQ:Q () s):wpAny M A (letOwnedTupleGo tg (.ref it) u) Q E s:=by
 unfold letOwnedTupleGo
 cases tg <;> first
  | exact Yu hQ
  | (cases u <;> first
    | exact Yu hQ
    | (
     refine Yj (wpAny_load ho ?_)
     rw[hc,hd]
     show wpAny M A (if (["enumerate", "zip", "dict_itemiterator", "dict_reverseitemiterator", "odict_iterator", "itertools.zip_longest", "itertools.pairwise"].contains n&&vs[0]? == some (rawInt _))=true then _ else _) Q E s
     rw[Ym (by intro h;rw[hn,Bool.false_and] at h;cases h)]
     exact Yu hQ))
def Itl (K:Kq)(a:Addr):It:=
 ⟨fun i H=>∃ xs x,SqL K H a xs∧xs[i]?=some x,fun i H x H'=>H'=H∧∀ xs,SqL K H a xs→xs[i]?=some x,fun i H=>∃ xs,SqL K H a xs∧xs.length≤i⟩
def Itt (K:Kq)(a:Addr):It:=
 ⟨fun i H=>∃ xs x,SqT K H a xs∧xs[i]?=some x,fun i H x H'=>H'=H∧∀ xs,SqT K H a xs→xs[i]?=some x,fun i H=>∃ xs,SqT K H a xs∧xs.length≤i⟩
def Itr (lo:Int)(n:Nat):It:=⟨fun i _=>i<n,fun i H x H'=>H'=H∧x=.int (lo+i),fun i _=>n≤i⟩
theorem oT {P:Program}{w:World}{K:Kq}{tg:Expr}(a it:Addr):Turn P w K tg (Itl K a) [it] it (fun i h=>h.IsListIter it a i) where
 mem:=by simp
 obj:=fun i h st b hb=>by
  have e:b=it:=by simpa using hb
  subst e
  obtain⟨o,e,c,d⟩:=st
  exact⟨o,e,fun v z=>by rw[d] at z;cases z⟩
 keep:=fun i h h' st k=>st.at fun o e=>k it (by simp) o e
 item:=by
  intro X hP hw hK hc i pz s σ H E I hf st hg
  subst hP hw hK
  obtain⟨xs,x,hq,hx⟩:=hg
  obtain⟨its,rv,p,hz⟩:=I.list hq
  obtain⟨u,hu,ru⟩:=rv.get hx
  obtain⟨f0,f1,f2,f3,f4,f5⟩:=hf it (by simp)
  refine wpAny_pyNext_list_item st p.isList (x:=u) (by simpa using hu) fun h' st' sb=>?_
  have I1:Inv X pz σ H { s with heap:=h' }:=I.turned (t':=s.toks) (fun b o hb e=>(sb.2 b hb).trans e) f0 f1 f3 f4 f5
  obtain⟨o,e,c,d⟩:=id st'
  exact⟨u,rfl,pD (s:={ s with heap:=h' }) e c d (by decide) ⟨x,H,I1,ru,⟨rfl,fun ys hy=>by rw[I.list_inj hy hq];exact hx⟩,st',fun b hb=>(hf b hb).1⟩⟩
 done:=by
  intro X hP hw hK hc i pz s σ H E I hf st hg
  subst hP hw hK
  obtain⟨xs,hq,hx⟩:=hg
  obtain⟨its,rv,p,hz⟩:=I.list hq
  obtain⟨f0,f1,f2,f3,f4,f5⟩:=hf it (by simp)
  have hl:=rv.length
  exact wpAny_pyNext_list_end (I.ok.hd hc) st p.isList (by simp;omega) fun h' eb=>⟨rfl,I.turned (t':=s.toks) (fun b o hb e=>eb b o hb e) f0 f1 f3 f4 f5⟩
 self:=fun _ _ _ _ _ st h=>wpAny_pyIter_listiter st h
theorem lR {P:Program}{w:World}{K:Kq}{tg:Expr}(a it:Addr):Turn P w K tg (Itt K a) [it] it (fun i h=>h.IsTupleIter it a i) where
 mem:=by simp
 obj:=fun i h st b hb=>by
  have e:b=it:=by simpa using hb
  subst e
  obtain⟨o,e,c,d⟩:=st
  exact⟨o,e,fun v z=>by rw[d] at z;cases z⟩
 keep:=fun i h h' st k=>st.at fun o e=>k it (by simp) o e
 item:=by
  intro X hP hw hK hc i pz s σ H E I hf st hg
  subst hP hw hK
  obtain⟨xs,x,hq,hx⟩:=hg
  obtain⟨its,rv,p,hz⟩:=I.tuple hq
  obtain⟨u,hu,ru⟩:=rv.get hx
  obtain⟨f0,f1,f2,f3,f4,f5⟩:=hf it (by simp)
  refine wpAny_pyNext_tuple_item st (show s.heap.IsTuple a its.toArray from p) (x:=u) (by simpa using hu) fun h' st' sb=>?_
  have I1:Inv X pz σ H { s with heap:=h' }:=I.turned (t':=s.toks) (fun b o hb e=>(sb.2 b hb).trans e) f0 f1 f3 f4 f5
  obtain⟨o,e,c,d⟩:=id st'
  exact⟨u,rfl,pD (s:={ s with heap:=h' }) e c d (by decide) ⟨x,H,I1,ru,⟨rfl,fun ys hy=>by rw[I.tuple_inj hy hq];exact hx⟩,st',fun b hb=>(hf b hb).1⟩⟩
 done:=by
  intro X hP hw hK hc i pz s σ H E I hf st hg
  subst hP hw hK
  obtain⟨xs,hq,hx⟩:=hg
  obtain⟨its,rv,p,hz⟩:=I.tuple hq
  obtain⟨f0,f1,f2,f3,f4,f5⟩:=hf it (by simp)
  have hl:=rv.length
  exact wpAny_pyNext_tuple_end (I.ok.hd hc) st (show s.heap.IsTuple a its.toArray from p) (by simp;omega) fun h' eb=>⟨rfl,I.turned (t':=s.toks) (fun b o hb e=>eb b o hb e) f0 f1 f3 f4 f5⟩
 self:=fun _ _ _ _ _ st h=>wpAny_pyIter_tupleiter st h
theorem mL {P:Program}{w:World}{K:Kq}{tg:Expr}(it:Addr)(lo:Int)(n:Nat):Turn P w K tg (Itr lo n) [it] it (fun i h=>IsRangeIter h it (lo+(i:Nat)*1) ((n:Int)-(i:Nat)) 1) where
 mem:=by simp
 obj:=fun i h st b hb=>by
  have e:b=it:=by simpa using hb
  subst e
  exact⟨_,st,fun v z=>by
   have z':Data.fields _=Data.cell v:=z
   cases z'⟩
 keep:=fun i h h' st k=>k it (by simp) _ st
 item:=by
  intro X hP hw hK hc i pz s σ H E I hf st hg
  subst hP hw hK
  obtain⟨f0,f1,f2,f3,f4,f5⟩:=hf it (by simp)
  have W:=Walks.range (prog:=X.prog) (w:=X.w) (I.ok.hd hc) it lo 1 n
  refine W.item i s _ _ hg st fun v h' tk hv st' kk=>?_
  obtain⟨t,rfl⟩:=hv
  have I1:Inv X pz σ H { s with heap:=h',toks:=tk }:=I.turned (fun b o hb e=>kk b o (by simpa using hb) e) f0 f1 f3 f4 f5
  refine⟨_,rfl,pD (s:={ s with heap:=h',toks:=tk }) (n := "range_iterator") st' rfl rfl (by decide) ⟨.int (lo+i),H,I1,⟨t,?_⟩,⟨rfl,rfl⟩,st',fun b hb=>(hf b hb).1⟩⟩
  rw[Int.mul_one]
 done:=by
  intro X hP hw hK hc i pz s σ H E I hf st hg
  subst hP hw hK
  obtain⟨f0,f1,f2,f3,f4,f5⟩:=hf it (by simp)
  exact wpAny_pyNext_range_end (I.ok.hd hc) st (by have:n≤i:=hg;omega) fun h' eb=>⟨rfl,I.turned (t':=s.toks) (fun b o hb e=>eb b o hb e) f0 f1 f3 f4 f5⟩
 self:=fun _ _ _ _ _ st h=>wpAny_pyIter_rangeiter st h
section
variable {X:Cx} {tg:Expr}
def wQ (K:Kq)(tl:TE):TI:=fun σ H R=>tl σ H fun x H1=>∃ a,x=.ref a∧(∃ xs,SqL K H1 a xs)∧R (Itl K a) H1
def zb (K:Kq)(tl:TE):TI:=fun σ H R=>tl σ H fun x H1=>∃ a,x=.ref a∧(∃ xs,SqT K H1 a xs)∧R (Itt K a) H1
theorem jQ {l:Expr}{tl:TE}(hl:PE X l tl):PI X tg l (wQ X.K tl):=by
 intro pz s σ H R I h
 refine aR (hl pz s σ H _ I h) fun v s1 x H1 I1 r1 q1=>?_
 obtain⟨a,e,⟨xs,hq⟩,q⟩:=q1
 subst e
 cases r1
 obtain⟨its,rv,p,hz⟩:=I1.list hq
 refine wpAny_pyIter_list p.isList ?_
 refine⟨s1.heap.objs.size,[s1.heap.objs.size],_,_,H1,rfl,I1.kept (t':=s1.toks) fun b o e=>Yd _ e,oT a _,⟨_,Yp _ rfl,rfl,rfl⟩,fun b hb=>?_,q⟩
 have e:b=s1.heap.objs.size:=by simpa using hb
 subst e
 exact I1.fpOk (Yr _) (I1.hok.fresh (Yr _))
theorem wE {l:Expr}{tl:TE}(hl:PE X l tl):PI X tg l (zb X.K tl):=by
 intro pz s σ H R I h
 refine aR (hl pz s σ H _ I h) fun v s1 x H1 I1 r1 q1=>?_
 obtain⟨a,e,⟨xs,hq⟩,q⟩:=q1
 subst e
 cases r1
 obtain⟨its,rv,p,hz⟩:=I1.tuple hq
 refine wpAny_pyIter_tuple (show s1.heap.IsTuple a its.toArray from p) ?_
 refine⟨s1.heap.objs.size,[s1.heap.objs.size],_,_,H1,rfl,I1.kept (t':=s1.toks) fun b o e=>Yd _ e,lR a _,⟨_,Yp _ rfl,rfl,rfl⟩,fun b hb=>?_,q⟩
 have e:b=s1.heap.objs.size:=by simpa using hb
 subst e
 exact I1.fpOk (Yr _) (I1.hok.fresh (Yr _))
theorem pW {pz:Kp}{σ:St}{H:Hp}{s:Shared}{R:It→Hp→Prop}{E:Kv}{lo hi:Int}{t u v:Tok}{tk:Nat}(I:Inv X pz σ H s)(h1:-(2 ^ 62)≤lo)(h2:lo<2 ^ 62)(h3:-(2 ^ 62)≤hi)(h4:hi<2 ^ 62)
  (q:R (Itr lo (hi-lo).toNat) H):wpAny (model X.prog X.w) X.A (pyIter (.ref s.heap.objs.size)) (PIE X pz σ tg R) E { s with heap:=s.heap.push { cls:=.type "range",data:=.fields #[.int lo t,.int hi u,.int 1 v] },toks:=tk }:=by
 refine wpAny_pyIter_range (IsRange.new ..) (small_one h1 h2 h3 h4) ?_
 have I1:Inv X pz σ H { s with heap:=s.heap.push { cls:=.type "range",data:=.fields #[.int lo t,.int hi u,.int 1 v] },toks:=tk }:=I.kept fun b o e=>Yd _ e
 refine⟨(s.heap.push { cls:=.type "range",data:=.fields #[.int lo t,.int hi u,.int 1 v] }).objs.size,[(s.heap.push { cls:=.type "range",data:=.fields #[.int lo t,.int hi u,.int 1 v] }).objs.size],_,_,H,rfl,
  I1.kept (t':=tk) fun b o e=>Yd _ e,mL _ lo (hi-lo).toNat,?_,fun b hb=>?_,q⟩
 ·have e1:lo+((0:Nat):Int)*1=lo:=by simp
  have e2:(((hi-lo).toNat:Nat):Int)-((0:Nat):Int)=Builtin.Range.rangeSize lo hi 1:=by rw[rangeSize_one];split <;> omega
  show IsRangeIter _ _ (lo+((0:Nat):Int)*1) ((((hi-lo).toNat:Nat):Int)-((0:Nat):Int)) 1
  rw[e1,e2]
  exact Yp _ rfl
 ·have e:b=(s.heap.push { cls:=.type "range",data:=.fields #[.int lo t,.int hi u,.int 1 v] }).objs.size:=by simpa using hb
  subst e
  exact I1.fpOk (Yr _) (I1.hok.fresh (Yr _))
def yh (ta:TA):TI:=fun σ H R=>ta σ H fun vs H1=>∃ j:Int,vs=[.int j]∧-(2 ^ 62)≤j∧j<2 ^ 62∧R (Itr 0 j.toNat) H1
theorem oE {a:Expr}{ta:TA}{p pos:Pos}(hg:Gl X "range")(hm:X.mg "range"=none)(ha:PA X [a] ta)(hs:starEach [a] X.env=[(false,eval a X.env)]:=by rfl):PI X tg (.Call (.Name "range" p) [a] [] pos) (yh ta):=by
 intro pz s σ H R I h
 refine Call_ (gZ I hg hm boot_range (Xd (aR (ha pos pz s σ H _ I h) fun us s1 vs H1 I1 r1 q1=>?_) hs rfl))
 obtain⟨j,e,q1,q2,q⟩:=q1
 subst e
 cases r1 with
 | cons r rr=>
  cases rr
  obtain⟨t,rfl⟩:=r
  exact call_range_1 (pW I1 (by omega) (by omega) q1 q2 (by simpa using q))
def zi (wi:TI)(g:TG)(tb:TS):TS:=fun D σ H=>wi σ H fun J H1=>∃ W:Nat→Nat→St→Hp→Prop,(∃ m,W 0 m σ H1)∧∀ i m σ H,W i m σ H→
 (J.stop i H∧D.nx σ H)∨(J.go i H∧∃ N:St→Hp→Prop,(∀ σ' H',N σ' H'→∃ m',m' < m∧W (i+1) m' σ' H')∧∀ x H',J.yld i H x H'→g x σ H' fun σ2 H2=>tb { D with nx:=N,ct:=N,bk:=D.nx } σ2 H2)
def gy (fp:List Addr)(h:Heap):List (Addr×Obj):=fp.filterMap fun b=>(h.get? b).map fun o=>(b,o)
theorem db {fp:List Addr}{h:Heap}{b:Addr}{o:Obj}(hb:b∈fp)(e:h.get? b=some o):(b,o)∈gy fp h:=XY.mpr ⟨b,hb,by rw[e];rfl⟩
theorem o8 {fp:List Addr}{h:Heap}{p:Addr×Obj}(hp:p∈gy fp h):p.1∈fp∧h.get? p.1=some p.2:=by
 obtain⟨b,hb,e⟩:=XY.mp hp
 cases q:h.get? b with
 | none=>rw[q] at e;cases e
 | some o=>
  rw[q] at e
  have e':(b,o)=p:=YH e
  subst e'
  exact⟨hb,q⟩
theorem Inv.pinned {pz:Kp}{σ:St}{H:Hp}{s:Shared}{fp:List Addr}(I:Inv X pz σ H s)(hf:∀ b∈fp,eB X pz H b)(ho:∀ b∈fp,∃ o,s.heap.get? b=some o∧∀ v,o.data≠.cell v):Inv X (pz++gy fp s.heap) σ H s:=
 I.pins_of fun p hp=>(Yt.mp hp).elim (fun z=>I.pin p (Yv _ z)) fun z=>by
  obtain⟨hb,e⟩:=o8 z
  obtain⟨f0,f1,f2,_⟩:=hf p.1 hb
  obtain⟨o,e',d⟩:=ho p.1 hb
  rw[e] at e';cases e'
  exact⟨e,f0,f1,f2,d⟩
theorem Inv.unpinned {pz pl:Kp}{σ:St}{H:Hp}{s:Shared}(I:Inv X (pz++pl) σ H s):Inv X pz σ H s:=I.pins_of fun p hp=>I.pin p (Yv _ (YL _ hp))
theorem mY {iter:Expr}{body:List Stmt}{wi:TI}{g:TG}{tb:TS}{pos:Pos}(hp:PassesOwn (model X.prog X.w) X.A X.env X.xe)(hc:X.calm=true)(hi:PI X tg iter wi)(hg:PG X tg g)(hb:PSs X body tb)
  (hs:∀ x,foldedSetIterable iter X.env x=pure x:=by intro _;rfl):PS X (.For tg iter body [] pos) (zi wi g tb):=by
 intro pz s σ H D I h
 refine wpAny_For (thn (hi pz s σ H _ I h) fun v s1 h1=>thn h1 fun itv s2 h2=>?_) hs
 obtain⟨it,fp,tn,J,H2,e,I2,T,st2,f2,W,⟨m0,w0⟩,turn⟩:=h2
 subst e
 -- what stays true of the iterator's objects through the loop
 have stat:∀ {H':Hp},(∀ b∈fp,H' b=none)→∀ b∈fp,eB X pz H' b:=fun hn b hb=>⟨hn b hb,(f2 b hb).2⟩
 refine codeAny_forLoop_any (fun n s'=>∃ i σ' H',Inv X pz σ' H' s'∧tn i s'.heap∧(∀ b∈fp,H' b=none)∧W i n σ' H') ?_ m0 ⟨0,σ,H2,I2,st2,fun b hb=>(f2 b hb).1,w0⟩
 rintro n s3 ⟨i,σ3,H3,I3,st3,fr3,w3⟩
 rcases turn i n σ3 H3 w3 with⟨stop,qn⟩ | ⟨go,N,hN,step⟩
 ·refine ZQ hp (thn (T.done X rfl rfl rfl hc i pz s3 σ3 H3 X.xe I3 (stat fr3) st3 stop) fun r s4 ⟨hr,I4⟩=>?_)
  subst hr
  exact XS ⟨σ3,H3,I4,qn⟩
 ·refine ZQ hp (thn (T.item X rfl rfl rfl hc i pz s3 σ3 H3 X.xe I3 (stat fr3) st3 go) fun r s4 ⟨u,hr,h4⟩=>?_)
  subst hr
  refine ZQ hp (thn h4 fun _ s5 hh_=>?_)
  obtain⟨x,H5,I5,r5,y5,st5,fr5⟩:=hh_
  have I5':=I5.pinned (stat fr5) (T.obj _ _ st5)
  refine ZQ hp (thn (hg _ s5 σ3 H5 x u _ I5' r5 (step x H5 y5)) fun _ s6 hh_=>?_)
  obtain⟨σ6,H6,I6,q6⟩:=hh_
  refine ZQ hp (thn (hb _ s6 σ6 H6 _ I6 q6) fun f s7 q7=>?_)
  have again:∀ {σ7:St} {H7:Hp},Inv X (pz++gy fp s5.heap) σ7 H7 s7→N σ7 H7→∃ m,m<n∧∃ i σ' H',Inv X pz σ' H' s7∧tn i s7.heap∧(∀ b∈fp,H' b=none)∧W i m σ' H':=fun {σ7 H7} I7 n7=>by
   obtain⟨m',hm,w7⟩:=hN σ7 H7 n7
   refine⟨m',hm,i+1,σ7,H7,I7.unpinned,T.keep _ _ _ st5 fun b hb o e=>(I7.pin (b,o) (Yv _ (Yv _ (db hb e)))).1,fun b hb=>?_,w7⟩
   obtain⟨o,e,d⟩:=T.obj _ _ st5 b hb
   exact (I7.pin (b,o) (Yv _ (Yv _ (db hb e)))).2.1
  cases f with
  | next=>obtain⟨σ7,H7,I7,n7⟩:=q7;exact again I7 n7
  | cont=>obtain⟨σ7,H7,I7,n7⟩:=q7;exact again I7 n7
  | brk=>obtain⟨σ7,H7,I7,q7⟩:=q7;exact⟨σ7,H7,I7.unpinned,q7⟩
  | ret v=>obtain⟨x7,σ7,H7,I7,r7,q7⟩:=q7;exact⟨x7,σ7,H7,I7.unpinned,r7,q7⟩
end
abbrev R2:=V→V→Hp→VK→Prop
def OpR (X:Cx)(f:Value→Value→Sem Value)(r:R2):Prop:=
 ∀ (pz:Kp) (s:Shared) (σ:St) (H:Hp) (x y:V) (v u:Value) (Q:VK),Inv X pz σ H s→RelV x v→RelV y u→r x y H Q→
  wpAny (model X.prog X.w) X.A (f v u) (EP X pz σ Q) X.xe s
def UnR (X:Cx)(f:Value→Sem Value)(r:V→Hp→VK→Prop):Prop:=
 ∀ (pz:Kp) (s:Shared) (σ:St) (H:Hp) (x:V) (v:Value) (Q:VK),Inv X pz σ H s→RelV x v→r x H Q→
  wpAny (model X.prog X.w) X.A (f v) (EP X pz σ Q) X.xe s
def CallR (X:Cx)(f:Value)(r:List V→Hp→VK→Prop):Prop:=
 ∀ (pz:Kp) (s:Shared) (σ:St) (H:Hp) (xs:List V) (us:List Value) (Q:VK),Inv X pz σ H s→Vals xs us→r xs H Q→
  wpAny (model X.prog X.w) X.A (call f us) (EP X pz σ Q) X.xe s
def tOp (r:R2)(ta tb:TE):TE:=fun σ H Q=>ta σ H fun x H1=>tb σ H1 fun y H2=>r x y H2 Q
def rI (C:Int→Int→Prop)(g:Int→Int→V):R2:=fun x y H Q=>∃ i j,x=.int i∧y=.int j∧C i j∧Q (g i j) H
def rI0 (g:Int→Int→V):R2:=fun x y H Q=>∃ i j,x=.int i∧y=.int j∧Q (g i j) H
def rU (g:Int→V):V→Hp→VK→Prop:=fun x H Q=>∃ i,x=.int i∧Q (g i) H
section
variable {X:Cx} {a b c:Expr} {ta tb tc:TE} {pos:Pos}
theorem vC (ha:PE X a ta)(hb:PE X b tb){pz:Kp}{s:Shared}{σ:St}{H:Hp}{R:V→V→Hp→Prop}(I:Inv X pz σ H s)
  (h:ta σ H fun x H1=>tb σ H1 fun y H2=>R x y H2) {Q:Kv} {f:Value→Value→Sem Value}
  (hf:∀ v u s2 x y H2,Inv X pz σ H2 s2→RelV x v→RelV y u→R x y H2→wpAny (model X.prog X.w) X.A (f v u) Q X.xe s2) :
  wpAny (model X.prog X.w) X.A (eval a X.env) (fun v s₁=>wpAny (model X.prog X.w) X.A (eval b X.env) (fun u s₂=>wpAny (model X.prog X.w) X.A (f v u) Q X.xe s₂) X.xe s₁) X.xe s:=by
 refine aR (ha pz s σ H _ I h) fun v s1 x H1 I1 r1 q1=>?_
 refine aR (hb pz s1 σ H1 _ I1 q1) fun u s2 y H2 I2 r2 q2=>?_
 exact hf v u s2 x y H2 I2 r1 r2 q2
theorem uO {op:Operator}{r:R2}(ho:OpR X (binaryOp op) r)(ha:PE X a ta)(hb:PE X b tb):PE X (.BinOp a op b pos) (tOp r ta tb):=by
 intro pz s σ H Q I h
 exact wpAny_BinOp (vC ha hb I h fun v u s2 x y H2 I2 rx ry q=>ho pz s2 σ H2 x y v u Q I2 rx ry q)
theorem opI {f:Value→Value→Sem Value}{C:Int→Int→Prop}{g:Int→Int→Int}
  (rule:∀ (i j:Int) (t u:Tok) (s:Shared) (Q:Kv) (E:Kv),C i j→Q (.int (g i j) s.toks) { s with toks:=s.toks+1 }→wpAny (model X.prog X.w) X.A (f (.int i t) (.int j u)) Q E s) :
  OpR X f (rI C fun i j=>.int (g i j)):=by
 intro pz s σ H x y v u Q I rx ry h
 obtain⟨i,j,rfl,rfl,hc,q⟩:=h
 obtain⟨t,rfl⟩:=rx
 obtain⟨t',rfl⟩:=ry
 exact rule i j t t' s _ _ hc ⟨.int (g i j),H,I.tok _,⟨_,rfl⟩,q⟩
theorem wU {f:Value→Value→Sem Value}{g:Int→Int→Int}
  (rule:∀ (i j:Int) (t u:Tok) (s:Shared) (Q:Kv) (E:Kv),Q (.int (g i j) s.toks) { s with toks:=s.toks+1 }→wpAny (model X.prog X.w) X.A (f (.int i t) (.int j u)) Q E s) :
  OpR X f (rI0 fun i j=>.int (g i j)):=by
 intro pz s σ H x y v u Q I rx ry h
 obtain⟨i,j,rfl,rfl,q⟩:=h
 obtain⟨t,rfl⟩:=rx
 obtain⟨t',rfl⟩:=ry
 exact rule i j t t' s _ _ ⟨.int (g i j),H,I.tok _,⟨_,rfl⟩,q⟩
theorem yg {f:Value→Value→Sem Value}{g:Int→Int→Bool}
  (rule:∀ (i j:Int) (t u:Tok) (s:Shared) (Q:Kv) (E:Kv),Q (.bool (g i j)) s→wpAny (model X.prog X.w) X.A (f (.int i t) (.int j u)) Q E s) :
  OpR X f (rI0 fun i j=>.bl (g i j)):=by
 intro pz s σ H x y v u Q I rx ry h
 obtain⟨i,j,rfl,rfl,q⟩:=h
 obtain⟨t,rfl⟩:=rx
 obtain⟨t',rfl⟩:=ry
 exact rule i j t t' s _ _ ⟨.bl (g i j),H,I,rfl,q⟩
def yZ (i j:Int):Prop:=0<j∧j<1073741824
def zo (i j:Int):Prop:=0≤j∧j≤1000000∧i.natAbs<2 ^ 64
def CMul (i j:Int):Prop:=(-(2 ^ 64)<i∧i<2 ^ 64)∨(-(2 ^ 64)<j∧j<2 ^ 64)
theorem CMul.ok {i j:Int}(h:CMul i j):IntMulOk i j:=by
 rcases h with⟨h1,h2⟩ | ⟨h1,h2⟩
 ·exact .of_left (intBits_le_64 h1 h2)
 ·exact .of_right (intBits_le_64 h1 h2)
theorem vH:OpR X (binaryOp .Add) (rI0 fun i j=>.int (i+j)):=wU fun _ _ _ _ _ _ _ q=>add_int q
theorem vR:OpR X (binaryOp .Sub) (rI0 fun i j=>.int (i-j)):=wU fun _ _ _ _ _ _ _ q=>sub_int q
theorem wG:OpR X (binaryOp .Mult) (rI CMul fun i j=>.int (i*j)):=opI fun _ _ _ _ _ _ _ hc q=>mul_int q hc.ok
theorem sM:OpR X (binaryOp .FloorDiv) (rI yZ fun i j=>.int (i/j)):=opI fun i j _ _ _ _ _ hc q=>by
 have h1:(0:Int)<j:=hc.1
 have h2:j<1073741824:=hc.2
 exact floordiv_int (by omega) (by rw[Int.fdiv_eq_ediv_of_nonneg i (by omega)];exact q) (.inl (PyProof.noPylong_small (by omega)))
theorem wf:OpR X (binaryOp .Mod) (rI (fun _ j=>0<j) fun i j=>.int (i%j)):=opI fun i j _ _ _ _ _ hc q=>by
 have h1:(0:Int)<j:=hc
 exact mod_int' (by omega) (by rw[Int.fmod_eq_emod_of_nonneg i (by omega)];exact q)
theorem vy:OpR X (binaryOp .Pow) (rI zo fun i j=>.int (i ^ j.toNat)):=opI fun _ _ _ _ _ _ _ hc q=>pow_int_small hc.1 hc.2.1 hc.2.2 q
theorem unI {f:Value→Sem Value}{g:Int→Int}
  (rule:∀ (i:Int) (t:Tok) (s:Shared) (Q:Kv) (E:Kv),Q (.int (g i) s.toks) { s with toks:=s.toks+1 }→wpAny (model X.prog X.w) X.A (f (.int i t)) Q E s) :
  UnR X f (rU fun i=>.int (g i)):=by
 intro pz s σ H x v Q I rx h
 obtain⟨i,rfl,q⟩:=h
 obtain⟨t,rfl⟩:=rx
 exact rule i t s _ _ ⟨.int (g i),H,I.tok _,⟨_,rfl⟩,q⟩
end
section
variable {X:Cx} {a b c:Expr} {ta tb tc:TE} {pos:Pos}
theorem xt:OpR X (compareOp .LtE) (rI0 fun i j=>.bl (decide (i≤j))):=yg fun _ _ _ _ _ _ _ q=>le_int q
theorem yj:OpR X (compareOp .Gt) (rI0 fun i j=>.bl (decide (j<i))):=yg fun _ _ _ _ _ _ _ q=>gt_int q
theorem OpR.or {f:Value→Value→Sem Value}{r r':R2}(h:OpR X f r)(h':OpR X f r'):OpR X f (fun x y H Q=>r x y H Q∨r' x y H Q):=by
 intro pz s σ H x y v u Q I rx ry q
 rcases q with q | q
 ·exact h pz s σ H x y v u Q I rx ry q
 ·exact h' pz s σ H x y v u Q I rx ry q
theorem eA (b:Expr){op:CmpOp}(h:op≠.In:=by decide)(h2:op≠.NotIn:=by decide):behindInMarks op b=false:=by
 have e1:(op == CmpOp.In)=false:=by cases op <;> first | rfl | exact absurd rfl h
 have e2:(op == CmpOp.NotIn)=false:=by cases op <;> first | rfl | exact absurd rfl h2
 cases b <;> simp[behindInMarks,e1,e2]
theorem t6 {op:CmpOp}{r:R2}(ho:OpR X (compareOp op) r)(ha:PE X a ta)(hb:PE X b tb)(hm:behindInMarks op b=false):PE X (.Compare a [op] [b] pos) (tOp r ta tb):=by
 intro pz s σ H Q I h
 exact wpAny_Compare1 (vC ha hb I h fun v u s2 x y H2 I2 rx ry q=>ho pz s2 σ H2 x y v u Q I2 rx ry q) hm
def uL (t:TE):TT:=fun σ H Q=>t σ H fun x H'=>∃ k,x=.bl k∧Q k H'
theorem nL {op:CmpOp}{r:R2}(ho:OpR X (compareOp op) r)(ha:PE X a ta)(hb:PE X b tb)(hm:behindInMarks op b=false):PT X (.Compare a [op] [b] pos) (uL (tOp r ta tb)):=by
 intro pz s σ H Q I h
 refine wpAny_isTrue_Compare1 (aR (ha pz s σ H _ I h) fun v s1 x H1 I1 r1 q1=>aR (hb pz s1 σ H1 _ I1 q1) fun u s2 y H2 I2 r2 q2=>
  aR (ho pz s2 σ H2 x y v u _ I2 r1 r2 q2) fun c s3 z H3 I3 r3 ⟨k,e,q3⟩=>?_) hm
 subst e
 cases r3
 exact ZP ⟨H3,I3,q3⟩
theorem fF:(sizeLine:Nat)<2 ^ 63:=by rw[YS];decide
theorem ni:OpR X (binaryOp .Add) (fun x y H Q=>∃ i j,x=.str i∧y=.str j∧i.length+j.length≤sizeLine∧Q (.str (i++j)) H):=by
 intro pz s σ H x y v u Q I rx ry h
 obtain⟨i,j,rfl,rfl,hz,q⟩:=h
 obtain⟨t,rfl⟩:=rx
 obtain⟨t',rfl⟩:=ry
 exact add_str (fun t' tk=>⟨.str (i++j),H,I.tok _,⟨_,rfl⟩,q⟩) hz
theorem cU {x:V}{us:List Value}(r:Vals [x] us):∃ u,us=[u]∧RelV x u:=by
 cases r with
 | cons r1 r2=>cases r2;exact⟨_,rfl,r1⟩
theorem lN {x y:V}{us:List Value}(r:Vals [x,y] us):∃ u w',us=[u,w']∧RelV x u∧RelV y w':=by
 cases r with
 | cons r1 r2=>
  cases r2 with
  | cons r3 r4=>cases r4;exact⟨_,_,rfl,r1,r3⟩
theorem og (hc:X.calm=true):CallR X (.builtin "min") (fun xs H Q=>∃ i j,xs=[.int i,.int j]∧Q (.int (if j<i then j else i)) H):=by
 intro pz s σ H xs us Q I r h
 obtain⟨i,j,rfl,q⟩:=h
 obtain⟨u,w',rfl,⟨t,rfl⟩,⟨t',rfl⟩⟩:=lN r
 refine min_two_ints (I.ok.hd hc) fun h' tk k=>⟨_,H,I.kept k,?_,q⟩
 by_cases hj:j<i
 ·rw[Yk hj,Yk hj];exact⟨_,rfl⟩
 ·rw[Ym hj,Ym hj];exact⟨_,rfl⟩
end
section
variable {prog:Program} {w:World} {A:Around} {E:Kv} {s:Shared} {K:Kq} {x dx C f:Addr} {mA:Ks} {name:Str} {v:Value}
end
section
variable {P:Program} {w:World} {H H':Hp} {h h':Heap} {a C dx:Addr} {fs fs':List (Str×V)}
end
section
variable {X:Cx} {pz:Kp} {σ:St} {H:Hp} {s:Shared} {a C dx:Addr} {fs:List (Str×V)} {f:Str} {v:V} {A:Around} {E:Kv}
end
section
variable {X:Cx} {o e value:Expr} {f:Str} {pos pos' tpos:Pos} {ta tv:TE}
end
section
variable {X:Cx} {pz:Kp} {σ:St} {H:Hp} {s:Shared} {A:Around} {E:Kv} {Q:Kv} {c:Value} {b:Bool}
end
structure Room (k:Nat) (A:Around):Prop where
 hd:A.handled=none
 dp:A.depth+3*k+5<recursionLimit
 un:A.units+16*k+200<cLine
theorem Room.mono {j k:Nat}{A:Around}(r:Room k A)(h:j≤k):Room j A:=⟨r.hd,by have:=r.dp;omega,by have:=r.un;omega⟩
theorem Room.deeper {k:Nat}{A:Around}(r:Room (k+1) A)(env:Env):Room k (A.deeper env):=
 ⟨r.hd,by have:=r.dp;show A.depth+1+3*k+5<_;omega,by have:=r.un;show A.units+3+16*k+200<_;omega⟩
theorem Room.depth {k:Nat}{A:Around}(r:Room k A):A.depth<recursionLimit:=by have:=r.dp;omega
def kZ:TA:=fun _ H Q=>Q [] H
def eP (ta:TE)(tr:TA):TA:=fun σ H Q=>ta σ H fun x H1=>tr σ H1 fun xs H2=>Q (x::xs) H2
section
variable {X:Cx} {e:Expr} {es:List Expr} {te:TE} {t:TA} {pos:Pos}
theorem aL:PA X [] kZ:=fun _ _ _ _ H Q I h=>Calls.spliced_nil ⟨[],H,I,.nil,h⟩
theorem ap (ha:PE X e te)(hr:PA X es t)(hs:starEach (e::es) X.env=(false,eval e X.env)::starEach es X.env:=by rfl):PA X (e::es) (eP te t):=by
 intro pos pz s σ H Q I h
 rw[hs]
 show wpAny _ _ (spliced ((false,eval e X.env)::backTo pos (starEach es X.env))) _ _ s
 refine Xt (aR (ha pz s σ H _ I h) fun u s1 x H1 I1 r1 q1=>?_)
 exact aR (hr pos pz s1 σ H1 _ I1 q1) fun us s2 xs H2 I2 r2 q2=>⟨x::xs,H2,I2,.cons r1 r2,q2⟩
def yI (t:TA):TE:=fun σ H Q=>t σ H fun xs H1=>xs.length≤sizeLine∧∀ p,H1 p=none→Q (.ref p) (upd H1 p (.tup xs))
def zm (t:TA):TE:=fun σ H Q=>t σ H fun xs H1=>xs.length≤sizeLine∧∀ p,H1 p=none→Q (.ref p) (upd H1 p (.lst xs))
theorem sg {x1}(h:PA X es t):PE X (.Tuple es x1 pos) (yI t):=by
 intro pz s σ H Q I hq
 refine wpAny_Tuple_spliced (aR (h pos pz s σ H _ I hq) fun us s1 xs H1 I1 r ⟨z,q⟩=>⟨by rw[← r.length];exact z,?_⟩)
 have hf:H1 s1.heap.objs.size=none:=I1.hok.fresh (Yr _)
 refine⟨.ref s1.heap.objs.size,upd H1 s1.heap.objs.size (.tup xs),I1.laid (t':=s1.toks) (fun b u e=>Yd _ e) (Yr _) ?_,rfl,q _ hf⟩
 exact⟨z,us,r,⟨_,Yp _ rfl,rfl,_,rfl⟩,_,Yp _ rfl,rfl⟩
theorem v7 (h:PA X es t):PE X (.List es pos) (zm t):=by
 intro pz s σ H Q I hq
 refine wpAny_List_spliced (aR (h pos pz s σ H _ I hq) fun us s1 xs H1 I1 r ⟨z,q⟩=>⟨by rw[← r.length];exact z,?_⟩)
 have hf:H1 s1.heap.objs.size=none:=I1.hok.fresh (Yr _)
 refine⟨.ref s1.heap.objs.size,upd H1 s1.heap.objs.size (.lst xs),I1.laid (t':=s1.toks) (fun b u e=>Yd _ e) (Yr _) ?_,rfl,q _ hf⟩
 exact⟨z,us,0,r,Yp _ rfl⟩
end
abbrev Sp:=List V→Hp→VK→XK→Prop
abbrev CXT:=List Env→Hp→Shared→XK→Value→Shared→Prop
structure Env0 (P:Program) (w:World) (K:PySem.W.Frag) (mg:Str→Option Value) (base:Heap) (A:Around) (outer:List Env) (s:Shared) (H:Hp):Prop where
 frames:A.frames=some outer
 mod:Mod K mg base
 bs:∀ b o,base.get? b=some o→s.heap.get? b=some o∧H b=none
 bsz:base.objs.size≤s.heap.objs.size
 funs:s.heap.FunFrames base outer
 frf:∀ b∈frs outer,H b=none
 hok:HOk P w H s.heap
 bare:AllBare s.gens
def CE (outer:List Env)(P:Program)(w:World)(H:Hp)(s:Shared)(Q:VK)(u:Value)(s':Shared):Prop:=
 ∃ v H',s'.os=s.os∧AllBare s'.gens∧Un (frs outer) [] H H' s.heap s'.heap∧HOk P w H' s'.heap∧RelV v u∧Q v H'
def CR (CX:CXT)(outer:List Env)(P:Program)(w:World)(H:Hp)(s:Shared)(Q:VK)(E:XK)(r:Result)(s':Shared):Prop:=
 match r with
 | .ok (.ret u)=>CE outer P w H s Q u s'
 | .ok _=>False
 | .error e=>CX outer H s E e s'
structure FnOk (P:Program) (w:World) (K:PySem.W.Frag) (mg:Str→Option Value) (base:Heap) (CX:CXT) (k:Nat) (f:Addr) (fd:FuncData) (ps:List Str) (sp:Sp):Prop where
 len:∀ vs H Q E,sp vs H Q E→vs.length=ps.length
 run:∀ (A:Around) (outer:List Env) (s:Shared) (H:Hp) (args:Args) (us:List Value) (vs:List V) (Q:VK) (E:XK),Room k A→Env0 P w K mg base A outer s H→BindsTo s fd args (ps.zip us)→Vals vs us→sp vs H Q E→
  codeAny (model P w) A (.call (.ref f) args) (CR CX outer P w H s Q E) s
theorem FnOk.imp {P:Program}{w:World}{K:Kq}{mg:Ks}{base:Heap}{CX:CXT}{k:Nat}{f:Addr}{fd:FuncData}{ps:List Str}{sp sp':Sp}(F:FnOk P w K mg base CX k f fd ps sp)
  (h:∀ vs H Q E,sp' vs H Q E→sp vs H Q E):FnOk P w K mg base CX k f fd ps sp':=
 ⟨fun vs H Q E q=>F.len vs H Q E (h _ _ _ _ q),fun A outer s H args us vs Q E hr he hb hv hs=>F.run A outer s H args us vs Q E hr he hb hv (h _ _ _ _ hs)⟩
section
variable {X:Cx} {pz:Kp} {σ:St} {H:Hp} {s s':Shared}
theorem Inv.env0 (I:Inv X pz σ H s):Env0 X.prog X.w X.K X.mg X.base X.A X.stack s H:=
 ⟨I.ok.frames,I.ok.mod,I.bs,ZH I.ok.bsz I.sz,I.stack,I.stkFree,I.hok,I.bare⟩
theorem Inv.after {Q:VK}{u:Value}(I:Inv X pz σ H s)(h:CE X.stack X.prog X.w H s Q u s'):EP X pz σ Q u s':=by
 obtain⟨v,H',os,bare,un,hok,r,q⟩:=h
 obtain⟨hh,g,d,t,os'⟩:=s'
 obtain rfl:os'=s.os:=os
 exact⟨v,H',I.call (h':=hh) (g':=g) (d':=d) (t':=t) (ch:=[]) un hok bare (fun b z=>absurd z (by simp)),r,q⟩
end
def rD (sp:Sp)(dvs:List V)(E:XK)(t:TA):TE:=fun σ H Q=>t σ H fun vs H1=>sp (vs++dvs) H1 Q E
def Binds (K:Kq)(fd:FuncData)(ps:List Str)(ds:List Value):Prop:=
 ∀ (s:Shared) (us:List Value),K.In s.heap→(us++ds).length=ps.length→BindsTo s fd ⟨us,[]⟩ (ps.zip (us++ds))
theorem Binds.all {K:Kq}{fd:FuncData}{ps:List Str}(h:∀ us:List Value,us.length=ps.length→bindArgs fd ⟨us,[]⟩=pure (ps.zip us)):Binds K fd ps []:=fun s us _ hl=>by
 rw[YC] at hl ⊢
 exact .of_eq (h us hl)
def mT (CX:CXT)(X:Cx)(E:XK):Prop:=∀ (pz:Kp) (σ:St) (H:Hp) (s:Shared) (e:Value) (s':Shared),Inv X pz σ H s→CX X.stack H s E e s'→X.xe e s'
section
variable {X:Cx} {CX:CXT} {k:Nat} {f C:Addr} {fd:FuncData} {ps:List Str} {sp:Sp} {dvs:List V} {ds:List Value} {E:XK} {x m:Str} {p pos apos:Pos} {e o:Expr} {es:List Expr} {ta:TE} {t:TA}
theorem vZ {pz:Kp}{σ:St}{H:Hp}{s:Shared}{Q:VK}{us:List Value}{vs:List V}(F:FnOk X.prog X.w X.K X.mg X.base CX k f fd ps sp)(hr:Room k X.A)(hb:Binds X.K fd ps ds)(hd:Vals dvs ds)(hx:mT CX X E)
  (I:Inv X pz σ H s) (r:Vals vs us) (h:sp (vs++dvs) H Q E):wpAny (model X.prog X.w) X.A (call (.ref f) us) (EP X pz σ Q) X.xe s:=by
 have r2:Vals (vs++dvs) (us++ds):=r.append hd
 have hl:(us++ds).length=ps.length:=by rw[← r2.length];exact F.len _ _ _ _ h
 refine XO (Xm (F.run X.A X.stack s H ⟨us,[]⟩ (us++ds) (vs++dvs) Q E hr I.env0 (hb s us I.kIn hl) r2 h) fun r s' hq=>?_)
 cases r with
 | error e=>exact hx pz σ H s e s' I hq
 | ok fl=>
  cases fl with
  | ret u=>exact I.after hq
  | next=>exact False.elim hq
  | brk=>exact False.elim hq
  | cont=>exact False.elim hq
theorem f6 (F:FnOk X.prog X.w X.K X.mg X.base CX k f fd ps sp)(hr:Room k X.A)(hg:Gl X x)(hm:X.mg x=some (.ref f))(hk:PySem.W.keepIn X.K (.ref f)=true)(hb:Binds X.K fd ps ds)(hd:Vals dvs ds)(hx:mT CX X E)
  (ha:PA X (e::es) t) (hdb:(x == ("__debug__":Str))=false:=by decide) (he:starEach (e::es) X.env=(false,eval e X.env)::starEach es X.env:=by rfl) (hpl:(backTo pos (starEach es X.env)).any (·.1)=false:=by rfl) :
  PE X (.Call (.Name x p) (e::es) [] pos) (rD sp dvs E t):=by
 intro pz s σ H Q I h
 refine ZI (dP I hg hm ?_ hdb)
 refine PySem.W.callWith_K (h₀:=X.base) I.ok.mod.kin hk (aR (ha pos pz s σ H _ I h) fun us s1 vs H1 I1 r q=>⟨I1.kIn,?_⟩) he hpl
 exact vZ F hr hb hd hx I1 r q
end
section
variable {X:Cx} {CX:CXT} {k:Nat} {f C:Addr} {fd:FuncData} {ps ks:List Str} {sp:Sp} {E:XK} {x m:Str} {p pos apos kpos:Pos} {e o:Expr} {es:List Expr} {kws:List Keyword} {te ta:TE} {t tk:TA} {nm:Option Str}
variable {g:List Value→List Value→List Value} {gV:List V→List V→List V}
end
structure FnScope (N P:List Str) (sc:Scope):Prop where
 kind:sc.kind=.function
 co:sc.isCoroutine=false
 gen:sc.isGenerator=false
 nd:N.Nodup
 pre:N.take P.length=P
 par:∀ x∈P,sc.names.lookup x=some .local∨sc.names.lookup x=some .cell
 nofree:∀ y∈sc.names,y.2≠.free
theorem jp {kindOf:Str→Option NameKind}{x:Str}:∀ {binds:List (Str×Value)} {m:Ks},(∀ v,(x,v)∉binds)→bindL kindOf binds m x=m x
 | [],_,_=>rfl
 | (n,v)::r,m,h=>by
  unfold bindL
  rw[jp fun w hw=>h w (Yb _ hw)]
  split
  ·have:x≠n:=by rintro rfl;exact h v Yc
   simp[this]
  ·rfl
theorem iI {kindOf:Str→Option NameKind}{x:Str}:∀ {binds:List (Str×Value)} {m:Ks},(∀ v,(x,v)∉binds)→bindC kindOf binds m x=m x
 | [],_,_=>rfl
 | (n,v)::r,m,h=>by
  unfold bindC
  rw[iI fun w hw=>h w (Yb _ hw)]
  split
  ·rfl
  ·have:x≠n:=by rintro rfl;exact h v Yc
   simp[this]
theorem iQ {kindOf:Str→Option NameKind}{x:Str}{v:Value}:∀ {P:List Str} {vs:List Value} {i:Nat} {m:Ks},P.Nodup→P[i]?=some x→vs[i]?=some v→kindOf x=some .local→
  bindL kindOf (P.zip vs) m x=some v
 | [],_,_,_,_,h,_,_=>by simp at h
 | _::_,[],_,_,_,_,h,_=>by simp at h
 | p::P,w::vs,0,m,nd,h1,h2,hk=>by
  simp at h1 h2;subst h1;subst h2
  show bindL kindOf ((p,w)::P.zip vs) m p=_
  unfold bindL
  rw[jp fun v hv=>(Zo.mp nd).1 (XT hv).1,Yk hk]
  simp
 | p::P,w::vs,i+1,m,nd,h1,h2,hk=>by
  show bindL kindOf ((p,w)::P.zip vs) m x=_
  unfold bindL
  exact iQ (i:=i) (Zo.mp nd).2 (by simpa using h1) (by simpa using h2) hk
theorem js {kindOf:Str→Option NameKind}{x:Str}{v:Value}:∀ {P:List Str} {vs:List Value} {i:Nat} {m:Ks},P.Nodup→P[i]?=some x→vs[i]?=some v→kindOf x≠some .local→
  bindC kindOf (P.zip vs) m x=some v
 | [],_,_,_,_,h,_,_=>by simp at h
 | _::_,[],_,_,_,_,h,_=>by simp at h
 | p::P,w::vs,0,m,nd,h1,h2,hk=>by
  simp at h1 h2;subst h1;subst h2
  show bindC kindOf ((p,w)::P.zip vs) m p=_
  unfold bindC
  rw[iI fun v hv=>(Zo.mp nd).1 (XT hv).1,Ym hk]
  simp
 | p::P,w::vs,i+1,m,nd,h1,h2,hk=>by
  show bindC kindOf ((p,w)::P.zip vs) m x=_
  unfold bindC
  exact js (i:=i) (Zo.mp nd).2 (by simpa using h1) (by simpa using h2) hk
def start (N:List Str)(vs:List V):St:=vs.map some++List.replicate (N.length-vs.length) none
def b9 (CX:CXT)(P:Program)(w:World)(K:Kq)(mg:Ks)(base:Heap)(N:List Str)(qual:Str)(scope:Scope)(f:Addr)(cd:Value)(A:Around)(outer:List Env)(s:Shared)(H:Hp)(E:XK):Cx where
 prog:=P
 w:=w
 K:=K
 mg:=mg
 base:=base
 A:=A.deeper (envOfC qual scope s.heap.objs.size f cd)
 N:=N
 s₀:=s
 H₀:=H
 env:=envOfC qual scope s.heap.objs.size f cd
 outer:=outer
 stack:=envOfC qual scope s.heap.objs.size f cd::outer
 ex:=[]
 calm:=true
 fn:=fun _=>true
 pn:=[]
 xe:=fun e s'=>wpAny (model P w) (A.deeper (envOfC qual scope s.heap.objs.size f cd)) (leaving (envOfC qual scope s.heap.objs.size f cd) e) (fun _ s''=>CX outer H s E e s'') (fun e' s''=>CX outer H s E e' s'') s'
theorem lq {sc:Scope}{n:Nat}{x:Str}(h:sc.names.lookup x=some .cell):∃ c,(cellsFrom n sc.names []).lookup x=some c:=by
 have q:=Xb sc.names n [] (.inl h)
 exact Xn.mp q
theorem iJ {CX:CXT}{P:Program}{w:World}{K:Kq}{mg:Ks}{base:Heap}{N ps:List Str}{qual:Str}{scope:Scope}{f:Addr}{cd:Value}{A:Around}{outer:List Env}{s s1:Shared}{H:Hp}{E:XK}{us:List Value}{vs:List V}
  (S:FnScope N ps scope) (hd:A.handled=none) (e0:Env0 P w K mg base A outer s H) (hl:vs.length=ps.length) (r:Vals vs us)
  (x:InCallC s s.heap.objs.size (bindL (envOfC qual scope s.heap.objs.size f cd).kindOf (ps.zip us) fun _=>none) (cellsFrom (s.heap.objs.size+1) scope.names []) (bindC (envOfC qual scope s.heap.objs.size f cd).kindOf (ps.zip us) fun _=>none) s1) :
  Inv (b9 CX P w K mg base N qual scope f cd A outer s H E) [] (start N vs) H s1:=by
 have hpl:ps.length≤N.length:=by have:=Zz List.length S.pre;rw[Zt] at this;omega
 obtain⟨h1,tk,rfl,hk⟩:=x.done
 have noA:∀ b:Addr,b∉(b9 CX P w K mg base N qual scope f cd A outer s H E).ex:=fun b z=>absurd (show b∈([]:List Addr) from z) (by simp)
 refine⟨⟨e0.mod,S.kind,rfl,rfl,Yr _,fun y z c h1 h2=>?_,fun y hy=>?_,fun y c _ h=>?_,fun _=>hd,Around.frames_deeper e0.frames,.inr ⟨rfl,rfl⟩,fun b z=>absurd z (noA b),e0.bs,e0.bsz,fun b _ _=>noA b,fun b z=>absurd z (noA b),e0.funs,e0.frf⟩,
  rfl,e0.bare,Un.kept hk,⟨_,x.toInCall.ns,fun i y v h1 h2 h3=>?_⟩,fun y c h=>⟨_,x.cell y c h⟩,e0.hok.fresh (Yr _),fun y c h=>?_,fun p hp=>absurd (show p∈([]:Kp) from hp) (by simp),e0.hok.kept hk,?_⟩
 ·exact name_of_addr x.apart (Zh h1) (Zh h2)
 ·have hy:scope.names.lookup y=some .cell∨scope.names.lookup y=some .free:=hy
  rcases hy with hy | hy
  ·exact lq hy
  ·exact absurd rfl (S.nofree _ (Zh hy))
 ·exact Xl (x.above y c (Zh h))
 ·have hi:i<vs.length:=by
   unfold start at h2
   by_cases hi:i<vs.length
   ·exact hi
   ·rw[YQ (by simpa using hi)] at h2
    rw[ZV] at h2
    split at h2 <;> cases h2
  have ha:vs[i]?=some v:=by
   unfold start at h2
   rw[Zb (by simpa using hi),YE] at h2
   cases e:vs[i]? with
   | none=>rw[e] at h2;cases h2
   | some a=>rw[e] at h2;cases h2;rfl
  obtain⟨u,hu,rv⟩:=r.get ha
  have hp:ps[i]?=some y:=by
   rw[← S.pre,Xo (by omega)];exact h1
  have ndP:ps.Nodup:=by rw[← S.pre];exact S.nd.sublist (List.take_sublist _ _)
  refine⟨u,rv,?_⟩
  rcases S.par y (Zk hp) with k | k
  ·exact .inl ⟨k,iQ ndP hp hu k⟩
  ·obtain⟨c,e⟩:=lq (n:=s.heap.objs.size+1) k
   refine .inr ⟨.inl k,c,e,?_⟩
   have q:=x.cell y c e
   rw[js ndP hp hu (by show scope.names.lookup y≠_;rw[k];decide)] at q
   exact q
 ·exact e0.hok.fresh (Xl (x.above y c (Zh h)))
 ·unfold start
  show _=N.length
  rw[Yh,Yf,YM]
  omega
theorem qI {CX:CXT}{P:Program}{w:World}{K:Kq}{mg:Ks}{base:Heap}{k:Nat}{f:Addr}{name qual:Str}{params:Arguments}{body:List Stmt}{scope:Scope}{dV kV doc pm cdv ct oc:Value}{an od:Option Addr}
  {osl:Array (Option Value)} {N ps:List Str} {sp:Sp} (lk:K.lookup f=some ⟨oc,od,.func (PySem.W.fnOf name qual params body scope dV kV doc pm an cdv ct),osl⟩) (hcd:PySem.W.codeIn K cdv qual=true) (S:FnScope N ps scope)
  (len:∀ vs H Q E,sp vs H Q E→vs.length=ps.length)
  (hbody:∀ (A:Around) (outer:List Env) (s:Shared) (H:Hp) (vs:List V) (Q:VK) (E:XK),Room k (A.deeper (envOfC qual scope s.heap.objs.size f cdv))→sp vs H Q E→
   ∃ t,PSs (b9 CX P w K mg base N qual scope f cdv A outer s H E) body t∧t { nx:=fun _ H'=>Q .non H',rt:=Q } (start N vs) H) :
  FnOk P w K mg base CX (k+1) f (PySem.W.fnOf name qual params body scope dV kV doc pm an cdv ct) ps sp:=by
 refine⟨len,fun A outer s H args us vs Q E hr e0 hb r hsp=>?_⟩
 have hl:=len _ _ _ _ hsp
 have KX:K.In s.heap:=e0.mod.kin.keeps fun b o e=>(e0.bs b o e).1
 have lim:s.heap.NoLimit:=e0.mod.nolimit.keeps fun b o e=>(e0.bs b o e).1
 have hkind:∀ y∈ps.zip us,scope.names.lookup y.1=some .local∨(scope.names.lookup y.1=some .cell∧((cellsFrom (s.heap.objs.size+1) scope.names []).lookup y.1).isSome=true):=fun ⟨n,v⟩ hy=>by
  rcases S.par n (XT hy).1 with q | q
  ·exact .inl q
  ·exact .inr ⟨q,Xb _ _ _ (.inl q)⟩
 refine codeAny_call_function hr.depth (KX _ _ lk) rfl S.co S.gen rfl (PySem.W.codeRec_of KX hcd) (hb _ _ _ _ ?_)
 refine wpAny_newFunctionEnv_cells S.kind hkind fun env he s1 x=>?_
 subst he
 refine⟨lim.keeps x.toInCall.keep,codeAny_func ?_⟩
 obtain⟨t,ht,hq⟩:=hbody A outer s H vs Q E (hr.deeper _) hsp
 have I:Inv (b9 CX P w K mg base N qual scope f cdv A outer s H E) [] (start N vs) H s1:=iJ S hr.hd e0 hl r x
 refine Zn (ht [] s1 (start N vs) H _ I hq) (fun fl s' hs=>?_) fun e s' hs=>hs
 have fin:∀ {σ':St} {H':Hp} {v:V} {u:Value},Inv (b9 CX P w K mg base N qual scope f cdv A outer s H E) [] σ' H' s'→RelV v u→Q v H'→CE outer P w H s Q u s':=
  fun {σ' H' v u} J rv q=>⟨v,H',J.os,J.bare,J.base,J.hok,rv,q⟩
 cases fl with
 | ret u=>
  obtain⟨v,σ',H',J,rv,q⟩:=hs
  exact fin J rv q
 | next=>
  obtain⟨σ',H',J,q⟩:=hs
  exact fin (v:=V.non) (u:=Value.none) J rfl q
 | brk=>
  obtain⟨_,_,_,q⟩:=hs
  exact False.elim q
 | cont=>
  obtain⟨_,_,_,q⟩:=hs
  exact False.elim q
section
variable {X:Cx} {x:Str} {p pos:Pos} {e:Expr} {es:List Expr} {t:TA} {id T:String} {r:List V→Hp→VK→Prop}
def tCB (r:List V→Hp→VK→Prop)(t:TA):TE:=fun σ H Q=>t σ H fun vs H1=>r vs H1 Q
theorem bE (hc:CallR X (.builtin id) r)(hg:Gl X x)(hm:X.mg x=none)(hv:bootBuiltins x=some (.builtin id))(ha:PA X (e::es) t)(hn:x ≠ "__name__":=by decide)(hdb:(x == ("__debug__":Str))=false:=by decide)
  (he:starEach (e::es) X.env=(false,eval e X.env)::starEach es X.env:=by rfl) (hpl:(backTo pos (starEach es X.env)).any (·.1)=false:=by rfl):PE X (.Call (.Name x p) (e::es) [] pos) (tCB r t):=by
 intro pz s σ H Q I h
 refine ZI (gZ I hg hm hv ?_ hn hdb)
 exact PyProof.Rows.callWith_builtin1 (aR (ha pos pz s σ H _ I h) fun us s1 vs H1 I1 r1 q1=>hc pz s1 σ H1 vs us Q I1 r1 q1) he hpl
theorem bL (hc:CallR X (.type T) r)(hg:Gl X x)(hm:X.mg x=none)(hv:bootBuiltins x=some (.type T))(ha:PA X (e::es) t)(hn:x ≠ "__name__":=by decide)(hdb:(x == ("__debug__":Str))=false:=by decide)
  (he:starEach (e::es) X.env=(false,eval e X.env)::starEach es X.env:=by rfl) (hpl:(backTo pos (starEach es X.env)).any (·.1)=false:=by rfl):PE X (.Call (.Name x p) (e::es) [] pos) (tCB r t):=by
 intro pz s σ H Q I h
 refine ZI (gZ I hg hm hv ?_ hn hdb)
 exact Xd (aR (ha pos pz s σ H _ I h) fun us s1 vs H1 I1 r1 q1=>hc pz s1 σ H1 vs us Q I1 r1 q1) he hpl
end
end L2
namespace HT
open PySem PyProof.Rows
theorem rcLt_int (A:Around)(s:Shared)(a:Int)(t:Tok)(c:Int)(u:Tok)(prog:Program)(w:World)(E:Value→Shared→Prop)(Q:Value→Shared→Prop)(h:Q (.bool (decide (a<c))) s) :
  wpAny (model prog w) A (richCompare .Lt (.int a t) (.int c u)) Q E s:=
 (PyProof.Rows.lt_int h:wpAny (model prog w) A (compareOp .Lt (.int a t) (.int c u)) Q E s)
section
open PySem.SeqAt
open PySem.AutoSeq1 (wpAny_loadPart')
open PySem.MeetsSeq PySem.MeetsSeq2 PySem.MeetsSeq3
end
section
variable {prog:Program} {w:World} {A:Around} {E:Value→Shared→Prop} {s:Shared}
theorem cat_tup {t b:Addr}{vs ws:List Value}{Q:Value→Shared→Prop}(ht:IsTup s.heap t vs.toArray)(hb:IsTup s.heap b ws.toArray)(hv:vs≠[])
  (h1:ws=[]→Q (.ref t) s) (h2:ws≠[]→Q (.ref s.heap.objs.size) { s with heap:=s.heap.push { cls:=.type "tuple",data:=.seq (vs++ws).toArray } })
  (hsz:vs.length+ws.length≤sizeLine):wpAny (model prog w) A (binaryOp .Add (.ref t) (.ref b)) Q E s:=by
 obtain⟨⟨cls,dd,data,sl⟩,ho,hc,n,hd⟩:=id ht
 obtain⟨⟨cls2,dd2,data2,sl2⟩,ho2,hc2,n2,hd2⟩:=id hb
 simp only at hc hd hc2 hd2
 subst hc hd hc2 hd2
 have e:vs.toArray++ws.toArray=(vs++ws).toArray:=by simp
 by_cases hw:ws=[]
 ·exact concat_meets ⟨_,ho,rfl⟩ ⟨_,ho2,rfl⟩ noFill_tuple_add seq_tuple_add PySem.F.slot_tuple_add PySem.F.entry_tuple_add (PySem.F.args_tuple_add_2 _ _)
   (tuple_addW1 t b vs.toArray ws.toArray n n2 dd dd2 sl sl2 (by simpa using hv) (by simp[hw])) ⟨ho,ho2,h1 hw⟩
 ·refine concat_meets ⟨_,ho,rfl⟩ ⟨_,ho2,rfl⟩ noFill_tuple_add seq_tuple_add PySem.F.slot_tuple_add PySem.F.entry_tuple_add (PySem.F.args_tuple_add_2 _ _)
   (tuple_addW2 t b vs.toArray ws.toArray n n2 dd dd2 sl sl2 (by simpa using hv) (by simpa using hw) (by rw[List.size_toArray,List.size_toArray];exact hsz)) ⟨ho,ho2,?_⟩
  rw[e]
  exact h2 hw
def sIx (n d:Nat):Option Int→Nat
 | none=>d
 | some v=>if v<0 then (v+(n:Int)).toNat else min v.toNat n
end
end HT
namespace L2
open PySem PySem.Spec PyProof.Rows
abbrev TO:=St→Hp→(Option Int→Hp→Prop)→Prop
def PO (X:Cx)(e:Option Expr)(t:TO):Prop:=
 ∀ (pz:Kp) (s:Shared) (σ:St) (H:Hp) (Q:Option Int→Hp→Prop),Inv X pz σ H s→t σ H Q→
  wpAny (model X.prog X.w) X.A (evalPart e X.env) (fun u s'=>∃ o H',Inv X pz σ H' s'∧IsPart u o∧Q o H') X.xe s
def sW:TO:=fun _ H Q=>Q none H
def xS (t:TE):TO:=fun σ H Q=>t σ H fun x H1=>∃ i,x=.int i∧Q (some i) H1
section
variable {X:Cx} {e:Expr} {te:TE} {lo hi:Option Expr} {tl th:TO} {pos p2:Pos}
theorem uo:PO X none sW:=by
 intro pz s σ H Q I h
 rw[evalPart_none]
 exact Yu ⟨none,H,I,.none,h⟩
theorem sv (h:PE X e te):PO X (some e) (xS te):=by
 intro pz s σ H Q I hw
 rw[evalPart_some]
 refine aR (h pz s σ H _ I hw) fun u s1 x H1 I1 r1 q1=>?_
 obtain⟨i,rfl,q⟩:=q1
 obtain⟨t,rfl⟩:=r1
 exact⟨some i,H1,I1,.int i t,q⟩
def SlR (X:Cx)(r:V→Option Int→Option Int→Hp→VK→Prop):Prop:=
 ∀ (pz:Kp) (s:Shared) (σ:St) (H:Hp) (x:V) (v vl vu:Value) (lo hi:Option Int) (sl:Addr) (Q:VK),Inv X pz σ H s→RelV x v→s.heap.IsSliceOf sl vl vu .none→IsPart vl lo→IsPart vu hi→r x lo hi H Q→
  ∃ T id,typeLookup (.type T) "__getitem__"=pure (some (.builtin id))∧s.TypeIs v T∧wpAny (model X.prog X.w) X.A (getItem v (.ref sl)) (EP X pz σ Q) X.xe s
def tSl (r:V→Option Int→Option Int→Hp→VK→Prop)(te:TE)(tl th:TO):TE:=fun σ H Q=>te σ H fun x H1=>tl σ H1 fun l H2=>th σ H2 fun u H3=>r x l u H3 Q
theorem pL {r:V→Option Int→Option Int→Hp→VK→Prop}(hr:SlR X r)(he:PE X e te)(hl:PO X lo tl)(hu:PO X hi th):PE X (.Subscript e (.Slice lo hi none p2) pos) (tSl r te tl th):=by
 intro pz s σ H Q I h
 refine Subscript_ (aR (he pz s σ H _ I h) fun v s1 x H1 I1 r1 q1=>?_)
 refine wpAny_Slice (aR (hl pz s1 σ H1 _ I1 q1) fun vl s2 l H2 I2 pl q2=>aR (hu pz s2 σ H2 _ I2 q2) fun vu s3 u H3 I3 pu q3=>?_)
 rw[evalPart_none]
 refine Yu ?_
 have I4:Inv X pz σ H3 { s3 with heap:=s3.heap.push { cls:=.type "slice",data:=.fields #[vl,vu,.none] } }:=I3.kept (t':=s3.toks) fun b ob q=>Yd _ q
 obtain⟨T,id,hT,ht,hg⟩:=hr pz { s3 with heap:=s3.heap.push { cls:=.type "slice",data:=.fields #[vl,vu,.none] } } σ H3 x v vl vu l u s3.heap.objs.size Q I4 r1 (Heap.IsSliceOf.new ..) pl pu q3
 show wpAny (model X.prog X.w) X.A (subscriptTail e (.Slice lo hi none p2) v (.ref s3.heap.objs.size)) (EP X pz σ Q) X.xe { s3 with heap:=s3.heap.push { cls:=.type "slice",data:=.fields #[vl,vu,.none] } }
 exact tail_any (ops:=[.ref s3.heap.objs.size,v]) ht hT hg (by with_unfolding_all rfl)
def oC (xs:List V)(lo hi:Option Int):List V:=(xs.drop (HT.sIx xs.length 0 lo)).take (HT.sIx xs.length xs.length hi-HT.sIx xs.length 0 lo)
theorem kB (xs:List V)(lo hi:Option Int):(oC xs lo hi).length≤xs.length:=by
 unfold oC
 rw[Zt,Zq]
 omega
def wY (K:Kq):R2:=fun x y H Q=>∃ a b xs ys,x=.ref a∧y=.ref b∧SqT K H a xs∧SqT K H b ys∧xs≠[]∧xs.length+ys.length≤sizeLine ∧
 (ys=[]→Q (.ref a) H)∧(ys≠[]→∀ p,H p=none→Q (.ref p) (upd H p (.tup (xs++ys))))
theorem Vals.nil_iff {xs:List V}{us:List Value}(r:Vals xs us):us=[]↔xs=[]:=by
 cases r with
 | nil=>simp
 | cons _ _=>simp
theorem sL:OpR X (binaryOp .Add) (wY X.K):=by
 intro pz s σ H x y v u Q I rx ry h
 obtain⟨a,b,xs,ys,rfl,rfl,ha,hb,hx,hz,q1,q2⟩:=h
 cases rx
 cases ry
 obtain⟨its,r1,p1,_⟩:=I.tuple ha
 obtain⟨its2,r2,p2,_⟩:=I.tuple hb
 refine HT.cat_tup p1 p2 (fun z=>hx (r1.nil_iff.mp z)) (fun z=>⟨.ref a,H,I,rfl,q1 (r2.nil_iff.mp z)⟩) (fun z=>?_) (by rw[← r1.length,← r2.length];exact hz)
 refine⟨.ref s.heap.objs.size,_,I.laid (t':=s.toks) (o:=.tup (xs++ys)) (fun b ob q=>Yd _ q) (Yr _) ?_,rfl,q2 (fun w=>z (r2.nil_iff.mpr w)) _ (I.hok.fresh (Yr _))⟩
 exact⟨by rw[Yh];exact hz,_,r1.append r2,IsTup.new _ _,NoD.new _ _⟩
end
def ixN (n:Nat)(i:Int):Option Nat:=if 0≤i then (if i<n then some i.toNat else none) else if -(n:Int)≤i then some (i+n).toNat else none
def atI {α:Type}(xs:List α)(i:Int):Option α:=(ixN xs.length i).bind fun j=>xs[j]?
theorem nH {n:Nat}{i:Int}{j:Nat}(h:ixN n i=some j):seqIndex? i n=some j∧j<n∧-(n:Int)≤i∧i<n:=by
 unfold ixN at h
 by_cases h0:0≤i
 ·rw[Yk h0] at h
  by_cases h1:i<n
  ·rw[Yk h1] at h
   have e:i.toNat=j:=YH h
   exact⟨by rw[seqIndex_of h0 h1,e],by omega,by omega,h1⟩
  ·rw[Ym h1] at h;cases h
 ·rw[Ym h0] at h
  by_cases h1:-(n:Int)≤i
  ·rw[Yk h1] at h
   have e:(i+n).toNat=j:=YH h
   exact⟨by rw[seqIndex_neg (by omega) h1,e],by omega,h1,by omega⟩
  ·rw[Ym h1] at h;cases h
theorem jD {α:Type}{xs:List α}{i:Int}{v:α}(h:atI xs i=some v):∃ j,seqIndex? i xs.length=some j∧xs[j]?=some v∧j<xs.length∧-(xs.length:Int)≤i∧i<xs.length:=by
 unfold atI at h
 cases e:ixN xs.length i with
 | none=>rw[e] at h;cases h
 | some j=>
  rw[e] at h
  obtain⟨h1,h2,h3,h4⟩:=nH e
  exact⟨j,h1,h,h2,h3,h4⟩
theorem jI {α:Type}{xs:List α}{j:Nat}{v:α}(h:xs[j]?=some v):atI xs (j:Int)=some v:=by
 have hj:j<xs.length:=(Yi.mp h).1
 have e:ixN xs.length (j:Int)=some j:=by
  unfold ixN
  rw[Yk (by omega),Yk (by omega)];simp
 unfold atI;rw[e];exact h
def nK (b:Expr):Prop:=∀ o i,subscripted b false o i=operate [o,i] (getItem o i)
def IxR (X:Cx)(r:R2):Prop:=
 ∀ (value slice:Expr) (pz:Kp) (s:Shared) (σ:St) (H:Hp) (x y:V) (v u:Value) (Q:VK),Inv X pz σ H s→RelV x v→RelV y u→r x y H Q→
  subscripted slice false v u=operate [v,u] (getItem v u)→wpAny (model X.prog X.w) X.A (subscriptTail value slice v u) (EP X pz σ Q) X.xe s
def MtR (X:Cx)(id:String)(r:V→List V→Hp→VK→Prop):Prop:=
 ∀ (pz:Kp) (s:Shared) (σ:St) (H:Hp) (x:V) (xs:List V) (v:Value) (us:List Value) (Q:VK),Inv X pz σ H s→RelV x v→Vals xs us→r x xs H Q→
  wpAny (model X.prog X.w) X.A (call (.builtin id) (v::us)) (EP X pz σ Q) X.xe s
section
variable {X:Cx} {a b:Expr} {ta tb:TE} {pos:Pos}
theorem IxR.or {r r':R2}(h:IxR X r)(h':IxR X r'):IxR X (fun x y H Q=>r x y H Q∨r' x y H Q):=by
 intro value slice pz s σ H x y v u Q I rx ry q hs
 rcases q with q | q
 ·exact h value slice pz s σ H x y v u Q I rx ry q hs
 ·exact h' value slice pz s σ H x y v u Q I rx ry q hs
theorem xR {r:R2}(hr:IxR X r)(ha:PE X a ta)(hb:PE X b tb)(hs:nK b):PE X (.Subscript a b pos) (tOp r ta tb):=by
 intro pz s σ H Q I h
 exact Subscript_ (vC ha hb I h fun v u s2 x y H2 I2 rx ry q=>hr a b pz s2 σ H2 x y v u Q I2 rx ry q (hs _ _))
def xb (K:Kq):R2:=fun x y H Q=>∃ p xs i v,x=.ref p∧y=.int i∧SqL K H p xs∧atI xs i=some v∧Q v H
def xH (K:Kq):R2:=fun x y H Q=>∃ p xs i v,x=.ref p∧y=.int i∧SqT K H p xs∧atI xs i=some v∧Q v H
def xB:R2:=fun x y H Q=>∃ z i c,x=.str z∧y=.int i∧z.length≤sizeLine∧atI z.cps.toList i=some c∧Q (.str ⟨#[c]⟩) H
theorem sJ:IxR X (xb X.K):=by
 intro value slice pz s σ H x y v u Q I rx ry h hs
 obtain⟨p,xs,i,z,rfl,rfl,hq,he,q⟩:=h
 cases rx
 obtain⟨t,rfl⟩:=ry
 obtain⟨its,r,pl,hz⟩:=I.list hq
 obtain⟨j,h1,h2,h3,h4,h5⟩:=jD he
 obtain⟨w,ew,rw'⟩:=r.get h2
 have hl:=r.length
 have hn:=fF
 have fin:EP X pz σ Q w s:=⟨z,H,I,rw',q⟩
 by_cases h0:0≤i
 ·have hj:i.toNat=j:=by
   rw[seqIndex_of h0 h5] at h1
   exact YH h1
  exact item_listR pl.isList h0 (by omega) (by rw[hj];simpa using ew) fin hs
 ·have hj:(i+(its.toArray.size:Int)).toNat=j:=by
   rw[seqIndex_neg (by omega) h4] at h1
   rw[Yo,← hl]
   exact YH h1
  exact subscriptTail_builtinR (x:=w) pl.isList.typeIs slot_list_getitem.lookup
   (wpAny_getItem_list_neg (Q:=fun r s'=>r=w∧EP X pz σ Q r s') pl.isList (by omega) (by rw[Yo] <;> omega) (by omega) (by rw[hj];simpa using ew) ⟨rfl,fin⟩) hs
theorem vY:IxR X (xH X.K):=by
 intro value slice pz s σ H x y v u Q I rx ry h hs
 obtain⟨p,xs,i,z,rfl,rfl,hq,he,q⟩:=h
 cases rx
 obtain⟨t,rfl⟩:=ry
 obtain⟨its,r,pl,hz⟩:=I.tuple hq
 obtain⟨j,h1,h2,h3,h4,h5⟩:=jD he
 obtain⟨w,ew,rw'⟩:=r.get h2
 have hl:=r.length
 have hn:=fF
 have fin:EP X pz σ Q w s:=⟨z,H,I,rw',q⟩
 exact subscriptTail_builtinR (x:=w) pl.typeIs slot_tuple_getitem.lookup
  (getItem_tuple (j:=j) (Q:=fun r s'=>r=w∧EP X pz σ Q r s') pl (by omega) (by omega) (by rw[Yo,← hl];exact h1) (by simpa using ew) ⟨rfl,fin⟩) hs
theorem vL:IxR X xB:=by
 intro value slice pz s σ H x y v u Q I rx ry h hs
 obtain⟨z,i,c,rfl,rfl,hz,he,q⟩:=h
 obtain⟨t,rfl⟩:=rx
 obtain⟨t',rfl⟩:=ry
 obtain⟨j,h1,h2,h3,h4,h5⟩:=jD he
 have hl:z.cps.toList.length=z.length:=by simp[Str.length]
 rw[hl] at h1 h4 h5
 have hn:=fF
 exact tail_any (typeIs_str s z t) slot_str_getitem.lookup (getItem_str (c:=c) (by
  have e1:decide (i < -(2 ^ 63:Int))=false:=Yz (by omega)
  have e2:decide (i ≥ 2 ^ 63)=false:=Yz (by omega)
  rw[e1,e2,Bool.or_false]) (by rw[h1];simpa using h2) ⟨.str ⟨#[c]⟩,H,I.tok _,⟨_,rfl⟩,q⟩) hs
def rIx (K:Kq):R2:=fun x y H Q=>xb K x y H Q∨xH K x y H Q∨xB x y H Q
theorem ww:IxR X (rIx X.K):=sJ.or (vY.or vL)
theorem mK (its:List Value)(n j:Nat)(u:Value):Obj.mapSeq (·.setIfInBounds j u) { cls:=.type "list",data:=.seq its.toArray n }={ cls:=.type "list",data:=.seq (its.set j u).toArray n }:=by
 simp[Obj.mapSeq]
theorem Inv.lst {pz:Kp}{σ:St}{H:Hp}{s:Shared}{p:Addr}{xs:List V}(I:Inv X pz σ H s)(h:H p=some (.lst xs)) :
  ∃ (its:List Value) (n:Nat),Vals xs its∧s.heap.get? p=some { cls:=.type "list",data:=.seq its.toArray n }∧xs.length≤sizeLine:=by
 obtain⟨z,its,n,r,e⟩:=I.hok p _ h
 exact⟨its,n,r,e,z⟩
theorem Inv.lstUpd {pz:Kp}{σ:St}{H:Hp}{s:Shared}{p:Addr}{xs ys:List V}{its its':List Value}{n n':Nat}{f:Obj→Obj}(I:Inv X pz σ H s)(h:H p=some (.lst xs))
  (ho:s.heap.get? p=some { cls:=.type "list",data:=.seq its.toArray n }) (hf:f { cls:=.type "list",data:=.seq its.toArray n }={ cls:=.type "list",data:=.seq its'.toArray n' }) (r:Vals ys its') (hz:ys.length≤sizeLine) (t:Nat) :
  Inv X pz σ (upd H p (.lst ys)) { s with heap:=s.heap.update p f,toks:=t }:=by
 have e:(s.heap.update p f).get? p=some { cls:=.type "list",data:=.seq its'.toArray n' }:=by
  rw[Heap.get?_update_self f ho (by rw[hf] <;> rfl),hf]
 refine I.write (x:=p) (e:=p) (by rw[h];trivial) (.inl rfl) (fun b u hb q=>(Heap.get?_update_other _ _ (Xj hb)).trans q) ⟨_,e⟩ ?_
 exact⟨hz,its',n',r,e⟩
def x3:V→V→V→Hp→(Hp→Prop)→Prop:=fun o i v H Q=>∃ p xs k j,o=.ref p∧i=.int k∧H p=some (.lst xs)∧ixN xs.length k=some j∧Q (upd H p (.lst (xs.set j v)))
theorem qK:xK X x3:=by
 intro pz s σ H o i v ov iv u Q I ro ri rv h
 obtain⟨p,xs,k,j,rfl,rfl,hp,hj,q⟩:=h
 cases ro
 obtain⟨t,rfl⟩:=ri
 obtain⟨its,n,r,ho,hz⟩:=I.lst hp
 obtain⟨h1,h2,h3,h4⟩:=nH hj
 have hl:=r.length
 have hn:=fF
 have I':Inv X pz σ (upd H p (.lst (xs.set j v))) { s with heap:=s.heap.update p (Obj.mapSeq (·.setIfInBounds j u)) }:=
  I.lstUpd hp ho (mK its n j u) (r.set rv j) (by rw[YI];exact hz) s.toks
 by_cases h0:0≤k
 ·have hk:k.toNat=j:=by
   rw[seqIndex_of h0 h4] at h1
   exact YH h1
  exact PySem.W.ki_setAt ho h0 (by omega) (by rw[Yo,← hl];exact h4) (by rw[hk];exact⟨_,I',q⟩)
 ·have hk:(k+(its.toArray.size:Int)).toNat=j:=by
   rw[seqIndex_neg (by omega) h3] at h1
   rw[Yo,← hl]
   exact YH h1
  exact PySem.W.ki_setBack ho (by omega) (by rw[Yo,← hl];exact h3) (by omega) (by rw[hk];exact⟨_,I',q⟩)
theorem jE (lo hi:Option Int)(n:Nat):(sliceBounds lo hi none n).1=((HT.sIx n 0 lo:Nat):Int)∧(sliceBounds lo hi none n).2.1=((HT.sIx n n hi:Nat):Int)∧(sliceBounds lo hi none n).2.2=1:=by
 refine⟨?_,?_,rfl⟩
 ·cases lo with
  | none=>simp[sliceBounds,HT.sIx]
  | some i=>
   simp only[sliceBounds,HT.sIx,Option.getD_none,show (1:Int) > 0 by decide,if_true]
   by_cases h:i<0
   ·simp only[h,if_true] <;> omega
   ·simp only[h,if_false] <;> omega
 ·cases hi with
  | none=>simp[sliceBounds,HT.sIx]
  | some i=>
   simp only[sliceBounds,HT.sIx,Option.getD_none,show (1:Int) > 0 by decide,if_true]
   by_cases h:i<0
   ·simp only[h,if_true] <;> omega
   ·simp only[h,if_false] <;> omega
theorem iB (its:List Value)(lo hi:Option Int):slicePick its.toArray lo hi none=((its.drop (HT.sIx its.length 0 lo)).take (HT.sIx its.length its.length hi-HT.sIx its.length 0 lo)).toArray:=by
 obtain⟨h1,h2,h3⟩:=jE lo hi its.toArray.size
 unfold slicePick
 rw[h1,h2,h3]
 simp only[sliceRange_one,pick_run,Yo] <;> rfl
def yL (K:Kq):V→Option Int→Option Int→Hp→VK→Prop:=fun x lo hi H Q=>∃ a xs,x=.ref a∧SqL K H a xs∧∀ p,H p=none→Q (.ref p) (upd H p (.lst (oC xs lo hi)))
theorem t5:SlR X (yL X.K):=by
 intro pz s σ H x v vl vu lo hi sl Q I rx hs pl pu h
 obtain⟨a,xs,rfl,hx,q⟩:=h
 cases rx
 obtain⟨its,r,ht,hz⟩:=I.list hx
 have hlen:=r.length
 refine⟨"list",_,slot_list_getitem.lookup,ht.isList.typeIs,?_⟩
 refine wpAny_getItem_list_slice ht.isList hs pl pu .none (by simp) ?_ (by rw[Yo] <;> omega)
 rw[iB,← hlen]
 refine⟨.ref s.heap.objs.size,_,I.laid (t':=s.toks) (o:=.lst (oC xs lo hi)) (fun b ob q=>Yd _ q) (Yr _) ?_,rfl,q _ (I.hok.fresh (Yr _))⟩
 exact⟨ZH (kB xs lo hi) hz,_,0,(r.drop (HT.sIx xs.length 0 lo)).take (HT.sIx xs.length xs.length hi-HT.sIx xs.length 0 lo),Yp _ rfl⟩
theorem j7:CallR X (.builtin "len") (fun xs H Q=>∃ p ys,xs=[.ref p]∧(SqL X.K H p ys∨SqT X.K H p ys)∧Q (.int ys.length) H):=by
 intro pz s σ H xs us Q I r h
 obtain⟨p,ys,rfl,hq,q⟩:=h
 obtain⟨u,rfl,rx⟩:=cU r
 cases rx
 have hn:=fF
 rcases hq with hq | hq
 ·obtain⟨its,r',pl,hz⟩:=I.list hq
  have hlen:=r'.length
  exact Calls.call_len_list pl.isList (by simp only[Yo] <;> omega) ⟨.int ys.length,H,I.tok _,⟨s.toks+1,by rw[Yo,hlen]⟩,q⟩
 ·obtain⟨its,r',pl,hz⟩:=I.tuple hq
  have hlen:=r'.length
  exact len_tuple pl (by simp only[Yo] <;> omega) ⟨.int ys.length,H,I.tok _,⟨s.toks+1,by rw[Yo,hlen]⟩,q⟩
theorem kA:CallR X (.builtin "len") (fun xs H Q=>∃ z,xs=[.str z]∧z.length≤sizeLine∧Q (.int z.length) H):=by
 intro pz s σ H xs us Q I r h
 obtain⟨z,rfl,hz,q⟩:=h
 obtain⟨u,rfl,t,rfl⟩:=cU r
 have hn:=fF
 exact len_str (by omega) ⟨.int z.length,H,I.tok _,⟨_,rfl⟩,q⟩
theorem CallR.or {f:Value}{r r':List V→Hp→VK→Prop}(h:CallR X f r)(h':CallR X f r'):CallR X f (fun xs H Q=>r xs H Q∨r' xs H Q):=by
 intro pz s σ H xs us Q I rs q
 rcases q with q | q
 ·exact h pz s σ H xs us Q I rs q
 ·exact h' pz s σ H xs us Q I rs q
theorem kh:CallR X (.type "list") (fun xs H Q=>∃ p ys,xs=[.ref p]∧(SqL X.K H p ys∨SqT X.K H p ys)∧∀ l,H l=none→Q (.ref l) (upd H l (.lst ys))):=by
 intro pz s σ H xs us Q I r h
 obtain⟨p,ys,rfl,hq,q⟩:=h
 obtain⟨u,rfl,rx⟩:=cU r
 cases rx
 have fin:∀ (its:List Value),Vals ys its→ys.length≤sizeLine→∀ (h':Heap) (c':Nat),(∀ b o',s.heap.get? b=some o'→h'.get? b=some o')→
   h'.get? s.heap.objs.size=some { cls:=.type "list",dict:=none,data:=.seq its.toArray c',slots:=#[] }→EP X pz σ Q (.ref s.heap.objs.size) { s with heap:=h' }:=fun its r' hz h' c' kp e=>
  ⟨.ref s.heap.objs.size,_,I.laid (t':=s.toks) kp (Yr _) (show ObjOk X.prog X.w _ h' _ (.lst ys) from ⟨hz,its,c',r',e⟩),rfl,q _ (I.hok.fresh (Yr _))⟩
 rcases hq with hq | hq
 ·obtain⟨its,r',pl,hz⟩:=I.list hq
  have hlen:=r'.length
  obtain⟨o,ho,hc,n,hd⟩:=pl.isList
  exact call_list_seq p (.inl rfl) ho hc hd (fun h' c' kp e=>fin its r' hz h' c' kp e) (by simp only[Yo] <;> omega)
 ·obtain⟨its,r',pl,hz⟩:=I.tuple hq
  have hlen:=r'.length
  obtain⟨o,ho,hc,n,hd⟩:=pl
  exact call_list_seq p (.inr rfl) ho hc hd (fun h' c' kp e=>fin its r' hz h' c' kp e) (by simp only[Yo] <;> omega)
theorem iw:CallR X (.type "tuple") (fun xs H Q=>∃ p ys,xs=[.ref p]∧((SqL X.K H p ys∧∀ l,H l=none→Q (.ref l) (upd H l (.tup ys)))∨(SqT X.K H p ys∧Q (.ref p) H))):=by
 intro pz s σ H xs us Q I r h
 obtain⟨p,ys,rfl,h⟩:=h
 obtain⟨u,rfl,rx⟩:=cU r
 cases rx
 rcases h with⟨hq,q⟩ | ⟨hq,q⟩
 ·obtain⟨its,r',pl,hz⟩:=I.list hq
  have hlen:=r'.length
  refine call_tuple_list pl.isList (fun h' kp=>?_) (by simp only[Yo] <;> omega)
  have I1:Inv X pz σ H { s with heap:=h' }:=I.kept (t':=s.toks) kp
  have I2:Inv X pz σ (upd H h'.objs.size (.tup ys)) { s with heap:=h'.push { cls:=.type "tuple",data:=.seq its.toArray } }:=
   I1.laid (t':=s.toks) (fun b o e=>Yd _ e) (Yr _) (show ObjOk X.prog X.w _ _ _ (.tup ys) from ⟨hz,its,r',IsTup.new _ _,NoD.new _ _⟩)
  exact⟨.ref h'.objs.size,_,I2,rfl,q _ (I1.hok.fresh (Yr _))⟩
 ·obtain⟨its,r',pl,hz⟩:=I.tuple hq
  exact call_tuple_same pl ⟨.ref p,H,I,rfl,q⟩
def tyV (K:Kq)(T:String)(x:V)(H:Hp):Prop:=match x with
 | .str _=>T = "str"
 | .int _=>T = "int"
 | .ref p=>(T = "list"∧∃ xs,SqL K H p xs)∨(T = "tuple"∧∃ o,K.lookup p=some o∧o.cls=.type "tuple"∧o.dict=none) ∨
   (T = "dict"∧((∃ kvs,H p=some (.dK kvs))∨∃ kvs,H p=some (.dT kvs)))∨(T = "set"∧∃ S n,H p=some (.set S n))
 | _=>False
theorem rd {pz:Kp}{σ:St}{H:Hp}{s:Shared}{T:String}{x:V}{v:Value}(I:Inv X pz σ H s)(r:RelV x v)(ty:tyV X.K T x H) :
  s.TypeIs v T∧∀ a,v=.ref a→∃ ob,s.heap.get? a=some ob∧ob.dict=none:=by
 cases x with
 | str z=>
  obtain⟨t,rfl⟩:=r
  cases (show T = "str" from ty)
  exact⟨typeIs_str s z t,fun _ e=>nomatch e⟩
 | int i=>
  obtain⟨t,rfl⟩:=r
  cases (show T = "int" from ty)
  exact⟨typeIs_int s i t,fun _ e=>nomatch e⟩
 | ref p=>
  cases r
  rcases ty with⟨rfl,xs,hq⟩ | ⟨rfl,o,hk,hc,hd⟩ | ⟨rfl,hk⟩ | ⟨rfl,S,n,hk⟩
  ·obtain⟨its,_,pl,_⟩:=I.list hq
   refine⟨pl.isList.typeIs,fun a e=>?_⟩
   cases e
   obtain⟨o,n,e,c,hd,_⟩:=pl
   exact⟨o,e,hd⟩
  ·refine⟨⟨o,I.kIn p o hk,hc⟩,fun a e=>?_⟩
   cases e
   exact⟨o,I.kIn _ o hk,hd⟩
  ·have z:∃ o,s.heap.get? p=some o∧o.ExactDict:=by
    rcases hk with⟨kvs,hk⟩ | ⟨kvs,hk⟩
    ·obtain⟨_,_,_,_,o,_,_,e,ex,_⟩:=I.hok p _ hk
     exact⟨o,e,ex⟩
    ·obtain⟨_,_,_,_,o,_,_,e,ex,_⟩:=I.hok p _ hk
     exact⟨o,e,ex⟩
   obtain⟨o,e,ex⟩:=z
   refine⟨⟨o,e,ex.1⟩,fun a e2=>?_⟩
   cases e2
   exact⟨o,e,ex.2.1⟩
  ·obtain⟨o,_,_,_,e,ex,_⟩:=I.hok p _ hk
   refine⟨⟨o,e,ex.1⟩,fun a e2=>?_⟩
   cases e2
   exact⟨o,e,ex.2.1⟩
 | _=>exact False.elim ty
def yX (K:Kq)(T:String)(r:V→List V→Hp→VK→Prop)(to:TE):TE:=fun σ H Q=>to σ H fun x H1=>tyV K T x H1∧r x [] H1 Q
def tBM (K:Kq)(T:String)(r:V→List V→Hp→VK→Prop)(to:TE)(t:TA):TE:=fun σ H Q=>to σ H fun x H1=>tyV K T x H1∧t σ H1 fun xs H2=>r x xs H2 Q
variable {o e:Expr} {es:List Expr} {to:TE} {t:TA} {name:Str} {apos cpos:Pos} {T id:String} {r:V→List V→Hp→VK→Prop}
theorem rQ (pa:PlainAttrs T)(slot:Slot T name id)(hty:typeOf (.builtin id)=pure (.type "method_descriptor"))(hm:MtR X id r)(ho:PE X o to)
  (hbase:attributeBase o name X.env (eval o X.env)=eval o X.env:=by rfl) (hline:(apos.endLine == cpos.line)=true:=by rfl):PE X (.Call (.Attribute o name apos) [] [] cpos) (yX X.K T r to):=by
 intro pz s σ H Q I h
 refine wpAny_Call_method0_late hbase hline (aR (ho pz s σ H _ I h) fun v s1 x H1 I1 r1 hh_=>?_)
 obtain⟨ty,q1⟩:=hh_
 obtain⟨h1,h2⟩:=rd I1 r1 ty
 exact⟨T,id,pa,slot,hty,h1,h2,Calls.callWith_builtin rfl (PySem.evalArgs_none (hm pz s1 σ H1 x [] v [] Q I1 r1 .nil q1))⟩
theorem nB (pa:PlainAttrs T)(slot:Slot T name id)(hty:typeOf (.builtin id)=pure (.type "method_descriptor"))(hm:MtR X id r)(ho:PE X o to)(ha:PA X (e::es) t)
  (hbase:attributeBase o name X.env (eval o X.env)=eval o X.env:=by rfl)
  (hfew:((backTo cpos (starEach (e::es) X.env)).all (fun x=>!x.1)&&(backToKw cpos (keywordEach [] X.env)).all (fun x=>x.1.isSome)
   && decide ((e::es).length+([]:List Keyword).length+(if ([]:List Keyword).isEmpty then 0 else 1)<30))=true:=by rfl)
  (hline:(apos.endLine == cpos.line)=true:=by rfl) (hs:starEach (e::es) X.env=(false,eval e X.env)::starEach es X.env:=by rfl) (hplain:(backTo cpos (starEach es X.env)).any (·.1)=false:=by rfl) :
  PE X (.Call (.Attribute o name apos) (e::es) [] cpos) (tBM X.K T r to t):=by
 intro pz s σ H Q I h
 refine wpAny_Call_method_late hbase hfew hline rfl (aR (ho pz s σ H _ I h) fun v s1 x H1 I1 r1 hh_=>?_)
 obtain⟨ty,q1⟩:=hh_
 obtain⟨h1,h2⟩:=rd I1 r1 ty
 refine⟨T,id,pa,slot,hty,h1,h2,?_⟩
 have hA:=ha cpos pz s1 σ H1 _ I1 q1
 rw[hs] at hA ⊢
 refine Calls.callWith_builtin (by show (false||(backTo cpos (starEach es X.env)).any (·.1))=false;rw[hplain] <;> rfl) (Calls.evalArgs_plain ?_)
 exact aR hA fun us s2 vs H2 I2 r2 q2=>hm pz s2 σ H2 x vs v us Q I2 r1 r2 q2
end
def MtM (X:Cx)(id:String)(r:V→List V→Hp→VK→Prop):Prop:=
 ∀ (pz:Kp) (s:Shared) (σ:St) (H:Hp) (x:V) (xs:List V) (v:Value) (us:List Value) (Q:VK),Inv X pz σ H s→RelV x v→Vals xs us→r x xs H Q→
  wpAny (model X.prog X.w) X.A (call (.builtin id) (v::us)) (EP X pz σ Q) X.xe s
theorem Vals.one {x:V}{us:List Value}(h:Vals [x] us):∃ u,us=[u]∧RelV x u:=cU h
theorem Vals.two {x y:V}{us:List Value}(h:Vals [x,y] us):∃ u v,us=[u,v]∧RelV x u∧RelV y v:=lN h
theorem Vals.zero:∀ {us:List Value},Vals [] us→us=[]
 | _,.nil=>rfl
theorem Vals.dropLast {xs:List V}{us:List Value}(h:Vals xs us):Vals xs.dropLast us.dropLast:=by
 induction h with
 | nil=>exact .nil
 | cons r t ih=>
  cases t with
  | nil=>exact .nil
  | cons q t'=>exact .cons r ih
theorem Vals.eraseIdx:∀ {xs:List V} {us:List Value} (i:Nat),Vals xs us→Vals (xs.eraseIdx i) (us.eraseIdx i)
 | _,_,_,.nil=>.nil
 | _,_,0,.cons _ t=>t
 | _,_,i+1,.cons r t=>.cons r (Vals.eraseIdx i t)
theorem Vals.reverse {xs:List V}{us:List Value}(h:Vals xs us):Vals xs.reverse us.reverse:=by
 induction h with
 | nil=>exact .nil
 | cons r t ih=>rw[Xz,Xz];exact Vals.append ih (.cons r .nil)
theorem m9 {α:Type}(l:List α):l.eraseIdx (l.length-1)=l.dropLast:=by
 induction l with
 | nil=>rfl
 | cons a r ih=>
  cases r with
  | nil=>rfl
  | cons b r=>
   have e:(a::b::r).length-1=((b::r).length-1)+1:=by
    have h1:(a::b::r).length=r.length+2:=rfl
    have h2:(b::r).length=r.length+1:=rfl
    omega
   rw[e,ZW,ih]
   all_goals rfl
theorem jg {α:Type}:∀ (l:List α) (i:Nat),(l.eraseIdx i).length≤l.length
 | [],_=>Yr _
 | _::_,0=>Vf _
 | _::r,i+1=>Nat.succ_le_succ (jg r i)
section
variable {X:Cx} {pz:Kp} {σ:St} {H:Hp} {s:Shared} {l b:Addr} {xs ys zs:List V}
theorem Inv.lset {its its':List Value}{n:Nat}{f:Array Value→Array Value}{t':Nat}(I:Inv X pz σ H s)(hH:H l=some (.lst xs))
  (e:s.heap.get? l=some { cls:=.type "list",data:=.seq its.toArray n }) (hf:f its.toArray=its'.toArray) (hv:Vals ys its') (hz:ys.length≤sizeLine) :
  Inv X pz σ (upd H l (.lst ys)) { s with heap:=s.heap.update l (Obj.mapSeq f),toks:=t' }:=by
 have q:=PySem.IsL.update e f
 rw[hf] at q
 refine I.write (x:=l) (e:=l) (by rw[hH];exact trivial) (.inl rfl) (fun b' u hb hu=>(Heap.get?_update_other s.heap (Obj.mapSeq f) (Xj hb)).trans hu) ⟨_,q⟩ ?_
 exact⟨hz,its',_,hv,q⟩
theorem Inv.lnew {its:List Value}{t':Nat}(I:Inv X pz σ H s)(hv:Vals ys its)(hz:ys.length≤sizeLine) :
  Inv X pz σ (upd H s.heap.objs.size (.lst ys)) { s with heap:=s.heap.push { cls:=.type "list",data:=.seq its.toArray },toks:=t' }:=
 I.laid (fun _ _ q=>Yd _ q) (Yr _) ⟨hz,its,0,hv,Yp _ rfl⟩
theorem Inv.fresh (I:Inv X pz σ H s):H s.heap.objs.size=none:=I.hok.fresh (Yr _)
theorem Inv.lstM (I:Inv X pz σ H s)(hH:H l=some (.lst xs)):xs.length≤sizeLine∧∃ (its:List Value) (n:Nat),Vals xs its∧xs.length=its.length∧s.heap.get? l=some { cls:=.type "list",data:=.seq its.toArray n }:=by
 obtain⟨z,its,n,r,e⟩:=I.hok l _ hH
 exact⟨z,its,n,r,r.length,e⟩
end
section
variable {X:Cx}
def sQ:V→List V→Hp→VK→Prop:=fun x vs H Q=>∃ l xs y,x=.ref l∧vs=[y]∧H l=some (.lst xs)∧xs.length<sizeLine∧Q .non (upd H l (.lst (xs++[y])))
theorem dZ:MtM X "list.append" sQ:=by
 intro pz s σ H x vs v us Q I rx rv h
 obtain⟨l,xs,y,rfl,rfl,hH,hz,q⟩:=h
 cases rx
 obtain⟨u,rfl,ru⟩:=rv.one
 obtain⟨z,its,n,r,hl,e⟩:=I.lstM hH
 refine call_meets F.slot_list_append ⟨_,e,rfl⟩ F.entry_list_append (F.args_list_append_2 _ _) (PySem.list_append l its.toArray n u (by rw[Yo];omega)) ⟨e,?_⟩
 refine⟨.non,_,I.lset (its':=its++[u]) hH e (by simp) (r.append (.cons ru .nil)) ?_,rfl,q⟩
 rw[Yh,Ze]
 omega
def zp:V→List V→Hp→VK→Prop:=fun x vs H Q=>∃ l xs y,x=.ref l∧vs=[]∧H l=some (.lst xs)∧xs[xs.length-1]?=some y∧Q y (upd H l (.lst xs.dropLast))
theorem wl:MtM X "list.pop" zp:=by
 intro pz s σ H x vs v us Q I rx rv h
 obtain⟨l,xs,y,rfl,rfl,hH,hy,q⟩:=h
 cases rx
 have hus:=rv.zero
 subst hus
 obtain⟨z,its,n,r,hl,e⟩:=I.lstM hH
 obtain⟨u,hu,ru⟩:=r.get hy
 have hy':its.toArray[its.toArray.size-1]?=some u:=by
  show its.toArray[its.length-1]?=some u
  rw[← Zw,← hl]
  exact hu
 refine call_meets F.slot_list_pop ⟨_,e,rfl⟩ F.entry_list_pop (F.args_list_pop_1 _) (MeetsSeq.list_pop_last l its.toArray n u hy' (by rw[Yo];omega)) ⟨e,?_⟩
 refine⟨y,_,I.lset (its':=its.dropLast) hH e ?_ r.dropLast ?_,ru,q⟩
 ·show its.toArray.eraseIdxIfInBounds (its.toArray.size-1)=its.dropLast.toArray
  rw[Yo,XA,m9]
 ·rw[List.length_dropLast]
  omega
def r9:V→List V→Hp→VK→Prop:=fun x vs H Q=>∃ l xs i k y,x=.ref l∧vs=[.int i]∧H l=some (.lst xs)∧-(2 ^ 63)≤i∧i<2 ^ 63∧seqIndex? i xs.length=some k∧xs[k]?=some y∧Q y (upd H l (.lst (xs.eraseIdx k)))
theorem p6:MtM X "list.pop" r9:=by
 intro pz s σ H x vs v us Q I rx rv h
 obtain⟨l,xs,i,k,y,rfl,rfl,hH,h1,h2,hk,hy,q⟩:=h
 cases rx
 obtain⟨u,rfl,ru⟩:=rv.one
 obtain⟨t,rfl⟩:=ru
 obtain⟨z,its,n,r,hl,e⟩:=I.lstM hH
 obtain⟨w,hw,rw'⟩:=r.get hy
 refine call_meets F.slot_list_pop ⟨_,e,rfl⟩ F.entry_list_pop (F.args_list_pop_2 _ _)
  (MeetsSeq.list_pop_at l its.toArray n i t k w (fitsIndex_both h1 h2) (by rw[Yo,← hl];exact hk) (by rw[← Zw];exact hw) (by rw[Yo];omega)) ⟨e,?_⟩
 refine⟨y,_,I.lset (its':=its.eraseIdx k) hH e ?_ (r.eraseIdx k) ?_,rw',q⟩
 ·show its.toArray.eraseIdxIfInBounds k=(its.eraseIdx k).toArray
  rw[XA]
 ·have:=jg xs k
  omega
def qu:V→List V→Hp→VK→Prop:=fun x vs H Q=>∃ l xs,x=.ref l∧vs=[]∧H l=some (.lst xs)∧Q .non (upd H l (.lst xs.reverse))
theorem ng:MtM X "list.reverse" qu:=by
 intro pz s σ H x vs v us Q I rx rv h
 obtain⟨l,xs,rfl,rfl,hH,q⟩:=h
 cases rx
 have hus:=rv.zero
 subst hus
 obtain⟨z,its,n,r,hl,e⟩:=I.lstM hH
 refine call_meets F.slot_list_reverse ⟨_,e,rfl⟩ F.entry_list_reverse (F.args_list_reverse_1 _) (AutoSeq1.list_reverse_list_0 l its.toArray n (by rw[Yo];omega)) ⟨e,?_⟩
 refine⟨.non,_,I.lset (its':=its.reverse) hH e (by simp) r.reverse ?_,rfl,q⟩
 rw[List.length_reverse]
 omega
end
section
variable {prog:Program} {w:World} {A:Around} {E:Kv} {s:Shared}
set_option maxRecDepth 100000 in
end
section
variable {X:Cx}
end
end L2
namespace Att
open PySem PySem.W PySem.Calls PyProof.Rows
theorem fQ {P:Params}{h:Heap}:∀ (ns:List Int) (vs:List Value),WellAll P h vs (ns.map WData.int)→IntsAre vs ns:=by
 intro ns
 induction ns with
 | nil=>
  intro vs w
  rw[List.map_nil] at w
  cases w
  exact .nil
 | cons n ns ih=>
  intro vs w
  rw[List.map_cons] at w
  cases w with
  | cons a b=>
   cases a
   exact .cons _ _ (ih _ b)
theorem pe {l:OpenLaw}{n:Nat}(hn:l.most=some n){P:Params}{h:Heap}{args:List WData}{vals:List Value}
  (hpre:l.row.toRowW.claim.pre args=true) (hwl:WellAll P h vals args) :
  ∃ a vs ns,vals=[Value.ref a]∧args=[WData.list (ns.map WData.int)]∧h.get? a=some { cls:=.type "list",data:=.seq vs.toArray }∧IntsAre vs ns∧ns.length≤n:=by
 have hsh:WShape.hasAll [] args [.list .int]=true:=(pre_splitW hpre).1
 have hc:l.pre.holds [] { args:=args }=true:=(pre_splitW hpre).2
 obtain⟨d,r,rfl,h1,h2⟩:=hasAllW_cons hsh
 obtain rfl:=hasAllW_nil h2
 obtain⟨xs,rfl,h3⟩:=hasW_list h1
 obtain⟨ns,rfl⟩:=items_int h3
 have hlen:ns.length≤n:=by
  unfold OpenLaw.pre at hc
  have h4:(WTm.not (.lt (.lit (.int (n:Int))) (.len (.arg 0)))).holds [] { args:=[.list (ns.map .int)] }=true:=by
   have h4:=(holds_andW hc).1
   rw[hn] at h4
   exact h4
  have h5:=condW_of h4 (w_not (w_lt w_lit (w_len_list (w_arg rfl))))
  rw[List.length_map] at h5
  refine Nat.le_of_not_lt fun q=>?_
  have q':(n:Int)<((ns.length:Nat):Int):=by omega
  first
   | (rw[decide_eq_true q'] at h5;exact absurd h5 (by decide))
   | (simp at h5;omega)
 cases hwl with
 | cons w1 w2=>
  cases w2
  cases w1 with
  | list ho hall=>exact⟨_,_,ns,rfl,rfl,ho,fQ ns _ hall,hlen⟩
theorem oV (l:OpenLaw)(args:List WData):l.row.toRowW.claim.post args (.bool true) args=true:=
 postW_of (r:=l.row.toRowW) (X:=(true == true))
  (show WShape.has [] (.bool true) .bool=true by first | rfl | decide | simp[WShape.has,WShape.arms,WShape.armsAll])
  (show (WTm.eq .res (.lit (.bool true))).value [] { args:=args,res:=some (.bool true),after:=args }=some (.bool (true == true)) from w_eq_bool (w_res rfl) w_lit) rfl
theorem attach_call {l:OpenLaw}{n:Nat}{q:Program}{loose:List Str}{XP:(Str→Option Value)→Heap→Prop}{YP:World→Heap→Prop}{d:DefRec}
  (hn:l.most=some n) (hdf:d.params.defaults=[])
  (call:∀ (w:World) (s₀ s₁:Shared) (mg mb:Str→Option Value) (fa:Addr) (o:Obj) (pm cd doc:Value) (a:Addr) (vs:List Value) (ns:List Int),
   Ground q loose [] XP w s₀ mg mb s₁.heap→YP w s₁.heap→
   s₁.heap.get? fa=some o→o.data=.func (docDef d.name d.params d.body d.scope pm cd doc)→s₁.heap.CodeRec cd d.name→mg d.name=some (.ref fa)→
   s₁.heap.get? a=some { cls:=.type "list",data:=.seq vs.toArray }→IntsAre vs ns→ns.length≤n→s₁.gens=#[]→
   codeAny (model l.prog w) callerA (.call (.ref fa) ⟨[.ref a],[]⟩) (fun r s'=>r=.ok (.ret (.bool true))∧OldK s₁.heap s'.heap∧s'.os=s₁.os∧AllBare s'.gens) s₁) :
  WalkO q loose XP YP l.row.toRowW d [] (fun f vs=>PySem.call f vs):=by
 intro w s₀ s₁ mg mb G Y fa o pm cd doc dV kV ho hd hcd hD hmg hg args vals as hpre hlay hrd hwl hlo
 obtain rfl:dV=.none:=Dflts.none hD hdf
 obtain rfl:kV=.none:=Dflts.noKw hD
 obtain⟨a,vs,ns,rfl,rfl,hobj,hints,hlen⟩:=pe hn hpre hwl
 refine enter_call (codeAny_mono (call w s₀ s₁ mg mb fa o pm cd doc a vs ns G Y ho (fd_plain hd) hcd hmg hobj hints hlen hg) fun r s' hq=>?_)
 obtain⟨rfl,h2,h3,h4⟩:=hq
 exact⟨.inl ⟨.bool true,.bool true,[],rfl,fun _=>rfl,.bool true,oV l _,fun _=>⟨List.Pairwise.nil,fun _ hm=>(nomatch hm)⟩⟩,h2,h3,h4⟩
section
variable {prog:Program} {w:World} {A:Around} {E:Value→Shared→Prop} {s:Shared} {K:Frag}
end
end Att
namespace L2
open PySem PySem.Spec PyProof.Rows
theorem i5:∀ {vs:List Value} {ns:List Int},IntsAre vs ns→Vals (ns.map V.int) vs
 | _,_,.nil=>.nil
 | _,_,.cons n t h=>.cons ⟨t,rfl⟩ (i5 h)
def defArgs (s:Stmt):Arguments:=match s with
 | .FunctionDef _ a _ _ _ _ _ _ _ _=>a
 | _=>{ posonlyargs:=[],args:=[],vararg:=none,kwonlyargs:=[],kw_defaults:=[],kwarg:=none,defaults:=[] }
def defBody (s:Stmt):List Stmt:=match s with
 | .FunctionDef _ _ b _ _ _ _ _ _ _=>b
 | _=>[]
def defScope (s:Stmt):Scope:=match s with
 | .FunctionDef _ _ _ _ _ _ sc _ _ _=>sc
 | _=>{ kind:=.function,names:=[],isGenerator:=false,isCoroutine:=false }
abbrev CX0:CXT:=fun _ _ _ _ _ _=>False
abbrev E0:XK:=fun _ _ _=>False
theorem nW {X:Cx}:mT CX0 X E0:=fun _ _ _ _ _ _ _ h=>h.elim
structure Fun (K:PySem.W.Frag) (x qual:Str) (st:Stmt) (f:Addr) (fd:FuncData):Prop where
 ex:∃ (oc:Value) (od:Option Addr) (kV doc pm:Value) (an:Option Addr) (cdv ct:Value) (osl:Array (Option Value)),
  fd=PySem.W.fnOf x qual (defArgs st) (defBody st) (defScope st) .none kV doc pm an cdv ct∧K.lookup f=some ⟨oc,od,.func fd,osl⟩∧PySem.W.codeIn K cdv qual=true
 kp:PySem.W.keepIn K (.ref f)=true
section
variable {P:Program} {w:World} {K:Kq} {mg:Ks} {base:Heap}
theorem Fun.ok {x qual:Str}{st:Stmt}{f:Addr}{fd:FuncData}{N ps:List Str}{k:Nat}{sp:Sp}(F:Fun K x qual st f fd)(S:FnScope N ps (defScope st))(len:∀ vs H Q E,sp vs H Q E→vs.length=ps.length)
  (hbody:∀ (cdv:Value) (A:Around) (outer:List Env) (s:Shared) (H:Hp) (vs:List V) (Q:VK) (E:XK),Room k (A.deeper (envOfC qual (defScope st) s.heap.objs.size f cdv))→sp vs H Q E→
   ∃ t,PSs (b9 CX0 P w K mg base N qual (defScope st) f cdv A outer s H E).nox (defBody st) t∧t { nx:=fun _ H'=>Q .non H',rt:=Q } (start N vs) H):FnOk P w K mg base CX0 (k+1) f fd ps sp:=by
 obtain⟨oc,od,kV,doc,pm,an,cdv,ct,osl,rfl,lk,hcd⟩:=F.ex
 refine qI lk hcd S len fun A outer s H vs Q E hr hsp=>?_
 obtain⟨t,h,q⟩:=hbody cdv A outer s H vs Q E hr hsp
 exact⟨t,h.nox,q⟩
theorem Fun.binds {x qual:Str}{st:Stmt}{f:Addr}{fd:FuncData}{ps:List Str}(F:Fun K x qual st f fd)
  (h:∀ (kV doc pm:Value) (an:Option Addr) (cdv ct:Value) (us:List Value),us.length=ps.length→bindArgs (PySem.W.fnOf x qual (defArgs st) (defBody st) (defScope st) .none kV doc pm an cdv ct) ⟨us,[]⟩=pure (ps.zip us)):Binds K fd ps []:=by
 obtain⟨oc,od,kV,doc,pm,an,cdv,ct,osl,rfl,lk,hcd⟩:=F.ex
 exact .all (h kV doc pm an cdv ct)
theorem cR {x qual:Str}{st:Stmt}{f:Addr}{oc:Value}{od an:Option Addr}{osl:Array (Option Value)}{kV doc pm cdv ct:Value}(l:K.lookup f=some ⟨oc,od,.func (PySem.W.fnOf x qual (defArgs st) (defBody st) (defScope st) .none kV doc pm an cdv ct),osl⟩)
  (c:PySem.W.codeIn K cdv qual=true) (k:PySem.W.keepIn K (.ref f)=true):Fun K x qual st f (PySem.W.fnOf x qual (defArgs st) (defBody st) (defScope st) .none kV doc pm an cdv ct):=⟨⟨oc,od,kV,doc,pm,an,cdv,ct,osl,rfl,l,c⟩,k⟩
end
section
variable {X:Cx}
theorem pv (i:Nat){x:Str}{pos:Pos}(hN:X.N[i]?=some x:=by rfl)(hv:Vis X.env.scope x:=by first | exact Or.inl rfl | exact Or.inr (Or.inl rfl) | exact Or.inr (Or.inr rfl))(hd:(x == ("__debug__":Str))=false:=by decide)
  (hcd:(x == ("__classdict__":Str))=false:=by decide):PE X (.Name x pos) (cL i):=kw hN hv hd hcd
end
theorem tY {A B:Prop}(h:A):if true=true then A else B:=by
 rw[Yk rfl]
 exact h
def Same (H H':Hp):Prop:=∀ b o,H b=some o→H' b=some o
theorem Same.refl (H:Hp):Same H H:=fun _ _ h=>h
theorem Same.trans {H H1 H2:Hp}(a:Same H H1)(b:Same H1 H2):Same H H2:=fun c o h=>b c o (a c o h)
theorem Same.free {H H':Hp}(e:Same H H'){l:Addr}(h:H' l=Option.none):H l=Option.none:=by
 cases q:H l with
 | none=>rfl
 | some o=>
  rw[e l o q] at h
  cases h
theorem Same.seq {K:Kq}{H H':Hp}{a:Addr}{xs:List V}(e:Same H H')(h:SqL K H a xs):SqL K H' a xs:=by
 rcases h with (h | ⟨o,h⟩) | h
 ·exact .inl (.inl (e _ _ h))
 ·exact .inl (.inr ⟨o,e _ _ h⟩)
 ·exact .inr h
end L2
set_option maxHeartbeats 4000000
namespace L2
open PySem PySem.Spec PyProof.Rows
def bp (cs:List (Str×Addr)):List (Str×NameKind)→List (Str×Addr)→List (Str×Addr)
 | [],acc=>acc
 | (n,k)::r,acc=>if k == .free then bp cs r ((n,(cs.lookup n).getD 0)::acc) else bp cs r acc
theorem gJ {scope:Scope}{env:Env}(h:∀ x∈scope.names,x.2=.free→∃ c,env.cells.lookup x.1=some c):closureFor scope env=pure (bp env.cells scope.names []):=by
 have key:∀ (names:List (Str×NameKind)) (acc:List (Str×Addr)) (f:Str×NameKind→List (Str×Addr)→Sem (ForInStep (List (Str×Addr)))),
   (∀ n k r,f (n,k) r=if k == .free then (cellOf env n>>=fun c=>pure (.yield ((n,c)::r))) else pure (.yield r))→
   (∀ x∈names,x.2=.free→∃ c,env.cells.lookup x.1=some c)→forIn names acc f=pure (bp env.cells names acc):=by
  intro names
  induction names with
  | nil=>intro acc f _ _;rfl
  | cons x r ih=>
   intro acc f hf hx
   obtain⟨n,k⟩:=x
   rw[List.forIn_cons,hf]
   unfold bp
   by_cases hk:(k == NameKind.free)=true
   ·rw[Yk hk,Yk hk]
    obtain⟨c,hc⟩:=hx (n,k) Yc (by simpa using hk)
    have e:cellOf env n=pure c:=by unfold cellOf;rw[hc]
    rw[e,pure_bind,pure_bind,hc]
    exact ih _ f hf fun y hy=>hx y (Yb _ hy)
   ·rw[Ym hk,Ym hk,pure_bind]
    exact ih _ f hf fun y hy=>hx y (Yb _ hy)
 unfold closureFor
 show (forIn scope.names ([]:List (Str×Addr)) _>>=fun cs=>pure cs)=_
 rw[key scope.names [] _ (fun n k r=>by
  by_cases hk:(k == NameKind.free)=true
  ·simp only[hk,if_true]
  ·simp only[hk]) h]
 rfl
theorem aT {α:Type}(y n:Str)(c:α)(l:List (Str×α)):((n,c)::l).lookup y=if y=n then some c else l.lookup y:=by
 rw[Zu]
 by_cases h:y=n
 ·subst h;simp
 ·have:(y == n)=false:=by simpa using h
  rw[this,Ym h]
theorem bx {cs:List (Str×Addr)}:∀ (names:List (Str×NameKind)) (acc:List (Str×Addr)) (y:Str) (c:Addr),
  (∀ x∈names,x.2=.free→∃ c,cs.lookup x.1=some c)→(∀ y c,acc.lookup y=some c→cs.lookup y=some c)→(bp cs names acc).lookup y=some c→cs.lookup y=some c
 | [],acc,y,c,_,h,e=>h y c e
 | (n,k)::r,acc,y,c,hx,h,e=>by
  unfold bp at e
  have hr:∀ x∈r,x.2=.free→∃ c,cs.lookup x.1=some c:=fun x hm=>hx x (Yb _ hm)
  by_cases hk:(k == NameKind.free)=true
  ·rw[Yk hk] at e
   refine bx r _ y c hr (fun z d ez=>?_) e
   obtain⟨c',hc'⟩:=hx (n,k) Yc (by simpa using hk)
   rw[aT] at ez
   split at ez
   ·rename_i q
    subst q
    cases ez
    rw[hc']
    rfl
   ·exact h z d ez
  ·rw[Ym hk] at e
   exact bx r acc y c hr h e
theorem dj {cs:List (Str×Addr)}:∀ (names:List (Str×NameKind)) (acc:List (Str×Addr)) (y:Str) (c:Addr),
  (bp cs names acc).lookup y=some c→(y,NameKind.free)∈names∨acc.lookup y=some c
 | [],acc,y,c,e=>.inr e
 | (n,k)::r,acc,y,c,e=>by
  unfold bp at e
  by_cases hk:(k == NameKind.free)=true
  ·rw[Yk hk] at e
   have hk':k=.free:=by simpa using hk
   rcases dj r _ y c e with q | q
   ·exact .inl (Yb _ q)
   ·rw[aT] at q
    split at q
    ·rename_i z
     subst z
     subst hk'
     exact .inl Yc
    ·exact .inr q
  ·rw[Ym hk] at e
   rcases dj r acc y c e with q | q
   ·exact .inl (Yb _ q)
   ·exact .inr q
theorem c_ {cs:List (Str×Addr)}:∀ (names:List (Str×NameKind)) (acc:List (Str×Addr)) (y:Str),
  ((y,NameKind.free)∈names∨∃ c,acc.lookup y=some c)→∃ c,(bp cs names acc).lookup y=some c
 | [],acc,y,h=>h.elim (fun z=>by cases z) id
 | (n,k)::r,acc,y,h=>by
  unfold bp
  by_cases hk:(k == NameKind.free)=true
  ·rw[Yk hk]
   refine c_ r _ y ?_
   rcases h with h | ⟨c,h⟩
   ·rcases YF.mp h with q | q
    ·cases q
     exact .inr ⟨_,by rw[aT,Yk rfl]⟩
    ·exact .inl q
   ·refine .inr ?_
    by_cases q:y=n
    ·exact⟨_,by rw[aT,Yk q]⟩
    ·exact⟨c,by rw[aT,Ym q];exact h⟩
  ·rw[Ym hk]
   refine c_ r acc y ?_
   rcases h with h | h
   ·rcases YF.mp h with q | q
    ·cases q
     exact absurd rfl hk
    ·exact .inl q
   ·exact .inr h
theorem j6:∀ (names:List (Str×NameKind)) (h:Heap) (acc:List (Str×Addr)) (y:Str) (c:Addr),(cellsFrom h.objs.size names acc).lookup y=some c→
  (h.objs.size≤c∧(pushCells h names).IsCell c none∧(y,NameKind.cell)∈names)∨acc.lookup y=some c
 | [],_,_,_,_,e=>.inr e
 | (n,k)::r,h,acc,y,c,e=>by
  unfold cellsFrom at e
  unfold pushCells
  by_cases hk:(k == NameKind.cell)=true
  ·rw[Yk hk] at e ⊢
   have hk':k=.cell:=by simpa using hk
   have hz:(h.push { cls:=.type "cell",data:=.cell none }).objs.size=h.objs.size+1:=Heap.size_push ..
   rw[← hz] at e
   rcases j6 r _ _ y c e with⟨q1,q2,q3⟩ | q
   ·exact .inl ⟨by rw[hz] at q1;omega,q2,Yb _ q3⟩
   ·rw[aT] at q
    split at q
    ·rename_i z
     subst z
     cases q
     subst hk'
     exact .inl ⟨Yr _,⟨_,XU r _ _ _ (Yp _ rfl),rfl⟩,Yc⟩
    ·exact .inr q
  ·rw[Ym hk] at e ⊢
   rcases j6 r h acc y c e with⟨q1,q2,q3⟩ | q
   ·exact .inl ⟨q1,q2,Yb _ q3⟩
   ·exact .inr q
theorem lZ {y:Str}:∀ (names:List (Str×NameKind)) (n:Nat) (acc:List (Str×Addr)),(∀ k,(y,k)∈names→k≠.cell)→(cellsFrom n names acc).lookup y=acc.lookup y
 | [],_,_,_=>rfl
 | (m,k)::r,n,acc,h=>by
  unfold cellsFrom
  have hr:∀ k,(y,k)∈r→k≠.cell:=fun k hk=>h k (Yb _ hk)
  by_cases hk:(k == NameKind.cell)=true
  ·rw[Yk hk,lZ r _ _ hr,aT,Ym]
   rintro rfl
   exact h k Yc (by simpa using hk)
  ·rw[Ym hk]
   exact lZ r n acc hr
theorem l_:∀ (names:List (Str×NameKind)) (n:Nat) (acc:List (Str×Addr)),(∀ y c,acc.lookup y=some c→c<n)→(∀ y z c,acc.lookup y=some c→acc.lookup z=some c→y=z)→
  ∀ y z c,(cellsFrom n names acc).lookup y=some c→(cellsFrom n names acc).lookup z=some c→y=z
 | [],_,_,_,h=>h
 | (m,k)::r,n,acc,hlt,h=>by
  unfold cellsFrom
  by_cases hk:(k == NameKind.cell)=true
  ·rw[Yk hk]
   refine l_ r (n+1) _ (fun y c e=>?_) fun y z c e e'=>?_
   ·rw[aT] at e
    split at e
    ·cases e;exact Xh _
    ·exact ZR (hlt y c e)
   ·rw[aT] at e e'
    split at e <;> split at e'
    ·rename_i a b;rw[a,b]
    ·cases e;exact absurd (hlt z _ e') (Zl _)
    ·cases e';exact absurd (hlt y _ e) (Zl _)
    ·exact h y z c e e'
  ·rw[Ym hk]
   exact l_ r n acc hlt h
def dz (env:Env)(scope:Scope)(C:Addr):Env:=
 { scope:=relabel scope env,locals:=C,globals:=env.globals,cells:=cellsFrom (C+1) scope.names (bp env.cells scope.names []),qual:=env.qual,func:=none,code:=env.code,frame:=env.frame,builtins:=env.builtins }
def blk (X:Cx)(scope:Scope)(N:List Str)(s:Shared)(H:Hp)(fp:List Addr)(pz:Kp):Cx where
 prog:=X.prog
 w:=X.w
 K:=X.K
 mg:=X.mg
 base:=X.base
 A:=X.A
 N:=N
 s₀:=s
 H₀:=H
 env:=dz X.env scope s.heap.objs.size
 outer:=X.stack
 stack:=X.stack
 ex:=fp
 fn:=fun x=>scope.names.lookup x == some .local||scope.names.lookup x == some .cell
 calm:=X.calm
 pn:=X.pn++pz
 xe:=fun _ _=>False
structure BlkScope (X:Cx) (scope:Scope):Prop where
 kind:scope.kind=.function
 nd:(scope.names.map (·.1)).Nodup
 free:∀ x∈scope.names,x.2=.free→X.env.kindOf x.1=some .cell∨X.env.kindOf x.1=some .free
theorem cM {α:Type}:∀ {l:List (Str×α)} {n:Str} {c:α},(l.map (·.1)).Nodup→(n,c)∈l→l.lookup n=some c
 | [],_,_,_,h=>by cases h
 | (k,v)::r,n,c,nd,h=>by
  rw[aT]
  rcases YF.mp h with q | q
  ·cases q;rw[Yk rfl]
  ·have nd':=Zo.mp nd
   rw[Ym]
   ·exact cM nd'.2 q
   ·rintro rfl
    exact nd'.1 (Zf.mpr ⟨_,q,rfl⟩)
theorem fj {env:Env}{x:Str}:∀ (names:List (Str×NameKind)),
  (names.map fun (n,k)=>if (k == NameKind.free&&env.scope.kind == .function&&env.kindOf n == some .cell) then (n,NameKind.cell) else (n,k)).lookup x =
   (names.lookup x).map fun k=>if (k == NameKind.free&&env.scope.kind == .function&&env.kindOf x == some .cell) then NameKind.cell else k
 | []=>rfl
 | (n,k)::r=>by
  show List.lookup x ((if (k == NameKind.free&&env.scope.kind == .function&&env.kindOf n == some .cell)=true then (n,NameKind.cell) else (n,k))::_)=_
  have e:(if (k == NameKind.free&&env.scope.kind == .function&&env.kindOf n == some .cell)=true then (n,NameKind.cell) else (n,k)) =
    (n,if (k == NameKind.free&&env.scope.kind == .function&&env.kindOf n == some .cell)=true then NameKind.cell else k):=by split <;> rfl
  rw[e,aT,aT]
  split
  ·rename_i q
   subst q
   rfl
  ·exact fj r
theorem gC {env:Env}{scope:Scope}{C:Addr}(x:Str):(dz env scope C).kindOf x =
  (scope.names.lookup x).map fun k=>if (k == NameKind.free&&env.scope.kind == .function&&env.kindOf x == some .cell) then NameKind.cell else k:=fj scope.names
section
variable {X:Cx} {pz:Kp} {σ:St} {H:Hp} {s:Shared} {scope:Scope} {N:List Str} {fp:List Addr}
theorem BlkScope.cl (b:BlkScope X scope)(ok:X.Ok):∀ x∈scope.names,x.2=.free→∃ c,X.env.cells.lookup x.1=some c:=fun x hx e=>ok.has x.1 (b.free x hx e)
theorem cV (b:BlkScope X scope)(I:Inv X pz σ H s){y:Str}{c:Addr}(e:(dz X.env scope s.heap.objs.size).cells.lookup y=some c) :
  (s.heap.objs.size<c∧(pushCells (s.heap.push { cls:=.type "dict",data:=.dict #[] }) scope.names).IsCell c none∧(y,NameKind.cell)∈scope.names)∨(X.env.cells.lookup y=some c∧(y,NameKind.free)∈scope.names):=by
 have hz:(s.heap.push { cls:=.type "dict",data:=.dict #[] }).objs.size=s.heap.objs.size+1:=Heap.size_push ..
 have e':(cellsFrom (s.heap.push { cls:=.type "dict",data:=.dict #[] }).objs.size scope.names (bp X.env.cells scope.names [])).lookup y=some c:=by rw[hz];exact e
 rcases j6 _ _ _ _ _ e' with⟨h1,h2,h3⟩ | h
 ·exact .inl ⟨by rw[hz] at h1;omega,h2,h3⟩
 ·refine .inr ⟨bx _ _ y c (b.cl I.ok) (fun _ _ z=>by cases z) h,?_⟩
  rcases dj _ _ _ _ h with q | q
  ·exact q
  ·cases q
theorem wJ (b:BlkScope X scope)(I:Inv X pz σ H s)(hf:∀ a∈fp,eB X pz H a)(hlt:∀ a∈fp,a<s.heap.objs.size):(blk X scope N s H fp pz).Ok:=by
 have clt:∀ y c,X.env.cells.lookup y=some c→c<s.heap.objs.size:=fun y c e=>by obtain⟨v,q⟩:=I.cell y c e;exact q.lt
 refine⟨I.ok.mod,b.kind,I.ok.glob,I.ok.blt,Yr _,fun x y c e e'=>?_,fun x hx=>?_,fun x c hx e=>?_,I.ok.hd,I.ok.frames,.inl rfl,fun a ha=>⟨Yy (hlt a ha),fun x c e=>?_⟩,I.bs,ZH I.ok.bsz I.sz,fun a o e ha=>?_,fun a ha=>?_,I.stack,I.stkFree⟩
 ·refine l_ scope.names (s.heap.objs.size+1) _ (fun y c q=>?_) (fun y z c q q'=>?_) x y c e e'
  ·exact ZR (clt y c (bx _ _ y c (b.cl I.ok) (fun _ _ z=>by cases z) q))
  ·exact I.ok.inj y z c (bx _ _ y c (b.cl I.ok) (fun _ _ z=>by cases z) q) (bx _ _ z c (b.cl I.ok) (fun _ _ z=>by cases z) q')
 ·have hx':(dz X.env scope s.heap.objs.size).kindOf x=some .cell∨(dz X.env scope s.heap.objs.size).kindOf x=some .free:=hx
  rw[gC] at hx'
  show ∃ c,(cellsFrom (s.heap.objs.size+1) scope.names (bp X.env.cells scope.names [])).lookup x=some c
  cases q:scope.names.lookup x with
  | none=>rw[q] at hx';rcases hx' with z | z <;> cases z
  | some k=>
   have hm:(x,k)∈scope.names:=Zh q
   cases k with
   | cell=>exact Xn.mp (Xb scope.names _ _ (.inl q))
   | free=>
    obtain⟨c,hc⟩:=c_ (cs:=X.env.cells) scope.names [] x (.inl hm)
    exact Xn.mp (Xb scope.names _ _ (.inr (by rw[hc];rfl)))
   | _=>rw[q] at hx';exfalso;revert hx';simp
 ·rcases cV b I e with⟨h1,_,_⟩ | ⟨_,h2⟩
  ·exact Xl h1
  ·exfalso
   have q:=cM b.nd h2
   have hx':(scope.names.lookup x == some .local||scope.names.lookup x == some .cell)=true:=hx
   rw[q] at hx'
   revert hx'
   decide
 ·rcases cV b I e with⟨h1,_,_⟩ | ⟨h1,_⟩
  ·intro z
   subst z
   exact absurd (XD (hlt _ ha) h1) (Zl _)
  ·exact (hf a ha).2.2.2.2.1 x c h1
 ·have h4:=(hf a ha).2.2.2.1
  rcases h4 with z | z
  ·exact I.ok.noex a o e z
  ·exact absurd (YA (Yn e) (ZH I.ok.bsz z)) (Zl _)
 ·intro z
  rcases YF.mp (I.stkSub a z) with q | q
  ·exact (hf a ha).2.1 q
  ·exact (hf a ha).2.2.1 q
def bK (own:Nat)(ix:List Nat)(σ:St):St:=List.replicate own none++ix.map fun j=>(σ[j]?).join
theorem cZ (own:Nat)(ix:List Nat)(σ:St):(bK own ix σ).length=own+ix.length:=by
 unfold bK;rw[Yh,YM,Yf]
theorem fD {own:Nat}{ix:List Nat}{σ:St}{i:Nat}{v:V}(h:(bK own ix σ)[i]?=some (some v)):own≤i∧∃ j,ix[i-own]?=some j∧σ[j]?=some (some v):=by
 unfold bK at h
 by_cases hi:i<own
 ·rw[Zb (by rw[YM];exact hi),ZV,Yk hi] at h
  cases h
 ·rw[YQ (by rw[YM];omega),YM,YE] at h
  refine⟨by omega,?_⟩
  cases q:ix[i-own]? with
  | none=>rw[q] at h;cases h
  | some j=>
   rw[q] at h
   refine⟨j,rfl,?_⟩
   cases q2:σ[j]? with
   | none=>rw[YY,q2] at h;cases h
   | some o=>
    rw[YY,q2] at h
    cases o with
    | none=>cases h
    | some v'=>rw[Option.join_some] at h;cases h;rfl
structure Caps (X:Cx) (scope:Scope) (N:List Str) (own:Nat) (ix:List Nat):Prop where
 len:N.length=own+ix.length
 cap:∀ (i:Nat) (j:Nat) (x:Str),N[own+i]?=some x→ix[i]?=some j→X.N[j]?=some x∧scope.names.lookup x=some .free
theorem oe {own:Nat}{ix:List Nat}(b:BlkScope X scope)(cp:Caps X scope N own ix)(I:Inv X pz σ H s)(hf:∀ a∈fp,eB X pz H a)(hlt:∀ a∈fp,a<s.heap.objs.size) :
  Inv (blk X scope N s H fp pz) [] (bK own ix σ) H { s with heap:=pushCells (s.heap.push { cls:=.type "dict",data:=.dict #[] }) scope.names }:=by
 have kp:∀ a o,s.heap.get? a=some o→(pushCells (s.heap.push { cls:=.type "dict",data:=.dict #[] }) scope.names).get? a=some o:=fun a o e=>XU _ _ a o (Yd _ e)
 refine⟨wJ b I hf hlt,rfl,I.bare,Un.kept kp,⟨_,(Heap.Ns.new s.heap (.type "dict")).keeps (XU _ _),fun i x v e1 e2 e3=>?_⟩,fun y c e=>?_,I.fresh,fun y c e=>?_,fun p hp=>?_,I.hok.kept kp,?_⟩
 ·obtain⟨ho,j,ej,ev⟩:=fD e2
  have e1':N[own+(i-own)]?=some x:=by rw[show own+(i-own)=i by omega];exact e1
  obtain⟨hN,hfree⟩:=cp.cap (i-own) j x e1' ej
  obtain⟨m,hn,hl⟩:=I.loc
  have hk:X.env.kindOf x=some .cell∨X.env.kindOf x=some .free:=b.free (x,.free) (Zh hfree) rfl
  have hv:Vis X.env.scope x:=hk.elim (fun z=>.inr (.inl z)) fun z=>.inr (.inr z)
  obtain⟨u,r,lk⟩:=hl j x v hN ev hv
  refine⟨u,r,.inr ⟨?_,?_⟩⟩
  ·show (dz X.env scope s.heap.objs.size).kindOf x=some .cell∨(dz X.env scope s.heap.objs.size).kindOf x=some .free
   rw[gC,hfree]
   show some (if _ then NameKind.cell else NameKind.free)=some .cell∨some (if _ then NameKind.cell else NameKind.free)=some .free
   split
   ·exact .inl rfl
   ·exact .inr rfl
  ·rcases lk with⟨k,_⟩ | ⟨_,c,ec,z⟩
   ·rw[k] at hk
    rcases hk with z | z <;> cases z
   ·refine⟨c,?_,z.keeps kp⟩
    show (cellsFrom (s.heap.objs.size+1) scope.names (bp X.env.cells scope.names [])).lookup x=some c
    rw[lZ]
    ·obtain⟨c',hc'⟩:=c_ (cs:=X.env.cells) scope.names [] x (.inl (Zh hfree))
     have:=bx _ _ x c' (b.cl I.ok) (fun _ _ z=>by cases z) hc'
     rw[ec] at this
     cases this
     exact hc'
    ·intro k hk' z
     rw[cM b.nd hk'] at hfree
     cases hfree
     cases z
 ·rcases cV b I e with⟨_,h2,_⟩ | ⟨h1,_⟩
  ·exact⟨_,h2⟩
  ·obtain⟨v,z⟩:=I.cell y c h1
   exact⟨v,z.keeps kp⟩
 ·rcases cV b I e with⟨h1,_,_⟩ | ⟨h1,_⟩
  ·exact I.hok.fresh (Xl h1)
  ·exact I.freeC y c h1
 ·have hp':p∈X.pn++pz:=by
   have:p∈(X.pn++pz)++[]:=hp
   rwa [YC] at this
  obtain⟨e,n,ne,nf,d⟩:=I.pin p hp'
  refine⟨kp _ _ e,n,Yy (Yn e),fun z=>?_,d⟩
  rcases YF.mp (I.stkSub p.1 z) with q | q
  ·exact ne q
  ·exact nf q
 ·rw[cZ]
  exact cp.len.symm
theorem lK {σ':St}{H':Hp}{s':Shared}{h':Heap}{pl:Kp}(I:Inv X pz σ H s)(hf:∀ a∈fp,eB X pz H a)(J:Inv (blk X scope N s H fp pz) pl σ' H' s')(hs:Heap.SameBut s.heap.objs.size s'.heap h') :
  Inv X pz σ H' { s' with heap:=h' }:=by
 have hC:H' s.heap.objs.size=none:=J.free
 have ne:∀ a o,s.heap.get? a=some o→a≠s.heap.objs.size:=fun a o e=>Yy (Yn e)
 have u:Un (frs X.stack) fp H H' s.heap s'.heap:=J.base
 refine I.call' (ch:=fp) (s':={ s' with heap:=h' }) J.os ⟨fun a o e n h1 h2=>(hs.2 a (ne a o e)).trans (u.keep a o e n h1 h2),fun a o e n h1 h2=>?_,fun a o e n h2=>u.free a o e n h2,fun a o e h2=>?_,u.tups,u.frzs,u.tbls⟩ (fun a o e=>?_) J.bare fun a ha=>?_
 ·obtain⟨sl,q⟩:=u.slot a o e n h1 h2
  exact⟨sl,(hs.2 a (ne a o e)).trans q⟩
 ·obtain⟨o',q⟩:=u.there a o e h2
  exact⟨o',(hs.2 a (ne a o e)).trans q⟩
 ·refine (J.hok a o e).stay (fun c v hc q=>(hs.2 c ?_).trans q) (fun _ q=>q) fun _ _ q=>q
  rintro rfl
  rcases hc with rfl | hc
  ·rw[hC] at e;cases e
  ·rw[hC] at hc;cases hc
 ·obtain⟨_,h2,_,h4,h5,h6⟩:=hf a ha
  exact⟨h4,h2,h5,h6⟩
theorem qm {pl:Kp}{H':Hp}(b:BlkScope X scope)(I:Inv X pz σ H s)(hf:∀ a∈fp,eB X pz H a)(hlt:∀ a∈fp,a<s.heap.objs.size)(hn:∀ a∈fp,H' a=none) :
  ∀ a∈fp,eB (blk X scope N s H fp pz) [] H' a:=fun a ha=>by
 obtain⟨_,h2,h3,h4,h5,h6⟩:=hf a ha
 refine⟨hn a ha,Yy (hlt a ha),fun z=>?_,.inl ha,fun x c e=>?_,fun p hp=>?_⟩
 ·rcases YF.mp (I.stkSub a z) with q | q
  ·exact h2 q
  ·exact h3 q
 ·rcases cV b I e with⟨q,_,_⟩ | ⟨q,_⟩
  ·intro z
   subst z
   exact absurd (XD (hlt _ ha) q) (Zl _)
  ·exact h5 x c q
 ·have hp':p∈X.pn++pz:=by
   have:p∈(X.pn++pz)++[]:=hp
   rwa [YC] at this
  exact h6 p hp'
end
theorem lV {M:Model}{A:Around}{E:Kv}{s:Shared}{scope:Scope}{env:Env}{Q:Env→Shared→Prop}(cl:List (Str×Addr))
  (h:∀ cenv:Env,cenv={ scope:=scope,locals:=s.heap.objs.size,globals:=env.globals,cells:=cellsFrom (s.heap.objs.size+1) scope.names cl,qual:=env.qual,func:=none,code:=env.code,frame:=env.frame,builtins:=env.builtins }→
   Q cenv { s with heap:=pushCells (s.heap.push { cls:=.type "dict",data:=.dict #[] }) scope.names }) :
  wpAny M A (newFunctionEnv scope env.globals cl [] env.qual none .none (some env)) Q E s:=by
 simp only[newFunctionEnv,Option.isSome_some,if_true]
 refine Yj (wpAny_alloc ?_)
 refine Yj (wpAny_layCells _ (fun name kind cells=>by cases hkc:kind == NameKind.cell <;> simp[hkc]) _ _ _ _ ?_)
 rw[show ({ s with heap:=s.heap.push { cls:=.type "dict",data:=.dict #[] } }:Shared).heap.objs.size=s.heap.objs.size+1 from Heap.size_push ..]
 refine Yj ?_
 rw[List.forIn_nil]
 exact Yu (Yu (h _ rfl))
theorem o0 {prog:Program}{w:World}{A:Around}{R:Kr}{s:Shared}{elt target iter:Expr}{ifs:List Expr}{scope:Scope}{pos:Pos}{it acc:Value}{env:Env}(I:Nat→Shared→Prop)
  (turn:∀ n s,I n s→wpAny (model prog w) A (pyNext it) (fun r s₁=>match r with
   | none=>R (.ok .next) s₁
   | some v=>wpAny (model prog w) A (letOwnedTupleGo target it v) (fun _ s₁=>wpAny (model prog w) A (assign target env v) (fun _ s₂=>
     wpAny (model prog w) A (forIn ifs true fun c r=>if r=true then do let ok ← isTrue c env (eval c env);pure (ForInStep.yield ok) else pure (ForInStep.yield r)) (fun ok s₃=>
      if ok=true then wpAny (model prog w) A (eval elt env) (fun x s₄=>
       wpAny (model prog w) A (call (.builtin "list.append") [acc,x]) (fun _ s₅=>∃ m,m<n∧I m s₅) (fun _ _=>False) s₄) (fun _ _=>False) s₃
      else ∃ m,m<n∧I m s₃) (fun _ _=>False) s₂) (fun _ _=>False) s₁) (fun _ _=>False) s₁) (fun _ _=>False) s)
  (n:Nat) (h:I n s) :
  codeAny (model prog w) A (.compLoop (.ListComp elt [⟨target,iter,ifs,0⟩] scope pos) 0 it acc env) R s:=by
 refine codeAny_loop rfl I (fun n s hI=>?_) n h
 show wpAny _ A ((compTurn (.ListComp elt [⟨target,iter,ifs,0⟩] scope pos) 0 it acc env).onRaise (fun x=>do noteFrame x env;theTreesLotGoes x)) _ _ s
 refine wpAny_noted ?_
 rw[compTurn_list]
 refine Yj (wpAny_standAt (Yj (Zn (turn n s hI) (fun r s₁ h₁=>?_) fun _ _ h'=>h'.elim)))
 cases r with
 | none=>exact Yu h₁
 | some v=>
  refine Yj (Zn h₁ (fun _ s₁' h₁'=>?_) fun _ _ h'=>h'.elim)
  refine Yj (Zn h₁' (fun _ s₂ h₂=>Yj (Zn h₂ (fun ok s₃ h₃=>?_) fun _ _ h'=>h'.elim)) fun _ _ h'=>h'.elim)
  cases ok with
  | true=>
   rw[Yk rfl] at h₃
   simp only[if_true]
   exact Yj (Yj (Zn h₃ (fun x s₄ h₄=>Yj (Zn h₄ (fun _ s₅ h₅=>Yu (Yu ⟨rfl,h₅⟩)) fun _ _ h'=>h'.elim)) fun _ _ h'=>h'.elim))
  | false=>
   rw[Ym Yg] at h₃
   simp only[Xu,if_false]
   exact Yu ⟨rfl,h₃⟩
def yJ:TT:=fun _ H Q=>Q true H
def jF (X:Cx)(ifs:List Expr)(t:TT):Prop:=
 ∀ (pz:Kp) (s:Shared) (σ:St) (H:Hp) (Q:Bool→Hp→Prop),Inv X pz σ H s→t σ H Q→
  wpAny (model X.prog X.w) X.A (forIn ifs true fun c r=>if r=true then do let ok ← isTrue c X.env (eval c X.env);pure (ForInStep.yield ok) else pure (ForInStep.yield r)) (TP X pz σ Q) X.xe s
theorem pq {X:Cx}:jF X [] yJ:=fun _ _ _ H _ I h=>Yu ⟨H,I,h⟩
def nM (own:Nat)(ix:List Nat)(wi:TI)(g:TG)(tc:TT)(te:TE):TE:=fun σ H Q=>wi σ H fun J H1=>∀ acc,H1 acc=none→∃ W:Nat→Nat→List V→Hp→Prop,
 (∃ m,W 0 m [] (upd H1 acc (.lst [])))∧∀ i m ys H,W i m ys H→
  (J.stop i H∧Q (.ref acc) H)∨(J.go i H∧∃ N:List V→Hp→Prop,(∀ ys' H',N ys' H'→∃ m',m' < m∧W (i+1) m' ys' H')∧∀ x H',J.yld i H x H'→g x (bK own ix σ) H' fun σ2 H2=>
   (σ2.length=own+ix.length∧∀ (j:Nat) v,(bK own ix σ)[j]?=some (some v)→σ2[j]?=some (some v)) ∧
   tc σ2 H2 fun ok H3=>if ok=true then te σ2 H3 fun y H4=>H4 acc=some (.lst ys)∧ys.length<sizeLine∧N (ys++[y]) (upd H4 acc (.lst (ys++[y]))) else N ys H3)
section
variable {X:Cx} {elt tg iter:Expr} {ifs:List Expr} {scope:Scope} {pos:Pos} {N:List Str} {own:Nat} {ix:List Nat} {wi:TI} {g:TG} {tc:TT} {te:TE}
theorem gY {pz:Kp}{σ:St}{s:Shared}{Q:VK}{itv:Value}{RR:Value→Addr→Result→Shared→Prop}{E:Kv}(hcalm:X.calm=true)(b:BlkScope X scope)(cp:Caps X scope N own ix)
  (hg:∀ s H fp pz,PG (blk X scope N s H fp pz) tg g) (hc:∀ s H fp pz,jF (blk X scope N s H fp pz) ifs tc) (he:∀ s H fp pz,PE (blk X scope N s H fp pz) elt te)
  (hp:PIE X pz σ tg (fun J H1=>∀ acc,H1 acc=none→∃ W:Nat→Nat→List V→Hp→Prop,
   (∃ m,W 0 m [] (upd H1 acc (.lst [])))∧∀ i m ys H,W i m ys H→
    (J.stop i H∧Q (.ref acc) H)∨(J.go i H∧∃ N:List V→Hp→Prop,(∀ ys' H',N ys' H'→∃ m',m' < m∧W (i+1) m' ys' H')∧∀ x H',J.yld i H x H'→g x (bK own ix σ) H' fun σ2 H2=>
     (σ2.length=own+ix.length∧∀ (j:Nat) v,(bK own ix σ)[j]?=some (some v)→σ2[j]?=some (some v)) ∧
     tc σ2 H2 fun ok H3=>if ok=true then te σ2 H3 fun y H4=>H4 acc=some (.lst ys)∧ys.length<sizeLine∧N (ys++[y]) (upd H4 acc (.lst (ys++[y]))) else N ys H3)) itv s)
  (hR:∀ (s3:Shared) (H3:Hp) (fp:List Addr) (acc:Addr) (σ':St) (H':Hp) (s':Shared),Inv X pz σ H3 s3→(∀ a∈fp,eB X pz H3 a)→Inv (blk X scope N s3 H3 fp pz) [] σ' H' s'→Q (.ref acc) H'→RR (.ref acc) s3.heap.objs.size (.ok .next) s') :
  wpAny (model X.prog X.w) X.A (newList []) (fun acc s₃=>wpAny (model X.prog X.w) X.A (newFunctionEnv scope X.env.globals (bp X.env.cells scope.names []) [] X.env.qual none .none (some X.env)) (fun cenv s₄=>
   codeAny (model X.prog X.w) X.A (.compStart (.ListComp elt [⟨tg,iter,ifs,0⟩] scope pos) 0 itv acc { cenv with scope:=relabel scope X.env }) (RR acc cenv.locals) s₄) E s₃) E s:=by
 obtain⟨it,fp,tn,J,H1,rfl,I1,T,st1,f1,hacc⟩:=hp
 refine wpAny_newObj_type ?_
 -- the list
 have I3:Inv X pz σ (upd H1 s.heap.objs.size (.lst [])) { s with heap:=s.heap.push { cls:=.type "list",dict:=none,data:=.seq ([]:List Value).toArray } }:=I1.lnew (ys:=[]) (its:=[]) .nil (Zm _)
 generalize hs3:({ s with heap:=s.heap.push { cls:=.type "list",dict:=none,data:=.seq ([]:List Value).toArray } }:Shared)=s3 at I3 ⊢
 have kp3:∀ a o,s.heap.get? a=some o→s3.heap.get? a=some o:=fun a o e=>by rw[← hs3];exact Yd _ e
 have st3:tn 0 s3.heap:=T.keep _ _ _ st1 fun a _ o e=>kp3 a o e
 have lt1:∀ a∈fp,a<s.heap.objs.size:=fun a ha=>by obtain⟨o,e,_⟩:=T.obj _ _ st1 a ha;exact Yn e
 have f3:∀ a∈fp,eB X pz (upd H1 s.heap.objs.size (.lst [])) a:=fun a ha=>⟨by rw[ag (Yy (lt1 a ha))];exact (f1 a ha).1,(f1 a ha).2⟩
 have lt3:∀ a∈fp,a<s3.heap.objs.size:=fun a ha=>by obtain⟨o,e,_⟩:=T.obj _ _ st3 a ha;exact Yn e
 obtain⟨W,⟨m0,w0⟩,turn⟩:=hacc s.heap.objs.size I1.fresh
 generalize hH3:upd H1 s.heap.objs.size (.lst [])=H3 at I3 f3 w0
 generalize hacc':s.heap.objs.size=acc at w0 turn ⊢
 refine lV _ fun cenv hc'=>?_
 subst hc'
 have J0:=oe (N:=N) (fp:=fp) b cp I3 f3 lt3
 have st4:tn 0 (pushCells (s3.heap.push { cls:=.type "dict",data:=.dict #[] }) scope.names):=T.keep _ _ _ st3 fun a _ o e=>XU _ _ a o (Yd _ e)
 generalize hs4:({ s3 with heap:=pushCells (s3.heap.push { cls:=.type "dict",data:=.dict #[] }) scope.names }:Shared)=s4 at J0 ⊢
 have st4':tn 0 s4.heap:=by rw[← hs4];exact st4
 -- the loop
 have loop:codeAny (model X.prog X.w) X.A (.compLoop (.ListComp elt [⟨tg,iter,ifs,0⟩] scope pos) 0 (.ref it) (.ref acc) (dz X.env scope s3.heap.objs.size)) (RR (.ref acc) s3.heap.objs.size) s4:=by
  refine o0 (fun n s'=>∃ i ys H',Inv (blk X scope N s3 H3 fp pz) [] (bK own ix σ) H' s'∧tn i s'.heap∧(∀ a∈fp,H' a=none)∧W i n ys H') ?_ m0 ⟨0,[],H3,J0,st4',fun a ha=>(f3 a ha).1,w0⟩
  rintro n s5 ⟨i,ys,H5,J5,st5,fr5,w5⟩
  have fp5:=qm (pl:=[]) (N:=N) b I3 f3 lt3 fr5
  rcases turn i n ys H5 w5 with⟨stop,q⟩ | ⟨go,NN,hN,step⟩
  ·refine thn (T.done (blk X scope N s3 H3 fp pz) rfl rfl rfl hcalm i [] s5 _ H5 _ J5 fp5 st5 stop) fun r s6 ⟨hr,J6⟩=>?_
   subst hr
   exact hR s3 H3 fp acc _ H5 s6 I3 f3 J6 q
  ·refine thn (T.item (blk X scope N s3 H3 fp pz) rfl rfl rfl hcalm i [] s5 _ H5 _ J5 fp5 st5 go) fun r s6 ⟨u,hr,h6⟩=>?_
   subst hr
   refine thn h6 fun _ s7 hh_=>?_
   obtain⟨x,H7,J7,r7,y7,st7,fr7⟩:=hh_
   have fp7:=qm (pl:=[]) (N:=N) b I3 f3 lt3 fr7
   have J7':=J7.pinned fp7 (T.obj _ _ st7)
   have back:∀ {σ8:St} {H8:Hp} {s8:Shared} {zs:List V},Inv (blk X scope N s3 H3 fp pz) ([]++gy fp s7.heap) σ8 H8 s8→(σ8.length=own+ix.length∧∀ (j:Nat) v,(bK own ix σ)[j]?=some (some v)→σ8[j]?=some (some v))→NN zs H8→
     ∃ m,m<n∧∃ i ys H',Inv (blk X scope N s3 H3 fp pz) [] (bK own ix σ) H' s8∧tn i s8.heap∧(∀ a∈fp,H' a=none)∧W i m ys H':=fun {σ8 H8 s8 zs} J8 hw n8=>by
    obtain⟨m',hm,w8⟩:=hN zs H8 n8
    refine⟨m',hm,i+1,zs,H8,(J8.unpinned).weak (by rw[cZ,hw.1]) hw.2,T.keep _ _ _ st7 fun a ha o e=>(J8.pin (a,o) (Yv _ (Yv _ (db ha e)))).1,fun a ha=>?_,w8⟩
    obtain⟨o,e,d⟩:=T.obj _ _ st7 a ha
    exact (J8.pin (a,o) (Yv _ (Yv _ (db ha e)))).2.1
   refine thn (hg s3 H3 fp pz _ s7 _ H7 x u _ J7' r7 (step x H7 y7)) fun _ s8 hh_=>?_
   obtain⟨σ8,H8,J8,hw,q8⟩:=hh_
   refine thn (hc s3 H3 fp pz _ s8 σ8 H8 _ J8 q8) fun ok s9 hh_=>?_
   obtain⟨H9,J9,q9⟩:=hh_
   cases ok with
   | false=>
    rw[Ym Yg] at q9 ⊢
    exact back J9 hw q9
   | true=>
    rw[Yk rfl] at q9 ⊢
    refine thn (he s3 H3 fp pz _ s9 σ8 H9 _ J9 q9) fun y s10 hh_=>?_
    obtain⟨z,H10,J10,rz,e10,hlt,n10⟩:=hh_
    refine thn (dZ (X:=blk X scope N s3 H3 fp pz) _ s10 σ8 H10 (.ref acc) [z] (.ref acc) [y] (fun v H'=>v=.non∧H'=upd H10 acc (.lst (ys++[z]))) J10 rfl (.cons rz .nil) ⟨acc,ys,z,rfl,rfl,e10,hlt,rfl,rfl⟩) fun _ s11 hh_=>?_
    obtain⟨_,H11,J11,_,_,e11⟩:=hh_
    subst e11
    exact back J11 hw n10
 subst hs4
 exact codeAny_compStart_list loop (T.self _ _ _ _ _ st4' loop)
theorem nO (hcalm:X.calm=true)(b:BlkScope X scope)(cp:Caps X scope N own ix)(hi:PI X tg iter wi)
  (hg:∀ s H fp pz,PG (blk X scope N s H fp pz) tg g) (hc:∀ s H fp pz,jF (blk X scope N s H fp pz) ifs tc) (he:∀ s H fp pz,PE (blk X scope N s H fp pz) elt te)
  (hnames:∀ y∈scope.names,y.2=.local→scope.names.lookup y.1=some .local:=by decide)
  (hs:∀ x,foldedSetIterable iter X.env x=pure x:=by intro _;rfl):PE X (.ListComp elt [⟨tg,iter,ifs,0⟩] scope pos) (nM own ix wi g tc te):=by
 intro pz s σ H Q I h
 rw[eval_ListComp]
 refine wpAny_comprehension_free (use:=none) rfl hs (gJ (b.cl I.ok)) b.kind hnames (thn (hi pz s σ H _ I h) fun v s1 h1=>thn h1 fun itv s2 h2=>?_)
 refine gY (RR:=fun acc C=>compPost (model X.prog X.w) X.A X.xe none (EP X pz σ Q) acc C) hcalm b cp hg hc he h2 ?_
 intro s3 H3 fp acc σ' H' s' I3 f3 J q
 obtain⟨m,hn,_⟩:=id J.loc
 exact⟨m,hn,fun h' hs'=>⟨.ref acc,H',lK I3 f3 J hs',rfl,q⟩⟩
theorem g8 {i:Nat}{y:Str}{py spos:Pos}(hcalm:X.calm=true)(hN:X.N.Nodup)(hiN:X.N[i]?=some y)(hx:Loc X.env.scope y)(b:BlkScope X scope)(cp:Caps X scope N own ix)(hi:PI X tg iter wi)
  (hg:∀ s H fp pz,PG (blk X scope N s H fp pz) tg g) (hc:∀ s H fp pz,jF (blk X scope N s H fp pz) ifs tc) (he:∀ s H fp pz,PE (blk X scope N s H fp pz) elt te)
  (hsw:swapsWith (.ListComp elt [⟨tg,iter,ifs,0⟩] scope pos) (some (.Name y py)) spos.line X.env=pure true:=by rfl)
  (hnames:∀ y∈scope.names,y.2=.local→scope.names.lookup y.1=some .local:=by decide)
  (hs:∀ x,foldedSetIterable iter X.env x=pure x:=by intro _;rfl)
  (hf:X.fn y=true∨X.env.scope.names.lookup y=some .local:=by first | exact .inl rfl | exact .inr rfl | assumption) :
  PS X (.Assign [.Name y py] (.ListComp elt [⟨tg,iter,ifs,0⟩] scope pos) spos) (rh (nM own ix wi g tc te) (fP i)):=by
 intro pz s σ H D I h
 rw[exec_Assign_Name_used _ _ _ _ hsw]
 refine Yj (wpAny_standAt (Yj ?_))
 show wpAny _ X.A (do let _ ← comprehension (.ListComp elt [⟨tg,iter,ifs,0⟩] scope pos) scope X.env _ (newList []) false (eval iter X.env) (some (assign (.Name y py) X.env))) _ _ s
 refine Yj (Zn (wpAny_comprehension_free (use:=some (assign (.Name y py) X.env)) (Q:=fun _ s'=>SP X pz D .next s') rfl hs (gJ (b.cl I.ok)) b.kind hnames
  (thn (hi pz s σ H _ I h) fun v s1 h1=>thn h1 fun itv s2 h2=>?_)) (fun _ s' hq=>Yu (Yu hq)) fun _ _ e=>e)
 refine gY (Q:=fun x H1=>fP i x σ H1 D.nx) (RR:=fun acc C=>compPost (model X.prog X.w) X.A X.xe (some (assign (.Name y py) X.env)) (fun _ s'=>SP X pz D .next s') acc C) hcalm b cp hg hc he h2 ?_
 intro s3 H3 fp acc σ' H' s' I3 f3 J q
 obtain⟨m,hn,_⟩:=id J.loc
 have hn:s'.heap.Ns s3.heap.objs.size m:=hn
 have I':Inv X pz σ H' s':=lK I3 f3 J (Heap.SameBut.refl ..)
 show wpAny _ X.A (assign (.Name y py) X.env (.ref acc)) _ _ s'
 refine wpAny_assign_Name (i6 (v:=.ref acc) I' hN hiN hx rfl (fun s'' I'' hh_=>?_) hf)
 obtain⟨a,hsb,ha⟩:=hh_
 have hne:s3.heap.objs.size≠a:=by
  rcases ha with ha | ha
  ·rw[ha];exact ZT I3.lt
  ·obtain⟨v,z⟩:=I3.cell y a ha
   exact ZT z.lt
 refine⟨m,hn.sameBut hsb hne,fun h' hs'=>?_⟩
 refine⟨σ.set i (some (.ref acc)),H',?_,q⟩
 exact I''.turned (h':=h') (t':=s''.toks) (it:=s3.heap.objs.size) (fun c o hc e=>(hs'.2 c hc).trans e) J.free (ZT I3.lt) (.inr I3.sz) (fun x c e=>by obtain⟨v,z⟩:=I3.cell x c e;exact Yy z.lt) fun p hp=>Yy (Yn (I3.pin p hp).1)
end
section
variable {κ:Type} [DecidableEq κ]
def c9 (kvs:List (κ×V))(k:κ):Option V:=(kvs.find? fun kv=>decide (kv.1=k)).map (·.2)
def eI (kvs:List (κ×V))(k:κ)(v:V):List (κ×V):=
 if (kvs.any fun kv=>decide (kv.1=k))=true then kvs.map (fun kv=>if kv.1=k then (kv.1,v) else kv) else kvs++[(k,v)]
theorem g9 {p:κ×V}{r:List (κ×V)}{k:κ}(e:p.1=k):c9 (p::r) k=some p.2:=by simp[c9,ZF,e]
theorem io {p:κ×V}{r:List (κ×V)}{k:κ}(e:¬ p.1=k):c9 (p::r) k=c9 r k:=by simp[c9,ZF,e]
theorem kH (k:κ):∀ kvs:List (κ×V),(kvs.any fun kv=>decide (kv.1=k))=(c9 kvs k).isSome
 | []=>rfl
 | p::r=>by
  rw[XN]
  by_cases e:p.1=k
  ·simp only[g9 e,YK e,Bool.true_or,Option.isSome_some]
  ·rw[io e,Yz e,Bool.false_or];exact kH k r
theorem dA (kvs:List (κ×V))(k:κ)(v:V):(eI kvs k v).length≤kvs.length+1:=by
 unfold eI
 split
 ·rw[Yf];omega
 ·rw[Yh,Yw,YR];omega
theorem RelO.isSome_eq {o:Option V}{u:Option Value}(r:RelO o u):o.isSome=u.isSome:=by
 cases o with
 | none=>cases u with
  | none=>rfl
  | some _=>exact (show False from r).elim
 | some _=>cases u with
  | none=>exact (show False from r).elim
  | some _=>rfl
theorem KV.val {kvs:List (κ×V)}{vs:List (κ×Value)}(r:KV kvs vs)(k:κ):RelO (c9 kvs k) (valueAt vs k):=by
 unfold KV at r
 induction r with
 | nil=>exact True.intro
 | @cons p q ps qs h t ih=>
  obtain⟨h1,h2⟩:=h
  by_cases e:p.1=k
  ·have e':q.1=k:=h1.symm.trans e
   have b:valueAt (q::qs) k=some q.2:=by simp[valueAt,ZF,e']
   rw[g9 e,b];exact h2
  ·have e':¬ q.1=k:=fun z=>e (h1.trans z)
   have b:valueAt (q::qs) k=valueAt qs k:=by simp[valueAt,ZF,e']
   rw[io e,b];exact ih
theorem KV.any {kvs:List (κ×V)}{vs:List (κ×Value)}(r:KV kvs vs)(k:κ):(kvs.any fun kv=>decide (kv.1=k))=vs.any fun kv=>decide (kv.1=k):=by
 unfold KV at r
 induction r with
 | nil=>rfl
 | cons h t ih=>rw[XN,XN,ih,h.1]
theorem KV.repl {kvs:List (κ×V)}{vs:List (κ×Value)}(r:KV kvs vs)(k:κ){y:V}{u:Value}(ry:RelV y u) :
  KV (kvs.map fun kv=>if kv.1=k then (kv.1,y) else kv) (vs.map fun kv=>if kv.1=k then (kv.1,u) else kv):=by
 unfold KV at r ⊢
 induction r with
 | nil=>exact .nil
 | @cons p q ps qs h t ih=>
  rw[YJ,YJ]
  refine .cons ?_ ih
  obtain⟨h1,h2⟩:=h
  by_cases e:p.1=k
  ·rw[Yk e,Yk (h1.symm.trans e)];exact⟨h1,ry⟩
  ·rw[Ym e,Ym (fun z=>e (h1.trans z))];exact⟨h1,h2⟩
theorem KV.put {kvs:List (κ×V)}{vs:List (κ×Value)}(r:KV kvs vs)(k:κ){y:V}{u:Value}(ry:RelV y u):KV (eI kvs k y) (stored vs k u):=by
 unfold eI stored
 rw[r.any k]
 by_cases e:(vs.any fun kv=>decide (kv.1=k))=true
 ·rw[Yk e,Yk e];exact r.repl k ry
 ·rw[Ym e,Ym e];exact Paired.snoc r ⟨rfl,ry⟩
theorem KV.length {kvs:List (κ×V)}{vs:List (κ×Value)}(r:KV kvs vs):kvs.length=vs.length:=XM r
end
theorem p7 {P:Program}{w:World}{k:Key}{u:Value}(r:RelV (kV k) u):(aE P w).is k u=true:=by
 cases k with
 | inl i=>obtain⟨t,e⟩:=(show ∃ t,u=Value.int i t from r);subst e;exact kC P w i t
 | inr x=>obtain⟨t,e⟩:=(show ∃ t,u=Value.str x t from r);subst e;exact kU P w x t
theorem iW {P:Program}{w:World}:∀ {ks:List Key} {us:List Value},Vals (ks.map kV) us→ItemsAre (aE P w) ks us
 | [],_,r=>by rw[List.map_nil] at r;cases r;exact .nil
 | k::ks,_,r=>by
  rw[YJ] at r
  cases r with
  | cons h t=>exact .cons (p7 h) (iW t)
abbrev KT (H:Hp):List (List Key×V)→List (List Key×Addr×Value)→Prop:=Paired fun p q=>p.1=q.1∧H q.2.1=some (.tup (p.1.map kV))∧RelV p.2 q.2.2
theorem KT.val {H:Hp}{kvs:List (List Key×V)}{xs:List (List Key×Addr×Value)}(r:KT H kvs xs)(k:List Key):RelO (c9 kvs k) ((atKey xs k).map (·.2)):=by
 induction r with
 | nil=>exact True.intro
 | @cons p q ps qs h t ih=>
  obtain⟨h1,_,h2⟩:=h
  by_cases e:p.1=k
  ·have e':q.1=k:=h1.symm.trans e
   have b:atKey (q::qs) k=some q.2:=by simp[atKey,ZF,e']
   rw[g9 e,b];exact h2
  ·have e':¬ q.1=k:=fun z=>e (h1.trans z)
   have b:atKey (q::qs) k=atKey qs k:=by simp[atKey,ZF,e']
   rw[io e,b];exact ih
theorem KT.repl {H:Hp}{kvs:List (List Key×V)}{xs:List (List Key×Addr×Value)}(r:KT H kvs xs)(k:List Key){y:V}{u:Value}(ry:RelV y u) :
  KT H (kvs.map fun kv=>if kv.1=k then (kv.1,y) else kv) (xs.map (putAt k u)):=by
 induction r with
 | nil=>exact .nil
 | @cons p q ps qs h t ih=>
  rw[YJ,YJ]
  refine .cons ?_ ih
  obtain⟨h1,h2,h3⟩:=h
  unfold putAt
  by_cases e:p.1=k
  ·rw[Yk e,Yk (h1.symm.trans e)];exact⟨h1,h2,ry⟩
  ·rw[Ym e,Ym (fun z=>e (h1.trans z))];exact⟨h1,h2,h3⟩
theorem KT.put {H:Hp}{kvs:List (List Key×V)}{xs:List (List Key×Addr×Value)}(r:KT H kvs xs)(k:List Key){b:Addr}{y:V}{u:Value}(hb:H b=some (.tup (k.map kV)))(ry:RelV y u) :
  KT H (eI kvs k y) (storedH xs k b u):=by
 have e:(kvs.any fun kv=>decide (kv.1=k))=(atKey xs k).isSome:=by
  rw[kH,(r.val k).isSome_eq,Option.isSome_map]
 unfold eI storedH
 rw[e]
 by_cases q:(atKey xs k).isSome=true
 ·rw[Yk q,Yk q];exact r.repl k ry
 ·rw[Ym q,Ym q];exact Paired.snoc r ⟨rfl,hb,ry⟩
theorem KT.keeps {H H':Hp}{kvs:List (List Key×V)}{xs:List (List Key×Addr×Value)}(r:KT H kvs xs)(ht:∀ b ys,H b=some (.tup ys)→H' b=some (.tup ys)):KT H' kvs xs:=
 Paired.mapP r fun _ _ z=>⟨z.1,ht _ _ z.2.1,z.2.2⟩
section
variable {P:Program} {w:World} {H:Hp} {h:Heap} {a:Addr}
theorem uI {u:HO}(ok:HOk P w H h)(e:Rd H a u):ObjOk P w H h a u:=e.ok ok
theorem uD {kvs:List (Key×V)}(ok:HOk P w H h)(e:Rd H a (.dK kvs)):kvs.length≤sizeLine∧(a == sysModules)=false∧∃ vs,KV kvs vs∧h.DictOf (aE P w) a vs:=
 show ObjOk P w H h a (.dK kvs) from uI ok e
theorem w_ {kvs:List (Key×V)}(ok:HOk P w H h)(e:H a=some (.dK kvs)):kvs.length≤sizeLine∧(a == sysModules)=false∧∃ vs,KV kvs vs∧h.DictOf (aE P w) a vs:=uD ok (.inl e)
theorem gM {ks:List Key}(ok:HOk P w H h)(e:H a=some (.tup (ks.map kV))):(tupleKind (aE P w)).is h ks a:=by
 obtain⟨_,its,r,⟨o,h1,h2,n,h3⟩,_⟩:=(show ObjOk P w H h a (.tup (ks.map kV)) from ok a _ e)
 exact⟨o,its.toArray,n,h1,h2,h3,by simpa using iW r⟩
theorem uN {kvs:List (List Key×V)}(ok:HOk P w H h)(e:Rd H a (.dT kvs)):kvs.length≤sizeLine∧(a == sysModules)=false ∧
  ∃ xs,KT H kvs xs∧h.DictOfH (tupleKind (aE P w)) a xs:=by
 obtain⟨z,y,xs,r,o,es,ep,h1,h2,h3,h4,h5⟩:=(show ObjOk P w H h a (.dT kvs) from uI ok e)
 refine⟨z,y,xs,r,o,es,ep,h1,h2,h3,h4,fun x hx=>?_,h5⟩
 have all:∀ {l:List (List Key×V)} {m:List (List Key×Addr×Value)},KT H l m→∀ x∈m,(tupleKind (aE P w)).is h x.1 x.2.1:=by
  intro l m q
  induction q with
  | nil=>intro x hx;exact nomatch hx
  | @cons p q ps qs hq t ih=>
   intro x hx
   rcases YF.mp hx with e | hx
   ·subst e
    exact gM ok (by rw[← hq.1];exact hq.2.1)
   ·exact ih x hx
 exact all r x hx
theorem rf {kvs:List (List Key×V)}(ok:HOk P w H h)(e:H a=some (.dT kvs)):kvs.length≤sizeLine∧(a == sysModules)=false ∧
  ∃ xs,KT H kvs xs∧h.DictOfH (tupleKind (aE P w)) a xs:=uN ok (.inl e)
end
def DGet (H:Hp)(a:Addr)(y:V)(r:Option V):Prop:=
 (∃ kvs k,Rd H a (.dK kvs)∧y=kV k∧r=c9 kvs k)∨∃ kvs k b,Rd H a (.dT kvs)∧y=.ref b∧H b=some (.tup (k.map kV))∧r=c9 kvs k
def DPut (H:Hp)(a:Addr)(y v:V)(H':Hp):Prop:=
 (∃ kvs k,H a=some (.dK kvs)∧y=kV k∧kvs.length<sizeLine∧H'=upd H a (.dK (eI kvs k v))) ∨
 ∃ kvs k b,H a=some (.dT kvs)∧y=.ref b∧H b=some (.tup (k.map kV))∧kvs.length<sizeLine∧H'=upd H a (.dT (eI kvs k v))
theorem DGet.t {H:Hp}{a b:Addr}{kvs:List (List Key×V)}{k:List Key}(e:H a=some (.dT kvs))(eb:H b=some (.tup (k.map kV))):DGet H a (.ref b) (c9 kvs k):=.inr ⟨kvs,k,b,.inl e,rfl,eb,rfl⟩
theorem DPut.t {H:Hp}{a b:Addr}{kvs:List (List Key×V)}{k:List Key}{v:V}(e:H a=some (.dT kvs))(eb:H b=some (.tup (k.map kV)))(hl:kvs.length<sizeLine) :
  DPut H a (.ref b) v (upd H a (.dT (eI kvs k v))):=.inr ⟨kvs,k,b,e,rfl,eb,hl,rfl⟩
section
variable {X:Cx} {pz:Kp} {σ:St} {H:Hp} {s:Shared} {a:Addr} {y v:V} {u r:Value} {o:Option V} {A:Around} {E:Kv}
theorem Inv.big (I:Inv X pz σ H s):sysModules<s.heap.objs.size:=by
 have h:mainGlobals<s.heap.objs.size:=(I.mod.glob.keeps I.bk).lt
 exact XD (by decide) h
theorem t4 {Q:Kv}(hu:A.units+1<cLine)(I:Inv X pz σ H s)(g:DGet H a y o)(ry:RelV y u)(h:∀ s',Inv X pz σ H s'→Q (.bool (!o.isSome)) s') :
  wpAny (model X.prog X.w) A (compareOp .NotIn u (.ref a)) Q E s:=by
 rcases g with⟨kvs,k,e,ey,l⟩ | ⟨kvs,k,b,e,ey,eb,l⟩
 ·subst ey
  obtain⟨z,hd,vs,rel,dd⟩:=uD I.hok e
  refine wpAny_notIn_of (p7 ry) hd dd.mapOf ?_
  rw[← (rel.val k).isSome_eq,← l]
  exact h _ (I.tok _)
 ·subst ey
  cases (show u=Value.ref b from ry)
  obtain⟨z,hd,xs,rel,dd⟩:=uN I.hok e
  refine wpAny_notIn_heap (tupleKind_room_in1 hu) (gM I.hok eb) hd dd ?_
  have q:=(rel.val k).isSome_eq
  rw[Option.isSome_map] at q
  rw[← q,← l]
  exact h _ (I.tok _)
theorem jz {h':Heap}{t':Nat}{ob:HO}(I:Inv X pz σ H s)(mu:Mut (H a))(hs:Heap.SameBut a s.heap h')(he:∃ q,h'.get? a=some q)(new:ObjOk X.prog X.w (upd H a ob) h' a ob) :
  Inv X pz σ (upd H a ob) { s with heap:=h',toks:=t' }:=
 I.write (x:=a) (e:=a) mu (.inl rfl) (fun b q hb z=>(hs.2 b hb).trans z) he new
theorem wy {P:Program}{w:World}{H':Hp}{h':Heap}{kvs:List (Key×V)}{vs:List (Key×Value)}(z:kvs.length≤sizeLine)(hd:(a == sysModules)=false)(rel:KV kvs vs)(dd:h'.DictOf (aE P w) a vs) :
  ObjOk P w H' h' a (.dK kvs):=⟨z,hd,vs,rel,dd⟩
theorem n6 {H':Hp}{Q:Unit→Shared→Prop}(hu:A.units+1<cLine)(I:Inv X pz σ H s)(g:DPut H a y v H')(ry:RelV y u)(rv:RelV v r)(h:∀ s',Inv X pz σ H' s'→Q () s') :
  wpAny (model X.prog X.w) A (setItem (.ref a) u r) Q E s:=by
 rcases g with⟨kvs,k,e,ey,l,eH⟩ | ⟨kvs,k,b,e,ey,eb,l,eH⟩
 ·subst ey eH
  obtain⟨z,hd,vs,rel,dd⟩:=w_ I.hok e
  have hz:vs.length≤sizeLine:=by rw[← rel.length];exact z
  have hl:(eI kvs k v).length≤sizeLine:=by have:=dA kvs k v;omega
  refine wpAny_setItem_pairs (hsz:=hz) (p7 ry) dd fun h' dd' hs=>h _ ?_
  have he:∃ q,h'.get? a=some q:=let ⟨q,_,_,hq,_⟩:=dd';⟨q,hq⟩
  exact jz I (by rw[e];exact True.intro) hs he (wy hl hd (rel.put k rv) dd')
 ·subst ey eH
  cases (show u=Value.ref b from ry)
  obtain⟨z,hd,xs,rel,dd⟩:=rf I.hok e
  have hz:xs.length≤sizeLine:=by rw[← XM rel];exact z
  have hl:(eI kvs k v).length≤sizeLine:=by have:=dA kvs k v;omega
  refine wpAny_setItem_heap (hsz:=hz) (tupleKind_room_in1 hu) (gM I.hok eb) dd fun h' dd' hs=>h _ ?_
  obtain⟨q,es,ep,hq,h2,h3,h4,_,h5⟩:=dd'
  refine jz I (by rw[e];exact True.intro) hs ⟨q,hq⟩ ⟨hl,hd,_,(rel.put k eb rv).keeps fun c ys ec=>?_,q,es,ep,hq,h2,h3,h4,h5⟩
  rw[ag (uE ec e (fun z=>nomatch z))]
  exact ec
end
section
variable {X:Cx} {pz:Kp} {σ:St} {H:Hp} {s:Shared} {a:Addr} {kvs:List (Key×V)} {k:Key} {u:Value} {A:Around} {E:Kv}
end
def sT (ty td:TE):TE:=fun σ H Q=>ty σ H fun y H1=>td σ H1 fun x H2=>∃ a o,x=.ref a∧DGet H2 a y o∧Q (.bl (!o.isSome)) H2
def xg (td ty tv:TE):TS:=fun D σ H=>tv σ H fun v H1=>td σ H1 fun x H2=>ty σ H2 fun y H3=>∃ a H4,x=.ref a∧DPut H3 a y v H4∧D.nx σ H4
section
variable {X:Cx} {o i e value:Expr} {pos pos' tpos:Pos} {td ty tv:TE}
theorem o9 (hu:X.A.units+1<cLine)(hi:PE X i ty)(ho:PE X o td):PC X .NotIn i o (sT ty td):=by
 intro pz s σ H Q I h
 refine aR (hi pz s σ H _ I h) fun iv s1 y H1 I1 ry q1=>aR (ho pz s1 σ H1 _ I1 q1) fun u s2 x H2 I2 rx hh_=>?_
 obtain⟨a,ov,ex,g,q2⟩:=hh_
 subst ex
 obtain rfl:u=Value.ref a:=rx
 exact t4 hu I2 g ry fun s3 I3=>⟨.bl (!ov.isSome),H2,I3,rfl,q2⟩
theorem tJ (hu:X.A.units+1<cLine)(ho:PE X o td)(hi:PE X i ty)(hv:PE X value tv)(hs:swapsWith value (some (.Subscript o i pos')) pos.line X.env=pure false) :
  PS X (.Assign [.Subscript o i pos'] value pos) (xg td ty tv):=by
 intro pz s σ H D I h
 refine wpAny_Assign_Subscript (aR (hv pz s σ H _ I h) fun r s1 v H1 I1 rv q1=>aR (ho pz s1 σ H1 _ I1 q1) fun u s2 x H2 I2 rx q2=>aR (hi pz s2 σ H2 _ I2 q2) fun iv s3 y H3 I3 ry hh_=>?_) hs
 obtain⟨a,H4,ex,g,q3⟩:=hh_
 subst ex
 obtain rfl:u=Value.ref a:=rx
 exact n6 hu I3 g ry rv fun s4 I4=>⟨σ,H4,I4,q3⟩
end
theorem qG {P:Program}{w:World}{H:Hp}(h:Heap)(hb:sysModules<h.objs.size):ObjOk P w H (h.push { cls:=.type "dict",data:=.dict #[] }) h.objs.size (.dT []):=
 ⟨Zm _,XQ.mpr (Xj (Yy hb)),[],.nil,_,#[],0,Yp _ rfl,⟨rfl,rfl,rfl⟩,rfl,rfl,List.nodup_nil⟩
section
variable {X:Cx} {pos:Pos}
end
structure M1 (X:Cx) (o:Expr) (m:Str) (apos:Pos) (e:Expr) (cpos:Pos):Prop where
 base:attributeBase o m X.env (eval o X.env)=eval o X.env
 few:((backTo cpos (starEach [e] X.env)).all (fun x=>!x.1)&&(backToKw cpos (keywordEach [] X.env)).all (fun x=>x.1.isSome)
  && decide (([e]:List Expr).length+([]:List Keyword).length+(if ([]:List Keyword).isEmpty then 0 else 1)<30))=true
 line:(apos.endLine == cpos.line)=true
 trees:backTo cpos (starEach [e] X.env)=[(false,eval e X.env)]
structure M2 (X:Cx) (o:Expr) (m:Str) (apos:Pos) (e f:Expr) (cpos:Pos):Prop where
 base:attributeBase o m X.env (eval o X.env)=eval o X.env
 few:((backTo cpos (starEach [e,f] X.env)).all (fun x=>!x.1)&&(backToKw cpos (keywordEach [] X.env)).all (fun x=>x.1.isSome)
  && decide (([e,f]:List Expr).length+([]:List Keyword).length+(if ([]:List Keyword).isEmpty then 0 else 1)<30))=true
 line:(apos.endLine == cpos.line)=true
 trees:backTo cpos (starEach [e,f] X.env)=[(false,eval e X.env),(false,eval f X.env)]
section
variable {X:Cx} {pz:Kp} {σ:St} {H:Hp} {s:Shared} {a:Addr} {y d:V} {u r:Value} {o:Option V} {A:Around} {E:Kv}
end
section
variable {X:Cx} {o e f:Expr} {apos cpos:Pos} {td ty tx:TE}
end
section
variable {X:Cx} {pz:Kp} {σ:St} {H:Hp} {s:Shared} {a:Addr} {kvs:List (Key×V)} {A:Around} {E:Kv}
end
section
variable {X:Cx} {pz:Kp} {σ:St} {H:Hp} {s:Shared} {a:Addr} {y:V} {u:Value} {A:Around} {E:Kv}
end
section
variable {κ:Type} [DecidableEq κ]
end
inductive D where
 | non | bl (b:Bool) | int (i:Int) | str (x:Str)
 | tup (xs:List D) | lst (xs:List D)
 | dT (kvs:List (List Key×D)) | dK (kvs:List (Key×D))
 | ins (C:Addr) (fs:List (Str×D))
 | fn (a:Addr) (v:V) (d:D)
mutual
inductive Rep (K:PySem.W.Frag) (H:Hp):V→D→Prop
 | non:Rep K H .non .non
 | bl {b:Bool}:Rep K H (.bl b) (.bl b)
 | int {i:Int}:Rep K H (.int i) (.int i)
 | str {x:Str}:Rep K H (.str x) (.str x)
 | tup {a:Addr} {vs:List V} {ds:List D}:H a=some (.tup vs)→Reps K H vs ds→Rep K H (.ref a) (.tup ds)
 | lst {a:Addr} {vs:List V} {ds:List D}:SqL K H a vs→Reps K H vs ds→Rep K H (.ref a) (.lst ds)
 | dT {a:Addr} {vs:List (List Key×V)} {ds:List (List Key×D)}:H a=some (.dT vs)→RepsT K H vs ds→Rep K H (.ref a) (.dT ds)
 | dK {a:Addr} {vs:List (Key×V)} {ds:List (Key×D)}:H a=some (.dK vs)→RepsK K H vs ds→Rep K H (.ref a) (.dK ds)
 | ins {a C dx:Addr} {vs:List (Str×V)} {ds:List (Str×D)}:H a=some (.ins C dx vs)→RepsF K H vs ds→Rep K H (.ref a) (.ins C ds)
 /-- a lambda at a: what it takes from without is v -/
 | fn {a:Addr} {v:V} {d:D}:Rep K H v d→Rep K H (.ref a) (.fn a v d)
inductive Reps (K:PySem.W.Frag) (H:Hp):List V→List D→Prop
 | nil:Reps K H [] []
 | cons {v:V} {d:D} {vs:List V} {ds:List D}:Rep K H v d→Reps K H vs ds→Reps K H (v::vs) (d::ds)
inductive RepsT (K:PySem.W.Frag) (H:Hp):List (List Key×V)→List (List Key×D)→Prop
 | nil:RepsT K H [] []
 | cons {k:List Key} {v:V} {d:D} {vs:List (List Key×V)} {ds:List (List Key×D)}:Rep K H v d→RepsT K H vs ds→RepsT K H ((k,v)::vs) ((k,d)::ds)
inductive RepsK (K:PySem.W.Frag) (H:Hp):List (Key×V)→List (Key×D)→Prop
 | nil:RepsK K H [] []
 | cons {k:Key} {v:V} {d:D} {vs:List (Key×V)} {ds:List (Key×D)}:Rep K H v d→RepsK K H vs ds→RepsK K H ((k,v)::vs) ((k,d)::ds)
inductive RepsF (K:PySem.W.Frag) (H:Hp):List (Str×V)→List (Str×D)→Prop
 | nil:RepsF K H [] []
 | cons {k:Str} {v:V} {d:D} {vs:List (Str×V)} {ds:List (Str×D)}:Rep K H v d→RepsF K H vs ds→RepsF K H ((k,v)::vs) ((k,d)::ds)
end
theorem Same.seqT {K:Kq}{H H':Hp}{a:Addr}{xs:List V}(e:Same H H')(h:SqT K H a xs):SqT K H' a xs:=by
 rcases h with (h | ⟨o,h⟩) | h
 ·exact .inl (.inl (e _ _ h))
 ·exact .inl (.inr ⟨o,e _ _ h⟩)
 ·exact .inr h
section
variable {K:Kq} {H H':Hp}
theorem Rep.same (e:Same H H'){v:V}{d:D}(h:Rep K H v d):Rep K H' v d:=
 Rep.rec (motive_1:=fun v d _=>Rep K H' v d) (motive_2:=fun v d _=>Reps K H' v d) (motive_3:=fun v d _=>RepsT K H' v d) (motive_4:=fun v d _=>RepsK K H' v d) (motive_5:=fun v d _=>RepsF K H' v d) .non .bl .int .str (fun h _ i=>.tup (e _ _ h) i) (fun h _ i=>.lst (e.seq h) i) (fun h _ i=>.dT (e _ _ h) i) (fun h _ i=>.dK (e _ _ h) i) (fun h _ i=>.ins (e _ _ h) i) (fun _ i=>.fn i) .nil (fun _ _ a b=>.cons a b) .nil (fun _ _ a b=>.cons a b) .nil (fun _ _ a b=>.cons a b) .nil (fun _ _ a b=>.cons a b) h
theorem Reps.same (e:Same H H'){v:List V}{d:List D}(h:Reps K H v d):Reps K H' v d:=
 Reps.rec (motive_1:=fun v d _=>Rep K H' v d) (motive_2:=fun v d _=>Reps K H' v d) (motive_3:=fun v d _=>RepsT K H' v d) (motive_4:=fun v d _=>RepsK K H' v d) (motive_5:=fun v d _=>RepsF K H' v d) .non .bl .int .str (fun h _ i=>.tup (e _ _ h) i) (fun h _ i=>.lst (e.seq h) i) (fun h _ i=>.dT (e _ _ h) i) (fun h _ i=>.dK (e _ _ h) i) (fun h _ i=>.ins (e _ _ h) i) (fun _ i=>.fn i) .nil (fun _ _ a b=>.cons a b) .nil (fun _ _ a b=>.cons a b) .nil (fun _ _ a b=>.cons a b) .nil (fun _ _ a b=>.cons a b) h
theorem RepsT.same (e:Same H H'){v:List (List Key×V)}{d:List (List Key×D)}(h:RepsT K H v d):RepsT K H' v d:=
 RepsT.rec (motive_1:=fun v d _=>Rep K H' v d) (motive_2:=fun v d _=>Reps K H' v d) (motive_3:=fun v d _=>RepsT K H' v d) (motive_4:=fun v d _=>RepsK K H' v d) (motive_5:=fun v d _=>RepsF K H' v d) .non .bl .int .str (fun h _ i=>.tup (e _ _ h) i) (fun h _ i=>.lst (e.seq h) i) (fun h _ i=>.dT (e _ _ h) i) (fun h _ i=>.dK (e _ _ h) i) (fun h _ i=>.ins (e _ _ h) i) (fun _ i=>.fn i) .nil (fun _ _ a b=>.cons a b) .nil (fun _ _ a b=>.cons a b) .nil (fun _ _ a b=>.cons a b) .nil (fun _ _ a b=>.cons a b) h
theorem RepsK.same (e:Same H H'){v:List (Key×V)}{d:List (Key×D)}(h:RepsK K H v d):RepsK K H' v d:=
 RepsK.rec (motive_1:=fun v d _=>Rep K H' v d) (motive_2:=fun v d _=>Reps K H' v d) (motive_3:=fun v d _=>RepsT K H' v d) (motive_4:=fun v d _=>RepsK K H' v d) (motive_5:=fun v d _=>RepsF K H' v d) .non .bl .int .str (fun h _ i=>.tup (e _ _ h) i) (fun h _ i=>.lst (e.seq h) i) (fun h _ i=>.dT (e _ _ h) i) (fun h _ i=>.dK (e _ _ h) i) (fun h _ i=>.ins (e _ _ h) i) (fun _ i=>.fn i) .nil (fun _ _ a b=>.cons a b) .nil (fun _ _ a b=>.cons a b) .nil (fun _ _ a b=>.cons a b) .nil (fun _ _ a b=>.cons a b) h
theorem RepsF.same (e:Same H H'){v:List (Str×V)}{d:List (Str×D)}(h:RepsF K H v d):RepsF K H' v d:=
 RepsF.rec (motive_1:=fun v d _=>Rep K H' v d) (motive_2:=fun v d _=>Reps K H' v d) (motive_3:=fun v d _=>RepsT K H' v d) (motive_4:=fun v d _=>RepsK K H' v d) (motive_5:=fun v d _=>RepsF K H' v d) .non .bl .int .str (fun h _ i=>.tup (e _ _ h) i) (fun h _ i=>.lst (e.seq h) i) (fun h _ i=>.dT (e _ _ h) i) (fun h _ i=>.dK (e _ _ h) i) (fun h _ i=>.ins (e _ _ h) i) (fun _ i=>.fn i) .nil (fun _ _ a b=>.cons a b) .nil (fun _ _ a b=>.cons a b) .nil (fun _ _ a b=>.cons a b) .nil (fun _ _ a b=>.cons a b) h
end
section
variable {K:Kq} {H H':Hp}
theorem Reps.ind {M:List V→List D→Prop}(n:M [] [])(c:∀ {v:V} {d:D} {vs:List V} {ds:List D},Rep K H v d→Reps K H vs ds→M vs ds→M (v::vs) (d::ds)){vs:List V}{ds:List D}(h:Reps K H vs ds):M vs ds:=
 Reps.rec (motive_1:=fun _ _ _=>True) (motive_2:=fun vs ds _=>M vs ds) (motive_3:=fun _ _ _=>True) (motive_4:=fun _ _ _=>True) (motive_5:=fun _ _ _=>True) trivial trivial trivial trivial (fun _ _ _=>trivial) (fun _ _ _=>trivial) (fun _ _ _=>trivial) (fun _ _ _=>trivial) (fun _ _ _=>trivial) (fun _ _=>trivial) n (fun h q _ ih=>c h q ih) trivial (fun _ _ _ _=>trivial) trivial (fun _ _ _ _=>trivial) trivial (fun _ _ _ _=>trivial) h
theorem RepsT.ind {M:List (List Key×V)→List (List Key×D)→Prop}(n:M [] [])(c:∀ {k:List Key} {v:V} {d:D} {vs:List (List Key×V)} {ds:List (List Key×D)},Rep K H v d→RepsT K H vs ds→M vs ds→M ((k,v)::vs) ((k,d)::ds)){vs:List (List Key×V)}{ds:List (List Key×D)}(h:RepsT K H vs ds):M vs ds:=
 RepsT.rec (motive_1:=fun _ _ _=>True) (motive_2:=fun _ _ _=>True) (motive_3:=fun vs ds _=>M vs ds) (motive_4:=fun _ _ _=>True) (motive_5:=fun _ _ _=>True) trivial trivial trivial trivial (fun _ _ _=>trivial) (fun _ _ _=>trivial) (fun _ _ _=>trivial) (fun _ _ _=>trivial) (fun _ _ _=>trivial) (fun _ _=>trivial) trivial (fun _ _ _ _=>trivial) n (fun h q _ ih=>c h q ih) trivial (fun _ _ _ _=>trivial) trivial (fun _ _ _ _=>trivial) h
theorem Reps.length {vs:List V}{ds:List D}(h:Reps K H vs ds):vs.length=ds.length:=Reps.ind (M:=fun vs ds=>vs.length=ds.length) rfl (fun _ _ ih=>Zz Nat.succ ih) h
theorem Reps.get {vs:List V}{ds:List D}{i:Nat}{d:D}(h:Reps K H vs ds):ds[i]?=some d→∃ v,vs[i]?=some v∧Rep K H v d:=
 Reps.ind (M:=fun vs ds=>∀ i:Nat,ds[i]?=some d→∃ v,vs[i]?=some v∧Rep K H v d) (fun _ e=>nomatch e) (fun r _ ih i e=>by
  cases i with
  | zero=>obtain rfl:=YH e;exact⟨_,rfl,r⟩
  | succ i=>exact ih i e) h i
theorem Reps.getV {vs:List V}{ds:List D}{i:Nat}{v:V}(h:Reps K H vs ds):vs[i]?=some v→∃ d,ds[i]?=some d∧Rep K H v d:=
 Reps.ind (M:=fun vs ds=>∀ i:Nat,vs[i]?=some v→∃ d,ds[i]?=some d∧Rep K H v d) (fun _ e=>nomatch e) (fun r _ ih i e=>by
  cases i with
  | zero=>obtain rfl:=YH e;exact⟨_,rfl,r⟩
  | succ i=>exact ih i e) h i
theorem Reps.append {vs ws:List V}{ds es:List D}(h:Reps K H vs ds)(s:Reps K H ws es):Reps K H (vs++ws) (ds++es):=Reps.ind (M:=fun vs ds=>Reps K H (vs++ws) (ds++es)) s (fun r _ ih=>.cons r ih) h
theorem Reps.take {vs:List V}{ds:List D}(n:Nat)(h:Reps K H vs ds):Reps K H (vs.take n) (ds.take n):=Reps.ind (M:=fun vs ds=>∀ n,Reps K H (vs.take n) (ds.take n)) (fun n=>by cases n <;> exact .nil) (fun r _ ih n=>by
  cases n with
  | zero=>exact .nil
  | succ n=>exact .cons r (ih n)) h n
theorem Reps.drop {vs:List V}{ds:List D}(n:Nat)(h:Reps K H vs ds):Reps K H (vs.drop n) (ds.drop n):=Reps.ind (M:=fun vs ds=>∀ n,Reps K H (vs.drop n) (ds.drop n)) (fun n=>by cases n <;> exact .nil) (fun r q ih n=>by
  cases n with
  | zero=>exact .cons r q
  | succ n=>exact ih n) h n
theorem Reps.set {v:V}{d:D}(r:Rep K H v d){vs:List V}{ds:List D}(i:Nat)(h:Reps K H vs ds):Reps K H (vs.set i v) (ds.set i d):=Reps.ind (M:=fun vs ds=>∀ i,Reps K H (vs.set i v) (ds.set i d)) (fun _=>.nil) (fun q t ih i=>by
  cases i with
  | zero=>exact .cons r t
  | succ i=>exact .cons q (ih i)) h i
theorem Reps.eraseIdx {vs:List V}{ds:List D}(i:Nat)(h:Reps K H vs ds):Reps K H (vs.eraseIdx i) (ds.eraseIdx i):=Reps.ind (M:=fun vs ds=>∀ i,Reps K H (vs.eraseIdx i) (ds.eraseIdx i)) (fun _=>.nil) (fun q t ih i=>by
  cases i with
  | zero=>exact t
  | succ i=>exact .cons q (ih i)) h i
theorem Reps.one {v:V}{d:D}(r:Rep K H v d):Reps K H [v] [d]:=.cons r .nil
theorem Reps.ints:∀ (ns:List Int),Reps K H (ns.map V.int) (ns.map D.int)
 | []=>.nil
 | _::r=>.cons .int (Reps.ints r)
end
inductive OD where
 | lst (ds:List D) | lst2 (dss:List (List D)) | tup2 (dss:List (List D)) | dT (kvs:List (List Key×D)) | dK (kvs:List (Key×D)) | ins (C:Addr) (fs:List (Str×D))
def OD.d:OD→D
 | .lst ds=>.lst ds
 | .lst2 dss=>.lst (dss.map .lst)
 | .tup2 dss=>.tup (dss.map .lst)
 | .dT kvs=>.dT kvs
 | .dK kvs=>.dK kvs
 | .ins C fs=>.ins C fs
def OD.flat:OD→Bool
 | .lst2 _=>false
 | .tup2 _=>false
 | _=>true
inductive All2 {α β:Type} (R:α→β→Prop):List α→List β→Prop
 | nil:All2 R [] []
 | cons {a:α} {b:β} {as:List α} {bs:List β}:R a b→All2 R as bs→All2 R (a::as) (b::bs)
theorem All2.imp {α β:Type}{R S:α→β→Prop}(f:∀ a b,R a b→S a b){as:List α}{bs:List β}(h:All2 R as bs):All2 S as bs:=by
 induction h with
 | nil=>exact .nil
 | cons h _ ih=>exact .cons (f _ _ h) ih
theorem All2.length {α β:Type}{R:α→β→Prop}{as:List α}{bs:List β}(h:All2 R as bs):as.length=bs.length:=by
 induction h with
 | nil=>rfl
 | cons _ _ ih=>exact Zz Nat.succ ih
def ORep1 (K:Kq)(F:Hp):OD→HO→Prop
 | .lst ds,.lst vs=>Reps K F vs ds
 | .dT ds,.dT vs=>RepsT K F vs ds
 | .dK ds,.dK vs=>RepsK K F vs ds
 | .ins C fs,.ins C' _ vs=>C=C'∧RepsF K F vs fs
 | _,_=>False
def ORep (K:Kq)(F H:Hp)(ow:Addr→Prop):OD→Addr→Prop
 | .lst2 dss,a=>ow a∧∃ bs,H a=some (.lst (bs.map .ref))∧(a::bs).Nodup∧All2 (fun b ds=>ow b∧∃ u,H b=some u∧ORep1 K F (.lst ds) u) bs dss
 | .tup2 dss,a=>ow a∧∃ bs,H a=some (.tup (bs.map .ref))∧(a::bs).Nodup∧All2 (fun b ds=>ow b∧∃ u,H b=some u∧ORep1 K F (.lst ds) u) bs dss
 | o,a=>ow a∧∃ u,H a=some u∧ORep1 K F o u
theorem ORep1.same {K:Kq}{F F':Hp}(e:Same F F'){o:OD}{u:HO}(h:ORep1 K F o u):ORep1 K F' o u:=by
 cases o <;> cases u <;> first | exact h.elim | exact Reps.same e h | exact RepsT.same e h | exact RepsK.same e h | exact⟨h.1,RepsF.same e h.2⟩
theorem ORep.flat {K:Kq}{F H:Hp}{ow:Addr→Prop}{o:OD}{a:Addr}(f:o.flat=true):ORep K F H ow o a↔ow a∧∃ u,H a=some u∧ORep1 K F o u:=by
 cases o <;> first | exact Iff.rfl | cases f
theorem ORep.mono {K:Kq}{F F' H H':Hp}{ow ow':Addr→Prop}{o:OD}{a:Addr}(e:Same F F')(k:∀ b u,ow b→H b=some u→H' b=some u∧ow' b)(h:ORep K F H ow o a):ORep K F' H' ow' o a:=by
 by_cases f:o.flat=true
 ·obtain⟨h1,u,h2,h3⟩:=(ORep.flat f).mp h
  obtain⟨k1,k2⟩:=k a u h1 h2
  exact (ORep.flat f).mpr ⟨k2,u,k1,h3.same e⟩
 ·cases o with
  | lst2 dss=>
   obtain⟨h1,bs,h2,h3,h4⟩:=h
   obtain⟨k1,k2⟩:=k a _ h1 h2
   exact⟨k2,bs,k1,h3,h4.imp fun b ds ⟨q1,u,q2,q3⟩=>by obtain⟨c1,c2⟩:=k b u q1 q2;exact⟨c2,u,c1,q3.same e⟩⟩
  | tup2 dss=>
   obtain⟨h1,bs,h2,h3,h4⟩:=h
   obtain⟨k1,k2⟩:=k a _ h1 h2
   exact⟨k2,bs,k1,h3,h4.imp fun b ds ⟨q1,u,q2,q3⟩=>by obtain⟨c1,c2⟩:=k b u q1 q2;exact⟨c2,u,c1,q3.same e⟩⟩
  | _=>exact absurd rfl f
theorem ORep1.rep {K:Kq}{F H:Hp}{o:OD}{u:HO}{a:Addr}(f:o.flat=true)(h:ORep1 K F o u)(hH:H a=some u)(e:Same F H):Rep K H (.ref a) o.d:=by
 cases o with
 | lst ds=>cases u with | lst vs=>exact .lst (SqL.of hH) (Reps.same e h) | _=>exact h.elim
 | dT ds=>cases u with | dT vs=>exact .dT hH (RepsT.same e h) | _=>exact h.elim
 | dK ds=>cases u with | dK vs=>exact .dK hH (RepsK.same e h) | _=>exact h.elim
 | ins C fs=>cases u with | ins C' dx vs=>(obtain⟨rfl,h⟩:=h;exact .ins hH (RepsF.same e h)) | _=>exact h.elim
 | lst2 _=>cases f
 | tup2 _=>cases f
theorem ORep.rep {K:Kq}{F H G:Hp}{ow:Addr→Prop}{o:OD}{a:Addr}(h:ORep K F H ow o a)(e:Same F G)(k:∀ b u,ow b→H b=some u→G b=some u):Rep K G (.ref a) o.d:=by
 by_cases f:o.flat=true
 ·obtain⟨h1,u,h2,h3⟩:=(ORep.flat f).mp h
  exact h3.rep f (k a u h1 h2) e
 ·cases o with
  | lst2 dss=>
   obtain⟨h1,bs,h2,h3,h4⟩:=h
   refine .lst (SqL.of (k a _ h1 h2)) ?_
   clear h2 h1 h3 f
   induction h4 with
   | nil=>exact .nil
   | cons q r ih=>
    obtain⟨q1,u,q2,q3⟩:=q
    exact .cons (q3.rep (o:=.lst _) rfl (k _ u q1 q2) e) ih
  | tup2 dss=>
   obtain⟨h1,bs,h2,h3,h4⟩:=h
   refine .tup (k a _ h1 h2) ?_
   clear h2 h1 h3 f
   induction h4 with
   | nil=>exact .nil
   | cons q r ih=>
    obtain⟨q1,u,q2,q3⟩:=q
    exact .cons (q3.rep (o:=.lst _) rfl (k _ u q1 q2) e) ih
  | _=>exact absurd rfl f
inductive DV where
 | v (d:D) | own (o:OD) (t:Option Addr) | bor (o:OD)
abbrev DF:=List (Option DV)
def DVRep (K:Kq)(P F H:Hp)(ow:Addr→Prop):DV→V→Prop
 | .v d,x=>Rep K F x d
 | .own o t,x=>∃ a,x=.ref a∧ORep K F H (fun b=>F b=none∧P b=none∧ow b) o a∧∀ b,t=some b→b=a
 | .bor o,x=>∃ a,x=.ref a∧ORep K F P (fun _=>True) o a
def iE:Addr→Prop:=fun _=>True
structure DHp (P F H:Hp):Prop where
 sub:Same F H
 pro:Same P H
 dis:∀ a o,P a=some o→F a=none
structure DInv (K:PySem.W.Frag) (P F H:Hp) (ρ:DF) (σ:St):Prop extends DHp P F H where
 len:ρ.length=σ.length
 rep:∃ O:Addr→Option Nat,∀ (i:Nat) (x:DV),ρ[i]?=some (some x)→∃ v,σ[i]?=some (some v)∧DVRep K P F H (fun b=>O b=some i) x v
structure Evo (P F H F' H':Hp):Prop where
 ext:Same F F'
 hp:DHp P F' H'
 keep:∀ a o,H a=some o→F a=none→H' a=some o∧F' a=none
theorem Evo.same {P F H F' H':Hp}(h:DHp P F H)(e:Evo P F H F' H'):Same H H':=fun a o q=>by
 cases c:F a with
 | none=>exact (e.keep a o q c).1
 | some u=>
  have:=h.sub a u c
  rw[q] at this
  cases this
  exact e.hp.sub a o (e.ext a o c)
theorem DVRep.evo {K:Kq}{P F H F' H':Hp}{ow:Addr→Prop}(e:Evo P F H F' H'){x:DV}{v:V}(r:DVRep K P F H ow x v):DVRep K P F' H' ow x v:=by
 cases x with
 | v d=>exact Rep.same e.ext r
 | own o t=>
  obtain⟨a,rfl,h,ht⟩:=r
  exact⟨a,rfl,h.mono e.ext fun b u ⟨q1,q2,q3⟩ hb=>by (obtain⟨k1,k2⟩:=e.keep b u hb q1;exact⟨k1,k2,q2,q3⟩),ht⟩
 | bor o=>
  obtain⟨a,rfl,h⟩:=r
  exact⟨a,rfl,h.mono e.ext fun b u q hb=>⟨hb,q⟩⟩
theorem DVRep.imp {K:Kq}{P F H:Hp}{ow ow':Addr→Prop}(f:∀ b u,F b=none→P b=none→H b=some u→ow b→ow' b){x:DV}{v:V}(r:DVRep K P F H ow x v):DVRep K P F H ow' x v:=by
 cases x with
 | v d=>exact r
 | own o t=>
  obtain⟨a,rfl,h,ht⟩:=r
  exact⟨a,rfl,h.mono (Same.refl _) fun b u ⟨q1,q2,q3⟩ hb=>⟨hb,q1,q2,f b u q1 q2 hb q3⟩,ht⟩
 | bor o=>exact r
theorem DInv.evo {K:Kq}{P F H F' H':Hp}{ρ:DF}{σ:St}(I:DInv K P F H ρ σ)(e:Evo P F H F' H'):DInv K P F' H' ρ σ:=
 ⟨e.hp,I.len,by obtain⟨O,h⟩:=I.rep;exact⟨O,fun i x hx=>by obtain⟨v,h1,h2⟩:=h i x hx;exact⟨v,h1,h2.evo e⟩⟩⟩
theorem DInv.at {K:Kq}{P F H:Hp}{ρ:DF}{σ:St}(I:DInv K P F H ρ σ){i:Nat}{x:DV}(h:ρ[i]?=some (some x)):∃ v,σ[i]?=some (some v)∧DVRep K P F H iE x v:=by
 obtain⟨O,k⟩:=I.rep
 obtain⟨v,h1,h2⟩:=k i x h
 exact⟨v,h1,h2.imp fun _ _ _ _ _ _=>trivial⟩
theorem Evo.refl {P F H:Hp}(h:DHp P F H):Evo P F H F H:=⟨Same.refl _,h,fun _ _ a b=>⟨a,b⟩⟩
theorem Evo.trans {P F H F1 H1 F2 H2:Hp}(a:Evo P F H F1 H1)(b:Evo P F1 H1 F2 H2):Evo P F H F2 H2:=
 ⟨a.ext.trans b.ext,b.hp,fun c o h n=>by obtain⟨h1,n1⟩:=a.keep c o h n;exact b.keep c o h1 n1⟩
theorem Evo.laid {P F H:Hp}(h:DHp P F H){a:Addr}{o:HO}(hn:H a=none):Evo P F H (upd F a o) (upd H a o) where
 ext:=fun b u e=>by rw[ag (fun z=>by subst z;rw[h.sub _ _ e] at hn;cases hn)];exact e
 hp:=⟨fun b u e=>by
   by_cases hb:b=a
   ·subst hb;rw[ak] at e ⊢;exact e
   ·rw[ag hb] at e ⊢;exact h.sub b u e,
  fun b u e=>by rw[ag (fun z=>by subst z;rw[h.pro _ _ e] at hn;cases hn)];exact h.pro b u e,
  fun b u e=>by rw[ag (fun z=>by subst z;rw[h.pro _ _ e] at hn;cases hn)];exact h.dis b u e⟩
 keep:=fun b u e n=>by
  have hb:b≠a:=fun z=>by subst z;rw[e] at hn;cases hn
  rw[ag hb,ag hb];exact⟨e,n⟩
theorem Evo.side {P F H:Hp}(h:DHp P F H){a:Addr}{o:HO}(hn:H a=none):Evo P F H F (upd H a o) where
 ext:=Same.refl _
 hp:=⟨fun b u e=>by rw[ag (fun z=>by subst z;rw[h.sub _ _ e] at hn;cases hn)];exact h.sub b u e,
  fun b u e=>by rw[ag (fun z=>by subst z;rw[h.pro _ _ e] at hn;cases hn)];exact h.pro b u e,h.dis⟩
 keep:=fun b u e n=>by
  have hb:b≠a:=fun z=>by subst z;rw[e] at hn;cases hn
  rw[ag hb];exact⟨e,n⟩
theorem DHp.free {P F H:Hp}(h:DHp P F H){a:Addr}(hn:H a=none):F a=none∧P a=none:=⟨h.sub.free hn,h.pro.free hn⟩
def RepS (K:Kq)(H F:Hp)(v:V)(d:D):Prop:=
 Rep K F v d∨∃ (a:Addr) (o:OD) (u:HO),v=.ref a∧F a=none∧H a=some u∧ORep1 K F o u∧o.flat=true∧d=o.d
theorem RepS.evo {K:Kq}{P F H F' H':Hp}{v:V}{d:D}(r:RepS K H F v d)(e:Evo P F H F' H'):RepS K H' F' v d:=
 r.imp (Rep.same e.ext) fun ⟨a,o,u,h1,h2,h3,h4,h5⟩=>⟨a,o,u,h1,(e.keep a u h3 h2).2,(e.keep a u h3 h2).1,h4.same e.ext,h5⟩
theorem DInv.slot {K:Kq}{P F H:Hp}{ρ:DF}{σ:St}(I:DInv K P F H ρ σ){i:Nat}{o:OD}{v:V}(hv:σ[i]?=some (some v))(h:(∃ t,ρ[i]?=some (some (.own o t)))∨ρ[i]?=some (some (.bor o))):∃ a,v=.ref a∧ORep K F H (fun b=>F b=none) o a:=by
 rcases h with⟨t,h⟩ | h
 ·obtain⟨v',h1,a,rfl,h2,_⟩:=I.at h
  rw[hv] at h1;cases h1
  exact⟨a,rfl,h2.mono (Same.refl _) fun b u q hb=>⟨hb,q.1⟩⟩
 ·obtain⟨v',h1,a,rfl,h2⟩:=I.at h
  rw[hv] at h1;cases h1
  exact⟨a,rfl,h2.mono (Same.refl _) fun b u q hb=>⟨I.pro b u hb,I.dis b u hb⟩⟩
theorem RepS.now {K:Kq}{F H:Hp}{v:V}{d:D}(I:Same F H)(r:RepS K H F v d):Rep K H v d:=by
 rcases r with r | ⟨a,o,u,rfl,_,h3,h4,hfl,rfl⟩
 ·exact r.same I
 ·exact h4.rep hfl h3 I
theorem RepS.slot {K:Kq}{P F H:Hp}{ρ:DF}{σ:St}(I:DInv K P F H ρ σ){i:Nat}{o:OD}{v:V}(hv:σ[i]?=some (some v))(h:(∃ t,ρ[i]?=some (some (.own o t)))∨ρ[i]?=some (some (.bor o)))(hfl:o.flat=true):RepS K H F v o.d:=by
 obtain⟨a,rfl,h2⟩:=I.slot hv h
 obtain⟨h3,u,h4,h5⟩:=(ORep.flat hfl).mp h2
 exact .inr ⟨a,o,u,rfl,h3,h4,h5,hfl,rfl⟩
def tD (K:Kq)(f:DF→Option D):TE:=fun σ H Q=>∃ P F ρ d,f ρ=some d∧DInv K P F H ρ σ∧∀ v F' H',Evo P F H F' H'→Rep K F' v d→Q v H'
def tR (K:Kq)(f:DF→Option D):TE:=fun σ H Q=>∃ P F ρ d,f ρ=some d∧DInv K P F H ρ σ∧∀ v F' H',Evo P F H F' H'→RepS K H' F' v d→Q v H'
def tN (K:Kq)(f:DF→Option D):TE:=fun σ H Q=>∃ P F ρ d,f ρ=some d∧DInv K P F H ρ σ∧∀ v F' H',Evo P F H F' H'→Rep K H' v d→Q v H'
def tB' (K:Kq)(f:DF→Option Bool):TT:=fun σ H Q=>∃ P F ρ b,f ρ=some b∧DInv K P F H ρ σ∧∀ F' H',Evo P F H F' H'→Q b H'
def tL (K:Kq)(f:DF→Option (List D)):TA:=fun σ H Q=>∃ P F ρ ds,f ρ=some ds∧DInv K P F H ρ σ∧∀ vs F' H',Evo P F H F' H'→Reps K F' vs ds→Q vs H'
def PDE (X:Cx)(e:Expr)(f:DF→Option D):Prop:=PE X e (tD X.K f)
def PDR (X:Cx)(e:Expr)(f:DF→Option D):Prop:=PE X e (tR X.K f)
def PDN (X:Cx)(e:Expr)(f:DF→Option D):Prop:=PE X e (tN X.K f)
def PDT (X:Cx)(e:Expr)(f:DF→Option Bool):Prop:=PT X e (tB' X.K f)
def PDA (X:Cx)(es:List Expr)(f:DF→Option (List D)):Prop:=PA X es (tL X.K f)
section
variable {X:Cx} {e a b c:Expr} {es:List Expr} {pos:Pos}
theorem PE.imp {t t':TE}(h:PE X e t)(i:∀ σ H Q,t' σ H Q→t σ H Q):PE X e t':=fun pz s σ H Q I q=>h pz s σ H Q I (i σ H Q q)
theorem PT.imp {t t':TT}(h:PT X e t)(i:∀ σ H Q,t' σ H Q→t σ H Q):PT X e t':=fun pz s σ H Q I q=>h pz s σ H Q I (i σ H Q q)
theorem PA.imp {t t':TA}(h:PA X es t)(i:∀ σ H Q,t' σ H Q→t σ H Q):PA X es t':=fun pos pz s σ H Q I q=>h pos pz s σ H Q I (i σ H Q q)
def getV (i:Nat)(ρ:DF):Option D:=match ρ[i]? with
 | some (some (.v d))=>some d
 | _=>none
def aa (i:Nat)(ρ:DF):Option D:=match ρ[i]? with
 | some (some (.v d))=>some d
 | some (some (.own o _))=>if o.flat=true then some o.d else none
 | some (some (.bor o))=>if o.flat=true then some o.d else none
 | _=>none
def aj (i:Nat)(ρ:DF):Option D:=match ρ[i]? with
 | some (some (.v d))=>some d
 | some (some (.own o _))=>some o.d
 | some (some (.bor o))=>some o.d
 | _=>none
theorem jM {i:Nat}{ρ:DF}{d:D}(h:getV i ρ=some d):ρ[i]?=some (some (.v d)):=by
 unfold getV at h
 split at h
 ·rename_i q;cases h;exact q
 ·cases h
theorem au (i:Nat)(h:PE X e (cL i)):PDE X e (getV i):=h.imp fun σ H Q=>un7 fun P F ρ d hf I k=>by
 obtain⟨v,h1,h2⟩:=I.at (jM hf)
 exact⟨v,h1,k v F H (Evo.refl I.toDHp) h2⟩
theorem al (i:Nat)(h:PE X e (cL i)):PDR X e (aa i):=h.imp fun σ H Q=>un7 fun P F ρ d hf I k=>by
 unfold aa at hf
 split at hf
 ·rename_i d' q
  cases hf
  obtain⟨v,h1,h2⟩:=I.at q
  exact⟨v,h1,k v F H (Evo.refl I.toDHp) (.inl h2)⟩
 ·rename_i o t q
  split at hf
  ·rename_i hfl
   cases hf
   obtain⟨v,h1,h2⟩:=I.at q
   exact⟨v,h1,k v F H (Evo.refl I.toDHp) (RepS.slot I h1 (.inl ⟨t,q⟩) hfl)⟩
  ·cases hf
 ·rename_i o q
  split at hf
  ·rename_i hfl
   cases hf
   obtain⟨v,h1,h2⟩:=I.at q
   exact⟨v,h1,k v F H (Evo.refl I.toDHp) (RepS.slot I h1 (.inr q) hfl)⟩
  ·cases hf
 ·cases hf
theorem aP (i:Nat)(h:PE X e (cL i)):PDN X e (aj i):=h.imp fun σ H Q=>un7 fun P F ρ d hf I k=>by
 unfold aj at hf
 split at hf
 ·rename_i d' q
  cases hf
  obtain⟨v,h1,h2⟩:=I.at q
  exact⟨v,h1,k v F H (Evo.refl I.toDHp) (Rep.same I.sub h2)⟩
 ·rename_i o t q
  cases hf
  obtain⟨v,h1,_⟩:=I.at q
  obtain⟨a,rfl,h2⟩:=I.slot h1 (.inl ⟨t,q⟩)
  exact⟨_,h1,k _ F H (Evo.refl I.toDHp) (h2.rep I.sub fun _ _ _ q=>q)⟩
 ·rename_i o q
  cases hf
  obtain⟨v,h1,_⟩:=I.at q
  obtain⟨a,rfl,h2⟩:=I.slot h1 (.inr q)
  exact⟨_,h1,k _ F H (Evo.refl I.toDHp) (h2.rep I.sub fun _ _ _ q=>q)⟩
 ·cases hf
theorem PDE.r {f:DF→Option D}(h:PDE X e f):PDR X e f:=PE.imp h fun σ H Q=>un7 fun P F ρ d hf I k=>⟨P,F,ρ,d,hf,I,fun v F' H' ev r=>k v F' H' ev (.inl r)⟩
theorem PDR.n {f:DF→Option D}(h:PDR X e f):PDN X e f:=PE.imp h fun σ H Q=>un7 fun P F ρ d hf I k=>⟨P,F,ρ,d,hf,I,fun v F' H' ev r=>k v F' H' ev (r.now ev.hp.sub)⟩
theorem PDE.n {f:DF→Option D}(h:PDE X e f):PDN X e f:=h.r.n
theorem nT {d:D}{v:V}(h:PE X e (tC v))(r:∀ F,Rep X.K F v d):PDE X e (fun _=>some d):=h.imp fun σ H Q=>un7 fun P F ρ d' hf I k=>by
 cases hf
 exact k v F H (Evo.refl I.toDHp) (r F)
theorem am {i j p}:PDE X (.Constant (.int i) j p) (fun _=>some (.int i)):=nT q_ fun _=>.int
theorem lf {i j p}:PDE X (.Constant (.bool i) j p) (fun _=>some (.bl i)):=nT qH fun _=>.bl
theorem u7 {j p}:PDE X (.Constant .none j p) (fun _=>some .non):=nT vn fun _=>.non
def jW (K:Kq)(r:R2)(f:D→D→Option D):Prop:=
 ∀ (P F H:Hp) (x y:V) (dx dy d:D) (Q:VK),f dx dy=some d→DHp P F H→Rep K H x dx→Rep K H y dy→(∀ v F' H',Evo P F H F' H'→Rep K F' v d→Q v H')→r x y H Q
def d2 (f:D→D→Option D)(fa fb:DF→Option D):DF→Option D:=fun ρ=>(fa ρ).bind fun x=>(fb ρ).bind fun y=>f x y
theorem l5 {K:Kq}{r:R2}{f:D→D→Option D}{fa fb:DF→Option D}(ho:jW K r f):∀ σ H Q,tD K (d2 f fa fb) σ H Q→tOp r (tN K fa) (tN K fb) σ H Q:=fun σ H Q=>un7 fun P F ρ d hf I k=>by
 unfold d2 at hf
 cases ha:fa ρ with
 | none=>rw[ha] at hf;cases hf
 | some dx=>
  rw[ha] at hf
  cases hb:fb ρ with
  | none=>rw[Ya,hb] at hf;cases hf
  | some dy=>
   rw[Ya,hb,Ya] at hf
   refine⟨P,F,ρ,dx,ha,I,fun x F1 H1 e1 rx=>⟨P,F1,ρ,dy,hb,I.evo e1,fun y F2 H2 e2 ry=>?_⟩⟩
   exact ho P F2 H2 x y dx dy d Q hf e2.hp (rx.same (e2.same e1.hp)) ry fun v F3 H3 e3 rv=>k v F3 H3 ((e1.trans e2).trans e3) rv
theorem wp {op:CmpOp}{r:R2}{f:D→D→Option D}{fa fb:DF→Option D}(ho:OpR X (compareOp op) r)(hf:jW X.K r f)(ha:PDN X a fa)(hb:PDN X b fb)(hm:behindInMarks op b=false):PDE X (.Compare a [op] [b] pos) (d2 f fa fb):=
 (t6 ho ha hb hm).imp (l5 hf)
def mB (K:Kq)(r:R2)(f:D→D→Option D):Prop:=
 ∀ (P F H:Hp) (ρ:DF) (σ:St) (x y:V) (dx dy d:D) (Q:VK),f dx dy=some d→DInv K P F H ρ σ→RepS K H F x dx→RepS K H F y dy→(∀ v F' H',Evo P F H F' H'→Rep K F' v d→Q v H')→r x y H Q
theorem mC {K:Kq}{r:R2}{f:D→D→Option D}{fa fb:DF→Option D}(ho:mB K r f):∀ σ H Q,tD K (d2 f fa fb) σ H Q→tOp r (tR K fa) (tR K fb) σ H Q:=fun σ H Q=>un7 fun P F ρ d hf I k=>by
 unfold d2 at hf
 cases ha:fa ρ with
 | none=>rw[ha] at hf;cases hf
 | some dx=>
  rw[ha] at hf
  cases hb:fb ρ with
  | none=>rw[Ya,hb] at hf;cases hf
  | some dy=>
   rw[Ya,hb,Ya] at hf
   refine⟨P,F,ρ,dx,ha,I,fun x F1 H1 e1 rx=>⟨P,F1,ρ,dy,hb,I.evo e1,fun y F2 H2 e2 ry=>?_⟩⟩
   exact ho P F2 H2 ρ σ x y dx dy d Q hf ((I.evo e1).evo e2) (rx.evo e2) ry fun v F3 H3 e3 rv=>k v F3 H3 ((e1.trans e2).trans e3) rv
theorem fy {op:Operator}{r:R2}{f:D→D→Option D}{fa fb:DF→Option D}(ho:OpR X (binaryOp op) r)(hf:mB X.K r f)(ha:PDR X a fa)(hb:PDR X b fb):PDE X (.BinOp a op b pos) (d2 f fa fb):=
 (uO ho ha hb).imp (mC hf)
def asB (f:DF→Option D):DF→Option Bool:=fun ρ=>match f ρ with
 | some (.bl b)=>some b
 | _=>none
theorem rW {f:DF→Option D}{ρ:DF}{b:Bool}(h:asB f ρ=some b):f ρ=some (.bl b):=by
 unfold asB at h
 split at h
 ·rename_i q;cases h;exact q
 ·cases h
theorem gz {K:Kq}{t:TE}{f:DF→Option D}(h:∀ σ H Q,tD K f σ H Q→t σ H Q):∀ σ H Q,tB' K (asB f) σ H Q→uL t σ H Q:=fun σ H Q=>un7 fun P F ρ b hf I k=>by
 refine h σ H _ ⟨P,F,ρ,.bl b,rW hf,I,fun v F' H' ev r=>?_⟩
 cases r
 exact⟨b,rfl,k F' H' ev⟩
theorem nJ {op:CmpOp}{r:R2}{f:D→D→Option D}{fa fb:DF→Option D}(ho:OpR X (compareOp op) r)(hf:mB X.K r f)(ha:PDR X a fa)(hb:PDR X b fb)(hm:behindInMarks op b=false):PDT X (.Compare a [op] [b] pos) (asB (d2 f fa fb)):=
 (nL ho ha hb hm).imp (gz (mC hf))
theorem gv {op:CmpOp}{r:R2}{f:D→D→Option D}{fa fb:DF→Option D}(ho:OpR X (compareOp op) r)(hf:jW X.K r f)(ha:PDN X a fa)(hb:PDN X b fb)(hm:behindInMarks op b=false):PDT X (.Compare a [op] [b] pos) (asB (d2 f fa fb)):=
 (nL ho ha hb hm).imp (gz (l5 hf))
theorem ko {f:DF→Option D}(h:PDE X e f)(he:∀ whole,isTrue e X.env whole=(do let v ← whole;standAt e.pos;holding [v] (truthy v)):=by intro _;rfl):PDT X e (asB f):=
 (mJ h he).imp (gz (t:=tD X.K f) fun _ _ _ q=>q)
theorem bN {K:Kq}{H F:Hp}{x:V}{i:Int}(r:RepS K H F x (.int i)):x=.int i:=by
 rcases r with r | ⟨_,o,_,_,_,_,_,_,z⟩
 ·cases r;rfl
 ·cases o <;> cases z
theorem jT {K:Kq}{H F:Hp}{x:V}{i:Str}(r:RepS K H F x (.str i)):x=.str i:=by
 rcases r with r | ⟨_,o,_,_,_,_,_,_,z⟩
 ·cases r;rfl
 ·cases o <;> cases z
theorem b_ {K:Kq}{P F H:Hp}{ρ:DF}{σ:St}{x:V}{ds:List D}(I:DInv K P F H ρ σ)(r:RepS K H F x (.lst ds)):∃ a vs,x=.ref a∧SqL K H a vs∧Reps K F vs ds:=by
 rcases r with r | ⟨a,o,u,rfl,_,h3,h4,hfl,z⟩
 ·cases r with | lst h q=>exact⟨_,_,rfl,I.sub.seq h,q⟩
 ·cases o with
  | lst ds'=>
   cases z
   cases u with
   | lst vs=>exact⟨a,vs,rfl,SqL.of h3,h4⟩
   | _=>exact h4.elim
  | lst2 _=>cases hfl
  | tup2 _=>cases hfl
  | _=>cases z
theorem e7 {K:Kq}{P F H:Hp}{ρ:DF}{σ:St}{x:V}{ds:List D}(I:DInv K P F H ρ σ)(r:RepS K H F x (.tup ds)):∃ a vs,x=.ref a∧SqT K H a vs∧Reps K F vs ds:=by
 rcases r with r | ⟨a,o,u,rfl,_,h3,h4,hfl,z⟩
 ·cases r with | tup h q=>exact⟨_,_,rfl,SqT.of (I.sub _ _ h),q⟩
 ·cases o <;> first | (cases z;done) | cases hfl
theorem qw {K:Kq}{P F H:Hp}{ρ:DF}{σ:St}{x:V}{ds:List (List Key×D)}(I:DInv K P F H ρ σ)(r:RepS K H F x (.dT ds)):∃ a vs,x=.ref a∧H a=some (.dT vs)∧RepsT K F vs ds:=by
 rcases r with r | ⟨a,o,u,rfl,_,h3,h4,hfl,z⟩
 ·cases r with | dT h q=>exact⟨_,_,rfl,I.sub _ _ h,q⟩
 ·cases o with
  | dT ds'=>
   cases z
   cases u with
   | dT vs=>exact⟨a,vs,rfl,h3,h4⟩
   | _=>exact h4.elim
  | lst2 _=>cases hfl
  | tup2 _=>cases hfl
  | _=>cases z
def fI (C:Int→Int→Bool)(g:Int→Int→D):D→D→Option D
 | .int i,.int j=>if C i j=true then some (g i j) else none
 | _,_=>none
theorem j4 {K:Kq}{C:Int→Int→Prop}{C':Int→Int→Bool}{g:Int→Int→V}{g':Int→Int→D}(hC:∀ i j,C' i j=true→C i j)(hg:∀ F i j,Rep K F (g i j) (g' i j)):mB K (rI C g) (fI C' g'):=by
 intro P F H ρ σ x y dx dy d Q hf I rx ry k
 unfold fI at hf
 split at hf
 ·rename_i i j
  split at hf
  ·rename_i hc
   cases hf
   exact⟨i,j,bN rx,bN ry,hC i j hc,k _ F H (Evo.refl I.toDHp) (hg F i j)⟩
  ·cases hf
 ·cases hf
def fI0 (g:Int→Int→D):D→D→Option D
 | .int i,.int j=>some (g i j)
 | _,_=>none
theorem jN {K:Kq}{g:Int→Int→V}{g':Int→Int→D}(hg:∀ F i j,Rep K F (g i j) (g' i j)):mB K (rI0 g) (fI0 g'):=by
 intro P F H ρ σ x y dx dy d Q hf I rx ry k
 unfold fI0 at hf
 split at hf
 ·rename_i i j
  cases hf
  exact⟨i,j,bN rx,bN ry,k _ F H (Evo.refl I.toDHp) (hg F i j)⟩
 ·cases hf
def jC:=fI0 fun i j=>.int (i-j)
def mX:=fI (fun i j=>decide ((-(2 ^ 64)<i∧i<2 ^ 64)∨(-(2 ^ 64)<j∧j<2 ^ 64))) fun i j=>.int (i*j)
def dB:=fI (fun _ j=>decide (0<j∧j<1073741824)) fun i j=>.int (i/j)
def dI:=fI (fun _ j=>decide (0<j)) fun i j=>.int (i%j)
def r8:=fI (fun i j=>decide (0≤j∧j≤1000000∧i.natAbs<2 ^ 64)) fun i j=>.int (i ^ j.toNat)
def ltI:=fI0 fun i j=>.bl (decide (i<j))
def leI:=fI0 fun i j=>.bl (decide (i≤j))
def gtI:=fI0 fun i j=>.bl (decide (j<i))
theorem wL {fa fb:DF→Option D}(ha:PDR X a fa)(hb:PDR X b fb):PDE X (.BinOp a .Sub b pos) (d2 jC fa fb):=fy vR (jN fun _ _ _=>.int) ha hb
theorem qq {fa fb:DF→Option D}(ha:PDR X a fa)(hb:PDR X b fb):PDE X (.BinOp a .Mult b pos) (d2 mX fa fb):=fy wG (j4 (fun _ _ h=>by have q:=ZE h;exact q) fun _ _ _=>.int) ha hb
theorem gp {fa fb:DF→Option D}(ha:PDR X a fa)(hb:PDR X b fb):PDE X (.BinOp a .FloorDiv b pos) (d2 dB fa fb):=fy sM (j4 (fun _ _ h=>by have q:=ZE h;exact q) fun _ _ _=>.int) ha hb
theorem da {fa fb:DF→Option D}(ha:PDR X a fa)(hb:PDR X b fb):PDE X (.BinOp a .Mod b pos) (d2 dI fa fb):=fy wf (j4 (fun _ _ h=>by have q:=ZE h;exact q) fun _ _ _=>.int) ha hb
theorem vN {fa fb:DF→Option D}(ha:PDR X a fa)(hb:PDR X b fb):PDE X (.BinOp a .Pow b pos) (d2 r8 fa fb):=fy vy (j4 (fun _ _ h=>by have q:=ZE h;exact q) fun _ _ _=>.int) ha hb
end
def tO (K:Kq)(f:DF→Option OD):TE:=fun σ H Q=>∃ P F ρ o,f ρ=some o∧DInv K P F H ρ σ ∧
 ∀ a F' H',Evo P F H F' H'→ORep K F' H' (fun b=>H b=none∧F' b=none) o a→Q (.ref a) H'
def PDO (X:Cx)(e:Expr)(f:DF→Option OD):Prop:=PE X e (tO X.K f)
def asO (f:DF→Option OD):DF→Option D:=fun ρ=>(f ρ).map OD.d
theorem Evo.back {P F H F' H':Hp}(h:DHp P F H)(e:Evo P F H F' H'){a:Addr}(n:H' a=none):H a=none:=by
 cases q:H a with
 | none=>rfl
 | some o=>rw[e.same h a o q] at n;cases n
open Classical in
noncomputable def oA (F H:Hp)(ow:Addr→Prop):Hp:=fun b=>if ow b then H b else F b
theorem bT {F H:Hp}{ow:Addr→Prop}{b:Addr}(h:ow b):oA F H ow b=H b:=Yk h
theorem cb {F H:Hp}{ow:Addr→Prop}{b:Addr}(h:¬ ow b):oA F H ow b=F b:=Ym h
theorem a_ {F H:Hp}{ow:Addr→Prop}(h:∀ b,ow b→F b=none):Same F (oA F H ow):=fun b u e=>by
 by_cases q:ow b
 ·rw[h b q] at e;cases e
 ·rw[cb q];exact e
theorem Evo.freeze {P F H F' H':Hp}(h0:DHp P F H)(e:Evo P F H F' H')(ow:Addr→Prop)(hn:∀ b,ow b→H b=none∧F' b=none):Evo P F H (oA F' H' ow) H' where
 ext:=e.ext.trans (a_ fun b q=>(hn b q).2)
 hp:=⟨fun b u h=>by
   by_cases q:ow b
   ·rw[bT q] at h;exact h
   ·rw[cb q] at h;exact e.hp.sub b u h,e.hp.pro,fun b u h=>by
   rw[cb fun q=>by rw[(h0.pro.free (hn b q).1)] at h;cases h];exact e.hp.dis b u h⟩
 keep:=fun b u h n=>by
  obtain⟨k1,k2⟩:=e.keep b u h n
  refine⟨k1,?_⟩
  rw[cb fun q=>by rw[(hn b q).1] at h;cases h]
  exact k2
theorem fq {F:Hp}{a:Addr}{o:HO}(h:F a=none):Same F (upd F a o):=fun b u e=>by rw[ag (ax e h)];exact e
section
variable {X:Cx} {e:Expr} {es:List Expr} {st:Stmt} {sts aN:List Stmt} {pos:Pos}
theorem PDO.v {f:DF→Option OD}(h:PDO X e f):PDE X e (asO f):=PE.imp h fun σ H Q=>un7 fun P F ρ d hf I k=>by
 unfold asO at hf
 cases q:f ρ with
 | none=>rw[q] at hf;cases hf
 | some o=>
  rw[q] at hf
  cases hf
  refine⟨P,F,ρ,o,q,I,fun a F' H' ev ho=>?_⟩
  have hn:∀ b,(H b=none∧F' b=none)→H b=none∧F' b=none:=fun _ q=>q
  exact k (.ref a) _ H' (ev.freeze I.toDHp (fun b=>H b=none∧F' b=none) hn) (ho.rep (a_ fun b q=>q.2) fun b u q hb=>by rw[bT q];exact hb)
def asL (f:DF→Option (List D)):DF→Option OD:=fun ρ=>(f ρ).map .lst
inductive RES where
 | nx (ρ:DF) | rt (x:DV) (ρ:DF) | bk (ρ:DF) | ct (ρ:DF)
abbrev Dd:=DF→Option D
abbrev Dw:=DF→Option RES
abbrev Dk:=DF→Option Bool
abbrev Dv:=DF→Option (List DV)
abbrev Dl:=DF→Option (List D)
abbrev Dm:=List DV→Option DV
abbrev Dq:=D→DF→Option DF
abbrev Do:=DF→Option OD
abbrev Dz:=OD→List DV→Option (OD×D)
abbrev Dy:=D→D→Option D
def EndsD (K:Kq)(P F:Hp)(E:Ends):RES→Prop
 | .nx ρ=>∀ σ F' H',Same F F'→DInv K P F' H' ρ σ→E.nx σ H'
 | .bk ρ=>∀ σ F' H',Same F F'→DInv K P F' H' ρ σ→E.bk σ H'
 | .ct ρ=>∀ σ F' H',Same F F'→DInv K P F' H' ρ σ→E.ct σ H'
 | .rt x ρ=>∀ v σ F' H',Same F F'→DInv K P F' H' ρ σ→DVRep K P F' H' iE x v→E.rt v H'
theorem EndsD.ext {K:Kq}{P F F1:Hp}{E:Ends}{r:RES}(h:EndsD K P F E r)(e:Same F F1):EndsD K P F1 E r:=by
 cases r with
 | nx ρ=>exact fun σ F' H' e' I=>h σ F' H' (e.trans e') I
 | bk ρ=>exact fun σ F' H' e' I=>h σ F' H' (e.trans e') I
 | ct ρ=>exact fun σ F' H' e' I=>h σ F' H' (e.trans e') I
 | rt x ρ=>exact fun v σ F' H' e' I r=>h v σ F' H' (e.trans e') I r
def tS (K:Kq)(g:Dw):TS:=fun E σ H=>∃ P F ρ r,g ρ=some r∧DInv K P F H ρ σ∧EndsD K P F E r
def PD1 (X:Cx)(st:Stmt)(g:Dw):Prop:=PS X st (tS X.K g)
def PDS (X:Cx)(sts:List Stmt)(g:Dw):Prop:=PSs X sts (tS X.K g)
theorem PS.imp {t t':TS}(h:PS X st t)(i:∀ E σ H,t' E σ H→t E σ H):PS X st t':=fun pz s σ H E I q=>h pz s σ H E I (i E σ H q)
theorem PSs.imp {t t':TS}(h:PSs X sts t)(i:∀ E σ H,t' E σ H→t E σ H):PSs X sts t':=fun pz s σ H E I q=>h pz s σ H E I (i E σ H q)
def dNx:DF→Option RES:=fun ρ=>some (.nx ρ)
theorem yf {K:Kq}:∀ E σ H,tS K dNx E σ H→E.nx σ H:=fun E σ H=>un7 fun P F ρ r hg I k=>by
 cases hg
 exact k σ F H (Same.refl _) I
theorem bv:PDS X [] dNx:=PSs.imp jJ yf
def aw (g h:Dw):DF→Option RES:=fun ρ=>match g ρ with
 | some (.nx ρ')=>h ρ'
 | r=>r
theorem ao {g h:Dw}(h1:PD1 X st g)(h2:PDS X aN h):PDS X (st::aN) (aw g h):=PSs.imp (cW h1 h2) fun E σ H=>un7 fun P F ρ r hg I k=>by
 unfold aw at hg
 split at hg
 ·rename_i ρ' q
  exact⟨P,F,ρ,_,q,I,fun σ' F' H' e I'=>⟨P,F',ρ',r,hg,I',k.ext e⟩⟩
 ·rename_i q
  refine⟨P,F,ρ,r,hg,I,?_⟩
  cases r with
  | nx ρ'=>exact absurd hg (q ρ')
  | bk ρ=>exact k
  | ct ρ=>exact k
  | rt x ρ=>exact k
theorem aG {g:Dw}(h1:PD1 X st g):PDS X [st] g:=PSs.imp (ck h1) fun _ _ _ q=>q
def eM (f:Dd):DF→Option RES:=fun ρ=>(f ρ).map fun d=>.rt (.v d) ρ
theorem ip {f:Dd}(h:PDE X e f):PD1 X (.Return (some e) pos) (eM f):=PS.imp (dC h) fun E σ H=>un7 fun P F ρ r hg I k=>by
 unfold eM at hg
 cases q:f ρ with
 | none=>rw[q] at hg;cases hg
 | some d=>
  rw[q] at hg
  cases hg
  exact⟨P,F,ρ,d,q,I,fun v F' H' ev rv=>k v σ F' H' ev.ext (I.evo ev) rv⟩
def iU (f:Do):DF→Option RES:=fun ρ=>(f ρ).map fun o=>.rt (.own o none) ρ
theorem jK {f:Do}(h:PDO X e f):PD1 X (.Return (some e) pos) (iU f):=PS.imp (dC h) fun E σ H=>un7 fun P F ρ r hg I k=>by
 unfold iU at hg
 cases q:f ρ with
 | none=>rw[q] at hg;cases hg
 | some o=>
  rw[q] at hg
  cases hg
  exact⟨P,F,ρ,o,q,I,fun a F' H' ev ho=>k (.ref a) σ F' H' ev.ext (I.evo ev) ⟨a,rfl,ho.mono (Same.refl _) fun b u q hb=>⟨hb,q.2,I.pro.free q.1,trivial⟩,fun _ z=>nomatch z⟩⟩
def hJ (i:Nat):DF→Option RES:=fun ρ=>match ρ[i]? with
 | some (some x)=>some (.rt x ρ)
 | _=>none
theorem gh (i:Nat)(h:PE X e (cL i)):PD1 X (.Return (some e) pos) (hJ i):=PS.imp (dC h) fun E σ H=>un7 fun P F ρ r hg I k=>by
 unfold hJ at hg
 split at hg
 ·rename_i x q
  cases hg
  obtain⟨v,h1,h2⟩:=I.at q
  exact⟨v,h1,k v σ F H (Same.refl _) I h2⟩
 ·cases hg
theorem dQ {α:Type}{l:List α}{i j:Nat}{x y:α}(h:(l.set i x)[j]?=some y):(i=j∧y=x∧i<l.length)∨(i≠j∧l[j]?=some y):=by
 by_cases hj:i=j
 ·subst hj
  have hl:i<l.length:=by have:=(Yi.mp h).1;rwa [YI] at this
  rw[YO hl] at h
  exact .inl ⟨rfl,(YH h).symm,hl⟩
 ·rw[YG hj] at h
  exact .inr ⟨hj,h⟩
theorem DInv.setO {K:Kq}{P F H:Hp}{ρ:DF}{σ:St}(I:DInv K P F H ρ σ)(i:Nat){v:V}{x:DV}(nw:Addr→Prop)(hn:∀ (j:Nat) (y:DV) (w:V) (O:Addr→Option Nat),j≠i→ρ[j]?=some (some y)→DVRep K P F H (fun b=>O b=some j) y w→DVRep K P F H (fun b=>O b=some j∧¬ nw b) y w)(r:DVRep K P F H nw x v) :
  DInv K P F H (ρ.set i (some x)) (σ.set i (some v)):=by
 obtain⟨O,h⟩:=I.rep
 refine⟨I.toDHp,by rw[YI,YI];exact I.len,?_⟩
 classical
 refine⟨fun b=>if nw b then some i else if O b=some i then none else O b,fun j y hj=>?_⟩
 rcases dQ hj with⟨rfl,e,hl⟩ | ⟨hij,hj'⟩
 ·cases e
  refine⟨v,by rw[YO (by rw[← I.len];exact hl)],r.imp fun b u _ _ _ q=>Yk q⟩
 ·obtain⟨w,h1,h2⟩:=h j y hj'
  refine⟨w,by rw[YG hij];exact h1,(hn j y w O (Xj hij) hj' h2).imp fun b u _ _ _ q=>?_⟩
  show (if nw b then some i else if O b=some i then none else O b)=some j
  rw[Ym q.2,Ym (by rw[q.1];intro z;exact hij (YH z).symm),q.1]
theorem DInv.setV {K:Kq}{P F H:Hp}{ρ:DF}{σ:St}(I:DInv K P F H ρ σ)(i:Nat){v:V}{d:D}(r:Rep K F v d):DInv K P F H (ρ.set i (some (.v d))) (σ.set i (some v)):=
 I.setO i (fun _=>False) (fun j y w O _ _ q=>q.imp fun b u _ _ _ z=>⟨z,id⟩) r
theorem DInv.setN {K:Kq}{P F H F' H':Hp}{ρ:DF}{σ:St}(I:DInv K P F H ρ σ)(ev:Evo P F H F' H')(i:Nat){a:Addr}{o:OD}(ho:ORep K F' H' (fun b=>H b=none∧F' b=none) o a):DInv K P F' H' (ρ.set i (some (.own o none))) (σ.set i (some (.ref a))):=by
 obtain⟨O,h⟩:=I.rep
 refine⟨ev.hp,by rw[YI,YI];exact I.len,?_⟩
 classical
 refine⟨fun b=>if H b=none then some i else if O b=some i then none else O b,fun j y hj=>?_⟩
 rcases dQ hj with⟨rfl,e,hl⟩ | ⟨hij,hj'⟩
 ·cases e
  refine⟨.ref a,by rw[YO (by rw[← I.len];exact hl)],a,rfl,ho.mono (Same.refl _) fun b u q hb=>⟨hb,q.2,I.pro.free q.1,Yk q.1⟩,fun _ z=>nomatch z⟩
 ·obtain⟨w,h1,h2⟩:=h j y hj'
  refine⟨w,by rw[YG hij];exact h1,?_⟩
  have h3:DVRep K P F H (fun b=>(if H b=none then some i else if O b=some i then none else O b)=some j) y w:=h2.imp fun b u _ _ hb q=>by
   show (if H b=none then some i else if O b=some i then none else O b)=some j
   rw[Ym (by rw[hb];simp),Ym (by rw[q];intro z;exact hij (YH z).symm),q]
  exact h3.evo ev
def setV (i:Nat)(d:D)(ρ:DF):Option DF:=some (ρ.set i (some (.v d)))
def bC (i:Nat)(f:Dd):DF→Option RES:=fun ρ=>(f ρ).map fun d=>.nx (ρ.set i (some (.v d)))
theorem qQ {K:Kq}{i:Nat}{f:Dd}:∀ E σ H,tS K (bC i f) E σ H→rh (tD K f) (fP i) E σ H:=fun E σ H=>un7 fun P F ρ r hg I k=>by
 unfold bC at hg
 cases q:f ρ with
 | none=>rw[q] at hg;cases hg
 | some d=>
  rw[q] at hg
  cases hg
  exact⟨P,F,ρ,d,q,I,fun v F' H' ev rv=>k _ F' H' ev.ext ((I.evo ev).setV i rv)⟩
theorem bA {i:Nat}{x:Str}{pos':Pos}{f:Dd}(hN:X.N.Nodup)(hi:X.N[i]?=some x)(hx:Loc X.env.scope x)(he:PDE X e f)(hs:swapsWith e (some (.Name x pos')) pos.line X.env=pure false:=by rfl)(hf:X.fn x=true∨X.env.scope.names.lookup x=some .local:=by first | exact .inl rfl | exact .inr rfl | assumption) :
  PD1 X (.Assign [.Name x pos'] e pos) (bC i f):=PS.imp (g_ hN hi hx he hs hf) qQ
def a9 (i:Nat)(f:Do):DF→Option RES:=fun ρ=>(f ρ).map fun o=>.nx (ρ.set i (some (.own o none)))
theorem rM {K:Kq}{i:Nat}{f:Do}:∀ E σ H,tS K (a9 i f) E σ H→rh (tO K f) (fP i) E σ H:=fun E σ H=>un7 fun P F ρ r hg I k=>by
 unfold a9 at hg
 cases q:f ρ with
 | none=>rw[q] at hg;cases hg
 | some o=>
  rw[q] at hg
  cases hg
  exact⟨P,F,ρ,o,q,I,fun a F' H' ev ho=>k _ F' H' ev.ext (I.setN ev i ho)⟩
theorem bO {i:Nat}{x:Str}{pos':Pos}{f:Do}(hN:X.N.Nodup)(hi:X.N[i]?=some x)(hx:Loc X.env.scope x)(he:PDO X e f)(hs:swapsWith e (some (.Name x pos')) pos.line X.env=pure false:=by rfl)(hf:X.fn x=true∨X.env.scope.names.lookup x=some .local:=by first | exact .inl rfl | exact .inr rfl | assumption) :
  PD1 X (.Assign [.Name x pos'] e pos) (a9 i f):=PS.imp (g_ hN hi hx he hs hf) rM
def pU (i:Nat)(g:Dw):DF→Option RES:=fun ρ=>match ρ[i]? with
 | some (some (.own o none))=>g (ρ.set i (some (.v o.d)))
 | some (some (.v d))=>g ρ
 | _=>none
theorem DInv.frz {K:Kq}{P F H:Hp}{ρ:DF}{σ:St}(I:DInv K P F H ρ σ){i:Nat}{o:OD}{t:Option Addr}(h:ρ[i]?=some (some (.own o t))):∃ F',Same F F'∧DInv K P F' H (ρ.set i (some (.v o.d))) σ:=by
 obtain⟨O,hr⟩:=I.rep
 have hn:∀ b,(F b=none∧P b=none∧O b=some i)→F b=none:=fun b q=>q.1
 refine⟨oA F H (fun b=>F b=none∧P b=none∧O b=some i),a_ hn,⟨fun b u q=>?_,I.pro,fun b u q=>?_⟩,by rw[YI];exact I.len,O,fun j y hj=>?_⟩
 ·by_cases c:F b=none∧P b=none∧O b=some i
  ·rw[bT (ow:=fun b=>F b=none∧P b=none∧O b=some i) c] at q;exact q
  ·rw[cb (ow:=fun b=>F b=none∧P b=none∧O b=some i) c] at q;exact I.sub b u q
 ·rw[cb (ow:=fun b=>F b=none∧P b=none∧O b=some i) fun c=>by rw[c.2.1] at q;cases q];exact I.dis b u q
 ·rcases dQ hj with⟨rfl,e,hl⟩ | ⟨hij,hj'⟩
  ·cases e
   obtain⟨v,h1,a,rfl,h2,_⟩:=hr i _ h
   exact⟨_,h1,h2.rep (a_ hn) fun b u q hb=>by rw[bT (ow:=fun b=>F b=none∧P b=none∧O b=some i) q];exact hb⟩
  ·obtain⟨v,h1,h2⟩:=hr j y hj'
   refine⟨v,h1,?_⟩
   cases y with
   | v d=>exact Rep.same (a_ hn) h2
   | own o' t'=>
    obtain⟨a,rfl,h3,ht⟩:=h2
    exact⟨a,rfl,h3.mono (a_ hn) fun b u q hb=>⟨hb,by
     rw[cb (ow:=fun b=>F b=none∧P b=none∧O b=some i) fun c=>by rw[q.2.2] at c;exact hij (YH c.2.2).symm];exact q.1,q.2⟩,ht⟩
   | bor o'=>
    obtain⟨a,rfl,h3⟩:=h2
    exact⟨a,rfl,h3.mono (a_ hn) fun b u q hb=>⟨hb,q⟩⟩
theorem vU {K:Kq}{i:Nat}{g:Dw}:∀ E σ H,tS K (pU i g) E σ H→tS K g E σ H:=fun E σ H=>un7 fun P F ρ r hg I k=>by
 unfold pU at hg
 split at hg
 ·rename_i o q
  obtain⟨F',e,I'⟩:=I.frz q
  exact⟨P,F',_,r,hg,I',k.ext e⟩
 ·exact⟨P,F,ρ,r,hg,I,k⟩
 ·cases hg
theorem sO (i:Nat){g:Dw}(h:PD1 X st g):PD1 X st (pU i g):=PS.imp h vU
def uV:DF→Option RES:=fun _=>none
theorem pQ:PD1 X st uV:=PS.imp qR fun _ _ _ ⟨_,_,_,_,h,_⟩=>by cases h
def xM (f:Dd):DF→Option RES:=fun ρ=>(f ρ).map fun _=>.nx ρ
def dIf (c:Dk)(g h:Dw):DF→Option RES:=fun ρ=>(c ρ).bind fun b=>if b=true then g ρ else h ρ
theorem dD {c:Expr}{a b:List Stmt}{fc:Dk}{g h:Dw}(hc:PDT X c fc)(ha:PDS X a g)(hb:PDS X b h):PD1 X (.If c a b pos) (dIf fc g h):=PS.imp (kO hc ha hb) fun E σ H=>un7 fun P F ρ r hg I k=>by
 unfold dIf at hg
 cases q:fc ρ with
 | none=>rw[q] at hg;cases hg
 | some b=>
  rw[q,Ya] at hg
  refine⟨P,F,ρ,b,q,I,fun F' H' ev=>?_⟩
  cases b with
  | true=>
   rw[Yk rfl] at hg ⊢
   exact⟨P,F',ρ,r,hg,I.evo ev,k.ext ev.ext⟩
  | false=>
   rw[Ym Yg] at hg ⊢
   exact⟨P,F',ρ,r,hg,I.evo ev,k.ext ev.ext⟩
def qT (K:Kq)(P:Hp)(J:It)(F:Hp)(ds:List D):Prop:=
 ∀ F' H',Same F F'→DHp P F' H'→∀ i:Nat,(∀ d,ds[i]?=some d→J.go i H'∧∀ x H2,J.yld i H' x H2→∃ F2,Evo P F' H' F2 H2∧Rep K F2 x d)∧(ds.length≤i→J.stop i H')
def tI (K:Kq)(f:Dl):TI:=fun σ H R=>∃ P F ρ ds,f ρ=some ds∧DInv K P F H ρ σ∧∀ (J:It) F' H',Evo P F H F' H'→qT K P J F' ds→R J H'
def PDI (X:Cx)(tg iter:Expr)(f:Dl):Prop:=PI X tg iter (tI X.K f)
theorem PI.imp {tg iter:Expr}{t t':TI}(h:PI X tg iter t)(i:∀ σ H R,t' σ H R→t σ H R):PI X tg iter t':=fun pz s σ H R I q=>h pz s σ H R I (i σ H R q)
def tG (K:Kq)(is:List Nat)(st:Dq):TG:=fun v σ H Q=>∃ P F ρ d ρ',st d ρ=some ρ'∧DInv K P F H ρ σ∧Rep K F v d∧∀ σ' F' H',Evo P F H F' H'→DInv K P F' H' ρ' σ'→σ'.length=σ.length→(∀ j,j∉is→σ'[j]?=σ[j]?)→Q σ' H'
def PDG (X:Cx)(tg:Expr)(is:List Nat)(st:Dq):Prop:=PG X tg (tG X.K is st)
theorem PG.imp {tg:Expr}{t t':TG}(h:PG X tg t)(i:∀ v σ H Q,t' v σ H Q→t v σ H Q):PG X tg t':=fun pz s σ H v u Q I r q=>h pz s σ H v u Q I r (i v σ H Q q)
theorem aZ {i:Nat}{x:Str}(hN:X.N.Nodup)(hi:X.N[i]?=some x)(hx:Loc X.env.scope x)(hf:X.fn x=true∨X.env.scope.names.lookup x=some .local:=by first | exact .inl rfl | exact .inr rfl | assumption):PDG X (.Name x pos) [i] (setV i):=
 PG.imp (gn hN hi hx hf) fun v σ H Q hh_=>by
  obtain⟨P,F,ρ,d,ρ',hs,I,r,k⟩:=hh_
  cases hs
  exact k _ F H (Evo.refl I.toDHp) (I.setV i r) (YI ..) fun j hj=>by rw[YG (fun z=>hj (by rw[z];exact List.mem_singleton_self _))]
def fA (st:Dq)(body:Dw):List D→DF→Option RES
 | [],ρ=>some (.nx ρ)
 | d::ds,ρ=>match st d ρ with
  | none=>none
  | some ρ1=>match body ρ1 with
   | some (.nx ρ')=>fA st body ds ρ'
   | some (.ct ρ')=>fA st body ds ρ'
   | some (.bk ρ')=>some (.nx ρ')
   | r=>r
def jx (it:Dl)(st:Dq)(body:Dw):DF→Option RES:=fun ρ=>(it ρ).bind fun ds=>fA st body ds ρ
theorem ms {tg iter:Expr}{body:List Stmt}{f:Dl}{is:List Nat}{st:Dq}{g:Dw}(hp:PassesOwn (model X.prog X.w) X.A X.env X.xe)(hc:X.calm=true)(hi:PDI X tg iter f)(hg:PDG X tg is st)(hb:PDS X body g)
  (hs:∀ x,foldedSetIterable iter X.env x=pure x:=by intro _;rfl):PD1 X (.For tg iter body [] pos) (jx f st g):=PS.imp (mY hp hc hi hg hb hs) fun E σ H=>un7 fun P F ρ r hr I k=>by
 unfold jx at hr
 cases q:f ρ with
 | none=>rw[q] at hr;cases hr
 | some ds=>
  rw[q,Ya] at hr
  refine⟨P,F,ρ,ds,q,I,fun J F1 H1 ev ok=>?_⟩
  refine⟨fun i m σ' H'=>m=ds.length-i∧i≤ds.length∧∃ F' ρ',Same F1 F'∧DInv X.K P F' H' ρ' σ'∧fA st g (ds.drop i) ρ'=some r,⟨_,rfl,Zm _,F1,ρ,Same.refl _,I.evo ev,hr⟩,?_⟩
  rintro i m σ' H' ⟨rfl,hil,F',ρ',se,I',hf⟩
  obtain⟨ok1,ok2⟩:=ok F' H' se I'.toDHp i
  by_cases hlt:i<ds.length
  ·have hd:ds[i]?=some ds[i]:=Ye hlt
   obtain⟨go,yl⟩:=ok1 _ hd
   have hdrop:ds.drop i=ds[i]::ds.drop (i+1):=Zc hlt
   rw[hdrop] at hf
   unfold fA at hf
   cases hst:st ds[i] ρ' with
   | none=>rw[hst] at hf;cases hf
   | some ρ1=>
    rw[hst] at hf
    dsimp only at hf
    have hE:Same F F':=ev.ext.trans se
    refine .inr ⟨go,fun σ2 H2=>∃ F2 ρ2,Same F1 F2∧DInv X.K P F2 H2 ρ2 σ2∧fA st g (ds.drop (i+1)) ρ2=some r,fun σ2 H2 ⟨F2,ρ2,s2,I2,hf2⟩=>⟨ds.length-(i+1),by omega,rfl,hlt,F2,ρ2,s2,I2,hf2⟩,fun x H2 hy=>?_⟩
    obtain⟨F2,ev2,rx⟩:=yl x H2 hy
    refine⟨P,F2,ρ',ds[i],ρ1,hst,I'.evo ev2,rx,fun σ3 F3 H3 ev3 I3 _ _=>?_⟩
    have s13:Same F1 F3:=se.trans (ev2.ext.trans ev3.ext)
    cases hb':g ρ1 with
    | none=>rw[hb'] at hf;cases hf
    | some res=>
     rw[hb'] at hf
     refine⟨P,F3,ρ1,res,hb',I3,?_⟩
     cases res with
     | nx ρ4=>exact fun σ4 F4 H4 e4 I4=>⟨F4,ρ4,s13.trans e4,I4,hf⟩
     | ct ρ4=>exact fun σ4 F4 H4 e4 I4=>⟨F4,ρ4,s13.trans e4,I4,hf⟩
     | bk ρ4=>
      cases hf
      exact fun σ4 F4 H4 e4 I4=>k σ4 F4 H4 (ev.ext.trans (s13.trans e4)) I4
     | rt x4 ρ4=>
      cases hf
      exact fun v4 σ4 F4 H4 e4 I4 r4=>k v4 σ4 F4 H4 (ev.ext.trans (s13.trans e4)) I4 r4
  ·have hz:ds.drop i=[]:=YV (by omega)
   rw[hz] at hf
   cases hf
   exact .inl ⟨ok2 (by omega),k σ' F' H' (ev.ext.trans se) I'⟩
def bz (c:Dk)(body:Dw):Nat→DF→Option RES
 | 0,_=>none
 | n+1,ρ=>match c ρ with
  | none=>none
  | some false=>some (.nx ρ)
  | some true=>match body ρ with
   | some (.nx ρ')=>bz c body n ρ'
   | some (.ct ρ')=>bz c body n ρ'
   | some (.bk ρ')=>some (.nx ρ')
   | r=>r
theorem lH (n:Nat){c:Expr}{body:List Stmt}{fc:Dk}{g:Dw}(hp:PassesOwn (model X.prog X.w) X.A X.env X.xe)(hc:PDT X c fc)(hb:PDS X body g):PD1 X (.While c body [] pos) (bz fc g n):=PS.imp (qN hp hc hb) fun E σ H=>un7 fun P F ρ r hr I k=>by
 refine⟨fun m σ' H'=>∃ F' ρ',Same F F'∧DInv X.K P F' H' ρ' σ'∧bz fc g m ρ'=some r,⟨n,F,ρ,Same.refl _,I,hr⟩,?_⟩
 rintro m σ' H' ⟨F',ρ',se,I',hf⟩
 cases m with
 | zero=>cases hf
 | succ m=>
  unfold bz at hf
  cases hc':fc ρ' with
  | none=>rw[hc'] at hf;cases hf
  | some b=>
   rw[hc'] at hf
   refine⟨P,F',ρ',b,hc',I',fun F2 H2 ev2=>?_⟩
   cases b with
   | false=>
    rw[Ym Yg]
    cases hf
    exact k σ' F2 H2 (se.trans ev2.ext) (I'.evo ev2)
   | true=>
    rw[Yk rfl]
    refine⟨fun σ3 H3=>∃ F3 ρ3,Same F F3∧DInv X.K P F3 H3 ρ3 σ3∧bz fc g m ρ3=some r,fun σ3 H3 h=>⟨m,Xh m,h⟩,?_⟩
    have s2:Same F F2:=se.trans ev2.ext
    dsimp only at hf
    cases hb':g ρ' with
    | none=>rw[hb'] at hf;cases hf
    | some res=>
     rw[hb'] at hf
     refine⟨P,F2,ρ',res,hb',I'.evo ev2,?_⟩
     cases res with
     | nx ρ4=>exact fun σ4 F4 H4 e4 I4=>⟨F4,ρ4,s2.trans e4,I4,hf⟩
     | ct ρ4=>exact fun σ4 F4 H4 e4 I4=>⟨F4,ρ4,s2.trans e4,I4,hf⟩
     | bk ρ4=>
      cases hf
      exact fun σ4 F4 H4 e4 I4=>k σ4 F4 H4 (s2.trans e4) I4
     | rt x4 ρ4=>
      cases hf
      exact fun v4 σ4 F4 H4 e4 I4 r4=>k v4 σ4 F4 H4 (s2.trans e4) I4 r4
end
def gd (F H:Hp):Hp:=fun a=>match F a with
 | none=>H a
 | some _=>none
theorem cE {F H:Hp}{a:Addr}{o:HO}:gd F H a=some o↔F a=none∧H a=some o:=by
 unfold gd
 cases q:F a with
 | none=>simp
 | some u=>simp
theorem d_ {F H:Hp}(s:Same F H):DHp (gd F H) F H:=⟨s,fun a o e=>(cE.mp e).2,fun a o e=>(cE.mp e).1⟩
theorem DHp.gd {P F H F' H':Hp}(h:DHp P F H)(e:Same F F')(g:DHp (gd F H) F' H'):Evo P F H F' H' where
 ext:=e
 hp:=⟨g.sub,fun a o q=>g.pro a o (cE.mpr ⟨h.dis a o q,h.pro a o q⟩),fun a o q=>g.dis a o (cE.mpr ⟨h.dis a o q,h.pro a o q⟩)⟩
 keep:=fun a o q n=>⟨g.pro a o (cE.mpr ⟨n,q⟩),g.dis a o (cE.mpr ⟨n,q⟩)⟩
theorem Evo.change {P P1 F H F' H':Hp}(e:Evo P F H F' H')(h:DHp P1 F H):Evo P1 F H F' H':=
 ⟨e.ext,⟨e.hp.sub,fun a o q=>(e.keep a o (h.pro a o q) (h.dis a o q)).1,fun a o q=>(e.keep a o (h.pro a o q) (h.dis a o q)).2⟩,e.keep⟩
def uz:DV→Bool
 | .own _ _=>true
 | _=>false
inductive DVs (K:PySem.W.Frag) (P F H:Hp):List DV→List V→Prop
 | nil:DVs K P F H [] []
 | cons {x:DV} {v:V} {xs:List DV} {vs:List V}:uz x=false→DVRep K P F H iE x v→DVs K P F H xs vs→DVs K P F H (x::xs) (v::vs)
theorem DVs.length {K:Kq}{P F H:Hp}{xs:List DV}{vs:List V}(h:DVs K P F H xs vs):xs.length=vs.length:=by
 induction h with
 | nil=>rfl
 | cons _ _ _ ih=>exact Zz Nat.succ ih
theorem DVs.get {K:Kq}{P F H:Hp}{xs:List DV}{vs:List V}{i:Nat}{x:DV}(h:DVs K P F H xs vs)(e:xs[i]?=some x):uz x=false∧∃ v,vs[i]?=some v∧DVRep K P F H iE x v:=by
 induction h generalizing i with
 | nil=>exact nomatch e
 | cons h r _ ih=>
  cases i with
  | zero=>obtain rfl:=YH e;exact⟨h,_,rfl,r⟩
  | succ i=>exact ih e
def spD (K:Kq)(m:Dm):Sp:=fun vs H Q _=>∃ P F xs x,m xs=some x∧DHp P F H∧DVs K P F H xs vs∧∀ v F' H',Same F F'→DHp P F' H'→DVRep K P F' H' iE x v→Q v H'
def aQ (n p:Nat)(xs:List DV):DF:=xs.map some++List.replicate (n-p) none
def aX:Option RES→Option DV
 | some (.rt x _)=>some x
 | some (.nx _)=>some (.v .non)
 | _=>none
def mOf (n p:Nat)(g:Dw):List DV→Option DV:=fun xs=>if xs.length=p then aX (g (aQ n p xs)) else none
theorem m_ {n p:Nat}{xs:List DV}{i:Nat}{x:DV}(h:(aQ n p xs)[i]?=some (some x)):xs[i]?=some x:=by
 unfold aQ at h
 by_cases hi:i<xs.length
 ·rw[Zb (by simpa using hi),YE] at h
  cases q:xs[i]? with
  | none=>rw[q] at h;cases h
  | some y=>rw[q] at h;cases h;rfl
 ·rw[YQ (by simpa using hi),ZV] at h
  split at h <;> cases h
theorem o7 {N:List Str}{vs:List V}{i:Nat}{v:V}(h:vs[i]?=some v):(start N vs)[i]?=some (some v):=by
 unfold start
 have hi:i<vs.length:=(Yi.mp h).1
 rw[Zb (by simpa using hi),YE,h]
 rfl
theorem DInv.start {K:Kq}{P F H:Hp}{xs:List DV}{vs:List V}(N:List Str)(p:Nat)(h:DHp P F H)(r:DVs K P F H xs vs)(hp:xs.length=p):DInv K P F H (aQ N.length p xs) (start N vs):=by
 refine⟨h,?_,fun _=>none,fun i x e=>?_⟩
 ·unfold aQ L2.start
  rw[Yh,Yh,Yf,Yf,YM,YM,r.length,← r.length,hp]
 ·obtain⟨ho,v,h1,h2⟩:=r.get (m_ e)
  refine⟨v,o7 h1,?_⟩
  cases x with
  | own o t=>cases ho
  | v d=>exact h2
  | bor o=>exact h2
theorem Fun.okD {P:Program}{w:World}{K:Kq}{mg:Ks}{base:Heap}{x qual:Str}{st:Stmt}{f:Addr}{fd:FuncData}{N ps:List Str}{k:Nat}{g:Dw}(F:Fun K x qual st f fd)(S:FnScope N ps (defScope st))
  (hbody:∀ (cdv:Value) (A:Around) (outer:List Env) (s:Shared) (H:Hp) (E:XK),Room k (A.deeper (envOfC qual (defScope st) s.heap.objs.size f cdv))→
   PDS (b9 CX0 P w K mg base N qual (defScope st) f cdv A outer s H E).nox (defBody st) g):FnOk P w K mg base CX0 (k+1) f fd ps (spD K (mOf N.length ps.length g)):=by
 have lens:∀ vs H Q E,spD K (mOf N.length ps.length g) vs H Q E→vs.length=ps.length:=fun vs H Q E hh_=>by
  obtain⟨P',F',xs,x',hm,hp,hv,_⟩:=hh_
  unfold mOf at hm
  split at hm
  ·rename_i h;rw[← hv.length];exact h
  ·cases hm
 refine F.ok S lens fun cdv A outer s H vs Q E hr h=>?_
 refine⟨_,hbody cdv A outer s H E hr,?_⟩
 obtain⟨P',F',xs,x',hm,hp,hv,hQ⟩:=h
 unfold mOf at hm
 split at hm
 ·rename_i hl
  have I:DInv K P' F' H (aQ N.length ps.length xs) (start N vs):=DInv.start N ps.length hp hv hl
  cases q:g (aQ N.length ps.length xs) with
  | none=>rw[q] at hm;cases hm
  | some r=>
   rw[q] at hm
   refine⟨P',F',_,r,q,I,?_⟩
   cases r with
   | rt y ρ=>cases hm;exact fun v σ F2 H2 e h r=>hQ v F2 H2 e h.toDHp r
   | nx ρ=>cases hm;exact fun σ F2 H2 e I2=>hQ .non F2 H2 e I2.toDHp .non
   | bk ρ=>cases hm
   | ct ρ=>cases hm
 ·cases hm
inductive ArgsS (K:PySem.W.Frag) (ρ:DF) (σ:St) (F:Hp):List DV→List V→Prop
 | nil:ArgsS K ρ σ F [] []
 | v {d:D} {v:V} {xs:List DV} {vs:List V}:Rep K F v d→ArgsS K ρ σ F xs vs→ArgsS K ρ σ F (.v d::xs) (v::vs)
 | b {o:OD} {v:V} {xs:List DV} {vs:List V} (i:Nat):σ[i]?=some (some v)→((∃ t,ρ[i]?=some (some (.own o t)))∨ρ[i]?=some (some (.bor o)))→ArgsS K ρ σ F xs vs→ArgsS K ρ σ F (.bor o::xs) (v::vs)
theorem ArgsS.dvs {K:Kq}{P F H:Hp}{ρ:DF}{σ:St}(I:DInv K P F H ρ σ){xs:List DV}{vs:List V}(h:ArgsS K ρ σ F xs vs):DVs K (gd F H) F H xs vs:=by
 induction h with
 | nil=>exact .nil
 | v h _ ih=>exact .cons rfl h ih
 | b i h1 h2 _ ih=>
  obtain⟨a,rfl,h3⟩:=I.slot h1 h2
  exact .cons rfl ⟨a,rfl,h3.mono (Same.refl _) fun b u q hb=>⟨cE.mpr ⟨q,hb⟩,trivial⟩⟩ ih
def tLV (K:Kq)(f:Dv):TA:=fun σ H Q=>∃ P F ρ xs,f ρ=some xs∧DInv K P F H ρ σ∧∀ vs F' H',Evo P F H F' H'→ArgsS K ρ σ F' xs vs→Q vs H'
def ir (X:Cx)(es:List Expr)(f:Dv):Prop:=PA X es (tLV X.K f)
section
variable {X:Cx} {e:Expr} {es:List Expr} {pos:Pos}
theorem aJ:ir X [] (fun _=>some []):=PA.imp aL fun σ H Q=>un7 fun P F ρ xs hf I k=>by
 cases hf
 exact k [] F H (Evo.refl I.toDHp) .nil
def aV (f:Dd)(g:Dv):DF→Option (List DV):=fun ρ=>(f ρ).bind fun d=>(g ρ).map fun xs=>.v d::xs
theorem aC {f:Dd}{g:Dv}(h:PDE X e f)(hr:ir X es g)(hs:starEach (e::es) X.env=(false,eval e X.env)::starEach es X.env:=by rfl):ir X (e::es) (aV f g):=PA.imp (ap h hr hs) fun σ H Q=>un7 fun P F ρ xs hf I k=>by
 unfold aV at hf
 cases q:f ρ with
 | none=>rw[q] at hf;cases hf
 | some d=>
  rw[q,Ya] at hf
  cases q2:g ρ with
  | none=>rw[q2] at hf;cases hf
  | some ys=>
   rw[q2] at hf
   cases hf
   exact⟨P,F,ρ,d,q,I,fun v F1 H1 e1 r1=>⟨P,F1,ρ,ys,q2,I.evo e1,fun vs F2 H2 e2 r2=>k (v::vs) F2 H2 (e1.trans e2) (.v (r1.same e2.ext) r2)⟩⟩
def aB (i:Nat)(g:Dv):DF→Option (List DV):=fun ρ=>match ρ[i]? with
 | some (some (.own o _))=>(g ρ).map fun xs=>.bor o::xs
 | some (some (.bor o))=>(g ρ).map fun xs=>.bor o::xs
 | some (some (.v d))=>(g ρ).map fun xs=>.v d::xs
 | _=>none
theorem dJ (i:Nat){g:Dv}(h:PE X e (cL i))(hr:ir X es g)(hs:starEach (e::es) X.env=(false,eval e X.env)::starEach es X.env:=by rfl):ir X (e::es) (aB i g):=PA.imp (ap h hr hs) fun σ H Q=>un7 fun P F ρ xs hf I k=>by
 unfold aB at hf
 split at hf
 ·rename_i o t q
  obtain⟨v,h1,h2⟩:=I.at q
  cases q2:g ρ with
  | none=>rw[q2] at hf;cases hf
  | some ys=>
   rw[q2] at hf
   cases hf
   exact⟨v,h1,P,F,ρ,ys,q2,I,fun vs F2 H2 e2 r2=>k (v::vs) F2 H2 e2 (.b i h1 (.inl ⟨t,q⟩) r2)⟩
 ·rename_i o q
  obtain⟨v,h1,h2⟩:=I.at q
  cases q2:g ρ with
  | none=>rw[q2] at hf;cases hf
  | some ys=>
   rw[q2] at hf
   cases hf
   exact⟨v,h1,P,F,ρ,ys,q2,I,fun vs F2 H2 e2 r2=>k (v::vs) F2 H2 e2 (.b i h1 (.inr q) r2)⟩
 ·rename_i d q
  obtain⟨v,h1,h2⟩:=I.at q
  cases q2:g ρ with
  | none=>rw[q2] at hf;cases hf
  | some ys=>
   rw[q2] at hf
   cases hf
   exact⟨v,h1,P,F,ρ,ys,q2,I,fun vs F2 H2 e2 r2=>k (v::vs) F2 H2 e2 (.v (Rep.same e2.ext h2) r2)⟩
 ·cases hf
def dvD:DV→Option D
 | .v d=>some d
 | .own o _=>some o.d
 | .bor _=>none
def ay (m:Dm)(g:Dv):DF→Option D:=fun ρ=>(g ρ).bind fun xs=>(m xs).bind dvD
def dvO:DV→Option OD
 | .own o _=>some o
 | _=>none
def bZ (m:Dm)(g:Dv):DF→Option OD:=fun ρ=>(g ρ).bind fun xs=>(m xs).bind dvO
theorem vO {F H:Hp}{F':Hp}{a:Addr}(e:Same F F')(h1:F' a=none)(h2:gd F H a=none):H a=none:=by
 unfold gd at h2
 have:F a=none:=by
  cases q:F a with
  | none=>rfl
  | some o=>rw[e a o q] at h1;cases h1
 rw[this] at h2
 exact h2
theorem nF {K:Kq}{F1 H1 F2 H2:Hp}{o:OD}{a:Addr}(e2:Same F1 F2)(h:ORep K F2 H2 (fun b=>F2 b=none∧gd F1 H1 b=none∧iE b) o a):ORep K F2 H2 (fun b=>H1 b=none∧F2 b=none) o a:=
 h.mono (Same.refl _) fun b u q hb=>⟨hb,vO e2 q.1 q.2.1,q.1⟩
theorem ue {K:Kq}{m:Dm}{g:Dv}{E:XK}:∀ σ H Q,tD K (ay m g) σ H Q→rD (spD K m) [] E (tLV K g) σ H Q:=fun σ H Q=>un7 fun P F ρ d hf I k=>by
 unfold ay at hf
 cases q:g ρ with
 | none=>rw[q] at hf;cases hf
 | some xs=>
  rw[q,Ya] at hf
  cases q2:m xs with
  | none=>rw[q2] at hf;cases hf
  | some x=>
   rw[q2,Ya] at hf
   refine⟨P,F,ρ,xs,q,I,fun vs F1 H1 e1 r1=>?_⟩
   have I1:=I.evo e1
   refine⟨gd F1 H1,F1,xs,x,q2,d_ I1.sub,by rw[YC];exact r1.dvs I1,fun v F2 H2 e2 hp2 r2=>?_⟩
   have ev:Evo P F1 H1 F2 H2:=I1.toDHp.gd e2 hp2
   cases x with
   | v d'=>cases hf;exact k v F2 H2 (e1.trans ev) r2
   | own o t=>
    cases hf
    obtain⟨a,rfl,ho,_⟩:=r2
    have ho':=nF e2 ho
    exact k _ _ H2 (e1.trans (ev.freeze I1.toDHp (fun b=>H1 b=none∧F2 b=none) fun _ q=>q)) (ho'.rep (a_ fun b q=>q.2) fun b u q hb=>by rw[bT q];exact hb)
   | bor o=>cases hf
theorem sU {K:Kq}{m:Dm}{g:Dv}{E:XK}:∀ σ H Q,tO K (bZ m g) σ H Q→rD (spD K m) [] E (tLV K g) σ H Q:=fun σ H Q=>un7 fun P F ρ d hf I k=>by
 unfold bZ at hf
 cases q:g ρ with
 | none=>rw[q] at hf;cases hf
 | some xs=>
  rw[q,Ya] at hf
  cases q2:m xs with
  | none=>rw[q2] at hf;cases hf
  | some x=>
   rw[q2,Ya] at hf
   refine⟨P,F,ρ,xs,q,I,fun vs F1 H1 e1 r1=>?_⟩
   have I1:=I.evo e1
   refine⟨gd F1 H1,F1,xs,x,q2,d_ I1.sub,by rw[YC];exact r1.dvs I1,fun v F2 H2 e2 hp2 r2=>?_⟩
   have ev:Evo P F1 H1 F2 H2:=I1.toDHp.gd e2 hp2
   cases x with
   | own o t=>
    cases hf
    obtain⟨a,rfl,ho,_⟩:=r2
    exact k a F2 H2 (e1.trans ev) ((nF e2 ho).mono (Same.refl _) fun b u q hb=>⟨hb,e1.back I.toDHp q.1,q.2⟩)
   | _=>cases hf
section
variable {k:Nat} {f:Addr} {fd:FuncData} {ps:List Str} {m:Dm} {x:Str} {p:Pos} {g:Dv}
theorem be (F:FnOk X.prog X.w X.K X.mg X.base CX0 k f fd ps (spD X.K m))(hr:Room k X.A)(hg:Gl X x)(hm:X.mg x=some (.ref f))(hk:PySem.W.keepIn X.K (.ref f)=true)(hb:Binds X.K fd ps [])(ha:ir X (e::es) g)
  (hd:(x == ("__debug__":Str))=false:=by decide) (he:starEach (e::es) X.env=(false,eval e X.env)::starEach es X.env:=by rfl) (hpl:(backTo pos (starEach es X.env)).any (·.1)=false:=by rfl):PDE X (.Call (.Name x p) (e::es) [] pos) (ay m g):=
 (f6 F hr hg hm hk hb .nil nW ha hd he hpl).imp ue
theorem lg (F:FnOk X.prog X.w X.K X.mg X.base CX0 k f fd ps (spD X.K m))(hr:Room k X.A)(hg:Gl X x)(hm:X.mg x=some (.ref f))(hk:PySem.W.keepIn X.K (.ref f)=true)(hb:Binds X.K fd ps [])(ha:ir X (e::es) g)
  (hd:(x == ("__debug__":Str))=false:=by decide) (he:starEach (e::es) X.env=(false,eval e X.env)::starEach es X.env:=by rfl) (hpl:(backTo pos (starEach es X.env)).any (·.1)=false:=by rfl):PDO X (.Call (.Name x p) (e::es) [] pos) (bZ m g):=
 (f6 F hr hg hm hk hb .nil nW ha hd he hpl).imp sU
end
end
def ol:Option DV→Option DV
 | some (.v d)=>some (.v d)
 | some (.own o _)=>some (.bor o)
 | some (.bor o)=>some (.bor o)
 | _=>none
def cz (own:Nat)(ix:List Nat)(ρ:DF):DF:=List.replicate own none++ix.map fun j=>ol (ρ[j]?).join
def dn (st:Dq)(c:Dk)(e:Dd)(ρ:DF):List D→Option (List D)
 | []=>some []
 | d::ds=>(st d ρ).bind fun ρ1=>(c ρ1).bind fun b=>if b=true then (e ρ1).bind fun y=>(dn st c e ρ ds).map fun r=>y::r else dn st c e ρ ds
def az (own:Nat)(ix:List Nat)(it:Dl)(st:Dq)(c:Dk)(e:Dd):DF→Option (List D):=
 fun ρ=>(it ρ).bind fun ds=>if ds.length≤16777216 then dn st c e (cz own ix ρ) ds else none
def bf:DF→Option Bool:=fun _=>some true
theorem kS {own:Nat}{ix:List Nat}{ρ:DF}{i:Nat}{x:DV}(h:(cz own ix ρ)[i]?=some (some x)):own≤i∧∃ j y,ix[i-own]?=some j∧ρ[j]?=some (some y)∧ol (some y)=some x:=by
 unfold cz at h
 by_cases hi:i<own
 ·rw[Zb (by rw[YM];exact hi),ZV,Yk hi] at h
  cases h
 ·rw[YQ (by rw[YM];omega),YM,YE] at h
  refine⟨by omega,?_⟩
  cases q:ix[i-own]? with
  | none=>rw[q] at h;cases h
  | some j=>
   rw[q,YY] at h
   have h':=YH h
   cases q2:ρ[j]? with
   | none=>rw[q2] at h';cases h'
   | some o=>
    rw[q2,Option.join_some] at h'
    cases o with
    | none=>cases h'
    | some y=>exact⟨j,y,rfl,q2,h'⟩
theorem rZ {own:Nat}{ix:List Nat}{σ:St}{i j:Nat}{v:V}(hi:own≤i)(h:ix[i-own]?=some j)(hv:σ[j]?=some (some v)):(bK own ix σ)[i]?=some (some v):=by
 unfold bK
 rw[YQ (by rw[YM];exact hi),YM,YE,h,YY,hv]
 rfl
theorem DInv.cap {K:Kq}{P F H:Hp}{ρ:DF}{σ:St}(I:DInv K P F H ρ σ)(own:Nat)(ix:List Nat):DInv K (gd F H) F H (cz own ix ρ) (bK own ix σ):=by
 refine⟨d_ I.sub,?_,fun _=>none,fun i x h=>?_⟩
 ·rw[cZ]
  unfold cz
  rw[Yh,YM,Yf]
 ·obtain⟨hi,j,y,h1,h2,h3⟩:=kS h
  obtain⟨v,q1,q2⟩:=I.at h2
  refine⟨v,rZ hi h1 q1,?_⟩
  have bo:∀ o,((∃ t,ρ[j]?=some (some (.own o t)))∨ρ[j]?=some (some (.bor o)))→DVRep K (gd F H) F H (fun b=>none=some i) (.bor o) v:=fun o ho=>by
   obtain⟨a,rfl,h3⟩:=I.slot q1 ho
   exact⟨a,rfl,h3.mono (Same.refl _) fun b u q hb=>⟨cE.mpr ⟨q,hb⟩,trivial⟩⟩
  cases y with
  | v d=>cases h3;exact q2
  | own o t=>cases h3;exact bo o (.inl ⟨t,h2⟩)
  | bor o=>cases h3;exact bo o (.inr h2)
theorem lv {K:Kq}{G F H F2 H2:Hp}{own:Nat}{ix:List Nat}{ρ:DF}{τ:St}(B:DInv K G F H (cz own ix ρ) τ)(e:Same F F2)(hp:DHp G F2 H2):DInv K G F2 H2 (cz own ix ρ) τ:=by
 obtain⟨O,h⟩:=B.rep
 refine⟨hp,B.len,O,fun i x hx=>?_⟩
 obtain⟨v,h1,h2⟩:=h i x hx
 refine⟨v,h1,?_⟩
 cases x with
 | v d=>exact Rep.same e h2
 | bor o=>obtain⟨a,rfl,h3⟩:=h2;exact⟨a,rfl,h3.mono e fun b u q hb=>⟨hb,q⟩⟩
 | own o t=>(obtain⟨_,j,y,_,_,h3⟩:=kS hx;cases y <;> cases h3)
section
variable {X:Cx} {elt tg iter:Expr} {ifs:List Expr} {scope:Scope} {pos:Pos} {N:List Str} {own:Nat} {ix is:List Nat} {f:Dl} {st:Dq} {c:Dk} {e:Dd}
theorem jX {K:Kq}(his:∀ j∈is,j<own):∀ σ H Q,tO K (asL (az own ix f st c e)) σ H Q→nM own ix (tI K f) (tG K is st) (tB' K c) (tD K e) σ H Q:=fun σ H Q=>un7 fun P F ρ ob hf I k=>by
 unfold asL at hf
 cases hout:az own ix f st c e ρ with
 | none=>rw[hout] at hf;cases hf
 | some out=>
 rw[hout] at hf
 cases hf
 have hf:=hout
 unfold az at hf
 cases q:f ρ with
 | none=>rw[q] at hf;cases hf
 | some ds=>
  rw[q,Ya] at hf
  split at hf
  rotate_left
  ·cases hf
  rename_i hlen
  refine⟨P,F,ρ,ds,q,I,fun J F1 H1 ev ok acc hacc=>?_⟩
  have I1:=I.evo ev
  have hp1:DHp (gd F1 H1) F1 H1:=d_ I1.sub
  have hg:gd F1 H1 acc=none:=by unfold gd;rw[I1.sub.free hacc];exact hacc
  have B1:DInv K (gd F1 H1) F1 H1 (cz own ix ρ) (bK own ix σ):=I1.cap own ix
  have hP:∀ {F' H':Hp},Same F1 F'→DHp (gd F1 H1) F' H'→DHp P F' H':=fun s h=>(I1.toDHp.gd s h).hp
  refine⟨fun i m ys H'=>m=ds.length-i∧i≤ds.length∧∃ F',Same F1 F'∧DHp (gd F1 H1) F' H'∧F' acc=none∧H' acc=some (.lst ys)∧ys.length≤i∧∃ pre,Reps K F' ys pre∧(dn st c e (cz own ix ρ) (ds.drop i)).map (fun r=>pre++r)=some out,
   ⟨_,rfl,Zm _,F1,Same.refl _,(Evo.side hp1 hacc).hp,I1.sub.free hacc,ak,Yr _,[],.nil,by rw[ZD,hf];rfl⟩,?_⟩
  rintro i m ys H' ⟨rfl,hi,F',se,hp',fa,ha,hy,pre,rp,hm⟩
  obtain⟨ok1,ok2⟩:=ok F' H' se (hP se hp') i
  by_cases hlt:i<ds.length
  ·have hd:ds[i]?=some ds[i]:=Ye hlt
   obtain⟨go,yl⟩:=ok1 _ hd
   have hdrop:ds.drop i=ds[i]::ds.drop (i+1):=Zc hlt
   rw[hdrop] at hm
   unfold dn at hm
   cases hst:st ds[i] (cz own ix ρ) with
   | none=>rw[hst] at hm;cases hm
   | some ρ1=>
    rw[hst,Ya] at hm
    refine .inr ⟨go,fun ys' H2=>∃ F2,Same F1 F2∧DHp (gd F1 H1) F2 H2∧F2 acc=none∧H2 acc=some (.lst ys')∧ys'.length≤i+1∧∃ pre',Reps K F2 ys' pre'∧(dn st c e (cz own ix ρ) (ds.drop (i+1))).map (fun r=>pre'++r)=some out,
     fun ys' H2 h=>⟨ds.length-(i+1),by omega,rfl,hlt,h⟩,fun x H2 hyl=>?_⟩
    obtain⟨F2,ev2,rx⟩:=yl x H2 hyl
    have ev2':Evo (gd F1 H1) F' H' F2 H2:=ev2.change hp'
    obtain⟨a2,fa2⟩:=ev2'.keep acc _ ha fa
    have B2:DInv K (gd F1 H1) F2 H2 (cz own ix ρ) (bK own ix σ):=lv B1 (se.trans ev2.ext) ev2'.hp
    refine⟨gd F1 H1,F2,cz own ix ρ,ds[i],ρ1,hst,B2,rx,fun σ3 F3 H3 ev3 I3 hl3 hσ=>?_⟩
    refine⟨⟨?_,fun j v hj=>?_⟩,?_⟩
    ·rw[hl3,cZ]
    ·rw[hσ j]
     ·exact hj
     ·intro hj'
      obtain⟨ho,_⟩:=fD hj
      have:=his j hj'
      omega
    obtain⟨a3,fa3⟩:=ev3.keep acc _ a2 fa2
    cases hc:c ρ1 with
    | none=>rw[hc] at hm;cases hm
    | some b=>
     rw[hc,Ya] at hm
     refine⟨gd F1 H1,F3,ρ1,b,hc,I3,fun F4 H4 ev4=>?_⟩
     obtain⟨a4,fa4⟩:=ev4.keep acc _ a3 fa3
     have s14:Same F' F4:=ev2.ext.trans (ev3.ext.trans ev4.ext)
     cases b with
     | false=>
      rw[Ym Yg] at hm ⊢
      exact⟨F4,se.trans s14,ev4.hp,fa4,a4,by omega,pre,rp.same s14,hm⟩
     | true=>
      rw[Yk rfl] at hm ⊢
      cases he:e ρ1 with
      | none=>rw[he] at hm;cases hm
      | some y=>
       rw[he,Ya] at hm
       refine⟨gd F1 H1,F4,ρ1,y,he,I3.evo ev4,fun v F5 H5 ev5 rv=>?_⟩
       obtain⟨a5,fa5⟩:=ev5.keep acc _ a4 fa4
       have s15:Same F' F5:=s14.trans ev5.ext
       refine⟨a5,by rw[YS];omega,F5,se.trans s15,⟨fun b u h=>by rw[ag (ax h fa5)];exact ev5.hp.sub b u h,fun b u h=>by rw[ag (ax h hg)];exact ev5.hp.pro b u h,ev5.hp.dis⟩,fa5,ak,by rw[Yh,Ze];omega,pre++[y],(rp.same s15).append (.one rv),?_⟩
       cases hmm:dn st c e (cz own ix ρ) (ds.drop (i+1)) with
       | none=>rw[hmm] at hm;cases hm
       | some r=>
        rw[hmm] at hm
        simp only[YY] at hm ⊢
        rw[Ys]
        exact hm
  ·have hz:ds.drop i=[]:=YV (by omega)
   rw[hz] at hm
   unfold dn at hm
   rw[YY,YC] at hm
   cases hm
   exact .inl ⟨ok2 (by omega),k acc F' H' (ev.trans (I1.toDHp.gd se hp')) ⟨⟨ev.back I.toDHp hacc,fa⟩,_,ha,rp⟩⟩
theorem cw (hcalm:X.calm=true)(b:BlkScope X scope)(cp:Caps X scope N own ix)(his:∀ j∈is,j<own)(hi:PDI X tg iter f)
  (hg:∀ s H fp pz,PDG (blk X scope N s H fp pz) tg is st) (hc:∀ s H fp pz,jF (blk X scope N s H fp pz) ifs (tB' X.K c)) (he:∀ s H fp pz,PDE (blk X scope N s H fp pz) elt e)
  (hnames:∀ y∈scope.names,y.2=.local→scope.names.lookup y.1=some .local:=by decide)
  (hs:∀ x,foldedSetIterable iter X.env x=pure x:=by intro _;rfl):PDO X (.ListComp elt [⟨tg,iter,ifs,0⟩] scope pos) (asL (az own ix f st c e)):=
 (nO (g:=tG X.K is st) (tc:=tB' X.K c) (te:=tD X.K e) hcalm b cp hi hg hc he hnames hs).imp (jX his)
end
section
variable {X:Cx} {e a b c:Expr} {es:List Expr} {pos:Pos}
def xJ (n:Nat)(f:Dl):Prop:=∀ ρ ds,f ρ=some ds→ds.length=n
def PDL (X:Cx)(es:List Expr)(n:Nat)(f:Dl):Prop:=PDA X es f∧xJ n f
def lU:DF→Option (List D):=fun _=>some []
def d9 (f:Dd)(g:Dl):DF→Option (List D):=fun ρ=>(f ρ).bind fun d=>(g ρ).map fun r=>d::r
theorem fX:PDL X [] 0 lU:=⟨PA.imp aL fun σ H Q=>un7 fun P F ρ xs hf I k=>by
 cases hf
 exact k [] F H (Evo.refl I.toDHp) .nil,fun ρ ds h=>by cases h;rfl⟩
theorem eO {f:Dd}{n:Nat}{g:Dl}(h:PDE X e f)(hr:PDL X es n g)(hs:starEach (e::es) X.env=(false,eval e X.env)::starEach es X.env:=by rfl):PDL X (e::es) (n+1) (d9 f g):=
 ⟨PA.imp (ap h hr.1 hs) fun σ H Q=>un7 fun P F ρ xs hf I k=>by
  unfold d9 at hf
  cases q:f ρ with
  | none=>rw[q] at hf;cases hf
  | some d=>
   rw[q,Ya] at hf
   cases q2:g ρ with
   | none=>rw[q2] at hf;cases hf
   | some ys=>
    rw[q2] at hf
    cases hf
    exact⟨P,F,ρ,d,q,I,fun v F1 H1 e1 r1=>⟨P,F1,ρ,ys,q2,I.evo e1,fun vs F2 H2 e2 r2=>k (v::vs) F2 H2 (e1.trans e2) (.cons (r1.same e2.ext) r2)⟩⟩,fun ρ ds hf=>by
  unfold d9 at hf
  cases q:f ρ with
  | none=>rw[q] at hf;cases hf
  | some d=>
   rw[q,Ya] at hf
   cases q2:g ρ with
   | none=>rw[q2] at hf;cases hf
   | some ys=>
    rw[q2] at hf
    cases hf
    rw[Yw,hr.2 ρ ys q2]⟩
def asT (f:Dl):DF→Option D:=fun ρ=>(f ρ).map .tup
theorem we {x1}{n:Nat}{f:Dl}(h:PDL X es n f)(hn:n≤16777216:=by decide):PDE X (.Tuple es x1 pos) (asT f):=(sg h.1).imp fun σ H Q=>un7 fun P F ρ d hf I k=>by
 unfold asT at hf
 cases q:f ρ with
 | none=>rw[q] at hf;cases hf
 | some ds=>
  rw[q] at hf
  cases hf
  refine⟨P,F,ρ,ds,q,I,fun vs F1 H1 e1 r1=>⟨by rw[r1.length,h.2 ρ ds q,YS];exact hn,fun p hp=>?_⟩⟩
  exact k (.ref p) _ _ (e1.trans (Evo.laid e1.hp hp)) (.tup ak (r1.same (fq (e1.hp.free hp).1)))
theorem jO {n:Nat}{f:Dl}(h:PDL X es n f)(hn:n≤16777216:=by decide):PDO X (.List es pos) (asL f):=(v7 h.1).imp fun σ H Q=>un7 fun P F ρ ob hf I k=>by
 unfold asL at hf
 cases q:f ρ with
 | none=>rw[q] at hf;cases hf
 | some ds=>
 rw[q] at hf
 cases hf
 refine⟨P,F,ρ,ds,q,I,fun vs F1 H1 e1 r1=>⟨by rw[r1.length,h.2 ρ ds q,YS];exact hn,fun p hp=>?_⟩⟩
 exact k p F1 _ (e1.trans (Evo.side e1.hp hp)) ⟨⟨e1.back I.toDHp hp,(e1.hp.free hp).1⟩,_,ak,r1⟩
theorem Reps.atI {K:Kq}{F:Hp}{vs:List V}{ds:List D}{i:Int}{d:D}(r:Reps K F vs ds)(h:atI ds i=some d):∃ v,atI vs i=some v∧Rep K F v d:=by
 unfold L2.atI at h ⊢
 rw[r.length]
 cases q:ixN ds.length i with
 | none=>rw[q] at h;cases h
 | some j=>
  rw[q,Ya] at h
  obtain⟨v,h1,h2⟩:=r.get h
  exact⟨v,h1,h2⟩
def ixD:D→D→Option D
 | .lst ds,.int i=>atI ds i
 | .tup ds,.int i=>atI ds i
 | .str z,.int i=>if z.length≤16777216 then (atI z.cps.toList i).map fun c=>.str ⟨#[c]⟩ else none
 | _,_=>none
theorem xp {K:Kq}:mB K (rIx K) ixD:=by
 intro P F H ρ σ x y dx dy d Q hf I rx ry k
 unfold ixD at hf
 split at hf
 ·obtain⟨p,vs,rfl,h1,h2⟩:=b_ I rx
  obtain⟨v,h3,h4⟩:=h2.atI hf
  exact .inl ⟨p,vs,_,v,rfl,bN ry,h1,h3,k v F H (Evo.refl I.toDHp) h4⟩
 ·obtain⟨p,vs,rfl,h1,h2⟩:=e7 I rx
  obtain⟨v,h3,h4⟩:=h2.atI hf
  exact .inr (.inl ⟨p,vs,_,v,rfl,bN ry,h1,h3,k v F H (Evo.refl I.toDHp) h4⟩)
 ·split at hf
  ·rename_i z i hz
   cases q:atI z.cps.toList i with
   | none=>rw[q] at hf;cases hf
   | some c=>
    rw[q] at hf
    cases hf
    exact .inr (.inr ⟨z,i,c,jT rx,bN ry,by rw[YS];exact hz,q,k _ F H (Evo.refl I.toDHp) .str⟩)
  ·cases hf
 ·cases hf
theorem iO {fa fb:Dd}(ha:PDR X a fa)(hb:PDR X b fb)(hs:nK b:=by exact fun _ _=>rfl):PDE X (.Subscript a b pos) (d2 ixD fa fb):=(xR ww ha hb hs).imp (mC xp)
def xz:R2:=fun x y H Q=>(∃ i j,x=.int i∧y=.int j∧Q (.int (i+j)) H)∨∃ i j,x=.str i∧y=.str j∧i.length+j.length≤sizeLine∧Q (.str (i++j)) H
theorem uM {fa fb:Dd}(ha:PDR X a fa)(hb:PDR X b fb):PDT X (.Compare a [.LtE] [b] pos) (asB (d2 leI fa fb)):=nJ xt (jN fun _ _ _=>.bl) ha hb (eA _)
theorem iZ {fa fb:Dd}(ha:PDR X a fa)(hb:PDR X b fb):PDT X (.Compare a [.Gt] [b] pos) (asB (d2 gtI fa fb)):=nJ yj (jN fun _ _ _=>.bl) ha hb (eA _)
def bV (f g:Dk):DF→Option Bool:=fun ρ=>(f ρ).bind fun b=>if b=true then g ρ else some false
def orT (f g:Dk):DF→Option Bool:=fun ρ=>(f ρ).bind fun b=>if b=true then some true else g ρ
def bU (f:Dk):DF→Option Bool:=fun ρ=>(f ρ).map fun b=>!b
def PDW (X:Cx)(e:Expr)(f:Dk):Prop:=PW X e (tB' X.K f)
theorem PDW.t {f:Dk}(h:PDW X e f):PDT X e f:=PW.pt h
theorem PW.imp {t t':TT}(h:PW X e t)(i:∀ σ H Q,t' σ H Q→t σ H Q):PW X e t':=fun w pz s σ H Q I q=>h w pz s σ H Q I (i σ H Q q)
theorem eT {f:Dk}(h:PDT X a f):PDW X (.BoolOp .And [a] pos) f:=t0 h
theorem j3 {f:Dk}(h:PDT X a f):PDW X (.BoolOp .Or [a] pos) f:=rB h
theorem gf {aN:List Expr}{f g:Dk}(ha:PDT X a f)(hb:PDW X (.BoolOp .And (b::aN) pos) g):PDW X (.BoolOp .And (a::b::aN) pos) (bV f g):=PW.imp (u5 ha hb) fun σ H Q=>un7 fun P F ρ r hf I k=>by
 unfold bV at hf
 cases q:f ρ with
 | none=>rw[q] at hf;cases hf
 | some x=>
  rw[q,Ya] at hf
  refine⟨P,F,ρ,x,q,I,fun F1 H1 e1=>?_⟩
  cases x with
  | true=>rw[Yk rfl] at hf ⊢;exact⟨P,F1,ρ,r,hf,I.evo e1,fun F2 H2 e2=>k F2 H2 (e1.trans e2)⟩
  | false=>rw[Ym Yg] at hf ⊢;cases hf;exact k F1 H1 e1
theorem jS {aN:List Expr}{f g:Dk}(ha:PDT X a f)(hb:PDW X (.BoolOp .Or (b::aN) pos) g):PDW X (.BoolOp .Or (a::b::aN) pos) (orT f g):=PW.imp (uU ha hb) fun σ H Q=>un7 fun P F ρ r hf I k=>by
 unfold orT at hf
 cases q:f ρ with
 | none=>rw[q] at hf;cases hf
 | some x=>
  rw[q,Ya] at hf
  refine⟨P,F,ρ,x,q,I,fun F1 H1 e1=>?_⟩
  cases x with
  | true=>rw[Yk rfl] at hf ⊢;cases hf;exact k F1 H1 e1
  | false=>rw[Ym Yg] at hf ⊢;exact⟨P,F1,ρ,r,hf,I.evo e1,fun F2 H2 e2=>k F2 H2 (e1.trans e2)⟩
theorem gc {f:Dk}(ha:PDT X a f):PDT X (.UnaryOp .Not a pos) (bU f):=(mq ha).imp fun σ H Q=>un7 fun P F ρ r hf I k=>by
 unfold bU at hf
 cases q:f ρ with
 | none=>rw[q] at hf;cases hf
 | some x=>rw[q] at hf;cases hf;exact⟨P,F,ρ,x,q,I,fun F1 H1 e1=>k F1 H1 e1⟩
def dh (f g:Dd):DF→Option D:=fun ρ=>match f ρ with
 | some (.bl true)=>g ρ
 | some (.bl false)=>some (.bl false)
 | _=>none
def orV (f g:Dd):DF→Option D:=fun ρ=>match f ρ with
 | some (.bl false)=>g ρ
 | some (.bl true)=>some (.bl true)
 | _=>none
def fT (f:Dd):DF→Option D:=fun ρ=>match f ρ with
 | some (.bl b)=>some (.bl (!b))
 | _=>none
theorem qX {op}{f:Dd}(h:PDE X a f):PDE X (.BoolOp op [a] pos) f:=vP h
theorem vD {aN:List Expr}{f g:Dd}(ha:PDE X a f)(hb:PDE X (.BoolOp .And (b::aN) pos) g):PDE X (.BoolOp .And (a::b::aN) pos) (dh f g):=(pV ha hb).imp fun σ H Q=>un7 fun P F ρ r hf I k=>by
 unfold dh at hf
 split at hf
 ·rename_i q
  refine⟨P,F,ρ,_,q,I,fun v F1 H1 e1 r1=>?_⟩
  cases r1
  exact⟨true,rfl,by rw[Yk rfl];exact⟨P,F1,ρ,r,hf,I.evo e1,fun v F2 H2 e2 r2=>k v F2 H2 (e1.trans e2) r2⟩⟩
 ·rename_i q
  refine⟨P,F,ρ,_,q,I,fun v F1 H1 e1 r1=>?_⟩
  cases r1
  cases hf
  exact⟨false,rfl,by rw[Ym Yg];exact k _ F1 H1 e1 .bl⟩
 ·cases hf
theorem vQ {f:Dd}(ha:PDE X a f):PDE X (.UnaryOp .Not a pos) (fT f):=(rV ha).imp fun σ H Q=>un7 fun P F ρ r hf I k=>by
 unfold fT at hf
 split at hf
 ·rename_i q
  cases hf
  refine⟨P,F,ρ,_,q,I,fun v F1 H1 e1 r1=>?_⟩
  cases r1
  exact⟨_,rfl,k _ F1 H1 e1 .bl⟩
 ·cases hf
def ifV (c:Dk)(f g:Dd):DF→Option D:=fun ρ=>(c ρ).bind fun b=>if b=true then f ρ else g ρ
def x_ (K:Kq)(r:List V→Hp→VK→Prop)(f:D→Option D):Prop:=
 ∀ (P F H:Hp) (ρ:DF) (σ:St) (x:V) (dx d:D) (Q:VK),f dx=some d→DInv K P F H ρ σ→RepS K H F x dx→(∀ v F' H',Evo P F H F' H'→Rep K F' v d→Q v H')→r [x] H Q
def d1 (f:D→Option D)(fa:Dd):DF→Option D:=fun ρ=>(fa ρ).bind f
theorem wx {K:Kq}{r:List V→Hp→VK→Prop}{f:D→Option D}{fa:Dd}(ho:x_ K r f):∀ σ H Q,tD K (d1 f fa) σ H Q→tCB r (eP (tR K fa) kZ) σ H Q:=fun σ H Q=>un7 fun P F ρ d hf I k=>by
 unfold d1 at hf
 cases ha:fa ρ with
 | none=>rw[ha] at hf;cases hf
 | some dx=>
  rw[ha,Ya] at hf
  exact⟨P,F,ρ,dx,ha,I,fun x F1 H1 e1 rx=>ho P F1 H1 ρ σ x dx d Q hf (I.evo e1) rx fun v F2 H2 e2 rv=>k v F2 H2 (e1.trans e2) rv⟩
def bn:D→Option D
 | .lst ds=>some (.int ds.length)
 | .tup ds=>some (.int ds.length)
 | .str z=>if z.length≤16777216 then some (.int z.length) else none
 | _=>none
def yd (K:Kq):List V→Hp→VK→Prop:=fun xs H Q=>(∃ p ys,xs=[.ref p]∧(SqL K H p ys∨SqT K H p ys)∧Q (.int ys.length) H)∨∃ z,xs=[.str z]∧z.length≤sizeLine∧Q (.int z.length) H
end
mutual
def bG:D→PyData
 | .non=>.none
 | .bl b=>.bool b
 | .int i=>.int i
 | .str x=>.str x
 | .tup xs=>.tuple (bB xs)
 | .lst xs=>.list (bB xs)
 | .dT _=>.none
 | .dK _=>.none
 | .ins _ _=>.none
 | .fn _ _ _=>.none
def bB:List D→List PyData
 | []=>[]
 | d::ds=>bG d::bB ds
end
def okN:Nat→D→Bool
 | _,.non=>true
 | _,.bl _=>true
 | _,.int _=>true
 | _,.str x=>PyData.strOk x
 | n+1,.tup xs=>xs.all (okN n)
 | n+1,.lst xs=>xs.all (okN n)
 | _,_=>false
theorem bw {n:Nat}:∀ {ds:List D},ds.all (okN n)=true→∀ d∈ds,okN n d=true:=fun h d hd=>YD.mp h d hd
theorem dW:∀ (n:Nat) (d:D),okN n d=true→(bG d).canLay0=true∧(bG d).depth≤n+1:=by
 intro n
 induction n with
 | zero=>
  intro d h
  cases d with
  | non=>exact⟨rfl,by simp[bG,PyData.depth]⟩
  | bl b=>exact⟨rfl,by simp[bG,PyData.depth]⟩
  | int b=>exact⟨rfl,by simp[bG,PyData.depth]⟩
  | str b=>exact⟨h,by simp[bG,PyData.depth]⟩
  | _=>cases h
 | succ n ih=>
  have all:∀ ds:List D,ds.all (okN n)=true→PyData.canLayAll0 (bB ds)=true∧PyData.depthAll (bB ds)≤n+1:=by
   intro ds
   induction ds with
   | nil=>intro _;exact⟨rfl,by simp[bB,PyData.depthAll]⟩
   | cons x r ihr=>
    intro h
    rw[List.all_cons,Yx] at h
    obtain⟨h1,h2⟩:=ih x h.1
    obtain⟨h3,h4⟩:=ihr h.2
    refine⟨?_,?_⟩
    ·show (PyData.canLay0 (bG x)&&PyData.canLayAll0 (bB r))=true
     rw[h1,h3];rfl
    ·show PyData.depthAll (bG x::bB r)≤n+1
     simp only[PyData.depthAll]
     omega
  intro d h
  cases d with
  | non=>exact⟨rfl,by simp[bG,PyData.depth]⟩
  | bl b=>exact⟨rfl,by simp[bG,PyData.depth]⟩
  | int b=>exact⟨rfl,by simp[bG,PyData.depth]⟩
  | str b=>exact⟨h,by simp[bG,PyData.depth]⟩
  | tup xs=>
   obtain⟨h1,h2⟩:=all xs h
   exact⟨h1,by simp only[bG,PyData.depth];omega⟩
  | lst xs=>
   obtain⟨h1,h2⟩:=all xs h
   exact⟨h1,by simp only[bG,PyData.depth];omega⟩
  | _=>cases h
section
variable {X:Cx} {pz:Kp} {σ:St} {H:Hp} {s:Shared}
theorem Reps.readsOf {n:Nat}(ih:∀ {v:V} {d:D} {u:Value},Rep X.K H v d→okN n d=true→RelV v u→∃ as,Reads s.heap u (bG d) as){vs:List V}{ds:List D}(h:Reps X.K H vs ds):∀ us:List Value,(∀ d∈ds,okN n d=true)→Vals vs us→∃ as,ReadsAll s.heap us (bB ds) as:=
 Reps.ind (M:=fun vs ds=>∀ us:List Value,(∀ d∈ds,okN n d=true)→Vals vs us→∃ as,ReadsAll s.heap us (bB ds) as) (fun us _ r=>by cases r;exact⟨_,.nil⟩) (fun h _ i us ho r=>by
  cases r with
  | cons r t=>
   obtain⟨a1,r1⟩:=ih h (ho _ Yc) r
   obtain⟨a2,r2⟩:=i _ (fun d hd=>ho d (Yb _ hd)) t
   exact⟨_,.cons r1 r2⟩) h
theorem Rep.reads1 (I:Inv X pz σ H s)(n:Nat)(ih:∀ m,n=m+1→∀ {v:V} {d:D} {u:Value},Rep X.K H v d→okN m d=true→RelV v u→∃ as,Reads s.heap u (bG d) as){v:V}{d:D}{u:Value}(h:Rep X.K H v d)(ho:okN n d=true)(r:RelV v u):∃ as,Reads s.heap u (bG d) as:=by
 cases h with
 | non=>cases (show u=Value.none from r);exact⟨_,.none⟩
 | bl=>cases (show u=Value.bool _ from r);exact⟨_,.bool _⟩
 | int=>obtain⟨t,rfl⟩:=(show ∃ t,u=Value.int _ t from r);exact⟨_,.int _ _⟩
 | str=>obtain⟨t,rfl⟩:=(show ∃ t,u=Value.str _ t from r);exact⟨_,.str _ _⟩
 | tup h q=>
  cases n with
  | zero=>cases ho
  | succ m=>
   cases (show u=Value.ref _ from r)
   obtain⟨its,rv,ht,_⟩:=I.tuple (SqT.of h)
   obtain⟨as,ra⟩:=Reps.readsOf (ih m rfl) q _ (bw ho) rv
   obtain⟨o,h1,h2,m,h3⟩:=ht
   exact⟨_,.tuple h1 h2 h3 (by simpa using ra)⟩
 | lst h q=>
  cases n with
  | zero=>cases ho
  | succ m=>
   cases (show u=Value.ref _ from r)
   obtain⟨its,rv,ht,_⟩:=I.list h
   obtain⟨as,ra⟩:=Reps.readsOf (ih m rfl) q _ (bw ho) rv
   obtain⟨o,m,h1,h2,_,h3⟩:=ht
   exact⟨_,.list h1 h2 h3 (by simpa using ra)⟩
 | _=>cases n <;> cases ho
theorem Rep.reads (I:Inv X pz σ H s)(n:Nat):∀ {v:V} {d:D} {u:Value},Rep X.K H v d→okN n d=true→RelV v u→∃ as,Reads s.heap u (bG d) as:=by
 induction n with
 | zero=>exact fun h ho r=>Rep.reads1 I 0 (fun m e=>by cases e) h ho r
 | succ n ih=>exact fun h ho r=>Rep.reads1 I (n+1) (fun m e=>by cases e;exact ih) h ho r
end
def eqd (x y:D):Bool:=PyData.eqv (bG x) (bG y)
def eqD (x y:D):Option D:=if (okN 30 x&&okN 30 y)=true then some (.bl (eqd x y)) else none
def neD (x y:D):Option D:=if (okN 30 x&&okN 30 y)=true then some (.bl (!eqd x y)) else none
def tq (K:Kq)(g:Bool→Bool):R2:=fun x y H Q=>∃ dx dy,Rep K H x dx∧Rep K H y dy∧okN 30 dx=true∧okN 30 dy=true∧Q (.bl (g (eqd dx dy))) H
section
variable {X:Cx} {e a b c:Expr} {es:List Expr} {pos:Pos}
theorem po (hu:X.A.units+64<cLine):OpR X (compareOp .Eq) (tq X.K fun b=>b):=by
 intro pz s σ H x y v u Q I rx ry h
 obtain⟨dx,dy,h1,h2,o1,o2,q⟩:=h
 obtain⟨a1,r1⟩:=h1.reads I 30 o1 rx
 obtain⟨a2,r2⟩:=h2.reads I 30 o2 ry
 obtain⟨l1,p1⟩:=dW 30 dx o1
 obtain⟨l2,p2⟩:=dW 30 dy o2
 refine PySem.SeqAt.compareEq_shaped r1 r2 ?_ ?_ hu ⟨.bl _,H,I,rfl,q⟩
 ·unfold PySem.SeqAt.shaped;rw[l1,Vg,YX];omega
 ·unfold PySem.SeqAt.shaped;rw[l2,Vg,YX];omega
theorem vh (hu:X.A.units+64<cLine):OpR X (compareOp .NotEq) (tq X.K fun b=>!b):=by
 intro pz s σ H x y v u Q I rx ry h
 obtain⟨dx,dy,h1,h2,o1,o2,q⟩:=h
 obtain⟨a1,r1⟩:=h1.reads I 30 o1 rx
 obtain⟨a2,r2⟩:=h2.reads I 30 o2 ry
 obtain⟨l1,p1⟩:=dW 30 dx o1
 obtain⟨l2,p2⟩:=dW 30 dy o2
 refine PySem.SeqAt.compareNe_shaped r1 r2 ?_ ?_ hu ⟨.bl _,H,I,rfl,q⟩
 ·unfold PySem.SeqAt.shaped;rw[l1,Vg,YX];omega
 ·unfold PySem.SeqAt.shaped;rw[l2,Vg,YX];omega
theorem qW {K:Kq}:jW K (tq K fun b=>b) eqD:=by
 intro P F H x y dx dy d Q hf hp rx ry k
 unfold eqD at hf
 split at hf
 ·rename_i h
  rw[Yx] at h
  cases hf
  exact⟨dx,dy,rx,ry,h.1,h.2,k _ F H (Evo.refl hp) .bl⟩
 ·cases hf
theorem vM {K:Kq}:jW K (tq K fun b=>!b) neD:=by
 intro P F H x y dx dy d Q hf hp rx ry k
 unfold neD at hf
 split at hf
 ·rename_i h
  rw[Yx] at h
  cases hf
  exact⟨dx,dy,rx,ry,h.1,h.2,k _ F H (Evo.refl hp) .bl⟩
 ·cases hf
theorem uK {fa fb:Dd}(hu:X.A.units+64<cLine)(ha:PDN X a fa)(hb:PDN X b fb):PDE X (.Compare a [.Eq] [b] pos) (d2 eqD fa fb):=wp (po hu) qW ha hb (eA _)
theorem lD {fa fb:Dd}(hu:X.A.units+64<cLine)(ha:PDN X a fa)(hb:PDN X b fb):PDT X (.Compare a [.Eq] [b] pos) (asB (d2 eqD fa fb)):=gv (po hu) qW ha hb (eA _)
theorem uC {fa fb:Dd}(hu:X.A.units+64<cLine)(ha:PDN X a fa)(hb:PDN X b fb):PDT X (.Compare a [.NotEq] [b] pos) (asB (d2 neD fa fb)):=gv (vh hu) vM ha hb (eA _)
def dF:D→Option (List D)
 | .lst ds=>some ds
 | .tup ds=>some ds
 | _=>none
end
section
variable {X:Cx} {tg e a b l:Expr} {pos p:Pos}
def aW (f:Dd):DF→Option (List D):=fun ρ=>match f ρ with
 | some (.lst ds)=>some ds
 | _=>none
def cF (f:Dd):DF→Option (List D):=fun ρ=>match f ρ with
 | some (.tup ds)=>some ds
 | _=>none
theorem sd {f:Dd}{ρ:DF}{ds:List D}(h:aW f ρ=some ds):f ρ=some (.lst ds):=by
 unfold aW at h
 split at h
 ·rename_i q;cases h;exact q
 ·cases h
theorem rY {f:Dd}{ρ:DF}{ds:List D}(h:cF f ρ=some ds):f ρ=some (.tup ds):=by
 unfold cF at h
 split at h
 ·rename_i q;cases h;exact q
 ·cases h
theorem jd {K:Kq}{P F:Hp}{a:Addr}{vs:List V}{ds:List D}(h:SqL K F a vs)(r:Reps K F vs ds):qT K P (Itl K a) F ds:=by
 intro F' H' e hp i
 have hv:SqL K H' a vs:=hp.sub.seq (e.seq h)
 refine⟨fun d hd=>?_,fun hl=>⟨vs,hv,by rw[r.length];exact hl⟩⟩
 obtain⟨v,h1,h2⟩:=r.get hd
 refine⟨⟨vs,v,hv,h1⟩,fun x H2 hy=>?_⟩
 obtain⟨rfl,hx⟩:=hy
 have:=hx vs hv
 rw[h1] at this
 cases this
 exact⟨F',Evo.refl hp,h2.same e⟩
theorem rg {K:Kq}{P F:Hp}{a:Addr}{vs:List V}{ds:List D}(h:SqT K F a vs)(r:Reps K F vs ds):qT K P (Itt K a) F ds:=by
 intro F' H' e hp i
 have hv:SqT K H' a vs:=hp.sub.seqT (e.seqT h)
 refine⟨fun d hd=>?_,fun hl=>⟨vs,hv,by rw[r.length];exact hl⟩⟩
 obtain⟨v,h1,h2⟩:=r.get hd
 refine⟨⟨vs,v,hv,h1⟩,fun x H2 hy=>?_⟩
 obtain⟨rfl,hx⟩:=hy
 have:=hx vs hv
 rw[h1] at this
 cases this
 exact⟨F',Evo.refl hp,h2.same e⟩
theorem gk {f:Dd}(h:PDE X l f):PDI X tg l (aW f):=PI.imp (jQ h) fun σ H R=>un7 fun P F ρ ds hf I k=>by
 refine⟨P,F,ρ,_,sd hf,I,fun v F' H' ev rv=>?_⟩
 cases rv with
 | lst h1 h2=>exact⟨_,rfl,⟨_,ev.hp.sub.seq h1⟩,k _ F' H' ev (jd h1 h2)⟩
theorem nU {f:Dd}(h:PDE X l f):PDI X tg l (cF f):=PI.imp (wE h) fun σ H R=>un7 fun P F ρ ds hf I k=>by
 refine⟨P,F,ρ,_,rY hf,I,fun v F' H' ev rv=>?_⟩
 cases rv with
 | tup h1 h2=>exact⟨_,rfl,⟨_,SqT.of (ev.hp.sub _ _ h1)⟩,k _ F' H' ev (rg (SqT.of h1) h2)⟩
def cY (i:Nat):DF→Option (List D):=fun ρ=>match ρ[i]? with
 | some (some (.bor (.lst ds)))=>some ds
 | some (some (.v (.lst ds)))=>some ds
 | _=>none
theorem qF {K:Kq}{P F:Hp}{a:Addr}{vs:List V}{ds:List D}(h:P a=some (.lst vs))(r:Reps K F vs ds):qT K P (Itl K a) F ds:=by
 intro F' H' e hp i
 have hv:SqL K H' a vs:=SqL.of (hp.pro _ _ h)
 refine⟨fun d hd=>?_,fun hl=>⟨vs,hv,by rw[r.length];exact hl⟩⟩
 obtain⟨v,h1,h2⟩:=r.get hd
 refine⟨⟨vs,v,hv,h1⟩,fun x H2 hy=>?_⟩
 obtain⟨rfl,hx⟩:=hy
 have:=hx vs hv
 rw[h1] at this
 cases this
 exact⟨F',Evo.refl hp,h2.same e⟩
theorem gu (i:Nat)(h:PE X l (cL i)):PDI X tg l (cY i):=PI.imp (jQ h) fun σ H R=>un7 fun P F ρ ds hf I k=>by
 unfold cY at hf
 split at hf
 ·rename_i ds' q
  cases hf
  obtain⟨v,h1,a,rfl,_,u,h3,h4⟩:=I.at q
  cases u with
  | lst vs=>exact⟨_,h1,a,rfl,⟨vs,SqL.of (I.pro _ _ h3)⟩,k _ F H (Evo.refl I.toDHp) (qF h3 h4)⟩
  | _=>exact h4.elim
 ·rename_i ds' q
  cases hf
  obtain⟨v,h1,h2⟩:=I.at q
  cases h2 with
  | lst h3 h4=>exact⟨_,h1,_,rfl,⟨_,I.sub.seq h3⟩,k _ F H (Evo.refl I.toDHp) (jd h3 h4)⟩
 ·cases hf
def bW (lo:Int)(n:Nat):List D:=(List.range n).map fun i:Nat=>.int (lo+(i:Int))
theorem mR {lo:Int}{n i:Nat}{d:D}(h:(bW lo n)[i]?=some d):i<n∧d=.int (lo+(i:Int)):=by
 unfold bW at h
 rw[YE] at h
 by_cases hi:i<n
 ·rw[XV hi,YY] at h
  cases h
  exact⟨hi,rfl⟩
 ·rw[Zx (by rw[Zv];omega)] at h
  cases h
theorem nk (lo:Int)(n:Nat):(bW lo n).length=n:=by unfold bW;rw[Yf,Zv]
theorem mw {K:Kq}{P F:Hp}(lo:Int)(n:Nat):qT K P (Itr lo n) F (bW lo n):=by
 intro F' H' e hp i
 refine⟨fun d hd=>?_,fun hl=>by rw[nk] at hl;exact hl⟩
 obtain⟨hi,rfl⟩:=mR hd
 refine⟨hi,fun x H2 hy=>?_⟩
 obtain⟨rfl,rfl⟩:=hy
 exact⟨F',Evo.refl hp,.int⟩
def iF (f:Dd):DF→Option (List D):=fun ρ=>match f ρ with
 | some (.int j)=>if -(2 ^ 62)≤j∧j<2 ^ 62 then some (bW 0 j.toNat) else none
 | _=>none
theorem eE {f:Dd}(hg:Gl X "range")(hm:X.mg "range"=none)(ha:PDR X a f)(hs:starEach [a] X.env=[(false,eval a X.env)]:=by rfl):PDI X tg (.Call (.Name "range" p) [a] [] pos) (iF f):=
 PI.imp (oE hg hm (ap ha aL hs) hs) fun σ H R=>un7 fun P F ρ ds hf I k=>by
  unfold iF at hf
  split at hf
  ·rename_i j q
   split at hf
   ·rename_i hj
    cases hf
    refine⟨P,F,ρ,_,q,I,fun v F1 H1 e1 r1=>⟨j,by rw[bN r1],hj.1,hj.2,k _ F1 H1 e1 (mw 0 _)⟩⟩
   ·cases hf
  ·cases hf
def nv:List Nat→List D→DF→Option DF
 | [],[],ρ=>some ρ
 | i::is,d::ds,ρ=>nv is ds (ρ.set i (some (.v d)))
 | _,_,_=>none
def mW (is:List Nat)(d:D)(ρ:DF):Option DF:=match d with
 | .tup ds=>nv is ds ρ
 | _=>none
def nn:List Nat→TGs
 | []=>yi
 | i::is=>uB (fP i) (nn is)
theorem jm {K:Kq}{P F H:Hp}{Q:St→Hp→Prop}:∀ (is:List Nat) (vs:List V) (ds:List D) (ρ ρ':DF) (σ:St),Reps K F vs ds→nv is ds ρ=some ρ'→DInv K P F H ρ σ→
  (∀ σ',DInv K P F H ρ' σ'→σ'.length=σ.length→(∀ j,j∉is→σ'[j]?=σ[j]?)→Q σ' H)→nn is vs σ H Q
 | [],vs,ds,ρ,ρ',σ,r,hs,I,k=>by
  cases r with
  | nil=>cases hs;exact⟨rfl,k σ I rfl fun _ _=>rfl⟩
  | cons _ _=>cases hs
 | i::is,vs,ds,ρ,ρ',σ,r,hs,I,k=>by
  cases r with
  | nil=>cases hs
  | cons h q=>
   refine⟨_,_,rfl,jm is _ _ _ ρ' _ q hs (I.setV i h) fun σ' I' hl hj=>k σ' I' (by rw[hl,YI]) fun j hn=>?_⟩
   rw[hj j (fun z=>hn (Yb _ z)),YG (fun z=>hn (by rw[z];exact Yc))]
theorem ji:∀ (is:List Nat) (ds:List D) (ρ ρ':DF),nv is ds ρ=some ρ'→ds.length=is.length
 | [],[],_,_,_=>rfl
 | [],_::_,_,_,h=>by cases h
 | _::_,[],_,_,h=>by cases h
 | i::is,d::ds,ρ,ρ',h=>by rw[Yw,Yw,ji is ds _ _ h]
theorem sZ {es:List Expr}{k:Nat}{is:List Nat}(hc:X.calm=true)(h:PGs X es (nn is))(hn:(assignEach es X.env).length=is.length:=by rfl)(hst:(assignEach es X.env).findIdx? (·.1)=none:=by rfl):PDG X (.Tuple es k pos) is (mW is):=
 PG.imp (u4 (n:=is.length) hc h hn hst) fun v σ H Q hh_=>by
  obtain⟨P,F,ρ,d,ρ',hs,I,r,kk⟩:=hh_
  cases d with
  | tup ds=>
   cases r with
   | tup h1 h2=>
    exact⟨_,_,rfl,SqT.of (I.sub _ _ h1),by rw[h2.length];exact ji is ds ρ ρ' hs,jm is _ ds ρ ρ' σ h2 hs I fun σ' I' hl hj=>kk σ' F H (Evo.refl I.toDHp) I' hl hj⟩
  | _=>cases hs
def xT (is:List Nat)(f:Dd):DF→Option RES:=fun ρ=>(f ρ).bind fun d=>(mW is d ρ).map .nx
end
theorem DInv.mut {K:Kq}{P F H:Hp}{ρ:DF}{σ:St}(I:DInv K P F H ρ σ){i:Nat}{o o':OD}{t:Option Addr}{a:Addr}{u:HO}(h:ρ[i]?=some (some (.own o t)))(hf:o.flat=true)(hf':o'.flat=true)(hs:σ[i]?=some (some (.ref a)))(hr:ORep1 K F o' u) :
  DInv K P F (upd H a u) (ρ.set i (some (.own o' t))) σ:=by
 obtain⟨O,hR⟩:=I.rep
 obtain⟨v,h1,b,rfl,h2,ht⟩:=hR i _ h
 rw[hs] at h1;cases h1
 obtain⟨⟨q1,q2,q3⟩,u',q4,_⟩:=(ORep.flat hf).mp h2
 refine⟨⟨fun c w e=>by rw[ag (ax e q1)];exact I.sub c w e,fun c w e=>by rw[ag (ax e q2)];exact I.pro c w e,I.dis⟩,by rw[YI];exact I.len,O,fun j z hj=>?_⟩
 rcases dQ hj with⟨rfl,e,hl⟩ | ⟨hij,hj'⟩
 ·cases e
  exact⟨_,hs,a,rfl,(ORep.flat hf').mpr ⟨⟨q1,q2,q3⟩,u,ak,hr⟩,ht⟩
 ·obtain⟨w,e1,e2⟩:=hR j z hj'
  refine⟨w,e1,?_⟩
  cases z with
  | v d'=>exact e2
  | own od t'=>(obtain⟨c,rfl,e3,ht'⟩:=e2;exact⟨c,rfl,e3.mono (Same.refl _) fun b w' q hb=>⟨by rw[ag (fun z=>by subst z;rw[q.2.2] at q3;exact hij (YH q3).symm)];exact hb,q⟩,ht'⟩)
  | bor od=>exact e2
section
variable {X:Cx} {o e:Expr} {pos apos cpos:Pos}
def kq (i:Nat)(f:Dd):DF→Option RES:=fun ρ=>match ρ[i]? with
 | some (some (.own (.lst ds) t))=>(f ρ).bind fun d=>if ds.length<16777216 then some (.nx (ρ.set i (some (.own (.lst (ds++[d])) t)))) else none
 | _=>none
theorem eD {K:Kq}{P F H:Hp}{ρ:DF}{σ:St}(I:DInv K P F H ρ σ){i:Nat}{ds:List D}{t:Option Addr}(q:ρ[i]?=some (some (.own (.lst ds) t))):∃ a vs,σ[i]?=some (some (.ref a))∧F a=none∧P a=none∧H a=some (.lst vs)∧Reps K F vs ds:=by
 obtain⟨v,h1,a,rfl,⟨⟨q1,q2,_⟩,u,q3,q4⟩,_⟩:=I.at q
 cases u with
 | lst vs=>exact⟨a,vs,h1,q1,q2,q3,q4⟩
 | _=>exact q4.elim
theorem iK (i:Nat){f:Dd}(h:PE X o (cL i))(ha:PDE X e f)(hbase:attributeBase o "append" X.env (eval o X.env)=eval o X.env:=by rfl)
  (hfew:((backTo cpos (starEach [e] X.env)).all (fun x=>!x.1)&&(backToKw cpos (keywordEach [] X.env)).all (fun x=>x.1.isSome)
   && decide (([e]:List Expr).length+([]:List Keyword).length+(if ([]:List Keyword).isEmpty then 0 else 1)<30))=true:=by rfl)
  (hline:(apos.endLine == cpos.line)=true:=by rfl) (hs:starEach [e] X.env=[(false,eval e X.env)]:=by rfl) (hsw:swapsWith (.Call (.Attribute o "append" apos) [e] [] cpos) none pos.line X.env=pure false:=by rfl) :
  PD1 X (.Expr (.Call (.Attribute o "append" apos) [e] [] cpos) pos) (kq i f):=
 PS.imp (gt (nB Zr Xp Xq dZ h (ap ha aL hs) hbase hfew hline hs rfl) hsw) fun E σ H=>un7 fun P F ρ r hr I k=>by
  unfold kq at hr
  split at hr
  ·rename_i ds t q
   cases q2:f ρ with
   | none=>rw[q2] at hr;cases hr
   | some d=>
    rw[q2,Ya] at hr
    split at hr
    ·rename_i hl
     cases hr
     obtain⟨a,vs,h1,h2,h3,h4,h5⟩:=eD I q
     refine⟨_,h1,.inl ⟨rfl,vs,SqL.of h4⟩,P,F,ρ,d,q2,I,fun v F1 H1 e1 r1=>?_⟩
     obtain⟨k1,k2⟩:=e1.keep a _ h4 h2
     have I1:=I.evo e1
     refine⟨a,vs,v,rfl,rfl,k1,by rw[YS,h5.length];exact hl,k σ F1 _ e1.ext ?_⟩
     exact I1.mut (o':=.lst _) (u:=.lst _) q rfl rfl h1 ((h5.same e1.ext).append (.one r1))
    ·cases hr
  ·cases hr
def df (i:Nat)(f g:Dd):DF→Option RES:=fun ρ=>match ρ[i]? with
 | some (some (.own (.lst ds) t))=>(g ρ).bind fun d=>(f ρ).bind fun
  | .int k=>(ixN ds.length k).map fun j=>.nx (ρ.set i (some (.own (.lst (ds.set j d)) t)))
  | _=>none
 | _=>none
theorem im (i:Nat){ix:Expr}{f g:Dd}(h:PE X o (cL i))(hf:PDE X ix f)(hg:PDE X e g)
  (ha:∀ v,assign (.Subscript o ix apos) X.env v=(do
   let ov ← holding [v] (eval o X.env)
   let iv ← holding [v,ov] (eval ix X.env)
   standAt apos
   holding [v,ov,iv] (setItem ov iv v)
   release [v,ov,iv] []):=by intro _;rfl) (hs:swapsWithSole [.Subscript o ix apos] e pos.line X.env=pure false:=by rfl) (hw:swappedStores [.Subscript o ix apos] e X.env=pure none:=by rfl)
  (h1:(assignEach [.Subscript o ix apos] X.env).map (·.2)=[assign (.Subscript o ix apos) X.env]:=by rfl) :
  PD1 X (.Assign [.Subscript o ix apos] e pos) (df i f g):=
 PS.imp (wc hg (wA h hf qK ha) hs hw h1) fun E σ H=>un7 fun P F ρ r hr I k=>by
  unfold df at hr
  split at hr
  ·rename_i ds t q
   cases q2:g ρ with
   | none=>rw[q2] at hr;cases hr
   | some d=>
    rw[q2,Ya] at hr
    cases q3:f ρ with
    | none=>rw[q3] at hr;cases hr
    | some dk=>
     rw[q3,Ya] at hr
     cases dk with
     | int kk=>
      dsimp only at hr
      cases q4:ixN ds.length kk with
      | none=>rw[q4] at hr;cases hr
      | some j=>
       rw[q4] at hr
       cases hr
       obtain⟨a,vs,h1,h2,h3,h4,h5⟩:=eD I q
       refine⟨P,F,ρ,d,q2,I,fun v F1 H1 e1 r1=>⟨_,h1,P,F1,ρ,_,q3,I.evo e1,fun w F2 H2 e2 r2=>?_⟩⟩
       cases r2
       have e12:=e1.trans e2
       obtain⟨k1,k2⟩:=e12.keep a _ h4 h2
       refine⟨a,vs,kk,j,rfl,rfl,k1,by rw[h5.length];exact q4,k σ F2 _ e12.ext ?_⟩
       exact (I.evo e12).mut (o':=.lst _) (u:=.lst _) q rfl rfl h1 ((h5.same e12.ext).set (r1.same e2.ext) j)
     | _=>cases hr
  ·cases hr
end
mutual
def ltD:D→D→Bool
 | .int i,.int j=>decide (i<j)
 | .bl a,.bl b=>!a&&b
 | .str x,.str y=>decide (x.cps.toList<y.cps.toList)
 | .tup xs,.tup ys=>aA xs ys
 | _,_=>false
def aA:List D→List D→Bool
 | [],[]=>false
 | [],_::_=>true
 | _::_,[]=>false
 | x::xs,y::ys=>if eqd x y=true then aA xs ys else ltD x y
end
mutual
def ah:D→D→Bool
 | .int _,.int _=>true
 | .bl _,.bl _=>true
 | .str _,.str _=>true
 | .tup xs,.tup ys=>aI xs ys
 | _,_=>false
def aI:List D→List D→Bool
 | x::xs,y::ys=>ah x y&&aI xs ys
 | _,_=>true
end
def oX (A:Around)(s:Shared)(y x:Value)(b:Bool):Prop:=
 ∀ (prog:Program) (w:World) (E:Kv) (Q:Kv),Q (.bool b) s→wpAny (model prog w) A (richCompare .Lt y x) Q E s
inductive LexOk (A:Around) (s:Shared):List Value→List Value→List D→List D→Prop
 | nl {ws:List Value} {es:List D}:ws.length=es.length→LexOk A s [] ws [] es
 | nr {vs:List Value} {ds:List D}:vs.length=ds.length→LexOk A s vs [] ds []
 | cons {v w:Value} {d e:D} {vs ws:List Value} {ds es:List D}:SeqAt.EqAt A s v w (eqd d e)→(eqd d e=false→oX A s v w (ltD d e))→LexOk A s vs ws ds es→LexOk A s (v::vs) (w::ws) (d::ds) (e::es)
theorem LexOk.len {A:Around}{s:Shared}{vs ws:List Value}{ds es:List D}(h:LexOk A s vs ws ds es):vs.length=ds.length∧ws.length=es.length:=by
 induction h with
 | nl h=>exact⟨rfl,h⟩
 | nr h=>exact⟨h,rfl⟩
 | cons _ _ _ ih=>exact⟨Zz Nat.succ ih.1,Zz Nat.succ ih.2⟩
section
open PySem.SeqAt
open PySem.AutoSeq1 (wpAny_loadPart')
open PySem.MeetsSeq PySem.MeetsSeq2 PySem.MeetsSeq3
theorem jY (l b:Addr)(items cx:Array Value)(n n2:Nat)(dd dd2:Option Addr)(sl sl2:Array (Option Value))(ds es:List D) :
  Meets (Builtin.«tuple.__lt__» ⟨[.ref l,.ref b],[]⟩)
   (fun A R s=>LexOk A.in1 s items.toList cx.toList ds es∧s.heap.get? l=some { cls:=.type "tuple",dict:=dd,data:=.seq items n,slots:=sl }∧s.heap.get? b=some { cls:=.type "tuple",dict:=dd2,data:=.seq cx n2,slots:=sl2 } ∧
    R (.ok (.ret (.bool (aA ds es)))) s):=
 .of_wp fun prog w A R s h=>by
  obtain⟨hp,g,d,tk,os⟩:=s;obtain⟨hlex,hl,hb,h⟩:=h
  have f2:=AutoSeq1.sub_tuple_tuple
  have z1:items.size=ds.length:=by rw[← hlex.len.1];simp
  have z2:cx.size=es.length:=by rw[← hlex.len.2];simp
  wp_walk using YU hl,YU hb,wpAny_forIn_list _ (fun aN b s'=>b.1=none∧s'=⟨hp,g,d,tk,os⟩∧∃ (vs ws:List Value) (ds' es':List D),aN=vs.zip ws ∧
   LexOk A.in1 ⟨hp,g,d,tk,os⟩ vs ws ds' es'∧ds'.length+cx.size=es'.length+items.size∧R (.ok (.ret (.bool (aA ds' es')))) ⟨hp,g,d,tk,os⟩) _
  case turn=>
   rintro⟨y,x⟩ aN b s' ⟨hb',rfl,vs,ws,ds',es',hz,hx,hlen,hR⟩
   cases hx with
   | nl _=>rw[List.zip_nil_left] at hz;cases hz
   | nr _=>rw[List.zip_nil_right] at hz;cases hz
   | @cons v w' dd' ee' vs' ws' ds'' es'' he hlt hx'=>
    rw[XZ] at hz
    injection hz with hyx hrest
    injection hyx with hy hxx
    subst hy hxx
    simp only[Yw] at hlen
    refine Yj (he prog w _ _ ?_)
    cases q:eqd dd' ee' with
    | true=>
     have hR':R (.ok (.ret (.bool (aA ds'' es'')))) ⟨hp,g,d,tk,os⟩:=by
      rw[aA,Yk q] at hR;exact hR
     wp_walk
     exact⟨rfl,rfl,_,_,_,_,hrest,hx',by omega,hR'⟩
    | false=>
     have hR':R (.ok (.ret (.bool (ltD dd' ee')))) ⟨hp,g,d,tk,os⟩:=by
      rw[aA,Ym (by rw[q];exact Yg)] at hR;exact hR
     have hri:=hlt q prog w
     wp_walk using hri
     exact⟨_,rfl,by simpa using hR'⟩
  case fin=>
   rintro⟨b1,b2⟩ s' ⟨hb',rfl,vs,ws,ds',es',hz,hx,hlen,hR⟩
   simp only at hb'
   subst hb'
   have hv:aA ds' es'=decide (items.size<cx.size):=by
    cases hx with
    | nl hw=>
     cases es' with
     | nil=>
      simp only[YR] at hlen
      rw[show aA [] []=false by simp[aA]]
      exact (Yz (by omega)).symm
     | cons c u=>
      simp only[YR,Yw] at hlen
      rw[show aA [] (c::u)=true by simp[aA]]
      exact (YK (by omega)).symm
    | nr hw=>
     cases ds' with
     | nil=>
      simp only[YR] at hlen
      rw[show aA [] []=false by simp[aA]]
      exact (Yz (by omega)).symm
     | cons c u=>
      simp only[YR,Yw] at hlen
      rw[show aA (c::u) []=false by simp[aA]]
      exact (Yz (by omega)).symm
    | cons _ _ _=>
     rw[XZ] at hz
     cases hz
   rw[hv] at hR
   wp_walk
   exact⟨_,rfl,by simpa[Builtin.Tuple.tupleCompareSizes] using hR⟩
  case h=>
   exact⟨rfl,rfl,items.toList,cx.toList,ds,es,rfl,hlex,by omega,h⟩
end
theorem oN {A:Around}{s:Shared}{l b:Addr}{items cx:Array Value}{ds es:List D}(hl:IsTup s.heap l items)(hb:IsTup s.heap b cx)(hx:LexOk A.in1 s items.toList cx.toList ds es)(hu:A.units<cLine) :
  oX A s (.ref l) (.ref b) (aA ds es):=by
 intro prog w E Q h
 obtain⟨⟨cls,dd,data,sl⟩,ho,hc,n,hd⟩:=id hl
 obtain⟨⟨cls2,dd2,data2,sl2⟩,ho2,hc2,n2,hd2⟩:=id hb
 simp only at hc hd hc2 hd2
 subst hc hd hc2 hd2
 exact richCompare_meets_room (op:=.Lt) ⟨_,ho,rfl⟩ ⟨_,ho2,rfl⟩ PySem.F.slot_tuple_lt PySem.F.entry_tuple_lt (PySem.F.args_tuple_lt_2 _ _) (jY l b items cx n n2 dd dd2 sl sl2 ds es)
  ⟨hx,ho,ho2,show Value.bool (aA ds es)≠Value.notImplemented∧Q (.bool (aA ds es)) s from ⟨(fun x=>nomatch x),h⟩⟩ hu
section
variable {X:Cx} {pz:Kp} {σ:St} {H:Hp} {s:Shared}
def eX:D→Bool
 | .tup _=>true
 | _=>false
theorem Rep.ltS (A:Around){x y:V}{d e:D}{u w:Value}(h1:Rep X.K H x d)(h2:Rep X.K H y e)(c:ah d e=true)(hd:eX d=false)(r1:RelV x u)(r2:RelV y w):oX A s u w (ltD d e):=by
 cases d with
 | int i=>
  cases e with
  | int j=>
   cases h1;cases h2
   obtain⟨t,rfl⟩:=(show ∃ t,u=Value.int _ t from r1)
   obtain⟨t',rfl⟩:=(show ∃ t,w=Value.int _ t from r2)
   intro prog w' E Q h
   exact HT.rcLt_int A s _ _ _ _ prog w' E Q (by rw[ltD] at h;exact h)
  | _=>exact absurd c Yg
 | bl b1=>
  cases e with
  | bl b2=>
   cases h1;cases h2
   cases (show u=Value.bool _ from r1)
   cases (show w=Value.bool _ from r2)
   intro prog w' E Q h
   exact (PyProof.Rows.lt_bool (by cases b1 <;> cases b2 <;> (rw[ltD] at h;exact h)):wpAny (model prog w') A (compareOp .Lt (.bool b1) (.bool b2)) Q E s)
  | _=>exact absurd c Yg
 | str x1=>
  cases e with
  | str x2=>
   cases h1;cases h2
   obtain⟨t,rfl⟩:=(show ∃ t,u=Value.str _ t from r1)
   obtain⟨t',rfl⟩:=(show ∃ t,w=Value.str _ t from r2)
   intro prog w' E Q h
   exact (PyProof.Rows.lt_str (by rw[ltD] at h;exact h):wpAny (model prog w') A (compareOp .Lt (.str x1 t) (.str x2 t')) Q E s)
  | _=>exact absurd c Yg
 | tup xs=>cases hd
 | _=>exact absurd c Yg
theorem Reps.lex (I:Inv X pz σ H s)(n:Nat)(A:Around)(hu:A.units+n+2<cLine)
  (ih:∀ {x y:V} {d e:D} {u w:Value},Rep X.K H x d→Rep X.K H y e→okN n d=true→okN n e=true→ah d e=true→RelV x u→RelV y w→oX A s u w (ltD d e)) :
  ∀ {xs ys:List V} {ds es:List D} {us ws:List Value},Reps X.K H xs ds→Reps X.K H ys es→(∀ d∈ds,okN n d=true)→(∀ d∈es,okN n d=true)→aI ds es=true→Vals xs us→Vals ys ws→LexOk A s us ws ds es:=by
 intro xs ys ds
 induction ds generalizing xs ys with
 | nil=>
  intro es us ws q1 q2 _ _ _ r1 r2
  cases q1;cases r1
  exact .nl (by rw[← r2.length,q2.length])
 | cons d ds ihd=>
  intro es us ws q1 q2 o1 o2 c r1 r2
  cases es with
  | nil=>
   cases q2;cases r2
   exact .nr (by rw[← r1.length,q1.length])
  | cons e es=>
   cases q1 with
   | cons h q=>
    cases q2 with
    | cons h' q'=>
     cases r1 with
     | cons r t=>
      cases r2 with
      | cons r' t'=>
       rw[aI,Yx] at c
       have a1:=o1 _ Yc
       have a2:=o2 _ Yc
       obtain⟨x1,p1⟩:=h.reads I n a1 r
       obtain⟨x2,p2⟩:=h'.reads I n a2 r'
       obtain⟨l1,m1⟩:=dW n _ a1
       obtain⟨l2,m2⟩:=dW n _ a2
       refine .cons (PySem.SeqAt.eqAt_reads _ _ A s _ _ _ _ p1 p2 l1 l2 ?_) (fun _=>ih h h' a1 a2 c.1 r r') (ihd q q' (fun d hd=>o1 d (Yb _ hd)) (fun d hd=>o2 d (Yb _ hd)) c.2 t t')
       have:min (bG d).depth (bG e).depth≤n+1:=ZH (Nat.min_le_left _ _) m1
       omega
theorem Rep.lt (I:Inv X pz σ H s):∀ (n:Nat) (A:Around),A.units+n+2<cLine→∀ {x y:V} {d e:D} {u w:Value},Rep X.K H x d→Rep X.K H y e→okN n d=true→okN n e=true→ah d e=true→RelV x u→RelV y w→oX A s u w (ltD d e):=by
 intro n
 induction n with
 | zero=>
  intro A hu x y d e u w h1 h2 o1 o2 c r1 r2
  refine h1.ltS A h2 c ?_ r1 r2
  cases d <;> first | rfl | (simp[okN] at o1)
 | succ n ihn=>
  intro A hu x y d e u w h1 h2 o1 o2 c r1 r2
  cases hd:eX d with
  | false=>exact h1.ltS A h2 c hd r1 r2
  | true=>
   cases d with
   | tup ds=>
    cases e with
    | tup es=>
     cases h1 with
     | tup h1 q1=>
      cases h2 with
      | tup h2 q2=>
       cases (show u=Value.ref _ from r1)
       cases (show w=Value.ref _ from r2)
       obtain⟨its1,rv1,ht1,_⟩:=I.tuple (SqT.of h1)
       obtain⟨its2,rv2,ht2,_⟩:=I.tuple (SqT.of h2)
       rw[ltD]
       have hu':A.in1.units+n+2<cLine:=by show A.units+1+n+2<cLine;omega
       exact oN ht1 ht2 (Reps.lex I n A.in1 hu' (ihn A.in1 hu') q1 q2 (bw o1) (bw o2) (by rw[ah] at c;exact c) rv1 rv2) (by omega)
    | _=>exact absurd c Yg
   | _=>cases hd
end
def ltd (x y:D):Option D:=if (okN 30 x&&okN 30 y&&ah x y)=true then some (.bl (ltD x y)) else none
def xL (K:Kq):R2:=fun x y H Q=>∃ dx dy,Rep K H x dx∧Rep K H y dy∧okN 30 dx=true∧okN 30 dy=true∧ah dx dy=true∧Q (.bl (ltD dx dy)) H
section
variable {X:Cx} {a b:Expr} {pos:Pos}
theorem vp (hu:X.A.units+64<cLine):OpR X (compareOp .Lt) (xL X.K):=by
 intro pz s σ H x y v u Q I rx ry h
 obtain⟨dx,dy,h1,h2,o1,o2,c,q⟩:=h
 exact Rep.lt I 30 X.A (by omega) h1 h2 o1 o2 c rx ry X.prog X.w X.xe _ ⟨.bl _,H,I,rfl,q⟩
theorem v9 {K:Kq}:jW K (xL K) ltd:=by
 intro P F H x y dx dy d Q hf hp rx ry k
 unfold ltd at hf
 split at hf
 ·rename_i h
  rw[Yx,Yx] at h
  cases hf
  exact⟨dx,dy,rx,ry,h.1.1,h.1.2,h.2,k _ F H (Evo.refl hp) .bl⟩
 ·cases hf
theorem mo {fa fb:Dd}(hu:X.A.units+64<cLine)(ha:PDN X a fa)(hb:PDN X b fb):PDT X (.Compare a [.Lt] [b] pos) (asB (d2 ltd fa fb)):=gv (vp hu) v9 ha hb (eA _)
end
end L2
namespace L2
open PySem PySem.Spec PyProof.Rows PySem.W
structure Ord (lt:Nat→Nat→Bool):Prop where
 asym:∀ i j,lt i j=true→lt j i=false
 trans:∀ i j k,lt j i=false→lt k j=false→lt k i=false
section
variable {n:Nat} {lt:Nat→Nat→Bool}
structure PermN (n:Nat) (p:Array Nat):Prop where
 size:p.size=n
 perm:p.toList.Perm (List.range n)
theorem PermN.bd {p:Array Nat}(h:PermN n p){i:Nat}(hi:i<n):p.getD i 0<n:=by
 have hs:i<p.size:=by rw[h.size];exact hi
 have e:p.getD i 0=p[i]:=by simp[Array.getD,hs]
 rw[e]
 have hm:p[i]∈p.toList:=by simp
 exact ZC.mp (h.perm.mem_iff.mp hm)
theorem PermN.rev {p:Array Nat}(h:PermN n p)(i j:Nat):PermN n (kas_rev p i j):=
 ⟨by unfold kas_rev;rw[mirror_size,h.size],((Array.perm_iff_toList_perm.mp (mirror_perm _ _ _ _)).trans h.perm)⟩
theorem PermN.bub {p:Array Nat}(h:PermN n p)(i j:Nat):PermN n (bubble p i j):=
 ⟨by rw[bubble_size,h.size],((Array.perm_iff_toList_perm.mp (bubble_perm _ _ _)).trans h.perm)⟩
theorem e9 {p q:Array Nat}{i j:Nat}(h:p[i]?=q[j]?):p.getD i 0=q.getD j 0:=by
 simp only[Array.getD_eq_getD_getElem?,h]
theorem bJ {p:Array Nat}(h:PermN n p){i j:Nat}(hj:j≤n)(k:Nat):(kas_rev p i j).getD k 0=if i≤k∧k<j then p.getD (i+j-1-k) 0 else p.getD k 0:=by
 have e:=getElem?_mirror_all (xs:=p) (i:=i) (j:=j) (by rw[h.size];exact hj) k
 unfold kas_rev
 split
 ·rename_i q;rw[Yk q] at e;exact e9 e
 ·rename_i q;rw[Ym q] at e;exact e9 e
def Ris (lt:Nat→Nat→Bool)(p:Array Nat)(b:Nat):Prop:=∀ i j,i≤j→j<b→lt (p.getD j 0) (p.getD i 0)=false
def Eqs (lt:Nat→Nat→Bool)(p:Array Nat)(a b:Nat):Prop:=∀ i j,a≤i→i<b→a≤j→j<b→lt (p.getD i 0) (p.getD j 0)=false
theorem Ord.irr (o:Ord lt)(i:Nat):lt i i=false:=by
 cases q:lt i i with
 | false=>rfl
 | true=>have:=o.asym i i q;rw[q] at this;cases this
theorem mH {a b i:Nat}(h:a≤i∧i<b):a≤a+b-1-i∧a+b-1-i<b:=by omega
theorem jU (o:Ord lt)(p':Array Nat)(k:Nat):Eqs lt p' (k+1-(0+1)) (k+1):=by
 intro i j a1 a2 a3 a4
 have e1:i=k:=Nat.le_antisymm (Vc a2) a1
 have e2:j=k:=Nat.le_antisymm (Vc a4) a3
 subst e1
 subst e2
 exact o.irr _
theorem rR (o:Ord lt){p:Array Nat}{k q:Nat}(hb:k-(q+1)≤k-1∧k-1<k)(he:Eqs lt p (k-(q+1)) k)(c:lt (p.getD k 0) (p.getD (k-1) 0)=false)(d:lt (p.getD (k-1) 0) (p.getD k 0)=false):Eqs lt p (k+1-(q+1+1)) (k+1):=by
 have e1:∀ i,k+1-(q+1+1)≤i→i<k+1→lt (p.getD i 0) (p.getD k 0)=false∧lt (p.getD k 0) (p.getD i 0)=false:=fun i b1 b2=>by
  rw[Nat.add_sub_add_right] at b1
  by_cases hik:i=k
  ·subst hik;exact⟨o.irr _,o.irr _⟩
  ·have il:i<k:=Nat.lt_of_le_of_ne (Vc b2) hik
   exact⟨o.trans _ _ _ d (he i (k-1) b1 il hb.1 hb.2),o.trans _ _ _ (he (k-1) i hb.1 hb.2 b1 il) c⟩
 exact fun i j a1 a2 a3 a4=>o.trans _ _ _ (e1 j a3 a4).2 (e1 i a1 a2).1
theorem kf {p:Array Nat}(hp:PermN n p){k l:Nat}(hk:k<n)(hl:l≤k)(i:Nat):(bubble p k (k-l)).getD i 0=if i=l then p.getD k 0 else if l<i∧i≤k then p.getD (i-1) 0 else p.getD i 0:=by
 have e:=getElem?_bubble (xs:=p) (src:=k) (by rw[hp.size];exact hk) (k-l) (Nat.sub_le _ _) i
 rw[Nat.sub_sub_self hl] at e
 by_cases h1:i=l
 ·rw[Yk h1] at e ⊢;exact e9 e
 ·rw[Ym h1] at e ⊢
  by_cases h2:l<i∧i≤k
  ·rw[Yk h2] at e ⊢;exact e9 e
  ·rw[Ym h2] at e ⊢;exact e9 e
theorem lQ (n:Nat):PermN n (List.toArray (List.range n)):=⟨by simp,by simp⟩
end
def jL:Bool→Keyed→Array Keyed→Nat→Nat→Nat→StateT SortSt Sem (Option Nat):=sortPriv% PySem.Builtin.gallop
def ls:Array Keyed→Array Keyed→StateT SortSt Sem (Array Keyed):=sortPriv% PySem.Builtin.mergeLo
def kX:Array Keyed→Array Keyed→StateT SortSt Sem (Array Keyed):=sortPriv% PySem.Builtin.mergeHi
section
variable {prog:Program} {w:World} {A:Around} {E:Kv} {s:Shared} {n:Nat} {lt:Nat→Nat→Bool} {κ:SortKind} {it:Array Keyed}
def Cmp (prog:Program)(w:World)(A:Around)(E:Kv)(s:Shared)(n:Nat)(lt:Nat→Nat→Bool)(κ:SortKind)(it:Array Keyed):Prop:=
 ∀ (i j:Nat) (st:SortSt) (Q:Option Bool→SortSt→Prop),i<n→j<n→kindOf st=κ→Q (some (lt i j)) st→wpS (model prog w) A E s (lt' (kas_item it i) (kas_item it j)) Q st
theorem vG (hc:∀ i j C,i<n→j<n→C (lt i j) s→kas_cmp prog w A κ it i j C s):Cmp prog w A E s n lt κ it:=by
 intro i j st Q hi hj hk h
 rw[lt'_eq]
 refine Yl (wpS_get ?_)
 rw[hk]
 refine Yl (wpS_lift (wpAny_attempt (Zn (hc i j (fun b s'=>s'=s∧b=lt i j) hi hj ⟨rfl,rfl⟩) (fun b s' hb=>?_) fun _ _ hF=>hF.elim)))
 obtain⟨rfl,rfl⟩:=hb
 exact⟨rfl,Yq h⟩
theorem h9 {q:Array Nat}{i:Nat}{st:SortSt}{Q:Keyed→SortSt→Prop}(hi:i<q.size)(h:Q (kas_item it (q.getD i 0)) st):wpS (model prog w) A E s (elem' (q.map (kas_item it)) i) Q st:=by
 have e:(q.map (kas_item it))[i]?=some (kas_item it (q.getD i 0)):=by
  have e:q.getD i 0=q[i]:=by simp[Array.getD,hi]
  rw[e]
  simp[hi]
 rw[elem'_eq,e]
 exact Yq h
theorem vo (hC:Cmp prog w A E s n lt κ it){left:Bool}{key:Nat}{q:Array Nat}{base m hint:Nat}{st:SortSt}{Q:Option Nat→SortSt→Prop}(hk:kindOf st=κ)(hkey:key<n)(hq:∀ i,i<m→q.getD (base+i) 0<n)(hz:base+m≤q.size)(hh:hint<m)
  (B:Nat→Bool) (hB:∀ i,i<m→B i=if left=true then lt (q.getD (base+i) 0) key else !lt key (q.getD (base+i) 0)) (mono:∀ i j,i≤j→j<m→B j=true→B i=true)
  (h:∀ k,k≤m→(∀ i,i<k→B i=true)→(∀ i,k≤i→i<m→B i=false)→Q (some k) st):wpS (model prog w) A E s (jL left (kas_item it key) (q.map (kas_item it)) base m hint) Q st:=by
 have hbey:∀ i,i<m→∀ (st:SortSt) (Q:Option Bool→SortSt→Prop),kindOf st=κ→Q (some (B i)) st→wpS (model prog w) A E s (elem' (q.map (kas_item it)) (base+i)>>=fun x=>if left=true then lt' x (kas_item it key) else lt' (kas_item it key) x>>=fun r=>pure (r.map fun b=>!b)) Q st:=fun i hi st Q hk hQ=>by
  refine Yl (h9 (by omega) ?_)
  rw[hB i hi] at hQ
  cases left with
  | true=>
   rw[Yk rfl] at hQ ⊢
   exact hC _ _ _ _ (hq i hi) hkey hk hQ
  | false=>
   rw[Ym Yg] at hQ ⊢
   exact Yl (hC _ _ _ _ hkey (hq i hi) hk (Yq hQ))
 have down:∀ i j,i≤j→j<m→B i=false→B j=false:=fun i j h1 h2 h3=>by
  cases hb:B j with
  | false=>rfl
  | true=>rw[mono i j h1 h2 hb] at h3;cases h3
 unfold jL
 refine Yl (hbey hint hh st _ hk ?_)
 dsimp only
 cases hb:B hint with
 | true=>
  rw[Yk rfl]
  refine Yl (ZJ (Zg (I:=fun x (c:Option (Option Nat)×Nat×Nat) st'=>st=st'∧c.1=none∧x+1≤c.2.2∧c.2.1<c.2.2∧(c.2.1<m-hint)∧B (hint+c.2.1)=true) (Q:=fun (c:Option (Option Nat)×Nat×Nat) st'=>st=st'∧c.1=none∧c.2.1<c.2.2∧(c.2.1<m-hint)∧B (hint+c.2.1)=true∧(c.2.2<m-hint→B (hint+c.2.2)=false)) ?_ (fun c st' z=>⟨z.1,z.2.1,z.2.2.2.1,z.2.2.2.2.1,z.2.2.2.2.2,fun y=>by have:=z.2.2.1;omega⟩) ⟨rfl,rfl,by decide,by decide,by dsimp only;omega,hb⟩) ?_)
  ·rintro x ⟨c0,la,of⟩ st' _ hx ⟨rfl,rfl,h1,h2,h3,h4⟩
   dsimp only at h1 h2 h3 h4 ⊢
   by_cases hl:of ≥ m-hint
   ·rw[Yk hl]
    exact Yq ⟨rfl,rfl,h2,h3,h4,fun y=>by dsimp only at y;omega⟩
   ·rw[Ym hl]
    refine Yl (hbey (hint+of) (by omega) _ _ hk ?_)
    dsimp only
    cases hb':B (hint+of) with
    | true=>
     rw[Ym (by decide)]
     exact Yq ⟨rfl,rfl,by dsimp only;omega,by dsimp only;omega,by dsimp only;omega,hb'⟩
    | false=>
     rw[Yk (by decide)]
     exact Yq ⟨rfl,rfl,h2,h3,h4,fun _=>hb'⟩
  ·rintro⟨c0,la,of⟩ st' ⟨rfl,rfl,h1,h2,h3,h4⟩
   dsimp only at h1 h2 h3 h4 ⊢
   have G1:∀ i,i<hint+la+1→B i=true:=fun i hi=>mono i _ (by omega) (by omega) h3
   have G2:∀ i,hint+min of (m-hint)≤i→i<m→B i=false:=fun i h5 h6=>down (hint+of) i (by omega) h6 (h4 (by omega))
   refine Yl (ZJ (Zg (I:=fun x (c:Option (Option Nat)×Nat×Nat) st'=>st=st'∧c.1=none∧c.2.1≤c.2.2∧c.2.2≤m∧c.2.2-c.2.1≤m-x∧(∀ i,i<c.2.1→B i=true)∧(∀ i,c.2.2≤i→i<m→B i=false)) (Q:=fun (c:Option (Option Nat)×Nat×Nat) st'=>st=st'∧c.1=none∧c.2.1=c.2.2∧c.2.2≤m∧(∀ i,i<c.2.1→B i=true)∧(∀ i,c.2.2≤i→i<m→B i=false)) ?_ (fun c st' z=>⟨z.1,z.2.1,by have:=z.2.2.1;have:=z.2.2.2.2.1;omega,z.2.2.2.1,z.2.2.2.2.2⟩) ⟨rfl,rfl,by dsimp only;omega,by dsimp only;omega,by dsimp only;omega,G1,G2⟩) ?_)
   ·rintro x ⟨c0,lo,hi⟩ st' _ hx ⟨rfl,rfl,h1,h2,h3,h4,h5⟩
    dsimp only at h1 h2 h3 h4 h5 ⊢
    by_cases hl:lo ≥ hi
    ·rw[Yk hl]
     exact Yq ⟨rfl,rfl,by dsimp only;omega,h2,h4,h5⟩
    ·rw[Ym hl]
     refine Yl (hbey (lo+(hi-lo)/2) (by omega) _ _ hk ?_)
     dsimp only
     cases hb:B (lo+(hi-lo)/2) with
     | true=>
      rw[Yk rfl]
      exact Yq ⟨rfl,rfl,by dsimp only;omega,h2,by dsimp only;omega,fun i hi'=>mono i _ (by dsimp only at hi';omega) (by omega) hb,h5⟩
     | false=>
      rw[Ym Yg]
      refine Yq ⟨rfl,rfl,by dsimp only;omega,by dsimp only;omega,by dsimp only;omega,h4,fun i h6 h7=>?_⟩
      cases hb':B i with
      | false=>rfl
      | true=>rw[mono _ i h6 h7 hb'] at hb;cases hb
   ·rintro⟨c0,lo,hi⟩ st' ⟨rfl,rfl,h1,h2,h3,h4⟩
    dsimp only at h1 h2 h3 h4 ⊢
    subst h1
    exact Yq (h lo h2 h3 h4)
 | false=>
  rw[Ym Yg]
  refine Yl (ZJ (Zg (I:=fun x (c:Option (Option Nat)×Nat×Nat) st'=>st=st'∧c.1=none∧x+1≤c.2.2∧c.2.1<c.2.2∧(c.2.1<hint+1)∧B (hint-c.2.1)=false) (Q:=fun (c:Option (Option Nat)×Nat×Nat) st'=>st=st'∧c.1=none∧c.2.1<c.2.2∧(c.2.1<hint+1)∧B (hint-c.2.1)=false∧(c.2.2<hint+1→B (hint-c.2.2)=true)) ?_ (fun c st' z=>⟨z.1,z.2.1,z.2.2.2.1,z.2.2.2.2.1,z.2.2.2.2.2,fun y=>by have:=z.2.2.1;omega⟩) ⟨rfl,rfl,by decide,by decide,by dsimp only;omega,hb⟩) ?_)
  ·rintro x ⟨c0,la,of⟩ st' _ hx ⟨rfl,rfl,h1,h2,h3,h4⟩
   dsimp only at h1 h2 h3 h4 ⊢
   by_cases hl:of ≥ hint+1
   ·rw[Yk hl]
    exact Yq ⟨rfl,rfl,h2,h3,h4,fun y=>by dsimp only at y;omega⟩
   ·rw[Ym hl]
    refine Yl (hbey (hint-of) (by omega) _ _ hk ?_)
    dsimp only
    cases hb':B (hint-of) with
    | false=>
     rw[Ym (by decide)]
     exact Yq ⟨rfl,rfl,by dsimp only;omega,by dsimp only;omega,by dsimp only;omega,hb'⟩
    | true=>
     rw[Yk (by decide)]
     exact Yq ⟨rfl,rfl,h2,h3,h4,fun _=>hb'⟩
  ·rintro⟨c0,la,of⟩ st' ⟨rfl,rfl,h1,h2,h3,h4⟩
   dsimp only at h1 h2 h3 h4 ⊢
   have G1:∀ i,i<hint+1-min of (hint+1)→B i=true:=fun i hi=>mono i _ (by omega) (by omega) (h4 (by omega))
   have G2:∀ i,hint-la≤i→i<m→B i=false:=fun i h5 h6=>down (hint-la) i (by omega) h6 h3
   refine Yl (ZJ (Zg (I:=fun x (c:Option (Option Nat)×Nat×Nat) st'=>st=st'∧c.1=none∧c.2.1≤c.2.2∧c.2.2≤m∧c.2.2-c.2.1≤m-x∧(∀ i,i<c.2.1→B i=true)∧(∀ i,c.2.2≤i→i<m→B i=false)) (Q:=fun (c:Option (Option Nat)×Nat×Nat) st'=>st=st'∧c.1=none∧c.2.1=c.2.2∧c.2.2≤m∧(∀ i,i<c.2.1→B i=true)∧(∀ i,c.2.2≤i→i<m→B i=false)) ?_ (fun c st' z=>⟨z.1,z.2.1,by have:=z.2.2.1;have:=z.2.2.2.2.1;omega,z.2.2.2.1,z.2.2.2.2.2⟩) ⟨rfl,rfl,by dsimp only;omega,by dsimp only;omega,by dsimp only;omega,G1,G2⟩) ?_)
   ·rintro x ⟨c0,lo,hi⟩ st' _ hx ⟨rfl,rfl,h1,h2,h3,h4,h5⟩
    dsimp only at h1 h2 h3 h4 h5 ⊢
    by_cases hl:lo ≥ hi
    ·rw[Yk hl]
     exact Yq ⟨rfl,rfl,by dsimp only;omega,h2,h4,h5⟩
    ·rw[Ym hl]
     refine Yl (hbey (lo+(hi-lo)/2) (by omega) _ _ hk ?_)
     dsimp only
     cases hb:B (lo+(hi-lo)/2) with
     | true=>
      rw[Yk rfl]
      exact Yq ⟨rfl,rfl,by dsimp only;omega,h2,by dsimp only;omega,fun i hi'=>mono i _ (by dsimp only at hi';omega) (by omega) hb,h5⟩
     | false=>
      rw[Ym Yg]
      refine Yq ⟨rfl,rfl,by dsimp only;omega,by dsimp only;omega,by dsimp only;omega,h4,fun i h6 h7=>?_⟩
      cases hb':B i with
      | false=>rfl
      | true=>rw[mono _ i h6 h7 hb'] at hb;cases hb
   ·rintro⟨c0,lo,hi⟩ st' ⟨rfl,rfl,h1,h2,h3,h4⟩
    dsimp only at h1 h2 h3 h4 ⊢
    subst h1
    exact Yq (h lo h2 h3 h4)
end
section
variable {lt:Nat→Nat→Bool} {la lb o:List Nat} {ia ib:Nat}
def Up (lt:Nat→Nat→Bool)(l:List Nat):Prop:=l.Pairwise fun x y=>lt y x=false
structure MGood (lt:Nat→Nat→Bool) (la lb l:List Nat):Prop where
 perm:l.Perm (la++lb)
 up:Up lt l
structure MIv (lt:Nat→Nat→Bool) (la lb o:List Nat) (ia ib:Nat):Prop where
 perm:(o++(la.drop ia++lb.drop ib)).Perm (la++lb)
 up:Up lt o
 le:∀ x∈o,∀ y∈la.drop ia++lb.drop ib,lt y x=false
theorem f7 {l:List Nat}{i x:Nat}(h:l[i]?=some x):l.drop i=x::l.drop (i+1):=by
 obtain⟨hi,rfl⟩:=Yi.mp h
 exact Zc hi
theorem bg {l m:List Nat}:Up lt (l++m)↔Up lt l∧Up lt m∧∀ x∈l,∀ y∈m,lt y x=false:=List.pairwise_append
theorem cg {l:List Nat}(h:Up lt l)(i:Nat):Up lt (l.drop i):=h.drop
theorem MIv.b (I:MIv lt la lb o ia ib)(sb:Up lt lb){y:Nat}(hb:lb[ib]?=some y)(h:∀ x∈la.drop ia,lt x y=false):MIv lt la lb (o++[y]) ia (ib+1):=by
 have e:=f7 hb
 have hy:y∈la.drop ia++lb.drop ib:=Yv _ (e ▸ Yc)
 refine⟨?_,bg.mpr ⟨I.up,ZB _ _,fun x hx z hz=>by rw[YB] at hz;subst hz;exact I.le x hx _ hy⟩,fun x hx z hz=>?_⟩
 ·refine List.Perm.trans ?_ I.perm
  rw[e,Ys]
  refine ZK _ ?_
  exact (List.perm_middle (l₁:=la.drop ia)).symm
 ·rcases Yt.mp hx with hx | hx
  ·refine I.le x hx z ?_
   rw[e]
   rcases Yt.mp hz with hz | hz
   ·exact YL _ hz
   ·exact Yv _ (Yb _ hz)
  ·rw[YB] at hx
   subst hx
   rcases Yt.mp hz with hz | hz
   ·exact h z hz
   ·have:=cg sb ib
    rw[e] at this
    exact (Zd.mp this).1 z hz
theorem MIv.a (I:MIv lt la lb o ia ib)(sa:Up lt la){y:Nat}(hb:la[ia]?=some y)(h:∀ x∈lb.drop ib,lt x y=false):MIv lt la lb (o++[y]) (ia+1) ib:=by
 have e:=f7 hb
 have hy:y∈la.drop ia++lb.drop ib:=YL _ (e ▸ Yc)
 refine⟨?_,bg.mpr ⟨I.up,ZB _ _,fun x hx z hz=>by rw[YB] at hz;subst hz;exact I.le x hx _ hy⟩,fun x hx z hz=>?_⟩
 ·refine List.Perm.trans (.of_eq ?_) I.perm
  rw[e,Ys]
  rfl
 ·rcases Yt.mp hx with hx | hx
  ·refine I.le x hx z ?_
   rw[e]
   rcases Yt.mp hz with hz | hz
   ·exact YL _ (Yb _ hz)
   ·exact Yv _ hz
  ·rw[YB] at hx
   subst hx
   rcases Yt.mp hz with hz | hz
   ·have:=cg sa ia
    rw[e] at this
    exact (Zd.mp this).1 z hz
   ·exact h z hz
theorem dS {l:List Nat}{i k x:Nat}(h:l[i+k]?=some x):(l.drop i).take (k+1)=(l.drop i).take k++[x]:=by
 rw[List.take_add_one,Va,h]
 rfl
theorem MIv.as (I:MIv lt la lb o ia ib)(sa:Up lt la):∀ k,ia+k≤la.length→(∀ i x,i<k→la[ia+i]?=some x→∀ y∈lb.drop ib,lt y x=false)→MIv lt la lb (o++(la.drop ia).take k) (ia+k) ib
 | 0,_,_=>by rw[Xa,YC];exact I
 | k+1,hl,h=>by
  have e:la[ia+k]?=some la[ia+k]:=Ye (by omega)
  rw[dS e,← Ys]
  exact MIv.a (MIv.as I sa k (by omega) fun i x hi=>h i x (by omega)) sa e (h k _ (by omega) e)
theorem MIv.bs (I:MIv lt la lb o ia ib)(sb:Up lt lb):∀ k,ib+k≤lb.length→(∀ i x,i<k→lb[ib+i]?=some x→∀ y∈la.drop ia,lt y x=false)→MIv lt la lb (o++(lb.drop ib).take k) ia (ib+k)
 | 0,_,_=>by rw[Xa,YC];exact I
 | k+1,hl,h=>by
  have e:lb[ib+k]?=some lb[ib+k]:=Ye (by omega)
  rw[dS e,← Ys]
  exact MIv.b (MIv.bs I sb k (by omega) fun i x hi=>h i x (by omega)) sb e (h k _ (by omega) e)
theorem MIv.endB (I:MIv lt la lb o ia ib)(sa:Up lt la)(h:ib=lb.length):MGood lt la lb (o++la.drop ia++lb.drop ib):=by
 subst h
 have p:=I.perm
 have l:=I.le
 rw[XG,YC] at p l ⊢
 exact⟨p,bg.mpr ⟨I.up,cg sa _,l⟩⟩
theorem MIv.endA (I:MIv lt la lb o ia ib)(sb:Up lt lb)(h:ia=la.length):MGood lt la lb (o++la.drop ia++lb.drop ib):=by
 subst h
 have p:=I.perm
 have l:=I.le
 rw[XG,XW] at p l
 rw[XG,YC]
 exact⟨p,bg.mpr ⟨I.up,cg sb _,l⟩⟩
theorem MIv.endL (I:MIv lt la lb o ia ib)(sa:Up lt la)(sb:Up lt lb){z:Nat}(hz:la[ia]?=some z)(h:ia+1=la.length)(hl:∀ y∈lb,lt z y=false):MGood lt la lb (o++lb.drop ib++la.drop ia):=by
 have e:la.drop ia=[z]:=by rw[f7 hz,h,XG]
 refine⟨List.Perm.trans ?_ I.perm,?_⟩
 ·rw[Ys]
  exact ZK _ XE
 ·rw[Ys]
  refine bg.mpr ⟨I.up,bg.mpr ⟨cg sb _,cg sa _,fun x hx y hy=>?_⟩,fun x hx y hy=>I.le x hx y ?_⟩
  ·rw[e,YB] at hy
   subst hy
   exact hl x (ZM hx)
  ·rcases Yt.mp hy with hy | hy
   ·exact Yv _ hy
   ·exact YL _ hy
theorem d4 {l:List Nat}(h:Up lt l)(O:Ord lt){i j x y:Nat}(hij:i≤j)(hi:l[i]?=some x)(hj:l[j]?=some y):lt y x=false:=by
 obtain⟨h1,rfl⟩:=Yi.mp hi
 obtain⟨h2,rfl⟩:=Yi.mp hj
 rcases Xr i j with q | q
 ·exact ZL.mp h i j h1 h2 q
 ·have:i=j:=by omega
  subst this
  exact O.irr _
theorem bR {l:List Nat}{i y:Nat}(h:y∈l.drop i):∃ j,i≤j∧l[j]?=some y:=by
 obtain⟨k,hk,e⟩:=ZN.mp h
 exact⟨i+k,by omega,by rw[← Va];exact Yi.mpr ⟨hk,e⟩⟩
theorem fC {l:List Nat}(h:Up lt l)(O:Ord lt){i x y:Nat}(hi:l[i]?=some y)(hx:lt y x=false):∀ z∈l.drop i,lt z x=false:=fun z hz=>by
 obtain⟨j,hj,e⟩:=bR hz
 exact O.trans _ _ _ hx (d4 h O hj hi e)
end
section
variable {prog:Program} {w:World} {A:Around} {E:Kv} {s:Shared} {n:Nat} {lt:Nat→Nat→Bool} {κ:SortKind} {it:Array Keyed}
def KA (it:Array Keyed)(l:List Nat):Array Keyed:=l.toArray.map (kas_item it)
theorem af (l:List Nat):(KA it l).size=l.length:=by simp[KA]
theorem cG (l:List Nat)(x:Nat):(KA it l).push (kas_item it x)=KA it (l++[x]):=by simp[KA]
theorem bY (l m:List Nat):KA it l++KA it m=KA it (l++m):=by simp[KA]
theorem dG (l:List Nat)(i j:Nat):(KA it l).extract i j=KA it ((l.drop i).take (j-i)):=by
 simp[KA,List.extract_eq_take_drop]
theorem f9 (l:List Nat)(i:Nat):(KA it l).extract i (KA it l).size=KA it (l.drop i):=by
 rw[dG,af,Xy (by rw[Zq];exact Yr _)]
theorem jv (x:Nat):#[kas_item it x]=KA it [x]:=by simp[KA]
theorem aY {l:List Nat}{i x:Nat}{st:SortSt}{Q:Keyed→SortSt→Prop}(hi:l[i]?=some x)(h:Q (kas_item it x) st):wpS (model prog w) A E s (elem' (KA it l) i) Q st:=by
 have e:(KA it l)[i]?=some (kas_item it x):=by simp[KA,hi]
 rw[elem'_eq,e]
 exact Yq h
structure SG (st st':SortSt):Prop where
 kind:kindOf st'=kindOf st
 arr:arrOf st'=arrOf st
 pend:pendingOf st'=pendingOf st
 fail:failedOf st'=failedOf st
theorem SG.refl (st:SortSt):SG st st:=⟨rfl,rfl,rfl,rfl⟩
theorem SG.mg {st st':SortSt}(h:SG st st')(g:Nat):SG st (SortSt.mk' (kindOf st') (arrOf st') (pendingOf st') g (failedOf st')):=⟨h.kind,h.arr,h.pend,h.fail⟩
variable {M:Model} {σ α β:Type}
theorem iS (O:Ord lt)(hC:Cmp prog w A E s n lt κ it){left:Bool}{key:Nat}{l:List Nat}{base m hint:Nat}{st:SortSt}{Q:Option Nat→SortSt→Prop}(hk:kindOf st=κ)(hkey:key<n)(hl:∀ x∈l,x<n)(hz:base+m≤l.length)(hh:hint<m)(up:∀ i j x y,base≤i→i≤j→j<base+m→l[i]?=some x→l[j]?=some y→lt y x=false)
  (h:∀ k,k≤m→(∀ i x,i<k→l[base+i]?=some x→(if left=true then lt x key else !lt key x)=true)→(∀ i x,k≤i→i<m→l[base+i]?=some x→(if left=true then lt x key else !lt key x)=false)→Q (some k) st):wpS (model prog w) A E s (jL left (kas_item it key) (KA it l) base m hint) Q st:=by
 have ge:∀ i,i<m→l[base+i]?=some (l.toArray.getD (base+i) 0):=fun i hi=>by
  have:base+i<l.length:=by omega
  simp[Array.getD,this]
 refine vo hC hk hkey (fun i hi=>hl _ (Zk (ge i hi))) (by simpa using hz) hh (fun i=>if left=true then lt (l.toArray.getD (base+i) 0) key else !lt key (l.toArray.getD (base+i) 0)) (fun _ _=>rfl) (fun i j hij hj hb=>?_) fun k hk h1 h2=>h k hk (fun i x hi e=>?_) fun i x hi hm e=>?_
 ·have u:=up (base+i) (base+j) _ _ (by omega) (by omega) (by omega) (ge i (by omega)) (ge j hj)
  revert hb
  generalize l.toArray.getD (base+i) 0=a at *
  generalize l.toArray.getD (base+j) 0=b at *
  cases left with
  | true=>
   show lt b key=true→lt a key=true
   intro hb
   cases q:lt a key with
   | true=>rfl
   | false=>
    have:=O.trans _ _ _ u (O.asym _ _ hb)
    have t:=O.trans key a b q u
    rw[t] at hb
    cases hb
  | false=>
   show (!lt key b)=true→(!lt key a)=true
   intro hb
   rw[Bool.not_eq_true'] at hb ⊢
   exact O.trans _ _ _ u hb
 ·have:=h1 i hi
  have e2:=(ge i (by omega)).symm.trans e
  cases e2
  exact this
 ·have:=h2 i hi hm
  have e2:=(ge i hm).symm.trans e
  cases e2
  exact this
end
section
variable {prog:Program} {w:World} {A:Around} {E:Kv} {s:Shared} {n:Nat} {lt:Nat→Nat→Bool} {κ:SortKind} {it:Array Keyed}
theorem aH {M:Model}{σ α:Type}{c:Prop}[Decidable c]{m m':StateT σ Sem α}{Q:α→σ→Prop}{st:σ}(h:wpS M A E s m Q st)(hc:c):wpS M A E s (if c then m else m') Q st:=by rw[Yk hc];exact h
theorem aq {M:Model}{σ α:Type}{c:Prop}[Decidable c]{m m':StateT σ Sem α}{Q:α→σ→Prop}{st:σ}(h:wpS M A E s m' Q st)(hc:¬ c):wpS M A E s (if c then m else m') Q st:=by rw[Ym hc];exact h
theorem iT {M:Model}{σ α β:Type}{c:β→Prop}[DecidablePred c]{m1 f:β→StateT σ Sem α}{Q:α→σ→Prop}{st:σ}{v0:β}(P:β→Prop)(hf:∀ v,P v→wpS M A E s (f v) Q st)
  (h1:c v0→(∀ v,P v→wpS M A E s (f v) Q st)→wpS M A E s (m1 v0) Q st) (h2:¬ c v0→P v0):∀ v,v0=v→wpS M A E s (if c v then m1 v else f v) Q st:=by
 rintro v rfl
 by_cases q:c v0
 ·rw[Yk q];exact h1 q hf
 ·rw[Ym q];exact hf v0 (h2 q)
theorem e8 {M:Model}{σ α β γ:Type}{c:Prop}[Decidable c]{m1 f:β→γ→StateT σ Sem α}{Q:α→σ→Prop}{st:σ}{u0:β}{v0:γ}(P:β→γ→Prop)(hf:∀ u v,P u v→wpS M A E s (f u v) Q st)
  (h1:c→(∀ u v,P u v→wpS M A E s (f u v) Q st)→wpS M A E s (m1 u0 v0) Q st) (h2:¬ c→P u0 v0):∀ u,u0=u→∀ v,v0=v→wpS M A E s (if c then m1 u v else f u v) Q st:=by
 rintro u rfl v rfl
 by_cases q:c
 ·rw[Yk q];exact h1 q hf
 ·rw[Ym q];exact hf u0 v0 (h2 q)
def vw:Nat→StateT SortSt Sem Unit:=sortPriv% PySem.Builtin.setMinGallop
theorem dY {g:Nat}{st st':SortSt}{Q:Unit→SortSt→Prop}(hG:SG st st')(h:∀ st2,SG st st2→Q () st2):wpS (model prog w) A E s (vw g) Q st':=XB (h _ (hG.mg g))
def MGo (it:Array Keyed)(lt:Nat→Nat→Bool)(la lb:List Nat)(S:Nat)(r:Option (Array Keyed))(out:Array Keyed)(ia ib:Nat):Prop:=
 (∃ l,r=some (KA it l)∧MGood lt la lb l)∨(r=none∧∃ o,out=KA it o∧MIv lt la lb o ia ib∧ia+1<la.length∧ib<lb.length∧S≤ia+ib)
theorem mU (O:Ord lt)(hC:Cmp prog w A E s n lt κ it){la lb:List Nat}{b0 z:Nat}{st:SortSt}{Q:Array Keyed→SortSt→Prop}(hk:kindOf st=κ)(na:∀ x∈la,x<n)(nb:∀ x∈lb,x<n)(sa:Up lt la)(sb:Up lt lb)
  (hb0:lb[0]?=some b0) (hf:∀ x∈la,lt x b0=false) (hz:la[la.length-1]?=some z) (hl:∀ y∈lb,lt z y=false)
  (h:∀ l st',MGood lt la lb l→SG st st'→Q (KA it l) st'):wpS (model prog w) A E s (ls (KA it la) (KA it lb)) Q st:=by
 have hla:1≤la.length:=by
  cases la with
  | nil=>simp at hz
  | cons x r=>simp
 have ga:∀ i,i<la.length→∃ x,la[i]?=some x∧x<n:=fun i hi=>⟨la[i],Ye hi,na _ (ZA hi)⟩
 have gb:∀ i,i<lb.length→∃ x,lb[i]?=some x∧x<n:=fun i hi=>⟨lb[i],Ye hi,nb _ (ZA hi)⟩
 have hlb:1≤lb.length:=(Yi.mp hb0).1
 have I0:MIv lt la lb [b0] 0 1:=by
  have e:=f7 hb0
  have q:lb=b0::lb.drop 1:=e
  refine⟨?_,ZB _ _,fun x hx y hy=>?_⟩
  ·rw[ZD]
   refine List.Perm.trans (List.perm_middle (l₁:=la) (l₂:=lb.drop 1)).symm ?_
   rw[← q]
  ·rw[YB] at hx
   subst hx
   rcases Yt.mp hy with hy | hy
   ·exact hf y hy
   ·exact fC sb O hb0 (O.irr _) y (by rw[ZD];exact ZM hy)
 have done:∀ o ia ib,KA it o++(KA it la).extract ia (KA it la).size++(KA it lb).extract ib (KA it lb).size=KA it (o++la.drop ia++lb.drop ib):=fun o ia ib=>by rw[f9,f9,bY,bY]
 have last:∀ o ia ib,KA it o++(KA it lb).extract ib (KA it lb).size++(KA it la).extract ia (KA it la).size=KA it (o++lb.drop ib++la.drop ia):=fun o ia ib=>by rw[f9,f9,bY,bY]
 have endL:∀ o ia ib,MIv lt la lb o ia ib→ia+1=la.length→MGood lt la lb (o++lb.drop ib++la.drop ia):=fun o ia ib I q=>I.endL sa sb (z:=z) (by rw[show ia=la.length-1 by omega];exact hz) q hl
 unfold ls
 refine Yl (wpS_lift (Vd ⟨rfl,?_⟩))
 refine Yl (aY hb0 ?_)
 by_cases h1:1=lb.length
 ·have e:(1 == (KA it lb).size)=true:=by rw[af];simpa using h1
  refine aH ?_ e
  rw[jv]
  dsimp only
  rw[done]
  exact Yq (h _ _ (I0.endB sa h1) (SG.refl _))
 have e:¬ (1 == (KA it lb).size)=true:=by rw[af];simpa using h1
 refine aq ?_ e
 by_cases h2:1=la.length
 ·have e:(0+1 == (KA it la).size)=true:=by rw[af];simpa using h2
  refine aH ?_ e
  rw[jv]
  dsimp only
  rw[last]
  exact Yq (h _ _ (endL _ _ _ I0 h2) (SG.refl _))
 have e:¬ (0+1 == (KA it la).size)=true:=by rw[af];simpa using h2
 refine aq ?_ e
 refine Yl (wpS_get ?_)
 have h1b:1<lb.length:=by omega
 have h2b:1<la.length:=by omega
 refine Yl (ZJ (Zg (I:=fun x (c:Option (Array Keyed)×Array Keyed×Nat×Nat×Nat) st'=>SG st st'∧c.1=none∧MGo it lt la lb (x+1) c.1 c.2.1 c.2.2.1 c.2.2.2.1)
  (Q:=fun (c:Option (Array Keyed)×Array Keyed×Nat×Nat×Nat) st'=>SG st st'∧∃ l,c.1=some (KA it l)∧MGood lt la lb l) ?_ (fun c st' z=>?_) ⟨SG.refl _,rfl,.inr ⟨rfl,[b0],jv b0,I0,by dsimp only;omega,h1b,by dsimp only;omega⟩⟩) ?_)
 ·rintro x ⟨c0,out,ia,ib,mg⟩ st' _ hx ⟨hG,rfl,hM⟩
  rcases hM with⟨l,z1,_⟩ | ⟨_,o,rfl,I,ha,hb,hS⟩
  ·cases z1
  dsimp only at I ha hb hS
  refine Yl (ZJ (Zg (I:=fun y (c:Option (Array Keyed)×Array Keyed×Nat×Nat×Nat×Nat) st'=>SG st st'∧c.1=none∧MGo it lt la lb (x+1+y) c.1 c.2.1 c.2.2.1 c.2.2.2.1)
   (Q:=fun (c:Option (Array Keyed)×Array Keyed×Nat×Nat×Nat×Nat) st'=>SG st st'∧MGo it lt la lb (x+2) c.1 c.2.1 c.2.2.1 c.2.2.2.1) ?_ (fun c st' z=>⟨z.1,?_⟩) ⟨hG,rfl,.inr ⟨rfl,o,rfl,I,ha,hb,hS⟩⟩) ?_)
  ·rintro y ⟨d0,out,ja,jb,ac,bc⟩ st2 _ hy ⟨hG2,rfl,hM⟩
   rcases hM with⟨l,z1,_⟩ | ⟨_,o2,rfl,I2,ha2,hb2,hS2⟩
   ·cases z1
   dsimp only at I2 ha2 hb2 hS2
   obtain⟨vb,eb,lb'⟩:=gb jb hb2
   obtain⟨va,ea,la'⟩:=ga ja (by omega)
   refine Yl (aY eb (Yl (aY ea (Yl (hC _ _ _ _ lb' la' (hG2.kind.trans hk) ?_)))))
   dsimp only
   cases hw:lt vb va with
   | true=>
    rw[Yk rfl]
    refine Yl (aY eb ?_)
    have I3:=I2.b sb eb (fC sa O ea (O.asym _ _ hw))
    rw[cG]
    by_cases q:jb+1=lb.length
    ·have e:(jb+1 == (KA it lb).size)=true:=by rw[af];simpa using q
     refine aH ?_ e
     rw[done]
     exact Yq ⟨hG2,.inl ⟨_,rfl,I3.endB sa q⟩⟩
    ·have e:¬ (jb+1 == (KA it lb).size)=true:=by rw[af];simpa using q
     refine aq ?_ e
     by_cases q2:bc+1 ≥ mg
     ·exact aH (Yq ⟨hG2,.inr ⟨rfl,_,rfl,I3,ha2,by dsimp only;omega,by dsimp only;omega⟩⟩) q2
     ·exact aq (Yq ⟨hG2,rfl,.inr ⟨rfl,_,rfl,I3,ha2,by dsimp only;omega,by dsimp only;omega⟩⟩) q2
   | false=>
    rw[Ym Yg]
    refine Yl (aY ea ?_)
    have I3:=I2.a sa ea (fC sb O eb hw)
    rw[cG]
    by_cases q:ja+1+1=la.length
    ·have e:(ja+1+1 == (KA it la).size)=true:=by rw[af];simpa using q
     refine aH ?_ e
     rw[last]
     exact Yq ⟨hG2,.inl ⟨_,rfl,endL _ _ _ I3 q⟩⟩
    ·have e:¬ (ja+1+1 == (KA it la).size)=true:=by rw[af];simpa using q
     refine aq ?_ e
     by_cases q2:ac+1 ≥ mg
     ·exact aH (Yq ⟨hG2,.inr ⟨rfl,_,rfl,I3,by dsimp only;omega,hb2,by dsimp only;omega⟩⟩) q2
     ·exact aq (Yq ⟨hG2,rfl,.inr ⟨rfl,_,rfl,I3,by dsimp only;omega,hb2,by dsimp only;omega⟩⟩) q2
  ·rcases z.2.2 with⟨l,z1,z2⟩ | ⟨z0,o2,z1,z2,z3,z4,z5⟩
   ·exact .inl ⟨l,z1,z2⟩
   ·refine .inr ⟨z0,o2,z1,z2,z3,z4,?_⟩
    rw[af,af] at z5
    omega
  ·rintro⟨d0,out,ja,jb,ac,bc⟩ st2 ⟨hG2,hM⟩
   dsimp only at hM
   rcases hM with⟨l,rfl,g⟩ | ⟨rfl,o2,rfl,I2,ha2,hb2,hS2⟩
   ·exact Yq ⟨hG2,l,rfl,g⟩
   refine Yl (wpS_lift (Vd ⟨rfl,?_⟩))
   refine Yl (ZJ (Zg (I:=fun y (c:Option (Array Keyed)×Array Keyed×Nat×Nat×Nat×Nat×Nat) st'=>SG st st'∧c.1=none∧MGo it lt la lb (x+2) c.1 c.2.1 c.2.2.1 c.2.2.2.1)
    (Q:=fun (c:Option (Array Keyed)×Array Keyed×Nat×Nat×Nat×Nat×Nat) st'=>SG st st'∧MGo it lt la lb (x+2) c.1 c.2.1 c.2.2.1 c.2.2.2.1) ?_ (fun c st' z=>⟨z.1,z.2.2⟩) ⟨hG2,rfl,.inr ⟨rfl,o2,rfl,I2,ha2,hb2,hS2⟩⟩) ?_)
   ·rintro y ⟨f0,out,ka,kb,mg2,ac2,bc2⟩ st3 _ hy ⟨hG3,rfl,hM⟩
    rcases hM with⟨l,z1,_⟩ | ⟨_,o3,rfl,I3,ha3,hb3,hS3⟩
    ·cases z1
    dsimp only at I3 ha3 hb3 hS3
    dsimp only
    generalize hmg:mg2=mg3
    revert mg3 hmg
    refine iT (P:=fun _=>True) ?hf1 (fun _ H=>H _ trivial) (fun _=>trivial)
    intro mg3 _
    refine Yl (dY hG3 fun st4 hG4=>?_)
    obtain⟨vb,eb,lb'⟩:=gb kb hb3
    refine Yl (aY eb ?_)
    refine Yl (iS O hC (hG4.kind.trans hk) lb' na (by rw[af];omega) (by rw[af];omega) (fun i j x y _ hij _ e1 e2=>d4 sa O hij e1 e2) fun k hk0 g1 g2=>?_)
    rw[af] at hk0 g2
    have hgt:∀ i v,ka+k≤i→la[i]?=some v→lt vb v=true:=fun i v hi e=>by
     have hi2:=(Yi.mp e).1
     have:=g2 (i-ka) v (by omega) (by omega) (by rw[show ka+(i-ka)=i by omega];exact e)
     simpa using this
    have I4:=I3.as sa k (by omega) fun i v hi e y hy=>by
     have:=g1 i v hi e
     exact fC sb O eb (by simpa using this) y hy
    dsimp only
    generalize hu:KA it o3=u
    generalize hv:ka=v
    revert u v hu hv
    refine e8 (P:=fun u v=>∃ o4,u=KA it o4∧MIv lt la lb o4 v kb∧v+1<la.length∧x+2≤v+kb∧∀ i y,v≤i→la[i]?=some y→lt vb y=true) ?_ ?_ ?_
    ·rintro _ ia4 ⟨o4,rfl,I4,ha4,hS4,hgt⟩
     refine Yl (aY eb ?_)
     have I5:=I4.b sb eb fun y hy=>by
      obtain⟨i,hi,e⟩:=bR hy
      exact O.asym _ _ (hgt i y hi e)
     rw[cG]
     by_cases q:kb+1=lb.length
     ·have e:(kb+1 == (KA it lb).size)=true:=by rw[af];simpa using q
      refine aH ?_ e
      rw[done]
      exact Yq ⟨hG4,.inl ⟨_,rfl,I5.endB sa q⟩⟩
     have e:¬ (kb+1 == (KA it lb).size)=true:=by rw[af];simpa using q
     refine aq ?_ e
     obtain⟨va,ea,la'⟩:=ga ia4 (by omega)
     refine Yl (aY ea ?_)
     generalize hkb:kb+1=kb1 at *
     refine Yl (iS O hC (hG4.kind.trans hk) la' nb (by rw[af];omega) (by rw[af];omega) (fun i j x y _ hij _ e1 e2=>d4 sb O hij e1 e2) fun k2 hk2 g3 g4=>?_)
     rw[af] at hk2 g4
     have I6:=I5.bs sb k2 (by omega) fun i v hi e y hy=>by
      have:=g3 i v hi e
      exact fC sa O ea (O.asym _ _ (by simpa using this)) y hy
     have hle:∀ y∈lb.drop (kb1+k2),lt y va=false:=fun y hy=>by
      obtain⟨i,hi,e⟩:=bR hy
      have hi2:=(Yi.mp e).1
      have:=g4 (i-kb1) y (by omega) (by omega) (by rw[show kb1+(i-kb1)=i by omega];exact e)
      simpa using this
     dsimp only
     generalize hu:KA it (o4++[vb])=u
     generalize hv:kb1=v
     revert u v hu hv
     refine e8 (P:=fun u v=>∃ o6,u=KA it o6∧MIv lt la lb o6 ia4 v∧v<lb.length∧x+2≤ia4+v∧∀ y∈lb.drop v,lt y va=false) ?_ ?_ ?_
     ·rintro _ ib6 ⟨o6,rfl,I6,hb6,hS6,hle⟩
      refine Yl (aY ea ?_)
      have I7:=I6.a sa ea hle
      rw[cG]
      by_cases q:ia4+1+1=la.length
      ·have e:(ia4+1+1 == (KA it la).size)=true:=by rw[af];simpa using q
       refine aH ?_ e
       rw[last]
       exact Yq ⟨hG4,.inl ⟨_,rfl,endL _ _ _ I7 q⟩⟩
      ·have e:¬ (ia4+1+1 == (KA it la).size)=true:=by rw[af];simpa using q
       refine aq ?_ e
       by_cases q2:(decide (k<7)&&decide (k2<7))=true
       ·exact aH (Yq ⟨hG4,.inr ⟨rfl,_,rfl,I7,by dsimp only;omega,hb6,by dsimp only;omega⟩⟩) q2
       ·exact aq (Yq ⟨hG4,rfl,.inr ⟨rfl,_,rfl,I7,by dsimp only;omega,hb6,by dsimp only;omega⟩⟩) q2
     ·intro hk3 H
      rw[dG,bY,Zi]
      by_cases q:kb1+k2=lb.length
      ·have e:(kb1+k2 == (KA it lb).size)=true:=by rw[af];simpa using q
       refine aH ?_ e
       rw[done]
       exact Yq ⟨hG4,.inl ⟨_,rfl,I6.endB sa q⟩⟩
      ·have e:¬ (kb1+k2 == (KA it lb).size)=true:=by rw[af];simpa using q
       exact aq (H _ _ ⟨_,rfl,I6,by omega,by omega,hle⟩) e
     ·intro hk3
      have:k2=0:=by omega
      subst this
      exact⟨_,rfl,I5,by omega,by omega,hle⟩
    ·intro hk3 H
     rw[dG,bY,Zi]
     by_cases q:ka+k+1=la.length
     ·have e:(ka+k+1 == (KA it la).size)=true:=by rw[af];simpa using q
      refine aH ?_ e
      rw[last]
      exact Yq ⟨hG4,.inl ⟨_,rfl,endL _ _ _ I4 q⟩⟩
     ·have e:¬ (ka+k+1 == (KA it la).size)=true:=by rw[af];simpa using q
      refine aq ?_ e
      by_cases q3:ka+k=la.length
      ·have e:(ka+k == (KA it la).size)=true:=by rw[af];simpa using q3
       refine aH ?_ e
       rw[done]
       exact Yq ⟨hG4,.inl ⟨_,rfl,I4.endA sb q3⟩⟩
      ·have e:¬ (ka+k == (KA it la).size)=true:=by rw[af];simpa using q3
       exact aq (H _ _ ⟨_,rfl,I4,by omega,by omega,hgt⟩) e
    ·intro hk3
     have:k=0:=by omega
     subst this
     exact⟨_,rfl,I3,ha3,hS3,hgt⟩
   ·rintro⟨f0,out,ka,kb,mg2,ac2,bc2⟩ st3 ⟨hG3,hM⟩
    dsimp only at hM
    rcases hM with⟨l,rfl,g⟩ | ⟨rfl,o3,rfl,I3,ha3,hb3,hS3⟩
    ·exact Yq ⟨hG3,l,rfl,g⟩
    refine Yl (dY hG3 fun st4 hG4=>?_)
    exact Yq ⟨hG4,rfl,.inr ⟨rfl,_,rfl,I3,ha3,hb3,hS3⟩⟩
 ·obtain⟨hG,z1,z2⟩:=z
  rcases z2 with⟨l,z3,_⟩ | ⟨_,o,_,_,z4,z5,z6⟩
  ·rw[z1] at z3;cases z3
  ·rw[af,af] at z6
   omega
 ·rintro⟨c0,out,ia,ib,mg⟩ st' ⟨hG,l,z1,z2⟩
  dsimp only at z1 ⊢
  subst z1
  exact Yq (h l st' z2 hG)
end
section
variable {lt:Nat→Nat→Bool} {la lb o:List Nat} {na nb:Nat}
structure HIv (lt:Nat→Nat→Bool) (la lb o:List Nat) (na nb:Nat):Prop where
 perm:(la.take na++lb.take nb++o.reverse).Perm (la++lb)
 up:Up lt o.reverse
 le:∀ x∈o,∀ y∈la.take na++lb.take nb,lt x y=false
theorem fZ {l:List Nat}{i x:Nat}(h:l[i]?=some x):l.take (i+1)=l.take i++[x]:=by
 rw[List.take_add_one,h]
 rfl
theorem cm {l:List Nat}(h:Up lt l)(i:Nat):Up lt (l.take i):=h.take
theorem HIv.a {m:Nat}(I:HIv lt la lb o (m+1) nb)(sa:Up lt la){y:Nat}(hb:la[m]?=some y)(h:∀ x∈lb.take nb,lt y x=false):HIv lt la lb (o++[y]) m nb:=by
 have e:=fZ hb
 have hy:y∈la.take (m+1)++lb.take nb:=YL _ (e ▸ Yv _ Yc)
 have er:(o++[y]).reverse=y::o.reverse:=by simp
 refine⟨?_,?_,fun x hx z hz=>?_⟩
 ·refine List.Perm.trans ?_ I.perm
  rw[e,er,Ys,Ys,Ys]
  refine ZK _ ?_
  exact List.perm_middle
 ·rw[er]
  exact Zd.mpr ⟨fun z hz=>I.le z (Xi.mp hz) y hy,I.up⟩
 ·rcases Yt.mp hx with hx | hx
  ·refine I.le x hx z ?_
   rw[e]
   rcases Yt.mp hz with hz | hz
   ·exact YL _ (YL _ hz)
   ·exact Yv _ hz
  ·rw[YB] at hx
   subst hx
   rcases Yt.mp hz with hz | hz
   ·have:=cm sa (m+1)
    rw[e] at this
    exact (bg.mp this).2.2 z hz _ Yc
   ·exact h z hz
theorem HIv.b {m:Nat}(I:HIv lt la lb o na (m+1))(sb:Up lt lb){y:Nat}(hb:lb[m]?=some y)(h:∀ x∈la.take na,lt y x=false):HIv lt la lb (o++[y]) na m:=by
 have e:=fZ hb
 have hy:y∈la.take na++lb.take (m+1):=Yv _ (e ▸ Yv _ Yc)
 have er:(o++[y]).reverse=y::o.reverse:=by simp
 refine⟨?_,?_,fun x hx z hz=>?_⟩
 ·refine List.Perm.trans (.of_eq ?_) I.perm
  rw[e,er]
  simp
 ·rw[er]
  exact Zd.mpr ⟨fun z hz=>I.le z (Xi.mp hz) y hy,I.up⟩
 ·rcases Yt.mp hx with hx | hx
  ·refine I.le x hx z ?_
   rw[e]
   rcases Yt.mp hz with hz | hz
   ·exact YL _ hz
   ·exact Yv _ (YL _ hz)
  ·rw[YB] at hx
   subst hx
   rcases Yt.mp hz with hz | hz
   ·exact h z hz
   ·have:=cm sb (m+1)
    rw[e] at this
    exact (bg.mp this).2.2 z hz _ Yc
theorem HIv.as (sa:Up lt la):∀ (k m:Nat) (o:List Nat),HIv lt la lb o (m+k) nb→m+k≤la.length→(∀ i x,m≤i→i<m+k→la[i]?=some x→∀ y∈lb.take nb,lt x y=false)→HIv lt la lb (o++((la.drop m).take k).reverse) m nb
 | 0,m,o,I,_,_=>by rw[Xa,List.reverse_nil,YC];exact I
 | k+1,m,o,I,hl,h=>by
  have e:la[m+k]?=some la[m+k]:=Ye (by omega)
  have I2:=HIv.a (m:=m+k) I sa e (h _ _ (by omega) (by omega) e)
  have I3:=HIv.as sa k m _ I2 (by omega) fun i x h1 h2=>h i x h1 (by omega)
  rw[dS e,List.reverse_append,← Ys]
  exact I3
theorem HIv.bs (sb:Up lt lb):∀ (k m:Nat) (o:List Nat),HIv lt la lb o na (m+k)→m+k≤lb.length→(∀ i x,m≤i→i<m+k→lb[i]?=some x→∀ y∈la.take na,lt x y=false)→HIv lt la lb (o++((lb.drop m).take k).reverse) na m
 | 0,m,o,I,_,_=>by rw[Xa,List.reverse_nil,YC];exact I
 | k+1,m,o,I,hl,h=>by
  have e:lb[m+k]?=some lb[m+k]:=Ye (by omega)
  have I2:=HIv.b (m:=m+k) I sb e (h _ _ (by omega) (by omega) e)
  have I3:=HIv.bs sb k m _ I2 (by omega) fun i x h1 h2=>h i x h1 (by omega)
  rw[dS e,List.reverse_append,← Ys]
  exact I3
theorem HIv.endA (I:HIv lt la lb o na nb)(sb:Up lt lb)(h:na=0):MGood lt la lb (la.take na++lb.take nb++o.reverse):=by
 subst h
 refine⟨I.perm,?_⟩
 have l:=I.le
 rw[Xa,XW] at l ⊢
 exact bg.mpr ⟨cm sb _,I.up,fun x hx y hy=>l y (Xi.mp hy) x hx⟩
theorem HIv.endB (I:HIv lt la lb o na nb)(sa:Up lt la)(h:nb=0):MGood lt la lb (la.take na++lb.take nb++o.reverse):=by
 subst h
 refine⟨I.perm,?_⟩
 have l:=I.le
 rw[Xa,YC] at l ⊢
 exact bg.mpr ⟨cm sa _,I.up,fun x hx y hy=>l y (Xi.mp hy) x hx⟩
theorem HIv.endF (I:HIv lt la lb o na nb)(sa:Up lt la)(sb:Up lt lb){z:Nat}(hz:lb[0]?=some z)(h:nb=1)(hl:∀ y∈la,lt y z=false):MGood lt la lb (lb.take nb++la.take na++o.reverse):=by
 have e:lb.take nb=[z]:=by rw[h,fZ hz];rfl
 refine⟨List.Perm.trans (XE.append_right _) I.perm,bg.mpr ⟨bg.mpr ⟨cm sb _,cm sa _,fun x hx y hy=>?_⟩,I.up,fun x hx y hy=>I.le y (Xi.mp hy) x ?_⟩⟩
 ·rw[e,YB] at hx
  subst hx
  exact hl y (Xg hy)
 ·rcases Yt.mp hx with hx | hx
  ·exact Yv _ hx
  ·exact YL _ hx
theorem bS {l:List Nat}{i y:Nat}(h:y∈l.take i):∃ j,j<i∧l[j]?=some y:=by
 obtain⟨k,hk,e⟩:=ZN.mp h
 rw[Zt] at hk
 rw[List.getElem_take] at e
 exact⟨k,by omega,Yi.mpr ⟨by omega,e⟩⟩
theorem ki {l:List Nat}(h:Up lt l)(O:Ord lt){i x y:Nat}(hi:l[i]?=some y)(hx:lt x y=false):∀ z∈l.take (i+1),lt x z=false:=fun z hz=>by
 obtain⟨j,hj,e⟩:=bS hz
 exact O.trans _ _ _ (d4 h O (by omega) e hi) hx
end
section
variable {prog:Program} {w:World} {A:Around} {E:Kv} {s:Shared} {n:Nat} {lt:Nat→Nat→Bool} {κ:SortKind} {it:Array Keyed}
theorem kg (l:List Nat):(KA it l).reverse=KA it l.reverse:=by simp[KA]
theorem gq (l:List Nat)(i:Nat):(KA it l).extract 0 i=KA it (l.take i):=by rw[dG];rfl
def HGo (it:Array Keyed)(lt:Nat→Nat→Bool)(la lb:List Nat)(S:Nat)(r:Option (Array Keyed))(na nb:Nat)(out:Array Keyed):Prop:=
 (∃ l,r=some (KA it l)∧MGood lt la lb l)∨(r=none∧∃ o,out=KA it o∧HIv lt la lb o na nb∧0<na∧1<nb∧na≤la.length∧nb≤lb.length∧na+nb+S≤la.length+lb.length)
theorem nq (O:Ord lt)(hC:Cmp prog w A E s n lt κ it){la lb:List Nat}{b0 z:Nat}{st:SortSt}{Q:Array Keyed→SortSt→Prop}(hk:kindOf st=κ)(ba:∀ x∈la,x<n)(bb:∀ x∈lb,x<n)(sa:Up lt la)(sb:Up lt lb)
  (hb0:lb[0]?=some b0) (hf:∀ x∈la,lt x b0=false) (hz:la[la.length-1]?=some z) (hl:∀ y∈lb,lt z y=false)
  (h:∀ l st',MGood lt la lb l→SG st st'→Q (KA it l) st'):wpS (model prog w) A E s (kX (KA it la) (KA it lb)) Q st:=by
 have hla:1≤la.length:=by
  cases la with
  | nil=>simp at hz
  | cons x r=>simp
 have ga:∀ i,i<la.length→∃ x,la[i]?=some x∧x<n:=fun i hi=>⟨la[i],Ye hi,ba _ (ZA hi)⟩
 have gb:∀ i,i<lb.length→∃ x,lb[i]?=some x∧x<n:=fun i hi=>⟨lb[i],Ye hi,bb _ (ZA hi)⟩
 have hlb:1≤lb.length:=(Yi.mp hb0).1
 have I0:HIv lt la lb [z] (la.length-1) lb.length:=by
  have e:=fZ hz
  rw[show la.length-1+1=la.length by omega,List.take_length] at e
  refine⟨?_,ZB _ _,fun x hx y hy=>?_⟩
  ·rw[List.take_length]
   refine List.Perm.trans ?_ (.of_eq (Zz (·++lb) e.symm))
   rw[Ys,Ys]
   exact ZK _ XE
  ·rw[YB] at hx
   subst hx
   rcases Yt.mp hy with hy | hy
   ·rw[e] at sa
    exact (bg.mp sa).2.2 y hy _ Yc
   ·exact hl y (Xg hy)
 have done:∀ o na nb,(KA it la).extract 0 na++(KA it lb).extract 0 nb++(KA it o).reverse=KA it (la.take na++lb.take nb++o.reverse):=fun o na nb=>by rw[gq,gq,kg,bY,bY]
 have first:∀ o na nb,(KA it lb).extract 0 nb++(KA it la).extract 0 na++(KA it o).reverse=KA it (lb.take nb++la.take na++o.reverse):=fun o na nb=>by rw[gq,gq,kg,bY,bY]
 unfold kX
 refine Yl (wpS_lift (Vd ⟨rfl,?_⟩))
 have hz':la[(KA it la).size-1]?=some z:=by rw[af];exact hz
 refine Yl (aY hz' ?_)
 rw[jv]
 have endF:∀ o na nb,HIv lt la lb o na nb→nb=1→MGood lt la lb (lb.take nb++la.take na++o.reverse):=fun o na nb I q=>I.endF sa sb hb0 q hf
 by_cases h1:la.length-1=0
 ·have e:((KA it la).size-1 == 0)=true:=by rw[af,h1];rfl
  refine aH ?_ e
  dsimp only
  rw[done,af,af]
  exact Yq (h _ _ (I0.endA sb h1) (SG.refl _))
 have e:¬ ((KA it la).size-1 == 0)=true:=by rw[af];simpa using h1
 refine aq ?_ e
 by_cases h2:lb.length=1
 ·have e:((KA it lb).size == 1)=true:=by rw[af,h2];rfl
  refine aH ?_ e
  dsimp only
  rw[first,af,af]
  exact Yq (h _ _ (endF _ _ _ I0 h2) (SG.refl _))
 have e:¬ ((KA it lb).size == 1)=true:=by rw[af];simpa using h2
 refine aq ?_ e
 refine Yl (wpS_get ?_)
 have h1b:1<lb.length:=by omega
 have h2b:1<la.length:=by omega
 refine Yl (ZJ (Zg (I:=fun x (c:Option (Array Keyed)×Nat×Nat×Array Keyed×Nat) st'=>SG st st'∧c.1=none∧HGo it lt la lb (x+1) c.1 c.2.1 c.2.2.1 c.2.2.2.1)
  (Q:=fun (c:Option (Array Keyed)×Nat×Nat×Array Keyed×Nat) st'=>SG st st'∧∃ l,c.1=some (KA it l)∧MGood lt la lb l) ?_ (fun c st' z=>?_) ⟨SG.refl _,rfl,.inr ⟨rfl,[z],rfl,by rw[af,af];exact I0,by dsimp only;rw[af];omega,by dsimp only;rw[af];omega,by dsimp only;rw[af];omega,by dsimp only;rw[af];omega,by dsimp only;rw[af,af];omega⟩⟩) ?_)
 ·rintro x ⟨c0,na,nb,out,mg⟩ st' _ hx ⟨hG,rfl,hM⟩
  rcases hM with⟨l,z1,_⟩ | ⟨_,o,rfl,I,ha,hb,ha',hb',hS⟩
  ·cases z1
  dsimp only at I ha hb hS ha' hb'
  refine Yl (ZJ (Zg (I:=fun y (c:Option (Array Keyed)×Nat×Nat×Array Keyed×Nat×Nat) st'=>SG st st'∧c.1=none∧HGo it lt la lb (x+1+y) c.1 c.2.1 c.2.2.1 c.2.2.2.1)
   (Q:=fun (c:Option (Array Keyed)×Nat×Nat×Array Keyed×Nat×Nat) st'=>SG st st'∧HGo it lt la lb (x+2) c.1 c.2.1 c.2.2.1 c.2.2.2.1) ?_ (fun c st' z=>⟨z.1,?_⟩) ⟨hG,rfl,.inr ⟨rfl,o,rfl,I,ha,hb,ha',hb',hS⟩⟩) ?_)
  ·rintro y ⟨d0,ja,jb,out,ac,bc⟩ st2 _ hy ⟨hG2,rfl,hM⟩
   rcases hM with⟨l,z1,_⟩ | ⟨_,o2,rfl,I2,ha2,hb2,ha2',hb2',hS2⟩
   ·cases z1
   dsimp only at I2 ha2 hb2 hS2 ha2' hb2'
   obtain⟨ja,rfl⟩:∃ m,ja=m+1:=⟨ja-1,by omega⟩
   obtain⟨jb,rfl⟩:∃ m,jb=m+1:=⟨jb-1,by omega⟩
   obtain⟨vb,eb,lb'⟩:=gb jb (by omega)
   obtain⟨va,ea,la'⟩:=ga ja (by omega)
   refine Yl (aY eb (Yl (aY ea (Yl (hC _ _ _ _ lb' la' (hG2.kind.trans hk) ?_)))))
   dsimp only
   simp only[Xv]
   cases hw:lt vb va with
   | true=>
    rw[Yk rfl]
    refine Yl (aY ea ?_)
    have I3:=I2.a sa ea (ki sb O eb (O.asym _ _ hw))
    rw[cG]
    by_cases q:ja=0
    ·have e:(ja == 0)=true:=by simpa using q
     refine aH ?_ e
     rw[done]
     exact Yq ⟨hG2,.inl ⟨_,rfl,I3.endA sb q⟩⟩
    ·have e:¬ (ja == 0)=true:=by simpa using q
     refine aq ?_ e
     by_cases q2:ac+1 ≥ mg
     ·exact aH (Yq ⟨hG2,.inr ⟨rfl,_,rfl,I3,by dsimp only;omega,hb2,by dsimp only;omega,hb2',by dsimp only;omega⟩⟩) q2
     ·exact aq (Yq ⟨hG2,rfl,.inr ⟨rfl,_,rfl,I3,by dsimp only;omega,hb2,by dsimp only;omega,hb2',by dsimp only;omega⟩⟩) q2
   | false=>
    rw[Ym Yg]
    refine Yl (aY eb ?_)
    have I3:=I2.b sb eb (ki sa O ea hw)
    rw[cG]
    by_cases q:jb=1
    ·have e:(jb == 1)=true:=by simpa using q
     refine aH ?_ e
     rw[first]
     exact Yq ⟨hG2,.inl ⟨_,rfl,endF _ _ _ I3 q⟩⟩
    ·have e:¬ (jb == 1)=true:=by simpa using q
     refine aq ?_ e
     by_cases q2:bc+1 ≥ mg
     ·exact aH (Yq ⟨hG2,.inr ⟨rfl,_,rfl,I3,ha2,by dsimp only;omega,ha2',by dsimp only;omega,by dsimp only;omega⟩⟩) q2
     ·exact aq (Yq ⟨hG2,rfl,.inr ⟨rfl,_,rfl,I3,ha2,by dsimp only;omega,ha2',by dsimp only;omega,by dsimp only;omega⟩⟩) q2
  ·rcases z.2.2 with⟨l,z1,z2⟩ | ⟨z0,o2,z1,z2,z3,z4,z5,z6,z7⟩
   ·exact .inl ⟨l,z1,z2⟩
   ·refine .inr ⟨z0,o2,z1,z2,z3,z4,z5,z6,?_⟩
    rw[af,af] at z7
    omega
  ·rintro⟨d0,ja,jb,out,ac,bc⟩ st2 ⟨hG2,hM⟩
   dsimp only at hM
   rcases hM with⟨l,rfl,g⟩ | ⟨rfl,o2,rfl,I2,ha2,hb2,ha2',hb2',hS2⟩
   ·exact Yq ⟨hG2,l,rfl,g⟩
   refine Yl (wpS_lift (Vd ⟨rfl,?_⟩))
   refine Yl (ZJ (Zg (I:=fun y (c:Option (Array Keyed)×Nat×Nat×Array Keyed×Nat×Nat×Nat) st'=>SG st st'∧c.1=none∧HGo it lt la lb (x+2) c.1 c.2.1 c.2.2.1 c.2.2.2.1)
    (Q:=fun (c:Option (Array Keyed)×Nat×Nat×Array Keyed×Nat×Nat×Nat) st'=>SG st st'∧HGo it lt la lb (x+2) c.1 c.2.1 c.2.2.1 c.2.2.2.1) ?_ (fun c st' z=>⟨z.1,z.2.2⟩) ⟨hG2,rfl,.inr ⟨rfl,o2,rfl,I2,ha2,hb2,ha2',hb2',hS2⟩⟩) ?_)
   ·rintro y ⟨f0,ka,kb,out,mg2,ac2,bc2⟩ st3 _ hy ⟨hG3,rfl,hM⟩
    rcases hM with⟨l,z1,_⟩ | ⟨_,o3,rfl,I3,ha3,hb3,ha3',hb3',hS3⟩
    ·cases z1
    dsimp only at I3 ha3 hb3 hS3 ha3' hb3'
    obtain⟨kb,rfl⟩:∃ m,kb=m+1:=⟨kb-1,by omega⟩
    dsimp only
    simp only[Xv]
    generalize hmg:mg2=mg3
    revert mg3 hmg
    refine iT (P:=fun _=>True) ?hf1 (fun _ H=>H _ trivial) (fun _=>trivial)
    intro mg3 _
    refine Yl (dY hG3 fun st4 hG4=>?_)
    obtain⟨vb,eb,lb'⟩:=gb kb (by omega)
    refine Yl (aY eb ?_)
    refine Yl (iS O hC (hG4.kind.trans hk) lb' ba (by omega) (by omega) (fun i j x y _ hij _ e1 e2=>d4 sa O hij e1 e2) fun k hk0 g1 g2=>?_)
    have hlo:∀ y∈la.take k,lt vb y=false:=fun y hy=>by
     obtain⟨i,hi,e⟩:=bS hy
     have:=g1 i y hi (by rw[ZU];exact e)
     simpa using this
    have I4:HIv lt la lb (o3++((la.drop k).take (ka-k)).reverse) k (kb+1):=HIv.as sa (ka-k) k o3 (by rw[show k+(ka-k)=ka by omega];exact I3) (by omega) fun i v h5 h6 e y hy=>by
     have:=g2 i v h5 (by omega) (by rw[ZU];exact e)
     exact ki sb O eb (O.asym _ _ (by simpa using this)) y hy
    dsimp only
    generalize hkk:ka-k=kk
    generalize hu:ka=u
    generalize hv:KA it o3=v
    revert u hu v hv
    refine e8 (P:=fun u v=>∃ o4,v=KA it o4∧HIv lt la lb o4 u (kb+1)∧0<u∧u≤la.length∧u+(kb+1)+(x+2)≤la.length+lb.length∧∀ y∈la.take u,lt vb y=false) ?_ ?_ ?_
    ·rintro ia4 _ ⟨o4,rfl,I4,ha4,ha4',hS4,hlo⟩
     refine Yl (aY eb ?_)
     have I5:=I4.b sb eb hlo
     rw[cG]
     by_cases q:kb=1
     ·have e:(kb == 1)=true:=by simpa using q
      refine aH ?_ e
      rw[first]
      exact Yq ⟨hG4,.inl ⟨_,rfl,endF _ _ _ I5 q⟩⟩
     have e:¬ (kb == 1)=true:=by simpa using q
     refine aq ?_ e
     obtain⟨ia4,rfl⟩:∃ m,ia4=m+1:=⟨ia4-1,by omega⟩
     obtain⟨va,ea,la'⟩:=ga ia4 (by omega)
     refine Yl (aY ea ?_)
     refine Yl (iS O hC (hG4.kind.trans hk) la' bb (by omega) (by omega) (fun i j x y _ hij _ e1 e2=>d4 sb O hij e1 e2) fun k2 hk2 g3 g4=>?_)
     have I6:HIv lt la lb (o4++[vb]++((lb.drop k2).take (kb-k2)).reverse) (ia4+1) k2:=HIv.bs sb (kb-k2) k2 _ (by rw[show k2+(kb-k2)=kb by omega];exact I5) (by omega) fun i v h5 h6 e y hy=>by
      have:=g4 i v h5 (by omega) (by rw[ZU];exact e)
      exact ki sa O ea (by simpa using this) y hy
     have hle:∀ y∈lb.take k2,lt va y=false:=fun y hy=>by
      obtain⟨i,hi,e⟩:=bS hy
      have:=g3 i y hi (by rw[ZU];exact e)
      exact O.asym _ _ (by simpa using this)
     dsimp only
     simp only[Xv]
     generalize hkk2:kb-k2=kk2
     generalize hu:kb=u
     generalize hv:KA it (o4++[vb])=v
     revert u hu v hv
     refine e8 (P:=fun u v=>∃ o6,v=KA it o6∧HIv lt la lb o6 (ia4+1) u∧1<u∧u≤lb.length∧(ia4+1)+u+(x+2)≤la.length+lb.length∧∀ y∈lb.take u,lt va y=false) ?_ ?_ ?_
     ·rintro ib6 _ ⟨o6,rfl,I6,hb6,hb6',hS6,hle⟩
      refine Yl (aY ea ?_)
      have I7:=I6.a sa ea hle
      rw[cG]
      by_cases q:ia4=0
      ·have e:(ia4 == 0)=true:=by simpa using q
       refine aH ?_ e
       rw[done]
       exact Yq ⟨hG4,.inl ⟨_,rfl,I7.endA sb q⟩⟩
      ·have e:¬ (ia4 == 0)=true:=by simpa using q
       refine aq ?_ e
       by_cases q2:(decide (kk<7)&&decide (kk2<7))=true
       ·exact aH (Yq ⟨hG4,.inr ⟨rfl,_,rfl,I7,by dsimp only;omega,hb6,by dsimp only;omega,hb6',by dsimp only;omega⟩⟩) q2
       ·exact aq (Yq ⟨hG4,rfl,.inr ⟨rfl,_,rfl,I7,by dsimp only;omega,hb6,by dsimp only;omega,hb6',by dsimp only;omega⟩⟩) q2
     ·intro hk3 H
      rw[dG lb k2 kb,hkk2,kg,bY]
      rw[hkk2] at I6
      by_cases q:k2=1
      ·have e:(k2 == 1)=true:=by simpa using q
       refine aH ?_ e
       rw[first]
       exact Yq ⟨hG4,.inl ⟨_,rfl,endF _ _ _ I6 q⟩⟩
      ·have e:¬ (k2 == 1)=true:=by simpa using q
       refine aq ?_ e
       by_cases q3:k2=0
       ·have e:(k2 == 0)=true:=by simpa using q3
        refine aH ?_ e
        rw[done]
        exact Yq ⟨hG4,.inl ⟨_,rfl,I6.endB sa q3⟩⟩
       ·have e:¬ (k2 == 0)=true:=by simpa using q3
        exact aq (H _ _ ⟨_,rfl,I6,by omega,by omega,by omega,hle⟩) e
     ·intro hk3
      have:k2=kb:=by omega
      subst this
      exact⟨_,rfl,I5,by omega,by omega,by omega,hle⟩
    ·intro hk3 H
     rw[dG la k ka,hkk,kg,bY]
     rw[hkk] at I4
     by_cases q:k=0
     ·have e:(k == 0)=true:=by simpa using q
      refine aH ?_ e
      rw[done]
      exact Yq ⟨hG4,.inl ⟨_,rfl,I4.endA sb q⟩⟩
     ·have e:¬ (k == 0)=true:=by simpa using q
      exact aq (H _ _ ⟨_,rfl,I4,by omega,by omega,by omega,hlo⟩) e
    ·intro hk3
     have:k=ka:=by omega
     subst this
     exact⟨_,rfl,I3,ha3,ha3',hS3,hlo⟩
   ·rintro⟨f0,ka,kb,out,mg2,ac2,bc2⟩ st3 ⟨hG3,hM⟩
    dsimp only at hM
    rcases hM with⟨l,rfl,g⟩ | ⟨rfl,o3,rfl,I3,ha3,hb3,ha3',hb3',hS3⟩
    ·exact Yq ⟨hG3,l,rfl,g⟩
    refine Yl (dY hG3 fun st4 hG4=>?_)
    exact Yq ⟨hG4,rfl,.inr ⟨rfl,_,rfl,I3,ha3,hb3,ha3',hb3',hS3⟩⟩
 ·obtain⟨hG,z1,z2⟩:=z
  rcases z2 with⟨l,z3,_⟩ | ⟨_,o,_,_,z4,z5,z6,z7,z8⟩
  ·rw[z1] at z3;cases z3
  ·rw[af,af] at z8
   omega
 ·rintro⟨c0,na,nb,out,mg⟩ st' ⟨hG,l,z1,z2⟩
  dsimp only at z1 ⊢
  subst z1
  exact Yq (h l st' z2 hG)
end
section
variable {n:Nat} {lt:Nat→Nat→Bool} {p p0:Array Nat} {lo:Nat}
def RiL (lt:Nat→Nat→Bool)(p:Array Nat)(a b:Nat):Prop:=∀ i j,a≤i→i≤j→j<b→lt (p.getD j 0) (p.getD i 0)=false
def FaL (lt:Nat→Nat→Bool)(p:Array Nat)(a b:Nat):Prop:=∀ i j,a≤i→i≤j→j<b→lt (p.getD i 0) (p.getD j 0)=false
def Low (p0 p:Array Nat)(lo:Nat):Prop:=∀ i,i<lo→p.getD i 0=p0.getD i 0
theorem lA (O:Ord lt){K:Nat}(h1:lo<K)(h:RiL lt p lo K)(c:lt (p.getD K 0) (p.getD (K-1) 0)=false):RiL lt p lo (K+1):=fun i j hi hij hj=>by
 by_cases hjk:j<K
 ·exact h i j hi hij hjk
 ·have:j=K:=by omega
  subst this
  by_cases hik:i=j
  ·subst hik;exact O.irr _
  ·exact O.trans _ _ _ (h i (j-1) hi (by omega) (by omega)) c
theorem dE (O:Ord lt){K:Nat}(h1:lo<K)(h:FaL lt p lo K)(c:lt (p.getD (K-1) 0) (p.getD K 0)=false):FaL lt p lo (K+1):=fun i j hi hij hj=>by
 by_cases hjk:j<K
 ·exact h i j hi hij hjk
 ·have:j=K:=by omega
  subst this
  by_cases hik:i=j
  ·subst hik;exact O.irr _
  ·exact O.trans _ _ _ c (h i (j-1) hi (by omega) (by omega))
theorem fY (hp:PermN n p){a b:Nat}(hb:b≤n)(ha:lo≤a)(h:Low p0 p lo):Low p0 (kas_rev p a b) lo:=fun i hi=>by
 rw[bJ hp hb,Ym (by omega)]
 exact h i hi
theorem k_ (hp:PermN n p){a b:Nat}(hb:b≤n)(ha:lo≤a)(he:Eqs lt p a b)(hf:FaL lt p lo b):FaL lt (kas_rev p a b) lo b:=fun i j hi hij hj=>by
 rw[bJ hp hb,bJ hp hb]
 by_cases h1:a≤i∧i<b
 ·have h2:a≤j∧j<b:=by omega
  rw[Yk h1,Yk h2]
  exact he _ _ (mH h1).1 (mH h1).2 (mH h2).1 (mH h2).2
 ·rw[Ym h1]
  by_cases h2:a≤j∧j<b
  ·rw[Yk h2]
   have:=mH h2
   exact hf _ _ hi (by omega) (by omega)
  ·rw[Ym h2]
   exact hf i j hi hij hj
theorem rL (hp:PermN n p){b:Nat}(hb:b≤n)(hf:FaL lt p lo b):RiL lt (kas_rev p lo b) lo b:=fun i j hi hij hj=>by
 rw[bJ hp hb,bJ hp hb,Yk (by omega),Yk (by omega)]
 exact hf _ _ (by omega) (by omega) (by omega)
theorem tw (hp:PermN n p){k l:Nat}(hk:k<n)(hl:l≤k)(ha:lo≤l)(h:Low p0 p lo):Low p0 (bubble p k (k-l)) lo:=fun i hi=>by
 rw[kf hp hk hl,Ym (by omega),Ym (by omega)]
 exact h i hi
theorem rT (O:Ord lt)(hp:PermN n p){k l:Nat}(kn:k<n)(hr:RiL lt p lo k)(a0:lo≤l)(a1:l≤k)(a2:∀ i,lo≤i→i<l→lt (p.getD k 0) (p.getD i 0)=false)(a3:∀ i,l≤i→i<k→lt (p.getD k 0) (p.getD i 0)=true):RiL lt (bubble p k (k-l)) lo (k+1):=fun i j hi hij hj=>by
 rw[kf hp kn a1,kf hp kn a1]
 by_cases ei:i=l
 ·rw[Yk ei]
  by_cases ej:j=l
  ·rw[Yk ej];exact O.irr _
  ·rw[Ym ej,Yk (by omega)]
   exact O.asym _ _ (a3 (j-1) (by omega) (by omega))
 ·rw[Ym ei]
  by_cases ej:j=l
  ·rw[Yk ej,Ym (by omega)]
   exact a2 i hi (by omega)
  ·rw[Ym ej]
   by_cases ci:l<i∧i≤k
   ·rw[Yk ci,Yk (by omega)]
    exact hr _ _ (by omega) (by omega) (by omega)
   ·rw[Ym ci]
    by_cases cj:l<j∧j≤k
    ·rw[Yk cj]
     exact hr _ _ hi (by omega) (by omega)
    ·rw[Ym cj]
     exact hr _ _ hi hij (by omega)
end
section
variable {prog:Program} {w:World} {A:Around} {E:Kv} {s:Shared} {n:Nat} {lt:Nat→Nat→Bool} {κ:SortKind} {it:Array Keyed} {st0 st:SortSt} {p p0:Array Nat} {lo:Nat}
theorem jo {M:Model}{σ α:Type}{c:Prop}[Decidable c]{m1 f:StateT σ Sem α}{Q:α→σ→Prop}{st:σ}(P:σ→Prop)(hf:∀ st',P st'→wpS M A E s f Q st')
  (h1:c→(∀ st',P st'→wpS M A E s f Q st')→wpS M A E s m1 Q st) (h2:¬ c→P st):wpS M A E s (if c then m1 else f) Q st:=by
 by_cases q:c
 ·rw[Yk q];exact h1 q hf
 ·rw[Ym q];exact hf st (h2 q)
structure SrP (it:Array Keyed) (st0:SortSt) (p:Array Nat) (st:SortSt):Prop where
 kind:kindOf st=kindOf st0
 pend:pendingOf st=pendingOf st0
 fail:failedOf st=failedOf st0
 arr:arrOf st=p.map (kas_item it)
theorem dO (hC:Cmp prog w A E s n lt κ it)(hk:kindOf st0=κ)(S:SrP it st0 p st)(hp:PermN n p){i j:Nat}{Q:Option Bool→SortSt→Prop}(hi:i<n)(hj:j<n)(h:Q (some (lt (p.getD i 0) (p.getD j 0))) st):wpS (model prog w) A E s (ltAt' i j) Q st:=by
 rw[ltAt'_eq]
 refine Yl (wpS_get ?_)
 show wpS _ _ _ _ (elem' (arrOf st) i>>=fun x=>elem' (arrOf st) j>>=fun y=>lt' x y) Q st
 rw[S.arr]
 exact Yl (h9 (by rw[hp.size];exact hi) (Yl (h9 (by rw[hp.size];exact hj) (hC _ _ _ _ (hp.bd hi) (hp.bd hj) (S.kind.trans hk) h))))
theorem eY (S:SrP it st0 p st){i j:Nat}{Q:Unit→SortSt→Prop}(h:∀ st',SrP it st0 (kas_rev p i j) st'→Q () st'):wpS (model prog w) A E s (reverseSlice' i j) Q st:=by
 rw[reverseSlice'_eq]
 refine XB (h _ ⟨S.kind,S.pend,S.fail,?_⟩)
 show mirror (arrOf st) i j ((j-i)/2)=(mirror p i j ((j-i)/2)).map (kas_item it)
 rw[S.arr]
 exact kas_swaps_map (kas_item it) (fun k=>i+k) (fun k=>j-1-k) _ p
theorem n9 (S:SrP it st0 p st){k l:Nat}{Q:Unit→SortSt→Prop}(h:∀ st',SrP it st0 (bubble p k (k-l)) st'→Q () st'):wpS (model prog w) A E s (moveDown' k l) Q st:=by
 rw[moveDown'_eq]
 refine XB (h _ ⟨S.kind,S.pend,S.fail,?_⟩)
 show bubble (arrOf st) k (k-l)=(bubble p k (k-l)).map (kas_item it)
 rw[S.arr]
 exact kas_swaps_map (kas_item it) (fun i=>k-i) (fun i=>k-i-1) _ p
theorem qo (O:Ord lt)(hC:Cmp prog w A E s n lt κ it)(hk:kindOf st0=κ)(hlo:lo<n)(S0:SrP it st0 p0 st)(hp0:PermN n p0){Q:Option Nat→SortSt→Prop}
  (h:∀ m p st',1≤m→m≤n-lo→SrP it st0 p st'→PermN n p→Low p0 p lo→RiL lt p lo (lo+m)→Q (some m) st'):wpS (model prog w) A E s (countRun' lo (n-lo)) Q st:=by
 unfold countRun'
 generalize hM:n-lo=M at *
 refine Yl (ZJ (Zg (I:=fun x (c:Option (Option Nat)×Nat) st'=>st=st'∧c=(none,x)∧1≤x∧x≤M∧RiL lt p0 lo (lo+x)) (Q:=fun (c:Option (Option Nat)×Nat) st'=>st=st'∧∃ k,c=(none,k)∧1≤k∧k≤M∧RiL lt p0 lo (lo+k)∧(k=M∨lt (p0.getD (lo+k) 0) (p0.getD (lo+k-1) 0)=true)) ?_ (fun c st' z=>⟨z.1,_,z.2.1,z.2.2.1,z.2.2.2.1,z.2.2.2.2,.inl (by have:=z.2.2.2.1;omega)⟩) ⟨rfl,rfl,by decide,by omega,fun i j h1 h2 h3=>by rw[show i=j by omega];exact O.irr _⟩) ?_)
 ·rintro x c st' h1 h2 ⟨rfl,rfl,h3,h4,h5⟩
  refine Yl (dO hC hk S0 hp0 (by dsimp only;omega) (by dsimp only;omega) ?_)
  dsimp only
  cases c:lt (p0.getD (lo+x) 0) (p0.getD (lo+x-1) 0) with
  | true=>
   rw[Yk rfl]
   exact Yq ⟨rfl,x,rfl,h3,h4,h5,.inr c⟩
  | false=>
   rw[Ym Yg]
   exact Yq ⟨rfl,rfl,by omega,by omega,lA (K:=lo+x) O (by omega) h5 c⟩
 ·rintro c st' ⟨rfl,k,rfl,h1,h2,h3,h4⟩
  by_cases hkm:k=M
  ·subst hkm
   refine aH (Yq (h k p0 st h1 (Yr _) S0 hp0 (fun _ _=>rfl) h3)) ?_
   exact ZY k
  refine aq ?_ (by simpa using hkm)
  have hlt:lt (p0.getD (lo+k) 0) (p0.getD (lo+k-1) 0)=true:=h4.resolve_left hkm
  dsimp only
  refine jo (P:=fun st'=>∃ p,SrP it st0 p st'∧PermN n p∧Low p0 p lo∧FaL lt p lo (lo+k+1)) ?_ ?_ ?_
  ·rintro st1 ⟨p1,S1,hp1,hl1,hf1⟩
   refine Yl (wpS_lift (Vd ⟨rfl,?_⟩))
   refine Yl (ZJ (Zg (I:=fun x (c:Option (Option Nat)×Nat×Nat) st'=>∃ p q,c=(none,x,q)∧x≤M∧q+1≤x∧SrP it st0 p st'∧PermN n p∧Low p0 p lo∧FaL lt p lo (lo+x)∧Eqs lt p (lo+x-(q+1)) (lo+x)) (Q:=fun (c:Option (Option Nat)×Nat×Nat) st'=>∃ p x q,c=(none,x,q)∧1≤x∧x≤M∧q+1≤x∧SrP it st0 p st'∧PermN n p∧Low p0 p lo∧FaL lt p lo (lo+x)∧Eqs lt p (lo+x-(q+1)) (lo+x)) ?_ (fun c st' z=>?_) ⟨p1,0,rfl,by omega,by omega,S1,hp1,hl1,hf1,jU O p1 (lo+k)⟩) ?_)
   ·rintro x c st' g1 g2 ⟨p,q,rfl,g3,g4,S,hp,hl,hf,he⟩
    refine Yl (dO hC hk S hp (by dsimp only;omega) (by dsimp only;omega) ?_)
    dsimp only
    cases c:lt (p.getD (lo+x) 0) (p.getD (lo+x-1) 0) with
    | true=>
     rw[Yk rfl]
     have hc:=O.asym _ _ c
     by_cases hq:q > 0
     ·rw[Yk hq]
      refine Yl (eY S fun st2 S2=>Yq ⟨_,0,rfl,by omega,by omega,S2,hp.rev _ _,fY hp (by omega) (by omega) hl,?_,jU O _ (lo+x)⟩)
      refine dE (K:=lo+x) O (by omega) (k_ hp (by omega) (by omega) he hf) ?_
      have hb:lo+x-(q+1)≤lo+x-1∧lo+x-1<lo+x:=by omega
      rw[bJ hp (by omega),bJ hp (by omega),Yk hb,Ym (by omega)]
      exact O.trans _ _ _ hc (he _ _ (mH hb).1 (mH hb).2 hb.1 hb.2)
     ·rw[Ym hq]
      exact Yq ⟨p,0,rfl,by omega,by omega,S,hp,hl,dE (K:=lo+x) O (by omega) hf hc,jU O _ (lo+x)⟩
    | false=>
     rw[Ym Yg]
     refine Yl (dO hC hk S hp (by omega) (by omega) ?_)
     dsimp only
     cases d:lt (p.getD (lo+x-1) 0) (p.getD (lo+x) 0) with
     | true=>
      rw[Yk rfl]
      exact Yq ⟨p,x,q,rfl,by omega,by omega,g4,S,hp,hl,hf,he⟩
     | false=>
      rw[Ym Yg]
      exact Yq ⟨p,q+1,rfl,by omega,by omega,S,hp,hl,dE (K:=lo+x) O (by omega) hf d,rR (k:=lo+x) O (by omega) he c d⟩
   ·obtain⟨p,q,e,z⟩:=z
    have hmx:max (k+1) M=M:=by omega
    refine⟨p,_,q,e,by omega,z⟩
   ·rintro c st2 ⟨p,x,q,rfl,g0,g1,g2,S,hp,hl,hf,he⟩
    dsimp only
    refine jo (P:=fun st'=>∃ p,SrP it st0 p st'∧PermN n p∧Low p0 p lo∧FaL lt p lo (lo+x)) ?_ ?_ ?_
    ·rintro st3 ⟨p,S,hp,hl,hf⟩
     refine Yl (eY S fun st4 S4=>?_)
     have hp4:=hp.rev lo (lo+x)
     have hl4:=fY (a:=lo) (b:=lo+x) hp (by omega) (Yr _) hl
     have hr4:=rL (b:=lo+x) hp (by omega) hf
     generalize kas_rev p lo (lo+x)=p4 at *
     refine Yl (ZJ (Zg (I:=fun x (c:Option (Option Nat)×Nat) st'=>st4=st'∧c=(none,x)∧1≤x∧x≤M∧RiL lt p4 lo (lo+x)) (Q:=fun (c:Option (Option Nat)×Nat) st'=>st4=st'∧∃ k,c=(none,k)∧1≤k∧k≤M∧RiL lt p4 lo (lo+k)) ?_ (fun c st' z=>⟨z.1,_,z.2⟩) ⟨rfl,rfl,g0,g1,hr4⟩) ?_)
     ·rintro y c st' h1 h2 ⟨rfl,rfl,h3,h4,h5⟩
      refine Yl (dO hC hk S4 hp4 (by dsimp only;omega) (by dsimp only;omega) ?_)
      dsimp only
      cases c:lt (p4.getD (lo+y) 0) (p4.getD (lo+y-1) 0) with
      | true=>
       rw[Yk rfl]
       exact Yq ⟨rfl,y,rfl,h3,h4,h5⟩
      | false=>
       rw[Ym Yg]
       exact Yq ⟨rfl,rfl,by omega,by omega,lA (K:=lo+y) O (by omega) h5 c⟩
     ·rintro c st' ⟨rfl,m,rfl,h1,h2,h3⟩
      exact Yq (h m p4 _ h1 h2 S4 hp4 hl4 h3)
    ·intro hq H
     exact Yl (eY S fun st3 S3=>H st3 ⟨_,S3,hp.rev _ _,fY hp (by omega) (by omega) hl,k_ hp (by omega) (by omega) he hf⟩)
    ·exact fun _=>⟨p,S,hp,hl,hf⟩
  ·intro hk1 H
   refine Yl (dO hC hk S0 hp0 (by omega) (by omega) ?_)
   dsimp only
   cases c:lt (p0.getD lo 0) (p0.getD (lo+k-1) 0) with
   | true=>
    rw[Yk rfl]
    exact Yq (h k p0 _ h1 h2 S0 hp0 (fun _ _=>rfl) h3)
   | false=>
    rw[Ym Yg]
    have alike:∀ i j,lo≤i→i<lo+k→lo≤j→j<lo+k→lt (p0.getD i 0) (p0.getD j 0)=false:=fun i j hi hi' hj hj'=>
     O.trans _ _ _ (O.trans _ _ _ (h3 j (lo+k-1) hj (by omega) (by omega)) c) (h3 lo i (Yr _) hi hi')
    refine Yl (eY S0 fun st1 S1=>H st1 ⟨_,S1,hp0.rev _ _,fY hp0 (by omega) (Yr _) (fun _ _=>rfl),dE (K:=lo+k) O (by omega) (fun i j hi hij hj=>?_) ?_⟩)
    ·rw[bJ hp0 (by omega),bJ hp0 (by omega),Yk (by omega),Yk (by omega)]
     exact alike _ _ (by omega) (by omega) (by omega) (by omega)
    ·rw[bJ hp0 (by omega),bJ hp0 (by omega),Yk (by omega),Ym (by omega)]
     exact O.trans _ _ _ (O.asym _ _ hlt) (alike _ _ (by omega) (by omega) (by omega) (by omega))
  ·intro hk1
   have:k=1:=by omega
   subst this
   refine⟨p0,S0,hp0,fun _ _=>rfl,dE (K:=lo+1) O (by omega) (fun i j hi hij hj=>?_) (O.asym _ _ hlt)⟩
   rw[show i=j by omega]
   exact O.irr _
theorem wB (O:Ord lt)(hC:Cmp prog w A E s n lt κ it)(hk:kindOf st0=κ){m ok:Nat}(hm:lo+m≤n)(h1:1≤ok)(h2:ok≤m)(S0:SrP it st0 p0 st)(hp0:PermN n p0)(hr0:RiL lt p0 lo (lo+ok)){Q:Bool→SortSt→Prop}
  (h:∀ p st',SrP it st0 p st'→PermN n p→Low p0 p lo→RiL lt p lo (lo+m)→Q true st'):wpS (model prog w) A E s (binarySort' lo m ok) Q st:=by
 unfold binarySort'
 have hmx:max ok 1=ok:=by omega
 refine Yl (ZJ (Zg (I:=fun x (c:Option Bool×Unit) st'=>c=(none,())∧x≤m∧1≤x∧∃ p,SrP it st0 p st'∧PermN n p∧Low p0 p lo∧RiL lt p lo (lo+x)) (Q:=fun (c:Option Bool×Unit) st'=>c=(none,())∧∃ p,SrP it st0 p st'∧PermN n p∧Low p0 p lo∧RiL lt p lo (lo+m)) ?_ (fun c st' z=>⟨z.1,?_⟩) ⟨rfl,by omega,by omega,p0,S0,hp0,fun _ _=>rfl,hmx.symm ▸ hr0⟩) ?_)
 ·rintro k c st1 g1 g2 ⟨rfl,g3,g4,p,S,hp,hl,hr⟩
  refine Yl (ZJ (Zg (I:=fun y (c:Option Bool×Nat×Nat) st'=>st1=st'∧∃ l r,c=(none,l,r)∧l≤r∧r≤k∧r-l≤k-y∧(∀ i,i<l→lt (p.getD (lo+k) 0) (p.getD (lo+i) 0)=false)∧(∀ i,r≤i→i<k→lt (p.getD (lo+k) 0) (p.getD (lo+i) 0)=true)) (Q:=fun (c:Option Bool×Nat×Nat) st'=>st1=st'∧∃ l,c=(none,l,l)∧l≤k∧(∀ i,i<l→lt (p.getD (lo+k) 0) (p.getD (lo+i) 0)=false)∧(∀ i,l≤i→i<k→lt (p.getD (lo+k) 0) (p.getD (lo+i) 0)=true)) ?_ (fun c st' z=>?_) ⟨rfl,0,k,rfl,by omega,by omega,by omega,fun i hi=>absurd hi (Nat.not_lt_zero _),fun i a b=>absurd b (by omega)⟩) ?_)
  ·rintro y c st' _ hy ⟨rfl,l,r,rfl,q1,q2,q3,q4,q5⟩
   dsimp only
   by_cases hlr:l ≥ r
   ·rw[Yk hlr]
    have:l=r:=by omega
    subst this
    exact Yq ⟨rfl,l,rfl,q2,q4,q5⟩
   ·rw[Ym hlr]
    refine Yl (dO hC hk S hp (by omega) (by omega) ?_)
    dsimp only
    cases c:lt (p.getD (lo+k) 0) (p.getD (lo+(l+r)/2) 0) with
    | true=>
     rw[Yk rfl]
     refine Yq ⟨rfl,l,(l+r)/2,rfl,by omega,by omega,by omega,q4,fun i a1 a2=>?_⟩
     cases q:lt (p.getD (lo+k) 0) (p.getD (lo+i) 0) with
     | true=>rfl
     | false=>
      have:=O.trans _ _ _ (hr (lo+(l+r)/2) (lo+i) (by omega) (by omega) (by omega)) q
      rw[c] at this
      cases this
    | false=>
     rw[Ym Yg]
     exact Yq ⟨rfl,(l+r)/2+1,r,rfl,by omega,by omega,by omega,fun i a1=>O.trans _ _ _ (hr (lo+i) (lo+(l+r)/2) (by omega) (by omega) (by omega)) c,q5⟩
  ·obtain⟨z0,l,r,rfl,q1,q2,q3,q4,q5⟩:=z
   have:l=r:=by omega
   subst this
   exact⟨z0,l,rfl,q2,q4,q5⟩
  ·rintro c st' ⟨rfl,l,rfl,q1,q2,q3⟩
   dsimp only
   refine Yl (n9 S fun st2 S2=>Yq ⟨rfl,by omega,by omega,_,S2,hp.bub _ _,tw hp (by omega) (by omega) (by omega) hl,rT O hp (by omega) hr (by omega) (by omega) (fun i a1 a2=>?_) fun i a1 a2=>?_⟩)
   ·have:=q2 (i-lo) (by omega)
    rwa [show lo+(i-lo)=i by omega] at this
   ·have:=q3 (i-lo) (by omega) (by omega)
    rwa [show lo+(i-lo)=i by omega] at this
 ·obtain⟨_,z1,z2,p,S,hp,hl,hr⟩:=z
  have e:max (max ok 1) m=m:=by omega
  rw[e] at hr
  exact⟨p,S,hp,hl,hr⟩
 ·rintro c st' ⟨rfl,p,S,hp,hl,hr⟩
  exact Yq (h p st' S hp hl hr)
end
section
variable {prog:Program} {w:World} {A:Around} {E:Kv} {s:Shared} {n:Nat} {lt:Nat→Nat→Bool} {κ:SortKind} {it:Array Keyed}
theorem tH {M:Model}{σ:Type}{Q:PUnit→σ→Prop}{st st':σ}(h:Q ⟨⟩ st'):wpS M A E s (set st':StateT σ Sem PUnit) Q st:=by
 unfold wpS;rw[StateT.run_set];exact Yu ⟨rfl,h⟩
def gQ {α:Type}(b:Nat)(L:List (α×Nat))(arr:Array α):Array α:=L.foldl (fun a x=>match x with | (p,j)=>a.setIfInBounds (b+j) p) arr
theorem kR {α:Type}(b:Nat):∀ (L:List α) (j:Nat) (U V W:List α),U.length=b+j→V.length=L.length→gQ b (L.zipIdx j) (U++V++W).toArray=(U++L++W).toArray
 | [],j,U,V,W,hU,hV=>by
  have:V=[]:=Zj.mp hV
  subst this
  rfl
 | x::L,j,U,[],W,hU,hV=>by cases hV
 | x::L,j,U,v::V,W,hU,hV=>by
  have ih:=kR b L (j+1) (U++[x]) V W (by rw[Yh,Ze];omega) (Nat.succ.inj hV)
  rw[List.zipIdx_cons]
  show gQ b (L.zipIdx (j+1)) ((U++v::V++W).toArray.setIfInBounds (b+j) x)=_
  have e:(U++v::V++W).toArray.setIfInBounds (b+j) x=(U++[x]++V++W).toArray:=by
   rw[← hU]
   simp
  rw[e,ih]
  simp
theorem uR (O:Ord lt){X Y:List Nat}{m:Nat}(hX:Up lt X)(hY:Up lt Y)(h1:∀ x∈X,lt m x=false)(h2:∀ y∈Y,lt y m=false):Up lt (X++Y):=
 bg.mpr ⟨hX,hY,fun x hx y hy=>O.trans _ _ _ (h1 x hx) (h2 y hy)⟩
theorem wd {l:List Nat}{y:Nat}(h:y∈l):∃ j:Nat,l[j]?=some y:=by
 obtain⟨k,hk,e⟩:=ZN.mp h
 exact⟨k,Yi.mpr ⟨hk,e⟩⟩
theorem ky (O:Ord lt)(hC:Cmp prog w A E s n lt κ it){Aa X Y B:List Nat}{pd:Array (Nat×Nat×Nat)}{g i pw pw2:Nat}{Q:Bool→SortSt→Prop}(hn:∀ x∈Aa++X++Y++B,x<n)(hX:Up lt X)(hY:Up lt Y)(nX:X≠[])(nY:Y≠[])
  (e1:pd[i]?=some (Aa.length,X.length,pw)) (e2:pd[i+1]?=some (Aa.length+X.length,Y.length,pw2))
  (h:∀ (Z:List Nat) (st':SortSt),Z.Perm (X++Y)→Up lt Z→PyProof.Rows.kindOf st'=κ→failedOf st'=none→arrOf st'=KA it (Aa++Z++B)→pendingOf st'=(pd.setIfInBounds i (Aa.length,X.length+Y.length,pw)).eraseIdxIfInBounds (i+1)→Q true st') :
  wpS (model prog w) A E s (mergeAt' i) Q (SortSt.mk' κ (KA it (Aa++X++Y++B)) pd g none):=by
 have lX:0<X.length:=Xk.mpr nX
 have lY:0<Y.length:=Xk.mpr nY
 have hnX:∀ x∈X,x<n:=fun x hx=>hn x (by simp[hx])
 have hnY:∀ x∈Y,x<n:=fun x hx=>hn x (by simp[hx])
 have iX:∀ i,i<X.length→(Aa++X++Y++B)[Aa.length+i]?=X[i]?:=fun i hi=>by
  rw[Ys,Ys,YQ (XH _ _),Zi,Zb hi]
 have iY:∀ i,i<Y.length→(Aa++X++Y++B)[Aa.length+X.length+i]?=Y[i]?:=fun i hi=>by
  rw[Ys,YQ (by rw[Yh];omega),Yh,Zi,Zb hi]
 obtain⟨y0,ey0⟩:∃ y,Y[0]?=some y:=⟨Y[0],Ye lY⟩
 obtain⟨z,ez⟩:∃ z,X[X.length-1]?=some z:=⟨X[X.length-1],Ye (by omega)⟩
 have y0n:y0<n:=hnY _ (Zk ey0)
 have zn:z<n:=hnX _ (Zk ez)
 have y0le:∀ y∈Y,lt y y0=false:=fun y hy=>fC hY O ey0 (O.irr _) y (by rw[ZD];exact hy)
 have lez:∀ x∈X,lt z x=false:=fun x hx=>by
  obtain⟨j,e⟩:=wd hx
  exact d4 hX O (by have:=(Yi.mp e).1;omega) e ez
 have len:(Aa++X++Y++B).length=Aa.length+X.length+Y.length+B.length:=by rw[Yh,Yh,Yh]
 unfold mergeAt'
 refine Yl (wpS_get ?_)
 dsimp only
 rw[e1,e2]
 dsimp only
 refine Yl (tH ?_)
 generalize hL:Aa++X++Y++B=L at *
 generalize hpd:(pd.setIfInBounds i (Aa.length,X.length+Y.length,pw)).eraseIdxIfInBounds (i+1)=pd' at *
 refine Yl (aY (x:=y0) (by have:=iY 0 lY;rw[Nat.add_zero] at this;rw[this];exact ey0) ?_)
 refine Yl (iS O hC rfl y0n hn (by omega) lX (fun a b x y h1 h2 h3 h4 h5=>?_) fun k hk g1 g2=>?_)
 ·have q1:=iX (a-Aa.length) (by omega)
  have q2:=iX (b-Aa.length) (by omega)
  rw[show Aa.length+(a-Aa.length)=a by omega] at q1
  rw[show Aa.length+(b-Aa.length)=b by omega] at q2
  exact d4 hX O (i:=a-Aa.length) (j:=b-Aa.length) (by omega) (q1 ▸ h4) (q2 ▸ h5)
 have lo1:∀ x∈X.take k,lt y0 x=false:=fun x hx=>by
  obtain⟨j,hj,e⟩:=bS hx
  have:=g1 j x hj (by rw[iX j (by omega)];exact e)
  simpa using this
 have hi1:∀ x∈X.drop k,lt y0 x=true:=fun x hx=>by
  obtain⟨j,hj,e⟩:=bR hx
  have hj2:=(Yi.mp e).1
  have:=g2 j x hj hj2 (by rw[iX j hj2];exact e)
  simpa using this
 dsimp only
 by_cases q:X.length-k=0
 ·refine aH (Yq (h (X++Y) _ (.refl _) (uR O hX hY (m:=y0) (fun x hx=>lo1 x (by rw[Xy (by omega)];exact hx)) y0le) rfl rfl ?_ rfl)) (by simpa using q)
  show KA it L=_
  rw[← hL,Ys Aa]
 refine aq ?_ (by simpa using q)
 refine Yl (aY (x:=z) (by rw[show Aa.length+k+(X.length-k)-1=Aa.length+(X.length-1) by omega,iX _ (by omega)];exact ez) ?_)
 refine Yl (iS O hC rfl zn hn (by omega) (by omega) (fun a b x y h1 h2 h3 h4 h5=>?_) fun k2 hk2 g3 g4=>?_)
 ·have q1:=iY (a-(Aa.length+X.length)) (by omega)
  have q2:=iY (b-(Aa.length+X.length)) (by omega)
  rw[show Aa.length+X.length+(a-(Aa.length+X.length))=a by omega] at q1
  rw[show Aa.length+X.length+(b-(Aa.length+X.length))=b by omega] at q2
  exact d4 hY O (i:=a-(Aa.length+X.length)) (j:=b-(Aa.length+X.length)) (by omega) (q1 ▸ h4) (q2 ▸ h5)
 have lo2:∀ y∈Y.take k2,lt y z=true:=fun x hx=>by
  obtain⟨j,hj,e⟩:=bS hx
  have:=g3 j x hj (by rw[iY j (by omega)];exact e)
  simpa using this
 have hi2:∀ y∈Y.drop k2,lt y z=false:=fun x hx=>by
  obtain⟨j,hj,e⟩:=bR hx
  have hj2:=(Yi.mp e).1
  have:=g4 j x hj hj2 (by rw[iY j hj2];exact e)
  simpa using this
 dsimp only
 by_cases q2:k2=0
 ·subst q2
  refine aH (Yq (h (X++Y) _ (.refl _) (uR O hX hY (m:=z) lez fun y hy=>hi2 y (by rw[ZD];exact hy)) rfl rfl ?_ rfl)) (by rfl)
  show KA it L=_
  rw[← hL,Ys Aa]
 refine aq ?_ (by simpa using q2)
 have ex:(KA it L).extract (Aa.length+k) (Aa.length+X.length)=KA it (X.drop k):=by
  rw[dG,← hL]
  congr 1
  rw[Ys,Ys,List.drop_append,YV (XH _ _),XW,Zi,List.drop_append_of_le_length hk,List.take_append_of_le_length (by rw[Zq];omega),Xy (by rw[Zq];omega)]
 have ey:(KA it L).extract (Aa.length+X.length) (Aa.length+X.length+k2)=KA it (Y.take k2):=by
  rw[dG,← hL]
  congr 1
  rw[Zi,Ys,List.drop_append,YV (by rw[Yh];omega),XW,Yh,Nat.sub_self,ZD,List.take_append_of_le_length hk2]
 rw[ex,ey]
 have fin:∀ l st2,MGood lt (X.drop k) (Y.take k2) l→SG (SortSt.mk' κ (KA it L) pd' g none) st2→Q true (SortSt.mk' (kindOf st2) (gQ (Aa.length+k) ((KA it l).toList.zipIdx) (arrOf st2)) (pendingOf st2) (gallopOf st2) (failedOf st2)):=fun l st2 G S=>by
  refine h (X.take k++l++Y.drop k2) _ ?_ ?_ S.kind S.fail ?_ S.pend
  ·refine List.Perm.trans ((G.perm.append_left _).append_right _) (.of_eq ?_)
   rw[← Ys,YZ,Ys,YZ]
  ·have ml:∀ x∈l,x∈X.drop k∨x∈Y.take k2:=fun x hx=>Yt.mp (G.perm.mem_iff.mp hx)
   have u1:∀ x∈X.take k,∀ y∈Y,lt y x=false:=fun x hx y hy=>O.trans _ _ _ (lo1 x hx) (y0le y hy)
   refine bg.mpr ⟨bg.mpr ⟨cm hX k,G.up,fun x hx y hy=>?_⟩,cg hY k2,fun x hx y hy=>?_⟩
   ·rcases ml y hy with m | m
    ·have:=hX
     rw[← YZ k X] at this
     exact (bg.mp this).2.2 x hx y m
    ·exact u1 x hx y (Xg m)
   ·rcases Yt.mp hx with m | m
    ·exact u1 x m y (ZM hy)
    ·rcases ml x m with m | m
     ·exact O.trans _ _ _ (lez x (ZM m)) (hi2 y hy)
     ·have:=hY
      rw[← YZ k2 Y] at this
      exact (bg.mp this).2.2 x m y hy
  ·show gQ (Aa.length+k) ((KA it l).toList.zipIdx) (arrOf st2)=_
   rw[S.arr]
   show gQ (Aa.length+k) ((KA it l).toList.zipIdx) (KA it L)=_
   have ll:l.length=(X.drop k++Y.take k2).length:=G.perm.length_eq
   have eL:L=(Aa++X.take k)++(X.drop k++Y.take k2)++(Y.drop k2++B):=by
    have a1:=YZ k X
    have a2:=YZ k2 Y
    generalize X.take k=X1 at *
    generalize X.drop k=X2 at *
    generalize Y.take k2=Y1 at *
    generalize Y.drop k2=Y2 at *
    rw[← hL,← a1,← a2]
    simp
   have eK:∀ m:List Nat,KA it m=(m.map (kas_item it)).toArray:=fun m=>by simp[KA]
   rw[eK l,eK L,eL,ZG,ZG]
   rw[kR (Aa.length+k) (l.map (kas_item it)) 0 _ _ _ (by rw[Yf,Yh,Zt];omega) (by rw[Yf,Yf];exact ll.symm)]
   rw[eK,← ZG,← ZG]
   congr 2
   simp
 have pa:∀ x∈X.drop k,x<n:=fun x hx=>hnX x (ZM hx)
 have pb:∀ x∈Y.take k2,x<n:=fun x hx=>hnY x (Xg hx)
 have pb0:(Y.take k2)[0]?=some y0:=by rw[Xo (by omega)];exact ey0
 have pz:(X.drop k)[(X.drop k).length-1]?=some z:=by rw[Va,Zq,show k+(X.length-k-1)=X.length-1 by omega];exact ez
 by_cases q3:X.length-k≤k2
 ·refine aH ?_ q3
  refine Yl (mU O hC rfl pa pb (cg hX k) (cm hY k2) pb0 (fun x hx=>O.asym _ _ (hi1 x hx)) pz (fun y hy=>O.asym _ _ (lo2 y hy)) fun l st2 G S=>?_)
  refine Yl (XB (Yl (wpS_get ?_)))
  have ef:failedOf st2=none:=S.fail
  have r:=fin l st2 G S
  show wpS _ _ _ _ (pure (failedOf st2).isNone) Q _
  rw[ef]
  exact Yq r
 ·refine aq ?_ q3
  refine Yl (nq O hC rfl pa pb (cg hX k) (cm hY k2) pb0 (fun x hx=>O.asym _ _ (hi1 x hx)) pz (fun y hy=>O.asym _ _ (lo2 y hy)) fun l st2 G S=>?_)
  refine Yl (XB (Yl (wpS_get ?_)))
  have ef:failedOf st2=none:=S.fail
  have r:=fin l st2 G S
  show wpS _ _ _ _ (pure (failedOf st2).isNone) Q _
  rw[ef]
  exact Yq r
end
def cS:Nat→List (List Nat×Nat)→List (Nat×Nat×Nat)
 | _,[]=>[]
 | b,(R,pw)::r=>(b,R.length,pw)::cS (b+R.length) r
def flt (Rs:List (List Nat×Nat)):List Nat:=(Rs.map (·.1)).flatten
theorem cD (l m:List (List Nat×Nat)):flt (l++m)=flt l++flt m:=by simp[flt]
theorem bi (R:List Nat)(pw:Nat)(m:List (List Nat×Nat)):flt ((R,pw)::m)=R++flt m:=by simp[flt]
theorem cX:∀ (b:Nat) (l m:List (List Nat×Nat)),cS b (l++m)=cS b l++cS (b+(flt l).length) m
 | b,[],m=>rfl
 | b,(R,pw)::l,m=>by
  rw[List.cons_append,cS,cS,cX (b+R.length) l m,bi,Yh,Nat.add_assoc]
  rfl
theorem bP:∀ (b:Nat) (l:List (List Nat×Nat)),(cS b l).length=l.length
 | _,[]=>rfl
 | b,(R,pw)::l=>by rw[cS,Yw,bP,Yw]
theorem qP {α:Type}{l:List α}{i:Nat}(h:i+1<l.length):∃ L x y T,l=L++x::y::T∧L.length=i:=by
 refine⟨l.take i,l[i],l[i+1],l.drop (i+2),?_,by rw[Zt];omega⟩
 rw[← Zc h,← Zc (by omega),YZ]
section
variable {prog:Program} {w:World} {A:Around} {E:Kv} {s:Shared} {n:Nat} {lt:Nat→Nat→Bool} {κ:SortKind} {it:Array Keyed}
structure SR (it:Array Keyed) (κ:SortKind) (lt:Nat→Nat→Bool) (n:Nat) (st:SortSt) (Rs:List (List Nat×Nat)) (T:List Nat):Prop where
 kind:PyProof.Rows.kindOf st=κ
 fail:failedOf st=none
 arr:arrOf st=KA it (flt Rs++T)
 perm:(flt Rs++T).Perm (List.range n)
 up:∀ R∈Rs,Up lt R.1∧R.1≠[]
 pend:(pendingOf st).toList=cS 0 Rs
theorem SR.len {st:SortSt}{Rs:List (List Nat×Nat)}{T:List Nat}(S:SR it κ lt n st Rs T):(flt Rs).length+T.length=n:=by
 have:=S.perm.length_eq
 rwa [Yh,Zv] at this
theorem SR.psize {st:SortSt}{Rs:List (List Nat×Nat)}{T:List Nat}(S:SR it κ lt n st Rs T):(pendingOf st).size=Rs.length:=by
 rw[← Za,S.pend,bP]
theorem qJ:∀ {Rs:List (List Nat×Nat)},(∀ R∈Rs,R.1≠[])→Rs.length≤(flt Rs).length
 | [],_=>Zm _
 | (R,pw)::Rs,h=>by
  have:=qJ (Rs:=Rs) fun R hR=>h R (Yb _ hR)
  have:=Xk.mpr (h (R,pw) Yc)
  rw[bi,Yh,Yw]
  dsimp only at this
  omega
theorem gW (O:Ord lt)(hC:Cmp prog w A E s n lt κ it){Ls Ts:List (List Nat×Nat)}{X Y T:List Nat}{pw pw2 i:Nat}{st:SortSt}{Q:Bool→SortSt→Prop}(S:SR it κ lt n st (Ls++(X,pw)::(Y,pw2)::Ts) T)(hi:Ls.length=i)
  (h:∀ Z st',SR it κ lt n st' (Ls++(Z,pw)::Ts) T→Z.length=X.length+Y.length→Q true st'):wpS (model prog w) A E s (mergeAt' i) Q st:=by
 have eL:flt (Ls++(X,pw)::(Y,pw2)::Ts)++T=flt Ls++X++Y++(flt Ts++T):=by simp[cD,bi]
 have ar:=S.arr
 rw[eL] at ar
 have pm:=S.perm
 rw[eL] at pm
 have est:st=SortSt.mk' κ (KA it (flt Ls++X++Y++(flt Ts++T))) (pendingOf st) (gallopOf st) none:=by
  have:st=SortSt.mk' (PyProof.Rows.kindOf st) (arrOf st) (pendingOf st) (gallopOf st) (failedOf st):=rfl
  rw[S.kind,ar,S.fail] at this
  exact this
 have pd:=S.pend
 rw[cX,ZU,cS,cS] at pd
 have gi:∀ j,(pendingOf st)[j]?=(pendingOf st).toList[j]?:=fun j=>by rw[Zw]
 have e1:(pendingOf st)[i]?=some ((flt Ls).length,X.length,pw):=by
  rw[gi,pd,YQ (by rw[bP];omega),bP,hi,Nat.sub_self]
  rfl
 have e2:(pendingOf st)[i+1]?=some ((flt Ls).length+X.length,Y.length,pw2):=by
  rw[gi,pd,YQ (by rw[bP];omega),bP,hi,Zi]
  rfl
 have uX:=S.up (X,pw) (by simp)
 have uY:=S.up (Y,pw2) (by simp)
 rw[est]
 refine ky O hC (fun x hx=>ZC.mp (pm.mem_iff.mp hx)) uX.1 uY.1 uX.2 uY.2 e1 e2 fun Z st' hZ uZ k1 k2 k3 k4=>h Z st' ⟨k1,k2,?_,?_,fun R hR=>?_,?_⟩ (by rw[hZ.length_eq,Yh])
 ·rw[k3]
  congr 1
  simp[cD,bi]
 ·refine List.Perm.trans ?_ pm
  rw[show flt (Ls++(Z,pw)::Ts)++T=flt Ls++(Z++(flt Ts++T)) by simp[cD,bi],show flt Ls++X++Y++(flt Ts++T)=flt Ls++((X++Y)++(flt Ts++T)) by simp]
  exact (hZ.append_right _).append_left _
 ·rcases Yt.mp hR with m | m
  ·exact S.up R (YL _ m)
  ·rcases YF.mp m with rfl | m
   ·exact⟨uZ,fun z=>by
     have q:=hZ.length_eq
     have u:=Xk.mpr uX.2
     dsimp only at z u
     rw[z,Yh,YR] at q
     omega⟩
   ·exact S.up R (Yv _ (Yb _ (Yb _ m)))
 ·rw[k4,Array.toList_eraseIdxIfInBounds,Array.toList_setIfInBounds,pd,cX,ZU,cS]
  have hl:(cS 0 Ls).length=i:=by rw[bP];exact hi
  rw[show Z.length=X.length+Y.length by rw[hZ.length_eq,Yh],← Nat.add_assoc]
  generalize cS 0 Ls=P at *
  generalize cS ((flt Ls).length+X.length+Y.length) Ts=U
  subst hl
  rw[List.set_append_right _ _ (Yr _),Nat.sub_self,List.set_cons_zero,List.eraseIdx_append_of_length_le (by omega),Zi]
  rfl
theorem oY {M:Model}{σ α β:Type}{c:β→Prop}[DecidablePred c]{m1 f:β→StateT σ Sem α}{Q:α→σ→Prop}{st:σ}{v0:β}(P:β→σ→Prop)(hf:∀ v st',P v st'→wpS M A E s (f v) Q st')
  (h1:c v0→(∀ v st',P v st'→wpS M A E s (f v) Q st')→wpS M A E s (m1 v0) Q st) (h2:¬ c v0→P v0 st):∀ v,v0=v→wpS M A E s (if c v then m1 v else f v) Q st:=by
 rintro v rfl
 by_cases q:c v0
 ·rw[Yk q];exact h1 q hf
 ·rw[Ym q];exact hf v0 st (h2 q)
theorem SR.sr {st st':SortSt}{Rs:List (List Nat×Nat)}{T:List Nat}{p:Array Nat}{m:Nat}(S:SR it κ lt n st Rs T)(S':SrP it st p st')(hp:PermN n p)(hl:Low (flt Rs++T).toArray p (flt Rs).length)(hm:(flt Rs).length+m≤n)(hr:RiL lt p (flt Rs).length ((flt Rs).length+m)) :
  ∃ T',SR it κ lt n st' Rs T'∧m≤T'.length∧Up lt (T'.take m)∧p=(flt Rs++T').toArray:=by
 have ge:∀ i,i<n→p.toList[i]?=some (p.getD i 0):=fun i hi=>by
  have:i<p.size:=by rw[hp.size];exact hi
  simp[Array.getD,this]
 have ln:=S.len
 have et:p.toList.take (flt Rs).length=flt Rs:=by
  refine Ve fun i=>?_
  by_cases hi:i<(flt Rs).length
  ·rw[Xo hi,ge i (by omega),hl i hi]
   have:i<(flt Rs).length+T.length:=by omega
   rw[Ye hi]
   have e2:(flt Rs++T).toArray.getD i 0=(flt Rs++T)[i]'(by rw[Yh];exact this):=by simp[Array.getD,this]
   rw[e2,List.getElem_append_left hi]
  ·rw[List.getElem?_take_eq_none (by omega),Zx (by omega)]
 have ep:flt Rs++p.toList.drop (flt Rs).length=p.toList:=by
  conv=>lhs;lhs;rw[← et]
  exact YZ _ _
 refine⟨p.toList.drop (flt Rs).length,⟨S'.kind.trans S.kind,S'.fail.trans S.fail,?_,?_,S.up,(Zz Array.toList S'.pend).trans S.pend⟩,?_,?_,?_⟩
 ·rw[S'.arr,ep]
  unfold KA
  rw[Array.toArray_toList]
 ·rw[ep];exact hp.perm
 ·rw[Zq,Za,hp.size];omega
 ·unfold Up
  rw[ZL]
  intro i j hi hj hij
  rw[Zt,Zq,Za,hp.size] at hi hj
  have q:∀ k,k<m→(flt Rs).length+k<n→∀ hk,((p.toList.drop (flt Rs).length).take m)[k]'hk=p.getD ((flt Rs).length+k) 0:=fun k h1 h2 hk=>by
   have:=ge _ h2
   rw[List.getElem_take,List.getElem_drop]
   have hs:=hp.size
   rw[← Za] at hs
   rw[Ye (hs.symm ▸ h2)] at this
   exact YH this
  rw[q i (by omega) (by omega),q j (by omega) (by omega)]
  exact hr _ _ (by omega) (by omega) (by omega)
 ·rw[ep,Array.toArray_toList]
theorem SR.srp {st:SortSt}{Rs:List (List Nat×Nat)}{T:List Nat}(S:SR it κ lt n st Rs T):SrP it st (flt Rs++T).toArray st∧PermN n (flt Rs++T).toArray:=
 ⟨⟨rfl,rfl,rfl,S.arr⟩,⟨by rw[Yo,Yh];exact S.len,S.perm⟩⟩
end
section
variable {prog:Program} {w:World} {A:Around} {E:Kv} {s:Shared} {n:Nat} {lt:Nat→Nat→Bool} {κ:SortKind} {it:Array Keyed}
theorem fG {α:Type}(f:α→α)(x:α):∀ P:List α,(P++[x]).modify P.length f=P++[f x]
 | []=>rfl
 | y::P=>by
  rw[List.cons_append,Yw,List.modify_succ_cons,fG f x P]
  rfl
theorem SR.push {st:SortSt}{Rs:List (List Nat×Nat)}{T:List Nat}{m:Nat}(S:SR it κ lt n st Rs T)(h1:1≤m)(h2:m≤T.length)(hu:Up lt (T.take m)) :
  SR it κ lt n (setPending st ((pendingOf st).push ((flt Rs).length,m,0))) (Rs++[(T.take m,0)]) (T.drop m):=by
 have e:flt (Rs++[(T.take m,0)])++T.drop m=flt Rs++T:=by
  rw[cD,bi,Ys]
  show flt Rs++(T.take m++[]++T.drop m)=_
  rw[YC,YZ]
 refine⟨S.kind,S.fail,by rw[e];exact S.arr,by rw[e];exact S.perm,fun R hR=>?_,?_⟩
 ·rcases Yt.mp hR with q | q
  ·exact S.up R q
  ·rw[YB] at q
   subst q
   refine⟨hu,fun z=>?_⟩
   have:=Zz List.length z
   rw[Zt,YR] at this
   omega
 ·show ((pendingOf st).push ((flt Rs).length,m,0)).toList=_
  rw[Array.toList_push,S.pend,cX,ZU]
  show _=cS 0 Rs++[((flt Rs).length,(T.take m).length,0)]
  rw[Zt,XX h2]
theorem SR.power {st:SortSt}{Rs:List (List Nat×Nat)}{T:List Nat}(S:SR it κ lt n st Rs T)(hR:Rs≠[])(pw:Nat)(f:Nat×Nat×Nat→Nat×Nat×Nat)(hf:∀ a b c,f (a,b,c)=(a,b,pw)) :
  ∃ Rs',SR it κ lt n (setPending st ((pendingOf st).modify ((pendingOf st).size-1) f)) Rs' T∧(flt Rs').length=(flt Rs).length:=by
 obtain⟨Ls,⟨X,p0⟩,rfl⟩:∃ Ls x,Rs=Ls++[x]:=⟨Rs.dropLast,Rs.getLast hR,(List.dropLast_concat_getLast hR).symm⟩
 have e:flt (Ls++[(X,pw)])=flt (Ls++[(X,p0)]):=by rw[cD,cD,bi,bi]
 have uX:=S.up (X,p0) (by simp)
 refine⟨Ls++[(X,pw)],⟨S.kind,S.fail,by rw[e];exact S.arr,by rw[e];exact S.perm,fun R hR=>?_,?_⟩,by rw[e]⟩
 ·rcases Yt.mp hR with q | q
  ·exact S.up R (YL _ q)
  ·rw[YB] at q
   subst q
   exact uX
 ·show ((pendingOf st).modify ((pendingOf st).size-1) f).toList=_
  rw[S.psize,Array.toList_modify,S.pend,cX,cX]
  rw[Yh,Ze,Xv]
  have hl:(cS 0 Ls).length=Ls.length:=bP _ _
  show (cS 0 Ls++[(0+(flt Ls).length,X.length,p0)]).modify Ls.length f=cS 0 Ls++[(0+(flt Ls).length,X.length,pw)]
  generalize 0+(flt Ls).length=B
  generalize cS 0 Ls=P at *
  rw[← hl,fG,hf]
theorem pN (O:Ord lt)(hC:Cmp prog w A E s n lt κ it)(hn:it.size=n){g:Nat}{Q:Unit→SortSt→Prop}
  (h:∀ l st',l.Perm (List.range n)→Up lt l→arrOf st'=KA it l→failedOf st'=none→Q () st'):wpS (model prog w) A E s sortRuns' Q (SortSt.mk' κ it #[] g none):=by
 have S0:SR it κ lt n (SortSt.mk' κ it #[] g none) [] (List.range n):=by
  refine⟨rfl,rfl,?_,.refl _,(fun R hR=>by cases hR),rfl⟩
  show it=KA it (List.range n)
  rw[← hn]
  exact (kas_range it).symm
 have hs0:(arrOf (SortSt.mk' κ it #[] g none)).size=n:=hn
 generalize SortSt.mk' κ it #[] g none=st0 at *
 rw[sortRuns'_eq]
 refine Yl (wpS_get ?_)
 rw[hs0]
 refine Yl (ZJ (Zg (I:=fun x (c:Option Unit×Nat) st'=>∃ Rs T,c=(none,(flt Rs).length)∧SR it κ lt n st' Rs T∧x≤(flt Rs).length) (Q:=fun (c:Option Unit×Nat) st'=>c.1=none∧∃ Rs,SR it κ lt n st' Rs []) ?_ (fun c st' z=>?_) ⟨[],_,rfl,S0,Zm _⟩) ?_)
 ·rintro x c st _ hx ⟨Rs,T,rfl,S,hle⟩
  have ln:=S.len
  by_cases hlo:(flt Rs).length ≥ n
  ·refine aH (Yq ⟨rfl,Rs,?_⟩) hlo
   have:T=[]:=Zj.mp (by omega)
   exact this ▸ S
  refine aq ?_ hlo
  refine Yl (qo (lo:=(flt Rs).length) O hC S.kind (by omega) S.srp.1 S.srp.2 fun m p st1 m1 m2 S1 hp1 hl1 hr1=>?_)
  obtain⟨T1,SR1,le1,up1,rfl⟩:=S.sr S1 hp1 hl1 (by omega) hr1
  dsimp only
  generalize hmv:m=mv
  revert mv hmv
  refine oY (P:=fun v st'=>∃ T',SR it κ lt n st' Rs T'∧1≤v∧v≤T'.length∧Up lt (T'.take v)) ?_ ?_ ?_
  ·rintro v st2 ⟨T2,S2,v1,v2,uv⟩
   refine Yl (wpS_get ?_)
   have last:∀ Rs' st',SR it κ lt n st' Rs' T2→(flt Rs').length=(flt Rs).length→∃ Rs T,SR it κ lt n (setPending st' ((pendingOf st').push ((flt Rs').length,v,0))) Rs T∧(flt Rs).length=(flt Rs').length+v:=fun Rs' st' S' e=>by
    refine⟨_,_,S'.push v1 v2 uv,?_⟩
    rw[cD,bi,Yh,Yh,Zt,XX v2]
    rfl
   cases hb:(pendingOf st2).back? with
   | none=>
    refine Yl (XB ?_)
    obtain⟨Rs',T',S',e⟩:=last Rs st2 S2 rfl
    exact Yq ⟨Rs',T',by rw[e],S',by rw[e];omega⟩
   | some b=>
    obtain⟨s1,n1,pw1⟩:=b
    have ne:Rs≠[]:=fun z=>by
     have:=S2.psize
     rw[z] at this
     have:pendingOf st2=#[]:=Array.eq_empty_of_size_eq_zero this
     rw[this] at hb
     cases hb
    dsimp only
    generalize power' n (2*s1+n1) (2*s1+n1+n1+v) n=pw
    refine Yl (ZJ (Zg (I:=fun y (c:Option Unit×Unit) st'=>c=(none,())∧∃ Rs',SR it κ lt n st' Rs' T2∧(flt Rs').length=(flt Rs).length∧Rs'≠[]) (Q:=fun (c:Option Unit×Unit) st'=>c=(none,())∧∃ Rs',SR it κ lt n st' Rs' T2∧(flt Rs').length=(flt Rs).length∧Rs'≠[]) ?_ (fun c st' z=>z) ⟨rfl,Rs,S2,rfl,ne⟩) ?_)
    ·rintro y c st3 _ _ ⟨rfl,Rs3,S3,e3,ne3⟩
     refine Yl (wpS_get ?_)
     by_cases hz:(pendingOf st3).size > 1
     ·rw[Yk hz]
      have ps:=S3.psize
      rw[Array.getElem?_eq_getElem (by omega)]
      obtain⟨f1,f2,older⟩:=(pendingOf st3)[(pendingOf st3).size-2]
      dsimp only
      by_cases ho:older≤pw
      ·rw[Yk ho]
       exact Yq ⟨rfl,Rs3,S3,e3,ne3⟩
      ·rw[Ym ho]
       obtain⟨Ls,⟨X,q1⟩,⟨Y,q2⟩,Ts,eR,el⟩:=qP (l:=Rs3) (i:=(pendingOf st3).size-2) (by omega)
       subst eR
       refine Yl (gW O hC S3 el fun Z st4 S4 lz=>?_)
       refine aq (Yq ⟨rfl,_,S4,?_,by simp⟩) (by decide)
       rw[← e3]
       simp only[cD,bi,Yh,lz]
       omega
     ·rw[Ym hz]
      exact Yq ⟨rfl,Rs3,S3,e3,ne3⟩
    ·rintro c st3 ⟨rfl,Rs3,S3,e3,ne3⟩
     refine Yl (XB ?_)
     obtain⟨Rs4,S4,e4⟩:=S3.power ne3 pw (fun x=>match x with | (st,len,snd)=>(st,len,pw)) (fun _ _ _=>rfl)
     refine Yl (XB ?_)
     obtain⟨Rs',T',S',e⟩:=last Rs4 _ S4 (e4.trans e3)
     have e':(flt Rs4).length=(flt Rs).length:=e4.trans e3
     rw[e'] at S' e
     exact Yq ⟨Rs',T',by rw[e],S',by rw[e];omega⟩
  ·intro hmr H
   refine Yl (wpS_lift (Vd ⟨rfl,?_⟩))
   refine Yl (wB O hC S.kind (lo:=(flt Rs).length) (m:=min (n-(flt Rs).length) (minRun' n n 0)) (by omega) m1 (by omega) S1 hp1 hr1 fun p st2 S2 hp2 hl2 hr2=>?_)
   refine aq ?_ (by decide)
   obtain⟨T2,SR2,le2,up2,rfl⟩:=S.sr S2 hp2 (fun i hi=>(hl2 i hi).trans (hl1 i hi)) (by omega) hr2
   exact H _ st2 ⟨T2,SR2,by omega,le2,up2⟩
  ·exact fun _=>⟨T1,SR1,m1,le1,up1⟩
 ·obtain⟨Rs,T,rfl,S,hle⟩:=z
  have ln:=S.len
  have:T=[]:=Zj.mp (by omega)
  exact⟨rfl,Rs,this ▸ S⟩
 ·rintro⟨c0,lo⟩ st ⟨rfl,Rs,S⟩
  have ln:=S.len
  rw[YR,Nat.add_zero] at ln
  refine Yl (ZJ (Zg (I:=fun y (c:Option Unit×Unit) st'=>c=(none,())∧∃ Rs,SR it κ lt n st' Rs []∧Rs.length+y≤n) (Q:=fun (c:Option Unit×Unit) st'=>c=(none,())∧∃ Rs,SR it κ lt n st' Rs []∧Rs.length≤1) ?_ (fun c st' z=>?_) ⟨rfl,Rs,S,by have:=qJ (fun R hR=>(S.up R hR).2);omega⟩) ?_)
  ·rintro y c st3 _ hy ⟨rfl,Rs3,S3,le3⟩
   refine Yl (wpS_get ?_)
   have ps:=S3.psize
   by_cases hz:(pendingOf st3).size≤1
   ·exact aH (Yq ⟨rfl,Rs3,S3,by omega⟩) hz
   refine aq ?_ hz
   dsimp only
   generalize hb:Option.any _ _=b
   have hi:(if b=true then (pendingOf st3).size-2-1 else (pendingOf st3).size-2)+1<Rs3.length:=by split <;> omega
   obtain⟨Ls,⟨X,q1⟩,⟨Y,q2⟩,Ts,eR,el⟩:=qP hi
   subst eR
   refine Yl (gW O hC S3 el fun Z st4 S4 lz=>?_)
   refine aq (Yq ⟨rfl,_,S4,?_⟩) (by decide)
   rw[Yh,Yw] at le3 ⊢
   rw[Yw] at le3
   omega
  ·obtain⟨z1,Rs,S,le⟩:=z
   exact⟨z1,Rs,S,by omega⟩
  ·rintro c st3 ⟨rfl,Rs3,S3,le3⟩
   refine Yq (h _ st3 S3.perm ?_ S3.arr S3.fail)
   rw[YC]
   match Rs3,le3,S3 with
   | [],_,_=>exact List.Pairwise.nil
   | [(R,pw)],_,S3=>
    rw[bi]
    show Up lt (R++[])
    rw[YC]
    exact (S3.up (R,pw) Yc).1
end
section
variable {prog:Program} {w:World} {A:Around} {E:Kv} {s:Shared}
def fJ (vs:List Value)(p:Array Nat):Array Value:=(p.toList.map fun i=>vs.getD i Value.none).toArray
theorem oD (vs:List Value)(h:vs.length<2):fJ vs (List.toArray (List.range vs.length))=(vs.toArray.zip vs.toArray).map (·.2):=by
 cases vs with
 | nil=>simp[fJ]
 | cons v r=>
  cases r with
  | nil=>simp[fJ,List.range,List.range.loop]
  | cons _ _=>simp at h;omega
theorem iu {a:Addr}{vs:List Value}{n:Nat}{P:PySem.Fin→Shared→Prop}(ho:s.heap.get? a=some (seqObj "list" vs.toArray n))(h64:vs.length<16777216)(κ:SortKind)(lt:Nat→Nat→Bool)(o:Ord lt)
  (hk:2≤vs.length→∀ h',(∀ b u,b≠a→s.heap.get? b=some u→h'.get? b=some u)→∀ Q:SortKind→Shared→Prop,Q κ { s with heap:=h' }→wpAny (model prog w) A (keyKind' vs.toArray) Q E { s with heap:=h' })
  (hc:∀ h',(∀ b u,b≠a→s.heap.get? b=some u→h'.get? b=some u)→∀ i j C,i<vs.length→j<vs.length→C (lt i j) { s with heap:=h' }→kas_ask prog w A κ vs i j C { s with heap:=h' })
  (h:∀ p,PermN vs.length p→Ris lt p vs.length→P (.done (.ret .none)) { s with heap:=sortedHeap s.heap a vs (fJ vs p) }) :
  wpAny (model prog w) A (Builtin.«list.sort» ⟨[.ref a],[]⟩) P E s:=by
 rw[list_sort_plain]
 have ha:a<s.heap.objs.size:=Yn ho
 refine Yj (listItems_at ho rfl ?_)
 refine Yj (listUpdate_at ho rfl ?_ (by rw[Yo,YS];omega) (Zm _))
 obtain⟨e1,ho1⟩:∃ e1,(s.heap.update a (Obj.mapSeq fun _=>(#[]:Array Value))).get? a=some (seqObj "list" #[] e1):=⟨_,get?_update_seq ho (fun _=>#[])⟩
 refine Yj (seqEpoch_at ho1 rfl ?_)
 refine Yj (wpAny_newTuple ?_ (by show vs.length≤_;rw[YS];omega))
 refine Yj (wpAny_newList ?_ (Zm _))
 refine Zp ?_
 have ho6:(((s.heap.update a (Obj.mapSeq fun _=>(#[]:Array Value))).push (seqObj "tuple" vs.toArray 0)).push (seqObj "list" #[] 0)).get? a=some (seqObj "list" #[] e1):=by
  rw[Xe _ _ _ (by rw[size_push',XI];exact Yy (ZR ha)),Xe _ _ _ (by rw[XI];exact Yy ha)]
  exact ho1
 have kept:∀ b u,b≠a→s.heap.get? b=some u→(((s.heap.update a (Obj.mapSeq fun _=>(#[]:Array Value))).push (seqObj "tuple" vs.toArray 0)).push (seqObj "list" #[] 0)).get? b=some u:=fun b u hb e=>by
  have hlt:b<s.heap.objs.size:=Yn e
  rw[Xe _ _ _ (by rw[size_push',XI];exact Yy (ZR hlt)),Xe _ _ _ (by rw[XI];exact Yy hlt),Heap.get?_update_ne _ _ _ _ hb]
  exact e
 show wpAny (model prog w) A _ P E { s with heap:=((s.heap.update a (Obj.mapSeq fun _=>(#[]:Array Value))).push (seqObj "tuple" vs.toArray 0)).push (seqObj "list" #[] 0) }
 dsimp only
 have hsz:vs.toArray.size=vs.length:=by simp
 by_cases h2:vs.toArray.size<2
 ·rw[Yk h2,Yk h2]
  refine Yj (Yu ?_)
  rw[StateT.run_pure]
  refine Yj (Yu ?_)
  dsimp only
  refine Yj (seqEpoch_at ho6 rfl ?_)
  refine Yj (listUpdate_at ho6 rfl ?_ (Zm _) (by rw[Array.size_map];show (pairsOf vs).size≤_;rw[pairsOf_size,YS];omega))
  simp only[bne_self_eq_false,Xu,if_false]
  have q:=h (List.toArray (List.range vs.length)) (lQ _) (fun i j hij hj=>by
   have e1:i=j:=by omega
   subst e1
   exact o.irr _)
  have e:fJ vs (List.toArray (List.range vs.length))=(vs.toArray.zip vs.toArray).map (·.2):=by
   exact oD vs (by omega)
  rw[e] at q
  exact Yu q
 ·rw[Ym h2,Ym h2]
  have h2':2≤vs.length:=by omega
  refine Yj (hk h2' _ kept _ ?_)
  have hC:Cmp prog w A E { s with heap:=((s.heap.update a (Obj.mapSeq fun _=>(#[]:Array Value))).push (seqObj "tuple" vs.toArray 0)).push (seqObj "list" #[] 0) } vs.length lt κ (pairsOf vs):=vG fun i j C hi hj q=>by
   have:=hc _ kept i j C hi hj q
   rwa [kas_ask_eq] at this
  have run:=pN (g:=7) o hC (by rw[pairsOf_size]) (Q:=fun _ st'=>∃ p:Array Nat,PermN vs.length p∧Ris lt p vs.length∧arrOf st'=p.map (kas_item (vs.toArray.zip vs.toArray))∧failedOf st'=none) fun l st' h1 h2 h3 h4=>⟨l.toArray,⟨by rw[Yo,h1.length_eq,Zv],h1⟩,fun i j hij hj=>by
   have hl:l.length=vs.length:=by rw[h1.length_eq,Zv]
   have ge:∀ k,k<vs.length→l[k]?=some (l.toArray.getD k 0):=fun k hk=>by
    have:k<l.length:=by omega
    simp[Array.getD,this]
   exact d4 h2 o hij (ge i (by omega)) (ge j hj),h3,h4⟩
  refine Yj (Zn run ?_ fun _ _ e=>e)
  rintro⟨⟨⟩,st'⟩ s' ⟨rfl,p,hp,hr,har,hf⟩
  dsimp only
  have hout:=kat_snds rfl har
  rw[hout]
  refine Yj (seqEpoch_at ho6 rfl ?_)
  refine Yj (listUpdate_at ho6 rfl ?_ (Zm _) (by rw[Yo,Yf,Za,hp.size,YS];omega))
  rw[hf]
  simp only[bne_self_eq_false,Xu,if_false]
  exact Yu (h p hp hr)
end
theorem sx {x y:Str}(h:x.cps.toList=y.cps.toList):x=y:=by
 cases x;cases y
 congr
 exact Array.toList_inj.mp h
mutual
theorem cJ:∀ x y:D,ah x y=true→(eqd x y=true↔x=y)
 | .int i,.int j,_=>by simp[eqd,bG,PyData.eqv]
 | .bl a,.bl b,_=>by simp[eqd,bG,PyData.eqv]
 | .str a,.str b,_=>by simp[eqd,bG,PyData.eqv]
 | .tup xs,.tup ys,h=>by
  have:=gN xs ys (by simpa[ah] using h)
  simp only[eqd,bG,PyData.eqv,D.tup.injEq]
  exact this
 | .non,y,h=>by cases y <;> simp[ah] at h
 | .lst _,y,h=>by cases y <;> simp[ah] at h
 | .dT _,y,h=>by cases y <;> simp[ah] at h
 | .dK _,y,h=>by cases y <;> simp[ah] at h
 | .ins _ _,y,h=>by cases y <;> simp[ah] at h
 | .int _,.non,h=>by simp[ah] at h
 | .int _,.bl _,h=>by simp[ah] at h
 | .int _,.str _,h=>by simp[ah] at h
 | .int _,.tup _,h=>by simp[ah] at h
 | .int _,.lst _,h=>by simp[ah] at h
 | .int _,.dT _,h=>by simp[ah] at h
 | .int _,.dK _,h=>by simp[ah] at h
 | .int _,.ins _ _,h=>by simp[ah] at h
 | .bl _,.non,h=>by simp[ah] at h
 | .bl _,.int _,h=>by simp[ah] at h
 | .bl _,.str _,h=>by simp[ah] at h
 | .bl _,.tup _,h=>by simp[ah] at h
 | .bl _,.lst _,h=>by simp[ah] at h
 | .bl _,.dT _,h=>by simp[ah] at h
 | .bl _,.dK _,h=>by simp[ah] at h
 | .bl _,.ins _ _,h=>by simp[ah] at h
 | .str _,.non,h=>by simp[ah] at h
 | .str _,.bl _,h=>by simp[ah] at h
 | .str _,.int _,h=>by simp[ah] at h
 | .str _,.tup _,h=>by simp[ah] at h
 | .str _,.lst _,h=>by simp[ah] at h
 | .str _,.dT _,h=>by simp[ah] at h
 | .str _,.dK _,h=>by simp[ah] at h
 | .str _,.ins _ _,h=>by simp[ah] at h
 | .tup _,.non,h=>by simp[ah] at h
 | .tup _,.bl _,h=>by simp[ah] at h
 | .tup _,.int _,h=>by simp[ah] at h
 | .tup _,.str _,h=>by simp[ah] at h
 | .tup _,.lst _,h=>by simp[ah] at h
 | .tup _,.dT _,h=>by simp[ah] at h
 | .tup _,.dK _,h=>by simp[ah] at h
 | .tup _,.ins _ _,h=>by simp[ah] at h
theorem gN:∀ xs ys:List D,aI xs ys=true→(PyData.eqvAll (bB xs) (bB ys)=true↔xs=ys)
 | [],[],_=>by simp[bB,PyData.eqvAll]
 | [],_::_,_=>by simp[bB,PyData.eqvAll]
 | _::_,[],_=>by simp[bB,PyData.eqvAll]
 | x::xs,y::ys,h=>by
  rw[aI,Yx] at h
  have h1:=cJ x y h.1
  have h2:=gN xs ys h.2
  simp only[bB,PyData.eqvAll,Yx,List.cons.injEq]
  rw[h2]
  unfold eqd at h1
  rw[h1]
end
structure Fc2 {α:Type} (l:α→α→Bool) (x y:α):Prop where
 as:l x y=true→l y x=false
 an:l x y=false→l y x=false→x=y
def Fc3 {α:Type}(l:α→α→Bool)(x y z:α):Prop:=l x y=true→l y z=true→l x z=true
theorem aD {x y:D}(h:ah x y=true):(∃ i j,x=.int i∧y=.int j)∨(∃ i j,x=.bl i∧y=.bl j)∨(∃ i j,x=.str i∧y=.str j)∨∃ i j,x=.tup i∧y=.tup j∧aI i j=true:=by
 cases x with
 | int i=>
  refine .inl ?_
  cases y with
  | int j=>exact⟨_,_,rfl,rfl⟩
  | _=>exact absurd h Yg
 | bl i=>
  refine .inr (.inl ?_)
  cases y with
  | bl j=>exact⟨_,_,rfl,rfl⟩
  | _=>exact absurd h Yg
 | str i=>
  refine .inr (.inr (.inl ?_))
  cases y with
  | str j=>exact⟨_,_,rfl,rfl⟩
  | _=>exact absurd h Yg
 | tup i=>
  refine .inr (.inr (.inr ?_))
  cases y with
  | tup j=>exact⟨_,_,rfl,rfl,h⟩
  | _=>exact absurd h Yg
 | _=>exact absurd h Yg
theorem oH {a b:List Nat}(h:a<b):¬ b<a:=fun h'=>List.lt_irrefl a (List.lt_trans h h')
theorem eW {x y:D}(h1:ah x y=true)(ht:eX x=false):Fc2 ltD x y:=by
 rcases aD h1 with⟨i,j,rfl,rfl⟩ | ⟨i,j,rfl,rfl⟩ | ⟨i,j,rfl,rfl⟩ | ⟨i,j,rfl,rfl,_⟩
 ·refine⟨fun h=>?_,fun h h'=>?_⟩
  ·simp only[ltD,YX,ZX] at h ⊢;omega
  ·simp only[ltD,ZX] at h h';rw[show i=j by omega]
 ·refine⟨fun h=>?_,fun h h'=>?_⟩
  ·cases i <;> cases j <;> simp_all [ltD]
  ·cases i <;> cases j <;> simp_all [ltD]
 ·refine⟨fun h=>?_,fun h h'=>?_⟩
  ·simp only[ltD,YX,ZX] at h ⊢;exact oH h
  ·simp only[ltD,ZX] at h h'
   rw[sx (List.le_antisymm h' h)]
 ·cases ht
theorem e6 {x y z:D}(h1:ah x y=true)(h2:ah y z=true)(ht:eX x=false):Fc3 ltD x y z:=by
 rcases aD h1 with⟨i,j,rfl,rfl⟩ | ⟨i,j,rfl,rfl⟩ | ⟨i,j,rfl,rfl⟩ | ⟨i,j,rfl,rfl,_⟩
 ·rcases aD h2 with⟨j',k,e,rfl⟩ | ⟨j',k,e,rfl⟩ | ⟨j',k,e,rfl⟩ | ⟨j',k,e,rfl,_⟩ <;> cases e
  intro h h'
  simp only[ltD,YX] at h h' ⊢;omega
 ·rcases aD h2 with⟨j',k,e,rfl⟩ | ⟨j',k,e,rfl⟩ | ⟨j',k,e,rfl⟩ | ⟨j',k,e,rfl,_⟩ <;> cases e
  intro h h'
  cases i <;> cases j <;> cases k <;> simp_all [ltD]
 ·rcases aD h2 with⟨j',k,e,rfl⟩ | ⟨j',k,e,rfl⟩ | ⟨j',k,e,rfl⟩ | ⟨j',k,e,rfl,_⟩ <;> cases e
  intro h h'
  simp only[ltD,YX] at h h' ⊢;exact List.lt_trans h h'
 ·cases ht
theorem pf (n:Nat):∀ x y:D,okN n x=true→ah x y=true→ah y x=true:=by
 induction n with
 | zero=>
  intro x y o h
  rcases aD h with⟨i,j,rfl,rfl⟩ | ⟨i,j,rfl,rfl⟩ | ⟨i,j,rfl,rfl⟩ | ⟨i,j,rfl,rfl,_⟩
  ·rfl
  ·rfl
  ·rfl
  ·simp[okN] at o
 | succ n ih=>
  intro x y o h
  rcases aD h with⟨i,j,rfl,rfl⟩ | ⟨i,j,rfl,rfl⟩ | ⟨i,j,rfl,rfl⟩ | ⟨i,j,rfl,rfl,hc⟩
  ·rfl
  ·rfl
  ·rfl
  ·have key:∀ (xs ys:List D),(∀ d∈xs,okN n d=true)→aI xs ys=true→aI ys xs=true:=by
    intro xs
    induction xs with
    | nil=>intro ys _ _;cases ys <;> simp[aI]
    | cons x xs ihx=>
     intro ys ho hc
     cases ys with
     | nil=>simp[aI]
     | cons y ys=>
      rw[aI,Yx] at hc ⊢
      exact⟨ih x y (ho x Yc) hc.1,ihx ys (fun d hd=>ho d (Yb _ hd)) hc.2⟩
   rw[ah]
   exact key i j (bw o) hc
theorem sD {n:Nat}(ih:∀ x y:D,okN n x=true→okN n y=true→ah x y=true→Fc2 ltD x y) :
  ∀ (xs ys:List D),(∀ d∈xs,okN n d=true)→(∀ d∈ys,okN n d=true)→aI xs ys=true→Fc2 aA xs ys:=by
 intro xs
 induction xs with
 | nil=>
  intro ys _ _ _
  refine⟨fun h=>?_,fun h h'=>?_⟩
  ·cases ys <;> simp_all [aA]
  ·cases ys <;> simp_all [aA]
 | cons x xs ihx=>
  intro ys ox oy c1
  cases ys with
  | nil=>
   refine⟨fun h=>?_,fun h h'=>?_⟩
   ·simp[aA] at h
   ·simp[aA] at h'
  | cons y ys=>
   rw[aI,Yx] at c1
   have px:=ox x Yc
   have py:=oy y Yc
   have exy:=cJ x y c1.1
   have eyx:=cJ y x (pf n x y px c1.1)
   have G:=ihx ys (fun d hd=>ox d (Yb _ hd)) (fun d hd=>oy d (Yb _ hd)) c1.2
   refine⟨fun h=>?_,fun h h'=>?_⟩
   ·rw[aA] at h ⊢
    by_cases hxy:x=y
    ·rw[Yk (exy.mpr hxy)] at h
     rw[Yk (eyx.mpr hxy.symm)]
     exact G.as h
    ·rw[Ym (fun q=>hxy (exy.mp q))] at h
     rw[Ym (fun q=>hxy (eyx.mp q).symm)]
     exact (ih x y px py c1.1).as h
   ·rw[aA] at h h'
    by_cases hxy:x=y
    ·rw[Yk (exy.mpr hxy)] at h
     rw[Yk (eyx.mpr hxy.symm)] at h'
     rw[hxy,G.an h h']
    ·rw[Ym (fun q=>hxy (exy.mp q))] at h
     rw[Ym (fun q=>hxy (eyx.mp q).symm)] at h'
     exact absurd ((ih x y px py c1.1).an h h') hxy
theorem dL (n:Nat):∀ x y:D,okN n x=true→okN n y=true→ah x y=true→Fc2 ltD x y:=by
 induction n with
 | zero=>
  intro x y ox oy c1
  refine eW c1 ?_
  cases x <;> first | rfl | (simp[okN] at ox)
 | succ n ih=>
  intro x y ox oy c1
  rcases aD c1 with⟨i,j,rfl,rfl⟩ | ⟨i,j,rfl,rfl⟩ | ⟨i,j,rfl,rfl⟩ | ⟨i,j,rfl,rfl,d1⟩
  ·exact eW c1 rfl
  ·exact eW c1 rfl
  ·exact eW c1 rfl
  ·have F:=sD ih i j (bw ox) (bw oy) d1
   refine⟨fun h=>?_,fun h h'=>?_⟩
   ·rw[ltD] at h ⊢;exact F.as h
   ·rw[ltD] at h h';rw[F.an h h']
theorem tK {n:Nat}(ih:∀ x y z:D,okN n x=true→okN n y=true→okN n z=true→ah x y=true→ah y z=true→ah x z=true→Fc3 ltD x y z) :
  ∀ (xs ys zs:List D),(∀ d∈xs,okN n d=true)→(∀ d∈ys,okN n d=true)→(∀ d∈zs,okN n d=true)→aI xs ys=true→aI ys zs=true→aI xs zs=true→Fc3 aA xs ys zs:=by
 intro xs
 induction xs with
 | nil=>
  intro ys zs _ _ _ _ _ _ h h'
  cases ys <;> cases zs <;> simp_all [aA]
 | cons x xs ihx=>
  intro ys zs ox oy oz c1 c2 c3 h h'
  cases ys with
  | nil=>simp[aA] at h
  | cons y ys=>
   rw[aI,Yx] at c1
   have px:=ox x Yc
   have py:=oy y Yc
   have exy:=cJ x y c1.1
   cases zs with
   | nil=>simp[aA] at h'
   | cons z zs=>
    rw[aI,Yx] at c2 c3
    have pz:=oz z Yc
    have eyz:=cJ y z c2.1
    have exz:=cJ x z c3.1
    have F:=ih x y z px py pz c1.1 c2.1 c3.1
    rw[aA] at h h' ⊢
    by_cases hxy:x=y
    ·rw[Yk (exy.mpr hxy)] at h
     by_cases hyz:y=z
     ·rw[Yk (eyz.mpr hyz)] at h'
      rw[Yk (exz.mpr (hxy.trans hyz))]
      exact ihx ys zs (fun d hd=>ox d (Yb _ hd)) (fun d hd=>oy d (Yb _ hd)) (fun d hd=>oz d (Yb _ hd)) c1.2 c2.2 c3.2 h h'
     ·rw[Ym (fun q=>hyz (eyz.mp q))] at h'
      rw[Ym (fun q=>hyz (hxy.symm.trans (exz.mp q)))]
      rw[hxy];exact h'
    ·rw[Ym (fun q=>hxy (exy.mp q))] at h
     by_cases hyz:y=z
     ·rw[Ym (fun q=>hxy ((exz.mp q).trans hyz.symm))]
      rw[← hyz];exact h
     ·rw[Ym (fun q=>hyz (eyz.mp q))] at h'
      have hxz:=F h h'
      by_cases he:x=z
      ·subst he
       have:=(dL n x y px py c1.1).as h
       rw[h'] at this
       cases this
      ·rw[Ym (fun q=>he (exz.mp q))]
       exact hxz
theorem sA (n:Nat):∀ x y z:D,okN n x=true→okN n y=true→okN n z=true→ah x y=true→ah y z=true→ah x z=true→Fc3 ltD x y z:=by
 induction n with
 | zero=>
  intro x y z ox oy oz c1 c2 c3
  refine e6 c1 c2 ?_
  cases x <;> first | rfl | (simp[okN] at ox)
 | succ n ih=>
  intro x y z ox oy oz c1 c2 c3
  rcases aD c1 with⟨i,j,rfl,rfl⟩ | ⟨i,j,rfl,rfl⟩ | ⟨i,j,rfl,rfl⟩ | ⟨i,j,rfl,rfl,d1⟩
  ·exact e6 c1 c2 rfl
  ·exact e6 c1 c2 rfl
  ·exact e6 c1 c2 rfl
  ·rcases aD c2 with⟨j',k,e,rfl⟩ | ⟨j',k,e,rfl⟩ | ⟨j',k,e,rfl⟩ | ⟨j',k,e,rfl,d2⟩ <;> cases e
   have F:=tK ih i j k (bw ox) (bw oy) (bw oz) d1 d2 (by simpa[ah] using c3)
   intro h h'
   rw[ltD] at h h' ⊢
   exact F h h'
def oJ (x:D):List D→List D
 | []=>[x]
 | y::r=>if ltD x y=true then x::y::r else y::oJ x r
def cq:List D→List D
 | []=>[]
 | x::r=>oJ x (cq r)
theorem fB (x:D):∀ l:List D,(oJ x l).Perm (x::l)
 | []=>.refl _
 | y::r=>by
  unfold oJ
  split
  ·exact .refl _
  ·exact ((fB x r).cons y).trans (.swap x y r)
theorem bh:∀ l:List D,(cq l).Perm l
 | []=>.refl _
 | x::r=>(fB x (cq r)).trans ((bh r).cons x)
def Cmps (n:Nat)(ds:List D):Prop:=(∀ d∈ds,okN n d=true)∧∀ x∈ds,∀ y∈ds,ah x y=true
theorem kW {n:Nat}:∀ {as bs:List D},as.Perm bs→Cmps n as→as.Pairwise (fun x y=>ltD y x=false)→bs.Pairwise (fun x y=>ltD y x=false)→as=bs:=by
 intro as
 induction as with
 | nil=>intro bs hp _ _ _;exact (List.Perm.nil_eq hp)
 | cons a as ih=>
  intro bs hp hc pa pb
  cases bs with
  | nil=>exact absurd hp.symm (List.not_perm_nil_cons _ _)
  | cons b bs=>
   have ma:a∈b::bs:=hp.mem_iff.mp Yc
   have mb:b∈a::as:=hp.mem_iff.mpr Yc
   have e:a=b:=by
    rcases YF.mp ma with h | h
    ·exact h
    ·rcases YF.mp mb with h' | h'
     ·exact h'.symm
     ·have l1:=(Zd.mp pa).1 b h'
      have l2:=(Zd.mp pb).1 a h
      exact (dL n a b (hc.1 a Yc) (hc.1 b mb) (hc.2 a Yc b mb)).an l2 l1
   subst e
   rw[ih (List.Perm.cons_inv hp) ⟨fun d hd=>hc.1 d (Yb _ hd),fun x hx y hy=>hc.2 x (Yb _ hx) y (Yb _ hy)⟩ (Zd.mp pa).2 (Zd.mp pb).2]
theorem Cmps.perm {n:Nat}{as bs:List D}(h:Cmps n as)(p:as.Perm bs):Cmps n bs:=⟨fun d hd=>h.1 d (p.mem_iff.mpr hd),fun x hx y hy=>h.2 x (p.mem_iff.mpr hx) y (p.mem_iff.mpr hy)⟩
theorem iM {n:Nat}{x y z:D}(ox:okN n x=true)(oy:okN n y=true)(oz:okN n z=true)(cxy:ah x y=true)(cyz:ah y z=true)(cxz:ah x z=true)(cyx:ah y x=true)(czy:ah z y=true)(czx:ah z x=true)
  (h1:ltD y x=false) (h2:ltD z y=false):ltD z x=false:=by
 cases q:ltD z x with
 | false=>rfl
 | true=>
  -- z<x;x≤y
  by_cases hxy:ltD x y=true
  ·have:=sA n z x y oz ox oy czx cxy czy q hxy
   rw[h2] at this;cases this
  ·have e:x=y:=(dL n x y ox oy cxy).an (by simpa using hxy) h1
   subst e
   rw[h2] at q;cases q
theorem fM {n:Nat}{x:D}:∀ {l:List D},Cmps n (x::l)→l.Pairwise (fun a b=>ltD b a=false)→(oJ x l).Pairwise (fun a b=>ltD b a=false)
 | [],_,_=>ZB _ _
 | y::r,hc,hp=>by
  have mx:x∈x::y::r:=Yc
  have my:y∈x::y::r:=Yb _ Yc
  obtain⟨h1,h2⟩:=Zd.mp hp
  unfold oJ
  split
  ·rename_i q
   refine Zd.mpr ⟨fun z hz=>?_,hp⟩
   have hyx:ltD y x=false:=(dL n x y (hc.1 x mx) (hc.1 y my) (hc.2 x mx y my)).as q
   rcases YF.mp hz with rfl | hz
   ·exact hyx
   ·have mz:z∈x::y::r:=Yb _ (Yb _ hz)
    exact iM (hc.1 x mx) (hc.1 y my) (hc.1 z mz) (hc.2 x mx y my) (hc.2 y my z mz) (hc.2 x mx z mz) (hc.2 y my x mx) (hc.2 z mz y my) (hc.2 z mz x mx) hyx (h1 z hz)
  ·rename_i q
   refine Zd.mpr ⟨fun z hz=>?_,fM (x:=x) ⟨fun d hd=>hc.1 d ?_,fun a ha b hb=>hc.2 a ?_ b ?_⟩ h2⟩
   ·rcases YF.mp ((fB x r).mem_iff.mp hz) with rfl | hz
    ·simpa using q
    ·exact h1 z hz
   all_goals
    first
     | (
      rcases YF.mp hd with rfl | hd
      ·exact mx
      ·exact Yb _ (Yb _ hd))
     | (
      rcases YF.mp ha with rfl | ha
      ·exact mx
      ·exact Yb _ (Yb _ ha))
     | (
      rcases YF.mp hb with rfl | hb
      ·exact mx
      ·exact Yb _ (Yb _ hb))
theorem Cmps.sub {n:Nat}{as bs:List D}(h:Cmps n bs)(k:∀ x∈as,x∈bs):Cmps n as:=⟨fun d hd=>h.1 d (k d hd),fun x hx y hy=>h.2 x (k x hx) y (k y hy)⟩
theorem c8 {n:Nat}:∀ {l:List D},Cmps n l→(cq l).Pairwise (fun a b=>ltD b a=false)
 | [],_=>.nil
 | x::r,hc=>fM (hc.sub fun y hy=>by
   rcases YF.mp hy with rfl | hy
   ·exact Yc
   ·exact Yb _ ((bh r).mem_iff.mp hy)) (c8 (hc.sub fun y hy=>Yb _ hy))
theorem mf {n:Nat}{as bs:List D}(hp:as.Perm bs)(hc:Cmps n bs)(hs:as.Pairwise (fun x y=>ltD y x=false)):as=cq bs:=
 kW (hp.trans (bh bs).symm) (hc.perm hp.symm) hs (c8 hc)
end L2
namespace L2
open PySem PySem.Spec PyProof.Rows
section
variable {X:Cx} {e a b c o:Expr} {es:List Expr} {pos p:Pos}
theorem p_ {K:Kq}{H:Hp}{x:V}{i:Str}(r:Rep K H x (.str i)):x=.str i:=by cases r;rfl
def leS:D→D→Option D
 | .str x,.str y=>some (.bl (!decide (y.cps.toList<x.cps.toList)))
 | _,_=>none
def leA (x y:D):Option D:=(leI x y).or (leS x y)
def chD (f g:Dy)(fa fb fc:Dd):DF→Option D:=fun ρ=>(fa ρ).bind fun x=>(fb ρ).bind fun y=>match f x y with
 | some (.bl true)=>(fc ρ).bind fun z=>g y z
 | some (.bl false)=>some (.bl false)
 | _=>none
def xO (K:Kq)(r:List V→Hp→VK→Prop)(f:D→Option D):Prop:=
 ∀ (P F H:Hp) (x:V) (dx d:D) (Q:VK),f dx=some d→DHp P F H→Rep K H x dx→(∀ v F' H',Evo P F H F' H'→Rep K F' v d→Q v H')→r [x] H Q
theorem qz {K:Kq}{r:List V→Hp→VK→Prop}{f:D→Option D}{fa:Dd}(ho:xO K r f):∀ σ H Q,tD K (d1 f fa) σ H Q→tCB r (eP (tN K fa) kZ) σ H Q:=fun σ H Q=>un7 fun P F ρ d hf I k=>by
 unfold d1 at hf
 cases ha:fa ρ with
 | none=>rw[ha] at hf;cases hf
 | some dx=>
  rw[ha,Ya] at hf
  exact⟨P,F,ρ,dx,ha,I,fun x F1 H1 e1 rx=>ho P F1 H1 x dx d Q hf e1.hp rx fun v F2 H2 e2 rv=>k v F2 H2 (e1.trans e2) rv⟩
theorem v8 {K:Kq}:xO K (yd K) bn:=by
 intro P F H x dx d Q hf hp rx k
 unfold bn at hf
 split at hf
 ·cases hf
  cases rx with | lst h1 h2=>exact .inl ⟨_,_,rfl,.inl h1,by rw[h2.length];exact k _ F H (Evo.refl hp) .int⟩
 ·cases hf
  cases rx with | tup h1 h2=>exact .inl ⟨_,_,rfl,.inr (SqT.of h1),by rw[h2.length];exact k _ F H (Evo.refl hp) .int⟩
 ·split at hf
  ·rename_i h
   cases hf
   exact .inr ⟨_,by rw[p_ rx],by rw[YS];exact h,k _ F H (Evo.refl hp) .int⟩
  ·cases hf
 ·cases hf
theorem du {fa:Dd}(hg:Gl X "len")(hm:X.mg "len"=none)(ha:PDN X e fa)(hs:starEach [e] X.env=[(false,eval e X.env)]:=by rfl)(hpl:(backTo pos (starEach [] X.env)).any (·.1)=false:=by rfl) :
  PDE X (.Call (.Name "len" p) [e] [] pos) (d1 bn fa):=
 (bE (j7.or kA) hg hm PySem.boot_len (ap ha aL hs) (by decide) (by decide) hs hpl).imp (qz v8)
theorem boot_int:bootBuiltins "int"=some (.type "int"):=by rfl
theorem boot_list:bootBuiltins "list"=some (.type "list"):=by rfl
theorem g7:bootBuiltins "tuple"=some (.type "tuple"):=by rfl
theorem boot_bool:bootBuiltins "bool"=some (.type "bool"):=by rfl
theorem bu:bootBuiltins "isinstance"=some (.builtin "isinstance"):=by rfl
theorem pR:bootBuiltins "all"=some (.builtin "all"):=by rfl
theorem rK:bootBuiltins "min"=some (.builtin "min"):=by rfl
theorem k6:bootBuiltins "sorted"=some (.builtin "sorted"):=by rfl
def cB:D→Option D
 | .lst ds=>some (.tup ds)
 | .tup ds=>some (.tup ds)
 | _=>none
theorem vX {K:Kq}:x_ K (fun xs H Q=>∃ p ys,xs=[.ref p]∧((SqL K H p ys∧∀ l,H l=none→Q (.ref l) (upd H l (.tup ys)))∨(SqT K H p ys∧Q (.ref p) H))) cB:=by
 intro P F H ρ σ x dx d Q hf I rx k
 unfold cB at hf
 split at hf
 ·cases hf
  obtain⟨p,vs,rfl,h1,h2⟩:=b_ I rx
  refine⟨p,vs,rfl,.inl ⟨h1,fun l hl=>?_⟩⟩
  exact k _ _ _ (Evo.laid I.toDHp hl) (.tup ak (h2.same (fq (I.toDHp.free hl).1)))
 ·cases hf
  rcases rx with rx | ⟨_,ob,_,_,_,_,_,hfl,z⟩
  ·cases rx with | tup h1 h2=>exact⟨_,_,rfl,.inr ⟨SqT.of (I.sub _ _ h1),k _ F H (Evo.refl I.toDHp) (.tup h1 h2)⟩⟩
  ·cases ob <;> first | (cases z;done) | cases hfl
 ·cases hf
theorem fm {fa:Dd}(hg:Gl X "tuple")(hm:X.mg "tuple"=none)(ha:PDR X e fa)(hs:starEach [e] X.env=[(false,eval e X.env)]:=by rfl) :
  PDE X (.Call (.Name "tuple" p) [e] [] pos) (d1 cB fa):=
 (bL iw hg hm g7 (ap ha aL hs) (he:=hs)).imp (wx vX)
def bX (f:Dd):DF→Option (List D):=fun ρ=>(f ρ).bind dF
theorem eU {fa:Dd}(hg:Gl X "list")(hm:X.mg "list"=none)(ha:PDR X e fa)(hs:starEach [e] X.env=[(false,eval e X.env)]:=by rfl) :
  PDO X (.Call (.Name "list" p) [e] [] pos) (asL (bX fa)):=
 (bL kh hg hm boot_list (ap ha aL hs) (he:=hs)).imp fun σ H Q=>un7 fun P F ρ ob hf I k=>by
  unfold asL bX at hf
  cases ha:fa ρ with
  | none=>rw[ha] at hf;cases hf
  | some dx=>
   rw[ha,Ya] at hf
   cases hi:dF dx with
   | none=>rw[hi] at hf;cases hf
   | some ds=>
    rw[hi] at hf
    cases hf
    refine⟨P,F,ρ,dx,ha,I,fun x F1 H1 e1 rx=>?_⟩
    have I1:=I.evo e1
    have fin:∀ vs,Reps X.K F1 vs ds→∀ l,H1 l=none→Q (.ref l) (upd H1 l (.lst vs)):=fun vs r l hl=>
     k l F1 _ (e1.trans (Evo.side e1.hp hl)) ⟨⟨e1.back I.toDHp hl,(e1.hp.free hl).1⟩,_,ak,r⟩
    cases dx with
    | lst ds'=>
     cases hi
     obtain⟨q,vs,rfl,h1,h2⟩:=b_ I1 rx
     exact⟨q,vs,rfl,.inl h1,fin vs h2⟩
    | tup ds'=>
     cases hi
     obtain⟨q,vs,rfl,h1,h2⟩:=e7 I1 rx
     exact⟨q,vs,rfl,.inr h1,fin vs h2⟩
    | _=>cases hi
def uF (K:Kq):R2:=fun x y H Q=>∃ l b xs zs,x=.ref l∧y=.ref b∧SqL K H l xs∧SqL K H b zs∧xs.length+zs.length≤sizeLine∧∀ p,H p=none→Q (.ref p) (upd H p (.lst (xs++zs)))
theorem nG:OpR X (binaryOp .Add) (uF X.K):=by
 intro pz s σ H x y v u Q I rx ry h
 obtain⟨l,b,xs,zs,rfl,rfl,hH,hB,hz,q⟩:=h
 cases rx
 cases ry
 obtain⟨its,r,p1,_⟩:=I.list hH
 obtain⟨its2,r2,p2,_⟩:=I.list hB
 obtain⟨⟨cls,dd,data,sl⟩,n,ho,hc,hdd,hd⟩:=p1
 obtain⟨⟨cls2,dd2,data2,sl2⟩,n2,ho2,hc2,hdd2,hd2⟩:=p2
 simp only at hc hd hc2 hd2
 subst hc hd hc2 hd2
 have e1:=r.length
 have e2:=r2.length
 refine concat_meets ⟨_,ho,rfl⟩ ⟨_,ho2,rfl⟩ PySem.noFill_list_add PySem.seq_list_add PySem.F.slot_list_add PySem.F.entry_list_add (PySem.F.args_list_add_2 _ _) (list_addW l b its.toArray its2.toArray n n2 dd dd2 sl sl2 (by rw[Yo,Yo];omega)) ⟨ho,ho2,?_⟩
 have ea:its.toArray++its2.toArray=(its++its2).toArray:=by simp
 rw[ea]
 exact⟨.ref _,_,I.lnew (t':=s.toks) (r.append r2) (by rw[Yh];omega),rfl,q _ I.fresh⟩
def ou (fa fb:Dd):DF→Option (List D):=fun ρ=>match fa ρ,fb ρ with
 | some (.lst xs),some (.lst ys)=>if xs.length+ys.length≤16777216 then some (xs++ys) else none
 | _,_=>none
theorem sK {fa fb:Dd}(ha:PDR X a fa)(hb:PDR X b fb):PDO X (.BinOp a .Add b pos) (asL (ou fa fb)):=(uO nG ha hb).imp fun σ H Q=>un7 fun P F ρ ob hf I k=>by
 unfold asL at hf
 cases q:ou fa fb ρ with
 | none=>rw[q] at hf;cases hf
 | some out=>
 rw[q] at hf
 cases hf
 unfold ou at q
 split at q
 ·rename_i xs ys qa qb
  split at q
  ·rename_i hz
   cases q
   refine⟨P,F,ρ,_,qa,I,fun x F1 H1 e1 rx=>⟨P,F1,ρ,_,qb,I.evo e1,fun y F2 H2 e2 ry=>?_⟩⟩
   have I2:=(I.evo e1).evo e2
   obtain⟨l,vs,rfl,h1,h2⟩:=b_ I2 (rx.evo e2)
   obtain⟨l2,vs2,rfl,h3,h4⟩:=b_ I2 ry
   refine⟨l,l2,vs,vs2,rfl,rfl,h1,h3,by rw[h2.length,h4.length,YS];exact hz,fun p hp=>?_⟩
   have e12:=e1.trans e2
   exact k p F2 _ (e12.trans (Evo.side e12.hp hp)) ⟨⟨e12.back I.toDHp hp,(e12.hp.free hp).1⟩,_,ak,h2.append h4⟩
  ·cases q
 ·cases q
end
section
variable {X:Cx} {k:Nat} {f C:Addr} {fd:FuncData} {ps:List Str} {m:Dm} {mM:Dz} {x mn:Str} {p pos apos spos:Pos} {e o:Expr} {es:List Expr} {g:Dv}
def aS (i:Nat)(g:Dv):=aB i g
end
def g0:DF→Option (List DV):=fun _=>some []
section
variable {X:Cx} {k:Nat} {f C:Addr} {fd:FuncData} {ps:List Str} {m:Dm} {mM:Dz} {x mn:Str} {p pos apos spos:Pos} {e o:Expr} {es:List Expr} {g:Dv} {s:DF→Option DV}
end
section
variable {κ:Type} [DecidableEq κ]
def fS (kvs:List (κ×D))(k:κ):Option D:=(kvs.find? fun kv=>decide (kv.1=k)).map (·.2)
def rj (kvs:List (κ×D))(k:κ)(v:D):List (κ×D):=
 if (kvs.any fun kv=>decide (kv.1=k))=true then kvs.map (fun kv=>if kv.1=k then (kv.1,v) else kv) else kvs++[(k,v)]
end
theorem oO {k k':List Key}{v:V}{vs:List (List Key×V)}:c9 ((k',v)::vs) k=if k'=k then some v else c9 vs k:=by
 unfold c9
 by_cases q:k'=k <;> simp[ZF,q]
theorem iH {κ:Type}[DecidableEq κ]{k k':κ}{v:D}{vs:List (κ×D)}:fS ((k',v)::vs) k=if k'=k then some v else fS vs k:=by
 unfold fS
 by_cases q:k'=k <;> simp[ZF,q]
theorem RepsT.val {K:Kq}{H:Hp}{k:List Key}{vs:List (List Key×V)}{ds:List (List Key×D)}(h:RepsT K H vs ds):(c9 vs k=none∧fS ds k=none)∨∃ v d,c9 vs k=some v∧fS ds k=some d∧Rep K H v d:=
 RepsT.ind (M:=fun vs ds=>(c9 vs k=none∧fS ds k=none)∨∃ v d,c9 vs k=some v∧fS ds k=some d∧Rep K H v d) (.inl ⟨rfl,rfl⟩) (fun {k' v d vs ds} h _ ih=>by
  rw[oO,iH]
  by_cases q:k'=k
  ·rw[Yk q,Yk q]
   exact .inr ⟨v,d,rfl,rfl,h⟩
  ·rw[Ym q,Ym q]
   exact ih) h
theorem RepsT.any {K:Kq}{H:Hp}{k:List Key}{vs:List (List Key×V)}{ds:List (List Key×D)}(h:RepsT K H vs ds):(vs.any fun kv=>decide (kv.1=k))=ds.any fun kv=>decide (kv.1=k):=
 RepsT.ind (M:=fun vs ds=>(vs.any fun kv=>decide (kv.1=k))=ds.any fun kv=>decide (kv.1=k)) rfl (fun _ _ ih=>by rw[XN,XN,ih]) h
theorem RepsT.map {K:Kq}{H:Hp}{k:List Key}{v:V}{d:D}(rv:Rep K H v d){vs:List (List Key×V)}{ds:List (List Key×D)}(h:RepsT K H vs ds):RepsT K H (vs.map fun kv=>if kv.1=k then (kv.1,v) else kv) (ds.map fun kv=>if kv.1=k then (kv.1,d) else kv):=
 RepsT.ind (M:=fun vs ds=>RepsT K H (vs.map fun kv=>if kv.1=k then (kv.1,v) else kv) (ds.map fun kv=>if kv.1=k then (kv.1,d) else kv)) .nil (fun {k' v' d' vs ds} h _ ih=>by
  rw[YJ,YJ]
  by_cases q:k'=k
  ·rw[Yk (show (k',v').1=k from q),Yk (show (k',d').1=k from q)];exact .cons rv ih
  ·rw[Ym (show ¬ (k',v').1=k from q),Ym (show ¬ (k',d').1=k from q)];exact .cons h ih) h
theorem RepsT.snoc {K:Kq}{H:Hp}{k:List Key}{v:V}{d:D}(rv:Rep K H v d){vs:List (List Key×V)}{ds:List (List Key×D)}(h:RepsT K H vs ds):RepsT K H (vs++[(k,v)]) (ds++[(k,d)]):=
 RepsT.ind (M:=fun vs ds=>RepsT K H (vs++[(k,v)]) (ds++[(k,d)])) (.cons rv .nil) (fun h _ ih=>.cons h ih) h
theorem RepsT.put {K:Kq}{H:Hp}{k:List Key}{v:V}{d:D}{vs:List (List Key×V)}{ds:List (List Key×D)}(rv:Rep K H v d)(r:RepsT K H vs ds):RepsT K H (eI vs k v) (rj ds k d):=by
 unfold eI rj
 rw[r.any (k:=k)]
 split
 ·exact r.map rv
 ·exact r.snoc rv
theorem RepsT.length {K:Kq}{H:Hp}{vs:List (List Key×V)}{ds:List (List Key×D)}(h:RepsT K H vs ds):vs.length=ds.length:=RepsT.ind (M:=fun vs ds=>vs.length=ds.length) rfl (fun _ _ ih=>Zz Nat.succ ih) h
def xu:D→Option Key
 | .int i=>some (.inl i)
 | .str x=>some (.inr x)
 | _=>none
def eJ:List D→Option (List Key)
 | []=>some []
 | d::ds=>(xu d).bind fun k=>(eJ ds).map fun r=>k::r
def fE:D→Option (List Key)
 | .tup ds=>eJ ds
 | _=>none
theorem Reps.keys {K:Kq}{H:Hp}{vs:List V}{ds:List D}{ks:List Key}(h:Reps K H vs ds):eJ ds=some ks→vs=ks.map kV:=
 Reps.ind (M:=fun vs ds=>∀ ks:List Key,eJ ds=some ks→vs=ks.map kV) (fun ks e=>by cases e;rfl) (fun {v d vs ds} h _ ih ks e=>by
  unfold eJ at e
  cases q:xu d with
  | none=>rw[q] at e;cases e
  | some k=>
   rw[q,Ya] at e
   cases q2:eJ ds with
   | none=>rw[q2] at e;cases e
   | some kr=>
    rw[q2] at e
    cases e
    rw[ih _ q2,YJ]
    cases d with
    | int i=>cases q;cases h;rfl
    | str i=>cases q;cases h;rfl
    | _=>cases q) h ks
theorem gx {K:Kq}{P F H:Hp}{y:V}{dy:D}{ks:List Key}(hp:DHp P F H)(r:Rep K F y dy)(h:fE dy=some ks):∃ b,y=.ref b∧H b=some (.tup (ks.map kV)):=by
 cases dy with
 | tup ds=>cases r with | tup h1 h2=>exact⟨_,rfl,by rw[hp.sub _ _ h1,h2.keys h]⟩
 | _=>cases h
section
variable {X:Cx} {a b o i e f:Expr} {pos pos' apos cpos:Pos} {fd fk fx fv:Dd}
def cI (neg:Bool):D→D→Option D
 | y,.dT kvs=>(fE y).map fun k=>.bl (xor neg (fS kvs k).isSome)
 | _,_=>none
def d8 (j:Nat)(fk fv:Dd):DF→Option RES:=fun ρ=>match ρ[j]? with
 | some (some (.own (.dT kvs) t))=>(fv ρ).bind fun v=>(fk ρ).bind fun y=>(fE y).bind fun k=>if kvs.length<16777216 then some (.nx (ρ.set j (some (.own (.dT (rj kvs k v)) t)))) else none
 | _=>none
theorem nD (j:Nat)(hu:X.A.units+64<cLine)(ho:PE X o (cL j))(hi:PDE X i fk)(hv:PDE X e fv)(hs:swapsWith e (some (.Subscript o i pos')) pos.line X.env=pure false:=by rfl):PD1 X (.Assign [.Subscript o i pos'] e pos) (d8 j fk fv):=
 PS.imp (tJ (by omega) ho hi hv hs) fun E σ H=>un7 fun P F ρ r hr I k=>by
  unfold d8 at hr
  split at hr
  ·rename_i kvs t q
   cases qv:fv ρ with
   | none=>rw[qv] at hr;cases hr
   | some dv=>
   rw[qv,Ya] at hr
   cases qb:fk ρ with
   | none=>rw[qb] at hr;cases hr
   | some dy=>
   rw[qb,Ya] at hr
   cases qk:fE dy with
   | none=>rw[qk] at hr;cases hr
   | some ks=>
   rw[qk,Ya] at hr
   split at hr
   ·rename_i hl
    cases hr
    obtain⟨v,h1,p,rfl,⟨⟨a1,a2,_⟩,u,a3,a4⟩,_⟩:=I.at q
    cases u with
    | dT vs=>
     have a4:RepsT X.K F vs kvs:=a4
     refine⟨P,F,ρ,_,qv,I,fun v F1 H1 e1 rv=>⟨_,h1,P,F1,ρ,_,qb,I.evo e1,fun y F2 H2 e2 ry=>?_⟩⟩
     have e12:=e1.trans e2
     obtain⟨k1,k2⟩:=e12.keep p _ a3 a1
     obtain⟨b',rfl,h3⟩:=gx e12.hp ry qk
     refine⟨p,_,rfl,DPut.t k1 h3 (by rw[YS,a4.length];exact hl),k σ F2 _ e12.ext ?_⟩
     exact (I.evo e12).mut (o':=.dT _) (u:=.dT _) q rfl rfl h1 ((RepsT.same e12.ext a4).put (rv.same e2.ext))
    | _=>exact a4.elim
   ·cases hr
  ·cases hr
end
end L2
namespace L2
open PySem PySem.Spec PyProof.Rows PySem.W
section
variable {prog:Program} {w:World} {A:Around} {E:Kv} {s:Shared}
def j9 (prog:Program)(w:World)(A:Around)(Q:Kv)(vs:List Value)(s1:Shared):Prop:=
 vs.length<16777216∧∃ (κ:SortKind) (lt:Nat→Nat→Bool),Ord lt ∧
  (2≤vs.length→∀ h',(∀ b u,s1.heap.get? b=some u→h'.get? b=some u)→∀ (Q:SortKind→Shared→Prop) (E:Kv),Q κ { s1 with heap:=h' }→wpAny (model prog w) A.in1.in1 (keyKind' vs.toArray) Q E { s1 with heap:=h' }) ∧
  (∀ h',(∀ b u,s1.heap.get? b=some u→h'.get? b=some u)→∀ i j C,i<vs.length→j<vs.length→C (lt i j) { s1 with heap:=h' }→kas_ask prog w A.in1.in1 κ vs i j C { s1 with heap:=h' }) ∧
  ∀ p,PermN vs.length p→Ris lt p vs.length→∀ (a:Addr) (h':Heap) (e:Nat),(∀ b u,s1.heap.get? b=some u→h'.get? b=some u)→s1.heap.objs.size≤a→h'.get? a=some (seqObj "list" (fJ vs p) e)→Q (.ref a) { s1 with heap:=h' }
theorem kG {v:Value}{Q:Kv}(hcol:wpAny (model prog w) A.in1 (collect v) (j9 prog w A Q) E s) :
  wpAny (model prog w) A (call (.builtin "sorted") [v]) Q E s:=by
 refine Calls.call_function_entry kind_sorted plain_sorted entry_sorted (args_sorted1 _) ?_
 unfold Builtin.«sorted»
 refine Yj (m:=checkCount "sorted" 1 1 _) (Yu ?_)
 refine Yj (Zn hcol (fun vs s1 hh_=>?_) fun _ _ e=>e)
 obtain⟨h64,κ,lt,o,hk,hc,h⟩:=hh_
 refine Yj (wpAny_newList ?_ (by rw[YS];omega))
 have hoL:(s1.heap.push (seqObj "list" vs.toArray 0)).get? s1.heap.objs.size=some (seqObj "list" vs.toArray 0):=Yp _ rfl
 have keep:∀ b u,s1.heap.get? b=some u→(s1.heap.push (seqObj "list" vs.toArray 0)).get? b=some u:=fun b u q=>Yd _ q
 show wpAny _ _ _ _ _ { s1 with heap:=s1.heap.push (seqObj "list" vs.toArray 0) }
 have lift:∀ h':Heap,(∀ b u,b≠s1.heap.objs.size→(s1.heap.push (seqObj "list" vs.toArray 0)).get? b=some u→h'.get? b=some u)→∀ b u,s1.heap.get? b=some u→h'.get? b=some u:=fun h' k b u e=>
  k b u (Yy (Yn e)) (keep b u e)
 refine Yj (Zp (wpAny_call_entry slot_list_sort ⟨_,hoL,rfl⟩ entry_list_sort ?body (args_list_sort _)))
 case body=>
  refine iu hoL h64 κ lt o (fun h2 h' k Q q=>hk h2 h' (lift h' k) Q _ q) (fun h' k=>hc h' (lift h' k)) fun p hp hr=>⟨_,rfl,?_⟩
  obtain⟨e,he⟩:=sortedHeap_at (out:=fJ vs p) hoL
  refine Yu ⟨_,rfl,h p hp hr s1.heap.objs.size _ e (fun b u q=>?_) (Yr _) he⟩
  have hlt:b<s1.heap.objs.size:=Yn q
  show (sortedHeap (s1.heap.push (seqObj "list" vs.toArray 0)) s1.heap.objs.size vs (fJ vs p)).get? b=some u
  rw[sortedHeap_old (Yy hlt) (by rw[size_push'];exact ZR hlt)]
  exact keep b u q
theorem iy {l:Addr}{vs:List Value}{Q:Kl}(hl:IsTup s.heap l vs.toArray)
  (h:Q vs { s with heap:=(s.heap.push (seqObj "list" #[] 0)).update s.heap.objs.size (Obj.mapSeq (·++vs.toArray)) }) (hsz:vs.length≤sizeLine) :
  wpAny (model prog w) A (collect (.ref l)) Q E s:=by
 obtain⟨o,ho,hc,n,hd⟩:=id hl
 unfold collect
 refine Yj (wpAny_runValue (Zs entry_proto_collect' ?_))
 show wpAny _ _ (do again (.builtin "list.__iadd__" ⟨[← newList [],.ref l],[]⟩)) _ _ s
 refine Yj (wpAny_newList (Yu ⟨Xw _ (by decide +kernel),Zs entry_list_iadd' ?_⟩))
 show wpAny _ _ (Builtin.List.listExtendWith (.ref s.heap.objs.size) (.ref l) (.ref s.heap.objs.size)) _ _ { s with heap:=s.heap.push (seqObj "list" #[] 0) }
 unfold Builtin.List.listExtendWith
 have ho':(s.heap.push (seqObj "list" #[] 0)).get? l=some o:=Yd _ ho
 refine Yj (wpAny_typeOf (T := "tuple") ⟨o,ho',hc⟩ ?_)
 have ht:(Value.type "tuple" == Value.type "tuple")=true:=by rfl
 rw[Yk (by rw[ht];simp)]
 refine Yj (listItems_at ho' hd ?_)
 refine Yj (listItems_at (xs:=#[]) (n:=0) (Yp _ rfl) rfl ?_)
 rw[Ym (by simp)]
 refine Yj (listUpdate_at (xs:=#[]) (n:=0) (Yp _ rfl) rfl ?_ (Zm _) (by show (#[]++vs.toArray).size≤sizeLine+1;simp only[Array.size_append,Yo,YR];omega))
 refine Yu ?_
 show wpAny (model prog w) A (do
   let o ← load s.heap.objs.size
   match o.data with
   | .seq xs _=>pure xs.toList
   | _=>unsupported "internal:collect") Q E { s with heap:=(s.heap.push (seqObj "list" #[] 0)).update s.heap.objs.size (Obj.mapSeq (·++vs.toArray)) }
 refine Yj (wpAny_load (get?_update_seq (Yp _ rfl) _) ?_)
 show wpAny _ _ (pure ((#[]:Array Value)++vs.toArray).toList) Q E _
 rw[show ((#[]:Array Value)++vs.toArray).toList=vs by simp]
 exact Yu h
theorem gT {h:Heap}{vs:List Value}{b:Addr}{u:Obj}(q:h.get? b=some u):((h.push (seqObj "list" #[] 0)).update h.objs.size (Obj.mapSeq (·++vs.toArray))).get? b=some u:=by
 have hlt:b<h.objs.size:=Yn q
 rw[Heap.get?_update_ne _ _ _ _ (Yy hlt),Xe _ _ _ (Yy hlt)]
 exact q
end
def sk:D→Bool
 | .int _=>true
 | .str _=>true
 | .tup (_::_)=>true
 | _=>false
def fk:D→Bool
 | .int _=>true
 | .str _=>true
 | .tup _=>true
 | _=>false
def nC:D→Bool
 | .tup (d::_)=>fk d
 | _=>true
def cK (ds:List D):Bool:=decide (ds.length<16777216)&&ds.all (okN 28)&&(ds.all fun x=>ds.all fun y=>ah x y)&&ds.all sk&&ds.all nC
theorem eC {ds:List D}(h:cK ds=true):ds.length<16777216∧Cmps 28 ds∧(∀ d∈ds,sk d=true)∧∀ d∈ds,nC d=true:=by
 unfold cK at h
 simp only[Yx,YX] at h
 obtain⟨⟨⟨⟨h1,h2⟩,h3⟩,h4⟩,h5⟩:=h
 exact⟨h1,⟨fun d hd=>YD.mp h2 d hd,fun x hx y hy=>YD.mp (YD.mp h3 x hx) y hy⟩,fun d hd=>YD.mp h4 d hd,fun d hd=>YD.mp h5 d hd⟩
def dAt (ds:List D)(i:Nat):D:=ds.getD i (ds.headD (.int 0))
theorem jw {ds:List D}(h:ds≠[])(i:Nat):dAt ds i∈ds:=by
 unfold dAt
 cases ds with
 | nil=>exact absurd rfl h
 | cons d r=>
  rw[YN]
  cases q:(d::r)[i]? with
  | none=>exact Yc
  | some x=>exact Zk q
theorem jV {ds:List D}{i:Nat}(h:i<ds.length):ds[i]?=some (dAt ds i):=by
 unfold dAt
 rw[YN,Ye h]
 rfl
theorem vI {n:Nat}{ds:List D}(hc:Cmps n ds):Ord fun i j=>ltD (dAt ds i) (dAt ds j):=by
 by_cases hn:ds=[]
 ·subst hn
  have e:∀ i,dAt [] i=.int 0:=fun i=>by simp[dAt]
  refine⟨fun i j h=>?_,fun i j k h1 h2=>?_⟩
  ·rw[e,e] at h;simp[ltD] at h
  ·rw[e,e];simp[ltD]
 ·have m:=fun i=>jw hn i
  refine⟨fun i j h=>?_,fun i j k h1 h2=>?_⟩
  ·exact (dL n _ _ (hc.1 _ (m i)) (hc.1 _ (m j)) (hc.2 _ (m i) _ (m j))).as h
  ·exact iM (hc.1 _ (m i)) (hc.1 _ (m j)) (hc.1 _ (m k)) (hc.2 _ (m i) _ (m j)) (hc.2 _ (m j) _ (m k)) (hc.2 _ (m i) _ (m k)) (hc.2 _ (m j) _ (m i)) (hc.2 _ (m k) _ (m j)) (hc.2 _ (m k) _ (m i)) h1 h2
theorem mm {n:Nat}{ds:List D}(hc:Cmps n ds){p:Array Nat}(hp:PermN ds.length p)(hr:Ris (fun i j=>ltD (dAt ds i) (dAt ds j)) p ds.length):p.toList.map (dAt ds)=cq ds:=by
 refine mf (n:=n) ?_ hc ?_
 ·have h1:(p.toList.map (dAt ds)).Perm ((List.range ds.length).map (dAt ds)):=hp.perm.map _
  have h2:(List.range ds.length).map (dAt ds)=ds:=by
   apply Ve
   intro i
   rw[YE]
   by_cases h:i<ds.length
   ·rw[XV h,YY,jV h]
   ·rw[Zx (by rw[Zv];omega),Zx (by omega)];rfl
  rw[h2] at h1
  exact h1
 ·rw[Xf,ZL]
  intro i j hi hj hij
  have hs:=hp.size
  rw[Za] at hi hj
  have:=hr i j (Xl hij) (by omega)
  have e:∀ k (h:k<p.size),p.getD k 0=p[k]:=fun k h=>by simp[Array.getD,h]
  rw[e i hi,e j hj] at this
  simpa using this
theorem Reps.perm {K:Kq}{H:Hp}{vs:List V}{ds:List D}(r:Reps K H vs ds)(hn:ds≠[]):∀ (l:List Nat),(∀ i∈l,i<ds.length)→Reps K H (l.map fun i=>vs.getD i .non) (l.map (dAt ds))
 | [],_=>.nil
 | i::l,h=>by
  obtain⟨v,h1,h2⟩:=r.get (jV (h i Yc))
  have e:vs.getD i .non=v:=by rw[YN,h1];rfl
  rw[YJ,YJ]
  show Reps K H (vs.getD i .non::_) _
  rw[e]
  exact .cons h2 (Reps.perm r hn l fun j hj=>h j (Yb _ hj))
theorem Vals.perm {vs:List V}{us:List Value}(r:Vals vs us):∀ (l:List Nat),(∀ i∈l,i<vs.length)→Vals (l.map fun i=>vs.getD i .non) (l.map fun i=>us.getD i Value.none)
 | [],_=>.nil
 | i::l,h=>by
  have hi:=h i Yc
  obtain⟨u,h1,h2⟩:=r.get (Ye hi)
  have e1:vs.getD i .non=vs[i]:=by rw[YN,Ye hi];rfl
  have e2:us.getD i Value.none=u:=by rw[YN,h1];rfl
  rw[YJ,YJ]
  show Vals (vs.getD i .non::_) (us.getD i Value.none::_)
  rw[e1,e2]
  exact .cons h2 (Vals.perm r l fun j hj=>h j (Yb _ hj))
def tyD:D→Value
 | .int _=>.type "int"
 | .str _=>.type "str"
 | _=>.type "tuple"
section
variable {X:Cx} {pz:Kp} {σ:St} {H:Hp} {s:Shared}
theorem Rep.ty (I:Inv X pz σ H s){v:V}{d:D}{u:Value}(h:Rep X.K H v d)(hk:fk d=true)(r:RelV v u)(M:Model):Looks M s.heap (typeOf u) (tyD d):=by
 cases d with
 | int i=>cases h;obtain⟨t,rfl⟩:=(show ∃ t,u=Value.int _ t from r);exact Looks.of_pure rfl
 | str i=>cases h;obtain⟨t,rfl⟩:=(show ∃ t,u=Value.str _ t from r);exact Looks.of_pure rfl
 | tup ds=>
  cases h with
  | tup h1 h2=>
   cases (show u=Value.ref _ from r)
   obtain⟨its,rv,⟨o,ho,hc,n,hd⟩,_⟩:=I.tuple (SqT.of h1)
   have:=(Looks.ld (M:=M) (part:=none) ho).andThen (f:=fun o=>pure o.cls) .now
   rw[hc] at this
   exact this
 | _=>cases hk
theorem mG {x y:D}(h:ah x y=true)(hx:fk x=true):tyD x=tyD y:=by
 rcases aD h with⟨i,j,rfl,rfl⟩ | ⟨i,j,rfl,rfl⟩ | ⟨i,j,rfl,rfl⟩ | ⟨i,j,rfl,rfl,_⟩
 ·rfl
 ·cases hx
 ·rfl
 ·rfl
def jh:List D→SortKind
 | .tup (d::_)::_=>tuples' (tyD d != .type "tuple")
 | _=>oneType'
theorem mE (I:Inv X pz σ H s):∀ {vs:List V} {ds:List D} {us:List Value},Reps X.K H vs ds→Vals vs us→(∀ d∈ds,∃ x r,d=.tup (x::r)∧fk x=true)→∀ T:Value,(∀ x r,.tup (x::r)∈ds→tyD x=T)→
  ∃ fs:List Value,KatTups s.heap us fs∧fs.length=us.length∧∀ M,∀ v∈fs,Looks M s.heap (typeOf v) T:=by
 intro vs ds us h
 exact Reps.ind (M:=fun vs ds=>∀ us:List Value,Vals vs us→(∀ d∈ds,∃ x r,d=.tup (x::r)∧fk x=true)→∀ T:Value,(∀ x r,.tup (x::r)∈ds→tyD x=T) →     ∃ fs:List Value,KatTups s.heap us fs∧fs.length=us.length∧∀ M,∀ v∈fs,Looks M s.heap (typeOf v) T) (fun us r _ _ _=>by cases r;exact⟨[],.nil,rfl,fun _ _ h=>by cases h⟩) (fun h _ ih us r0 hd T hT=>by
  cases r0 with
  | cons r t=>
  obtain⟨x,rr,rfl,hx⟩:=hd _ Yc
  obtain⟨fs,f1,f2,f3⟩:=ih _ t (fun d m=>hd d (Yb _ m)) T fun x r m=>hT x r (Yb _ m)
  cases h with
  | tup h1 h2=>
   cases (show _=Value.ref _ from r)
   obtain⟨its,rv,⟨o,ho,hc,n,hdt⟩,_⟩:=I.tuple (SqT.of h1)
   cases h2 with
   | cons g1 g2=>
    cases rv with
    | cons k1 k2=>
     refine⟨_::fs,KatTups.cons ho hc hdt (by simp;rfl) f1,by rw[Yw,Yw,f2],fun M v hv=>?_⟩
     rcases YF.mp hv with rfl | hv
     ·rw[← hT x rr Yc]
      exact g1.ty I hx k1 M
     ·exact f3 M v hv) h us
theorem jP {d:D}(h:sk d=true)(ht:eX d=false):fk d=true:=by cases d <;> first | rfl | cases h | cases ht
theorem tU (I:Inv X pz σ H s){vs:List V}{ds:List D}{us:List Value}(r:Reps X.K H vs ds)(rv:Vals vs us)(ok:cK ds=true)(h2:2≤us.length){A:Around}{M:Model}{Q:SortKind→Shared→Prop}{E:Kv}(hQ:Q (jh ds) s) :
  wpAny M A (keyKind' us.toArray) Q E s:=by
 obtain⟨hl,hc,hs,hf⟩:=eC ok
 have l1:=r.length
 have l2:=rv.length
 cases ds with
 | nil=>rw[YR] at l1;omega
 | cons d dr=>
  have md:d∈d::dr:=Yc
  cases ht:eX d with
  | true=>
   cases d with
   | tup xs=>
    cases xs with
    | nil=>have:=hs _ md;cases this
    | cons x rr=>
     have hx:fk x=true:=hf _ md
     have all:∀ d'∈(D.tup (x::rr)::dr),∃ y r',d'=.tup (y::r')∧fk y=true∧tyD y=tyD x:=fun d' m=>by
      have hcm:=hc.2 _ md _ m
      rcases aD hcm with⟨i,j,e,_⟩ | ⟨i,j,e,_⟩ | ⟨i,j,e,_⟩ | ⟨i,j,e,e2,hcs⟩
      ·cases e
      ·cases e
      ·cases e
      ·cases e
       subst e2
       cases j with
       | nil=>have:=hs _ m;cases this
       | cons y r'=>
        rw[aI,Yx] at hcs
        exact⟨y,r',rfl,hf _ m,(mG hcs.1 hx).symm⟩
     obtain⟨fs,f1,f2,f3⟩:=mE I r rv (fun d' m=>by obtain⟨y,r',e,h,_⟩:=all d' m;exact⟨y,r',e,h⟩) (tyD x) fun y r' m=>by
      obtain⟨y',r'',e,_,h⟩:=all _ m
      cases e
      exact h
     exact kat_kind f1 (by omega) (f3 M) (by cases x <;> rfl) hQ
   | _=>cases ht
  | false=>
   have hd:fk d=true:=jP (hs d md) ht
   have e:jh (d::dr)=oneType':=by cases d <;> first | rfl | cases ht
   rw[e] at hQ
   have hT:∀ u∈us,Looks M s.heap (typeOf u) (tyD d):=fun u hu=>by
    obtain⟨i,hi,eu⟩:=List.getElem_of_mem hu
    have hiv:i<vs.length:=by omega
    obtain⟨u',e1,e2⟩:=rv.get (Ye hiv)
    rw[Ye hi,eu] at e1
    cases e1
    obtain⟨d',e3,e4⟩:=r.getV (Ye hiv)
    have m:=Zk e3
    have hcm:=hc.2 _ md _ m
    rw[mG hcm hd]
    refine e4.ty I ?_ e2 M
    refine jP (hs d' m) ?_
    rcases aD hcm with⟨i,j,rfl,rfl⟩ | ⟨i,j,rfl,rfl⟩ | ⟨i,j,rfl,rfl⟩ | ⟨i,j,rfl,rfl,_⟩
    ·rfl
    ·rfl
    ·rfl
    ·cases ht
   refine kas_kind h2 hT ?_ ?_ hQ
   ·cases d <;> first | rfl | (simp[fk] at hd;done) | (simp[eX] at ht;done)
   ·cases d <;> rfl
theorem uf {A:Around}{prog:Program}{w:World}{b:Bool}{Q:Kb}{n1 n2:Nat}:∀ {us ws:List Value} {ds es:List D} (i:Nat),LexOk A s us ws ds es→(b=true→i=0→∀ u w' d e ur wr dr er,us=u::ur→ws=w'::wr→ds=d::dr→es=e::er→∀ (Q:Kb) (E:Kv),Q (ltD d e) s→wpAny (model prog w) A (oneLt' true u w') Q E s)→
  us.length+n2=ws.length+n1→Q (aA ds es) s→KatLex prog w A b (decide (n1<n2)) Q (us.zip ws) i s:=by
 intro us ws ds es i h
 induction h generalizing i with
 | @nl ws es hl=>
  intro _ hn hQ
  rw[List.zip_nil_left]
  refine kat_nil ?_
  rw[YR] at hn
  cases es with
  | nil=>
   rw[YR] at hl
   rw[show aA [] []=false by simp[aA]] at hQ
   rw[Yz (by omega)];exact hQ
  | cons c r=>
   rw[Yw] at hl
   rw[show aA [] (c::r)=true by simp[aA]] at hQ
   rw[YK (by omega)];exact hQ
 | @nr vs ds hl=>
  intro _ hn hQ
  rw[List.zip_nil_right]
  refine kat_nil ?_
  rw[YR] at hn
  cases ds with
  | nil=>
   rw[YR] at hl
   rw[show aA [] []=false by simp[aA]] at hQ
   rw[Yz (by omega)];exact hQ
  | cons c r=>
   rw[Yw] at hl
   rw[show aA (c::r) []=false by simp[aA]] at hQ
   rw[Yz (by omega)];exact hQ
 | @cons v w' d e _ _ _ _ he hlt hx ih=>
  intro h1 hn hQ
  rw[XZ]
  rw[Yw,Yw] at hn
  refine kat_cons (he prog w _ _ ?_)
  cases q:eqd d e with
  | true=>
   rw[aA,Yk q] at hQ
   exact kat_yes (ih (i+1) (fun _ z=>by omega) (by omega) hQ)
  | false=>
   rw[aA,Ym (by rw[q];exact Yg)] at hQ
   refine kat_no ?_
   cases hb:(b&&i == 0) with
   | true=>
    rw[Yx] at hb
    exact h1 hb.1 (by simpa using hb.2) _ _ _ _ _ _ _ _ rfl rfl rfl rfl _ _ hQ
   | false=>exact kat_one _ _ (hlt q prog w _ _ hQ)
theorem qV {A:Around}{prog:Program}{w:World}{x y:V}{d e:D}{u v:Value}(h1:Rep X.K H x d)(h2:Rep X.K H y e)(c:ah d e=true)(hd:fk d=true)(ht:eX d=false)(r1:RelV x u)(r2:RelV y v){Q:Kb}{E:Kv}(hQ:Q (ltD d e) s) :
  wpAny (model prog w) A (oneLt' true u v) Q E s:=by
 rcases aD c with⟨i,j,rfl,rfl⟩ | ⟨i,j,rfl,rfl⟩ | ⟨i,j,rfl,rfl⟩ | ⟨i,j,rfl,rfl,_⟩
 ·cases h1;cases h2
  obtain⟨t,rfl⟩:=(show ∃ t,u=Value.int _ t from r1)
  obtain⟨t',rfl⟩:=(show ∃ t,v=Value.int _ t from r2)
  exact oneLt_int (by rw[ltD] at hQ;exact hQ)
 ·cases hd
 ·cases h1;cases h2
  obtain⟨t,rfl⟩:=(show ∃ t,u=Value.str _ t from r1)
  obtain⟨t',rfl⟩:=(show ∃ t,v=Value.str _ t from r2)
  exact oneLt_str (by rw[ltD] at hQ;exact hQ)
 ·cases ht
theorem wD (I:Inv X pz σ H s){vs:List V}{ds:List D}{us:List Value}(r:Reps X.K H vs ds)(rv:Vals vs us)(ok:cK ds=true){A:Around}(hu:A.units+60<cLine){prog:Program}{w:World}{i j:Nat}{C:Kb}(hi:i<us.length)(hj:j<us.length)(hQ:C (ltD (dAt ds i) (dAt ds j)) s) :
  kas_ask prog w A (jh ds) us i j C s:=by
 obtain⟨hl,hc,hs,hf⟩:=eC ok
 have l1:=r.length
 have l2:=rv.length
 obtain⟨v,e1,r1⟩:=r.get (jV (show i<ds.length by omega))
 obtain⟨v',e2,r2⟩:=r.get (jV (show j<ds.length by omega))
 obtain⟨u,e3,k1⟩:=rv.get e1
 obtain⟨u',e4,k2⟩:=rv.get e2
 have hn:ds≠[]:=fun z=>by rw[z,YR] at l1;omega
 have mi:=jw hn i
 have mj:=jw hn j
 have hcm:=hc.2 _ mi _ mj
 unfold kas_ask
 have g1:us.getD i Value.none=u:=by rw[YN,e3];rfl
 have g2:us.getD j Value.none=u':=by rw[YN,e4];rfl
 rw[g1,g2]
 generalize hx:dAt ds i=x at *
 generalize hy:dAt ds j=y at *
 cases ht:eX x with
 | false=>
  have e:jh ds=oneType':=by
   cases ds with
   | nil=>exact absurd rfl hn
   | cons d dr=>
    have:=hc.2 _ mi d Yc
    rcases aD this with⟨i,j,rfl,rfl⟩ | ⟨i,j,rfl,rfl⟩ | ⟨i,j,rfl,rfl⟩ | ⟨i,j,rfl,rfl,_⟩
    ·rfl
    ·rfl
    ·rfl
    ·cases ht
  rw[e,keyLt'_oneType]
  exact qV r1 r2 hcm (jP (hs _ mi) ht) ht k1 k2 hQ
 | true=>
  cases x with
  | tup xs=>
   cases xs with
   | nil=>have:=hs _ mi;cases this
   | cons x0 xr=>
    rcases aD hcm with⟨_,_,e,_⟩ | ⟨_,_,e,_⟩ | ⟨_,_,e,_⟩ | ⟨xs',ys,e,rfl,hcs⟩
    ·cases e
    ·cases e
    ·cases e
    ·cases e
     have ek:jh ds=tuples' (tyD x0 != .type "tuple"):=by
      cases ds with
      | nil=>exact absurd rfl hn
      | cons d dr=>
       have:=hc.2 _ mi d Yc
       rcases aD this with⟨_,_,e,_⟩ | ⟨_,_,e,_⟩ | ⟨_,_,e,_⟩ | ⟨_,zs,e,rfl,hz⟩
       ·cases e
       ·cases e
       ·cases e
       ·cases e
        cases zs with
        | nil=>have:=hs (.tup []) Yc;cases this
        | cons z0 zr=>
         rw[aI,Yx] at hz
         show tuples' (tyD z0 != _)=_
         rw[mG hz.1 (hf _ mi)]
     rw[ek]
     cases r1 with
     | tup a1 a2=>
      cases r2 with
      | tup b1 b2=>
       cases (show u=Value.ref _ from k1)
       cases (show u'=Value.ref _ from k2)
       obtain⟨its1,rv1,⟨o1,ho1,hc1,n1,hd1⟩,_⟩:=I.tuple (SqT.of a1)
       obtain⟨its2,rv2,⟨o2,ho2,hc2,n2,hd2⟩,_⟩:=I.tuple (SqT.of b1)
       have oi:okN 28 (.tup (x0::xr))=true:=hc.1 _ mi
       have oj:okN 28 (.tup ys)=true:=hc.1 _ mj
       have hlex:=Reps.lex I 27 A (by omega) (Rep.lt I 27 A (by omega)) a2 b2 (bw oi) (bw oj) hcs rv1 rv2
       refine kat_lt ho1 hd1 ho2 hd2 ?_
       simp only[Yo]
       refine uf 0 hlex (fun hb _ u0 w0 d0 e0 ur wr dr er q1 q2 q3 q4 Q E hq=>?_) (by omega) (by rw[ltD] at hQ;exact hQ)
       subst q1 q2 q4
       cases q3
       cases a2 with
       | cons a3 a4=>
        cases b2 with
        | cons b3 b4=>
         cases rv1 with
         | cons c1 c2=>
          cases rv2 with
          | cons c3 c4=>
           rw[aI,Yx] at hcs
           refine qV a3 b3 hcs.1 (hf _ mi) ?_ c1 c3 hq
           cases x0 <;> first | rfl | (simp[tyD] at hb)
  | _=>cases ht
theorem pY (I:Inv X pz σ H s){vs:List V}{ds:List D}{us:List Value}(r:Reps X.K H vs ds)(rv:Vals vs us)(ok:cK ds=true)(hu:X.A.units+64<cLine){Q:Kv}
  (hQ:∀ (a:Addr) (p:List Nat) (s':Shared),H a=none→(∀ i∈p,i<ds.length)→p.length=ds.length→p.map (dAt ds)=cq ds→Inv X pz σ (upd H a (.lst (p.map fun i=>vs.getD i .non))) s'→Q (.ref a) s'):j9 X.prog X.w X.A Q us s:=by
 obtain⟨hl,hc,_,_⟩:=eC ok
 have l1:=r.length
 have l2:=rv.length
 refine⟨by omega,jh ds,_,vI hc,fun h2 h' k Q E q=>tU (I.kept (t':=s.toks) k) r rv ok h2 q,fun h' k i j C hi hj hq=>?_,fun p hp hr a h' e k hsz hget=>?_⟩
 ·have hu':X.A.in1.in1.units+60<cLine:=by show X.A.units+1+1+60<cLine;omega
  exact wD (I.kept (t':=s.toks) k) r rv ok hu' hi hj hq
 ·have hp':PermN ds.length p:=by rw[← l1,l2];exact hp
  have hr':Ris (fun i j=>ltD (dAt ds i) (dAt ds j)) p ds.length:=by rw[← l1,l2];exact hr
  have eo:=mm hc hp' hr'
  have bd:∀ i∈p.toList,i<ds.length:=fun i hi=>ZC.mp (hp'.perm.mem_iff.mp hi)
  have hna:H a=none:=I.hok.fresh hsz
  have lenp:p.toList.length=ds.length:=by rw[Za];exact hp'.size
  refine hQ a p.toList _ hna bd lenp eo (I.laid (t':=s.toks) k hsz ⟨?_,p.toList.map fun i=>us.getD i Value.none,e,Vals.perm rv p.toList fun i hi=>by rw[l1];exact bd i hi,?_⟩)
  ·rw[Yf,lenp,YS];omega
  ·exact hget
end
section
variable {X:Cx} {e:Expr} {p pos:Pos} {fa:Dd}
theorem lw (hu:X.A.units+64<cLine):CallR X (.builtin "sorted") (fun xs H Q=>∃ a vs ds,xs=[.ref a]∧(SqL X.K H a vs∨SqT X.K H a vs)∧Reps X.K H vs ds∧cK ds=true∧∀ l (p:List Nat),H l=none→(∀ i∈p,i<ds.length)→p.length=ds.length→p.map (dAt ds)=cq ds→Q (.ref l) (upd H l (.lst (p.map fun i=>vs.getD i .non)))):=by
 intro pz s σ H xs us Q I r h
 obtain⟨a,vs,ds,rfl,hq,hr,ok,q⟩:=h
 obtain⟨u,rfl,ru⟩:=cU r
 cases ru
 refine kG ?_
 have fin:∀ its:List Value,Vals vs its→j9 X.prog X.w X.A (EP X pz σ Q) its { s with heap:=(s.heap.push (seqObj "list" #[] 0)).update s.heap.objs.size (Obj.mapSeq (·++its.toArray)) }:=fun its rv=>
  pY (I.kept (t':=s.toks) fun b u e=>gT e) hr rv ok hu fun l p s' hl b1 b2 b3 I'=>⟨.ref l,_,I',rfl,q l p hl b1 b2 b3⟩
 rcases hq with hq | hq
 ·obtain⟨its,rv,pl,hz⟩:=I.list hq
  exact collect_list pl.isList (fin its rv) (by rw[← rv.length];exact hz)
 ·obtain⟨its,rv,pl,hz⟩:=I.tuple hq
  exact iy pl (fin its rv) (by rw[← rv.length];exact hz)
def iN (fa:Dd):DF→Option (List D):=fun ρ=>(fa ρ).bind fun d=>(dF d).bind fun ds=>if cK ds=true then some (cq ds) else none
theorem lP (hu:X.A.units+64<cLine)(hg:Gl X "sorted")(hm:X.mg "sorted"=none)(ha:PDR X e fa)(hs:starEach [e] X.env=[(false,eval e X.env)]:=by rfl)(hpl:(backTo pos (starEach [] X.env)).any (·.1)=false:=by rfl) :
  PDO X (.Call (.Name "sorted" p) [e] [] pos) (asL (iN fa)):=
 (bE (lw hu) hg hm k6 (ap ha aL hs) (by decide) (by decide) hs hpl).imp fun σ H Q=>un7 fun P F ρ ob hf I k=>by
  unfold asL iN at hf
  cases ha:fa ρ with
  | none=>rw[ha] at hf;cases hf
  | some dx=>
  rw[ha,Ya] at hf
  cases hi:dF dx with
  | none=>rw[hi] at hf;cases hf
  | some ds=>
  rw[hi,Ya] at hf
  split at hf
  ·rename_i ok
   cases hf
   refine⟨P,F,ρ,dx,ha,I,fun x F1 H1 e1 rx=>?_⟩
   have I1:=I.evo e1
   have fin:∀ (vs:List V),Reps X.K F1 vs ds→∀ l (p:List Nat),H1 l=none→(∀ i∈p,i<ds.length)→p.length=ds.length→p.map (dAt ds)=cq ds→Q (.ref l) (upd H1 l (.lst (p.map fun i=>vs.getD i .non))):=fun vs r l p hl b1 b2 b3=>by
    refine k l F1 _ (e1.trans (Evo.side e1.hp hl)) ⟨⟨e1.back I.toDHp hl,(e1.hp.free hl).1⟩,_,ak,?_⟩
    show Reps X.K F1 _ (cq ds)
    by_cases hn:ds=[]
    ·subst hn
     have:p=[]:=Zj.mp b2
     rw[this]
     exact .nil
    ·rw[← b3]
     exact r.perm hn p b1
   cases dx with
   | lst ds'=>
    cases hi
    obtain⟨q,vs,rfl,h1,h2⟩:=b_ I1 rx
    exact⟨q,vs,ds,rfl,.inl h1,h2.same I1.sub,ok,fin vs h2⟩
   | tup ds'=>
    cases hi
    obtain⟨q,vs,rfl,h1,h2⟩:=e7 I1 rx
    exact⟨q,vs,ds,rfl,.inr h1,h2.same I1.sub,ok,fin vs h2⟩
   | _=>cases hi
  ·cases hf
end
end L2
namespace L2
open PySem PySem.Spec PyProof.Rows
def kN {α:Type}(xs:List α)(lo hi:Option Int):List α:=(xs.drop (HT.sIx xs.length 0 lo)).take (HT.sIx xs.length xs.length hi-HT.sIx xs.length 0 lo)
theorem Reps.cut {K:Kq}{F:Hp}{vs:List V}{ds:List D}(r:Reps K F vs ds)(lo hi:Option Int):Reps K F (oC vs lo hi) (kN ds lo hi):=by
 unfold oC kN
 rw[r.length]
 exact (r.drop _).take _
def tOI (K:Kq)(f:DF→Option (Option Int)):TO:=fun σ H Q=>∃ P F ρ b,f ρ=some b∧DInv K P F H ρ σ∧∀ F' H',Evo P F H F' H'→Q b H'
def PDB (X:Cx)(e:Option Expr)(f:DF→Option (Option Int)):Prop:=PO X e (tOI X.K f)
def bNo:DF→Option (Option Int):=fun _=>some none
def bI (f:Dd):DF→Option (Option Int):=fun ρ=>match f ρ with
 | some (.int i)=>some (some i)
 | _=>none
section
variable {X:Cx} {e a b c o:Expr} {es:List Expr} {pos p p2:Pos} {lo hi:Option Expr} {fe fa fb:Dd} {fl fh:DF→Option (Option Int)}
theorem PO.imp {t t':TO}{e:Option Expr}(h:PO X e t)(i:∀ σ H Q,t' σ H Q→t σ H Q):PO X e t':=fun pz s σ H Q I q=>h pz s σ H Q I (i σ H Q q)
theorem pH:PDB X none bNo:=PO.imp uo fun σ H Q=>un7 fun P F ρ b hf I k=>by
 cases hf
 exact k F H (Evo.refl I.toDHp)
theorem uH {f:Dd}(h:PDE X e f):PDB X (some e) (bI f):=PO.imp (sv h) fun σ H Q=>un7 fun P F ρ b hf I k=>by
 unfold bI at hf
 split at hf
 ·rename_i i q
  cases hf
  refine⟨P,F,ρ,_,q,I,fun v F' H' ev r=>?_⟩
  cases r
  exact⟨i,rfl,k F' H' ev⟩
 ·cases hf
def slL (fe:Dd)(fl fh:DF→Option (Option Int)):DF→Option (List D):=fun ρ=>match fe ρ with
 | some (.lst xs)=>(fl ρ).bind fun l=>(fh ρ).map fun h=>kN xs l h
 | _=>none
theorem iP (he:PDR X e fe)(hl:PDB X lo fl)(hh:PDB X hi fh):PDO X (.Subscript e (.Slice lo hi none p2) pos) (asL (slL fe fl fh)):=(pL t5 he hl hh).imp fun σ H Q=>un7 fun P F ρ ob hf I k=>by
 unfold asL at hf
 cases q:slL fe fl fh ρ with
 | none=>rw[q] at hf;cases hf
 | some out=>
 rw[q] at hf
 cases hf
 unfold slL at q
 split at q
 ·rename_i xs q1
  cases q2:fl ρ with
  | none=>rw[q2] at q;cases q
  | some l=>
  rw[q2,Ya] at q
  cases q3:fh ρ with
  | none=>rw[q3] at q;cases q
  | some h=>
  rw[q3] at q
  cases q
  refine⟨P,F,ρ,_,q1,I,fun x F1 H1 e1 rx=>⟨P,F1,ρ,l,q2,I.evo e1,fun F2 H2 e2=>⟨P,F2,ρ,h,q3,(I.evo e1).evo e2,fun F3 H3 e3=>?_⟩⟩⟩
  have e123:=(e1.trans e2).trans e3
  obtain⟨l',vs,rfl,h1,h2⟩:=b_ (I.evo e123) ((rx.evo e2).evo e3)
  exact⟨l',vs,rfl,h1,fun p hp=>k p F3 _ (e123.trans (Evo.side e123.hp hp)) ⟨⟨e123.back I.toDHp hp,(e123.hp.free hp).1⟩,_,ak,h2.cut l h⟩⟩
 ·cases q
def slS (fe:Dd)(fl fh:DF→Option (Option Int)):DF→Option D:=fun ρ=>match fe ρ with
 | some (.str x)=>if x.length≤16777216 then (fl ρ).bind fun l=>(fh ρ).map fun h=>.str (Txt.slice x l h) else none
 | _=>none
def pK (K:Kq):R2:=fun x y H Q=>∃ a b xs ys,x=.ref a∧y=.ref b∧SqT K H a xs∧SqT K H b ys∧xs.length+ys.length≤sizeLine ∧
 (xs=[]→Q (.ref b) H)∧(xs≠[]→ys=[]→Q (.ref a) H)∧(xs≠[]→ys≠[]→∀ p,H p=none→Q (.ref p) (upd H p (.tup (xs++ys))))
theorem r6:OpR X (binaryOp .Add) (pK X.K):=by
 intro pz s σ H x y v u Q I rx ry h
 obtain⟨a,b,xs,ys,rfl,rfl,ha,hb,hz,q0,q1,q2⟩:=h
 by_cases hx:xs=[]
 ·cases rx
  cases ry
  obtain⟨its,r1,p1,_⟩:=I.tuple ha
  obtain⟨its2,r2,p2,_⟩:=I.tuple hb
  have hi:its=[]:=r1.nil_iff.mpr hx
  obtain⟨⟨cls,dd,data,sl⟩,ho,hc,n,hd⟩:=id p1
  obtain⟨⟨cls2,dd2,data2,sl2⟩,ho2,hc2,n2,hd2⟩:=id p2
  simp only at hc hd hc2 hd2
  subst hc hd hc2 hd2
  exact concat_meets ⟨_,ho,rfl⟩ ⟨_,ho2,rfl⟩ noFill_tuple_add seq_tuple_add PySem.F.slot_tuple_add PySem.F.entry_tuple_add (PySem.F.args_tuple_add_2 _ _)
   (tuple_addW0 a b its.toArray its2.toArray n n2 dd dd2 sl sl2 (by simp[hi])) ⟨ho,ho2,⟨.ref b,H,I,rfl,q0 hx⟩⟩
 ·exact sL pz s σ H _ _ v u Q I rx ry ⟨a,b,xs,ys,rfl,rfl,ha,hb,hx,hz,q1 hx,q2 hx⟩
def dq:D→D→Option D
 | .int i,.int j=>some (.int (i+j))
 | .str x,.str y=>if x.length+y.length≤16777216 then some (.str (x++y)) else none
 | .lst xs,.lst ys=>if xs.length+ys.length≤16777216 then some (.lst (xs++ys)) else none
 | .tup xs,.tup ys=>if xs.length+ys.length≤16777216 then some (.tup (xs++ys)) else none
 | _,_=>none
theorem Reps.nil_iff {K:Kq}{H:Hp}{vs:List V}{ds:List D}(r:Reps K H vs ds):vs=[]↔ds=[]:=by
 cases r with
 | nil=>simp
 | cons _ _=>simp
theorem ud {K:Kq}:mB K (fun x y H Q=>xz x y H Q∨(uF K x y H Q∨pK K x y H Q)) dq:=by
 intro P F H ρ σ x y dx dy d Q hf I rx ry k
 unfold dq at hf
 split at hf
 ·cases hf
  exact .inl (.inl ⟨_,_,bN rx,bN ry,k _ F H (Evo.refl I.toDHp) .int⟩)
 ·split at hf
  ·rename_i h
   cases hf
   exact .inl (.inr ⟨_,_,jT rx,jT ry,by rw[YS];exact h,k _ F H (Evo.refl I.toDHp) .str⟩)
  ·cases hf
 ·split at hf
  ·rename_i hz
   cases hf
   obtain⟨l,vs,rfl,h1,h2⟩:=b_ I rx
   obtain⟨l2,vs2,rfl,h3,h4⟩:=b_ I ry
   exact .inr (.inl ⟨l,l2,vs,vs2,rfl,rfl,h1,h3,by rw[h2.length,h4.length,YS];exact hz,fun p hp=>k _ _ _ (Evo.laid I.toDHp hp) (.lst (SqL.of ak) ((h2.append h4).same (fq (I.toDHp.free hp).1)))⟩)
  ·cases hf
 ·split at hf
  ·rename_i xs ys hz
   cases hf
   obtain⟨l,vs,rfl,h1,h2⟩:=e7 I rx
   obtain⟨l2,vs2,rfl,h3,h4⟩:=e7 I ry
   have tr:∀ {y:V} {ds:List D},RepS K H F y (.tup ds)→Rep K F y (.tup ds):=fun h=>by
    rcases h with h | ⟨_,ob,_,_,_,_,_,hfl,z⟩
    ·exact h
    ·cases ob <;> first | (cases z;done) | cases hfl
   refine .inr (.inr ⟨l,l2,vs,vs2,rfl,rfl,h1,h3,by rw[h2.length,h4.length,YS];exact hz,fun z=>?_,fun _ z=>?_,fun _ _ p hp=>?_⟩)
   ·have:xs=[]:=h2.nil_iff.mp z
    subst this
    exact k _ F H (Evo.refl I.toDHp) (tr ry)
   ·have:ys=[]:=h4.nil_iff.mp z
    subst this
    rw[YC] at k
    exact k _ F H (Evo.refl I.toDHp) (tr rx)
   ·exact k _ _ _ (Evo.laid I.toDHp hp) (.tup ak ((h2.append h4).same (fq (I.toDHp.free hp).1)))
  ·cases hf
 ·cases hf
theorem di (ha:PDR X a fa)(hb:PDR X b fb):PDE X (.BinOp a .Add b pos) (d2 dq fa fb):=fy ((vH.or ni).or (nG.or r6)) ud ha hb
def isT:String→D→Option Bool
 | "int",.int _=>some true
 | "bool",.int _=>some false
 | "list",.lst _=>some true
 | _,_=>none
def y_ (K:Kq):List V→Hp→VK→Prop:=fun xs H Q=>∃ x T d b,xs=[x,.ty T]∧Rep K H x d∧isT T d=some b∧Q (.bl b) H
theorem pk:CallR X (.builtin "isinstance") (y_ X.K):=by
 intro pz s σ H xs us Q I r h
 obtain⟨x,T,d,b,rfl,hr,ht,q⟩:=h
 obtain⟨u,w',rfl,r1,r2⟩:=lN r
 cases (show w'=Value.type T from r2)
 have f1:EP X pz σ Q (.bool b) s:=⟨.bl b,H,I,rfl,q⟩
 have f2:EP X pz σ Q (.bool b) { s with toks:=s.toks+1 }:=⟨.bl b,H,I.tok _,rfl,q⟩
 unfold isT at ht
 split at ht <;> cases ht <;> cases hr
 ·obtain⟨t,rfl⟩:=(show ∃ t,u=Value.int _ t from r1);exact PySem.IsiPair.int_int f1
 ·obtain⟨t,rfl⟩:=(show ∃ t,u=Value.int _ t from r1);exact PySem.IsiPair.int_bool f2
 ·cases (show u=Value.ref _ from r1);rename_i hs _;obtain⟨_,_,⟨o,n,e,c,_⟩,_⟩:=I.list hs;exact PySem.IsiPair.list_list e c f1
def br (T:String)(d:D):Option D:=(isT T d).map .bl
theorem jA {x:Str}{T:String}{p1:Pos}(hg:Gl X "isinstance")(hm:X.mg "isinstance"=none)(hgt:Gl X x)(hmt:X.mg x=none)(hv:bootBuiltins x=some (.type T))(ha:PDN X a fa)(hn:x ≠ "__name__":=by decide)(hd:(x == ("__debug__":Str))=false:=by decide)
  (hs:starEach [a,.Name x p1] X.env=[(false,eval a X.env),(false,eval (.Name x p1) X.env)]:=by rfl) (hs2:starEach [.Name x p1] X.env=[(false,eval (.Name x p1) X.env)]:=by rfl) (hpl:(backTo pos (starEach [.Name x p1] X.env)).any (·.1)=false:=by rfl) :
  PDE X (.Call (.Name "isinstance" p) [a,.Name x p1] [] pos) (d1 (br T) fa):=
 (bE pk hg hm bu (ap ha (ap (nQ (v:=.ty T) hgt hmt hv rfl hn hd) aL hs2) (by rw[hs,hs2])) (by decide) (by decide) (by rw[hs,hs2]) hpl).imp fun σ H Q=>un7 fun P F ρ d hf I k=>by
  unfold d1 br at hf
  cases q:fa ρ with
  | none=>rw[q] at hf;cases hf
  | some dx=>
   rw[q,Ya] at hf
   cases q2:isT T dx with
   | none=>rw[q2] at hf;cases hf
   | some b=>
    rw[q2] at hf
    cases hf
    exact⟨P,F,ρ,dx,q,I,fun y F1 H1 e1 r1=>⟨y,T,dx,b,rfl,r1,q2,k _ F1 H1 e1 .bl⟩⟩
end
section
variable {X:Cx} {pz:Kp} {σ:St} {H:Hp} {s:Shared}
open Classical in
open Classical in
end
section
variable {X:Cx} {e a b c o:Expr} {es:List Expr} {pos p apos cpos:Pos} {fe fa fb:Dd}
end
section
variable {X:Cx} {tg e a b c o l:Expr} {es:List Expr} {pos p apos cpos spos:Pos} {fe fa fb fc:Dd}
theorem fV {x:Str}{i:Int}{t:Tok}(hg:Gl X x)(hm:X.mg x=some (.int i t))(hd:(x == ("__debug__":Str))=false:=by decide):PDE X (.Name x pos) (fun _=>some (.int i)):=nT (kd hg hm (v:=.int i) ⟨t,rfl⟩ hd) fun _=>.int
def oP:D→D→Option D
 | .int i,.int j=>some (.int (if j<i then j else i))
 | _,_=>none
theorem vS {K:Kq}{r:List V→Hp→VK→Prop}{f:Dy}(ho:jW K (fun x y=>r [x,y]) f):∀ σ H Q,tD K (d2 f fa fb) σ H Q→tCB r (eP (tN K fa) (eP (tN K fb) kZ)) σ H Q:=fun σ H Q h=>l5 ho σ H Q h
theorem wC {K:Kq}:jW K (fun x y H Q=>∃ i j,[x,y]=[V.int i,.int j]∧Q (.int (if j<i then j else i)) H) oP:=by
 intro P F H x y dx dy d Q hf hp rx ry k
 unfold oP at hf
 split at hf
 ·cases hf;cases rx;cases ry;exact⟨_,_,rfl,k _ F H (Evo.refl hp) .int⟩
 ·cases hf
theorem tZ (hc:X.calm=true)(hg:Gl X "min")(hm:X.mg "min"=none)(ha:PDN X a fa)(hb:PDN X b fb)(hs:starEach [a,b] X.env=[(false,eval a X.env),(false,eval b X.env)]:=by rfl)(hs2:starEach [b] X.env=[(false,eval b X.env)]:=by rfl)(hpl:(backTo pos (starEach [b] X.env)).any (·.1)=false:=by rfl) :
  PDE X (.Call (.Name "min" p) [a,b] [] pos) (d2 oP fa fb):=
 (bE (og hc) hg hm rK (ap ha (ap hb aL hs2) (by rw[hs,hs2])) (by decide) (by decide) (by rw[hs,hs2]) hpl).imp (vS wC)
def u6:D→Bool
 | .bl _=>true
 | _=>false
def trD:D→Bool
 | .bl b=>b
 | _=>false
def gD:D→Option D
 | .lst ds=>if ds.all u6=true then some (.bl (ds.all trD)) else none
 | _=>none
def zw (K:Kq):List V→Hp→VK→Prop:=fun xs H Q=>∃ l vs ds,xs=[.ref l]∧SqL K H l vs∧Reps K H vs ds∧ds.all u6=true∧Q (.bl (ds.all trD)) H
theorem oh {ds:List D}:(List.range ds.length).all (fun i=>trD (ds.getD i .non))=ds.all trD:=by
 rw[Bool.eq_iff_iff,YD,YD]
 constructor
 ·intro h d hd
  obtain⟨i,hi,e⟩:=List.getElem_of_mem hd
  have:=h i (ZC.mpr hi)
  rw[YN,Ye hi,e] at this
  exact this
 ·intro h i hi
  have hi:=ZC.mp hi
  rw[YN,Ye hi]
  exact h _ (ZA hi)
theorem pg (hc:X.calm=true):CallR X (.builtin "all") (zw X.K):=by
 intro pz s σ H xs us Q I r h
 obtain⟨l,vs,ds,rfl,hq,hr,hb,q⟩:=h
 obtain⟨u,rfl,ru⟩:=cU r
 cases ru
 obtain⟨its,rv,pl,hz⟩:=I.list hq
 have ho:=pl.isList
 have l1:=hr.length
 have l2:=rv.length
 refine call_all_walk (wpAny_pyIter_list ho ?_)
 have hlt:l<s.heap.objs.size:=by obtain⟨o,e,_⟩:=ho;exact Yn e
 refine⟨s.heap.objs.size,[s.heap.objs.size,l],[s.heap.objs.size],its.toArray.size,_,_,fun i=>trD (ds.getD i .non),rfl,Walks.list (by show X.A.in1.handled=none;exact I.ok.hd hc) s.heap.objs.size l (Yy hlt) its.toArray,⟨⟨_,Yp _ rfl,rfl,rfl⟩,ho.at fun o e=>Yd _ e⟩,fun i v s' Q' E' hv hq'=>?_,fun h' tk k=>?_⟩
 ·have hv:its[i]?=some v:=by simpa using hv
  have hi:i<its.length:=(Yi.mp hv).1
  have hid:i<ds.length:=by omega
  obtain⟨w',a1,a2⟩:=hr.get (Ye hid)
  obtain⟨u',a3,a4⟩:=rv.get a1
  rw[hv] at a3
  cases a3
  have hbd:=YD.mp hb _ (ZA hid)
  have eg:ds.getD i .non=ds[i]:=by rw[YN,Ye hid];rfl
  have hq':Q' (trD (ds.getD i .non)) s':=hq'
  rw[eg] at hq'
  generalize ds[i]=d at *
  cases d with
  | bl b=>cases a2;cases (show v=Value.bool _ from a4);exact ZP hq'
  | _=>cases hbd
 ·have e:its.toArray.size=ds.length:=by rw[Yo];omega
  rw[e,oh]
  refine⟨.bl _,H,I.kept (t':=tk) fun b o e=>k b o (fun z=>?_) (Yd _ e),rfl,q⟩
  have z:b=s.heap.objs.size:=by simpa using z
  rw[z] at e
  exact absurd (Yn e) (Zl _)
theorem wt (hc:X.calm=true)(hg:Gl X "all")(hm:X.mg "all"=none)(ha:PDN X e fa)(hs:starEach [e] X.env=[(false,eval e X.env)]:=by rfl)(hpl:(backTo pos (starEach [] X.env)).any (·.1)=false:=by rfl) :
  PDE X (.Call (.Name "all" p) [e] [] pos) (d1 gD fa):=
 (bE (pg hc) hg hm pR (ap ha aL hs) (by decide) (by decide) hs hpl).imp (qz fun P F H x dx d Q hf hp rx k=>by
  cases dx with
  | lst ds=>
   have hf:(if ds.all u6=true then some (D.bl (ds.all trD)) else none)=some d:=hf
   split at hf
   ·rename_i hb
    cases hf
    cases rx with | lst h1 h2=>exact⟨_,_,ds,rfl,h1,h2,hb,k _ F H (Evo.refl hp) .bl⟩
   ·cases hf
  | _=>cases hf)
end
section
variable {X:Cx} {tg e a b c o l r:Expr} {es:List Expr} {pos p p' apos cpos spos apos' cpos':Pos} {f fe fa fb fc:Dd}
theorem i_:CallR X (.type "range") (fun xs H Q=>∃ j:Int,xs=[.int j]∧∀ q,H q=none→Q (.ref q) (upd H q (.rng 0 j))):=by
 intro pz s σ H xs us Q I r h
 obtain⟨j,rfl,q⟩:=h
 obtain⟨u,rfl,t,rfl⟩:=cU r
 exact call_range_1 ⟨.ref s.heap.objs.size,_,I.laid (o:=.rng 0 j) (fun b ob z=>Yd _ z) (Yr _) ⟨_,_,_,Yp _ rfl⟩,rfl,q _ (I.hok.fresh (Yr _))⟩
def kx (lo:Int)(n:Nat):List V:=(List.range n).map fun i:Nat=>.int (lo+(i:Int))
theorem kD:∀ (n:Nat) (lo:Int) (vs:List Value),vs.length=n→(∀ (j:Nat) v,vs[j]?=some v→∃ t,v=Value.int (lo+(j:Int)) t)→Vals ((List.range n).map fun i:Nat=>V.int (lo+(i:Int))) vs:=by
 intro n
 induction n with
 | zero=>intro lo vs hl _;rw[Zj.mp hl];exact .nil
 | succ n ih=>
  intro lo vs hl hv
  cases vs with
  | nil=>simp at hl
  | cons v vs=>
   rw[List.range_succ_eq_map,YJ,Zy]
   refine .cons ?_ ?_
   ·obtain⟨t,e⟩:=hv 0 v rfl
    exact⟨t,e⟩
   ·have:=ih (lo+1) vs (by simpa using hl) fun j w hw=>by
     obtain⟨t,e⟩:=hv (j+1) w (by simpa using hw)
     exact⟨t,by rw[e];congr 1;push_cast;omega⟩
    have ef:((fun i:Nat=>V.int (lo+(i:Int))) ∘ Nat.succ)=fun i:Nat=>V.int (lo+1+(i:Int)):=by
     funext i
     show V.int (lo+((i+1:Nat):Int))=_
     congr 1;push_cast;omega
    rw[ef]
    exact this
theorem iA (hc:X.calm=true):CallR X (.type "list") (fun xs H Q=>∃ (q:Addr) (lo hi:Int),xs=[.ref q]∧H q=some (.rng lo hi)∧(-(2 ^ 62)≤lo∧lo<2 ^ 62∧-(2 ^ 62)≤hi∧hi<2 ^ 62)∧(hi-lo).toNat≤16777216∧∀ l,H l=none→Q (.ref l) (upd H l (.lst (kx lo (hi-lo).toNat)))):=by
 intro pz s σ H xs us Q I r h
 obtain⟨q,lo,hi,rfl,hq,⟨h1,h2,h3,h4⟩,hn,k⟩:=h
 obtain⟨u,rfl,ru⟩:=cU r
 cases ru
 obtain⟨t,u,v,ho⟩:=I.hok q _ hq
 have hsz:Builtin.Range.rangeSize lo hi 1=((hi-lo).toNat:Int):=by rw[rangeSize_one];split <;> omega
 refine call_list_range (I.ok.hd hc) (n:=(hi-lo).toNat) ho (small_one h1 h2 h3 h4) hsz (by omega) fun h' tk acc' c' kp hget hit=>?_
 refine⟨.ref s.heap.objs.size,_,I.laid (t':=tk) (o:=.lst (kx lo (hi-lo).toNat)) kp (Yr _) ⟨?_,acc'.toList,c',?_,?_⟩,rfl,k _ (I.hok.fresh (Yr _))⟩
 ·unfold kx;rw[Yf,Zv,YS];exact hn
 ·obtain⟨hs,hv⟩:=hit
  refine kD _ lo _ (by simpa using hs) fun j v hj=>?_
  obtain⟨t,e⟩:=hv j v (by rw[← Zw];exact hj)
  exact⟨t,by rw[e];congr 1;omega⟩
 ·simpa using hget
theorem jc {K:Kq}{F:Hp}(lo:Int)(n:Nat):Reps K F (kx lo n) (bW lo n):=by
 unfold kx bW
 generalize List.range n=l
 induction l with
 | nil=>exact .nil
 | cons i l ih=>exact .cons .int ih
def en (f:Dd):DF→Option (List D):=fun ρ=>match f ρ with
 | some (.int j)=>if j<16777216∧-(2 ^ 62)≤j then some (bW 0 j.toNat) else none
 | _=>none
theorem cP (hc:X.calm=true)(hg:Gl X "list")(hm:X.mg "list"=none)(hg2:Gl X "range")(hm2:X.mg "range"=none)(ha:PDE X a fa)(hs0:starEach [a] X.env=[(false,eval a X.env)]:=by rfl)
  (hs:starEach [.Call (.Name "range" p') [a] [] cpos] X.env=[(false,eval (.Call (.Name "range" p') [a] [] cpos) X.env)]:=by rfl):PDO X (.Call (.Name "list" p) [.Call (.Name "range" p') [a] [] cpos] [] pos) (asL (en fa)):=
 (bL (iA hc) hg hm boot_list (ap (bL i_ hg2 hm2 boot_range (ap ha aL hs0) (he:=hs0)) aL hs) (he:=hs)).imp fun σ H Q=>un7 fun P F ρ ob hf I k=>by
  unfold asL en at hf
  cases q:fa ρ with
  | none=>rw[q] at hf;cases hf
  | some dx=>
   rw[q] at hf
   cases dx with
   | int j=>
    dsimp only at hf
    split at hf
    ·rename_i hj
     cases hf
     refine⟨P,F,ρ,_,q,I,fun v F1 H1 e1 r1=>?_⟩
     cases r1
     refine⟨j,rfl,fun q1 hq1=>⟨q1,0,j,rfl,ak,⟨by omega,by omega,hj.2,by omega⟩,by omega,fun l hl=>?_⟩⟩
     have e2:=e1.trans (Evo.side e1.hp (o:=.rng 0 j) hq1)
     have ej:(j-0).toNat=j.toNat:=by omega
     rw[ej]
     exact k l F1 _ (e2.trans (Evo.side e2.hp hl)) ⟨⟨e2.back I.toDHp hl,(e2.hp.free hl).1⟩,_,ak,jc 0 _⟩
    ·cases hf
   | _=>cases hf
def lM (n:Nat):D→Option Nat
 | .int k=>if -(2 ^ 63)≤k∧k<2 ^ 63 then seqIndex? k n else none
 | _=>none
def mZ (j:Nat)(f:Dd):DF→Option (DF×D):=fun ρ=>match ρ[j]? with
 | some (some (.own (.lst ds) t))=>(f ρ).bind fun dk=>(lM ds.length dk).bind fun k=>(ds[k]?).map fun d=>(ρ.set j (some (.own (.lst (ds.eraseIdx k)) t)),d)
 | _=>none
theorem sI {K:Kq}{j:Nat}{f:Dd}{σ:St}{H:Hp}{Q:VK}{P F:Hp}{ρ ρ':DF}{d:D}(hp:mZ j f ρ=some (ρ',d))(I:DInv K P F H ρ σ)(k:∀ v F' H',Same F F'→DInv K P F' H' ρ' σ→Rep K F' v d→Q v H') :
  tBM K "list" r9 (cL j) (eP (tD K f) kZ) σ H Q:=by
 unfold mZ at hp
 split at hp
 ·rename_i ds t q
  cases q2:f ρ with
  | none=>rw[q2] at hp;cases hp
  | some dk=>
   rw[q2,Ya] at hp
   cases q3:lM ds.length dk with
   | none=>rw[q3] at hp;cases hp
   | some kk=>
    rw[q3,Ya] at hp
    cases q4:ds[kk]? with
    | none=>rw[q4] at hp;cases hp
    | some d'=>
     rw[q4] at hp
     cases hp
     cases dk with
     | int i=>
      have q3':(if -(2 ^ 63)≤i∧i<2 ^ 63 then seqIndex? i ds.length else none)=some kk:=q3
      split at q3'
      ·rename_i hb
       obtain⟨a,vs,h1,h2,h3,h4,h5⟩:=eD I q
       refine⟨_,h1,.inl ⟨rfl,vs,SqL.of h4⟩,P,F,ρ,_,q2,I,fun v F1 H1 e1 r1=>?_⟩
       cases r1
       obtain⟨k1,k2⟩:=e1.keep a _ h4 h2
       have r5:=h5.same e1.ext
       obtain⟨y,y1,y2⟩:=r5.get q4
       refine⟨a,vs,i,kk,y,rfl,rfl,k1,hb.1,hb.2,by rw[h5.length];exact q3',y1,?_⟩
       exact k y F1 _ e1.ext ((I.evo e1).mut (o':=.lst _) (u:=.lst _) q rfl rfl h1 (r5.eraseIdx kk)) y2
      ·cases q3'
     | _=>cases q3
 ·cases hp
def dN (i j:Nat)(f:Dd):DF→Option RES:=fun ρ=>(mZ j f ρ).bind fun r=>match r.1[i]? with
 | some (some (.own (.lst ds) t))=>if i≠j∧ds.length<16777216 then some (.nx (r.1.set i (some (.own (.lst (ds++[r.2])) t)))) else none
 | _=>none
theorem oU (i j:Nat)(ho:PE X o (cL i))(hr:PE X r (cL j))(ha:PDE X e f)(hbase:attributeBase o "append" X.env (eval o X.env)=eval o X.env:=by rfl)(hbase':attributeBase r "pop" X.env (eval r X.env)=eval r X.env:=by rfl)
  (hfew':((backTo cpos' (starEach [e] X.env)).all (fun x=>!x.1)&&(backToKw cpos' (keywordEach [] X.env)).all (fun x=>x.1.isSome)
   && decide (([e]:List Expr).length+([]:List Keyword).length+(if ([]:List Keyword).isEmpty then 0 else 1)<30))=true:=by rfl)
  (hfew:((backTo cpos (starEach [.Call (.Attribute r "pop" apos') [e] [] cpos'] X.env)).all (fun x=>!x.1)&&(backToKw cpos (keywordEach [] X.env)).all (fun x=>x.1.isSome)
   && decide (([.Call (.Attribute r "pop" apos') [e] [] cpos']:List Expr).length+([]:List Keyword).length+(if ([]:List Keyword).isEmpty then 0 else 1)<30))=true:=by rfl)
  (hline:(apos.endLine == cpos.line)=true:=by rfl) (hline':(apos'.endLine == cpos'.line)=true:=by rfl) (hs':starEach [e] X.env=[(false,eval e X.env)]:=by rfl)
  (hs:starEach [.Call (.Attribute r "pop" apos') [e] [] cpos'] X.env=[(false,eval (.Call (.Attribute r "pop" apos') [e] [] cpos') X.env)]:=by rfl) (hsw:swapsWith (.Call (.Attribute o "append" apos) [.Call (.Attribute r "pop" apos') [e] [] cpos'] [] cpos) none pos.line X.env=pure false:=by rfl) :
  PD1 X (.Expr (.Call (.Attribute o "append" apos) [.Call (.Attribute r "pop" apos') [e] [] cpos'] [] cpos) pos) (dN i j f):=
 PS.imp (gt (nB Zr Xp Xq dZ ho (ap (nB Zr PySem.F.slot_list_pop PySem.F.type_list_pop p6 hr (ap ha aL hs') hbase' hfew' hline' hs' rfl) aL hs) hbase hfew hline hs rfl) hsw) fun E σ H=>un7 fun P F ρ res hres I k=>by
  unfold dN at hres
  cases q:mZ j f ρ with
  | none=>rw[q] at hres;cases hres
  | some pr=>
   rw[q,Ya] at hres
   split at hres
   ·rename_i ds t qi
    split at hres
    ·rename_i hc
     cases hres
     -- the i-th slot is not touched by the pop
     have qi0:ρ[i]?=some (some (.own (.lst ds) t)):=by
      have q':=q
      unfold mZ at q'
      split at q'
      ·rename_i ds' t' qj
       cases z1:f ρ with
       | none=>rw[z1] at q';cases q'
       | some dk=>
        rw[z1,Ya] at q'
        cases z2:lM ds'.length dk with
        | none=>rw[z2] at q';cases q'
        | some kk=>
         rw[z2,Ya] at q'
         cases z3:ds'[kk]? with
         | none=>rw[z3] at q';cases q'
         | some d'=>
          rw[z3] at q'
          cases q'
          rw[YG (fun z=>hc.1 z.symm)] at qi
          exact qi
      ·cases q'
     obtain⟨a,vs,h1,h2,h3,h4,h5⟩:=eD I qi0
     refine⟨_,h1,.inl ⟨rfl,vs,SqL.of h4⟩,?_⟩
     refine sI q I fun v F' H' e I' rv=>?_
     obtain⟨a',vs',g1,g2,g3,g4,g5⟩:=eD I' qi
     rw[h1] at g1
     cases g1
     refine⟨a,vs',v,rfl,rfl,g4,by rw[YS,g5.length];exact hc.2,k σ F' _ e ?_⟩
     exact I'.mut (o':=.lst _) (u:=.lst _) qi rfl rfl h1 (g5.append (.one rv))
    ·cases hres
   ·cases hres
end
section
variable {X:Cx} {tg a b c o i e f:Expr} {pos pos' apos cpos p:Pos} {fd fk fx fv fa fb fc:Dd}
end
theorem Room.h64 {k:Nat}{A:Around}(r:Room k A):A.units+64<cLine:=by have:=r.un;omega
def xw (sc0 scope:Scope):Bool:=scope.kind == .function&&(scope.names.map (·.1)).Nodup&&(scope.names.all fun x=>x.2 != .free||(sc0.names.lookup x.1 == some .cell||sc0.names.lookup x.1 == some .free))
theorem d7 {X:Cx}{scope:Scope}(sc0:Scope)(e:X.env.scope=sc0)(h:xw sc0 scope=true):BlkScope X scope:=by
 unfold xw at h
 simp only[Yx,YX] at h
 obtain⟨⟨h1,h2⟩,h3⟩:=h
 refine⟨by simpa using h1,h2,fun x hx hk=>?_⟩
 have:=YD.mp h3 x hx
 rw[hk] at this
 have e2:X.env.kindOf x.1=sc0.names.lookup x.1:=by show X.env.scope.names.lookup x.1=_;rw[e]
 rw[e2]
 simpa using this
def xq (N0:List Str)(scope:Scope)(N:List Str)(own:Nat)(ix:List Nat):Bool:=
 decide (N.length=own+ix.length)&&(List.range ix.length).all fun i=>match N[own+i]?,ix[i]? with
  | some x,some j=>N0[j]? == some x&&scope.names.lookup x == some .free
  | _,_=>true
theorem eh {X:Cx}{scope:Scope}{N:List Str}{own:Nat}{ix:List Nat}(N0:List Str)(e:X.N=N0)(h:xq N0 scope N own ix=true):Caps X scope N own ix:=by
 unfold xq at h
 rw[Yx,YX] at h
 refine⟨h.1,fun i j x h1 h2=>?_⟩
 have hi:i<ix.length:=(Yi.mp h2).1
 have:=YD.mp h.2 i (ZC.mpr hi)
 rw[h1,h2] at this
 simp only[Yx,Vh] at this
 rw[e]
 exact this
section
variable {X:Cx}
theorem d3:jF X [] (tB' X.K bf):=fun pz s σ H Q I hh_=>by
 obtain⟨P,F,ρ,b,hf,J,k⟩:=hh_
 cases hf
 exact pq pz s σ H Q I (k F H (Evo.refl J.toDHp))
end
theorem cN {is:List Nat}{own:Nat}(h:(is.all fun j=>decide (j<own))=true):∀ j∈is,j<own:=fun j m=>ZE (YD.mp h j m)
theorem tE {K:Kq}{f:Do}:∀ σ H Q,tD K (asO f) σ H Q→tO K f σ H Q:=fun σ H Q=>un7 fun P F ρ d hf I k=>by
 unfold asO at hf
 cases q:f ρ with
 | none=>rw[q] at hf;cases hf
 | some o=>
  rw[q] at hf
  cases hf
  refine⟨P,F,ρ,o,q,I,fun a F' H' ev ho=>?_⟩
  exact k (.ref a) _ H' (ev.freeze I.toDHp (fun b=>H b=none∧F' b=none) fun _ q=>q) (ho.rep (a_ fun b q=>q.2) fun b u q hb=>by rw[bT q];exact hb)
section
variable {X:Cx} {tg iter elt:Expr} {ifs:List Expr} {scope:Scope} {pos:Pos} {N:List Str} {own:Nat} {ix is:List Nat} {f:Dl} {st:Dq} {c:Dk} {e:Dd}
theorem lI {i:Nat}{y:Str}{py spos:Pos}(hN:X.N.Nodup)(hiN:X.N[i]?=some y)(hx:Loc X.env.scope y)(hcalm:X.calm=true)(b:BlkScope X scope)(cp:Caps X scope N own ix)(his:∀ j∈is,j<own)(hi:PDI X tg iter f)
  (hg:∀ s H fp pz,PDG (blk X scope N s H fp pz) tg is st) (hc:∀ s H fp pz,jF (blk X scope N s H fp pz) ifs (tB' X.K c)) (he:∀ s H fp pz,PDE (blk X scope N s H fp pz) elt e)
  (hnames:∀ y∈scope.names,y.2=.local→scope.names.lookup y.1=some .local)
  (hsw:swapsWith (.ListComp elt [⟨tg,iter,ifs,0⟩] scope pos) (some (.Name y py)) spos.line X.env=pure true:=by rfl)
  (hs:∀ x,foldedSetIterable iter X.env x=pure x:=by intro _;rfl)
  (hf:X.fn y=true∨X.env.scope.names.lookup y=some .local:=by first | exact .inl rfl | exact .inr rfl | assumption) :
  PD1 X (.Assign [.Name y py] (.ListComp elt [⟨tg,iter,ifs,0⟩] scope pos) spos) (a9 i (asL (az own ix f st c e))):=
 PS.imp (g8 (g:=tG X.K is st) (tc:=tB' X.K c) (te:=tD X.K e) hcalm hN hiN hx b cp hi hg hc he hsw hnames hs hf) fun E σ H q=>jX his σ H _ (rM E σ H q)
theorem mV {i:Nat}{y:Str}{py spos:Pos}(hN:X.N.Nodup)(hiN:X.N[i]?=some y)(hx:Loc X.env.scope y)(hcalm:X.calm=true)(b:BlkScope X scope)(cp:Caps X scope N own ix)(his:∀ j∈is,j<own)(hi:PDI X tg iter f)
  (hg:∀ s H fp pz,PDG (blk X scope N s H fp pz) tg is st) (hc:∀ s H fp pz,jF (blk X scope N s H fp pz) ifs (tB' X.K c)) (he:∀ s H fp pz,PDE (blk X scope N s H fp pz) elt e)
  (hnames:∀ y∈scope.names,y.2=.local→scope.names.lookup y.1=some .local)
  (hsw:swapsWith (.ListComp elt [⟨tg,iter,ifs,0⟩] scope pos) (some (.Name y py)) spos.line X.env=pure true:=by rfl)
  (hs:∀ x,foldedSetIterable iter X.env x=pure x:=by intro _;rfl)
  (hf:X.fn y=true∨X.env.scope.names.lookup y=some .local:=by first | exact .inl rfl | exact .inr rfl | assumption) :
  PD1 X (.Assign [.Name y py] (.ListComp elt [⟨tg,iter,ifs,0⟩] scope pos) spos) (bC i (asO (asL (az own ix f st c e)))):=
 PS.imp (g8 (g:=tG X.K is st) (tc:=tB' X.K c) (te:=tD X.K e) hcalm hN hiN hx b cp hi hg hc he hsw hnames hs hf) fun E σ H q=>jX his σ H _ (tE σ H _ (qQ E σ H q))
end
section
variable {X:Cx} {e:Expr} {pos:Pos}
end
section
variable {X:Cx} {e:Expr} {pos pos2 p p2:Pos}
end
end L2
namespace L2
open PySem PySem.Spec PySem.Calls PySem.W PyProof.Rows Builtin Builtin.ObjectAttr Builtin.Getset_descriptor
def ExAt (e C:Addr)(h:Heap):Prop:=∃ o,h.get? e=some o∧o.cls=.ref C
theorem ExAt.type {M:Model}{e C:Addr}{h:Heap}(x:ExAt e C h):Looks M h (typeOf (.ref e)) (.ref C):=by
 obtain⟨o,h1,h2⟩:=x
 exact h2 ▸ (Looks.ld h1).andThen .now
structure ExC (K:PySem.W.Frag) (C:Addr):Prop where
 ga:findIn K (.ref C) "__getattribute__"=some (some (.builtin "BaseException.__getattribute__"))
 noga:findIn K (.ref C) "__getattr__"=some none
 ha:findIn K (.ref C) "__class__"=some (some (.builtin "object.__class__"))
 hn:specialIn K (.builtin "object.__class__") "__get__"=some (some (.builtin "getset_descriptor.__get__"))
 htk:takesIn K (.builtin "object.__class__")=some true
 hm:mroIn K C (.type "object")=some true
 hb:mroIn K C (.type "BaseException")=some true
section
variable {K:Kq} {e C:Addr} {prog:Program} {w:World} {A:Around} {E:Kv} {s:Shared}
theorem si {M:Model}{h:Heap}(X:K.In h)(x:ExC K C):Looks M h (find (.ref e) (.ref C) "__class__") (.bind (.builtin "getset_descriptor.__get__") (.builtin "object.__class__")):=by
 have L1:=looks_findIn (M:=M) X x.ha
 have L2:Looks M h (getOf (some (.builtin "object.__class__"))) (some (.builtin "getset_descriptor.__get__")):=looks_specialIn X x.hn
 have L3:=looks_takesIn (M:=M) X x.htk
 refine L1.andThen (L2.andThen ?_)
 exact (show Looks M h (dataDescriptor? (some (.builtin "object.__class__")) (some (.builtin "getset_descriptor.__get__"))) (some (.builtin "getset_descriptor.__get__",.builtin "object.__class__")) from L3.andThen .now).andThen (Looks.tag .now)
theorem v_ {R:Kr}{tp:Value}(X:K.In s.heap)(x:ExC K C)(I:ExAt e C s.heap)(h:R (.ok (.ret (.ref C))) s) :
  codeAny (model prog w) A (.call (.builtin "getset_descriptor.__get__") ⟨[.builtin "object.__class__",.ref e,tp],[]⟩) R s:=by
 obtain⟨hh,g,dr,t,os⟩:=s
 have L0:=I.type (M:=model prog w)
 have L1:=looks_mroIn (M:=model prog w) X x.hm
 refine XL KF.slot_gs.plain KF.entry_gs ?_;refine KF.slot_gs.check _ _ _ _ _ _ _ _ KF.type_class (KF.args_gs _ _ _) ?_
 (unfold Builtin.«getset_descriptor.__get__» descrGet;rw[dga_obj];refine Yj (Yu ?_))
 (unfold descrGetter descrCheckInstance descrNameAndClass isInstance;simp only[KF.owner_class];repeat lk)
 have hz:Code.quiet (.builtin "object.__class__" ⟨[.ref e],[]⟩)=true:=Xw _ (by decide +kernel)
 (refine⟨hz,Zs KF.entry_class ?_⟩;unfold Builtin.«object.__class__» shownTypeOf;repeat lk)
 exact h
theorem r_ {nameV:Value}{M:Model}{Q:Unit→Shared→Prop}(X:K.In s.heap)(x:ExC K C)(I:ExAt e C s.heap)(hq:Q () s):wpAny M A (checkBuiltinCall "BaseException.__getattribute__" ⟨[.ref e,nameV],[]⟩) Q E s:=by
 have hk:builtinKind "BaseException.__getattribute__"=some .slot:=by decide +kernel
 have hsplit:splitId "BaseException.__getattribute__"=some ("BaseException", "__getattribute__"):=by decide +kernel
 have ha:=F.args_bexc_ga (.ref e) nameV
 obtain⟨hh,g,dr,t,os⟩:=s
 have L0:=I.type (M:=M)
 have L1:=looks_mroIn (M:=M) X x.hb
 simp only[checkBuiltinCall,hk,hsplit]
 refine Yj ?_
 ·unfold isInstance
  refine Yj (L0.at (L1.at ?_))
  repeat (first | wp_step)
  exact hq
theorem pS {tk:Tok}{Q:Fin→Shared→Prop}(X:K.In s.heap)(x:ExC K C)(I:ExAt e C s.heap)(hq:Q (.done (.ret (.ref C))) s) :
  wpAny (model prog w) A (Builtin.«object.__getattribute__» ⟨[.ref e,.str "__class__" tk],[]⟩) Q E s:=by
 obtain⟨hh,g,d,t,os⟩:=s
 have L0:=I.type (M:=model prog w)
 have L1:=si (e:=e) (M:=model prog w) X x
 refine Yj (Yu (Yj (Yu (Yj (L0.at (Yj (L1.at ?_)))))))
 show wpAny _ _ (holding [_] (call _ [_,.ref e,.ref C])>>=ret) _ _ _
 exact Yj (Zp (XO (v_ (s:=⟨hh,g,d,t,os⟩) X x I (Yu hq))))
theorem rP (self:Value):bindSpecial (.builtin "BaseException.__getattribute__") self=pure (.builtin "BaseException.__getattribute__",[self]):=by
 have hk:builtinKind "BaseException.__getattribute__"=some .slot:=by decide +kernel
 have hop:withoutEnding? "BaseException.__getattribute__" "#opaque"=none:=by decide +kernel
 have hdat:withoutEnding? "BaseException.__getattribute__" "#data"=none:=by decide +kernel
 simp only[bindSpecial,typeOf,builtinType,hop,hdat,hk];rfl
theorem xj {tk:Tok}{fill expr:Bool}{Q:Kv}(X:K.In s.heap)(x:ExC K C)(I:ExAt e C s.heap)(hq:Q (.ref C) s) :
  wpAny (model prog w) A (getAttrBy (.ref e) (.str "__class__" tk) fill expr) Q E s:=by
 obtain⟨hh,g,d,t,os⟩:=s
 have L0:=I.type (M:=model prog w)
 have L1:=looks_findIn (M:=model prog w) X x.ga
 have L2:=looks_findIn (M:=model prog w) X x.noga
 have hx0:(expr&&onTheHeap (Value.builtin "BaseException.__getattribute__"))=false:=by cases expr <;> rfl
 have hx2:(Value.builtin "BaseException.__getattribute__" == Value.builtin "object.__getattribute__")=false:=by decide +kernel
 have hx1:(onTheHeap (Value.ref C)&&Value.builtin "BaseException.__getattribute__" == Value.builtin "object.__getattribute__")=false:=by rw[hx2];rfl
 unfold getAttrBy
 refine Zp (Yj (L0.at (Yj (L1.at ?_))))
 dsimp only
 rw[hx1,Ym Yg]
 unfold getAttrByItsOwn
 refine Yj ?_
 show wpAny _ _ (typeLookup (.ref C) "__getattr__") _ _ _
 refine L2.at (Yj (wpAny_attempt (Zp ?_)))
 unfold callGetattribute boundAndCalled
 rw[hx0,Ym Yg,rP]
 refine Yj (Yu ?_)
 refine XO (XL (by decide +kernel) F.entry_bexc_ga (r_ (s:=⟨hh,g,d,t,os⟩) X x I (pS (s:=⟨hh,g,d,t,os⟩) X x I ?_)))
 show wpAny _ _ (handedOut (.ref C)) _ _ _
 exact Yu hq
theorem xN {Q:Ko}(X:K.In s.heap)(x:ExC K C)(I:ExAt e C s.heap)(hq:Q (some (.ref C)) { s with toks:=s.toks+1 }):wpAny (model prog w) A (getAttr? (.ref e) "__class__") Q E s:=by
 obtain⟨hh,g,d,t,os⟩:=s
 unfold getAttr? getAttrBy?
 refine Yj (wpAny_mkText (Yj (wpAny_attempt ?_)))
 exact xj (s:=⟨hh,g,d,t+1,os⟩) X x I (Yu hq)
theorem k8 (x:ExC K C):KitX K (.ref e) (.ref C) (ExAt e C) where
 ty:=fun _ _ _ p=>p.type
 it:=fun _ _ X _=>by
  obtain⟨cd,a,b⟩:=Option.bind_eq_some_iff.mp x.hm
  unfold clsIn at a
  split at a
  ·rename_i c' d' cd' sl' ho
   intro A' Q' E' s' k q
   unfold isType loadHead
   exact Yj (wpAny_loadPart (k _ _ (X _ _ ho)) (Yu q))
  ·cases a
 ne:=fun h tp dd its n sl X htp=>by
  obtain⟨cd,a,b⟩:=Option.bind_eq_some_iff.mp x.hm
  refine Bool.eq_false_iff.mpr fun q=>?_
  have e:C=tp:=Value.ref.inj (Vh.mp q)
  subst e
  unfold clsIn at a
  split at a
  ·rename_i c' d' cd' sl' ho
   rw[X _ _ ho] at htp
   cases htp
  ·cases a
 ca:=fun X p k=>xN X x p k
end
end L2
namespace L2
open PySem PySem.Spec PySem.Calls PySem.W PyProof.Rows
theorem ObjOk.isAt {P:Program}{w:World}{H:Hp}{h:Heap}{a:Addr}{o:HO}(x:ObjOk P w H h a o):∃ u,h.get? a=some u:=by
 cases o with
 | lst xs=>obtain⟨_,_,_,_,e⟩:=x;exact⟨_,e⟩
 | tup xs=>obtain⟨_,_,_,⟨_,e,_⟩,_⟩:=x;exact⟨_,e⟩
 | dK kvs=>obtain⟨_,_,_,_,_,_,_,e,_⟩:=x;exact⟨_,e⟩
 | dT kvs=>obtain⟨_,_,_,_,_,_,_,e,_⟩:=x;exact⟨_,e⟩
 | set S n=>obtain⟨_,_,_,_,e,_⟩:=x;exact⟨_,e⟩
 | ins C dx fs=>obtain⟨_,_,_,e,_⟩:=x;exact⟨_,e⟩
 | own y=>exact x
 | xd fs=>obtain⟨_,⟨_,_,_,e,_⟩,_⟩:=x;exact⟨_,e⟩
 | rng lo hi=>obtain⟨_,_,_,e⟩:=x;exact⟨_,e⟩
 | frz ob u=>obtain⟨e,_⟩:=x;exact⟨_,e⟩
 | tbl ps=>exact⟨_,(show h.get? a=some _ from x)⟩
 | met f y=>exact⟨_,(show h.get? a=some _ from x)⟩
 | ext φ=>exact x.2.1
theorem HOk.miss {P:Program}{w:World}{H:Hp}{h:Heap}{a:Addr}(x:HOk P w H h)(n:h.get? a=none):H a=none:=by
 cases q:H a with
 | none=>rfl
 | some o=>
  obtain⟨u,e⟩:=(x a o q).isAt
  rw[n] at e
  cases e
structure Thr (P:Program) (w:World) (C:Addr) (outer:List Env) (H:Hp) (s:Shared) (a:Addr) (a0:Value) (B:Heap) (H':Hp) (s':Shared):Prop where
 os:s'.os=s.os
 bare:AllBare s'.gens
 keep:∀ b o,s.heap.get? b=some o→H b=none→b∉frs outer→B.get? b=some o
 slot:∀ b o,s.heap.get? b=some o→H b=none→b∈frs outer→(∀ vs,o.data≠.fields vs)∧∃ sl,s'.heap.get? b=some { o with slots:=sl }
 free:∀ b o,s.heap.get? b=some o→H b=none→H' b=none
 there:∀ b o,s.heap.get? b=some o→b∉frs outer→∃ o',B.get? b=some o'
 tups:∀ b xs,H b=some (.tup xs)→H' b=some (.tup xs)
 frzs:∀ b o u,H b=some (.frz o u)→H' b=some (.frz o u)
 tbls:∀ b ps,H b=some (.tbl ps)→∃ more,H' b=some (.tbl (ps++more))
 hok:HOk P w H' B
 fly:Heap.FlyingW B outer a (.ref C) a0 s'.heap
def CXr (P:Program)(w:World)(C:Addr):CXT:=fun outer H s E e s'=>∃ a a0 B H',e=.ref a∧Thr P w C outer H s a a0 B H' s'∧E (.ref C) none H'
theorem Thr.un {P:Program}{w:World}{C:Addr}{outer:List Env}{H:Hp}{s:Shared}{a:Addr}{a0:Value}{B:Heap}{H':Hp}{s':Shared}{h:Heap}(t:Thr P w C outer H s a a0 B H' s')(frf:∀ b∈frs outer,H b=none)(hb:B.StaysIn h)(hs:s'.heap.UpToSlots h) :
  Un (frs outer) [] H H' s.heap h where
 keep:=fun b o q n hf _=>hb _ _ (t.keep b o q n hf)
 slot:=fun b o q n hf _=>by
  obtain⟨nf,sl,e1⟩:=t.slot b o q n hf
  obtain⟨sl',e2⟩:=hs b _ e1 nf
  exact⟨sl',e2⟩
 free:=fun b o q n _=>t.free b o q n
 there:=fun b o q _=>by
  by_cases hf:b∈frs outer
  ·obtain⟨nf,sl,e1⟩:=t.slot b o q (frf b hf) hf
   obtain⟨sl',e2⟩:=hs b _ e1 nf
   exact⟨_,e2⟩
  ·obtain⟨o',e⟩:=t.there b o q hf
   exact⟨o',hb _ _ e⟩
 tups:=t.tups
 frzs:=t.frzs
 tbls:=t.tbls
section
variable {P:Program} {w:World} {K:Kq} {mg:Ks} {base:Heap} {N:List Str} {qual:Str} {scope:Scope} {f C:Addr} {cd:Value} {A:Around} {outer:List Env} {s:Shared} {H:Hp} {E:XK}
theorem Inv.throws {pz:Kp}{σ:St}{H1:Hp}{s2:Shared}{h':Heap}{e:Addr}{vs:List Value}(I:Inv (b9 (CXr P w C) P w K mg base N qual scope f cd A outer s H E) pz σ H1 s2)(hx:Heap.MadeExcOf s2.heap h' e (.ref C) vs)(hE:E (.ref C) none H1) :
  (b9 (CXr P w C) P w K mg base N qual scope f cd A outer s H E).xe (.ref e) { s2 with heap:=h' }:=by
 have hin:∀ env∈(b9 (CXr P w C) P w K mg base N qual scope f cd A outer s H E).stack,∀ b,env.frame=some b→b∈frs (b9 (CXr P w C) P w K mg base N qual scope f cd A outer s H E).stack:=fun env he b hb=>XY.mpr ⟨env,he,hb⟩
 have nS:∀ b o,s.heap.get? b=some o→b∉frs outer→b∉frs (b9 (CXr P w C) P w K mg base N qual scope f cd A outer s H E).stack:=fun b o q nf z=>by
  rcases YF.mp (I.stkSub b z) with z | z
  ·exact absurd z (Yy (YA (Yn q) I.ok.above))
  ·exact nf z
 refine wpAny_leaves_madeW (base:=hideAll s2.heap (frs (b9 (CXr P w C) P w K mg base N qual scope f cd A outer s H E).stack)) (h:=s2.heap) (env:=(b9 (CXr P w C) P w K mg base N qual scope f cd A outer s H E).env) (outer:=outer) I.ok.frames rfl (fun b o q=>of_hideAll _ q) (funFrames_hide I.stack hin) hx fun h'' t fly _ _ up=>?_
 refine⟨e,.ref t,_,H1,rfl,⟨I.os,I.bare,fun b o q n nf=>?_,fun b o q n nf=>?_,fun b o q n=>I.base.free b o q n (by intro z;exact absurd (show b∈([]:List Addr) from z) (by simp)),fun b o q nf=>?_,I.base.tups,I.base.frzs,I.base.tbls,fun b o q=>?_,fly⟩,hE⟩
 ·exact hideAll_get _ (I.base.keep b o q n nf (by intro z;exact absurd (show b∈([]:List Addr) from z) (by simp))) (nS b o q nf)
 ·obtain⟨sl,e1⟩:=I.base.slot b o q n nf (by intro z;exact absurd (show b∈([]:List Addr) from z) (by simp))
  obtain⟨_,o',ho',nf'⟩:=I.ok.funs.mem nf
  have ho2:s.heap.get? b=some o':=ho'
  rw[q] at ho2
  cases ho2
  obtain⟨sl',e2⟩:=up b _ (hx.keeps _ _ e1) nf'
  exact⟨nf',sl',e2⟩
 ·obtain⟨o',e1⟩:=I.base.there b o q (by intro z;exact absurd (show b∈([]:List Addr) from z) (by simp))
  exact⟨o',hideAll_get _ e1 (nS b o q nf)⟩
 ·refine (I.hok b o q).stay (fun c u hc e1=>hideAll_get _ e1 fun z=>?_) (fun _ z=>z) fun _ _ z=>z
  have nz:=I.stkFree c z
  rcases hc with rfl | hc
  ·rw[nz] at q;cases q
  ·rw[nz] at hc;cases hc
end
def oM:List Value:=[.type "ValueError",.type "Exception",.type "BaseException",.type "object"]
theorem tV {K:Kq}{h:Heap}{C:Addr}(X:K.In h)(q:excIn K C oM "ValueError.__new__"=true) :
  ∃ bm N nm qn bs hdct sn sub ab col dd k0 k1 k2 k3 k5 mN,h.get? C=some (excClassObj nm qn C N bs bm hdct sn sub ab col dd k0 k1 k2 k3 k5 "ValueError.__new__")∧h.Ns N mN∧mN "__init__"=none∧OwnTail h oM bm:=by
 unfold excIn at q
 split at q
 case h_1 dd cd sl ho=>
  split at q
  case h_1 C' bm k0 k1 k2 k3 n k5 hm hs=>
   (rw[Yx,Yx,Yx,Yx,Yx,Vh,Vh,Vh] at q;obtain⟨⟨⟨⟨⟨rfl,rfl⟩,hz⟩,ht⟩,hok⟩,hni⟩:=q)
   rcases cd with⟨nm,bs,mro,ns,qn,hd,sn,sub,ab,col,del⟩
   have e1:mro=.ref C'::bm:=hm
   have e2:del=false:=by cases del with | false=>rfl | true=>cases hz
   have e3:sl=#[k0,k1,k2,k3,some (.builtin "ValueError.__new__"),k5]:=by rcases sl with⟨l⟩;exact Zz Array.mk hs
   rw[e1,e2,e3] at ho
   exact⟨_,_,_,_,_,_,_,_,_,_,_,_,_,_,_,_,_,X _ _ ho,.of_isNs (isNs_of_in X hok),nsMap_none_of_in X hok hni,tail_of_in X ht⟩
  case h_2=>cases q
 case h_2=>cases q
def wk (X:Cx)(C:Addr)(R:Hp→Prop):Prop:=∀ (pz:Kp) (σ:St) (H1:Hp) (s2:Shared) (h':Heap) (e:Addr) (vs:List Value),Inv X pz σ H1 s2→Heap.MadeExcOf s2.heap h' e (.ref C) vs→R H1→X.xe (.ref e) { s2 with heap:=h' }
theorem rS {X:Cx}{C:Addr}{x t:Str}{i np p2 cpos pos}{R:Hp→Prop}(hc:X.calm=true)(hR:wk X C R)(hg:Gl X x)(hm:X.mg x=some (.ref C))(q:excIn X.K C oM "ValueError.__new__"=true)
  (hd:(x == ("__debug__":Str))=false:=by decide) (hs:starEach [.Constant (.str t) i p2] X.env=[(false,eval (.Constant (.str t) i p2) X.env)]:=by rfl) :
  PS X (.Raise (some (.Call (.Name x np) [.Constant (.str t) i p2] [] cpos)) none pos) (fun _ _ H=>R H):=by
 intro pz s σ H D I h
 obtain⟨bm,N,nm,qn,bs,hdct,sn,sub,ab,col,dd,k0,k1,k2,k3,k5,mN,hC,hN,hni,T⟩:=tV I.mod.kin q
 refine wpAny_Raise_call_subT (C:=C) (nm:=nm) (q:=qn) (N:=N) (bs:=bs) (bm:=bm) (hdct:=hdct) (sn:=sn) (sub:=sub) (ab:=ab) (col:=col) (dd:=dd) (k0:=k0) (k1:=k1) (k2:=k2) (k3:=k3) (k5:=k5) F.excBase_ValueError (mN:=mN) (T.hasType rfl) (I.ok.hd hc) (by rw[hs];rfl) hni (dP I hg hm ⟨rfl,?_⟩ hd)
 have pa:PA X [.Constant (.str t) i p2] (eP (tC (.str t)) kZ):=ap vV aL hs
 have go:=pa cpos pz s σ H (fun vs H1=>vs.length=1∧R H1) I ⟨rfl,h⟩
 rw[hs] at go ⊢
 refine Calls.evalArgs_plain (aR go fun us s1 vs H1 I1 r1 q1=>⟨rfl,?_,I1.bk _ _ hC,hN.keeps I1.bk,T.keeps I1.bk,fun h' e hx=>hR pz σ H1 s1 h' e us I1 hx q1.2⟩)
 rw[← r1.length,q1.1]
 decide
def Cx.caught (X:Cx)(a:Addr)(ob:Obj):Cx:={ X with A:=X.A.mark (some (.ref a)),calm:=false,pn:=(a,ob)::X.pn,xe:=fun _ _=>False }
section
variable {X:Cx} {a C:Addr} {ob:Obj} {pz:Kp} {σ:St} {H:Hp} {s:Shared}
theorem Inv.caught (I:Inv X pz σ H s)(h1:s.heap.get? a=some ob)(h2:H a=none)(h3:a≠X.env.locals)(h4:a∉X.fs)(h5:∀ v,ob.data≠.cell v):Inv (X.caught a ob) pz σ H s:=
  ⟨⟨I.ok.mod,I.ok.kind,I.ok.glob,I.ok.blt,I.ok.above,I.ok.inj,I.ok.has,I.ok.cab,(fun z=>nomatch z),I.ok.frames,I.ok.stk,I.ok.exf,I.ok.bs,I.ok.bsz,I.ok.noex,I.ok.exfs,I.ok.funs,I.ok.frf⟩,
   I.os,I.bare,I.base,I.loc,I.cell,I.free,I.freeC,fun p hp=>(YF.mp hp).elim (fun z=>z ▸ ⟨h1,h2,h3,h4,h5⟩) (I.pin p),I.hok,I.len⟩
theorem ul {M:Model}{A:Around}{E:Kv}{i:Nat}{x:Str}{pos:Pos}{Q:Unit→Shared→Prop}(I:Inv X pz σ H s)(hN:X.N.Nodup)(hi:X.N[i]?=some x)(hk:X.env.scope.names.lookup x=some .local)(h:∀ s',Inv X pz (σ.set i none) H s'→Q () s') :
  wpAny M A (do bindName X.env x .none;unbindBehindTheSuite X.env x pos) Q E s:=by
 obtain⟨m,hn,hl⟩:=id I.loc
 have hcls:(X.env.scope.kind == .class||(X.env.scope.kind == .module&&X.env.locals != X.env.globals))=false:=by rw[I.ok.kind];rfl
 refine wpAny_nameGoes_keeps hk hn hcls fun h' v hn' hs=>?_
 have ne:∀ b o,X.s₀.heap.get? b=some o→b≠X.env.locals:=fun b o e=>Yy (YA (Yn e) I.ok.above)
 refine h _ ⟨I.ok,I.os,I.bare,⟨fun b o e n hb hx=>(hs.2 b (ne b o e)).trans (I.base.keep b o e n hb hx),fun b o e n hb hx=>(I.base.slot b o e n hb hx).imp fun sl e1=>(hs.2 b (ne b o e)).trans e1,I.base.free,fun b o e hx=>(I.base.there b o e hx).imp fun o' e1=>(hs.2 b (ne b o e)).trans e1,I.base.tups,I.base.frzs,I.base.tbls⟩,
  ⟨_,hn',fun j y v' e1 e2 e3=>?_⟩,fun y c e=>(I.cell y c e).imp fun w' z=>z.sameBut hs (I.cne y c e),I.free,I.freeC,fun p hp=>?_,fun b u q=>?_,by simpa using I.len⟩
 ·have hj:j≠i:=fun z=>by
   subst z
   rw[XC] at e2
   split at e2
   ·split at e2 <;> cases e2
   ·rename_i z;exact z rfl
  rw[YG (Xj hj)] at e2
  obtain⟨u',r',q⟩:=hl j y v' e1 e2 e3
  refine⟨u',r',q.imp (fun z=>⟨z.1,?_⟩) fun ⟨k,c,e,z⟩=>⟨k,c,e,z.sameBut hs (I.cne y c e)⟩⟩
  have ny:y≠x:=fun e=>hj (gA hN e1 (e ▸ hi))
  show (if y=x then v else m y)=_
  rw[Ym ny]
  exact z.2
 ·obtain⟨e,n,nl,nf,d⟩:=I.pin p hp
  exact⟨(hs.2 p.1 nl).trans e,n,nl,nf,d⟩
 ·refine (I.hok b u q).stay (fun c w' hc e=>(hs.2 c ?_).trans e) (fun _ q=>q) fun _ _ q=>q
  rintro rfl
  rcases hc with rfl | hc
  ·rw[I.free] at q;cases q
  ·rw[I.free] at hc;cases hc
end
section
variable {X:Cx} {a C:Addr} {ob:Obj} {pos p p1 p2 p3 p4:Pos}
end
section
variable {P:Program} {w:World} {K:Kq} {mg:Ks} {base:Heap} {N:List Str} {qual:Str} {scope:Scope} {f:Addr} {cl:Nat→Addr} {cd:Value} {A:Around} {outer:List Env} {s:Shared} {H:Hp} {E:XK}
end
section
variable {X:Cx} {cl:Nat→Addr} {E:XK} {st:Stmt} {aN sts:List Stmt} {pos:Pos}
end
end L2
namespace L2
open PySem PySem.Spec PyProof.Rows
section
variable {X:Cx} {e:Expr} {pos:Pos}
end
section
variable {X:Cx} {a b e:Expr} {pos:Pos}
end
section
variable {X:Cx} {pz:Kp} {σ:List (Option V)} {H:Hp} {s:Shared} {h':Heap}
theorem Inv.turnedL {t':Nat}{fp:List Addr}(I:Inv X pz σ H s)(k:∀ b o,b∉fp→s.heap.get? b=some o→h'.get? b=some o)(hf:∀ b∈fp,eB X pz H b):Inv X pz σ H { s with heap:=h',toks:=t' }:=by
 have nit:∀ b u,H b=some u→b∉fp:=fun b u e z=>by rw[(hf b z).1] at e;cases e
 refine I.step (g':=s.gens) (d':=s.drawn) (ch:=fp) (fun b hb=>?_) (fun b o _ _ hc e _=>k b o hc e) (fun b o _ _ hc e _=>⟨o.slots,k b o hc e⟩) (fun _ _ _ _ n=>n)
  (fun b o hc e=>⟨o,k b o hc e⟩) (fun _ _ e=>e) (fun _ _ _ e=>e) (fun b ps e=>⟨#[],by rw[e];simp⟩) (fun m hm=>?_) (fun b u e=>?_) I.bare
 ·obtain⟨_,hL,_,h1,h2,h3⟩:=hf b hb
  exact⟨h1,hL,h2,h3⟩
 ·obtain⟨o,es,ep,ho,r⟩:=hm
  exact⟨o,es,ep,k _ o (fun z=>(hf _ z).2.1 rfl) ho,r⟩
 ·refine (I.hok b u e).stay (fun c v hc q=>k c v ?_ q) (fun _ q=>q) fun _ _ q=>q
  rcases hc with z | z
  ·rw[z];exact nit b u e
  ·exact nit c _ z
theorem Inv.turnedLaid {t':Nat}{fp:List Addr}{a:Addr}{o:HO}(I:Inv X pz σ H s)(k:∀ b o,b∉fp→s.heap.get? b=some o→h'.get? b=some o)(hf:∀ b∈fp,eB X pz H b)(hp:s.heap.objs.size≤a)(new:ObjOk X.prog X.w (upd H a o) h' a o) :
  Inv X pz σ (upd H a o) { s with heap:=h',toks:=t' }:=by
 have hn:H a=none:=I.hok.fresh hp
 have nit:∀ b u,H b=some u→b∉fp:=fun b u e z=>by rw[(hf b z).1] at e;cases e
 have ne1:∀ b u,s.heap.get? b=some u→b≠a:=fun b u q=>Yy (YA (Yn q) hp)
 refine I.step (g':=s.gens) (d':=s.drawn) (ch:=fp) (fun b hb=>?_) (fun b o _ _ hc e _=>k b o hc e) (fun b o _ _ hc e _=>⟨o.slots,k b o hc e⟩) (fun b u _ q n=>by rw[ag (ne1 b u q)];exact n)
  (fun b o hc e=>⟨o,k b o hc e⟩) (fun b xs e=>by rw[ag (ax e hn)];exact e) (fun b _ _ e=>by rw[ag (ax e hn)];exact e) (fun b ps e=>⟨#[],by rw[ag (ax e hn),e];simp⟩) (fun m hm=>?_) (fun b u e=>?_) I.bare
 ·obtain⟨_,hL,_,h1,h2,h3⟩:=hf b hb
  exact⟨h1,hL,h2,h3⟩
 ·obtain⟨o,es,ep,ho,r⟩:=hm
  exact⟨o,es,ep,k _ o (fun z=>(hf _ z).2.1 rfl) ho,r⟩
 ·by_cases hb:b=a
  ·subst hb;rw[ak] at e;cases e;exact new
  ·rw[ag hb] at e
   refine (I.hok b u e).stay (fun c v hc q=>k c v ?_ q) (fun c q=>by rw[ag (ax q hn)];exact q) fun c xs q=>by rw[ag (ax q hn)];exact q
   rcases hc with z | z
   ·rw[z];exact nit b u e
   ·exact nit c _ z
end
def Ite (K:Kq)(a:Addr):It:=
 ⟨fun i H=>∃ xs x,SqL K H a xs∧xs[i]?=some x,fun i H x H'=>∃ p v,H p=none∧x=.ref p∧H'=upd H p (.tup [.int (i:Nat),v])∧∀ xs,SqL K H a xs→xs[i]?=some v,fun i H=>∃ xs,SqL K H a xs∧xs.length≤i⟩
theorem oK {P:Program}{w:World}{K:Kq}{elts:List Expr}{kk:Nat}{pos:Pos}(a e it:Addr)(hne:e≠it):Turn P w K (.Tuple elts kk pos) (Ite K a) [e,it] e (fun i h=>(∃ old,IsEnum h e it i old)∧h.IsListIter it a i) where
 mem:=by simp
 obj:=fun i h st b hb=>by
  obtain⟨⟨old,he⟩,o,eo,c,d⟩:=st
  have hb':b=e∨b=it:=by simpa using hb
  rcases hb' with rfl | rfl
  ·exact⟨_,he,fun v z=>by cases z⟩
  ·exact⟨o,eo,fun v z=>by rw[d] at z;cases z⟩
 keep:=fun i h h' st k=>by
  obtain⟨⟨old,he⟩,hit⟩:=st
  exact⟨⟨old,k e (by simp) _ he⟩,hit.at fun o x=>k it (by simp) o x⟩
 item:=by
  intro X hP hw hK hc i pz s σ H E I hf st hg
  subst hP hw hK
  obtain⟨⟨old,he⟩,hit⟩:=st
  obtain⟨xs,x,hq,hx⟩:=hg
  obtain⟨its,rv,p,hz⟩:=I.list hq
  obtain⟨u,hu,ru⟩:=rv.get hx
  refine wpAny_pyNext_enum_item he hit p.isList (x:=u) (by simpa using hu) hne fun h' ho hit' hT hsz hk=>?_
  refine⟨_,rfl,wpAny_letOwnedTupleGo_enum ho fun h2 he2 hs2=>?_⟩
  have kk2:∀ b o,b∉[e,it]→s.heap.get? b=some o→h2.get? b=some o:=fun b o hb q=>by
   have hb1:b≠e:=fun z=>hb (by simp[z])
   have hb2:b≠it:=fun z=>hb (by simp[z])
   exact (hs2.2 b hb1).trans (hk b o hb1 hb2 q)
  have helt:e<s.heap.objs.size:=Yn he
  have hilt:it<s.heap.objs.size:=by obtain⟨_,x,_⟩:=hit;exact Yn x
  have hTe:s.heap.objs.size≠e:=ZT helt
  have hT2:h2.get? s.heap.objs.size=some { cls:=.type "tuple",data:=.seq #[.int i s.toks,u] }:=(hs2.2 _ hTe).trans hT
  have I2:Inv X pz σ (upd H s.heap.objs.size (.tup [.int (i:Nat),x])) { s with heap:=h2,toks:=s.toks+1 }:=
   I.turnedLaid (t':=s.toks+1) kk2 hf (Yr _) ⟨show 2≤sizeLine by decide,[.int i s.toks,u],.cons ⟨_,rfl⟩ (.cons ru .nil),⟨_,hT2,rfl,_,rfl⟩,_,hT2,rfl⟩
  have hn:H s.heap.objs.size=none:=I.hok.fresh (Yr _)
  refine⟨.ref s.heap.objs.size,_,I2,rfl,⟨_,x,hn,rfl,rfl,fun ys hy=>by rw[I.list_inj hy hq];exact hx⟩,⟨⟨_,by simpa using he2⟩,hit'.at fun o q=>(hs2.2 it (Xj hne)).trans q⟩,fun b hb=>?_⟩
  have hb':b=e∨b=it:=by simpa using hb
  rw[ag (by rcases hb' with rfl | rfl;exact Yy helt;exact Yy hilt)]
  exact (hf b hb).1
 done:=by
  intro X hP hw hK hc i pz s σ H E I hf st hg
  subst hP hw hK
  obtain⟨⟨old,he⟩,hit⟩:=st
  obtain⟨xs,hq,hx⟩:=hg
  obtain⟨its,rv,p,hz⟩:=I.list hq
  have hl:=rv.length
  exact wpAny_pyNext_enum_end (I.ok.hd hc) he hit p.isList (by simp;omega) fun h' eb=>⟨rfl,I.turnedL (t':=s.toks) (fun b o hb q=>eb b o (fun z=>hb (by simp[z])) q) hf⟩
 self:=fun _ _ _ _ _ st h=>by
  obtain⟨⟨old,he⟩,_⟩:=st
  exact wpAny_pyIter_enum he h
section
variable {X:Cx} {l:Expr} {elts:List Expr} {kk:Nat} {tpos pos p:Pos}
def xX (K:Kq)(ta:TA):TI:=fun σ H R=>ta σ H fun vs H1=>∃ a,vs=[.ref a]∧(∃ xs,SqL K H1 a xs)∧R (Ite K a) H1
theorem h_:bootBuiltins "enumerate"=some (.type "enumerate"):=by rfl
theorem sS {ta:TA}(hg:Gl X "enumerate")(hm:X.mg "enumerate"=none)(ha:PA X [l] ta)(hs:starEach [l] X.env=[(false,eval l X.env)]:=by rfl):PI X (.Tuple elts kk tpos) (.Call (.Name "enumerate" p) [l] [] pos) (xX X.K ta):=by
 intro pz s σ H R I h
 refine Call_ (gZ I hg hm h_ (Xd (thn (ha pos pz s σ H _ I h) fun us s1 ⟨vs,H1,I1,r1,q1⟩=>?_) hs rfl))
 obtain⟨a,e,⟨xs,hq⟩,q⟩:=q1
 subst e
 obtain⟨u,rfl,rx⟩:=cU r1
 cases (show u=Value.ref a from rx)
 obtain⟨its,rv,pl,hz⟩:=I1.list hq
 refine call_enumerate_list pl.isList fun h' he hit hsz kp=>?_
 have I2:Inv X pz σ H1 { s1 with heap:=h' }:=I1.kept (t':=s1.toks) kp
 refine wpAny_pyIter_enum he ?_
 refine⟨s1.heap.objs.size+1,[s1.heap.objs.size+1,s1.heap.objs.size],_,_,H1,rfl,I2,oK a _ _ (ZT (Xh _)),⟨⟨_,he⟩,hit⟩,fun b hb=>?_,q⟩
 have hb':b=s1.heap.objs.size+1∨b=s1.heap.objs.size:=by simpa using hb
 rcases hb' with rfl | rfl
 ·exact I1.fpOk (Vf _) (I1.hok.fresh (Vf _))
 ·exact I1.fpOk (Yr _) (I1.hok.fresh (Yr _))
def bQ (ds:List D):List D:=ds.zipIdx.map fun x=>.tup [.int (x.2:Int),x.1]
theorem iG {ds:List D}{i:Nat}{d:D}(h:(bQ ds)[i]?=some d):∃ d0,ds[i]?=some d0∧d=.tup [.int (i:Int),d0]:=by
 unfold bQ at h
 rw[YE,List.getElem?_zipIdx] at h
 cases q:ds[i]? with
 | none=>rw[q] at h;cases h
 | some d0=>rw[q] at h;cases h;exact⟨d0,rfl,by simp⟩
end
section
variable {prog:Program} {w:World} {A:Around} {E:Kv} {s:Shared}
end
section
variable {prog:Program} {w:World} {A:Around} {E:Kv} {s:Shared}
end
section
variable {prog:Program} {w:World} {A:Around} {E:Kv} {s:Shared}
end
section
variable {X:Cx} {e1 e2:Expr} {elts:List Expr} {kk:Nat} {tpos pos p:Pos}
def tF (as bs:List D):List D:=(as.zip bs).map fun x=>.tup [x.1,x.2]
def ya (f g:Dd):DF→Option (List D):=fun ρ=>match f ρ,g ρ with
 | some (.lst as),some (.lst bs)=>if as.length=bs.length then some (tF as bs) else none
 | some (.tup as),some (.tup bs)=>if as.length=bs.length then some (tF as bs) else none
 | _,_=>none
end
section
variable {prog:Program} {w:World} {A:Around} {s:Shared} {R:Kr}
variable {I:Addr} {fp wr:List Addr} {n:Nat} {P:Nat→Value→Prop} {St:Nat→Heap→Prop} {T:String}
end
section
variable {prog:Program} {w:World} {A:Around} {E:Kv} {s:Shared}
variable {I:Addr} {fp wr:List Addr} {n:Nat} {P:Nat→Value→Prop} {St:Nat→Heap→Prop} {T:String}
end
section
variable {prog:Program} {w:World} {A:Around} {E:Kv} {s:Shared}
end
section
variable {X:Cx} {e a:Expr} {p p' p2 pos cpos rpos:Pos} {t:TA}
variable {fa:Dd}
theorem Reps.app {K:Kq}{F:Hp}:∀ {as bs:List V} {cs es:List D},Reps K F as cs→Reps K F bs es→Reps K F (as++bs) (cs++es)
 | _,_,_,_,.nil,h=>h
 | _,_,_,_,.cons r q,h=>.cons r (Reps.app q h)
theorem Reps.rev {K:Kq}{F:Hp}:∀ {vs:List V} {ds:List D},Reps K F vs ds→Reps K F vs.reverse ds.reverse
 | _,_,.nil=>.nil
 | _,_,.cons r q=>by
  rw[Xz,Xz]
  exact Reps.app (Reps.rev q) (.cons r .nil)
end
theorem oW {K:Kq}{P F H H':Hp}{ρ ρ':DF}{σ σ':St}{O:Addr→Option Nat}{A:Addr→Prop}{ia ib:Nat}(hp:DHp P F H)
  (hR:∀ (i:Nat) (x:DV),ρ[i]?=some (some x)→∃ v,σ[i]?=some (some v)∧DVRep K P F H (fun b=>O b=some i) x v)
  (hA:∀ a,A a→F a=none∧P a=none∧(O a=none∨O a=some ia∨O a=some ib)) (hH:∀ a,¬ A a→H' a=H a)
  (hρ:∀ (i:Nat) (x:DV),ρ'[i]?=some (some x)→ρ[i]?=some (some x)∧i≠ia∧i≠ib∧σ'[i]?=σ[i]?) (hl:ρ'.length=σ'.length):DInv K P F H' ρ' σ':=by
 refine⟨⟨fun a u e=>?_,fun a u e=>?_,hp.dis⟩,hl,O,fun i x hx=>?_⟩
 ·rw[hH a fun z=>by rw[(hA a z).1] at e;cases e];exact hp.sub a u e
 ·rw[hH a fun z=>by rw[(hA a z).2.1] at e;cases e];exact hp.pro a u e
 ·obtain⟨h1,h2,h3,h4⟩:=hρ i x hx
  obtain⟨v,e1,e2⟩:=hR i x h1
  refine⟨v,h4.trans e1,?_⟩
  cases x with
  | v d=>exact e2
  | bor o=>exact e2
  | own o t=>
   obtain⟨c,rfl,e3,e4⟩:=e2
   refine⟨c,rfl,e3.mono (Same.refl _) fun b w q hb=>⟨?_,q⟩,e4⟩
   rw[hH b fun z=>?_]
   ·exact hb
   ·rcases (hA b z).2.2 with y | y | y
    ·rw[q.2.2] at y;cases y
    ·rw[q.2.2] at y;cases y;exact h2 rfl
    ·rw[q.2.2] at y;cases y;exact h3 rfl
theorem All2.mem {α β:Type}{R:α→β→Prop}{as:List α}{bs:List β}(h:All2 R as bs){a:α}(ha:a∈as):∃ b∈bs,R a b:=by
 induction h with
 | nil=>cases ha
 | cons q _ ih=>
  rcases YF.mp ha with rfl | ha
  ·exact⟨_,Yc,q⟩
  ·obtain⟨b,h1,h2⟩:=ih ha
   exact⟨b,Yb _ h1,h2⟩
def dH (i ix:Nat):DF→Option RES:=fun ρ=>match ρ[i]? with
 | some (some (.own (.lst2 dss) _))=>if ix<ρ.length∧dss.all (fun ds=>decide (ds.length+dss.length≤16777216))=true then some (.nx ((ρ.set i none).set ix none)) else none
 | _=>none
theorem me {X:Cx}{e1 ev:Expr}{x:Str}{w:V}{p p2 apos cpos epos pos:Pos}(i ix:Nat)(hp:PassesOwn (model X.prog X.w) X.A X.env X.xe)(hc:X.calm=true)
  (h1:PE X e1 (cL i)) (hg:PG X (.Name x p) (fP ix)) (hx:PE X (.Name x p2) (cL ix)) (hv:PE X ev (tC w))
  (hbase:attributeBase (.Name x p2) "append" X.env (eval (.Name x p2) X.env)=eval (.Name x p2) X.env:=by rfl)
  (hfew:((backTo cpos (starEach [ev] X.env)).all (fun x=>!x.1)&&(backToKw cpos (keywordEach [] X.env)).all (fun x=>x.1.isSome)
   && decide (([ev]:List Expr).length+([]:List Keyword).length+(if ([]:List Keyword).isEmpty then 0 else 1)<30))=true:=by rfl)
  (hline:(apos.endLine == cpos.line)=true:=by rfl) (hs:starEach [ev] X.env=[(false,eval ev X.env)]:=by rfl) (hsw:swapsWith (.Call (.Attribute (.Name x p2) "append" apos) [ev] [] cpos) none epos.line X.env=pure false:=by rfl)
  (hf:∀ y,foldedSetIterable e1 X.env y=pure y:=by intro _;rfl) :
  PD1 X (.For (.Name x p) e1 [.Expr (.Call (.Attribute (.Name x p2) "append" apos) [ev] [] cpos) epos] [] pos) (dH i ix):=
 PS.imp (mY hp hc (jQ h1) hg
  (ck (gt (nB Zr Xp Xq dZ hx (ap hv aL hs) hbase hfew hline hs rfl) hsw)) hf) fun E σ H hh_=>by
  obtain⟨P,F,ρ,r,hr,I,k⟩:=hh_
  unfold dH at hr
  split at hr
  ·rename_i dss t q1
   split at hr
   ·rename_i hl
    obtain⟨l0,l1⟩:=hl
    cases hr
    obtain⟨O,hR⟩:=I.rep
    obtain⟨_,s1,a,rfl,⟨⟨fa,pa,oa⟩,bs,a3,a4,a5⟩,_⟩:=hR i _ q1
    obtain⟨n1,n2⟩:=Zo.mp a4
    have size:∀ r'∈bs,∃ ys,H r'=some (.lst ys)∧ys.length+bs.length≤sizeLine:=fun r' hr'=>by
     obtain⟨ds,m1,_,u,m2,m3⟩:=a5.mem hr'
     cases u with
     | lst ys=>exact⟨ys,m2,by rw[YS,a5.length,Reps.length m3];exact ZE (YD.mp l1 ds m1)⟩
     | _=>exact m3.elim
    refine⟨.ref a,s1,a,rfl,⟨_,SqL.of a3⟩,?_⟩
    refine⟨fun j m σ' H'=>m=bs.length-j∧j≤bs.length∧σ'.length=σ.length∧(∀ n,n≠ix→σ'[n]?=σ[n]?)∧(∀ c,¬ c∈bs→H' c=H c)∧∀ r'∈bs,∃ ys,H' r'=some (.lst ys)∧ys.length+bs.length≤sizeLine+j,
     ⟨_,rfl,Zm _,rfl,fun _ _=>rfl,fun _ _=>rfl,size⟩,?_⟩
    rintro j m σ' H' ⟨rfl,hj,hlen,hσ,off,sz⟩
    have hq':H' a=some (.lst (bs.map .ref)):=by rw[off a n1];exact a3
    by_cases hlt:j<bs.length
    ·have hgj:bs[j]?=some bs[j]:=Ye hlt
     have hr':bs[j]∈bs:=ZA hlt
     generalize bs[j]=r' at hgj hr'
     have hg':(bs.map V.ref)[j]?=some (.ref r'):=by rw[YE,hgj];rfl
     refine .inr ⟨⟨_,_,SqL.of hq',hg'⟩,fun σ2 H2'=>σ2.length=σ.length∧(∀ n,n≠ix→σ2[n]?=σ[n]?)∧(∀ c,¬ c∈bs→H2' c=H c)∧∀ r'∈bs,∃ ys,H2' r'=some (.lst ys)∧ys.length+bs.length≤sizeLine+(j+1),
      fun σ2 H2' hh2=>⟨bs.length-(j+1),by omega,rfl,hlt,hh2⟩,fun u H3 hy=>?_⟩
     obtain⟨rfl,hy2⟩:=hy
     have t:=hy2 _ (SqL.of hq')
     rw[hg'] at t;cases t
     obtain⟨ys,y1,y2⟩:=sz r' hr'
     have hset:ix<σ'.length:=by rw[hlen,← I.len];exact l0
     refine⟨.ref r',by rw[YO hset],.inl ⟨rfl,ys,SqL.of y1⟩,r',ys,w,rfl,rfl,y1,by omega,?_⟩
     refine⟨by rw[YI];exact hlen,fun n hn=>by rw[YG (Xj hn)];exact hσ n hn,fun c hc=>by rw[ag (fun z:c=r'=>hc (by rw[z];exact hr'))];exact off c hc,fun w' hw=>?_⟩
     by_cases hwr:w'=r'
     ·subst hwr
      exact⟨_,ak,by rw[Yh,Ze];omega⟩
     ·obtain⟨zs,z1,z2⟩:=sz w' hw
      exact⟨zs,by rw[ag hwr];exact z1,by omega⟩
    ·refine .inl ⟨⟨_,SqL.of hq',by rw[Yf];omega⟩,k σ' F H' (Same.refl _) ?_⟩
     refine oW (A:=fun c=>c∈bs) (O:=O) (ia:=i) (ib:=i) I.toDHp hR (fun c hc=>?_) off (fun m x hx=>?_) (by rw[YI,YI,hlen];exact I.len)
     ·obtain⟨ds,_,⟨z1,z2,z3⟩,_⟩:=a5.mem hc
      exact⟨z1,z2,.inr (.inl z3)⟩
     ·have hi:m≠ix:=fun z=>by subst z;rw[XC] at hx;split at hx <;> first | (split at hx <;> cases hx) | exact absurd rfl ‹_›
      rw[YG (Xj hi)] at hx
      have hia:m≠i:=fun z=>by subst z;rw[XC] at hx;split at hx <;> first | (split at hx <;> cases hx) | exact absurd rfl ‹_›
      rw[YG (Xj hia)] at hx
      exact⟨hx,hia,hia,hσ m hi⟩
   ·cases hr
  ·cases hr
section
variable {X:Cx} {a b e:Expr} {pos:Pos}
def lO (i:Nat):DF→Option Bool:=fun ρ=>match ρ[i]? with
 | some (some (.own _ _))=>some false
 | some (some (.bor _))=>some false
 | some (some (.v .non))=>some true
 | some (some (.v _))=>some false
 | _=>none
theorem tT (i:Nat){j p}(h:PE X a (cL i)):PDT X (.Compare a [.Is] [.Constant .none j p] pos) (lO i):=(pO (vq h)).imp fun σ H Q=>un7 fun P F ρ d hf I k=>by
 unfold lO at hf
 split at hf
 ·rename_i o t q
  cases hf
  obtain⟨v,h1,c,rfl,_⟩:=I.at q
  exact⟨_,h1,false,rfl,k F H (Evo.refl I.toDHp)⟩
 ·rename_i o q
  cases hf
  obtain⟨v,h1,c,rfl,_⟩:=I.at q
  exact⟨_,h1,false,rfl,k F H (Evo.refl I.toDHp)⟩
 ·rename_i q
  cases hf
  obtain⟨v,h1,h2⟩:=I.at q
  cases h2
  exact⟨_,h1,true,rfl,k F H (Evo.refl I.toDHp)⟩
 ·rename_i d' hd q
  cases hf
  obtain⟨v,h1,h2⟩:=I.at q
  refine⟨_,h1,false,?_,k F H (Evo.refl I.toDHp)⟩
  congr 1
  refine Yz fun z=>?_
  subst z
  cases h2
  exact hd rfl
 ·cases hf
def iL (i:Nat)(g:Dk):DF→Option Bool:=fun ρ=>match ρ[i]? with
 | some (some (.own o _))=>g (ρ.set i (some (.v o.d)))
 | _=>none
theorem t9 (i:Nat){g:Dk}(h:PDT X e g):PDT X e (iL i g):=PT.imp h fun σ H Q=>un7 fun P F ρ b hf I k=>by
 unfold iL at hf
 split at hf
 ·rename_i o t q
  obtain⟨F1,e1,I1⟩:=I.frz q
  exact⟨P,F1,_,b,hf,I1,fun F' H' ev=>k F H' ⟨Same.refl _,⟨(e1.trans ev.ext).trans ev.hp.sub,ev.hp.pro,I.dis⟩,fun a u hH hF=>⟨Evo.same I1.toDHp ev a u hH,hF⟩⟩⟩
 ·cases hf
end
end L2
namespace L2
open PySem PySem.Spec PySem.W PyProof.Rows
section
variable {X:Cx} {k:Nat} {f:Addr} {fd:FuncData} {ps:List Str} {mM:Dz} {x:Str} {p pos spos:Pos} {e0 e1 e2 e3 e4:Expr} {f0 f1 f2 f4:Dd}
end
theorem PS.nox {X:Cx}{st:Stmt}{t:TS}(h:PS X.nox st t):PS X st t:=fun pz s σ H D I hw=>
 Zn (h pz s σ H D (I.wish _) hw) (fun _ _ q=>q.unwish) fun _ _ z=>False.elim z
def je (n p:Nat)(g0:Dw)(ft:Dk):List DV→Bool:=fun xs=>if xs.length=p then (match g0 (aQ n p xs) with | some (.nx ρ)=>(ft ρ).getD false | _=>false) else false
section
variable {X:Cx} {k:Nat} {f:Addr} {fd:FuncData} {ps:List Str} {m:List (List D)→List D→List DV→Option (List (List D))} {x:Str} {p pos spos:Pos} {e0 e1 e2 e3 e4:Expr} {f0 f1 f4:Dd}
end
section
variable {X:Cx} {e o y:Expr} {pos apos cpos p2:Pos}
end
structure LamS where
 qual:Str
 params:Arguments
 body:Expr
 scope:Scope
 p:Str
 x:Str
 cell:Bool:=false
structure LamS.Ok (L:LamS):Prop where
 kind:L.scope.kind=.function
 co:L.scope.isCoroutine=false
 gen:L.scope.isGenerator=false
 par:L.scope.names.lookup L.p=some (if L.cell then .cell else .local)
 fre:L.scope.names.lookup L.x=some .free
 ne:(L.x == L.p)=false
 onc:∀ y,L.scope.names.lookup y=some .cell→y=L.p∧L.cell=true
 noc:L.cell=false→∀ y∈L.scope.names,y.2≠.cell
 cels:L.cell=true→∀ n cl,cellsFrom n L.scope.names cl=(L.p,n)::cl
 psh:L.cell=true→∀ h:Heap,pushCells h L.scope.names=h.push { cls:=.type "cell",data:=.cell none }
 only:∀ y,L.scope.names.lookup y=some .free→y=L.x
 bind:∀ (pm cdv ct u:Value) (cl:List (Str×Addr)),bindArgs (kla_fn "<lambda>" L.qual L.params L.body L.scope cl pm cdv ct) ⟨[u],[]⟩=pure [(L.p,u)]
def lm (L:LamS)(f c' c:Addr)(h:Heap):Prop:=∃ pm ctv,h.get? f=some (kla_obj "<lambda>" L.qual L.params L.body L.scope [(L.x,c)] pm c' ctv)
def bj (L:LamS)(n:Nat)(c:Addr):List (Str×Addr):=if L.cell then [(L.p,n+1),(L.x,c)] else [(L.x,c)]
def cA (L:LamS)(s:Shared)(f c' c:Addr):Env:=envX L.qual L.scope s.heap.objs.size f (.ref c') (bj L s.heap.objs.size c)
theorem mP {L:LamS}(S:L.Ok)(n:Nat)(c:Addr):(bj L n c).lookup L.x=some c:=by
 unfold bj
 split
 ·rw[Zu,S.ne]
  show ([(L.x,c)]:List (Str×Addr)).lookup L.x=some c
  rw[Zu,ZY]
 ·rw[Zu,ZY]
theorem gI {L:LamS}(h:L.cell=true)(n:Nat)(c:Addr):(bj L n c).lookup L.p=some (n+1):=by
 unfold bj
 rw[Yk h,Zu,ZY]
theorem kM {L:LamS}{n:Nat}{c:Addr}{y:Str}{d:Addr}(e:(bj L n c).lookup y=some d):(y=L.x∧d=c)∨(L.cell=true∧y=L.p∧d=n+1):=by
 have one:∀ {e':([(L.x,c)]:List (Str×Addr)).lookup y=some d},y=L.x∧d=c:=fun {e'}=>by
  rw[Zu] at e'
  split at e'
  ·rename_i q
   cases e'
   exact⟨eq_of_beq q,rfl⟩
  ·cases e'
 unfold bj at e
 split at e
 ·rename_i hc
  rw[Zu] at e
  split at e
  ·rename_i q
   cases e
   exact .inr ⟨hc,eq_of_beq q,rfl⟩
  ·exact .inl (one (e':=e))
 ·exact .inl (one (e':=e))
def jq (CX:CXT)(P:Program)(w:World)(K:Kq)(mg:Ks)(base:Heap)(L:LamS)(f c' c:Addr)(A:Around)(outer:List Env)(s:Shared)(H:Hp)(E:XK):Cx where
 prog:=P
 w:=w
 K:=K
 mg:=mg
 base:=base
 A:=A.deeper (cA L s f c' c)
 N:=[L.p,L.x]
 s₀:=s
 H₀:=H
 env:=cA L s f c' c
 outer:=outer
 stack:=cA L s f c' c::outer
 ex:=[]
 calm:=true
 fn:=fun y=>y != L.x
 pn:=[]
 xe:=fun e s'=>wpAny (model P w) (A.deeper (cA L s f c' c)) (leaving (cA L s f c' c) e) (fun _ s''=>CX outer H s E e s'') (fun e' s''=>CX outer H s E e' s'') s'
theorem i3 {CX:CXT}{P:Program}{w:World}{K:Kq}{mg:Ks}{base:Heap}{L:LamS}{f c' c:Addr}{A:Around}{outer:List Env}{s:Shared}{H:Hp}{E:XK}{ua uc:Value}{va vc:V}{h':Heap}{tk:Nat}{m:Ks}
  (S:L.Ok) (hd:A.handled=none) (e0:Env0 P w K mg base A outer s H) (hc:s.heap.IsCell c (some uc)) (hHc:H c=none) (ra:RelV va ua) (rc:RelV vc uc)
  (ns:h'.Ns s.heap.objs.size m) (hm:L.cell=false→m L.p=some ua) (hcl:L.cell=true→h'.IsCell (s.heap.objs.size+1) (some ua)) (hk:∀ (b:Addr) (o:Obj),s.heap.get? b=some o→h'.get? b=some o) :
  Inv (jq CX P w K mg base L f c' c A outer s H E) [] [some va,some vc] H { heap:=h',gens:=s.gens,drawn:=s.drawn,toks:=tk,os:=s.os }:=by
 have clt:c<s.heap.objs.size:=hc.lt
 have cl:∀ y d,(cA L s f c' c).cells.lookup y=some d→(y=L.x∧d=c)∨(L.cell=true∧y=L.p∧d=s.heap.objs.size+1):=fun y d e=>kM e
 have clx:(cA L s f c' c).cells.lookup L.x=some c:=mP S _ _
 have noA:∀ b:Addr,b∉(jq CX P w K mg base L f c' c A outer s H E).ex:=fun b z=>absurd (show b∈([]:List Addr) from z) (by simp)
 have kc:h'.IsCell c (some uc):=by obtain⟨o,h1,h2⟩:=hc;exact⟨o,hk c o h1,h2⟩
 have far:∀ d:Addr,d=c→d=s.heap.objs.size+1→False:=fun d a b=>by
  have q:d<s.heap.objs.size:=a.symm ▸ clt
  rw[b] at q
  exact Zl _ (XD q (Xh _))
 refine⟨⟨e0.mod,S.kind,rfl,rfl,Yr _,fun y z d h1 h2=>?_,fun y hy=>?_,fun y d hf h=>?_,fun _=>hd,Around.frames_deeper e0.frames,.inr ⟨rfl,rfl⟩,fun b z=>absurd z (noA b),e0.bs,e0.bsz,fun b _ _=>noA b,fun b z=>absurd z (noA b),e0.funs,e0.frf⟩,
  rfl,e0.bare,Un.kept hk,⟨_,ns,fun i y v h1 h2 h3=>?_⟩,fun y d h=>?_,e0.hok.fresh (Yr _),fun y d h=>?_,fun p hp=>absurd (show p∈([]:Kp) from hp) (by simp),e0.hok.kept hk,rfl⟩
 ·rcases cl y d h1 with⟨a1,a2⟩ | ⟨_,a1,a2⟩ <;> rcases cl z d h2 with⟨b1,b2⟩ | ⟨_,b1,b2⟩
  ·exact a1.trans b1.symm
  ·exact (far d a2 b2).elim
  ·exact (far d b2 a2).elim
  ·exact a1.trans b1.symm
 ·have hy:L.scope.names.lookup y=some .cell∨L.scope.names.lookup y=some .free:=hy
  rcases hy with hy | hy
  ·obtain⟨a,b⟩:=S.onc y hy
   rw[a];exact⟨_,gI b _ _⟩
  ·rw[S.only y hy];exact⟨c,clx⟩
 ·have hf':(y != L.x)=true:=hf
  rcases cl y d h with⟨a1,a2⟩ | ⟨_,a1,a2⟩
  ·rw[a1] at hf'
   simp at hf'
  ·rw[a2];exact Vf _
 ·have h1':[L.p,L.x][i]?=some y:=h1
  match i,h1',h2 with
  | 0,h1',h2=>
   cases h1'
   cases h2
   cases q:L.cell with
   | false=>exact⟨ua,ra,.inl ⟨by have:=S.par;rw[q] at this;exact this,hm q⟩⟩
   | true=>exact⟨ua,ra,.inr ⟨.inl (by have:=S.par;rw[q] at this;exact this),_,gI q _ _,hcl q⟩⟩
  | 1,h1',h2=>
   cases h1'
   cases h2
   exact⟨uc,rc,.inr ⟨.inr S.fre,c,clx,kc⟩⟩
  | i+2,h1',h2=>cases h1'
 ·rcases cl y d h with⟨a1,a2⟩ | ⟨q,a1,a2⟩
  ·rw[a2];exact⟨_,kc⟩
  ·rw[a2];exact⟨_,hcl q⟩
 ·rcases cl y d h with⟨a1,a2⟩ | ⟨q,a1,a2⟩
  ·rw[a2];exact hHc
  ·rw[a2];exact e0.hok.fresh (Vf _)
theorem kj {M:Model}{A:Around}{E:Kv}{s:Shared}{scope:Scope}{globals:Addr}{cl:List (Str×Addr)}{p:Str}{u:Value}{qual:Str}{func:Option Addr}{code:Value}{builtins:Addr}{Q:Env→Shared→Prop}
  (hk:scope.kind=.function) (hp:scope.names.lookup p=some .cell) (hc:∀ n cl,cellsFrom n scope.names cl=(p,n)::cl) (hs:∀ h:Heap,pushCells h scope.names=h.push { cls:=.type "cell",data:=.cell none })
  (hQ:∀ h' tk,h'.Ns s.heap.objs.size (fun _=>none)→h'.IsCell (s.heap.objs.size+1) (some u)→(∀ (b:Addr) (o:Obj),s.heap.get? b=some o→h'.get? b=some o)→
   Q (newEnv scope s.heap.objs.size globals ((p,s.heap.objs.size+1)::cl) qual func code none builtins) { s with heap:=h',toks:=tk }) :
  wpAny M A (newFunctionEnv scope globals cl [(p,u)] qual func code none builtins) Q E s:=by
 simp only[newFunctionEnv,Option.isSome_none,Xu,if_false]
 refine Yj (wpAny_alloc ?_)
 refine Yj (wpAny_layCells _ (fun name kind cells=>by cases hkc:kind == NameKind.cell <;> simp[hkc]) _ _ _ _ ?_)
 have z:(s.heap.push { cls:=.type "frame",data:=.dict #[] }).objs.size=s.heap.objs.size+1:=Heap.size_push ..
 show wpAny M A _ Q E { s with heap:=pushCells (s.heap.push { cls:=.type "frame",data:=.dict #[] }) scope.names }
 rw[hs]
 show wpAny M A ((forIn [(p,u)] PUnit.unit fun x r=>(storeName (newEnv scope s.heap.objs.size globals (cellsFrom (s.heap.push { cls:=.type "frame",data:=.dict #[] }).objs.size scope.names cl) qual func code none builtins) x.1 x.2)>>=fun _=>pure (ForInStep.yield PUnit.unit))>>=fun _=>pure (newEnv scope s.heap.objs.size globals (cellsFrom (s.heap.push { cls:=.type "frame",data:=.dict #[] }).objs.size scope.names cl) qual func code none builtins)) Q E _
 rw[z,hc]
 have ic:((s.heap.push { cls:=.type "frame",data:=.dict #[] }).push { cls:=.type "cell",data:=.cell none }).IsCell (s.heap.objs.size+1) none:=⟨_,z ▸ Yp _ rfl,rfl⟩
 have nsn:((s.heap.push { cls:=.type "frame",data:=.dict #[] }).push { cls:=.type "cell",data:=.cell none }).Ns s.heap.objs.size (fun _=>none):=(Heap.Ns.new s.heap (.type "frame")).keeps fun b o e=>Yd _ e
 refine Yj ?_
 rw[List.forIn_cons]
 refine Yj (Yj (wpAny_storeName_cell (c:=s.heap.objs.size+1) hk hp (by show List.lookup p ((p,s.heap.objs.size+1)::cl)=_;rw[Zu,ZY]) ic fun h' hc' hs'=>Yu ?_))
 show wpAny M A (forIn [] PUnit.unit _) _ _ _
 rw[List.forIn_nil]
 refine Yu (Yu ?_)
 refine hQ h' _ (nsn.sameBut hs' (Yy (Xh _))) hc' fun b o e=>?_
 exact hs'.extBut b o (Yy (ZR (Yn e))) (Yd _ (Yd _ e))
theorem tX {CX:CXT}{P:Program}{w:World}{K:Kq}{mg:Ks}{base:Heap}{L:LamS}{f c' c:Addr}{A:Around}{outer:List Env}{s:Shared}{H:Hp}{E:XK}{ua uc:Value}{va vc:V}{k:Nat}{Q:VK}{t:TE}
  (S:L.Ok) (hr:Room (k+1) A) (e0:Env0 P w K mg base A outer s H) (hl:lm L f c' c s.heap) (hcr:s.heap.CodeRec (.ref c') L.qual) (hc:s.heap.IsCell c (some uc)) (hHc:H c=none) (ra:RelV va ua) (rc:RelV vc uc)
  (hb:PE (jq CX P w K mg base L f c' c A outer s H E) L.body t) (ht:t [some va,some vc] H Q):codeAny (model P w) A (.call (.ref f) ⟨[ua],[]⟩) (CR CX outer P w H s Q E) s:=by
 obtain⟨pm,ctv,hf⟩:=hl
 have lim:s.heap.NoLimit:=e0.mod.nolimit.keeps fun b o e=>(e0.bs b o e).1
 refine kla_callFunE hr.depth hf rfl S.co S.gen rfl hcr ?_
 rw[S.bind]
 refine Yu ?_
 have goOn:∀ h' tk,Inv (jq CX P w K mg base L f c' c A outer s H E) [] [some va,some vc] H { heap:=h',gens:=s.gens,drawn:=s.drawn,toks:=tk,os:=s.os }→
   codeAny (model P w) A (.expr L.body (cA L s f c' c)) (CR CX outer P w H s Q E) { heap:=h',gens:=s.gens,drawn:=s.drawn,toks:=tk,os:=s.os }:=fun h' tk I=>by
  refine kla_codeExpr ?_
  refine Zn (hb [] _ [some va,some vc] H Q I ht) (fun u s' hs=>?_) fun e s' hs=>hs
  obtain⟨v,H',J,rv,q⟩:=hs
  exact⟨v,H',J.os,J.bare,J.base,J.hok,rv,q⟩
 cases q:L.cell with
 | false=>
  have ec:bj L s.heap.objs.size c=[(L.x,c)]:=by unfold bj;rw[q];rfl
  refine wpAny_newFunctionEnv (S.noc q) (fun y hy=>?_) (fun h' ns sb=>?_) S.kind
  ·rw[YB.mp hy];have:=S.par;rw[q] at this;exact this
  ·have hk:∀ (b:Addr) (o:Obj),s.heap.get? b=some o→h'.get? b=some o:=fun b o e=>by
    rw[sb.2 b (Yy (Yn e))]
    exact Yd _ e
   have I:=i3 (CX:=CX) (E:=E) (f:=f) (c':=c') (tk:=s.toks + [(L.p,ua)].length) S hr.hd e0 hc hHc ra rc ns (fun _=>by show List.lookup L.p [(L.p,ua)]=_;rw[Zu,ZY]) (fun z=>by rw[q] at z;cases z) hk
   refine⟨lim.keeps hk,?_⟩
   have g:=goOn _ _ I
   unfold cA at g
   rw[ec] at g
   exact g
 | true=>
  have ec:bj L s.heap.objs.size c=(L.p,s.heap.objs.size+1)::[(L.x,c)]:=by unfold bj;rw[q];rfl
  refine kj S.kind (by have:=S.par;rw[q] at this;exact this) (S.cels q) (S.psh q) fun h' tk ns hcl hk=>?_
  have I:=i3 (CX:=CX) (E:=E) (f:=f) (c':=c') (tk:=tk) S hr.hd e0 hc hHc ra rc ns (fun z=>by rw[q] at z;cases z) (fun _=>hcl) hk
  refine⟨lim.keeps hk,?_⟩
  have g:=goOn _ _ I
  unfold cA at g
  rw[ec] at g
  exact g
structure LamIn (X:Cx) (L:LamS) (f c' c:Addr) (uc:Value):Prop where
 lam:lm L f c' c X.s₀.heap
 fH:X.H₀ f=none
 ff:f∉X.fs
 fe:f∉X.ex
 cl:X.s₀.heap.IsCell c (some uc)
 cH:X.H₀ c=none
 cf:c∉X.fs
 ce:c∉X.ex
 cd:∃ o u,X.H₀ c'=some (.frz o u)∧∃ vs t,o.data=.fields vs∧vs[1]?=some (.str L.qual t)
section
variable {X:Cx} {L:LamS} {f c' c:Addr} {uc:Value}
theorem LamIn.now {pz:Kp}{σ:St}{H:Hp}{s:Shared}(h:LamIn X L f c' c uc)(I:Inv X pz σ H s):lm L f c' c s.heap∧s.heap.CodeRec (.ref c') L.qual∧s.heap.IsCell c (some uc)∧H c=none:=by
 obtain⟨pm,ctv,hf⟩:=h.lam
 obtain⟨oc,hc,hd⟩:=h.cl
 obtain⟨o,u,ho,vs,t,e1,e2⟩:=h.cd
 obtain⟨g,_⟩:=I.hok c' _ (I.base.frzs c' o u ho)
 exact⟨⟨pm,ctv,I.base.keep f _ hf h.fH h.ff h.fe⟩,⟨c',o,vs,t,rfl,g,e1,e2⟩,⟨oc,I.base.keep c oc hc h.cH h.cf h.ce,hd⟩,I.base.free c oc hc h.cH h.ce⟩
def vk (i:Nat)(f:Addr)(te:TE)(vc:V)(t:TE):TE:=fun σ H Q=>σ[i]?=some (some (.ref f))∧eP te kZ σ H fun vs H1=>∃ va,vs=[va]∧t [some va,some vc] H1 Q
theorem qY {i k:Nat}{x:Str}{p pos:Pos}{e:Expr}{te t:TE}{vc:V}(S:L.Ok)(hl:LamIn X L f c' c uc)(rc:RelV vc uc)(hr:Room (k+1) X.A)(hN:X.N[i]?=some x)(hv:Vis X.env.scope x)(ha:PE X e te)
  (hb:∀ (s:Shared) (H:Hp) (E:XK),PE (jq CX0 X.prog X.w X.K X.mg X.base L f c' c X.A X.stack s H E) L.body t)
  (hd:(x == ("__debug__":Str))=false:=by decide) (hcd:(x == ("__classdict__":Str))=false:=by decide) (he:starEach [e] X.env=(false,eval e X.env)::starEach [] X.env:=by rfl) :
  PE X (.Call (.Name x p) [e] [] pos) (vk i f te vc t):=by
 intro pz s σ H Q I h
 obtain⟨h1,h2⟩:=h
 refine ZI (aR (kw hN hv hd hcd pz s σ H (fun v H'=>v=.ref f∧eP te kZ σ H' fun vs H1=>∃ va,vs=[va]∧t [some va,some vc] H1 Q) I ⟨_,h1,rfl,h2⟩) fun u s1 v H1 I1 r1 q1=>?_)
 obtain⟨rfl,q1⟩:=q1
 cases r1
 obtain⟨⟨pm,ctv,g⟩,_⟩:=hl.now I1
 refine callWith_def_at g rfl (aR (ap ha aL he pos pz s1 σ H1 _ I1 q1) fun us s2 vs H2 I2 r2 q2=>?_) he
 ·obtain⟨va,rfl,q2⟩:=q2
  obtain⟨g1,g2,g3,g4⟩:=hl.now I2
  obtain⟨pm2,ctv2,g'⟩:=g1
  obtain⟨u1,rfl,ra⟩:=r2.one
  have gg:s2.heap.get? f=s1.heap.get? f:=by
   obtain⟨pm0,ctv0,e0⟩:=hl.lam
   rw[I2.base.keep f _ e0 hl.fH hl.ff hl.fe,I1.base.keep f _ e0 hl.fH hl.ff hl.fe]
  refine⟨gg.trans g,?_⟩
  refine XO (Xm (tX (CX:=CX0) (E:=E0) S hr I2.env0 ⟨pm2,ctv2,g'⟩ g2 g3 g4 ra rc (hb s2 H2 E0) q2) fun r s' hq=>?_)
  cases r with
  | error e=>exact False.elim hq
  | ok fl=>
   cases fl with
   | ret u=>exact I2.after hq
   | next=>exact False.elim hq
   | brk=>exact False.elim hq
   | cont=>exact False.elim hq
end
def eN (t:Addr)(pos:Pos)(o:Option Value):Heap→Prop:=fun h=>∃ ps,h.get? t=some (tabObj ps)∧TriplesOk ps.toList∧codeAmong pos ps.toList=o
theorem fu {t:Addr}{pos:Pos}{o:Option Value}:∀ h1 h2:Heap,eN t pos o h1→(∀ ob,h1.get? t=some ob→h2.get? t=some ob)→eN t pos o h2:=
 fun _ _ ⟨ps,h1,h2,h3⟩ k=>⟨ps,k _ h1,h2,h3⟩
def lT:HO:=.ext fun _=>True
def xV (o:Obj)(q:Str):Prop:=∃ vs t,o.data=.fields vs∧vs[1]?=some (.str q t)
structure LamW where
 L:LamS
 t:Addr
 pos:Pos
def rH (W:LamW)(c':Addr)(H:Hp):Prop:=H W.t=some (.ext (eN W.t W.pos (some (.ref c'))))∧∃ o,H c'=some (.frz o lT)∧xV o W.L.qual
def Tab (W:LamW)(H:Hp):Prop:=H W.t=some (.ext (eN W.t W.pos none))∨∃ c',rH W c' H
def uW (W:LamW)(M:Addr→Prop)(H:Hp):Prop:=(H W.t=some (.ext (eN W.t W.pos none))∧∀ c',H c'=none→M c')∨∃ c',rH W c' H∧M c'
structure Grow (t:Addr) (H H':Hp):Prop where
 old:∀ a o,a≠t→H a=some o→H' a=some o
theorem Grow.refl {t:Addr}{H:Hp}:Grow t H H:=⟨fun _ _ _ e=>e⟩
theorem Grow.trans {t:Addr}{H H1 H2:Hp}(a:Grow t H H1)(b:Grow t H1 H2):Grow t H H2:=⟨fun c o n e=>b.old c o n (a.old c o n e)⟩
section
variable {X:Cx} {W:LamW} {c0 c:Addr} {pz:Kp} {σ:St} {H:Hp} {s:Shared} {Q:Kv}
theorem qp {M:Addr→Prop}(I:Inv X pz σ H s)(hT:uW W M H)(hcl:closureFor W.L.scope X.env=pure [(W.L.x,c)])(hco:X.env.code=.ref c0)(hch:codeHdIn X.K c0 W.t=true)(hq:X.env.qual++Str.ofString "<lambda>"=W.L.qual)(hdf:defaultsOf W.L.params X.env=([],[]))(hbl:X.base.BuiltinsAt X.mg W.t)
  (h:∀ f c' H' s',Inv X pz σ H' s'→H' f=none→lm W.L f c' c s'.heap→rH W c' H'→M c'→Grow W.t H H'→(∀ b o,s.heap.get? b=some o→b≠W.t→s'.heap.get? b=some o)→s.heap.objs.size≤f→Q (.ref f) s') :
  wpAny (model X.prog X.w) X.A (eval (.Lambda W.L.params W.L.body W.L.scope W.pos) X.env) Q X.xe s:=by
 have hg:s.heap.Ns mainGlobals X.mg:=I.mod.glob.keeps I.bk
 have hcd:CodeHd s.heap c0 W.t:=codeHd_of_K I.kIn hch
 have hbt:s.heap.BuiltinsAt X.mg W.t:=hbl.keeps I.bk
 refine kla_eval hdf ?_
 rw[hq]
 rcases hT with⟨cold,hM⟩ | ⟨c',⟨warm,o,fz,ho⟩,hM⟩
 ·obtain⟨⟨ps,g1,g2,g3⟩,_,_⟩:=I.hok _ _ cold
  have nt:mainGlobals≠W.t:=fun z=>by
   obtain⟨ob,es,ep,e1,e2,_⟩:=hg
   rw[z,g1] at e1
   cases e1
   cases e2
  refine kla_makeFunction hcl I.ok.glob hg hco hcd g1 g2 g3 nt hbt fun c' ctv h' tk ext lo hi cr tab=>?_
  have fc:H c'=none:=I.hok.fresh lo
  have ct:c'≠W.t:=fun z=>by subst z;rw[cold] at fc;cases fc
  obtain⟨c1,oc,vs,tt,e1,e2,e3,e4⟩:=cr
  cases e1
  have kept:∀ b ob,s.heap.get? b=some ob→b≠W.t→(h'.push (kla_obj "<lambda>" W.L.qual W.L.params W.L.body W.L.scope [(W.L.x,c)] ((X.mg (Str.ofString "__name__")).getD Value.none) c' ctv)).get? b=some ob:=fun b ob e n=>Yd _ (ext b ob n e)
  have H'n:∀ b,b≠W.t→b≠c'→upd (upd H W.t (.ext (eN W.t W.pos (some (.ref c'))))) c' (.frz oc lT) b=H b:=fun b n1 n2=>by rw[ag n2,ag n1]
  have H't:upd (upd H W.t (.ext (eN W.t W.pos (some (.ref c'))))) c' (.frz oc lT) W.t=some (.ext (eN W.t W.pos (some (.ref c')))):=by rw[ag (Xj ct),ak]
  have oldOf:∀ b u,H b=some u→b≠W.t→upd (upd H W.t (.ext (eN W.t W.pos (some (.ref c'))))) c' (.frz oc lT) b=some u:=fun b u e n=>by rw[H'n b n (fun z=>by subst z;rw[fc] at e;cases e)];exact e
  have neT:∀ b u,H b=some u→(∀ φ,u≠.ext φ)→b≠W.t:=fun b u e n z=>by subst z;rw[cold] at e;cases e;exact n _ rfl
  have hsz:s.heap.objs.size≤h'.objs.size:=Xl (Nat.lt_of_le_of_lt lo hi)
  refine h _ c' (upd (upd H W.t (.ext (eN W.t W.pos (some (.ref c'))))) c' (.frz oc lT)) _ (I.un (t':=tk) ?_ ?_) ?_ ⟨_,ctv,Yp _ rfl⟩ ⟨H't,oc,ak,vs,tt,e3,e4⟩ (hM c' fc) ⟨fun a u n e=>oldOf a u e n⟩ kept hsz
  ·refine⟨fun b ob e n _ _=>kept b ob e (fun z=>by subst z;rw[cold] at n;cases n),fun b ob e n _ _=>⟨ob.slots,kept b ob e (fun z=>by subst z;rw[cold] at n;cases n)⟩,fun b ob e n _=>?_,fun b ob e _=>?_,fun b xs e=>oldOf b _ e (neT b _ e fun _ z=>nomatch z),fun b ob u e=>oldOf b _ e (neT b _ e fun _ z=>nomatch z),fun b ps e=>⟨#[],by rw[oldOf b _ e (neT b _ e fun _ z=>nomatch z)];simp⟩⟩
   ·rw[H'n b (fun z=>by subst z;rw[cold] at n;cases n) (fun z=>by subst z;exact absurd (YA (Yn e) lo) (Zl _))]
    exact n
   ·by_cases hb:b=W.t
    ·subst hb;exact⟨_,Yd _ tab⟩
    ·exact⟨ob,kept b ob e hb⟩
  ·intro b u e
   by_cases hbc:b=c'
   ·subst hbc
    rw[ak] at e
    cases e
    exact⟨Yd _ e2,trivial,⟨_,Yd _ e2⟩,fun _ _ _ _=>trivial⟩
   ·by_cases hbt':b=W.t
    ·subst hbt'
     rw[H't] at e
     cases e
     refine⟨⟨_,Yd _ tab,?_,?_⟩,⟨_,Yd _ tab⟩,fu⟩
     ·rw[Array.toList_append];exact TriplesOk_snoc _ _ _ _ g2
     ·rw[Array.toList_append];exact codeAmong_snoc _ g2 g3
    ·rw[H'n b hbt' hbc] at e
     refine (I.hok b u e).stay (fun d v hd r=>kept d v r ?_) (fun d r=>oldOf d _ r (neT d _ r fun _ z=>nomatch z)) fun d xs r=>oldOf d _ r (neT d _ r fun _ z=>nomatch z)
     rcases hd with rfl | hd
     ·exact hbt'
     ·exact neT d _ hd fun _ z=>nomatch z
  ·have l1:W.t<s.heap.objs.size:=(I.hok _ _ cold).lt
   exact (H'n _ (ZT (YA l1 hsz)) (ZT hi)).trans (I.hok.fresh hsz)
 ·obtain⟨⟨ps,g1,g2,g3⟩,_,_⟩:=I.hok _ _ warm
  refine kla_makeFunctionHit hcl I.ok.glob hg hco hcd g1 g2 g3 hbt fun ctv h' tk kp hsz=>?_
  have kept:∀ b ob,s.heap.get? b=some ob→(h'.push (kla_obj "<lambda>" W.L.qual W.L.params W.L.body W.L.scope [(W.L.x,c)] ((X.mg (Str.ofString "__name__")).getD Value.none) c' ctv)).get? b=some ob:=fun b ob e=>Yd _ (kp b ob e)
  exact h _ c' H _ (I.kept (t':=tk) kept) (I.hok.fresh hsz) ⟨_,ctv,Yp _ rfl⟩ ⟨warm,o,fz,ho⟩ hM Grow.refl (fun b ob e _=>kept b ob e) hsz
end
def HO.pl:HO→Bool
 | .lst _=>true
 | .tup _=>true
 | .dT _=>true
 | .dK _=>true
 | .ins _ _ _=>true
 | _=>false
theorem ORep1.pl {K:Kq}{F:Hp}{o:OD}{u:HO}(h:ORep1 K F o u):u.pl=true:=by
 cases o <;> cases u <;> first | exact h.elim | rfl
theorem ORep.monoP {K:Kq}{F F' H H':Hp}{ow ow':Addr→Prop}{o:OD}{a:Addr}(e:Same F F')(k:∀ b u,u.pl=true→ow b→H b=some u→H' b=some u∧ow' b)(h:ORep K F H ow o a):ORep K F' H' ow' o a:=by
 by_cases f:o.flat=true
 ·obtain⟨h1,u,h2,h3⟩:=(ORep.flat f).mp h
  obtain⟨k1,k2⟩:=k a u h3.pl h1 h2
  exact (ORep.flat f).mpr ⟨k2,u,k1,h3.same e⟩
 ·cases o with
  | lst2 dss=>
   obtain⟨h1,bs,h2,h3,h4⟩:=h
   obtain⟨k1,k2⟩:=k a _ rfl h1 h2
   exact⟨k2,bs,k1,h3,h4.imp fun b ds ⟨q1,u,q2,q3⟩=>by obtain⟨c1,c2⟩:=k b u (ORep1.pl q3) q1 q2;exact⟨c2,u,c1,q3.same e⟩⟩
  | tup2 dss=>
   obtain⟨h1,bs,h2,h3,h4⟩:=h
   obtain⟨k1,k2⟩:=k a _ rfl h1 h2
   exact⟨k2,bs,k1,h3,h4.imp fun b ds ⟨q1,u,q2,q3⟩=>by obtain⟨c1,c2⟩:=k b u (ORep1.pl q3) q1 q2;exact⟨c2,u,c1,q3.same e⟩⟩
  | _=>exact absurd rfl f
theorem Tab.ext {W:LamW}{P:Hp}(T:Tab W P):∃ φ,P W.t=some (.ext φ):=by
 rcases T with h | ⟨_,h,_⟩
 ·exact⟨_,h⟩
 ·exact⟨_,h⟩
noncomputable def grP (t:Addr)(P c:Hp):Hp:=fun a=>open Classical in if P a≠none∨a=t∨(∃ o,c a=some (.frz o lT)) then c a else none
section
variable {K:Kq} {W:LamW} {P F H F' H' c:Hp} {ρ:DF} {σ:St}
theorem f_ {t a:Addr}{o:HO}(h:grP t P c a=some o):c a=some o:=by
 unfold grP at h
 split at h
 ·exact h
 ·cases h
theorem ju {t a:Addr}(h:P a≠none∨a=t∨(∃ o,c a=some (.frz o lT))):grP t P c a=c a:=by unfold grP;exact Yk h
structure Grew (W:LamW) (F H F' H' c:Hp):Prop where
 ext:Same F F'
 hp:DHp c F' H'
 old:∀ a o,a≠W.t→H a=some o→F a=none→c a=some o
 tab:Tab W c
theorem Grew.tabP (g:Grew W F H F' H' c):Tab W (grP W.t P c):=by
 rcases g.tab with h | ⟨c',h,o,h1,h2⟩
 ·exact .inl ((ju (.inr (.inl rfl))).trans h)
 ·exact .inr ⟨c',(ju (.inr (.inl rfl))).trans h,o,(ju (.inr (.inr ⟨o,h1⟩))).trans h1,h2⟩
theorem Grew.grow (g:Grew W F H F' H' c)(hp:DHp P F H):Grow W.t P (grP W.t P c):=⟨fun a o n e=>(ju (.inl (by rw[e];simp))).trans (g.old a o n (hp.pro a o e) (hp.dis a o e))⟩
theorem Grew.hpP (g:Grew W F H F' H' c):DHp (grP W.t P c) F' H':=⟨g.hp.sub,fun a o e=>g.hp.pro a o (f_ e),fun a o e=>g.hp.dis a o (f_ e)⟩
theorem Grew.own (g:Grew W F H F' H' c)(T:Tab W P){b:Addr}{u:HO}(hu:u.pl=true)(h1:F b=none)(h2:P b=none)(h3:H b=some u):H' b=some u∧F' b=none∧grP W.t P c b=none∧c b≠none:=by
 have bt:b≠W.t:=fun z=>by subst z;obtain⟨φ,e⟩:=T.ext;rw[e] at h2;cases h2
 have e:=g.old b u bt h3 h1
 refine⟨g.hp.pro b u e,g.hp.dis b u e,?_,by rw[e];simp⟩
 unfold grP
 refine Ym ?_
 rintro (z | z | ⟨o,z⟩)
 ·exact z h2
 ·exact bt z
 ·rw[e] at z;cases z;cases hu
theorem Grew.dv (g:Grew W F H F' H' c)(hp:DHp P F H)(T:Tab W P){ow ow':Addr→Prop}(hw:∀ b,c b≠none→ow b→ow' b){x:DV}{v:V}(r:DVRep K P F H ow x v):DVRep K (grP W.t P c) F' H' ow' x v:=by
 cases x with
 | v d=>exact Rep.same g.ext r
 | own o t=>
  obtain⟨a,rfl,h,ht⟩:=r
  exact⟨a,rfl,h.monoP g.ext fun b u hu ⟨q1,q2,q3⟩ hb=>by
   obtain⟨z1,z2,z3,z4⟩:=g.own T hu q1 q2 hb
   exact⟨z1,z2,z3,hw b z4 q3⟩,ht⟩
 | bor o=>
  obtain⟨a,rfl,h⟩:=r
  exact⟨a,rfl,h.monoP g.ext fun b u hu q hb=>⟨by
   have bt:b≠W.t:=fun z=>by subst z;obtain⟨φ,e⟩:=T.ext;rw[e] at hb;cases hb;cases hu
   exact (g.grow hp).old b u bt hb,q⟩⟩
theorem Grew.inv (g:Grew W F H F' H' c)(I:DInv K P F H ρ σ)(T:Tab W P):DInv K (grP W.t P c) F' H' ρ σ:=
 ⟨g.hpP,I.len,by obtain⟨O,h⟩:=I.rep;exact⟨O,fun i x hx=>by obtain⟨v,h1,h2⟩:=h i x hx;exact⟨v,h1,g.dv I.toDHp T (fun _ _ q=>q) h2⟩⟩⟩
theorem Grew.setO (g:Grew W F H F' H' c)(I:DInv K P F H ρ σ)(T:Tab W P){i:Nat}{o:OD}{a:Addr}(ho:ORep K F' H' (fun b=>F' b=none∧c b=none) o a):DInv K (grP W.t P c) F' H' (ρ.set i (some (.own o none))) (σ.set i (some (.ref a))):=by
 obtain⟨O,h⟩:=I.rep
 classical
 refine⟨g.hpP,by rw[YI,YI];exact I.len,fun b=>if c b=none then some i else O b,fun m x hm=>?_⟩
 rcases dQ hm with⟨rfl,e,hl⟩ | ⟨him,hm'⟩
 ·cases e
  refine⟨.ref a,by rw[YO (by rw[← I.len];exact hl)],a,rfl,ho.mono (Same.refl _) fun b u q hb=>⟨hb,q.1,?_,Yk q.2⟩,fun _ z=>nomatch z⟩
  cases z:grP W.t P c b with
  | none=>rfl
  | some y=>rw[f_ z] at q;cases q.2
 ·obtain⟨v,h1,h2⟩:=h m x hm'
  refine⟨v,by rw[YG him];exact h1,g.dv I.toDHp T (fun b hb q=>?_) h2⟩
  exact (Ym hb).trans q
end
def EndsT (W:LamW)(K:Kq)(P F:Hp)(E:Ends):RES→Prop
 | .nx ρ=>∀ σ P' F' H',Same F F'→Grow W.t P P'→Tab W P'→DInv K P' F' H' ρ σ→E.nx σ H'
 | .bk ρ=>∀ σ P' F' H',Same F F'→Grow W.t P P'→Tab W P'→DInv K P' F' H' ρ σ→E.bk σ H'
 | .ct ρ=>∀ σ P' F' H',Same F F'→Grow W.t P P'→Tab W P'→DInv K P' F' H' ρ σ→E.ct σ H'
 | .rt x ρ=>∀ v σ P' F' H',Same F F'→Grow W.t P P'→Tab W P'→DInv K P' F' H' ρ σ→DVRep K P' F' H' iE x v→E.rt v H'
theorem EndsT.on {W:LamW}{K:Kq}{P P1 F F1:Hp}{E:Ends}{r:RES}(h:EndsT W K P F E r)(e:Same F F1)(g:Grow W.t P P1):EndsT W K P1 F1 E r:=by
 cases r with
 | nx ρ=>exact fun σ P' F' H' e' g' T I=>h σ P' F' H' (e.trans e') (g.trans g') T I
 | bk ρ=>exact fun σ P' F' H' e' g' T I=>h σ P' F' H' (e.trans e') (g.trans g') T I
 | ct ρ=>exact fun σ P' F' H' e' g' T I=>h σ P' F' H' (e.trans e') (g.trans g') T I
 | rt x ρ=>exact fun v σ P' F' H' e' g' T I r=>h v σ P' F' H' (e.trans e') (g.trans g') T I r
theorem EndsT.d {W:LamW}{K:Kq}{P F:Hp}{E:Ends}{r:RES}(h:EndsT W K P F E r)(T:Tab W P):EndsD K P F E r:=by
 cases r with
 | nx ρ=>exact fun σ F' H' e I=>h σ P F' H' e Grow.refl T I
 | bk ρ=>exact fun σ F' H' e I=>h σ P F' H' e Grow.refl T I
 | ct ρ=>exact fun σ F' H' e I=>h σ P F' H' e Grow.refl T I
 | rt x ρ=>exact fun v σ F' H' e I r=>h v σ P F' H' e Grow.refl T I r
def tST (W:LamW)(K:Kq)(g:Dw):TS:=fun E σ H=>∃ P F ρ r,g ρ=some r∧DInv K P F H ρ σ∧Tab W P∧EndsT W K P F E r
def PT1 (X:Cx)(W:LamW)(st:Stmt)(g:Dw):Prop:=PS X st (tST W X.K g)
def PTS (X:Cx)(W:LamW)(sts:List Stmt)(g:Dw):Prop:=PSs X sts (tST W X.K g)
section
variable {X:Cx} {W:LamW} {st:Stmt} {aN sts:List Stmt} {g h:Dw} {pos:Pos}
theorem b5 (hd:PD1 X st g):PT1 X W st g:=PS.imp hd fun E σ H ⟨P,F,ρ,r,hg,I,T,k⟩=>⟨P,F,ρ,r,hg,I,k.d T⟩
theorem wm (hd:PDS X sts g):PTS X W sts g:=PSs.imp hd fun E σ H ⟨P,F,ρ,r,hg,I,T,k⟩=>⟨P,F,ρ,r,hg,I,k.d T⟩
theorem gs (h1:PT1 X W st g):PTS X W [st] g:=PSs.imp (ck h1) fun _ _ _ q=>q
theorem aO (h1:PT1 X W st g)(h2:PTS X W aN h):PTS X W (st::aN) (aw g h):=PSs.imp (cW h1 h2) fun E σ H ⟨P,F,ρ,r,hg,I,T,k⟩=>by
 unfold aw at hg
 split at hg
 ·rename_i ρ' q
  exact⟨P,F,ρ,_,q,I,T,fun σ' P' F' H' e gr T' I'=>⟨P',F',ρ',r,hg,I',T',k.on e gr⟩⟩
 ·rename_i q
  refine⟨P,F,ρ,r,hg,I,T,?_⟩
  cases r with
  | nx ρ'=>exact absurd hg (q ρ')
  | bk ρ=>exact k
  | ct ρ=>exact k
  | rt x ρ=>exact k
theorem wj {c:Expr}{a b:List Stmt}{fc:Dk}(hc:PDT X c fc)(ha:PTS X W a g)(hb:PTS X W b h):PT1 X W (.If c a b pos) (dIf fc g h):=PS.imp (kO hc ha hb) fun E σ H ⟨P,F,ρ,r,hg,I,T,k⟩=>by
 unfold dIf at hg
 cases q:fc ρ with
 | none=>rw[q] at hg;cases hg
 | some b=>
  rw[q,Ya] at hg
  refine⟨P,F,ρ,b,q,I,fun F' H' ev=>?_⟩
  cases b with
  | true=>
   rw[Yk rfl] at hg ⊢
   exact⟨P,F',ρ,r,hg,I.evo ev,T,k.on ev.ext Grow.refl⟩
  | false=>
   rw[Ym Yg] at hg ⊢
   exact⟨P,F',ρ,r,hg,I.evo ev,T,k.on ev.ext Grow.refl⟩
end
structure FunD (K:PySem.W.Frag) (x qual:Str) (st:Stmt) (f:Addr) (fd:FuncData):Prop where
 ex:∃ (oc:Value) (od:Option Addr) (T:Addr) (kV doc pm:Value) (an:Option Addr) (cdv ct:Value) (osl:Array (Option Value)) (ot:Obj) (nt:Nat),
  fd=fnOf x qual (defArgs st) (defBody st) (defScope st) (.ref T) kV doc pm an cdv ct∧K.lookup f=some ⟨oc,od,.func fd,osl⟩∧codeIn K cdv qual=true∧K.lookup T=some ot∧ot.data=.seq #[Value.none] nt
 kp:keepIn K (.ref f)=true
def qZ (P:Program)(w:World)(K:Kq)(mg:Ks)(base:Heap)(k:Nat)(f:Addr)(fd:FuncData)(ps:List Str)(sp:List Env→Shared→Sp):Prop:=
 ∀ (A:Around) (outer:List Env) (s:Shared) (H:Hp) (args:Args) (us:List Value) (vs:List V) (Q:VK) (E:XK),Room k A→Env0 P w K mg base A outer s H→BindsTo s fd args (ps.zip us)→Vals vs us→vs.length=ps.length→sp outer s vs H Q E→
  codeAny (model P w) A (.call (.ref f) args) (CR CX0 outer P w H s Q E) s
theorem wH {P:Program}{w:World}{K:Kq}{mg:Ks}{base:Heap}{k:Nat}{f:Addr}{name qual:Str}{params:Arguments}{body:List Stmt}{scope:Scope}{dV kV doc pm cdv ct oc:Value}{an od:Option Addr}
  {osl:Array (Option Value)} {N ps:List Str} {sp:List Env→Shared→Sp} (lk:K.lookup f=some ⟨oc,od,.func (fnOf name qual params body scope dV kV doc pm an cdv ct),osl⟩) (hcd:codeIn K cdv qual=true) (S:FnScope N ps scope)
  (hbody:∀ (A:Around) (outer:List Env) (s:Shared) (H:Hp) (vs:List V) (Q:VK) (E:XK),Room k (A.deeper (envOfC qual scope s.heap.objs.size f cdv))→sp outer s vs H Q E→
   ∃ t,PSs (b9 CX0 P w K mg base N qual scope f cdv A outer s H E) body t∧t { nx:=fun _ H'=>Q .non H',rt:=Q } (start N vs) H) :
  qZ P w K mg base (k+1) f (fnOf name qual params body scope dV kV doc pm an cdv ct) ps sp:=by
 intro A outer s H args us vs Q E hr e0 hb r hl hsp
 have KX:K.In s.heap:=e0.mod.kin.keeps fun b o e=>(e0.bs b o e).1
 have lim:s.heap.NoLimit:=e0.mod.nolimit.keeps fun b o e=>(e0.bs b o e).1
 have hkind:∀ y∈ps.zip us,scope.names.lookup y.1=some .local∨(scope.names.lookup y.1=some .cell∧((cellsFrom (s.heap.objs.size+1) scope.names []).lookup y.1).isSome=true):=fun ⟨n,v⟩ hy=>by
  rcases S.par n (XT hy).1 with q | q
  ·exact .inl q
  ·exact .inr ⟨q,cellsFrom_some _ _ _ (.inl q)⟩
 refine codeAny_call_function hr.depth (KX _ _ lk) rfl S.co S.gen rfl (codeRec_of KX hcd) (hb _ _ _ _ ?_)
 refine wpAny_newFunctionEnv_cells S.kind hkind fun env he s1 x=>?_
 subst he
 refine⟨lim.keeps x.toInCall.keep,codeAny_func ?_⟩
 obtain⟨t,ht,hq⟩:=hbody A outer s H vs Q E (hr.deeper _) hsp
 have I:Inv (b9 CX0 P w K mg base N qual scope f cdv A outer s H E) [] (start N vs) H s1:=iJ S hr.hd e0 hl r x
 refine Zn (ht [] s1 (start N vs) H _ I hq) (fun fl s' hs=>?_) fun e s' hs=>hs
 have fin:∀ {σ':St} {H':Hp} {v:V} {u:Value},Inv (b9 CX0 P w K mg base N qual scope f cdv A outer s H E) [] σ' H' s'→RelV v u→Q v H'→CE outer P w H s Q u s':=
  fun {σ' H' v u} J rv q=>⟨v,H',J.os,J.bare,J.base,J.hok,rv,q⟩
 cases fl with
 | ret u=>
  obtain⟨v,σ',H',J,rv,q⟩:=hs
  exact fin J rv q
 | next=>
  obtain⟨σ',H',J,q⟩:=hs
  exact fin (v:=V.non) (u:=Value.none) J rfl q
 | brk=>
  obtain⟨_,_,_,q⟩:=hs
  exact False.elim q
 | cont=>
  obtain⟨_,_,_,q⟩:=hs
  exact False.elim q
structure LamNow (W:LamW) (f c' c:Addr) (uc:Value) (outer:List Env) (s:Shared) (H:Hp):Prop where
 lam:lm W.L f c' c s.heap
 fH:H f=none
 ff:f∉frs outer
 cl:s.heap.IsCell c (some uc)
 cH:H c=none
 cf:c∉frs outer
 cd:∃ o u,H c'=some (.frz o u)∧∃ vs t,o.data=.fields vs∧vs[1]?=some (.str W.L.qual t)
def spR (W:LamW)(K:Kq)(n:Nat)(gR:Addr→V→D→DF→Option RES):List Env→Shared→Sp:=fun outer s vs H Q _=>∃ f c' c uc vc dc v0 v2 x0 x2 x P F,vs=[v0,.ref f,v2]∧LamNow W f c' c uc outer s H∧RelV vc uc ∧
 aX (gR f vc dc (aQ n 3 [x0,.v (.fn f vc dc),x2]))=some x∧DHp P F H∧DVs K P F H [x0,.v (.fn f vc dc),x2] vs∧∀ v F' H',Same F F'→DHp P F' H'→DVRep K P F' H' iE x v→Q v H'
theorem FunD.okR {W:LamW}{P:Program}{w:World}{K:Kq}{mg:Ks}{base:Heap}{x qual:Str}{st:Stmt}{f0:Addr}{fd:FuncData}{N ps:List Str}{k:Nat}{gR:Addr→V→D→DF→Option RES}(F:FunD K x qual st f0 fd)(S:FnScope N ps (defScope st))(h3:ps.length=3)
  (hbody:∀ (cdv:Value) (A:Around) (outer:List Env) (s:Shared) (H:Hp) (E:XK) (f c' c:Addr) (uc:Value) (vc:V) (dc:D),Room k (A.deeper (envOfC qual (defScope st) s.heap.objs.size f0 cdv))→
   LamIn (b9 CX0 P w K mg base N qual (defScope st) f0 cdv A outer s H E).nox W.L f c' c uc→RelV vc uc→PDS (b9 CX0 P w K mg base N qual (defScope st) f0 cdv A outer s H E).nox (defBody st) (gR f vc dc)):qZ P w K mg base (k+1) f0 fd ps (spR W K N.length gR):=by
 obtain⟨oc,od,T,kV,doc,pm,an,cdv,ct,osl,ot,nt,rfl,lk,hcd,lt,dt⟩:=F.ex
 refine wH lk hcd S fun A outer s H vs Q E hr h=>?_
 obtain⟨f,c',c,uc,vc,dc,v0,v2,x0,x2,x,P',F',rfl,ln,rc,hg,hp,hv,hQ⟩:=h
 have li:LamIn (b9 CX0 P w K mg base N qual (defScope st) f0 cdv A outer s H E).nox W.L f c' c uc:=⟨ln.lam,ln.fH,ln.ff,(fun z=>absurd (show f∈([]:List Addr) from z) (by simp)),ln.cl,ln.cH,ln.cf,(fun z=>absurd (show c∈([]:List Addr) from z) (by simp)),ln.cd⟩
 refine⟨_,PSs.nox (hbody cdv A outer s H E f c' c uc vc dc hr li rc),?_⟩
 have I:DInv K P' F' H (aQ N.length 3 [x0,.v (.fn f vc dc),x2]) (start N [v0,.ref f,v2]):=DInv.start N 3 hp hv rfl
 cases q:gR f vc dc (aQ N.length 3 [x0,.v (.fn f vc dc),x2]) with
 | none=>rw[q] at hg;cases hg
 | some r=>
  rw[q] at hg
  refine⟨P',F',_,r,q,I,?_⟩
  cases r with
  | rt y ρ=>cases hg;exact fun v σ F2 H2 e h r=>hQ v F2 H2 e h.toDHp r
  | nx ρ=>cases hg;exact fun σ F2 H2 e h=>hQ .non F2 H2 e h.toDHp .non
  | bk ρ=>cases hg
  | ct ρ=>cases hg
section
variable {X:Cx} {W:LamW} {k n j:Nat} {f0 c0 c:Addr} {fd:FuncData} {ps:List Str} {gR:Addr→V→D→DF→Option RES} {x:Str} {p pos:Pos} {e:Expr} {te:TE}
end
theorem Tab.sub {W:LamW}{P H:Hp}(T:Tab W P)(s:Same P H):Tab W H:=by
 rcases T with h | ⟨c',h,o,h1,h2⟩
 ·exact .inl (s _ _ h)
 ·exact .inr ⟨c',s _ _ h,o,s _ _ h1,h2⟩
theorem Tab.free {W:LamW}{P F H:Hp}(T:Tab W P)(h:DHp P F H):uW W (fun c'=>F c'=none) H:=by
 rcases T with e | ⟨c',e,o,h1,h2⟩
 ·exact .inl ⟨h.pro _ _ e,fun c' q=>h.sub.free q⟩
 ·exact .inr ⟨c',⟨h.pro _ _ e,o,h.pro _ _ h1,h2⟩,h.dis _ _ h1⟩
theorem Tab.out {W:LamW}{P F H:Hp}(T:Tab W P)(h:DHp P F H):F W.t=none:=by obtain⟨φ,e⟩:=T.ext;exact h.dis _ _ e
theorem qS {W:LamW}{P F H F1 H1 H2 F3 H3:Hp}{c':Addr}(hp:DHp P F H)(T:Tab W P)(ev:Evo P F H F1 H1)(gr:Grow W.t H1 H2)(wa:rH W c' H2)(hM:F1 c'=none)(e3:Same F1 F3)(h3:DHp (gd F1 H2) F3 H3):Grew W F H F3 H3 (gd F1 H2) where
 ext:=ev.ext.trans e3
 hp:=h3
 old:=fun a o n e hf=>by
  obtain⟨k1,k2⟩:=ev.keep a o e hf
  exact cE.mpr ⟨k2,gr.old a o n k1⟩
 tab:=by
  obtain⟨h1,o,h2,h4⟩:=wa
  exact .inr ⟨c',cE.mpr ⟨T.out ev.hp,h1⟩,o,cE.mpr ⟨hM,h2⟩,h4⟩
section
variable {X:Cx} {W:LamW} {k n i j:Nat} {f0 c0 c:Addr} {fd:FuncData} {ps:List Str} {gR:Addr→V→D→DF→Option RES} {x y:Str} {p p1 pos pos1 pos2 pos':Pos} {e:Expr} {fe:Dd}
end
def spT (W:LamW)(K:Kq)(m:Dm):Sp:=fun vs H Q _=>∃ P F xs x,m xs=some x∧DHp P F H∧Tab W P∧DVs K P F H xs vs∧∀ v P' F' H',Same F F'→Grow W.t P P'→Tab W P'→DHp P' F' H'→DVRep K P' F' H' iE x v→Q v H'
theorem kQ {W:LamW}{K:Kq}{N ps:List Str}{g:Dw}{vs:List V}{H:Hp}{Q:VK}{E:XK}(h:spT W K (mOf N.length ps.length g) vs H Q E):tST W K g { nx:=fun _ H'=>Q .non H',rt:=Q } (start N vs) H:=by
 obtain⟨P',F',xs,x',hm,hp,T,hv,hQ⟩:=h
 unfold mOf at hm
 split at hm
 ·rename_i hl
  have I:DInv K P' F' H (aQ N.length ps.length xs) (start N vs):=DInv.start N ps.length hp hv hl
  cases q:g (aQ N.length ps.length xs) with
  | none=>rw[q] at hm;cases hm
  | some r=>
   rw[q] at hm
   refine⟨P',F',_,r,q,I,T,?_⟩
   cases r with
   | rt y ρ=>cases hm;exact fun v σ P2 F2 H2 e g T2 h r=>hQ v P2 F2 H2 e g T2 h.toDHp r
   | nx ρ=>cases hm;exact fun σ P2 F2 H2 e g T2 h=>hQ .non P2 F2 H2 e g T2 h.toDHp .non
   | bk ρ=>cases hm
   | ct ρ=>cases hm
 ·cases hm
theorem nP {W:LamW}{K:Kq}{n p:Nat}{g:Dw}:∀ vs H Q E,spT W K (mOf n p g) vs H Q E→vs.length=p:=fun vs H Q E hh_=>by
 obtain⟨P',F',xs,x',hm,hp,T,hv,_⟩:=hh_
 unfold mOf at hm
 split at hm
 ·rename_i h;rw[← hv.length];exact h
 ·cases hm
theorem Fun.okT {W:LamW}{P:Program}{w:World}{K:Kq}{mg:Ks}{base:Heap}{x qual:Str}{st:Stmt}{f:Addr}{fd:FuncData}{N ps:List Str}{k:Nat}{g:Dw}(F:Fun K x qual st f fd)(S:FnScope N ps (defScope st))
  (hbody:∀ (cdv:Value) (A:Around) (outer:List Env) (s:Shared) (H:Hp) (E:XK),Room k (A.deeper (envOfC qual (defScope st) s.heap.objs.size f cdv))→
   PTS (b9 CX0 P w K mg base N qual (defScope st) f cdv A outer s H E).nox W (defBody st) g):FnOk P w K mg base CX0 (k+1) f fd ps (spT W K (mOf N.length ps.length g)):=
 F.ok S nP fun cdv A outer s H vs Q E hr h=>⟨_,hbody cdv A outer s H E hr,kQ h⟩
theorem Tab.gd {W:LamW}{P F H:Hp}(T:Tab W P)(h:DHp P F H):Tab W (gd F H):=T.sub fun a o e=>cE.mpr ⟨h.dis a o e,h.pro a o e⟩
theorem fw {W:LamW}{P F H F1 H1 F2 H2 c:Hp}(ev:Evo P F H F1 H1)(e2:Same F1 F2)(gr:Grow W.t (gd F1 H1) c)(Tc:Tab W c)(h2:DHp c F2 H2):Grew W F H F2 H2 c where
 ext:=ev.ext.trans e2
 hp:=h2
 old:=fun a o n e hf=>by
  obtain⟨k1,k2⟩:=ev.keep a o e hf
  exact gr.old a o n (cE.mpr ⟨k2,k1⟩)
 tab:=Tc
theorem Grew.frz {W:LamW}{F H F' H' c:Hp}(g:Grew W F H F' H' c):Grew W F H (oA F' H' fun b=>F' b=none∧c b=none) H' c where
 ext:=g.ext.trans (a_ fun _ q=>q.1)
 hp:=⟨fun b u h=>by
   by_cases q:F' b=none∧c b=none
   ·rw[bT (ow:=fun b=>F' b=none∧c b=none) q] at h;exact h
   ·rw[cb (ow:=fun b=>F' b=none∧c b=none) q] at h;exact g.hp.sub b u h,g.hp.pro,fun b u h=>by
   rw[cb (ow:=fun b=>F' b=none∧c b=none) fun q=>by rw[q.2] at h;cases h];exact g.hp.dis b u h⟩
 old:=g.old
 tab:=g.tab
def tDT (W:LamW)(K:Kq)(f:Dd):TE:=fun σ H Q=>∃ P F ρ d,f ρ=some d∧DInv K P F H ρ σ∧Tab W P∧∀ v P' F' H',Same F F'→Grow W.t P P'→Tab W P'→DInv K P' F' H' ρ σ→Rep K F' v d→Q v H'
def PET (X:Cx)(W:LamW)(e:Expr)(f:Dd):Prop:=PE X e (tDT W X.K f)
section
variable {X:Cx} {W:LamW} {k i:Nat} {f:Addr} {fd:FuncData} {ps:List Str} {m:Dm} {x y:Str} {p pos pos' pos2:Pos} {e:Expr} {es:List Expr} {g:Dv} {f0:Dd}
theorem jG (hN:X.N.Nodup)(hi:X.N[i]?=some y)(hx:Loc X.env.scope y)(F:FnOk X.prog X.w X.K X.mg X.base CX0 k f fd ps (spT W X.K m))(hr:Room k X.A)(hg:Gl X x)(hm:X.mg x=some (.ref f))(hk:keepIn X.K (.ref f)=true)(hb:Binds X.K fd ps [])(ha:ir X (e::es) g)
  (hd:(x == ("__debug__":Str))=false:=by decide) (he:starEach (e::es) X.env=(false,eval e X.env)::starEach es X.env:=by rfl) (hpl:(backTo pos (starEach es X.env)).any (·.1)=false:=by rfl)
  (hsw:swapsWith (.Call (.Name x p) (e::es) [] pos) (some (.Name y pos')) pos2.line X.env=pure false:=by rfl) (hf5:X.fn y=true∨X.env.scope.names.lookup y=some .local:=by first | exact .inl rfl | exact .inr rfl | assumption) :
  PT1 X W (.Assign [.Name y pos'] (.Call (.Name x p) (e::es) [] pos) pos2) (a9 i (bZ m g)):=
 PS.imp (g_ hN hi hx (f6 F hr hg hm hk hb .nil nW ha hd he hpl) hsw hf5) fun E σ H ⟨P,F,ρ,r,hr,I,T,k⟩=>by
  unfold a9 bZ at hr
  cases q:g ρ with
  | none=>rw[q] at hr;cases hr
  | some xs=>
   rw[q,Ya] at hr
   cases q2:m xs with
   | none=>rw[q2] at hr;cases hr
   | some x=>
    rw[q2,Ya] at hr
    cases x with
    | own o t=>
     cases hr
     refine⟨P,F,ρ,xs,q,I,fun vs F1 H1 e1 r1=>?_⟩
     have I1:=I.evo e1
     refine⟨gd F1 H1,F1,xs,_,q2,d_ I1.sub,T.gd I1.toDHp,by rw[YC];exact r1.dvs I1,fun v c F2 H2 e2 gr Tc h2 r2=>?_⟩
     obtain⟨a,rfl,ho,_⟩:=r2
     have gw:=fw e1 e2 gr Tc h2
     exact k _ _ F2 H2 gw.ext (gw.grow I.toDHp) gw.tabP (gw.setO I T (ho.mono (Same.refl _) fun b u q hb=>⟨hb,q.1,q.2.1⟩))
    | v d=>cases hr
    | bor o=>cases hr
theorem rN (F:FnOk X.prog X.w X.K X.mg X.base CX0 k f fd ps (spT W X.K m))(hr:Room k X.A)(hg:Gl X x)(hm:X.mg x=some (.ref f))(hk:keepIn X.K (.ref f)=true)(hb:Binds X.K fd ps [])(ha:ir X (e::es) g)
  (hd:(x == ("__debug__":Str))=false:=by decide) (he:starEach (e::es) X.env=(false,eval e X.env)::starEach es X.env:=by rfl) (hpl:(backTo pos (starEach es X.env)).any (·.1)=false:=by rfl):PET X W (.Call (.Name x p) (e::es) [] pos) (ay m g):=
 (f6 F hr hg hm hk hb .nil nW ha hd he hpl).imp fun σ H Q ⟨P,F,ρ,d,hf,I,T,k⟩=>by
  unfold ay at hf
  cases q:g ρ with
  | none=>rw[q] at hf;cases hf
  | some xs=>
   rw[q,Ya] at hf
   cases q2:m xs with
   | none=>rw[q2] at hf;cases hf
   | some x=>
    rw[q2,Ya] at hf
    refine⟨P,F,ρ,xs,q,I,fun vs F1 H1 e1 r1=>?_⟩
    have I1:=I.evo e1
    refine⟨gd F1 H1,F1,xs,x,q2,d_ I1.sub,T.gd I1.toDHp,by rw[YC];exact r1.dvs I1,fun v c F2 H2 e2 gr Tc h2 r2=>?_⟩
    have gw:=fw e1 e2 gr Tc h2
    cases x with
    | v d'=>cases hf;exact k v _ F2 H2 gw.ext (gw.grow I.toDHp) gw.tabP (gw.inv I T) r2
    | own o t=>
     cases hf
     obtain⟨a,rfl,ho,_⟩:=r2
     exact k _ _ _ H2 gw.frz.ext (gw.frz.grow I.toDHp) gw.frz.tabP (gw.frz.inv I T) (ho.rep (a_ fun _ q=>q.1) fun b u q hb=>by rw[bT (ow:=fun b=>F2 b=none∧c b=none) ⟨q.1,q.2.1⟩];exact hb)
    | bor o=>cases hf
end
def nA (t:Addr)(pos:Pos)(H:Hp):Prop:=H t=some (.ext (eN t pos none))∧∀ b,b≠t→H b=none∨∃ o xs,H b=some (.frz o (.lst xs))
theorem oS {P:Program}{w:World}{K:Kq}{mg mb:Ks}{CX:CXT}{k:Nat}{fa a t c0:Addr}{lpos:Pos}{fd:FuncData}{x:Str}{sp:Sp}{s₁:Shared}{vs:List Value}{ns:List Int}
  (KX:K.In s₁.heap) (hns:s₁.heap.Ns mainGlobals mg) (hb:s₁.heap.Ns builtinsNs mb) (hbb:∀ x:Str,x ≠ "__name__"→mb x=bootBuiltins x) (hlim:s₁.heap.NoLimit) (hg:s₁.gens=#[])
  (hmb:∃ bm ob,mg (Str.ofString "__builtins__")=some (Value.ref bm)∧bm≠builtinsNs∧s₁.heap.get? bm=some ob∧ob.cls=Value.type "module"∧ob.dict=some builtinsNs∧ob.data=Data.plain)
  (ht:s₁.heap.get? t=some (tabObj #[])) (hch:codeHdIn K c0 t=true) (hKt:K.lookup t=none) (htc:t≠cStatics)
  (ha:s₁.heap.get? a=some { cls:=.type "list",data:=.seq vs.toArray }) (hi:IntsAre vs ns) (hl:ns.length≤sizeLine) (hr:Room k callerA)
  (F:∀ base:Heap,K.In base→base.Ns mainGlobals mg→base.BuiltinsAt mg t→FnOk P w K mg base CX k fa fd [x] sp) (hbind:∀ (s:Shared) (u:Value),BindsTo s fd ⟨[u],[]⟩ [(x,u)])
  (hsp:∀ H:Hp,nA t lpos H→SqL K H a (ns.map V.int)→sp [.ref a] H (fun v H'=>v=.bl true∧∃ φ,H' t=some (.ext φ)∧∀ h,φ h→∃ ps,h.get? t=some (tabObj ps)) fun _ _ _=>False)
  (hCX:∀ H e s',CX [] H s₁ (fun _ _ _=>False) e s'→False) :
  codeAny (model P w) callerA (.call (.ref fa) ⟨[.ref a],[]⟩) (fun r s'=>r=.ok (.ret (.bool true))∧OldK s₁.heap s'.heap∧s'.os=s₁.os∧AllBare s'.gens) s₁:=by
 have rv:=i5 hi
 have lenV:=hi.length
 have at':a≠t:=fun z=>by subst z;rw[ha] at ht;cases ht
 have chd:CodeHd s₁.heap c0 t:=codeHd_of_K KX hch
 have core:∀ H:Hp,nA t lpos H→SqL K H a (ns.map V.int)→HOk P w H s₁.heap→(∀ b,H b≠none→b=a∨b=t)→(H a≠none→K.lookup a=none)→
   codeAny (model P w) callerA (.call (.ref fa) ⟨[.ref a],[]⟩) (fun r s'=>r=.ok (.ret (.bool true))∧OldK s₁.heap s'.heap∧s'.os=s₁.os∧AllBare s'.gens) s₁:=by
  intro H hO hS hok hA hK
  have base_of:∀ {b:Addr} {o:Obj},s₁.heap.get? b=some o→H b=none→(iz s₁.heap H).get? b=some o:=fun e n=>ql e n
  have noH:∀ {b:Addr} {o:Obj},s₁.heap.get? b=some o→(∀ xs n,o.data≠.seq xs n)→(∀ xs,o.data≠.fields xs)→H b=none:=fun {b o} e d1 d2=>by
   cases q:H b with
   | none=>rfl
   | some u=>
    rcases hA b (by rw[q];simp) with e' | e'
    ·subst e';rw[ha] at e;cases e;exact absurd rfl (d1 _ _)
    ·subst e';rw[ht] at e;cases e;exact absurd rfl (d2 _)
  have noA:∀ {b:Addr} {o:Obj} {es:Array DictEntry} {ep:Nat},s₁.heap.get? b=some o→o.data=.dict es ep→H b=none:=fun e d=>noH e (fun _ _ z=>by rw[d] at z;cases z) fun _ z=>by rw[d] at z;cases z
  have nsK:∀ {b:Addr} {m:Ks},s₁.heap.Ns b m→(iz s₁.heap H).Ns b m:=fun {b m} ⟨o,es,ep,e,d,r⟩=>⟨o,es,ep,base_of e (noA e d),d,r⟩
  have hKb:K.In (iz s₁.heap H):=fun b o e=>base_of (KX b o e) (by
   cases q:H b with
   | none=>rfl
   | some u=>
    rcases hA b (by rw[q];simp) with e' | e'
    ·subst e';rw[hK (by rw[q];simp)] at e;cases e
    ·subst e';rw[hKt] at e;cases e)
  have hM:Mod K mg (iz s₁.heap H):=⟨hKb,nsK hns,⟨mb,nsK hb,hbb⟩,let ⟨mc,h1,h2⟩:=hlim;⟨mc,nsK h1,h2⟩⟩
  have hBa:(iz s₁.heap H).BuiltinsAt mg t:=by
   obtain⟨bm,ob,m1,m2,m3,m4,m5,m6⟩:=hmb
   refine⟨bm,ob,m1,m2,fun z=>?_,fun z=>?_,base_of m3 (noH m3 (fun _ _ z=>by rw[m6] at z;cases z) fun _ z=>by rw[m6] at z;cases z),m4,m5,m6⟩
   ·obtain⟨o,es,ep,e,d,_⟩:=hns
    rw[← z,m3] at e
    cases e
    rw[m6] at d
    cases d
   ·rw[z,ht] at m3
    cases m3
    cases m6
  have e0:Env0 P w K mg (iz s₁.heap H) callerA [] s₁ H:=⟨rfl,hM,fun b o e=>uq e,Nat.le_of_eq (oQ _ _),trivial,fun b hb=>absurd (show b∈([]:List Addr) from hb) (by simp),hok,.of_eq hg⟩
  refine Xm ((F _ hKb (nsK hns) hBa).run callerA [] s₁ H ⟨[.ref a],[]⟩ [.ref a] [.ref a] _ _ hr e0 (hbind s₁ (.ref a)) (.cons rfl .nil) (hsp H hO hS)) fun r s' h=>?_
  cases r with
  | error e=>exact (hCX H e s' h).elim
  | ok fl=>
   cases fl with
   | next=>exact False.elim h
   | brk=>exact False.elim h
   | cont=>exact False.elim h
   | ret u=>
    obtain⟨v,H',os,bare,un,hok',r',q⟩:=h
    obtain⟨rfl,φ,q1,q2⟩:=q
    obtain rfl:u=Value.bool true:=r'
    obtain⟨ph,_,_⟩:=hok' t _ q1
    obtain⟨ps,hps⟩:=q2 _ ph
    have ext:Heap.ExtBut t s₁.heap s'.heap:=fun b o n e=>by
     cases q:H b with
     | none=>exact un.keep b o e q (by intro z;exact absurd (show b∈([]:List Addr) from z) (by simp)) (by simp)
     | some u=>
      rcases hO.2 b n with z | ⟨ob,xs,z⟩
      ·rw[q] at z;cases z
      ·have z2:=un.frzs b ob _ z
       obtain⟨e1,_⟩:=hok b _ z
       obtain⟨e2,_⟩:=hok' b _ z2
       rw[e] at e1;cases e1
       exact e2
    have chd':CodeHd s'.heap c0 t:=by
     obtain⟨o,vs',file,tf,fl,tg,inF,tx,tt,g1,g2⟩:=chd
     exact⟨o,vs',file,tf,fl,tg,inF,tx,tt,ext c0 o g2.2.2.2.2.2.2.2.2 g1,g2⟩
    refine⟨rfl,OldK.step_table (OldK.refl _) (chd.tab ht) (chd.tab ht) (more:=ps) ?_ ext htc,os,bare⟩
    rw[show (#[]:Array Value)++ps=ps by simp]
    exact chd'.tab hps
 have tabk:eN t lpos none s₁.heap:=⟨#[],ht,by simp[TriplesOk],rfl⟩
 cases hk:K.lookup a with
 | some o=>
  have e:=KX a o hk
  rw[ha] at e
  cases e
  refine core (fun b=>if b=t then some (.ext (eN t lpos none)) else none) ⟨Yk rfl,fun b n=>.inl (Ym n)⟩ (.inr ⟨_,vs.toArray,_,hk,rfl,rfl,rfl,by rw[Yo,lenV];exact hl,by simpa using rv⟩) (fun b u z=>?_) (fun b z=>?_) fun z=>absurd (Ym at') z
  ·by_cases hb:b=t
   ·have z':=(Yk hb).symm.trans z
    cases z'
    subst hb
    exact⟨tabk,⟨_,ht⟩,fu⟩
   ·have z':=(Ym hb).symm.trans z
    cases z'
  ·by_cases hb:b=t
   ·exact .inr hb
   ·exact absurd (Ym hb) z
 | none=>
  refine core (fun b=>if b=t then some (.ext (eN t lpos none)) else if b=a then some (.frz { cls:=.type "list",data:=.seq vs.toArray } (.lst (ns.map V.int))) else none) ⟨Yk rfl,fun b n=>?_⟩ (.inl (.inr ⟨{ cls:=.type "list",data:=.seq vs.toArray },(Ym at').trans (Yk rfl)⟩)) (fun b u z=>?_) (fun b z=>?_) fun _=>hk
  ·by_cases hb:b=a
   ·exact .inr ⟨_,_,(Ym n).trans (Yk hb)⟩
   ·exact .inl ((Ym n).trans (Ym hb))
  ·by_cases hb:b=t
   ·have z':=(Yk hb).symm.trans z
    cases z'
    subst hb
    exact⟨tabk,⟨_,ht⟩,fu⟩
   ·by_cases hb2:b=a
    ·have z':=((Ym hb).trans (Yk hb2)).symm.trans z
     cases z'
     subst hb2
     exact⟨ha,by rw[Yf];exact hl,vs,_,rv,ha⟩
    ·have z':=((Ym hb).trans (Ym hb2)).symm.trans z
     cases z'
  ·by_cases hb:b=t
   ·exact .inr hb
   ·by_cases hb2:b=a
    ·exact .inl hb2
    ·exact absurd ((Ym hb).trans (Ym hb2)) z
theorem walk_ofT {l:PySem.W.OpenLaw}{n k:Nat}{q:Program}{loose:List Str}{XP:(Str→Option Value)→Heap→Prop}{YP:World→Heap→Prop}{d:DefRec}{K:Params→PySem.W.Frag}{CX:CXT}{sp:PySem.W.Frag→Sp}{x:Str}{t c0:Addr}{lpos:Pos}
  (hn:l.most=some n) (hn2:n≤sizeLine) (hdf:d.params.defaults=[]) (hr:Room k callerA)
  (hY:∀ (w:World) (h:Heap),YP w h→(K w.params).In h∧h.get? t=some (tabObj #[]))
  (hch:∀ w:World,codeHdIn (K w.params) c0 t=true) (hKt:∀ w:World,(K w.params).lookup t=none) (htc:t≠cStatics)
  (F:∀ (w:World) (mg:Ks) (fa:Addr) (h:Heap),(K w.params).In h→h.Ns mainGlobals mg→mg d.name=some (.ref fa)→
   ∃ fd:FuncData,(∀ (s:Shared) (u:Value),BindsTo s fd ⟨[u],[]⟩ [(x,u)]) ∧
    ∀ base:Heap,(K w.params).In base→base.Ns mainGlobals mg→base.BuiltinsAt mg t→FnOk l.prog w (K w.params) mg base CX k fa fd [x] (sp (K w.params)))
  (hsp:∀ (K:Kq) (H:Hp) (a:Addr) (ns:List Int),ns.length≤n→nA t lpos H→SqL K H a (ns.map V.int)→sp K [.ref a] H (fun v H'=>v=.bl true∧∃ φ,H' t=some (.ext φ)∧∀ h,φ h→∃ ps,h.get? t=some (tabObj ps)) fun _ _ _=>False)
  (hCX:∀ (H:Hp) (s:Shared) (e:Value) (s':Shared),CX [] H s (fun _ _ _=>False) e s'→False) :
  PySem.W.WalkO q loose XP YP l.row.toRowW d [] (fun f vs=>PySem.call f vs):=by
 refine Att.attach_call hn hdf fun w s₀ s₁ mg mb fa o pm cd doc a vs ns G Y ho hd hcd hmg hobj hints hlen hg=>?_
 obtain⟨KX,ht⟩:=hY w _ Y
 obtain⟨fd,hb,hF⟩:=F w mg fa _ KX G.T.g hmg
 exact oS (lpos:=lpos) KX G.T.g G.T.b G.T.builtins G.T.nolimit hg G.T.bmain ht (hch w) (hKt w) htc hobj hints (ZH hlen hn2) hr hF hb (fun H hO hS=>hsp (K w.params) H a ns hlen hO hS) fun H e s'=>hCX H s₁ e s'
end L2
namespace L2
open PySem PySem.Spec PyProof.Rows
theorem jR:plainId "dict.update.loop"=true:=by decide +kernel
theorem rG:entryFor table "dict.update.loop"=some Builtin.«dict.update.loop»:=by kernel_rfl
section
variable {prog:Program} {w:World} {A:Around} {E:Kv} {s:Shared}
theorem tM {l:Addr}{its:Array Value}{n:Nat}{Q:Ko}(ho:s.heap.get? l=some { cls:=.type "list",data:=.seq its n })(hh:A.handled=none)
  (q:∀ h' tk,(∀ b o,s.heap.get? b=some o→h'.get? b=some o)→Q none { s with heap:=h',toks:=tk }):wpAny (model prog w) A (getAttr? (.ref l) "keys") Q E s:=by
 have hl:Shared.TypeIs s (.ref l) "list":=⟨_,ho,rfl⟩
 have g1:typeLookup (Value.type "list") "__getattribute__"=pure (some (.builtin "list.__getattribute__")):=Xs.lookup
 have g2:typeLookup (Value.type "list") "keys"=pure none:=by rfl
 have g4:typeLookup (Value.type "list") "__getattr__"=pure none:=by rfl
 unfold getAttr? getAttrBy? getAttrBy getAttrByItsOwn hookBefore callGetattribute
 wp_walk
 have g3:=Xs.bind (.ref l)
 rw[g3]
 refine Yu ?_
 show wpAny _ _ (call (.builtin "list.__getattribute__") [.ref l,Value.str (Str.ofString "keys") s.toks]) _ _ _
 refine call_meets Xs (s:={ s with toks:=s.toks+1 }) ⟨_,ho,rfl⟩ am_entry_list_getattribute (F.args_list_getattribute_2 _ _) (meets_getattribute_miss_list l its n #[] "keys" s.toks g2 (by decide)) ⟨ho,hh,fun h' tk e ne=>?_⟩
 obtain⟨t,u,he⟩:=ne.there
 have ke:=ne.keeps
 unfold getattributeRaised hookBehind hookOrError attributeErrorLeaves
 have s1:Shared.TypeIs { s with heap:=h',toks:=tk } (.ref e) "AttributeError":=⟨_,he,rfl⟩
 have s2:isSubtype (.type "AttributeError") (.type "AttributeError")=pure true:=sub_AttributeError
 wp_walk
 exact q h' tk ke
theorem mh {p:Addr}{ku u:Value}{Q:Kl}(ht:IsTup s.heap p #[ku,u])(q:Q [ku,u] s):wpAny (model prog w) A (Builtin.Dict.pairItems (.ref p)) Q E s:=by
 obtain⟨o,e1,e2,n,e3⟩:=ht
 have hT:Shared.TypeIs s (.ref p) "tuple":=⟨o,e1,e2⟩
 unfold Builtin.Dict.pairItems
 wp_walk
 rw[e3]
 exact Yu (Yu q)
variable {I:Addr} {fp wr:List Addr} {G:Array GenState→Array GenState→Prop} {n:Nat} {P:Nat→Value→Prop} {St:Nat→Shared→Prop} {R:Kr}
end
abbrev wI (l:Addr):Obj:={ cls:=.type "list_iterator",data:=.fields #[.ref l,.int 0 0] }
section
variable {prog:Program} {w:World} {A:Around} {E:Kv} {s:Shared}
end
abbrev fN:Obj:={ cls:=.type "dict",data:=.dict #[] }
section
variable {prog:Program} {w:World} {A:Around} {E:Kv} {s:Shared}
theorem iD {l:Addr}{items:Array Value}{nl:Nat}{Z:Heap→Prop}{Q:Kv}(hh:A.handled=none)(hl:s.heap.get? l=some { cls:=.type "list",data:=.seq items nl })
  (loop:∀ (R:Kr) (h1:Heap) (tk1:Nat),(∀ b o,(s.heap.push fN).get? b=some o→h1.get? b=some o)→(∀ h' tk,Z h'→(∀ b o,s.heap.get? b=some o→h'.get? b=some o)→R (.ok (.ret .none)) { s with heap:=h',toks:=tk })→
   codeAny (model prog w) A.in1 (.builtin "dict.update.loop" ⟨[.ref s.heap.objs.size,.ref h1.objs.size,.int 0 0,.none],[]⟩) R { s with heap:=h1.push (wI l),toks:=tk1 })
  (q:∀ h' tk,Z h'→(∀ b o,s.heap.get? b=some o→h'.get? b=some o)→Q (.ref s.heap.objs.size) { s with heap:=h',toks:=tk }) :
  wpAny (model prog w) A (call (.type "dict") [.ref l]) Q E s:=by
 have ft:=F.kt_called_dict
 obtain⟨m0,mr,hm⟩:=ft.mro
 have y1:=ft.made
 have y2:=ft.sub
 have y3:=ft.notType
 have y4:=ft.canCreate
 have y5:=F.kt_typeCall_dict_1 (.ref l)
 refine XO (codeAny_of_tree ?_)
 show wpAny _ _ (callAny (.type "dict") ⟨[.ref l],[]⟩) _ _ _
 refine Yu ⟨Xw _ (by decide +kernel),Zs F.entry_type_call ?_⟩
 rw[Around.under_plain (weight_type_call_type "dict" [.ref l] []) rfl]
 repeat any_goals first | assumption | wp_step
 refine Xm (kt_code_dict_new (.ref l) (E:=E) (Q₁:=fun obj s₁=>obj=.ref s.heap.objs.size∧s₁={ s with heap:=s.heap.push fN }) ⟨rfl,rfl⟩) fun r s₁ hr=>?_
 cases r with
 | error e=>exact hr
 | ok fl=>
  cases fl with
  | ret obj=>
   obtain⟨rfl,rfl⟩:=hr
   have hS:(s.heap.push fN).get? s.heap.objs.size=some fN:=Yp _ rfl
   have hT:Shared.TypeIs { s with heap:=s.heap.push fN } (.ref s.heap.objs.size) "dict":=⟨_,hS,rfl⟩
   have y6:=ft.init.lookup
   have y7:=ft.init.bind (.ref s.heap.objs.size)
   repeat any_goals first | assumption | wp_step
   refine Xm (XL (R:=wants (fun r s₂=>r=.none∧∃ h' tk,s₂={ s with heap:=h',toks:=tk }∧Z h'∧∀ b o,s.heap.get? b=some o→h'.get? b=some o) E) ft.init.plain F.entry_dict_init (ft.init.check _ _ _ _ _ _ _ _ hT (F.args_dict_init_2 _ _) ?_)) fun r₂ s₂ hr₂=>?_
   ·have e1':(s.heap.push fN).get? l=some { cls:=.type "list",data:=.seq items nl }:=Yd _ hl
    unfold Builtin.«dict.__init__» Builtin.Dict.selfAndRest Builtin.Dict.notOrdered
    generalize hPI:Builtin.Dict.updateCommon=PI
    wp_walk
    subst hPI
    show wpAny _ _ (Builtin.Dict.updateFrom "dict.__init__" s.heap.objs.size (.ref l) [] .none) _ _ _
    unfold Builtin.Dict.updateFrom
    generalize hGA:getAttr?=GA
    generalize hPI:pyIter=PI
    have z3:(Value.type "list" != Value.type "dict")=true:=by decide
    wp_walk
    subst hGA
    refine tM e1' (by simpa using hh) fun h1 tk1 k1=>?_
    wp_walk
    subst hPI
    have hl1:h1.IsList l items:=⟨_,k1 _ _ e1',rfl,nl,rfl⟩
    refine wpAny_pyIter_list hl1 (Yu ?_)
    exact⟨plainId_quiet jR _,loop _ h1 tk1 k1 fun h' tk hZ hk=>⟨rfl,h',tk,rfl,hZ,hk⟩⟩
   ·cases r₂ with
    | error e=>exact hr₂
    | ok fl₂=>
     cases fl₂ with
     | ret v=>
      obtain⟨rfl,h',tk,rfl,hZ,hk⟩:=hr₂
      repeat any_goals first | assumption | wp_step
      exact q _ _ hZ hk
     | _=>exact hr₂.elim
  | _=>exact hr.elim
end
theorem mD:bootBuiltins "dict"=some (.type "dict"):=by rfl
section
variable {X:Cx}
end
end L2
namespace L2
open PySem PySem.Spec PySem.W PyProof.Rows
section
variable {X:Cx} {e i o:Expr} {pos p:Pos} {fk fd fe:Dd}
noncomputable def gO (i:Nat)(a0:Addr)(v0:V)(gL:Dd)(fe:Dd):DF→Option D:=fun ρ=>match ρ[i]? with
 | some (some (.v (.fn a v d)))=>open Classical in if a=a0∧v=v0 then (fe ρ).bind fun x=>gL [some (.v x),some (.v d)] else none
 | _=>none
theorem p9 {L:LamS}{a0 c' c:Addr}{uc:Value}{v0:V}{gL:Dd}{x:Str}{k ix:Nat}(S:L.Ok)(hl:LamIn X L a0 c' c uc)(rc:RelV v0 uc)(hr:Room (k+1) X.A)(hN:X.N[ix]?=some x)(hv:Vis X.env.scope x)(ha:PDE X e fe)
  (hb:∀ (s:Shared) (H:Hp) (E:XK),PDE (jq CX0 X.prog X.w X.K X.mg X.base L a0 c' c X.A X.stack s H E) L.body gL)
  (hd:(x == ("__debug__":Str))=false:=by decide) (hcd:(x == ("__classdict__":Str))=false:=by decide) (he:starEach [e] X.env=(false,eval e X.env)::starEach [] X.env:=by rfl) :
  PDE X (.Call (.Name x p) [e] [] pos) (gO ix a0 v0 gL fe):=
 (qY (t:=tD X.K gL) S hl rc hr hN hv ha (fun s H E=>hb s H E) hd hcd he).imp fun σ H Q=>un7 fun P F ρ d hf I k=>by
  unfold gO at hf
  split at hf
  ·rename_i a v dc q
   split at hf
   ·rename_i av
    obtain⟨rfl,rfl⟩:=av
    cases q2:fe ρ with
    | none=>rw[q2] at hf;cases hf
    | some xd=>
     rw[q2,Ya] at hf
     obtain⟨w,h1,h2⟩:=I.at q
     cases h2 with
     | fn rv=>
      refine⟨h1,P,F,ρ,xd,q2,I,fun va F1 H1 ev r=>⟨va,rfl,gd F1 H1,F1,[some (.v xd),some (.v dc)],d,hf,⟨d_ ev.hp.sub,rfl,fun _=>none,fun i z hz=>?_⟩,fun v' F2 H2 e2 r2=>k v' F2 H2 (ev.trans (e2.change ev.hp)) r2⟩⟩
      match i,hz with
      | 0,hz=>cases hz;exact⟨va,rfl,r⟩
      | 1,hz=>cases hz;exact⟨_,rfl,Rep.same ev.ext rv⟩
      | i+2,hz=>cases hz
   ·cases hf
  ·cases hf
def uj (i:Nat)(fe:Dd):DF→Option RES:=fun ρ=>match ρ[i]?,fe ρ with
 | some (some (.v (.int a))),some (.int b)=>some (.nx (ρ.set i (some (.v (.int (a+b))))))
 | _,_=>none
theorem u8 {ix:Nat}{x:Str}{pos':Pos}(hN:X.N.Nodup)(hi:X.N[ix]?=some x)(hx:Loc X.env.scope x)(he:PDE X e fe)(hf:X.fn x=true∨X.env.scope.names.lookup x=some .local:=by first | exact .inl rfl | exact .inr rfl | assumption):PD1 X (.AugAssign (.Name x pos') .Add e pos) (uj ix fe):=
 PS.imp (u9 hN hi hx he wg hf) fun E σ H=>un7 fun P F ρ r hr I k=>by
  unfold uj at hr
  split at hr
  ·rename_i a b q q2
   cases hr
   obtain⟨v,h1,h2⟩:=I.at q
   cases h2
   refine⟨_,h1,P,F,ρ,_,q2,I,fun y F1 H1 ev r=>?_⟩
   cases r
   exact⟨a,b,rfl,rfl,k _ F1 H1 ev.ext ((I.evo ev).setV ix .int)⟩
  ·cases hr
end
section
variable {X:Cx} {o e:Expr} {pos apos cpos:Pos}
end
def spLawT (W:LamW)(K:Kq):Sp:=fun vs H Q _=>∃ (a:Addr) (ns:List Int),vs=[.ref a]∧SqL K H a (ns.map V.int)∧ns.length≤63∧nA W.t W.pos H∧∀ H',(∃ φ,H' W.t=some (.ext φ)∧∀ h,φ h→∃ ps,h.get? W.t=some (tabObj ps))→Q (.bl true) H'
theorem nj {W:LamW}{K:Kq}{m:Dm}(hm:∀ ns:List Int,ns.length≤63→m [.v (.lst (ns.map D.int))]=some (.v (.bl true))):∀ vs H Q E,spLawT W K vs H Q E→spT W K m vs H Q E:=by
 rintro vs H Q E ⟨a,ns,rfl,hS,hl,⟨hO,hN⟩,hQ⟩
 have off:∀ {b:Addr},b≠W.t→(fun b=>if b=W.t then none else H b) b=H b:=fun h=>Ym h
 have hS':SqL K (fun b=>if b=W.t then none else H b) a (ns.map V.int):=by
  rcases hS with hr | hk
  ·refine .inl ?_
   have ne:a≠W.t:=fun z=>by
    subst z
    rcases hr with z | ⟨o,z⟩
    ·rw[hO] at z;cases z
    ·rw[hO] at z;cases z
   rcases hr with z | ⟨o,z⟩
   ·exact .inl ((off ne).trans z)
   ·exact .inr ⟨o,(off ne).trans z⟩
  ·exact .inr hk
 refine⟨fun b=>if b=W.t then H b else none,fun b=>if b=W.t then none else H b,_,_,hm ns hl,⟨fun b o e=>?_,fun b o e=>?_,fun b o e=>?_⟩,.inl ?_,.cons rfl (show Rep K _ _ _ from .lst hS' (Reps.ints ns)) .nil,fun v P' F' H' _ _ T' hp r=>?_⟩
 ·have e':(if b=W.t then none else H b)=some o:=e
  split at e'
  ·cases e'
  ·exact e'
 ·have e':(if b=W.t then H b else none)=some o:=e
  split at e'
  ·exact e'
  ·cases e'
 ·have e':(if b=W.t then H b else none)=some o:=e
  split at e'
  ·rename_i h;exact Yk h
  ·cases e'
 ·exact (Yk rfl).trans hO
 ·cases r
  refine hQ H' ?_
  rcases T' with h | ⟨c',h,_⟩
  ·exact⟨_,hp.pro _ _ h,fun _ ⟨ps,e,_⟩=>⟨ps,e⟩⟩
  ·exact⟨_,hp.pro _ _ h,fun _ ⟨ps,e,_⟩=>⟨ps,e⟩⟩
section
variable {X:Cx} {W:LamW} {pos:Pos} {e a b:Expr}
theorem sy {aN:List Expr}{f g:Dd}(ha:PET X W a f)(hb:PDE X (.BoolOp .And (b::aN) pos) g):PET X W (.BoolOp .And (a::b::aN) pos) (dh f g):=(pV ha hb).imp fun σ H Q ⟨P,F,ρ,r,hf,I,T,k⟩=>by
 unfold dh at hf
 split at hf
 ·rename_i q
  refine⟨P,F,ρ,_,q,I,T,fun v P1 F1 H1 e1 g1 T1 I1 r1=>?_⟩
  cases r1
  exact⟨true,rfl,by rw[Yk rfl];exact⟨P1,F1,ρ,r,hf,I1,fun v F2 H2 e2 r2=>k v P1 F2 H2 (e1.trans e2.ext) g1 T1 (I1.evo e2) r2⟩⟩
 ·rename_i q
  refine⟨P,F,ρ,_,q,I,T,fun v P1 F1 H1 e1 g1 T1 I1 r1=>?_⟩
  cases r1
  cases hf
  exact⟨false,rfl,by rw[Ym Yg];exact k _ P1 F1 H1 e1 g1 T1 I1 .bl⟩
 ·cases hf
theorem sP {f:Dd}(h:PET X W e f):PT1 X W (.Return (some e) pos) (eM f):=PS.imp (dC h) fun E σ H ⟨P,F,ρ,r,hg,I,T,k⟩=>by
 unfold eM at hg
 cases q:f ρ with
 | none=>rw[q] at hg;cases hg
 | some d=>
  rw[q] at hg
  cases hg
  exact⟨P,F,ρ,d,q,I,T,fun v P' F' H' e1 g1 T1 I1 rv=>k v σ P' F' H' e1 g1 T1 I1 rv⟩
end
theorem DInv.lend {K:Kq}{P F H:Hp}{ρ:DF}{σ:St}(I:DInv K P F H ρ σ){i:Nat}{o:OD}{t:Option Addr}(fl:o.flat=true)(h:ρ[i]?=some (some (.own o t))):∃ P',DInv K P' F H (ρ.set i (some (.bor o))) σ:=by
 obtain⟨O,hR⟩:=I.rep
 obtain⟨_,h1,a,rfl,h2,_⟩:=hR i _ h
 obtain⟨⟨fa,pa,oa⟩,u,a3,a4⟩:=(ORep.flat fl).mp h2
 have ne:∀ {b:Addr} {m:Nat},O b=some m→i≠m→b≠a:=fun h hn z=>by subst z;rw[oa] at h;exact hn (YH h)
 refine⟨upd P a u,⟨I.sub,fun b w e=>?_,fun b w e=>?_⟩,by rw[YI];exact I.len,O,fun m x hm=>?_⟩
 ·by_cases q:b=a
  ·subst q;rw[ak] at e;cases e;exact a3
  ·rw[ag q] at e;exact I.pro b w e
 ·by_cases q:b=a
  ·subst q;exact fa
  ·rw[ag q] at e;exact I.dis b w e
 ·rcases dQ hm with⟨rfl,e,hl⟩ | ⟨him,hm'⟩
  ·cases e
   exact⟨_,h1,a,rfl,(ORep.flat fl).mpr ⟨trivial,u,ak,a4⟩⟩
  ·obtain⟨v,e1,e2⟩:=hR m x hm'
   refine⟨v,e1,?_⟩
   cases x with
   | v d=>exact e2
   | own o' t'=>
    obtain⟨b,rfl,e3,ht⟩:=e2
    exact⟨b,rfl,e3.mono (Same.refl _) fun b' w q hb=>⟨hb,q.1,by rw[ag (ne q.2.2 him)];exact q.2.1,q.2.2⟩,ht⟩
   | bor o'=>
    obtain⟨b,rfl,e3⟩:=e2
    exact⟨b,rfl,e3.mono (Same.refl _) fun b' w q hb=>⟨by rw[ag (fun z=>by subst z;rw[pa] at hb;cases hb)];exact hb,q⟩⟩
def pB (i:Nat)(f:Do):DF→Option OD:=fun ρ=>match ρ[i]? with
 | some (some (.own o _))=>if o.flat=true then f (ρ.set i (some (.bor o))) else none
 | _=>none
theorem qx {X:Cx}{e:Expr}(i:Nat){f:Do}(h:PDO X e f):PDO X e (pB i f):=PE.imp h fun σ H Q=>un7 fun P F ρ o hf I k=>by
 unfold pB at hf
 split at hf
 ·rename_i o' t q
  split at hf
  ·rename_i fl
   obtain⟨P',I'⟩:=I.lend fl q
   exact⟨P',F,_,o,hf,I',fun a F' H' ev ho=>k a F' H' (ev.change I.toDHp) ho⟩
  ·cases hf
 ·cases hf
section
variable {K:Kq} {x qual:Str} {st:Stmt} {f:Addr} {oc:Value} {od an:Option Addr} {osl:Array (Option Value)} {kV doc pm cdv ct:Value}
theorem sE {T:Addr}{c1:Value}{d1:Option Addr}{s1:Array (Option Value)}{nt:Nat}(l:K.lookup f=some ⟨oc,od,.func (fnOf x qual (defArgs st) (defBody st) (defScope st) (.ref T) kV doc pm an cdv ct),osl⟩)
  (c:codeIn K cdv qual=true) (k:keepIn K (.ref f)=true) (lt:K.lookup T=some ⟨c1,d1,.seq #[Value.none] nt,s1⟩):FunD K x qual st f (fnOf x qual (defArgs st) (defBody st) (defScope st) (.ref T) kV doc pm an cdv ct):=⟨⟨oc,od,T,kV,doc,pm,an,cdv,ct,osl,_,nt,rfl,l,c,lt,rfl⟩,k⟩
end
theorem FunD.binds0 {K:Kq}{x qual:Str}{st:Stmt}{f:Addr}{fd:FuncData}{ps:List Str}(F:FunD K x qual st f fd)
  (h:∀ (T:Addr) (kV doc pm:Value) (an:Option Addr) (cdv ct:Value) (us:List Value),us.length=ps.length→∃ k:Option (Array Value)→Sem (List (Str×Value)),bindArgs (fnOf x qual (defArgs st) (defBody st) (defScope st) (.ref T) kV doc pm an cdv ct) ⟨us,[]⟩=seqItems? (.ref T)>>=k∧k (some #[Value.none])=pure (ps.zip us)):Binds K fd ps []:=by
 obtain⟨oc,od,T,kV,doc,pm,an,cdv,ct,osl,ot,nt,rfl,lk,hcd,lt,dt⟩:=F.ex
 intro s us KX hl
 rw[YC] at hl ⊢
 obtain⟨k,h1,h2⟩:=h T kV doc pm an cdv ct us hl
 exact BindsTo.of_defaults rfl (KX _ _ lt) dt h1 h2
structure FunE (K:PySem.W.Frag) (x qual:Str) (st:Stmt) (f:Addr) (fd:FuncData) (c0:Addr):Prop where
 ex:∃ (oc:Value) (od:Option Addr) (T:Addr) (kV doc pm:Value) (an:Option Addr) (ct:Value) (osl:Array (Option Value)) (ot:Obj) (nt:Nat),
  fd=fnOf x qual (defArgs st) (defBody st) (defScope st) (.ref T) kV doc pm an (.ref c0) ct∧K.lookup f=some ⟨oc,od,.func fd,osl⟩∧codeIn K (.ref c0) qual=true∧K.lookup T=some ot∧ot.data=.seq #[Value.none] nt
 kp:keepIn K (.ref f)=true
theorem FunE.d {K:Kq}{x qual:Str}{st:Stmt}{f c0:Addr}{fd:FuncData}(F:FunE K x qual st f fd c0):FunD K x qual st f fd:=by
 obtain⟨oc,od,T,kV,doc,pm,an,ct,osl,ot,nt,h⟩:=F.ex
 exact⟨⟨oc,od,T,kV,doc,pm,an,.ref c0,ct,osl,ot,nt,h⟩,F.kp⟩
theorem uh {K:Kq}{x qual:Str}{st:Stmt}{f:Addr}{oc:Value}{od an:Option Addr}{osl:Array (Option Value)}{kV doc pm ct:Value}{T c0:Addr}{c1:Value}{d1:Option Addr}{s1:Array (Option Value)}{nt:Nat}(l:K.lookup f=some ⟨oc,od,.func (fnOf x qual (defArgs st) (defBody st) (defScope st) (.ref T) kV doc pm an (.ref c0) ct),osl⟩)
  (c:codeIn K (.ref c0) qual=true) (k:keepIn K (.ref f)=true) (lt:K.lookup T=some ⟨c1,d1,.seq #[Value.none] nt,s1⟩):FunE K x qual st f (fnOf x qual (defArgs st) (defBody st) (defScope st) (.ref T) kV doc pm an (.ref c0) ct) c0:=⟨⟨oc,od,T,kV,doc,pm,an,ct,osl,_,nt,rfl,l,c,lt,rfl⟩,k⟩
theorem FunE.okT {W:LamW}{P:Program}{w:World}{K:Kq}{mg:Ks}{base:Heap}{x qual:Str}{st:Stmt}{f c0:Addr}{fd:FuncData}{N ps:List Str}{k:Nat}{g:Dw}(F:FunE K x qual st f fd c0)(S:FnScope N ps (defScope st))
  (hbody:∀ (A:Around) (outer:List Env) (s:Shared) (H:Hp) (E:XK),Room k (A.deeper (envOfC qual (defScope st) s.heap.objs.size f (.ref c0)))→
   PTS (b9 CX0 P w K mg base N qual (defScope st) f (.ref c0) A outer s H E).nox W (defBody st) g):FnOk P w K mg base CX0 (k+1) f fd ps (spT W K (mOf N.length ps.length g)):=by
 obtain⟨oc,od,T,kV,doc,pm,an,ct,osl,ot,nt,rfl,lk,hcd,_⟩:=F.ex
 exact qI lk hcd S nP fun A outer s H vs Q E hr h=>⟨_,PSs.nox (hbody A outer s H E hr),kQ h⟩
theorem pJ {X:Cx}{pz:Kp}{σ:St}{H:Hp}{s:Shared}{i:Nat}{x:Str}{pos:Pos}{v:V}{T:Kv}(hN:X.N[i]?=some x)(hv:Vis X.env.scope x)(I:Inv X pz σ H s)(e:σ[i]?=some (some v))(h:∀ u,RelV v u→T u s)
  (hd:(x == ("__debug__":Str))=false:=by decide) (hcd:(x == ("__classdict__":Str))=false:=by decide):wpAny (model X.prog X.w) X.A (eval (.Name x pos) X.env) T X.xe s:=by
 obtain⟨m,hn,hl⟩:=I.loc
 obtain⟨u,r,l⟩:=hl i x v hN e hv
 have fin:T u s:=h u r
 rcases l with⟨hk,hm⟩ | ⟨hk,c,hc,hcell⟩
 ·exact Vb (XJ I.ok.kind hk hn hm fin) hd
 ·rcases hk with hk | hk
  ·exact Vb (wpAny_loadName_cell I.ok.kind hk hc hcell fin) hd
  ·exact Vb (wpAny_loadName_free I.ok.kind hk hc hcell fin hcd) hd
def tW (W:LamW)(K:Kq)(n j j2:Nat)(gR:Addr→V→D→DF→Option RES)(te:TE):TE:=fun σ H Q=>te σ H fun v0 H1=>∃ M,uW W M H1∧∀ f c' H2,Grow W.t H1 H2→rH W c' H2→M c'→H2 f=none→
 ∃ vc dc v2 x0 x2 x P F,σ[j]?=some (some vc)∧σ[j2]?=some (some v2)∧aX (gR f vc dc (aQ n 3 [x0,.v (.fn f vc dc),x2]))=some x∧DHp P F H2∧DVs K P F H2 [x0,.v (.fn f vc dc),x2] [v0,.ref f,v2]∧∀ v F' H',Same F F'→DHp P F' H'→DVRep K P F' H' iE x v→Q v H'
section
variable {X:Cx} {W:LamW} {k n j j2:Nat} {f0 c0 c:Addr} {fd:FuncData} {ps:List Str} {gR:Addr→V→D→DF→Option RES} {x x2:Str} {p p2 pos pos2:Pos} {e:Expr} {te:TE}
theorem oo (R:qZ X.prog X.w X.K X.mg X.base k f0 fd ps (spR W X.K n gR))(h3:ps.length=3)(hr:Room k X.A)(hg:Gl X x)(hm:X.mg x=some (.ref f0))(hk:keepIn X.K (.ref f0)=true)(hb:Binds X.K fd ps [])(ha:PE X e te)(hN2:X.N[j2]?=some x2)(hv2:Vis X.env.scope x2)
  (hcl:closureFor W.L.scope X.env=pure [(W.L.x,c)]) (hcc:X.env.cells.lookup W.L.x=some c) (hck:X.env.kindOf W.L.x=some .cell) (hfn:X.fn W.L.x=true) (hj:X.N[j]?=some W.L.x) (hco:X.env.code=.ref c0) (hch:codeHdIn X.K c0 W.t=true) (hq:X.env.qual++Str.ofString "<lambda>"=W.L.qual) (hdf:defaultsOf W.L.params X.env=([],[])) (hbl:X.base.BuiltinsAt X.mg W.t)
  (hd:(x == ("__debug__":Str))=false:=by decide) (hd2:(x2 == ("__debug__":Str))=false:=by decide) (hcd2:(x2 == ("__classdict__":Str))=false:=by decide) (he:starEach [e,.Lambda W.L.params W.L.body W.L.scope W.pos,.Name x2 p2] X.env=(false,eval e X.env)::starEach [.Lambda W.L.params W.L.body W.L.scope W.pos,.Name x2 p2] X.env:=by rfl)
  (he1:starEach [.Lambda W.L.params W.L.body W.L.scope W.pos,.Name x2 p2] X.env=(false,eval (.Lambda W.L.params W.L.body W.L.scope W.pos) X.env)::starEach [.Name x2 p2] X.env:=by rfl) (he2:starEach [.Name x2 p2] X.env=(false,eval (.Name x2 p2) X.env)::starEach [] X.env:=by rfl)
  (hpl:(backTo pos (starEach [.Lambda W.L.params W.L.body W.L.scope W.pos,.Name x2 p2] X.env)).any (·.1)=false:=by rfl) :
  PE X (.Call (.Name x p) [e,.Lambda W.L.params W.L.body W.L.scope W.pos,.Name x2 p2] [] pos) (tW W X.K n j j2 gR te):=by
 intro pz s σ H Q I h
 refine ZI (dP I hg hm ?_ hd)
 refine callWith_K (h₀:=X.base) I.ok.mod.kin hk ?_ he hpl
 rw[he]
 show wpAny _ _ (spliced ((false,eval e X.env)::backTo pos (starEach [.Lambda W.L.params W.L.body W.L.scope W.pos,.Name x2 p2] X.env))) _ _ s
 refine Xt (aR (ha pz s σ H _ I h) fun u0 s1 v0 H1 I1 r1 q1=>?_)
 obtain⟨M,T1,q1⟩:=q1
 rw[he1]
 show wpAny _ _ (spliced ((false,eval (.Lambda W.L.params W.L.body W.L.scope W.pos) X.env)::backTo pos (starEach [.Name x2 p2] X.env))) _ _ s1
 refine Xt (qp I1 T1 hcl hco hch hq hdf hbl fun f c' H2 s2 I2 hf2 la wa hM gr kp hfs=>?_)
 obtain⟨vc,dc,v2,x0,x2',x',P,F,hσ,hσ2,hret,hp,hv,hQ⟩:=q1 f c' H2 gr wa hM hf2
 rw[he2]
 show wpAny _ _ (spliced ((false,eval (.Name x2 p2) X.env)::backTo pos (starEach [] X.env))) _ _ s2
 refine Xt (pJ hN2 hv2 I2 hσ2 (fun u2 r2=>?_) hd2 hcd2)
 refine Calls.spliced_nil ⟨I2.kIn,?_⟩
 obtain⟨m,hn,hl⟩:=I2.loc
 obtain⟨uc,rc,look⟩:=hl j W.L.x vc hj hσ (.inr (.inl hck))
 have hcell:s2.heap.IsCell c (some uc):=by
  rcases look with⟨z,_⟩ | ⟨_,c1,e1,e2⟩
  ·rw[hck] at z;cases z
  ·rw[hcc] at e1;cases e1;exact e2
 have inS:∀ b∈frs X.stack,b<s1.heap.objs.size∧(b=X.env.locals∨b<X.s₀.heap.objs.size):=fun b hb=>by
  rcases YF.mp (I1.stkSub b hb) with z | z
  ·subst z;exact⟨I1.lt,.inl rfl⟩
  ·obtain⟨_,o,ho,_⟩:=I1.ok.funs.mem z
   exact⟨YA (Yn ho) I1.sz,.inr (Yn ho)⟩
 have ln:LamNow W f c' c uc X.stack s2 H2:=by
  refine⟨la,hf2,fun z=>absurd (YA (inS f z).1 hfs) (Zl _),hcell,I2.freeC _ _ hcc,fun z=>?_,?_⟩
  ·rcases (inS c z).2 with y | y
   ·exact I2.cne _ _ hcc y
   ·exact absurd (YA y (I2.ok.cab _ _ hfn hcc)) (Zl _)
  ·obtain⟨_,o,h1,h2⟩:=wa
   exact⟨o,_,h1,h2⟩
 have rv:Vals [v0,.ref f,v2] [u0,.ref f,u2]:=.cons r1 (.cons rfl (.cons r2 .nil))
 have hbb:=hb s2 [u0,.ref f,u2] I2.kIn h3.symm
 rw[YC] at hbb
 refine XO (Xm (R X.A X.stack s2 H2 ⟨[u0,.ref f,u2],[]⟩ _ [v0,.ref f,v2] Q E0 hr I2.env0 hbb rv h3.symm ⟨f,c',c,uc,vc,dc,v0,v2,x0,x2',x',P,F,rfl,ln,rc,hret,hp,hv,hQ⟩) fun r s' hq'=>?_)
 cases r with
 | error e=>exact False.elim hq'
 | ok fl=>
  cases fl with
  | ret u=>exact I2.after hq'
  | next=>exact False.elim hq'
  | brk=>exact False.elim hq'
  | cont=>exact False.elim hq'
noncomputable def de (n:Nat)(gR:Addr→V→D→DF→Option RES)(dc d0 d2:D):Option (List D):=
 open Classical in if h:∃ ds:List D,∀ f vc,aX (gR f vc dc (aQ n 3 [.v d0,.v (.fn f vc dc),.v d2]))=some (.own (.lst ds) none) then some h.choose else none
theorem l4 {dc d0 d2:D}{ds:List D}(h:de n gR dc d0 d2=some ds):∀ f vc,aX (gR f vc dc (aQ n 3 [.v d0,.v (.fn f vc dc),.v d2]))=some (.own (.lst ds) none):=by
 unfold de at h
 split at h
 ·rename_i q
  rw[← YH h]
  exact q.choose_spec
 ·cases h
theorem nu {dc d0 d2:D}{ds:List D}(h:∀ f vc,aX (gR f vc dc (aQ n 3 [.v d0,.v (.fn f vc dc),.v d2]))=some (.own (.lst ds) none)):de n gR dc d0 d2=some ds:=by
 have q:∃ ds:List D,∀ f vc,aX (gR f vc dc (aQ n 3 [.v d0,.v (.fn f vc dc),.v d2]))=some (.own (.lst ds) none):=⟨ds,h⟩
 unfold de
 rw[dif_pos q]
 have z:=q.choose_spec 0 .non
 rw[h 0 .non] at z
 exact Zz some (OD.lst.inj (DV.own.inj (YH z)).1).symm
noncomputable def rX (j j2 n:Nat)(gR:Addr→V→D→DF→Option RES)(fe:Dd):DF→Option RES:=fun ρ=>(fe ρ).bind fun d0=>(getV j ρ).bind fun dc=>(getV j2 ρ).bind fun d2=>(de n gR dc d0 d2).bind fun ds=>some (.rt (.own (.lst ds) none) ρ)
theorem bs {α β:Type}{o:Option α}{f:α→Option β}{y:β}(h:o.bind f=some y):∃ a,o=some a∧f a=some y:=by
 cases o with
 | none=>cases h
 | some a=>exact⟨a,rfl,h⟩
theorem sC {fe:Dd}(R:qZ X.prog X.w X.K X.mg X.base k f0 fd ps (spR W X.K n gR))(h3:ps.length=3)(hr:Room k X.A)(hg:Gl X x)(hm:X.mg x=some (.ref f0))(hk:keepIn X.K (.ref f0)=true)(hb:Binds X.K fd ps [])(ha:PDE X e fe)(hN2:X.N[j2]?=some x2)(hv2:Vis X.env.scope x2)
  (hcl:closureFor W.L.scope X.env=pure [(W.L.x,c)]) (hcc:X.env.cells.lookup W.L.x=some c) (hck:X.env.kindOf W.L.x=some .cell) (hfn:X.fn W.L.x=true) (hj:X.N[j]?=some W.L.x) (hco:X.env.code=.ref c0) (hch:codeHdIn X.K c0 W.t=true) (hq:X.env.qual++Str.ofString "<lambda>"=W.L.qual) (hdf:defaultsOf W.L.params X.env=([],[])) (hbl:X.base.BuiltinsAt X.mg W.t)
  (hd:(x == ("__debug__":Str))=false:=by decide) (hd2:(x2 == ("__debug__":Str))=false:=by decide) (hcd2:(x2 == ("__classdict__":Str))=false:=by decide) (he:starEach [e,.Lambda W.L.params W.L.body W.L.scope W.pos,.Name x2 p2] X.env=(false,eval e X.env)::starEach [.Lambda W.L.params W.L.body W.L.scope W.pos,.Name x2 p2] X.env:=by rfl)
  (he1:starEach [.Lambda W.L.params W.L.body W.L.scope W.pos,.Name x2 p2] X.env=(false,eval (.Lambda W.L.params W.L.body W.L.scope W.pos) X.env)::starEach [.Name x2 p2] X.env:=by rfl) (he2:starEach [.Name x2 p2] X.env=(false,eval (.Name x2 p2) X.env)::starEach [] X.env:=by rfl)
  (hpl:(backTo pos (starEach [.Lambda W.L.params W.L.body W.L.scope W.pos,.Name x2 p2] X.env)).any (·.1)=false:=by rfl) :
  PT1 X W (.Return (some (.Call (.Name x p) [e,.Lambda W.L.params W.L.body W.L.scope W.pos,.Name x2 p2] [] pos)) pos2) (rX j j2 n gR fe):=
 PS.imp (dC (oo R h3 hr hg hm hk hb ha hN2 hv2 hcl hcc hck hfn hj hco hch hq hdf hbl hd hd2 hcd2 he he1 he2 hpl)) fun E σ H ⟨P,F,ρ,r,hr,I,T,k⟩=>by
  unfold rX at hr
  obtain⟨d0,q0,hr⟩:=bs hr
  obtain⟨dc,q1,hr⟩:=bs hr
  obtain⟨d2,q3,hr⟩:=bs hr
  obtain⟨ds,q2,hr⟩:=bs hr
  cases hr
  refine⟨P,F,ρ,d0,q0,I,fun v0 F1 H1 ev r0=>⟨fun c'=>F1 c'=none,T.free ev.hp,fun f c' H2 gr wa hM hf2=>?_⟩⟩
  obtain⟨vc,g1,g2⟩:=I.at (jM q1)
  obtain⟨v2,g3,g4⟩:=I.at (jM q3)
  have ft:F1 W.t=none:=T.out ev.hp
  have sub2:Same F1 H2:=fun a o e=>gr.old a o (fun z=>by subst z;rw[ft] at e;cases e) (ev.hp.sub a o e)
  refine⟨vc,dc,v2,.v d0,.v d2,.own (.lst ds) none,gd F1 H2,F1,g1,g3,l4 q2 f vc,d_ sub2,.cons rfl r0 (.cons rfl (.fn (Rep.same ev.ext g2)) (.cons rfl (Rep.same ev.ext g4) .nil)),fun v F3 H3 e3 h3 r3=>?_⟩
  obtain⟨a,rfl,ho,_⟩:=r3
  have g:=qS I.toDHp T ev gr wa hM e3 h3
  refine k _ _ _ F3 H3 g.ext (g.grow I.toDHp) g.tabP (g.inv I T) ⟨a,rfl,ho.mono (Same.refl _) fun b u q hb=>⟨hb,q.1,?_,q.2.2⟩,fun _ z=>nomatch z⟩
  cases z:grP W.t P (gd F1 H2) b with
  | none=>rfl
  | some y=>have z2:=f_ z;rw[q.2.1] at z2;cases z2
end
section
variable {X:Cx} {pz:Kp} {σ:St} {H:Hp} {s:Shared} {a b:Addr} {v:V} {r:Value} {A:Around} {E:Kv}
theorem oG {kvs:List (List Key×V)}{k:List Key}{Q:Unit→Shared→Prop}(hu:A.units<cLine)(I:Inv X pz σ H s)(e:H a=some (.dT kvs))(eb:H b=some (.tup (k.map kV)))(l:kvs.length<sizeLine)(rv:RelV v r)(h:∀ s',Inv X pz σ (upd H a (.dT (eI kvs k v))) s'→Q () s') :
  wpAny (model X.prog X.w) A (dictSet a (.ref b) r) Q E s:=by
 obtain⟨z,hd,xs,rel,dd⟩:=rf I.hok e
 have hz:xs.length≤sizeLine:=by rw[← XM rel];exact z
 have hl:(eI kvs k v).length≤sizeLine:=by have:=dA kvs k v;omega
 refine wpAny_dictSet_heap (hsz:=hz) (knd:=tupleKind (aE X.prog X.w)) hu (gM I.hok eb) dd fun h' dd' hs=>h _ ?_
 obtain⟨q,es,ep,hq,h2,h3,h4,_,h5⟩:=dd'
 refine jz I (by rw[e];exact True.intro) hs ⟨q,hq⟩ ⟨hl,hd,_,(rel.put k eb rv).keeps fun c ys ec=>?_,q,es,ep,hq,h2,h3,h4,h5⟩
 rw[ag (uE ec e (fun z=>nomatch z))]
 exact ec
end
section
variable {X:Cx} {ek ev i o e:Expr} {pos p pos' apos cpos:Pos} {fk fv fd:Dd} {tk tv:TE}
def u3 (tk tv:TE):TE:=fun σ H Q=>∀ p,H p=none→tk σ (upd H p (.dT [])) fun y H1=>tv σ H1 fun v H2=>∃ k b,H2 p=some (.dT [])∧y=.ref b∧H2 b=some (.tup (k.map kV))∧Q (.ref p) (upd H2 p (.dT [(k,v)]))
theorem qA (hu:X.A.units+64<cLine)(hk:PE X ek tk)(hv:PE X ev tv):PE X (.Dict [some ek] [ev] pos) (u3 tk tv):=by
 intro pz s σ H Q I h
 refine wpAny_Dict_any rfl rfl (by simp) (by simp) ?_
 have I0:Inv X pz σ (upd H s.heap.objs.size (.dT [])) { s with heap:=s.heap.push { cls:=.type "dict",data:=.dict #[] } }:=I.laid (a:=s.heap.objs.size) (o:=.dT []) (t':=s.toks) (fun _ _ q=>Yd _ q) (Yr _) (qG s.heap I.big)
 have h0:=h s.heap.objs.size (I.hok.fresh (Yr _))
 show wpAny _ _ (eval ek X.env>>=fun k=>holding [k] (eval ev X.env>>=fun x=>standAt pos>>=fun _=>pure x)>>=fun v=>holding [k,v] (evalPairs [])>>=fun aN=>pure ((k,v)::aN)) _ _ _
 refine Yj (aR (hk pz _ σ _ _ I0 h0) fun u1 s1 y H1 I1 r1 q1=>?_)
 refine Yj (Zp (Yj (aR (hv pz s1 σ H1 _ I1 q1) fun u2 s2 v H2 I2 r2 q2=>Yj (wpAny_standAt (Yu ?_)))))
 refine Yj (Zp (show wpAny _ _ (pure []) _ _ s2 from Yu (Yu ?_)))
 obtain⟨k,b,hp,rfl,hb,q⟩:=q2
 cases r1
 unfold storeAll
 rw[List.forIn_cons]
 refine Yj (Yj (oG (k:=k) (by omega) I2 hp hb (by decide) r2 fun s3 I3=>?_))
 refine Yu ?_
 show wpAny _ _ (forIn [] PUnit.unit _) _ _ s3
 rw[List.forIn_nil]
 exact Yu ⟨.ref s.heap.objs.size,_,I3,rfl,q⟩
theorem Evo.setNew {P F H F' H':Hp}(h:DHp P F H)(e:Evo P F H F' H'){p:Addr}{u:HO}(hp:H p=none)(hf:F' p=none):Evo P F H F' (upd H' p u):=by
 have ne:∀ {b:Addr} {o:HO} {G:Hp},G b=some o→G p=none→b≠p:=fun h1 h2 z=>by subst z;rw[h1] at h2;cases h2
 have pp:P p=none:=by cases z:P p with | none=>rfl | some o=>rw[h.pro p o z] at hp;cases hp
 exact⟨e.ext,⟨fun b o q=>by rw[ag (ne q hf)];exact e.hp.sub b o q,fun b o q=>by rw[ag (ne q pp)];exact e.hp.pro b o q,e.hp.dis⟩,fun b o q1 q2=>by rw[ag (ne q1 hp)];exact e.keep b o q1 q2⟩
def j5 (fk fv:Dd):DF→Option OD:=fun ρ=>(fk ρ).bind fun y=>(fE y).bind fun k=>(fv ρ).bind fun v=>some (.dT [(k,v)])
theorem pj (hu:X.A.units+64<cLine)(hk:PDE X ek fk)(hv:PDE X ev fv):PDO X (.Dict [some ek] [ev] pos) (j5 fk fv):=(qA hu hk hv).imp fun σ H Q=>un7 fun P F ρ ob hf I k=>by
 unfold j5 at hf
 obtain⟨y,q1,hf⟩:=bs hf
 obtain⟨ks,q2,hf⟩:=bs hf
 obtain⟨d,q3,hf⟩:=bs hf
 cases hf
 intro p hp
 have e0:Evo P F H F (upd H p (.dT [])):=Evo.side I.toDHp hp
 have fp:F p=none:=(I.toDHp.free hp).1
 refine⟨P,F,ρ,y,q1,I.evo e0,fun yv F1 H1 e1 ry=>⟨P,F1,ρ,d,q3,(I.evo e0).evo e1,fun v F2 H2 e2 rv=>?_⟩⟩
 have e12:=e1.trans e2
 obtain⟨k1,k2⟩:=e12.keep p _ ak fp
 obtain⟨b,rfl,hb⟩:=gx e12.hp (ry.same e2.ext) q2
 refine⟨ks,b,k1,rfl,hb,k p F2 _ ((e0.trans e12).setNew I.toDHp hp k2) ⟨⟨hp,k2⟩,_,ak,.cons rv .nil⟩⟩
theorem gP (hu:X.A.units+64<cLine)(hi:PDE X i fk)(ho:PDR X o fd)(h1:behindInMarks .NotIn o=false:=by first | exact kF _ (by decide) (by decide) | rfl):PDT X (.Compare i [.NotIn] [o] pos) (asB (d2 (cI true) fk fd)):=(pO (o9 (by omega) hi ho) h1).imp fun σ H Q=>un7 fun P F ρ b hf I k=>by
 have hf:=rW hf
 unfold d2 at hf
 obtain⟨dy,qb,hf⟩:=bs hf
 obtain⟨dx,qa,hf⟩:=bs hf
 cases dx with
 | dT kvs=>
  have hf':((fE dy).map fun k=>D.bl (xor true (fS kvs k).isSome))=some (.bl b):=hf
  cases qk:fE dy with
  | none=>rw[qk] at hf';cases hf'
  | some ks=>
   rw[qk] at hf'
   cases hf'
   refine⟨P,F,ρ,_,qb,I,fun y F1 H1 e1 ry=>⟨P,F1,ρ,_,qa,I.evo e1,fun x F2 H2 e2 rx=>?_⟩⟩
   obtain⟨p,vs,rfl,h1,h2⟩:=qw ((I.evo e1).evo e2) rx
   obtain⟨q,rfl,h3⟩:=gx e2.hp (ry.same e2.ext) qk
   refine⟨p,_,rfl,DGet.t h1 h3,_,rfl,?_⟩
   have:(!(c9 vs ks).isSome)=(true ^^ (fS kvs ks).isSome):=by
    rcases h2.val (k:=ks) with⟨z1,z2⟩ | ⟨v,d',z1,z2,z3⟩
    ·rw[z1,z2];rfl
    ·rw[z1,z2];rfl
   rw[this]
   exact k F2 H2 (e1.trans e2)
 | _=>cases hf
theorem pc:CallR X (.builtin "len") (fun xs H Q=>∃ p kvs,xs=[.ref p]∧H p=some (.dT kvs)∧Q (.int kvs.length) H):=by
 intro pz s σ H xs us Q I r h
 obtain⟨p,kvs,rfl,hH,q⟩:=h
 obtain⟨u,rfl,ru⟩:=cU r
 cases ru
 obtain⟨z,hd,xs,rel,dd⟩:=rf I.hok hH
 obtain⟨o,es,ep,ho,hc,hdat,he,_⟩:=id dd
 have hT:s.TypeIs (.ref p) "dict":=⟨o,ho,hc.1⟩
 have hfit:(kvs.length:Int)<2 ^ 63:=by rw[YS] at z;omega
 have hsz:es.size=kvs.length:=by rw[← Za,he,Yf];exact (XM rel).symm
 refine Calls.call_function_entry kind_len plain_len entry_len (args_len1 _) ?_
 unfold Builtin.«len»
 refine Yj (m:=oneArg "len" _) (Yu ?_)
 refine Yj (m:=callSpecial? (.ref p) (Str.ofString "__len__")) (wpAny_callSpecial?_slot (name:=Str.ofString "__len__") hT F.slot_dict_len (wpAny_call_entry F.slot_dict_len hT F.entry_dict_len ?_ (F.args_dict_len_1 _)))
 show wpAny _ _ (dictSize p>>=_) _ _ s
 unfold dictSize
 refine Yj (Yj (wpAny_dictEntries ho hdat (Yu ?_)))
 show wpAny _ _ (Builtin.Dict.pendingCount p>>=_) _ _ s
 refine Yj (wpAny_pendingCount_other hd ?_)
 refine wpAny_ret_mkInt ?_
 rw[Nat.add_zero,hsz]
 refine Yj (Zp (Yu ?_))
 refine Yj (wpAny_letGo ?_)
 show wpAny _ _ (if ((kvs.length:Nat):Int)<0 then _ else _) _ _ _
 rw[Ym (by omega)]
 show wpAny _ _ (if ((kvs.length:Nat):Int) ≥ 2 ^ 63 then _ else _) _ _ _
 rw[Ym (by omega)]
 exact Yj (wpAny_mkInt (Yu ⟨_,rfl,.int kvs.length,H,I.tok _,⟨_,rfl⟩,q⟩))
def fg:D→Option D
 | .dT kvs=>some (.int kvs.length)
 | _=>none
theorem j_ (hg:Gl X "len")(hm:X.mg "len"=none)(ha:PDR X e fd)(hs:starEach [e] X.env=[(false,eval e X.env)]:=by rfl)(hpl:(backTo pos (starEach [] X.env)).any (·.1)=false:=by rfl) :
  PDE X (.Call (.Name "len" p) [e] [] pos) (d1 fg fd):=
 (bE pc hg hm PySem.boot_len (ap ha aL hs) (by decide) (by decide) hs hpl).imp fun σ H Q=>un7 fun P F ρ d hf I k=>by
  unfold d1 at hf
  obtain⟨dx,q1,hf⟩:=bs hf
  cases dx with
  | dT kvs=>
   cases hf
   refine⟨P,F,ρ,_,q1,I,fun x F1 H1 e1 rx=>?_⟩
   obtain⟨a,vs,rfl,h1,h2⟩:=qw (I.evo e1) rx
   exact⟨a,vs,rfl,h1,k _ F1 H1 e1 (by rw[h2.length];exact .int)⟩
  | _=>cases hf
def gm (i j:Nat):DF→Option RES:=fun ρ=>match ρ[j]? with
 | some (some (.own (.lst ds) t))=>(ds[ds.length-1]?).bind fun d=>if i=j then none else some (.nx ((ρ.set j (some (.own (.lst ds.dropLast) t))).set i (some (.v d))))
 | _=>none
theorem o_ {ix:Nat}{x:Str}(j:Nat)(hN:X.N.Nodup)(hi:X.N[ix]?=some x)(hx:Loc X.env.scope x)(h:PE X o (cL j))(hbase:attributeBase o "pop" X.env (eval o X.env)=eval o X.env:=by rfl)(hline:(apos.endLine == cpos.line)=true:=by rfl)
  (hs:swapsWith (.Call (.Attribute o "pop" apos) [] [] cpos) (some (.Name x pos')) pos.line X.env=pure false:=by rfl) (hf:X.fn x=true∨X.env.scope.names.lookup x=some .local:=by first | exact .inl rfl | exact .inr rfl | assumption) :
  PD1 X (.Assign [.Name x pos'] (.Call (.Attribute o "pop" apos) [] [] cpos) pos) (gm ix j):=
 PS.imp (g_ hN hi hx (rQ Zr PySem.F.slot_list_pop PySem.F.type_list_pop wl h hbase hline) hs hf) fun E σ H=>un7 fun P F ρ r hr I k=>by
  unfold gm at hr
  split at hr
  ·rename_i ds t q
   obtain⟨d,q1,hr⟩:=bs hr
   split at hr
   ·cases hr
   ·rename_i hij
    cases hr
    obtain⟨a,vs,h1,h2,h3,h4,h5⟩:=eD I q
    obtain⟨y,y1,y2⟩:=h5.get q1
    refine⟨_,h1,.inl ⟨rfl,vs,SqL.of h4⟩,a,vs,y,rfl,rfl,h4,by rw[h5.length];exact y1,?_⟩
    refine k _ F _ (Same.refl _) (DInv.setV ?_ ix y2)
    refine I.mut (o':=.lst _) (u:=.lst _) q rfl rfl h1 ?_
    show Reps X.K F vs.dropLast ds.dropLast
    have z:=h5.take (n:=vs.length-1)
    rw[List.dropLast_eq_take,List.dropLast_eq_take,← h5.length]
    exact z
  ·cases hr
end
section
variable {prog:Program} {w:World} {A:Around} {I:Addr} {fp wr:List Addr} {G:Array GenState→Array GenState→Prop} {P:Nat→Value→Prop} {St:Nat→Shared→Prop} {R:Kr}
theorem l7 (W:WalksS prog w A.in1 I fp wr G 1 P St)(hu:A.units+1<cLine)(d:Addr)(hdf:d∉fp)(h0:Heap)(hnew:∀ b o,h0.get? b=some o→b∉d::wr){ks:List Key}{b:Addr}{u:Value}
  (hval:∀ v,P 0 v→∃ p,v=.ref p∧IsTup h0 p #[.ref b,u]) (hkey:∀ h:Heap,(∀ b o,h0.get? b=some o→h.get? b=some o)→(tupleKind (aE prog w)).is h ks b) (s:Shared) (j:Int) (tj:Tok) (hst:St 0 s) (h0s:∀ b o,h0.get? b=some o→s.heap.get? b=some o)
  (hd:Heap.DictOfH (tupleKind (aE prog w)) s.heap d []) (hR:∀ s',Moved (d::wr) G s s'→Heap.DictOfH (tupleKind (aE prog w)) s'.heap d [(ks,b,u)]→R (.ok (.ret .none)) s') :
  codeAny (model prog w) A (.builtin "dict.update.loop" ⟨[.ref d,.ref I,.int j tj,.none],[]⟩) R s:=by
 have hdw:d∉wr:=fun h=>hdf (W.sub _ h)
 have hsub:∀ b∈wr,b∈d::wr:=fun b hb=>Yb _ hb
 refine Zs rG ?_
 rw[ZO jR _]
 show wpAny _ A.in1 (pyNext (.ref I)>>=_) _ _ s
 refine Yj (W.item 0 s _ _ Nat.one_pos hst fun v s' hP hst' hm=>?_)
 obtain⟨p,rfl,tup⟩:=hval v hP
 have h0s':∀ b o,h0.get? b=some o→s'.heap.get? b=some o:=fun b o e=>hm.heap b o (fun hb=>hnew b o e (hsub b hb)) (h0s b o e)
 have tup':IsTup s'.heap p #[.ref b,u]:=by obtain⟨o,e1,e2⟩:=tup;exact⟨o,h0s' p o e1,e2⟩
 have hd':Heap.DictOfH (tupleKind (aE prog w)) s'.heap d []:=by
  obtain⟨o,es,ep,e,r1,r2,r3,r4,r5⟩:=hd
  exact⟨o,es,ep,hm.heap d o hdw e,r1,r2,r3,fun x hx=>(nomatch hx),r5⟩
 refine Yj (Zp (Yj (wpAny_tryCatch (mh tup' ?_))))
 show wpAny _ A.in1 (holding [.ref b,u] (dictSet d (.ref b) u)) _ _ s'
 refine Zp (wpAny_dictSet_heap (hsz:=Zm _) (knd:=tupleKind (aE prog w)) (by show A.units+1<cLine;exact hu) (hkey _ h0s') hd' fun h' hS2 off=>?_)
 refine Yu ⟨plainId_quiet jR _,?_⟩
 have hst2:St 1 { s' with heap:=h',toks:=s'.toks+(tupleKind (aE prog w)).draws ks }:=W.frame _ s' _ _ hst' (XH _ _) fun b hb o e=>by
  rw[off.2 b (fun h:b=d=>hdf (by rw[← h];exact hb))];exact e
 refine Zs rG ?_
 rw[ZO jR _]
 show wpAny _ A.in1 (pyNext (.ref I)>>=_) _ _ _
 refine Yj (W.done _ _ _ hst2 fun s2 hm2=>?_)
 show wpAny _ A.in1 (Builtin.Dict.addKeywords d []>>=fun _=>ret Value.none) _ _ s2
 refine Yj (show wpAny _ A.in1 (pure ()) _ _ s2 from Yu ?_)
 have mv:Moved (d::wr) G s { s' with heap:=h',toks:=s'.toks+(tupleKind (aE prog w)).draws ks }:=(hm.mono hsub).then_heap (XH _ _) fun b o hb e=>by
  rw[off.2 b (fun h:b=d=>hb (by rw[h];exact Yc))];exact e
 refine Yu (hR s2 (Moved.trans W.gtrans mv (hm2.mono hsub)) ?_)
 obtain⟨o,es,ep,e,r1,r2,r3,r4,r5⟩:=hS2
 refine⟨o,es,ep,hm2.heap d o hdw e,r1,r2,r3,fun x hx=>?_,r5⟩
 have hx':x=(ks,b,u):=by simpa[storedH,atKey] using hx
 subst hx'
 refine hkey s2.heap fun c o e=>?_
 refine hm2.heap c o (fun hb=>hnew c o e (hsub c hb)) ?_
 show h'.get? c=some o
 rw[off.2 c (fun h:c=d=>hnew c o e (by rw[h];exact Yc))]
 exact h0s' c o e
end
section
variable {X:Cx} {e:Expr} {pos p:Pos}
theorem mI (hu:X.A.units+64<cLine)(hcalm:X.calm=true):CallR X (.type "dict") (fun xs H Q=>∃ a t b ks x,xs=[.ref a]∧H a=some (.lst [.ref t])∧H t=some (.tup [.ref b,x])∧H b=some (.tup (ks.map kV))∧∀ d,H d=none→Q (.ref d) (upd H d (.dT [(ks,x)]))):=by
 intro pz s σ H xs us Q I r h
 obtain⟨a,t,b,ks,x,rfl,ha,ht,hb,q⟩:=h
 obtain⟨u,rfl,ru⟩:=cU r
 cases ru
 obtain⟨_,its,n,rv,ho⟩:=I.hok _ _ ha
 obtain⟨ut,rfl,rt⟩:=rv.one
 cases rt
 obtain⟨_,ts,rt,it,_⟩:=I.hok _ _ ht
 obtain⟨ub,ux,rfl,rb,rx⟩:=rt.two
 cases rb
 have hh:=I.ok.hd hcalm
 have key:∀ h:Heap,(∀ c o,s.heap.get? c=some o→h.get? c=some o)→(tupleKind (aE X.prog X.w)).is h ks b:=fun h hk=>by
  obtain⟨o,vs,n,h1,h2,h3,h4⟩:=gM I.hok hb
  exact⟨o,vs,n,hk b o h1,h2,h3,h4⟩
 refine iD (Z:=fun h'=>Heap.DictOfH (tupleKind (aE X.prog X.w)) h' s.heap.objs.size [(ks,b,ux)]) hh ho (fun R h1 tk1 k1 hR=>?_) fun h' tk hZ hk=>?_
 ·have hS:(s.heap.push fN).get? s.heap.objs.size=some fN:=Yp _ rfl
  have hd1:=k1 _ _ hS
  have hds:s.heap.objs.size<h1.objs.size:=Yn hd1
  have hla:a<s.heap.objs.size:=Yn ho
  have hne:a≠h1.objs.size:=Yy (XD hla hds)
  have hold:∀ b o,s.heap.get? b=some o→h1.get? b=some o:=fun b o e=>k1 b o (Yd _ e)
  have hnew:∀ b o,s.heap.get? b=some o→b∉s.heap.objs.size::[h1.objs.size]:=fun b o e=>by
   have:=Yn e
   simp only[YF,YB,List.not_mem_nil,or_false,not_or]
   exact⟨Yy this,Yy (XD this hds)⟩
  have hl2:(h1.push (wI a)).IsList a #[.ref t]:=Heap.IsList.push ⟨_,hold _ _ ho,rfl,n,rfl⟩ _
  have nh3:X.A.in1.in1.handled=none:=by simpa using hh
  have hd0:Heap.DictOfH (tupleKind (aE X.prog X.w)) (h1.push (wI a)) s.heap.objs.size []:=⟨_,#[],0,Yd _ hd1,⟨rfl,rfl,rfl⟩,rfl,rfl,fun x hx=>(nomatch hx),List.nodup_nil⟩
  refine l7 ((Walks.list nh3 _ a hne #[.ref t]).toS) (by show X.A.units+1+1<cLine;omega) s.heap.objs.size (by simp;exact⟨Yy hds,ZT hla⟩) s.heap hnew (ks:=ks) (b:=b) (u:=ux) (fun v e=>⟨t,by first | exact (YH e).symm | (cases e;rfl),it⟩) key _ 0 0
   ⟨⟨_,Yp _ rfl,rfl,rfl⟩,hl2⟩ (fun b o e=>Yd _ (hold b o e)) hd0 fun s' hm hS'=>?_
  obtain⟨h',g',d',tk',os'⟩:=s'
  have eg:g'=s.gens:=hm.gens
  have ed:d'=s.drawn:=hm.drawn
  have eo:os'=s.os:=hm.os
  subst eg ed eo
  exact hR h' tk' hS' fun b o e=>hm.heap b o (hnew b o e) (Yd _ (hold b o e))
 ·obtain⟨o,es,ep,e,r1,r2,r3,r4,r5⟩:=hZ
  have hbs:b≠s.heap.objs.size:=fun z=>by
   have e1:=I.hok.fresh (a:=s.heap.objs.size) (Yr _)
   rw[← z,hb] at e1
   cases e1
  refine⟨.ref s.heap.objs.size,_,I.laid (a:=s.heap.objs.size) (o:=.dT [(ks,x)]) (t':=tk) hk (Yr _) ⟨?_,XQ.mpr (Xj (Yy I.big)),[(ks,b,ux)],.cons ⟨rfl,by rw[ag hbs];exact hb,rx⟩ .nil,o,es,ep,e,r1,r2,r3,r5⟩,rfl,q _ (I.hok.fresh (Yr _))⟩
  show 1≤sizeLine
  decide
def jH (f:Dl):DF→Option OD:=fun ρ=>match f ρ with
 | some [.tup [y,x]]=>(fE y).map fun k=>.dT [(k,x)]
 | _=>none
theorem mS {f:Dl}(hu:X.A.units+64<cLine)(hcalm:X.calm=true)(hg:Gl X "dict")(hm:X.mg "dict"=none)(h:PDO X e (asL f))(hs:starEach [e] X.env=[(false,eval e X.env)]:=by rfl)(hpl:(backTo pos (starEach [] X.env)).any (·.1)=false:=by rfl) :
  PDO X (.Call (.Name "dict" p) [e] [] pos) (jH f):=
 (bL (mI hu hcalm) hg hm mD (ap h aL hs) (by decide) (by decide) hs hpl).imp fun σ H Q=>un7 fun P F ρ ob hf I k=>by
  unfold jH at hf
  split at hf
  ·rename_i y x q
   cases qk:fE y with
   | none=>rw[qk] at hf;cases hf
   | some ks=>
    rw[qk] at hf
    cases hf
    refine⟨P,F,ρ,.lst [.tup [y,x]],by unfold asL;rw[q];rfl,I,fun a F1 H1 ev ho=>?_⟩
    obtain⟨⟨a1,a2⟩,u,a3,a4⟩:=ho
    cases u with
    | lst vs=>
     have rr:Reps X.K F1 vs [.tup [y,x]]:=a4
     cases rr with
     | cons r1 r2=>
      cases r2
      cases r1 with
      | tup e1 e2=>
       cases e2 with
       | cons ry rn=>
        cases rn with
        | cons rx rn=>
         cases rn
         obtain⟨b,rfl,hb⟩:=gx ev.hp ry qk
         refine⟨a,_,b,ks,_,rfl,a3,ev.hp.sub _ _ e1,hb,fun d hd=>?_⟩
         exact k d F1 _ (ev.trans (Evo.side ev.hp hd)) ⟨⟨ev.back I.toDHp hd,(ev.hp.free hd).1⟩,_,ak,.cons rx .nil⟩
    | _=>exact a4.elim
  ·cases hf
end
def uu:List D→Option (List (List D))
 | []=>some []
 | .lst d::r=>(uu r).map fun l=>d::l
 | _=>none
theorem ly (dss:List (List D)):uu (dss.map .lst)=some dss:=by
 induction dss with
 | nil=>rfl
 | cons d r ih=>show (uu (r.map .lst)).map _=_;rw[ih];rfl
def qD (g:Dl):DF→Option OD:=fun ρ=>(g ρ).bind fun out=>(uu out).map .lst2
theorem All2.snoc {α β:Type}{R:α→β→Prop}{as:List α}{bs:List β}{a:α}{b:β}(h:All2 R as bs)(r:R a b):All2 R (as++[a]) (bs++[b]):=by
 induction h with
 | nil=>exact .cons r .nil
 | cons q _ ih=>exact .cons q ih
def News (K:Kq)(H1 F H:Hp)(bs:List Addr)(dss:List (List D)):Prop:=All2 (fun b ds=>H1 b=none∧F b=none∧∃ u,H b=some u∧ORep1 K F (.lst ds) u) bs dss
theorem News.evo {K:Kq}{H1 P F H F' H':Hp}{bs:List Addr}{dss:List (List D)}(h:News K H1 F H bs dss)(e:Evo P F H F' H'):News K H1 F' H' bs dss:=
 All2.imp (fun b ds ⟨q1,q2,u,q3,q4⟩=>by obtain⟨k1,k2⟩:=e.keep b u q3 q2;exact⟨q1,k2,u,k1,ORep1.same (o:=.lst ds) e.ext q4⟩) h
theorem News.upd {K:Kq}{H1 F H:Hp}{bs:List Addr}{dss:List (List D)}(h:News K H1 F H bs dss){a:Addr}{v:HO}(ha:∀ b∈bs,b≠a):News K H1 F (L2.upd H a v) bs dss:=by
 unfold News at h ⊢
 induction h with
 | nil=>exact .nil
 | cons q _ ih=>
  obtain⟨q1,q2,u,q3,q4⟩:=q
  exact .cons ⟨q1,q2,u,by rw[ag (ha _ Yc)];exact q3,q4⟩ (ih fun b hb=>ha b (Yb _ hb))
theorem News.at {K:Kq}{H1 F H:Hp}{bs:List Addr}{dss:List (List D)}(h:News K H1 F H bs dss){b:Addr}(hb:b∈bs):∃ u,H b=some u:=by
 obtain⟨_,_,_,_,u,q,_⟩:=All2.mem h hb
 exact⟨u,q⟩
section
variable {X:Cx} {elt tg iter:Expr} {ifs:List Expr} {scope:Scope} {pos:Pos} {N:List Str} {own:Nat} {ix is:List Nat} {f:Dl} {st:Dq} {c:Dk} {e:Dl}
theorem pI {K:Kq}(his:∀ j∈is,j<own):∀ σ H Q,tO K (qD (az own ix f st c fun ρ=>(e ρ).map .lst)) σ H Q→nM own ix (tI K f) (tG K is st) (tB' K c) (tO K (asL e)) σ H Q:=fun σ H Q=>un7 fun P F ρ ob hf I k=>by
 unfold qD at hf
 obtain⟨out,hf,ho⟩:=bs hf
 unfold az at hf
 obtain⟨ds,q,hf⟩:=bs hf
 split at hf
 rotate_left
 ·cases hf
 rename_i hlen
 refine⟨P,F,ρ,ds,q,I,fun J F1 H1 ev ok acc hacc=>?_⟩
 have I1:=I.evo ev
 have hp1:DHp (gd F1 H1) F1 H1:=d_ I1.sub
 have hg:gd F1 H1 acc=none:=by unfold gd;rw[I1.sub.free hacc];exact hacc
 have B1:DInv K (gd F1 H1) F1 H1 (cz own ix ρ) (bK own ix σ):=I1.cap own ix
 have hP:∀ {F' H':Hp},Same F1 F'→DHp (gd F1 H1) F' H'→DHp P F' H':=fun s h=>(I1.toDHp.gd s h).hp
 have back:∀ {F' H':Hp} {b:Addr},Same F1 F'→DHp (gd F1 H1) F' H'→H' b=none→H1 b=none:=fun {F' H' b} s h hb=>by
  cases z:H1 b with
  | none=>rfl
  | some u=>
   cases y:F1 b with
   | none=>have:=h.pro b u (cE.mpr ⟨y,z⟩);rw[hb] at this;cases this
   | some w=>have:=h.sub b w (s b w y);rw[hb] at this;cases this
 refine⟨fun i m ys H'=>m=ds.length-i∧i≤ds.length∧∃ F' bs,ys=bs.map .ref∧Same F1 F'∧DHp (gd F1 H1) F' H'∧F' acc=none∧H' acc=some (.lst ys)∧ys.length≤i∧(acc::bs).Nodup∧∃ pre,News K H1 F' H' bs pre∧(dn st c (fun ρ=>(e ρ).map .lst) (cz own ix ρ) (ds.drop i)).map (fun r=>pre.map .lst++r)=some out,
  ⟨_,rfl,Zm _,F1,[],rfl,Same.refl _,(Evo.side hp1 hacc).hp,I1.sub.free hacc,ak,Yr _,by simp,[],.nil,by rw[ZD,hf];rfl⟩,?_⟩
 rintro i m ys H' ⟨rfl,hi,F',bs,rfl,se,hp',fa,ha,hy,nd,pre,rp,hm⟩
 obtain⟨ok1,ok2⟩:=ok F' H' se (hP se hp') i
 by_cases hlt:i<ds.length
 ·have hd:ds[i]?=some ds[i]:=Ye hlt
  obtain⟨go,yl⟩:=ok1 _ hd
  have hdrop:ds.drop i=ds[i]::ds.drop (i+1):=Zc hlt
  rw[hdrop] at hm
  unfold dn at hm
  cases hst:st ds[i] (cz own ix ρ) with
  | none=>rw[hst] at hm;cases hm
  | some ρ1=>
   rw[hst,Ya] at hm
   refine .inr ⟨go,fun ys' H2=>∃ F2 bs',ys'=bs'.map .ref∧Same F1 F2∧DHp (gd F1 H1) F2 H2∧F2 acc=none∧H2 acc=some (.lst ys')∧ys'.length≤i+1∧(acc::bs').Nodup∧∃ pre',News K H1 F2 H2 bs' pre'∧(dn st c (fun ρ=>(e ρ).map .lst) (cz own ix ρ) (ds.drop (i+1))).map (fun r=>pre'.map .lst++r)=some out,
    fun ys' H2 h=>⟨ds.length-(i+1),by omega,rfl,hlt,h⟩,fun x H2 hyl=>?_⟩
   obtain⟨F2,ev2,rx⟩:=yl x H2 hyl
   have ev2':Evo (gd F1 H1) F' H' F2 H2:=ev2.change hp'
   obtain⟨a2,fa2⟩:=ev2'.keep acc _ ha fa
   have B2:DInv K (gd F1 H1) F2 H2 (cz own ix ρ) (bK own ix σ):=lv B1 (se.trans ev2.ext) ev2'.hp
   refine⟨gd F1 H1,F2,cz own ix ρ,ds[i],ρ1,hst,B2,rx,fun σ3 F3 H3 ev3 I3 hl3 hσ=>?_⟩
   refine⟨⟨?_,fun j v hj=>?_⟩,?_⟩
   ·rw[hl3,cZ]
   ·rw[hσ j]
    ·exact hj
    ·intro hj'
     obtain⟨ho,_⟩:=fD hj
     have:=his j hj'
     omega
   obtain⟨a3,fa3⟩:=ev3.keep acc _ a2 fa2
   cases hc:c ρ1 with
   | none=>rw[hc] at hm;cases hm
   | some b=>
    rw[hc,Ya] at hm
    refine⟨gd F1 H1,F3,ρ1,b,hc,I3,fun F4 H4 ev4=>?_⟩
    obtain⟨a4,fa4⟩:=ev4.keep acc _ a3 fa3
    have s14:Same F' F4:=ev2.ext.trans (ev3.ext.trans ev4.ext)
    have rp4:=((rp.evo ev2').evo ev3).evo ev4
    cases b with
    | false=>
     rw[Ym Yg] at hm ⊢
     exact⟨F4,bs,rfl,se.trans s14,ev4.hp,fa4,a4,by omega,nd,pre,rp4,hm⟩
    | true=>
     rw[Yk rfl] at hm ⊢
     cases he:e ρ1 with
     | none=>rw[he] at hm;cases hm
     | some y=>
      rw[he,YY,Ya] at hm
      refine⟨gd F1 H1,F4,ρ1,.lst y,by unfold asL;rw[he];rfl,I3.evo ev4,fun v F5 H5 ev5 rv=>?_⟩
      obtain⟨a5,fa5⟩:=ev5.keep acc _ a4 fa4
      have s15:Same F' F5:=s14.trans ev5.ext
      obtain⟨⟨v1,v2⟩,u,v3,v4⟩:=rv
      have va:v≠acc:=fun z=>by subst z;rw[a4] at v1;cases v1
      have vb:v∉bs:=fun z=>by obtain⟨w,hw⟩:=rp4.at z;rw[v1] at hw;cases hw
      have ba:∀ b∈bs,b≠acc:=fun b hb z=>(Zo.mp nd).1 (by rw[← z];exact hb)
      have h1v:H1 v=none:=back (se.trans s14) ev4.hp v1
      refine⟨a5,by rw[YS];omega,F5,bs++[v],by simp,se.trans s15,⟨fun b u h=>by rw[ag (ax h fa5)];exact ev5.hp.sub b u h,fun b u h=>by rw[ag (ax h hg)];exact ev5.hp.pro b u h,ev5.hp.dis⟩,fa5,ak,by rw[Yh,Ze];omega,?_,pre++[y],?_,?_⟩
      ·obtain⟨n1,n2⟩:=Zo.mp nd
       refine Zo.mpr ⟨fun z=>?_,?_⟩
       ·rcases Yt.mp z with z | z
        ·exact n1 z
        ·exact va (YB.mp z).symm
       ·rw[List.nodup_append]
        exact⟨n2,by simp,fun x hx z hz e=>vb (by rw[← YB.mp hz,← e];exact hx)⟩
      ·refine All2.snoc ((rp4.evo ev5).upd ba) ⟨h1v,v2,u,by rw[ag va];exact v3,v4⟩
      ·cases hmm:dn st c (fun ρ=>(e ρ).map .lst) (cz own ix ρ) (ds.drop (i+1)) with
       | none=>rw[hmm] at hm;cases hm
       | some r=>
        rw[hmm] at hm
        simp only[YY] at hm ⊢
        rw[ZG,Ys]
        exact hm
 ·have hz:ds.drop i=[]:=YV (by omega)
  rw[hz] at hm
  unfold dn at hm
  rw[YY,YC] at hm
  cases hm
  rw[ly] at ho
  cases ho
  have evf:=ev.trans (I1.toDHp.gd se hp')
  refine .inl ⟨ok2 (by omega),k acc F' H' evf ⟨⟨ev.back I.toDHp hacc,fa⟩,bs,ha,nd,All2.imp (fun b ds ⟨z1,z2,u,z3,z4⟩=>⟨⟨ev.back I.toDHp z1,z2⟩,u,z3,z4⟩) rp⟩⟩
theorem n_ (hcalm:X.calm=true)(b:BlkScope X scope)(cp:Caps X scope N own ix)(his:∀ j∈is,j<own)(hi:PDI X tg iter f)
  (hg:∀ s H fp pz,PDG (blk X scope N s H fp pz) tg is st) (hc:∀ s H fp pz,jF (blk X scope N s H fp pz) ifs (tB' X.K c)) (he:∀ s H fp pz,PDO (blk X scope N s H fp pz) elt (asL e))
  (hnames:∀ y∈scope.names,y.2=.local→scope.names.lookup y.1=some .local:=by decide)
  (hs:∀ x,foldedSetIterable iter X.env x=pure x:=by intro _;rfl):PDO X (.ListComp elt [⟨tg,iter,ifs,0⟩] scope pos) (qD (az own ix f st c fun ρ=>(e ρ).map .lst)):=
 (nO (g:=tG X.K is st) (tc:=tB' X.K c) (te:=tO X.K (asL e)) hcalm b cp hi hg hc he hnames hs).imp (pI his)
end
def clr (is:List Nat)(ρ:DF):DF:=is.foldl (fun ρ j=>ρ.set j none) ρ
theorem tQ (is:List Nat)(ρ:DF):(clr is ρ).length=ρ.length:=by
 unfold clr
 induction is generalizing ρ with
 | nil=>rfl
 | cons j r ih=>rw[List.foldl_cons,ih,YI]
theorem jZ (is:List Nat)(ρ:DF)(j:Nat)(x:DV):(clr is ρ)[j]?=some (some x)↔j∉is∧ρ[j]?=some (some x):=by
 unfold clr
 induction is generalizing ρ with
 | nil=>simp
 | cons k r ih=>
  rw[List.foldl_cons,ih,YF,not_or]
  by_cases h:j=k
  ·subst h
   rw[XC]
   constructor
   ·rintro⟨_,z⟩;split at z <;> first | (split at z <;> cases z) | exact absurd rfl ‹_›
   ·rintro⟨⟨z,_⟩,_⟩;exact absurd rfl z
  ·rw[YG (Xj h)]
   exact⟨fun ⟨a,b⟩=>⟨⟨h,a⟩,b⟩,fun ⟨⟨_,a⟩,b⟩=>⟨a,b⟩⟩
theorem DInv.clr {K:Kq}{P F H:Hp}{ρ:DF}{σ σ':St}{is:List Nat}(I:DInv K P F H ρ σ)(hl:σ'.length=σ.length)(h:∀ j,j∉is→σ'[j]?=σ[j]?):DInv K P F H (L2.clr is ρ) σ':=
 ⟨I.toDHp,by rw[tQ,hl];exact I.len,by
  obtain⟨O,k⟩:=I.rep
  refine⟨O,fun j x hx=>?_⟩
  obtain⟨h1,h2⟩:=(jZ is ρ j x).mp hx
  obtain⟨v,e1,e2⟩:=k j x h2
  exact⟨v,(h j h1).trans e1,e2⟩⟩
def mO (K:Kq)(fc:Dk)(w:Bool):TS:=fun E σ H=>tB' K fc σ H fun b H'=>if b=true then E.rt (.bl w) H' else E.nx σ H'
def e_ (ρ:DF)(st:Dq)(fc:Dk):List D→Option Bool
 | []=>some false
 | d::r=>(st d ρ).bind fun ρ1=>(fc ρ1).bind fun b=>if b=true then some true else e_ ρ st fc r
def gH (i:Nat)(is:List Nat)(st:Dq)(fc:Dk)(w:Bool):DF→Option RES:=fun ρ=>match ρ[i]? with
 | some (some (.own (.lst2 dss) _))=>if i∈is then none else (e_ ((clr is ρ).set i (some (.v (.lst (dss.map .lst))))) st fc (bQ (dss.map .lst))).bind fun b=>some (if b=true then .rt (.v (.bl w)) (clr is ρ) else .nx (clr is ρ))
 | _=>none
section
variable {X:Cx} {c e1:Expr} {st1:Stmt} {aN body:List Stmt} {fc fc2:Dk} {w:Bool} {pos ipos rpos p zpos tpos:Pos} {elts:List Expr} {kk:Nat} {is:List Nat} {st:Dq}
theorem rm {j}{q:Pos}(hT:PDT X c fc):PS X (.If c [.Return (some (.Constant (.bool w) j q)) rpos] [] ipos) (mO X.K fc w):=PS.imp (kO hT (ck (dC qH)) jJ) fun E σ H ⟨P,F,ρ,b,q,I,k⟩=>by
 refine⟨P,F,ρ,b,q,I,fun F' H' ev=>?_⟩
 have z:(if b=true then E.rt (.bl w) H' else E.nx σ H'):=k F' H' ev
 cases b with
 | true=>rw[Yk rfl] at z;exact tY z
 | false=>rw[Ym Yg] at z;exact (Ym Yg).mpr z
theorem vg (h:PS X st1 (mO X.K fc w)):PSs X [st1] (mO X.K fc w):=ck h
def orB (f g:Dk):DF→Option Bool:=fun ρ=>(f ρ).bind fun b=>if b=true then some true else g ρ
theorem n0 (h1:PS X st1 (mO X.K fc w))(h2:PSs X aN (mO X.K fc2 w)):PSs X (st1::aN) (mO X.K (orB fc fc2) w):=PSs.imp (cW h1 h2) fun E σ H ⟨P,F,ρ,b,q,I,k⟩=>by
 unfold orB at q
 obtain⟨b1,q1,q⟩:=bs q
 refine⟨P,F,ρ,b1,q1,I,fun F' H' ev=>?_⟩
 cases b1 with
 | true=>
  rw[Yk rfl] at q
  cases q
  have z:(if true=true then E.rt (.bl w) H' else E.nx σ H'):=k F' H' ev
  rw[Yk rfl] at z
  exact tY z
 | false=>
  rw[Ym Yg] at q
  exact (Ym Yg).mpr ⟨P,F',ρ,b,q,I.evo ev,fun F2 H2 ev2=>k F2 H2 (ev.trans ev2)⟩
theorem pF (i:Nat)(hp:PassesOwn (model X.prog X.w) X.A X.env X.xe)(hc:X.calm=true)(hge:Gl X "enumerate")(hme:X.mg "enumerate"=none)(h1:PE X e1 (cL i))(hg:PDG X (.Tuple elts kk tpos) is st)(hb:PSs X body (mO X.K fc w))
  (hs:starEach [e1] X.env=[(false,eval e1 X.env)]:=by rfl) (hf:∀ x,foldedSetIterable (.Call (.Name "enumerate" p) [e1] [] zpos) X.env x=pure x:=by intro _;rfl) :
  PD1 X (.For (.Tuple elts kk tpos) (.Call (.Name "enumerate" p) [e1] [] zpos) body [] pos) (gH i is st fc w):=
 PS.imp (mY hp hc (sS hge hme (ap h1 aL hs) hs) hg hb hf) fun E σ H hh_=>by
  obtain⟨P,F,ρ,r,hr,I,k⟩:=hh_
  unfold gH at hr
  split at hr
  ·rename_i dss t q1
   split at hr
   ·cases hr
   ·rename_i hi
    obtain⟨bb,hA,hr⟩:=bs hr
    obtain⟨O,hR⟩:=id I.rep
    obtain⟨_,s1,a,rfl,⟨oa,lb,a3,a4,a5⟩,_⟩:=hR i _ q1
    have hlen:lb.length=dss.length:=a5.length
    refine⟨.ref a,s1,a,rfl,⟨_,SqL.of a3⟩,?_⟩
    have I0:DInv X.K P F H (clr is ρ) σ:=I.clr rfl fun _ _=>rfl
    have qi:(clr is ρ)[i]?=some (some (.own (.lst2 dss) t)):=(jZ is ρ i _).mpr ⟨hi,q1⟩
    refine⟨fun j m σ' H'=>m=dss.length-j∧j≤dss.length∧σ'[i]?=some (some (.ref a))∧DInv X.K P F H' (clr is ρ) σ'∧H' a=some (.lst (lb.map .ref))∧e_ ((clr is ρ).set i (some (.v (.lst (dss.map .lst))))) st fc ((bQ (dss.map .lst)).drop j)=some bb,⟨_,rfl,Zm _,s1,I0,a3,hA⟩,?_⟩
    rintro j m σ' H' ⟨rfl,hjl,sj,I',ha',hf'⟩
    have el:(bQ (dss.map .lst)).length=dss.length:=by simp[bQ]
    by_cases hlt:j<dss.length
    ·have hd:(bQ (dss.map .lst))[j]?=some (bQ (dss.map .lst))[j]:=Ye (by rw[el];exact hlt)
     have hdrop:(bQ (dss.map .lst)).drop j=(bQ (dss.map .lst))[j]::(bQ (dss.map .lst)).drop (j+1):=Zc (by rw[el];exact hlt)
     rw[hdrop] at hf'
     generalize (bQ (dss.map .lst))[j]=d at hd hf'
     obtain⟨d0,hd0,rfl⟩:=iG hd
     obtain⟨ρ1,hs',hf'⟩:=bs (show ((st (.tup [.int (j:Int),d0]) ((clr is ρ).set i (some (.v (.lst (dss.map .lst)))))).bind fun ρ1=>(fc ρ1).bind fun b=>if b=true then some true else e_ ((clr is ρ).set i (some (.v (.lst (dss.map .lst))))) st fc ((bQ (dss.map .lst)).drop (j+1)))=some bb from hf')
     obtain⟨b,hb',hf'⟩:=bs hf'
     obtain⟨F1,e1,I1⟩:=I'.frz qi
     have il:i<(clr is ρ).length:=(Yi.mp qi).1
     obtain⟨v,w1,w2⟩:=I1.at (i:=i) (x:=.v (OD.lst2 dss).d) (by rw[YO il])
     rw[sj] at w1
     cases w1
     have w2':Rep X.K F1 (.ref a) (.lst (dss.map .lst)):=w2
     cases w2' with
     | lst y1 y2=>
      rename_i vs
      obtain⟨u,g1,g2⟩:=y2.get hd0
      have sq:SqL X.K H' a vs:=I1.sub.seq y1
      refine .inr ⟨⟨vs,u,sq,g1⟩,fun σ2 H2=>σ2[i]?=some (some (.ref a))∧DInv X.K P F H2 (clr is ρ) σ2∧H2 a=some (.lst (lb.map .ref))∧e_ ((clr is ρ).set i (some (.v (.lst (dss.map .lst))))) st fc ((bQ (dss.map .lst)).drop (j+1))=some bb,fun σ2 H2 ⟨z1,z2,z3,z4⟩=>⟨dss.length-(j+1),by omega,rfl,hlt,z1,z2,z3,z4⟩,fun x H2 hy=>?_⟩
      obtain⟨q,v',hn,rfl,rfl,hx⟩:=hy
      have t1:=hx vs sq
      rw[g1] at t1
      cases t1
      have ev2:=Evo.laid I1.toDHp (o:=.tup [.int (j:Nat),u]) hn
      refine⟨P,_,_,_,ρ1,hs',I1.evo ev2,.tup ak (.cons .int (.cons (g2.same ev2.ext) .nil)),fun σ3 F3 H3 ev3 I3 l3 kp3=>?_⟩
      refine⟨P,F3,ρ1,b,hb',I3,fun F4 H4 ev4=>?_⟩
      have ev:Evo P F1 H' F4 H4:=ev2.trans (ev3.trans ev4)
      have evb:Evo P F H' F H4:=⟨Same.refl _,⟨(e1.trans ev.ext).trans ev.hp.sub,ev.hp.pro,I'.dis⟩,fun a u hH hF=>⟨Evo.same I1.toDHp ev a u hH,hF⟩⟩
      have I4:DInv X.K P F H4 (clr is ρ) σ3:=by
       obtain⟨O4,k4⟩:=(I'.evo evb).rep
       refine⟨(I'.evo evb).toDHp,by rw[l3];exact I'.len,O4,fun m y hm=>?_⟩
       obtain⟨v5,z1,z2⟩:=k4 m y hm
       exact⟨v5,(kp3 m ((jZ is ρ m y).mp hm).1).trans z1,z2⟩
      cases b with
      | true=>
       rw[Yk rfl] at hf'
       cases hf'
       cases hr
       exact tY (k _ σ3 F H4 (Same.refl _) I4 .bl)
      | false=>
       rw[Ym Yg] at hf'
       refine (Ym Yg).mpr ?_
       exact⟨(kp3 i hi).trans sj,I4,Evo.same I1.toDHp ev a _ ha',hf'⟩
    ·have hz:(bQ (dss.map .lst)).drop j=[]:=YV (by rw[el];omega)
     rw[hz] at hf'
     cases hf'
     cases hr
     exact .inl ⟨⟨_,SqL.of ha',by rw[Yf];omega⟩,k σ' F H' (Same.refl _) I'⟩
  ·cases hr
end
end L2
namespace L2
open PySem PySem.Spec PySem.Calls PySem.W PyProof.Rows
def pC (W:LamW)(K:Kq)(C:Addr)(rz:List DV→Bool):Sp:=fun vs H _ E=>∃ P F xs,rz xs=true∧DHp P F H∧Tab W P∧DVs K P F H xs vs∧∀ P' F' H',Same F F'→Grow W.t P P'→Tab W P'→DHp P' F' H'→E (.ref C) none H'
theorem Fun.thr2T {W:LamW}{P:Program}{w:World}{K:Kq}{mg:Ks}{base:Heap}{x qual xn t:Str}{st s0:Stmt}{f C:Addr}{fd:FuncData}{N ps:List Str}{k:Nat}{g0:Dw}{ft:Dk}{c:Expr}{aN:List Stmt}{i}{np p2 cpos rpos ipos:Pos}
  (F:Fun K x qual st f fd) (S:FnScope N ps (defScope st)) (hb:defBody st=s0::.If c [.Raise (some (.Call (.Name xn np) [.Constant (.str t) i p2] [] cpos)) none rpos] [] ipos::aN)
  (h0:∀ (cdv:Value) (A:Around) (outer:List Env) (s:Shared) (H:Hp) (E:XK),Room k (A.deeper (envOfC qual (defScope st) s.heap.objs.size f cdv))→PT1 (b9 CX0 P w K mg base N qual (defScope st) f cdv A outer s H E).nox W s0 g0)
  (ht:∀ (cdv:Value) (A:Around) (outer:List Env) (s:Shared) (H:Hp) (E:XK),Room k (A.deeper (envOfC qual (defScope st) s.heap.objs.size f cdv))→PDT (b9 CX0 P w K mg base N qual (defScope st) f cdv A outer s H E).nox c ft)
  (hg:(defScope st).names.lookup xn=some .globalImplicit) (hm:mg xn=some (.ref C)) (q:excIn K C oM "ValueError.__new__"=true)
  (hd:(xn == ("__debug__":Str))=false:=by decide):FnOk P w K mg base (CXr P w C) (k+1) f fd ps (pC W K C (je N.length ps.length g0 ft)):=by
 have lens:∀ vs H Q E,pC W K C (je N.length ps.length g0 ft) vs H Q E→vs.length=ps.length:=fun vs H Q E z=>by
  obtain⟨P',F',xs,hz,hp,_,hv,_⟩:=z
  unfold je at hz
  split at hz
  ·rename_i h;rw[← hv.length];exact h
  ·cases hz
 obtain⟨oc,od,kV,doc,pm,an,cdv,ct,osl,rfl,lk,hcd⟩:=F.ex
 refine qI lk hcd S lens fun A outer s H vs Q E hr hsp=>?_
 refine⟨vz (tST W K g0) (vz (xU (tB' K ft) (fun _ _ H=>E (.ref C) none H) km) km),?_,?_⟩
 ·rw[hb]
  exact cW (PS.nox (h0 cdv A outer s H E hr)) (cW (kO (PT.nox (ht cdv A outer s H E hr)) (ck (rS rfl (fun _ _ _ _ _ _ _ I hx hE=>I.throws hx hE) hg hm q hd)) jn) jn)
 ·obtain⟨P',F',xs,hz,hp,hT,hv,hE⟩:=hsp
  unfold je at hz
  split at hz
  ·rename_i hl
   cases qg:g0 (aQ N.length ps.length xs) with
   | none=>rw[qg] at hz;cases hz
   | some r=>
    rw[qg] at hz
    cases r with
    | nx ρ=>
     refine⟨P',F',_,_,qg,DInv.start N ps.length hp hv hl,hT,fun σ1 P1 F1 H1 ex1 gr1 T1 I1=>?_⟩
     cases qf:ft ρ with
     | none=>simp only[qf] at hz;cases hz
     | some b=>
      simp only[qf] at hz
      have hz':b=true:=hz
      subst hz'
      exact⟨P1,F1,ρ,true,qf,I1,fun F2 H2 ev=>tY (hE P1 F2 H2 (ex1.trans ev.ext) gr1 T1 ev.hp)⟩
    | rt x ρ=>cases hz
    | bk ρ=>cases hz
    | ct ρ=>cases hz
  ·cases hz
def Cx.pinned (X:Cx)(a:Addr)(ob:Obj):Cx:={ X with pn:=(a,ob)::X.pn,xe:=fun _ _=>False }
section
variable {X:Cx} {a C:Addr} {ob:Obj} {pz:Kp} {σ:St} {H:Hp} {s:Shared}
theorem Inv.toPinned (ok:X.Ok)(I:Inv (X.caught a ob) pz σ H s):Inv (X.pinned a ob) pz σ H s:=
 ⟨⟨ok.mod,ok.kind,ok.glob,ok.blt,ok.above,ok.inj,ok.has,ok.cab,ok.hd,ok.frames,ok.stk,ok.exf,ok.bs,ok.bsz,ok.noex,ok.exfs,ok.funs,ok.frf⟩,I.os,I.bare,I.base,I.loc,I.cell,I.free,I.freeC,I.pin,I.hok,I.len⟩
theorem Inv.unpin (ok:X.Ok)(I:Inv (X.pinned a ob) pz σ H s):Inv X pz σ H s:=⟨ok,I.os,I.bare,I.base,I.loc,I.cell,I.free,I.freeC,fun p hp=>I.pin p (Yb _ hp),I.hok,I.len⟩
theorem Inv.atPin (I:Inv (X.pinned a ob) pz σ H s):s.heap.get? a=some ob:=(I.pin (a,ob) (Yc ..)).1
theorem lC {c:V}{cv:Value}{b:Bool}(x:ExC X.K C)(hc:ob.cls=.ref C)(hcv:∀ u,RelV c u→u=cv)(e:kitOne X.K (.ref C) cv=some b):CallR (X.pinned a ob) (.builtin "isinstance") (fun xs H Q=>xs=[.ref a,c]∧Q (.bl b) H):=by
 intro pz s σ H xs us Q I r h
 obtain⟨rfl,q⟩:=h
 obtain⟨u,w',rfl,r1,r2⟩:=lN r
 cases (show u=Value.ref a from r1)
 cases hcv _ r2
 exact kia_one (k8 x) I.kIn ⟨ob,I.atPin,hc⟩ e (fun z=>nomatch z) fun tk=>⟨.bl b,H,I.tok _,rfl,q⟩
theorem oq {cs:List V}{cvs:List Value}{b:Bool}(x:ExC X.K C)(hc:ob.cls=.ref C)(hcv:∀ us,Vals cs us→us=cvs)(e:kitAny X.K (.ref C) cvs=some b):CallR (X.pinned a ob) (.builtin "isinstance") (fun xs H Q=>∃ tp,xs=[.ref a,.ref tp]∧H tp=some (.tup cs)∧Q (.bl b) H):=by
 intro pz s σ H xs us Q I r h
 obtain⟨tp,rfl,ht,q⟩:=h
 obtain⟨u,w',rfl,r1,r2⟩:=lN r
 cases (show u=Value.ref a from r1)
 cases (show w'=Value.ref tp from r2)
 obtain⟨_,its,rv,⟨ot,h1,h2,n,h3⟩,_⟩:=(show ObjOk _ _ H s.heap tp (.tup cs) from I.hok tp _ ht)
 cases hcv _ rv
 rcases ot with⟨oc,od,oda,osl⟩
 cases (show oc=_ from h2)
 cases (show oda=_ from h3)
 exact kia_tup (k8 x) I.kIn ⟨ob,I.atPin,hc⟩ h1 e (fun z=>nomatch z) fun tk=>⟨.bl b,H,I.tok _,rfl,q⟩
end
def uP (ic:Nat)(a:Addr):TS:=fun D σ H=>σ[ic]?=some (some (.ref a))∧∀ H',(∀ P F,DHp P F H→Evo P F H F H')→D.rt (.bl true) H'
section
variable {X:Cx} {a C:Addr} {ob:Obj}
theorem sR {ic:Nat}{cr cn:Str}{cs:List V}{cvs:List Value}{ts:List Expr}{x1 j}{q1 q2 q3 q4 q5 q6 q7 q8 q9 qa qb qc qd qe qf qg qh qi qj qk:Pos}(hic:X.N[ic]?=some cr)(hlc:X.env.scope.names.lookup cr=some .local)
  (x:ExC X.K C) (hc:ob.cls=.ref C) (hi:Gl X "isinstance") (hmi:X.mg "isinstance"=none) (hgc:Gl X cn) (hmc:X.mg cn=some (.ref C)) (hgv:Gl X "ValueError") (hmv:X.mg "ValueError"=none)
  (k1:kitOne X.K (.ref C) (.ref C)=some true) (k2:kitOne X.K (.ref C) (.type "ValueError")=some true) (k3:kitAny X.K (.ref C) cvs=some false) (hcv:∀ us,Vals cs us→us=cvs) (hcl:cs.length≤sizeLine)
  (hts:PA (X.pinned a ob) ts (fun σ H Q=>Q cs H)) (hd:(cn == ("__debug__":Str))=false:=by decide) (hde:(cr == ("__debug__":Str))=false:=by decide) (hdc:(cr == ("__classdict__":Str))=false:=by decide) (hve:bootBuiltins "ValueError"=some (.type "ValueError"):=by decide +kernel) :
  PSs (X.pinned a ob) [.If (.BoolOp .Or [.UnaryOp .Not (.Call (.Name "isinstance" q1) [.Name cr q2,.Name cn q3] [] q4) q5,.UnaryOp .Not (.Call (.Name "isinstance" q6) [.Name cr q7,.Name "ValueError" q8] [] q9) qa] qb) [.Return (some (.Constant (.bool false) j qc)) qd] [] qe,
   .Return (some (.UnaryOp .Not (.Call (.Name "isinstance" qf) [.Name cr qg,.Tuple ts x1 qh] [] qi) qj)) qk] (uP ic a):=by
 have ve:∀ q,PE (X.pinned a ob) (.Name cr q) (cL ic):=fun q=>kw hic (.inl hlc) hde hdc
 have e1:=mq (pos:=q5) (mJ (bE (p:=q1) (pos:=q4) (lC (a:=a) x hc (c:=.ref C) (fun u r=>r) k1) hi hmi bu (ap (ve q2) (ap (kd (v:=.ref C) (pos:=q3) hgc hmc rfl hd) aL)) (by decide) (by decide)))
 have e2:=mq (pos:=qa) (mJ (bE (p:=q6) (pos:=q9) (lC (a:=a) x hc (c:=.ty "ValueError") (fun u r=>r) k2) hi hmi bu (ap (ve q7) (ap (nQ (v:=.ty "ValueError") (pos:=q8) hgv hmv hve rfl (by decide) (by decide)) aL)) (by decide) (by decide)))
 have e3:=rV (pos:=qj) (bE (p:=qf) (pos:=qi) (oq (a:=a) x hc hcv k3) hi hmi bu (ap (ve qg) (ap (sg (x1:=x1) (pos:=qh) hts) aL)) (by decide) (by decide))
 refine PSs.imp (cW (kO (PW.pt (uU (pos:=qb) e1 (rB (pos:=qb) e2))) (ck (dC qH)) jJ) (ck (dC e3))) fun D σ H h=>?_
 obtain⟨he,k⟩:=h
 refine⟨_,he,⟨rfl,true,rfl,?_⟩⟩
 refine⟨_,he,⟨rfl,true,rfl,?_⟩⟩
 refine⟨_,he,hcl,fun tp htp=>⟨tp,rfl,ak,false,rfl,?_⟩⟩
 exact k _ fun P F hp=>Evo.side hp htp
end
def qt (g:Dv)(rz:List DV→Bool):DF→Option RES:=fun ρ=>(g ρ).bind fun xs=>if rz xs=true then some (.rt (.v (.bl true)) (ρ.map fun _=>none)) else none
theorem pX {X:Cx}{W0:LamW}{k:Nat}{f C W:Addr}{fd:FuncData}{ps:List Str}{rz:List DV→Bool}{x wn er cr:Str}{ie ic:Nat}{p pos p2 np hpos tpos a1 a2 a3:Pos}{e:Expr}{es:List Expr}{aN:List Stmt}{g:Dv}(hX:∀ e s,X.xe e s→False)
  (F:FnOk X.prog X.w X.K X.mg X.base (CXr X.prog X.w C) k f fd ps (pC W0 X.K C rz)) (hr:Room k X.A) (hg:Gl X x) (hm:X.mg x=some (.ref f)) (hk:PySem.W.keepIn X.K (.ref f)=true) (hb:Binds X.K fd ps []) (ha:ir X (e::es) g)
  (hstk:X.stack=X.env::X.outer) (hfr:X.env.frame=some X.env.locals) (hgw:Gl X wn) (hmw:X.mg wn=some (.ref W)) (hxm:exmOne X.K (.ref C) (.ref W)=some true)
  (hN:X.N.Nodup) (hie:X.N[ie]?=some er) (hle:X.env.scope.names.lookup er=some .local) (hic:X.N[ic]?=some cr) (hlc:X.env.scope.names.lookup cr=some .local) (hne:ie≠ic) (hrest:∀ a ob,ob.cls=.ref C→PSs (X.pinned a ob) aN (uP ic a))
  (hd:(x == ("__debug__":Str))=false:=by decide) (hdw:(wn == ("__debug__":Str))=false:=by decide) (hde:(er == ("__debug__":Str))=false:=by decide) (hdc:(er == ("__classdict__":Str))=false:=by decide) (he:starEach (e::es) X.env=(false,eval e X.env)::starEach es X.env:=by rfl) (hpl:(backTo pos (starEach es X.env)).any (·.1)=false:=by rfl)
  (hs:swapsWith (.Call (.Name x p) (e::es) [] pos) none p2.line X.env=pure false:=by rfl) (hs2:swapsWith (.Name er a2) (some (.Name cr a1)) a3.line X.env=pure false:=by rfl) :
  PTS X W0 (.Try [.Expr (.Call (.Name x p) (e::es) [] pos) p2] [.ExceptHandler (some (.Name wn np)) (some er) [.Assign [.Name cr a1] (.Name er a2) a3] hpos] [] [] tpos::aN) (qt g rz):=by
 intro pz s σ H D I h
 obtain⟨P,Fr,ρ,r,hf,ID,T,kk⟩:=h
 unfold qt at hf
 obtain⟨xs,q,hf⟩:=bs hf
 split at hf
 ·rename_i hrz
  cases hf
  have ha1:=ha pos pz s σ H (fun vs H1=>∃ F1,Evo P Fr H F1 H1∧ArgsS X.K ρ σ F1 xs vs) I ⟨P,Fr,ρ,xs,q,ID,fun vs F1 H1 e1 r1=>⟨F1,e1,r1⟩⟩
  refine XF ?_
  refine wpAny_Try_except (XF (wpAny_Expr_any (ZI (dP I hg hm ?_ hd)) I.quiet hs))
  refine PySem.W.callWith_K (h₀:=X.base) I.ok.mod.kin hk (Zn ha1 (fun us s1 z=>?_) fun e s z=>(hX e s z).elim) he hpl
  obtain⟨vs,H1,I1,rv,F1,ev1,r1⟩:=z
  refine⟨I1.kIn,?_⟩
  have ID1:=ID.evo ev1
  have hsp:pC W0 X.K C rz vs H1 (fun _ _=>False) (fun _ _ H2=>∃ c F2,Same F1 F2∧Grow W0.t (gd F1 H1) c∧Tab W0 c∧DHp c F2 H2):=⟨gd F1 H1,F1,xs,hrz,d_ ID1.sub,T.gd ID1.toDHp,r1.dvs ID1,fun c F2 H2 e2 gr Tc hp2=>⟨c,F2,e2,gr,Tc,hp2⟩⟩
  have hl:(us++[]).length=ps.length:=by rw[YC,← rv.length];exact F.len _ _ _ _ hsp
  have hbb:=hb s1 us I1.kIn hl
  rw[YC] at hbb
  refine XO (Xm (F.run X.A X.stack s1 H1 ⟨us,[]⟩ us vs _ _ hr I1.env0 hbb rv hsp) fun rr s' hq=>?_)
  cases rr with
  | ok fl=>
   cases fl with
   | ret u=>obtain⟨_,_,_,_,_,_,_,z⟩:=hq;exact z.elim
   | next=>exact False.elim hq
   | brk=>exact False.elim hq
   | cont=>exact False.elim hq
  | error ev=>
   obtain⟨a,a0,B,H2,rfl,t,c,F2,e2,gr,Tc,hp2⟩:=hq
   have fly:Heap.FlyingW B (X.env::X.outer) a (.ref C) a0 s'.heap:=hstk ▸ t.fly
   have frf:∀ b∈frs X.stack,H1 b=none:=I1.stkFree
   have inv:∀ (h5:Heap),B.StaysIn h5→s'.heap.UpToSlots h5→Inv X pz σ H2 { s' with heap:=h5 }:=fun h5 hb5 sm5=>
    I1.call' (s':={ s' with heap:=h5 }) t.os (t.un frf hb5 sm5) (t.hok.kept hb5) t.bare (fun _ z=>nomatch z)
   have nb:H2 a=none:=t.hok.miss fly.2.1
   refine wpAny_looks_onW (by rw[I.ok.frames,hstk]) hfr fly fun h4 held sm4=>?_
   refine wpAny_landsW held fun h5 fly5 sm5=>?_
   have J5:=inv h5 fly5.1 (sm4.trans sm5)
   have mk:∀ (h:Heap) (ob:Obj),Inv X pz σ H2 { s' with heap:=h }→h.get? a=some ob→(∃ vs,ob.data=.fields vs)→Inv (X.caught a ob) pz σ H2 { s' with heap:=h }:=fun h ob J e1 e2=>by
    obtain⟨vs',e2⟩:=e2
    refine J.caught e1 nb (fun z=>?_) (fun z=>?_) fun v z=>by rw[e2] at z;cases z
    ·obtain⟨m,⟨o,es',ep',ho,hd',_⟩,_⟩:=J.loc
     have ho':h.get? X.env.locals=some o:=ho
     rw[← z,e1] at ho'
     cases ho'
     rw[e2] at hd'
     cases hd'
    ·obtain⟨_,o,ho,nf⟩:=J.funs.mem z
     have ho':h.get? a=some o:=ho
     rw[e1] at ho'
     cases ho'
     exact nf _ e2
   obtain⟨oe5,vs5,g5,c5,d5,_⟩:=fly5.first
   have K5:=mk h5 oe5 J5 g5 ⟨_,d5⟩
   refine wpAny_handleBy_cons (codeAny_handlers_test (dP K5 hgw hmw ?_ hdw)) (by intro z;cases z)
   refine (exm_one (M:=model X.prog X.w) (e:=a) K5.kIn (ExAt.type ⟨oe5,g5,c5⟩) hxm).here ?_
   refine codeAny_handlers_suite_as (lands_againW fly5 fun h6 fly6 sm6=>?_)
   obtain⟨oe6,vs6,g6,c6,d6,_⟩:=fly6.first
   have K6:=mk h6 oe6 (inv h6 fly6.1 ((sm4.trans sm5).trans sm6)) g6 ⟨_,d6⟩
   refine eQ (X:=X.caught a oe6) (v:=.ref a) K6 hN hie (.inl hle) rfl (fun s7 K7=>?_) (.inr hle)
   have lie:ie<σ.length:=by rw[I.len];exact (Yi.mp hie).1
   have lic:ic<σ.length:=by rw[I.len];exact (Yi.mp hic).1
   have su:=ck (g_ (X:=X.caught a oe6) (pos:=a3) hN hic (.inl hlc) (kw (pos:=a2) hie (.inl hle) hde hdc) hs2 (.inr hlc)) pz s7 (σ.set ie (some (.ref a))) H2 { nx:=fun σ' H'=>σ'=(σ.set ie (some (.ref a))).set ic (some (.ref a))∧H'=H2,rt:=fun _ _=>False } K7
    ⟨.ref a,YO lie,rfl,rfl⟩
   refine Zn su (fun fl s8 z=>?_) fun _ _ z=>z.elim
   cases fl with
   | ret u=>obtain⟨_,_,_,_,_,z⟩:=z;exact z.elim
   | brk=>obtain⟨_,_,_,z⟩:=z;exact z.elim
   | cont=>obtain⟨_,_,_,z⟩:=z;exact z.elim
   | next=>
    obtain⟨σ',H',K8,rfl,rfl⟩:=z
    refine ul (X:=X.pinned a oe6) (K8.toPinned I.ok) hN hie hle fun s9 J9=>?_
    have gw:=fw ev1 e2 gr Tc hp2
    refine Zn (hrest a oe6 c6 pz s9 _ H' { nx:=fun _ _=>False,rt:=D.rt } J9 ⟨?_,fun H3 ev=>?_⟩) (fun fl s10 z=>?_) fun _ _ z=>z.elim
    ·rw[YG hne,YO (by rw[YI];exact lic)]
    ·refine kk (.bl true) σ (grP W0.t P c) F2 H3 gw.ext (gw.grow ID.toDHp) gw.tabP ⟨(ev _ _ gw.hpP).hp,by rw[Yf];exact ID.len,fun _=>none,fun i y hy=>?_⟩ .bl
     rw[YE] at hy
     cases zz:ρ[i]? with
     | none=>rw[zz] at hy;cases hy
     | some w=>rw[zz] at hy;cases hy
    ·cases fl with
     | ret u=>obtain⟨v,σ1,H4,L,rv2,z⟩:=z;exact⟨v,σ1,H4,L.unpin I.ok,rv2,z⟩
     | next=>obtain⟨_,_,_,z⟩:=z;exact z.elim
     | brk=>obtain⟨_,_,_,z⟩:=z;exact z.elim
     | cont=>obtain⟨_,_,_,z⟩:=z;exact z.elim
 ·cases hf
end L2
namespace L2
open PySem PySem.SetTable
def own (owner:Array (Option Nat))(j:Nat):Option Nat:=owner.getD j (some 0)
def ow (owner:Array (Option Nat))(j:Nat):Option Nat:=owner.getD j none
end L2
namespace L2
open PySem PySem.Spec PyProof.Rows PySem.SetTable
section
variable {prog:Program} {w:World} {A:Around} {E:Kv} {s:Shared}
variable {S I:Addr} {es:Ka} {ep:Nat} {t:SetTable}
end
section
variable {prog:Program} {w:World} {A:Around} {E:Kv} {s:Shared}
variable {S I:Addr} {es:Ka} {ep:Nat} {t:SetTable}
end
end L2
namespace L2
open PySem PySem.Spec PyProof.Rows
section
variable {X:Cx} {o:Expr} {pos apos cpos:Pos}
def sX (i:Nat):DF→Option RES:=fun ρ=>match ρ[i]? with
 | some (some (.own (.lst ds) t))=>some (.nx (ρ.set i (some (.own (.lst ds.reverse) t))))
 | _=>none
theorem wv (i:Nat)(h:PE X o (cL i))(hbase:attributeBase o "reverse" X.env (eval o X.env)=eval o X.env:=by rfl)(hline:(apos.endLine == cpos.line)=true:=by rfl)(hsw:swapsWith (.Call (.Attribute o "reverse" apos) [] [] cpos) none pos.line X.env=pure false:=by rfl) :
  PD1 X (.Expr (.Call (.Attribute o "reverse" apos) [] [] cpos) pos) (sX i):=
 PS.imp (gt (rQ Zr PySem.F.slot_list_reverse PySem.F.type_list_reverse ng h hbase hline) hsw) fun E σ H=>un7 fun P F ρ r hr I k=>by
  unfold sX at hr
  split at hr
  ·rename_i ds t q
   cases hr
   obtain⟨a,vs,h1,h2,h3,h4,h5⟩:=eD I q
   exact⟨_,h1,.inl ⟨rfl,vs,SqL.of h4⟩,a,vs,rfl,rfl,h4,k σ F _ (Same.refl _) (I.mut (o':=.lst _) (u:=.lst _) q rfl rfl h1 h5.rev)⟩
  ·cases hr
end
section
variable {prog:Program} {w:World} {A:Around} {E:Kv} {s:Shared} {r:Addr} {a b c:Int} {t u v:Tok} {n:Nat}
theorem kP (nh:A.handled=none)(hr:IsRange s.heap r a b c t u v)(hsmall:Builtin.Range.small a b c=true)(hn:Builtin.Range.rangeSize a b c=n)(hlen:n≤2 ^ 24){Q:Kl}
  (q:∀ h' tk acc',(∀ b o,s.heap.get? b=some o→h'.get? b=some o)→ItemsOf (fun i v=>∃ t,v=.int (a+i*c) t) acc' n→Q acc'.toList { s with heap:=h',toks:=tk }):wpAny (model prog w) A (collect (.ref r)) Q E s:=by
 unfold collect
 refine Yj (wpAny_runValue (Zs entry_proto_collect' ?_))
 refine Yj (m:=newList []) (wpAny_newList (Yu ⟨Xw _ (by decide +kernel),Zs entry_list_iadd' ?_⟩))
 rw[ZO (show plainId "list.__iadd__"=true by decide +kernel) ⟨[.ref s.heap.objs.size,.ref r],[]⟩]
 refine wpAny_extend_range (R:=fun r s'=>match r with
  | Except.ok (Flow.ret v)=>wpAny (model prog w) A (match v with
   | Value.ref a=>(load a>>=fun o=>match o.data with
    | Data.seq xs _=>pure xs.toList
    | _=>unsupported "internal:collect")
   | _=>unsupported "internal:collect") Q E s'
  | Except.ok _=>False
  | Except.error e=>E e s') (s:={ s with heap:=s.heap.push (seqObj "list" #[] 0) }) (A:=A) (by simpa using nh) (Yd _ hr) hsmall hn hlen s.heap.objs.size (.ref s.heap.objs.size) 0 (Yp _ rfl) fun h' tk acc' c' hk hL' hacc=>?_
 refine Yj (wpAny_load hL' ?_)
 exact Yu (q h' tk acc' (fun b o e=>hk b o (Yy (Yn e)) (Yd _ e)) hacc)
theorem fR (r:Addr)(a b c:Int)(t u v:Tok)(n:Nat)(hsmall:Builtin.Range.small a b c=true)(hn:Builtin.Range.rangeSize a b c=n)(hlen:n≤2 ^ 24) :
  Meets (Builtin.«tuple.__new__» ⟨[.type "tuple",.ref r],[]⟩)
   (fun A R s=>A.handled=none∧IsRange s.heap r a b c t u v∧∀ (h':Heap) (tk:Nat) (acc:Array Value),(∀ b o,s.heap.get? b=some o→h'.get? b=some o)→ItemsOf (fun i v=>∃ t,v=.int (a+i*c) t) acc n→
    R (.ok (.ret (.ref h'.objs.size))) { s with heap:=h'.push { cls:=.type "tuple",data:=.seq acc },toks:=tk }):=
 .of_wp fun prog w A R s h=>by
  obtain⟨hp,g,d,tk,os⟩:=s
  obtain⟨hh,hr,h⟩:=h
  have hsub:=sub_tuple_self
  have hinit:=init_tuple_lookup
  have hmh:=madeHere_tuple
  have hT:Shared.TypeIs ⟨hp,g,d,tk,os⟩ (.ref r) "range":=⟨_,hr,rfl⟩
  have hh1:A.in1.handled=none:=hh
  wp_walk using wpAny_typeOf hT,kP hh1 hr hsmall hn hlen
  intro h' tk' acc hk hacc
  show wpAny _ _ (Builtin.Tuple.tupleExact acc.toList.toArray>>=fun v=>ret v) _ _ _
  unfold Builtin.Tuple.tupleExact
  have e:acc.toList.toArray=acc:=by simp
  refine Yj (wpAny_newObj_type ?_ (show acc.toList.toArray.size≤sizeLine by rw[e,hacc.1,YS];exact hlen))
  refine Yu ⟨_,rfl,?_⟩
  rw[e]
  exact h h' tk' acc hk hacc
end
section
variable {X:Cx} {a:Expr} {fa:Dd} {pos p p' cpos:Pos}
theorem gK (hc:X.calm=true):CallR X (.type "tuple") (fun xs H Q=>∃ (q:Addr) (lo hi:Int),xs=[.ref q]∧H q=some (.rng lo hi)∧(-(2 ^ 62)≤lo∧lo<2 ^ 62∧-(2 ^ 62)≤hi∧hi<2 ^ 62)∧(hi-lo).toNat≤16777216∧∀ l,H l=none→Q (.ref l) (upd H l (.tup (kx lo (hi-lo).toNat)))):=by
 intro pz s σ H xs us Q I r h
 obtain⟨q,lo,hi,rfl,hq,⟨h1,h2,h3,h4⟩,hn,k⟩:=h
 obtain⟨u,rfl,ru⟩:=cU r
 cases ru
 obtain⟨t,u,v,ho⟩:=I.hok q _ hq
 have hsz:Builtin.Range.rangeSize lo hi 1=((hi-lo).toNat:Int):=by rw[rangeSize_one];split <;> omega
 refine callType_new F.called_tuple (by decide) (F.typeCall_tuple_1 _) (F.newCall_tuple_1 _) (fun obj=>F.args_object_init_2 obj _) F.entry_tuple_new (fR q lo hi 1 t u v (hi-lo).toNat (small_one h1 h2 h3 h4) hsz (by omega))
  ⟨I.ok.hd hc,ho,fun h' tk acc kp hit=>⟨⟨_,Yp _ rfl,rfl⟩,?_⟩⟩
 have I1:Inv X pz σ H { s with heap:=h',toks:=tk }:=I.kept (t':=tk) kp
 refine⟨.ref h'.objs.size,_,I1.laid (t':=tk) (o:=.tup (kx lo (hi-lo).toNat)) (fun b o e=>Yd _ e) (Yr _) ⟨?_,acc.toList,?_,⟨_,Yp _ rfl,rfl,0,by simp⟩,_,Yp _ rfl,rfl⟩,rfl,k _ (I1.hok.fresh (Yr _))⟩
 ·unfold kx;rw[Yf,Zv,YS];exact hn
 ·obtain⟨hs,hv⟩:=hit
  refine kD (hi-lo).toNat lo acc.toList (by simpa using hs) fun j v hj=>?_
  obtain⟨t,e⟩:=hv j v (by rw[← Zw];exact hj)
  exact⟨t,by rw[e];congr 1;omega⟩
def p8 (f:Dd):DF→Option D:=fun ρ=>(en f ρ).map .tup
theorem lB (hc:X.calm=true)(hg:Gl X "tuple")(hm:X.mg "tuple"=none)(hg2:Gl X "range")(hm2:X.mg "range"=none)(ha:PDE X a fa)(hs0:starEach [a] X.env=[(false,eval a X.env)]:=by rfl)
  (hs:starEach [.Call (.Name "range" p') [a] [] cpos] X.env=[(false,eval (.Call (.Name "range" p') [a] [] cpos) X.env)]:=by rfl):PDE X (.Call (.Name "tuple" p) [.Call (.Name "range" p') [a] [] cpos] [] pos) (p8 fa):=
 (bL (gK hc) hg hm g7 (ap (bL i_ hg2 hm2 boot_range (ap ha aL hs0) (he:=hs0)) aL hs) (he:=hs)).imp fun σ H Q=>un7 fun P F ρ d hf I k=>by
  unfold p8 en at hf
  split at hf
  ·rename_i j q
   split at hf
   ·rename_i hj
    cases hf
    refine⟨P,F,ρ,_,q,I,fun v F1 H1 e1 r1=>?_⟩
    cases r1
    refine⟨j,rfl,fun q hq=>⟨q,0,j,rfl,ak,⟨by decide,by decide,hj.2,by omega⟩,by omega,fun l hl=>?_⟩⟩
    have e2:Evo P F1 H1 F1 (upd H1 q (.rng 0 j)):=Evo.side e1.hp hq
    have e3:=Evo.laid e2.hp (o:=.tup (kx 0 (j-0).toNat)) hl
    rw[Int.sub_zero] at e3 ⊢
    exact k _ _ _ ((e1.trans e2).trans e3) (.tup ak ((jc 0 j.toNat).same (Same.refl _)))
   ·cases hf
  ·cases hf
end
section
open PySem.SeqAt
open PySem.AutoSeq1 (wpAny_loadPart')
open PySem.MeetsSeq PySem.MeetsSeq2 PySem.MeetsSeq3
theorem kI {xs:Array Value}{i:Nat}{v:Value}{vs:List Value}(h:xs.toList.drop i=v::vs):xs[((i:Nat):Int).toNat]?=some v∧xs.toList.drop (i+1)=vs:=by
 have hi:i<xs.toList.length:=by
  rcases Xr i xs.toList.length with z | z
  ·exact z
  ·rw[YV z] at h;cases h
 rw[Zc hi] at h
 injection h with h1 h2
 refine⟨?_,h2⟩
 rw[Int.toNat_natCast,← Zw,Ye hi,h1]
theorem k7 {xs:Array Value}{i:Nat}(h:xs.toList.drop i=[]):xs[((i:Nat):Int).toNat]?=none∧xs.size≤i:=by
 have hz:xs.size≤i:=by simpa using List.drop_eq_nil_iff.mp h
 exact⟨by rw[Int.toNat_natCast];exact Array.getElem?_eq_none hz,hz⟩
theorem pE (l b:Addr)(xs ys:Array Value)(m m2:Nat)(dd dd2:Option Addr)(sl sl2:Array (Option Value))(k:Nat) :
  ∀ (i:Nat) (ds es:List D),ds.length=k→i≤xs.size→i≤ys.size→Meets (Builtin.«list.__eq__.loop» ⟨[.ref l,.ref b,rawInt i,rawInt 0],[]⟩)
   (fun A R s=>LexOk A.in1 s (xs.toList.drop i) (ys.toList.drop i) ds es∧s.heap.get? l=some { cls:=.type "list",dict:=dd,data:=.seq xs m,slots:=sl }∧s.heap.get? b=some { cls:=.type "list",dict:=dd2,data:=.seq ys m2,slots:=sl2 } ∧
    R (.ok (.ret (.bool (aA ds es)))) s):=by
 induction k with
 | zero=>
  intro i ds es hk i1 i2 prog w A R s hh
  obtain⟨hp,gg,dr,tk,os⟩:=s
  obtain⟨hx,ll,lb,hR⟩:=hh
  obtain rfl:ds=[]:=Zj.mp hk
  wp_walk using YU ll,YU lb
  have h0:xs.toList.drop i=[]:=Zj.mp hx.len.1
  obtain⟨n1,z1⟩:=k7 h0
  have z2:=hx.len.2
  rw[Zq,Za] at z2
  have hv:aA [] es=decide (xs.size<ys.size):=by
   cases es with
   | nil=>rw[show aA [] []=false by simp[aA]];exact (Yz (by simp at z2;omega)).symm
   | cons c u=>rw[show aA [] (c::u)=true by simp[aA]];exact (YK (by simp at z2;omega)).symm
  rw[hv] at hR
  rw[n1]
  wp_walk using YU ll,YU lb
  exact hR
 | succ k ih=>
  intro i ds es hk i1 i2 prog w A R s hh
  obtain⟨hp,gg,dr,tk,os⟩:=s
  obtain⟨hx,ll,lb,hR⟩:=hh
  wp_walk using YU ll,YU lb
  generalize qa:xs.toList.drop i=va at hx
  generalize qb:ys.toList.drop i=vb at hx
  cases hx with
  | nl _=>cases hk
  | @nr vs ds0 hn=>
   obtain⟨n2,z2⟩:=k7 qb
   have hv:aA ds []=decide (xs.size<ys.size):=by
    cases ds with
    | nil=>cases hk
    | cons c u=>rw[show aA (c::u) []=false by simp[aA]];exact (Yz (by omega)).symm
   rw[hv] at hR
   rw[n2]
   cases q:xs[((i:Nat):Int).toNat]? with
   | none=>
    wp_walk using YU ll,YU lb
    exact hR
   | some v=>
    wp_walk using YU ll,YU lb
    exact hR
  | @cons v w' d' e' vs ws ds' es' he hlt hx'=>
   obtain⟨g1,t1⟩:=kI qa
   obtain⟨g2,t2⟩:=kI qb
   have j1:i<xs.size:=by
    rcases Xr i xs.size with z | z
    ·exact z
    ·rw[YV (by simpa using z)] at qa;cases qa
   have j2:i<ys.size:=by
    rcases Xr i ys.size with z | z
    ·exact z
    ·rw[YV (by simpa using z)] at qb;cases qb
   rw[g1,g2]
   refine Yj (he prog w _ _ ?_)
   cases q:eqd d' e' with
   | true=>
    have hR':R (.ok (.ret (.bool (aA ds' es')))) ⟨hp,gg,dr,tk,os⟩:=by
     rw[aA,Yk q] at hR;exact hR
    wp_walk
    rw[show ((i:Int)+1)=((i+1:Nat):Int) from rfl]
    refine⟨plainId_quiet plain_eq_loop _,Zs entry_eq_loop ?_⟩
    rw[ZO plain_eq_loop _]
    exact ih (i+1) ds' es' (Nat.succ.inj hk) j1 j2 prog w A R _ ⟨by rw[t1,t2];exact hx',ll,lb,hR'⟩
   | false=>
    have hR':R (.ok (.ret (.bool (ltD d' e')))) ⟨hp,gg,dr,tk,os⟩:=by
     rw[aA,Ym (by rw[q];exact Yg)] at hR;exact hR
    have hri:=hlt q prog w
    wp_walk using YU ll,YU lb
    rw[g1,g2]
    wp_walk using hri
    exact hR'
end
section
open PySem.SeqAt
open PySem.AutoSeq1 (wpAny_loadPart')
open PySem.MeetsSeq PySem.MeetsSeq2 PySem.MeetsSeq3
theorem kJ (l b:Addr)(xs ys:Array Value)(m m2:Nat)(dd dd2:Option Addr)(sl sl2:Array (Option Value))(ds es:List D) :
  Meets (Builtin.«list.__lt__» ⟨[.ref l,.ref b],[]⟩)
   (fun A R s=>LexOk A.in1 s xs.toList ys.toList ds es∧s.heap.get? l=some { cls:=.type "list",dict:=dd,data:=.seq xs m,slots:=sl }∧s.heap.get? b=some { cls:=.type "list",dict:=dd2,data:=.seq ys m2,slots:=sl2 } ∧
    R (.ok (.ret (.bool (aA ds es)))) s):=by
 intro prog w A R s hh
 obtain⟨hp,gg,dr,tk,os⟩:=s
 obtain⟨hx,ll,lb,hR⟩:=hh
 have f3:=AutoSeq1.sub_list_list
 wp_walk using YU ll,YU lb
 refine⟨plainId_quiet plain_eq_loop _,Zs entry_eq_loop ?_⟩
 rw[ZO plain_eq_loop _]
 exact pE l b xs ys m m2 dd dd2 sl sl2 _ 0 ds es rfl (Zm _) (Zm _) prog w A R _ ⟨by rw[ZD,ZD];exact hx,ll,lb,hR⟩
end
theorem o5 {A:Around}{s:Shared}{l b:Addr}{xs ys:Array Value}{m m2:Nat}{dd dd2:Option Addr}{sl sl2:Array (Option Value)}{ds es:List D}(hl:s.heap.get? l=some { cls:=.type "list",dict:=dd,data:=.seq xs m,slots:=sl })(hb:s.heap.get? b=some { cls:=.type "list",dict:=dd2,data:=.seq ys m2,slots:=sl2 })(hx:LexOk A.in1 s xs.toList ys.toList ds es)(hu:A.units<cLine) :
  oX A s (.ref l) (.ref b) (aA ds es):=by
 intro prog w E Q h
 exact richCompare_meets_room (op:=.Lt) ⟨_,hl,rfl⟩ ⟨_,hb,rfl⟩ PySem.F.slot_list_lt PySem.F.entry_list_lt (PySem.F.args_list_lt_2 _ _) (kJ l b xs ys m m2 dd dd2 sl sl2 ds es)
  ⟨hx,hl,hb,show Value.bool (aA ds es)≠Value.notImplemented∧Q (.bool (aA ds es)) s from ⟨(fun x=>nomatch x),h⟩⟩ hu
def ltL (x y:D):Option D:=match x,y with
 | .lst ds,.lst es=>if (ds.all (okN 29)&&es.all (okN 29)&&aI ds es)=true then some (.bl (aA ds es)) else none
 | _,_=>none
def xF (K:Kq):R2:=fun x y H Q=>∃ ds es,Rep K H x (.lst ds)∧Rep K H y (.lst es)∧(∀ d∈ds,okN 29 d=true)∧(∀ d∈es,okN 29 d=true)∧aI ds es=true∧Q (.bl (aA ds es)) H
section
variable {X:Cx} {a b:Expr} {pos:Pos}
theorem vj (hu:X.A.units+64<cLine):OpR X (compareOp .Lt) (xF X.K):=by
 intro pz s σ H x y v u Q I rx ry h
 obtain⟨ds,es,h1,h2,o1,o2,c,q⟩:=h
 cases h1 with
 | lst h1 q1=>
  cases h2 with
  | lst h2 q2=>
   cases (show v=Value.ref _ from rx)
   cases (show u=Value.ref _ from ry)
   obtain⟨its1,rv1,⟨ob1,n1,g1,c1,b1,d1⟩,_⟩:=I.list h1
   obtain⟨its2,rv2,⟨ob2,n2,g2,c2,b2,d2⟩,_⟩:=I.list h2
   rcases ob1 with⟨k1,w1,z1,y1⟩
   rcases ob2 with⟨k2,w2,z2,y2⟩
   cases (show k1=_ from c1)
   cases (show k2=_ from c2)
   cases (show z1=_ from d1)
   cases (show z2=_ from d2)
   have hu1:X.A.in1.units+29+2<cLine:=by show X.A.units+1+29+2<cLine;omega
   exact o5 g1 g2 (Reps.lex I 29 X.A.in1 hu1 (Rep.lt I 29 X.A.in1 hu1) q1 q2 o1 o2 c rv1 rv2) (by omega) X.prog X.w X.xe _ ⟨.bl _,H,I,rfl,q⟩
theorem vf {K:Kq}:jW K (xF K) ltL:=by
 intro P F H x y dx dy d Q hf hp rx ry k
 unfold ltL at hf
 split at hf
 ·rename_i ds es
  split at hf
  ·rename_i h
   rw[Yx,Yx] at h
   cases hf
   exact⟨ds,es,rx,ry,YD.mp h.1.1,YD.mp h.1.2,h.2,k _ F H (Evo.refl hp) .bl⟩
  ·cases hf
 ·cases hf
theorem vm {fa fb:Dd}(hu:X.A.units+64<cLine)(ha:PDN X a fa)(hb:PDN X b fb):PDT X (.Compare a [.Lt] [b] pos) (asB (d2 ltL fa fb)):=gv (vj hu) vf ha hb (eA _)
end
section
variable {X:Cx} {o e e2:Expr} {pos apos cpos:Pos}
end
section
variable {X:Cx} {a:Expr} {pos p:Pos} {fa:Dd}
end
theorem i8:∀ (as:List Addr) (us:List Value),Vals (as.map V.ref) us→us=as.map Value.ref
 | [],_,.nil=>rfl
 | _::as,_,.cons r h=>by
  cases (show _=Value.ref _ from r)
  exact Zz _ (i8 as _ h)
theorem xE {X:Cx}:PA X [] (fun _ H Q=>Q [] H):=aL
theorem qO {X:Cx}{x:Str}{a:Addr}{p:Pos}{es:List Expr}{cs:List V}(hg:Gl X x)(hm:X.mg x=some (.ref a))(h:PA X es (fun _ H Q=>Q cs H))(hd:(x == ("__debug__":Str))=false:=by decide)
  (hs:starEach (.Name x p::es) X.env=(false,eval (.Name x p) X.env)::starEach es X.env:=by rfl):PA X (.Name x p::es) (fun _ H Q=>Q (.ref a::cs) H):=ap (kd (v:=.ref a) hg hm rfl hd) h hs
section
variable {X:Cx} {a b:Expr} {pos:Pos}
end
end L2
namespace My
open PySem PySem.Spec PyProof.Rows L2
noncomputable section
def top (i:Nat):Stmt:=PySem.Challenge.pw_tieword_k16_made_of.main.body.getD i (.Pass ⟨0,0,0,0⟩)
abbrev nc:Stmt:=top 16
abbrev lW:Stmt:=top 15
abbrev m8:Stmt:=top 17
abbrev lJ:Stmt:=top 18
abbrev lc:Stmt:=top 19
abbrev gE:Stmt:=top 10
abbrev lx:Stmt:=top 11
abbrev fK:Stmt:=top 7
abbrev iC:Stmt:=top 12
abbrev kL:Stmt:=top 13
abbrev l6:Stmt:=top 20
abbrev ii:Stmt:=top 21
set_option genInjectivity false
set_option genSizeOf false
set_option genSizeOfSpec false
structure Adr where
 C:Addr
 f_q7:Addr
 d_q7:FuncData
 f_q3:Addr
 d_q3:FuncData
 f_q5:Addr
 d_q5:FuncData
 f_q4:Addr
 d_q4:FuncData
 f_q8:Addr
 d_q8:FuncData
 f_q11:Addr
 d_q11:FuncData
 f_q0:Addr
 d_q0:FuncData
 f_q10:Addr
 d_q10:FuncData
 f_q1:Addr
 d_q1:FuncData
 f_q9:Addr
 d_q9:FuncData
 f_q6:Addr
 d_q6:FuncData
 f_q2:Addr
 d_q2:FuncData
 tk_MOST_TOLD:Tok
 tb:Addr
 cc:Addr
 x_WebError:Addr
 x_TooMany:Addr
 x_BadOrder:Addr
 x_BadText:Addr
 x_TooGreat:Addr
structure Txt (K:PySem.W.Frag) (mg:Str→Option Value) (t:Adr):Prop where
 fn_q7:Fun K "_law_some" "_law_some" nc t.f_q7 t.d_q7
 bd_q7:Binds K t.d_q7 ["_law_number", "_law_prime", "_law_many"] []
 g_q7:mg "_law_some"=some (.ref t.f_q7)
 fn_q3:Fun K "_law_cell" "_law_cell" lW t.f_q3 t.d_q3
 bd_q3:Binds K t.d_q3 ["_law_cells", "_law_k"] []
 g_q3:mg "_law_cell"=some (.ref t.f_q3)
 fn_q5:Fun K "_law_order" "_law_order" m8 t.f_q5 t.d_q5
 bd_q5:Binds K t.d_q5 ["_law_cells", "_law_size", "_law_prime"] []
 g_q5:mg "_law_order"=some (.ref t.f_q5)
 fn_q4:Fun K "_law_one" "_law_one" lJ t.f_q4 t.d_q4
 bd_q4:Binds K t.d_q4 ["_law_cells", "_law_size", "_law_k"] []
 g_q4:mg "_law_one"=some (.ref t.f_q4)
 fn_q8:Fun K "_law_walked" "_law_walked" lc t.f_q8 t.d_q8
 bd_q8:Binds K t.d_q8 ["_law_size", "_law_rows"] []
 g_q8:mg "_law_walked"=some (.ref t.f_q8)
 fn_q11:Fun K "stay" "stay" gE t.f_q11 t.d_q11
 bd_q11:Binds K t.d_q11 ["size"] []
 g_q11:mg "stay"=some (.ref t.f_q11)
 fn_q0:Fun K "both" "both" lx t.f_q0 t.d_q0
 bd_q0:Binds K t.d_q0 ["one", "other"] []
 g_q0:mg "both"=some (.ref t.f_q0)
 fn_q10:FunD K "reached" "reached" fK t.f_q10 t.d_q10
 bd_q10:Binds K t.d_q10 ["starts", "onward", "most"] []
 g_q10:mg "reached"=some (.ref t.f_q10)
 fn_q1:FunE K "come_of" "come_of" iC t.f_q1 t.d_q1 t.cc
 bd_q1:Binds K t.d_q1 ["size", "turnings", "most"] []
 g_q1:mg "come_of"=some (.ref t.f_q1)
 fn_q9:Fun K "made_of" "made_of" kL t.f_q9 t.d_q9
 bd_q9:Binds K t.d_q9 ["size", "turnings"] []
 g_q9:mg "made_of"=some (.ref t.f_q9)
 fn_q6:Fun K "_law_refused" "_law_refused" l6 t.f_q6 t.d_q6
 bd_q6:Binds K t.d_q6 ["_law_size", "_law_rows"] []
 g_q6:mg "_law_refused"=some (.ref t.f_q6)
 fn_q2:Fun K "law" "law" ii t.f_q2 t.d_q2
 bd_q2:Binds K t.d_q2 ["_law_script"] []
 g_q2:mg "law"=some (.ref t.f_q2)
 b_ValueError:mg "ValueError"=none
 b_all:mg "all"=none
 b_bool:mg "bool"=none
 b_dict:mg "dict"=none
 b_enumerate:mg "enumerate"=none
 b_int:mg "int"=none
 b_isinstance:mg "isinstance"=none
 b_len:mg "len"=none
 b_list:mg "list"=none
 b_min:mg "min"=none
 b_range:mg "range"=none
 b_sorted:mg "sorted"=none
 b_tuple:mg "tuple"=none
 c_MOST_TOLD:mg "MOST_TOLD"=some (.int 720 t.tk_MOST_TOLD)
 mx_WebError:mg "WebError"=some (.ref t.x_WebError)
 mx_TooMany:mg "TooMany"=some (.ref t.x_TooMany)
 mx_BadOrder:mg "BadOrder"=some (.ref t.x_BadOrder)
 mx_BadText:mg "BadText"=some (.ref t.x_BadText)
 mx_TooGreat:mg "TooGreat"=some (.ref t.x_TooGreat)
 exC:ExC K t.x_TooMany
 k1:PySem.W.kitOne K (.ref t.x_TooMany) (.ref t.x_TooMany)=some true
 k2:PySem.W.kitOne K (.ref t.x_TooMany) (.type "ValueError")=some true
 k3:PySem.W.kitAny K (.ref t.x_TooMany) [.ref t.x_BadOrder,.ref t.x_BadText,.ref t.x_TooGreat]=some false
 xm:PySem.W.exmOne K (.ref t.x_TooMany) (.ref t.x_WebError)=some true
 xi:PySem.W.excIn K t.x_TooMany oM "ValueError.__new__"=true
 ch:PySem.W.codeHdIn K t.cc t.tb=true
def qU:Expr:=match defBody iC with | [_,.Return (some (.Call _ [_,l,_] _ _)) _]=>l | _=>.Constant .none 0 ⟨0,0,0,0⟩
def yP:Arguments:=match qU with | .Lambda p _ _ _=>p | _=>defArgs iC
def yN:Expr:=match qU with | .Lambda _ b _ _=>b | _=>qU
def sB:Scope:=match qU with | .Lambda _ _ s _=>s | _=>defScope iC
def lamQ:Pos:=match qU with | .Lambda _ _ _ q=>q | _=>⟨0,0,0,0⟩
def vt:LamS:=⟨"come_of.<locals>.<lambda>",yP,yN,sB, "made", "turnings",true⟩
def lamW (t:Addr):LamW:=⟨vt,t,lamQ⟩
theorem wb:vt.Ok:=⟨rfl,rfl,rfl,rfl,rfl,rfl,fun y h=>⟨(by decide +kernel:∀ p∈sB.names,p.2=.cell→p.1 = "made") _ (Zh h) rfl,rfl⟩,nofun,fun _ _ _=>rfl,fun _ _=>rfl,fun y h=>(by decide +kernel:∀ p∈sB.names,p.2=.free→p.1 = "turnings") _ (Zh h) rfl,fun _ _ _ _ _=>rfl⟩
variable {P:Program} {w:World} {K:Kq} {mg:Ks} {base:Heap} {t:Adr}
abbrev za:List Str:=["_law_number", "_law_prime", "_law_many"]
theorem xA:FnScope za ["_law_number", "_law_prime", "_law_many"] (defScope nc):=⟨rfl,rfl,rfl,by decide +kernel,rfl,by decide +kernel,by decide +kernel⟩
def g_q7 (C:Addr):DF→Option RES:=
  (eM (d2 dI (d2 dI (d2 mX (d2 dI (d2 dq (aa 0) (fun _=>some (.int 1))) (fun _=>some (.int 2147483647))) (fun _=>some (.int 48271))) (aa 1)) (aa 2)))
def cC (C:Addr):List DV→Option DV:=mOf 3 3 (g_q7 C)
theorem jj (T:Txt K mg t):FnOk P w K mg base CX0 1 t.f_q7 t.d_q7 ["_law_number", "_law_prime", "_law_many"] (spD K (cC t.C)):=
 T.fn_q7.okD xA fun cdv A outer s H E hr=>(aG (ip (da (PDE.r (da (PDE.r (qq (PDE.r (da (PDE.r (di (al 0 (pv 0)) (PDE.r am))) (PDE.r am))) (PDE.r am))) (al 1 (pv 1)))) (al 2 (pv 2)))))
abbrev zx:List Str:=["_law_cells", "_law_k"]
theorem xQ:FnScope zx ["_law_cells", "_law_k"] (defScope lW):=⟨rfl,rfl,rfl,by decide +kernel,rfl,by decide +kernel,by decide +kernel⟩
def g_q3 (C:Addr):DF→Option RES:=
  (aw (dIf (asB (d2 ltd (aj 1) (d1 bn (aj 0)))) (eM (d2 ixD (aa 0) (aa 1))) dNx)
  (eM (fun _=>some (.int 0))))
def cQ (C:Addr):List DV→Option DV:=mOf 2 2 (g_q3 C)
theorem jk (T:Txt K mg t):FnOk P w K mg base CX0 1 t.f_q3 t.d_q3 ["_law_cells", "_law_k"] (spD K (cQ t.C)):=
 T.fn_q3.okD xQ fun cdv A outer s H E hr=>(ao (dD (mo hr.h64 (aP 1 (pv 1)) (PDE.n (du rfl T.b_len (aP 0 (pv 0))))) (aG (ip (iO (al 0 (pv 0)) (al 1 (pv 1))))) bv) (aG (ip am)))
abbrev zd:List Str:=["_law_cells", "_law_size", "_law_prime", "_law_left", "_law_order_here", "_law_k"]
theorem nR:FnScope zd ["_law_cells", "_law_size", "_law_prime"] (defScope m8):=⟨rfl,rfl,rfl,by decide +kernel,rfl,by decide +kernel,by decide +kernel⟩
def g_q5 (C:Addr):DF→Option RES:=
  (aw (a9 3 (asL (en (getV 1))))
  (aw (a9 4 (asL lU))
  (aw (jx (iF (aa 1)) (setV 5) (dN 4 3 (ay (cC C) (aV (d2 dq (ay (cQ C) (aB 0 (aB 5 (fun _=>some [])))) (d2 mX (aa 5) (aa 5))) (aB 2 (aV (d1 bn (aj 3)) (fun _=>some [])))))))
  (hJ 4))))
def tz (C:Addr):List DV→Option DV:=mOf 6 3 (g_q5 C)
theorem xx (T:Txt K mg t):FnOk P w K mg base CX0 2 t.f_q5 t.d_q5 ["_law_cells", "_law_size", "_law_prime"] (spD K (tz t.C)):=
 T.fn_q5.okD nR fun cdv A outer s H E hr=>(ao (bO (i:=3) nR.nd rfl (.inl rfl) (cP rfl rfl T.b_list rfl T.b_range (au 1 (pv 1)))) (ao (bO (i:=4) nR.nd rfl (.inl rfl) (jO fX)) (ao (ms ZS rfl (eE rfl T.b_range (al 1 (pv 1))) (aZ (i:=5) nR.nd rfl (.inl rfl)) (aG (oU 4 3 (pv 4) (pv 3) (be (jj T) (hr.mono (by decide)) rfl T.g_q7 T.fn_q7.kp T.bd_q7 (aC (di (PDE.r (be (jk T) (hr.mono (by decide)) rfl T.g_q3 T.fn_q3.kp T.bd_q3 (dJ 0 (pv 0) (dJ 5 (pv 5) aJ)))) (PDE.r (qq (al 5 (pv 5)) (al 5 (pv 5))))) (dJ 2 (pv 2) (aC (du rfl T.b_len (aP 3 (pv 3))) aJ))))))) (aG (gh 4 (pv 4))))))
abbrev xW:List Str:=["_law_cells", "_law_size", "_law_k", "_law_number", "_law_pick", "_law_row", "_law_run", "_law_one_here", "_law_other"]
theorem eV:FnScope xW ["_law_cells", "_law_size", "_law_k"] (defScope lJ):=⟨rfl,rfl,rfl,by decide +kernel,rfl,by decide +kernel,by decide +kernel⟩
def g_q4 (C:Addr):DF→Option RES:=
  (aw (bC 3 (ay (cC C) (aV (d2 dq (ay (cQ C) (aB 0 (aV (d2 dq (fun _=>some (.int 2)) (aa 2)) (fun _=>some [])))) (aa 2)) (aV (fun _=>some (.int 10111)) (aV (fun _=>some (.int 10000)) (fun _=>some []))))))
  (aw (bC 4 (d2 dI (aa 3) (fun _=>some (.int 6))))
  (aw (a9 5 (asL (en (getV 1))))
  (aw (dIf (asB (d2 ltd (aj 4) (fun _=>some (.int 2)))) (aw (bC 6 (d2 dq (fun _=>some (.int 1)) (d2 dI (d2 dB (aa 3) (fun _=>some (.int 6))) (aa 1))))
  (a9 5 (asL (ou (asO (asL (az 1 [3,6] (iF (aa 6)) (setV 0) bf (d2 dI (d2 dq (aa 0) (d2 dB (aa 1) (fun _=>some (.int 42)))) (aa 2))))) (asO (asL (slL (aa 5) (bI (getV 6)) bNo))))))) dNx)
  (aw (dIf (asB (d2 eqD (aj 4) (fun _=>some (.int 2)))) (aw (bC 7 (d2 dI (d2 dB (aa 3) (fun _=>some (.int 6))) (aa 1)))
  (aw (bC 8 (d2 dI (d2 dB (aa 3) (fun _=>some (.int 42))) (aa 1)))
  (aw (df 5 (getV 7) (getV 8))
  (df 5 (getV 8) (getV 7))))) dNx)
  (aw (dIf (asB (d2 eqD (aj 4) (fun _=>some (.int 3)))) (sX 5) dNx)
  (aw (dIf (asB (d2 eqD (aj 4) (fun _=>some (.int 4)))) (a9 5 (bZ (tz C) (aV (asO (asL (slL (aa 0) (bI (getV 2)) bNo))) (aV (getV 1) (aV (fun _=>some (.int 10133)) (fun _=>some [])))))) dNx)
  (hJ 5))))))))
def oB (C:Addr):List DV→Option DV:=mOf 9 3 (g_q4 C)
theorem xC (T:Txt K mg t):FnOk P w K mg base CX0 3 t.f_q4 t.d_q4 ["_law_cells", "_law_size", "_law_k"] (spD K (oB t.C)):=
 T.fn_q4.okD eV fun cdv A outer s H E hr=>(ao (bA (i:=3) eV.nd rfl (.inr rfl) (be (jj T) (hr.mono (by decide)) rfl T.g_q7 T.fn_q7.kp T.bd_q7 (aC (di (PDE.r (be (jk T) (hr.mono (by decide)) rfl T.g_q3 T.fn_q3.kp T.bd_q3 (dJ 0 (pv 0) (aC (di (PDE.r am) (al 2 (pv 2))) aJ)))) (al 2 (pv 2))) (aC am (aC am aJ))))) (ao (bA (i:=4) eV.nd rfl (.inl rfl) (da (al 3 (pv 3)) (PDE.r am))) (ao (bO (i:=5) eV.nd rfl (.inl rfl) (cP rfl rfl T.b_list rfl T.b_range (au 1 (pv 1)))) (ao (dD (mo hr.h64 (aP 4 (pv 4)) (PDE.n am)) (ao (bA (i:=6) eV.nd rfl (.inr rfl) (di (PDE.r am) (PDE.r (da (PDE.r (gp (al 3 (pv 3)) (PDE.r am))) (al 1 (pv 1)))))) (aG (bO (i:=5) eV.nd rfl (.inl rfl) (sK (PDE.r (PDO.v (cw (N:=["_law_place", "_law_number", "_law_run"]) (own:=1) (ix:=[3,6]) (is:=[0]) rfl (d7 (defScope lJ) rfl (by decide +kernel)) (eh xW rfl (by decide +kernel)) (cN (by decide)) (eE rfl T.b_range (al 6 (pv 6))) (fun _ _ _ _=>(aZ (i:=0) (show (["_law_place", "_law_number", "_law_run"]:List Str).Nodup from by decide +kernel) rfl (.inl rfl))) (fun _ _ _ _=>d3) (fun _ _ _ _=>(da (PDE.r (di (al 0 (pv 0)) (PDE.r (gp (al 1 (pv 1)) (PDE.r am))))) (al 2 (pv 2)))) (by decide +kernel)))) (PDE.r (PDO.v (iP (al 5 (pv 5)) (uH (au 6 (pv 6))) pH))))))) bv) (ao (dD (lD hr.h64 (aP 4 (pv 4)) (PDE.n am)) (ao (bA (i:=7) eV.nd rfl (.inl rfl) (da (PDE.r (gp (al 3 (pv 3)) (PDE.r am))) (al 1 (pv 1)))) (ao (bA (i:=8) eV.nd rfl (.inl rfl) (da (PDE.r (gp (al 3 (pv 3)) (PDE.r am))) (al 1 (pv 1)))) (ao (im 5 (pv 5) (au 7 (pv 7)) (au 8 (pv 8))) (aG (im 5 (pv 5) (au 8 (pv 8)) (au 7 (pv 7))))))) bv) (ao (dD (lD hr.h64 (aP 4 (pv 4)) (PDE.n am)) (aG (wv 5 (pv 5))) bv) (ao (dD (lD hr.h64 (aP 4 (pv 4)) (PDE.n am)) (aG (bO (i:=5) eV.nd rfl (.inl rfl) (lg (xx T) (hr.mono (by decide)) rfl T.g_q5 T.fn_q5.kp T.bd_q5 (aC (PDO.v (iP (al 0 (pv 0)) (uH (au 2 (pv 2))) pH)) (aC (au 1 (pv 1)) (aC am aJ)))))) bv) (aG (gh 5 (pv 5))))))))))
abbrev wT:List Str:=["_law_size", "_law_rows", "_law_first", "_law_seen", "_law_waiting", "_law_here", "_law_row", "_law_led"]
theorem gG:FnScope wT ["_law_size", "_law_rows"] (defScope lc):=⟨rfl,rfl,rfl,by decide +kernel,rfl,by decide +kernel,by decide +kernel⟩
def g_q8 (C:Addr):DF→Option RES:=
  (aw (bC 2 (p8 (getV 0)))
  (aw (a9 3 (j5 (getV 2) (fun _=>some (.bl true))))
  (aw (a9 4 (asL (d9 (getV 2) lU)))
  (aw (bz (bV (asB (d2 gtI (d1 bn (aj 4)) (fun _=>some (.int 0)))) (asB (d2 leI (d1 fg (aa 3)) (fun _=>some (.int 720))))) (aw (gm 5 4)
  (jx (cY 1) (setV 6) (aw (bC 7 (d1 cB (asO (asL (az 1 [6] (cF (getV 5)) (setV 0) bf (d2 ixD (aa 1) (aa 0)))))))
  (dIf (asB (d2 (cI true) (getV 7) (aa 3))) (aw (d8 3 (getV 7) (fun _=>some (.bl true)))
  (kq 4 (getV 7))) dNx)))) 1000)
  (hJ 3)))))
def sf (C:Addr):List DV→Option DV:=mOf 8 2 (g_q8 C)
theorem xh (T:Txt K mg t):FnOk P w K mg base CX0 1 t.f_q8 t.d_q8 ["_law_size", "_law_rows"] (spD K (sf t.C)):=
 T.fn_q8.okD gG fun cdv A outer s H E hr=>(ao (bA (i:=2) gG.nd rfl (.inl rfl) (lB rfl rfl T.b_tuple rfl T.b_range (au 0 (pv 0)))) (ao (bO (i:=3) gG.nd rfl (.inl rfl) (pj hr.h64 (au 2 (pv 2)) lf)) (ao (bO (i:=4) gG.nd rfl (.inl rfl) (jO (eO (au 2 (pv 2)) fX))) (ao (lH 1000 ZS (PDW.t (gf (iZ (PDE.r (du rfl T.b_len (aP 4 (pv 4)))) (PDE.r am)) (eT (uM (PDE.r (j_ rfl T.b_len (al 3 (pv 3)))) (PDE.r am))))) (ao (o_ (ix:=5) 4 gG.nd rfl (.inl rfl) (pv 4)) (aG (ms ZS rfl (gu 1 (pv 1)) (aZ (i:=6) gG.nd rfl (.inr rfl)) (ao (bA (i:=7) gG.nd rfl (.inl rfl) (fm rfl T.b_tuple (PDE.r (PDO.v (cw (N:=["_law_place", "_law_row"]) (own:=1) (ix:=[6]) (is:=[0]) rfl (d7 (defScope lc) rfl (by decide +kernel)) (eh wT rfl (by decide +kernel)) (cN (by decide)) (nU (au 5 (pv 5))) (fun _ _ _ _=>(aZ (i:=0) (show (["_law_place", "_law_row"]:List Str).Nodup from by decide +kernel) rfl (.inl rfl))) (fun _ _ _ _=>d3) (fun _ _ _ _=>(iO (al 1 (pv 1)) (al 0 (pv 0)))) (by decide +kernel)))))) (aG (dD (gP hr.h64 (au 7 (pv 7)) (al 3 (pv 3))) (ao (nD 3 hr.h64 (pv 3) (au 7 (pv 7)) lf) (aG (iK 4 (pv 4) (au 7 (pv 7))))) bv))))))) (aG (gh 3 (pv 3)))))))
abbrev xG:List Str:=["size"]
theorem wN:FnScope xG ["size"] (defScope gE):=⟨rfl,rfl,rfl,by decide +kernel,rfl,by decide +kernel,by decide +kernel⟩
def g_q11 (C:Addr):DF→Option RES:=
  (iU (asL (en (getV 0))))
def k9 (C:Addr):List DV→Option DV:=mOf 1 1 (g_q11 C)
theorem wK (T:Txt K mg t):FnOk P w K mg base CX0 1 t.f_q11 t.d_q11 ["size"] (spD K (k9 t.C)):=
 T.fn_q11.okD wN fun cdv A outer s H E hr=>(aG (jK (cP rfl rfl T.b_list rfl T.b_range (au 0 (pv 0)))))
abbrev xI:List Str:=["one", "other"]
theorem yb:FnScope xI ["one", "other"] (defScope lx):=⟨rfl,rfl,rfl,by decide +kernel,rfl,by decide +kernel,by decide +kernel⟩
def g_q0 (C:Addr):DF→Option RES:=
  (iU (asL (az 1 [1] (cF (getV 0)) (setV 0) bf (d2 ixD (aa 1) (aa 0)))))
def lh (C:Addr):List DV→Option DV:=mOf 2 2 (g_q0 C)
theorem xv (T:Txt K mg t):FnOk P w K mg base CX0 1 t.f_q0 t.d_q0 ["one", "other"] (spD K (lh t.C)):=
 T.fn_q0.okD yb fun cdv A outer s H E hr=>(aG (jK (cw (N:=["place", "other"]) (own:=1) (ix:=[1]) (is:=[0]) rfl (d7 (defScope lx) rfl (by decide +kernel)) (eh xI rfl (by decide +kernel)) (cN (by decide)) (nU (au 0 (pv 0))) (fun _ _ _ _=>(aZ (i:=0) (show (["place", "other"]:List Str).Nodup from by decide +kernel) rfl (.inl rfl))) (fun _ _ _ _=>d3) (fun _ _ _ _=>(iO (al 1 (pv 1)) (al 0 (pv 0)))) (by decide +kernel))))
abbrev uT:List Str:=["starts", "onward", "most", "found", "known", "done", "at", "thing"]
theorem eF:FnScope uT ["starts", "onward", "most"] (defScope fK):=⟨rfl,rfl,rfl,by decide +kernel,rfl,by decide +kernel,by decide +kernel⟩
def fL (C:Addr):DF→Option D:=(asO (asL (az 1 [0] (cY 1) (setV 0) bf (d1 cB (ay (lh C) (aV (getV 1) (aB 0 (fun _=>some []))))))))
def g_q10 (C:Addr)(a0:Addr)(v0:V)(_:D):DF→Option RES:=
  (aw (a9 3 (asL (bX (aa 0))))
  (aw (a9 4 (pB 3 (jH (az 1 [] (cY 3) (setV 0) bf (asT (d9 (getV 0) (d9 (fun _=>some (.bl true)) lU)))))))
  (aw (bC 5 (fun _=>some (.int 0)))
  (aw (bz (bV (asB (d2 ltd (aj 5) (d1 bn (aj 3)))) (orT (lO 2) (asB (d2 leI (d1 bn (aj 3)) (aa 2))))) (aw (bC 6 (d2 ixD (aa 3) (aa 5)))
  (aw (jx (aW (gO 1 a0 v0 (fL C) (getV 6))) (setV 7) (dIf (asB (d2 (cI true) (getV 7) (aa 4))) (aw (d8 4 (getV 7) (fun _=>some (.bl true)))
  (kq 3 (getV 7))) dNx))
  (uj 5 (fun _=>some (.int 1))))) 1000)
  (hJ 3)))))
theorem vv (T:Txt K mg t):qZ P w K mg base 3 t.f_q10 t.d_q10 ["starts", "onward", "most"] (spR (lamW t.tb) K 8 (g_q10 t.C)):=
 T.fn_q10.okR eF rfl fun cdv A outer s H E f c' c uc vc dc hr li rc=>(ao (bO (i:=3) eF.nd rfl (.inl rfl) (eU rfl T.b_list (al 0 (pv 0)))) (ao (bO (i:=4) eF.nd rfl (.inl rfl) (qx 3 (mS hr.h64 rfl rfl T.b_dict (cw (N:=["thing"]) (own:=1) (ix:=[]) (is:=[0]) rfl (d7 (defScope fK) rfl (by decide +kernel)) (eh uT rfl (by decide +kernel)) (cN (by decide)) (gu 3 (pv 3)) (fun _ _ _ _=>(aZ (i:=0) (show (["thing"]:List Str).Nodup from by decide +kernel) rfl (.inl rfl))) (fun _ _ _ _=>d3) (fun _ _ _ _=>(we (eO (au 0 (pv 0)) (eO lf fX)))) (by decide +kernel))))) (ao (bA (i:=5) eF.nd rfl (.inl rfl) am) (ao (lH 1000 ZS (PDW.t (gf (mo hr.h64 (aP 5 (pv 5)) (PDE.n (du rfl T.b_len (aP 3 (pv 3))))) (eT (PDW.t (jS (tT 2 (pv 2)) (j3 (uM (PDE.r (du rfl T.b_len (aP 3 (pv 3)))) (al 2 (pv 2))))))))) (ao (bA (i:=6) eF.nd rfl (.inl rfl) (iO (al 3 (pv 3)) (al 5 (pv 5)))) (ao (ms ZS rfl (gk (p9 (v0:=vc) (k:=1) wb li rc (hr.mono (by decide)) rfl (by first | exact Or.inl rfl | exact Or.inr (Or.inl rfl)) (au 6 (pv 6)) (fun s_ _ _=>have hr:=Room.deeper (k:=1) (hr.mono (by decide)) (cA vt s_ f c' c);(PDO.v (cw (N:=["turning", "made"]) (own:=1) (ix:=[0]) (is:=[0]) rfl (d7 sB rfl (by decide +kernel)) (eh ["made", "turnings"] rfl (by decide +kernel)) (cN (by decide)) (gu 1 (pv 1)) (fun _ _ _ _=>(aZ (i:=0) (show (["turning", "made"]:List Str).Nodup from by decide +kernel) rfl (.inl rfl))) (fun _ _ _ _=>d3) (fun _ _ _ _=>(fm rfl T.b_tuple (PDE.r (be (xv T) (hr.mono (by decide)) rfl T.g_q0 T.fn_q0.kp T.bd_q0 (aC (au 1 (pv 1)) (dJ 0 (pv 0) aJ)))))) (by decide +kernel)))))) (aZ (i:=7) eF.nd rfl (.inl rfl)) (aG (dD (gP hr.h64 (au 7 (pv 7)) (al 4 (pv 4))) (ao (nD 4 hr.h64 (pv 4) (au 7 (pv 7)) lf) (aG (iK 3 (pv 3) (au 7 (pv 7))))) bv))) (aG (u8 (ix:=5) eF.nd rfl (.inl rfl) am))))) (aG (gh 3 (pv 3)))))))
abbrev yW:List Str:=["size", "turnings", "most", "start"]
theorem uJ:FnScope yW ["size", "turnings", "most"] (defScope iC):=⟨rfl,rfl,rfl,by decide +kernel,rfl,by decide +kernel,by decide +kernel⟩
def g_q1 (C:Addr):DF→Option RES:=
  (aw (bC 3 (d1 cB (ay (k9 C) (aV (getV 0) (fun _=>some [])))))
  (rX 1 2 8 (g_q10 C) (asO (asL (d9 (getV 3) lU)))))
def lG (C:Addr):List DV→Option DV:=mOf 4 3 (g_q1 C)
theorem uG (T:Txt K mg t)(hB:base.BuiltinsAt mg t.tb):FnOk P w K mg base CX0 4 t.f_q1 t.d_q1 ["size", "turnings", "most"] (spT (lamW t.tb) K (lG t.C)):=
 T.fn_q1.okT uJ fun A outer s H E hr=>(aO (b5 (bA (i:=3) uJ.nd rfl (.inl rfl) (fm rfl T.b_tuple (PDE.r (be (wK T) (hr.mono (by decide)) rfl T.g_q11 T.fn_q11.kp T.bd_q11 (aC (au 0 (pv 0)) aJ)))))) (gs (sC (W:=lamW t.tb) (c:=s.heap.objs.size+1) (j:=1) (j2:=2) (vv T) rfl (hr.mono (by decide)) rfl T.g_q10 T.fn_q10.kp T.bd_q10 (PDO.v (jO (eO (au 3 (pv 3)) fX))) rfl (.inl rfl) rfl rfl rfl rfl rfl rfl T.ch rfl rfl hB)))
abbrev xD:List Str:=["size", "turnings", "made"]
theorem nI:FnScope xD ["size", "turnings"] (defScope kL):=⟨rfl,rfl,rfl,by decide +kernel,rfl,by decide +kernel,by decide +kernel⟩
def g_q9 (C:Addr):DF→Option RES:=
  (aw (a9 2 (bZ (lG C) (aV (getV 0) (aV (getV 1) (aV (fun _=>some (.int 720)) (fun _=>some []))))))
  (aw (dIf (asB (d2 gtI (d1 bn (aj 2)) (fun _=>some (.int 720)))) uV dNx)
  (iU (qD (az 1 [] (aW (asO (asL (iN (aa 2))))) (setV 0) bf fun ρ=>((bX (aa 0)) ρ).map .lst)))))
def rJ (C:Addr):List DV→Option DV:=mOf 3 2 (g_q9 C)
theorem xP (T:Txt K mg t)(hB:base.BuiltinsAt mg t.tb):FnOk P w K mg base CX0 5 t.f_q9 t.d_q9 ["size", "turnings"] (spT (lamW t.tb) K (rJ t.C)):=
 T.fn_q9.okT nI fun cdv A outer s H E hr=>(aO (jG (i:=2) nI.nd rfl (.inl rfl) (uG T hB) (hr.mono (by decide)) rfl T.g_q1 T.fn_q1.kp T.bd_q1 (aC (au 0 (pv 0)) (aC (au 1 (pv 1)) (aC (fV rfl T.c_MOST_TOLD) aJ)))) (aO (b5 (dD (iZ (PDE.r (du rfl T.b_len (aP 2 (pv 2)))) (PDE.r (fV rfl T.c_MOST_TOLD))) (aG pQ) bv)) (gs (b5 (jK (n_ (N:=["turning"]) (own:=1) (ix:=[]) (is:=[0]) rfl (d7 (defScope kL) rfl (by decide +kernel)) (eh xD rfl (by decide +kernel)) (cN (by decide)) (gk (PDO.v (lP hr.h64 rfl T.b_sorted (al 2 (pv 2))))) (fun _ _ _ _=>(aZ (i:=0) (show (["turning"]:List Str).Nodup from by decide +kernel) rfl (.inl rfl))) (fun _ _ _ _=>d3) (fun _ _ _ _=>(eU rfl T.b_list (al 0 (pv 0)))) (by decide +kernel)))))))
def cu (C:Addr):List DV→Bool:=je 3 2 (a9 2 (bZ (lG C) (aV (getV 0) (aV (getV 1) (aV (fun _=>some (.int 720)) (fun _=>some [])))))) (asB (d2 gtI (d1 bn (aj 2)) (fun _=>some (.int 720))))
theorem lE (T:Txt K mg t)(hB:base.BuiltinsAt mg t.tb):FnOk P w K mg base (CXr P w t.x_TooMany) 5 t.f_q9 t.d_q9 ["size", "turnings"] (pC (lamW t.tb) K t.x_TooMany (cu t.C)):=
 T.fn_q9.thr2T nI rfl (fun cdv A outer s H E hr=>(jG (i:=2) nI.nd rfl (.inl rfl) (uG T hB) (hr.mono (by decide)) rfl T.g_q1 T.fn_q1.kp T.bd_q1 (aC (au 0 (pv 0)) (aC (au 1 (pv 1)) (aC (fV rfl T.c_MOST_TOLD) aJ))))) (fun cdv A outer s H E hr=>(iZ (PDE.r (du rfl T.b_len (aP 2 (pv 2)))) (PDE.r (fV rfl T.c_MOST_TOLD)))) rfl T.mx_TooMany T.xi
abbrev zy:List Str:=["_law_size", "_law_rows", "_law_caught", "e"]
theorem qB:FnScope zy ["_law_size", "_law_rows"] (defScope l6):=⟨rfl,rfl,rfl,by decide +kernel,rfl,by decide +kernel,by decide +kernel⟩
def g_q6 (C:Addr):DF→Option RES:=
  (aw (bC 2 (fun _=>some .non))
  (qt (aV (getV 0) (aV (getV 1) (fun _=>some []))) (cu C)))
def l8 (C:Addr):List DV→Option DV:=mOf 4 2 (g_q6 C)
theorem xY (T:Txt K mg t)(hB:base.BuiltinsAt mg t.tb):FnOk P w K mg base CX0 6 t.f_q6 t.d_q6 ["_law_size", "_law_rows"] (spT (lamW t.tb) K (l8 t.C)):=
 T.fn_q6.okT qB fun cdv A outer s H E hr=>(aO (b5 (bA (i:=2) qB.nd rfl (.inl rfl) u7)) (pX (ie:=3) (ic:=2) (fun _ _ z=>z) (lE T hB) (hr.mono (by decide)) rfl T.g_q9 T.fn_q9.kp T.bd_q9 (aC (au 0 (pv 0)) (aC (au 1 (pv 1)) aJ)) rfl rfl rfl T.mx_WebError T.xm qB.nd rfl rfl rfl rfl (by decide) (fun a ob hob=>sR (cs:=[t.x_BadOrder,t.x_BadText,t.x_TooGreat].map .ref) (cvs:=[t.x_BadOrder,t.x_BadText,t.x_TooGreat].map .ref) rfl rfl T.exC hob rfl T.b_isinstance rfl T.mx_TooMany rfl T.b_ValueError T.k1 T.k2 T.k3 (i8 _) (show 3≤sizeLine from by decide) (qO rfl T.mx_BadOrder (qO rfl T.mx_BadText (qO rfl T.mx_TooGreat xE))))))
abbrev p5:List Str:=["_law_script", "_law_cells", "_law_size", "_law_many", "_law_rows", "_law_handed", "_law_seen", "_law_found", "_law_k", "_law_row"]
theorem dm:FnScope p5 ["_law_script"] (defScope ii):=⟨rfl,rfl,rfl,by decide +kernel,rfl,by decide +kernel,by decide +kernel⟩
def g_q2 (C:Addr):DF→Option RES:=
  (aw (bC 1 (asO (asL (az 1 [] (cY 0) (setV 0) bf (d2 dI (aa 0) (d2 r8 (fun _=>some (.int 10)) (fun _=>some (.int 40))))))))
  (aw (bC 2 (d2 dq (fun _=>some (.int 1)) (ay (cC C) (aV (ay (cQ C) (aB 1 (aV (fun _=>some (.int 0)) (fun _=>some [])))) (aV (fun _=>some (.int 10061)) (aV (fun _=>some (.int 7)) (fun _=>some [])))))))
  (aw (bC 3 (ay (cC C) (aV (ay (cQ C) (aB 1 (aV (fun _=>some (.int 1)) (fun _=>some [])))) (aV (fun _=>some (.int 10067)) (aV (fun _=>some (.int 5)) (fun _=>some []))))))
  (aw (dIf (asB (d2 eqD (ay (cC C) (aV (ay (cQ C) (aB 1 (aV (fun _=>some (.int 1)) (fun _=>some [])))) (aV (fun _=>some (.int 10069)) (aV (fun _=>some (.int 2)) (fun _=>some []))))) (fun _=>some (.int 0)))) (bC 3 (d2 oP (aj 3) (fun _=>some (.int 2)))) dNx)
  (aw (a9 4 (asL (az 1 [1,2] (iF (aa 3)) (setV 0) bf (ay (oB C) (aB 1 (aV (getV 2) (aV (getV 0) (fun _=>some []))))))))
  (aw (dIf (bV (asB (d2 gtI (aa 3) (fun _=>some (.int 1)))) (asB (d2 eqD (ay (cC C) (aV (ay (cQ C) (aB 1 (aV (fun _=>some (.int 1)) (fun _=>some [])))) (aV (fun _=>some (.int 10079)) (aV (fun _=>some (.int 4)) (fun _=>some []))))) (fun _=>some (.int 0))))) (df 4 (fun _=>some (.int 0)) (asO (asL (bX (d2 ixD (aa 4) (fun _=>some (.int 1))))))) dNx)
  (aw (pU 4 (bC 5 (asO (asL (az 1 [] (aW (getV 4)) (setV 0) bf (asO (asL (bX (aa 0)))))))))
  (aw (a9 6 (bZ (sf C) (aV (getV 2) (aB 4 (fun _=>some [])))))
  (aw (dIf (asB (d2 gtI (d1 fg (aa 6)) (fun _=>some (.int 720)))) (eM (dh (ay (l8 C) (aV (getV 2) (aV (getV 5) (fun _=>some [])))) (d2 eqD (aj 5) (aj 4)))) dNx)
  (aw (a9 7 (bZ (rJ C) (aV (getV 2) (aV (getV 5) (fun _=>some [])))))
  (aw (dIf (iL 7 (orT (bU (asB (d1 (br "list") (aj 7)))) (orT (asB (d2 neD (d1 bn (aj 7)) (d1 fg (aa 6)))) (asB (d2 neD (aj 5) (aj 4)))))) (eM (fun _=>some (.bl false))) dNx)
  (aw (gH 7 [8,9] (mW [8,9]) (orB (orT (bU (asB (d1 (br "list") (aj 9)))) (asB (d2 (cI true) (d1 cB (aa 9)) (aa 6)))) (orB (bV (asB (d2 gtI (aa 8) (fun _=>some (.int 0)))) (bU (asB (d2 ltL (d2 ixD (aa 7) (d2 jC (aa 8) (fun _=>some (.int 1)))) (aj 9))))) (bU (asB (d1 gD (asO (asL (az 1 [] (aW (getV 9)) (setV 0) bf (dh (d1 (br "int") (aj 0)) (fT (d1 (br "bool") (aj 0)))))))))))) false)
  (aw (dH 7 9)
  (eM (d2 eqD (aj 5) (aj 4))))))))))))))))
def xa (C:Addr):List DV→Option DV:=mOf 10 1 (g_q2 C)
theorem wS (T:Txt K mg t)(hB:base.BuiltinsAt mg t.tb):FnOk P w K mg base CX0 7 t.f_q2 t.d_q2 ["_law_script"] (spT (lamW t.tb) K (xa t.C)):=
 T.fn_q2.okT dm fun cdv A outer s H E hr=>(aO (b5 (bA (i:=1) dm.nd rfl (.inr rfl) (PDO.v (cw (N:=["_law_cell_here"]) (own:=1) (ix:=[]) (is:=[0]) rfl (d7 (defScope ii) rfl (by decide +kernel)) (eh p5 rfl (by decide +kernel)) (cN (by decide)) (gu 0 (pv 0)) (fun _ _ _ _=>(aZ (i:=0) (show (["_law_cell_here"]:List Str).Nodup from by decide +kernel) rfl (.inl rfl))) (fun _ _ _ _=>d3) (fun _ _ _ _=>(da (al 0 (pv 0)) (PDE.r (vN (PDE.r am) (PDE.r am))))) (by decide +kernel))))) (aO (b5 (bA (i:=2) dm.nd rfl (.inr rfl) (di (PDE.r am) (PDE.r (be (jj T) (hr.mono (by decide)) rfl T.g_q7 T.fn_q7.kp T.bd_q7 (aC (be (jk T) (hr.mono (by decide)) rfl T.g_q3 T.fn_q3.kp T.bd_q3 (dJ 1 (pv 1) (aC am aJ))) (aC am (aC am aJ)))))))) (aO (b5 (bA (i:=3) dm.nd rfl (.inl rfl) (be (jj T) (hr.mono (by decide)) rfl T.g_q7 T.fn_q7.kp T.bd_q7 (aC (be (jk T) (hr.mono (by decide)) rfl T.g_q3 T.fn_q3.kp T.bd_q3 (dJ 1 (pv 1) (aC am aJ))) (aC am (aC am aJ)))))) (aO (b5 (dD (lD hr.h64 (PDE.n (be (jj T) (hr.mono (by decide)) rfl T.g_q7 T.fn_q7.kp T.bd_q7 (aC (be (jk T) (hr.mono (by decide)) rfl T.g_q3 T.fn_q3.kp T.bd_q3 (dJ 1 (pv 1) (aC am aJ))) (aC am (aC am aJ))))) (PDE.n am)) (aG (bA (i:=3) dm.nd rfl (.inl rfl) (tZ rfl rfl T.b_min (aP 3 (pv 3)) (PDE.n am)))) bv)) (aO (b5 (lI (i:=4) (N:=["_law_k", "_law_cells", "_law_size"]) (own:=1) (ix:=[1,2]) (is:=[0]) dm.nd rfl (.inl rfl) rfl (d7 (defScope ii) rfl (by decide +kernel)) (eh p5 rfl (by decide +kernel)) (cN (by decide)) (eE rfl T.b_range (al 3 (pv 3))) (fun _ _ _ _=>(aZ (i:=0) (show (["_law_k", "_law_cells", "_law_size"]:List Str).Nodup from by decide +kernel) rfl (.inl rfl))) (fun _ _ _ _=>d3) (fun _ _ _ _=>(be (xC T) (hr.mono (by decide)) rfl T.g_q4 T.fn_q4.kp T.bd_q4 (dJ 1 (pv 1) (aC (au 2 (pv 2)) (aC (au 0 (pv 0)) aJ))))) (by decide +kernel))) (aO (b5 (dD (PDW.t (gf (iZ (al 3 (pv 3)) (PDE.r am)) (eT (lD hr.h64 (PDE.n (be (jj T) (hr.mono (by decide)) rfl T.g_q7 T.fn_q7.kp T.bd_q7 (aC (be (jk T) (hr.mono (by decide)) rfl T.g_q3 T.fn_q3.kp T.bd_q3 (dJ 1 (pv 1) (aC am aJ))) (aC am (aC am aJ))))) (PDE.n am))))) (aG (im 4 (pv 4) am (PDO.v (eU rfl T.b_list (PDE.r (iO (al 4 (pv 4)) (PDE.r am))))))) bv)) (aO (b5 (sO 4 (mV (i:=5) (N:=["_law_row"]) (own:=1) (ix:=[]) (is:=[0]) dm.nd rfl (.inl rfl) rfl (d7 (defScope ii) rfl (by decide +kernel)) (eh p5 rfl (by decide +kernel)) (cN (by decide)) (gk (au 4 (pv 4))) (fun _ _ _ _=>(aZ (i:=0) (show (["_law_row"]:List Str).Nodup from by decide +kernel) rfl (.inl rfl))) (fun _ _ _ _=>d3) (fun _ _ _ _=>(PDO.v (eU rfl T.b_list (al 0 (pv 0))))) (by decide +kernel)))) (aO (b5 (bO (i:=6) dm.nd rfl (.inl rfl) (lg (xh T) (hr.mono (by decide)) rfl T.g_q8 T.fn_q8.kp T.bd_q8 (aC (au 2 (pv 2)) (dJ 4 (pv 4) aJ))))) (aO (wj (iZ (PDE.r (j_ rfl T.b_len (al 6 (pv 6)))) (PDE.r am)) (gs (sP (sy (rN (xY T hB) (hr.mono (by decide)) rfl T.g_q6 T.fn_q6.kp T.bd_q6 (aC (au 2 (pv 2)) (aC (au 5 (pv 5)) aJ))) (qX (uK hr.h64 (aP 5 (pv 5)) (aP 4 (pv 4))))))) (wm bv)) (aO (jG (i:=7) dm.nd rfl (.inl rfl) (xP T hB) (hr.mono (by decide)) rfl T.g_q9 T.fn_q9.kp T.bd_q9 (aC (au 2 (pv 2)) (aC (au 5 (pv 5)) aJ))) (aO (b5 (dD (t9 7 (PDW.t (jS (gc (ko (jA rfl T.b_isinstance rfl T.b_list L2.boot_list (aP 7 (pv 7))))) (jS (uC hr.h64 (PDE.n (du rfl T.b_len (aP 7 (pv 7)))) (PDE.n (j_ rfl T.b_len (al 6 (pv 6))))) (j3 (uC hr.h64 (aP 5 (pv 5)) (aP 4 (pv 4)))))))) (aG (ip lf)) bv)) (aO (b5 (pF 7 ZS rfl rfl T.b_enumerate (pv 7) (sZ (is:=[8,9]) rfl (lj (gn (i:=8) dm.nd rfl (.inl rfl)) (lj (gn (i:=9) dm.nd rfl (.inl rfl)) ui))) (n0 (rm (PDW.t (jS (gc (ko (jA rfl T.b_isinstance rfl T.b_list L2.boot_list (aP 9 (pv 9))))) (j3 (gP hr.h64 (fm rfl T.b_tuple (al 9 (pv 9))) (al 6 (pv 6))))))) (n0 (rm (PDW.t (gf (iZ (al 8 (pv 8)) (PDE.r am)) (eT (gc (vm hr.h64 (PDE.n (iO (al 7 (pv 7)) (PDE.r (wL (al 8 (pv 8)) (PDE.r am))))) (aP 9 (pv 9)))))))) (vg (rm (gc (ko (wt rfl rfl T.b_all (PDE.n (PDO.v (cw (N:=["_law_place"]) (own:=1) (ix:=[]) (is:=[0]) rfl (d7 (defScope ii) rfl (by decide +kernel)) (eh p5 rfl (by decide +kernel)) (cN (by decide)) (gk (au 9 (pv 9))) (fun _ _ _ _=>(aZ (i:=0) (show (["_law_place"]:List Str).Nodup from by decide +kernel) rfl (.inl rfl))) (fun _ _ _ _=>d3) (fun _ _ _ _=>(vD (jA rfl T.b_isinstance rfl T.b_int L2.boot_int (aP 0 (pv 0))) (qX (vQ (jA rfl T.b_isinstance rfl T.b_bool L2.boot_bool (aP 0 (pv 0))))))) (by decide +kernel))))))))))))) (aO (b5 (me 7 9 ZS rfl (pv 7) (gn (i:=9) dm.nd rfl (.inl rfl)) (pv 9) q_)) (gs (b5 (ip (uK hr.h64 (aP 5 (pv 5)) (aP 4 (pv 4)))))))))))))))))))
end
theorem nZ {st:Dq}{body:Dw}(I:Nat→DF→Prop):∀ (ds:List D) (k:Nat) (ρ:DF),I k ρ→
  (∀ j d ρ,ds[j]?=some d→I (k+j) ρ→∃ ρ1,st d ρ=some ρ1∧∃ ρ',body ρ1=some (.nx ρ')∧I (k+j+1) ρ')→∃ ρ',fA st body ds ρ=some (.nx ρ')∧I (k+ds.length) ρ'
 | [],k,ρ,h,_=>⟨ρ,rfl,h⟩
 | d::ds,k,ρ,h,hs=>by
  obtain⟨ρ1,e1,ρ',e2,h'⟩:=hs 0 d ρ rfl h
  obtain⟨ρ2,e3,h3⟩:=nZ I ds (k+1) ρ' h' fun j d' ρ0 hj hI=>by
   have:=hs (j+1) d' ρ0 (by simpa using hj) (by rw[← Nat.add_assoc,Nat.add_right_comm];exact hI)
   rwa [show k+(j+1)+1=k+1+j+1 by omega] at this
  refine⟨ρ2,?_,by rw[Yw,show k+(ds.length+1)=k+1+ds.length by omega];exact h3⟩
  unfold fA
  rw[e1]
  simp only[e2]
  exact e3
theorem bF {st:Dq}{c:Dk}{e:Dd}{ρ:DF}{α:Type}(f:α→D)(F:α→D):∀ xs:List α,(∀ x∈xs,∃ ρ1,st (f x) ρ=some ρ1∧c ρ1=some true∧e ρ1=some (F x))→dn st c e ρ (xs.map f)=some (xs.map F)
 | [],_=>rfl
 | x::xs,h=>by
  obtain⟨ρ1,h1,h2,h3⟩:=h x Yc
  rw[YJ]
  unfold dn
  rw[h1,Ya,h2,Ya,Yk rfl,h3,Ya,bF f F xs fun y hy=>h y (Yb _ hy)]
  rfl
theorem i7 {st:Dq}{c:Dk}{e:Dd}{ρ:DF}{α:Type}(f:α→D)(G:α→Prop):∀ ds:List D,(∀ d∈ds,∃ ρ1,st d ρ=some ρ1∧c ρ1=some true∧∃ y,e ρ1=some (f y)∧G y)→∃ ys:List α,dn st c e ρ ds=some (ys.map f)∧ys.length=ds.length∧∀ y∈ys,G y
 | [],_=>⟨[],rfl,rfl,fun _ h=>by cases h⟩
 | x::xs,h=>by
  obtain⟨ρ1,h1,h2,y,h3,h4⟩:=h x Yc
  obtain⟨ys,q1,q2,q3⟩:=i7 f G xs fun y hy=>h y (Yb _ hy)
  refine⟨y::ys,?_,by simp[q2],fun z hz=>?_⟩
  ·unfold dn
   rw[h1,Ya,h2,Ya,Yk rfl,h3,Ya,q1]
   rfl
  ·rcases YF.mp hz with rfl | hz
   ·exact h4
   ·exact q3 z hz
theorem j8 (i j:Int):eqd (.int i) (.int j)=decide (i=j):=by
 have h:=cJ (.int i) (.int j) rfl
 by_cases e:i=j
 ·rw[YK e,h,e]
 ·rw[Yz e]
  cases q:eqd (.int i) (.int j) with
  | false=>rfl
  | true=>exact absurd (by simpa using h.mp q) e
theorem wM (i j:Bool):eqd (.bl i) (.bl j)=decide (i=j):=by
 have h:=cJ (.bl i) (.bl j) rfl
 by_cases e:i=j
 ·rw[YK e,h,e]
 ·rw[Yz e]
  cases q:eqd (.bl i) (.bl j) with
  | false=>rfl
  | true=>exact absurd (by simpa using h.mp q) e
@[simp] theorem yG (i j:Int):eqD (.int i) (.int j)=some (.bl (decide (i=j))):=by
 unfold eqD
 rw[j8]
 rfl
@[simp] theorem yQ (i j:Bool):eqD (.bl i) (.bl j)=some (.bl (decide (i=j))):=by
 unfold eqD
 rw[wM]
 rfl
@[simp] theorem yF (i j:Int):neD (.int i) (.int j)=some (.bl (!decide (i=j))):=by
 unfold neD
 rw[j8]
 rfl
@[simp] theorem yr (i j:Int):ltd (.int i) (.int j)=some (.bl (decide (i<j))):=rfl
@[simp] theorem yC (i j:Int):gtI (.int i) (.int j)=some (.bl (decide (j<i))):=rfl
@[simp] theorem yp (i j:Int):leA (.int i) (.int j)=some (.bl (decide (i≤j))):=rfl
@[simp] theorem yA (i j:Int):ltI (.int i) (.int j)=some (.bl (decide (i<j))):=rfl
@[simp] theorem yc (i j:Int):dq (.int i) (.int j)=some (.int (i+j)):=rfl
@[simp] theorem xZ (i j:Int):jC (.int i) (.int j)=some (.int (i-j)):=rfl
theorem kK (i j:Int)(h:(-(2 ^ 64)<i∧i<2 ^ 64)∨(-(2 ^ 64)<j∧j<2 ^ 64)):mX (.int i) (.int j)=some (.int (i*j)):=Yk (YK h)
theorem bH (i j:Int)(h:0<j):dI (.int i) (.int j)=some (.int (i%j)):=Yk (YK h)
theorem dM (i j:Int)(h:0<j∧j<1073741824):dB (.int i) (.int j)=some (.int (i/j)):=Yk (YK h)
@[simp] theorem yt:r8 (.int 10) (.int 30)=some (.int 1000000000000000000000000000000):=rfl
section
variable {f fa fb fc:Dd} {fo:Do} {fl:Dl} {fv:Dv} {c c':Dk} {g h:Dw} {ρ:DF} {i j:Nat} {m:Dm}
@[simp] theorem n5:aw g h ρ=match g ρ with | some (.nx ρ')=>h ρ' | r=>r:=rfl
@[simp] theorem nV:bC i f ρ=(f ρ).map fun d=>.nx (ρ.set i (some (.v d))):=rfl
@[simp] theorem ig:a9 i fo ρ=(fo ρ).map fun o=>.nx (ρ.set i (some (.own o none))):=rfl
@[simp] theorem yu:eM f ρ=(f ρ).map fun d=>.rt (.v d) ρ:=rfl
@[simp] theorem ik:iU fo ρ=(fo ρ).map fun o=>.rt (.own o none) ρ:=rfl
@[simp] theorem xy:hJ i ρ=match ρ[i]? with | some (some x)=>some (.rt x ρ) | _=>none:=rfl
@[simp] theorem cy:dIf c g h ρ=(c ρ).bind fun b=>if b=true then g ρ else h ρ:=rfl
@[simp] theorem zl:dNx ρ=some (.nx ρ):=rfl
@[simp] theorem w9:xM f ρ=(f ρ).map fun _=>.nx ρ:=rfl
@[simp] theorem zC {F:D→Option D}:d1 F fa ρ=(fa ρ).bind F:=rfl
@[simp] theorem zE {F:Dy}:d2 F fa fb ρ=(fa ρ).bind fun x=>(fb ρ).bind fun y=>F x y:=rfl
@[simp] theorem tu:getV i ρ=match ρ[i]? with | some (some (.v d))=>some d | _=>none:=rfl
@[simp] theorem yx:aa i ρ=match ρ[i]? with | some (some (.v d))=>some d | some (some (.own o _))=>if o.flat=true then some o.d else none | some (some (.bor o))=>if o.flat=true then some o.d else none | _=>none:=rfl
@[simp] theorem yy:aj i ρ=match ρ[i]? with | some (some (.v d))=>some d | some (some (.own o _))=>some o.d | some (some (.bor o))=>some o.d | _=>none:=rfl
@[simp] theorem zB:aB i fv ρ=match ρ[i]? with | some (some (.own o _))=>(fv ρ).map fun xs=>.bor o::xs | some (some (.bor o))=>(fv ρ).map fun xs=>.bor o::xs | some (some (.v d))=>(fv ρ).map fun xs=>.v d::xs | _=>none:=rfl
@[simp] theorem xf:aV f fv ρ=(f ρ).bind fun d=>(fv ρ).map fun xs=>.v d::xs:=rfl
@[simp] theorem wV:ay m fv ρ=(fv ρ).bind fun xs=>(m xs).bind dvD:=rfl
@[simp] theorem rA:bZ m fv ρ=(fv ρ).bind fun xs=>(m xs).bind dvO:=rfl
@[simp] theorem zf:asB f ρ=match f ρ with | some (.bl b)=>some b | _=>none:=rfl
@[simp] theorem bM:asL fl ρ=(fl ρ).map .lst:=rfl
@[simp] theorem dg:asO fo ρ=(fo ρ).map OD.d:=rfl
@[simp] theorem yK:asT fl ρ=(fl ρ).map .tup:=rfl
@[simp] theorem xl:d9 f fl ρ=(f ρ).bind fun d=>(fl ρ).map fun r=>d::r:=rfl
@[simp] theorem yz:lU ρ=some []:=rfl
@[simp] theorem yH:bU c ρ=(c ρ).map fun b=>!b:=rfl
@[simp] theorem yn:bf ρ=some true:=rfl
@[simp] theorem yB {d:D}:setV i d ρ=some (ρ.set i (some (.v d))):=rfl
@[simp] theorem zg:ifV c f fa ρ=(c ρ).bind fun b=>if b=true then f ρ else fa ρ:=rfl
@[simp] theorem wO:bX f ρ=(f ρ).bind dF:=rfl
@[simp] theorem yD:pU i g ρ=match ρ[i]? with | some (some (.own o none))=>g (ρ.set i (some (.v o.d))) | some (some (.v d))=>g ρ | _=>none:=rfl
theorem bD {own:Nat}{ix:List Nat}{it:Dl}{st:Dq}{e:Dd}:az own ix it st c e ρ=(it ρ).bind fun ds=>if ds.length≤16777216 then dn st c e (cz own ix ρ) ds else none:=rfl
@[simp] theorem yE:bV c c' ρ=(c ρ).bind fun b=>if b=true then c' ρ else some false:=rfl
@[simp] theorem y9:orT c c' ρ=(c ρ).bind fun b=>if b=true then some true else c' ρ:=rfl
@[simp] theorem ym:dh f fa ρ=match f ρ with | some (.bl true)=>fa ρ | some (.bl false)=>some (.bl false) | _=>none:=rfl
@[simp] theorem zA:orV f fa ρ=match f ρ with | some (.bl false)=>fa ρ | some (.bl true)=>some (.bl true) | _=>none:=rfl
@[simp] theorem yq:fT f ρ=match f ρ with | some (.bl b)=>some (.bl (!b)) | _=>none:=rfl
@[simp] theorem yO {F G:Dy}:chD F G fa fb fc ρ=(fa ρ).bind fun x=>(fb ρ).bind fun y=>match F x y with | some (.bl true)=>(fc ρ).bind fun z=>G y z | some (.bl false)=>some (.bl false) | _=>none:=rfl
@[simp] theorem wR:aW f ρ=match f ρ with | some (.lst ds)=>some ds | _=>none:=rfl
@[simp] theorem w6:cY i ρ=match ρ[i]? with | some (some (.bor (.lst ds)))=>some ds | some (some (.v (.lst ds)))=>some ds | _=>none:=rfl
theorem sF:iF f ρ=match f ρ with | some (.int j)=>if -(2 ^ 62)≤j∧j<2 ^ 62 then some (bW 0 j.toNat) else none | _=>none:=rfl
@[simp] theorem yT {b b':DF→Option (Option Int)}:slS f b b' ρ=match f ρ with | some (.str x)=>if x.length≤16777216 then (b ρ).bind fun l=>(b' ρ).map fun h=>.str (Txt.slice x l h) else none | _=>none:=rfl
theorem rC {b b':DF→Option (Option Int)}:slL f b b' ρ=match f ρ with | some (.lst xs)=>(b ρ).bind fun l=>(b' ρ).map fun h=>kN xs l h | _=>none:=rfl
theorem sw:ou fa fb ρ=match fa ρ,fb ρ with | some (.lst xs),some (.lst ys)=>if xs.length+ys.length≤16777216 then some (xs++ys) else none | _,_=>none:=rfl
@[simp] theorem yw:kq i f ρ=match ρ[i]? with | some (some (.own (.lst ds) t))=>(f ρ).bind fun d=>if ds.length<16777216 then some (.nx (ρ.set i (some (.own (.lst (ds++[d])) t)))) else none | _=>none:=rfl
@[simp] theorem xo {is:List Nat}:xT is f ρ=(f ρ).bind fun d=>(mW is d ρ).map .nx:=rfl
@[simp] theorem zD:bI f ρ=match f ρ with | some (.int i)=>some (some i) | _=>none:=rfl
@[simp] theorem zt:bNo ρ=some none:=rfl
end
@[simp] theorem zF {ds:List D}:(OD.lst ds).d=.lst ds:=rfl
@[simp] theorem zH {ds:List (List Key×D)}:(OD.dT ds).d=.dT ds:=rfl
@[simp] theorem zK {ds:List (Key×D)}:(OD.dK ds).d=.dK ds:=rfl
@[simp] theorem zN {C:Addr}{ds:List (Str×D)}:(OD.ins C ds).d=.ins C ds:=rfl
@[simp] theorem zW {ds:List D}:(OD.lst ds).flat=true:=rfl
@[simp] theorem zI {ds:List (List Key×D)}:(OD.dT ds).flat=true:=rfl
@[simp] theorem zS {ds:List (Key×D)}:(OD.dK ds).flat=true:=rfl
@[simp] theorem zR {C:Addr}{ds:List (Str×D)}:(OD.ins C ds).flat=true:=rfl
@[simp] theorem zV {d:D}:dvD (.v d)=some d:=rfl
@[simp] theorem zL {o:OD}{t:Option Addr}:dvD (.own o t)=some o.d:=rfl
@[simp] theorem zQ {o:OD}{t:Option Addr}:dvO (.own o t)=some o:=rfl
@[simp] theorem zP {x:DV}{ρ:DF}:aX (some (.rt x ρ))=some x:=rfl
@[simp] theorem zG {ρ:DF}:aX (some (.nx ρ))=some (.v .non):=rfl
@[simp] theorem zU {d:D}:ol (some (.v d))=some (.v d):=rfl
@[simp] theorem zO {o:OD}{t:Option Addr}:ol (some (.own o t))=some (.bor o):=rfl
@[simp] theorem zJ {o:OD}:ol (some (.bor o))=some (.bor o):=rfl
@[simp] theorem yo {own:Nat}{ix:List Nat}{ρ:DF}:cz own ix ρ=List.replicate own none++ix.map fun j=>ol (ρ[j]?).join:=rfl
@[simp] theorem zc {ds:List D}:dF (.lst ds)=some ds:=rfl
@[simp] theorem cx {ds:List D}:dF (.tup ds)=some ds:=rfl
@[simp] theorem zM {ds:List D}:bn (.lst ds)=some (.int ds.length):=rfl
@[simp] theorem zT {ds:List D}:bn (.tup ds)=some (.int ds.length):=rfl
@[simp] theorem zu {n p:Nat}{g:Dw}{xs:List DV}:mOf n p g xs=if xs.length=p then aX (g (aQ n p xs)) else none:=rfl
@[simp] theorem wP {n p:Nat}{xs:List DV}:aQ n p xs=xs.map some++List.replicate (n-p) none:=rfl
theorem i9 {α β:Type}(f:α→β):∀ (l:List α) (k:Nat),(l.map f).eraseIdx k=(l.eraseIdx k).map f
 | [],_=>rfl
 | _::_,0=>rfl
 | x::l,k+1=>by rw[YJ,ZW,ZW,YJ,i9 f l k]
theorem pA {n:Nat}{k:Int}(h0:0≤k)(h1:k<n)(hn:n<1000):lM n (.int k)=some k.toNat:=by
 show (if -(2 ^ 63)≤k∧k<2 ^ 63 then seqIndex? k n else none)=_
 rw[Yk (by omega)]
 unfold seqIndex?
 simp only
 have e:¬ k<0:=by omega
 simp[e,h0,h1]
theorem dw {α:Type}:∀ (l:List α) (k:Nat) (h:k<l.length),(l[k]::l.eraseIdx k).Perm l
 | x::l,0,_=>.refl _
 | x::l,k+1,h=>by
  have:=dw l k (by simpa using h)
  rw[List.getElem_cons_succ,ZW]
  exact (List.Perm.swap _ _ _).trans (this.cons x)
def ae (n:Int):List Int:=(List.range n.toNat).map fun i:Nat=>(i:Int)
theorem aK (n:Int):(ae n).length=n.toNat:=by simp[ae]
theorem bq {n i:Int}:i∈ae n↔0≤i∧i<n:=by
 unfold ae
 rw[Zf]
 constructor
 ·rintro⟨k,hk,rfl⟩
  have:=ZC.mp hk
  omega
 ·rintro⟨h0,h1⟩
  exact⟨i.toNat,ZC.mpr (by omega),by omega⟩
theorem gU (n:Int):(ae n).Nodup:=by
 unfold ae
 rw[List.Nodup,Xf]
 exact (List.nodup_range (n:=n.toNat)).imp fun h e=>h (by omega)
theorem iR (n:Int):bW 0 n.toNat=(ae n).map D.int:=by
 unfold bW ae
 simp
theorem t_ {n:Int}{j:Nat}{d:D}(h:((ae n).map D.int)[j]?=some d):d=.int (j:Int):=by
 unfold ae at h
 rw[YE,YE] at h
 cases q:(List.range n.toNat)[j]? with
 | none=>rw[q] at h;cases h
 | some k=>
  rw[q] at h
  obtain⟨h1,h2⟩:=Yi.mp q
  rw[List.getElem_range] at h2
  subst h2
  cases h
  rfl
abbrev T4:=Int×Int×Int×Bool
def okT (n:Int)(t:T4):Prop:=0≤t.1∧t.1<n∧0≤t.2.1∧t.2.1<n∧t.1≠t.2.1∧0≤t.2.2.1∧t.2.2.1<1000000000000000000000000000000
theorem pP {α:Type}{l:List α}{i:Int}(h0:0≤i)(h1:i<l.length):atI l i=l[i.toNat]?:=by
 unfold atI ixN
 rw[Yk h0,Yk h1]
 rfl
theorem sm {α β:Type}{l:List α}(f:α→β){i:Int}(h0:0≤i)(h1:i<l.length):∃ x,l[i.toNat]?=some x∧atI (l.map f) i=some (f x):=by
 have h:i.toNat<l.length:=by omega
 refine⟨l[i.toNat],Ye h,?_⟩
 rw[pP h0 (by rw[Yf];exact h1),YE,Ye h]
 rfl
theorem jy {f:Dd}{ρ:DF}{n:Int}(h:f ρ=some (.int n))(hn:0≤n∧n≤1000):iF f ρ=some ((ae n).map .int):=by
 have hb:-(2 ^ 62)≤n∧n<2 ^ 62:=by omega
 rw[sF,h]
 simp only
 rw[Yk hb,iR]
theorem ai {g h:Dw}{ρ ρ':DF}(e:g ρ=some (.nx ρ')):aw g h ρ=h ρ':=by rw[n5,e]
theorem ug {g h:Dw}{ρ ρ':DF}{x:DV}(e:g ρ=some (.rt x ρ')):aw g h ρ=some (.rt x ρ'):=by rw[n5,e]
def unI:D→Int
 | .int a=>a
 | _=>0
theorem no {l:Nat}{i:Int}(h0:0≤i)(h1:i<l):ixN l i=some i.toNat:=by
 unfold ixN
 rw[Yk h0,Yk h1]
theorem fr {i:Nat}{f g:Dd}{ρ:DF}:df i f g ρ=match ρ[i]? with
 | some (some (.own (.lst ds) t))=>(g ρ).bind fun d=>(f ρ).bind fun
  | .int k=>(ixN ds.length k).map fun j=>.nx (ρ.set i (some (.own (.lst (ds.set j d)) t)))
  | _=>none
 | _=>none:=rfl
theorem iV {α:Type}(l:List α){k:Int}(h:0≤k):kN l (some k) none=l.drop k.toNat:=by
 unfold kN HT.sIx
 simp only
 rw[Ym (by omega)]
 by_cases hk:k.toNat≤l.length
 ·rw[XX hk,← Zq,List.take_length]
 ·rw[Nat.min_eq_right (by omega),Nat.sub_self,Xa,YV (by omega)]
theorem n1:¬ (("kinds":Str) = "ties"):=by decide +kernel
theorem n2:¬ (("kinds":Str) = "joins"):=by decide +kernel
theorem n3:¬ (("ties":Str) = "joins"):=by decide +kernel
theorem b1:(("ties":Str) == "kinds")=false:=by decide +kernel
theorem b2:(("size":Str) == "kinds")=false:=by decide +kernel
theorem b3:(("size":Str) == "ties")=false:=by decide +kernel
theorem b4:(("size":Str) == "joins")=false:=by decide +kernel
theorem gX:∀ a b:List Int,aI (a.map .int) (b.map .int)=true
 | [],_=>rfl
 | _::_,[]=>rfl
 | x::a,y::b=>by
  rw[YJ,YJ]
  show (ah (.int x) (.int y)&&aI (a.map .int) (b.map .int))=true
  rw[gX a b]
  rfl
theorem ij {α:Type}(f:α→D)(h:∀ x y,ah (f x) (f y)=true):∀ a b:List α,aI (a.map f) (b.map f)=true
 | [],_=>rfl
 | _::_,[]=>rfl
 | x::a,y::b=>by
  rw[YJ,YJ]
  show (ah (f x) (f y)&&aI (a.map f) (b.map f))=true
  rw[ij f h a b,h]
  rfl
theorem sh {α:Type}(f:α→D)(h:∀ x y,ah (f x) (f y)=true)(a:List α):eqd (.lst (a.map f)) (.lst (a.map f))=true:=(gN _ _ (ij f h a a)).mpr rfl
def prs (i j:Int)(t:T4):List (Int×Int):=(if t.1=i∧t.2.1=j then [(t.2.2.1,if t.2.2.2=true then 1 else 0)] else [])++(if t.2.1=i∧t.1=j then [(t.2.2.1,if t.2.2.2=true then 2 else 0)] else [])
def w4 (i j:Int):List T4→List (Int×Int)
 | []=>[]
 | t::ts=>prs i j t++w4 i j ts
theorem b6:(("near":Str) == "ties")=false:=by decide +kernel
theorem b7:(("near":Str) == "joins")=false:=by decide +kernel
theorem b8:(("between":Str) == "kinds")=false:=by decide +kernel
def nr (ts:List T4)(n p:Int):List Int:=(ae n).filter fun o=>!decide (w4 p o ts=[])
@[simp] theorem xk {f g:Dd}{ρ:DF}:ya f g ρ=match f ρ,g ρ with
 | some (.lst as),some (.lst bs)=>if as.length=bs.length then some (tF as bs) else none
 | some (.tup as),some (.tup bs)=>if as.length=bs.length then some (tF as bs) else none
 | _,_=>none:=rfl
abbrev Tu:=List Int
def eZ (F xs:List Tu):List Tu:=xs.foldl (fun F x=>if x∈F then F else F++[x]) F
theorem c7 (F:List Tu)(x:Tu)(xs:List Tu):eZ F (x::xs)=eZ (if x∈F then F else F++[x]) xs:=rfl
theorem cT {y:Tu}:∀ {xs F:List Tu},y∈eZ F xs↔y∈F∨y∈xs
 | [],F=>by simp[eZ]
 | x::xs,F=>by
  rw[c7,cT]
  by_cases h:x∈F
  ·rw[Yk h,YF]
   constructor
   ·rintro (a | a);exact .inl a;exact .inr (.inr a)
   ·rintro (a | rfl | a);exact .inl a;exact .inl h;exact .inr a
  ·rw[Ym h,Yt,YB,YF,or_assoc]
theorem fW:∀ {xs F:List Tu},F.Nodup→(eZ F xs).Nodup
 | [],F,h=>h
 | x::xs,F,h=>by
  rw[c7]
  by_cases q:x∈F
  ·rw[Yk q];exact fW h
  ·rw[Ym q]
   refine fW (List.nodup_append.mpr ⟨h,by simp,fun a ha b hb=>?_⟩)
   rw[YB] at hb
   subst hb
   exact fun z=>q (z ▸ ha)
theorem iq:∀ (xs F:List Tu),∃ s,eZ F xs=F++s∧s.length≤xs.length
 | [],F=>⟨[],by simp[eZ],Yr _⟩
 | x::xs,F=>by
  rw[c7]
  obtain⟨s,e,l⟩:=iq xs (if x∈F then F else F++[x])
  rw[e,Yw]
  by_cases q:x∈F
  ·rw[Yk q];exact⟨s,rfl,by omega⟩
  ·rw[Ym q];exact⟨x::s,by rw[Ys];rfl,by rw[Yw];omega⟩
inductive Rch (nb:Tu→List Tu) (p:Tu):Tu→Prop
 | refl:Rch nb p p
 | step {a b:Tu}:Rch nb p a→b∈nb a→Rch nb p b
theorem m7 {α:Type}[DecidableEq α]:∀ {F M:List α},F.Nodup→(∀ x∈F,x∈M)→F.length≤M.length
 | [],_,_,_=>Zm _
 | x::F,M,h,hs=>by
  have hx:=hs x Yc
  have h':=Zo.mp h
  have:=m7 (F:=F) (M:=M.erase x) h'.2 fun y hy=>(List.mem_erase_of_ne (show y≠x from fun z=>h'.1 (z ▸ hy))).mpr (hs y (Yb _ hy))
  rw[List.length_erase_of_mem hx] at this
  have:=List.length_pos_of_mem hx
  rw[Yw]
  omega
structure Got (nb:Tu→List Tu) (p:Tu) (F:List Tu):Prop where
 nd:F.Nodup
 st:p∈F
 rch:∀ x∈F,Rch nb p x
 cl:(∀ a∈F,∀ b∈nb a,b∈F)∨720<F.length
theorem Got.all {nb:Tu→List Tu}{p:Tu}{F:List Tu}(h:Got nb p F)(hl:F.length≤720){x:Tu}:x∈F↔Rch nb p x:=by
 refine⟨h.rch x,fun r=>?_⟩
 have cl:∀ a∈F,∀ b∈nb a,b∈F:=h.cl.resolve_right (by omega)
 induction r with
 | refl=>exact h.st
 | step _ hb ih=>exact cl _ ih _ hb
theorem Got.small {nb:Tu→List Tu}{p:Tu}{F S:List Tu}(h:Got nb p F)(g:Got nb p S)(hl:S.length≤720):F.length≤720∧F.Perm S:=by
 have h1:F.length≤S.length:=m7 h.nd fun x hx=>(g.all hl).mpr (h.rch x hx)
 exact⟨by omega,(List.perm_ext_iff_of_nodup h.nd g.nd).mpr fun x=>by rw[h.all (by omega),g.all hl]⟩
theorem Got.great {nb:Tu→List Tu}{p:Tu}{F S:List Tu}(h:Got nb p F)(g:Got nb p S)(hl:720<S.length):720<F.length:=by
 rcases Xr 720 F.length with z | z
 ·exact z
 ·have:=(g.small h z).1
  omega
def kT (t:Tu):List Key:=t.map .inl
def dU (t:Tu):D:=.tup (t.map .int)
theorem qM {a b:Tu}:kT a=kT b↔a=b:=by
 refine⟨fun h=>?_,fun h=>h ▸ rfl⟩
 induction a generalizing b with
 | nil=>
  cases b with
  | nil=>rfl
  | cons y b=>cases h
 | cons x a ih=>
  cases b with
  | nil=>cases h
  | cons y b=>
   have h':(Sum.inl x:Key)::kT a=.inl y::kT b:=h
   obtain⟨h1,h2⟩:=List.cons.inj h'
   rw[Sum.inl.inj h1,ih h2]
theorem gB (t:Tu):fE (dU t)=some (kT t):=by
 show eJ (t.map D.int)=_
 induction t with
 | nil=>rfl
 | cons x t ih=>show (some (Sum.inl x)).bind _=_;rw[Ya,ih];rfl
def knw (F:List Tu):List (List Key×D):=F.map fun x=>(kT x,.bl true)
theorem uw (F:List Tu)(x:Tu):(fS (knw F) (kT x)).isSome=decide (x∈F):=by
 induction F with
 | nil=>rfl
 | cons y F ih=>
  unfold knw at ih ⊢
  rw[YJ,iH]
  by_cases h:kT y=kT x
  ·rw[Yk h]
   have:y=x:=qM.mp h
   subst this
   simp
  ·rw[Ym h,ih]
   have:¬ x=y:=fun z=>h (by rw[z])
   simp[this]
theorem nN (F:List Tu)(x:Tu)(h:x∉F):rj (knw F) (kT x) (.bl true)=knw (F++[x]):=by
 unfold rj
 rw[Ym,knw,knw,ZG]
 ·rfl
 ·intro z
  obtain⟨p,hp,e⟩:=List.any_eq_true.mp z
  obtain⟨y,hy,rfl⟩:=Zf.mp hp
  exact h (qM.mp (ZE e) ▸ hy)
theorem fi (F:List Tu):(knw F).length=F.length:=Yf ..
theorem pZ (F:List Tu)(x:Tu):cI true (dU x) (.dT (knw F))=some (.bl (!decide (x∈F))):=by
 show ((fE (dU x)).map fun k=>D.bl (xor true (fS (knw F) k).isSome))=_
 rw[gB,YY,uw,Bool.true_xor]
theorem fU {st:Dq}{body:Dw}{d:D}{ds:List D}{ρ ρ1 ρ2:DF}(h:st d ρ=some ρ1)(hb:body ρ1=some (.nx ρ2)):fA st body (d::ds) ρ=fA st body ds ρ2:=by
 rw[fA]
 simp only[h,hb]
theorem jf {c:Dk}{body:Dw}{k:Nat}{ρ:DF}(h:c ρ=some false):bz c body (k+1) ρ=some (.nx ρ):=by
 rw[bz]
 simp only[h]
theorem jt {c:Dk}{body:Dw}{k:Nat}{ρ ρ':DF}(h:c ρ=some true)(hb:body ρ=some (.nx ρ')):bz c body (k+1) ρ=bz c body k ρ':=by
 rw[bz]
 simp only[h,hb]
abbrev rF (S:D)(a0:Addr)(v0:V)(dc:D)(F:List Tu)(d:Nat)(x6 x7:Option DV):DF:=[some (.v S),some (.v (.fn a0 v0 dc)),some (.v (.int 720)),some (.own (.lst (F.map dU)) none),some (.own (.dT (knw F)) none),some (.v (.int d)),x6,x7]
theorem rk {S:D}{a0:Addr}{v0:V}{dc:D}{d:Nat}{x6:Option DV}:∀ (xs F:List Tu) (x7:Option DV),F.length+xs.length≤1000→∃ y7,
  fA (setV 7) (dIf (asB (d2 (cI true) (getV 7) (aa 4))) (aw (d8 4 (getV 7) (fun _=>some (.bl true)))
  (kq 3 (getV 7))) dNx) (xs.map dU) (rF S a0 v0 dc F d x6 x7)=some (.nx (rF S a0 v0 dc (eZ F xs) d x6 y7))
 | [],F,x7,_=>⟨x7,rfl⟩
 | x::xs,F,x7,hl=>by
  rw[c7]
  rw[Yw] at hl
  have hg:=pZ F x
  have l1:(knw F).length<16777216:=by rw[fi];omega
  have l2:(F.map dU).length<16777216:=by rw[Yf];omega
  have hk:=gB x
  by_cases h:x∈F
  ·obtain⟨y7,e⟩:=rk xs F (some (.v (dU x))) (by omega)
   refine⟨y7,?_⟩
   rw[Yk h,← e]
   rw[YK h] at hg
   rw[YJ]
   refine fU (ρ1:=rF S a0 v0 dc F d x6 (some (.v (dU x)))) rfl ?_
   unfold rF
   generalize knw F=K at *
   generalize dU x=u at *
   simp[hg]
  ·obtain⟨y7,e⟩:=rk xs (F++[x]) (some (.v (dU x))) (by rw[Yh];simp;omega)
   refine⟨y7,?_⟩
   rw[Ym h,← e]
   rw[Yz h] at hg
   rw[YJ]
   refine fU (ρ1:=rF S a0 v0 dc F d x6 (some (.v (dU x)))) rfl ?_
   have hp:=nN F x h
   have ha:(F++[x]).map dU=F.map dU++[dU x]:=by simp
   unfold rF
   rw[ha,← hp]
   generalize knw F=K at *
   generalize F.map dU=U at *
   generalize dU x=u at *
   simp[hg,d8,hk,l1,l2]
def bfs (nb:Tu→List Tu):Nat→List Tu→Nat→List Tu
 | 0,F,_=>F
 | k+1,F,d=>if d<F.length∧F.length≤720 then (match F[d]? with | some a=>bfs nb k (eZ F (nb a)) (d+1) | none=>F) else F
theorem wu {nb:Tu→List Tu}{k d:Nat}{F:List Tu}{a:Tu}(h:d<F.length∧F.length≤720)(q:F[d]?=some a):bfs nb (k+1) F d=bfs nb k (eZ F (nb a)) (d+1):=by
 unfold bfs
 rw[Yk h,q]
 cases k <;> rfl
theorem wz {nb:Tu→List Tu}{k d:Nat}{F:List Tu}(h:¬ (d<F.length∧F.length≤720)):bfs nb (k+1) F d=F:=by
 unfold bfs
 rw[Ym h]
theorem re {C:Addr}{S:D}{a0:Addr}{v0:V}{dc:D}{nb:Tu→List Tu}{p:Tu}{M:Tu→Prop}(hM:∀ a,M a→∀ b∈nb a,M b)(n4:∀ a,M a→(nb a).length≤4)(hnb:∀ a,M a→fL C [some (.v (dU a)),some (.v dc)]=some (.lst ((nb a).map dU))):∀ (k:Nat) (F:List Tu) (d:Nat) (x6 x7:Option DV),F.Nodup→p∈F→(∀ x∈F,M x∧Rch nb p x)→(∀ i a,i<d→F[i]?=some a→∀ b∈nb a,b∈F)→d≤F.length→d≤720→F.length≤724→722≤d+k→∃ d' y6 y7,
  bz (bV (asB (d2 ltd (aj 5) (d1 bn (aj 3)))) (orT (lO 2) (asB (d2 leI (d1 bn (aj 3)) (aa 2))))) (aw (bC 6 (d2 ixD (aa 3) (aa 5)))
  (aw (jx (aW (gO 1 a0 v0 (fL C) (getV 6))) (setV 7) (dIf (asB (d2 (cI true) (getV 7) (aa 4))) (aw (d8 4 (getV 7) (fun _=>some (.bl true)))
  (kq 3 (getV 7))) dNx))
  (uj 5 (fun _=>some (.int 1))))) k (rF S a0 v0 dc F d x6 x7)=some (.nx (rF S a0 v0 dc (bfs nb k F d) d' y6 y7))∧Got nb p (bfs nb k F d)∧(bfs nb k F d).length≤724∧∀ x∈bfs nb k F d,M x
 | 0,F,d,x6,x7,hn,hp,hF,hc,hd,h7,h8,hl=>by omega
 | k+1,F,d,x6,x7,hn,hp,hF,hc,hd,h7,h8,hl=>by
  have ht:∀ b,decide (d<F.length∧F.length≤720)=b→(bV (asB (d2 ltd (aj 5) (d1 bn (aj 3)))) (orT (lO 2) (asB (d2 leI (d1 bn (aj 3)) (aa 2))))) (rF S a0 v0 dc F d x6 x7)=some b:=fun b hb=>by
   have e:asB (d2 ltd (aj 5) (d1 bn (aj 3))) (rF S a0 v0 dc F d x6 x7)=some (decide (d<F.length)):=by
    unfold rF
    simp
   have e2:(orT (lO 2) (asB (d2 leI (d1 bn (aj 3)) (aa 2)))) (rF S a0 v0 dc F d x6 x7)=some (decide (F.length≤720)):=by
    unfold rF
    simp[orT,lO]
    have:leI (.int (F.length:Int)) (.int 720)=some (.bl (decide ((F.length:Int)≤720))):=rfl
    rw[this]
    show some _=some _
    congr 1
    exact ZZ.mpr (by omega)
   unfold bV
   rw[e]
   by_cases z:d<F.length
   ·rw[YK z]
    show (orT (lO 2) (asB (d2 leI (d1 bn (aj 3)) (aa 2)))) (rF S a0 v0 dc F d x6 x7)=_
    rw[e2,← hb]
    congr 1
    exact ZZ.mpr ⟨fun y=>⟨z,y⟩,fun y=>y.2⟩
   ·rw[Yz z,← hb]
    show some false=_
    congr 1
    exact (Yz fun y=>z y.1).symm
  by_cases hq:d<F.length∧F.length≤720
  ·obtain⟨lt,le⟩:=hq
   have q:F[d]?=some F[d]:=Ye lt
   generalize F[d]=a at q
   have aF:=Zk q
   obtain⟨aM,ar⟩:=hF a aF
   obtain⟨s,es,sl⟩:=iq (nb a) F
   have n4a:=n4 a aM
   obtain⟨y7,e⟩:=rk (S:=S) (a0:=a0) (v0:=v0) (dc:=dc) (d:=d) (x6:=some (.v (dU a))) (nb a) F x7 (by omega)
   rw[wu ⟨lt,le⟩ q]
   obtain⟨d',z6,z7,e2,g⟩:=re (S:=S) (a0:=a0) (v0:=v0) hM n4 hnb k (eZ F (nb a)) (d+1) (some (.v (dU a))) y7 (fW hn) (cT.mpr (.inl hp)) (fun x hx=>by
    rcases cT.mp hx with h | h
    ·exact hF x h
    ·exact⟨hM a aM x h,.step ar h⟩) (fun i c hi ec b hb=>by
    rw[es,Zb (by omega)] at ec
    by_cases z:i=d
    ·subst z
     rw[q] at ec
     cases ec
     exact cT.mpr (.inr hb)
    ·exact cT.mpr (.inl (hc i c (by omega) ec b hb))) (by rw[es,Yh];omega) (by omega) (by rw[es,Yh];omega) (by omega)
   refine⟨d',z6,z7,?_,g⟩
   rw[← e2]
   refine jt (ht true (YK ⟨lt,le⟩)) ?_
   have i0:ixD (.lst (F.map dU)) (.int d)=some (dU a):=by
    show atI (F.map dU) (d:Int)=_
    exact jI (by rw[YE,q];rfl)
   rw[ai (ρ':=rF S a0 v0 dc F d (some (.v (dU a))) x7) (by
    unfold rF
    generalize knw F=K at *
    generalize F.map dU=U at *
    simp[i0,dvD])]
   rw[ai (ρ':=rF S a0 v0 dc (eZ F (nb a)) d (some (.v (dU a))) y7) (by
    rw[← e]
    unfold jx
    have hi:aW (gO 1 a0 v0 (fL C) (getV 6)) (rF S a0 v0 dc F d (some (.v (dU a))) x7)=some ((nb a).map dU):=by
     have:gO 1 a0 v0 (fL C) (getV 6) (rF S a0 v0 dc F d (some (.v (dU a))) x7)=some (.lst ((nb a).map dU)):=by
      unfold gO
      exact (Yk ⟨rfl,rfl⟩).trans (hnb a aM)
     unfold aW
     rw[this]
    rw[hi]
    rfl)]
   rfl
  ·rw[wz hq]
   refine⟨d,x6,x7,jf (ht false (Yz hq)),⟨hn,hp,fun x hx=>(hF x hx).2,?_⟩,h8,fun x hx=>(hF x hx).1⟩
   rcases Xr 720 F.length with z | z
   ·exact .inr z
   ·refine .inl fun a ha b hb=>?_
    obtain⟨i,hi,e⟩:=ZN.mp ha
    exact hc i a (by omega) (Yi.mpr ⟨hi,e⟩) b hb
theorem wZ {C:Addr}{dc:D}{nb:Tu→List Tu}{p:Tu}{M:Tu→Prop}(hM:∀ a,M a→∀ b∈nb a,M b)(n4:∀ a,M a→(nb a).length≤4)(hnb:∀ a,M a→fL C [some (.v (dU a)),some (.v dc)]=some (.lst ((nb a).map dU)))(hp:M p) :
  de 8 (g_q10 C) dc (.lst [dU p]) (.int 720)=some ((bfs nb 1000 [p] 0).map dU)∧Got nb p (bfs nb 1000 [p] 0)∧(bfs nb 1000 [p] 0).length≤724∧∀ x∈bfs nb 1000 [p] 0,M x:=by
 have go:∀ a0 v0,Got nb p (bfs nb 1000 [p] 0)∧(bfs nb 1000 [p] 0).length≤724∧(∀ x∈bfs nb 1000 [p] 0,M x)∧aX (g_q10 C a0 v0 dc (aQ 8 3 [.v (.lst [dU p]),.v (.fn a0 v0 dc),.v (.int 720)]))=some (.own (.lst ((bfs nb 1000 [p] 0).map dU)) none):=fun a0 v0=>by
  obtain⟨d',y6,y7,e,g,g2,g3⟩:=re (S:=.lst [dU p]) (a0:=a0) (v0:=v0) (p:=p) hM n4 hnb 1000 [p] 0 none none (by simp) (by simp) (fun x hx=>by rw[YB] at hx;subst hx;exact⟨hp,.refl⟩) (fun i a hi=>absurd hi (by omega)) (by simp) (by simp) (by simp) (by omega)
  refine⟨g,g2,g3,?_⟩
  generalize bfs nb 1000 [p] 0=F at *
  show aX (g_q10 C a0 v0 dc [some (.v (.lst [dU p])),some (.v (.fn a0 v0 dc)),some (.v (.int 720)),none,none,none,none,none])=_
  unfold g_q10
  rw[ai (ρ':=[some (.v (.lst [dU p])),some (.v (.fn a0 v0 dc)),some (.v (.int 720)),some (.own (.lst [dU p]) none),none,none,none,none]) rfl]
  rw[ai (ρ':=[some (.v (.lst [dU p])),some (.v (.fn a0 v0 dc)),some (.v (.int 720)),some (.own (.lst [dU p]) none),some (.own (.dT (knw [p])) none),none,none,none]) (by
   have hk:=gB p
   have:jH (az 1 [] (cY 3) (setV 0) bf (asT (d9 (getV 0) (d9 (fun _=>some (.bl true)) lU)))) [some (.v (.lst [dU p])),some (.v (.fn a0 v0 dc)),some (.v (.int 720)),some (.bor (.lst [dU p])),none,none,none,none]=some (.dT (knw [p])):=by
    show (fE (dU p)).map _=_
    rw[hk]
    rfl
   exact Zz (Option.map _) this)]
  rw[ai (ρ':=rF (.lst [dU p]) a0 v0 dc [p] 0 none none) rfl]
  rw[ai e]
  rfl
 obtain⟨g,g2,g3,_⟩:=go 0 .non
 exact⟨nu fun a0 v0=>(go a0 v0).2.2.2,g,g2,g3⟩
def at1 (r:List Int)(a:Int):Int:=(r[a.toNat]?).getD 0
theorem kY {n:Int}{r:List Int}(p:r.Perm (ae n)){a:Int}(ha:a∈ae n):r[a.toNat]?=some (at1 r a):=by
 have hl:r.length=n.toNat:=by rw[p.length_eq,aK]
 have:=bq.mp ha
 have lt:a.toNat<r.length:=by omega
 unfold at1
 rw[Ye lt]
 rfl
theorem u_ {n:Int}{r:List Int}(p:r.Perm (ae n)){a:Int}(ha:a∈ae n):at1 r a∈ae n:=p.mem_iff.mp (Zk (kY p ha))
theorem tP {n:Int}{L:List Int}(h1:L.Nodup)(h2:∀ x∈L,x∈ae n)(h3:L.length=n.toNat):L.Perm (ae n):=by
 refine (List.perm_ext_iff_of_nodup h1 (gU n)).mpr fun x=>⟨h2 x,fun hx=>Classical.byContradiction fun z=>?_⟩
 have:=m7 (F:=x::L) (M:=ae n) (Zo.mpr ⟨z,h1⟩) (fun y hy=>by
  rcases YF.mp hy with rfl | hy
  ·exact hx
  ·exact h2 y hy)
 rw[Yw,aK] at this
 omega
theorem lr {n:Int}{f:Int→Int}(h1:∀ a∈ae n,f a∈ae n)(h2:∀ a∈ae n,∀ b∈ae n,f a=f b→a=b):((ae n).map f).Perm (ae n):=by
 refine tP ?_ (fun x hx=>?_) (by rw[Yf,aK])
 ·unfold List.Nodup
  rw[Xf]
  exact (gU n).imp_of_mem fun {x y} hx hy ne e=>ne (h2 x hx y hy e)
 ·obtain⟨a,ha,rfl⟩:=Zf.mp hx
  exact h1 a ha
theorem oI {m:Int}(hm:1≤m)(q:Int):((ae m).map fun i=>(i+q)%m).Perm (ae m):=by
 refine lr (fun a ha=>bq.mpr ⟨Xx _ (by omega),Xc _ (by omega)⟩) fun a ha b hb e=>?_
 have h1:=bq.mp ha
 have h2:=bq.mp hb
 have e2:=Int.emod_eq_emod_iff_emod_sub_eq_zero.mp e
 rw[show a+q-(b+q)=a-b by omega] at e2
 obtain⟨k,hk⟩:=Int.dvd_of_emod_eq_zero e2
 have:k=0:=by
  rcases Int.lt_trichotomy k 0 with w | w | w
  ·have:m*k≤m*(-1):=Int.mul_le_mul_of_nonneg_left (by omega) (by omega)
   omega
  ·exact w
  ·have:m*1≤m*k:=Int.mul_le_mul_of_nonneg_left (by omega) (by omega)
   omega
 subst this
 omega
theorem uy {m n:Int}(h0:0≤m)(h:m≤n):ae n=ae m++(ae n).drop m.toNat:=by
 have:(ae n).take m.toNat=ae m:=by
  unfold ae
  rw[← List.map_take,List.take_range,XX (by omega)]
 rw[← this,YZ]
theorem rO {m n q:Int}(hm:1≤m)(h:m≤n):(((ae m).map fun i=>(i+q)%m)++(ae n).drop m.toNat).Perm (ae n):=by
 have e:=uy (by omega:0≤m) h
 exact ((oI hm q).append_right _).trans (e ▸ List.Perm.refl _)
theorem oZ {n i j:Int}(hi:i∈ae n)(hj:j∈ae n):(((ae n).set i.toNat j).set j.toNat i).Perm (ae n):=by
 have e:((ae n).set i.toNat j).set j.toNat i=(ae n).map fun k=>if k=j then i else if k=i then j else k:=by
  have h1:=bq.mp hi
  have h2:=bq.mp hj
  refine Ve fun k=>?_
  rw[YE]
  by_cases hk:k<n.toNat
  ·have g:(ae n)[k]?=some (k:Int):=by
    unfold ae
    rw[YE,XV hk]
    rfl
   have l1:k<(ae n).length:=by rw[aK];exact hk
   by_cases q1:j.toNat=k
   ·rw[← q1,YO (by rw[YI,q1];exact l1),q1,g,YY,Yk (by omega)]
   ·rw[YG q1]
    by_cases q2:i.toNat=k
    ·rw[← q2,YO (by rw[q2];exact l1),q2,g,YY,Ym (by omega),Yk (by omega)]
    ·rw[YG q2,g,YY,Ym (by omega),Ym (by omega)]
  ·have l1:(ae n).length≤k:=by rw[aK];omega
   rw[Zx (by rw[YI,YI];exact l1),Zx l1]
   rfl
 rw[e]
 refine lr (fun a ha=>?_) fun a ha b hb=>?_
 ·show (if a=j then i else if a=i then j else a)∈_
  split
  ·exact hi
  ·split
   ·exact hj
   ·exact ha
 ·show (if a=j then i else if a=i then j else a)=(if b=j then i else if b=i then j else b)→_
  intro e
  split at e <;> split at e <;> (try split at e) <;> omega
def dR (r:List Int):D:=.lst (r.map .int)
theorem f8 (C:Addr)(cs:List Int)(k:Int)(h0:0≤k):∃ r:Int,cQ C [.v (dR cs),.v (.int k)]=some (.v (.int r)):=by
 show ∃ r:Int,aX (g_q3 C [some (.v (dR cs)),some (.v (.int k))])=_
 unfold g_q3 dR
 by_cases h:k<(cs.length:Int)
 ·obtain⟨x,_,e⟩:=sm D.int h0 h
  refine⟨x,?_⟩
  have l:((cs.map D.int).length:Int)=cs.length:=by rw[Yf]
  have i:ixD (.lst (cs.map D.int)) (.int k)=some (.int x):=e
  generalize cs.map D.int=U at *
  simp[l,h,i]
 ·refine⟨0,?_⟩
  have l:((cs.map D.int).length:Int)=cs.length:=by rw[Yf]
  generalize cs.map D.int=U at *
  simp[l,h]
theorem dX (C:Addr)(a p m:Int)(hp:0<p)(hm:0<m):∃ r:Int,cC C [.v (.int a),.v (.int p),.v (.int m)]=some (.v (.int r))∧0≤r∧r<m:=by
 refine⟨(a+1)%2147483647*48271%p%m,?_,Xx _ (by omega),Xc _ hm⟩
 show aX (g_q7 C [some (.v (.int a)),some (.v (.int p)),some (.v (.int m))])=_
 unfold g_q7
 have m1:=bH (a+1) 2147483647 (by decide)
 generalize (a+1)%2147483647=b at *
 have m2:=kK b 48271 (.inr (by decide))
 generalize b*48271=c at *
 have m3:=bH c p hp
 generalize c%p=d at *
 have m4:=bH d m hm
 generalize d%m=e at *
 simp[m1,m2,m3,m4]
theorem gj {f:Dd}{ρ:DF}{n:Int}(h:f ρ=some (.int n))(hn:0≤n∧n≤1000):en f ρ=some ((ae n).map .int):=by
 unfold en
 rw[h]
 simp only
 rw[Yk (by omega),iR]
abbrev orF (cs:D)(n p:Int)(aN order:List Int)(x5:Option DV):DF:=[some (.v cs),some (.v (.int n)),some (.v (.int p)),some (.own (.lst (aN.map .int)) none),some (.own (.lst (order.map .int)) none),x5]
theorem qy (C:Addr)(cs:List Int)(n p k:Int)(hp:0<p)(hk:0≤k∧k<7)(x:Int)(r order:List Int)(h7:r.length+1≤7)(ho:order.length≤7):∃ k':Nat,∃ kl:k' < (x::r).length,
  (dN 4 3 (ay (cC C) (aV (d2 dq (ay (cQ C) (aB 0 (aB 5 (fun _=>some [])))) (d2 mX (aa 5) (aa 5))) (aB 2 (aV (d1 bn (aj 3)) (fun _=>some [])))))) (orF (dR cs) n p (x::r) order (some (.v (.int k))))=some (.nx (orF (dR cs) n p ((x::r).eraseIdx k') (order++[(x::r)[k']]) (some (.v (.int k))))):=by
 obtain⟨c,hc⟩:=f8 C cs k hk.1
 obtain⟨q,hq,q0,q1⟩:=dX C (c+k*k) p ((r.length+1:Nat):Int) hp (by omega)
 have hm:=kK k k (.inl ⟨by omega,by omega⟩)
 generalize k*k=kk at *
 have hl:=pA (n:=r.length+1) q0 q1 (by omega)
 have kl:q.toNat<(x::r).length:=by rw[Yw];omega
 refine⟨q.toNat,kl,?_⟩
 have hget:((x::r).map D.int)[q.toNat]?=some (.int ((x::r)[q.toNat])):=by rw[YE,Ye kl];rfl
 generalize hI:(ay (cC C) (aV (d2 dq (ay (cQ C) (aB 0 (aB 5 (fun _=>some [])))) (d2 mX (aa 5) (aa 5))) (aB 2 (aV (d1 bn (aj 3)) (fun _=>some [])))))=I
 have hf:I (orF (dR cs) n p (x::r) order (some (.v (.int k))))=some (.int q):=by
  have hq:cC C [.v (.int (c+kk)),.v (.int p),.v (.int ((r.length:Int)+1))]=some (.v (.int q)):=hq
  rw[← hI]
  generalize dR cs=U at *
  generalize cC C=M1 at *
  generalize cQ C=M2 at *
  simp[hc,hm,hq]
 have hlen:((x::r).map D.int).length=r.length+1:=by simp
 have hpop:mZ 3 I (orF (dR cs) n p (x::r) order (some (.v (.int k))))=some (orF (dR cs) n p ((x::r).eraseIdx q.toNat) order (some (.v (.int k))),.int ((x::r)[q.toNat])):=by
  have:mZ 3 I (orF (dR cs) n p (x::r) order (some (.v (.int k))))=(I (orF (dR cs) n p (x::r) order (some (.v (.int k))))).bind fun dk=>(lM ((x::r).map D.int).length dk).bind fun k'=>(((x::r).map D.int)[k']?).map fun d=>((orF (dR cs) n p (x::r) order (some (.v (.int k)))).set 3 (some (.own (.lst (((x::r).map D.int).eraseIdx k')) none)),d):=rfl
  rw[this,hf,Ya,hlen,hl,Ya,hget,i9]
  rfl
 unfold dN
 rw[hpop,Ya]
 have:(4:Nat)≠3∧(order.map D.int).length<16777216:=⟨by decide,by rw[Yf];omega⟩
 show (if _ then _ else _)=_
 rw[Yk this]
 show _=some (RES.nx [_,_,_,_,some (.own (.lst ((order++[(x::r)[q.toNat]]).map .int)) none),_])
 rw[ZG]
 rfl
theorem pT (C:Addr)(cs:List Int)(n p:Int)(hn:1≤n∧n≤7)(hp:0<p):∃ r:List Int,tz C [.v (dR cs),.v (.int n),.v (.int p)]=some (.own (.lst (r.map .int)) none)∧r.Perm (ae n):=by
 have hr:=jy (f:=aa 1) (ρ:=orF (dR cs) n p (ae n) [] none) (n:=n) rfl ⟨by omega,by omega⟩
 obtain⟨ρ',e,aN,out,x5,rfl,hl,hq⟩:=nZ (st:=setV 5) (body:=(dN 4 3 (ay (cC C) (aV (d2 dq (ay (cQ C) (aB 0 (aB 5 (fun _=>some [])))) (d2 mX (aa 5) (aa 5))) (aB 2 (aV (d1 bn (aj 3)) (fun _=>some []))))))) (fun j ρ=>∃ aN out x5,ρ=orF (dR cs) n p aN out x5∧aN.length+j=n.toNat∧(out++aN).Perm (ae n)) ((ae n).map .int) 0 (orF (dR cs) n p (ae n) [] none) ⟨_,_,_,rfl,by rw[aK];rfl,by simp⟩ (by
  rintro j d _ hj ⟨aN,out,x5,rfl,hl,hq⟩
  have hd:=t_ hj
  subst hd
  rw[ZU] at hl ⊢
  have hj':=(Yi.mp hj).1
  rw[Yf,aK] at hj'
  refine⟨orF (dR cs) n p aN out (some (.v (.int j))),rfl,?_⟩
  have tot:=hq.length_eq
  rw[Yh,aK] at tot
  cases aN with
  | nil=>rw[YR] at hl;omega
  | cons x r=>
   rw[Yw] at hl tot
   obtain⟨k,kl,hb⟩:=qy C cs n p j hp ⟨by omega,by omega⟩ x r out (by omega) (by omega)
   refine⟨_,hb,_,_,_,rfl,?_,?_⟩
   ·rw[List.length_eraseIdx_of_lt kl,Yw];omega
   ·rw[Ys]
    exact (ZK _ (dw _ k kl)).trans hq)
 rw[ZU,Yf,aK] at hl
 have:aN=[]:=Zj.mp (by omega)
 subst this
 refine⟨out,?_,by simpa using hq⟩
 show aX (g_q5 C [some (.v (dR cs)),some (.v (.int n)),some (.v (.int p)),none,none,none])=_
 unfold g_q5
 rw[ai (ρ':=[some (.v (dR cs)),some (.v (.int n)),some (.v (.int p)),some (.own (.lst ((ae n).map .int)) none),none,none]) (by
  have:=gj (f:=getV 1) (ρ:=[some (.v (dR cs)),some (.v (.int n)),some (.v (.int p)),none,none,none]) (n:=n) rfl ⟨by omega,by omega⟩
  generalize dR cs=U at *
  generalize (ae n).map D.int=V at *
  simp[this])]
 rw[ai (ρ':=orF (dR cs) n p (ae n) [] none) rfl]
 rw[ai (by unfold jx;rw[hr];exact e)]
 rfl
abbrev oF (cs:D)(n k num:Int)(row:List Int)(x6 x7 x8:Option DV):DF:=[some (.v cs),some (.v (.int n)),some (.v (.int k)),some (.v (.int num)),some (.v (.int (num%6))),some (.own (.lst (row.map .int)) none),x6,x7,x8]
theorem sH (C:Addr)(cs:D)(n k num:Int)(x6 x7 x8:Option DV)(hn:1≤n∧n≤7):∃ row y6 y7 y8,(dIf (asB (d2 ltd (aj 4) (fun _=>some (.int 2)))) (aw (bC 6 (d2 dq (fun _=>some (.int 1)) (d2 dI (d2 dB (aa 3) (fun _=>some (.int 6))) (aa 1))))
  (a9 5 (asL (ou (asO (asL (az 1 [3,6] (iF (aa 6)) (setV 0) bf (d2 dI (d2 dq (aa 0) (d2 dB (aa 1) (fun _=>some (.int 42)))) (aa 2))))) (asO (asL (slL (aa 5) (bI (getV 6)) bNo))))))) dNx) (oF cs n k num (ae n) x6 x7 x8)=some (.nx (oF cs n k num row y6 y7 y8))∧row.Perm (ae n)∧(2≤num%6→row=ae n):=by
 by_cases h:num%6<2
 ·have hq:=dM num 6 (by decide)
  have hq2:=dM num 42 (by decide)
  have hm:=bH (num/6) n (by omega)
  generalize hr:num/6%n=r at *
  have r0:0≤r∧r<n:=by rw[← hr];exact⟨Xx _ (by omega),Xc _ (by omega)⟩
  refine⟨((ae (1+r)).map fun i=>(i+num/42)%(1+r))++(ae n).drop (1+r).toNat,some (.v (.int (1+r))),x7,x8,?_,rO (by omega) (by omega),fun z=>by omega⟩
  have hc:(az 1 [3,6] (iF (aa 6)) (setV 0) bf (d2 dI (d2 dq (aa 0) (d2 dB (aa 1) (fun _=>some (.int 42)))) (aa 2))) (oF cs n k num (ae n) (some (.v (.int (1+r)))) x7 x8)=some (((ae (1+r)).map fun i=>(i+num/42)%(1+r)).map .int):=by
   rw[bD,jy (n:=1+r) rfl (by omega),Ya,Yk (by rw[Yf,aK];omega),bF D.int (fun i=>.int ((i+num/42)%(1+r))),Zy]
   ·rfl
   ·intro x hx
    refine⟨_,rfl,rfl,?_⟩
    have:=bH (x+num/42) (1+r) (by omega)
    simp[hq2,this]
  have hs:slL (aa 5) (bI (getV 6)) bNo (oF cs n k num (ae n) (some (.v (.int (1+r)))) x7 x8)=some (((ae n).drop (1+r).toNat).map .int):=by
   rw[rC]
   show some (kN ((ae n).map D.int) (some (1+r)) none)=_
   rw[iV _ (by omega),List.map_drop]
  have hl:(((ae (1+r)).map fun i=>(i+num/42)%(1+r)).map D.int).length+(((ae n).drop (1+r).toNat).map D.int).length≤16777216:=by
   rw[Yf,Yf,Yf,Zq,aK,aK];omega
  rw[cy,show asB (d2 ltd (aj 4) (fun _=>some (.int 2))) (oF cs n k num (ae n) x6 x7 x8)=some true by simp[h],Ya,Yk rfl]
  rw[ai (ρ':=oF cs n k num (ae n) (some (.v (.int (1+r)))) x7 x8) (by
   generalize (ae n).map D.int=U at *
   simp[hq,hm])]
  rw[ig,bM,sw,dg,bM,hc,dg,bM,hs]
  show Option.map _ (Option.map _ (if _ then _ else _))=_
  rw[Yk hl,← ZG]
  rfl
 ·refine⟨ae n,x6,x7,x8,?_,.refl _,fun _=>rfl⟩
  rw[cy,show asB (d2 ltd (aj 4) (fun _=>some (.int 2))) (oF cs n k num (ae n) x6 x7 x8)=some false by simp[h],Ya,Ym (by decide)]
  rfl
theorem qC (C:Addr)(cs:D)(n k num:Int)(row:List Int)(x6 x7 x8:Option DV)(hn:1≤n∧n≤7)(hp:row.Perm (ae n))(he:2≤num%6→row=ae n):∃ row' y6 y7 y8,(dIf (asB (d2 eqD (aj 4) (fun _=>some (.int 2)))) (aw (bC 7 (d2 dI (d2 dB (aa 3) (fun _=>some (.int 6))) (aa 1)))
  (aw (bC 8 (d2 dI (d2 dB (aa 3) (fun _=>some (.int 42))) (aa 1)))
  (aw (df 5 (getV 7) (getV 8))
  (df 5 (getV 8) (getV 7))))) dNx) (oF cs n k num row x6 x7 x8)=some (.nx (oF cs n k num row' y6 y7 y8))∧row'.Perm (ae n):=by
 have ht:(asB (d2 eqD (aj 4) (fun _=>some (.int 2)))) (oF cs n k num row x6 x7 x8)=some (decide (num%6=2)):=by
  by_cases h2:num%6=2 <;> simp[h2]
 rw[cy,ht,Ya]
 by_cases h:num%6=2
 ·rw[Yk (YK h)]
  have e:=he (by omega)
  subst e
  have hq:=dM num 6 (by decide)
  have hq2:=dM num 42 (by decide)
  have hm:=bH (num/6) n (by omega)
  have hm2:=bH (num/42) n (by omega)
  generalize hi:num/6%n=i at *
  generalize hj:num/42%n=j at *
  have i0:0≤i∧i<n:=by rw[← hi];exact⟨Xx _ (by omega),Xc _ (by omega)⟩
  have j0:0≤j∧j<n:=by rw[← hj];exact⟨Xx _ (by omega),Xc _ (by omega)⟩
  refine⟨((ae n).set i.toNat j).set j.toNat i,x6,some (.v (.int i)),some (.v (.int j)),?_,oZ (bq.mpr i0) (bq.mpr j0)⟩
  rw[ai (ρ':=oF cs n k num (ae n) x6 (some (.v (.int i))) x8) (by
   generalize (ae n).map D.int=U at *
   simp[hq,hm])]
  rw[ai (ρ':=oF cs n k num (ae n) x6 (some (.v (.int i))) (some (.v (.int j)))) (by
   generalize (ae n).map D.int=U at *
   simp[hq2,hm2])]
  have l1:ixN ((ae n).map D.int).length i=some i.toNat:=no i0.1 (by rw[Yf,aK];omega)
  have l2:ixN ((((ae n).set i.toNat j)).map D.int).length j=some j.toNat:=no j0.1 (by rw[Yf,YI,aK];omega)
  rw[ai (ρ':=oF cs n k num ((ae n).set i.toNat j) x6 (some (.v (.int i))) (some (.v (.int j)))) (by
   unfold oF
   rw[List.map_set]
   generalize (ae n).map D.int=U at *
   simp[fr,l1])]
  have e2:(((ae n).set i.toNat j).set j.toNat i).map D.int=(((ae n).set i.toNat j).map D.int).set j.toNat (.int i):=by rw[List.map_set]
  unfold oF
  rw[e2]
  generalize ((ae n).set i.toNat j).map D.int=U at *
  simp[fr,l2]
 ·rw[Ym (by simpa using h)]
  exact⟨row,x6,x7,x8,rfl,hp⟩
theorem t3 (C:Addr)(cs:D)(n k num:Int)(row:List Int)(x6 x7 x8:Option DV)(hp:row.Perm (ae n)):∃ row',(dIf (asB (d2 eqD (aj 4) (fun _=>some (.int 3)))) (sX 5) dNx) (oF cs n k num row x6 x7 x8)=some (.nx (oF cs n k num row' x6 x7 x8))∧row'.Perm (ae n):=by
 have ht:(asB (d2 eqD (aj 4) (fun _=>some (.int 3)))) (oF cs n k num row x6 x7 x8)=some (decide (num%6=3)):=by
  by_cases h2:num%6=3 <;> simp[h2]
 rw[cy,ht,Ya]
 by_cases h:num%6=3
 ·rw[Yk (YK h)]
  refine⟨row.reverse,?_,(List.reverse_perm row).trans hp⟩
  show some (RES.nx _)=_
  unfold oF
  rw[List.map_reverse]
  rfl
 ·rw[Ym (by simpa using h)]
  exact⟨row,rfl,hp⟩
theorem sV (C:Addr)(cs:List Int)(n k num:Int)(row:List Int)(x6 x7 x8:Option DV)(hn:1≤n∧n≤7)(hk:0≤k)(hp:row.Perm (ae n)):∃ row',(dIf (asB (d2 eqD (aj 4) (fun _=>some (.int 4)))) (a9 5 (bZ (tz C) (aV (asO (asL (slL (aa 0) (bI (getV 2)) bNo))) (aV (getV 1) (aV (fun _=>some (.int 10133)) (fun _=>some [])))))) dNx) (oF (dR cs) n k num row x6 x7 x8)=some (.nx (oF (dR cs) n k num row' x6 x7 x8))∧row'.Perm (ae n):=by
 by_cases h:num%6=4
 ·obtain⟨r,e,p⟩:=pT C (cs.drop k.toNat) n 10133 hn (by decide)
  refine⟨r,?_,p⟩
  rw[cy,show (asB (d2 eqD (aj 4) (fun _=>some (.int 4)))) (oF (dR cs) n k num row x6 x7 x8)=some true by simp[h],Ya,Yk rfl]
  have hs:slL (aa 0) (bI (getV 2)) bNo (oF (dR cs) n k num row x6 x7 x8)=some ((cs.drop k.toNat).map .int):=by
   rw[rC]
   show some (kN (cs.map D.int) (some k) none)=_
   rw[iV _ hk,List.map_drop]
  have ha:(aV (asO (asL (slL (aa 0) (bI (getV 2)) bNo))) (aV (getV 1) (aV (fun _=>some (.int 10133)) (fun _=>some [])))) (oF (dR cs) n k num row x6 x7 x8)=some [.v (dR (cs.drop k.toNat)),.v (.int n),.v (.int 10133)]:=by
   rw[xf,dg,bM,hs]
   rfl
  rw[ig,rA,ha,Ya,e]
  rfl
 ·refine⟨row,?_,hp⟩
  rw[cy,show (asB (d2 eqD (aj 4) (fun _=>some (.int 4)))) (oF (dR cs) n k num row x6 x7 x8)=some false by simp[h],Ya,Ym (by decide)]
  rfl
theorem vJ (C:Addr)(cs:List Int)(n k:Int)(hn:1≤n∧n≤7)(hk:0≤k):∃ r:List Int,oB C [.v (dR cs),.v (.int n),.v (.int k)]=some (.own (.lst (r.map .int)) none)∧r.Perm (ae n):=by
 obtain⟨c,hc⟩:=f8 C cs (2+k) (by omega)
 obtain⟨num,hq,q0,q1⟩:=dX C (c+k) 10111 10000 (by decide) (by decide)
 obtain⟨r1,a6,a7,a8,e1,p1,h1⟩:=sH C (dR cs) n k num none none none hn
 obtain⟨r2,b6,b7,b8,e2,p2⟩:=qC C (dR cs) n k num r1 a6 a7 a8 hn p1 h1
 obtain⟨r4,e4,p4⟩:=t3 C (dR cs) n k num r2 b6 b7 b8 p2
 obtain⟨r3,e3,p3⟩:=sV C cs n k num r4 b6 b7 b8 hn hk p4
 refine⟨r3,?_,p3⟩
 show aX (g_q4 C [some (.v (dR cs)),some (.v (.int n)),some (.v (.int k)),none,none,none,none,none,none])=_
 unfold g_q4
 rw[ai (ρ':=[some (.v (dR cs)),some (.v (.int n)),some (.v (.int k)),some (.v (.int num)),none,none,none,none,none]) (by
  generalize dR cs=U at *
  generalize cC C=M1 at *
  generalize cQ C=M2 at *
  simp[hc,hq])]
 rw[ai (ρ':=[some (.v (dR cs)),some (.v (.int n)),some (.v (.int k)),some (.v (.int num)),some (.v (.int (num%6))),none,none,none,none]) (by
  have:=bH num 6 (by decide)
  generalize dR cs=U at *
  simp[this])]
 rw[ai (ρ':=oF (dR cs) n k num (ae n) none none none) (by
  have:=gj (f:=getV 1) (ρ:=[some (.v (dR cs)),some (.v (.int n)),some (.v (.int k)),some (.v (.int num)),some (.v (.int (num%6))),none,none,none,none]) (n:=n) rfl ⟨by omega,by omega⟩
  unfold oF
  generalize dR cs=U at *
  generalize (ae n).map D.int=V at *
  simp[this])]
 rw[ai e1,ai e2,ai e4,ai e3]
 rfl
def dRs (rows:List (List Int)):D:=.lst (rows.map dR)
def nx (rows:List (List Int))(t:Tu):List Tu:=rows.map fun r=>t.map (at1 r)
def InN (n:Int)(t:Tu):Prop:=t.length=n.toNat∧∀ x∈t,x∈ae n
theorem uA {n:Int}{rows:List (List Int)}(hr:∀ r∈rows,r.Perm (ae n)):∀ a,InN n a→∀ b∈nx rows a,InN n b:=fun a ha b hb=>by
 obtain⟨r,h,rfl⟩:=Zf.mp hb
 refine⟨by rw[Yf];exact ha.1,fun x hx=>?_⟩
 obtain⟨y,hy,rfl⟩:=Zf.mp hx
 exact u_ (hr r h) (ha.2 y hy)
theorem rE {n:Int}{r:List Int}(p:r.Perm (ae n)){a:Int}(ha:a∈ae n):ixD (dR r) (.int a)=some (.int (at1 r a)):=by
 have h:=bq.mp ha
 have hl:(r.length:Int)=n:=by rw[p.length_eq,aK];omega
 show atI (r.map D.int) a=_
 rw[pP h.1 (by rw[Yf];omega),YE,kY p ha]
 rfl
theorem uQ {f:Dd}{ρ:DF}{t:Tu}(h:f ρ=some (dU t)):cF f ρ=some (t.map .int):=by
 unfold cF
 rw[h]
 rfl
theorem sY (C:Addr){n:Int}{r:List Int}{t:Tu}(hn:n≤7)(hr:r.Perm (ae n))(ht:InN n t):lh C [.v (dU t),.v (dR r)]=some (.own (.lst ((t.map (at1 r)).map .int)) none):=by
 show aX (g_q0 C [some (.v (dU t)),some (.v (dR r))])=_
 unfold g_q0
 have hc:(az 1 [1] (cF (getV 0)) (setV 0) bf (d2 ixD (aa 1) (aa 0))) [some (.v (dU t)),some (.v (dR r))]=some ((t.map (at1 r)).map .int):=by
  rw[bD,uQ (t:=t) rfl,Ya,Yk (by rw[Yf,ht.1];omega),bF D.int (fun a=>.int (at1 r a)),Zy]
  ·rfl
  ·intro a ha
   refine⟨_,rfl,rfl,?_⟩
   have:=rE hr (ht.2 a ha)
   generalize dR r=R at *
   simp[this]
 rw[ik,bM,hc]
 rfl
theorem t8 (C:Addr){n:Int}{rows:List (List Int)}(hn:n≤7)(hr:∀ r∈rows,r.Perm (ae n))(h4:rows.length≤4){t:Tu}(ht:InN n t):fL C [some (.v (dU t)),some (.v (dRs rows))]=some (.lst ((nx rows t).map dU)):=by
 unfold fL
 have hc:(az 1 [0] (cY 1) (setV 0) bf (d1 cB (ay (lh C) (aV (getV 1) (aB 0 (fun _=>some [])))))) [some (.v (dU t)),some (.v (dRs rows))]=some ((nx rows t).map dU):=by
  rw[bD,show cY 1 [some (.v (dU t)),some (.v (dRs rows))]=some (rows.map dR) from rfl,Ya,Yk (by rw[Yf];omega),bF dR (fun r=>dU (t.map (at1 r)))]
  ·unfold nx
   rw[Zy]
   rfl
  ·intro r hx
   refine⟨_,rfl,rfl,?_⟩
   have:=sY C hn (hr r hx) ht
   have e:(ay (lh C) (aV (getV 1) (aB 0 (fun _=>some [])))) [some (.v (dR r)),some (.v (dU t))]=some (.lst ((t.map (at1 r)).map .int)):=by
    show (((aV (getV 1) (aB 0 (fun _=>some []))) [some (.v (dR r)),some (.v (dU t))]).bind (lh C)).bind _=_
    rw[show (aV (getV 1) (aB 0 (fun _=>some []))) [some (.v (dR r)),some (.v (dU t))]=some [.v (dU t),.v (dR r)] from rfl,Ya,this]
    rfl
   show (Option.bind (ay (lh C) _ _) cB)=_
   have e2:ay (lh C) (aV (getV 1) (aB 0 (fun _=>some []))) [some (.v (dR r)),some (.v (dU t))]=some (.lst ((t.map (at1 r)).map .int)):=e
   exact (Zz (fun z=>Option.bind z cB) e2).trans rfl
 rw[dg,bM,hc]
 rfl
abbrev wF (n:Int)(RS:D)(p:Tu)(S W:List Tu)(x5 x6 x7:Option DV):DF:=[some (.v (.int n)),some (.v RS),some (.v (dU p)),some (.own (.dT (knw S)) none),some (.own (.lst (W.map dU)) none),x5,x6,x7]
theorem qE {n:Int}{RS:D}{p t:Tu}(hn:n≤7)(ht:InN n t):∀ (rs:List (List Int)) (S W:List Tu) (x6 x7:Option DV),(∀ r∈rs,r.Perm (ae n))→S.length+rs.length≤1000→W.length+rs.length≤1000→∃ s y6 y7,eZ S (nx rs t)=S++s ∧
  fA (setV 6) (aw (bC 7 (d1 cB (asO (asL (az 1 [6] (cF (getV 5)) (setV 0) bf (d2 ixD (aa 1) (aa 0)))))))
  (dIf (asB (d2 (cI true) (getV 7) (aa 3))) (aw (d8 3 (getV 7) (fun _=>some (.bl true)))
  (kq 4 (getV 7))) dNx)) (rs.map dR) (wF n RS p S W (some (.v (dU t))) x6 x7)=some (.nx (wF n RS p (S++s) (W++s) (some (.v (dU t))) y6 y7))
 | [],S,W,x6,x7,_,_,_=>⟨[],x6,x7,by simp[nx,eZ],by rw[YC,YC];rfl⟩
 | r::rs,S,W,x6,x7,hr,hl,hw=>by
  rw[Yw] at hl hw
  have pr:=hr r Yc
  have e0:nx (r::rs) t=t.map (at1 r)::nx rs t:=rfl
  rw[e0,c7,YJ]
  generalize hu:t.map (at1 r)=u
  have hc:(az 1 [6] (cF (getV 5)) (setV 0) bf (d2 ixD (aa 1) (aa 0))) (wF n RS p S W (some (.v (dU t))) (some (.v (dR r))) x7)=some (u.map .int):=by
   rw[bD,uQ (t:=t) rfl,Ya,Yk (by rw[Yf,ht.1];omega),bF D.int (fun a=>.int (at1 r a)),← hu,Zy]
   ·rfl
   ·intro a ha
    refine⟨_,rfl,rfl,?_⟩
    have:=rE pr (ht.2 a ha)
    generalize dR r=R at *
    simp[this]
  have h7:(bC 7 (d1 cB (asO (asL (az 1 [6] (cF (getV 5)) (setV 0) bf (d2 ixD (aa 1) (aa 0))))))) (wF n RS p S W (some (.v (dU t))) (some (.v (dR r))) x7)=some (.nx (wF n RS p S W (some (.v (dU t))) (some (.v (dR r))) (some (.v (dU u))))):=by
   have:(asO (asL (az 1 [6] (cF (getV 5)) (setV 0) bf (d2 ixD (aa 1) (aa 0))))) (wF n RS p S W (some (.v (dU t))) (some (.v (dR r))) x7)=some (.lst (u.map .int)):=by rw[dg,bM,hc];rfl
   generalize (asO (asL (az 1 [6] (cF (getV 5)) (setV 0) bf (d2 ixD (aa 1) (aa 0)))))=I at *
   show ((d1 cB I) _).map _=_
   unfold d1
   rw[this]
   rfl
  have hg:=pZ S u
  have hk:=gB u
  by_cases h:u∈S
  ·obtain⟨s,y6,y7,e1,e2⟩:=qE (RS:=RS) (p:=p) hn ht rs S W (some (.v (dR r))) (some (.v (dU u))) (fun q hq=>hr q (Yb _ hq)) (by omega) (by omega)
   rw[Yk h]
   refine⟨s,y6,y7,e1,?_⟩
   rw[← e2]
   refine fU (ρ1:=wF n RS p S W (some (.v (dU t))) (some (.v (dR r))) x7) rfl ?_
   rw[ai h7]
   rw[YK h] at hg
   unfold wF
   generalize knw S=K at *
   generalize dU u=v at *
   simp[hg]
  ·obtain⟨s,y6,y7,e1,e2⟩:=qE (RS:=RS) (p:=p) hn ht rs (S++[u]) (W++[u]) (some (.v (dR r))) (some (.v (dU u))) (fun q hq=>hr q (Yb _ hq)) (by rw[Yh,Ze];omega) (by rw[Yh,Ze];omega)
   rw[Ym h]
   refine⟨u::s,y6,y7,by rw[e1,Ys];rfl,?_⟩
   rw[show S++u::s=S++[u]++s by simp,show W++u::s=W++[u]++s by simp,← e2]
   refine fU (ρ1:=wF n RS p S W (some (.v (dU t))) (some (.v (dR r))) x7) rfl ?_
   rw[ai h7]
   rw[Yz h] at hg
   have hp:=nN S u h
   have ha:(W++[u]).map dU=W.map dU++[dU u]:=by simp
   have l1:(knw S).length<16777216:=by rw[fi];omega
   have l2:(W.map dU).length<16777216:=by rw[Yf];omega
   unfold wF
   rw[ha,← hp]
   generalize knw S=K at *
   generalize W.map dU=U at *
   generalize dU u=v at *
   simp[hg,d8,hk,l1,l2]
theorem qL {n:Int}{rows:List (List Int)}{p:Tu}(hn:n≤7)(h4:rows.length≤4)(hr:∀ r∈rows,r.Perm (ae n)):∀ (k:Nat) (S W:List Tu) (x5 x6 x7:Option DV) (e:Nat),S.Nodup→p∈S→(∀ x∈S,InN n x∧Rch (nx rows) p x)→(∀ x∈W,x∈S)→(∀ a∈S,a∉W→∀ b∈nx rows a,b∈S)→S.length=W.length+e→e≤720→S.length≤724→722≤e+k→∃ S' W' y5 y6 y7,
  bz (bV (asB (d2 gtI (d1 bn (aj 4)) (fun _=>some (.int 0)))) (asB (d2 leI (d1 fg (aa 3)) (fun _=>some (.int 720))))) (aw (gm 5 4)
  (jx (cY 1) (setV 6) (aw (bC 7 (d1 cB (asO (asL (az 1 [6] (cF (getV 5)) (setV 0) bf (d2 ixD (aa 1) (aa 0)))))))
  (dIf (asB (d2 (cI true) (getV 7) (aa 3))) (aw (d8 3 (getV 7) (fun _=>some (.bl true)))
  (kq 4 (getV 7))) dNx)))) k (wF n (dRs rows) p S W x5 x6 x7)=some (.nx (wF n (dRs rows) p S' W' y5 y6 y7))∧Got (nx rows) p S'∧S'.length≤724
 | 0,S,W,x5,x6,x7,e,hn',hp,hS,hW,hc,he,h7,h8,hl=>by omega
 | k+1,S,W,x5,x6,x7,e,hn',hp,hS,hW,hc,he,h7,h8,hl=>by
  have ht:(bV (asB (d2 gtI (d1 bn (aj 4)) (fun _=>some (.int 0)))) (asB (d2 leI (d1 fg (aa 3)) (fun _=>some (.int 720))))) (wF n (dRs rows) p S W x5 x6 x7)=some (decide (0<W.length∧S.length≤720)):=by
   have e1:(asB (d2 gtI (d1 bn (aj 4)) (fun _=>some (.int 0)))) (wF n (dRs rows) p S W x5 x6 x7)=some (decide (0<W.length)):=by
    unfold wF
    have:gtI (.int (((W.map dU).length:Nat):Int)) (.int 0)=some (.bl (decide ((((W.map dU).length:Nat):Int) > 0))):=rfl
    have l:(W.map dU).length=W.length:=Yf ..
    show (match gtI (.int (((W.map dU).length:Nat):Int)) (.int 0) with | some (D.bl b)=>some b | _=>none)=_
    rw[this,l]
    show some _=some _
    congr 1
    exact ZZ.mpr (by omega)
   have e2:(asB (d2 leI (d1 fg (aa 3)) (fun _=>some (.int 720)))) (wF n (dRs rows) p S W x5 x6 x7)=some (decide (S.length≤720)):=by
    unfold wF
    have:leI (.int (((knw S).length:Nat):Int)) (.int 720)=some (.bl (decide ((((knw S).length:Nat):Int)≤720))):=rfl
    show (match leI (.int (((knw S).length:Nat):Int)) (.int 720) with | some (D.bl b)=>some b | _=>none)=_
    rw[this,fi]
    show some _=some _
    congr 1
    exact ZZ.mpr (by omega)
   unfold bV
   rw[e1]
   by_cases z:0<W.length
   ·rw[YK z]
    refine e2.trans ?_
    congr 1
    exact ZZ.mpr ⟨fun y=>⟨z,y⟩,fun y=>y.2⟩
   ·rw[Yz z]
    show some false=_
    congr 1
    exact (Yz fun y=>z y.1).symm
  by_cases hq:0<W.length∧S.length≤720
  ·obtain⟨lt,le⟩:=hq
   have hne:W≠[]:=fun z=>by rw[z] at lt;cases lt
   obtain⟨W0,a,rfl⟩:∃ W0 a,W=W0++[a]:=⟨W.dropLast,W.getLast hne,(List.dropLast_concat_getLast hne).symm⟩
   rw[Yh,Ze] at he
   have aS:=hW a (by simp)
   obtain⟨aM,ar⟩:=hS a aS
   obtain⟨s,y6,y7,e1,e2⟩:=qE (RS:=dRs rows) (p:=p) hn aM rows S W0 x6 x7 hr (by omega) (by omega)
   obtain⟨s',es,sl⟩:=iq (nx rows a) S
   have ss:s=s':=List.append_cancel_left (e1.symm.trans es)
   subst ss
   have nl:(nx rows a).length=rows.length:=Yf ..
   have mem:∀ x,x∈S++s↔x∈S∨x∈nx rows a:=fun x=>by rw[← e1];exact cT
   obtain⟨S',W',z5,z6,z7,e3,g⟩:=qL (p:=p) hn h4 hr k (S++s) (W0++s) (some (.v (dU a))) y6 y7 (e+1) (by rw[← e1];exact fW hn') (Yt.mpr (.inl hp)) (fun x hx=>by
    rcases (mem x).mp hx with h | h
    ·exact hS x h
    ·exact⟨uA hr a aM x h,.step ar h⟩) (fun x hx=>by
    rcases Yt.mp hx with h | h
    ·exact Yt.mpr (.inl (hW x (by simp[h])))
    ·exact Yt.mpr (.inr h)) (fun c hc' hcw b hb=>by
    refine (mem b).mpr ?_
    have c1:c∈S:=by
     rcases Yt.mp hc' with h | h
     ·exact h
     ·exact absurd (Yt.mpr (.inr h)) hcw
    by_cases z:c=a
    ·subst z;exact .inr hb
    ·refine .inl (hc c c1 (fun y=>?_) b hb)
     rcases Yt.mp y with h | h
     ·exact hcw (Yt.mpr (.inl h))
     ·exact z (YB.mp h)) (by rw[Yh,Yh];omega) (by omega) (by rw[Yh];omega) (by omega)
   refine⟨S',W',z5,z6,z7,?_,g⟩
   rw[← e3]
   refine jt (ht.trans (Zz some (YK ⟨by rw[Yh];simp,le⟩))) ?_
   rw[ai (ρ':=wF n (dRs rows) p S W0 (some (.v (dU a))) x6 x7) (by
    have em:(W0++[a]).map dU=W0.map dU++[dU a]:=by simp
    unfold wF
    rw[em]
    generalize W0.map dU=U
    show (((U++[dU a])[(U++[dU a]).length-1]?).bind fun d=>if (5:Nat)=4 then none else some (RES.nx _))=_
    have:(U++[dU a])[(U++[dU a]).length-1]?=some (dU a):=by simp
    rw[this,Ya,Ym (by decide),List.dropLast_concat]
    rfl)]
   exact e2
  ·refine⟨S,W,x5,x6,x7,jf (ht.trans (Zz some (Yz hq))),⟨hn',hp,fun x hx=>(hS x hx).2,?_⟩,h8⟩
   rcases Xr 720 S.length with z | z
   ·exact .inr z
   ·refine .inl fun a ha b hb=>hc a ha (fun y=>?_) b hb
    exact hq ⟨List.length_pos_of_mem y,z⟩
theorem lL {n:Int}:InN n (ae n):=⟨aK n,fun _ h=>h⟩
theorem oR (C:Addr){n:Int}{rows:List (List Int)}(hn:1≤n∧n≤7)(h4:rows.length≤4)(hr:∀ r∈rows,r.Perm (ae n)):∃ S,sf C [.v (.int n),.v (dRs rows)]=some (.own (.dT (knw S)) none)∧Got (nx rows) (ae n) S∧S.length≤724:=by
 obtain⟨S,W,y5,y6,y7,e,g,g2⟩:=qL (p:=ae n) hn.2 h4 hr 1000 [ae n] [ae n] none none none 0 (by simp) (by simp) (fun x hx=>by rw[YB] at hx;subst hx;exact⟨lL,.refl⟩) (fun x hx=>hx) (fun a ha hb=>absurd ha hb) rfl (by omega) (by simp) (by omega)
 refine⟨S,?_,g,g2⟩
 show aX (g_q8 C [some (.v (.int n)),some (.v (dRs rows)),none,none,none,none,none,none])=_
 unfold g_q8
 rw[ai (ρ':=[some (.v (.int n)),some (.v (dRs rows)),some (.v (dU (ae n))),none,none,none,none,none]) (by
  have:=gj (f:=getV 0) (ρ:=[some (.v (.int n)),some (.v (dRs rows)),none,none,none,none,none,none]) (n:=n) rfl ⟨by omega,by omega⟩
  show ((en _ _).map _).map _=_
  rw[this]
  rfl)]
 rw[ai (ρ':=[some (.v (.int n)),some (.v (dRs rows)),some (.v (dU (ae n))),some (.own (.dT (knw [ae n])) none),none,none,none,none]) (by
  have hk:=gB (ae n)
  show (Option.bind (some (dU (ae n))) fun y=>(fE y).bind fun k=>_).map _=_
  rw[Ya,hk]
  rfl)]
 rw[ai (ρ':=wF n (dRs rows) (ae n) [ae n] [ae n] none none none) rfl]
 rw[ai e]
 rfl
theorem sN (C:Addr){n:Int}(hn:1≤n∧n≤7):k9 C [.v (.int n)]=some (.own (.lst ((ae n).map .int)) none):=by
 show aX (g_q11 C [some (.v (.int n))])=_
 unfold g_q11
 have:=gj (f:=getV 0) (ρ:=[some (.v (.int n))]) (n:=n) rfl ⟨by omega,by omega⟩
 rw[ik,bM,this]
 rfl
section
variable {n:Int} {rows:List (List Int)}
abbrev fnd (n:Int)(rows:List (List Int)):List Tu:=bfs (nx rows) 1000 [ae n] 0
theorem jB (C:Addr)(hn:1≤n∧n≤7)(h4:rows.length≤4)(hr:∀ r∈rows,r.Perm (ae n)):lG C [.v (.int n),.v (dRs rows),.v (.int 720)]=some (.own (.lst ((fnd n rows).map dU)) none)∧Got (nx rows) (ae n) (fnd n rows)∧(fnd n rows).length≤724∧∀ x∈fnd n rows,InN n x:=by
 obtain⟨e,g⟩:=wZ (C:=C) (dc:=dRs rows) (p:=ae n) (uA hr) (fun a _=>by unfold nx;rw[Yf];exact h4) (fun a ha=>t8 C hn.2 hr h4 ha) lL
 refine⟨?_,g⟩
 show aX (g_q1 C [some (.v (.int n)),some (.v (dRs rows)),some (.v (.int 720)),none])=_
 unfold g_q1
 rw[ai (ρ':=[some (.v (.int n)),some (.v (dRs rows)),some (.v (.int 720)),some (.v (dU (ae n)))]) (by
  have:=sN C hn
  have e2:ay (k9 C) (aV (getV 0) (fun _=>some [])) [some (.v (.int n)),some (.v (dRs rows)),some (.v (.int 720)),none]=some (.lst ((ae n).map .int)):=by
   show (Option.bind (some [DV.v (.int n)]) (k9 C)).bind _=_
   rw[Ya,this]
   rfl
  show Option.map _ (Option.bind _ cB)=_
  exact (Zz (fun z=>Option.map _ (Option.bind z cB)) e2).trans rfl)]
 show aX (Option.bind (some (D.lst [dU (ae n)])) fun d0=>Option.bind (some (dRs rows)) fun dc=>Option.bind (some (D.int 720)) fun d2=>(de 8 (g_q10 C) dc d0 d2).bind fun ds=>_)=_
 rw[Ya,Ya,Ya,e]
 rfl
def unU:D→Tu
 | .tup ds=>ds.map unI
 | _=>[]
theorem jr (t:Tu):unU (dU t)=t:=by
 show (t.map D.int).map unI=t
 rw[Zy]
 exact List.map_id' t
theorem vT {a b:Tu}(h:dU a=dU b):a=b:=by rw[← jr a,h,jr]
theorem yV (m:Nat)(t:Tu):okN (m+1) (dU t)=true:=by
 show (t.map D.int).all (okN m)=true
 rw[YD]
 intro x hx
 obtain⟨i,_,rfl⟩:=Zf.mp hx
 cases m <;> rfl
theorem vK (F:List Tu):Cmps 28 (F.map dU):=
 ⟨fun x hx=>by obtain⟨t,_,rfl⟩:=Zf.mp hx;exact yV 27 t,fun x hx y hy=>by obtain⟨t,_,rfl⟩:=Zf.mp hx;obtain⟨u,_,rfl⟩:=Zf.mp hy;exact gX t u⟩
theorem wo {F:List Tu}(hn:1≤n)(hF:∀ x∈F,InN n x)(hl:F.length≤724)(nd:F.Nodup):cK (F.map dU)=true∧∃ G:List Tu,cq (F.map dU)=G.map dU∧G.Perm F∧G.Pairwise fun a b=>aA (a.map .int) (b.map .int)=true:=by
 have hc:=vK F
 refine⟨?_,(cq (F.map dU)).map unU,?_,?_,?_⟩
 ·unfold cK
  simp only[Yx,YX]
  refine⟨⟨⟨⟨by rw[Yf];omega,YD.mpr hc.1⟩,YD.mpr fun x hx=>YD.mpr fun y hy=>hc.2 x hx y hy⟩,YD.mpr fun x hx=>?_⟩,YD.mpr fun x hx=>?_⟩
  ·obtain⟨t,ht,rfl⟩:=Zf.mp hx
   have:=(hF t ht).1
   cases t with
   | nil=>rw[YR] at this;omega
   | cons y t=>rfl
  ·obtain⟨t,ht,rfl⟩:=Zf.mp hx
   cases t with
   | nil=>rfl
   | cons y t=>rfl
 ·rw[Zy]
  have:∀ L:List D,(∀ d∈L,∃ t,d=dU t)→L=L.map (dU ∘ unU):=fun L h=>by
   induction L with
   | nil=>rfl
   | cons d L ih=>
    obtain⟨t,rfl⟩:=h d Yc
    rw[YJ,← ih fun d hd=>h d (Yb _ hd)]
    show _=dU (unU (dU t))::_
    rw[jr]
  exact this _ fun d hd=>by
   obtain⟨t,_,e⟩:=Zf.mp ((bh _).mem_iff.mp hd)
   exact⟨t,e.symm⟩
 ·have:=(bh (F.map dU)).map unU
  rw[Zy,show unU ∘ dU=id from funext jr,List.map_id] at this
  exact this
 ·have hs:=c8 hc
  have nd2:(cq (F.map dU)).Nodup:=(bh _).nodup_iff.mpr (by
   unfold List.Nodup
   rw[Xf]
   exact nd.imp fun h z=>h (vT z))
  have hc2:=hc.perm (bh _).symm
  have mem:∀ d∈cq (F.map dU),∃ t,d=dU t:=fun d hd=>by
   obtain⟨t,_,e⟩:=Zf.mp ((bh _).mem_iff.mp hd)
   exact⟨t,e.symm⟩
  rw[Xf]
  refine (hs.and nd2).imp_of_mem fun {x y} hx hy ⟨h1,h2⟩=>?_
  obtain⟨a,rfl⟩:=mem x hx
  obtain⟨b,rfl⟩:=mem y hy
  rw[jr,jr]
  cases q:ltD (dU a) (dU b) with
  | true=>exact q
  | false=>exact absurd ((dL 28 _ _ (hc2.1 _ hx) (hc2.1 _ hy) (hc2.2 _ hx _ hy)).an q h1) h2
theorem t7 (C:Addr)(hn:1≤n∧n≤7)(h4:rows.length≤4)(hr:∀ r∈rows,r.Perm (ae n))(hl:(fnd n rows).length≤720):∃ G:List Tu,rJ C [.v (.int n),.v (dRs rows)]=some (.own (.lst2 (G.map fun t=>t.map .int)) none)∧G.Perm (fnd n rows)∧G.Pairwise fun a b=>aA (a.map .int) (b.map .int)=true:=by
 obtain⟨e,g,g2,g3⟩:=jB C hn h4 hr
 generalize fnd n rows=F at *
 obtain⟨so,G,eG,pG,sG⟩:=wo hn.1 g3 g2 g.nd
 refine⟨G,?_,pG,sG⟩
 show aX (g_q9 C [some (.v (.int n)),some (.v (dRs rows)),none])=_
 unfold g_q9
 rw[ai (ρ':=[some (.v (.int n)),some (.v (dRs rows)),some (.own (.lst (F.map dU)) none)]) (by
  show Option.map _ (Option.bind (Option.bind (some [DV.v (.int n),.v (dRs rows),.v (.int 720)]) (lG C)) _)=_
  rw[Ya,e]
  rfl)]
 have ht:(asB (d2 gtI (d1 bn (aj 2)) (fun _=>some (.int 720)))) [some (.v (.int n)),some (.v (dRs rows)),some (.own (.lst (F.map dU)) none)]=some false:=by
  have:gtI (.int (((F.map dU).length:Nat):Int)) (.int 720)=some (.bl (decide ((((F.map dU).length:Nat):Int) > 720))):=rfl
  show (match gtI (.int (((F.map dU).length:Nat):Int)) (.int 720) with | some (D.bl b)=>some b | _=>none)=_
  rw[this,Yf,Yz (by omega)]
 rw[ai (ρ':=[some (.v (.int n)),some (.v (dRs rows)),some (.own (.lst (F.map dU)) none)]) (by
  rw[cy,ht,Ya,Ym (by decide)]
  rfl)]
 have hs:iN (aa 2) [some (.v (.int n)),some (.v (dRs rows)),some (.own (.lst (F.map dU)) none)]=some (G.map dU):=by
  rw[← eG]
  show (if cK (F.map dU)=true then _ else _)=_
  rw[Yk so]
 have hi:aW (asO (asL (iN (aa 2)))) [some (.v (.int n)),some (.v (dRs rows)),some (.own (.lst (F.map dU)) none)]=some (G.map dU):=by
  unfold aW
  rw[dg,bM,hs]
  rfl
 have hc:(az 1 [] (aW (asO (asL (iN (aa 2))))) (setV 0) bf fun ρ=>((bX (aa 0)) ρ).map .lst) [some (.v (.int n)),some (.v (dRs rows)),some (.own (.lst (F.map dU)) none)]=some (G.map fun t=>.lst (t.map .int)):=by
  rw[bD,hi,Ya,Yk (by rw[Yf,pG.length_eq];omega),bF dU (fun t=>.lst (t.map .int))]
  intro t _
  exact⟨_,rfl,rfl,rfl⟩
 rw[ik]
 unfold qD
 rw[hc,Ya,show (G.map fun t=>D.lst (t.map .int))=(G.map fun t=>t.map D.int).map D.lst by rw[Zy];rfl,ly]
 rfl
theorem l9 (C:Addr)(hn:1≤n∧n≤7)(h4:rows.length≤4)(hr:∀ r∈rows,r.Perm (ae n))(hl:720<(fnd n rows).length):l8 C [.v (.int n),.v (dRs rows)]=some (.v (.bl true)):=by
 obtain⟨e,g,g2,g3⟩:=jB C hn h4 hr
 generalize fnd n rows=F at *
 have hz:cu C [.v (.int n),.v (dRs rows)]=true:=by
  unfold cu
  have h0:(a9 2 (bZ (lG C) (aV (getV 0) (aV (getV 1) (aV (fun _=>some (.int 720)) (fun _=>some [])))))) [some (.v (.int n)),some (.v (dRs rows)),none]=some (.nx [some (.v (.int n)),some (.v (dRs rows)),some (.own (.lst (F.map dU)) none)]):=by
   show Option.map _ (Option.bind (Option.bind (some [DV.v (.int n),.v (dRs rows),.v (.int 720)]) (lG C)) _)=_
   rw[Ya,e]
   rfl
  have ht:(asB (d2 gtI (d1 bn (aj 2)) (fun _=>some (.int 720)))) [some (.v (.int n)),some (.v (dRs rows)),some (.own (.lst (F.map dU)) none)]=some true:=by
   have:gtI (.int (((F.map dU).length:Nat):Int)) (.int 720)=some (.bl (decide ((((F.map dU).length:Nat):Int) > 720))):=rfl
   show (match gtI (.int (((F.map dU).length:Nat):Int)) (.int 720) with | some (D.bl b)=>some b | _=>none)=_
   rw[this,Yf,YK (by omega)]
  unfold je
  rw[Yk (show [DV.v (.int n),DV.v (dRs rows)].length=2 from rfl)]
  show (match (a9 2 (bZ (lG C) (aV (getV 0) (aV (getV 1) (aV (fun _=>some (.int 720)) (fun _=>some [])))))) [some (.v (.int n)),some (.v (dRs rows)),none] with | some (.nx ρ)=>_ | _=>_)=_
  rw[h0]
  show ((asB (d2 gtI (d1 bn (aj 2)) (fun _=>some (.int 720)))) [some (.v (.int n)),some (.v (dRs rows)),some (.own (.lst (F.map dU)) none)]).getD false=true
  rw[ht]
  rfl
 show aX (g_q6 C [some (.v (.int n)),some (.v (dRs rows)),none,none])=_
 unfold g_q6
 rw[ai (ρ':=[some (.v (.int n)),some (.v (dRs rows)),some (.v .non),none]) rfl]
 show aX (Option.bind (some [DV.v (.int n),.v (dRs rows)]) fun xs=>if cu C xs=true then _ else _)=_
 rw[Ya,Yk hz]
 rfl
end
theorem uS (n:Nat)(r:List Int):okN (n+1) (.lst (r.map .int))=true:=by
 show (r.map D.int).all (okN n)=true
 rw[YD]
 intro x hx
 obtain⟨t,_,rfl⟩:=Zf.mp hx
 cases n <;> rfl
theorem vx (rows:List (List Int)):okN 30 (dRs rows)=true:=by
 show (rows.map dR).all (okN 29)=true
 rw[YD]
 intro x hx
 obtain⟨r,_,rfl⟩:=Zf.mp hx
 exact uS 28 r
theorem nE:∀ rows:List (List Int),PyData.eqvAll (bB (rows.map dR)) (bB (rows.map dR))=true
 | []=>by simp[bB,PyData.eqvAll]
 | r::rows=>by
  have h:PyData.eqv (bG (dR r)) (bG (dR r))=true:=sh D.int (fun _ _=>rfl) r
  have h2:=nE rows
  rw[YJ]
  generalize dR r=R at *
  generalize rows.map dR=U at *
  simp only[bB,PyData.eqvAll,Yx]
  exact⟨h,h2⟩
theorem vA (rows:List (List Int)):eqd (dRs rows) (dRs rows)=true:=nE rows
theorem wX (rows:List (List Int)):eqD (dRs rows) (dRs rows)=some (.bl true)∧neD (dRs rows) (dRs rows)=some (.bl false):=by
 have h1:=vx rows
 have h2:=vA rows
 constructor
 ·show (if (okN 30 (dRs rows)&&okN 30 (dRs rows))=true then some (D.bl (eqd (dRs rows) (dRs rows))) else none)=_
  rw[h1,Bool.and_self,Yk rfl,h2]
 ·show (if (okN 30 (dRs rows)&&okN 30 (dRs rows))=true then some (D.bl (!eqd (dRs rows) (dRs rows))) else none)=_
  rw[h1,Bool.and_self,Yk rfl,h2]
  rfl
theorem lp {ρ:DF}{st:Dq}{fc:Dk}:∀ {L:List D},(∀ d∈L,∃ ρ1,st d ρ=some ρ1∧fc ρ1=some false)→e_ ρ st fc L=some false
 | [],_=>rfl
 | d::L,h=>by
  obtain⟨ρ1,h1,h2⟩:=h d Yc
  show ((st d ρ).bind fun ρ1=>(fc ρ1).bind fun b=>if b=true then some true else e_ ρ st fc L)=_
  rw[h1,Ya,h2,Ya,Ym (by decide)]
  exact lp fun d hd=>h d (Yb _ hd)
theorem pM (t:Tu){ρ:DF}(h:∃ x,ρ[9]?=some (some (.v x))∧x=.lst (t.map .int))(hl:t.length≤1000):(az 1 [] (aW (getV 9)) (setV 0) bf (dh (d1 (br "int") (aj 0)) (fT (d1 (br "bool") (aj 0))))) ρ=some (t.map fun _=>.bl true):=by
 obtain⟨_,h,rfl⟩:=h
 have hi:aW (getV 9) ρ=some (t.map .int):=by
  unfold aW
  rw[tu,h]
 rw[bD,hi,Ya,Yk (by rw[Yf];omega),bF D.int (fun _=>.bl true)]
 intro i _
 exact⟨_,rfl,rfl,rfl⟩
theorem rq (t:Tu):gD (.lst (t.map fun _=>.bl true))=some (.bl true):=by
 induction t with
 | nil=>rfl
 | cons x t ih=>exact ih
section
variable {n m:Int} {A B:D} {rows:List (List Int)} {S G:List Tu}
abbrev lF (A B:D)(n m:Int)(rows:List (List Int))(S:List Tu)(x7 x8 x9:Option DV):DF:=[some (.v A),some (.v B),some (.v (.int n)),some (.v (.int m)),some (.v (dRs rows)),some (.v (dRs rows)),some (.own (.dT (knw S)) none),x7,x8,x9]
def dGs (G:List Tu):List (List D):=G.map fun t=>t.map .int
theorem vd {j:Nat}{d:D}(h:((dGs G).map D.lst)[j]?=some d):∃ t,G[j]?=some t∧d=dR t:=by
 unfold dGs at h
 rw[Zy,YE] at h
 cases q:G[j]? with
 | none=>rw[q] at h;cases h
 | some t=>rw[q] at h;cases h;exact⟨t,rfl,rfl⟩
theorem vE {j:Nat}{t:Tu}(hG:G.Pairwise fun a b=>aA (a.map .int) (b.map .int)=true)(hS:∀ x∈G,x∈S)(hl:∀ x∈G,x.length≤7)(hg:G[j]?=some t) :
  (orB (orT (bU (asB (d1 (br "list") (aj 9)))) (asB (d2 (cI true) (d1 cB (aa 9)) (aa 6)))) (orB (bV (asB (d2 gtI (aa 8) (fun _=>some (.int 0)))) (bU (asB (d2 ltL (d2 ixD (aa 7) (d2 jC (aa 8) (fun _=>some (.int 1)))) (aj 9))))) (bU (asB (d1 gD (asO (asL (az 1 [] (aW (getV 9)) (setV 0) bf (dh (d1 (br "int") (aj 0)) (fT (d1 (br "bool") (aj 0)))))))))))) (lF A B n m rows S (some (.v (.lst ((dGs G).map .lst)))) (some (.v (.int j))) (some (.v (dR t))))=some false:=by
 have tm:=Zk hg
 have a1:(orT (bU (asB (d1 (br "list") (aj 9)))) (asB (d2 (cI true) (d1 cB (aa 9)) (aa 6)))) (lF A B n m rows S (some (.v (.lst ((dGs G).map .lst)))) (some (.v (.int j))) (some (.v (dR t))))=some false:=by
  have hn:=pZ S t
  rw[YK (hS t tm)] at hn
  have ht:cB (dR t)=some (dU t):=rfl
  have hi:br "list" (dR t)=some (.bl true):=rfl
  unfold lF
  generalize knw S=K at *
  generalize dU t=u at *
  generalize dR t=R at *
  generalize D.lst ((dGs G).map .lst)=Q at *
  simp[orT,hi,ht,hn]
 have a2:(bV (asB (d2 gtI (aa 8) (fun _=>some (.int 0)))) (bU (asB (d2 ltL (d2 ixD (aa 7) (d2 jC (aa 8) (fun _=>some (.int 1)))) (aj 9))))) (lF A B n m rows S (some (.v (.lst ((dGs G).map .lst)))) (some (.v (.int j))) (some (.v (dR t))))=some false:=by
  have hgt:gtI (.int (j:Int)) (.int 0)=some (.bl (decide ((j:Int) > 0))):=rfl
  by_cases hj:j=0
  ·subst hj
   unfold lF
   generalize dR t=R at *
   generalize D.lst ((dGs G).map .lst)=Q at *
   simp[bV,hgt]
  ·have lt:=(Yi.mp hg).1
   have lt':j-1<G.length:=by omega
   have hu:G[j-1]?=some G[j-1]:=Ye lt'
   have hx:=ZL.mp hG (j-1) j lt' lt (by omega)
   rw[(Yi.mp hg).2] at hx
   generalize G[j-1]=u at hu hx
   have hix:ixD (.lst ((dGs G).map .lst)) (.int ((j:Int)-1))=some (dR u):=by
    show atI ((dGs G).map D.lst) ((j:Int)-1)=_
    rw[show ((j:Int)-1)=((j-1:Nat):Int) by omega]
    refine jI ?_
    unfold dGs
    rw[Zy,YE,hu]
    rfl
   have hlt:ltL (dR u) (dR t)=some (.bl true):=by
    show (if ((u.map D.int).all (okN 29)&&(t.map D.int).all (okN 29)&&aI (u.map .int) (t.map .int))=true then some (D.bl (aA (u.map .int) (t.map .int))) else none)=_
    have o:∀ r:Tu,(r.map D.int).all (okN 29)=true:=fun r=>uS 29 r
    rw[o,o,gX,hx]
    rfl
   have hgt':gtI (.int (j:Int)) (.int 0)=some (.bl true):=by rw[hgt,YK (by omega)]
   have hsub:jC (.int (j:Int)) (.int 1)=some (.int ((j:Int)-1)):=rfl
   unfold lF
   generalize dR t=R at *
   generalize dR u=U at *
   generalize D.lst ((dGs G).map .lst)=Q at *
   generalize (j:Int)=z at *
   simp[bV,hgt',hsub,hix,hlt]
 have a3:(bU (asB (d1 gD (asO (asL (az 1 [] (aW (getV 9)) (setV 0) bf (dh (d1 (br "int") (aj 0)) (fT (d1 (br "bool") (aj 0)))))))))) (lF A B n m rows S (some (.v (.lst ((dGs G).map .lst)))) (some (.v (.int j))) (some (.v (dR t))))=some false:=by
  have:=pM t (ρ:=lF A B n m rows S (some (.v (.lst ((dGs G).map .lst)))) (some (.v (.int j))) (some (.v (dR t)))) ⟨_,rfl,rfl⟩ (by have:=hl t tm;omega)
  have ha:=rq t
  show Option.map _ (asB (d1 gD (asO (asL _))) _)=_
  have e:asB (d1 gD (asO (asL (az 1 [] (aW (getV 9)) (setV 0) bf (dh (d1 (br "int") (aj 0)) (fT (d1 (br "bool") (aj 0)))))))) (lF A B n m rows S (some (.v (.lst ((dGs G).map .lst)))) (some (.v (.int j))) (some (.v (dR t))))=some true:=by
   generalize (az 1 [] (aW (getV 9)) (setV 0) bf (dh (d1 (br "int") (aj 0)) (fT (d1 (br "bool") (aj 0)))))=I at *
   unfold asB d1
   rw[dg,bM,this]
   show (match gD (.lst (t.map fun _=>.bl true)) with | some (.bl b)=>some b | _=>none)=_
   rw[ha]
  rw[e]
  rfl
 unfold orB
 rw[a1,Ya,Ym (by decide),a2,Ya,Ym (by decide),a3]
end
theorem mQ {rows:List (List Int)}{r:List Int}:(rows.map dR).set 0 (dR r)=(rows.set 0 r).map dR:=(List.map_set ..).symm
theorem uk (C:Addr){n m:Int}{A B:D}{rows:List (List Int)}(hn:1≤n∧n≤7)(h4:rows.length≤4)(hr:∀ r∈rows,r.Perm (ae n)) :
  aX ((aw (a9 6 (bZ (sf C) (aV (getV 2) (aB 4 (fun _=>some [])))))
  (aw (dIf (asB (d2 gtI (d1 fg (aa 6)) (fun _=>some (.int 720)))) (eM (dh (ay (l8 C) (aV (getV 2) (aV (getV 5) (fun _=>some [])))) (d2 eqD (aj 5) (aj 4)))) dNx)
  (aw (a9 7 (bZ (rJ C) (aV (getV 2) (aV (getV 5) (fun _=>some [])))))
  (aw (dIf (iL 7 (orT (bU (asB (d1 (br "list") (aj 7)))) (orT (asB (d2 neD (d1 bn (aj 7)) (d1 fg (aa 6)))) (asB (d2 neD (aj 5) (aj 4)))))) (eM (fun _=>some (.bl false))) dNx)
  (aw (gH 7 [8,9] (mW [8,9]) (orB (orT (bU (asB (d1 (br "list") (aj 9)))) (asB (d2 (cI true) (d1 cB (aa 9)) (aa 6)))) (orB (bV (asB (d2 gtI (aa 8) (fun _=>some (.int 0)))) (bU (asB (d2 ltL (d2 ixD (aa 7) (d2 jC (aa 8) (fun _=>some (.int 1)))) (aj 9))))) (bU (asB (d1 gD (asO (asL (az 1 [] (aW (getV 9)) (setV 0) bf (dh (d1 (br "int") (aj 0)) (fT (d1 (br "bool") (aj 0)))))))))))) false)
  (aw (dH 7 9)
  (eM (d2 eqD (aj 5) (aj 4))))))))) [some (.v A),some (.v B),some (.v (.int n)),some (.v (.int m)),some (.v (dRs rows)),some (.v (dRs rows)),none,none,none,none])=some (.v (.bl true)):=by
 obtain⟨S,eS,gS,lS⟩:=oR C hn h4 hr
 obtain⟨_,gF,lF',mF⟩:=jB C hn h4 hr
 obtain⟨heq,hne⟩:=wX rows
 rw[ai (ρ':=lF A B n m rows S none none none) (by
  show Option.map _ (Option.bind (Option.bind (some [DV.v (.int n),.v (dRs rows)]) (sf C)) _)=_
  rw[Ya,eS]
  rfl)]
 have ht:(asB (d2 gtI (d1 fg (aa 6)) (fun _=>some (.int 720)))) (lF A B n m rows S none none none)=some (decide (720<S.length)):=by
  have:gtI (.int (((knw S).length:Nat):Int)) (.int 720)=some (.bl (decide ((((knw S).length:Nat):Int) > 720))):=rfl
  show (match gtI (.int (((knw S).length:Nat):Int)) (.int 720) with | some (D.bl b)=>some b | _=>none)=_
  rw[this,fi]
  show some _=some _
  congr 1
  exact ZZ.mpr (by omega)
 by_cases hS:720<S.length
 ·have hrf:=l9 C hn h4 hr (gF.great gS hS)
  have hb:(dIf (asB (d2 gtI (d1 fg (aa 6)) (fun _=>some (.int 720)))) (eM (dh (ay (l8 C) (aV (getV 2) (aV (getV 5) (fun _=>some [])))) (d2 eqD (aj 5) (aj 4)))) dNx) (lF A B n m rows S none none none)=some (.rt (.v (.bl true)) (lF A B n m rows S none none none)):=by
   rw[cy,ht,Ya,Yk (YK hS)]
   have ec:ay (l8 C) (aV (getV 2) (aV (getV 5) (fun _=>some []))) (lF A B n m rows S none none none)=some (.bl true):=by
    show (Option.bind (some [DV.v (.int n),.v (dRs rows)]) (l8 C)).bind _=_
    rw[Ya,hrf]
    rfl
   have ee:d2 eqD (aj 5) (aj 4) (lF A B n m rows S none none none)=some (.bl true):=by
    unfold lF
    generalize dRs rows=R at *
    simp[heq]
   show Option.map _ (dh _ _ _)=_
   unfold dh
   rw[ec]
   show Option.map _ (d2 eqD (aj 5) (aj 4) (lF A B n m rows S none none none))=_
   rw[ee]
   rfl
  rw[ug hb]
  rfl
 ·obtain⟨l1,pm⟩:=gF.small gS (by omega)
  obtain⟨G,eG,pG,sG⟩:=t7 C hn h4 hr l1
  have GS:=pG.trans pm
  have gl:G.length=S.length:=GS.length_eq
  rw[ai (ρ':=lF A B n m rows S none none none) (by
   rw[cy,ht,Ya,Ym (by rw[Yz hS];decide)]
   rfl)]
  rw[ai (ρ':=lF A B n m rows S (some (.own (.lst2 (dGs G)) none)) none none) (by
   show Option.map _ (Option.bind (Option.bind (some [DV.v (.int n),.v (dRs rows)]) (rJ C)) _)=_
   rw[Ya,eG]
   rfl)]
  have t10:(iL 7 (orT (bU (asB (d1 (br "list") (aj 7)))) (orT (asB (d2 neD (d1 bn (aj 7)) (d1 fg (aa 6)))) (asB (d2 neD (aj 5) (aj 4)))))) (lF A B n m rows S (some (.own (.lst2 (dGs G)) none)) none none)=some false:=by
   unfold iL
   show (orT (bU (asB (d1 (br "list") (aj 7)))) (orT (asB (d2 neD (d1 bn (aj 7)) (d1 fg (aa 6)))) (asB (d2 neD (aj 5) (aj 4))))) (lF A B n m rows S (some (.v (.lst ((dGs G).map .lst)))) none none)=_
   have l2:((dGs G).map D.lst).length=G.length:=by unfold dGs;rw[Yf,Yf]
   have hi:br "list" (.lst ((dGs G).map .lst))=some (.bl true):=rfl
   have hL:bn (.lst ((dGs G).map .lst))=some (.int G.length):=by show some (D.int _)=_;rw[l2]
   have hK:fg (.dT (knw S))=some (.int G.length):=by show some (D.int _)=_;rw[fi,gl]
   have hne2:neD (.int (G.length:Int)) (.int (G.length:Int))=some (.bl false):=by
    show some (D.bl (!eqd (.int (G.length:Int)) (.int (G.length:Int))))=_
    have:eqd (.int (G.length:Int)) (.int (G.length:Int))=true:=by rw[j8,YK rfl]
    rw[this]
    rfl
   unfold lF
   generalize D.lst ((dGs G).map .lst)=Q at *
   generalize knw S=Kd at *
   generalize dRs rows=R at *
   simp[orT,hi,hL,hK,hne2,hne]
  rw[ai (ρ':=lF A B n m rows S (some (.own (.lst2 (dGs G)) none)) none none) (by
   rw[cy,t10,Ya,Ym (by decide)]
   rfl)]
  have hlen:∀ x∈G,x.length≤7:=fun x hx=>by have:=(mF x (pG.mem_iff.mp hx)).1;omega
  have hall:e_ (lF A B n m rows S (some (.v (.lst ((dGs G).map .lst)))) none none) (mW [8,9]) (orB (orT (bU (asB (d1 (br "list") (aj 9)))) (asB (d2 (cI true) (d1 cB (aa 9)) (aa 6)))) (orB (bV (asB (d2 gtI (aa 8) (fun _=>some (.int 0)))) (bU (asB (d2 ltL (d2 ixD (aa 7) (d2 jC (aa 8) (fun _=>some (.int 1)))) (aj 9))))) (bU (asB (d1 gD (asO (asL (az 1 [] (aW (getV 9)) (setV 0) bf (dh (d1 (br "int") (aj 0)) (fT (d1 (br "bool") (aj 0)))))))))))) (bQ ((dGs G).map .lst))=some false:=lp fun d hd=>by
   obtain⟨j,hj,e⟩:=ZN.mp hd
   obtain⟨d0,hd0,rfl⟩:=iG (Yi.mpr ⟨hj,e⟩)
   obtain⟨t,hg,rfl⟩:=vd hd0
   exact⟨_,rfl,vE sG (fun x hx=>GS.mem_iff.mp hx) hlen hg⟩
  rw[ai (ρ':=lF A B n m rows S (some (.own (.lst2 (dGs G)) none)) none none) (by
   unfold gH
   show (if (7:Nat)∈[8,9] then none else (e_ (lF A B n m rows S (some (.v (.lst ((dGs G).map .lst)))) none none) (mW [8,9]) (orB (orT (bU (asB (d1 (br "list") (aj 9)))) (asB (d2 (cI true) (d1 cB (aa 9)) (aa 6)))) (orB (bV (asB (d2 gtI (aa 8) (fun _=>some (.int 0)))) (bU (asB (d2 ltL (d2 ixD (aa 7) (d2 jC (aa 8) (fun _=>some (.int 1)))) (aj 9))))) (bU (asB (d1 gD (asO (asL (az 1 [] (aW (getV 9)) (setV 0) bf (dh (d1 (br "int") (aj 0)) (fT (d1 (br "bool") (aj 0)))))))))))) (bQ ((dGs G).map .lst))).bind fun b=>some (if b=true then _ else _))=_
   rw[Ym (by decide),hall,Ya,Ym (by decide)]
   rfl)]
  have hsz:(dGs G).all (fun ds=>decide (ds.length+(dGs G).length≤16777216))=true:=YD.mpr fun ds hds=>by
   unfold dGs at hds ⊢
   obtain⟨t,ht,rfl⟩:=Zf.mp hds
   have:=hlen t ht
   rw[YX,Yf,Yf]
   omega
  rw[ai (ρ':=lF A B n m rows S none none none) (by
   unfold dH
   exact Yk ⟨by simp,hsz⟩)]
  have ee:d2 eqD (aj 5) (aj 4) (lF A B n m rows S none none none)=some (.bl true):=by
   unfold lF
   generalize dRs rows=R at *
   simp[heq]
  show aX (Option.map _ (d2 eqD (aj 5) (aj 4) (lF A B n m rows S none none none)))=_
  rw[ee]
  rfl
theorem law_true (C:Addr)(ns:List Int)(hl:ns.length≤63):xa C [.v (.lst (ns.map L2.D.int))]=some (.v (.bl true)):=by
 show aX (g_q2 C [some (.v (dR ns)),none,none,none,none,none,none,none,none,none])=_
 unfold g_q2
 have hc:(az 1 [] (cY 0) (setV 0) bf (d2 dI (aa 0) (d2 r8 (fun _=>some (.int 10)) (fun _=>some (.int 40))))) [some (.v (dR ns)),none,none,none,none,none,none,none,none,none]=some ((ns.map fun c=>c%10 ^ 40).map .int):=by
  rw[bD,show cY 0 [some (.v (dR ns)),none,none,none,none,none,none,none,none,none]=some (ns.map .int) from rfl,Ya,Yk (by rw[Yf];omega),bF D.int (fun c=>.int (c%10 ^ 40)),Zy]
  ·rfl
  ·intro c _
   refine⟨_,rfl,rfl,?_⟩
   have hp:r8 (.int 10) (.int 40)=some (.int (10 ^ 40)):=rfl
   have:=bH c (10 ^ 40) (by decide)
   generalize (10:Int) ^ 40=P at *
   simp[hp,this]
 generalize (ns.map fun c=>c%10 ^ 40)=cs at hc
 rw[ai (ρ':=[some (.v (dR ns)),some (.v (dR cs)),none,none,none,none,none,none,none,none]) (by rw[nV,dg,bM,hc];rfl)]
 obtain⟨c0,e0⟩:=f8 C cs 0 (by decide)
 obtain⟨s,es,s0,s1⟩:=dX C c0 10061 7 (by decide) (by decide)
 generalize hn':1+s=n
 have hn:1≤n∧n≤7:=by omega
 rw[ai (ρ':=[some (.v (dR ns)),some (.v (dR cs)),some (.v (.int n)),none,none,none,none,none,none,none]) (by
  generalize dR ns=U at *
  generalize dR cs=V at *
  generalize cC C=M1 at *
  generalize cQ C=M2 at *
  simp[e0,es,hn'])]
 obtain⟨c1,e1⟩:=f8 C cs 1 (by decide)
 obtain⟨m,em,m0,m1⟩:=dX C c1 10067 5 (by decide) (by decide)
 rw[ai (ρ':=[some (.v (dR ns)),some (.v (dR cs)),some (.v (.int n)),some (.v (.int m)),none,none,none,none,none,none]) (by
  generalize dR ns=U at *
  generalize dR cs=V at *
  generalize cC C=M1 at *
  generalize cQ C=M2 at *
  simp[e1,em])]
 obtain⟨m2,l2,u2,e3⟩:∃ m2:Int,0≤m2∧m2≤4∧(dIf (asB (d2 eqD (ay (cC C) (aV (ay (cQ C) (aB 1 (aV (fun _=>some (.int 1)) (fun _=>some [])))) (aV (fun _=>some (.int 10069)) (aV (fun _=>some (.int 2)) (fun _=>some []))))) (fun _=>some (.int 0)))) (bC 3 (d2 oP (aj 3) (fun _=>some (.int 2)))) dNx) [some (.v (dR ns)),some (.v (dR cs)),some (.v (.int n)),some (.v (.int m)),none,none,none,none,none,none]=some (.nx [some (.v (dR ns)),some (.v (dR cs)),some (.v (.int n)),some (.v (.int m2)),none,none,none,none,none,none]):=by
  obtain⟨b,eb,_⟩:=dX C c1 10069 2 (by decide) (by decide)
  have hmin:oP (.int m) (.int 2)=some (.int (if 2<m then 2 else m)):=rfl
  by_cases hb:b=0
  ·refine⟨if 2<m then 2 else m,by split <;> omega,by split <;> omega,?_⟩
   subst hb
   generalize dR ns=U at *
   generalize dR cs=V at *
   generalize cC C=M1 at *
   generalize cQ C=M2 at *
   simp[e1,eb,hmin]
  ·refine⟨m,m0,by omega,?_⟩
   generalize dR ns=U at *
   generalize dR cs=V at *
   generalize cC C=M1 at *
   generalize cQ C=M2 at *
   simp[e1,eb,hb]
 rw[ai e3]
 have hrows:∃ rows:List (List Int),rows.length=m2.toNat∧(∀ r∈rows,r.Perm (ae n))∧(az 1 [1,2] (iF (aa 3)) (setV 0) bf (ay (oB C) (aB 1 (aV (getV 2) (aV (getV 0) (fun _=>some [])))))) [some (.v (dR ns)),some (.v (dR cs)),some (.v (.int n)),some (.v (.int m2)),none,none,none,none,none,none]=some (rows.map dR):=by
  have:=i7 (st:=setV 0) (c:=bf) (e:=(ay (oB C) (aB 1 (aV (getV 2) (aV (getV 0) (fun _=>some [])))))) (ρ:=[none,some (.v (dR cs)),some (.v (.int n))]) dR (fun r=>r.Perm (ae n)) ((ae m2).map .int) (fun d hd=>by
   obtain⟨k,hk,rfl⟩:=Zf.mp hd
   obtain⟨r,er,pr⟩:=vJ C cs n k hn (bq.mp hk).1
   refine⟨[some (.v (.int k)),some (.v (dR cs)),some (.v (.int n))],rfl,rfl,r,?_,pr⟩
   have hd:dvD (.own (.lst (r.map .int)) none)=some (dR r):=rfl
   generalize dR cs=V at *
   generalize oB C=M at *
   simp[er]
   rfl)
  obtain⟨rows,h1,h2,h3⟩:=this
  refine⟨rows,?_,h3,?_⟩
  ·rw[h2,Yf,aK]
  ·rw[bD,jy (n:=m2) rfl ⟨by omega,by omega⟩,Ya,Yk (by rw[Yf,aK];omega)]
   exact h1
 obtain⟨rows0,rl0,hr0,er0⟩:=hrows
 rw[ai (ρ':=[some (.v (dR ns)),some (.v (dR cs)),some (.v (.int n)),some (.v (.int m2)),some (.own (.lst (rows0.map dR)) none),none,none,none,none,none]) (by rw[ig,bM,er0];rfl)]
 obtain⟨rows,rl,hr,e5⟩:∃ rows:List (List Int),rows.length=m2.toNat∧(∀ r∈rows,r.Perm (ae n))∧(dIf (bV (asB (d2 gtI (aa 3) (fun _=>some (.int 1)))) (asB (d2 eqD (ay (cC C) (aV (ay (cQ C) (aB 1 (aV (fun _=>some (.int 1)) (fun _=>some [])))) (aV (fun _=>some (.int 10079)) (aV (fun _=>some (.int 4)) (fun _=>some []))))) (fun _=>some (.int 0))))) (df 4 (fun _=>some (.int 0)) (asO (asL (bX (d2 ixD (aa 4) (fun _=>some (.int 1))))))) dNx) [some (.v (dR ns)),some (.v (dR cs)),some (.v (.int n)),some (.v (.int m2)),some (.own (.lst (rows0.map dR)) none),none,none,none,none,none]=some (.nx [some (.v (dR ns)),some (.v (dR cs)),some (.v (.int n)),some (.v (.int m2)),some (.own (.lst (rows.map dR)) none),none,none,none,none,none]):=by
  obtain⟨b,eb,_⟩:=dX C c1 10079 4 (by decide) (by decide)
  have ht:(bV (asB (d2 gtI (aa 3) (fun _=>some (.int 1)))) (asB (d2 eqD (ay (cC C) (aV (ay (cQ C) (aB 1 (aV (fun _=>some (.int 1)) (fun _=>some [])))) (aV (fun _=>some (.int 10079)) (aV (fun _=>some (.int 4)) (fun _=>some []))))) (fun _=>some (.int 0))))) [some (.v (dR ns)),some (.v (dR cs)),some (.v (.int n)),some (.v (.int m2)),some (.own (.lst (rows0.map dR)) none),none,none,none,none,none]=some (decide (1<m2∧b=0)):=by
   have hg:gtI (.int m2) (.int 1)=some (.bl (decide (m2 > 1))):=rfl
   generalize dR ns=U at *
   generalize dR cs=V at *
   generalize cC C=M1 at *
   generalize cQ C=M2 at *
   generalize rows0.map dR=Y at *
   by_cases h1:1<m2
   ·by_cases hb:b=0
    ·simp[bV,hg,h1,e1,eb,hb]
    ·simp[bV,hg,h1,e1,eb,hb]
   ·simp[bV,hg,h1]
  rw[cy,ht,Ya]
  by_cases h:1<m2∧b=0
  ·rw[Yk (YK h)]
   have l1:1<rows0.length:=by omega
   have hg1:rows0[1]?=some rows0[1]:=Ye l1
   have m1':=ZA l1
   generalize rows0[1]=r1 at hg1 m1'
   refine⟨rows0.set 0 r1,by rw[YI];exact rl0,fun r hrm=>?_,?_⟩
   ·rcases List.mem_or_eq_of_mem_set hrm with z | z
    ·exact hr0 r z
    ·rw[z];exact hr0 r1 m1'
   ·have hix:ixD (.lst (rows0.map dR)) (.int 1)=some (dR r1):=by
     show atI (rows0.map dR) ((1:Nat):Int)=_
     exact jI (by rw[YE,hg1];rfl)
    have hi0:ixN (rows0.map dR).length 0=some 0:=no (by decide) (by rw[Yf];omega)
    have hit:dF (dR r1)=some (r1.map .int):=rfl
    rw[← mQ]
    generalize hR:dR r1=R at *
    generalize dR ns=U at *
    generalize dR cs=V at *
    generalize rows0.map dR=Y at *
    simp[fr,bX,hix,hi0,hit]
    exact Zz (Y.set 0) hR
  ·rw[Ym (by simpa using h)]
   exact⟨rows0,rl0,hr0,rfl⟩
 rw[ai e5]
 have hh:(az 1 [] (aW (getV 4)) (setV 0) bf (asO (asL (bX (aa 0))))) [some (.v (dR ns)),some (.v (dR cs)),some (.v (.int n)),some (.v (.int m2)),some (.v (dRs rows)),none,none,none,none,none]=some (rows.map dR):=by
  rw[bD,show aW (getV 4) [some (.v (dR ns)),some (.v (dR cs)),some (.v (.int n)),some (.v (.int m2)),some (.v (dRs rows)),none,none,none,none,none]=some (rows.map dR) from rfl,Ya,Yk (by rw[Yf];omega),bF dR dR]
  intro r _
  exact⟨_,rfl,rfl,rfl⟩
 rw[ai (ρ':=[some (.v (dR ns)),some (.v (dR cs)),some (.v (.int n)),some (.v (.int m2)),some (.v (dRs rows)),some (.v (dRs rows)),none,none,none,none]) (by
  show (bC 5 (asO (asL (az 1 [] (aW (getV 4)) (setV 0) bf (asO (asL (bX (aa 0)))))))) [some (.v (dR ns)),some (.v (dR cs)),some (.v (.int n)),some (.v (.int m2)),some (.v (dRs rows)),none,none,none,none,none]=_
  rw[nV,dg,bM,hh]
  rfl)]
 exact uk C hn (by omega) hr
theorem qr {α:Type}{us:List α}(h:us.length=1):∃ a,us=[a]:=List.length_eq_one_iff.mp h
theorem jl {α:Type}{us:List α}(h:us.length=2):∃ a1 a2,us=[a1,a2]:=by
 cases us with
 | nil=>cases h
 | cons a r=>
  obtain⟨a2,rfl⟩:=qr (Nat.succ.inj h)
  exact⟨a,a2,rfl⟩
theorem lu {α:Type}{us:List α}(h:us.length=3):∃ a1 a2 a3,us=[a1,a2,a3]:=by
 cases us with
 | nil=>cases h
 | cons a r=>
  obtain⟨a2,a3,rfl⟩:=jl (Nat.succ.inj h)
  exact⟨a,a2,a3,rfl⟩
def kE (P:Params)(x:Str)(t:Nat)(v:Value):DictEntry:=⟨PyData.keyHash P x,.str x t,v⟩
def fO (n q:Str)(s:Stmt)(m:Str)(t c:Nat)(d:Value:=.none):Obj:=⟨.type "function",none,.func (PySem.W.fnOf n q (defArgs s) (defBody s) (defScope s) d .none .none (.str m t) none (.ref c) .none),#[]⟩
def cO (n:Str)(t:Nat)(q:Str)(u v:Nat)(l a f:Int)(r:Nat)(g:Int)(r2 r3:Nat)(h l2:Int)(y:Nat)(c d:Value:=.none):Obj:={ cls:=.type "code",data:=.fields #[.str n t,.str q u,.str "/claim/cut.py" v,.int l 0,.int a 0,.int 0 0,.int 0 0,.int f 0,.ref r,.bool true,.int g 0,.ref r2,.none,c,d,.ref r3,.int h 0,.int l2 0,.str "/claim/cut.py" y] }
def kz:Str := "__doc__"
def KK:Params→PySem.W.Frag:=fun P=>(fun (_:kz = "__doc__")=>
(nat_lit 3,{ cls:=.type "dict",data:=.dict #[kE P "__name__" 165 (.str "law_tieword_k16_made_of" 313),kE P "__doc__" 166 (.none),kE P "__package__" 167 (.none),kE P "__loader__" 168 (.builtin "__main__.__loader__#opaque"),kE P "__spec__" 169 (.none),kE P "__annotations__" 170 (.ref 6),kE P "__builtins__" 171 (.ref 4),kE P "__file__" 173 (.str "/claim/cut.py" 172),kE P "__cached__" 174 (.none),kE P "WebError" 206 (.ref 24),kE P "TooGreat" 222 (.ref 37),kE P "BadOrder" 238 (.ref 49),kE P "TooMany" 254 (.ref 61),kE P "BadText" 270 (.ref 73),kE P "reached" 278 (.ref 81),kE P "MOST_TOLD" 282 (.int 720 281),kE P "stay" 289 (.ref 88),kE P "both" 295 (.ref 93),kE P "come_of" 306 (.ref 101),kE P "made_of" 312 (.ref 106),kE P "_law_cell" 322 (.ref 113),kE P "_law_some" 331 (.ref 120),kE P "_law_order" 343 (.ref 127),kE P "_law_one" 349 (.ref 132),kE P "_law_walked" 355 (.ref 137),kE P "_law_refused" 365 (.ref 144),kE P "law" 371 (.ref 149)] 27 }) ::
(nat_lit 23,{ cls:=.type "dict",data:=.dict #[kE P "__module__" 196 (.str "tieword.errors" 187),kE P "__firstlineno__" 200 (.int 2 199),kE P "__static_attributes__" 201 (.ref 22),kE P "__weakref__" 203 (.ref 25),kE P "__doc__" 204 (.none)] 3 }) ::
(nat_lit 24,{ cls:=.type "type",data:=.cls { name := "WebError",bases:=[.type "ValueError"],mro:=[.ref 24,.type "ValueError",.type "Exception",.type "BaseException",.type "object"],ns:=23,qualname := "WebError",subclasses:=[.ref 37,.ref 49,.ref 61,.ref 73] },slots:=#[some (.ref 15),none,some (.str "WebError" 189),some (.str "WebError" 197),some (.builtin "ValueError.__new__"),some (.bool true)] }) ::
(nat_lit 37,{ cls:=.type "type",data:=.cls { name := "TooGreat",bases:=[.ref 24],mro:=[.ref 37,.ref 24,.type "ValueError",.type "Exception",.type "BaseException",.type "object"],ns:=36,qualname := "TooGreat" },slots:=#[some (.ref 28),none,some (.str "TooGreat" 207),some (.str "TooGreat" 215),some (.builtin "ValueError.__new__"),some (.bool true)] }) ::
(nat_lit 49,{ cls:=.type "type",data:=.cls { name := "BadOrder",bases:=[.ref 24],mro:=[.ref 49,.ref 24,.type "ValueError",.type "Exception",.type "BaseException",.type "object"],ns:=48,qualname := "BadOrder" },slots:=#[some (.ref 40),none,some (.str "BadOrder" 223),some (.str "BadOrder" 231),some (.builtin "ValueError.__new__"),some (.bool true)] }) ::
(nat_lit 60,{ cls:=.type "dict",data:=.dict #[kE P "__module__" 246 (.str "tieword.errors" 187),kE P "__firstlineno__" 250 (.int 8 249),kE P "__static_attributes__" 251 (.ref 59),kE P "__doc__" 252 (.none)] 2 }) ::
(nat_lit 61,{ cls:=.type "type",data:=.cls { name := "TooMany",bases:=[.ref 24],mro:=[.ref 61,.ref 24,.type "ValueError",.type "Exception",.type "BaseException",.type "object"],ns:=60,qualname := "TooMany" },slots:=#[some (.ref 52),none,some (.str "TooMany" 239),some (.str "TooMany" 247),some (.builtin "ValueError.__new__"),some (.bool true)] }) ::
(nat_lit 73,{ cls:=.type "type",data:=.cls { name := "BadText",bases:=[.ref 24],mro:=[.ref 73,.ref 24,.type "ValueError",.type "Exception",.type "BaseException",.type "object"],ns:=72,qualname := "BadText" },slots:=#[some (.ref 64),none,some (.str "BadText" 255),some (.str "BadText" 263),some (.builtin "ValueError.__new__"),some (.bool true)] }) ::
(nat_lit 76,{ cls:=.type "tuple",data:=.seq #[.none] }) ::
(nat_lit 80,cO "reached" 273 "reached" 274 275 13 3 3 77 181 78 79 276 13 277) ::
(nat_lit 81,fO "reached" "reached" fK "tieword.reach" 271 80 (.ref (nat_lit 76))) ::
(nat_lit 87,cO "stay" 283 "stay" 284 285 27 1 3 82 181 83 86 287 27 288 (.ref 84) (.ref 85)) ::
(nat_lit 88,fO "stay" "stay" gE "tieword.turnings" 279 87) ::
(nat_lit 92,cO "both" 290 "both" 291 292 29 2 3 89 181 90 91 293 29 294) ::
(nat_lit 93,fO "both" "both" lx "tieword.turnings" 279 92) ::
(nat_lit 94,{ cls:=.type "tuple",data:=.seq #[.none] }) ::
(nat_lit 100,cO "come_of" 296 "come_of" 297 298 31 3 3 95 181 96 99 304 31 305 (.ref 97) (.ref 98)) ::
(nat_lit 101,fO "come_of" "come_of" iC "tieword.turnings" 279 100 (.ref (nat_lit 94))) ::
(nat_lit 105,cO "made_of" 307 "made_of" 308 309 34 2 3 102 181 103 104 310 34 311) ::
(nat_lit 106,fO "made_of" "made_of" kL "tieword.turnings" 279 105) ::
(nat_lit 112,cO "_law_cell" 315 "_law_cell" 316 317 40 2 3 107 181 108 111 320 40 321 (.ref 109) (.ref 110)) ::
(nat_lit 113,fO "_law_cell" "_law_cell" lW "law_tieword_k16_made_of" 313 112) ::
(nat_lit 119,cO "_law_some" 323 "_law_some" 324 325 44 3 3 114 181 115 118 329 44 330 (.ref 116) (.ref 117)) ::
(nat_lit 120,fO "_law_some" "_law_some" nc "law_tieword_k16_made_of" 313 119) ::
(nat_lit 126,cO "_law_order" 332 "_law_order" 333 334 46 3 3 121 181 122 125 341 46 342 (.ref 123) (.ref 124)) ::
(nat_lit 127,fO "_law_order" "_law_order" m8 "law_tieword_k16_made_of" 313 126) ::
(nat_lit 131,cO "_law_one" 344 "_law_one" 345 346 52 3 3 128 181 129 130 347 52 348) ::
(nat_lit 132,fO "_law_one" "_law_one" lJ "law_tieword_k16_made_of" 313 131) ::
(nat_lit 136,cO "_law_walked" 350 "_law_walked" 351 352 69 2 3 133 181 134 135 353 69 354) ::
(nat_lit 137,fO "_law_walked" "_law_walked" lc "law_tieword_k16_made_of" 313 136) ::
(nat_lit 143,cO "_law_refused" 356 "_law_refused" 357 358 81 2 3 138 181 139 142 363 81 364 (.ref 140) (.ref 141)) ::
(nat_lit 144,fO "_law_refused" "_law_refused" l6 "law_tieword_k16_made_of" 313 143) ::
(nat_lit 148,cO "law" 366 "law" 367 368 90 1 3 145 181 146 147 369 90 370) ::
(nat_lit 149,fO "law" "law" ii "law_tieword_k16_made_of" 313 148)::[]) rfl
set_option autoImplicit true in
set_option relaxedAutoImplicit true in
theorem all_mk {l:PySem.W.OpenLaw}{w:World}{K:Kq}{h:Heap}{mg:Ks}{fa:Addr}(X:K.In h)(G:h.Ns mainGlobals mg)(hfa:mg "law"=some (.ref fa))
  (a_q7:PySem.W.nsIn K mainGlobals "_law_some"=some (some (.ref f_q7)))
  (l_q7:K.lookup f_q7=some ⟨oc_q7,od_q7,.func (PySem.W.fnOf "_law_some" "_law_some" (defArgs nc) (defBody nc) (defScope nc) .none kV_q7 dc_q7 pm_q7 an_q7 cd_q7 ct_q7),sl_q7⟩)
  (c_q7:PySem.W.codeIn K cd_q7 "_law_some"=true)
  (k_q7:PySem.W.keepIn K (.ref f_q7)=true)
  (a_q3:PySem.W.nsIn K mainGlobals "_law_cell"=some (some (.ref f_q3)))
  (l_q3:K.lookup f_q3=some ⟨oc_q3,od_q3,.func (PySem.W.fnOf "_law_cell" "_law_cell" (defArgs lW) (defBody lW) (defScope lW) .none kV_q3 dc_q3 pm_q3 an_q3 cd_q3 ct_q3),sl_q3⟩)
  (c_q3:PySem.W.codeIn K cd_q3 "_law_cell"=true)
  (k_q3:PySem.W.keepIn K (.ref f_q3)=true)
  (a_q5:PySem.W.nsIn K mainGlobals "_law_order"=some (some (.ref f_q5)))
  (l_q5:K.lookup f_q5=some ⟨oc_q5,od_q5,.func (PySem.W.fnOf "_law_order" "_law_order" (defArgs m8) (defBody m8) (defScope m8) .none kV_q5 dc_q5 pm_q5 an_q5 cd_q5 ct_q5),sl_q5⟩)
  (c_q5:PySem.W.codeIn K cd_q5 "_law_order"=true)
  (k_q5:PySem.W.keepIn K (.ref f_q5)=true)
  (a_q4:PySem.W.nsIn K mainGlobals "_law_one"=some (some (.ref f_q4)))
  (l_q4:K.lookup f_q4=some ⟨oc_q4,od_q4,.func (PySem.W.fnOf "_law_one" "_law_one" (defArgs lJ) (defBody lJ) (defScope lJ) .none kV_q4 dc_q4 pm_q4 an_q4 cd_q4 ct_q4),sl_q4⟩)
  (c_q4:PySem.W.codeIn K cd_q4 "_law_one"=true)
  (k_q4:PySem.W.keepIn K (.ref f_q4)=true)
  (a_q8:PySem.W.nsIn K mainGlobals "_law_walked"=some (some (.ref f_q8)))
  (l_q8:K.lookup f_q8=some ⟨oc_q8,od_q8,.func (PySem.W.fnOf "_law_walked" "_law_walked" (defArgs lc) (defBody lc) (defScope lc) .none kV_q8 dc_q8 pm_q8 an_q8 cd_q8 ct_q8),sl_q8⟩)
  (c_q8:PySem.W.codeIn K cd_q8 "_law_walked"=true)
  (k_q8:PySem.W.keepIn K (.ref f_q8)=true)
  (a_q11:PySem.W.nsIn K mainGlobals "stay"=some (some (.ref f_q11)))
  (l_q11:K.lookup f_q11=some ⟨oc_q11,od_q11,.func (PySem.W.fnOf "stay" "stay" (defArgs gE) (defBody gE) (defScope gE) .none kV_q11 dc_q11 pm_q11 an_q11 cd_q11 ct_q11),sl_q11⟩)
  (c_q11:PySem.W.codeIn K cd_q11 "stay"=true)
  (k_q11:PySem.W.keepIn K (.ref f_q11)=true)
  (a_q0:PySem.W.nsIn K mainGlobals "both"=some (some (.ref f_q0)))
  (l_q0:K.lookup f_q0=some ⟨oc_q0,od_q0,.func (PySem.W.fnOf "both" "both" (defArgs lx) (defBody lx) (defScope lx) .none kV_q0 dc_q0 pm_q0 an_q0 cd_q0 ct_q0),sl_q0⟩)
  (c_q0:PySem.W.codeIn K cd_q0 "both"=true)
  (k_q0:PySem.W.keepIn K (.ref f_q0)=true)
  (a_q10:PySem.W.nsIn K mainGlobals "reached"=some (some (.ref f_q10)))
  (l_q10:K.lookup f_q10=some ⟨oc_q10,od_q10,.func (PySem.W.fnOf "reached" "reached" (defArgs fK) (defBody fK) (defScope fK) (.ref td_r) kV_q10 dc_q10 pm_q10 an_q10 cd_q10 ct_q10),sl_q10⟩)
  (c_q10:PySem.W.codeIn K cd_q10 "reached"=true)
  (k_q10:PySem.W.keepIn K (.ref f_q10)=true)
  (a_q1:PySem.W.nsIn K mainGlobals "come_of"=some (some (.ref f_q1)))
  (l_q1:K.lookup f_q1=some ⟨oc_q1,od_q1,.func (PySem.W.fnOf "come_of" "come_of" (defArgs iC) (defBody iC) (defScope iC) (.ref td_c) kV_q1 dc_q1 pm_q1 an_q1 (.ref cc) ct_q1),sl_q1⟩)
  (c_q1:PySem.W.codeIn K (.ref cc) "come_of"=true)
  (k_q1:PySem.W.keepIn K (.ref f_q1)=true)
  (a_q9:PySem.W.nsIn K mainGlobals "made_of"=some (some (.ref f_q9)))
  (l_q9:K.lookup f_q9=some ⟨oc_q9,od_q9,.func (PySem.W.fnOf "made_of" "made_of" (defArgs kL) (defBody kL) (defScope kL) .none kV_q9 dc_q9 pm_q9 an_q9 cd_q9 ct_q9),sl_q9⟩)
  (c_q9:PySem.W.codeIn K cd_q9 "made_of"=true)
  (k_q9:PySem.W.keepIn K (.ref f_q9)=true)
  (a_q6:PySem.W.nsIn K mainGlobals "_law_refused"=some (some (.ref f_q6)))
  (l_q6:K.lookup f_q6=some ⟨oc_q6,od_q6,.func (PySem.W.fnOf "_law_refused" "_law_refused" (defArgs l6) (defBody l6) (defScope l6) .none kV_q6 dc_q6 pm_q6 an_q6 cd_q6 ct_q6),sl_q6⟩)
  (c_q6:PySem.W.codeIn K cd_q6 "_law_refused"=true)
  (k_q6:PySem.W.keepIn K (.ref f_q6)=true)
  (a_q2:PySem.W.nsIn K mainGlobals "law"=some (some (.ref f_q2)))
  (l_q2:K.lookup f_q2=some ⟨oc_q2,od_q2,.func (PySem.W.fnOf "law" "law" (defArgs ii) (defBody ii) (defScope ii) .none kV_q2 dc_q2 pm_q2 an_q2 cd_q2 ct_q2),sl_q2⟩)
  (c_q2:PySem.W.codeIn K cd_q2 "law"=true)
  (k_q2:PySem.W.keepIn K (.ref f_q2)=true)
  (z_ValueError:PySem.W.nsIn K mainGlobals "ValueError"=some none)
  (z_all:PySem.W.nsIn K mainGlobals "all"=some none)
  (z_bool:PySem.W.nsIn K mainGlobals "bool"=some none)
  (z_dict:PySem.W.nsIn K mainGlobals "dict"=some none)
  (z_enumerate:PySem.W.nsIn K mainGlobals "enumerate"=some none)
  (z_int:PySem.W.nsIn K mainGlobals "int"=some none)
  (z_isinstance:PySem.W.nsIn K mainGlobals "isinstance"=some none)
  (z_len:PySem.W.nsIn K mainGlobals "len"=some none)
  (z_list:PySem.W.nsIn K mainGlobals "list"=some none)
  (z_min:PySem.W.nsIn K mainGlobals "min"=some none)
  (z_range:PySem.W.nsIn K mainGlobals "range"=some none)
  (z_sorted:PySem.W.nsIn K mainGlobals "sorted"=some none)
  (z_tuple:PySem.W.nsIn K mainGlobals "tuple"=some none)
  (t_MOST_TOLD:PySem.W.nsIn K mainGlobals "MOST_TOLD"=some (some (.int 720 tk_MOST_TOLD)))
  (hn:PySem.W.specialIn K (.builtin "object.__class__") "__get__"=some (some (.builtin "getset_descriptor.__get__")))
  (htk:PySem.W.takesIn K (.builtin "object.__class__")=some true)
  (m_WebError:PySem.W.nsIn K mainGlobals "WebError"=some (some (.ref x_WebError)))
  (m_TooMany:PySem.W.nsIn K mainGlobals "TooMany"=some (some (.ref x_TooMany)))
  (m_BadOrder:PySem.W.nsIn K mainGlobals "BadOrder"=some (some (.ref x_BadOrder)))
  (m_BadText:PySem.W.nsIn K mainGlobals "BadText"=some (some (.ref x_BadText)))
  (m_TooGreat:PySem.W.nsIn K mainGlobals "TooGreat"=some (some (.ref x_TooGreat)))
  (xga:PySem.W.findIn K (.ref x_TooMany) "__getattribute__"=some (some (.builtin "BaseException.__getattribute__")))
  (xno:PySem.W.findIn K (.ref x_TooMany) "__getattr__"=some none)
  (xha:PySem.W.findIn K (.ref x_TooMany) "__class__"=some (some (.builtin "object.__class__")))
  (xhm:PySem.W.mroIn K x_TooMany (.type "object")=some true)
  (xhb:PySem.W.mroIn K x_TooMany (.type "BaseException")=some true)
  (xk1:PySem.W.kitOne K (.ref x_TooMany) (.ref x_TooMany)=some true)
  (xk2:PySem.W.kitOne K (.ref x_TooMany) (.type "ValueError")=some true)
  (xk3:PySem.W.kitAny K (.ref x_TooMany) [.ref x_BadOrder,.ref x_BadText,.ref x_TooGreat]=some false)
  (xxm:PySem.W.exmOne K (.ref x_TooMany) (.ref x_WebError)=some true)
  (xxi:PySem.W.excIn K x_TooMany oM "ValueError.__new__"=true)
  (ltr:K.lookup td_r=some ⟨otc,otd,.seq #[Value.none] ont,ots⟩)
  (ltc:K.lookup td_c=some ⟨otc2,otd2,.seq #[Value.none] ont2,ots2⟩)
  (tin:PySem.W.tabIn K "come_of"=some (cc,tb))
  (chh:PySem.W.codeHdIn K cc tb=true)
  (nll:(K.all fun p=>p.2.cls != .type "list")=true) :
  ∃ fd:FuncData,(∀ (s:Shared) (v:Value),BindsTo s fd ⟨[v],[]⟩ [("_law_script",v)])∧∀ base:Heap,K.In base→base.Ns mainGlobals mg→base.BuiltinsAt mg tb→FnOk l.prog w K mg base CX0 7 fa fd ["_law_script"] (spLawT (lamW tb) K):=by
 have e:=hfa.symm.trans (YW X G a_q2)
 cases e
 have F_q7:=cR (st:=nc) l_q7 c_q7 k_q7
 have F_q3:=cR (st:=lW) l_q3 c_q3 k_q3
 have F_q5:=cR (st:=m8) l_q5 c_q5 k_q5
 have F_q4:=cR (st:=lJ) l_q4 c_q4 k_q4
 have F_q8:=cR (st:=lc) l_q8 c_q8 k_q8
 have F_q11:=cR (st:=gE) l_q11 c_q11 k_q11
 have F_q0:=cR (st:=lx) l_q0 c_q0 k_q0
 have F_q10:=sE (st:=fK) l_q10 c_q10 k_q10 ltr
 have B_q10:=F_q10.binds0 (ps:=["starts", "onward", "most"]) fun _ _ _ _ _ _ _ us hl=>by obtain⟨v0,v1,v2,rfl⟩:=lu hl;exact⟨_,rfl,rfl⟩
 have F_q1:=uh (st:=iC) l_q1 c_q1 k_q1 ltc
 have B_q1:=F_q1.d.binds0 (ps:=["size", "turnings", "most"]) fun _ _ _ _ _ _ _ us hl=>by obtain⟨v0,v1,v2,rfl⟩:=lu hl;exact⟨_,rfl,rfl⟩
 have F_q9:=cR (st:=kL) l_q9 c_q9 k_q9
 have F_q6:=cR (st:=l6) l_q6 c_q6 k_q6
 have F_q2:=cR (st:=ii) l_q2 c_q2 k_q2
 have T:Txt K mg ⟨0,f_q7,_,f_q3,_,f_q5,_,f_q4,_,f_q8,_,f_q11,_,f_q0,_,f_q10,_,f_q1,_,f_q9,_,f_q6,_,f_q2,_,tk_MOST_TOLD,tb,cc,x_WebError,x_TooMany,x_BadOrder,x_BadText,x_TooGreat⟩:={
  fn_q7:=F_q7
  bd_q7:=F_q7.binds fun _ _ _ _ _ _ us hl=>by obtain⟨v0,v1,v2,rfl⟩:=lu hl;rfl
  g_q7:=YW X G a_q7
  fn_q3:=F_q3
  bd_q3:=F_q3.binds fun _ _ _ _ _ _ us hl=>by obtain⟨v0,v1,rfl⟩:=jl hl;rfl
  g_q3:=YW X G a_q3
  fn_q5:=F_q5
  bd_q5:=F_q5.binds fun _ _ _ _ _ _ us hl=>by obtain⟨v0,v1,v2,rfl⟩:=lu hl;rfl
  g_q5:=YW X G a_q5
  fn_q4:=F_q4
  bd_q4:=F_q4.binds fun _ _ _ _ _ _ us hl=>by obtain⟨v0,v1,v2,rfl⟩:=lu hl;rfl
  g_q4:=YW X G a_q4
  fn_q8:=F_q8
  bd_q8:=F_q8.binds fun _ _ _ _ _ _ us hl=>by obtain⟨v0,v1,rfl⟩:=jl hl;rfl
  g_q8:=YW X G a_q8
  fn_q11:=F_q11
  bd_q11:=F_q11.binds fun _ _ _ _ _ _ us hl=>by obtain⟨v0,rfl⟩:=qr hl;rfl
  g_q11:=YW X G a_q11
  fn_q0:=F_q0
  bd_q0:=F_q0.binds fun _ _ _ _ _ _ us hl=>by obtain⟨v0,v1,rfl⟩:=jl hl;rfl
  g_q0:=YW X G a_q0
  fn_q10:=F_q10
  bd_q10:=B_q10
  g_q10:=YW X G a_q10
  fn_q1:=F_q1
  bd_q1:=B_q1
  g_q1:=YW X G a_q1
  fn_q9:=F_q9
  bd_q9:=F_q9.binds fun _ _ _ _ _ _ us hl=>by obtain⟨v0,v1,rfl⟩:=jl hl;rfl
  g_q9:=YW X G a_q9
  fn_q6:=F_q6
  bd_q6:=F_q6.binds fun _ _ _ _ _ _ us hl=>by obtain⟨v0,v1,rfl⟩:=jl hl;rfl
  g_q6:=YW X G a_q6
  fn_q2:=F_q2
  bd_q2:=F_q2.binds fun _ _ _ _ _ _ us hl=>by obtain⟨v0,rfl⟩:=qr hl;rfl
  g_q2:=YW X G a_q2
  b_ValueError:=YT X G z_ValueError
  b_all:=YT X G z_all
  b_bool:=YT X G z_bool
  b_dict:=YT X G z_dict
  b_enumerate:=YT X G z_enumerate
  b_int:=YT X G z_int
  b_isinstance:=YT X G z_isinstance
  b_len:=YT X G z_len
  b_list:=YT X G z_list
  b_min:=YT X G z_min
  b_range:=YT X G z_range
  b_sorted:=YT X G z_sorted
  b_tuple:=YT X G z_tuple
  c_MOST_TOLD:=YW X G t_MOST_TOLD
  mx_WebError:=YW X G m_WebError
  mx_TooMany:=YW X G m_TooMany
  mx_BadOrder:=YW X G m_BadOrder
  mx_BadText:=YW X G m_BadText
  mx_TooGreat:=YW X G m_TooGreat
  exC:=⟨xga,xno,xha,hn,htk,xhm,xhb⟩
  k1:=xk1
  k2:=xk2
  k3:=xk3
  xm:=xxm
  xi:=xxi
  ch:=chh }
 exact⟨_,fun s v=>.of_eq rfl,fun base _ _ hB=>(wS T hB).imp (nj (law_true _))⟩
end My
namespace PySem.W.Fast
theorem tw16766950585965223936:True:=.intro
theorem tw2430018679476654496:True:=.intro
theorem tw10470178805966198400:True:=.intro
theorem tw13928666944552024896:True:=.intro
theorem tw8372624157395690561:True:=.intro
theorem tw15045455751919827361:True:=.intro
theorem tw6778667119252862179:True:=.intro
theorem tw10653447131283091971:True:=.intro
theorem tw5387687513996815011:True:=.intro
theorem tw13531355586530698115:True:=.intro
theorem tw8775598315705323716:True:=.intro
theorem tw15838149413490761476:True:=.intro
theorem tw2133778304793163365:True:=.intro
theorem tw6180894967207973541:True:=.intro
theorem tw2981705584188504486:True:=.intro
theorem tw12643190035145744070:True:=.intro
theorem tw18304122428816682375:True:=.intro
theorem tw15296076134105549321:True:=.intro
theorem tw9924588869264994346:True:=.intro
theorem tw16033964602595212554:True:=.intro
theorem tw2195144231925675306:True:=.intro
theorem tw4256848562728597258:True:=.intro
theorem tw9703053222951373995:True:=.intro
theorem tw6417715330520567083:True:=.intro
theorem tw8381064434316773612:True:=.intro
theorem tw15567556641444643148:True:=.intro
theorem tw17593919571338381708:True:=.intro
theorem tw3873007994462233004:True:=.intro
theorem tw17909001835248755500:True:=.intro
theorem tw8191524557233772718:True:=.intro
theorem tw16630422921505516782:True:=.intro
theorem tw5268628264448035278:True:=.intro
theorem tw6311654372722853486:True:=.intro
theorem tw9131827086713491374:True:=.intro
theorem tw9269476231020912719:True:=.intro
theorem tw13137532824715343151:True:=.intro
theorem tw9804761854527156719:True:=.intro
theorem tw8420269774712963567:True:=.intro
theorem tw15347038400908922511:True:=.intro
theorem tw8775311997538883247:True:=.intro
theorem tw16873147823758721040:True:=.intro
theorem tw3092438615431938064:True:=.intro
theorem tw14440424990368046864:True:=.intro
theorem tw17369090085640951728:True:=.intro
theorem tw1313655465709486193:True:=.intro
theorem tw1400562779939307697:True:=.intro
theorem tw13719255934902887665:True:=.intro
theorem tw5547966221830525425:True:=.intro
theorem tw3060365105240099377:True:=.intro
theorem tw9983847718189653617:True:=.intro
theorem tw9809294853755052849:True:=.intro
theorem tw17013021209078129649:True:=.intro
theorem tw7443258572217801810:True:=.intro
theorem tw7821803496999064786:True:=.intro
theorem tw2660371530544848114:True:=.intro
theorem tw6762442776755054994:True:=.intro
theorem tw16311783158095055570:True:=.intro
theorem tw18176043314768788178:True:=.intro
theorem tw13629399978874273139:True:=.intro
theorem tw12808965816567993811:True:=.intro
theorem tw13359809821679144628:True:=.intro
theorem tw5581984819099602069:True:=.intro
theorem tw15073038089148739157:True:=.intro
theorem tw13078950797244469941:True:=.intro
theorem tw4340503999970808533:True:=.intro
theorem tw8780939170612498229:True:=.intro
theorem tw10284444643105501270:True:=.intro
theorem tw2782848190002973494:True:=.intro
theorem tw11118325283821238839:True:=.intro
theorem tw16877646332944110199:True:=.intro
theorem tw13885552136002652919:True:=.intro
theorem tw1085888705522369399:True:=.intro
theorem tw1762120918838841271:True:=.intro
theorem tw909642666012324121:True:=.intro
theorem tw11506295167258388698:True:=.intro
theorem tw15932782647178345850:True:=.intro
theorem tw14510016461385327002:True:=.intro
theorem tw16363333495538744762:True:=.intro
theorem tw7088736936878662074:True:=.intro
theorem tw8906480824964079194:True:=.intro
theorem tw3770354273763575450:True:=.intro
theorem tw5093255405101282298:True:=.intro
theorem tw6766482526520493115:True:=.intro
theorem tw8015662178463225211:True:=.intro
theorem tw8123734861821765083:True:=.intro
theorem tw13506888837827322972:True:=.intro
theorem tw8387620362602779964:True:=.intro
theorem tw108310994113972861:True:=.intro
theorem tw7953960616693968414:True:=.intro
theorem tw4587939454018221694:True:=.intro
theorem tw6496480838522069918:True:=.intro
theorem tw9299172277200861150:True:=.intro
theorem tw16523164535696669727:True:=.intro
theorem tw14491557560984104127:True:=.intro
theorem tw3989326409436433887:True:=.intro
theorem tw16860793781565079039:True:=.intro
theorem tw15007511241134601791:True:=.intro
theorem tw10748960633704384127:True:=.intro
theorem tw1479659474167119871:True:=.intro
theorem tw2483565929254027263:True:=.intro
end PySem.W.Fast
open PySem PySem.W PyProof.Rows
set_option maxRecDepth 100000 in
set_option maxHeartbeats 0 in
theorem PySem.Challenge.cw_tieword_k16_made_of_holds : PySem.Challenge.rw_tieword_k16_made_of.Holds := by
  w_on; refine PySem.W.holds_law (by decide +kernel) fun said=>?_; o_head (PySem.W.kmHook My.KK [3,23,24,37,49,60,61,73,76,80,81,87,88,92,93,94,100,101,105,106,112,113,119,120,126,127,131,132,136,137,143,144,148,149] (fun _=>by kernel_rfl) [96]); (case hw=>w_witness2)
  k_fill
  refine L2.walk_ofT (l:=PySem.Challenge.rw_tieword_k16_made_of) (n:=63) (k:=7) (x := "_law_script") (CX:=L2.CX0) (sp:=L2.spLawT (My.lamW 96)) (t:=96) (c0:=100) (lpos:=My.lamQ) rfl (by decide) rfl ⟨rfl,by decide,by decide⟩ (fun w h Y=>⟨PySem.W.km_in_of Y,PySem.W.km_tabs_of Y _ (List.mem_singleton.2 rfl)⟩) ?ch ?kt (by decide) ?F (fun K H a ns hl hO hS=>⟨a,ns,rfl,hS,hl,hO,fun H' q=>⟨rfl,q⟩⟩) fun _ _ _ _ z=>z
  case ch=>intro w; kernel_rfl
  case kt=>intro w; kernel_rfl
  case F=>
    intro w mg fa h KX G hmg
    refine' My.all_mk (tb:=96) (cc:=100) KX G hmg ..
    all_goals (try k_is)
    all_goals kernel_rfl
