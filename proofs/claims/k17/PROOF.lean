import PyProof.Rows.All
import Wide.All
import OpenK.AllK
import Wide.FinOn
import Lean
import PyProof.EqAt
import PyProof.EqKinds
import PyProof.TupleCall
import PyProof.Rows.SetFrom
import PyProof.EnumFor
import PyProof.EnumMake
import PyProof.ZipIter
import KE.KRevIter
import PyProof.ListRange
import PyProof.FactsAll.range_iterator_1
import PySem.Challenge.RW_tieword_k17_orbits_of
set_option Elab.async false
set_option linter.all false
set_option maxRecDepth 100000
set_option compiler.extract_closed false
set_option bootstrap.genMatcherCode false
set_option genSizeOf false
set_option genSizeOfSpec false
namespace L2
def Ya:=@Option.bind_some
def Yb:=@PySem.Heap.get?_push_of_some
def Yc:=@List.mem_cons_of_mem
def Yd:=@PySem.wpAny_bind
def Ye:=@List.mem_cons_self
def Yf:=@List.length_map
def Yg:=@PySem.Heap.lt_size
def Yh:=@Nat.lt_of_lt_of_le
def Yi:=@if_pos
def Yj:=@Bool.false_ne_true
def Yk:=@PySem.Heap.get?_push_size
def Yl:=@if_neg
def Ym:=@List.getElem?_eq_some_iff
def Yn:=@List.size_toArray
def Yo:=@Nat.le_refl
def Yp:=@PySem.wpAny_pure
def Yq:=@Nat.ne_of_lt
def Yr:=@Bool.and_eq_true
def Ys:=@List.mem_cons
def Yt:=@List.map_cons
def Yu:=@List.length_cons
def Yv:=@List.getElem?_map
def Yw:=@List.getElem?_eq_getElem
def Yx:=@Option.some.inj
def Yy:=@List.length_set
def Yz:=@List.getElem?_set_ne
def YA:=@decide_eq_false
def YB:=@Nat.le_trans
def YC:=@List.mem_map
def YD:=@List.length_replicate
def YE:=@List.length_append
def YF:=@List.all_eq_true
def YG:=@Nat.zero_le
def YH:=@decide_eq_true_eq
def YI:=@List.getElem?_set_self
def YJ:=@Nat.lt_irrefl
def YK:=@List.mem_append_right
def YL:=@List.length_nil
def YM:=@PySem.sizeLine_eq
def YN:=@decide_eq_true
def YO:=@PySem.W.mg_none_of
def YQ:=@List.getD_eq_getElem?_getD
def YR:=@PySem.mem_of_lookup
def YS:=@Option.map_some
def YT:=@List.getElem?_append_left
def YU:=@Nat.le_antisymm
def YV:=@of_decide_eq_true
def YW:=@Nat.le_of_lt_succ
def YX:=@List.append_nil
def YY:=@List.nodup_cons
def YZ:=@Nat.lt_of_le_of_ne
def Za:=@decide_eq_false_iff_not
def Zb:=@PySem.PassesOwn.never
def Zc:=@Nat.le_of_lt
def Zd:=@List.lookup_cons
def Ze:=@List.getElem?_append_right
def Zf:=@PySem.W.mg_of
def Zg:=@Nat.le_add_left
def Zh:=@Nat.lt_of_le_of_lt
def Zi:=@List.pairwise_cons
def Zj:=@List.mem_singleton
def Zk:=@Nat.le_of_not_lt
def Zl:=@List.mem_of_getElem?
def Zm:=@PySem.F.plainAttrs_list
def Zn:=@Nat.ne_of_gt
def Zo:=@Nat.lt_trans
def Zp:=@PySem.wpAny_mono
def Zq:=@List.find?_cons
def Zr:=@PySem.wpAny_field
def Zs:=@PySem.F.slot_tuple_iterator_next
def Zt:=@List.getElem?_eq_none
def Zu:=@List.map_map
def Zv:=@PySem.Heap.size_push
def Zw:=@Nat.le_sub_one_of_lt
def Zx:=@PySem.wpAny_passesOwn
def Zy:=@Option.isSome_iff_exists
def Zz:=@Nat.lt_succ_of_lt
def ZA:=@PySem.F.slot_list_append
def ZB:=@PySem.F.type_list_append
def ZC:=@List.pairwise_map
def ZD:=@List.map_append
def ZE:=@Array.length_toList
def ZF:=@List.getElem?_replicate
def ZG:=@PySem.wpAny_callSpecial?_slot
def ZH:=@PySem.wpAny_seqItems
def ZI:=@PySem.W.cellsFrom_some
def ZJ:=@List.drop_eq_nil_of_le
def ZK:=@PySem.wpAny_Call_Name_kw
def ZL:=@PySem.wpAny_setField_rec
def ZM:=@Int.emod_lt_of_pos
def ZN:=@PyProof.Rows.callWith_type1
def ZO:=@List.length_singleton
def ZP:=@Nat.le_of_eq
def ZQ:=@Nat.zero_add
def ZR:=@congrArg
def ZS:=@PySem.wpAny_holding
def ZT:=@PySem.Heap.get?_push_ne
def ZU:=@List.mem_range
def ZV:=@List.drop_eq_getElem_cons
def ZW:=@Classical.byContradiction
def ZX:=@PySem.wpAny_call_entry
def ZY:=@beq_self_eq_true
def ZZ:=@Ne.symm
def Xa:=@List.getElem?_range
def Xb:=@Nat.add_sub_cancel'
def Xc:=@PySem.F.slot_list_getattribute
def Xd:=@List.mem_filter
def Xe:=@Bool.false_eq_true
def Xf:=@List.zip_cons_cons
def Xg:=@Nat.lt_add_of_pos_right
def Xh:=@Nat.add_right_comm
def Xi:=@PySem.codeAny_builtin
def Xj:=@List.length_eq_zero_iff
def Xk:=@List.eraseIdx_cons_succ
def Xl:=@Int.emod_nonneg
def Xm:=@PySem.wpAny_truthy_bool
def Xn:=@List.length_range
def Xo:=@Nat.le_of_succ_le
def Xp:=@Int.toNat_natCast
def Xq:=@PySem.codeAny_mono
def Xr:=@List.length_filter_le
def Xs:=@Nat.lt_succ_self
def Xt:=@PySem.Heap.size_update
def Xu:=@List.any_cons
def Xv:=@beq_eq_false_iff_ne
def Xw:=@List.filterMap_cons
def Xx:=@PySem.wpAny_execs_nil
def Xy:=@List.of_mem_zip
def Xz:=@List.forIn_cons
def XA:=@PySem.pushCells_keeps
def XB:=@PySem.F.slot_zip_next
def XC:=@List.forIn_nil
def XD:=@List.append_assoc
def XE:=@Bool.not_eq_true'
def XF:=@Nat.le_succ
def XG:=@Bool.true_and
def XH:=@if_true
def XI:=@Nat.sub_lt
end L2
namespace L2
open PySem PySem.Spec PyProof.Rows
abbrev Kq:=PySem.W.Frag
abbrev Kv:=Value→Shared→Prop
abbrev Kp:=List (Addr×Obj)
abbrev Ks:=Str→Option Value
abbrev Ka:=Array (Int×Value)
abbrev Kb:=Bool→Shared→Prop
abbrev Ko:=Option Value→Shared→Prop
abbrev Kl:=List Value→Shared→Prop
abbrev Kr:=Result→Shared→Prop
abbrev Key:=Sum Int Str
def gu:Key→Value→Bool
 | .inl k,v=>Value.isInt k v
 | .inr x,v=>Value.isStrOf x v
def u4 (w:World):Key→Int
 | .inl k=>hashInt k
 | .inr x=>hashStr w x
theorem aF:∀ {k:Key} {v:Value},gu k v=true→(∃ i t,k=Sum.inl i∧v=Value.int i t)∨(∃ x t,k=Sum.inr x∧v=Value.str x t)
 | .inl i,v,h=>by
  obtain⟨t,e⟩:=Value.isInt_shape (k:=i) (v:=v) h
  exact .inl ⟨i,t,rfl,e⟩
 | .inr x,v,h=>by
  obtain⟨t,e⟩:=Value.isStrOf_shape (x:=x) (v:=v) h
  exact .inr ⟨x,t,rfl,e⟩
theorem kZ (i:Int)(t:Tok):gu (.inl i) (.int i t)=true:=by simp[gu,Value.isInt]
theorem ls (x:Str)(t:Tok):gu (.inr x) (.str x t)=true:=by simp[gu,Value.isStrOf]
theorem qJ (a b:Int):decide ((Sum.inl a:Key)=Sum.inl b)=(a == b):=by
 by_cases e:a=b
 ·subst e;simp
 ·have h:¬ (Sum.inl a:Key)=Sum.inl b:=fun q=>e (Sum.inl.inj q)
  rw[YA h]
  exact (Xv.mpr e).symm
theorem qC (a b:Str):decide ((Sum.inr a:Key)=Sum.inr b)=decide (a=b):=by
 by_cases e:a=b
 ·subst e;simp
 ·have h:¬ (Sum.inr a:Key)=Sum.inr b:=fun q=>e (Sum.inr.inj q)
  rw[YA h,YA e]
theorem sj (a:Int)(b:Str):decide ((Sum.inl a:Key)=Sum.inr b)=false:=YA (fun q=>nomatch q)
theorem rh (a:Str)(b:Int):decide ((Sum.inr a:Key)=Sum.inl b)=false:=YA (fun q=>nomatch q)
def ay (prog:Program)(w:World):PySem.KeyKind prog w Key where
 is:=gu
 hash:=u4 w
 inj:=fun v a b ha hb=>by
  rcases aF ha with⟨i,t,rfl,rfl⟩ | ⟨x,t,rfl,rfl⟩
  ·rcases aF hb with⟨j,u,rfl,e⟩ | ⟨y,u,rfl,e⟩
   ·injection e with e1 _;rw[e1]
   ·exact nomatch e
  ·rcases aF hb with⟨j,u,rfl,e⟩ | ⟨y,u,rfl,e⟩
   ·exact nomatch e
   ·injection e with e1 _;rw[e1]
 byValue:=fun k v h=>by
  rcases aF h with⟨i,t,rfl,rfl⟩ | ⟨x,t,rfl,rfl⟩ <;> rfl
 pyHash:=fun hv h=>by
  rcases aF hv with⟨i,t,rfl,rfl⟩ | ⟨x,t,rfl,rfl⟩
  ·exact wpAny_pyHash_int h
  ·exact wpAny_pyHash_str h
 eqBool:=fun hu hv h=>by
  rcases aF hu with⟨i,t,rfl,rfl⟩ | ⟨x,t,rfl,rfl⟩
  ·rcases aF hv with⟨j,u,rfl,rfl⟩ | ⟨y,u,rfl,rfl⟩
   ·rw[qJ] at h;exact wpAny_eqBool_int h
   ·rw[sj] at h;exact SeqAt.EqAt.int_str i t y u _ _ _ _ h
  ·rcases aF hv with⟨j,u,rfl,rfl⟩ | ⟨y,u,rfl,rfl⟩
   ·rw[rh] at h;exact SeqAt.EqAt.str_int x t j u _ _ _ _ h
   ·rw[qC] at h;exact wpAny_eqBool_str h
 «strs»:=fun k x t v h=>by
  rcases aF h with⟨i,u,rfl,e⟩ | ⟨y,u,rfl,e⟩
  ·exact nomatch e
  ·injection e with e1 _
   subst e1
   cases v <;> rfl
theorem iO (prog:Program)(w:World)(i:Int)(t:Tok):(ay prog w).is (.inl i) (.int i t)=true:=kZ i t
theorem iz (prog:Program)(w:World)(x:Str)(t:Tok):(ay prog w).is (.inr x) (.str x t)=true:=ls x t
inductive V where
 | non | bl (b:Bool) | int (i:Int) | str (x:Str) | byt (b:Array UInt8) | flt (b:UInt64) | ref (a:Addr) | ty (n:String)
def RelV:V→Value→Prop
 | .non,u=>u=Value.none
 | .bl b,u=>u=Value.bool b
 | .int i,u=>∃ t,u=Value.int i t
 | .str x,u=>∃ t,u=Value.str x t
 | .byt b,u=>∃ t,u=Value.bytes b t
 | .flt b,u=>∃ t,u=Value.float b t
 | .ref a,u=>u=Value.ref a
 | .ty n,u=>u=Value.type n
abbrev Vals:List V→List Value→Prop:=Paired RelV
theorem Vals.length {xs:List V}{us:List Value}(r:Vals xs us):xs.length=us.length:=Paired.length r
theorem Vals.get:∀ {xs:List V} {us:List Value} {i:Nat} {x:V},Vals xs us→xs[i]?=some x→∃ u,us[i]?=some u∧RelV x u
 | _,_,_,_,.nil,e=>by simp at e
 | _,_,0,_,.cons r _,e=>by simp at e;subst e;exact⟨_,rfl,r⟩
 | _,_,i+1,x,.cons _ t,e=>by
  obtain⟨u,h1,h2⟩:=Vals.get (i:=i) (x:=x) t (by simpa using e)
  exact⟨u,by simpa using h1,h2⟩
theorem Vals.set {x:V}{u:Value}(r:RelV x u):∀ {xs:List V} {us:List Value} (i:Nat),Vals xs us→Vals (xs.set i x) (us.set i u)
 | _,_,_,.nil=>.nil
 | _,_,0,.cons _ t=>.cons r t
 | _,_,i+1,.cons q t=>.cons q (Vals.set r i t)
theorem Vals.append {xs ys:List V}{us ws:List Value}(h:Vals xs us)(s:Vals ys ws):Vals (xs++ys) (us++ws):=by
 induction h with
 | nil=>exact s
 | cons r _ ih=>exact .cons r ih
theorem Vals.take:∀ {xs:List V} {us:List Value} (n:Nat),Vals xs us→Vals (xs.take n) (us.take n)
 | _,_,0,_=>.nil
 | _,_,_+1,.nil=>.nil
 | _,_,n+1,.cons r t=>.cons r (Vals.take n t)
theorem Vals.drop:∀ {xs:List V} {us:List Value} (n:Nat),Vals xs us→Vals (xs.drop n) (us.drop n)
 | _,_,0,r=>r
 | _,_,_+1,.nil=>.nil
 | _,_,n+1,.cons _ t=>Vals.drop n t
def RelO:Option V→Option Value→Prop
 | some v,some u=>RelV v u
 | none,none=>True
 | _,_=>False
def KV {κ:Type}:List (κ×V)→List (κ×Value)→Prop:=Paired fun (p:κ×V) (q:κ×Value)=>p.1=q.1∧RelV p.2 q.2
def kV:Key→V
 | .inl i=>.int i
 | .inr x=>.str x
inductive HO where
 /-- a list -/
 | lst (xs:List V)
 /-- a tuple (never changes) -/
 | tup (xs:List V)
 /-- a dict whose keys are ints and texts;one whose keys are tuples of ints and texts (the empty one is both) -/
 | dK (kvs:List (Key×V)) | dT (kvs:List (List Key×V))
 /-- a set of ints: its members,its size -/
 | set (S:Int→Bool) (n:Nat)
 /-- an instance of the class at C,its dict at dx,its attributes -/
 | ins (C dx:Addr) (fs:List (Str×V))
 /-- the dict of the instance at x -/
 | own (x:Addr)
 /-- the dict of an exception -/
 | xd (fs:List (Str×V))
 /-- a bound method,f of x -/
 | met (f x:Addr)
 /-- a range object lo,lo+1,.. below hi -/
 | rng (lo hi:Int)
 /-- a thing that is known to the object (the script;a dict while a loop walks it): read,never written while it is so -/
 | frz (o:Obj) (u:HO)
 /-- a code object's table -/
 | tbl (ps:Array Value)
 /-- any other thing,by what is true of its one object (a def of one's own: SetO a S n:=HO.ext fun h=>..) -/
 | ext (φ:Heap→Prop)
abbrev Hp:=Addr→Option HO
def upd (H:Hp)(a:Addr)(o:HO):Hp:=fun b=>if b=a then some o else H b
theorem ak {H:Hp}{a:Addr}{o:HO}:upd H a o a=some o:=by unfold upd;rw[Yi rfl]
theorem ae {H:Hp}{a b:Addr}{o:HO}(h:b≠a):upd H a o b=H b:=by unfold upd;rw[Yl h]
theorem sw {H:Hp}{a b:Addr}{o u:HO}(h:H a=some o)(h':H b=some u)(d:o≠u):a≠b:=by
 intro e;subst e;rw[h] at h';exact d (Yx h')
theorem am {H:Hp}{a b:Addr}{o:HO}(h:H a=some o)(h':H b=none):a≠b:=by
 intro e;subst e;rw[h] at h';cases h'
def NoD (h:Heap)(a:Addr):Prop:=∃ o,h.get? a=some o∧o.dict=none
theorem NoD.new (h:Heap)(items:Array Value):NoD (h.push { cls:=.type "tuple",data:=.seq items }) h.objs.size:=⟨_,Yk _ rfl,rfl⟩
section
variable (P:Program) (w:World)
def ObjOk (H:Hp)(h:Heap)(a:Addr):HO→Prop
 | .lst xs=>xs.length≤sizeLine∧∃ (its:List Value) (n:Nat),Vals xs its∧h.get? a=some { cls:=.type "list",data:=.seq its.toArray n }
 | .tup xs=>xs.length≤sizeLine∧∃ its:List Value,Vals xs its∧IsTup h a its.toArray∧NoD h a
 | .dK kvs=>kvs.length≤sizeLine∧(a == sysModules)=false∧∃ vs,KV kvs vs∧h.DictOf (ay P w) a vs
 | .dT kvs=>kvs.length≤sizeLine∧(a == sysModules)=false∧∃ xs:List (List Key×Addr×Value),
   Paired (fun (p:List Key×V) (q:List Key×Addr×Value)=>p.1=q.1∧H q.2.1=some (.tup (p.1.map kV))∧RelV p.2 q.2.2) kvs xs ∧
   ∃ o es ep,h.get? a=some o∧o.ExactDict∧o.data=.dict es ep∧es.toList=xs.map (entryOfKey (tupleKind (ay P w)))∧(xs.map (·.1)).Nodup
 | .set S n=>h.SetOf (intKind P w) a S n
 | .ins C dx fs=>H dx=some (.own a)∧fs.length≤1000∧dx≠a∧h.get? a=some (PySem.W.instObj C dx) ∧
   ∃ mA,h.Ns1 dx mA∧(∀ f,RelO (fs.lookup f) (mA f))∧PySem.Within mA (fs.map (·.1))
 | .own _=>∃ o,h.get? a=some o
 | .xd fs=>∃ mA,h.Ns1 a mA∧∀ f,RelO (fs.lookup f) (mA f)
 | .rng lo hi=>∃ t u v,h.get? a=some { cls:=.type "range",data:=.fields #[.int lo t,.int hi u,.int 1 v] }
 | .frz o u=>h.get? a=some o∧ObjOk H h a u
 | .tbl ps=>h.get? a=some { cls:=.none,data:=.fields ps }
 | .met f x=>h.get? a=some (PySem.W.methodObj (.ref f) (.ref x))
 | .ext φ=>φ h∧(∃ o,h.get? a=some o)∧∀ h1 h2:Heap,φ h1→(∀ o,h1.get? a=some o→h2.get? a=some o)→φ h2
def HOk (H:Hp)(h:Heap):Prop:=∀ a o,H a=some o→ObjOk P w H h a o
end
section
variable {P:Program} {w:World} {H H':Hp} {h h':Heap} {a:Addr} {o:HO}
theorem ObjOk.lt (x:ObjOk P w H h a o):a<h.objs.size:=by
 cases o with
 | lst xs=>obtain⟨_,_,_,_,e⟩:=x;exact Yg e
 | tup xs=>obtain⟨_,_,_,p,_⟩:=x;exact p.lt
 | dK kvs=>obtain⟨_,_,_,_,o,_,_,e,_⟩:=x;exact Yg e
 | dT kvs=>obtain⟨_,_,_,_,o,_,_,e,_⟩:=x;exact Yg e
 | set S n=>obtain⟨o,_,_,_,e,_⟩:=x;exact Yg e
 | ins C dx fs=>obtain⟨_,_,_,e,_⟩:=x;exact Yg e
 | own y=>obtain⟨_,e⟩:=x;exact Yg e
 | xd fs=>obtain⟨_,⟨_,_,_,e,_⟩,_⟩:=x;exact Yg e
 | rng lo hi=>obtain⟨_,_,_,e⟩:=x;exact Yg e
 | frz ob u=>obtain⟨e,_⟩:=x;exact Yg e
 | tbl ps=>exact Yg (show h.get? a=some _ from x)
 | met f y=>exact Yg (show h.get? a=some _ from x)
 | ext φ=>obtain⟨_,⟨_,e⟩,_⟩:=x;exact Yg e
theorem Paired.mapP {α β:Type}{F G:α→β→Prop}{l₁:List α}{l₂:List β}(h:Paired F l₁ l₂)(f:∀ a b,F a b→G a b):Paired G l₁ l₂:=by
 induction h with
 | nil=>exact .nil
 | cons r _ ih=>exact .cons (f _ _ r) ih
theorem ObjOk.stay (x:ObjOk P w H h a o)(k:∀ b u,(b=a∨H b=some (.own a))→h.get? b=some u→h'.get? b=some u)
  (ho:∀ b,H b=some (.own a)→H' b=some (.own a)) (ht:∀ b xs,H b=some (.tup xs)→H' b=some (.tup xs)):ObjOk P w H' h' a o:=by
 induction o with
 | lst xs=>obtain⟨z,its,n,r,e⟩:=x;exact⟨z,its,n,r,k _ _ (.inl rfl) e⟩
 | tup xs=>obtain⟨z,its,r,⟨ob,e,c⟩,ob2,e2,c2⟩:=x;exact⟨z,its,r,⟨ob,k _ _ (.inl rfl) e,c⟩,ob2,k _ _ (.inl rfl) e2,c2⟩
 | dK kvs=>obtain⟨z,y,vs,r,ob,es,ep,e,c⟩:=x;exact⟨z,y,vs,r,ob,es,ep,k _ _ (.inl rfl) e,c⟩
 | dT kvs=>
  obtain⟨z,y,xs,r,ob,es,ep,e,c⟩:=x
  exact⟨z,y,xs,Paired.mapP r fun p q z=>⟨z.1,ht _ _ z.2.1,z.2.2⟩,ob,es,ep,k _ _ (.inl rfl) e,c⟩
 | set S n=>obtain⟨ob,es,ep,t,e,c⟩:=x;exact⟨ob,es,ep,t,k _ _ (.inl rfl) e,c⟩
 | ins C dx fs=>
  obtain⟨d,z,ne,e,mA,⟨od,es,ep,e2,c⟩,r⟩:=x
  exact⟨ho _ d,z,ne,k _ _ (.inl rfl) e,mA,⟨od,es,ep,k _ _ (.inr d) e2,c⟩,r⟩
 | own y=>obtain⟨ob,e⟩:=x;exact⟨ob,k _ _ (.inl rfl) e⟩
 | xd fs=>obtain⟨mA,⟨od,es,ep,e,c⟩,r⟩:=x;exact⟨mA,⟨od,es,ep,k _ _ (.inl rfl) e,c⟩,r⟩
 | rng lo hi=>obtain⟨t,u,v,e⟩:=x;exact⟨t,u,v,k _ _ (.inl rfl) e⟩
 | frz ob u ih=>obtain⟨e,q⟩:=x;exact⟨k _ _ (.inl rfl) e,ih q⟩
 | tbl ps=>
  have e:h.get? a=some { cls:=.none,data:=.fields ps }:=x
  show h'.get? a=some { cls:=.none,data:=.fields ps }
  exact k a _ (.inl rfl) e
 | met f y=>
  have e:h.get? a=some (PySem.W.methodObj (.ref f) (.ref y)):=x
  show h'.get? a=some (PySem.W.methodObj (.ref f) (.ref y))
  exact k a _ (.inl rfl) e
 | ext φ=>obtain⟨p,⟨o,e⟩,st⟩:=x;exact⟨st _ _ p fun o q=>k _ _ (.inl rfl) q,⟨o,k _ _ (.inl rfl) e⟩,st⟩
theorem HOk.lt (x:HOk P w H h)(e:H a=some o):a<h.objs.size:=(x a o e).lt
theorem HOk.fresh (x:HOk P w H h)(e:h.objs.size≤a):H a=none:=by
 cases q:H a with
 | none=>rfl
 | some u=>exact absurd (Yh (x.lt q) e) (YJ _)
theorem HOk.kept (x:HOk P w H h)(k:∀ b u,h.get? b=some u→h'.get? b=some u):HOk P w H h':=fun a o e=>
 (x a o e).stay (fun b u _ q=>k b u q) (fun _ q=>q) fun _ _ q=>q
theorem HOk.laid (x:HOk P w H h)(k:∀ b u,h.get? b=some u→h'.get? b=some u)(hp:h.objs.size≤a)(new:ObjOk P w (upd H a o) h' a o):HOk P w (upd H a o) h':=fun b u e=>by
 have hn:=x.fresh hp
 by_cases hb:b=a
 ·subst hb;rw[ak] at e;cases e;exact new
 ·rw[ae hb] at e
  exact (x b u e).stay (fun c v _ q=>k c v q) (fun c q=>by rw[ae (am q hn)];exact q) fun c xs q=>by rw[ae (am q hn)];exact q
end
def Rd (H:Hp)(a:Addr)(u:HO):Prop:=H a=some u∨∃ o,H a=some (.frz o u)
theorem Rd.ok {P:Program}{w:World}{H:Hp}{h:Heap}{a:Addr}{u:HO}(r:Rd H a u)(x:HOk P w H h):ObjOk P w H h a u:=by
 rcases r with r | ⟨o,r⟩
 ·exact x a u r
 ·obtain⟨_,q⟩:=x a _ r
  exact q
def Mut:Option HO→Prop
 | some (.lst _)=>True
 | some (.dK _)=>True
 | some (.dT _)=>True
 | some (.set _ _)=>True
 | some (.ins _ _ _)=>True
 | some (.ext _)=>True
 | _=>False
section
variable {P:Program} {w:World} {H:Hp} {h h':Heap} {x e:Addr} {o':HO}
theorem HOk.write (ok:HOk P w H h)(mu:Mut (H x))(he:e=x∨H e=some (.own x))(k:∀ b u,b≠e→h.get? b=some u→h'.get? b=some u)(heo:∃ u,h'.get? e=some u)
  (new:ObjOk P w (upd H x o') h' x o'):HOk P w (upd H x o') h':=fun b u q=>by
 have nown:∀ c y,H c=some (.own y)→c≠x:=fun c y r z=>by subst z;rw[r] at mu;exact mu
 have ntup:∀ c xs,H c=some (.tup xs)→c≠x:=fun c xs r z=>by subst z;rw[r] at mu;exact mu
 by_cases hb:b=x
 ·subst hb;rw[ak] at q;cases q;exact new
 ·rw[ae hb] at q
  by_cases hbe:b=e
  ·have q':H b=some (.own x):=by
    rcases he with z | z
    ·exact absurd (hbe.trans z) hb
    ·rw[hbe];exact z
   rw[q] at q';cases q'
   obtain⟨v,hv⟩:=heo
   exact⟨v,by rw[hbe];exact hv⟩
  ·refine (ok b u q).stay (fun c v hc r=>k c v ?_ r) (fun c r=>by rw[ae (nown c b r)];exact r) fun c xs r=>by rw[ae (ntup c xs r)];exact r
   rcases hc with rfl | hc
   ·exact hbe
   ·rintro rfl
    rcases he with z | z
    ·exact nown c b hc z
    ·rw[hc] at z;cases z;exact hb rfl
end
structure Un (fs ex:List Addr) (H H':Hp) (h h':Heap):Prop where
 keep:∀ b o,h.get? b=some o→H b=none→b∉fs→b∉ex→h'.get? b=some o
 slot:∀ b o,h.get? b=some o→H b=none→b∈fs→b∉ex→∃ sl,h'.get? b=some { o with slots:=sl }
 free:∀ b o,h.get? b=some o→H b=none→b∉ex→H' b=none
 there:∀ b o,h.get? b=some o→b∉ex→∃ o',h'.get? b=some o'
 tups:∀ b xs,H b=some (.tup xs)→H' b=some (.tup xs)
 frzs:∀ b o u,H b=some (.frz o u)→H' b=some (.frz o u)
 tbls:∀ b ps,H b=some (.tbl ps)→∃ more,H' b=some (.tbl (ps++more))
section
variable {fs fs' ex ex':List Addr} {H H1 H2:Hp} {h h1 h2 h':Heap} {a x e:Addr} {o:HO}
theorem Un.any (u:Un fs ex H H1 h h1){b:Addr}{ob:Obj}(q:h.get? b=some ob)(n:H b=none)(hx:b∉ex):∃ sl,h1.get? b=some { ob with slots:=sl }:=by
 by_cases hb:b∈fs
 ·exact u.slot b ob q n hb hx
 ·exact⟨ob.slots,u.keep b ob q n hb hx⟩
theorem Un.kept (k:∀ b u,h.get? b=some u→h'.get? b=some u):Un fs ex H H h h':=
 ⟨fun b ob q _ _ _=>k b ob q,fun b ob q _ _ _=>⟨ob.slots,k b ob q⟩,fun _ _ _ n _=>n,fun b ob q _=>⟨ob,k b ob q⟩,fun _ _ q=>q,fun _ _ _ q=>q,fun _ ps q=>⟨#[],by rw[q];simp⟩⟩
theorem Un.refl:Un fs ex H H h h:=Un.kept fun _ _ q=>q
theorem Un.laid (k:∀ b u,h.get? b=some u→h'.get? b=some u)(hp:h.objs.size≤a)(hn:H a=none):Un fs ex H (upd H a o) h h' where
 keep:=fun b u q _ _ _=>k b u q
 slot:=fun b u q _ _ _=>⟨u.slots,k b u q⟩
 free:=fun b u q n _=>by rw[ae (Yq (Yh (Yg q) hp))];exact n
 there:=fun b u q _=>⟨u,k b u q⟩
 tups:=fun b xs q=>by rw[ae (am q hn)];exact q
 frzs:=fun b u xs q=>by rw[ae (am q hn)];exact q
 tbls:=fun b ps q=>⟨#[],by rw[ae (am q hn),q];simp⟩
theorem Un.write (mu:Mut (H x))(he:e=x∨H e=some (.own x))(k:∀ b u,b≠e→h.get? b=some u→h'.get? b=some u)(heo:∃ u,h'.get? e=some u):Un fs ex H (upd H x o) h h':=by
 have hx:∀ b,H b=none→b≠x:=fun b n z=>by subst z;rw[n] at mu;exact mu
 have hb:∀ b,H b=none→b≠e:=fun b n z=>by
  subst z
  rcases he with r | r
  ·exact hx b n r
  ·rw[n] at r;cases r
 have hm:∀ b u,H b=some u→¬ Mut (some u)→b≠x:=fun b u q nm z=>by subst z;rw[q] at mu;exact nm mu
 refine⟨fun b u q n _ _=>k b u (hb b n) q,fun b u q n _ _=>⟨u.slots,k b u (hb b n) q⟩,fun b u q n _=>by rw[ae (hx b n)];exact n,fun b u q _=>?_,
  fun b xs q=>by rw[ae (hm b _ q fun z=>z)];exact q,fun b u xs q=>by rw[ae (hm b _ q fun z=>z)];exact q,fun b ps q=>⟨#[],by rw[ae (hm b _ q fun z=>z),q];simp⟩⟩
 by_cases hbe:b=e
 ·subst hbe;exact heo
 ·exact⟨u,k b u hbe q⟩
end
def trk (h:Heap)(H:Hp):List Addr:=(List.range h.objs.size).filter fun a=>(H a).isSome
def f6 (h:Heap)(H:Hp):Heap:=PySem.W.hideAll h (trk h H)
theorem kX (h:Heap)(H:Hp):(f6 h H).objs.size=h.objs.size:=PySem.W.hideAll_size _ _
theorem mB {h:Heap}{H:Hp}{b:Addr}{o:Obj}(e:h.get? b=some o)(n:H b=none):(f6 h H).get? b=some o:=
 PySem.W.hideAll_get _ e fun hm=>by
  have q:(H b).isSome=true:=(Xd.mp hm).2
  rw[n] at q;simp at q
theorem oO {h:Heap}{H:Hp}{b:Addr}{o:Obj}(e:(f6 h H).get? b=some o):h.get? b=some o∧H b=none:=by
 have e':h.get? b=some o:=PySem.W.of_hideAll (trk h H) e
 refine⟨e',?_⟩
 cases q:H b with
 | none=>rfl
 | some x=>
  have hm:b∈trk h H:=Xd.mpr ⟨ZU.mpr (Yg e'),by simp[q]⟩
  have z:(f6 h H).get? b=none:=PySem.W.hideAll_none (trk h H) hm
  rw[z] at e;cases e
def pg (g h:Heap)(L:Addr):List (Addr×Obj):=(List.range h.objs.size).filterMap fun a=>if a=L∨(g.get? a).isSome=true then none else (h.get? a).map fun o=>(a,o)
def aJ (g h:Heap)(L d:Addr):List (Addr×Obj):=(pg g h L).filter fun p=>decide (p.1≠d)
structure Mod (K:PySem.W.Frag) (mg:Str→Option Value) (base:Heap):Prop where
 kin:K.In base
 glob:base.Ns mainGlobals mg
 blt:∃ mb,base.Ns builtinsNs mb∧∀ x:Str,x ≠ "__name__"→mb x=bootBuiltins x
 nolimit:base.NoLimit
structure Cx where
 prog:Program
 w:World
 K:PySem.W.Frag
 mg:Str→Option Value
 base:Heap
 A:Around
 N:List Str
 s₀:Shared
 H₀:Hp
 env:Env
 outer:List Env
 stack:List Env
 ex:List Addr
 fn:Str→Bool
 calm:Bool
 pn:List (Addr×Obj)
 xe:Value→Shared→Prop
def frs (l:List Env):List Addr:=l.filterMap (·.frame)
abbrev Cx.fs (X:Cx):List Addr:=frs X.outer
def Vis (sc:Scope)(x:Str):Prop:=sc.names.lookup x=some .local∨sc.names.lookup x=some .cell∨sc.names.lookup x=some .free
def Loc (sc:Scope)(x:Str):Prop:=sc.names.lookup x=some .local∨sc.names.lookup x=some .cell
def vw (env:Env)(h:Heap)(m:Ks)(x:Str)(u:Value):Prop:=
 (env.kindOf x=some .local∧m x=some u)∨((env.kindOf x=some .cell∨env.kindOf x=some .free)∧∃ c,env.cells.lookup x=some c∧h.IsCell c (some u))
structure Cx.Ok (X:Cx):Prop where
 mod:Mod X.K X.mg X.base
 kind:X.env.scope.kind=.function
 glob:X.env.globals=mainGlobals
 blt:X.env.builtins=builtinsNs
 above:X.s₀.heap.objs.size≤X.env.locals
 inj:∀ x y c,X.env.cells.lookup x=some c→X.env.cells.lookup y=some c→x=y
 has:∀ x,(X.env.kindOf x=some .cell∨X.env.kindOf x=some .free)→∃ c,X.env.cells.lookup x=some c
 cab:∀ x c,X.fn x=true→X.env.cells.lookup x=some c→X.s₀.heap.objs.size≤c
 hd:X.calm=true→X.A.handled=none
 frames:X.A.frames=some X.stack
 stk:X.stack=X.outer∨(X.stack=X.env::X.outer∧X.env.frame=some X.env.locals)
 exf:∀ b∈X.ex,b≠X.env.locals∧∀ x c,X.env.cells.lookup x=some c→c≠b
 bs:∀ b o,X.base.get? b=some o→X.s₀.heap.get? b=some o∧X.H₀ b=none
 bsz:X.base.objs.size≤X.s₀.heap.objs.size
 noex:∀ b o,X.base.get? b=some o→b∉X.ex
 exfs:∀ b∈X.ex,b∉X.fs
 funs:X.s₀.heap.FunFrames X.base X.outer
 frf:∀ b∈X.fs,X.H₀ b=none
structure Inv (X:Cx) (pz:List (Addr×Obj)) (σ:List (Option V)) (H:Hp) (s:Shared):Prop where
 ok:X.Ok
 os:s.os=X.s₀.os
 bare:AllBare s.gens
 base:Un X.fs X.ex X.H₀ H X.s₀.heap s.heap
 loc:∃ m,s.heap.Ns X.env.locals m∧∀ (i:Nat) (x:Str) (v:V),X.N[i]?=some x→σ[i]?=some (some v)→Vis X.env.scope x→∃ u,RelV v u∧vw X.env s.heap m x u
 cell:∀ x c,X.env.cells.lookup x=some c→∃ v,s.heap.IsCell c v
 free:H X.env.locals=none
 freeC:∀ x c,X.env.cells.lookup x=some c→H c=none
 pin:∀ p∈X.pn++pz,s.heap.get? p.1=some p.2∧H p.1=none∧p.1≠X.env.locals∧p.1∉X.fs∧∀ v,p.2.data≠.cell v
 hok:HOk X.prog X.w H s.heap
 len:σ.length=X.N.length
section
variable {X:Cx} {pz:Kp} {σ:List (Option V)} {H H':Hp} {s:Shared} {h':Heap}
theorem Cx.Ok.nofr (ok:X.Ok){b:Addr}{o:Obj}(e:X.base.get? b=some o):b∉X.fs:=fun hb=>by
 have:=(ok.funs.mem hb).1
 rw[e] at this;cases this
theorem Inv.bs (I:Inv X pz σ H s):∀ b o,X.base.get? b=some o→s.heap.get? b=some o∧H b=none:=fun b o e=>
 ⟨I.base.keep b o (I.ok.bs b o e).1 (I.ok.bs b o e).2 (I.ok.nofr e) (I.ok.noex b o e),I.base.free b o (I.ok.bs b o e).1 (I.ok.bs b o e).2 (I.ok.noex b o e)⟩
theorem Inv.bk (I:Inv X pz σ H s):∀ b o,X.base.get? b=some o→s.heap.get? b=some o:=fun b o e=>(I.bs b o e).1
theorem Inv.mod (I:Inv X pz σ H s):Mod X.K X.mg X.base:=I.ok.mod
theorem Inv.kIn (I:Inv X pz σ H s):X.K.In s.heap:=I.ok.mod.kin.keeps I.bk
theorem Inv.lt (I:Inv X pz σ H s):X.env.locals<s.heap.objs.size:=let ⟨_,hn,_⟩:=I.loc;hn.lt
theorem Inv.sz (I:Inv X pz σ H s):X.s₀.heap.objs.size≤s.heap.objs.size:=YB I.ok.above (Zc I.lt)
theorem Inv.nofs (I:Inv X pz σ H s){a:Addr}(h:s.heap.objs.size≤a):a∉X.fs:=fun hb=>by
 obtain⟨_,o,ho,_⟩:=I.ok.funs.mem hb
 exact absurd (Yh (Yg ho) (YB I.sz h)) (YJ _)
theorem Inv.cne (I:Inv X pz σ H s):∀ x c,X.env.cells.lookup x=some c→c≠X.env.locals:=fun x c e z=>by
 obtain⟨v,o,ho,hd⟩:=I.cell x c e
 obtain⟨m,⟨o',es,ep,ho',hd',_⟩,_⟩:=I.loc
 rw[z,ho'] at ho;cases ho;rw[hd'] at hd;cases hd
theorem Inv.funs (I:Inv X pz σ H s):s.heap.FunFrames X.base X.outer:=by
 have all:∀ (l:List Env),(∀ b∈frs l,b∈X.fs)→X.s₀.heap.FunFrames X.base l→s.heap.FunFrames X.base l:=by
  intro l
  induction l with
  | nil=>intro _ _;trivial
  | cons env r ih=>
   intro hs hl
   obtain⟨hk,⟨L,o,hf,hn,ho,hd⟩,hr⟩:=hl
   have hL:L∈X.fs:=hs L (by unfold frs;rw[Xw,hf];exact Ye)
   obtain⟨sl,e⟩:=I.base.slot L o ho (I.ok.frf L hL) hL fun z=>I.ok.exfs L z hL
   exact⟨hk,⟨L,_,hf,hn,e,hd⟩,ih (fun b hb=>hs b (by unfold frs;rw[Xw,hf];exact Yc _ hb)) hr⟩
 exact all X.outer (fun _ hb=>hb) I.ok.funs
theorem Inv.stack (I:Inv X pz σ H s):s.heap.FunFrames X.base X.stack:=by
 rcases I.ok.stk with e | ⟨e,hf⟩
 ·rw[e];exact I.funs
 ·rw[e]
  obtain⟨m,hn,_⟩:=I.loc
  refine .cons (by rw[I.ok.kind];decide) hf hn ?_ I.funs
  exact Heap.get?_none_of_le (YB I.ok.bsz I.ok.above)
theorem Inv.stkSub (I:Inv X pz σ H s):∀ b∈frs X.stack,b∈X.env.locals::X.fs:=fun b hb=>by
 rcases I.ok.stk with e | ⟨e,hf⟩
 ·rw[e] at hb;exact Yc _ hb
 ·rw[e] at hb
  unfold frs at hb
  rw[Xw,hf] at hb
  exact hb
theorem Inv.stkFree (I:Inv X pz σ H s):∀ b∈frs X.stack,H b=none:=fun b hb=>by
 rcases Ys.mp (I.stkSub b hb) with e | hb
 ·rw[e];exact I.free
 ·obtain⟨_,o,ho,_⟩:=I.ok.funs.mem hb
  exact I.base.free b o ho (I.ok.frf b hb) fun z=>I.ok.exfs b z hb
theorem Inv.step {g':Array GenState}{t':Nat}{d':Drawn}{ch:List Addr}(I:Inv X pz σ H s)
  (hch:∀ b∈ch,(b∈X.ex∨X.s₀.heap.objs.size≤b)∧b≠X.env.locals∧(∀ x c,X.env.cells.lookup x=some c→c≠b)∧∀ p∈X.pn++pz,p.1≠b)
  (keep:∀ b o,b≠X.env.locals→b∉X.fs→b∉ch→s.heap.get? b=some o→H b=none→h'.get? b=some o)
  (slot:∀ b o,b≠X.env.locals→b∈X.fs→b∉ch→s.heap.get? b=some o→H b=none→∃ sl,h'.get? b=some { o with slots:=sl }) (free:∀ b o,b∉ch→s.heap.get? b=some o→H b=none→H' b=none)
  (there:∀ b o,b∉ch→s.heap.get? b=some o→∃ o',h'.get? b=some o')
  (tups:∀ b xs,H b=some (.tup xs)→H' b=some (.tup xs)) (frzs:∀ b o u,H b=some (.frz o u)→H' b=some (.frz o u)) (tbls:∀ b ps,H b=some (.tbl ps)→∃ more,H' b=some (.tbl (ps++more)))
  (ns:∀ m,s.heap.Ns X.env.locals m→h'.Ns X.env.locals m) (hok:HOk X.prog X.w H' h') (hg:AllBare g') :
  Inv X pz σ H' { s with heap:=h',gens:=g',drawn:=d',toks:=t' }:=by
 have neL:∀ b o,X.s₀.heap.get? b=some o→b≠X.env.locals:=fun b o e=>Yq (Yh (Yg e) I.ok.above)
 have neC:∀ b o,X.s₀.heap.get? b=some o→b∉X.ex→b∉ch:=fun b o e hx hb=>by
  rcases (hch b hb).1 with z | z
  ·exact hx z
  ·exact absurd (Yh (Yg e) z) (YJ _)
 have cellK:∀ x c,X.env.cells.lookup x=some c→∀ v,s.heap.IsCell c v→h'.IsCell c v:=fun x c e v hh_=>by
  obtain⟨o,ho,hd⟩:=hh_
  have nch:c∉ch:=fun z=>(hch c z).2.2.1 x c e rfl
  by_cases hc:c∈X.fs
  ·obtain⟨sl,q⟩:=slot c o (I.cne x c e) hc nch ho (I.freeC x c e)
   exact⟨_,q,hd⟩
  ·exact⟨o,keep c o (I.cne x c e) hc nch ho (I.freeC x c e),hd⟩
 refine⟨I.ok,I.os,hg,⟨fun b o e n hb hx=>?_,fun b o e n hb hx=>?_,fun b o e n hx=>?_,fun b o e hx=>?_,fun b xs e=>tups b xs (I.base.tups b xs e),fun b o xs e=>frzs b o xs (I.base.frzs b o xs e),fun b ps e=>?_⟩,?_,fun x c e=>?_,?_,fun x c e=>?_,fun p hp=>?_,hok,I.len⟩
 ·exact keep b o (neL b o e) hb (neC b o e hx) (I.base.keep b o e n hb hx) (I.base.free b o e n hx)
 ·obtain⟨sl,e1⟩:=I.base.slot b o e n hb hx
  obtain⟨sl',e2⟩:=slot b _ (neL b o e) hb (neC b o e hx) e1 (I.base.free b o e n hx)
  exact⟨sl',e2⟩
 ·obtain⟨o',e1⟩:=I.base.there b o e hx
  exact free b o' (neC b o e hx) e1 (I.base.free b o e n hx)
 ·obtain⟨o',e1⟩:=I.base.there b o e hx
  exact there b o' (neC b o e hx) e1
 ·obtain⟨m1,e1⟩:=I.base.tbls b ps e
  obtain⟨m2,e2⟩:=tbls b _ e1
  exact⟨m1++m2,by rw[e2,Array.append_assoc]⟩
 ·obtain⟨m,hn,hl⟩:=I.loc
  refine⟨m,ns m hn,fun i x v e1 e2 e3=>?_⟩
  obtain⟨u,r,l⟩:=hl i x v e1 e2 e3
  refine⟨u,r,?_⟩
  rcases l with l | ⟨k,c,e,z⟩
  ·exact .inl l
  ·exact .inr ⟨k,c,e,cellK x c e _ z⟩
 ·obtain⟨v,z⟩:=I.cell x c e
  exact⟨v,cellK x c e v z⟩
 ·obtain⟨m,⟨o,_,_,ho,_⟩,_⟩:=I.loc
  exact free _ o (fun z=>(hch _ z).2.1 rfl) ho I.free
 ·obtain⟨v,o,ho,hd⟩:=I.cell x c e
  exact free c o (fun z=>(hch c z).2.2.1 x c e rfl) ho (I.freeC x c e)
 ·obtain⟨e,n,ne,nf,d⟩:=I.pin p hp
  have nch:p.1∉ch:=fun z=>(hch p.1 z).2.2.2 p hp rfl
  exact⟨keep p.1 p.2 ne nf nch e n,free p.1 p.2 nch e n,ne,nf,d⟩
theorem Inv.un {t':Nat}(I:Inv X pz σ H s)(u:Un X.fs [] H H' s.heap h')(hok:HOk X.prog X.w H' h'):Inv X pz σ H' { s with heap:=h',toks:=t' }:=by
 obtain⟨m,⟨o,es,ep,ho,r⟩,_⟩:=id I.loc
 obtain⟨sl,hL⟩:=u.any ho I.free (by simp)
 exact I.step (g':=s.gens) (d':=s.drawn) (ch:=[]) (fun _ z=>nomatch z) (fun b o _ hb _ e n=>u.keep b o e n hb (by simp)) (fun b o _ hb _ e n=>u.slot b o e n hb (by simp)) (fun b o _ e n=>u.free b o e n (by simp)) (fun b o _ e=>u.there b o e (by simp)) u.tups u.frzs u.tbls (fun m' hm=>by
  obtain⟨o',es',ep',ho',r'⟩:=hm
  rw[ho] at ho';cases ho'
  exact⟨_,es',ep',hL,r'⟩) hok I.bare
theorem Inv.call {g':Array GenState}{t':Nat}{d':Drawn}{ch:List Addr}(I:Inv X pz σ H s)(u:Un (frs X.stack) ch H H' s.heap h')(hok:HOk X.prog X.w H' h')(hg:AllBare g')
  (hch:∀ b∈ch,(b∈X.ex∨X.s₀.heap.objs.size≤b)∧b≠X.env.locals∧(∀ x c,X.env.cells.lookup x=some c→c≠b)∧∀ p∈X.pn++pz,p.1≠b) :
  Inv X pz σ H' { s with heap:=h',gens:=g',drawn:=d',toks:=t' }:=by
 obtain⟨m,⟨o,es,ep,ho,r⟩,_⟩:=id I.loc
 obtain⟨sl,hL⟩:=u.any ho I.free fun z=>(hch _ z).2.1 rfl
 exact I.step (ch:=ch) hch (fun b o hL hb hc e n=>u.keep b o e n (fun z=>(Ys.mp (I.stkSub b z)).elim hL hb) hc) (fun b o _ _ hc e n=>u.any e n hc) (fun b o hc e n=>u.free b o e n hc) (fun b o hc e=>u.there b o e hc) u.tups u.frzs u.tbls (fun m' hm=>by
  obtain⟨o',es',ep',ho',r'⟩:=hm
  rw[ho] at ho';cases ho'
  exact⟨_,es',ep',hL,r'⟩) hok hg
theorem Inv.turned {t':Nat}{it:Addr}(I:Inv X pz σ H s)(k:∀ b o,b≠it→s.heap.get? b=some o→h'.get? b=some o)(hn:H it=none)(hL:it≠X.env.locals)
  (h1:it∈X.ex∨X.s₀.heap.objs.size≤it) (h2:∀ x c,X.env.cells.lookup x=some c→c≠it) (h3:∀ p∈X.pn++pz,p.1≠it):Inv X pz σ H { s with heap:=h',toks:=t' }:=by
 have nit:∀ b u,H b=some u→b≠it:=fun b u e z=>by rw[z,hn] at e;cases e
 refine I.step (g':=s.gens) (d':=s.drawn) (ch:=[it]) (fun b hb=>?_) (fun b o _ _ hc e _=>k b o (fun z=>hc (by simp[z])) e) (fun b o _ _ hc e _=>⟨o.slots,k b o (fun z=>hc (by simp[z])) e⟩) (fun _ _ _ _ n=>n)
  (fun b o hc e=>⟨o,k b o (fun z=>hc (by simp[z])) e⟩) (fun _ _ e=>e) (fun _ _ _ e=>e) (fun b ps e=>⟨#[],by rw[e];simp⟩) (fun m hm=>?_) (fun b u e=>?_) I.bare
 ·have e:b=it:=by simpa using hb
  subst e
  exact⟨h1,hL,h2,h3⟩
 ·obtain⟨o,es,ep,ho,r⟩:=hm
  exact⟨o,es,ep,k _ o (ZZ hL) ho,r⟩
 ·refine (I.hok b u e).stay (fun c v hc q=>k c v ?_ q) (fun _ q=>q) fun _ _ q=>q
  rcases hc with z | z
  ·rw[z];exact nit b u e
  ·exact nit c _ z
theorem Inv.tok (I:Inv X pz σ H s)(t:Nat):Inv X pz σ H { s with toks:=t }:=I.un (h':=s.heap) (t':=t) Un.refl I.hok
theorem Inv.kept {t':Nat}(I:Inv X pz σ H s)(k:∀ b u,s.heap.get? b=some u→h'.get? b=some u):Inv X pz σ H { s with heap:=h',toks:=t' }:=I.un (Un.kept k) (I.hok.kept k)
theorem Inv.laid {a:Addr}{o:HO}{t':Nat}(I:Inv X pz σ H s)(k:∀ b u,s.heap.get? b=some u→h'.get? b=some u)(hp:s.heap.objs.size≤a)(new:ObjOk X.prog X.w (upd H a o) h' a o) :
  Inv X pz σ (upd H a o) { s with heap:=h',toks:=t' }:=I.un (Un.laid k hp (I.hok.fresh hp)) (I.hok.laid k hp new)
theorem Inv.write {x e:Addr}{o:HO}{t':Nat}(I:Inv X pz σ H s)(mu:Mut (H x))(he:e=x∨H e=some (.own x))(k:∀ b u,b≠e→s.heap.get? b=some u→h'.get? b=some u)(heo:∃ u,h'.get? e=some u)
  (new:ObjOk X.prog X.w (upd H x o) h' x o):Inv X pz σ (upd H x o) { s with heap:=h',toks:=t' }:=I.un (Un.write mu he k heo) (I.hok.write mu he k heo new)
theorem Inv.weak {σ':List (Option V)}(I:Inv X pz σ H s)(hl:σ'.length=σ.length)(w:∀ (i:Nat) v,σ'[i]?=some (some v)→σ[i]?=some (some v)):Inv X pz σ' H s:=
 ⟨I.ok,I.os,I.bare,I.base,let ⟨m,hn,hl'⟩:=I.loc;⟨m,hn,fun i x v e1 e2 e3=>hl' i x v e1 (w i v e2) e3⟩,I.cell,I.free,I.freeC,I.pin,I.hok,hl.trans I.len⟩
theorem Inv.pins_of {pz':Kp}(I:Inv X pz σ H s)(h:∀ p∈pz',s.heap.get? p.1=some p.2∧H p.1=none∧p.1≠X.env.locals∧p.1∉X.fs∧∀ v,p.2.data≠.cell v):Inv X pz' σ H s:=
 ⟨I.ok,I.os,I.bare,I.base,I.loc,I.cell,I.free,I.freeC,fun p hp=>(List.mem_append.mp hp).elim (fun z=>I.pin p (List.mem_append_left _ z)) (h p),I.hok,I.len⟩
theorem iV {N:List Str}(hN:N.Nodup){i j:Nat}{x:Str}(a:N[i]?=some x)(b:N[j]?=some x):i=j:=by
 obtain⟨h1,e1⟩:=Ym.mp a
 obtain⟨h2,e2⟩:=Ym.mp b
 exact (List.getElem_inj hN).mp (e1.trans e2.symm)
theorem gj {M:Model}{A:Around}{E:Kv}{i:Nat}{x:Str}{v:V}{u:Value}{Q:Unit→Shared→Prop}(I:Inv X pz σ H s)(hN:X.N.Nodup)(hi:X.N[i]?=some x)(hx:Loc X.env.scope x)(r:RelV v u)
  (h:∀ s',Inv X pz (σ.set i (some v)) H s'→(∃ a,Heap.SameBut a s.heap s'.heap∧(a=X.env.locals∨X.env.cells.lookup x=some a))→Q () s') (hf:X.fn x=true∨X.env.scope.names.lookup x=some .local:=by first | exact .inl rfl | exact .inr rfl | assumption):wpAny M A (storeName X.env x u) Q E s:=by
 obtain⟨m,hn,hl⟩:=id I.loc
 have hcls:(X.env.scope.kind == .class||(X.env.scope.kind == .module&&X.env.locals != X.env.globals))=false:=by rw[I.ok.kind];rfl
 have hiσ:i<σ.length:=by rw[I.len];exact (Ym.mp hi).1
 have cne:=I.cne
 have tracked:∀ {a:Addr} {h':Heap},(∃ o,s.heap.get? a=some o∧H a=none)→Heap.SameBut a s.heap h'→HOk X.prog X.w H h':=fun {a h'} ha hs b ob e=>by
  obtain⟨_,_,hfree⟩:=ha
  refine (I.hok b ob e).stay (fun c w' hc q=>(hs.2 c ?_).trans q) (fun _ q=>q) fun _ _ q=>q
  rintro rfl
  rcases hc with rfl | hc
  ·rw[hfree] at e;cases e
  ·rw[hfree] at hc;cases hc
 rcases hx with hk | hk
 ·refine wpAny_storeName_local hk hn (fun h' hn' hs=>?_) hcls
  obtain⟨oL,_,_,hoL,_⟩:=id hn
  refine h _ ⟨I.ok,I.os,I.bare,⟨fun b o e n hb hx=>?_,fun b o e n hb hx=>?_,I.base.free,fun b o e hx=>?_,I.base.tups,I.base.frzs,I.base.tbls⟩,⟨_,hn',fun j y v' e1 e2 e3=>?_⟩,fun y c e=>?_,I.free,I.freeC,fun p hp=>?_,tracked ⟨oL,hoL,I.free⟩ hs,by simpa using I.len⟩ ⟨_,hs,.inl rfl⟩
  ·exact (hs.2 b (Yq (Yh (Yg e) I.ok.above))).trans (I.base.keep b o e n hb hx)
  ·obtain⟨sl,e1⟩:=I.base.slot b o e n hb hx
   exact⟨sl,(hs.2 b (Yq (Yh (Yg e) I.ok.above))).trans e1⟩
  ·obtain⟨o',e1⟩:=I.base.there b o e hx
   exact⟨o',(hs.2 b (Yq (Yh (Yg e) I.ok.above))).trans e1⟩
  ·by_cases hj:j=i
   ·subst hj
    rw[hi] at e1;cases e1
    rw[YI hiσ] at e2
    cases e2
    exact⟨u,r,.inl ⟨hk,by simp⟩⟩
   ·rw[Yz (ZZ hj)] at e2
    obtain⟨u',r',q⟩:=hl j y v' e1 e2 e3
    refine⟨u',r',?_⟩
    rcases q with⟨k,e⟩ | ⟨k,c,e,z⟩
    ·refine .inl ⟨k,?_⟩
     have:y≠x:=fun e=>hj (iV hN e1 (e ▸ hi))
     simp[this,e]
    ·exact .inr ⟨k,c,e,z.sameBut hs (cne y c e)⟩
  ·obtain⟨w',z⟩:=I.cell y c e
   exact⟨w',z.sameBut hs (cne y c e)⟩
  ·obtain⟨e,n,ne,nf,d⟩:=I.pin p hp
   exact⟨(hs.2 p.1 ne).trans e,n,ne,nf,d⟩
 ·have hfn:X.fn x=true:=by
   rcases hf with z | z
   ·exact z
   ·rw[z] at hk;cases hk
  obtain⟨c,hc⟩:=I.ok.has x (.inl hk)
  obtain⟨w',z⟩:=I.cell x c hc
  refine wpAny_storeName_cell I.ok.kind hk hc z (fun h' hc' hs=>?_)
  obtain⟨oc,hoc,hocd⟩:=id z
  refine h { s with heap:=h' } ⟨I.ok,I.os,I.bare,⟨fun b o e n hb hx=>?_,fun b o e n hb hx=>?_,I.base.free,fun b o e hx=>?_,I.base.tups,I.base.frzs,I.base.tbls⟩,⟨m,hn.sameBut hs (ZZ (cne x c hc)),fun j y v' e1 e2 e3=>?_⟩,fun y c' e=>?_,I.free,I.freeC,fun p hp=>?_,tracked ⟨oc,hoc,I.freeC x c hc⟩ hs,by simpa using I.len⟩ ⟨c,hs,.inr hc⟩
  ·exact (hs.2 b (Yq (Yh (Yg e) (I.ok.cab x c hfn hc)))).trans (I.base.keep b o e n hb hx)
  ·obtain⟨sl,e1⟩:=I.base.slot b o e n hb hx
   exact⟨sl,(hs.2 b (Yq (Yh (Yg e) (I.ok.cab x c hfn hc)))).trans e1⟩
  ·obtain⟨o',e1⟩:=I.base.there b o e hx
   exact⟨o',(hs.2 b (Yq (Yh (Yg e) (I.ok.cab x c hfn hc)))).trans e1⟩
  ·by_cases hj:j=i
   ·subst hj
    rw[hi] at e1;cases e1
    rw[YI hiσ] at e2
    cases e2
    exact⟨u,r,.inr ⟨.inl hk,c,hc,hc'⟩⟩
   ·rw[Yz (ZZ hj)] at e2
    obtain⟨u',r',q⟩:=hl j y v' e1 e2 e3
    refine⟨u',r',?_⟩
    rcases q with q | ⟨k,c',e,z'⟩
    ·exact .inl q
    ·refine .inr ⟨k,c',e,z'.sameBut hs ?_⟩
     rintro rfl
     exact hj (iV hN e1 (I.ok.inj _ _ _ e hc ▸ hi))
  ·by_cases hcc:c'=c
   ·subst hcc;exact⟨_,hc'⟩
   ·obtain⟨w2,z2⟩:=I.cell y c' e
    exact⟨w2,z2.sameBut hs hcc⟩
  ·obtain⟨e,n,ne,nf,d⟩:=I.pin p hp
   refine⟨(hs.2 p.1 ?_).trans e,n,ne,nf,d⟩
   intro q
   rw[q,hoc] at e
   have q':oc=p.2:=Yx e
   exact d w' (by rw[← q'];exact hocd)
theorem fK {M:Model}{A:Around}{E:Kv}{i:Nat}{x:Str}{v:V}{u:Value}{Q:Unit→Shared→Prop}(I:Inv X pz σ H s)(hN:X.N.Nodup)(hi:X.N[i]?=some x)(hx:Loc X.env.scope x)(r:RelV v u)
  (h:∀ s',Inv X pz (σ.set i (some v)) H s'→Q () s') (hf:X.fn x=true∨X.env.scope.names.lookup x=some .local:=by first | exact .inl rfl | exact .inr rfl | assumption):wpAny M A (storeName X.env x u) Q E s:=
 gj I hN hi hx r (fun s' I' _=>h s' I') hf
theorem Inv.call' {s':Shared}{ch:List Addr}(I:Inv X pz σ H s)(ho:s'.os=s.os)(u:Un (frs X.stack) ch H H' s.heap s'.heap)(hok:HOk X.prog X.w H' s'.heap)(hg:AllBare s'.gens)
  (hch:∀ b∈ch,(b∈X.ex∨X.s₀.heap.objs.size≤b)∧b≠X.env.locals∧(∀ x c,X.env.cells.lookup x=some c→c≠b)∧∀ p∈X.pn++pz,p.1≠b):Inv X pz σ H' s':=by
 obtain⟨h',g',d',t',o'⟩:=s'
 have e:o'=s.os:=ho
 subst e
 exact I.call (g':=g') (t':=t') (d':=d') u hok hg hch
end
abbrev XK:=Value→Option Addr→Hp→Prop
abbrev St:=List (Option V)
abbrev VK:=V→Hp→Prop
abbrev TE:=St→Hp→VK→Prop
abbrev TT:=St→Hp→(Bool→Hp→Prop)→Prop
abbrev TA:=St→Hp→(List V→Hp→Prop)→Prop
structure Ends where
 nx:St→Hp→Prop
 rt:VK
 bk:St→Hp→Prop:=fun _ _=>False
 ct:St→Hp→Prop:=fun _ _=>False
abbrev TS:=Ends→St→Hp→Prop
def EP (X:Cx)(pz:Kp)(σ:St)(Q:VK)(u:Value)(s':Shared):Prop:=∃ v H',Inv X pz σ H' s'∧RelV v u∧Q v H'
def TP (X:Cx)(pz:Kp)(σ:St)(Q:Bool→Hp→Prop)(b:Bool)(s':Shared):Prop:=∃ H',Inv X pz σ H' s'∧Q b H'
def AP (X:Cx)(pz:Kp)(σ:St)(Q:List V→Hp→Prop)(us:List Value)(s':Shared):Prop:=∃ vs H',Inv X pz σ H' s'∧Vals vs us∧Q vs H'
def SP (X:Cx)(pz:Kp)(D:Ends)(f:Flow)(s':Shared):Prop:=
 match f with
 | .next=>∃ σ' H',Inv X pz σ' H' s'∧D.nx σ' H'
 | .brk=>∃ σ' H',Inv X pz σ' H' s'∧D.bk σ' H'
 | .cont=>∃ σ' H',Inv X pz σ' H' s'∧D.ct σ' H'
 | .ret u=>∃ v σ' H',Inv X pz σ' H' s'∧RelV v u∧D.rt v H'
def PE (X:Cx)(e:Expr)(t:TE):Prop:=
 ∀ (pz:Kp) (s:Shared) (σ:St) (H:Hp) (Q:VK),Inv X pz σ H s→t σ H Q→wpAny (model X.prog X.w) X.A (eval e X.env) (EP X pz σ Q) X.xe s
def PT (X:Cx)(e:Expr)(t:TT):Prop:=
 ∀ (pz:Kp) (s:Shared) (σ:St) (H:Hp) (Q:Bool→Hp→Prop),Inv X pz σ H s→t σ H Q→wpAny (model X.prog X.w) X.A (isTrue e X.env (eval e X.env)) (TP X pz σ Q) X.xe s
def PW (X:Cx)(e:Expr)(t:TT):Prop:=
 ∀ (whole:Sem Value) (pz:Kp) (s:Shared) (σ:St) (H:Hp) (Q:Bool→Hp→Prop),Inv X pz σ H s→t σ H Q→wpAny (model X.prog X.w) X.A (isTrue e X.env whole) (TP X pz σ Q) X.xe s
theorem PW.pt {X:Cx}{e:Expr}{t:TT}(h:PW X e t):PT X e t:=h _
def PA (X:Cx)(es:List Expr)(t:TA):Prop:=
 ∀ (pos:Pos) (pz:Kp) (s:Shared) (σ:St) (H:Hp) (Q:List V→Hp→Prop),Inv X pz σ H s→t σ H Q→wpAny (model X.prog X.w) X.A (spliced (backTo pos (starEach es X.env))) (AP X pz σ Q) X.xe s
def PS (X:Cx)(st:Stmt)(t:TS):Prop:=
 ∀ (pz:Kp) (s:Shared) (σ:St) (H:Hp) (D:Ends),Inv X pz σ H s→t D σ H→wpAny (model X.prog X.w) X.A (exec st X.env) (SP X pz D) X.xe s
def PSs (X:Cx)(st:List Stmt)(t:TS):Prop:=
 ∀ (pz:Kp) (s:Shared) (σ:St) (H:Hp) (D:Ends),Inv X pz σ H s→t D σ H→wpAny (model X.prog X.w) X.A (execs st X.env) (SP X pz D) X.xe s
theorem thn {α:Type}{t:Sem α}{Q Q':α→Shared→Prop}{M:Model}{A:Around}{E:Kv}{s:Shared}(h:wpAny M A t Q E s)(hQ:∀ a s,Q a s→Q' a s):wpAny M A t Q' E s:=Zp h hQ fun _ _ x=>x
theorem aL {α β:Type}{X:Cx}{pz:Kp}{σ:St}{t:Sem β}{R:α→β→Prop}{Q:α→Hp→Prop}{T:β→Shared→Prop}{M:Model}{A:Around}{E:Kv}{s:Shared}
  (h:wpAny M A t (fun u s1=>∃ x H1,Inv X pz σ H1 s1∧R x u∧Q x H1) E s) (k:∀ u s1 x H1,Inv X pz σ H1 s1→R x u→Q x H1→T u s1):wpAny M A t T E s:=
 thn h fun u s1 z=>by obtain⟨x,H1,a,b,c⟩:=z;exact k u s1 x H1 a b c
theorem un7 {β γ δ α:Type}{B A Z:β→γ→δ→α→Prop}{C:Prop}(k:∀ P F ρ d,B P F ρ d→A P F ρ d→Z P F ρ d→C)(h:∃ P F ρ d,B P F ρ d∧A P F ρ d∧Z P F ρ d):C:=by
 obtain⟨P,F,ρ,d,a,b,c⟩:=h;exact k P F ρ d a b c
section
variable {X:Cx}
def bZ (i:Nat):TE:=fun σ H Q=>∃ v,σ[i]?=some (some v)∧Q v H
def tC (v:V):TE:=fun _ H Q=>Q v H
theorem me {i:Nat}{x:Str}{pos:Pos}(hN:X.N[i]?=some x)(hv:Vis X.env.scope x)(hd:(x == ("__debug__":Str))=false:=by decide)(hcd:(x == ("__classdict__":Str))=false:=by decide):PE X (.Name x pos) (bZ i):=by
 intro pz s σ H Q I h
 obtain⟨v,e,h⟩:=h
 obtain⟨m,hn,hl⟩:=I.loc
 obtain⟨u,r,l⟩:=hl i x v hN e hv
 have fin:EP X pz σ Q u s:=⟨v,H,I,r,h⟩
 rcases l with⟨hk,hm⟩ | ⟨hk,c,hc,hcell⟩
 ·exact wpAny_Name (wpAny_loadName_local I.ok.kind hk hn hm fin) hd
 ·rcases hk with hk | hk
  ·exact wpAny_Name (wpAny_loadName_cell I.ok.kind hk hc hcell fin) hd
  ·exact wpAny_Name (wpAny_loadName_free I.ok.kind hk hc hcell fin hcd) hd
theorem nT {i j pos}:PE X (.Constant (.int i) j pos) (tC (.int i)):=fun _ _ _ H _ I h=>wpAny_Constant_int ⟨.int i,H,I.tok _,⟨_,rfl⟩,h⟩
theorem sW {b j pos}:PE X (.Constant (.bool b) j pos) (tC (.bl b)):=fun _ _ _ H _ I h=>Constant_bool ⟨.bl b,H,I,rfl,h⟩
def Gl (X:Cx)(x:Str):Prop:=X.env.kindOf x=some .globalImplicit
theorem km {E:Kv}{pz:Kp}{s:Shared}{σ:St}{H:Hp}{x:Str}{u:Value}{pos:Pos}{Q:Kv}(I:Inv X pz σ H s)(hg:Gl X x)(hm:X.mg x=some u)(h:Q u s)
  (hd:(x == ("__debug__":Str))=false:=by decide):wpAny (model X.prog X.w) X.A (eval (.Name x pos) X.env) Q E s:=
 Calls.Name_function_global I.ok.kind hg (Calls.loadGlobal_global (by rw[I.ok.glob];exact I.mod.glob.keeps I.bk) hm h) hd
theorem fD {E:Kv}{pz:Kp}{s:Shared}{σ:St}{H:Hp}{x:Str}{u:Value}{pos:Pos}{Q:Kv}(I:Inv X pz σ H s)(hg:Gl X x)(hm:X.mg x=none)(hv:bootBuiltins x=some u)(h:Q u s)
  (hn:x ≠ "__name__":=by decide) (hd:(x == ("__debug__":Str))=false:=by decide):wpAny (model X.prog X.w) X.A (eval (.Name x pos) X.env) Q E s:=by
 obtain⟨mb,h1,h2⟩:=I.mod.blt
 exact Calls.Name_function_global I.ok.kind hg (Calls.loadGlobal_builtin (by rw[I.ok.glob];exact I.mod.glob.keeps I.bk) hm (by rw[I.ok.blt];exact h1.keeps I.bk) ((h2 x hn).trans hv) h) hd
theorem o8 {x:Str}{v:V}{u:Value}{pos:Pos}(hg:Gl X x)(hm:X.mg x=none)(hv:bootBuiltins x=some u)(r:RelV v u)(hn:x ≠ "__name__":=by decide)(hd:(x == ("__debug__":Str))=false:=by decide):PE X (.Name x pos) (tC v):=
 fun _ _ _ H _ I h=>fD I hg hm hv ⟨v,H,I,r,h⟩ hn hd
variable {a b:Expr} {ta tb:TE} {pos:Pos}
def PC (X:Cx)(op:CmpOp)(a b:Expr)(t:TE):Prop:=
 ∀ (pz:Kp) (s:Shared) (σ:St) (H:Hp) (Q:VK),Inv X pz σ H s→t σ H Q→
  wpAny (model X.prog X.w) X.A (eval a X.env) (fun v s₁=>wpAny (model X.prog X.w) X.A (eval b X.env) (fun u s₂=>wpAny (model X.prog X.w) X.A (compareOp op v u) (EP X pz σ Q) X.xe s₂) X.xe s₁) X.xe s
theorem iu (b:Expr){op:CmpOp}(h:op≠.In)(h2:op≠.NotIn):behindInMarks op b=false:=by
 have e1:(op == CmpOp.In)=false:=by cases op <;> first | rfl | exact absurd rfl h
 have e2:(op == CmpOp.NotIn)=false:=by cases op <;> first | rfl | exact absurd rfl h2
 cases b <;> simp[behindInMarks,e1,e2]
instance (x:V):Decidable (x=.non):=by cases x <;> first | exact .isTrue rfl | exact .isFalse nofun
def u3 (ta:TE):TE:=fun σ H Q=>ta σ H fun x H1=>Q (.bl (decide (x=.non))) H1
theorem RelV.none_iff {x:V}{v:Value}(r:RelV x v):(v == Value.none)=decide (x=.non):=by
 cases x with
 | non=>cases r;rfl
 | bl _=>cases r;rfl
 | int _=>obtain⟨t,rfl⟩:=r;rfl
 | str _=>obtain⟨t,rfl⟩:=r;rfl
 | byt _=>obtain⟨t,rfl⟩:=r;rfl
 | flt _=>obtain⟨t,rfl⟩:=r;rfl
 | ref _=>cases r;rfl
 | ty _=>cases r;rfl
theorem qX {j pos'}(ha:PE X a ta):PC X .Is a (.Constant .none j pos') (u3 ta):=by
 intro pz s σ H Q I h
 refine aL (ha pz s σ H _ I h) fun v s1 x H1 I1 r1 q1=>?_
 exact Constant_none (is_none_gen ⟨.bl _,H1,I1,by rw[r1.none_iff];rfl,q1⟩)
def tB (t:TE):TT:=fun σ H Q=>t σ H fun x H1=>∃ c,x=.bl c∧Q c H1
theorem nj {op:CmpOp}{t:TE}(h:PC X op a b t)(h1:behindInMarks op b=false:=by first | exact iu _ (by decide) (by decide) | rfl):PT X (.Compare a [op] [b] pos) (tB t):=by
 intro pz s σ H Q I hw
 refine wpAny_isTrue_Compare1 (thn (h pz s σ H _ I hw) fun v s1 h1=>thn h1 fun u s2 h2=>thn h2 fun c s3 hh_=>?_) h1
 obtain⟨x,H1,I1,r1,q1⟩:=hh_
 obtain⟨d,rfl,q⟩:=q1
 cases r1
 exact Xm ⟨H1,I1,q⟩
theorem qw {e:Expr}{t:TE}(h:PE X e t)(he:∀ whole,isTrue e X.env whole=(do let v ← whole;standAt e.pos;holding [v] (truthy v)):=by intro _;rfl):PT X e (tB t):=by
 intro pz s σ H Q I hw
 refine isTrue_plain (aL (h pz s σ H _ I hw) fun v s1 x H1 I1 r1 q1=>?_) (he _)
 obtain⟨d,rfl,q⟩:=q1
 cases r1
 exact Xm ⟨H1,I1,q⟩
variable {tA tB':TT} {aJ:List Expr}
def vv (t u:TT):TT:=fun σ H Q=>t σ H fun c H1=>if c=true then u σ H1 Q else Q false H1
def tOr (t u:TT):TT:=fun σ H Q=>t σ H fun c H1=>if c=true then Q true H1 else u σ H1 Q
def u6 (t:TT):TT:=fun σ H Q=>t σ H fun c H1=>Q (!c) H1
theorem pK (ha:PT X a tA):PW X (.BoolOp .And [a] pos) tA:=by
 intro wh pz s σ H Q I h
 refine isTrue_and (thn (ha pz s σ H Q I h) fun c s1 e=>?_)
 cases c with
 | true=>exact isTrue_and_nil e
 | false=>exact e
theorem qK (ha:PT X a tA):PW X (.BoolOp .Or [a] pos) tA:=by
 intro wh pz s σ H Q I h
 refine isTrue_or (thn (ha pz s σ H Q I h) fun c s1 e=>?_)
 cases c with
 | false=>exact isTrue_or_nil e
 | true=>exact e
theorem si (ha:PT X a tA)(hb:PW X (.BoolOp .And (b::aJ) pos) tB'):PW X (.BoolOp .And (a::b::aJ) pos) (vv tA tB'):=by
 intro wh pz s σ H Q I h
 refine isTrue_and (thn (ha pz s σ H _ I h) fun c s1 hh_=>?_)
 obtain⟨H1,I1,q1⟩:=hh_
 cases c with
 | true=>exact hb wh pz s1 σ H1 Q I1 q1
 | false=>exact⟨H1,I1,q1⟩
theorem sV (ha:PT X a tA)(hb:PW X (.BoolOp .Or (b::aJ) pos) tB'):PW X (.BoolOp .Or (a::b::aJ) pos) (tOr tA tB'):=by
 intro wh pz s σ H Q I h
 refine isTrue_or (thn (ha pz s σ H _ I h) fun c s1 hh_=>?_)
 obtain⟨H1,I1,q1⟩:=hh_
 cases c with
 | true=>exact⟨H1,I1,q1⟩
 | false=>exact hb wh pz s1 σ H1 Q I1 q1
theorem qM (ha:PT X a tA):PT X (.UnaryOp .Not a pos) (u6 tA):=by
 intro pz s σ H Q I h
 exact isTrue_not (ha pz s σ H (fun c H1=>Q (!c) H1) I h)
def tw (ta tb:TE):TE:=fun σ H Q=>ta σ H fun x H1=>∃ c,x=.bl c∧if c=true then tb σ H1 Q else Q (.bl false) H1
theorem qE {op}{t:TE}(h:PE X a t):PE X (.BoolOp op [a] pos) t:=fun pz s σ H Q I hw=>BoolOp_one (h pz s σ H Q I hw)
theorem qG (ha:PE X a ta)(hb:PE X (.BoolOp .And (b::aJ) pos) tb):PE X (.BoolOp .And (a::b::aJ) pos) (tw ta tb):=by
 intro pz s σ H Q I h
 refine BoolOp_and (aL (ha pz s σ H _ I h) fun v s1 x H1 I1 r1 q1=>?_)
 obtain⟨c,rfl,q1⟩:=q1
 cases r1
 refine Xm ?_
 cases c with
 | true=>exact hb pz s1 σ H1 Q I1 q1
 | false=>exact⟨.bl false,H1,I1,rfl,q1⟩
def tIf (t:TT)(ta tb:TE):TE:=fun σ H Q=>t σ H fun c H1=>if c=true then ta σ H1 Q else tb σ H1 Q
theorem l9 {c:Expr}(hc:PT X c tA)(ha:PE X a ta)(hb:PE X b tb):PE X (.IfExp c a b pos) (tIf tA ta tb):=by
 intro pz s σ H Q I h
 refine wpAny_IfExp (thn (hc pz s σ H _ I h) fun d s1 hh_=>?_)
 obtain⟨H1,I1,q1⟩:=hh_
 cases d with
 | true=>exact ha pz s1 σ H1 Q I1 q1
 | false=>exact hb pz s1 σ H1 Q I1 q1
end
def SqL (K:Kq)(H:Hp)(a:Addr)(xs:List V):Prop:=
 Rd H a (.lst xs) ∨
  ∃ (o:Obj) (its:Array Value) (n:Nat),K.lookup a=some o∧o.cls=.type "list"∧o.dict=none∧o.data=.seq its n∧its.size≤sizeLine∧Vals xs its.toList
def SqT (K:Kq)(H:Hp)(a:Addr)(xs:List V):Prop:=
 Rd H a (.tup xs) ∨
  ∃ (o:Obj) (its:Array Value) (n:Nat),K.lookup a=some o∧o.cls=.type "tuple"∧o.data=.seq its n∧its.size≤sizeLine∧Vals xs its.toList
def uU:Value→Option V
 | .none=>some .non
 | .bool b=>some (.bl b)
 | .int i _=>some (.int i)
 | .str x _=>some (.str x)
 | .bytes b _=>some (.byt b)
 | .float b _=>some (.flt b)
 | .ref a=>some (.ref a)
 | .type n=>some (.ty n)
 | _=>none
theorem RelV.abs {x:V}{u:Value}(r:RelV x u):uU u=some x:=by
 cases x with
 | non=>cases r;rfl
 | bl _=>cases r;rfl
 | int _=>obtain⟨t,rfl⟩:=r;rfl
 | str _=>obtain⟨t,rfl⟩:=r;rfl
 | byt _=>obtain⟨t,rfl⟩:=r;rfl
 | flt _=>obtain⟨t,rfl⟩:=r;rfl
 | ref _=>cases r;rfl
 | ty _=>cases r;rfl
theorem RelV.inj {x y:V}{u:Value}(r:RelV x u)(q:RelV y u):x=y:=Yx (r.abs.symm.trans q.abs)
theorem Vals.inj {xs ys:List V}{us:List Value}(h:Vals xs us):Vals ys us→xs=ys:=by
 induction h generalizing ys with
 | nil=>intro q;cases q;rfl
 | cons r _ ih=>
  intro q
  cases q with
  | cons r' t'=>rw[r.inj r',ih t']
section
variable {X:Cx} {pz:Kp} {σ:St} {H:Hp} {s:Shared} {a:Addr} {xs ys:List V}
theorem SqL.of {K:Kq}(h:H a=some (.lst xs)):SqL K H a xs:=.inl (.inl h)
theorem SqT.of {K:Kq}(h:H a=some (.tup xs)):SqT K H a xs:=.inl (.inl h)
theorem Inv.list (I:Inv X pz σ H s)(h:SqL X.K H a xs):∃ its:List Value,Vals xs its∧PlainL s.heap a its.toArray∧xs.length≤sizeLine:=by
 rcases h with h | ⟨o,its,n,hk,hc,hd,hs,hz,r⟩
 ·obtain⟨z,its,n,r,e⟩:=h.ok I.hok
  exact⟨its,r,⟨_,n,e,rfl,rfl,rfl⟩,z⟩
 ·refine⟨its.toList,r,⟨o,n,I.kIn a o hk,hc,hd,by simpa using hs⟩,?_⟩
  have e:=r.length
  simp only[ZE] at e
  omega
theorem Inv.tuple (I:Inv X pz σ H s)(h:SqT X.K H a xs):∃ its:List Value,Vals xs its∧IsTup s.heap a its.toArray∧xs.length≤sizeLine:=by
 rcases h with h | ⟨o,its,n,hk,hc,hs,hz,r⟩
 ·obtain⟨z,its,r,p,_⟩:=h.ok I.hok
  exact⟨its,r,p,z⟩
 ·refine⟨its.toList,r,⟨o,I.kIn a o hk,hc,n,by simpa using hs⟩,?_⟩
  have e:=r.length
  simp only[ZE] at e
  omega
theorem Inv.list_inj (I:Inv X pz σ H s)(h:SqL X.K H a xs)(h':SqL X.K H a ys):xs=ys:=by
 obtain⟨its,r,⟨o,n,e,_,_,d⟩,_⟩:=I.list h
 obtain⟨its',r',⟨o',n',e',_,_,d'⟩,_⟩:=I.list h'
 rw[e] at e';cases e'
 rw[d] at d'
 injection d' with d1 _
 have:its=its':=by simpa using ZR Array.toList d1
 subst this
 exact r.inj r'
theorem Inv.tuple_inj (I:Inv X pz σ H s)(h:SqT X.K H a xs)(h':SqT X.K H a ys):xs=ys:=by
 obtain⟨its,r,⟨o,e,_,n,d⟩,_⟩:=I.tuple h
 obtain⟨its',r',⟨o',e',_,n',d'⟩,_⟩:=I.tuple h'
 rw[e] at e';cases e'
 rw[d] at d'
 injection d' with d1 _
 have:its=its':=by simpa using ZR Array.toList d1
 subst this
 exact r.inj r'
end
abbrev Cx.wish (X:Cx)(E:Kv):Cx:={ X with xe:=E }
abbrev Cx.nox (X:Cx):Cx:=X.wish fun _ _=>False
theorem Cx.Ok.wish {X:Cx}(ok:X.Ok)(E:Kv):(X.wish E).Ok:=
 ⟨ok.mod,ok.kind,ok.glob,ok.blt,ok.above,ok.inj,ok.has,ok.cab,ok.hd,ok.frames,ok.stk,ok.exf,ok.bs,ok.bsz,ok.noex,ok.exfs,ok.funs,ok.frf⟩
theorem Cx.Ok.unwish {X:Cx}{E:Kv}(ok:(X.wish E).Ok):X.Ok:=
 ⟨ok.mod,ok.kind,ok.glob,ok.blt,ok.above,ok.inj,ok.has,ok.cab,ok.hd,ok.frames,ok.stk,ok.exf,ok.bs,ok.bsz,ok.noex,ok.exfs,ok.funs,ok.frf⟩
section
variable {X:Cx} {pz:Kp} {σ:St} {H:Hp} {s:Shared} {E:Kv}
theorem Inv.wish (I:Inv X pz σ H s)(E:Kv):Inv (X.wish E) pz σ H s:=⟨I.ok.wish E,I.os,I.bare,I.base,I.loc,I.cell,I.free,I.freeC,I.pin,I.hok,I.len⟩
theorem Inv.unwish (I:Inv (X.wish E) pz σ H s):Inv X pz σ H s:=⟨I.ok.unwish,I.os,I.bare,I.base,I.loc,I.cell,I.free,I.freeC,I.pin,I.hok,I.len⟩
theorem SP.unwish {D:Ends}{f:Flow}{s':Shared}(h:SP (X.wish E) pz D f s'):SP X pz D f s':=by
 cases f with
 | next=>obtain⟨σ',H',I,q⟩:=h;exact⟨σ',H',I.unwish,q⟩
 | brk=>obtain⟨σ',H',I,q⟩:=h;exact⟨σ',H',I.unwish,q⟩
 | cont=>obtain⟨σ',H',I,q⟩:=h;exact⟨σ',H',I.unwish,q⟩
 | ret u=>obtain⟨v,σ',H',I,r,q⟩:=h;exact⟨v,σ',H',I.unwish,r,q⟩
theorem PSs.nox {st:List Stmt}{t:TS}(h:PSs X.nox st t):PSs X st t:=fun pz s σ H D I hw=>
 Zp (h pz s σ H D (I.wish _) hw) (fun _ _ q=>q.unwish) fun _ _ z=>False.elim z
end
section
variable {X:Cx} {st:Stmt} {aJ:List Stmt} {t u:TS} {e:Expr} {te:TE} {pos:Pos}
def sF:TS:=fun D σ H=>D.nx σ H
def u2 (t u:TS):TS:=fun D σ H=>t { D with nx:=u D } σ H
theorem pF:PSs X [] sF:=fun _ _ σ H _ I h=>Xx ⟨σ,H,I,h⟩
theorem iw (h1:PS X st t)(h2:PSs X aJ u):PSs X (st::aJ) (u2 t u):=by
 intro pz s σ H D I h
 refine wpAny_execs_cons (thn (h1 pz s σ H { D with nx:=u D } I h) fun f s1 q=>?_)
 cases f with
 | next=>
  obtain⟨σ',H',I',q⟩:=q
  exact h2 pz s1 σ' H' D I' q
 | ret v=>exact q
 | brk=>exact q
 | cont=>exact q
theorem g9 (h1:PS X st t):PSs X [st] t:=by
 intro pz s σ H D I h
 refine wpAny_execs_cons (thn (h1 pz s σ H D I h) fun f s1 q=>?_)
 cases f with
 | next=>exact Xx q
 | ret v=>exact q
 | brk=>exact q
 | cont=>exact q
theorem Inv.quiet {pz:Kp}{σ:St}{H:Hp}{s:Shared}(I:Inv X pz σ H s):interactive X.env=false:=by simp[interactive,I.ok.kind]
def sI (te:TE):TS:=fun D σ H=>te σ H fun _ H1=>D.nx σ H1
theorem eS (he:PE X e te)(hs:swapsWith e none pos.line X.env=pure false:=by rfl):PS X (.Expr e pos) (sI te):=by
 intro pz s σ H D I h
 exact wpAny_Expr_any (aL (he pz s σ H _ I h) fun v s1 x H1 I1 r1 q1=>⟨σ,H1,I1,q1⟩) I.quiet hs
def vp (te:TE):TS:=fun D σ H=>te σ H D.rt
theorem jH (he:PE X e te):PS X (.Return (some e) pos) (vp te):=by
 intro pz s σ H D I h
 exact wpAny_Return_some (aL (he pz s σ H _ I h) fun v s1 x H1 I1 r1 q1=>⟨x,σ,H1,I1,r1,q1⟩)
def vj (c:TT)(t u:TS):TS:=fun D σ H=>c σ H fun b H1=>if b=true then t D σ H1 else u D σ H1
theorem t4 {c:Expr}{a b:List Stmt}{tc:TT}(hc:PT X c tc)(ha:PSs X a t)(hb:PSs X b u):PS X (.If c a b pos) (vj tc t u):=by
 intro pz s σ H D I h
 refine wpAny_If (thn (hc pz s σ H _ I h) fun d s1 hh_=>?_)
 obtain⟨H1,I1,q1⟩:=hh_
 cases d with
 | true=>exact ha pz s1 σ H1 D I1 q1
 | false=>exact hb pz s1 σ H1 D I1 q1
end
abbrev TG:=V→St→Hp→(St→Hp→Prop)→Prop
abbrev TGs:=List V→St→Hp→(St→Hp→Prop)→Prop
def PG (X:Cx)(target:Expr)(t:TG):Prop:=
 ∀ (pz:Kp) (s:Shared) (σ:St) (H:Hp) (v:V) (u:Value) (Q:St→Hp→Prop),Inv X pz σ H s→RelV v u→t v σ H Q→
  wpAny (model X.prog X.w) X.A (assign target X.env u) (fun _ s'=>∃ σ' H',Inv X pz σ' H' s'∧Q σ' H') X.xe s
def PGs (X:Cx)(ts:List Expr)(t:TGs):Prop:=
 ∀ (pz:Kp) (s:Shared) (σ:St) (H:Hp) (vs:List V) (us:List Value) (Q:St→Hp→Prop),Inv X pz σ H s→Vals vs us→t vs σ H Q→
  wpAny (model X.prog X.w) X.A (assignInOrder ((assignEach ts X.env).map (·.2)) us) (fun _ s'=>∃ σ' H',Inv X pz σ' H' s'∧Q σ' H') X.xe s
abbrev rN:=V→V→V→Hp→(Hp→Prop)→Prop
def tm (X:Cx)(t:rN):Prop:=
 ∀ (pz:Kp) (s:Shared) (σ:St) (H:Hp) (o i v:V) (ov iv u:Value) (Q:Hp→Prop),Inv X pz σ H s→RelV o ov→RelV i iv→RelV v u→t o i v H Q→
  wpAny (model X.prog X.w) X.A (setItem ov iv u) (fun _ s'=>∃ H',Inv X pz σ H' s'∧Q H') X.xe s
abbrev TIp:=V→V→Hp→VK→Prop
def PIp (X:Cx)(op:Operator)(t:TIp):Prop:=
 ∀ (pz:Kp) (s:Shared) (σ:St) (H:Hp) (x y:V) (v u:Value) (Q:VK),Inv X pz σ H s→RelV x v→RelV y u→t x y H Q→
  wpAny (model X.prog X.w) X.A (inplaceOp op v u) (EP X pz σ Q) X.xe s
section
variable {X:Cx} {pos:Pos}
def d_ (i:Nat):TG:=fun v σ H Q=>Q (σ.set i (some v)) H
theorem eT {i:Nat}{x:Str}(hN:X.N.Nodup)(hi:X.N[i]?=some x)(hx:Loc X.env.scope x)(hf:X.fn x=true∨X.env.scope.names.lookup x=some .local:=by first | exact .inl rfl | exact .inr rfl | assumption):PG X (.Name x pos) (d_ i):=by
 intro pz s σ H v u Q I r h
 exact wpAny_assign_Name (fK I hN hi hx r (fun s' I'=>⟨_,H,I',h⟩) hf)
def t9:TGs:=fun vs σ H Q=>vs=[]∧Q σ H
def qh (t:TG)(u:TGs):TGs:=fun vs σ H Q=>∃ v r,vs=v::r∧t v σ H fun σ' H'=>u r σ' H' Q
theorem oB:PGs X [] t9:=by
 intro pz s σ H vs us Q I r h
 obtain⟨e,h⟩:=h
 subst e
 cases r
 exact assignInOrder_nil ⟨σ,H,I,h⟩
theorem i4 {e:Expr}{es:List Expr}{t:TG}{u:TGs}(h1:PG X e t)(h2:PGs X es u)
  (hs:(assignEach (e::es) X.env).map (·.2)=assign e X.env::(assignEach es X.env).map (·.2):=by rfl):PGs X (e::es) (qh t u):=by
 intro pz s σ H vs us Q I r h
 obtain⟨v,vr,e1,h⟩:=h
 subst e1
 cases r with
 | cons r rr=>
  rw[hs]
  refine assignInOrder_cons (thn (h1 pz s σ H _ _ _ I r h) fun _ s1 hh_=>?_)
  obtain⟨σ1,H1,I1,q1⟩:=hh_
  exact h2 pz s1 σ1 H1 _ _ Q I1 rr q1
def u9 (K:Kq)(n:Nat)(t:TGs):TG:=fun v σ H Q=>∃ a xs,v=.ref a∧SqT K H a xs∧xs.length=n∧t xs σ H Q
theorem rL {es:List Expr}{k:Nat}{t:TGs}{n:Nat}(hc:X.calm=true)(h:PGs X es t)
  (hn:(assignEach es X.env).length=n:=by rfl) (hst:(assignEach es X.env).findIdx? (·.1)=none:=by rfl):PG X (.Tuple es k pos) (u9 X.K n t):=by
 intro pz s σ H v u Q I r hw
 obtain⟨a,xs,e1,hq,hl,hw⟩:=hw
 subst e1
 cases r
 obtain⟨its,rv,ht,hz⟩:=I.tuple hq
 refine assign_Tuple_tuple (I.ok.hd hc) ht (by simp[hn,← hl,rv.length]) hst fun h' hx=>?_
 have I1:Inv X pz σ H { s with heap:=h' }:=I.kept (t':=s.toks) fun b o e=>hx b o (Yq (Yg e)) e
 exact h pz _ σ H xs _ Q I1 (by simpa using rv) hw
def uR (to ti:TE)(t:rN):TG:=fun v σ H Q=>to σ H fun o H1=>ti σ H1 fun i H2=>t o i v H2 fun H3=>Q σ H3
theorem rO {o i:Expr}{to ti:TE}{t:rN}(ho:PE X o to)(hi:PE X i ti)(hs:tm X t)
  (ha:∀ v,assign (.Subscript o i pos) X.env v=(do
   let ov ← holding [v] (eval o X.env)
   let iv ← holding [v,ov] (eval i X.env)
   standAt pos
   holding [v,ov,iv] (setItem ov iv v)
   release [v,ov,iv] []):=by intro _;rfl):PG X (.Subscript o i pos) (uR to ti t):=by
 intro pz s σ H v u Q I r h
 rw[ha]
 refine Yd (ZS (aL (ho pz s σ H _ I h) fun ov s1 x H1 I1 r1 q1=>?_))
 refine Yd (ZS (aL (hi pz s1 σ H1 _ I1 q1) fun iv s2 y H2 I2 r2 q2=>?_))
 refine Yd (wpAny_standAt (Yd (ZS (thn (hs pz s2 σ H2 x y v ov iv u _ I2 r1 r2 r q2) fun _ s3 hh_=>?_))))
 obtain⟨H3,I3,q3⟩:=hh_
 exact wpAny_release ⟨σ,H3,I3,q3⟩
def lP (te:TE)(g:TG):TS:=fun D σ H=>te σ H fun x H1=>g x σ H1 D.nx
theorem qI {tg e:Expr}{te:TE}{g:TG}(he:PE X e te)(hg:PG X tg g)(hs:swapsWithSole [tg] e pos.line X.env=pure false:=by rfl)(hw:swappedStores [tg] e X.env=pure none:=by rfl)
  (h1:(assignEach [tg] X.env).map (·.2)=[assign tg X.env]:=by rfl):PS X (.Assign [tg] e pos) (lP te g):=by
 intro pz s σ H D I h
 refine wpAny_Assign_stores (aL (he pz s σ H _ I h) fun v s1 x H1 I1 r1 q1=>?_) hs hw
 rw[h1]
 exact thn (hg pz s1 σ H1 x v _ I1 r1 q1) fun _ s2 q=>q
theorem hJ {i:Nat}{x:Str}{e:Expr}{te:TE}{pos':Pos}(hN:X.N.Nodup)(hi:X.N[i]?=some x)(hx:Loc X.env.scope x)(he:PE X e te)(hs:swapsWith e (some (.Name x pos')) pos.line X.env=pure false:=by rfl)(hf:X.fn x=true∨X.env.scope.names.lookup x=some .local:=by first | exact .inl rfl | exact .inr rfl | assumption) :
  PS X (.Assign [.Name x pos'] e pos) (lP te (d_ i)):=by
 intro pz s σ H D I h
 refine wpAny_Assign_Name (aL (he pz s σ H _ I h) fun v s1 y H1 I1 r1 q1=>?_) hs
 exact fK I1 hN hi hx r1 (fun s2 I2=>⟨_,H1,I2,q1⟩) hf
def uO (i:Nat)(te:TE)(ti:TIp):TS:=fun D σ H=>∃ x,σ[i]?=some (some x)∧te σ H fun y H1=>ti x y H1 fun z H2=>D.nx (σ.set i (some z)) H2
theorem qU {i:Nat}{x:Str}{e:Expr}{te:TE}{op:Operator}{ti:TIp}{pos':Pos}(hN:X.N.Nodup)(hi:X.N[i]?=some x)(hx:Loc X.env.scope x)(he:PE X e te)(ho:PIp X op ti)(hf:X.fn x=true∨X.env.scope.names.lookup x=some .local:=by first | exact .inl rfl | exact .inr rfl | assumption) :
  PS X (.AugAssign (.Name x pos') op e pos) (uO i te ti):=by
 intro pz s σ H D I h
 obtain⟨v,e1,h⟩:=h
 obtain⟨m,hn,hl⟩:=I.loc
 have vis:Vis X.env.scope x:=by rcases hx with k | k;exact .inl k;exact .inr (.inl k)
 obtain⟨u,r,l⟩:=hl i x v hi e1 vis
 refine wpAny_AugAssign_Name ?_
 have go:wpAny (model X.prog X.w) X.A (eval e X.env) (fun w s₂=>wpAny (model X.prog X.w) X.A (inplaceOp op u w) (fun r s₃=>wpAny (model X.prog X.w) X.A (storeName X.env x r) (fun _=>SP X pz D .next) X.xe s₃) X.xe s₂) X.xe s:=by
  refine aL (he pz s σ H _ I h) fun w s1 y H1 I1 r1 q1=>?_
  refine aL (ho pz s1 σ H1 v y u w _ I1 r r1 q1) fun z s2 zv H2 I2 r2 q2=>?_
  exact fK I2 hN hi hx r2 (fun s3 I3=>⟨_,H2,I3,q2⟩) hf
 rcases l with⟨hk,hm⟩ | ⟨hk,c,hc,hcell⟩
 ·exact wpAny_loadName_local I.ok.kind hk hn hm go
 ·rcases hk with hk | hk
  ·exact wpAny_loadName_cell I.ok.kind hk hc hcell go
  ·rcases hx with k | k
   ·have:X.env.scope.names.lookup x=some .free:=hk
    rw[k] at this;cases this
   ·have:X.env.scope.names.lookup x=some .free:=hk
    rw[k] at this;cases this
def ipI (f:Int→Int→Int):TIp:=fun x y H Q=>∃ i j,x=.int i∧y=.int j∧Q (.int (f i j)) H
theorem qz:PIp X .Add (ipI fun i j=>i+j):=by
 intro pz s σ H x y v u Q I r1 r2 h
 obtain⟨i,j,e1,e2,q⟩:=h
 subst e1;subst e2
 obtain⟨t,rfl⟩:=r1
 obtain⟨t',rfl⟩:=r2
 exact iadd_int ⟨.int _,H,I.tok _,⟨_,rfl⟩,q⟩
end
section
variable {X:Cx} {pos:Pos}
def q5 (c:TT)(tb:TS):TS:=fun D σ H=>∃ W:Nat→St→Hp→Prop,(∃ m,W m σ H)∧∀ m σ H,W m σ H→
 c σ H fun b H1=>if b=true then ∃ N:St→Hp→Prop,(∀ σ' H',N σ' H'→∃ m',m' < m∧W m' σ' H')∧tb { D with nx:=N,ct:=N,bk:=D.nx } σ H1 else D.nx σ H1
theorem mD {c:Expr}{body:List Stmt}{tc:TT}{tb:TS}(hp:PassesOwn (model X.prog X.w) X.A X.env X.xe)(hc:PT X c tc)(hb:PSs X body tb):PS X (.While c body [] pos) (q5 tc tb):=by
 intro pz s σ H D I h
 obtain⟨W,⟨m0,w0⟩,turn⟩:=h
 refine wpAny_While (codeAny_whileLoop (fun n s'=>∃ σ' H',Inv X pz σ' H' s'∧W n σ' H') ?_ m0 ⟨σ,H,I,w0⟩)
 rintro n s1 ⟨σ1,H1,I1,w1⟩
 refine Zx hp (thn (hc pz s1 σ1 H1 _ I1 (turn n σ1 H1 w1)) fun b s2 hh_=>?_)
 obtain⟨H2,I2,q2⟩:=hh_
 cases b with
 | true=>
  obtain⟨N,hN,q2⟩:=q2
  rw[Yi rfl]
  refine Zx hp (thn (hb pz s2 σ1 H2 _ I2 q2) fun f s3 q3=>?_)
  cases f with
  | next=>
   obtain⟨σ3,H3,I3,n3⟩:=q3
   obtain⟨m',hm,w3⟩:=hN σ3 H3 n3
   exact⟨m',hm,σ3,H3,I3,w3⟩
  | cont=>
   obtain⟨σ3,H3,I3,n3⟩:=q3
   obtain⟨m',hm,w3⟩:=hN σ3 H3 n3
   exact⟨m',hm,σ3,H3,I3,w3⟩
  | brk=>exact q3
  | ret v=>exact q3
 | false=>
  rw[Yl Yj]
  exact Xx ⟨σ1,H2,I2,q2⟩
end
structure It where
 go:Nat→Hp→Prop
 yld:Nat→Hp→V→Hp→Prop
 stop:Nat→Hp→Prop
def cX (X:Cx)(pz:Kp)(H:Hp)(b:Addr):Prop:=
 H b=none∧b≠X.env.locals∧b∉X.fs∧(b∈X.ex∨X.s₀.heap.objs.size≤b)∧(∀ x c,X.env.cells.lookup x=some c→c≠b)∧∀ p∈X.pn++pz,p.1≠b
theorem Inv.fpOk {X:Cx}{pz:Kp}{σ:St}{H H':Hp}{s:Shared}{b:Addr}(I:Inv X pz σ H s)(hb:s.heap.objs.size≤b)(hn:H' b=none):cX X pz H' b:=by
 refine⟨hn,Zn (Yh I.lt hb),I.nofs hb,.inr (YB I.sz hb),fun x c e z=>?_,fun p hp z=>?_⟩
 ·obtain⟨v,q⟩:=I.cell x c e
  exact absurd (Yh q.lt (by rw[z];exact hb)) (YJ _)
 ·exact absurd (Yh (Yg (I.pin p hp).1) (by rw[z];exact hb)) (YJ _)
structure Turn (P:Program) (w:World) (K:PySem.W.Frag) (tg:Expr) (J:It) (fp:List Addr) (it:Addr) (tn:Nat→Heap→Prop):Prop where
 mem:it∈fp
 obj:∀ i h,tn i h→∀ b∈fp,∃ o,h.get? b=some o∧∀ v,o.data≠.cell v
 keep:∀ i h h',tn i h→(∀ b∈fp,∀ o,h.get? b=some o→h'.get? b=some o)→tn i h'
 item:∀ (X:Cx),X.prog=P→X.w=w→X.K=K→X.calm=true→∀ (i:Nat) (pz:Kp) (s:Shared) (σ:St) (H:Hp) (E:Kv),Inv X pz σ H s→(∀ b∈fp,cX X pz H b)→tn i s.heap→J.go i H→
  wpAny (model P w) X.A (pyNext (.ref it)) (fun r s1=>∃ u,r=some u ∧
   wpAny (model P w) X.A (letOwnedTupleGo tg (.ref it) u) (fun _ s2=>∃ x H',Inv X pz σ H' s2∧RelV x u∧J.yld i H x H'∧tn (i+1) s2.heap∧∀ b∈fp,H' b=none) E s1) E s
 done:∀ (X:Cx),X.prog=P→X.w=w→X.K=K→X.calm=true→∀ (i:Nat) (pz:Kp) (s:Shared) (σ:St) (H:Hp) (E:Kv),Inv X pz σ H s→(∀ b∈fp,cX X pz H b)→tn i s.heap→J.stop i H→
  wpAny (model P w) X.A (pyNext (.ref it)) (fun r s1=>r=none∧Inv X pz σ H s1) E s
 self:∀ (A:Around) (i:Nat) (s:Shared) (Q:Kv) (E:Kv),tn i s.heap→Q (.ref it) s→wpAny (model P w) A (pyIter (.ref it)) Q E s
abbrev TI:=St→Hp→(It→Hp→Prop)→Prop
def PIE (X:Cx)(pz:Kp)(σ:St)(tg:Expr)(R:It→Hp→Prop)(itv:Value)(s2:Shared):Prop:=
 ∃ (it:Addr) (fp:List Addr) (tn:Nat→Heap→Prop) (J:It) (H':Hp),itv=.ref it∧Inv X pz σ H' s2∧Turn X.prog X.w X.K tg J fp it tn∧tn 0 s2.heap∧(∀ b∈fp,cX X pz H' b)∧R J H'
def PI (X:Cx)(tg iter:Expr)(wi:TI):Prop:=
 ∀ (pz:Kp) (s:Shared) (σ:St) (H:Hp) (R:It→Hp→Prop),Inv X pz σ H s→wi σ H R→
  wpAny (model X.prog X.w) X.A (eval iter X.env) (fun v s1=>wpAny (model X.prog X.w) X.A (pyIter v) (PIE X pz σ tg R) X.xe s1) X.xe s
theorem qd {M:Model}{A:Around}{E:Kv}{s:Shared}{tg:Expr}{it:Addr}{u:Value}{o:Obj}{n:String}{vs:Array Value}{Q:Unit→Shared→Prop}(ho:s.heap.get? it=some o)(hc:o.cls=.type n)(hd:o.data=.fields vs)
  (hn:["enumerate", "zip", "dict_itemiterator", "dict_reverseitemiterator", "odict_iterator", "itertools.zip_longest", "itertools.pairwise"].contains n=false) (hQ:Q () s):wpAny M A (letOwnedTupleGo tg (.ref it) u) Q E s:=by
 unfold letOwnedTupleGo
 cases tg <;> first
  | exact Yp hQ
  | (cases u <;> first
    | exact Yp hQ
    | (
     refine Yd (wpAny_load ho ?_)
     rw[hc,hd]
     show wpAny M A (if (["enumerate", "zip", "dict_itemiterator", "dict_reverseitemiterator", "odict_iterator", "itertools.zip_longest", "itertools.pairwise"].contains n&&vs[0]? == some (rawInt _))=true then _ else _) Q E s
     rw[Yl (by intro h;rw[hn,Bool.false_and] at h;cases h)]
     exact Yp hQ))
def Itl (K:Kq)(a:Addr):It:=
 ⟨fun i H=>∃ xs x,SqL K H a xs∧xs[i]?=some x,fun i H x H'=>H'=H∧∀ xs,SqL K H a xs→xs[i]?=some x,fun i H=>∃ xs,SqL K H a xs∧xs.length≤i⟩
def Itr (lo:Int)(n:Nat):It:=⟨fun i _=>i<n,fun i H x H'=>H'=H∧x=.int (lo+i),fun i _=>n≤i⟩
theorem k_ {P:Program}{w:World}{K:Kq}{tg:Expr}(a it:Addr):Turn P w K tg (Itl K a) [it] it (fun i h=>h.IsListIter it a i) where
 mem:=by simp
 obj:=fun i h st b hb=>by
  have e:b=it:=by simpa using hb
  subst e
  obtain⟨o,e,c,d⟩:=st
  exact⟨o,e,fun v z=>by rw[d] at z;cases z⟩
 keep:=fun i h h' st k=>st.at fun o e=>k it (by simp) o e
 item:=by
  intro X hP hw hK hc i pz s σ H E I hf st hg
  subst hP hw hK
  obtain⟨xs,x,hq,hx⟩:=hg
  obtain⟨its,rv,p,hz⟩:=I.list hq
  obtain⟨u,hu,ru⟩:=rv.get hx
  obtain⟨f0,f1,f2,f3,f4,f5⟩:=hf it (by simp)
  refine wpAny_pyNext_list_item st p.isList (x:=u) (by simpa using hu) fun h' st' sb=>?_
  have I1:Inv X pz σ H { s with heap:=h' }:=I.turned (t':=s.toks) (fun b o hb e=>(sb.2 b hb).trans e) f0 f1 f3 f4 f5
  obtain⟨o,e,c,d⟩:=id st'
  exact⟨u,rfl,qd (s:={ s with heap:=h' }) e c d (by decide) ⟨x,H,I1,ru,⟨rfl,fun ys hy=>by rw[I.list_inj hy hq];exact hx⟩,st',fun b hb=>(hf b hb).1⟩⟩
 done:=by
  intro X hP hw hK hc i pz s σ H E I hf st hg
  subst hP hw hK
  obtain⟨xs,hq,hx⟩:=hg
  obtain⟨its,rv,p,hz⟩:=I.list hq
  obtain⟨f0,f1,f2,f3,f4,f5⟩:=hf it (by simp)
  have hl:=rv.length
  exact wpAny_pyNext_list_end (I.ok.hd hc) st p.isList (by simp;omega) fun h' eb=>⟨rfl,I.turned (t':=s.toks) (fun b o hb e=>eb b o hb e) f0 f1 f3 f4 f5⟩
 self:=fun _ _ _ _ _ st h=>wpAny_pyIter_listiter st h
theorem jj {P:Program}{w:World}{K:Kq}{tg:Expr}(it:Addr)(lo:Int)(n:Nat):Turn P w K tg (Itr lo n) [it] it (fun i h=>IsRangeIter h it (lo+(i:Nat)*1) ((n:Int)-(i:Nat)) 1) where
 mem:=by simp
 obj:=fun i h st b hb=>by
  have e:b=it:=by simpa using hb
  subst e
  exact⟨_,st,fun v z=>by
   have z':Data.fields _=Data.cell v:=z
   cases z'⟩
 keep:=fun i h h' st k=>k it (by simp) _ st
 item:=by
  intro X hP hw hK hc i pz s σ H E I hf st hg
  subst hP hw hK
  obtain⟨f0,f1,f2,f3,f4,f5⟩:=hf it (by simp)
  have W:=Walks.range (prog:=X.prog) (w:=X.w) (I.ok.hd hc) it lo 1 n
  refine W.item i s _ _ hg st fun v h' tk hv st' kk=>?_
  obtain⟨t,rfl⟩:=hv
  have I1:Inv X pz σ H { s with heap:=h',toks:=tk }:=I.turned (fun b o hb e=>kk b o (by simpa using hb) e) f0 f1 f3 f4 f5
  refine⟨_,rfl,qd (s:={ s with heap:=h',toks:=tk }) (n := "range_iterator") st' rfl rfl (by decide) ⟨.int (lo+i),H,I1,⟨t,?_⟩,⟨rfl,rfl⟩,st',fun b hb=>(hf b hb).1⟩⟩
  rw[Int.mul_one]
 done:=by
  intro X hP hw hK hc i pz s σ H E I hf st hg
  subst hP hw hK
  obtain⟨f0,f1,f2,f3,f4,f5⟩:=hf it (by simp)
  exact wpAny_pyNext_range_end (I.ok.hd hc) st (by have:n≤i:=hg;omega) fun h' eb=>⟨rfl,I.turned (t':=s.toks) (fun b o hb e=>eb b o hb e) f0 f1 f3 f4 f5⟩
 self:=fun _ _ _ _ _ st h=>wpAny_pyIter_rangeiter st h
section
variable {X:Cx} {tg:Expr}
def sv (K:Kq)(tl:TE):TI:=fun σ H R=>tl σ H fun x H1=>∃ a,x=.ref a∧(∃ xs,SqL K H1 a xs)∧R (Itl K a) H1
theorem ir {l:Expr}{tl:TE}(hl:PE X l tl):PI X tg l (sv X.K tl):=by
 intro pz s σ H R I h
 refine aL (hl pz s σ H _ I h) fun v s1 x H1 I1 r1 q1=>?_
 obtain⟨a,e,⟨xs,hq⟩,q⟩:=q1
 subst e
 cases r1
 obtain⟨its,rv,p,hz⟩:=I1.list hq
 refine wpAny_pyIter_list p.isList ?_
 refine⟨s1.heap.objs.size,[s1.heap.objs.size],_,_,H1,rfl,I1.kept (t':=s1.toks) fun b o e=>Yb _ e,k_ a _,⟨_,Yk _ rfl,rfl,rfl⟩,fun b hb=>?_,q⟩
 have e:b=s1.heap.objs.size:=by simpa using hb
 subst e
 exact I1.fpOk (Yo _) (I1.hok.fresh (Yo _))
theorem n0 {pz:Kp}{σ:St}{H:Hp}{s:Shared}{R:It→Hp→Prop}{E:Kv}{lo hi:Int}{t u v:Tok}{tk:Nat}(I:Inv X pz σ H s)(h1:-(2 ^ 62)≤lo)(h2:lo<2 ^ 62)(h3:-(2 ^ 62)≤hi)(h4:hi<2 ^ 62)
  (q:R (Itr lo (hi-lo).toNat) H):wpAny (model X.prog X.w) X.A (pyIter (.ref s.heap.objs.size)) (PIE X pz σ tg R) E { s with heap:=s.heap.push { cls:=.type "range",data:=.fields #[.int lo t,.int hi u,.int 1 v] },toks:=tk }:=by
 refine wpAny_pyIter_range (IsRange.new ..) (small_one h1 h2 h3 h4) ?_
 have I1:Inv X pz σ H { s with heap:=s.heap.push { cls:=.type "range",data:=.fields #[.int lo t,.int hi u,.int 1 v] },toks:=tk }:=I.kept fun b o e=>Yb _ e
 refine⟨(s.heap.push { cls:=.type "range",data:=.fields #[.int lo t,.int hi u,.int 1 v] }).objs.size,[(s.heap.push { cls:=.type "range",data:=.fields #[.int lo t,.int hi u,.int 1 v] }).objs.size],_,_,H,rfl,
  I1.kept (t':=tk) fun b o e=>Yb _ e,jj _ lo (hi-lo).toNat,?_,fun b hb=>?_,q⟩
 ·have e1:lo+((0:Nat):Int)*1=lo:=by simp
  have e2:(((hi-lo).toNat:Nat):Int)-((0:Nat):Int)=Builtin.Range.rangeSize lo hi 1:=by rw[rangeSize_one];split <;> omega
  show IsRangeIter _ _ (lo+((0:Nat):Int)*1) ((((hi-lo).toNat:Nat):Int)-((0:Nat):Int)) 1
  rw[e1,e2]
  exact Yk _ rfl
 ·have e:b=(s.heap.push { cls:=.type "range",data:=.fields #[.int lo t,.int hi u,.int 1 v] }).objs.size:=by simpa using hb
  subst e
  exact I1.fpOk (Yo _) (I1.hok.fresh (Yo _))
def sy (ta:TA):TI:=fun σ H R=>ta σ H fun vs H1=>∃ j:Int,vs=[.int j]∧-(2 ^ 62)≤j∧j<2 ^ 62∧R (Itr 0 j.toNat) H1
theorem lC {a:Expr}{ta:TA}{p pos:Pos}(hg:Gl X "range")(hm:X.mg "range"=none)(ha:PA X [a] ta)(hs:starEach [a] X.env=[(false,eval a X.env)]:=by rfl):PI X tg (.Call (.Name "range" p) [a] [] pos) (sy ta):=by
 intro pz s σ H R I h
 refine Call_ (fD I hg hm boot_range (ZN (aL (ha pos pz s σ H _ I h) fun us s1 vs H1 I1 r1 q1=>?_) hs rfl))
 obtain⟨j,e,q1,q2,q⟩:=q1
 subst e
 cases r1 with
 | cons r rr=>
  cases rr
  obtain⟨t,rfl⟩:=r
  exact call_range_1 (n0 I1 (by omega) (by omega) q1 q2 (by simpa using q))
def vb (wi:TI)(g:TG)(tb:TS):TS:=fun D σ H=>wi σ H fun J H1=>∃ W:Nat→Nat→St→Hp→Prop,(∃ m,W 0 m σ H1)∧∀ i m σ H,W i m σ H→
 (J.stop i H∧D.nx σ H)∨(J.go i H∧∃ N:St→Hp→Prop,(∀ σ' H',N σ' H'→∃ m',m' < m∧W (i+1) m' σ' H')∧∀ x H',J.yld i H x H'→g x σ H' fun σ2 H2=>tb { D with nx:=N,ct:=N,bk:=D.nx } σ2 H2)
def fL (fp:List Addr)(h:Heap):List (Addr×Obj):=fp.filterMap fun b=>(h.get? b).map fun o=>(b,o)
theorem bX {fp:List Addr}{h:Heap}{b:Addr}{o:Obj}(hb:b∈fp)(e:h.get? b=some o):(b,o)∈fL fp h:=List.mem_filterMap.mpr ⟨b,hb,by rw[e];rfl⟩
theorem lr {fp:List Addr}{h:Heap}{p:Addr×Obj}(hp:p∈fL fp h):p.1∈fp∧h.get? p.1=some p.2:=by
 obtain⟨b,hb,e⟩:=List.mem_filterMap.mp hp
 cases q:h.get? b with
 | none=>rw[q] at e;cases e
 | some o=>
  rw[q] at e
  have e':(b,o)=p:=Yx e
  subst e'
  exact⟨hb,q⟩
theorem Inv.pinned {pz:Kp}{σ:St}{H:Hp}{s:Shared}{fp:List Addr}(I:Inv X pz σ H s)(hf:∀ b∈fp,cX X pz H b)(ho:∀ b∈fp,∃ o,s.heap.get? b=some o∧∀ v,o.data≠.cell v):Inv X (pz++fL fp s.heap) σ H s:=
 I.pins_of fun p hp=>(List.mem_append.mp hp).elim (fun z=>I.pin p (YK _ z)) fun z=>by
  obtain⟨hb,e⟩:=lr z
  obtain⟨f0,f1,f2,_⟩:=hf p.1 hb
  obtain⟨o,e',d⟩:=ho p.1 hb
  rw[e] at e';cases e'
  exact⟨e,f0,f1,f2,d⟩
theorem Inv.unpinned {pz pl:Kp}{σ:St}{H:Hp}{s:Shared}(I:Inv X (pz++pl) σ H s):Inv X pz σ H s:=I.pins_of fun p hp=>I.pin p (YK _ (List.mem_append_left _ hp))
theorem jS {iter:Expr}{body:List Stmt}{wi:TI}{g:TG}{tb:TS}{pos:Pos}(hp:PassesOwn (model X.prog X.w) X.A X.env X.xe)(hc:X.calm=true)(hi:PI X tg iter wi)(hg:PG X tg g)(hb:PSs X body tb)
  (hs:∀ x,foldedSetIterable iter X.env x=pure x:=by intro _;rfl):PS X (.For tg iter body [] pos) (vb wi g tb):=by
 intro pz s σ H D I h
 refine wpAny_For (thn (hi pz s σ H _ I h) fun v s1 h1=>thn h1 fun itv s2 h2=>?_) hs
 obtain⟨it,fp,tn,J,H2,e,I2,T,st2,f2,W,⟨m0,w0⟩,turn⟩:=h2
 subst e
 -- what stays true of the iterator's objects through the loop
 have stat:∀ {H':Hp},(∀ b∈fp,H' b=none)→∀ b∈fp,cX X pz H' b:=fun hn b hb=>⟨hn b hb,(f2 b hb).2⟩
 refine codeAny_forLoop_any (fun n s'=>∃ i σ' H',Inv X pz σ' H' s'∧tn i s'.heap∧(∀ b∈fp,H' b=none)∧W i n σ' H') ?_ m0 ⟨0,σ,H2,I2,st2,fun b hb=>(f2 b hb).1,w0⟩
 rintro n s3 ⟨i,σ3,H3,I3,st3,fr3,w3⟩
 rcases turn i n σ3 H3 w3 with⟨stop,qn⟩ | ⟨go,N,hN,step⟩
 ·refine Zx hp (thn (T.done X rfl rfl rfl hc i pz s3 σ3 H3 X.xe I3 (stat fr3) st3 stop) fun r s4 ⟨hr,I4⟩=>?_)
  subst hr
  exact Xx ⟨σ3,H3,I4,qn⟩
 ·refine Zx hp (thn (T.item X rfl rfl rfl hc i pz s3 σ3 H3 X.xe I3 (stat fr3) st3 go) fun r s4 ⟨u,hr,h4⟩=>?_)
  subst hr
  refine Zx hp (thn h4 fun _ s5 hh_=>?_)
  obtain⟨x,H5,I5,r5,y5,st5,fr5⟩:=hh_
  have I5':=I5.pinned (stat fr5) (T.obj _ _ st5)
  refine Zx hp (thn (hg _ s5 σ3 H5 x u _ I5' r5 (step x H5 y5)) fun _ s6 hh_=>?_)
  obtain⟨σ6,H6,I6,q6⟩:=hh_
  refine Zx hp (thn (hb _ s6 σ6 H6 _ I6 q6) fun f s7 q7=>?_)
  have again:∀ {σ7:St} {H7:Hp},Inv X (pz++fL fp s5.heap) σ7 H7 s7→N σ7 H7→∃ m,m<n∧∃ i σ' H',Inv X pz σ' H' s7∧tn i s7.heap∧(∀ b∈fp,H' b=none)∧W i m σ' H':=fun {σ7 H7} I7 n7=>by
   obtain⟨m',hm,w7⟩:=hN σ7 H7 n7
   refine⟨m',hm,i+1,σ7,H7,I7.unpinned,T.keep _ _ _ st5 fun b hb o e=>(I7.pin (b,o) (YK _ (YK _ (bX hb e)))).1,fun b hb=>?_,w7⟩
   obtain⟨o,e,d⟩:=T.obj _ _ st5 b hb
   exact (I7.pin (b,o) (YK _ (YK _ (bX hb e)))).2.1
  cases f with
  | next=>obtain⟨σ7,H7,I7,n7⟩:=q7;exact again I7 n7
  | cont=>obtain⟨σ7,H7,I7,n7⟩:=q7;exact again I7 n7
  | brk=>obtain⟨σ7,H7,I7,q7⟩:=q7;exact⟨σ7,H7,I7.unpinned,q7⟩
  | ret v=>obtain⟨x7,σ7,H7,I7,r7,q7⟩:=q7;exact⟨x7,σ7,H7,I7.unpinned,r7,q7⟩
end
abbrev R2:=V→V→Hp→VK→Prop
def OpR (X:Cx)(f:Value→Value→Sem Value)(r:R2):Prop:=
 ∀ (pz:Kp) (s:Shared) (σ:St) (H:Hp) (x y:V) (v u:Value) (Q:VK),Inv X pz σ H s→RelV x v→RelV y u→r x y H Q→
  wpAny (model X.prog X.w) X.A (f v u) (EP X pz σ Q) X.xe s
def UnR (X:Cx)(f:Value→Sem Value)(r:V→Hp→VK→Prop):Prop:=
 ∀ (pz:Kp) (s:Shared) (σ:St) (H:Hp) (x:V) (v:Value) (Q:VK),Inv X pz σ H s→RelV x v→r x H Q→
  wpAny (model X.prog X.w) X.A (f v) (EP X pz σ Q) X.xe s
def CallR (X:Cx)(f:Value)(r:List V→Hp→VK→Prop):Prop:=
 ∀ (pz:Kp) (s:Shared) (σ:St) (H:Hp) (xs:List V) (us:List Value) (Q:VK),Inv X pz σ H s→Vals xs us→r xs H Q→
  wpAny (model X.prog X.w) X.A (call f us) (EP X pz σ Q) X.xe s
def tOp (r:R2)(ta tb:TE):TE:=fun σ H Q=>ta σ H fun x H1=>tb σ H1 fun y H2=>r x y H2 Q
def rI (C:Int→Int→Prop)(g:Int→Int→V):R2:=fun x y H Q=>∃ i j,x=.int i∧y=.int j∧C i j∧Q (g i j) H
def rI0 (g:Int→Int→V):R2:=fun x y H Q=>∃ i j,x=.int i∧y=.int j∧Q (g i j) H
def rU (g:Int→V):V→Hp→VK→Prop:=fun x H Q=>∃ i,x=.int i∧Q (g i) H
section
variable {X:Cx} {a b c:Expr} {ta tb tc:TE} {pos:Pos}
theorem rS (ha:PE X a ta)(hb:PE X b tb){pz:Kp}{s:Shared}{σ:St}{H:Hp}{R:V→V→Hp→Prop}(I:Inv X pz σ H s)
  (h:ta σ H fun x H1=>tb σ H1 fun y H2=>R x y H2) {Q:Kv} {f:Value→Value→Sem Value}
  (hf:∀ v u s2 x y H2,Inv X pz σ H2 s2→RelV x v→RelV y u→R x y H2→wpAny (model X.prog X.w) X.A (f v u) Q X.xe s2) :
  wpAny (model X.prog X.w) X.A (eval a X.env) (fun v s₁=>wpAny (model X.prog X.w) X.A (eval b X.env) (fun u s₂=>wpAny (model X.prog X.w) X.A (f v u) Q X.xe s₂) X.xe s₁) X.xe s:=by
 refine aL (ha pz s σ H _ I h) fun v s1 x H1 I1 r1 q1=>?_
 refine aL (hb pz s1 σ H1 _ I1 q1) fun u s2 y H2 I2 r2 q2=>?_
 exact hf v u s2 x y H2 I2 r1 r2 q2
theorem qu {op:Operator}{r:R2}(ho:OpR X (binaryOp op) r)(ha:PE X a ta)(hb:PE X b tb):PE X (.BinOp a op b pos) (tOp r ta tb):=by
 intro pz s σ H Q I h
 exact wpAny_BinOp (rS ha hb I h fun v u s2 x y H2 I2 rx ry q=>ho pz s2 σ H2 x y v u Q I2 rx ry q)
theorem opI {f:Value→Value→Sem Value}{C:Int→Int→Prop}{g:Int→Int→Int}
  (rule:∀ (i j:Int) (t u:Tok) (s:Shared) (Q:Kv) (E:Kv),C i j→Q (.int (g i j) s.toks) { s with toks:=s.toks+1 }→wpAny (model X.prog X.w) X.A (f (.int i t) (.int j u)) Q E s) :
  OpR X f (rI C fun i j=>.int (g i j)):=by
 intro pz s σ H x y v u Q I rx ry h
 obtain⟨i,j,rfl,rfl,hc,q⟩:=h
 obtain⟨t,rfl⟩:=rx
 obtain⟨t',rfl⟩:=ry
 exact rule i j t t' s _ _ hc ⟨.int (g i j),H,I.tok _,⟨_,rfl⟩,q⟩
theorem vg {f:Value→Value→Sem Value}{g:Int→Int→Int}
  (rule:∀ (i j:Int) (t u:Tok) (s:Shared) (Q:Kv) (E:Kv),Q (.int (g i j) s.toks) { s with toks:=s.toks+1 }→wpAny (model X.prog X.w) X.A (f (.int i t) (.int j u)) Q E s) :
  OpR X f (rI0 fun i j=>.int (g i j)):=by
 intro pz s σ H x y v u Q I rx ry h
 obtain⟨i,j,rfl,rfl,q⟩:=h
 obtain⟨t,rfl⟩:=rx
 obtain⟨t',rfl⟩:=ry
 exact rule i j t t' s _ _ ⟨.int (g i j),H,I.tok _,⟨_,rfl⟩,q⟩
theorem uT {f:Value→Value→Sem Value}{g:Int→Int→Bool}
  (rule:∀ (i j:Int) (t u:Tok) (s:Shared) (Q:Kv) (E:Kv),Q (.bool (g i j)) s→wpAny (model X.prog X.w) X.A (f (.int i t) (.int j u)) Q E s) :
  OpR X f (rI0 fun i j=>.bl (g i j)):=by
 intro pz s σ H x y v u Q I rx ry h
 obtain⟨i,j,rfl,rfl,q⟩:=h
 obtain⟨t,rfl⟩:=rx
 obtain⟨t',rfl⟩:=ry
 exact rule i j t t' s _ _ ⟨.bl (g i j),H,I,rfl,q⟩
def vt (i j:Int):Prop:=0<j∧j<1073741824
def vq (i j:Int):Prop:=0≤j∧j≤1000000∧i.natAbs<2 ^ 64
def CMul (i j:Int):Prop:=(-(2 ^ 64)<i∧i<2 ^ 64)∨(-(2 ^ 64)<j∧j<2 ^ 64)
theorem CMul.ok {i j:Int}(h:CMul i j):IntMulOk i j:=by
 rcases h with⟨h1,h2⟩ | ⟨h1,h2⟩
 ·exact .of_left (intBits_le_64 h1 h2)
 ·exact .of_right (intBits_le_64 h1 h2)
theorem rH:OpR X (binaryOp .Add) (rI0 fun i j=>.int (i+j)):=vg fun _ _ _ _ _ _ _ q=>add_int q
theorem rY:OpR X (binaryOp .Mult) (rI CMul fun i j=>.int (i*j)):=opI fun _ _ _ _ _ _ _ hc q=>mul_int q hc.ok
theorem oV:OpR X (binaryOp .FloorDiv) (rI vt fun i j=>.int (i/j)):=opI fun i j _ _ _ _ _ hc q=>by
 have h1:(0:Int)<j:=hc.1
 have h2:j<1073741824:=hc.2
 exact floordiv_int (by omega) (by rw[Int.fdiv_eq_ediv_of_nonneg i (by omega)];exact q) (.inl (PyProof.noPylong_small (by omega)))
theorem rE:OpR X (binaryOp .Mod) (rI (fun _ j=>0<j) fun i j=>.int (i%j)):=opI fun i j _ _ _ _ _ hc q=>by
 have h1:(0:Int)<j:=hc
 exact mod_int' (by omega) (by rw[Int.fmod_eq_emod_of_nonneg i (by omega)];exact q)
theorem rJ:OpR X (binaryOp .Pow) (rI vq fun i j=>.int (i ^ j.toNat)):=opI fun _ _ _ _ _ _ _ hc q=>pow_int_small hc.1 hc.2.1 hc.2.2 q
theorem unI {f:Value→Sem Value}{g:Int→Int}
  (rule:∀ (i:Int) (t:Tok) (s:Shared) (Q:Kv) (E:Kv),Q (.int (g i) s.toks) { s with toks:=s.toks+1 }→wpAny (model X.prog X.w) X.A (f (.int i t)) Q E s) :
  UnR X f (rU fun i=>.int (g i)):=by
 intro pz s σ H x v Q I rx h
 obtain⟨i,rfl,q⟩:=h
 obtain⟨t,rfl⟩:=rx
 exact rule i t s _ _ ⟨.int (g i),H,I.tok _,⟨_,rfl⟩,q⟩
end
section
variable {X:Cx} {a b c:Expr} {ta tb tc:TE} {pos:Pos}
theorem tJ:OpR X (compareOp .LtE) (rI0 fun i j=>.bl (decide (i≤j))):=uT fun _ _ _ _ _ _ _ q=>le_int q
theorem OpR.or {f:Value→Value→Sem Value}{r r':R2}(h:OpR X f r)(h':OpR X f r'):OpR X f (fun x y H Q=>r x y H Q∨r' x y H Q):=by
 intro pz s σ H x y v u Q I rx ry q
 rcases q with q | q
 ·exact h pz s σ H x y v u Q I rx ry q
 ·exact h' pz s σ H x y v u Q I rx ry q
theorem fm (b:Expr){op:CmpOp}(h:op≠.In:=by decide)(h2:op≠.NotIn:=by decide):behindInMarks op b=false:=by
 have e1:(op == CmpOp.In)=false:=by cases op <;> first | rfl | exact absurd rfl h
 have e2:(op == CmpOp.NotIn)=false:=by cases op <;> first | rfl | exact absurd rfl h2
 cases b <;> simp[behindInMarks,e1,e2]
theorem oA {op:CmpOp}{r:R2}(ho:OpR X (compareOp op) r)(ha:PE X a ta)(hb:PE X b tb)(hm:behindInMarks op b=false):PE X (.Compare a [op] [b] pos) (tOp r ta tb):=by
 intro pz s σ H Q I h
 exact wpAny_Compare1 (rS ha hb I h fun v u s2 x y H2 I2 rx ry q=>ho pz s2 σ H2 x y v u Q I2 rx ry q) hm
def qp (t:TE):TT:=fun σ H Q=>t σ H fun x H'=>∃ k,x=.bl k∧Q k H'
theorem kJ {op:CmpOp}{r:R2}(ho:OpR X (compareOp op) r)(ha:PE X a ta)(hb:PE X b tb)(hm:behindInMarks op b=false):PT X (.Compare a [op] [b] pos) (qp (tOp r ta tb)):=by
 intro pz s σ H Q I h
 refine wpAny_isTrue_Compare1 (aL (ha pz s σ H _ I h) fun v s1 x H1 I1 r1 q1=>aL (hb pz s1 σ H1 _ I1 q1) fun u s2 y H2 I2 r2 q2=>
  aL (ho pz s2 σ H2 x y v u _ I2 r1 r2 q2) fun c s3 z H3 I3 r3 ⟨k,e,q3⟩=>?_) hm
 subst e
 cases r3
 exact Xm ⟨H3,I3,q3⟩
theorem dY:(sizeLine:Nat)<2 ^ 63:=by rw[YM];decide
theorem jW:OpR X (binaryOp .Add) (fun x y H Q=>∃ i j,x=.str i∧y=.str j∧i.length+j.length≤sizeLine∧Q (.str (i++j)) H):=by
 intro pz s σ H x y v u Q I rx ry h
 obtain⟨i,j,rfl,rfl,hz,q⟩:=h
 obtain⟨t,rfl⟩:=rx
 obtain⟨t',rfl⟩:=ry
 exact add_str (fun t' tk=>⟨.str (i++j),H,I.tok _,⟨_,rfl⟩,q⟩) hz
theorem d8 {x:V}{us:List Value}(r:Vals [x] us):∃ u,us=[u]∧RelV x u:=by
 cases r with
 | cons r1 r2=>cases r2;exact⟨_,rfl,r1⟩
theorem j9 {x y:V}{us:List Value}(r:Vals [x,y] us):∃ u w',us=[u,w']∧RelV x u∧RelV y w':=by
 cases r with
 | cons r1 r2=>
  cases r2 with
  | cons r3 r4=>cases r4;exact⟨_,_,rfl,r1,r3⟩
theorem k5 (hc:X.calm=true):CallR X (.builtin "max") (fun xs H Q=>∃ i j,xs=[.int i,.int j]∧Q (.int (if j > i then j else i)) H):=by
 intro pz s σ H xs us Q I r h
 obtain⟨i,j,rfl,q⟩:=h
 obtain⟨u,w',rfl,⟨t,rfl⟩,⟨t',rfl⟩⟩:=j9 r
 refine max_two_ints (I.ok.hd hc) fun h' tk k=>⟨_,H,I.kept k,?_,q⟩
 by_cases hj:j > i
 ·rw[Yi hj,Yi hj];exact⟨_,rfl⟩
 ·rw[Yl hj,Yl hj];exact⟨_,rfl⟩
theorem lE (hc:X.calm=true):CallR X (.builtin "min") (fun xs H Q=>∃ i j,xs=[.int i,.int j]∧Q (.int (if j<i then j else i)) H):=by
 intro pz s σ H xs us Q I r h
 obtain⟨i,j,rfl,q⟩:=h
 obtain⟨u,w',rfl,⟨t,rfl⟩,⟨t',rfl⟩⟩:=j9 r
 refine min_two_ints (I.ok.hd hc) fun h' tk k=>⟨_,H,I.kept k,?_,q⟩
 by_cases hj:j<i
 ·rw[Yi hj,Yi hj];exact⟨_,rfl⟩
 ·rw[Yl hj,Yl hj];exact⟨_,rfl⟩
end
section
variable {prog:Program} {w:World} {A:Around} {E:Kv} {s:Shared} {K:Kq} {x dx C f:Addr} {mA:Ks} {name:Str} {v:Value}
end
section
variable {P:Program} {w:World} {H H':Hp} {h h':Heap} {a C dx:Addr} {fs fs':List (Str×V)}
end
section
variable {X:Cx} {pz:Kp} {σ:St} {H:Hp} {s:Shared} {a C dx:Addr} {fs:List (Str×V)} {f:Str} {v:V} {A:Around} {E:Kv}
end
section
variable {X:Cx} {o e value:Expr} {f:Str} {pos pos' tpos:Pos} {ta tv:TE}
end
section
variable {X:Cx} {pz:Kp} {σ:St} {H:Hp} {s:Shared} {A:Around} {E:Kv} {Q:Kv} {c:Value} {b:Bool}
end
structure Room (k:Nat) (A:Around):Prop where
 hd:A.handled=none
 dp:A.depth+3*k+5<recursionLimit
 un:A.units+16*k+200<cLine
theorem Room.mono {j k:Nat}{A:Around}(r:Room k A)(h:j≤k):Room j A:=⟨r.hd,by have:=r.dp;omega,by have:=r.un;omega⟩
theorem Room.deeper {k:Nat}{A:Around}(r:Room (k+1) A)(env:Env):Room k (A.deeper env):=
 ⟨r.hd,by have:=r.dp;show A.depth+1+3*k+5<_;omega,by have:=r.un;show A.units+3+16*k+200<_;omega⟩
theorem Room.depth {k:Nat}{A:Around}(r:Room k A):A.depth<recursionLimit:=by have:=r.dp;omega
def kW:TA:=fun _ H Q=>Q [] H
def fq (ta:TE)(tr:TA):TA:=fun σ H Q=>ta σ H fun x H1=>tr σ H1 fun xs H2=>Q (x::xs) H2
section
variable {X:Cx} {e:Expr} {es:List Expr} {te:TE} {t:TA} {pos:Pos}
theorem aN:PA X [] kW:=fun _ _ _ _ H Q I h=>Calls.spliced_nil ⟨[],H,I,.nil,h⟩
theorem ar (ha:PE X e te)(hr:PA X es t)(hs:starEach (e::es) X.env=(false,eval e X.env)::starEach es X.env:=by rfl):PA X (e::es) (fq te t):=by
 intro pos pz s σ H Q I h
 rw[hs]
 show wpAny _ _ (spliced ((false,eval e X.env)::backTo pos (starEach es X.env))) _ _ s
 refine Calls.spliced_cons (aL (ha pz s σ H _ I h) fun u s1 x H1 I1 r1 q1=>?_)
 exact aL (hr pos pz s1 σ H1 _ I1 q1) fun us s2 xs H2 I2 r2 q2=>⟨x::xs,H2,I2,.cons r1 r2,q2⟩
def vz (t:TA):TE:=fun σ H Q=>t σ H fun xs H1=>xs.length≤sizeLine∧∀ p,H1 p=none→Q (.ref p) (upd H1 p (.tup xs))
def ve (t:TA):TE:=fun σ H Q=>t σ H fun xs H1=>xs.length≤sizeLine∧∀ p,H1 p=none→Q (.ref p) (upd H1 p (.lst xs))
theorem rf {x1}(h:PA X es t):PE X (.Tuple es x1 pos) (vz t):=by
 intro pz s σ H Q I hq
 refine wpAny_Tuple_spliced (aL (h pos pz s σ H _ I hq) fun us s1 xs H1 I1 r ⟨z,q⟩=>⟨by rw[← r.length];exact z,?_⟩)
 have hf:H1 s1.heap.objs.size=none:=I1.hok.fresh (Yo _)
 refine⟨.ref s1.heap.objs.size,upd H1 s1.heap.objs.size (.tup xs),I1.laid (t':=s1.toks) (fun b u e=>Yb _ e) (Yo _) ?_,rfl,q _ hf⟩
 exact⟨z,us,r,⟨_,Yk _ rfl,rfl,_,rfl⟩,_,Yk _ rfl,rfl⟩
theorem qS (h:PA X es t):PE X (.List es pos) (ve t):=by
 intro pz s σ H Q I hq
 refine wpAny_List_spliced (aL (h pos pz s σ H _ I hq) fun us s1 xs H1 I1 r ⟨z,q⟩=>⟨by rw[← r.length];exact z,?_⟩)
 have hf:H1 s1.heap.objs.size=none:=I1.hok.fresh (Yo _)
 refine⟨.ref s1.heap.objs.size,upd H1 s1.heap.objs.size (.lst xs),I1.laid (t':=s1.toks) (fun b u e=>Yb _ e) (Yo _) ?_,rfl,q _ hf⟩
 exact⟨z,us,0,r,Yk _ rfl⟩
end
abbrev Sp:=List V→Hp→VK→XK→Prop
abbrev CXT:=List Env→Hp→Shared→XK→Value→Shared→Prop
structure Env0 (P:Program) (w:World) (K:PySem.W.Frag) (mg:Str→Option Value) (base:Heap) (A:Around) (outer:List Env) (s:Shared) (H:Hp):Prop where
 frames:A.frames=some outer
 mod:Mod K mg base
 bs:∀ b o,base.get? b=some o→s.heap.get? b=some o∧H b=none
 bsz:base.objs.size≤s.heap.objs.size
 funs:s.heap.FunFrames base outer
 frf:∀ b∈frs outer,H b=none
 hok:HOk P w H s.heap
 bare:AllBare s.gens
def CE (outer:List Env)(P:Program)(w:World)(H:Hp)(s:Shared)(Q:VK)(u:Value)(s':Shared):Prop:=
 ∃ v H',s'.os=s.os∧AllBare s'.gens∧Un (frs outer) [] H H' s.heap s'.heap∧HOk P w H' s'.heap∧RelV v u∧Q v H'
def CR (CX:CXT)(outer:List Env)(P:Program)(w:World)(H:Hp)(s:Shared)(Q:VK)(E:XK)(r:Result)(s':Shared):Prop:=
 match r with
 | .ok (.ret u)=>CE outer P w H s Q u s'
 | .ok _=>False
 | .error e=>CX outer H s E e s'
structure FnOk (P:Program) (w:World) (K:PySem.W.Frag) (mg:Str→Option Value) (base:Heap) (CX:CXT) (k:Nat) (f:Addr) (fd:FuncData) (ps:List Str) (sp:Sp):Prop where
 len:∀ vs H Q E,sp vs H Q E→vs.length=ps.length
 run:∀ (A:Around) (outer:List Env) (s:Shared) (H:Hp) (args:Args) (us:List Value) (vs:List V) (Q:VK) (E:XK),Room k A→Env0 P w K mg base A outer s H→BindsTo s fd args (ps.zip us)→Vals vs us→sp vs H Q E→
  codeAny (model P w) A (.call (.ref f) args) (CR CX outer P w H s Q E) s
theorem FnOk.imp {P:Program}{w:World}{K:Kq}{mg:Ks}{base:Heap}{CX:CXT}{k:Nat}{f:Addr}{fd:FuncData}{ps:List Str}{sp sp':Sp}(F:FnOk P w K mg base CX k f fd ps sp)
  (h:∀ vs H Q E,sp' vs H Q E→sp vs H Q E):FnOk P w K mg base CX k f fd ps sp':=
 ⟨fun vs H Q E q=>F.len vs H Q E (h _ _ _ _ q),fun A outer s H args us vs Q E hr he hb hv hs=>F.run A outer s H args us vs Q E hr he hb hv (h _ _ _ _ hs)⟩
section
variable {X:Cx} {pz:Kp} {σ:St} {H:Hp} {s s':Shared}
theorem Inv.env0 (I:Inv X pz σ H s):Env0 X.prog X.w X.K X.mg X.base X.A X.stack s H:=
 ⟨I.ok.frames,I.ok.mod,I.bs,YB I.ok.bsz I.sz,I.stack,I.stkFree,I.hok,I.bare⟩
theorem Inv.after {Q:VK}{u:Value}(I:Inv X pz σ H s)(h:CE X.stack X.prog X.w H s Q u s'):EP X pz σ Q u s':=by
 obtain⟨v,H',os,bare,un,hok,r,q⟩:=h
 obtain⟨hh,g,d,t,os'⟩:=s'
 obtain rfl:os'=s.os:=os
 exact⟨v,H',I.call (h':=hh) (g':=g) (d':=d) (t':=t) (ch:=[]) un hok bare (fun b z=>absurd z (by simp)),r,q⟩
end
def l3 (sp:Sp)(dvs:List V)(E:XK)(t:TA):TE:=fun σ H Q=>t σ H fun vs H1=>sp (vs++dvs) H1 Q E
def Binds (K:Kq)(fd:FuncData)(ps:List Str)(ds:List Value):Prop:=
 ∀ (s:Shared) (us:List Value),K.In s.heap→(us++ds).length=ps.length→BindsTo s fd ⟨us,[]⟩ (ps.zip (us++ds))
theorem Binds.all {K:Kq}{fd:FuncData}{ps:List Str}(h:∀ us:List Value,us.length=ps.length→bindArgs fd ⟨us,[]⟩=pure (ps.zip us)):Binds K fd ps []:=fun s us _ hl=>by
 rw[YX] at hl ⊢
 exact .of_eq (h us hl)
def ju (CX:CXT)(X:Cx)(E:XK):Prop:=∀ (pz:Kp) (σ:St) (H:Hp) (s:Shared) (e:Value) (s':Shared),Inv X pz σ H s→CX X.stack H s E e s'→X.xe e s'
section
variable {X:Cx} {CX:CXT} {k:Nat} {f C:Addr} {fd:FuncData} {ps:List Str} {sp:Sp} {dvs:List V} {ds:List Value} {E:XK} {x m:Str} {p pos apos:Pos} {e o:Expr} {es:List Expr} {ta:TE} {t:TA}
theorem r6 {pz:Kp}{σ:St}{H:Hp}{s:Shared}{Q:VK}{us:List Value}{vs:List V}(F:FnOk X.prog X.w X.K X.mg X.base CX k f fd ps sp)(hr:Room k X.A)(hb:Binds X.K fd ps ds)(hd:Vals dvs ds)(hx:ju CX X E)
  (I:Inv X pz σ H s) (r:Vals vs us) (h:sp (vs++dvs) H Q E):wpAny (model X.prog X.w) X.A (call (.ref f) us) (EP X pz σ Q) X.xe s:=by
 have r2:Vals (vs++dvs) (us++ds):=r.append hd
 have hl:(us++ds).length=ps.length:=by rw[← r2.length];exact F.len _ _ _ _ h
 refine wpAny_call (Xq (F.run X.A X.stack s H ⟨us,[]⟩ (us++ds) (vs++dvs) Q E hr I.env0 (hb s us I.kIn hl) r2 h) fun r s' hq=>?_)
 cases r with
 | error e=>exact hx pz σ H s e s' I hq
 | ok fl=>
  cases fl with
  | ret u=>exact I.after hq
  | next=>exact False.elim hq
  | brk=>exact False.elim hq
  | cont=>exact False.elim hq
theorem dq (F:FnOk X.prog X.w X.K X.mg X.base CX k f fd ps sp)(hr:Room k X.A)(hg:Gl X x)(hm:X.mg x=some (.ref f))(hk:PySem.W.keepIn X.K (.ref f)=true)(hb:Binds X.K fd ps ds)(hd:Vals dvs ds)(hx:ju CX X E)
  (ha:PA X (e::es) t) (hdb:(x == ("__debug__":Str))=false:=by decide) (he:starEach (e::es) X.env=(false,eval e X.env)::starEach es X.env:=by rfl) (hpl:(backTo pos (starEach es X.env)).any (·.1)=false:=by rfl) :
  PE X (.Call (.Name x p) (e::es) [] pos) (l3 sp dvs E t):=by
 intro pz s σ H Q I h
 refine ZK (km I hg hm ?_ hdb)
 refine PySem.W.callWith_K (h₀:=X.base) I.ok.mod.kin hk (aL (ha pos pz s σ H _ I h) fun us s1 vs H1 I1 r q=>⟨I1.kIn,?_⟩) he hpl
 exact r6 F hr hb hd hx I1 r q
end
section
variable {X:Cx} {CX:CXT} {k:Nat} {f C:Addr} {fd:FuncData} {ps ks:List Str} {sp:Sp} {E:XK} {x m:Str} {p pos apos kpos:Pos} {e o:Expr} {es:List Expr} {kws:List Keyword} {te ta:TE} {t tk:TA} {nm:Option Str}
variable {g:List Value→List Value→List Value} {gV:List V→List V→List V}
end
structure FnScope (N P:List Str) (sc:Scope):Prop where
 kind:sc.kind=.function
 co:sc.isCoroutine=false
 gen:sc.isGenerator=false
 nd:N.Nodup
 pre:N.take P.length=P
 par:∀ x∈P,sc.names.lookup x=some .local∨sc.names.lookup x=some .cell
 nofree:∀ y∈sc.names,y.2≠.free
theorem gm {kindOf:Str→Option NameKind}{x:Str}:∀ {binds:List (Str×Value)} {m:Ks},(∀ v,(x,v)∉binds)→bindL kindOf binds m x=m x
 | [],_,_=>rfl
 | (n,v)::r,m,h=>by
  unfold bindL
  rw[gm fun w hw=>h w (Yc _ hw)]
  split
  ·have:x≠n:=by rintro rfl;exact h v Ye
   simp[this]
  ·rfl
theorem gt {kindOf:Str→Option NameKind}{x:Str}:∀ {binds:List (Str×Value)} {m:Ks},(∀ v,(x,v)∉binds)→bindC kindOf binds m x=m x
 | [],_,_=>rfl
 | (n,v)::r,m,h=>by
  unfold bindC
  rw[gt fun w hw=>h w (Yc _ hw)]
  split
  ·rfl
  ·have:x≠n:=by rintro rfl;exact h v Ye
   simp[this]
theorem gx {kindOf:Str→Option NameKind}{x:Str}{v:Value}:∀ {P:List Str} {vs:List Value} {i:Nat} {m:Ks},P.Nodup→P[i]?=some x→vs[i]?=some v→kindOf x=some .local→
  bindL kindOf (P.zip vs) m x=some v
 | [],_,_,_,_,h,_,_=>by simp at h
 | _::_,[],_,_,_,_,h,_=>by simp at h
 | p::P,w::vs,0,m,nd,h1,h2,hk=>by
  simp at h1 h2;subst h1;subst h2
  show bindL kindOf ((p,w)::P.zip vs) m p=_
  unfold bindL
  rw[gm fun v hv=>(YY.mp nd).1 (Xy hv).1,Yi hk]
  simp
 | p::P,w::vs,i+1,m,nd,h1,h2,hk=>by
  show bindL kindOf ((p,w)::P.zip vs) m x=_
  unfold bindL
  exact gx (i:=i) (YY.mp nd).2 (by simpa using h1) (by simpa using h2) hk
theorem gv {kindOf:Str→Option NameKind}{x:Str}{v:Value}:∀ {P:List Str} {vs:List Value} {i:Nat} {m:Ks},P.Nodup→P[i]?=some x→vs[i]?=some v→kindOf x≠some .local→
  bindC kindOf (P.zip vs) m x=some v
 | [],_,_,_,_,h,_,_=>by simp at h
 | _::_,[],_,_,_,_,h,_=>by simp at h
 | p::P,w::vs,0,m,nd,h1,h2,hk=>by
  simp at h1 h2;subst h1;subst h2
  show bindC kindOf ((p,w)::P.zip vs) m p=_
  unfold bindC
  rw[gt fun v hv=>(YY.mp nd).1 (Xy hv).1,Yl hk]
  simp
 | p::P,w::vs,i+1,m,nd,h1,h2,hk=>by
  show bindC kindOf ((p,w)::P.zip vs) m x=_
  unfold bindC
  exact gv (i:=i) (YY.mp nd).2 (by simpa using h1) (by simpa using h2) hk
def start (N:List Str)(vs:List V):St:=vs.map some++List.replicate (N.length-vs.length) none
def de (CX:CXT)(P:Program)(w:World)(K:Kq)(mg:Ks)(base:Heap)(N:List Str)(qual:Str)(scope:Scope)(f:Addr)(cd:Value)(A:Around)(outer:List Env)(s:Shared)(H:Hp)(E:XK):Cx where
 prog:=P
 w:=w
 K:=K
 mg:=mg
 base:=base
 A:=A.deeper (envOfC qual scope s.heap.objs.size f cd)
 N:=N
 s₀:=s
 H₀:=H
 env:=envOfC qual scope s.heap.objs.size f cd
 outer:=outer
 stack:=envOfC qual scope s.heap.objs.size f cd::outer
 ex:=[]
 calm:=true
 fn:=fun _=>true
 pn:=[]
 xe:=fun e s'=>wpAny (model P w) (A.deeper (envOfC qual scope s.heap.objs.size f cd)) (leaving (envOfC qual scope s.heap.objs.size f cd) e) (fun _ s''=>CX outer H s E e s'') (fun e' s''=>CX outer H s E e' s'') s'
theorem i9 {sc:Scope}{n:Nat}{x:Str}(h:sc.names.lookup x=some .cell):∃ c,(cellsFrom n sc.names []).lookup x=some c:=by
 have q:=ZI sc.names n [] (.inl h)
 exact Zy.mp q
theorem gN {CX:CXT}{P:Program}{w:World}{K:Kq}{mg:Ks}{base:Heap}{N ps:List Str}{qual:Str}{scope:Scope}{f:Addr}{cd:Value}{A:Around}{outer:List Env}{s s1:Shared}{H:Hp}{E:XK}{us:List Value}{vs:List V}
  (S:FnScope N ps scope) (hd:A.handled=none) (e0:Env0 P w K mg base A outer s H) (hl:vs.length=ps.length) (r:Vals vs us)
  (x:InCallC s s.heap.objs.size (bindL (envOfC qual scope s.heap.objs.size f cd).kindOf (ps.zip us) fun _=>none) (cellsFrom (s.heap.objs.size+1) scope.names []) (bindC (envOfC qual scope s.heap.objs.size f cd).kindOf (ps.zip us) fun _=>none) s1) :
  Inv (de CX P w K mg base N qual scope f cd A outer s H E) [] (start N vs) H s1:=by
 have hpl:ps.length≤N.length:=by have:=ZR List.length S.pre;rw[List.length_take] at this;omega
 obtain⟨h1,tk,rfl,hk⟩:=x.done
 have noA:∀ b:Addr,b∉(de CX P w K mg base N qual scope f cd A outer s H E).ex:=fun b z=>absurd (show b∈([]:List Addr) from z) (by simp)
 refine⟨⟨e0.mod,S.kind,rfl,rfl,Yo _,fun y z c h1 h2=>?_,fun y hy=>?_,fun y c _ h=>?_,fun _=>hd,Around.frames_deeper e0.frames,.inr ⟨rfl,rfl⟩,fun b z=>absurd z (noA b),e0.bs,e0.bsz,fun b _ _=>noA b,fun b z=>absurd z (noA b),e0.funs,e0.frf⟩,
  rfl,e0.bare,Un.kept hk,⟨_,x.toInCall.ns,fun i y v h1 h2 h3=>?_⟩,fun y c h=>⟨_,x.cell y c h⟩,e0.hok.fresh (Yo _),fun y c h=>?_,fun p hp=>absurd (show p∈([]:Kp) from hp) (by simp),e0.hok.kept hk,?_⟩
 ·exact name_of_addr x.apart (YR h1) (YR h2)
 ·have hy:scope.names.lookup y=some .cell∨scope.names.lookup y=some .free:=hy
  rcases hy with hy | hy
  ·exact i9 hy
  ·exact absurd rfl (S.nofree _ (YR hy))
 ·exact Zc (x.above y c (YR h))
 ·have hi:i<vs.length:=by
   unfold start at h2
   by_cases hi:i<vs.length
   ·exact hi
   ·rw[Ze (by simpa using hi)] at h2
    rw[ZF] at h2
    split at h2 <;> cases h2
  have ha:vs[i]?=some v:=by
   unfold start at h2
   rw[YT (by simpa using hi),Yv] at h2
   cases e:vs[i]? with
   | none=>rw[e] at h2;cases h2
   | some a=>rw[e] at h2;cases h2;rfl
  obtain⟨u,hu,rv⟩:=r.get ha
  have hp:ps[i]?=some y:=by
   rw[← S.pre,List.getElem?_take_of_lt (by omega)];exact h1
  have ndP:ps.Nodup:=by rw[← S.pre];exact S.nd.sublist (List.take_sublist _ _)
  refine⟨u,rv,?_⟩
  rcases S.par y (Zl hp) with k | k
  ·exact .inl ⟨k,gx ndP hp hu k⟩
  ·obtain⟨c,e⟩:=i9 (n:=s.heap.objs.size+1) k
   refine .inr ⟨.inl k,c,e,?_⟩
   have q:=x.cell y c e
   rw[gv ndP hp hu (by show scope.names.lookup y≠_;rw[k];decide)] at q
   exact q
 ·exact e0.hok.fresh (Zc (x.above y c (YR h)))
 ·unfold start
  show _=N.length
  rw[YE,Yf,YD]
  omega
theorem qf {CX:CXT}{P:Program}{w:World}{K:Kq}{mg:Ks}{base:Heap}{k:Nat}{f:Addr}{name qual:Str}{params:Arguments}{body:List Stmt}{scope:Scope}{dV kV doc pm cdv ct oc:Value}{an od:Option Addr}
  {osl:Array (Option Value)} {N ps:List Str} {sp:Sp} (lk:K.lookup f=some ⟨oc,od,.func (PySem.W.fnOf name qual params body scope dV kV doc pm an cdv ct),osl⟩) (hcd:PySem.W.codeIn K cdv qual=true) (S:FnScope N ps scope)
  (len:∀ vs H Q E,sp vs H Q E→vs.length=ps.length)
  (hbody:∀ (A:Around) (outer:List Env) (s:Shared) (H:Hp) (vs:List V) (Q:VK) (E:XK),Room k (A.deeper (envOfC qual scope s.heap.objs.size f cdv))→sp vs H Q E→
   ∃ t,PSs (de CX P w K mg base N qual scope f cdv A outer s H E) body t∧t { nx:=fun _ H'=>Q .non H',rt:=Q } (start N vs) H) :
  FnOk P w K mg base CX (k+1) f (PySem.W.fnOf name qual params body scope dV kV doc pm an cdv ct) ps sp:=by
 refine⟨len,fun A outer s H args us vs Q E hr e0 hb r hsp=>?_⟩
 have hl:=len _ _ _ _ hsp
 have KX:K.In s.heap:=e0.mod.kin.keeps fun b o e=>(e0.bs b o e).1
 have lim:s.heap.NoLimit:=e0.mod.nolimit.keeps fun b o e=>(e0.bs b o e).1
 have hkind:∀ y∈ps.zip us,scope.names.lookup y.1=some .local∨(scope.names.lookup y.1=some .cell∧((cellsFrom (s.heap.objs.size+1) scope.names []).lookup y.1).isSome=true):=fun ⟨n,v⟩ hy=>by
  rcases S.par n (Xy hy).1 with q | q
  ·exact .inl q
  ·exact .inr ⟨q,ZI _ _ _ (.inl q)⟩
 refine codeAny_call_function hr.depth (KX _ _ lk) rfl S.co S.gen rfl (PySem.W.codeRec_of KX hcd) (hb _ _ _ _ ?_)
 refine wpAny_newFunctionEnv_cells S.kind hkind fun env he s1 x=>?_
 subst he
 refine⟨lim.keeps x.toInCall.keep,codeAny_func ?_⟩
 obtain⟨t,ht,hq⟩:=hbody A outer s H vs Q E (hr.deeper _) hsp
 have I:Inv (de CX P w K mg base N qual scope f cdv A outer s H E) [] (start N vs) H s1:=gN S hr.hd e0 hl r x
 refine Zp (ht [] s1 (start N vs) H _ I hq) (fun fl s' hs=>?_) fun e s' hs=>hs
 have fin:∀ {σ':St} {H':Hp} {v:V} {u:Value},Inv (de CX P w K mg base N qual scope f cdv A outer s H E) [] σ' H' s'→RelV v u→Q v H'→CE outer P w H s Q u s':=
  fun {σ' H' v u} J rv q=>⟨v,H',J.os,J.bare,J.base,J.hok,rv,q⟩
 cases fl with
 | ret u=>
  obtain⟨v,σ',H',J,rv,q⟩:=hs
  exact fin J rv q
 | next=>
  obtain⟨σ',H',J,q⟩:=hs
  exact fin (v:=V.non) (u:=Value.none) J rfl q
 | brk=>
  obtain⟨_,_,_,q⟩:=hs
  exact False.elim q
 | cont=>
  obtain⟨_,_,_,q⟩:=hs
  exact False.elim q
section
variable {X:Cx} {x:Str} {p pos:Pos} {e:Expr} {es:List Expr} {t:TA} {id T:String} {r:List V→Hp→VK→Prop}
def tCB (r:List V→Hp→VK→Prop)(t:TA):TE:=fun σ H Q=>t σ H fun vs H1=>r vs H1 Q
theorem cN (hc:CallR X (.builtin id) r)(hg:Gl X x)(hm:X.mg x=none)(hv:bootBuiltins x=some (.builtin id))(ha:PA X (e::es) t)(hn:x ≠ "__name__":=by decide)(hdb:(x == ("__debug__":Str))=false:=by decide)
  (he:starEach (e::es) X.env=(false,eval e X.env)::starEach es X.env:=by rfl) (hpl:(backTo pos (starEach es X.env)).any (·.1)=false:=by rfl):PE X (.Call (.Name x p) (e::es) [] pos) (tCB r t):=by
 intro pz s σ H Q I h
 refine ZK (fD I hg hm hv ?_ hn hdb)
 exact PyProof.Rows.callWith_builtin1 (aL (ha pos pz s σ H _ I h) fun us s1 vs H1 I1 r1 q1=>hc pz s1 σ H1 vs us Q I1 r1 q1) he hpl
theorem cQ (hc:CallR X (.type T) r)(hg:Gl X x)(hm:X.mg x=none)(hv:bootBuiltins x=some (.type T))(ha:PA X (e::es) t)(hn:x ≠ "__name__":=by decide)(hdb:(x == ("__debug__":Str))=false:=by decide)
  (he:starEach (e::es) X.env=(false,eval e X.env)::starEach es X.env:=by rfl) (hpl:(backTo pos (starEach es X.env)).any (·.1)=false:=by rfl):PE X (.Call (.Name x p) (e::es) [] pos) (tCB r t):=by
 intro pz s σ H Q I h
 refine ZK (fD I hg hm hv ?_ hn hdb)
 exact ZN (aL (ha pos pz s σ H _ I h) fun us s1 vs H1 I1 r1 q1=>hc pz s1 σ H1 vs us Q I1 r1 q1) he hpl
end
end L2
namespace HT
open PySem PyProof.Rows
theorem rcLt_int (A:Around)(s:Shared)(a:Int)(t:Tok)(c:Int)(u:Tok)(prog:Program)(w:World)(E:Value→Shared→Prop)(Q:Value→Shared→Prop)(h:Q (.bool (decide (a<c))) s) :
  wpAny (model prog w) A (richCompare .Lt (.int a t) (.int c u)) Q E s:=
 (PyProof.Rows.lt_int h:wpAny (model prog w) A (compareOp .Lt (.int a t) (.int c u)) Q E s)
section
open PySem.SeqAt
open PySem.AutoSeq1 (wpAny_loadPart')
open PySem.MeetsSeq PySem.MeetsSeq2 PySem.MeetsSeq3
end
section
variable {prog:Program} {w:World} {A:Around} {E:Value→Shared→Prop} {s:Shared}
theorem cat_tup {t b:Addr}{vs ws:List Value}{Q:Value→Shared→Prop}(ht:IsTup s.heap t vs.toArray)(hb:IsTup s.heap b ws.toArray)(hv:vs≠[])
  (h1:ws=[]→Q (.ref t) s) (h2:ws≠[]→Q (.ref s.heap.objs.size) { s with heap:=s.heap.push { cls:=.type "tuple",data:=.seq (vs++ws).toArray } })
  (hsz:vs.length+ws.length≤sizeLine):wpAny (model prog w) A (binaryOp .Add (.ref t) (.ref b)) Q E s:=by
 obtain⟨⟨cls,dd,data,sl⟩,ho,hc,n,hd⟩:=id ht
 obtain⟨⟨cls2,dd2,data2,sl2⟩,ho2,hc2,n2,hd2⟩:=id hb
 simp only at hc hd hc2 hd2
 subst hc hd hc2 hd2
 have e:vs.toArray++ws.toArray=(vs++ws).toArray:=by simp
 by_cases hw:ws=[]
 ·exact concat_meets ⟨_,ho,rfl⟩ ⟨_,ho2,rfl⟩ noFill_tuple_add seq_tuple_add PySem.F.slot_tuple_add PySem.F.entry_tuple_add (PySem.F.args_tuple_add_2 _ _)
   (tuple_addW1 t b vs.toArray ws.toArray n n2 dd dd2 sl sl2 (by simpa using hv) (by simp[hw])) ⟨ho,ho2,h1 hw⟩
 ·refine concat_meets ⟨_,ho,rfl⟩ ⟨_,ho2,rfl⟩ noFill_tuple_add seq_tuple_add PySem.F.slot_tuple_add PySem.F.entry_tuple_add (PySem.F.args_tuple_add_2 _ _)
   (tuple_addW2 t b vs.toArray ws.toArray n n2 dd dd2 sl sl2 (by simpa using hv) (by simpa using hw) (by rw[List.size_toArray,List.size_toArray];exact hsz)) ⟨ho,ho2,?_⟩
  rw[e]
  exact h2 hw
def sIx (n d:Nat):Option Int→Nat
 | none=>d
 | some v=>if v<0 then (v+(n:Int)).toNat else min v.toNat n
end
end HT
namespace L2
open PySem PySem.Spec PyProof.Rows
abbrev TO:=St→Hp→(Option Int→Hp→Prop)→Prop
def PO (X:Cx)(e:Option Expr)(t:TO):Prop:=
 ∀ (pz:Kp) (s:Shared) (σ:St) (H:Hp) (Q:Option Int→Hp→Prop),Inv X pz σ H s→t σ H Q→
  wpAny (model X.prog X.w) X.A (evalPart e X.env) (fun u s'=>∃ o H',Inv X pz σ H' s'∧IsPart u o∧Q o H') X.xe s
def pG:TO:=fun _ H Q=>Q none H
def uj (t:TE):TO:=fun σ H Q=>t σ H fun x H1=>∃ i,x=.int i∧Q (some i) H1
section
variable {X:Cx} {e:Expr} {te:TE} {lo hi:Option Expr} {tl th:TO} {pos p2:Pos}
theorem o6:PO X none pG:=by
 intro pz s σ H Q I h
 rw[evalPart_none]
 exact Yp ⟨none,H,I,.none,h⟩
theorem pJ (h:PE X e te):PO X (some e) (uj te):=by
 intro pz s σ H Q I hw
 rw[evalPart_some]
 refine aL (h pz s σ H _ I hw) fun u s1 x H1 I1 r1 q1=>?_
 obtain⟨i,rfl,q⟩:=q1
 obtain⟨t,rfl⟩:=r1
 exact⟨some i,H1,I1,.int i t,q⟩
def SlR (X:Cx)(r:V→Option Int→Option Int→Hp→VK→Prop):Prop:=
 ∀ (pz:Kp) (s:Shared) (σ:St) (H:Hp) (x:V) (v vl vu:Value) (lo hi:Option Int) (sl:Addr) (Q:VK),Inv X pz σ H s→RelV x v→s.heap.IsSliceOf sl vl vu .none→IsPart vl lo→IsPart vu hi→r x lo hi H Q→
  ∃ T id,typeLookup (.type T) "__getitem__"=pure (some (.builtin id))∧s.TypeIs v T∧wpAny (model X.prog X.w) X.A (getItem v (.ref sl)) (EP X pz σ Q) X.xe s
def tSl (r:V→Option Int→Option Int→Hp→VK→Prop)(te:TE)(tl th:TO):TE:=fun σ H Q=>te σ H fun x H1=>tl σ H1 fun l H2=>th σ H2 fun u H3=>r x l u H3 Q
theorem nW {r:V→Option Int→Option Int→Hp→VK→Prop}(hr:SlR X r)(he:PE X e te)(hl:PO X lo tl)(hu:PO X hi th):PE X (.Subscript e (.Slice lo hi none p2) pos) (tSl r te tl th):=by
 intro pz s σ H Q I h
 refine Subscript_ (aL (he pz s σ H _ I h) fun v s1 x H1 I1 r1 q1=>?_)
 refine wpAny_Slice (aL (hl pz s1 σ H1 _ I1 q1) fun vl s2 l H2 I2 pl q2=>aL (hu pz s2 σ H2 _ I2 q2) fun vu s3 u H3 I3 pu q3=>?_)
 rw[evalPart_none]
 refine Yp ?_
 have I4:Inv X pz σ H3 { s3 with heap:=s3.heap.push { cls:=.type "slice",data:=.fields #[vl,vu,.none] } }:=I3.kept (t':=s3.toks) fun b ob q=>Yb _ q
 obtain⟨T,id,hT,ht,hg⟩:=hr pz { s3 with heap:=s3.heap.push { cls:=.type "slice",data:=.fields #[vl,vu,.none] } } σ H3 x v vl vu l u s3.heap.objs.size Q I4 r1 (Heap.IsSliceOf.new ..) pl pu q3
 show wpAny (model X.prog X.w) X.A (subscriptTail e (.Slice lo hi none p2) v (.ref s3.heap.objs.size)) (EP X pz σ Q) X.xe { s3 with heap:=s3.heap.push { cls:=.type "slice",data:=.fields #[vl,vu,.none] } }
 exact tail_any (ops:=[.ref s3.heap.objs.size,v]) ht hT hg (by with_unfolding_all rfl)
def kM (xs:List V)(lo hi:Option Int):List V:=(xs.drop (HT.sIx xs.length 0 lo)).take (HT.sIx xs.length xs.length hi-HT.sIx xs.length 0 lo)
theorem iW (xs:List V)(lo hi:Option Int):(kM xs lo hi).length≤xs.length:=by
 unfold kM
 rw[List.length_take,List.length_drop]
 omega
def sP (K:Kq):R2:=fun x y H Q=>∃ a b xs ys,x=.ref a∧y=.ref b∧SqT K H a xs∧SqT K H b ys∧xs≠[]∧xs.length+ys.length≤sizeLine ∧
 (ys=[]→Q (.ref a) H)∧(ys≠[]→∀ p,H p=none→Q (.ref p) (upd H p (.tup (xs++ys))))
theorem Vals.nil_iff {xs:List V}{us:List Value}(r:Vals xs us):us=[]↔xs=[]:=by
 cases r with
 | nil=>simp
 | cons _ _=>simp
theorem pf:OpR X (binaryOp .Add) (sP X.K):=by
 intro pz s σ H x y v u Q I rx ry h
 obtain⟨a,b,xs,ys,rfl,rfl,ha,hb,hx,hz,q1,q2⟩:=h
 cases rx
 cases ry
 obtain⟨its,r1,p1,_⟩:=I.tuple ha
 obtain⟨its2,r2,p2,_⟩:=I.tuple hb
 refine HT.cat_tup p1 p2 (fun z=>hx (r1.nil_iff.mp z)) (fun z=>⟨.ref a,H,I,rfl,q1 (r2.nil_iff.mp z)⟩) (fun z=>?_) (by rw[← r1.length,← r2.length];exact hz)
 refine⟨.ref s.heap.objs.size,_,I.laid (t':=s.toks) (o:=.tup (xs++ys)) (fun b ob q=>Yb _ q) (Yo _) ?_,rfl,q2 (fun w=>z (r2.nil_iff.mpr w)) _ (I.hok.fresh (Yo _))⟩
 exact⟨by rw[YE];exact hz,_,r1.append r2,IsTup.new _ _,NoD.new _ _⟩
end
def ixN (n:Nat)(i:Int):Option Nat:=if 0≤i then (if i<n then some i.toNat else none) else if -(n:Int)≤i then some (i+n).toNat else none
def atI {α:Type}(xs:List α)(i:Int):Option α:=(ixN xs.length i).bind fun j=>xs[j]?
theorem kx {n:Nat}{i:Int}{j:Nat}(h:ixN n i=some j):seqIndex? i n=some j∧j<n∧-(n:Int)≤i∧i<n:=by
 unfold ixN at h
 by_cases h0:0≤i
 ·rw[Yi h0] at h
  by_cases h1:i<n
  ·rw[Yi h1] at h
   have e:i.toNat=j:=Yx h
   exact⟨by rw[seqIndex_of h0 h1,e],by omega,by omega,h1⟩
  ·rw[Yl h1] at h;cases h
 ·rw[Yl h0] at h
  by_cases h1:-(n:Int)≤i
  ·rw[Yi h1] at h
   have e:(i+n).toNat=j:=Yx h
   exact⟨by rw[seqIndex_neg (by omega) h1,e],by omega,h1,by omega⟩
  ·rw[Yl h1] at h;cases h
theorem gP {α:Type}{xs:List α}{i:Int}{v:α}(h:atI xs i=some v):∃ j,seqIndex? i xs.length=some j∧xs[j]?=some v∧j<xs.length∧-(xs.length:Int)≤i∧i<xs.length:=by
 unfold atI at h
 cases e:ixN xs.length i with
 | none=>rw[e] at h;cases h
 | some j=>
  rw[e] at h
  obtain⟨h1,h2,h3,h4⟩:=kx e
  exact⟨j,h1,h,h2,h3,h4⟩
theorem pH {α:Type}{xs:List α}{j:Nat}{v:α}(h:xs[j]?=some v):atI xs (j:Int)=some v:=by
 have hj:j<xs.length:=(Ym.mp h).1
 have e:ixN xs.length (j:Int)=some j:=by
  unfold ixN
  rw[Yi (by omega),Yi (by omega)];simp
 unfold atI;rw[e];exact h
def kH (b:Expr):Prop:=∀ o i,subscripted b false o i=operate [o,i] (getItem o i)
def IxR (X:Cx)(r:R2):Prop:=
 ∀ (value slice:Expr) (pz:Kp) (s:Shared) (σ:St) (H:Hp) (x y:V) (v u:Value) (Q:VK),Inv X pz σ H s→RelV x v→RelV y u→r x y H Q→
  subscripted slice false v u=operate [v,u] (getItem v u)→wpAny (model X.prog X.w) X.A (subscriptTail value slice v u) (EP X pz σ Q) X.xe s
def MtR (X:Cx)(id:String)(r:V→List V→Hp→VK→Prop):Prop:=
 ∀ (pz:Kp) (s:Shared) (σ:St) (H:Hp) (x:V) (xs:List V) (v:Value) (us:List Value) (Q:VK),Inv X pz σ H s→RelV x v→Vals xs us→r x xs H Q→
  wpAny (model X.prog X.w) X.A (call (.builtin id) (v::us)) (EP X pz σ Q) X.xe s
section
variable {X:Cx} {a b:Expr} {ta tb:TE} {pos:Pos}
theorem IxR.or {r r':R2}(h:IxR X r)(h':IxR X r'):IxR X (fun x y H Q=>r x y H Q∨r' x y H Q):=by
 intro value slice pz s σ H x y v u Q I rx ry q hs
 rcases q with q | q
 ·exact h value slice pz s σ H x y v u Q I rx ry q hs
 ·exact h' value slice pz s σ H x y v u Q I rx ry q hs
theorem t0 {r:R2}(hr:IxR X r)(ha:PE X a ta)(hb:PE X b tb)(hs:kH b):PE X (.Subscript a b pos) (tOp r ta tb):=by
 intro pz s σ H Q I h
 exact Subscript_ (rS ha hb I h fun v u s2 x y H2 I2 rx ry q=>hr a b pz s2 σ H2 x y v u Q I2 rx ry q (hs _ _))
def ss (K:Kq):R2:=fun x y H Q=>∃ p xs i v,x=.ref p∧y=.int i∧SqL K H p xs∧atI xs i=some v∧Q v H
def sA (K:Kq):R2:=fun x y H Q=>∃ p xs i v,x=.ref p∧y=.int i∧SqT K H p xs∧atI xs i=some v∧Q v H
def sZ:R2:=fun x y H Q=>∃ z i c,x=.str z∧y=.int i∧z.length≤sizeLine∧atI z.cps.toList i=some c∧Q (.str ⟨#[c]⟩) H
theorem oU:IxR X (ss X.K):=by
 intro value slice pz s σ H x y v u Q I rx ry h hs
 obtain⟨p,xs,i,z,rfl,rfl,hq,he,q⟩:=h
 cases rx
 obtain⟨t,rfl⟩:=ry
 obtain⟨its,r,pl,hz⟩:=I.list hq
 obtain⟨j,h1,h2,h3,h4,h5⟩:=gP he
 obtain⟨w,ew,rw'⟩:=r.get h2
 have hl:=r.length
 have hn:=dY
 have fin:EP X pz σ Q w s:=⟨z,H,I,rw',q⟩
 by_cases h0:0≤i
 ·have hj:i.toNat=j:=by
   rw[seqIndex_of h0 h5] at h1
   exact Yx h1
  exact item_listR pl.isList h0 (by omega) (by rw[hj];simpa using ew) fin hs
 ·have hj:(i+(its.toArray.size:Int)).toNat=j:=by
   rw[seqIndex_neg (by omega) h4] at h1
   rw[Yn,← hl]
   exact Yx h1
  exact subscriptTail_builtinR (x:=w) pl.isList.typeIs slot_list_getitem.lookup
   (wpAny_getItem_list_neg (Q:=fun r s'=>r=w∧EP X pz σ Q r s') pl.isList (by omega) (by rw[Yn] <;> omega) (by omega) (by rw[hj];simpa using ew) ⟨rfl,fin⟩) hs
theorem sf:IxR X (sA X.K):=by
 intro value slice pz s σ H x y v u Q I rx ry h hs
 obtain⟨p,xs,i,z,rfl,rfl,hq,he,q⟩:=h
 cases rx
 obtain⟨t,rfl⟩:=ry
 obtain⟨its,r,pl,hz⟩:=I.tuple hq
 obtain⟨j,h1,h2,h3,h4,h5⟩:=gP he
 obtain⟨w,ew,rw'⟩:=r.get h2
 have hl:=r.length
 have hn:=dY
 have fin:EP X pz σ Q w s:=⟨z,H,I,rw',q⟩
 exact subscriptTail_builtinR (x:=w) pl.typeIs slot_tuple_getitem.lookup
  (getItem_tuple (j:=j) (Q:=fun r s'=>r=w∧EP X pz σ Q r s') pl (by omega) (by omega) (by rw[Yn,← hl];exact h1) (by simpa using ew) ⟨rfl,fin⟩) hs
theorem rW:IxR X sZ:=by
 intro value slice pz s σ H x y v u Q I rx ry h hs
 obtain⟨z,i,c,rfl,rfl,hz,he,q⟩:=h
 obtain⟨t,rfl⟩:=rx
 obtain⟨t',rfl⟩:=ry
 obtain⟨j,h1,h2,h3,h4,h5⟩:=gP he
 have hl:z.cps.toList.length=z.length:=by simp[Str.length]
 rw[hl] at h1 h4 h5
 have hn:=dY
 exact tail_any (typeIs_str s z t) slot_str_getitem.lookup (getItem_str (c:=c) (by
  have e1:decide (i < -(2 ^ 63:Int))=false:=YA (by omega)
  have e2:decide (i ≥ 2 ^ 63)=false:=YA (by omega)
  rw[e1,e2,Bool.or_false]) (by rw[h1];simpa using h2) ⟨.str ⟨#[c]⟩,H,I.tok _,⟨_,rfl⟩,q⟩) hs
def rIx (K:Kq):R2:=fun x y H Q=>ss K x y H Q∨sA K x y H Q∨sZ x y H Q
theorem qW:IxR X (rIx X.K):=oU.or (sf.or rW)
theorem jz (its:List Value)(n j:Nat)(u:Value):Obj.mapSeq (·.setIfInBounds j u) { cls:=.type "list",data:=.seq its.toArray n }={ cls:=.type "list",data:=.seq (its.set j u).toArray n }:=by
 simp[Obj.mapSeq]
theorem Inv.lst {pz:Kp}{σ:St}{H:Hp}{s:Shared}{p:Addr}{xs:List V}(I:Inv X pz σ H s)(h:H p=some (.lst xs)) :
  ∃ (its:List Value) (n:Nat),Vals xs its∧s.heap.get? p=some { cls:=.type "list",data:=.seq its.toArray n }∧xs.length≤sizeLine:=by
 obtain⟨z,its,n,r,e⟩:=I.hok p _ h
 exact⟨its,n,r,e,z⟩
theorem Inv.lstUpd {pz:Kp}{σ:St}{H:Hp}{s:Shared}{p:Addr}{xs ys:List V}{its its':List Value}{n n':Nat}{f:Obj→Obj}(I:Inv X pz σ H s)(h:H p=some (.lst xs))
  (ho:s.heap.get? p=some { cls:=.type "list",data:=.seq its.toArray n }) (hf:f { cls:=.type "list",data:=.seq its.toArray n }={ cls:=.type "list",data:=.seq its'.toArray n' }) (r:Vals ys its') (hz:ys.length≤sizeLine) (t:Nat) :
  Inv X pz σ (upd H p (.lst ys)) { s with heap:=s.heap.update p f,toks:=t }:=by
 have e:(s.heap.update p f).get? p=some { cls:=.type "list",data:=.seq its'.toArray n' }:=by
  rw[Heap.get?_update_self f ho (by rw[hf] <;> rfl),hf]
 refine I.write (x:=p) (e:=p) (by rw[h];trivial) (.inl rfl) (fun b u hb q=>(Heap.get?_update_other _ _ (ZZ hb)).trans q) ⟨_,e⟩ ?_
 exact⟨hz,its',n',r,e⟩
def sY:V→V→V→Hp→(Hp→Prop)→Prop:=fun o i v H Q=>∃ p xs k j,o=.ref p∧i=.int k∧H p=some (.lst xs)∧ixN xs.length k=some j∧Q (upd H p (.lst (xs.set j v)))
theorem mN:tm X sY:=by
 intro pz s σ H o i v ov iv u Q I ro ri rv h
 obtain⟨p,xs,k,j,rfl,rfl,hp,hj,q⟩:=h
 cases ro
 obtain⟨t,rfl⟩:=ri
 obtain⟨its,n,r,ho,hz⟩:=I.lst hp
 obtain⟨h1,h2,h3,h4⟩:=kx hj
 have hl:=r.length
 have hn:=dY
 have I':Inv X pz σ (upd H p (.lst (xs.set j v))) { s with heap:=s.heap.update p (Obj.mapSeq (·.setIfInBounds j u)) }:=
  I.lstUpd hp ho (jz its n j u) (r.set rv j) (by rw[Yy];exact hz) s.toks
 by_cases h0:0≤k
 ·have hk:k.toNat=j:=by
   rw[seqIndex_of h0 h4] at h1
   exact Yx h1
  exact PySem.W.ki_setAt ho h0 (by omega) (by rw[Yn,← hl];exact h4) (by rw[hk];exact⟨_,I',q⟩)
 ·have hk:(k+(its.toArray.size:Int)).toNat=j:=by
   rw[seqIndex_neg (by omega) h3] at h1
   rw[Yn,← hl]
   exact Yx h1
  exact PySem.W.ki_setBack ho (by omega) (by rw[Yn,← hl];exact h3) (by omega) (by rw[hk];exact⟨_,I',q⟩)
theorem g8 (lo hi:Option Int)(n:Nat):(sliceBounds lo hi none n).1=((HT.sIx n 0 lo:Nat):Int)∧(sliceBounds lo hi none n).2.1=((HT.sIx n n hi:Nat):Int)∧(sliceBounds lo hi none n).2.2=1:=by
 refine⟨?_,?_,rfl⟩
 ·cases lo with
  | none=>simp[sliceBounds,HT.sIx]
  | some i=>
   simp only[sliceBounds,HT.sIx,Option.getD_none,show (1:Int) > 0 by decide,XH]
   by_cases h:i<0
   ·simp only[h,XH] <;> omega
   ·simp only[h,if_false] <;> omega
 ·cases hi with
  | none=>simp[sliceBounds,HT.sIx]
  | some i=>
   simp only[sliceBounds,HT.sIx,Option.getD_none,show (1:Int) > 0 by decide,XH]
   by_cases h:i<0
   ·simp only[h,XH] <;> omega
   ·simp only[h,if_false] <;> omega
theorem fR (its:List Value)(lo hi:Option Int):slicePick its.toArray lo hi none=((its.drop (HT.sIx its.length 0 lo)).take (HT.sIx its.length its.length hi-HT.sIx its.length 0 lo)).toArray:=by
 obtain⟨h1,h2,h3⟩:=g8 lo hi its.toArray.size
 unfold slicePick
 rw[h1,h2,h3]
 simp only[sliceRange_one,pick_run,Yn] <;> rfl
def vy (K:Kq):V→Option Int→Option Int→Hp→VK→Prop:=fun x lo hi H Q=>∃ a xs,x=.ref a∧SqL K H a xs∧∀ p,H p=none→Q (.ref p) (upd H p (.lst (kM xs lo hi)))
theorem oR:SlR X (vy X.K):=by
 intro pz s σ H x v vl vu lo hi sl Q I rx hs pl pu h
 obtain⟨a,xs,rfl,hx,q⟩:=h
 cases rx
 obtain⟨its,r,ht,hz⟩:=I.list hx
 have hlen:=r.length
 refine⟨"list",_,slot_list_getitem.lookup,ht.isList.typeIs,?_⟩
 refine wpAny_getItem_list_slice ht.isList hs pl pu .none (by simp) ?_ (by rw[Yn] <;> omega)
 rw[fR,← hlen]
 refine⟨.ref s.heap.objs.size,_,I.laid (t':=s.toks) (o:=.lst (kM xs lo hi)) (fun b ob q=>Yb _ q) (Yo _) ?_,rfl,q _ (I.hok.fresh (Yo _))⟩
 exact⟨YB (iW xs lo hi) hz,_,0,(r.drop (HT.sIx xs.length 0 lo)).take (HT.sIx xs.length xs.length hi-HT.sIx xs.length 0 lo),Yk _ rfl⟩
theorem iq:CallR X (.builtin "len") (fun xs H Q=>∃ p ys,xs=[.ref p]∧(SqL X.K H p ys∨SqT X.K H p ys)∧Q (.int ys.length) H):=by
 intro pz s σ H xs us Q I r h
 obtain⟨p,ys,rfl,hq,q⟩:=h
 obtain⟨u,rfl,rx⟩:=d8 r
 cases rx
 have hn:=dY
 rcases hq with hq | hq
 ·obtain⟨its,r',pl,hz⟩:=I.list hq
  have hlen:=r'.length
  exact Calls.call_len_list pl.isList (by simp only[Yn] <;> omega) ⟨.int ys.length,H,I.tok _,⟨s.toks+1,by rw[Yn,hlen]⟩,q⟩
 ·obtain⟨its,r',pl,hz⟩:=I.tuple hq
  have hlen:=r'.length
  exact len_tuple pl (by simp only[Yn] <;> omega) ⟨.int ys.length,H,I.tok _,⟨s.toks+1,by rw[Yn,hlen]⟩,q⟩
theorem ij:CallR X (.builtin "len") (fun xs H Q=>∃ z,xs=[.str z]∧z.length≤sizeLine∧Q (.int z.length) H):=by
 intro pz s σ H xs us Q I r h
 obtain⟨z,rfl,hz,q⟩:=h
 obtain⟨u,rfl,t,rfl⟩:=d8 r
 have hn:=dY
 exact len_str (by omega) ⟨.int z.length,H,I.tok _,⟨_,rfl⟩,q⟩
theorem CallR.or {f:Value}{r r':List V→Hp→VK→Prop}(h:CallR X f r)(h':CallR X f r'):CallR X f (fun xs H Q=>r xs H Q∨r' xs H Q):=by
 intro pz s σ H xs us Q I rs q
 rcases q with q | q
 ·exact h pz s σ H xs us Q I rs q
 ·exact h' pz s σ H xs us Q I rs q
theorem g0:CallR X (.type "list") (fun xs H Q=>∃ p ys,xs=[.ref p]∧(SqL X.K H p ys∨SqT X.K H p ys)∧∀ l,H l=none→Q (.ref l) (upd H l (.lst ys))):=by
 intro pz s σ H xs us Q I r h
 obtain⟨p,ys,rfl,hq,q⟩:=h
 obtain⟨u,rfl,rx⟩:=d8 r
 cases rx
 have fin:∀ (its:List Value),Vals ys its→ys.length≤sizeLine→∀ (h':Heap) (c':Nat),(∀ b o',s.heap.get? b=some o'→h'.get? b=some o')→
   h'.get? s.heap.objs.size=some { cls:=.type "list",dict:=none,data:=.seq its.toArray c',slots:=#[] }→EP X pz σ Q (.ref s.heap.objs.size) { s with heap:=h' }:=fun its r' hz h' c' kp e=>
  ⟨.ref s.heap.objs.size,_,I.laid (t':=s.toks) kp (Yo _) (show ObjOk X.prog X.w _ h' _ (.lst ys) from ⟨hz,its,c',r',e⟩),rfl,q _ (I.hok.fresh (Yo _))⟩
 rcases hq with hq | hq
 ·obtain⟨its,r',pl,hz⟩:=I.list hq
  have hlen:=r'.length
  obtain⟨o,ho,hc,n,hd⟩:=pl.isList
  exact call_list_seq p (.inl rfl) ho hc hd (fun h' c' kp e=>fin its r' hz h' c' kp e) (by simp only[Yn] <;> omega)
 ·obtain⟨its,r',pl,hz⟩:=I.tuple hq
  have hlen:=r'.length
  obtain⟨o,ho,hc,n,hd⟩:=pl
  exact call_list_seq p (.inr rfl) ho hc hd (fun h' c' kp e=>fin its r' hz h' c' kp e) (by simp only[Yn] <;> omega)
def tyV (K:Kq)(T:String)(x:V)(H:Hp):Prop:=match x with
 | .str _=>T = "str"
 | .int _=>T = "int"
 | .ref p=>(T = "list"∧∃ xs,SqL K H p xs)∨(T = "tuple"∧∃ o,K.lookup p=some o∧o.cls=.type "tuple"∧o.dict=none) ∨
   (T = "dict"∧((∃ kvs,H p=some (.dK kvs))∨∃ kvs,H p=some (.dT kvs)))∨(T = "set"∧∃ S n,H p=some (.set S n))
 | _=>False
theorem qA {pz:Kp}{σ:St}{H:Hp}{s:Shared}{T:String}{x:V}{v:Value}(I:Inv X pz σ H s)(r:RelV x v)(ty:tyV X.K T x H) :
  s.TypeIs v T∧∀ a,v=.ref a→∃ ob,s.heap.get? a=some ob∧ob.dict=none:=by
 cases x with
 | str z=>
  obtain⟨t,rfl⟩:=r
  cases (show T = "str" from ty)
  exact⟨typeIs_str s z t,fun _ e=>nomatch e⟩
 | int i=>
  obtain⟨t,rfl⟩:=r
  cases (show T = "int" from ty)
  exact⟨typeIs_int s i t,fun _ e=>nomatch e⟩
 | ref p=>
  cases r
  rcases ty with⟨rfl,xs,hq⟩ | ⟨rfl,o,hk,hc,hd⟩ | ⟨rfl,hk⟩ | ⟨rfl,S,n,hk⟩
  ·obtain⟨its,_,pl,_⟩:=I.list hq
   refine⟨pl.isList.typeIs,fun a e=>?_⟩
   cases e
   obtain⟨o,n,e,c,hd,_⟩:=pl
   exact⟨o,e,hd⟩
  ·refine⟨⟨o,I.kIn p o hk,hc⟩,fun a e=>?_⟩
   cases e
   exact⟨o,I.kIn _ o hk,hd⟩
  ·have z:∃ o,s.heap.get? p=some o∧o.ExactDict:=by
    rcases hk with⟨kvs,hk⟩ | ⟨kvs,hk⟩
    ·obtain⟨_,_,_,_,o,_,_,e,ex,_⟩:=I.hok p _ hk
     exact⟨o,e,ex⟩
    ·obtain⟨_,_,_,_,o,_,_,e,ex,_⟩:=I.hok p _ hk
     exact⟨o,e,ex⟩
   obtain⟨o,e,ex⟩:=z
   refine⟨⟨o,e,ex.1⟩,fun a e2=>?_⟩
   cases e2
   exact⟨o,e,ex.2.1⟩
  ·obtain⟨o,_,_,_,e,ex,_⟩:=I.hok p _ hk
   refine⟨⟨o,e,ex.1⟩,fun a e2=>?_⟩
   cases e2
   exact⟨o,e,ex.2.1⟩
 | _=>exact False.elim ty
def tBM (K:Kq)(T:String)(r:V→List V→Hp→VK→Prop)(to:TE)(t:TA):TE:=fun σ H Q=>to σ H fun x H1=>tyV K T x H1∧t σ H1 fun xs H2=>r x xs H2 Q
variable {o e:Expr} {es:List Expr} {to:TE} {t:TA} {name:Str} {apos cpos:Pos} {T id:String} {r:V→List V→Hp→VK→Prop}
theorem i6 (pa:PlainAttrs T)(slot:Slot T name id)(hty:typeOf (.builtin id)=pure (.type "method_descriptor"))(hm:MtR X id r)(ho:PE X o to)(ha:PA X (e::es) t)
  (hbase:attributeBase o name X.env (eval o X.env)=eval o X.env:=by rfl)
  (hfew:((backTo cpos (starEach (e::es) X.env)).all (fun x=>!x.1)&&(backToKw cpos (keywordEach [] X.env)).all (fun x=>x.1.isSome)
   && decide ((e::es).length+([]:List Keyword).length+(if ([]:List Keyword).isEmpty then 0 else 1)<30))=true:=by rfl)
  (hline:(apos.endLine == cpos.line)=true:=by rfl) (hs:starEach (e::es) X.env=(false,eval e X.env)::starEach es X.env:=by rfl) (hplain:(backTo cpos (starEach es X.env)).any (·.1)=false:=by rfl) :
  PE X (.Call (.Attribute o name apos) (e::es) [] cpos) (tBM X.K T r to t):=by
 intro pz s σ H Q I h
 refine wpAny_Call_method_late hbase hfew hline rfl (aL (ho pz s σ H _ I h) fun v s1 x H1 I1 r1 hh_=>?_)
 obtain⟨ty,q1⟩:=hh_
 obtain⟨h1,h2⟩:=qA I1 r1 ty
 refine⟨T,id,pa,slot,hty,h1,h2,?_⟩
 have hA:=ha cpos pz s1 σ H1 _ I1 q1
 rw[hs] at hA ⊢
 refine Calls.callWith_builtin (by show (false||(backTo cpos (starEach es X.env)).any (·.1))=false;rw[hplain] <;> rfl) (Calls.evalArgs_plain ?_)
 exact aL hA fun us s2 vs H2 I2 r2 q2=>hm pz s2 σ H2 x vs v us Q I2 r1 r2 q2
end
def MtM (X:Cx)(id:String)(r:V→List V→Hp→VK→Prop):Prop:=
 ∀ (pz:Kp) (s:Shared) (σ:St) (H:Hp) (x:V) (xs:List V) (v:Value) (us:List Value) (Q:VK),Inv X pz σ H s→RelV x v→Vals xs us→r x xs H Q→
  wpAny (model X.prog X.w) X.A (call (.builtin id) (v::us)) (EP X pz σ Q) X.xe s
theorem Vals.one {x:V}{us:List Value}(h:Vals [x] us):∃ u,us=[u]∧RelV x u:=d8 h
theorem Vals.two {x y:V}{us:List Value}(h:Vals [x,y] us):∃ u v,us=[u,v]∧RelV x u∧RelV y v:=j9 h
theorem Vals.eraseIdx:∀ {xs:List V} {us:List Value} (i:Nat),Vals xs us→Vals (xs.eraseIdx i) (us.eraseIdx i)
 | _,_,_,.nil=>.nil
 | _,_,0,.cons _ t=>t
 | _,_,i+1,.cons r t=>.cons r (Vals.eraseIdx i t)
theorem gG {α:Type}:∀ (l:List α) (i:Nat),(l.eraseIdx i).length≤l.length
 | [],_=>Yo _
 | _::_,0=>XF _
 | _::r,i+1=>Nat.succ_le_succ (gG r i)
section
variable {X:Cx} {pz:Kp} {σ:St} {H:Hp} {s:Shared} {l b:Addr} {xs ys zs:List V}
theorem Inv.lset {its its':List Value}{n:Nat}{f:Array Value→Array Value}{t':Nat}(I:Inv X pz σ H s)(hH:H l=some (.lst xs))
  (e:s.heap.get? l=some { cls:=.type "list",data:=.seq its.toArray n }) (hf:f its.toArray=its'.toArray) (hv:Vals ys its') (hz:ys.length≤sizeLine) :
  Inv X pz σ (upd H l (.lst ys)) { s with heap:=s.heap.update l (Obj.mapSeq f),toks:=t' }:=by
 have q:=PySem.IsL.update e f
 rw[hf] at q
 refine I.write (x:=l) (e:=l) (by rw[hH];exact trivial) (.inl rfl) (fun b' u hb hu=>(Heap.get?_update_other s.heap (Obj.mapSeq f) (ZZ hb)).trans hu) ⟨_,q⟩ ?_
 exact⟨hz,its',_,hv,q⟩
theorem Inv.lnew {its:List Value}{t':Nat}(I:Inv X pz σ H s)(hv:Vals ys its)(hz:ys.length≤sizeLine) :
  Inv X pz σ (upd H s.heap.objs.size (.lst ys)) { s with heap:=s.heap.push { cls:=.type "list",data:=.seq its.toArray },toks:=t' }:=
 I.laid (fun _ _ q=>Yb _ q) (Yo _) ⟨hz,its,0,hv,Yk _ rfl⟩
theorem Inv.fresh (I:Inv X pz σ H s):H s.heap.objs.size=none:=I.hok.fresh (Yo _)
theorem Inv.lstM (I:Inv X pz σ H s)(hH:H l=some (.lst xs)):xs.length≤sizeLine∧∃ (its:List Value) (n:Nat),Vals xs its∧xs.length=its.length∧s.heap.get? l=some { cls:=.type "list",data:=.seq its.toArray n }:=by
 obtain⟨z,its,n,r,e⟩:=I.hok l _ hH
 exact⟨z,its,n,r,r.length,e⟩
end
section
variable {X:Cx}
def pc:V→List V→Hp→VK→Prop:=fun x vs H Q=>∃ l xs y,x=.ref l∧vs=[y]∧H l=some (.lst xs)∧xs.length<sizeLine∧Q .non (upd H l (.lst (xs++[y])))
theorem bR:MtM X "list.append" pc:=by
 intro pz s σ H x vs v us Q I rx rv h
 obtain⟨l,xs,y,rfl,rfl,hH,hz,q⟩:=h
 cases rx
 obtain⟨u,rfl,ru⟩:=rv.one
 obtain⟨z,its,n,r,hl,e⟩:=I.lstM hH
 refine call_meets F.slot_list_append ⟨_,e,rfl⟩ F.entry_list_append (F.args_list_append_2 _ _) (PySem.list_append l its.toArray n u (by rw[Yn];omega)) ⟨e,?_⟩
 refine⟨.non,_,I.lset (its':=its++[u]) hH e (by simp) (r.append (.cons ru .nil)) ?_,rfl,q⟩
 rw[YE,ZO]
 omega
def nI:V→List V→Hp→VK→Prop:=fun x vs H Q=>∃ l xs i k y,x=.ref l∧vs=[.int i]∧H l=some (.lst xs)∧-(2 ^ 63)≤i∧i<2 ^ 63∧seqIndex? i xs.length=some k∧xs[k]?=some y∧Q y (upd H l (.lst (xs.eraseIdx k)))
theorem mt:MtM X "list.pop" nI:=by
 intro pz s σ H x vs v us Q I rx rv h
 obtain⟨l,xs,i,k,y,rfl,rfl,hH,h1,h2,hk,hy,q⟩:=h
 cases rx
 obtain⟨u,rfl,ru⟩:=rv.one
 obtain⟨t,rfl⟩:=ru
 obtain⟨z,its,n,r,hl,e⟩:=I.lstM hH
 obtain⟨w,hw,rw'⟩:=r.get hy
 refine call_meets F.slot_list_pop ⟨_,e,rfl⟩ F.entry_list_pop (F.args_list_pop_2 _ _)
  (MeetsSeq.list_pop_at l its.toArray n i t k w (fitsIndex_both h1 h2) (by rw[Yn,← hl];exact hk) (by rw[← Array.getElem?_toList];exact hw) (by rw[Yn];omega)) ⟨e,?_⟩
 refine⟨y,_,I.lset (its':=its.eraseIdx k) hH e ?_ (r.eraseIdx k) ?_,rw',q⟩
 ·show its.toArray.eraseIdxIfInBounds k=(its.eraseIdx k).toArray
  rw[List.eraseIdxIfInBounds_toArray]
 ·have:=gG xs k
  omega
end
section
variable {prog:Program} {w:World} {A:Around} {E:Kv} {s:Shared}
set_option maxRecDepth 100000 in
end
section
variable {X:Cx}
end
end L2
namespace Att
open PySem PySem.W PySem.Calls PyProof.Rows
theorem eL {P:Params}{h:Heap}:∀ (ns:List Int) (vs:List Value),WellAll P h vs (ns.map WData.int)→IntsAre vs ns:=by
 intro ns
 induction ns with
 | nil=>
  intro vs w
  rw[List.map_nil] at w
  cases w
  exact .nil
 | cons n ns ih=>
  intro vs w
  rw[List.map_cons] at w
  cases w with
  | cons a b=>
   cases a
   exact .cons _ _ (ih _ b)
theorem lJ {l:OpenLaw}{n:Nat}(hn:l.most=some n){P:Params}{h:Heap}{args:List WData}{vals:List Value}
  (hpre:l.row.toRowW.claim.pre args=true) (hwl:WellAll P h vals args) :
  ∃ a vs ns,vals=[Value.ref a]∧args=[WData.list (ns.map WData.int)]∧h.get? a=some { cls:=.type "list",data:=.seq vs.toArray }∧IntsAre vs ns∧ns.length≤n:=by
 have hsh:WShape.hasAll [] args [.list .int]=true:=(pre_splitW hpre).1
 have hc:l.pre.holds [] { args:=args }=true:=(pre_splitW hpre).2
 obtain⟨d,r,rfl,h1,h2⟩:=hasAllW_cons hsh
 obtain rfl:=hasAllW_nil h2
 obtain⟨xs,rfl,h3⟩:=hasW_list h1
 obtain⟨ns,rfl⟩:=items_int h3
 have hlen:ns.length≤n:=by
  unfold OpenLaw.pre at hc
  have h4:(WTm.not (.lt (.lit (.int (n:Int))) (.len (.arg 0)))).holds [] { args:=[.list (ns.map .int)] }=true:=by
   have h4:=(holds_andW hc).1
   rw[hn] at h4
   exact h4
  have h5:=condW_of h4 (w_not (w_lt w_lit (w_len_list (w_arg rfl))))
  rw[List.length_map] at h5
  refine Nat.le_of_not_lt fun q=>?_
  have q':(n:Int)<((ns.length:Nat):Int):=by omega
  first
   | (rw[decide_eq_true q'] at h5;exact absurd h5 (by decide))
   | (simp at h5;omega)
 cases hwl with
 | cons w1 w2=>
  cases w2
  cases w1 with
  | list ho hall=>exact⟨_,_,ns,rfl,rfl,ho,eL ns _ hall,hlen⟩
theorem kS (l:OpenLaw)(args:List WData):l.row.toRowW.claim.post args (.bool true) args=true:=
 postW_of (r:=l.row.toRowW) (X:=(true == true))
  (show WShape.has [] (.bool true) .bool=true by first | rfl | decide | simp[WShape.has,WShape.arms,WShape.armsAll])
  (show (WTm.eq .res (.lit (.bool true))).value [] { args:=args,res:=some (.bool true),after:=args }=some (.bool (true == true)) from w_eq_bool (w_res rfl) w_lit) rfl
theorem attach_call {l:OpenLaw}{n:Nat}{q:Program}{loose:List Str}{XP:(Str→Option Value)→Heap→Prop}{YP:World→Heap→Prop}{d:DefRec}
  (hn:l.most=some n) (hdf:d.params.defaults=[])
  (call:∀ (w:World) (s₀ s₁:Shared) (mg mb:Str→Option Value) (fa:Addr) (o:Obj) (pm cd doc:Value) (a:Addr) (vs:List Value) (ns:List Int),
   Ground q loose [] XP w s₀ mg mb s₁.heap→YP w s₁.heap→
   s₁.heap.get? fa=some o→o.data=.func (docDef d.name d.params d.body d.scope pm cd doc)→s₁.heap.CodeRec cd d.name→mg d.name=some (.ref fa)→
   s₁.heap.get? a=some { cls:=.type "list",data:=.seq vs.toArray }→IntsAre vs ns→ns.length≤n→s₁.gens=#[]→
   codeAny (model l.prog w) callerA (.call (.ref fa) ⟨[.ref a],[]⟩) (fun r s'=>r=.ok (.ret (.bool true))∧OldK s₁.heap s'.heap∧s'.os=s₁.os∧AllBare s'.gens) s₁) :
  WalkO q loose XP YP l.row.toRowW d [] (fun f vs=>PySem.call f vs):=by
 intro w s₀ s₁ mg mb G Y fa o pm cd doc dV kV ho hd hcd hD hmg hg args vals as hpre hlay hrd hwl hlo
 obtain rfl:dV=.none:=Dflts.none hD hdf
 obtain rfl:kV=.none:=Dflts.noKw hD
 obtain⟨a,vs,ns,rfl,rfl,hobj,hints,hlen⟩:=lJ hn hpre hwl
 refine enter_call (codeAny_mono (call w s₀ s₁ mg mb fa o pm cd doc a vs ns G Y ho (fd_plain hd) hcd hmg hobj hints hlen hg) fun r s' hq=>?_)
 obtain⟨rfl,h2,h3,h4⟩:=hq
 exact⟨.inl ⟨.bool true,.bool true,[],rfl,fun _=>rfl,.bool true,kS l _,fun _=>⟨List.Pairwise.nil,fun _ hm=>(nomatch hm)⟩⟩,h2,h3,h4⟩
section
variable {prog:Program} {w:World} {A:Around} {E:Value→Shared→Prop} {s:Shared} {K:Frag}
end
end Att
namespace L2
open PySem PySem.Spec PyProof.Rows
theorem f_:∀ {vs:List Value} {ns:List Int},IntsAre vs ns→Vals (ns.map V.int) vs
 | _,_,.nil=>.nil
 | _,_,.cons n t h=>.cons ⟨t,rfl⟩ (f_ h)
def defArgs (s:Stmt):Arguments:=match s with
 | .FunctionDef _ a _ _ _ _ _ _ _ _=>a
 | _=>{ posonlyargs:=[],args:=[],vararg:=none,kwonlyargs:=[],kw_defaults:=[],kwarg:=none,defaults:=[] }
def defBody (s:Stmt):List Stmt:=match s with
 | .FunctionDef _ _ b _ _ _ _ _ _ _=>b
 | _=>[]
def defScope (s:Stmt):Scope:=match s with
 | .FunctionDef _ _ _ _ _ _ sc _ _ _=>sc
 | _=>{ kind:=.function,names:=[],isGenerator:=false,isCoroutine:=false }
abbrev CX0:CXT:=fun _ _ _ _ _ _=>False
abbrev E0:XK:=fun _ _ _=>False
theorem iL {X:Cx}:ju CX0 X E0:=fun _ _ _ _ _ _ _ h=>h.elim
structure Fun (K:PySem.W.Frag) (x qual:Str) (st:Stmt) (f:Addr) (fd:FuncData):Prop where
 ex:∃ (oc:Value) (od:Option Addr) (kV doc pm:Value) (an:Option Addr) (cdv ct:Value) (osl:Array (Option Value)),
  fd=PySem.W.fnOf x qual (defArgs st) (defBody st) (defScope st) .none kV doc pm an cdv ct∧K.lookup f=some ⟨oc,od,.func fd,osl⟩∧PySem.W.codeIn K cdv qual=true
 kp:PySem.W.keepIn K (.ref f)=true
section
variable {P:Program} {w:World} {K:Kq} {mg:Ks} {base:Heap}
theorem Fun.ok {x qual:Str}{st:Stmt}{f:Addr}{fd:FuncData}{N ps:List Str}{k:Nat}{sp:Sp}(F:Fun K x qual st f fd)(S:FnScope N ps (defScope st))(len:∀ vs H Q E,sp vs H Q E→vs.length=ps.length)
  (hbody:∀ (cdv:Value) (A:Around) (outer:List Env) (s:Shared) (H:Hp) (vs:List V) (Q:VK) (E:XK),Room k (A.deeper (envOfC qual (defScope st) s.heap.objs.size f cdv))→sp vs H Q E→
   ∃ t,PSs (de CX0 P w K mg base N qual (defScope st) f cdv A outer s H E).nox (defBody st) t∧t { nx:=fun _ H'=>Q .non H',rt:=Q } (start N vs) H):FnOk P w K mg base CX0 (k+1) f fd ps sp:=by
 obtain⟨oc,od,kV,doc,pm,an,cdv,ct,osl,rfl,lk,hcd⟩:=F.ex
 refine qf lk hcd S len fun A outer s H vs Q E hr hsp=>?_
 obtain⟨t,h,q⟩:=hbody cdv A outer s H vs Q E hr hsp
 exact⟨t,h.nox,q⟩
theorem Fun.binds {x qual:Str}{st:Stmt}{f:Addr}{fd:FuncData}{ps:List Str}(F:Fun K x qual st f fd)
  (h:∀ (kV doc pm:Value) (an:Option Addr) (cdv ct:Value) (us:List Value),us.length=ps.length→bindArgs (PySem.W.fnOf x qual (defArgs st) (defBody st) (defScope st) .none kV doc pm an cdv ct) ⟨us,[]⟩=pure (ps.zip us)):Binds K fd ps []:=by
 obtain⟨oc,od,kV,doc,pm,an,cdv,ct,osl,rfl,lk,hcd⟩:=F.ex
 exact .all (h kV doc pm an cdv ct)
theorem cA {x qual:Str}{st:Stmt}{f:Addr}{oc:Value}{od an:Option Addr}{osl:Array (Option Value)}{kV doc pm cdv ct:Value}(l:K.lookup f=some ⟨oc,od,.func (PySem.W.fnOf x qual (defArgs st) (defBody st) (defScope st) .none kV doc pm an cdv ct),osl⟩)
  (c:PySem.W.codeIn K cdv qual=true) (k:PySem.W.keepIn K (.ref f)=true):Fun K x qual st f (PySem.W.fnOf x qual (defArgs st) (defBody st) (defScope st) .none kV doc pm an cdv ct):=⟨⟨oc,od,kV,doc,pm,an,cdv,ct,osl,rfl,l,c⟩,k⟩
end
section
variable {X:Cx}
theorem pv (i:Nat){x:Str}{pos:Pos}(hN:X.N[i]?=some x:=by rfl)(hv:Vis X.env.scope x:=by first | exact Or.inl rfl | exact Or.inr (Or.inl rfl) | exact Or.inr (Or.inr rfl))(hd:(x == ("__debug__":Str))=false:=by decide)
  (hcd:(x == ("__classdict__":Str))=false:=by decide):PE X (.Name x pos) (bZ i):=me hN hv hd hcd
end
def Same (H H':Hp):Prop:=∀ b o,H b=some o→H' b=some o
theorem Same.refl (H:Hp):Same H H:=fun _ _ h=>h
theorem Same.trans {H H1 H2:Hp}(a:Same H H1)(b:Same H1 H2):Same H H2:=fun c o h=>b c o (a c o h)
theorem Same.free {H H':Hp}(e:Same H H'){l:Addr}(h:H' l=Option.none):H l=Option.none:=by
 cases q:H l with
 | none=>rfl
 | some o=>
  rw[e l o q] at h
  cases h
theorem Same.seq {K:Kq}{H H':Hp}{a:Addr}{xs:List V}(e:Same H H')(h:SqL K H a xs):SqL K H' a xs:=by
 rcases h with (h | ⟨o,h⟩) | h
 ·exact .inl (.inl (e _ _ h))
 ·exact .inl (.inr ⟨o,e _ _ h⟩)
 ·exact .inr h
end L2
set_option maxHeartbeats 4000000
namespace L2
open PySem PySem.Spec PyProof.Rows
def aW (cs:List (Str×Addr)):List (Str×NameKind)→List (Str×Addr)→List (Str×Addr)
 | [],acc=>acc
 | (n,k)::r,acc=>if k == .free then aW cs r ((n,(cs.lookup n).getD 0)::acc) else aW cs r acc
theorem fw {scope:Scope}{env:Env}(h:∀ x∈scope.names,x.2=.free→∃ c,env.cells.lookup x.1=some c):closureFor scope env=pure (aW env.cells scope.names []):=by
 have key:∀ (names:List (Str×NameKind)) (acc:List (Str×Addr)) (f:Str×NameKind→List (Str×Addr)→Sem (ForInStep (List (Str×Addr)))),
   (∀ n k r,f (n,k) r=if k == .free then (cellOf env n>>=fun c=>pure (.yield ((n,c)::r))) else pure (.yield r))→
   (∀ x∈names,x.2=.free→∃ c,env.cells.lookup x.1=some c)→forIn names acc f=pure (aW env.cells names acc):=by
  intro names
  induction names with
  | nil=>intro acc f _ _;rfl
  | cons x r ih=>
   intro acc f hf hx
   obtain⟨n,k⟩:=x
   rw[Xz,hf]
   unfold aW
   by_cases hk:(k == NameKind.free)=true
   ·rw[Yi hk,Yi hk]
    obtain⟨c,hc⟩:=hx (n,k) Ye (by simpa using hk)
    have e:cellOf env n=pure c:=by unfold cellOf;rw[hc]
    rw[e,pure_bind,pure_bind,hc]
    exact ih _ f hf fun y hy=>hx y (Yc _ hy)
   ·rw[Yl hk,Yl hk,pure_bind]
    exact ih _ f hf fun y hy=>hx y (Yc _ hy)
 unfold closureFor
 show (forIn scope.names ([]:List (Str×Addr)) _>>=fun cs=>pure cs)=_
 rw[key scope.names [] _ (fun n k r=>by
  by_cases hk:(k == NameKind.free)=true
  ·simp only[hk,XH]
  ·simp only[hk]) h]
 rfl
theorem aD {α:Type}(y n:Str)(c:α)(l:List (Str×α)):((n,c)::l).lookup y=if y=n then some c else l.lookup y:=by
 rw[Zd]
 by_cases h:y=n
 ·subst h;simp
 ·have:(y == n)=false:=by simpa using h
  rw[this,Yl h]
theorem aZ {cs:List (Str×Addr)}:∀ (names:List (Str×NameKind)) (acc:List (Str×Addr)) (y:Str) (c:Addr),
  (∀ x∈names,x.2=.free→∃ c,cs.lookup x.1=some c)→(∀ y c,acc.lookup y=some c→cs.lookup y=some c)→(aW cs names acc).lookup y=some c→cs.lookup y=some c
 | [],acc,y,c,_,h,e=>h y c e
 | (n,k)::r,acc,y,c,hx,h,e=>by
  unfold aW at e
  have hr:∀ x∈r,x.2=.free→∃ c,cs.lookup x.1=some c:=fun x hm=>hx x (Yc _ hm)
  by_cases hk:(k == NameKind.free)=true
  ·rw[Yi hk] at e
   refine aZ r _ y c hr (fun z d ez=>?_) e
   obtain⟨c',hc'⟩:=hx (n,k) Ye (by simpa using hk)
   rw[aD] at ez
   split at ez
   ·rename_i q
    subst q
    cases ez
    rw[hc']
    rfl
   ·exact h z d ez
  ·rw[Yl hk] at e
   exact aZ r acc y c hr h e
theorem b9 {cs:List (Str×Addr)}:∀ (names:List (Str×NameKind)) (acc:List (Str×Addr)) (y:Str) (c:Addr),
  (aW cs names acc).lookup y=some c→(y,NameKind.free)∈names∨acc.lookup y=some c
 | [],acc,y,c,e=>.inr e
 | (n,k)::r,acc,y,c,e=>by
  unfold aW at e
  by_cases hk:(k == NameKind.free)=true
  ·rw[Yi hk] at e
   have hk':k=.free:=by simpa using hk
   rcases b9 r _ y c e with q | q
   ·exact .inl (Yc _ q)
   ·rw[aD] at q
    split at q
    ·rename_i z
     subst z
     subst hk'
     exact .inl Ye
    ·exact .inr q
  ·rw[Yl hk] at e
   rcases b9 r acc y c e with q | q
   ·exact .inl (Yc _ q)
   ·exact .inr q
theorem cn {cs:List (Str×Addr)}:∀ (names:List (Str×NameKind)) (acc:List (Str×Addr)) (y:Str),
  ((y,NameKind.free)∈names∨∃ c,acc.lookup y=some c)→∃ c,(aW cs names acc).lookup y=some c
 | [],acc,y,h=>h.elim (fun z=>by cases z) id
 | (n,k)::r,acc,y,h=>by
  unfold aW
  by_cases hk:(k == NameKind.free)=true
  ·rw[Yi hk]
   refine cn r _ y ?_
   rcases h with h | ⟨c,h⟩
   ·rcases Ys.mp h with q | q
    ·cases q
     exact .inr ⟨_,by rw[aD,Yi rfl]⟩
    ·exact .inl q
   ·refine .inr ?_
    by_cases q:y=n
    ·exact⟨_,by rw[aD,Yi q]⟩
    ·exact⟨c,by rw[aD,Yl q];exact h⟩
  ·rw[Yl hk]
   refine cn r acc y ?_
   rcases h with h | h
   ·rcases Ys.mp h with q | q
    ·cases q
     exact absurd rfl hk
    ·exact .inl q
   ·exact .inr h
theorem ig:∀ (names:List (Str×NameKind)) (h:Heap) (acc:List (Str×Addr)) (y:Str) (c:Addr),(cellsFrom h.objs.size names acc).lookup y=some c→
  (h.objs.size≤c∧(pushCells h names).IsCell c none∧(y,NameKind.cell)∈names)∨acc.lookup y=some c
 | [],_,_,_,_,e=>.inr e
 | (n,k)::r,h,acc,y,c,e=>by
  unfold cellsFrom at e
  unfold pushCells
  by_cases hk:(k == NameKind.cell)=true
  ·rw[Yi hk] at e ⊢
   have hk':k=.cell:=by simpa using hk
   have hz:(h.push { cls:=.type "cell",data:=.cell none }).objs.size=h.objs.size+1:=Zv ..
   rw[← hz] at e
   rcases ig r _ _ y c e with⟨q1,q2,q3⟩ | q
   ·exact .inl ⟨by rw[hz] at q1;omega,q2,Yc _ q3⟩
   ·rw[aD] at q
    split at q
    ·rename_i z
     subst z
     cases q
     subst hk'
     exact .inl ⟨Yo _,⟨_,XA r _ _ _ (Yk _ rfl),rfl⟩,Ye⟩
    ·exact .inr q
  ·rw[Yl hk] at e ⊢
   rcases ig r h acc y c e with⟨q1,q2,q3⟩ | q
   ·exact .inl ⟨q1,q2,Yc _ q3⟩
   ·exact .inr q
theorem jq {y:Str}:∀ (names:List (Str×NameKind)) (n:Nat) (acc:List (Str×Addr)),(∀ k,(y,k)∈names→k≠.cell)→(cellsFrom n names acc).lookup y=acc.lookup y
 | [],_,_,_=>rfl
 | (m,k)::r,n,acc,h=>by
  unfold cellsFrom
  have hr:∀ k,(y,k)∈r→k≠.cell:=fun k hk=>h k (Yc _ hk)
  by_cases hk:(k == NameKind.cell)=true
  ·rw[Yi hk,jq r _ _ hr,aD,Yl]
   rintro rfl
   exact h k Ye (by simpa using hk)
  ·rw[Yl hk]
   exact jq r n acc hr
theorem jw:∀ (names:List (Str×NameKind)) (n:Nat) (acc:List (Str×Addr)),(∀ y c,acc.lookup y=some c→c<n)→(∀ y z c,acc.lookup y=some c→acc.lookup z=some c→y=z)→
  ∀ y z c,(cellsFrom n names acc).lookup y=some c→(cellsFrom n names acc).lookup z=some c→y=z
 | [],_,_,_,h=>h
 | (m,k)::r,n,acc,hlt,h=>by
  unfold cellsFrom
  by_cases hk:(k == NameKind.cell)=true
  ·rw[Yi hk]
   refine jw r (n+1) _ (fun y c e=>?_) fun y z c e e'=>?_
   ·rw[aD] at e
    split at e
    ·cases e;exact Xs _
    ·exact Zz (hlt y c e)
   ·rw[aD] at e e'
    split at e <;> split at e'
    ·rename_i a b;rw[a,b]
    ·cases e;exact absurd (hlt z _ e') (YJ _)
    ·cases e';exact absurd (hlt y _ e) (YJ _)
    ·exact h y z c e e'
  ·rw[Yl hk]
   exact jw r n acc hlt h
def cy (env:Env)(scope:Scope)(C:Addr):Env:=
 { scope:=relabel scope env,locals:=C,globals:=env.globals,cells:=cellsFrom (C+1) scope.names (aW env.cells scope.names []),qual:=env.qual,func:=none,code:=env.code,frame:=env.frame,builtins:=env.builtins }
def blk (X:Cx)(scope:Scope)(N:List Str)(s:Shared)(H:Hp)(fp:List Addr)(pz:Kp):Cx where
 prog:=X.prog
 w:=X.w
 K:=X.K
 mg:=X.mg
 base:=X.base
 A:=X.A
 N:=N
 s₀:=s
 H₀:=H
 env:=cy X.env scope s.heap.objs.size
 outer:=X.stack
 stack:=X.stack
 ex:=fp
 fn:=fun x=>scope.names.lookup x == some .local||scope.names.lookup x == some .cell
 calm:=X.calm
 pn:=X.pn++pz
 xe:=fun _ _=>False
structure BlkScope (X:Cx) (scope:Scope):Prop where
 kind:scope.kind=.function
 nd:(scope.names.map (·.1)).Nodup
 free:∀ x∈scope.names,x.2=.free→X.env.kindOf x.1=some .cell∨X.env.kindOf x.1=some .free
theorem bE {α:Type}:∀ {l:List (Str×α)} {n:Str} {c:α},(l.map (·.1)).Nodup→(n,c)∈l→l.lookup n=some c
 | [],_,_,_,h=>by cases h
 | (k,v)::r,n,c,nd,h=>by
  rw[aD]
  rcases Ys.mp h with q | q
  ·cases q;rw[Yi rfl]
  ·have nd':=YY.mp nd
   rw[Yl]
   ·exact bE nd'.2 q
   ·rintro rfl
    exact nd'.1 (YC.mpr ⟨_,q,rfl⟩)
theorem du {env:Env}{x:Str}:∀ (names:List (Str×NameKind)),
  (names.map fun (n,k)=>if (k == NameKind.free&&env.scope.kind == .function&&env.kindOf n == some .cell) then (n,NameKind.cell) else (n,k)).lookup x =
   (names.lookup x).map fun k=>if (k == NameKind.free&&env.scope.kind == .function&&env.kindOf x == some .cell) then NameKind.cell else k
 | []=>rfl
 | (n,k)::r=>by
  show List.lookup x ((if (k == NameKind.free&&env.scope.kind == .function&&env.kindOf n == some .cell)=true then (n,NameKind.cell) else (n,k))::_)=_
  have e:(if (k == NameKind.free&&env.scope.kind == .function&&env.kindOf n == some .cell)=true then (n,NameKind.cell) else (n,k)) =
    (n,if (k == NameKind.free&&env.scope.kind == .function&&env.kindOf n == some .cell)=true then NameKind.cell else k):=by split <;> rfl
  rw[e,aD,aD]
  split
  ·rename_i q
   subst q
   rfl
  ·exact du r
theorem fP {env:Env}{scope:Scope}{C:Addr}(x:Str):(cy env scope C).kindOf x =
  (scope.names.lookup x).map fun k=>if (k == NameKind.free&&env.scope.kind == .function&&env.kindOf x == some .cell) then NameKind.cell else k:=du scope.names
section
variable {X:Cx} {pz:Kp} {σ:St} {H:Hp} {s:Shared} {scope:Scope} {N:List Str} {fp:List Addr}
theorem BlkScope.cl (b:BlkScope X scope)(ok:X.Ok):∀ x∈scope.names,x.2=.free→∃ c,X.env.cells.lookup x.1=some c:=fun x hx e=>ok.has x.1 (b.free x hx e)
theorem bQ (b:BlkScope X scope)(I:Inv X pz σ H s){y:Str}{c:Addr}(e:(cy X.env scope s.heap.objs.size).cells.lookup y=some c) :
  (s.heap.objs.size<c∧(pushCells (s.heap.push { cls:=.type "dict",data:=.dict #[] }) scope.names).IsCell c none∧(y,NameKind.cell)∈scope.names)∨(X.env.cells.lookup y=some c∧(y,NameKind.free)∈scope.names):=by
 have hz:(s.heap.push { cls:=.type "dict",data:=.dict #[] }).objs.size=s.heap.objs.size+1:=Zv ..
 have e':(cellsFrom (s.heap.push { cls:=.type "dict",data:=.dict #[] }).objs.size scope.names (aW X.env.cells scope.names [])).lookup y=some c:=by rw[hz];exact e
 rcases ig _ _ _ _ _ e' with⟨h1,h2,h3⟩ | h
 ·exact .inl ⟨by rw[hz] at h1;omega,h2,h3⟩
 ·refine .inr ⟨aZ _ _ y c (b.cl I.ok) (fun _ _ z=>by cases z) h,?_⟩
  rcases b9 _ _ _ _ h with q | q
  ·exact q
  ·cases q
theorem rd (b:BlkScope X scope)(I:Inv X pz σ H s)(hf:∀ a∈fp,cX X pz H a)(hlt:∀ a∈fp,a<s.heap.objs.size):(blk X scope N s H fp pz).Ok:=by
 have clt:∀ y c,X.env.cells.lookup y=some c→c<s.heap.objs.size:=fun y c e=>by obtain⟨v,q⟩:=I.cell y c e;exact q.lt
 refine⟨I.ok.mod,b.kind,I.ok.glob,I.ok.blt,Yo _,fun x y c e e'=>?_,fun x hx=>?_,fun x c hx e=>?_,I.ok.hd,I.ok.frames,.inl rfl,fun a ha=>⟨Yq (hlt a ha),fun x c e=>?_⟩,I.bs,YB I.ok.bsz I.sz,fun a o e ha=>?_,fun a ha=>?_,I.stack,I.stkFree⟩
 ·refine jw scope.names (s.heap.objs.size+1) _ (fun y c q=>?_) (fun y z c q q'=>?_) x y c e e'
  ·exact Zz (clt y c (aZ _ _ y c (b.cl I.ok) (fun _ _ z=>by cases z) q))
  ·exact I.ok.inj y z c (aZ _ _ y c (b.cl I.ok) (fun _ _ z=>by cases z) q) (aZ _ _ z c (b.cl I.ok) (fun _ _ z=>by cases z) q')
 ·have hx':(cy X.env scope s.heap.objs.size).kindOf x=some .cell∨(cy X.env scope s.heap.objs.size).kindOf x=some .free:=hx
  rw[fP] at hx'
  show ∃ c,(cellsFrom (s.heap.objs.size+1) scope.names (aW X.env.cells scope.names [])).lookup x=some c
  cases q:scope.names.lookup x with
  | none=>rw[q] at hx';rcases hx' with z | z <;> cases z
  | some k=>
   have hm:(x,k)∈scope.names:=YR q
   cases k with
   | cell=>exact Zy.mp (ZI scope.names _ _ (.inl q))
   | free=>
    obtain⟨c,hc⟩:=cn (cs:=X.env.cells) scope.names [] x (.inl hm)
    exact Zy.mp (ZI scope.names _ _ (.inr (by rw[hc];rfl)))
   | _=>rw[q] at hx';exfalso;revert hx';simp
 ·rcases bQ b I e with⟨h1,_,_⟩ | ⟨_,h2⟩
  ·exact Zc h1
  ·exfalso
   have q:=bE b.nd h2
   have hx':(scope.names.lookup x == some .local||scope.names.lookup x == some .cell)=true:=hx
   rw[q] at hx'
   revert hx'
   decide
 ·rcases bQ b I e with⟨h1,_,_⟩ | ⟨h1,_⟩
  ·intro z
   subst z
   exact absurd (Zo (hlt _ ha) h1) (YJ _)
  ·exact (hf a ha).2.2.2.2.1 x c h1
 ·have h4:=(hf a ha).2.2.2.1
  rcases h4 with z | z
  ·exact I.ok.noex a o e z
  ·exact absurd (Yh (Yg e) (YB I.ok.bsz z)) (YJ _)
 ·intro z
  rcases Ys.mp (I.stkSub a z) with q | q
  ·exact (hf a ha).2.1 q
  ·exact (hf a ha).2.2.1 q
def bj (own:Nat)(ix:List Nat)(σ:St):St:=List.replicate own none++ix.map fun j=>(σ[j]?).join
theorem cR (own:Nat)(ix:List Nat)(σ:St):(bj own ix σ).length=own+ix.length:=by
 unfold bj;rw[YE,YD,Yf]
theorem gB {own:Nat}{ix:List Nat}{σ:St}{i:Nat}{v:V}(h:(bj own ix σ)[i]?=some (some v)):own≤i∧∃ j,ix[i-own]?=some j∧σ[j]?=some (some v):=by
 unfold bj at h
 by_cases hi:i<own
 ·rw[YT (by rw[YD];exact hi),ZF,Yi hi] at h
  cases h
 ·rw[Ze (by rw[YD];omega),YD,Yv] at h
  refine⟨by omega,?_⟩
  cases q:ix[i-own]? with
  | none=>rw[q] at h;cases h
  | some j=>
   rw[q] at h
   refine⟨j,rfl,?_⟩
   cases q2:σ[j]? with
   | none=>rw[YS,q2] at h;cases h
   | some o=>
    rw[YS,q2] at h
    cases o with
    | none=>cases h
    | some v'=>rw[Option.join_some] at h;cases h;rfl
structure Caps (X:Cx) (scope:Scope) (N:List Str) (own:Nat) (ix:List Nat):Prop where
 len:N.length=own+ix.length
 cap:∀ (i:Nat) (j:Nat) (x:Str),N[own+i]?=some x→ix[i]?=some j→X.N[j]?=some x∧scope.names.lookup x=some .free
theorem lv {own:Nat}{ix:List Nat}(b:BlkScope X scope)(cp:Caps X scope N own ix)(I:Inv X pz σ H s)(hf:∀ a∈fp,cX X pz H a)(hlt:∀ a∈fp,a<s.heap.objs.size) :
  Inv (blk X scope N s H fp pz) [] (bj own ix σ) H { s with heap:=pushCells (s.heap.push { cls:=.type "dict",data:=.dict #[] }) scope.names }:=by
 have kp:∀ a o,s.heap.get? a=some o→(pushCells (s.heap.push { cls:=.type "dict",data:=.dict #[] }) scope.names).get? a=some o:=fun a o e=>XA _ _ a o (Yb _ e)
 refine⟨rd b I hf hlt,rfl,I.bare,Un.kept kp,⟨_,(Heap.Ns.new s.heap (.type "dict")).keeps (XA _ _),fun i x v e1 e2 e3=>?_⟩,fun y c e=>?_,I.fresh,fun y c e=>?_,fun p hp=>?_,I.hok.kept kp,?_⟩
 ·obtain⟨ho,j,ej,ev⟩:=gB e2
  have e1':N[own+(i-own)]?=some x:=by rw[show own+(i-own)=i by omega];exact e1
  obtain⟨hN,hfree⟩:=cp.cap (i-own) j x e1' ej
  obtain⟨m,hn,hl⟩:=I.loc
  have hk:X.env.kindOf x=some .cell∨X.env.kindOf x=some .free:=b.free (x,.free) (YR hfree) rfl
  have hv:Vis X.env.scope x:=hk.elim (fun z=>.inr (.inl z)) fun z=>.inr (.inr z)
  obtain⟨u,r,lk⟩:=hl j x v hN ev hv
  refine⟨u,r,.inr ⟨?_,?_⟩⟩
  ·show (cy X.env scope s.heap.objs.size).kindOf x=some .cell∨(cy X.env scope s.heap.objs.size).kindOf x=some .free
   rw[fP,hfree]
   show some (if _ then NameKind.cell else NameKind.free)=some .cell∨some (if _ then NameKind.cell else NameKind.free)=some .free
   split
   ·exact .inl rfl
   ·exact .inr rfl
  ·rcases lk with⟨k,_⟩ | ⟨_,c,ec,z⟩
   ·rw[k] at hk
    rcases hk with z | z <;> cases z
   ·refine⟨c,?_,z.keeps kp⟩
    show (cellsFrom (s.heap.objs.size+1) scope.names (aW X.env.cells scope.names [])).lookup x=some c
    rw[jq]
    ·obtain⟨c',hc'⟩:=cn (cs:=X.env.cells) scope.names [] x (.inl (YR hfree))
     have:=aZ _ _ x c' (b.cl I.ok) (fun _ _ z=>by cases z) hc'
     rw[ec] at this
     cases this
     exact hc'
    ·intro k hk' z
     rw[bE b.nd hk'] at hfree
     cases hfree
     cases z
 ·rcases bQ b I e with⟨_,h2,_⟩ | ⟨h1,_⟩
  ·exact⟨_,h2⟩
  ·obtain⟨v,z⟩:=I.cell y c h1
   exact⟨v,z.keeps kp⟩
 ·rcases bQ b I e with⟨h1,_,_⟩ | ⟨h1,_⟩
  ·exact I.hok.fresh (Zc h1)
  ·exact I.freeC y c h1
 ·have hp':p∈X.pn++pz:=by
   have:p∈(X.pn++pz)++[]:=hp
   rwa [YX] at this
  obtain⟨e,n,ne,nf,d⟩:=I.pin p hp'
  refine⟨kp _ _ e,n,Yq (Yg e),fun z=>?_,d⟩
  rcases Ys.mp (I.stkSub p.1 z) with q | q
  ·exact ne q
  ·exact nf q
 ·rw[cR]
  exact cp.len.symm
theorem ja {σ':St}{H':Hp}{s':Shared}{h':Heap}{pl:Kp}(I:Inv X pz σ H s)(hf:∀ a∈fp,cX X pz H a)(J:Inv (blk X scope N s H fp pz) pl σ' H' s')(hs:Heap.SameBut s.heap.objs.size s'.heap h') :
  Inv X pz σ H' { s' with heap:=h' }:=by
 have hC:H' s.heap.objs.size=none:=J.free
 have ne:∀ a o,s.heap.get? a=some o→a≠s.heap.objs.size:=fun a o e=>Yq (Yg e)
 have u:Un (frs X.stack) fp H H' s.heap s'.heap:=J.base
 refine I.call' (ch:=fp) (s':={ s' with heap:=h' }) J.os ⟨fun a o e n h1 h2=>(hs.2 a (ne a o e)).trans (u.keep a o e n h1 h2),fun a o e n h1 h2=>?_,fun a o e n h2=>u.free a o e n h2,fun a o e h2=>?_,u.tups,u.frzs,u.tbls⟩ (fun a o e=>?_) J.bare fun a ha=>?_
 ·obtain⟨sl,q⟩:=u.slot a o e n h1 h2
  exact⟨sl,(hs.2 a (ne a o e)).trans q⟩
 ·obtain⟨o',q⟩:=u.there a o e h2
  exact⟨o',(hs.2 a (ne a o e)).trans q⟩
 ·refine (J.hok a o e).stay (fun c v hc q=>(hs.2 c ?_).trans q) (fun _ q=>q) fun _ _ q=>q
  rintro rfl
  rcases hc with rfl | hc
  ·rw[hC] at e;cases e
  ·rw[hC] at hc;cases hc
 ·obtain⟨_,h2,_,h4,h5,h6⟩:=hf a ha
  exact⟨h4,h2,h5,h6⟩
theorem lZ {pl:Kp}{H':Hp}(b:BlkScope X scope)(I:Inv X pz σ H s)(hf:∀ a∈fp,cX X pz H a)(hlt:∀ a∈fp,a<s.heap.objs.size)(hn:∀ a∈fp,H' a=none) :
  ∀ a∈fp,cX (blk X scope N s H fp pz) [] H' a:=fun a ha=>by
 obtain⟨_,h2,h3,h4,h5,h6⟩:=hf a ha
 refine⟨hn a ha,Yq (hlt a ha),fun z=>?_,.inl ha,fun x c e=>?_,fun p hp=>?_⟩
 ·rcases Ys.mp (I.stkSub a z) with q | q
  ·exact h2 q
  ·exact h3 q
 ·rcases bQ b I e with⟨q,_,_⟩ | ⟨q,_⟩
  ·intro z
   subst z
   exact absurd (Zo (hlt _ ha) q) (YJ _)
  ·exact h5 x c q
 ·have hp':p∈X.pn++pz:=by
   have:p∈(X.pn++pz)++[]:=hp
   rwa [YX] at this
  exact h6 p hp'
end
theorem jA {M:Model}{A:Around}{E:Kv}{s:Shared}{scope:Scope}{env:Env}{Q:Env→Shared→Prop}(cl:List (Str×Addr))
  (h:∀ cenv:Env,cenv={ scope:=scope,locals:=s.heap.objs.size,globals:=env.globals,cells:=cellsFrom (s.heap.objs.size+1) scope.names cl,qual:=env.qual,func:=none,code:=env.code,frame:=env.frame,builtins:=env.builtins }→
   Q cenv { s with heap:=pushCells (s.heap.push { cls:=.type "dict",data:=.dict #[] }) scope.names }) :
  wpAny M A (newFunctionEnv scope env.globals cl [] env.qual none .none (some env)) Q E s:=by
 simp only[newFunctionEnv,Option.isSome_some,XH]
 refine Yd (wpAny_alloc ?_)
 refine Yd (wpAny_layCells _ (fun name kind cells=>by cases hkc:kind == NameKind.cell <;> simp[hkc]) _ _ _ _ ?_)
 rw[show ({ s with heap:=s.heap.push { cls:=.type "dict",data:=.dict #[] } }:Shared).heap.objs.size=s.heap.objs.size+1 from Zv ..]
 refine Yd ?_
 rw[XC]
 exact Yp (Yp (h _ rfl))
theorem kT {prog:Program}{w:World}{A:Around}{R:Kr}{s:Shared}{elt target iter:Expr}{ifs:List Expr}{scope:Scope}{pos:Pos}{it acc:Value}{env:Env}(I:Nat→Shared→Prop)
  (turn:∀ n s,I n s→wpAny (model prog w) A (pyNext it) (fun r s₁=>match r with
   | none=>R (.ok .next) s₁
   | some v=>wpAny (model prog w) A (letOwnedTupleGo target it v) (fun _ s₁=>wpAny (model prog w) A (assign target env v) (fun _ s₂=>
     wpAny (model prog w) A (forIn ifs true fun c r=>if r=true then do let ok ← isTrue c env (eval c env);pure (ForInStep.yield ok) else pure (ForInStep.yield r)) (fun ok s₃=>
      if ok=true then wpAny (model prog w) A (eval elt env) (fun x s₄=>
       wpAny (model prog w) A (call (.builtin "list.append") [acc,x]) (fun _ s₅=>∃ m,m<n∧I m s₅) (fun _ _=>False) s₄) (fun _ _=>False) s₃
      else ∃ m,m<n∧I m s₃) (fun _ _=>False) s₂) (fun _ _=>False) s₁) (fun _ _=>False) s₁) (fun _ _=>False) s)
  (n:Nat) (h:I n s) :
  codeAny (model prog w) A (.compLoop (.ListComp elt [⟨target,iter,ifs,0⟩] scope pos) 0 it acc env) R s:=by
 refine codeAny_loop rfl I (fun n s hI=>?_) n h
 show wpAny _ A ((compTurn (.ListComp elt [⟨target,iter,ifs,0⟩] scope pos) 0 it acc env).onRaise (fun x=>do noteFrame x env;theTreesLotGoes x)) _ _ s
 refine wpAny_noted ?_
 rw[compTurn_list]
 refine Yd (wpAny_standAt (Yd (Zp (turn n s hI) (fun r s₁ h₁=>?_) fun _ _ h'=>h'.elim)))
 cases r with
 | none=>exact Yp h₁
 | some v=>
  refine Yd (Zp h₁ (fun _ s₁' h₁'=>?_) fun _ _ h'=>h'.elim)
  refine Yd (Zp h₁' (fun _ s₂ h₂=>Yd (Zp h₂ (fun ok s₃ h₃=>?_) fun _ _ h'=>h'.elim)) fun _ _ h'=>h'.elim)
  cases ok with
  | true=>
   rw[Yi rfl] at h₃
   simp only[XH]
   exact Yd (Yd (Zp h₃ (fun x s₄ h₄=>Yd (Zp h₄ (fun _ s₅ h₅=>Yp (Yp ⟨rfl,h₅⟩)) fun _ _ h'=>h'.elim)) fun _ _ h'=>h'.elim))
  | false=>
   rw[Yl Yj] at h₃
   simp only[Xe,if_false]
   exact Yp ⟨rfl,h₃⟩
def vA:TT:=fun _ H Q=>Q true H
def h8 (X:Cx)(ifs:List Expr)(t:TT):Prop:=
 ∀ (pz:Kp) (s:Shared) (σ:St) (H:Hp) (Q:Bool→Hp→Prop),Inv X pz σ H s→t σ H Q→
  wpAny (model X.prog X.w) X.A (forIn ifs true fun c r=>if r=true then do let ok ← isTrue c X.env (eval c X.env);pure (ForInStep.yield ok) else pure (ForInStep.yield r)) (TP X pz σ Q) X.xe s
theorem mZ {X:Cx}:h8 X [] vA:=fun _ _ _ H _ I h=>Yp ⟨H,I,h⟩
theorem nS {X:Cx}{c:Expr}{t:TT}(h:PT X c t):h8 X [c] t:=fun pz s σ H Q I q=>wpAny_tests_one (h pz s σ H Q I q)
def nM (own:Nat)(ix:List Nat)(wi:TI)(g:TG)(tc:TT)(te:TE):TE:=fun σ H Q=>wi σ H fun J H1=>∀ acc,H1 acc=none→∃ W:Nat→Nat→List V→Hp→Prop,
 (∃ m,W 0 m [] (upd H1 acc (.lst [])))∧∀ i m ys H,W i m ys H→
  (J.stop i H∧Q (.ref acc) H)∨(J.go i H∧∃ N:List V→Hp→Prop,(∀ ys' H',N ys' H'→∃ m',m' < m∧W (i+1) m' ys' H')∧∀ x H',J.yld i H x H'→g x (bj own ix σ) H' fun σ2 H2=>
   (σ2.length=own+ix.length∧∀ (j:Nat) v,(bj own ix σ)[j]?=some (some v)→σ2[j]?=some (some v)) ∧
   tc σ2 H2 fun ok H3=>if ok=true then te σ2 H3 fun y H4=>H4 acc=some (.lst ys)∧ys.length<sizeLine∧N (ys++[y]) (upd H4 acc (.lst (ys++[y]))) else N ys H3)
section
variable {X:Cx} {elt tg iter:Expr} {ifs:List Expr} {scope:Scope} {pos:Pos} {N:List Str} {own:Nat} {ix:List Nat} {wi:TI} {g:TG} {tc:TT} {te:TE}
theorem eZ {pz:Kp}{σ:St}{s:Shared}{Q:VK}{itv:Value}{RR:Value→Addr→Result→Shared→Prop}{E:Kv}(hcalm:X.calm=true)(b:BlkScope X scope)(cp:Caps X scope N own ix)
  (hg:∀ s H fp pz,PG (blk X scope N s H fp pz) tg g) (hc:∀ s H fp pz,h8 (blk X scope N s H fp pz) ifs tc) (he:∀ s H fp pz,PE (blk X scope N s H fp pz) elt te)
  (hp:PIE X pz σ tg (fun J H1=>∀ acc,H1 acc=none→∃ W:Nat→Nat→List V→Hp→Prop,
   (∃ m,W 0 m [] (upd H1 acc (.lst [])))∧∀ i m ys H,W i m ys H→
    (J.stop i H∧Q (.ref acc) H)∨(J.go i H∧∃ N:List V→Hp→Prop,(∀ ys' H',N ys' H'→∃ m',m' < m∧W (i+1) m' ys' H')∧∀ x H',J.yld i H x H'→g x (bj own ix σ) H' fun σ2 H2=>
     (σ2.length=own+ix.length∧∀ (j:Nat) v,(bj own ix σ)[j]?=some (some v)→σ2[j]?=some (some v)) ∧
     tc σ2 H2 fun ok H3=>if ok=true then te σ2 H3 fun y H4=>H4 acc=some (.lst ys)∧ys.length<sizeLine∧N (ys++[y]) (upd H4 acc (.lst (ys++[y]))) else N ys H3)) itv s)
  (hR:∀ (s3:Shared) (H3:Hp) (fp:List Addr) (acc:Addr) (σ':St) (H':Hp) (s':Shared),Inv X pz σ H3 s3→(∀ a∈fp,cX X pz H3 a)→Inv (blk X scope N s3 H3 fp pz) [] σ' H' s'→Q (.ref acc) H'→RR (.ref acc) s3.heap.objs.size (.ok .next) s') :
  wpAny (model X.prog X.w) X.A (newList []) (fun acc s₃=>wpAny (model X.prog X.w) X.A (newFunctionEnv scope X.env.globals (aW X.env.cells scope.names []) [] X.env.qual none .none (some X.env)) (fun cenv s₄=>
   codeAny (model X.prog X.w) X.A (.compStart (.ListComp elt [⟨tg,iter,ifs,0⟩] scope pos) 0 itv acc { cenv with scope:=relabel scope X.env }) (RR acc cenv.locals) s₄) E s₃) E s:=by
 obtain⟨it,fp,tn,J,H1,rfl,I1,T,st1,f1,hacc⟩:=hp
 refine wpAny_newObj_type ?_
 -- the list
 have I3:Inv X pz σ (upd H1 s.heap.objs.size (.lst [])) { s with heap:=s.heap.push { cls:=.type "list",dict:=none,data:=.seq ([]:List Value).toArray } }:=I1.lnew (ys:=[]) (its:=[]) .nil (YG _)
 generalize hs3:({ s with heap:=s.heap.push { cls:=.type "list",dict:=none,data:=.seq ([]:List Value).toArray } }:Shared)=s3 at I3 ⊢
 have kp3:∀ a o,s.heap.get? a=some o→s3.heap.get? a=some o:=fun a o e=>by rw[← hs3];exact Yb _ e
 have st3:tn 0 s3.heap:=T.keep _ _ _ st1 fun a _ o e=>kp3 a o e
 have lt1:∀ a∈fp,a<s.heap.objs.size:=fun a ha=>by obtain⟨o,e,_⟩:=T.obj _ _ st1 a ha;exact Yg e
 have f3:∀ a∈fp,cX X pz (upd H1 s.heap.objs.size (.lst [])) a:=fun a ha=>⟨by rw[ae (Yq (lt1 a ha))];exact (f1 a ha).1,(f1 a ha).2⟩
 have lt3:∀ a∈fp,a<s3.heap.objs.size:=fun a ha=>by obtain⟨o,e,_⟩:=T.obj _ _ st3 a ha;exact Yg e
 obtain⟨W,⟨m0,w0⟩,turn⟩:=hacc s.heap.objs.size I1.fresh
 generalize hH3:upd H1 s.heap.objs.size (.lst [])=H3 at I3 f3 w0
 generalize hacc':s.heap.objs.size=acc at w0 turn ⊢
 refine jA _ fun cenv hc'=>?_
 subst hc'
 have J0:=lv (N:=N) (fp:=fp) b cp I3 f3 lt3
 have st4:tn 0 (pushCells (s3.heap.push { cls:=.type "dict",data:=.dict #[] }) scope.names):=T.keep _ _ _ st3 fun a _ o e=>XA _ _ a o (Yb _ e)
 generalize hs4:({ s3 with heap:=pushCells (s3.heap.push { cls:=.type "dict",data:=.dict #[] }) scope.names }:Shared)=s4 at J0 ⊢
 have st4':tn 0 s4.heap:=by rw[← hs4];exact st4
 -- the loop
 have loop:codeAny (model X.prog X.w) X.A (.compLoop (.ListComp elt [⟨tg,iter,ifs,0⟩] scope pos) 0 (.ref it) (.ref acc) (cy X.env scope s3.heap.objs.size)) (RR (.ref acc) s3.heap.objs.size) s4:=by
  refine kT (fun n s'=>∃ i ys H',Inv (blk X scope N s3 H3 fp pz) [] (bj own ix σ) H' s'∧tn i s'.heap∧(∀ a∈fp,H' a=none)∧W i n ys H') ?_ m0 ⟨0,[],H3,J0,st4',fun a ha=>(f3 a ha).1,w0⟩
  rintro n s5 ⟨i,ys,H5,J5,st5,fr5,w5⟩
  have fp5:=lZ (pl:=[]) (N:=N) b I3 f3 lt3 fr5
  rcases turn i n ys H5 w5 with⟨stop,q⟩ | ⟨go,NN,hN,step⟩
  ·refine thn (T.done (blk X scope N s3 H3 fp pz) rfl rfl rfl hcalm i [] s5 _ H5 _ J5 fp5 st5 stop) fun r s6 ⟨hr,J6⟩=>?_
   subst hr
   exact hR s3 H3 fp acc _ H5 s6 I3 f3 J6 q
  ·refine thn (T.item (blk X scope N s3 H3 fp pz) rfl rfl rfl hcalm i [] s5 _ H5 _ J5 fp5 st5 go) fun r s6 ⟨u,hr,h6⟩=>?_
   subst hr
   refine thn h6 fun _ s7 hh_=>?_
   obtain⟨x,H7,J7,r7,y7,st7,fr7⟩:=hh_
   have fp7:=lZ (pl:=[]) (N:=N) b I3 f3 lt3 fr7
   have J7':=J7.pinned fp7 (T.obj _ _ st7)
   have back:∀ {σ8:St} {H8:Hp} {s8:Shared} {zs:List V},Inv (blk X scope N s3 H3 fp pz) ([]++fL fp s7.heap) σ8 H8 s8→(σ8.length=own+ix.length∧∀ (j:Nat) v,(bj own ix σ)[j]?=some (some v)→σ8[j]?=some (some v))→NN zs H8→
     ∃ m,m<n∧∃ i ys H',Inv (blk X scope N s3 H3 fp pz) [] (bj own ix σ) H' s8∧tn i s8.heap∧(∀ a∈fp,H' a=none)∧W i m ys H':=fun {σ8 H8 s8 zs} J8 hw n8=>by
    obtain⟨m',hm,w8⟩:=hN zs H8 n8
    refine⟨m',hm,i+1,zs,H8,(J8.unpinned).weak (by rw[cR,hw.1]) hw.2,T.keep _ _ _ st7 fun a ha o e=>(J8.pin (a,o) (YK _ (YK _ (bX ha e)))).1,fun a ha=>?_,w8⟩
    obtain⟨o,e,d⟩:=T.obj _ _ st7 a ha
    exact (J8.pin (a,o) (YK _ (YK _ (bX ha e)))).2.1
   refine thn (hg s3 H3 fp pz _ s7 _ H7 x u _ J7' r7 (step x H7 y7)) fun _ s8 hh_=>?_
   obtain⟨σ8,H8,J8,hw,q8⟩:=hh_
   refine thn (hc s3 H3 fp pz _ s8 σ8 H8 _ J8 q8) fun ok s9 hh_=>?_
   obtain⟨H9,J9,q9⟩:=hh_
   cases ok with
   | false=>
    rw[Yl Yj] at q9 ⊢
    exact back J9 hw q9
   | true=>
    rw[Yi rfl] at q9 ⊢
    refine thn (he s3 H3 fp pz _ s9 σ8 H9 _ J9 q9) fun y s10 hh_=>?_
    obtain⟨z,H10,J10,rz,e10,hlt,n10⟩:=hh_
    refine thn (bR (X:=blk X scope N s3 H3 fp pz) _ s10 σ8 H10 (.ref acc) [z] (.ref acc) [y] (fun v H'=>v=.non∧H'=upd H10 acc (.lst (ys++[z]))) J10 rfl (.cons rz .nil) ⟨acc,ys,z,rfl,rfl,e10,hlt,rfl,rfl⟩) fun _ s11 hh_=>?_
    obtain⟨_,H11,J11,_,_,e11⟩:=hh_
    subst e11
    exact back J11 hw n10
 subst hs4
 exact codeAny_compStart_list loop (T.self _ _ _ _ _ st4' loop)
theorem oE (hcalm:X.calm=true)(b:BlkScope X scope)(cp:Caps X scope N own ix)(hi:PI X tg iter wi)
  (hg:∀ s H fp pz,PG (blk X scope N s H fp pz) tg g) (hc:∀ s H fp pz,h8 (blk X scope N s H fp pz) ifs tc) (he:∀ s H fp pz,PE (blk X scope N s H fp pz) elt te)
  (hnames:∀ y∈scope.names,y.2=.local→scope.names.lookup y.1=some .local:=by decide)
  (hs:∀ x,foldedSetIterable iter X.env x=pure x:=by intro _;rfl):PE X (.ListComp elt [⟨tg,iter,ifs,0⟩] scope pos) (nM own ix wi g tc te):=by
 intro pz s σ H Q I h
 rw[eval_ListComp]
 refine wpAny_comprehension_free (use:=none) rfl hs (fw (b.cl I.ok)) b.kind hnames (thn (hi pz s σ H _ I h) fun v s1 h1=>thn h1 fun itv s2 h2=>?_)
 refine eZ (RR:=fun acc C=>compPost (model X.prog X.w) X.A X.xe none (EP X pz σ Q) acc C) hcalm b cp hg hc he h2 ?_
 intro s3 H3 fp acc σ' H' s' I3 f3 J q
 obtain⟨m,hn,_⟩:=id J.loc
 exact⟨m,hn,fun h' hs'=>⟨.ref acc,H',ja I3 f3 J hs',rfl,q⟩⟩
theorem jo {i:Nat}{y:Str}{py spos:Pos}(hcalm:X.calm=true)(hN:X.N.Nodup)(hiN:X.N[i]?=some y)(hx:Loc X.env.scope y)(b:BlkScope X scope)(cp:Caps X scope N own ix)(hi:PI X tg iter wi)
  (hg:∀ s H fp pz,PG (blk X scope N s H fp pz) tg g) (hc:∀ s H fp pz,h8 (blk X scope N s H fp pz) ifs tc) (he:∀ s H fp pz,PE (blk X scope N s H fp pz) elt te)
  (hsw:swapsWith (.ListComp elt [⟨tg,iter,ifs,0⟩] scope pos) (some (.Name y py)) spos.line X.env=pure true:=by rfl)
  (hnames:∀ y∈scope.names,y.2=.local→scope.names.lookup y.1=some .local:=by decide)
  (hs:∀ x,foldedSetIterable iter X.env x=pure x:=by intro _;rfl)
  (hf:X.fn y=true∨X.env.scope.names.lookup y=some .local:=by first | exact .inl rfl | exact .inr rfl | assumption) :
  PS X (.Assign [.Name y py] (.ListComp elt [⟨tg,iter,ifs,0⟩] scope pos) spos) (lP (nM own ix wi g tc te) (d_ i)):=by
 intro pz s σ H D I h
 rw[exec_Assign_Name_used _ _ _ _ hsw]
 refine Yd (wpAny_standAt (Yd ?_))
 show wpAny _ X.A (do let _ ← comprehension (.ListComp elt [⟨tg,iter,ifs,0⟩] scope pos) scope X.env _ (newList []) false (eval iter X.env) (some (assign (.Name y py) X.env))) _ _ s
 refine Yd (Zp (wpAny_comprehension_free (use:=some (assign (.Name y py) X.env)) (Q:=fun _ s'=>SP X pz D .next s') rfl hs (fw (b.cl I.ok)) b.kind hnames
  (thn (hi pz s σ H _ I h) fun v s1 h1=>thn h1 fun itv s2 h2=>?_)) (fun _ s' hq=>Yp (Yp hq)) fun _ _ e=>e)
 refine eZ (Q:=fun x H1=>d_ i x σ H1 D.nx) (RR:=fun acc C=>compPost (model X.prog X.w) X.A X.xe (some (assign (.Name y py) X.env)) (fun _ s'=>SP X pz D .next s') acc C) hcalm b cp hg hc he h2 ?_
 intro s3 H3 fp acc σ' H' s' I3 f3 J q
 obtain⟨m,hn,_⟩:=id J.loc
 have hn:s'.heap.Ns s3.heap.objs.size m:=hn
 have I':Inv X pz σ H' s':=ja I3 f3 J (Heap.SameBut.refl ..)
 show wpAny _ X.A (assign (.Name y py) X.env (.ref acc)) _ _ s'
 refine wpAny_assign_Name (gj (v:=.ref acc) I' hN hiN hx rfl (fun s'' I'' hh_=>?_) hf)
 obtain⟨a,hsb,ha⟩:=hh_
 have hne:s3.heap.objs.size≠a:=by
  rcases ha with ha | ha
  ·rw[ha];exact Zn I3.lt
  ·obtain⟨v,z⟩:=I3.cell y a ha
   exact Zn z.lt
 refine⟨m,hn.sameBut hsb hne,fun h' hs'=>?_⟩
 refine⟨σ.set i (some (.ref acc)),H',?_,q⟩
 exact I''.turned (h':=h') (t':=s''.toks) (it:=s3.heap.objs.size) (fun c o hc e=>(hs'.2 c hc).trans e) J.free (Zn I3.lt) (.inr I3.sz) (fun x c e=>by obtain⟨v,z⟩:=I3.cell x c e;exact Yq z.lt) fun p hp=>Yq (Yg (I3.pin p hp).1)
end
section
variable {κ:Type} [DecidableEq κ]
def cm (kvs:List (κ×V))(k:κ):Option V:=(kvs.find? fun kv=>decide (kv.1=k)).map (·.2)
def cY (kvs:List (κ×V))(k:κ)(v:V):List (κ×V):=
 if (kvs.any fun kv=>decide (kv.1=k))=true then kvs.map (fun kv=>if kv.1=k then (kv.1,v) else kv) else kvs++[(k,v)]
theorem fB {p:κ×V}{r:List (κ×V)}{k:κ}(e:p.1=k):cm (p::r) k=some p.2:=by simp[cm,Zq,e]
theorem fF {p:κ×V}{r:List (κ×V)}{k:κ}(e:¬ p.1=k):cm (p::r) k=cm r k:=by simp[cm,Zq,e]
theorem iZ (k:κ):∀ kvs:List (κ×V),(kvs.any fun kv=>decide (kv.1=k))=(cm kvs k).isSome
 | []=>rfl
 | p::r=>by
  rw[Xu]
  by_cases e:p.1=k
  ·simp only[fB e,YN e,Bool.true_or,Option.isSome_some]
  ·rw[fF e,YA e,Bool.false_or];exact iZ k r
theorem cx (kvs:List (κ×V))(k:κ)(v:V):(cY kvs k v).length≤kvs.length+1:=by
 unfold cY
 split
 ·rw[Yf];omega
 ·rw[YE,Yu,YL];omega
theorem RelO.isSome_eq {o:Option V}{u:Option Value}(r:RelO o u):o.isSome=u.isSome:=by
 cases o with
 | none=>cases u with
  | none=>rfl
  | some _=>exact (show False from r).elim
 | some _=>cases u with
  | none=>exact (show False from r).elim
  | some _=>rfl
theorem KV.val {kvs:List (κ×V)}{vs:List (κ×Value)}(r:KV kvs vs)(k:κ):RelO (cm kvs k) (valueAt vs k):=by
 unfold KV at r
 induction r with
 | nil=>exact True.intro
 | @cons p q ps qs h t ih=>
  obtain⟨h1,h2⟩:=h
  by_cases e:p.1=k
  ·have e':q.1=k:=h1.symm.trans e
   have b:valueAt (q::qs) k=some q.2:=by simp[valueAt,Zq,e']
   rw[fB e,b];exact h2
  ·have e':¬ q.1=k:=fun z=>e (h1.trans z)
   have b:valueAt (q::qs) k=valueAt qs k:=by simp[valueAt,Zq,e']
   rw[fF e,b];exact ih
theorem KV.any {kvs:List (κ×V)}{vs:List (κ×Value)}(r:KV kvs vs)(k:κ):(kvs.any fun kv=>decide (kv.1=k))=vs.any fun kv=>decide (kv.1=k):=by
 unfold KV at r
 induction r with
 | nil=>rfl
 | cons h t ih=>rw[Xu,Xu,ih,h.1]
theorem KV.repl {kvs:List (κ×V)}{vs:List (κ×Value)}(r:KV kvs vs)(k:κ){y:V}{u:Value}(ry:RelV y u) :
  KV (kvs.map fun kv=>if kv.1=k then (kv.1,y) else kv) (vs.map fun kv=>if kv.1=k then (kv.1,u) else kv):=by
 unfold KV at r ⊢
 induction r with
 | nil=>exact .nil
 | @cons p q ps qs h t ih=>
  rw[Yt,Yt]
  refine .cons ?_ ih
  obtain⟨h1,h2⟩:=h
  by_cases e:p.1=k
  ·rw[Yi e,Yi (h1.symm.trans e)];exact⟨h1,ry⟩
  ·rw[Yl e,Yl (fun z=>e (h1.trans z))];exact⟨h1,h2⟩
theorem KV.put {kvs:List (κ×V)}{vs:List (κ×Value)}(r:KV kvs vs)(k:κ){y:V}{u:Value}(ry:RelV y u):KV (cY kvs k y) (stored vs k u):=by
 unfold cY stored
 rw[r.any k]
 by_cases e:(vs.any fun kv=>decide (kv.1=k))=true
 ·rw[Yi e,Yi e];exact r.repl k ry
 ·rw[Yl e,Yl e];exact Paired.snoc r ⟨rfl,ry⟩
theorem KV.length {kvs:List (κ×V)}{vs:List (κ×Value)}(r:KV kvs vs):kvs.length=vs.length:=Paired.length r
end
theorem kh {P:Program}{w:World}{k:Key}{u:Value}(r:RelV (kV k) u):(ay P w).is k u=true:=by
 cases k with
 | inl i=>obtain⟨t,e⟩:=(show ∃ t,u=Value.int i t from r);subst e;exact iO P w i t
 | inr x=>obtain⟨t,e⟩:=(show ∃ t,u=Value.str x t from r);subst e;exact iz P w x t
theorem gn {P:Program}{w:World}:∀ {ks:List Key} {us:List Value},Vals (ks.map kV) us→ItemsAre (ay P w) ks us
 | [],_,r=>by rw[List.map_nil] at r;cases r;exact .nil
 | k::ks,_,r=>by
  rw[Yt] at r
  cases r with
  | cons h t=>exact .cons (kh h) (gn t)
abbrev KT (H:Hp):List (List Key×V)→List (List Key×Addr×Value)→Prop:=Paired fun p q=>p.1=q.1∧H q.2.1=some (.tup (p.1.map kV))∧RelV p.2 q.2.2
theorem KT.val {H:Hp}{kvs:List (List Key×V)}{xs:List (List Key×Addr×Value)}(r:KT H kvs xs)(k:List Key):RelO (cm kvs k) ((atKey xs k).map (·.2)):=by
 induction r with
 | nil=>exact True.intro
 | @cons p q ps qs h t ih=>
  obtain⟨h1,_,h2⟩:=h
  by_cases e:p.1=k
  ·have e':q.1=k:=h1.symm.trans e
   have b:atKey (q::qs) k=some q.2:=by simp[atKey,Zq,e']
   rw[fB e,b];exact h2
  ·have e':¬ q.1=k:=fun z=>e (h1.trans z)
   have b:atKey (q::qs) k=atKey qs k:=by simp[atKey,Zq,e']
   rw[fF e,b];exact ih
theorem KT.repl {H:Hp}{kvs:List (List Key×V)}{xs:List (List Key×Addr×Value)}(r:KT H kvs xs)(k:List Key){y:V}{u:Value}(ry:RelV y u) :
  KT H (kvs.map fun kv=>if kv.1=k then (kv.1,y) else kv) (xs.map (putAt k u)):=by
 induction r with
 | nil=>exact .nil
 | @cons p q ps qs h t ih=>
  rw[Yt,Yt]
  refine .cons ?_ ih
  obtain⟨h1,h2,h3⟩:=h
  unfold putAt
  by_cases e:p.1=k
  ·rw[Yi e,Yi (h1.symm.trans e)];exact⟨h1,h2,ry⟩
  ·rw[Yl e,Yl (fun z=>e (h1.trans z))];exact⟨h1,h2,h3⟩
theorem KT.put {H:Hp}{kvs:List (List Key×V)}{xs:List (List Key×Addr×Value)}(r:KT H kvs xs)(k:List Key){b:Addr}{y:V}{u:Value}(hb:H b=some (.tup (k.map kV)))(ry:RelV y u) :
  KT H (cY kvs k y) (storedH xs k b u):=by
 have e:(kvs.any fun kv=>decide (kv.1=k))=(atKey xs k).isSome:=by
  rw[iZ,(r.val k).isSome_eq,Option.isSome_map]
 unfold cY storedH
 rw[e]
 by_cases q:(atKey xs k).isSome=true
 ·rw[Yi q,Yi q];exact r.repl k ry
 ·rw[Yl q,Yl q];exact Paired.snoc r ⟨rfl,hb,ry⟩
theorem KT.keeps {H H':Hp}{kvs:List (List Key×V)}{xs:List (List Key×Addr×Value)}(r:KT H kvs xs)(ht:∀ b ys,H b=some (.tup ys)→H' b=some (.tup ys)):KT H' kvs xs:=
 Paired.mapP r fun _ _ z=>⟨z.1,ht _ _ z.2.1,z.2.2⟩
section
variable {P:Program} {w:World} {H:Hp} {h:Heap} {a:Addr}
theorem p8 {u:HO}(ok:HOk P w H h)(e:Rd H a u):ObjOk P w H h a u:=e.ok ok
theorem qr {kvs:List (Key×V)}(ok:HOk P w H h)(e:Rd H a (.dK kvs)):kvs.length≤sizeLine∧(a == sysModules)=false∧∃ vs,KV kvs vs∧h.DictOf (ay P w) a vs:=
 show ObjOk P w H h a (.dK kvs) from p8 ok e
theorem sC {kvs:List (Key×V)}(ok:HOk P w H h)(e:H a=some (.dK kvs)):kvs.length≤sizeLine∧(a == sysModules)=false∧∃ vs,KV kvs vs∧h.DictOf (ay P w) a vs:=qr ok (.inl e)
theorem jE {ks:List Key}(ok:HOk P w H h)(e:H a=some (.tup (ks.map kV))):(tupleKind (ay P w)).is h ks a:=by
 obtain⟨_,its,r,⟨o,h1,h2,n,h3⟩,_⟩:=(show ObjOk P w H h a (.tup (ks.map kV)) from ok a _ e)
 exact⟨o,its.toArray,n,h1,h2,h3,by simpa using gn r⟩
theorem qc {kvs:List (List Key×V)}(ok:HOk P w H h)(e:Rd H a (.dT kvs)):kvs.length≤sizeLine∧(a == sysModules)=false ∧
  ∃ xs,KT H kvs xs∧h.DictOfH (tupleKind (ay P w)) a xs:=by
 obtain⟨z,y,xs,r,o,es,ep,h1,h2,h3,h4,h5⟩:=(show ObjOk P w H h a (.dT kvs) from p8 ok e)
 refine⟨z,y,xs,r,o,es,ep,h1,h2,h3,h4,fun x hx=>?_,h5⟩
 have all:∀ {l:List (List Key×V)} {m:List (List Key×Addr×Value)},KT H l m→∀ x∈m,(tupleKind (ay P w)).is h x.1 x.2.1:=by
  intro l m q
  induction q with
  | nil=>intro x hx;exact nomatch hx
  | @cons p q ps qs hq t ih=>
   intro x hx
   rcases Ys.mp hx with e | hx
   ·subst e
    exact jE ok (by rw[← hq.1];exact hq.2.1)
   ·exact ih x hx
 exact all r x hx
theorem tV {kvs:List (List Key×V)}(ok:HOk P w H h)(e:H a=some (.dT kvs)):kvs.length≤sizeLine∧(a == sysModules)=false ∧
  ∃ xs,KT H kvs xs∧h.DictOfH (tupleKind (ay P w)) a xs:=qc ok (.inl e)
end
def DGet (H:Hp)(a:Addr)(y:V)(r:Option V):Prop:=
 (∃ kvs k,Rd H a (.dK kvs)∧y=kV k∧r=cm kvs k)∨∃ kvs k b,Rd H a (.dT kvs)∧y=.ref b∧H b=some (.tup (k.map kV))∧r=cm kvs k
def DPut (H:Hp)(a:Addr)(y v:V)(H':Hp):Prop:=
 (∃ kvs k,H a=some (.dK kvs)∧y=kV k∧kvs.length<sizeLine∧H'=upd H a (.dK (cY kvs k v))) ∨
 ∃ kvs k b,H a=some (.dT kvs)∧y=.ref b∧H b=some (.tup (k.map kV))∧kvs.length<sizeLine∧H'=upd H a (.dT (cY kvs k v))
theorem DGet.k {H:Hp}{a:Addr}{kvs:List (Key×V)}{k:Key}(e:H a=some (.dK kvs)):DGet H a (kV k) (cm kvs k):=.inl ⟨kvs,k,.inl e,rfl,rfl⟩
theorem DPut.k {H:Hp}{a:Addr}{kvs:List (Key×V)}{k:Key}{v:V}(e:H a=some (.dK kvs))(hl:kvs.length<sizeLine):DPut H a (kV k) v (upd H a (.dK (cY kvs k v))):=.inl ⟨kvs,k,e,rfl,hl,rfl⟩
section
variable {X:Cx} {pz:Kp} {σ:St} {H:Hp} {s:Shared} {a:Addr} {y v:V} {u r:Value} {o:Option V} {A:Around} {E:Kv}
theorem Inv.big (I:Inv X pz σ H s):sysModules<s.heap.objs.size:=by
 have h:mainGlobals<s.heap.objs.size:=(I.mod.glob.keeps I.bk).lt
 exact Zo (by decide) h
theorem pO {Q:Kv}(hu:A.units+1<cLine)(I:Inv X pz σ H s)(g:DGet H a y o)(ry:RelV y u)(h:∀ s',Inv X pz σ H s'→Q (.bool (!o.isSome)) s') :
  wpAny (model X.prog X.w) A (compareOp .NotIn u (.ref a)) Q E s:=by
 rcases g with⟨kvs,k,e,ey,l⟩ | ⟨kvs,k,b,e,ey,eb,l⟩
 ·subst ey
  obtain⟨z,hd,vs,rel,dd⟩:=qr I.hok e
  refine wpAny_notIn_of (kh ry) hd dd.mapOf ?_
  rw[← (rel.val k).isSome_eq,← l]
  exact h _ (I.tok _)
 ·subst ey
  cases (show u=Value.ref b from ry)
  obtain⟨z,hd,xs,rel,dd⟩:=qc I.hok e
  refine wpAny_notIn_heap (tupleKind_room_in1 hu) (jE I.hok eb) hd dd ?_
  have q:=(rel.val k).isSome_eq
  rw[Option.isSome_map] at q
  rw[← q,← l]
  exact h _ (I.tok _)
theorem j_ {h':Heap}{t':Nat}{ob:HO}(I:Inv X pz σ H s)(mu:Mut (H a))(hs:Heap.SameBut a s.heap h')(he:∃ q,h'.get? a=some q)(new:ObjOk X.prog X.w (upd H a ob) h' a ob) :
  Inv X pz σ (upd H a ob) { s with heap:=h',toks:=t' }:=
 I.write (x:=a) (e:=a) mu (.inl rfl) (fun b q hb z=>(hs.2 b hb).trans z) he new
theorem mY {P:Program}{w:World}{H':Hp}{h':Heap}{kvs:List (Key×V)}{vs:List (Key×Value)}(z:kvs.length≤sizeLine)(hd:(a == sysModules)=false)(rel:KV kvs vs)(dd:h'.DictOf (ay P w) a vs) :
  ObjOk P w H' h' a (.dK kvs):=⟨z,hd,vs,rel,dd⟩
theorem lc {H':Hp}{Q:Unit→Shared→Prop}(hu:A.units+1<cLine)(I:Inv X pz σ H s)(g:DPut H a y v H')(ry:RelV y u)(rv:RelV v r)(h:∀ s',Inv X pz σ H' s'→Q () s') :
  wpAny (model X.prog X.w) A (setItem (.ref a) u r) Q E s:=by
 rcases g with⟨kvs,k,e,ey,l,eH⟩ | ⟨kvs,k,b,e,ey,eb,l,eH⟩
 ·subst ey eH
  obtain⟨z,hd,vs,rel,dd⟩:=sC I.hok e
  have hz:vs.length≤sizeLine:=by rw[← rel.length];exact z
  have hl:(cY kvs k v).length≤sizeLine:=by have:=cx kvs k v;omega
  refine wpAny_setItem_pairs (hsz:=hz) (kh ry) dd fun h' dd' hs=>h _ ?_
  have he:∃ q,h'.get? a=some q:=let ⟨q,_,_,hq,_⟩:=dd';⟨q,hq⟩
  exact j_ I (by rw[e];exact True.intro) hs he (mY hl hd (rel.put k rv) dd')
 ·subst ey eH
  cases (show u=Value.ref b from ry)
  obtain⟨z,hd,xs,rel,dd⟩:=tV I.hok e
  have hz:xs.length≤sizeLine:=by rw[← Paired.length rel];exact z
  have hl:(cY kvs k v).length≤sizeLine:=by have:=cx kvs k v;omega
  refine wpAny_setItem_heap (hsz:=hz) (tupleKind_room_in1 hu) (jE I.hok eb) dd fun h' dd' hs=>h _ ?_
  obtain⟨q,es,ep,hq,h2,h3,h4,_,h5⟩:=dd'
  refine j_ I (by rw[e];exact True.intro) hs ⟨q,hq⟩ ⟨hl,hd,_,(rel.put k eb rv).keeps fun c ys ec=>?_,q,es,ep,hq,h2,h3,h4,h5⟩
  rw[ae (sw ec e (fun z=>nomatch z))]
  exact ec
end
section
variable {X:Cx} {pz:Kp} {σ:St} {H:Hp} {s:Shared} {a:Addr} {kvs:List (Key×V)} {k:Key} {u:Value} {A:Around} {E:Kv}
end
def pe (ty td:TE):TE:=fun σ H Q=>ty σ H fun y H1=>td σ H1 fun x H2=>∃ a o,x=.ref a∧DGet H2 a y o∧Q (.bl (!o.isSome)) H2
def tz (td ty tv:TE):TS:=fun D σ H=>tv σ H fun v H1=>td σ H1 fun x H2=>ty σ H2 fun y H3=>∃ a H4,x=.ref a∧DPut H3 a y v H4∧D.nx σ H4
section
variable {X:Cx} {o i e value:Expr} {pos pos' tpos:Pos} {td ty tv:TE}
theorem kL (hu:X.A.units+1<cLine)(hi:PE X i ty)(ho:PE X o td):PC X .NotIn i o (pe ty td):=by
 intro pz s σ H Q I h
 refine aL (hi pz s σ H _ I h) fun iv s1 y H1 I1 ry q1=>aL (ho pz s1 σ H1 _ I1 q1) fun u s2 x H2 I2 rx hh_=>?_
 obtain⟨a,ov,ex,g,q2⟩:=hh_
 subst ex
 obtain rfl:u=Value.ref a:=rx
 exact pO hu I2 g ry fun s3 I3=>⟨.bl (!ov.isSome),H2,I3,rfl,q2⟩
theorem oT (hu:X.A.units+1<cLine)(ho:PE X o td)(hi:PE X i ty)(hv:PE X value tv)(hs:swapsWith value (some (.Subscript o i pos')) pos.line X.env=pure false) :
  PS X (.Assign [.Subscript o i pos'] value pos) (tz td ty tv):=by
 intro pz s σ H D I h
 refine wpAny_Assign_Subscript (aL (hv pz s σ H _ I h) fun r s1 v H1 I1 rv q1=>aL (ho pz s1 σ H1 _ I1 q1) fun u s2 x H2 I2 rx q2=>aL (hi pz s2 σ H2 _ I2 q2) fun iv s3 y H3 I3 ry hh_=>?_) hs
 obtain⟨a,H4,ex,g,q3⟩:=hh_
 subst ex
 obtain rfl:u=Value.ref a:=rx
 exact lc hu I3 g ry rv fun s4 I4=>⟨σ,H4,I4,q3⟩
end
theorem lX {P:Program}{w:World}{H:Hp}(h:Heap)(hb:sysModules<h.objs.size):ObjOk P w H (h.push { cls:=.type "dict",data:=.dict #[] }) h.objs.size (.dK []):=
 ⟨YG _,Xv.mpr (ZZ (Yq hb)),[],.nil,Heap.DictOf.new h⟩
section
variable {X:Cx} {pos:Pos}
end
def b_ (kvs more:List (Key×V)):List (Key×V):=more.foldl (fun acc kv=>cY acc kv.1 kv.2) kvs
structure M1 (X:Cx) (o:Expr) (m:Str) (apos:Pos) (e:Expr) (cpos:Pos):Prop where
 base:attributeBase o m X.env (eval o X.env)=eval o X.env
 few:((backTo cpos (starEach [e] X.env)).all (fun x=>!x.1)&&(backToKw cpos (keywordEach [] X.env)).all (fun x=>x.1.isSome)
  && decide (([e]:List Expr).length+([]:List Keyword).length+(if ([]:List Keyword).isEmpty then 0 else 1)<30))=true
 line:(apos.endLine == cpos.line)=true
 trees:backTo cpos (starEach [e] X.env)=[(false,eval e X.env)]
structure M2 (X:Cx) (o:Expr) (m:Str) (apos:Pos) (e f:Expr) (cpos:Pos):Prop where
 base:attributeBase o m X.env (eval o X.env)=eval o X.env
 few:((backTo cpos (starEach [e,f] X.env)).all (fun x=>!x.1)&&(backToKw cpos (keywordEach [] X.env)).all (fun x=>x.1.isSome)
  && decide (([e,f]:List Expr).length+([]:List Keyword).length+(if ([]:List Keyword).isEmpty then 0 else 1)<30))=true
 line:(apos.endLine == cpos.line)=true
 trees:backTo cpos (starEach [e,f] X.env)=[(false,eval e X.env),(false,eval f X.env)]
section
variable {X:Cx} {pz:Kp} {σ:St} {H:Hp} {s:Shared} {a:Addr} {y d:V} {u r:Value} {o:Option V} {A:Around} {E:Kv}
end
section
variable {X:Cx} {o e f:Expr} {apos cpos:Pos} {td ty tx:TE}
end
section
variable {X:Cx} {pz:Kp} {σ:St} {H:Hp} {s:Shared} {a:Addr} {kvs:List (Key×V)} {A:Around} {E:Kv}
end
section
variable {X:Cx} {pz:Kp} {σ:St} {H:Hp} {s:Shared} {a:Addr} {y:V} {u:Value} {A:Around} {E:Kv}
end
section
variable {κ:Type} [DecidableEq κ]
end
inductive D where
 | non | bl (b:Bool) | int (i:Int) | str (x:Str)
 | tup (xs:List D) | lst (xs:List D)
 | dT (kvs:List (List Key×D)) | dK (kvs:List (Key×D))
 | ins (C:Addr) (fs:List (Str×D))
 | fn (a:Addr) (v:V) (d:D)
mutual
inductive Rep (K:PySem.W.Frag) (H:Hp):V→D→Prop
 | non:Rep K H .non .non
 | bl {b:Bool}:Rep K H (.bl b) (.bl b)
 | int {i:Int}:Rep K H (.int i) (.int i)
 | str {x:Str}:Rep K H (.str x) (.str x)
 | tup {a:Addr} {vs:List V} {ds:List D}:H a=some (.tup vs)→Reps K H vs ds→Rep K H (.ref a) (.tup ds)
 | lst {a:Addr} {vs:List V} {ds:List D}:SqL K H a vs→Reps K H vs ds→Rep K H (.ref a) (.lst ds)
 | dT {a:Addr} {vs:List (List Key×V)} {ds:List (List Key×D)}:H a=some (.dT vs)→RepsT K H vs ds→Rep K H (.ref a) (.dT ds)
 | dK {a:Addr} {vs:List (Key×V)} {ds:List (Key×D)}:H a=some (.dK vs)→RepsK K H vs ds→Rep K H (.ref a) (.dK ds)
 | ins {a C dx:Addr} {vs:List (Str×V)} {ds:List (Str×D)}:H a=some (.ins C dx vs)→RepsF K H vs ds→Rep K H (.ref a) (.ins C ds)
 /-- a lambda at a: what it takes from without is v -/
 | fn {a:Addr} {v:V} {d:D}:Rep K H v d→Rep K H (.ref a) (.fn a v d)
inductive Reps (K:PySem.W.Frag) (H:Hp):List V→List D→Prop
 | nil:Reps K H [] []
 | cons {v:V} {d:D} {vs:List V} {ds:List D}:Rep K H v d→Reps K H vs ds→Reps K H (v::vs) (d::ds)
inductive RepsT (K:PySem.W.Frag) (H:Hp):List (List Key×V)→List (List Key×D)→Prop
 | nil:RepsT K H [] []
 | cons {k:List Key} {v:V} {d:D} {vs:List (List Key×V)} {ds:List (List Key×D)}:Rep K H v d→RepsT K H vs ds→RepsT K H ((k,v)::vs) ((k,d)::ds)
inductive RepsK (K:PySem.W.Frag) (H:Hp):List (Key×V)→List (Key×D)→Prop
 | nil:RepsK K H [] []
 | cons {k:Key} {v:V} {d:D} {vs:List (Key×V)} {ds:List (Key×D)}:Rep K H v d→RepsK K H vs ds→RepsK K H ((k,v)::vs) ((k,d)::ds)
inductive RepsF (K:PySem.W.Frag) (H:Hp):List (Str×V)→List (Str×D)→Prop
 | nil:RepsF K H [] []
 | cons {k:Str} {v:V} {d:D} {vs:List (Str×V)} {ds:List (Str×D)}:Rep K H v d→RepsF K H vs ds→RepsF K H ((k,v)::vs) ((k,d)::ds)
end
section
variable {K:Kq} {H H':Hp}
theorem Rep.same (e:Same H H'){v:V}{d:D}(h:Rep K H v d):Rep K H' v d:=
 Rep.rec (motive_1:=fun v d _=>Rep K H' v d) (motive_2:=fun v d _=>Reps K H' v d) (motive_3:=fun v d _=>RepsT K H' v d) (motive_4:=fun v d _=>RepsK K H' v d) (motive_5:=fun v d _=>RepsF K H' v d) .non .bl .int .str (fun h _ i=>.tup (e _ _ h) i) (fun h _ i=>.lst (e.seq h) i) (fun h _ i=>.dT (e _ _ h) i) (fun h _ i=>.dK (e _ _ h) i) (fun h _ i=>.ins (e _ _ h) i) (fun _ i=>.fn i) .nil (fun _ _ a b=>.cons a b) .nil (fun _ _ a b=>.cons a b) .nil (fun _ _ a b=>.cons a b) .nil (fun _ _ a b=>.cons a b) h
theorem Reps.same (e:Same H H'){v:List V}{d:List D}(h:Reps K H v d):Reps K H' v d:=
 Reps.rec (motive_1:=fun v d _=>Rep K H' v d) (motive_2:=fun v d _=>Reps K H' v d) (motive_3:=fun v d _=>RepsT K H' v d) (motive_4:=fun v d _=>RepsK K H' v d) (motive_5:=fun v d _=>RepsF K H' v d) .non .bl .int .str (fun h _ i=>.tup (e _ _ h) i) (fun h _ i=>.lst (e.seq h) i) (fun h _ i=>.dT (e _ _ h) i) (fun h _ i=>.dK (e _ _ h) i) (fun h _ i=>.ins (e _ _ h) i) (fun _ i=>.fn i) .nil (fun _ _ a b=>.cons a b) .nil (fun _ _ a b=>.cons a b) .nil (fun _ _ a b=>.cons a b) .nil (fun _ _ a b=>.cons a b) h
theorem RepsT.same (e:Same H H'){v:List (List Key×V)}{d:List (List Key×D)}(h:RepsT K H v d):RepsT K H' v d:=
 RepsT.rec (motive_1:=fun v d _=>Rep K H' v d) (motive_2:=fun v d _=>Reps K H' v d) (motive_3:=fun v d _=>RepsT K H' v d) (motive_4:=fun v d _=>RepsK K H' v d) (motive_5:=fun v d _=>RepsF K H' v d) .non .bl .int .str (fun h _ i=>.tup (e _ _ h) i) (fun h _ i=>.lst (e.seq h) i) (fun h _ i=>.dT (e _ _ h) i) (fun h _ i=>.dK (e _ _ h) i) (fun h _ i=>.ins (e _ _ h) i) (fun _ i=>.fn i) .nil (fun _ _ a b=>.cons a b) .nil (fun _ _ a b=>.cons a b) .nil (fun _ _ a b=>.cons a b) .nil (fun _ _ a b=>.cons a b) h
theorem RepsK.same (e:Same H H'){v:List (Key×V)}{d:List (Key×D)}(h:RepsK K H v d):RepsK K H' v d:=
 RepsK.rec (motive_1:=fun v d _=>Rep K H' v d) (motive_2:=fun v d _=>Reps K H' v d) (motive_3:=fun v d _=>RepsT K H' v d) (motive_4:=fun v d _=>RepsK K H' v d) (motive_5:=fun v d _=>RepsF K H' v d) .non .bl .int .str (fun h _ i=>.tup (e _ _ h) i) (fun h _ i=>.lst (e.seq h) i) (fun h _ i=>.dT (e _ _ h) i) (fun h _ i=>.dK (e _ _ h) i) (fun h _ i=>.ins (e _ _ h) i) (fun _ i=>.fn i) .nil (fun _ _ a b=>.cons a b) .nil (fun _ _ a b=>.cons a b) .nil (fun _ _ a b=>.cons a b) .nil (fun _ _ a b=>.cons a b) h
theorem RepsF.same (e:Same H H'){v:List (Str×V)}{d:List (Str×D)}(h:RepsF K H v d):RepsF K H' v d:=
 RepsF.rec (motive_1:=fun v d _=>Rep K H' v d) (motive_2:=fun v d _=>Reps K H' v d) (motive_3:=fun v d _=>RepsT K H' v d) (motive_4:=fun v d _=>RepsK K H' v d) (motive_5:=fun v d _=>RepsF K H' v d) .non .bl .int .str (fun h _ i=>.tup (e _ _ h) i) (fun h _ i=>.lst (e.seq h) i) (fun h _ i=>.dT (e _ _ h) i) (fun h _ i=>.dK (e _ _ h) i) (fun h _ i=>.ins (e _ _ h) i) (fun _ i=>.fn i) .nil (fun _ _ a b=>.cons a b) .nil (fun _ _ a b=>.cons a b) .nil (fun _ _ a b=>.cons a b) .nil (fun _ _ a b=>.cons a b) h
end
section
variable {K:Kq} {H H':Hp}
theorem Reps.ind {M:List V→List D→Prop}(n:M [] [])(c:∀ {v:V} {d:D} {vs:List V} {ds:List D},Rep K H v d→Reps K H vs ds→M vs ds→M (v::vs) (d::ds)){vs:List V}{ds:List D}(h:Reps K H vs ds):M vs ds:=
 Reps.rec (motive_1:=fun _ _ _=>True) (motive_2:=fun vs ds _=>M vs ds) (motive_3:=fun _ _ _=>True) (motive_4:=fun _ _ _=>True) (motive_5:=fun _ _ _=>True) trivial trivial trivial trivial (fun _ _ _=>trivial) (fun _ _ _=>trivial) (fun _ _ _=>trivial) (fun _ _ _=>trivial) (fun _ _ _=>trivial) (fun _ _=>trivial) n (fun h q _ ih=>c h q ih) trivial (fun _ _ _ _=>trivial) trivial (fun _ _ _ _=>trivial) trivial (fun _ _ _ _=>trivial) h
theorem RepsK.ind {M:List (Key×V)→List (Key×D)→Prop}(n:M [] [])(c:∀ {k:Key} {v:V} {d:D} {vs:List (Key×V)} {ds:List (Key×D)},Rep K H v d→RepsK K H vs ds→M vs ds→M ((k,v)::vs) ((k,d)::ds)){vs:List (Key×V)}{ds:List (Key×D)}(h:RepsK K H vs ds):M vs ds:=
 RepsK.rec (motive_1:=fun _ _ _=>True) (motive_2:=fun _ _ _=>True) (motive_3:=fun _ _ _=>True) (motive_4:=fun vs ds _=>M vs ds) (motive_5:=fun _ _ _=>True) trivial trivial trivial trivial (fun _ _ _=>trivial) (fun _ _ _=>trivial) (fun _ _ _=>trivial) (fun _ _ _=>trivial) (fun _ _ _=>trivial) (fun _ _=>trivial) trivial (fun _ _ _ _=>trivial) trivial (fun _ _ _ _=>trivial) n (fun h q _ ih=>c h q ih) trivial (fun _ _ _ _=>trivial) h
theorem Reps.length {vs:List V}{ds:List D}(h:Reps K H vs ds):vs.length=ds.length:=Reps.ind (M:=fun vs ds=>vs.length=ds.length) rfl (fun _ _ ih=>ZR Nat.succ ih) h
theorem Reps.get {vs:List V}{ds:List D}{i:Nat}{d:D}(h:Reps K H vs ds):ds[i]?=some d→∃ v,vs[i]?=some v∧Rep K H v d:=
 Reps.ind (M:=fun vs ds=>∀ i:Nat,ds[i]?=some d→∃ v,vs[i]?=some v∧Rep K H v d) (fun _ e=>nomatch e) (fun r _ ih i e=>by
  cases i with
  | zero=>obtain rfl:=Yx e;exact⟨_,rfl,r⟩
  | succ i=>exact ih i e) h i
theorem Reps.getV {vs:List V}{ds:List D}{i:Nat}{v:V}(h:Reps K H vs ds):vs[i]?=some v→∃ d,ds[i]?=some d∧Rep K H v d:=
 Reps.ind (M:=fun vs ds=>∀ i:Nat,vs[i]?=some v→∃ d,ds[i]?=some d∧Rep K H v d) (fun _ e=>nomatch e) (fun r _ ih i e=>by
  cases i with
  | zero=>obtain rfl:=Yx e;exact⟨_,rfl,r⟩
  | succ i=>exact ih i e) h i
theorem Reps.append {vs ws:List V}{ds es:List D}(h:Reps K H vs ds)(s:Reps K H ws es):Reps K H (vs++ws) (ds++es):=Reps.ind (M:=fun vs ds=>Reps K H (vs++ws) (ds++es)) s (fun r _ ih=>.cons r ih) h
theorem Reps.take {vs:List V}{ds:List D}(n:Nat)(h:Reps K H vs ds):Reps K H (vs.take n) (ds.take n):=Reps.ind (M:=fun vs ds=>∀ n,Reps K H (vs.take n) (ds.take n)) (fun n=>by cases n <;> exact .nil) (fun r _ ih n=>by
  cases n with
  | zero=>exact .nil
  | succ n=>exact .cons r (ih n)) h n
theorem Reps.drop {vs:List V}{ds:List D}(n:Nat)(h:Reps K H vs ds):Reps K H (vs.drop n) (ds.drop n):=Reps.ind (M:=fun vs ds=>∀ n,Reps K H (vs.drop n) (ds.drop n)) (fun n=>by cases n <;> exact .nil) (fun r q ih n=>by
  cases n with
  | zero=>exact .cons r q
  | succ n=>exact ih n) h n
theorem Reps.set {v:V}{d:D}(r:Rep K H v d){vs:List V}{ds:List D}(i:Nat)(h:Reps K H vs ds):Reps K H (vs.set i v) (ds.set i d):=Reps.ind (M:=fun vs ds=>∀ i,Reps K H (vs.set i v) (ds.set i d)) (fun _=>.nil) (fun q t ih i=>by
  cases i with
  | zero=>exact .cons r t
  | succ i=>exact .cons q (ih i)) h i
theorem Reps.eraseIdx {vs:List V}{ds:List D}(i:Nat)(h:Reps K H vs ds):Reps K H (vs.eraseIdx i) (ds.eraseIdx i):=Reps.ind (M:=fun vs ds=>∀ i,Reps K H (vs.eraseIdx i) (ds.eraseIdx i)) (fun _=>.nil) (fun q t ih i=>by
  cases i with
  | zero=>exact t
  | succ i=>exact .cons q (ih i)) h i
theorem Reps.one {v:V}{d:D}(r:Rep K H v d):Reps K H [v] [d]:=.cons r .nil
theorem Reps.ints:∀ (ns:List Int),Reps K H (ns.map V.int) (ns.map D.int)
 | []=>.nil
 | _::r=>.cons .int (Reps.ints r)
end
inductive OD where
 | lst (ds:List D) | lst2 (dss:List (List D)) | tup2 (dss:List (List D)) | dT (kvs:List (List Key×D)) | dK (kvs:List (Key×D)) | ins (C:Addr) (fs:List (Str×D))
def OD.d:OD→D
 | .lst ds=>.lst ds
 | .lst2 dss=>.lst (dss.map .lst)
 | .tup2 dss=>.tup (dss.map .lst)
 | .dT kvs=>.dT kvs
 | .dK kvs=>.dK kvs
 | .ins C fs=>.ins C fs
def OD.flat:OD→Bool
 | .lst2 _=>false
 | .tup2 _=>false
 | _=>true
inductive All2 {α β:Type} (R:α→β→Prop):List α→List β→Prop
 | nil:All2 R [] []
 | cons {a:α} {b:β} {as:List α} {bs:List β}:R a b→All2 R as bs→All2 R (a::as) (b::bs)
theorem All2.imp {α β:Type}{R S:α→β→Prop}(f:∀ a b,R a b→S a b){as:List α}{bs:List β}(h:All2 R as bs):All2 S as bs:=by
 induction h with
 | nil=>exact .nil
 | cons h _ ih=>exact .cons (f _ _ h) ih
theorem All2.length {α β:Type}{R:α→β→Prop}{as:List α}{bs:List β}(h:All2 R as bs):as.length=bs.length:=by
 induction h with
 | nil=>rfl
 | cons _ _ ih=>exact ZR Nat.succ ih
def ORep1 (K:Kq)(F:Hp):OD→HO→Prop
 | .lst ds,.lst vs=>Reps K F vs ds
 | .dT ds,.dT vs=>RepsT K F vs ds
 | .dK ds,.dK vs=>RepsK K F vs ds
 | .ins C fs,.ins C' _ vs=>C=C'∧RepsF K F vs fs
 | _,_=>False
def ORep (K:Kq)(F H:Hp)(ow:Addr→Prop):OD→Addr→Prop
 | .lst2 dss,a=>ow a∧∃ bs,H a=some (.lst (bs.map .ref))∧(a::bs).Nodup∧All2 (fun b ds=>ow b∧∃ u,H b=some u∧ORep1 K F (.lst ds) u) bs dss
 | .tup2 dss,a=>ow a∧∃ bs,H a=some (.tup (bs.map .ref))∧(a::bs).Nodup∧All2 (fun b ds=>ow b∧∃ u,H b=some u∧ORep1 K F (.lst ds) u) bs dss
 | o,a=>ow a∧∃ u,H a=some u∧ORep1 K F o u
theorem ORep1.same {K:Kq}{F F':Hp}(e:Same F F'){o:OD}{u:HO}(h:ORep1 K F o u):ORep1 K F' o u:=by
 cases o <;> cases u <;> first | exact h.elim | exact Reps.same e h | exact RepsT.same e h | exact RepsK.same e h | exact⟨h.1,RepsF.same e h.2⟩
theorem ORep.flat {K:Kq}{F H:Hp}{ow:Addr→Prop}{o:OD}{a:Addr}(f:o.flat=true):ORep K F H ow o a↔ow a∧∃ u,H a=some u∧ORep1 K F o u:=by
 cases o <;> first | exact Iff.rfl | cases f
theorem ORep.mono {K:Kq}{F F' H H':Hp}{ow ow':Addr→Prop}{o:OD}{a:Addr}(e:Same F F')(k:∀ b u,ow b→H b=some u→H' b=some u∧ow' b)(h:ORep K F H ow o a):ORep K F' H' ow' o a:=by
 by_cases f:o.flat=true
 ·obtain⟨h1,u,h2,h3⟩:=(ORep.flat f).mp h
  obtain⟨k1,k2⟩:=k a u h1 h2
  exact (ORep.flat f).mpr ⟨k2,u,k1,h3.same e⟩
 ·cases o with
  | lst2 dss=>
   obtain⟨h1,bs,h2,h3,h4⟩:=h
   obtain⟨k1,k2⟩:=k a _ h1 h2
   exact⟨k2,bs,k1,h3,h4.imp fun b ds ⟨q1,u,q2,q3⟩=>by obtain⟨c1,c2⟩:=k b u q1 q2;exact⟨c2,u,c1,q3.same e⟩⟩
  | tup2 dss=>
   obtain⟨h1,bs,h2,h3,h4⟩:=h
   obtain⟨k1,k2⟩:=k a _ h1 h2
   exact⟨k2,bs,k1,h3,h4.imp fun b ds ⟨q1,u,q2,q3⟩=>by obtain⟨c1,c2⟩:=k b u q1 q2;exact⟨c2,u,c1,q3.same e⟩⟩
  | _=>exact absurd rfl f
theorem ORep1.rep {K:Kq}{F H:Hp}{o:OD}{u:HO}{a:Addr}(f:o.flat=true)(h:ORep1 K F o u)(hH:H a=some u)(e:Same F H):Rep K H (.ref a) o.d:=by
 cases o with
 | lst ds=>cases u with | lst vs=>exact .lst (SqL.of hH) (Reps.same e h) | _=>exact h.elim
 | dT ds=>cases u with | dT vs=>exact .dT hH (RepsT.same e h) | _=>exact h.elim
 | dK ds=>cases u with | dK vs=>exact .dK hH (RepsK.same e h) | _=>exact h.elim
 | ins C fs=>cases u with | ins C' dx vs=>(obtain⟨rfl,h⟩:=h;exact .ins hH (RepsF.same e h)) | _=>exact h.elim
 | lst2 _=>cases f
 | tup2 _=>cases f
theorem ORep.rep {K:Kq}{F H G:Hp}{ow:Addr→Prop}{o:OD}{a:Addr}(h:ORep K F H ow o a)(e:Same F G)(k:∀ b u,ow b→H b=some u→G b=some u):Rep K G (.ref a) o.d:=by
 by_cases f:o.flat=true
 ·obtain⟨h1,u,h2,h3⟩:=(ORep.flat f).mp h
  exact h3.rep f (k a u h1 h2) e
 ·cases o with
  | lst2 dss=>
   obtain⟨h1,bs,h2,h3,h4⟩:=h
   refine .lst (SqL.of (k a _ h1 h2)) ?_
   clear h2 h1 h3 f
   induction h4 with
   | nil=>exact .nil
   | cons q r ih=>
    obtain⟨q1,u,q2,q3⟩:=q
    exact .cons (q3.rep (o:=.lst _) rfl (k _ u q1 q2) e) ih
  | tup2 dss=>
   obtain⟨h1,bs,h2,h3,h4⟩:=h
   refine .tup (k a _ h1 h2) ?_
   clear h2 h1 h3 f
   induction h4 with
   | nil=>exact .nil
   | cons q r ih=>
    obtain⟨q1,u,q2,q3⟩:=q
    exact .cons (q3.rep (o:=.lst _) rfl (k _ u q1 q2) e) ih
  | _=>exact absurd rfl f
inductive DV where
 | v (d:D) | own (o:OD) (t:Option Addr) | bor (o:OD)
abbrev DF:=List (Option DV)
def DVRep (K:Kq)(P F H:Hp)(ow:Addr→Prop):DV→V→Prop
 | .v d,x=>Rep K F x d
 | .own o t,x=>∃ a,x=.ref a∧ORep K F H (fun b=>F b=none∧P b=none∧ow b) o a∧∀ b,t=some b→b=a
 | .bor o,x=>∃ a,x=.ref a∧ORep K F P (fun _=>True) o a
def fQ:Addr→Prop:=fun _=>True
structure DHp (P F H:Hp):Prop where
 sub:Same F H
 pro:Same P H
 dis:∀ a o,P a=some o→F a=none
structure DInv (K:PySem.W.Frag) (P F H:Hp) (ρ:DF) (σ:St):Prop extends DHp P F H where
 len:ρ.length=σ.length
 rep:∃ O:Addr→Option Nat,∀ (i:Nat) (x:DV),ρ[i]?=some (some x)→∃ v,σ[i]?=some (some v)∧DVRep K P F H (fun b=>O b=some i) x v
structure Evo (P F H F' H':Hp):Prop where
 ext:Same F F'
 hp:DHp P F' H'
 keep:∀ a o,H a=some o→F a=none→H' a=some o∧F' a=none
theorem Evo.same {P F H F' H':Hp}(h:DHp P F H)(e:Evo P F H F' H'):Same H H':=fun a o q=>by
 cases c:F a with
 | none=>exact (e.keep a o q c).1
 | some u=>
  have:=h.sub a u c
  rw[q] at this
  cases this
  exact e.hp.sub a o (e.ext a o c)
theorem DVRep.evo {K:Kq}{P F H F' H':Hp}{ow:Addr→Prop}(e:Evo P F H F' H'){x:DV}{v:V}(r:DVRep K P F H ow x v):DVRep K P F' H' ow x v:=by
 cases x with
 | v d=>exact Rep.same e.ext r
 | own o t=>
  obtain⟨a,rfl,h,ht⟩:=r
  exact⟨a,rfl,h.mono e.ext fun b u ⟨q1,q2,q3⟩ hb=>by (obtain⟨k1,k2⟩:=e.keep b u hb q1;exact⟨k1,k2,q2,q3⟩),ht⟩
 | bor o=>
  obtain⟨a,rfl,h⟩:=r
  exact⟨a,rfl,h.mono e.ext fun b u q hb=>⟨hb,q⟩⟩
theorem DVRep.imp {K:Kq}{P F H:Hp}{ow ow':Addr→Prop}(f:∀ b u,F b=none→P b=none→H b=some u→ow b→ow' b){x:DV}{v:V}(r:DVRep K P F H ow x v):DVRep K P F H ow' x v:=by
 cases x with
 | v d=>exact r
 | own o t=>
  obtain⟨a,rfl,h,ht⟩:=r
  exact⟨a,rfl,h.mono (Same.refl _) fun b u ⟨q1,q2,q3⟩ hb=>⟨hb,q1,q2,f b u q1 q2 hb q3⟩,ht⟩
 | bor o=>exact r
theorem DInv.evo {K:Kq}{P F H F' H':Hp}{ρ:DF}{σ:St}(I:DInv K P F H ρ σ)(e:Evo P F H F' H'):DInv K P F' H' ρ σ:=
 ⟨e.hp,I.len,by obtain⟨O,h⟩:=I.rep;exact⟨O,fun i x hx=>by obtain⟨v,h1,h2⟩:=h i x hx;exact⟨v,h1,h2.evo e⟩⟩⟩
theorem DInv.at {K:Kq}{P F H:Hp}{ρ:DF}{σ:St}(I:DInv K P F H ρ σ){i:Nat}{x:DV}(h:ρ[i]?=some (some x)):∃ v,σ[i]?=some (some v)∧DVRep K P F H fQ x v:=by
 obtain⟨O,k⟩:=I.rep
 obtain⟨v,h1,h2⟩:=k i x h
 exact⟨v,h1,h2.imp fun _ _ _ _ _ _=>trivial⟩
theorem Evo.refl {P F H:Hp}(h:DHp P F H):Evo P F H F H:=⟨Same.refl _,h,fun _ _ a b=>⟨a,b⟩⟩
theorem Evo.trans {P F H F1 H1 F2 H2:Hp}(a:Evo P F H F1 H1)(b:Evo P F1 H1 F2 H2):Evo P F H F2 H2:=
 ⟨a.ext.trans b.ext,b.hp,fun c o h n=>by obtain⟨h1,n1⟩:=a.keep c o h n;exact b.keep c o h1 n1⟩
theorem Evo.laid {P F H:Hp}(h:DHp P F H){a:Addr}{o:HO}(hn:H a=none):Evo P F H (upd F a o) (upd H a o) where
 ext:=fun b u e=>by rw[ae (fun z=>by subst z;rw[h.sub _ _ e] at hn;cases hn)];exact e
 hp:=⟨fun b u e=>by
   by_cases hb:b=a
   ·subst hb;rw[ak] at e ⊢;exact e
   ·rw[ae hb] at e ⊢;exact h.sub b u e,
  fun b u e=>by rw[ae (fun z=>by subst z;rw[h.pro _ _ e] at hn;cases hn)];exact h.pro b u e,
  fun b u e=>by rw[ae (fun z=>by subst z;rw[h.pro _ _ e] at hn;cases hn)];exact h.dis b u e⟩
 keep:=fun b u e n=>by
  have hb:b≠a:=fun z=>by subst z;rw[e] at hn;cases hn
  rw[ae hb,ae hb];exact⟨e,n⟩
theorem Evo.side {P F H:Hp}(h:DHp P F H){a:Addr}{o:HO}(hn:H a=none):Evo P F H F (upd H a o) where
 ext:=Same.refl _
 hp:=⟨fun b u e=>by rw[ae (fun z=>by subst z;rw[h.sub _ _ e] at hn;cases hn)];exact h.sub b u e,
  fun b u e=>by rw[ae (fun z=>by subst z;rw[h.pro _ _ e] at hn;cases hn)];exact h.pro b u e,h.dis⟩
 keep:=fun b u e n=>by
  have hb:b≠a:=fun z=>by subst z;rw[e] at hn;cases hn
  rw[ae hb];exact⟨e,n⟩
theorem DHp.free {P F H:Hp}(h:DHp P F H){a:Addr}(hn:H a=none):F a=none∧P a=none:=⟨h.sub.free hn,h.pro.free hn⟩
def RepS (K:Kq)(H F:Hp)(v:V)(d:D):Prop:=
 Rep K F v d∨∃ (a:Addr) (o:OD) (u:HO),v=.ref a∧F a=none∧H a=some u∧ORep1 K F o u∧o.flat=true∧d=o.d
theorem RepS.evo {K:Kq}{P F H F' H':Hp}{v:V}{d:D}(r:RepS K H F v d)(e:Evo P F H F' H'):RepS K H' F' v d:=
 r.imp (Rep.same e.ext) fun ⟨a,o,u,h1,h2,h3,h4,h5⟩=>⟨a,o,u,h1,(e.keep a u h3 h2).2,(e.keep a u h3 h2).1,h4.same e.ext,h5⟩
theorem DInv.slot {K:Kq}{P F H:Hp}{ρ:DF}{σ:St}(I:DInv K P F H ρ σ){i:Nat}{o:OD}{v:V}(hv:σ[i]?=some (some v))(h:(∃ t,ρ[i]?=some (some (.own o t)))∨ρ[i]?=some (some (.bor o))):∃ a,v=.ref a∧ORep K F H (fun b=>F b=none) o a:=by
 rcases h with⟨t,h⟩ | h
 ·obtain⟨v',h1,a,rfl,h2,_⟩:=I.at h
  rw[hv] at h1;cases h1
  exact⟨a,rfl,h2.mono (Same.refl _) fun b u q hb=>⟨hb,q.1⟩⟩
 ·obtain⟨v',h1,a,rfl,h2⟩:=I.at h
  rw[hv] at h1;cases h1
  exact⟨a,rfl,h2.mono (Same.refl _) fun b u q hb=>⟨I.pro b u hb,I.dis b u hb⟩⟩
theorem RepS.now {K:Kq}{F H:Hp}{v:V}{d:D}(I:Same F H)(r:RepS K H F v d):Rep K H v d:=by
 rcases r with r | ⟨a,o,u,rfl,_,h3,h4,hfl,rfl⟩
 ·exact r.same I
 ·exact h4.rep hfl h3 I
theorem RepS.slot {K:Kq}{P F H:Hp}{ρ:DF}{σ:St}(I:DInv K P F H ρ σ){i:Nat}{o:OD}{v:V}(hv:σ[i]?=some (some v))(h:(∃ t,ρ[i]?=some (some (.own o t)))∨ρ[i]?=some (some (.bor o)))(hfl:o.flat=true):RepS K H F v o.d:=by
 obtain⟨a,rfl,h2⟩:=I.slot hv h
 obtain⟨h3,u,h4,h5⟩:=(ORep.flat hfl).mp h2
 exact .inr ⟨a,o,u,rfl,h3,h4,h5,hfl,rfl⟩
def tD (K:Kq)(f:DF→Option D):TE:=fun σ H Q=>∃ P F ρ d,f ρ=some d∧DInv K P F H ρ σ∧∀ v F' H',Evo P F H F' H'→Rep K F' v d→Q v H'
def tR (K:Kq)(f:DF→Option D):TE:=fun σ H Q=>∃ P F ρ d,f ρ=some d∧DInv K P F H ρ σ∧∀ v F' H',Evo P F H F' H'→RepS K H' F' v d→Q v H'
def tN (K:Kq)(f:DF→Option D):TE:=fun σ H Q=>∃ P F ρ d,f ρ=some d∧DInv K P F H ρ σ∧∀ v F' H',Evo P F H F' H'→Rep K H' v d→Q v H'
def tB' (K:Kq)(f:DF→Option Bool):TT:=fun σ H Q=>∃ P F ρ b,f ρ=some b∧DInv K P F H ρ σ∧∀ F' H',Evo P F H F' H'→Q b H'
def tL (K:Kq)(f:DF→Option (List D)):TA:=fun σ H Q=>∃ P F ρ ds,f ρ=some ds∧DInv K P F H ρ σ∧∀ vs F' H',Evo P F H F' H'→Reps K F' vs ds→Q vs H'
def PDE (X:Cx)(e:Expr)(f:DF→Option D):Prop:=PE X e (tD X.K f)
def PDR (X:Cx)(e:Expr)(f:DF→Option D):Prop:=PE X e (tR X.K f)
def PDN (X:Cx)(e:Expr)(f:DF→Option D):Prop:=PE X e (tN X.K f)
def PDT (X:Cx)(e:Expr)(f:DF→Option Bool):Prop:=PT X e (tB' X.K f)
def PDA (X:Cx)(es:List Expr)(f:DF→Option (List D)):Prop:=PA X es (tL X.K f)
section
variable {X:Cx} {e a b c:Expr} {es:List Expr} {pos:Pos}
theorem PE.imp {t t':TE}(h:PE X e t)(i:∀ σ H Q,t' σ H Q→t σ H Q):PE X e t':=fun pz s σ H Q I q=>h pz s σ H Q I (i σ H Q q)
theorem PT.imp {t t':TT}(h:PT X e t)(i:∀ σ H Q,t' σ H Q→t σ H Q):PT X e t':=fun pz s σ H Q I q=>h pz s σ H Q I (i σ H Q q)
theorem PA.imp {t t':TA}(h:PA X es t)(i:∀ σ H Q,t' σ H Q→t σ H Q):PA X es t':=fun pos pz s σ H Q I q=>h pos pz s σ H Q I (i σ H Q q)
def getV (i:Nat)(ρ:DF):Option D:=match ρ[i]? with
 | some (some (.v d))=>some d
 | _=>none
def ac (i:Nat)(ρ:DF):Option D:=match ρ[i]? with
 | some (some (.v d))=>some d
 | some (some (.own o _))=>if o.flat=true then some o.d else none
 | some (some (.bor o))=>if o.flat=true then some o.d else none
 | _=>none
def aj (i:Nat)(ρ:DF):Option D:=match ρ[i]? with
 | some (some (.v d))=>some d
 | some (some (.own o _))=>some o.d
 | some (some (.bor o))=>some o.d
 | _=>none
theorem kr {i:Nat}{ρ:DF}{d:D}(h:getV i ρ=some d):ρ[i]?=some (some (.v d)):=by
 unfold getV at h
 split at h
 ·rename_i q;cases h;exact q
 ·cases h
theorem ap (i:Nat)(h:PE X e (bZ i)):PDE X e (getV i):=h.imp fun σ H Q=>un7 fun P F ρ d hf I k=>by
 obtain⟨v,h1,h2⟩:=I.at (kr hf)
 exact⟨v,h1,k v F H (Evo.refl I.toDHp) h2⟩
theorem ag (i:Nat)(h:PE X e (bZ i)):PDR X e (ac i):=h.imp fun σ H Q=>un7 fun P F ρ d hf I k=>by
 unfold ac at hf
 split at hf
 ·rename_i d' q
  cases hf
  obtain⟨v,h1,h2⟩:=I.at q
  exact⟨v,h1,k v F H (Evo.refl I.toDHp) (.inl h2)⟩
 ·rename_i o t q
  split at hf
  ·rename_i hfl
   cases hf
   obtain⟨v,h1,h2⟩:=I.at q
   exact⟨v,h1,k v F H (Evo.refl I.toDHp) (RepS.slot I h1 (.inl ⟨t,q⟩) hfl)⟩
  ·cases hf
 ·rename_i o q
  split at hf
  ·rename_i hfl
   cases hf
   obtain⟨v,h1,h2⟩:=I.at q
   exact⟨v,h1,k v F H (Evo.refl I.toDHp) (RepS.slot I h1 (.inr q) hfl)⟩
  ·cases hf
 ·cases hf
theorem ax (i:Nat)(h:PE X e (bZ i)):PDN X e (aj i):=h.imp fun σ H Q=>un7 fun P F ρ d hf I k=>by
 unfold aj at hf
 split at hf
 ·rename_i d' q
  cases hf
  obtain⟨v,h1,h2⟩:=I.at q
  exact⟨v,h1,k v F H (Evo.refl I.toDHp) (Rep.same I.sub h2)⟩
 ·rename_i o t q
  cases hf
  obtain⟨v,h1,_⟩:=I.at q
  obtain⟨a,rfl,h2⟩:=I.slot h1 (.inl ⟨t,q⟩)
  exact⟨_,h1,k _ F H (Evo.refl I.toDHp) (h2.rep I.sub fun _ _ _ q=>q)⟩
 ·rename_i o q
  cases hf
  obtain⟨v,h1,_⟩:=I.at q
  obtain⟨a,rfl,h2⟩:=I.slot h1 (.inr q)
  exact⟨_,h1,k _ F H (Evo.refl I.toDHp) (h2.rep I.sub fun _ _ _ q=>q)⟩
 ·cases hf
theorem PDE.r {f:DF→Option D}(h:PDE X e f):PDR X e f:=PE.imp h fun σ H Q=>un7 fun P F ρ d hf I k=>⟨P,F,ρ,d,hf,I,fun v F' H' ev r=>k v F' H' ev (.inl r)⟩
theorem PDR.n {f:DF→Option D}(h:PDR X e f):PDN X e f:=PE.imp h fun σ H Q=>un7 fun P F ρ d hf I k=>⟨P,F,ρ,d,hf,I,fun v F' H' ev r=>k v F' H' ev (r.now ev.hp.sub)⟩
theorem PDE.n {f:DF→Option D}(h:PDE X e f):PDN X e f:=h.r.n
theorem qt {d:D}{v:V}(h:PE X e (tC v))(r:∀ F,Rep X.K F v d):PDE X e (fun _=>some d):=h.imp fun σ H Q=>un7 fun P F ρ d' hf I k=>by
 cases hf
 exact k v F H (Evo.refl I.toDHp) (r F)
theorem aw {i j p}:PDE X (.Constant (.int i) j p) (fun _=>some (.int i)):=qt nT fun _=>.int
theorem fE {i j p}:PDE X (.Constant (.bool i) j p) (fun _=>some (.bl i)):=qt sW fun _=>.bl
def f7 (K:Kq)(r:R2)(f:D→D→Option D):Prop:=
 ∀ (P F H:Hp) (x y:V) (dx dy d:D) (Q:VK),f dx dy=some d→DHp P F H→Rep K H x dx→Rep K H y dy→(∀ v F' H',Evo P F H F' H'→Rep K F' v d→Q v H')→r x y H Q
def d2 (f:D→D→Option D)(fa fb:DF→Option D):DF→Option D:=fun ρ=>(fa ρ).bind fun x=>(fb ρ).bind fun y=>f x y
theorem jF {K:Kq}{r:R2}{f:D→D→Option D}{fa fb:DF→Option D}(ho:f7 K r f):∀ σ H Q,tD K (d2 f fa fb) σ H Q→tOp r (tN K fa) (tN K fb) σ H Q:=fun σ H Q=>un7 fun P F ρ d hf I k=>by
 unfold d2 at hf
 cases ha:fa ρ with
 | none=>rw[ha] at hf;cases hf
 | some dx=>
  rw[ha] at hf
  cases hb:fb ρ with
  | none=>rw[Ya,hb] at hf;cases hf
  | some dy=>
   rw[Ya,hb,Ya] at hf
   refine⟨P,F,ρ,dx,ha,I,fun x F1 H1 e1 rx=>⟨P,F1,ρ,dy,hb,I.evo e1,fun y F2 H2 e2 ry=>?_⟩⟩
   exact ho P F2 H2 x y dx dy d Q hf e2.hp (rx.same (e2.same e1.hp)) ry fun v F3 H3 e3 rv=>k v F3 H3 ((e1.trans e2).trans e3) rv
theorem rX {op:CmpOp}{r:R2}{f:D→D→Option D}{fa fb:DF→Option D}(ho:OpR X (compareOp op) r)(hf:f7 X.K r f)(ha:PDN X a fa)(hb:PDN X b fb)(hm:behindInMarks op b=false):PDE X (.Compare a [op] [b] pos) (d2 f fa fb):=
 (oA ho ha hb hm).imp (jF hf)
def jQ (K:Kq)(r:R2)(f:D→D→Option D):Prop:=
 ∀ (P F H:Hp) (ρ:DF) (σ:St) (x y:V) (dx dy d:D) (Q:VK),f dx dy=some d→DInv K P F H ρ σ→RepS K H F x dx→RepS K H F y dy→(∀ v F' H',Evo P F H F' H'→Rep K F' v d→Q v H')→r x y H Q
theorem jN {K:Kq}{r:R2}{f:D→D→Option D}{fa fb:DF→Option D}(ho:jQ K r f):∀ σ H Q,tD K (d2 f fa fb) σ H Q→tOp r (tR K fa) (tR K fb) σ H Q:=fun σ H Q=>un7 fun P F ρ d hf I k=>by
 unfold d2 at hf
 cases ha:fa ρ with
 | none=>rw[ha] at hf;cases hf
 | some dx=>
  rw[ha] at hf
  cases hb:fb ρ with
  | none=>rw[Ya,hb] at hf;cases hf
  | some dy=>
   rw[Ya,hb,Ya] at hf
   refine⟨P,F,ρ,dx,ha,I,fun x F1 H1 e1 rx=>⟨P,F1,ρ,dy,hb,I.evo e1,fun y F2 H2 e2 ry=>?_⟩⟩
   exact ho P F2 H2 ρ σ x y dx dy d Q hf ((I.evo e1).evo e2) (rx.evo e2) ry fun v F3 H3 e3 rv=>k v F3 H3 ((e1.trans e2).trans e3) rv
theorem e5 {op:Operator}{r:R2}{f:D→D→Option D}{fa fb:DF→Option D}(ho:OpR X (binaryOp op) r)(hf:jQ X.K r f)(ha:PDR X a fa)(hb:PDR X b fb):PDE X (.BinOp a op b pos) (d2 f fa fb):=
 (qu ho ha hb).imp (jN hf)
def asB (f:DF→Option D):DF→Option Bool:=fun ρ=>match f ρ with
 | some (.bl b)=>some b
 | _=>none
theorem nO {f:DF→Option D}{ρ:DF}{b:Bool}(h:asB f ρ=some b):f ρ=some (.bl b):=by
 unfold asB at h
 split at h
 ·rename_i q;cases h;exact q
 ·cases h
theorem fM {K:Kq}{t:TE}{f:DF→Option D}(h:∀ σ H Q,tD K f σ H Q→t σ H Q):∀ σ H Q,tB' K (asB f) σ H Q→qp t σ H Q:=fun σ H Q=>un7 fun P F ρ b hf I k=>by
 refine h σ H _ ⟨P,F,ρ,.bl b,nO hf,I,fun v F' H' ev r=>?_⟩
 cases r
 exact⟨b,rfl,k F' H' ev⟩
theorem oX {op:CmpOp}{r:R2}{f:D→D→Option D}{fa fb:DF→Option D}(ho:OpR X (compareOp op) r)(hf:jQ X.K r f)(ha:PDR X a fa)(hb:PDR X b fb)(hm:behindInMarks op b=false):PDT X (.Compare a [op] [b] pos) (asB (d2 f fa fb)):=
 (kJ ho ha hb hm).imp (fM (jN hf))
theorem eO {op:CmpOp}{r:R2}{f:D→D→Option D}{fa fb:DF→Option D}(ho:OpR X (compareOp op) r)(hf:f7 X.K r f)(ha:PDN X a fa)(hb:PDN X b fb)(hm:behindInMarks op b=false):PDT X (.Compare a [op] [b] pos) (asB (d2 f fa fb)):=
 (kJ ho ha hb hm).imp (fM (jF hf))
theorem dz {f:DF→Option D}(h:PDE X e f)(he:∀ whole,isTrue e X.env whole=(do let v ← whole;standAt e.pos;holding [v] (truthy v)):=by intro _;rfl):PDT X e (asB f):=
 (qw h he).imp (fM (t:=tD X.K f) fun _ _ _ q=>q)
theorem bi {K:Kq}{H F:Hp}{x:V}{i:Int}(r:RepS K H F x (.int i)):x=.int i:=by
 rcases r with r | ⟨_,o,_,_,_,_,_,_,z⟩
 ·cases r;rfl
 ·cases o <;> cases z
theorem g6 {K:Kq}{H F:Hp}{x:V}{i:Str}(r:RepS K H F x (.str i)):x=.str i:=by
 rcases r with r | ⟨_,o,_,_,_,_,_,_,z⟩
 ·cases r;rfl
 ·cases o <;> cases z
theorem bW {K:Kq}{P F H:Hp}{ρ:DF}{σ:St}{x:V}{ds:List D}(I:DInv K P F H ρ σ)(r:RepS K H F x (.lst ds)):∃ a vs,x=.ref a∧SqL K H a vs∧Reps K F vs ds:=by
 rcases r with r | ⟨a,o,u,rfl,_,h3,h4,hfl,z⟩
 ·cases r with | lst h q=>exact⟨_,_,rfl,I.sub.seq h,q⟩
 ·cases o with
  | lst ds'=>
   cases z
   cases u with
   | lst vs=>exact⟨a,vs,rfl,SqL.of h3,h4⟩
   | _=>exact h4.elim
  | lst2 _=>cases hfl
  | tup2 _=>cases hfl
  | _=>cases z
theorem eQ {K:Kq}{P F H:Hp}{ρ:DF}{σ:St}{x:V}{ds:List D}(I:DInv K P F H ρ σ)(r:RepS K H F x (.tup ds)):∃ a vs,x=.ref a∧SqT K H a vs∧Reps K F vs ds:=by
 rcases r with r | ⟨a,o,u,rfl,_,h3,h4,hfl,z⟩
 ·cases r with | tup h q=>exact⟨_,_,rfl,SqT.of (I.sub _ _ h),q⟩
 ·cases o <;> first | (cases z;done) | cases hfl
def fI (C:Int→Int→Bool)(g:Int→Int→D):D→D→Option D
 | .int i,.int j=>if C i j=true then some (g i j) else none
 | _,_=>none
theorem gO {K:Kq}{C:Int→Int→Prop}{C':Int→Int→Bool}{g:Int→Int→V}{g':Int→Int→D}(hC:∀ i j,C' i j=true→C i j)(hg:∀ F i j,Rep K F (g i j) (g' i j)):jQ K (rI C g) (fI C' g'):=by
 intro P F H ρ σ x y dx dy d Q hf I rx ry k
 unfold fI at hf
 split at hf
 ·rename_i i j
  split at hf
  ·rename_i hc
   cases hf
   exact⟨i,j,bi rx,bi ry,hC i j hc,k _ F H (Evo.refl I.toDHp) (hg F i j)⟩
  ·cases hf
 ·cases hf
def fI0 (g:Int→Int→D):D→D→Option D
 | .int i,.int j=>some (g i j)
 | _,_=>none
theorem pB {K:Kq}{g:Int→Int→V}{g':Int→Int→D}(hg:∀ F i j,Rep K F (g i j) (g' i j)):jQ K (rI0 g) (fI0 g'):=by
 intro P F H ρ σ x y dx dy d Q hf I rx ry k
 unfold fI0 at hf
 split at hf
 ·rename_i i j
  cases hf
  exact⟨i,j,bi rx,bi ry,k _ F H (Evo.refl I.toDHp) (hg F i j)⟩
 ·cases hf
def vn:=fI0 fun i j=>.int (i-j)
def j2:=fI (fun i j=>decide ((-(2 ^ 64)<i∧i<2 ^ 64)∨(-(2 ^ 64)<j∧j<2 ^ 64))) fun i j=>.int (i*j)
def cK:=fI (fun _ j=>decide (0<j∧j<1073741824)) fun i j=>.int (i/j)
def cG:=fI (fun _ j=>decide (0<j)) fun i j=>.int (i%j)
def lU:=fI (fun i j=>decide (0≤j∧j≤1000000∧i.natAbs<2 ^ 64)) fun i j=>.int (i ^ j.toNat)
def ltI:=fI0 fun i j=>.bl (decide (i<j))
def leI:=fI0 fun i j=>.bl (decide (i≤j))
def gtI:=fI0 fun i j=>.bl (decide (j<i))
theorem lT {fa fb:DF→Option D}(ha:PDR X a fa)(hb:PDR X b fb):PDE X (.BinOp a .Mult b pos) (d2 j2 fa fb):=e5 rY (gO (fun _ _ h=>by have q:=YV h;exact q) fun _ _ _=>.int) ha hb
theorem eW {fa fb:DF→Option D}(ha:PDR X a fa)(hb:PDR X b fb):PDE X (.BinOp a .FloorDiv b pos) (d2 cK fa fb):=e5 oV (gO (fun _ _ h=>by have q:=YV h;exact q) fun _ _ _=>.int) ha hb
theorem bT {fa fb:DF→Option D}(ha:PDR X a fa)(hb:PDR X b fb):PDE X (.BinOp a .Mod b pos) (d2 cG fa fb):=e5 rE (gO (fun _ _ h=>by have q:=YV h;exact q) fun _ _ _=>.int) ha hb
theorem q_ {fa fb:DF→Option D}(ha:PDR X a fa)(hb:PDR X b fb):PDE X (.BinOp a .Pow b pos) (d2 lU fa fb):=e5 rJ (gO (fun _ _ h=>by have q:=YV h;exact q) fun _ _ _=>.int) ha hb
end
def tO (K:Kq)(f:DF→Option OD):TE:=fun σ H Q=>∃ P F ρ o,f ρ=some o∧DInv K P F H ρ σ ∧
 ∀ a F' H',Evo P F H F' H'→ORep K F' H' (fun b=>H b=none∧F' b=none) o a→Q (.ref a) H'
def PDO (X:Cx)(e:Expr)(f:DF→Option OD):Prop:=PE X e (tO X.K f)
def asO (f:DF→Option OD):DF→Option D:=fun ρ=>(f ρ).map OD.d
theorem Evo.back {P F H F' H':Hp}(h:DHp P F H)(e:Evo P F H F' H'){a:Addr}(n:H' a=none):H a=none:=by
 cases q:H a with
 | none=>rfl
 | some o=>rw[e.same h a o q] at n;cases n
open Classical in
noncomputable def kY (F H:Hp)(ow:Addr→Prop):Hp:=fun b=>if ow b then H b else F b
theorem bf {F H:Hp}{ow:Addr→Prop}{b:Addr}(h:ow b):kY F H ow b=H b:=Yi h
theorem bq {F H:Hp}{ow:Addr→Prop}{b:Addr}(h:¬ ow b):kY F H ow b=F b:=Yl h
theorem aE {F H:Hp}{ow:Addr→Prop}(h:∀ b,ow b→F b=none):Same F (kY F H ow):=fun b u e=>by
 by_cases q:ow b
 ·rw[h b q] at e;cases e
 ·rw[bq q];exact e
theorem Evo.freeze {P F H F' H':Hp}(h0:DHp P F H)(e:Evo P F H F' H')(ow:Addr→Prop)(hn:∀ b,ow b→H b=none∧F' b=none):Evo P F H (kY F' H' ow) H' where
 ext:=e.ext.trans (aE fun b q=>(hn b q).2)
 hp:=⟨fun b u h=>by
   by_cases q:ow b
   ·rw[bf q] at h;exact h
   ·rw[bq q] at h;exact e.hp.sub b u h,e.hp.pro,fun b u h=>by
   rw[bq fun q=>by rw[(h0.pro.free (hn b q).1)] at h;cases h];exact e.hp.dis b u h⟩
 keep:=fun b u h n=>by
  obtain⟨k1,k2⟩:=e.keep b u h n
  refine⟨k1,?_⟩
  rw[bq fun q=>by rw[(hn b q).1] at h;cases h]
  exact k2
theorem e8 {F:Hp}{a:Addr}{o:HO}(h:F a=none):Same F (upd F a o):=fun b u e=>by rw[ae (am e h)];exact e
section
variable {X:Cx} {e:Expr} {es:List Expr} {st:Stmt} {sts aJ:List Stmt} {pos:Pos}
theorem PDO.v {f:DF→Option OD}(h:PDO X e f):PDE X e (asO f):=PE.imp h fun σ H Q=>un7 fun P F ρ d hf I k=>by
 unfold asO at hf
 cases q:f ρ with
 | none=>rw[q] at hf;cases hf
 | some o=>
  rw[q] at hf
  cases hf
  refine⟨P,F,ρ,o,q,I,fun a F' H' ev ho=>?_⟩
  have hn:∀ b,(H b=none∧F' b=none)→H b=none∧F' b=none:=fun _ q=>q
  exact k (.ref a) _ H' (ev.freeze I.toDHp (fun b=>H b=none∧F' b=none) hn) (ho.rep (aE fun b q=>q.2) fun b u q hb=>by rw[bf q];exact hb)
def asL (f:DF→Option (List D)):DF→Option OD:=fun ρ=>(f ρ).map .lst
inductive RES where
 | nx (ρ:DF) | rt (x:DV) (ρ:DF) | bk (ρ:DF) | ct (ρ:DF)
abbrev Dd:=DF→Option D
abbrev Dw:=DF→Option RES
abbrev Dk:=DF→Option Bool
abbrev Dv:=DF→Option (List DV)
abbrev Dl:=DF→Option (List D)
abbrev Dm:=List DV→Option DV
abbrev Dq:=D→DF→Option DF
abbrev Do:=DF→Option OD
abbrev Dz:=OD→List DV→Option (OD×D)
abbrev Dy:=D→D→Option D
def EndsD (K:Kq)(P F:Hp)(E:Ends):RES→Prop
 | .nx ρ=>∀ σ F' H',Same F F'→DInv K P F' H' ρ σ→E.nx σ H'
 | .bk ρ=>∀ σ F' H',Same F F'→DInv K P F' H' ρ σ→E.bk σ H'
 | .ct ρ=>∀ σ F' H',Same F F'→DInv K P F' H' ρ σ→E.ct σ H'
 | .rt x ρ=>∀ v σ F' H',Same F F'→DInv K P F' H' ρ σ→DVRep K P F' H' fQ x v→E.rt v H'
theorem EndsD.ext {K:Kq}{P F F1:Hp}{E:Ends}{r:RES}(h:EndsD K P F E r)(e:Same F F1):EndsD K P F1 E r:=by
 cases r with
 | nx ρ=>exact fun σ F' H' e' I=>h σ F' H' (e.trans e') I
 | bk ρ=>exact fun σ F' H' e' I=>h σ F' H' (e.trans e') I
 | ct ρ=>exact fun σ F' H' e' I=>h σ F' H' (e.trans e') I
 | rt x ρ=>exact fun v σ F' H' e' I r=>h v σ F' H' (e.trans e') I r
def tS (K:Kq)(g:Dw):TS:=fun E σ H=>∃ P F ρ r,g ρ=some r∧DInv K P F H ρ σ∧EndsD K P F E r
def PD1 (X:Cx)(st:Stmt)(g:Dw):Prop:=PS X st (tS X.K g)
def PDS (X:Cx)(sts:List Stmt)(g:Dw):Prop:=PSs X sts (tS X.K g)
theorem PS.imp {t t':TS}(h:PS X st t)(i:∀ E σ H,t' E σ H→t E σ H):PS X st t':=fun pz s σ H E I q=>h pz s σ H E I (i E σ H q)
theorem PSs.imp {t t':TS}(h:PSs X sts t)(i:∀ E σ H,t' E σ H→t E σ H):PSs X sts t':=fun pz s σ H E I q=>h pz s σ H E I (i E σ H q)
def dNx:DF→Option RES:=fun ρ=>some (.nx ρ)
theorem sx {K:Kq}:∀ E σ H,tS K dNx E σ H→E.nx σ H:=fun E σ H=>un7 fun P F ρ r hg I k=>by
 cases hg
 exact k σ F H (Same.refl _) I
theorem bc:PDS X [] dNx:=PSs.imp pF sx
def aq (g h:Dw):DF→Option RES:=fun ρ=>match g ρ with
 | some (.nx ρ')=>h ρ'
 | r=>r
theorem ah {g h:Dw}(h1:PD1 X st g)(h2:PDS X aJ h):PDS X (st::aJ) (aq g h):=PSs.imp (iw h1 h2) fun E σ H=>un7 fun P F ρ r hg I k=>by
 unfold aq at hg
 split at hg
 ·rename_i ρ' q
  exact⟨P,F,ρ,_,q,I,fun σ' F' H' e I'=>⟨P,F',ρ',r,hg,I',k.ext e⟩⟩
 ·rename_i q
  refine⟨P,F,ρ,r,hg,I,?_⟩
  cases r with
  | nx ρ'=>exact absurd hg (q ρ')
  | bk ρ=>exact k
  | ct ρ=>exact k
  | rt x ρ=>exact k
theorem ao {g:Dw}(h1:PD1 X st g):PDS X [st] g:=PSs.imp (g9 h1) fun _ _ _ q=>q
def cu (f:Dd):DF→Option RES:=fun ρ=>(f ρ).map fun d=>.rt (.v d) ρ
theorem bV {f:Dd}(h:PDE X e f):PD1 X (.Return (some e) pos) (cu f):=PS.imp (jH h) fun E σ H=>un7 fun P F ρ r hg I k=>by
 unfold cu at hg
 cases q:f ρ with
 | none=>rw[q] at hg;cases hg
 | some d=>
  rw[q] at hg
  cases hg
  exact⟨P,F,ρ,d,q,I,fun v F' H' ev rv=>k v σ F' H' ev.ext (I.evo ev) rv⟩
def tM (f:Do):DF→Option RES:=fun ρ=>(f ρ).map fun o=>.rt (.own o none) ρ
def d9 (i:Nat):DF→Option RES:=fun ρ=>match ρ[i]? with
 | some (some x)=>some (.rt x ρ)
 | _=>none
theorem dJ (i:Nat)(h:PE X e (bZ i)):PD1 X (.Return (some e) pos) (d9 i):=PS.imp (jH h) fun E σ H=>un7 fun P F ρ r hg I k=>by
 unfold d9 at hg
 split at hg
 ·rename_i x q
  cases hg
  obtain⟨v,h1,h2⟩:=I.at q
  exact⟨v,h1,k v σ F H (Same.refl _) I h2⟩
 ·cases hg
theorem bz {α:Type}{l:List α}{i j:Nat}{x y:α}(h:(l.set i x)[j]?=some y):(i=j∧y=x∧i<l.length)∨(i≠j∧l[j]?=some y):=by
 by_cases hj:i=j
 ·subst hj
  have hl:i<l.length:=by have:=(Ym.mp h).1;rwa [Yy] at this
  rw[YI hl] at h
  exact .inl ⟨rfl,(Yx h).symm,hl⟩
 ·rw[Yz hj] at h
  exact .inr ⟨hj,h⟩
theorem DInv.setO {K:Kq}{P F H:Hp}{ρ:DF}{σ:St}(I:DInv K P F H ρ σ)(i:Nat){v:V}{x:DV}(nw:Addr→Prop)(hn:∀ (j:Nat) (y:DV) (w:V) (O:Addr→Option Nat),j≠i→ρ[j]?=some (some y)→DVRep K P F H (fun b=>O b=some j) y w→DVRep K P F H (fun b=>O b=some j∧¬ nw b) y w)(r:DVRep K P F H nw x v) :
  DInv K P F H (ρ.set i (some x)) (σ.set i (some v)):=by
 obtain⟨O,h⟩:=I.rep
 refine⟨I.toDHp,by rw[Yy,Yy];exact I.len,?_⟩
 classical
 refine⟨fun b=>if nw b then some i else if O b=some i then none else O b,fun j y hj=>?_⟩
 rcases bz hj with⟨rfl,e,hl⟩ | ⟨hij,hj'⟩
 ·cases e
  refine⟨v,by rw[YI (by rw[← I.len];exact hl)],r.imp fun b u _ _ _ q=>Yi q⟩
 ·obtain⟨w,h1,h2⟩:=h j y hj'
  refine⟨w,by rw[Yz hij];exact h1,(hn j y w O (ZZ hij) hj' h2).imp fun b u _ _ _ q=>?_⟩
  show (if nw b then some i else if O b=some i then none else O b)=some j
  rw[Yl q.2,Yl (by rw[q.1];intro z;exact hij (Yx z).symm),q.1]
theorem DInv.setV {K:Kq}{P F H:Hp}{ρ:DF}{σ:St}(I:DInv K P F H ρ σ)(i:Nat){v:V}{d:D}(r:Rep K F v d):DInv K P F H (ρ.set i (some (.v d))) (σ.set i (some v)):=
 I.setO i (fun _=>False) (fun j y w O _ _ q=>q.imp fun b u _ _ _ z=>⟨z,id⟩) r
theorem DInv.setN {K:Kq}{P F H F' H':Hp}{ρ:DF}{σ:St}(I:DInv K P F H ρ σ)(ev:Evo P F H F' H')(i:Nat){a:Addr}{o:OD}(ho:ORep K F' H' (fun b=>H b=none∧F' b=none) o a):DInv K P F' H' (ρ.set i (some (.own o none))) (σ.set i (some (.ref a))):=by
 obtain⟨O,h⟩:=I.rep
 refine⟨ev.hp,by rw[Yy,Yy];exact I.len,?_⟩
 classical
 refine⟨fun b=>if H b=none then some i else if O b=some i then none else O b,fun j y hj=>?_⟩
 rcases bz hj with⟨rfl,e,hl⟩ | ⟨hij,hj'⟩
 ·cases e
  refine⟨.ref a,by rw[YI (by rw[← I.len];exact hl)],a,rfl,ho.mono (Same.refl _) fun b u q hb=>⟨hb,q.2,I.pro.free q.1,Yi q.1⟩,fun _ z=>nomatch z⟩
 ·obtain⟨w,h1,h2⟩:=h j y hj'
  refine⟨w,by rw[Yz hij];exact h1,?_⟩
  have h3:DVRep K P F H (fun b=>(if H b=none then some i else if O b=some i then none else O b)=some j) y w:=h2.imp fun b u _ _ hb q=>by
   show (if H b=none then some i else if O b=some i then none else O b)=some j
   rw[Yl (by rw[hb];simp),Yl (by rw[q];intro z;exact hij (Yx z).symm),q]
  exact h3.evo ev
def setV (i:Nat)(d:D)(ρ:DF):Option DF:=some (ρ.set i (some (.v d)))
def aQ (i:Nat)(f:Dd):DF→Option RES:=fun ρ=>(f ρ).map fun d=>.nx (ρ.set i (some (.v d)))
theorem nN {K:Kq}{i:Nat}{f:Dd}:∀ E σ H,tS K (aQ i f) E σ H→lP (tD K f) (d_ i) E σ H:=fun E σ H=>un7 fun P F ρ r hg I k=>by
 unfold aQ at hg
 cases q:f ρ with
 | none=>rw[q] at hg;cases hg
 | some d=>
  rw[q] at hg
  cases hg
  exact⟨P,F,ρ,d,q,I,fun v F' H' ev rv=>k _ F' H' ev.ext ((I.evo ev).setV i rv)⟩
theorem a_ {i:Nat}{x:Str}{pos':Pos}{f:Dd}(hN:X.N.Nodup)(hi:X.N[i]?=some x)(hx:Loc X.env.scope x)(he:PDE X e f)(hs:swapsWith e (some (.Name x pos')) pos.line X.env=pure false:=by rfl)(hf:X.fn x=true∨X.env.scope.names.lookup x=some .local:=by first | exact .inl rfl | exact .inr rfl | assumption) :
  PD1 X (.Assign [.Name x pos'] e pos) (aQ i f):=PS.imp (hJ hN hi hx he hs hf) nN
def bg (i:Nat)(f:Do):DF→Option RES:=fun ρ=>(f ρ).map fun o=>.nx (ρ.set i (some (.own o none)))
theorem rm {K:Kq}{i:Nat}{f:Do}:∀ E σ H,tS K (bg i f) E σ H→lP (tO K f) (d_ i) E σ H:=fun E σ H=>un7 fun P F ρ r hg I k=>by
 unfold bg at hg
 cases q:f ρ with
 | none=>rw[q] at hg;cases hg
 | some o=>
  rw[q] at hg
  cases hg
  exact⟨P,F,ρ,o,q,I,fun a F' H' ev ho=>k _ F' H' ev.ext (I.setN ev i ho)⟩
theorem br {i:Nat}{x:Str}{pos':Pos}{f:Do}(hN:X.N.Nodup)(hi:X.N[i]?=some x)(hx:Loc X.env.scope x)(he:PDO X e f)(hs:swapsWith e (some (.Name x pos')) pos.line X.env=pure false:=by rfl)(hf:X.fn x=true∨X.env.scope.names.lookup x=some .local:=by first | exact .inl rfl | exact .inr rfl | assumption) :
  PD1 X (.Assign [.Name x pos'] e pos) (bg i f):=PS.imp (hJ hN hi hx he hs hf) rm
def uY (i:Nat)(g:Dw):DF→Option RES:=fun ρ=>match ρ[i]? with
 | some (some (.own o none))=>g (ρ.set i (some (.v o.d)))
 | some (some (.v d))=>g ρ
 | _=>none
theorem DInv.frz {K:Kq}{P F H:Hp}{ρ:DF}{σ:St}(I:DInv K P F H ρ σ){i:Nat}{o:OD}{t:Option Addr}(h:ρ[i]?=some (some (.own o t))):∃ F',Same F F'∧DInv K P F' H (ρ.set i (some (.v o.d))) σ:=by
 obtain⟨O,hr⟩:=I.rep
 have hn:∀ b,(F b=none∧P b=none∧O b=some i)→F b=none:=fun b q=>q.1
 refine⟨kY F H (fun b=>F b=none∧P b=none∧O b=some i),aE hn,⟨fun b u q=>?_,I.pro,fun b u q=>?_⟩,by rw[Yy];exact I.len,O,fun j y hj=>?_⟩
 ·by_cases c:F b=none∧P b=none∧O b=some i
  ·rw[bf (ow:=fun b=>F b=none∧P b=none∧O b=some i) c] at q;exact q
  ·rw[bq (ow:=fun b=>F b=none∧P b=none∧O b=some i) c] at q;exact I.sub b u q
 ·rw[bq (ow:=fun b=>F b=none∧P b=none∧O b=some i) fun c=>by rw[c.2.1] at q;cases q];exact I.dis b u q
 ·rcases bz hj with⟨rfl,e,hl⟩ | ⟨hij,hj'⟩
  ·cases e
   obtain⟨v,h1,a,rfl,h2,_⟩:=hr i _ h
   exact⟨_,h1,h2.rep (aE hn) fun b u q hb=>by rw[bf (ow:=fun b=>F b=none∧P b=none∧O b=some i) q];exact hb⟩
  ·obtain⟨v,h1,h2⟩:=hr j y hj'
   refine⟨v,h1,?_⟩
   cases y with
   | v d=>exact Rep.same (aE hn) h2
   | own o' t'=>
    obtain⟨a,rfl,h3,ht⟩:=h2
    exact⟨a,rfl,h3.mono (aE hn) fun b u q hb=>⟨hb,by
     rw[bq (ow:=fun b=>F b=none∧P b=none∧O b=some i) fun c=>by rw[q.2.2] at c;exact hij (Yx c.2.2).symm];exact q.1,q.2⟩,ht⟩
   | bor o'=>
    obtain⟨a,rfl,h3⟩:=h2
    exact⟨a,rfl,h3.mono (aE hn) fun b u q hb=>⟨hb,q⟩⟩
def sE (f:Dd):DF→Option RES:=fun ρ=>(f ρ).map fun _=>.nx ρ
def dIf (c:Dk)(g h:Dw):DF→Option RES:=fun ρ=>(c ρ).bind fun b=>if b=true then g ρ else h ρ
theorem cE {c:Expr}{a b:List Stmt}{fc:Dk}{g h:Dw}(hc:PDT X c fc)(ha:PDS X a g)(hb:PDS X b h):PD1 X (.If c a b pos) (dIf fc g h):=PS.imp (t4 hc ha hb) fun E σ H=>un7 fun P F ρ r hg I k=>by
 unfold dIf at hg
 cases q:fc ρ with
 | none=>rw[q] at hg;cases hg
 | some b=>
  rw[q,Ya] at hg
  refine⟨P,F,ρ,b,q,I,fun F' H' ev=>?_⟩
  cases b with
  | true=>
   rw[Yi rfl] at hg ⊢
   exact⟨P,F',ρ,r,hg,I.evo ev,k.ext ev.ext⟩
  | false=>
   rw[Yl Yj] at hg ⊢
   exact⟨P,F',ρ,r,hg,I.evo ev,k.ext ev.ext⟩
def nv (K:Kq)(P:Hp)(J:It)(F:Hp)(ds:List D):Prop:=
 ∀ F' H',Same F F'→DHp P F' H'→∀ i:Nat,(∀ d,ds[i]?=some d→J.go i H'∧∀ x H2,J.yld i H' x H2→∃ F2,Evo P F' H' F2 H2∧Rep K F2 x d)∧(ds.length≤i→J.stop i H')
def tI (K:Kq)(f:Dl):TI:=fun σ H R=>∃ P F ρ ds,f ρ=some ds∧DInv K P F H ρ σ∧∀ (J:It) F' H',Evo P F H F' H'→nv K P J F' ds→R J H'
def PDI (X:Cx)(tg iter:Expr)(f:Dl):Prop:=PI X tg iter (tI X.K f)
theorem PI.imp {tg iter:Expr}{t t':TI}(h:PI X tg iter t)(i:∀ σ H R,t' σ H R→t σ H R):PI X tg iter t':=fun pz s σ H R I q=>h pz s σ H R I (i σ H R q)
def tG (K:Kq)(is:List Nat)(st:Dq):TG:=fun v σ H Q=>∃ P F ρ d ρ',st d ρ=some ρ'∧DInv K P F H ρ σ∧Rep K F v d∧∀ σ' F' H',Evo P F H F' H'→DInv K P F' H' ρ' σ'→σ'.length=σ.length→(∀ j,j∉is→σ'[j]?=σ[j]?)→Q σ' H'
def PDG (X:Cx)(tg:Expr)(is:List Nat)(st:Dq):Prop:=PG X tg (tG X.K is st)
theorem PG.imp {tg:Expr}{t t':TG}(h:PG X tg t)(i:∀ v σ H Q,t' v σ H Q→t v σ H Q):PG X tg t':=fun pz s σ H v u Q I r q=>h pz s σ H v u Q I r (i v σ H Q q)
theorem aC {i:Nat}{x:Str}(hN:X.N.Nodup)(hi:X.N[i]?=some x)(hx:Loc X.env.scope x)(hf:X.fn x=true∨X.env.scope.names.lookup x=some .local:=by first | exact .inl rfl | exact .inr rfl | assumption):PDG X (.Name x pos) [i] (setV i):=
 PG.imp (eT hN hi hx hf) fun v σ H Q hh_=>by
  obtain⟨P,F,ρ,d,ρ',hs,I,r,k⟩:=hh_
  cases hs
  exact k _ F H (Evo.refl I.toDHp) (I.setV i r) (Yy ..) fun j hj=>by rw[Yz (fun z=>hj (by rw[z];exact List.mem_singleton_self _))]
def bY (st:Dq)(body:Dw):List D→DF→Option RES
 | [],ρ=>some (.nx ρ)
 | d::ds,ρ=>match st d ρ with
  | none=>none
  | some ρ1=>match body ρ1 with
   | some (.nx ρ')=>bY st body ds ρ'
   | some (.ct ρ')=>bY st body ds ρ'
   | some (.bk ρ')=>some (.nx ρ')
   | r=>r
def bD (it:Dl)(st:Dq)(body:Dw):DF→Option RES:=fun ρ=>(it ρ).bind fun ds=>bY st body ds ρ
theorem c9 {tg iter:Expr}{body:List Stmt}{f:Dl}{is:List Nat}{st:Dq}{g:Dw}(hp:PassesOwn (model X.prog X.w) X.A X.env X.xe)(hc:X.calm=true)(hi:PDI X tg iter f)(hg:PDG X tg is st)(hb:PDS X body g)
  (hs:∀ x,foldedSetIterable iter X.env x=pure x:=by intro _;rfl):PD1 X (.For tg iter body [] pos) (bD f st g):=PS.imp (jS hp hc hi hg hb hs) fun E σ H=>un7 fun P F ρ r hr I k=>by
 unfold bD at hr
 cases q:f ρ with
 | none=>rw[q] at hr;cases hr
 | some ds=>
  rw[q,Ya] at hr
  refine⟨P,F,ρ,ds,q,I,fun J F1 H1 ev ok=>?_⟩
  refine⟨fun i m σ' H'=>m=ds.length-i∧i≤ds.length∧∃ F' ρ',Same F1 F'∧DInv X.K P F' H' ρ' σ'∧bY st g (ds.drop i) ρ'=some r,⟨_,rfl,YG _,F1,ρ,Same.refl _,I.evo ev,hr⟩,?_⟩
  rintro i m σ' H' ⟨rfl,hil,F',ρ',se,I',hf⟩
  obtain⟨ok1,ok2⟩:=ok F' H' se I'.toDHp i
  by_cases hlt:i<ds.length
  ·have hd:ds[i]?=some ds[i]:=Yw hlt
   obtain⟨go,yl⟩:=ok1 _ hd
   have hdrop:ds.drop i=ds[i]::ds.drop (i+1):=ZV hlt
   rw[hdrop] at hf
   unfold bY at hf
   cases hst:st ds[i] ρ' with
   | none=>rw[hst] at hf;cases hf
   | some ρ1=>
    rw[hst] at hf
    dsimp only at hf
    have hE:Same F F':=ev.ext.trans se
    refine .inr ⟨go,fun σ2 H2=>∃ F2 ρ2,Same F1 F2∧DInv X.K P F2 H2 ρ2 σ2∧bY st g (ds.drop (i+1)) ρ2=some r,fun σ2 H2 ⟨F2,ρ2,s2,I2,hf2⟩=>⟨ds.length-(i+1),by omega,rfl,hlt,F2,ρ2,s2,I2,hf2⟩,fun x H2 hy=>?_⟩
    obtain⟨F2,ev2,rx⟩:=yl x H2 hy
    refine⟨P,F2,ρ',ds[i],ρ1,hst,I'.evo ev2,rx,fun σ3 F3 H3 ev3 I3 _ _=>?_⟩
    have s13:Same F1 F3:=se.trans (ev2.ext.trans ev3.ext)
    cases hb':g ρ1 with
    | none=>rw[hb'] at hf;cases hf
    | some res=>
     rw[hb'] at hf
     refine⟨P,F3,ρ1,res,hb',I3,?_⟩
     cases res with
     | nx ρ4=>exact fun σ4 F4 H4 e4 I4=>⟨F4,ρ4,s13.trans e4,I4,hf⟩
     | ct ρ4=>exact fun σ4 F4 H4 e4 I4=>⟨F4,ρ4,s13.trans e4,I4,hf⟩
     | bk ρ4=>
      cases hf
      exact fun σ4 F4 H4 e4 I4=>k σ4 F4 H4 (ev.ext.trans (s13.trans e4)) I4
     | rt x4 ρ4=>
      cases hf
      exact fun v4 σ4 F4 H4 e4 I4 r4=>k v4 σ4 F4 H4 (ev.ext.trans (s13.trans e4)) I4 r4
  ·have hz:ds.drop i=[]:=ZJ (by omega)
   rw[hz] at hf
   cases hf
   exact .inl ⟨ok2 (by omega),k σ' F' H' (ev.ext.trans se) I'⟩
def bh (c:Dk)(body:Dw):Nat→DF→Option RES
 | 0,_=>none
 | n+1,ρ=>match c ρ with
  | none=>none
  | some false=>some (.nx ρ)
  | some true=>match body ρ with
   | some (.nx ρ')=>bh c body n ρ'
   | some (.ct ρ')=>bh c body n ρ'
   | some (.bk ρ')=>some (.nx ρ')
   | r=>r
theorem nZ (n:Nat){c:Expr}{body:List Stmt}{fc:Dk}{g:Dw}(hp:PassesOwn (model X.prog X.w) X.A X.env X.xe)(hc:PDT X c fc)(hb:PDS X body g):PD1 X (.While c body [] pos) (bh fc g n):=PS.imp (mD hp hc hb) fun E σ H=>un7 fun P F ρ r hr I k=>by
 refine⟨fun m σ' H'=>∃ F' ρ',Same F F'∧DInv X.K P F' H' ρ' σ'∧bh fc g m ρ'=some r,⟨n,F,ρ,Same.refl _,I,hr⟩,?_⟩
 rintro m σ' H' ⟨F',ρ',se,I',hf⟩
 cases m with
 | zero=>cases hf
 | succ m=>
  unfold bh at hf
  cases hc':fc ρ' with
  | none=>rw[hc'] at hf;cases hf
  | some b=>
   rw[hc'] at hf
   refine⟨P,F',ρ',b,hc',I',fun F2 H2 ev2=>?_⟩
   cases b with
   | false=>
    rw[Yl Yj]
    cases hf
    exact k σ' F2 H2 (se.trans ev2.ext) (I'.evo ev2)
   | true=>
    rw[Yi rfl]
    refine⟨fun σ3 H3=>∃ F3 ρ3,Same F F3∧DInv X.K P F3 H3 ρ3 σ3∧bh fc g m ρ3=some r,fun σ3 H3 h=>⟨m,Xs m,h⟩,?_⟩
    have s2:Same F F2:=se.trans ev2.ext
    dsimp only at hf
    cases hb':g ρ' with
    | none=>rw[hb'] at hf;cases hf
    | some res=>
     rw[hb'] at hf
     refine⟨P,F2,ρ',res,hb',I'.evo ev2,?_⟩
     cases res with
     | nx ρ4=>exact fun σ4 F4 H4 e4 I4=>⟨F4,ρ4,s2.trans e4,I4,hf⟩
     | ct ρ4=>exact fun σ4 F4 H4 e4 I4=>⟨F4,ρ4,s2.trans e4,I4,hf⟩
     | bk ρ4=>
      cases hf
      exact fun σ4 F4 H4 e4 I4=>k σ4 F4 H4 (s2.trans e4) I4
     | rt x4 ρ4=>
      cases hf
      exact fun v4 σ4 F4 H4 e4 I4 r4=>k v4 σ4 F4 H4 (s2.trans e4) I4 r4
end
def gd (F H:Hp):Hp:=fun a=>match F a with
 | none=>H a
 | some _=>none
theorem bM {F H:Hp}{a:Addr}{o:HO}:gd F H a=some o↔F a=none∧H a=some o:=by
 unfold gd
 cases q:F a with
 | none=>simp
 | some u=>simp
theorem dl {F H:Hp}(s:Same F H):DHp (gd F H) F H:=⟨s,fun a o e=>(bM.mp e).2,fun a o e=>(bM.mp e).1⟩
theorem DHp.gd {P F H F' H':Hp}(h:DHp P F H)(e:Same F F')(g:DHp (gd F H) F' H'):Evo P F H F' H' where
 ext:=e
 hp:=⟨g.sub,fun a o q=>g.pro a o (bM.mpr ⟨h.dis a o q,h.pro a o q⟩),fun a o q=>g.dis a o (bM.mpr ⟨h.dis a o q,h.pro a o q⟩)⟩
 keep:=fun a o q n=>⟨g.pro a o (bM.mpr ⟨n,q⟩),g.dis a o (bM.mpr ⟨n,q⟩)⟩
theorem Evo.change {P P1 F H F' H':Hp}(e:Evo P F H F' H')(h:DHp P1 F H):Evo P1 F H F' H':=
 ⟨e.ext,⟨e.hp.sub,fun a o q=>(e.keep a o (h.pro a o q) (h.dis a o q)).1,fun a o q=>(e.keep a o (h.pro a o q) (h.dis a o q)).2⟩,e.keep⟩
def ql:DV→Bool
 | .own _ _=>true
 | _=>false
inductive DVs (K:PySem.W.Frag) (P F H:Hp):List DV→List V→Prop
 | nil:DVs K P F H [] []
 | cons {x:DV} {v:V} {xs:List DV} {vs:List V}:ql x=false→DVRep K P F H fQ x v→DVs K P F H xs vs→DVs K P F H (x::xs) (v::vs)
theorem DVs.length {K:Kq}{P F H:Hp}{xs:List DV}{vs:List V}(h:DVs K P F H xs vs):xs.length=vs.length:=by
 induction h with
 | nil=>rfl
 | cons _ _ _ ih=>exact ZR Nat.succ ih
theorem DVs.get {K:Kq}{P F H:Hp}{xs:List DV}{vs:List V}{i:Nat}{x:DV}(h:DVs K P F H xs vs)(e:xs[i]?=some x):ql x=false∧∃ v,vs[i]?=some v∧DVRep K P F H fQ x v:=by
 induction h generalizing i with
 | nil=>exact nomatch e
 | cons h r _ ih=>
  cases i with
  | zero=>obtain rfl:=Yx e;exact⟨h,_,rfl,r⟩
  | succ i=>exact ih e
def spD (K:Kq)(m:Dm):Sp:=fun vs H Q _=>∃ P F xs x,m xs=some x∧DHp P F H∧DVs K P F H xs vs∧∀ v F' H',Same F F'→DHp P F' H'→DVRep K P F' H' fQ x v→Q v H'
def aO (n p:Nat)(xs:List DV):DF:=xs.map some++List.replicate (n-p) none
def ba:Option RES→Option DV
 | some (.rt x _)=>some x
 | some (.nx _)=>some (.v .non)
 | _=>none
def mOf (n p:Nat)(g:Dw):List DV→Option DV:=fun xs=>if xs.length=p then ba (g (aO n p xs)) else none
theorem jm {n p:Nat}{xs:List DV}{i:Nat}{x:DV}(h:(aO n p xs)[i]?=some (some x)):xs[i]?=some x:=by
 unfold aO at h
 by_cases hi:i<xs.length
 ·rw[YT (by simpa using hi),Yv] at h
  cases q:xs[i]? with
  | none=>rw[q] at h;cases h
  | some y=>rw[q] at h;cases h;rfl
 ·rw[Ze (by simpa using hi),ZF] at h
  split at h <;> cases h
theorem lp {N:List Str}{vs:List V}{i:Nat}{v:V}(h:vs[i]?=some v):(start N vs)[i]?=some (some v):=by
 unfold start
 have hi:i<vs.length:=(Ym.mp h).1
 rw[YT (by simpa using hi),Yv,h]
 rfl
theorem DInv.start {K:Kq}{P F H:Hp}{xs:List DV}{vs:List V}(N:List Str)(p:Nat)(h:DHp P F H)(r:DVs K P F H xs vs)(hp:xs.length=p):DInv K P F H (aO N.length p xs) (start N vs):=by
 refine⟨h,?_,fun _=>none,fun i x e=>?_⟩
 ·unfold aO L2.start
  rw[YE,YE,Yf,Yf,YD,YD,r.length,← r.length,hp]
 ·obtain⟨ho,v,h1,h2⟩:=r.get (jm e)
  refine⟨v,lp h1,?_⟩
  cases x with
  | own o t=>cases ho
  | v d=>exact h2
  | bor o=>exact h2
theorem Fun.okD {P:Program}{w:World}{K:Kq}{mg:Ks}{base:Heap}{x qual:Str}{st:Stmt}{f:Addr}{fd:FuncData}{N ps:List Str}{k:Nat}{g:Dw}(F:Fun K x qual st f fd)(S:FnScope N ps (defScope st))
  (hbody:∀ (cdv:Value) (A:Around) (outer:List Env) (s:Shared) (H:Hp) (E:XK),Room k (A.deeper (envOfC qual (defScope st) s.heap.objs.size f cdv))→
   PDS (de CX0 P w K mg base N qual (defScope st) f cdv A outer s H E).nox (defBody st) g):FnOk P w K mg base CX0 (k+1) f fd ps (spD K (mOf N.length ps.length g)):=by
 have lens:∀ vs H Q E,spD K (mOf N.length ps.length g) vs H Q E→vs.length=ps.length:=fun vs H Q E hh_=>by
  obtain⟨P',F',xs,x',hm,hp,hv,_⟩:=hh_
  unfold mOf at hm
  split at hm
  ·rename_i h;rw[← hv.length];exact h
  ·cases hm
 refine F.ok S lens fun cdv A outer s H vs Q E hr h=>?_
 refine⟨_,hbody cdv A outer s H E hr,?_⟩
 obtain⟨P',F',xs,x',hm,hp,hv,hQ⟩:=h
 unfold mOf at hm
 split at hm
 ·rename_i hl
  have I:DInv K P' F' H (aO N.length ps.length xs) (start N vs):=DInv.start N ps.length hp hv hl
  cases q:g (aO N.length ps.length xs) with
  | none=>rw[q] at hm;cases hm
  | some r=>
   rw[q] at hm
   refine⟨P',F',_,r,q,I,?_⟩
   cases r with
   | rt y ρ=>cases hm;exact fun v σ F2 H2 e h r=>hQ v F2 H2 e h.toDHp r
   | nx ρ=>cases hm;exact fun σ F2 H2 e I2=>hQ .non F2 H2 e I2.toDHp .non
   | bk ρ=>cases hm
   | ct ρ=>cases hm
 ·cases hm
inductive ArgsS (K:PySem.W.Frag) (ρ:DF) (σ:St) (F:Hp):List DV→List V→Prop
 | nil:ArgsS K ρ σ F [] []
 | v {d:D} {v:V} {xs:List DV} {vs:List V}:Rep K F v d→ArgsS K ρ σ F xs vs→ArgsS K ρ σ F (.v d::xs) (v::vs)
 | b {o:OD} {v:V} {xs:List DV} {vs:List V} (i:Nat):σ[i]?=some (some v)→((∃ t,ρ[i]?=some (some (.own o t)))∨ρ[i]?=some (some (.bor o)))→ArgsS K ρ σ F xs vs→ArgsS K ρ σ F (.bor o::xs) (v::vs)
theorem ArgsS.dvs {K:Kq}{P F H:Hp}{ρ:DF}{σ:St}(I:DInv K P F H ρ σ){xs:List DV}{vs:List V}(h:ArgsS K ρ σ F xs vs):DVs K (gd F H) F H xs vs:=by
 induction h with
 | nil=>exact .nil
 | v h _ ih=>exact .cons rfl h ih
 | b i h1 h2 _ ih=>
  obtain⟨a,rfl,h3⟩:=I.slot h1 h2
  exact .cons rfl ⟨a,rfl,h3.mono (Same.refl _) fun b u q hb=>⟨bM.mpr ⟨q,hb⟩,trivial⟩⟩ ih
def tLV (K:Kq)(f:Dv):TA:=fun σ H Q=>∃ P F ρ xs,f ρ=some xs∧DInv K P F H ρ σ∧∀ vs F' H',Evo P F H F' H'→ArgsS K ρ σ F' xs vs→Q vs H'
def fV (X:Cx)(es:List Expr)(f:Dv):Prop:=PA X es (tLV X.K f)
section
variable {X:Cx} {e:Expr} {es:List Expr} {pos:Pos}
theorem aI:fV X [] (fun _=>some []):=PA.imp aN fun σ H Q=>un7 fun P F ρ xs hf I k=>by
 cases hf
 exact k [] F H (Evo.refl I.toDHp) .nil
def aV (f:Dd)(g:Dv):DF→Option (List DV):=fun ρ=>(f ρ).bind fun d=>(g ρ).map fun xs=>.v d::xs
theorem aG {f:Dd}{g:Dv}(h:PDE X e f)(hr:fV X es g)(hs:starEach (e::es) X.env=(false,eval e X.env)::starEach es X.env:=by rfl):fV X (e::es) (aV f g):=PA.imp (ar h hr hs) fun σ H Q=>un7 fun P F ρ xs hf I k=>by
 unfold aV at hf
 cases q:f ρ with
 | none=>rw[q] at hf;cases hf
 | some d=>
  rw[q,Ya] at hf
  cases q2:g ρ with
  | none=>rw[q2] at hf;cases hf
  | some ys=>
   rw[q2] at hf
   cases hf
   exact⟨P,F,ρ,d,q,I,fun v F1 H1 e1 r1=>⟨P,F1,ρ,ys,q2,I.evo e1,fun vs F2 H2 e2 r2=>k (v::vs) F2 H2 (e1.trans e2) (.v (r1.same e2.ext) r2)⟩⟩
def aB (i:Nat)(g:Dv):DF→Option (List DV):=fun ρ=>match ρ[i]? with
 | some (some (.own o _))=>(g ρ).map fun xs=>.bor o::xs
 | some (some (.bor o))=>(g ρ).map fun xs=>.bor o::xs
 | some (some (.v d))=>(g ρ).map fun xs=>.v d::xs
 | _=>none
theorem dO (i:Nat){g:Dv}(h:PE X e (bZ i))(hr:fV X es g)(hs:starEach (e::es) X.env=(false,eval e X.env)::starEach es X.env:=by rfl):fV X (e::es) (aB i g):=PA.imp (ar h hr hs) fun σ H Q=>un7 fun P F ρ xs hf I k=>by
 unfold aB at hf
 split at hf
 ·rename_i o t q
  obtain⟨v,h1,h2⟩:=I.at q
  cases q2:g ρ with
  | none=>rw[q2] at hf;cases hf
  | some ys=>
   rw[q2] at hf
   cases hf
   exact⟨v,h1,P,F,ρ,ys,q2,I,fun vs F2 H2 e2 r2=>k (v::vs) F2 H2 e2 (.b i h1 (.inl ⟨t,q⟩) r2)⟩
 ·rename_i o q
  obtain⟨v,h1,h2⟩:=I.at q
  cases q2:g ρ with
  | none=>rw[q2] at hf;cases hf
  | some ys=>
   rw[q2] at hf
   cases hf
   exact⟨v,h1,P,F,ρ,ys,q2,I,fun vs F2 H2 e2 r2=>k (v::vs) F2 H2 e2 (.b i h1 (.inr q) r2)⟩
 ·rename_i d q
  obtain⟨v,h1,h2⟩:=I.at q
  cases q2:g ρ with
  | none=>rw[q2] at hf;cases hf
  | some ys=>
   rw[q2] at hf
   cases hf
   exact⟨v,h1,P,F,ρ,ys,q2,I,fun vs F2 H2 e2 r2=>k (v::vs) F2 H2 e2 (.v (Rep.same e2.ext h2) r2)⟩
 ·cases hf
def dvD:DV→Option D
 | .v d=>some d
 | .own o _=>some o.d
 | .bor _=>none
def aA (m:Dm)(g:Dv):DF→Option D:=fun ρ=>(g ρ).bind fun xs=>(m xs).bind dvD
def dvO:DV→Option OD
 | .own o _=>some o
 | _=>none
def dN (m:Dm)(g:Dv):DF→Option OD:=fun ρ=>(g ρ).bind fun xs=>(m xs).bind dvO
theorem rZ {F H:Hp}{F':Hp}{a:Addr}(e:Same F F')(h1:F' a=none)(h2:gd F H a=none):H a=none:=by
 unfold gd at h2
 have:F a=none:=by
  cases q:F a with
  | none=>rfl
  | some o=>rw[e a o q] at h1;cases h1
 rw[this] at h2
 exact h2
theorem ip {K:Kq}{F1 H1 F2 H2:Hp}{o:OD}{a:Addr}(e2:Same F1 F2)(h:ORep K F2 H2 (fun b=>F2 b=none∧gd F1 H1 b=none∧fQ b) o a):ORep K F2 H2 (fun b=>H1 b=none∧F2 b=none) o a:=
 h.mono (Same.refl _) fun b u q hb=>⟨hb,rZ e2 q.1 q.2.1,q.1⟩
theorem oM {K:Kq}{m:Dm}{g:Dv}{E:XK}:∀ σ H Q,tD K (aA m g) σ H Q→l3 (spD K m) [] E (tLV K g) σ H Q:=fun σ H Q=>un7 fun P F ρ d hf I k=>by
 unfold aA at hf
 cases q:g ρ with
 | none=>rw[q] at hf;cases hf
 | some xs=>
  rw[q,Ya] at hf
  cases q2:m xs with
  | none=>rw[q2] at hf;cases hf
  | some x=>
   rw[q2,Ya] at hf
   refine⟨P,F,ρ,xs,q,I,fun vs F1 H1 e1 r1=>?_⟩
   have I1:=I.evo e1
   refine⟨gd F1 H1,F1,xs,x,q2,dl I1.sub,by rw[YX];exact r1.dvs I1,fun v F2 H2 e2 hp2 r2=>?_⟩
   have ev:Evo P F1 H1 F2 H2:=I1.toDHp.gd e2 hp2
   cases x with
   | v d'=>cases hf;exact k v F2 H2 (e1.trans ev) r2
   | own o t=>
    cases hf
    obtain⟨a,rfl,ho,_⟩:=r2
    have ho':=ip e2 ho
    exact k _ _ H2 (e1.trans (ev.freeze I1.toDHp (fun b=>H1 b=none∧F2 b=none) fun _ q=>q)) (ho'.rep (aE fun b q=>q.2) fun b u q hb=>by rw[bf q];exact hb)
   | bor o=>cases hf
theorem pR {K:Kq}{m:Dm}{g:Dv}{E:XK}:∀ σ H Q,tO K (dN m g) σ H Q→l3 (spD K m) [] E (tLV K g) σ H Q:=fun σ H Q=>un7 fun P F ρ d hf I k=>by
 unfold dN at hf
 cases q:g ρ with
 | none=>rw[q] at hf;cases hf
 | some xs=>
  rw[q,Ya] at hf
  cases q2:m xs with
  | none=>rw[q2] at hf;cases hf
  | some x=>
   rw[q2,Ya] at hf
   refine⟨P,F,ρ,xs,q,I,fun vs F1 H1 e1 r1=>?_⟩
   have I1:=I.evo e1
   refine⟨gd F1 H1,F1,xs,x,q2,dl I1.sub,by rw[YX];exact r1.dvs I1,fun v F2 H2 e2 hp2 r2=>?_⟩
   have ev:Evo P F1 H1 F2 H2:=I1.toDHp.gd e2 hp2
   cases x with
   | own o t=>
    cases hf
    obtain⟨a,rfl,ho,_⟩:=r2
    exact k a F2 H2 (e1.trans ev) ((ip e2 ho).mono (Same.refl _) fun b u q hb=>⟨hb,e1.back I.toDHp q.1,q.2⟩)
   | _=>cases hf
section
variable {k:Nat} {f:Addr} {fd:FuncData} {ps:List Str} {m:Dm} {x:Str} {p:Pos} {g:Dv}
theorem aX (F:FnOk X.prog X.w X.K X.mg X.base CX0 k f fd ps (spD X.K m))(hr:Room k X.A)(hg:Gl X x)(hm:X.mg x=some (.ref f))(hk:PySem.W.keepIn X.K (.ref f)=true)(hb:Binds X.K fd ps [])(ha:fV X (e::es) g)
  (hd:(x == ("__debug__":Str))=false:=by decide) (he:starEach (e::es) X.env=(false,eval e X.env)::starEach es X.env:=by rfl) (hpl:(backTo pos (starEach es X.env)).any (·.1)=false:=by rfl):PDE X (.Call (.Name x p) (e::es) [] pos) (aA m g):=
 (dq F hr hg hm hk hb .nil iL ha hd he hpl).imp oM
theorem n5 (F:FnOk X.prog X.w X.K X.mg X.base CX0 k f fd ps (spD X.K m))(hr:Room k X.A)(hg:Gl X x)(hm:X.mg x=some (.ref f))(hk:PySem.W.keepIn X.K (.ref f)=true)(hb:Binds X.K fd ps [])(ha:fV X (e::es) g)
  (hd:(x == ("__debug__":Str))=false:=by decide) (he:starEach (e::es) X.env=(false,eval e X.env)::starEach es X.env:=by rfl) (hpl:(backTo pos (starEach es X.env)).any (·.1)=false:=by rfl):PDO X (.Call (.Name x p) (e::es) [] pos) (dN m g):=
 (dq F hr hg hm hk hb .nil iL ha hd he hpl).imp pR
end
end
def ly:Option DV→Option DV
 | some (.v d)=>some (.v d)
 | some (.own o _)=>some (.bor o)
 | some (.bor o)=>some (.bor o)
 | _=>none
def cZ (own:Nat)(ix:List Nat)(ρ:DF):DF:=List.replicate own none++ix.map fun j=>ly (ρ[j]?).join
def db (st:Dq)(c:Dk)(e:Dd)(ρ:DF):List D→Option (List D)
 | []=>some []
 | d::ds=>(st d ρ).bind fun ρ1=>(c ρ1).bind fun b=>if b=true then (e ρ1).bind fun y=>(db st c e ρ ds).map fun r=>y::r else db st c e ρ ds
def aK (own:Nat)(ix:List Nat)(it:Dl)(st:Dq)(c:Dk)(e:Dd):DF→Option (List D):=
 fun ρ=>(it ρ).bind fun ds=>if ds.length≤16777216 then db st c e (cZ own ix ρ) ds else none
def bN:DF→Option Bool:=fun _=>some true
theorem iM {own:Nat}{ix:List Nat}{ρ:DF}{i:Nat}{x:DV}(h:(cZ own ix ρ)[i]?=some (some x)):own≤i∧∃ j y,ix[i-own]?=some j∧ρ[j]?=some (some y)∧ly (some y)=some x:=by
 unfold cZ at h
 by_cases hi:i<own
 ·rw[YT (by rw[YD];exact hi),ZF,Yi hi] at h
  cases h
 ·rw[Ze (by rw[YD];omega),YD,Yv] at h
  refine⟨by omega,?_⟩
  cases q:ix[i-own]? with
  | none=>rw[q] at h;cases h
  | some j=>
   rw[q,YS] at h
   have h':=Yx h
   cases q2:ρ[j]? with
   | none=>rw[q2] at h';cases h'
   | some o=>
    rw[q2,Option.join_some] at h'
    cases o with
    | none=>cases h'
    | some y=>exact⟨j,y,rfl,q2,h'⟩
theorem ml {own:Nat}{ix:List Nat}{σ:St}{i j:Nat}{v:V}(hi:own≤i)(h:ix[i-own]?=some j)(hv:σ[j]?=some (some v)):(bj own ix σ)[i]?=some (some v):=by
 unfold bj
 rw[Ze (by rw[YD];exact hi),YD,Yv,h,YS,hv]
 rfl
theorem DInv.cap {K:Kq}{P F H:Hp}{ρ:DF}{σ:St}(I:DInv K P F H ρ σ)(own:Nat)(ix:List Nat):DInv K (gd F H) F H (cZ own ix ρ) (bj own ix σ):=by
 refine⟨dl I.sub,?_,fun _=>none,fun i x h=>?_⟩
 ·rw[cR]
  unfold cZ
  rw[YE,YD,Yf]
 ·obtain⟨hi,j,y,h1,h2,h3⟩:=iM h
  obtain⟨v,q1,q2⟩:=I.at h2
  refine⟨v,ml hi h1 q1,?_⟩
  have bo:∀ o,((∃ t,ρ[j]?=some (some (.own o t)))∨ρ[j]?=some (some (.bor o)))→DVRep K (gd F H) F H (fun b=>none=some i) (.bor o) v:=fun o ho=>by
   obtain⟨a,rfl,h3⟩:=I.slot q1 ho
   exact⟨a,rfl,h3.mono (Same.refl _) fun b u q hb=>⟨bM.mpr ⟨q,hb⟩,trivial⟩⟩
  cases y with
  | v d=>cases h3;exact q2
  | own o t=>cases h3;exact bo o (.inl ⟨t,h2⟩)
  | bor o=>cases h3;exact bo o (.inr h2)
theorem nc {K:Kq}{G F H F2 H2:Hp}{own:Nat}{ix:List Nat}{ρ:DF}{τ:St}(B:DInv K G F H (cZ own ix ρ) τ)(e:Same F F2)(hp:DHp G F2 H2):DInv K G F2 H2 (cZ own ix ρ) τ:=by
 obtain⟨O,h⟩:=B.rep
 refine⟨hp,B.len,O,fun i x hx=>?_⟩
 obtain⟨v,h1,h2⟩:=h i x hx
 refine⟨v,h1,?_⟩
 cases x with
 | v d=>exact Rep.same e h2
 | bor o=>obtain⟨a,rfl,h3⟩:=h2;exact⟨a,rfl,h3.mono e fun b u q hb=>⟨hb,q⟩⟩
 | own o t=>(obtain⟨_,j,y,_,_,h3⟩:=iM hx;cases y <;> cases h3)
section
variable {X:Cx} {elt tg iter:Expr} {ifs:List Expr} {scope:Scope} {pos:Pos} {N:List Str} {own:Nat} {ix is:List Nat} {f:Dl} {st:Dq} {c:Dk} {e:Dd}
theorem kq {K:Kq}(his:∀ j∈is,j<own):∀ σ H Q,tO K (asL (aK own ix f st c e)) σ H Q→nM own ix (tI K f) (tG K is st) (tB' K c) (tD K e) σ H Q:=fun σ H Q=>un7 fun P F ρ ob hf I k=>by
 unfold asL at hf
 cases hout:aK own ix f st c e ρ with
 | none=>rw[hout] at hf;cases hf
 | some out=>
 rw[hout] at hf
 cases hf
 have hf:=hout
 unfold aK at hf
 cases q:f ρ with
 | none=>rw[q] at hf;cases hf
 | some ds=>
  rw[q,Ya] at hf
  split at hf
  rotate_left
  ·cases hf
  rename_i hlen
  refine⟨P,F,ρ,ds,q,I,fun J F1 H1 ev ok acc hacc=>?_⟩
  have I1:=I.evo ev
  have hp1:DHp (gd F1 H1) F1 H1:=dl I1.sub
  have hg:gd F1 H1 acc=none:=by unfold gd;rw[I1.sub.free hacc];exact hacc
  have B1:DInv K (gd F1 H1) F1 H1 (cZ own ix ρ) (bj own ix σ):=I1.cap own ix
  have hP:∀ {F' H':Hp},Same F1 F'→DHp (gd F1 H1) F' H'→DHp P F' H':=fun s h=>(I1.toDHp.gd s h).hp
  refine⟨fun i m ys H'=>m=ds.length-i∧i≤ds.length∧∃ F',Same F1 F'∧DHp (gd F1 H1) F' H'∧F' acc=none∧H' acc=some (.lst ys)∧ys.length≤i∧∃ pre,Reps K F' ys pre∧(db st c e (cZ own ix ρ) (ds.drop i)).map (fun r=>pre++r)=some out,
   ⟨_,rfl,YG _,F1,Same.refl _,(Evo.side hp1 hacc).hp,I1.sub.free hacc,ak,Yo _,[],.nil,by rw[List.drop_zero,hf];rfl⟩,?_⟩
  rintro i m ys H' ⟨rfl,hi,F',se,hp',fa,ha,hy,pre,rp,hm⟩
  obtain⟨ok1,ok2⟩:=ok F' H' se (hP se hp') i
  by_cases hlt:i<ds.length
  ·have hd:ds[i]?=some ds[i]:=Yw hlt
   obtain⟨go,yl⟩:=ok1 _ hd
   have hdrop:ds.drop i=ds[i]::ds.drop (i+1):=ZV hlt
   rw[hdrop] at hm
   unfold db at hm
   cases hst:st ds[i] (cZ own ix ρ) with
   | none=>rw[hst] at hm;cases hm
   | some ρ1=>
    rw[hst,Ya] at hm
    refine .inr ⟨go,fun ys' H2=>∃ F2,Same F1 F2∧DHp (gd F1 H1) F2 H2∧F2 acc=none∧H2 acc=some (.lst ys')∧ys'.length≤i+1∧∃ pre',Reps K F2 ys' pre'∧(db st c e (cZ own ix ρ) (ds.drop (i+1))).map (fun r=>pre'++r)=some out,
     fun ys' H2 h=>⟨ds.length-(i+1),by omega,rfl,hlt,h⟩,fun x H2 hyl=>?_⟩
    obtain⟨F2,ev2,rx⟩:=yl x H2 hyl
    have ev2':Evo (gd F1 H1) F' H' F2 H2:=ev2.change hp'
    obtain⟨a2,fa2⟩:=ev2'.keep acc _ ha fa
    have B2:DInv K (gd F1 H1) F2 H2 (cZ own ix ρ) (bj own ix σ):=nc B1 (se.trans ev2.ext) ev2'.hp
    refine⟨gd F1 H1,F2,cZ own ix ρ,ds[i],ρ1,hst,B2,rx,fun σ3 F3 H3 ev3 I3 hl3 hσ=>?_⟩
    refine⟨⟨?_,fun j v hj=>?_⟩,?_⟩
    ·rw[hl3,cR]
    ·rw[hσ j]
     ·exact hj
     ·intro hj'
      obtain⟨ho,_⟩:=gB hj
      have:=his j hj'
      omega
    obtain⟨a3,fa3⟩:=ev3.keep acc _ a2 fa2
    cases hc:c ρ1 with
    | none=>rw[hc] at hm;cases hm
    | some b=>
     rw[hc,Ya] at hm
     refine⟨gd F1 H1,F3,ρ1,b,hc,I3,fun F4 H4 ev4=>?_⟩
     obtain⟨a4,fa4⟩:=ev4.keep acc _ a3 fa3
     have s14:Same F' F4:=ev2.ext.trans (ev3.ext.trans ev4.ext)
     cases b with
     | false=>
      rw[Yl Yj] at hm ⊢
      exact⟨F4,se.trans s14,ev4.hp,fa4,a4,by omega,pre,rp.same s14,hm⟩
     | true=>
      rw[Yi rfl] at hm ⊢
      cases he:e ρ1 with
      | none=>rw[he] at hm;cases hm
      | some y=>
       rw[he,Ya] at hm
       refine⟨gd F1 H1,F4,ρ1,y,he,I3.evo ev4,fun v F5 H5 ev5 rv=>?_⟩
       obtain⟨a5,fa5⟩:=ev5.keep acc _ a4 fa4
       have s15:Same F' F5:=s14.trans ev5.ext
       refine⟨a5,by rw[YM];omega,F5,se.trans s15,⟨fun b u h=>by rw[ae (am h fa5)];exact ev5.hp.sub b u h,fun b u h=>by rw[ae (am h hg)];exact ev5.hp.pro b u h,ev5.hp.dis⟩,fa5,ak,by rw[YE,ZO];omega,pre++[y],(rp.same s15).append (.one rv),?_⟩
       cases hmm:db st c e (cZ own ix ρ) (ds.drop (i+1)) with
       | none=>rw[hmm] at hm;cases hm
       | some r=>
        rw[hmm] at hm
        simp only[YS] at hm ⊢
        rw[XD]
        exact hm
  ·have hz:ds.drop i=[]:=ZJ (by omega)
   rw[hz] at hm
   unfold db at hm
   rw[YS,YX] at hm
   cases hm
   exact .inl ⟨ok2 (by omega),k acc F' H' (ev.trans (I1.toDHp.gd se hp')) ⟨⟨ev.back I.toDHp hacc,fa⟩,_,ha,rp⟩⟩
theorem cF (hcalm:X.calm=true)(b:BlkScope X scope)(cp:Caps X scope N own ix)(his:∀ j∈is,j<own)(hi:PDI X tg iter f)
  (hg:∀ s H fp pz,PDG (blk X scope N s H fp pz) tg is st) (hc:∀ s H fp pz,h8 (blk X scope N s H fp pz) ifs (tB' X.K c)) (he:∀ s H fp pz,PDE (blk X scope N s H fp pz) elt e)
  (hnames:∀ y∈scope.names,y.2=.local→scope.names.lookup y.1=some .local:=by decide)
  (hs:∀ x,foldedSetIterable iter X.env x=pure x:=by intro _;rfl):PDO X (.ListComp elt [⟨tg,iter,ifs,0⟩] scope pos) (asL (aK own ix f st c e)):=
 (oE (g:=tG X.K is st) (tc:=tB' X.K c) (te:=tD X.K e) hcalm b cp hi hg hc he hnames hs).imp (kq his)
end
section
variable {X:Cx} {e a b c:Expr} {es:List Expr} {pos:Pos}
def ub (n:Nat)(f:Dl):Prop:=∀ ρ ds,f ρ=some ds→ds.length=n
def PDL (X:Cx)(es:List Expr)(n:Nat)(f:Dl):Prop:=PDA X es f∧ub n f
def jL:DF→Option (List D):=fun _=>some []
def el (f:Dd)(g:Dl):DF→Option (List D):=fun ρ=>(f ρ).bind fun d=>(g ρ).map fun r=>d::r
theorem dB:PDL X [] 0 jL:=⟨PA.imp aN fun σ H Q=>un7 fun P F ρ xs hf I k=>by
 cases hf
 exact k [] F H (Evo.refl I.toDHp) .nil,fun ρ ds h=>by cases h;rfl⟩
theorem fJ {f:Dd}{n:Nat}{g:Dl}(h:PDE X e f)(hr:PDL X es n g)(hs:starEach (e::es) X.env=(false,eval e X.env)::starEach es X.env:=by rfl):PDL X (e::es) (n+1) (el f g):=
 ⟨PA.imp (ar h hr.1 hs) fun σ H Q=>un7 fun P F ρ xs hf I k=>by
  unfold el at hf
  cases q:f ρ with
  | none=>rw[q] at hf;cases hf
  | some d=>
   rw[q,Ya] at hf
   cases q2:g ρ with
   | none=>rw[q2] at hf;cases hf
   | some ys=>
    rw[q2] at hf
    cases hf
    exact⟨P,F,ρ,d,q,I,fun v F1 H1 e1 r1=>⟨P,F1,ρ,ys,q2,I.evo e1,fun vs F2 H2 e2 r2=>k (v::vs) F2 H2 (e1.trans e2) (.cons (r1.same e2.ext) r2)⟩⟩,fun ρ ds hf=>by
  unfold el at hf
  cases q:f ρ with
  | none=>rw[q] at hf;cases hf
  | some d=>
   rw[q,Ya] at hf
   cases q2:g ρ with
   | none=>rw[q2] at hf;cases hf
   | some ys=>
    rw[q2] at hf
    cases hf
    rw[Yu,hr.2 ρ ys q2]⟩
def asT (f:Dl):DF→Option D:=fun ρ=>(f ρ).map .tup
theorem qO {x1}{n:Nat}{f:Dl}(h:PDL X es n f)(hn:n≤16777216:=by decide):PDE X (.Tuple es x1 pos) (asT f):=(rf h.1).imp fun σ H Q=>un7 fun P F ρ d hf I k=>by
 unfold asT at hf
 cases q:f ρ with
 | none=>rw[q] at hf;cases hf
 | some ds=>
  rw[q] at hf
  cases hf
  refine⟨P,F,ρ,ds,q,I,fun vs F1 H1 e1 r1=>⟨by rw[r1.length,h.2 ρ ds q,YM];exact hn,fun p hp=>?_⟩⟩
  exact k (.ref p) _ _ (e1.trans (Evo.laid e1.hp hp)) (.tup ak (r1.same (e8 (e1.hp.free hp).1)))
theorem eN {n:Nat}{f:Dl}(h:PDL X es n f)(hn:n≤16777216:=by decide):PDO X (.List es pos) (asL f):=(qS h.1).imp fun σ H Q=>un7 fun P F ρ ob hf I k=>by
 unfold asL at hf
 cases q:f ρ with
 | none=>rw[q] at hf;cases hf
 | some ds=>
 rw[q] at hf
 cases hf
 refine⟨P,F,ρ,ds,q,I,fun vs F1 H1 e1 r1=>⟨by rw[r1.length,h.2 ρ ds q,YM];exact hn,fun p hp=>?_⟩⟩
 exact k p F1 _ (e1.trans (Evo.side e1.hp hp)) ⟨⟨e1.back I.toDHp hp,(e1.hp.free hp).1⟩,_,ak,r1⟩
theorem Reps.atI {K:Kq}{F:Hp}{vs:List V}{ds:List D}{i:Int}{d:D}(r:Reps K F vs ds)(h:atI ds i=some d):∃ v,atI vs i=some v∧Rep K F v d:=by
 unfold L2.atI at h ⊢
 rw[r.length]
 cases q:ixN ds.length i with
 | none=>rw[q] at h;cases h
 | some j=>
  rw[q,Ya] at h
  obtain⟨v,h1,h2⟩:=r.get h
  exact⟨v,h1,h2⟩
def ixD:D→D→Option D
 | .lst ds,.int i=>atI ds i
 | .tup ds,.int i=>atI ds i
 | .str z,.int i=>if z.length≤16777216 then (atI z.cps.toList i).map fun c=>.str ⟨#[c]⟩ else none
 | _,_=>none
theorem t8 {K:Kq}:jQ K (rIx K) ixD:=by
 intro P F H ρ σ x y dx dy d Q hf I rx ry k
 unfold ixD at hf
 split at hf
 ·obtain⟨p,vs,rfl,h1,h2⟩:=bW I rx
  obtain⟨v,h3,h4⟩:=h2.atI hf
  exact .inl ⟨p,vs,_,v,rfl,bi ry,h1,h3,k v F H (Evo.refl I.toDHp) h4⟩
 ·obtain⟨p,vs,rfl,h1,h2⟩:=eQ I rx
  obtain⟨v,h3,h4⟩:=h2.atI hf
  exact .inr (.inl ⟨p,vs,_,v,rfl,bi ry,h1,h3,k v F H (Evo.refl I.toDHp) h4⟩)
 ·split at hf
  ·rename_i z i hz
   cases q:atI z.cps.toList i with
   | none=>rw[q] at hf;cases hf
   | some c=>
    rw[q] at hf
    cases hf
    exact .inr (.inr ⟨z,i,c,g6 rx,bi ry,by rw[YM];exact hz,q,k _ F H (Evo.refl I.toDHp) .str⟩)
  ·cases hf
 ·cases hf
theorem cM {fa fb:Dd}(ha:PDR X a fa)(hb:PDR X b fb)(hs:kH b:=by exact fun _ _=>rfl):PDE X (.Subscript a b pos) (d2 ixD fa fb):=(t0 qW ha hb hs).imp (jN t8)
def tq:R2:=fun x y H Q=>(∃ i j,x=.int i∧y=.int j∧Q (.int (i+j)) H)∨∃ i j,x=.str i∧y=.str j∧i.length+j.length≤sizeLine∧Q (.str (i++j)) H
theorem sK {fa fb:Dd}(ha:PDR X a fa)(hb:PDR X b fb):PDT X (.Compare a [.LtE] [b] pos) (asB (d2 leI fa fb)):=oX tJ (pB fun _ _ _=>.bl) ha hb (fm _)
def jn (f g:Dk):DF→Option Bool:=fun ρ=>(f ρ).bind fun b=>if b=true then g ρ else some false
def orT (f g:Dk):DF→Option Bool:=fun ρ=>(f ρ).bind fun b=>if b=true then some true else g ρ
def eJ (f:Dk):DF→Option Bool:=fun ρ=>(f ρ).map fun b=>!b
def PDW (X:Cx)(e:Expr)(f:Dk):Prop:=PW X e (tB' X.K f)
theorem PDW.t {f:Dk}(h:PDW X e f):PDT X e f:=PW.pt h
theorem PW.imp {t t':TT}(h:PW X e t)(i:∀ σ H Q,t' σ H Q→t σ H Q):PW X e t':=fun w pz s σ H Q I q=>h w pz s σ H Q I (i σ H Q q)
theorem l_ {f:Dk}(h:PDT X a f):PDW X (.BoolOp .And [a] pos) f:=pK h
theorem cU {f:Dk}(h:PDT X a f):PDW X (.BoolOp .Or [a] pos) f:=qK h
theorem og {aJ:List Expr}{f g:Dk}(ha:PDT X a f)(hb:PDW X (.BoolOp .And (b::aJ) pos) g):PDW X (.BoolOp .And (a::b::aJ) pos) (jn f g):=PW.imp (si ha hb) fun σ H Q=>un7 fun P F ρ r hf I k=>by
 unfold jn at hf
 cases q:f ρ with
 | none=>rw[q] at hf;cases hf
 | some x=>
  rw[q,Ya] at hf
  refine⟨P,F,ρ,x,q,I,fun F1 H1 e1=>?_⟩
  cases x with
  | true=>rw[Yi rfl] at hf ⊢;exact⟨P,F1,ρ,r,hf,I.evo e1,fun F2 H2 e2=>k F2 H2 (e1.trans e2)⟩
  | false=>rw[Yl Yj] at hf ⊢;cases hf;exact k F1 H1 e1
theorem d5 {aJ:List Expr}{f g:Dk}(ha:PDT X a f)(hb:PDW X (.BoolOp .Or (b::aJ) pos) g):PDW X (.BoolOp .Or (a::b::aJ) pos) (orT f g):=PW.imp (sV ha hb) fun σ H Q=>un7 fun P F ρ r hf I k=>by
 unfold orT at hf
 cases q:f ρ with
 | none=>rw[q] at hf;cases hf
 | some x=>
  rw[q,Ya] at hf
  refine⟨P,F,ρ,x,q,I,fun F1 H1 e1=>?_⟩
  cases x with
  | true=>rw[Yi rfl] at hf ⊢;cases hf;exact k F1 H1 e1
  | false=>rw[Yl Yj] at hf ⊢;exact⟨P,F1,ρ,r,hf,I.evo e1,fun F2 H2 e2=>k F2 H2 (e1.trans e2)⟩
theorem eM {f:Dk}(ha:PDT X a f):PDT X (.UnaryOp .Not a pos) (eJ f):=(qM ha).imp fun σ H Q=>un7 fun P F ρ r hf I k=>by
 unfold eJ at hf
 cases q:f ρ with
 | none=>rw[q] at hf;cases hf
 | some x=>rw[q] at hf;cases hf;exact⟨P,F,ρ,x,q,I,fun F1 H1 e1=>k F1 H1 e1⟩
def pC (f g:Dd):DF→Option D:=fun ρ=>match f ρ with
 | some (.bl true)=>g ρ
 | some (.bl false)=>some (.bl false)
 | _=>none
def orV (f g:Dd):DF→Option D:=fun ρ=>match f ρ with
 | some (.bl false)=>g ρ
 | some (.bl true)=>some (.bl true)
 | _=>none
def vd (f:Dd):DF→Option D:=fun ρ=>match f ρ with
 | some (.bl b)=>some (.bl (!b))
 | _=>none
theorem rG {op}{f:Dd}(h:PDE X a f):PDE X (.BoolOp op [a] pos) f:=qE h
def ifV (c:Dk)(f g:Dd):DF→Option D:=fun ρ=>(c ρ).bind fun b=>if b=true then f ρ else g ρ
theorem sn {fc:Dk}{f g:Dd}(hc:PDT X c fc)(ha:PDE X a f)(hb:PDE X b g):PDE X (.IfExp c a b pos) (ifV fc f g):=(l9 hc ha hb).imp fun σ H Q=>un7 fun P F ρ r hf I k=>by
 unfold ifV at hf
 cases q:fc ρ with
 | none=>rw[q] at hf;cases hf
 | some x=>
  rw[q,Ya] at hf
  refine⟨P,F,ρ,x,q,I,fun F1 H1 e1=>?_⟩
  cases x with
  | true=>rw[Yi rfl] at hf ⊢;exact⟨P,F1,ρ,r,hf,I.evo e1,fun v F2 H2 e2 r2=>k v F2 H2 (e1.trans e2) r2⟩
  | false=>rw[Yl Yj] at hf ⊢;exact⟨P,F1,ρ,r,hf,I.evo e1,fun v F2 H2 e2 r2=>k v F2 H2 (e1.trans e2) r2⟩
def d1 (f:D→Option D)(fa:Dd):DF→Option D:=fun ρ=>(fa ρ).bind f
def bP:D→Option D
 | .lst ds=>some (.int ds.length)
 | .tup ds=>some (.int ds.length)
 | .str z=>if z.length≤16777216 then some (.int z.length) else none
 | _=>none
def sS (K:Kq):List V→Hp→VK→Prop:=fun xs H Q=>(∃ p ys,xs=[.ref p]∧(SqL K H p ys∨SqT K H p ys)∧Q (.int ys.length) H)∨∃ z,xs=[.str z]∧z.length≤sizeLine∧Q (.int z.length) H
end
mutual
def aU:D→PyData
 | .non=>.none
 | .bl b=>.bool b
 | .int i=>.int i
 | .str x=>.str x
 | .tup xs=>.tuple (aS xs)
 | .lst xs=>.list (aS xs)
 | .dT _=>.none
 | .dK _=>.none
 | .ins _ _=>.none
 | .fn _ _ _=>.none
def aS:List D→List PyData
 | []=>[]
 | d::ds=>aU d::aS ds
end
def okN:Nat→D→Bool
 | _,.non=>true
 | _,.bl _=>true
 | _,.int _=>true
 | _,.str x=>PyData.strOk x
 | n+1,.tup xs=>xs.all (okN n)
 | n+1,.lst xs=>xs.all (okN n)
 | _,_=>false
theorem aY {n:Nat}:∀ {ds:List D},ds.all (okN n)=true→∀ d∈ds,okN n d=true:=fun h d hd=>YF.mp h d hd
theorem bp:∀ (n:Nat) (d:D),okN n d=true→(aU d).canLay0=true∧(aU d).depth≤n+1:=by
 intro n
 induction n with
 | zero=>
  intro d h
  cases d with
  | non=>exact⟨rfl,by simp[aU,PyData.depth]⟩
  | bl b=>exact⟨rfl,by simp[aU,PyData.depth]⟩
  | int b=>exact⟨rfl,by simp[aU,PyData.depth]⟩
  | str b=>exact⟨h,by simp[aU,PyData.depth]⟩
  | _=>cases h
 | succ n ih=>
  have all:∀ ds:List D,ds.all (okN n)=true→PyData.canLayAll0 (aS ds)=true∧PyData.depthAll (aS ds)≤n+1:=by
   intro ds
   induction ds with
   | nil=>intro _;exact⟨rfl,by simp[aS,PyData.depthAll]⟩
   | cons x r ihr=>
    intro h
    rw[List.all_cons,Yr] at h
    obtain⟨h1,h2⟩:=ih x h.1
    obtain⟨h3,h4⟩:=ihr h.2
    refine⟨?_,?_⟩
    ·show (PyData.canLay0 (aU x)&&PyData.canLayAll0 (aS r))=true
     rw[h1,h3];rfl
    ·show PyData.depthAll (aU x::aS r)≤n+1
     simp only[PyData.depthAll]
     omega
  intro d h
  cases d with
  | non=>exact⟨rfl,by simp[aU,PyData.depth]⟩
  | bl b=>exact⟨rfl,by simp[aU,PyData.depth]⟩
  | int b=>exact⟨rfl,by simp[aU,PyData.depth]⟩
  | str b=>exact⟨h,by simp[aU,PyData.depth]⟩
  | tup xs=>
   obtain⟨h1,h2⟩:=all xs h
   exact⟨h1,by simp only[aU,PyData.depth];omega⟩
  | lst xs=>
   obtain⟨h1,h2⟩:=all xs h
   exact⟨h1,by simp only[aU,PyData.depth];omega⟩
  | _=>cases h
section
variable {X:Cx} {pz:Kp} {σ:St} {H:Hp} {s:Shared}
theorem Reps.readsOf {n:Nat}(ih:∀ {v:V} {d:D} {u:Value},Rep X.K H v d→okN n d=true→RelV v u→∃ as,Reads s.heap u (aU d) as){vs:List V}{ds:List D}(h:Reps X.K H vs ds):∀ us:List Value,(∀ d∈ds,okN n d=true)→Vals vs us→∃ as,ReadsAll s.heap us (aS ds) as:=
 Reps.ind (M:=fun vs ds=>∀ us:List Value,(∀ d∈ds,okN n d=true)→Vals vs us→∃ as,ReadsAll s.heap us (aS ds) as) (fun us _ r=>by cases r;exact⟨_,.nil⟩) (fun h _ i us ho r=>by
  cases r with
  | cons r t=>
   obtain⟨a1,r1⟩:=ih h (ho _ Ye) r
   obtain⟨a2,r2⟩:=i _ (fun d hd=>ho d (Yc _ hd)) t
   exact⟨_,.cons r1 r2⟩) h
theorem Rep.reads1 (I:Inv X pz σ H s)(n:Nat)(ih:∀ m,n=m+1→∀ {v:V} {d:D} {u:Value},Rep X.K H v d→okN m d=true→RelV v u→∃ as,Reads s.heap u (aU d) as){v:V}{d:D}{u:Value}(h:Rep X.K H v d)(ho:okN n d=true)(r:RelV v u):∃ as,Reads s.heap u (aU d) as:=by
 cases h with
 | non=>cases (show u=Value.none from r);exact⟨_,.none⟩
 | bl=>cases (show u=Value.bool _ from r);exact⟨_,.bool _⟩
 | int=>obtain⟨t,rfl⟩:=(show ∃ t,u=Value.int _ t from r);exact⟨_,.int _ _⟩
 | str=>obtain⟨t,rfl⟩:=(show ∃ t,u=Value.str _ t from r);exact⟨_,.str _ _⟩
 | tup h q=>
  cases n with
  | zero=>cases ho
  | succ m=>
   cases (show u=Value.ref _ from r)
   obtain⟨its,rv,ht,_⟩:=I.tuple (SqT.of h)
   obtain⟨as,ra⟩:=Reps.readsOf (ih m rfl) q _ (aY ho) rv
   obtain⟨o,h1,h2,m,h3⟩:=ht
   exact⟨_,.tuple h1 h2 h3 (by simpa using ra)⟩
 | lst h q=>
  cases n with
  | zero=>cases ho
  | succ m=>
   cases (show u=Value.ref _ from r)
   obtain⟨its,rv,ht,_⟩:=I.list h
   obtain⟨as,ra⟩:=Reps.readsOf (ih m rfl) q _ (aY ho) rv
   obtain⟨o,m,h1,h2,_,h3⟩:=ht
   exact⟨_,.list h1 h2 h3 (by simpa using ra)⟩
 | _=>cases n <;> cases ho
theorem Rep.reads (I:Inv X pz σ H s)(n:Nat):∀ {v:V} {d:D} {u:Value},Rep X.K H v d→okN n d=true→RelV v u→∃ as,Reads s.heap u (aU d) as:=by
 induction n with
 | zero=>exact fun h ho r=>Rep.reads1 I 0 (fun m e=>by cases e) h ho r
 | succ n ih=>exact fun h ho r=>Rep.reads1 I (n+1) (fun m e=>by cases e;exact ih) h ho r
end
def eqd (x y:D):Bool:=PyData.eqv (aU x) (aU y)
def eqD (x y:D):Option D:=if (okN 30 x&&okN 30 y)=true then some (.bl (eqd x y)) else none
def neD (x y:D):Option D:=if (okN 30 x&&okN 30 y)=true then some (.bl (!eqd x y)) else none
def pS (K:Kq)(g:Bool→Bool):R2:=fun x y H Q=>∃ dx dy,Rep K H x dx∧Rep K H y dy∧okN 30 dx=true∧okN 30 dy=true∧Q (.bl (g (eqd dx dy))) H
section
variable {X:Cx} {e a b c:Expr} {es:List Expr} {pos:Pos}
theorem nX (hu:X.A.units+64<cLine):OpR X (compareOp .Eq) (pS X.K fun b=>b):=by
 intro pz s σ H x y v u Q I rx ry h
 obtain⟨dx,dy,h1,h2,o1,o2,q⟩:=h
 obtain⟨a1,r1⟩:=h1.reads I 30 o1 rx
 obtain⟨a2,r2⟩:=h2.reads I 30 o2 ry
 obtain⟨l1,p1⟩:=bp 30 dx o1
 obtain⟨l2,p2⟩:=bp 30 dy o2
 refine PySem.SeqAt.compareEq_shaped r1 r2 ?_ ?_ hu ⟨.bl _,H,I,rfl,q⟩
 ·unfold PySem.SeqAt.shaped;rw[l1,XG,YH];omega
 ·unfold PySem.SeqAt.shaped;rw[l2,XG,YH];omega
theorem rM (hu:X.A.units+64<cLine):OpR X (compareOp .NotEq) (pS X.K fun b=>!b):=by
 intro pz s σ H x y v u Q I rx ry h
 obtain⟨dx,dy,h1,h2,o1,o2,q⟩:=h
 obtain⟨a1,r1⟩:=h1.reads I 30 o1 rx
 obtain⟨a2,r2⟩:=h2.reads I 30 o2 ry
 obtain⟨l1,p1⟩:=bp 30 dx o1
 obtain⟨l2,p2⟩:=bp 30 dy o2
 refine PySem.SeqAt.compareNe_shaped r1 r2 ?_ ?_ hu ⟨.bl _,H,I,rfl,q⟩
 ·unfold PySem.SeqAt.shaped;rw[l1,XG,YH];omega
 ·unfold PySem.SeqAt.shaped;rw[l2,XG,YH];omega
theorem l7 {K:Kq}:f7 K (pS K fun b=>b) eqD:=by
 intro P F H x y dx dy d Q hf hp rx ry k
 unfold eqD at hf
 split at hf
 ·rename_i h
  rw[Yr] at h
  cases hf
  exact⟨dx,dy,rx,ry,h.1,h.2,k _ F H (Evo.refl hp) .bl⟩
 ·cases hf
theorem qY {K:Kq}:f7 K (pS K fun b=>!b) neD:=by
 intro P F H x y dx dy d Q hf hp rx ry k
 unfold neD at hf
 split at hf
 ·rename_i h
  rw[Yr] at h
  cases hf
  exact⟨dx,dy,rx,ry,h.1,h.2,k _ F H (Evo.refl hp) .bl⟩
 ·cases hf
theorem t5 {fa fb:Dd}(hu:X.A.units+64<cLine)(ha:PDN X a fa)(hb:PDN X b fb):PDE X (.Compare a [.Eq] [b] pos) (d2 eqD fa fb):=rX (nX hu) l7 ha hb (fm _)
theorem gH {fa fb:Dd}(hu:X.A.units+64<cLine)(ha:PDN X a fa)(hb:PDN X b fb):PDT X (.Compare a [.Eq] [b] pos) (asB (d2 eqD fa fb)):=eO (nX hu) l7 ha hb (fm _)
theorem mC {fa fb:Dd}(hu:X.A.units+64<cLine)(ha:PDN X a fa)(hb:PDN X b fb):PDT X (.Compare a [.NotEq] [b] pos) (asB (d2 neD fa fb)):=eO (rM hu) qY ha hb (fm _)
def cB:D→Option (List D)
 | .lst ds=>some ds
 | .tup ds=>some ds
 | _=>none
def cg (x y:D):Option D:=(cB y).bind fun ds=>if (okN 30 x&&ds.all (okN 29))=true then some (.bl (!ds.any fun z=>eqd z x)) else none
def t_ (K:Kq)(g:Bool→Bool):R2:=fun x y H Q=>∃ dx dy ds,Rep K H x dx∧Rep K H y dy∧cB dy=some ds∧okN 30 dx=true∧ds.all (okN 29)=true∧Q (.bl (g (ds.any fun z=>eqd z dx))) H
theorem dP (x:D):∀ ds:List D,(aS ds).any (fun y=>PyData.eqv y (aU x))=ds.any fun z=>eqd z x
 | []=>rfl
 | d::ds=>by
  show ((PyData.eqv (aU d) (aU x))||(aS ds).any _)=_
  rw[dP x ds]
  rfl
theorem kP (hu:X.A.units+64<cLine):OpR X (compareOp .NotIn) (t_ X.K fun b=>!b):=by
 intro pz s σ H x y v u Q I rx ry h
 obtain⟨dx,dy,ds,h1,h2,hi,o1,o2,q⟩:=h
 obtain⟨a1,r1⟩:=h1.reads I 30 o1 rx
 obtain⟨l1,p1⟩:=bp 30 dx o1
 have hm:min (PyData.depthAll (aS ds)) (aU dx).depth≤31:=YB (Nat.min_le_right _ _) p1
 cases dy with
 | lst xs=>
  cases hi
  obtain⟨a2,r2⟩:=h2.reads I 30 (d:=.lst ds) o2 ry
  obtain⟨l2,p2⟩:=bp 30 (.lst ds) o2
  exact PySem.SeqAt.notIn_list_reads r2 r1 l2 l1 (by omega) ⟨.bl _,H,I,(by show Value.bool _=Value.bool _;rw[dP]),q⟩
 | tup xs=>
  cases hi
  obtain⟨a2,r2⟩:=h2.reads I 30 (d:=.tup ds) o2 ry
  obtain⟨l2,p2⟩:=bp 30 (.tup ds) o2
  exact PySem.SeqAt.notIn_tuple_reads r2 r1 l2 l1 (by omega) ⟨.bl _,H,I,(by show Value.bool _=Value.bool _;rw[dP]),q⟩
 | _=>cases hi
theorem lI {K:Kq}:f7 K (t_ K fun b=>!b) cg:=by
 intro P F H x y dx dy d Q hf hp rx ry k
 unfold cg at hf
 cases q:cB dy with
 | none=>rw[q] at hf;cases hf
 | some ds=>
  rw[q,Ya] at hf
  split at hf
  ·rename_i h
   rw[Yr] at h
   cases hf
   exact⟨dx,dy,ds,rx,ry,q,h.1,h.2,k _ F H (Evo.refl hp) .bl⟩
  ·cases hf
theorem nL {fa fb:Dd}(hu:X.A.units+64<cLine)(ha:PDN X a fa)(hb:PDN X b fb)(hm:behindInMarks .NotIn b=false:=by with_unfolding_all rfl):PDT X (.Compare a [.NotIn] [b] pos) (asB (d2 cg fa fb)):=eO (kP hu) lI ha hb hm
end
section
variable {X:Cx} {tg e a b l:Expr} {pos p:Pos}
def eD (f:Dd):DF→Option (List D):=fun ρ=>match f ρ with
 | some (.lst ds)=>some ds
 | _=>none
theorem mW {f:Dd}{ρ:DF}{ds:List D}(h:eD f ρ=some ds):f ρ=some (.lst ds):=by
 unfold eD at h
 split at h
 ·rename_i q;cases h;exact q
 ·cases h
theorem gi {K:Kq}{P F:Hp}{a:Addr}{vs:List V}{ds:List D}(h:SqL K F a vs)(r:Reps K F vs ds):nv K P (Itl K a) F ds:=by
 intro F' H' e hp i
 have hv:SqL K H' a vs:=hp.sub.seq (e.seq h)
 refine⟨fun d hd=>?_,fun hl=>⟨vs,hv,by rw[r.length];exact hl⟩⟩
 obtain⟨v,h1,h2⟩:=r.get hd
 refine⟨⟨vs,v,hv,h1⟩,fun x H2 hy=>?_⟩
 obtain⟨rfl,hx⟩:=hy
 have:=hx vs hv
 rw[h1] at this
 cases this
 exact⟨F',Evo.refl hp,h2.same e⟩
theorem oQ {f:Dd}(h:PDE X l f):PDI X tg l (eD f):=PI.imp (ir h) fun σ H R=>un7 fun P F ρ ds hf I k=>by
 refine⟨P,F,ρ,_,mW hf,I,fun v F' H' ev rv=>?_⟩
 cases rv with
 | lst h1 h2=>exact⟨_,rfl,⟨_,ev.hp.sub.seq h1⟩,k _ F' H' ev (gi h1 h2)⟩
def aT (i:Nat):DF→Option (List D):=fun ρ=>match ρ[i]? with
 | some (some (.bor (.lst ds)))=>some ds
 | some (some (.v (.lst ds)))=>some ds
 | _=>none
theorem nQ {K:Kq}{P F:Hp}{a:Addr}{vs:List V}{ds:List D}(h:P a=some (.lst vs))(r:Reps K F vs ds):nv K P (Itl K a) F ds:=by
 intro F' H' e hp i
 have hv:SqL K H' a vs:=SqL.of (hp.pro _ _ h)
 refine⟨fun d hd=>?_,fun hl=>⟨vs,hv,by rw[r.length];exact hl⟩⟩
 obtain⟨v,h1,h2⟩:=r.get hd
 refine⟨⟨vs,v,hv,h1⟩,fun x H2 hy=>?_⟩
 obtain⟨rfl,hx⟩:=hy
 have:=hx vs hv
 rw[h1] at this
 cases this
 exact⟨F',Evo.refl hp,h2.same e⟩
theorem b5 (i:Nat)(h:PE X l (bZ i)):PDI X tg l (aT i):=PI.imp (ir h) fun σ H R=>un7 fun P F ρ ds hf I k=>by
 unfold aT at hf
 split at hf
 ·rename_i ds' q
  cases hf
  obtain⟨v,h1,a,rfl,_,u,h3,h4⟩:=I.at q
  cases u with
  | lst vs=>exact⟨_,h1,a,rfl,⟨vs,SqL.of (I.pro _ _ h3)⟩,k _ F H (Evo.refl I.toDHp) (nQ h3 h4)⟩
  | _=>exact h4.elim
 ·rename_i ds' q
  cases hf
  obtain⟨v,h1,h2⟩:=I.at q
  cases h2 with
  | lst h3 h4=>exact⟨_,h1,_,rfl,⟨_,I.sub.seq h3⟩,k _ F H (Evo.refl I.toDHp) (gi h3 h4)⟩
 ·cases hf
def bn (lo:Int)(n:Nat):List D:=(List.range n).map fun i:Nat=>.int (lo+(i:Int))
theorem jK {lo:Int}{n i:Nat}{d:D}(h:(bn lo n)[i]?=some d):i<n∧d=.int (lo+(i:Int)):=by
 unfold bn at h
 rw[Yv] at h
 by_cases hi:i<n
 ·rw[Xa hi,YS] at h
  cases h
  exact⟨hi,rfl⟩
 ·rw[Zt (by rw[Xn];omega)] at h
  cases h
theorem jy (lo:Int)(n:Nat):(bn lo n).length=n:=by unfold bn;rw[Yf,Xn]
theorem jC {K:Kq}{P F:Hp}(lo:Int)(n:Nat):nv K P (Itr lo n) F (bn lo n):=by
 intro F' H' e hp i
 refine⟨fun d hd=>?_,fun hl=>by rw[jy] at hl;exact hl⟩
 obtain⟨hi,rfl⟩:=jK hd
 refine⟨hi,fun x H2 hy=>?_⟩
 obtain⟨rfl,rfl⟩:=hy
 exact⟨F',Evo.refl hp,.int⟩
def cD (f:Dd):DF→Option (List D):=fun ρ=>match f ρ with
 | some (.int j)=>if -(2 ^ 62)≤j∧j<2 ^ 62 then some (bn 0 j.toNat) else none
 | _=>none
theorem a9 {f:Dd}(hg:Gl X "range")(hm:X.mg "range"=none)(ha:PDR X a f)(hs:starEach [a] X.env=[(false,eval a X.env)]:=by rfl):PDI X tg (.Call (.Name "range" p) [a] [] pos) (cD f):=
 PI.imp (lC hg hm (ar ha aN hs) hs) fun σ H R=>un7 fun P F ρ ds hf I k=>by
  unfold cD at hf
  split at hf
  ·rename_i j q
   split at hf
   ·rename_i hj
    cases hf
    refine⟨P,F,ρ,_,q,I,fun v F1 H1 e1 r1=>⟨j,by rw[bi r1],hj.1,hj.2,k _ F1 H1 e1 (jC 0 _)⟩⟩
   ·cases hf
  ·cases hf
def ki:List Nat→List D→DF→Option DF
 | [],[],ρ=>some ρ
 | i::is,d::ds,ρ=>ki is ds (ρ.set i (some (.v d)))
 | _,_,_=>none
def mG (is:List Nat)(d:D)(ρ:DF):Option DF:=match d with
 | .tup ds=>ki is ds ρ
 | _=>none
def jU:List Nat→TGs
 | []=>t9
 | i::is=>qh (d_ i) (jU is)
theorem gy {K:Kq}{P F H:Hp}{Q:St→Hp→Prop}:∀ (is:List Nat) (vs:List V) (ds:List D) (ρ ρ':DF) (σ:St),Reps K F vs ds→ki is ds ρ=some ρ'→DInv K P F H ρ σ→
  (∀ σ',DInv K P F H ρ' σ'→σ'.length=σ.length→(∀ j,j∉is→σ'[j]?=σ[j]?)→Q σ' H)→jU is vs σ H Q
 | [],vs,ds,ρ,ρ',σ,r,hs,I,k=>by
  cases r with
  | nil=>cases hs;exact⟨rfl,k σ I rfl fun _ _=>rfl⟩
  | cons _ _=>cases hs
 | i::is,vs,ds,ρ,ρ',σ,r,hs,I,k=>by
  cases r with
  | nil=>cases hs
  | cons h q=>
   refine⟨_,_,rfl,gy is _ _ _ ρ' _ q hs (I.setV i h) fun σ' I' hl hj=>k σ' I' (by rw[hl,Yy]) fun j hn=>?_⟩
   rw[hj j (fun z=>hn (Yc _ z)),Yz (fun z=>hn (by rw[z];exact Ye))]
theorem gF:∀ (is:List Nat) (ds:List D) (ρ ρ':DF),ki is ds ρ=some ρ'→ds.length=is.length
 | [],[],_,_,_=>rfl
 | [],_::_,_,_,h=>by cases h
 | _::_,[],_,_,h=>by cases h
 | i::is,d::ds,ρ,ρ',h=>by rw[Yu,Yu,gF is ds _ _ h]
theorem om {es:List Expr}{k:Nat}{is:List Nat}(hc:X.calm=true)(h:PGs X es (jU is))(hn:(assignEach es X.env).length=is.length:=by rfl)(hst:(assignEach es X.env).findIdx? (·.1)=none:=by rfl):PDG X (.Tuple es k pos) is (mG is):=
 PG.imp (rL (n:=is.length) hc h hn hst) fun v σ H Q hh_=>by
  obtain⟨P,F,ρ,d,ρ',hs,I,r,kk⟩:=hh_
  cases d with
  | tup ds=>
   cases r with
   | tup h1 h2=>
    exact⟨_,_,rfl,SqT.of (I.sub _ _ h1),by rw[h2.length];exact gF is ds ρ ρ' hs,gy is _ ds ρ ρ' σ h2 hs I fun σ' I' hl hj=>kk σ' F H (Evo.refl I.toDHp) I' hl hj⟩
  | _=>cases hs
def ue (is:List Nat)(f:Dd):DF→Option RES:=fun ρ=>(f ρ).bind fun d=>(mG is d ρ).map .nx
end
theorem DInv.mut {K:Kq}{P F H:Hp}{ρ:DF}{σ:St}(I:DInv K P F H ρ σ){i:Nat}{o o':OD}{t:Option Addr}{a:Addr}{u:HO}(h:ρ[i]?=some (some (.own o t)))(hf:o.flat=true)(hf':o'.flat=true)(hs:σ[i]?=some (some (.ref a)))(hr:ORep1 K F o' u) :
  DInv K P F (upd H a u) (ρ.set i (some (.own o' t))) σ:=by
 obtain⟨O,hR⟩:=I.rep
 obtain⟨v,h1,b,rfl,h2,ht⟩:=hR i _ h
 rw[hs] at h1;cases h1
 obtain⟨⟨q1,q2,q3⟩,u',q4,_⟩:=(ORep.flat hf).mp h2
 refine⟨⟨fun c w e=>by rw[ae (am e q1)];exact I.sub c w e,fun c w e=>by rw[ae (am e q2)];exact I.pro c w e,I.dis⟩,by rw[Yy];exact I.len,O,fun j z hj=>?_⟩
 rcases bz hj with⟨rfl,e,hl⟩ | ⟨hij,hj'⟩
 ·cases e
  exact⟨_,hs,a,rfl,(ORep.flat hf').mpr ⟨⟨q1,q2,q3⟩,u,ak,hr⟩,ht⟩
 ·obtain⟨w,e1,e2⟩:=hR j z hj'
  refine⟨w,e1,?_⟩
  cases z with
  | v d'=>exact e2
  | own od t'=>(obtain⟨c,rfl,e3,ht'⟩:=e2;exact⟨c,rfl,e3.mono (Same.refl _) fun b w' q hb=>⟨by rw[ae (fun z=>by subst z;rw[q.2.2] at q3;exact hij (Yx q3).symm)];exact hb,q⟩,ht'⟩)
  | bor od=>exact e2
section
variable {X:Cx} {o e:Expr} {pos apos cpos:Pos}
def jb (i:Nat)(f:Dd):DF→Option RES:=fun ρ=>match ρ[i]? with
 | some (some (.own (.lst ds) t))=>(f ρ).bind fun d=>if ds.length<16777216 then some (.nx (ρ.set i (some (.own (.lst (ds++[d])) t)))) else none
 | _=>none
theorem eY {K:Kq}{P F H:Hp}{ρ:DF}{σ:St}(I:DInv K P F H ρ σ){i:Nat}{ds:List D}{t:Option Addr}(q:ρ[i]?=some (some (.own (.lst ds) t))):∃ a vs,σ[i]?=some (some (.ref a))∧F a=none∧P a=none∧H a=some (.lst vs)∧Reps K F vs ds:=by
 obtain⟨v,h1,a,rfl,⟨⟨q1,q2,_⟩,u,q3,q4⟩,_⟩:=I.at q
 cases u with
 | lst vs=>exact⟨a,vs,h1,q1,q2,q3,q4⟩
 | _=>exact q4.elim
theorem gs (i:Nat){f:Dd}(h:PE X o (bZ i))(ha:PDE X e f)(hbase:attributeBase o "append" X.env (eval o X.env)=eval o X.env:=by rfl)
  (hfew:((backTo cpos (starEach [e] X.env)).all (fun x=>!x.1)&&(backToKw cpos (keywordEach [] X.env)).all (fun x=>x.1.isSome)
   && decide (([e]:List Expr).length+([]:List Keyword).length+(if ([]:List Keyword).isEmpty then 0 else 1)<30))=true:=by rfl)
  (hline:(apos.endLine == cpos.line)=true:=by rfl) (hs:starEach [e] X.env=[(false,eval e X.env)]:=by rfl) (hsw:swapsWith (.Call (.Attribute o "append" apos) [e] [] cpos) none pos.line X.env=pure false:=by rfl) :
  PD1 X (.Expr (.Call (.Attribute o "append" apos) [e] [] cpos) pos) (jb i f):=
 PS.imp (eS (i6 Zm ZA ZB bR h (ar ha aN hs) hbase hfew hline hs rfl) hsw) fun E σ H=>un7 fun P F ρ r hr I k=>by
  unfold jb at hr
  split at hr
  ·rename_i ds t q
   cases q2:f ρ with
   | none=>rw[q2] at hr;cases hr
   | some d=>
    rw[q2,Ya] at hr
    split at hr
    ·rename_i hl
     cases hr
     obtain⟨a,vs,h1,h2,h3,h4,h5⟩:=eY I q
     refine⟨_,h1,.inl ⟨rfl,vs,SqL.of h4⟩,P,F,ρ,d,q2,I,fun v F1 H1 e1 r1=>?_⟩
     obtain⟨k1,k2⟩:=e1.keep a _ h4 h2
     have I1:=I.evo e1
     refine⟨a,vs,v,rfl,rfl,k1,by rw[YM,h5.length];exact hl,k σ F1 _ e1.ext ?_⟩
     exact I1.mut (o':=.lst _) (u:=.lst _) q rfl rfl h1 ((h5.same e1.ext).append (.one r1))
    ·cases hr
  ·cases hr
def c6 (i:Nat)(f g:Dd):DF→Option RES:=fun ρ=>match ρ[i]? with
 | some (some (.own (.lst ds) t))=>(g ρ).bind fun d=>(f ρ).bind fun
  | .int k=>(ixN ds.length k).map fun j=>.nx (ρ.set i (some (.own (.lst (ds.set j d)) t)))
  | _=>none
 | _=>none
theorem i7 (i:Nat){ix:Expr}{f g:Dd}(h:PE X o (bZ i))(hf:PDE X ix f)(hg:PDE X e g)
  (ha:∀ v,assign (.Subscript o ix apos) X.env v=(do
   let ov ← holding [v] (eval o X.env)
   let iv ← holding [v,ov] (eval ix X.env)
   standAt apos
   holding [v,ov,iv] (setItem ov iv v)
   release [v,ov,iv] []):=by intro _;rfl) (hs:swapsWithSole [.Subscript o ix apos] e pos.line X.env=pure false:=by rfl) (hw:swappedStores [.Subscript o ix apos] e X.env=pure none:=by rfl)
  (h1:(assignEach [.Subscript o ix apos] X.env).map (·.2)=[assign (.Subscript o ix apos) X.env]:=by rfl) :
  PD1 X (.Assign [.Subscript o ix apos] e pos) (c6 i f g):=
 PS.imp (qI hg (rO h hf mN ha) hs hw h1) fun E σ H=>un7 fun P F ρ r hr I k=>by
  unfold c6 at hr
  split at hr
  ·rename_i ds t q
   cases q2:g ρ with
   | none=>rw[q2] at hr;cases hr
   | some d=>
    rw[q2,Ya] at hr
    cases q3:f ρ with
    | none=>rw[q3] at hr;cases hr
    | some dk=>
     rw[q3,Ya] at hr
     cases dk with
     | int kk=>
      dsimp only at hr
      cases q4:ixN ds.length kk with
      | none=>rw[q4] at hr;cases hr
      | some j=>
       rw[q4] at hr
       cases hr
       obtain⟨a,vs,h1,h2,h3,h4,h5⟩:=eY I q
       refine⟨P,F,ρ,d,q2,I,fun v F1 H1 e1 r1=>⟨_,h1,P,F1,ρ,_,q3,I.evo e1,fun w F2 H2 e2 r2=>?_⟩⟩
       cases r2
       have e12:=e1.trans e2
       obtain⟨k1,k2⟩:=e12.keep a _ h4 h2
       refine⟨a,vs,kk,j,rfl,rfl,k1,by rw[h5.length];exact q4,k σ F2 _ e12.ext ?_⟩
       exact (I.evo e12).mut (o':=.lst _) (u:=.lst _) q rfl rfl h1 ((h5.same e12.ext).set (r1.same e2.ext) j)
     | _=>cases hr
  ·cases hr
end
mutual
def ltD:D→D→Bool
 | .int i,.int j=>decide (i<j)
 | .bl a,.bl b=>!a&&b
 | .str x,.str y=>decide (x.cps.toList<y.cps.toList)
 | .tup xs,.tup ys=>aH xs ys
 | _,_=>false
def aH:List D→List D→Bool
 | [],[]=>false
 | [],_::_=>true
 | _::_,[]=>false
 | x::xs,y::ys=>if eqd x y=true then aH xs ys else ltD x y
end
mutual
def ad:D→D→Bool
 | .int _,.int _=>true
 | .bl _,.bl _=>true
 | .str _,.str _=>true
 | .tup xs,.tup ys=>az xs ys
 | _,_=>false
def az:List D→List D→Bool
 | x::xs,y::ys=>ad x y&&az xs ys
 | _,_=>true
end
def mK (A:Around)(s:Shared)(y x:Value)(b:Bool):Prop:=
 ∀ (prog:Program) (w:World) (E:Kv) (Q:Kv),Q (.bool b) s→wpAny (model prog w) A (richCompare .Lt y x) Q E s
inductive LexOk (A:Around) (s:Shared):List Value→List Value→List D→List D→Prop
 | nl {ws:List Value} {es:List D}:ws.length=es.length→LexOk A s [] ws [] es
 | nr {vs:List Value} {ds:List D}:vs.length=ds.length→LexOk A s vs [] ds []
 | cons {v w:Value} {d e:D} {vs ws:List Value} {ds es:List D}:SeqAt.EqAt A s v w (eqd d e)→(eqd d e=false→mK A s v w (ltD d e))→LexOk A s vs ws ds es→LexOk A s (v::vs) (w::ws) (d::ds) (e::es)
theorem LexOk.len {A:Around}{s:Shared}{vs ws:List Value}{ds es:List D}(h:LexOk A s vs ws ds es):vs.length=ds.length∧ws.length=es.length:=by
 induction h with
 | nl h=>exact⟨rfl,h⟩
 | nr h=>exact⟨h,rfl⟩
 | cons _ _ _ ih=>exact⟨ZR Nat.succ ih.1,ZR Nat.succ ih.2⟩
section
open PySem.SeqAt
open PySem.AutoSeq1 (wpAny_loadPart')
open PySem.MeetsSeq PySem.MeetsSeq2 PySem.MeetsSeq3
theorem g7 (l b:Addr)(items bx:Array Value)(n n2:Nat)(dd dd2:Option Addr)(sl sl2:Array (Option Value))(ds es:List D) :
  Meets (Builtin.«tuple.__lt__» ⟨[.ref l,.ref b],[]⟩)
   (fun A R s=>LexOk A.in1 s items.toList bx.toList ds es∧s.heap.get? l=some { cls:=.type "tuple",dict:=dd,data:=.seq items n,slots:=sl }∧s.heap.get? b=some { cls:=.type "tuple",dict:=dd2,data:=.seq bx n2,slots:=sl2 } ∧
    R (.ok (.ret (.bool (aH ds es)))) s):=
 .of_wp fun prog w A R s h=>by
  obtain⟨hp,g,d,tk,os⟩:=s;obtain⟨hlex,hl,hb,h⟩:=h
  have f2:=AutoSeq1.sub_tuple_tuple
  have z1:items.size=ds.length:=by rw[← hlex.len.1];simp
  have z2:bx.size=es.length:=by rw[← hlex.len.2];simp
  wp_walk using wpAny_loadPart' hl,wpAny_loadPart' hb,wpAny_forIn_list _ (fun aJ b s'=>b.1=none∧s'=⟨hp,g,d,tk,os⟩∧∃ (vs ws:List Value) (ds' es':List D),aJ=vs.zip ws ∧
   LexOk A.in1 ⟨hp,g,d,tk,os⟩ vs ws ds' es'∧ds'.length+bx.size=es'.length+items.size∧R (.ok (.ret (.bool (aH ds' es')))) ⟨hp,g,d,tk,os⟩) _
  case turn=>
   rintro⟨y,x⟩ aJ b s' ⟨hb',rfl,vs,ws,ds',es',hz,hx,hlen,hR⟩
   cases hx with
   | nl _=>rw[List.zip_nil_left] at hz;cases hz
   | nr _=>rw[List.zip_nil_right] at hz;cases hz
   | @cons v w' dd' ee' vs' ws' ds'' es'' he hlt hx'=>
    rw[Xf] at hz
    injection hz with hyx hrest
    injection hyx with hy hxx
    subst hy hxx
    simp only[Yu] at hlen
    refine Yd (he prog w _ _ ?_)
    cases q:eqd dd' ee' with
    | true=>
     have hR':R (.ok (.ret (.bool (aH ds'' es'')))) ⟨hp,g,d,tk,os⟩:=by
      rw[aH,Yi q] at hR;exact hR
     wp_walk
     exact⟨rfl,rfl,_,_,_,_,hrest,hx',by omega,hR'⟩
    | false=>
     have hR':R (.ok (.ret (.bool (ltD dd' ee')))) ⟨hp,g,d,tk,os⟩:=by
      rw[aH,Yl (by rw[q];exact Yj)] at hR;exact hR
     have hri:=hlt q prog w
     wp_walk using hri
     exact⟨_,rfl,by simpa using hR'⟩
  case fin=>
   rintro⟨b1,b2⟩ s' ⟨hb',rfl,vs,ws,ds',es',hz,hx,hlen,hR⟩
   simp only at hb'
   subst hb'
   have hv:aH ds' es'=decide (items.size<bx.size):=by
    cases hx with
    | nl hw=>
     cases es' with
     | nil=>
      simp only[YL] at hlen
      rw[show aH [] []=false by simp[aH]]
      exact (YA (by omega)).symm
     | cons c u=>
      simp only[YL,Yu] at hlen
      rw[show aH [] (c::u)=true by simp[aH]]
      exact (YN (by omega)).symm
    | nr hw=>
     cases ds' with
     | nil=>
      simp only[YL] at hlen
      rw[show aH [] []=false by simp[aH]]
      exact (YA (by omega)).symm
     | cons c u=>
      simp only[YL,Yu] at hlen
      rw[show aH (c::u) []=false by simp[aH]]
      exact (YA (by omega)).symm
    | cons _ _ _=>
     rw[Xf] at hz
     cases hz
   rw[hv] at hR
   wp_walk
   exact⟨_,rfl,by simpa[Builtin.Tuple.tupleCompareSizes] using hR⟩
  case h=>
   exact⟨rfl,rfl,items.toList,bx.toList,ds,es,rfl,hlex,by omega,h⟩
end
theorem lf {A:Around}{s:Shared}{l b:Addr}{items bx:Array Value}{ds es:List D}(hl:IsTup s.heap l items)(hb:IsTup s.heap b bx)(hx:LexOk A.in1 s items.toList bx.toList ds es)(hu:A.units<cLine) :
  mK A s (.ref l) (.ref b) (aH ds es):=by
 intro prog w E Q h
 obtain⟨⟨cls,dd,data,sl⟩,ho,hc,n,hd⟩:=id hl
 obtain⟨⟨cls2,dd2,data2,sl2⟩,ho2,hc2,n2,hd2⟩:=id hb
 simp only at hc hd hc2 hd2
 subst hc hd hc2 hd2
 exact richCompare_meets_room (op:=.Lt) ⟨_,ho,rfl⟩ ⟨_,ho2,rfl⟩ PySem.F.slot_tuple_lt PySem.F.entry_tuple_lt (PySem.F.args_tuple_lt_2 _ _) (g7 l b items bx n n2 dd dd2 sl sl2 ds es)
  ⟨hx,ho,ho2,show Value.bool (aH ds es)≠Value.notImplemented∧Q (.bool (aH ds es)) s from ⟨(fun x=>nomatch x),h⟩⟩ hu
section
variable {X:Cx} {pz:Kp} {σ:St} {H:Hp} {s:Shared}
def dE:D→Bool
 | .tup _=>true
 | _=>false
theorem Rep.ltS (A:Around){x y:V}{d e:D}{u w:Value}(h1:Rep X.K H x d)(h2:Rep X.K H y e)(c:ad d e=true)(hd:dE d=false)(r1:RelV x u)(r2:RelV y w):mK A s u w (ltD d e):=by
 cases d with
 | int i=>
  cases e with
  | int j=>
   cases h1;cases h2
   obtain⟨t,rfl⟩:=(show ∃ t,u=Value.int _ t from r1)
   obtain⟨t',rfl⟩:=(show ∃ t,w=Value.int _ t from r2)
   intro prog w' E Q h
   exact HT.rcLt_int A s _ _ _ _ prog w' E Q (by rw[ltD] at h;exact h)
  | _=>exact absurd c Yj
 | bl b1=>
  cases e with
  | bl b2=>
   cases h1;cases h2
   cases (show u=Value.bool _ from r1)
   cases (show w=Value.bool _ from r2)
   intro prog w' E Q h
   exact (PyProof.Rows.lt_bool (by cases b1 <;> cases b2 <;> (rw[ltD] at h;exact h)):wpAny (model prog w') A (compareOp .Lt (.bool b1) (.bool b2)) Q E s)
  | _=>exact absurd c Yj
 | str x1=>
  cases e with
  | str x2=>
   cases h1;cases h2
   obtain⟨t,rfl⟩:=(show ∃ t,u=Value.str _ t from r1)
   obtain⟨t',rfl⟩:=(show ∃ t,w=Value.str _ t from r2)
   intro prog w' E Q h
   exact (PyProof.Rows.lt_str (by rw[ltD] at h;exact h):wpAny (model prog w') A (compareOp .Lt (.str x1 t) (.str x2 t')) Q E s)
  | _=>exact absurd c Yj
 | tup xs=>cases hd
 | _=>exact absurd c Yj
theorem Reps.lex (I:Inv X pz σ H s)(n:Nat)(A:Around)(hu:A.units+n+2<cLine)
  (ih:∀ {x y:V} {d e:D} {u w:Value},Rep X.K H x d→Rep X.K H y e→okN n d=true→okN n e=true→ad d e=true→RelV x u→RelV y w→mK A s u w (ltD d e)) :
  ∀ {xs ys:List V} {ds es:List D} {us ws:List Value},Reps X.K H xs ds→Reps X.K H ys es→(∀ d∈ds,okN n d=true)→(∀ d∈es,okN n d=true)→az ds es=true→Vals xs us→Vals ys ws→LexOk A s us ws ds es:=by
 intro xs ys ds
 induction ds generalizing xs ys with
 | nil=>
  intro es us ws q1 q2 _ _ _ r1 r2
  cases q1;cases r1
  exact .nl (by rw[← r2.length,q2.length])
 | cons d ds ihd=>
  intro es us ws q1 q2 o1 o2 c r1 r2
  cases es with
  | nil=>
   cases q2;cases r2
   exact .nr (by rw[← r1.length,q1.length])
  | cons e es=>
   cases q1 with
   | cons h q=>
    cases q2 with
    | cons h' q'=>
     cases r1 with
     | cons r t=>
      cases r2 with
      | cons r' t'=>
       rw[az,Yr] at c
       have a1:=o1 _ Ye
       have a2:=o2 _ Ye
       obtain⟨x1,p1⟩:=h.reads I n a1 r
       obtain⟨x2,p2⟩:=h'.reads I n a2 r'
       obtain⟨l1,m1⟩:=bp n _ a1
       obtain⟨l2,m2⟩:=bp n _ a2
       refine .cons (PySem.SeqAt.eqAt_reads _ _ A s _ _ _ _ p1 p2 l1 l2 ?_) (fun _=>ih h h' a1 a2 c.1 r r') (ihd q q' (fun d hd=>o1 d (Yc _ hd)) (fun d hd=>o2 d (Yc _ hd)) c.2 t t')
       have:min (aU d).depth (aU e).depth≤n+1:=YB (Nat.min_le_left _ _) m1
       omega
theorem Rep.lt (I:Inv X pz σ H s):∀ (n:Nat) (A:Around),A.units+n+2<cLine→∀ {x y:V} {d e:D} {u w:Value},Rep X.K H x d→Rep X.K H y e→okN n d=true→okN n e=true→ad d e=true→RelV x u→RelV y w→mK A s u w (ltD d e):=by
 intro n
 induction n with
 | zero=>
  intro A hu x y d e u w h1 h2 o1 o2 c r1 r2
  refine h1.ltS A h2 c ?_ r1 r2
  cases d <;> first | rfl | (simp[okN] at o1)
 | succ n ihn=>
  intro A hu x y d e u w h1 h2 o1 o2 c r1 r2
  cases hd:dE d with
  | false=>exact h1.ltS A h2 c hd r1 r2
  | true=>
   cases d with
   | tup ds=>
    cases e with
    | tup es=>
     cases h1 with
     | tup h1 q1=>
      cases h2 with
      | tup h2 q2=>
       cases (show u=Value.ref _ from r1)
       cases (show w=Value.ref _ from r2)
       obtain⟨its1,rv1,ht1,_⟩:=I.tuple (SqT.of h1)
       obtain⟨its2,rv2,ht2,_⟩:=I.tuple (SqT.of h2)
       rw[ltD]
       have hu':A.in1.units+n+2<cLine:=by show A.units+1+n+2<cLine;omega
       exact lf ht1 ht2 (Reps.lex I n A.in1 hu' (ihn A.in1 hu') q1 q2 (aY o1) (aY o2) (by rw[ad] at c;exact c) rv1 rv2) (by omega)
    | _=>exact absurd c Yj
   | _=>cases hd
end
def ltd (x y:D):Option D:=if (okN 30 x&&okN 30 y&&ad x y)=true then some (.bl (ltD x y)) else none
def sR (K:Kq):R2:=fun x y H Q=>∃ dx dy,Rep K H x dx∧Rep K H y dy∧okN 30 dx=true∧okN 30 dy=true∧ad dx dy=true∧Q (.bl (ltD dx dy)) H
section
variable {X:Cx} {a b:Expr} {pos:Pos}
theorem qP (hu:X.A.units+64<cLine):OpR X (compareOp .Lt) (sR X.K):=by
 intro pz s σ H x y v u Q I rx ry h
 obtain⟨dx,dy,h1,h2,o1,o2,c,q⟩:=h
 exact Rep.lt I 30 X.A (by omega) h1 h2 o1 o2 c rx ry X.prog X.w X.xe _ ⟨.bl _,H,I,rfl,q⟩
theorem rj {K:Kq}:f7 K (sR K) ltd:=by
 intro P F H x y dx dy d Q hf hp rx ry k
 unfold ltd at hf
 split at hf
 ·rename_i h
  rw[Yr,Yr] at h
  cases hf
  exact⟨dx,dy,rx,ry,h.1.1,h.1.2,h.2,k _ F H (Evo.refl hp) .bl⟩
 ·cases hf
theorem jP {fa fb:Dd}(hu:X.A.units+64<cLine)(ha:PDN X a fa)(hb:PDN X b fb):PDT X (.Compare a [.Lt] [b] pos) (asB (d2 ltd fa fb)):=eO (qP hu) rj ha hb (fm _)
end
end L2
namespace L2
open PySem PySem.Spec PyProof.Rows PySem.W
def kok {α:Type}(n:Nat)(lt:Nat→Nat→Bool):KasT α→(α→Prop)→Prop
 | .ret a,Q=>Q a
 | .ask i j k,Q=>i<n∧j<n∧kok n lt (k (lt i j)) Q
theorem cL {α β:Type}{n:Nat}{lt:Nat→Nat→Bool}{f:α→KasT β}{Q:β→Prop}(t:KasT α):kok n lt t (fun a=>kok n lt (f a) Q)→kok n lt (t.bind f) Q:=by
 induction t with
 | ret a=>exact fun h=>h
 | ask i j k ih=>exact fun h=>⟨h.1,h.2.1,ih _ h.2.2⟩
theorem be {α:Type}{n:Nat}{lt:Nat→Nat→Bool}{Q Q':α→Prop}(hq:∀ a,Q a→Q' a)(t:KasT α):kok n lt t Q→kok n lt t Q':=by
 induction t with
 | ret a=>exact hq a
 | ask i j k ih=>exact fun h=>⟨h.1,h.2.1,ih _ h.2.2⟩
theorem re {α:Type}{n:Nat}{lt:Nat→Nat→Bool}{cmp:Nat→Nat→(Bool→Shared→Prop)→Shared→Prop}{s:Shared}{Q:α→Prop}{G:α→Shared→Prop}(hc:∀ i j C,i<n→j<n→C (lt i j) s→cmp i j C s)(hG:∀ a,Q a→G a s)(t:KasT α):kok n lt t Q→t.kasWp cmp G s:=by
 induction t with
 | ret a=>exact hG a
 | ask i j k ih=>exact fun h=>hc i j _ h.1 h.2.1 (ih _ h.2.2)
structure Ord (lt:Nat→Nat→Bool):Prop where
 asym:∀ i j,lt i j=true→lt j i=false
 trans:∀ i j k,lt j i=false→lt k j=false→lt k i=false
section
variable {n:Nat} {lt:Nat→Nat→Bool}
structure PermN (n:Nat) (p:Array Nat):Prop where
 size:p.size=n
 perm:p.toList.Perm (List.range n)
theorem PermN.bd {p:Array Nat}(h:PermN n p){i:Nat}(hi:i<n):p.getD i 0<n:=by
 have hs:i<p.size:=by rw[h.size];exact hi
 have e:p.getD i 0=p[i]:=by simp[Array.getD,hs]
 rw[e]
 have hm:p[i]∈p.toList:=by simp
 exact ZU.mp (h.perm.mem_iff.mp hm)
theorem PermN.rev {p:Array Nat}(h:PermN n p)(i j:Nat):PermN n (kas_rev p i j):=
 ⟨by unfold kas_rev;rw[mirror_size,h.size],((Array.perm_iff_toList_perm.mp (mirror_perm _ _ _ _)).trans h.perm)⟩
theorem PermN.bub {p:Array Nat}(h:PermN n p)(i j:Nat):PermN n (bubble p i j):=
 ⟨by rw[bubble_size,h.size],((Array.perm_iff_toList_perm.mp (bubble_perm _ _ _)).trans h.perm)⟩
theorem dF {p q:Array Nat}{i j:Nat}(h:p[i]?=q[j]?):p.getD i 0=q.getD j 0:=by
 simp only[Array.getD_eq_getD_getElem?,h]
theorem bB {p:Array Nat}(h:PermN n p){i j:Nat}(hj:j≤n)(k:Nat):(kas_rev p i j).getD k 0=if i≤k∧k<j then p.getD (i+j-1-k) 0 else p.getD k 0:=by
 have e:=getElem?_mirror_all (xs:=p) (i:=i) (j:=j) (by rw[h.size];exact hj) k
 unfold kas_rev
 split
 ·rename_i q;rw[Yi q] at e;exact dF e
 ·rename_i q;rw[Yl q] at e;exact dF e
def Ris (lt:Nat→Nat→Bool)(p:Array Nat)(b:Nat):Prop:=∀ i j,i≤j→j<b→lt (p.getD j 0) (p.getD i 0)=false
def Fal (lt:Nat→Nat→Bool)(p:Array Nat)(b:Nat):Prop:=∀ i j,i≤j→j<b→lt (p.getD i 0) (p.getD j 0)=false
def Eqs (lt:Nat→Nat→Bool)(p:Array Nat)(a b:Nat):Prop:=∀ i j,a≤i→i<b→a≤j→j<b→lt (p.getD i 0) (p.getD j 0)=false
theorem Ord.irr (o:Ord lt)(i:Nat):lt i i=false:=by
 cases q:lt i i with
 | false=>rfl
 | true=>have:=o.asym i i q;rw[q] at this;cases this
theorem eI {a b i:Nat}(h:a≤i∧i<b):a≤a+b-1-i∧a+b-1-i<b:=by omega
theorem nu (o:Ord lt){p:Array Nat}(hp:PermN n p):∀ (f k:Nat),1≤k→k+f≤n→Ris lt p k→kok n lt (kas_asc p f k) (fun m=>k≤m∧m≤k+f∧Ris lt p m∧(m=k+f∨lt (p.getD m 0) (p.getD (m-1) 0)=true)):=by
 intro f
 induction f with
 | zero=>exact fun k _ _ hr=>⟨Yo _,Yo _,hr,.inl rfl⟩
 | succ f ih=>
  intro k h1 hk hr
  have kn:k<n:=Yh (Xg (Nat.succ_pos f)) hk
  have k1:k-1<k:=XI h1 Nat.one_pos
  have ek:=Xh k 1 f
  unfold kas_asc
  refine⟨hp.bd kn,hp.bd (Zo k1 kn),?_⟩
  cases c:lt (p.getD k 0) (p.getD (k-1) 0) with
  | true=>
   (try dsimp only);rw[Yi rfl]
   exact⟨Yo _,Nat.le_add_right _ _,hr,.inr c⟩
  | false=>
   (try dsimp only);rw[Yl Yj]
   refine be (fun m h=>⟨Xo h.1,YB h.2.1 (ZP ek),h.2.2.1,h.2.2.2.imp (fun e=>e.trans ek) id⟩) _ (ih (k+1) (Zg 1 k) (YB (ZP ek) hk) fun i j hij hj=>?_)
   by_cases hjk:j<k
   ·exact hr i j hij hjk
   ·have:j=k:=YU (YW hj) (Zk hjk)
    subst this
    by_cases hik:i=j
    ·subst hik;exact o.irr _
    ·exact o.trans _ _ _ (hr i (j-1) (Zw (YZ hij hik)) k1) c
theorem j7 {p:Array Nat}(hp:PermN n p){a b:Nat}(hb:b≤n)(he:Eqs lt p a b)(o:Ord lt)(hf:Fal lt p b):Fal lt (kas_rev p a b) b:=by
 intro i j hij hj
 rw[bB hp hb,bB hp hb]
 by_cases hi:a≤i∧i<b
 ·rw[Yi hi]
  have hj':a≤j∧j<b:=⟨YB hi.1 hij,hj⟩
  rw[Yi hj']
  exact he _ _ (eI hi).1 (eI hi).2 (eI hj').1 (eI hj').2
 ·rw[Yl hi]
  have hia:i<a:=Nat.lt_of_not_le fun z=>hi ⟨z,Zh hij hj⟩
  by_cases hj':a≤j∧j<b
  ·rw[Yi hj']
   exact hf _ _ (YB (Zc hia) (eI hj').1) (eI hj').2
  ·rw[Yl hj']
   exact hf i j hij hj
theorem fA (o:Ord lt){p':Array Nat}{k:Nat}(h1:1≤k)(hf':Fal lt p' k)(hc:lt (p'.getD (k-1) 0) (p'.getD k 0)=false):Fal lt p' (k+1):=by
 intro i j hij hj
 by_cases hjk:j<k
 ·exact hf' i j hij hjk
 ·have:j=k:=YU (YW hj) (Zk hjk)
  subst this
  by_cases hik:i=j
  ·subst hik;exact o.irr _
  ·exact o.trans _ _ _ hc (hf' i (j-1) (Zw (YZ hij hik)) (XI h1 Nat.one_pos))
theorem io (o:Ord lt)(p':Array Nat)(k:Nat):Eqs lt p' (k+1-(0+1)) (k+1):=by
 intro i j a1 a2 a3 a4
 have e1:i=k:=YU (YW a2) a1
 have e2:j=k:=YU (YW a4) a3
 subst e1
 subst e2
 exact o.irr _
theorem ng (o:Ord lt){p:Array Nat}{k q:Nat}(hb:k-(q+1)≤k-1∧k-1<k)(he:Eqs lt p (k-(q+1)) k)(c:lt (p.getD k 0) (p.getD (k-1) 0)=false)(d:lt (p.getD (k-1) 0) (p.getD k 0)=false):Eqs lt p (k+1-(q+1+1)) (k+1):=by
 have e1:∀ i,k+1-(q+1+1)≤i→i<k+1→lt (p.getD i 0) (p.getD k 0)=false∧lt (p.getD k 0) (p.getD i 0)=false:=fun i b1 b2=>by
  rw[Nat.add_sub_add_right] at b1
  by_cases hik:i=k
  ·subst hik;exact⟨o.irr _,o.irr _⟩
  ·have il:i<k:=YZ (YW b2) hik
   exact⟨o.trans _ _ _ d (he i (k-1) b1 il hb.1 hb.2),o.trans _ _ _ (he (k-1) i hb.1 hb.2 b1 il) c⟩
 exact fun i j a1 a2 a3 a4=>o.trans _ _ _ (e1 j a3 a4).2 (e1 i a1 a2).1
theorem n_ (o:Ord lt):∀ (f:Nat) (p:Array Nat) (k q:Nat),PermN n p→1≤k→k+f≤n→q+1≤k→Fal lt p k→Eqs lt p (k-(q+1)) k→
  kok n lt (kas_desc f p k q) (fun r=>PermN n r.1∧k≤r.2.1∧r.2.1≤n∧r.2.2+1≤r.2.1∧Fal lt r.1 r.2.1∧Eqs lt r.1 (r.2.1-(r.2.2+1)) r.2.1):=by
 intro f
 induction f with
 | zero=>exact fun p k q hp h1 hk hq hf he=>⟨hp,Yo _,hk,hq,hf,he⟩
 | succ f ih=>
  intro p k q hp h1 hk hq hf he
  have kn:k<n:=Yh (Xg (Nat.succ_pos f)) hk
  have k1:k-1<k:=XI h1 Nat.one_pos
  have hk':k+1+f≤n:=YB (ZP (Xh k 1 f)) hk
  have hb:k-(q+1)≤k-1∧k-1<k:=⟨Nat.sub_le_sub_left (Nat.succ_le_succ (YG q)) k,k1⟩
  unfold kas_desc
  refine⟨hp.bd kn,hp.bd (Zo k1 kn),?_⟩
  cases c:lt (p.getD k 0) (p.getD (k-1) 0) with
  | true=>
   (try dsimp only);rw[Yi rfl]
   have hc:lt (p.getD (k-1) 0) (p.getD k 0)=false:=o.asym _ _ c
   by_cases hq0:q > 0
   ·rw[Yi hq0]
    have hf':=j7 hp (Zc kn) he o hf
    have hc':lt ((kas_rev p (k-(q+1)) k).getD (k-1) 0) ((kas_rev p (k-(q+1)) k).getD k 0)=false:=by
     rw[bB hp (Zc kn),bB hp (Zc kn),Yi hb,Yl (fun z=>YJ _ z.2)]
     exact o.trans _ _ _ hc (he _ _ (eI hb).1 (eI hb).2 hb.1 hb.2)
    exact be (fun r h=>⟨h.1,Xo h.2.1,h.2.2⟩) _ (ih _ (k+1) 0 (hp.rev _ _) (Zg 1 k) hk' (Zg 1 k) (fA o h1 hf' hc') (io o _ k))
   ·rw[Yl hq0]
    exact be (fun r h=>⟨h.1,Xo h.2.1,h.2.2⟩) _ (ih _ (k+1) 0 hp (Zg 1 k) hk' (Zg 1 k) (fA o h1 hf hc) (io o _ k))
  | false=>
   (try dsimp only);rw[Yl Yj]
   refine⟨hp.bd (Zo k1 kn),hp.bd kn,?_⟩
   cases d:lt (p.getD (k-1) 0) (p.getD k 0) with
   | true=>
    (try dsimp only);rw[Yi rfl]
    exact⟨hp,Yo _,Zc kn,hq,hf,he⟩
   | false=>
    (try dsimp only);rw[Yl Yj]
    exact be (fun r h=>⟨h.1,Xo h.2.1,h.2.2⟩) _ (ih p (k+1) (q+1) hp (Zg 1 k) hk' (Nat.succ_le_succ hq) (fA o h1 hf d) (ng o hb he c d))
theorem oG {p:Array Nat}(hp:PermN n p){b:Nat}(hb:b≤n)(hf:Fal lt p b):Ris lt (kas_rev p 0 b) b:=by
 intro i j hij hj
 have hi:0≤i∧i<b:=⟨YG _,Zh hij hj⟩
 rw[bB hp hb,bB hp hb,Yi ⟨YG _,hj⟩,Yi hi]
 exact hf _ _ (Nat.sub_le_sub_left hij _) (eI hi).2
theorem i8 (o:Ord lt){p:Array Nat}(hp:PermN n p){k:Nat}(h1:1≤k)(hk:k≤n)(hf:Fal lt p k):kok n lt (kas_tail3 k n p) (fun r=>1≤r.1∧r.1≤n∧PermN n r.2∧Ris lt r.2 r.1):=by
 unfold kas_tail3
 have e:=ZP (Xb hk)
 exact cL _ (be (fun m h=>⟨YB h1 h.1,YB h.2.1 e,hp.rev _ _,h.2.2.1⟩) _ (nu o (hp.rev 0 k) (n-k) k h1 e (oG hp hk hf)))
theorem d7 (o:Ord lt){p:Array Nat}(hp:PermN n p){k:Nat}(h1:1≤k)(hk:k<n)(hf:Fal lt p (k+1)):kok n lt (kas_descPart k n p) (fun r=>1≤r.1∧r.1≤n∧PermN n r.2∧Ris lt r.2 r.1):=by
 unfold kas_descPart
 refine cL _ (be ?_ _ (n_ o (n-(k+1)) p (k+1) 0 hp (Zg 1 k) (ZP (Xb hk)) (Zg 1 k) hf (io o p k)))
 intro r h
 obtain⟨a1,a2,a3,a4,a5,a6⟩:=h
 have h1':=YB (Zg 1 k) a2
 by_cases hq:r.2.2 > 0
 ·rw[Yi hq]
  exact i8 o (a1.rev _ _) h1' a3 (j7 a1 a3 a6 o a5)
 ·rw[Yl hq]
  exact i8 o a1 h1' a3 a5
theorem m9 (o:Ord lt){p:Array Nat}(hp:PermN n p)(hn:1≤n):kok n lt (kas_count n p) (fun r=>1≤r.1∧r.1≤n∧PermN n r.2∧Ris lt r.2 r.1):=by
 unfold kas_count
 have en:=Xb hn
 refine cL _ (be (fun k hh_=>?_) _ (nu o hp (n-1) 1 (Yo _) (ZP en) fun i j hij hj=>by
  have e2:j=0:=Nat.lt_one_iff.mp hj
  subst e2
  have e1:i=0:=Nat.le_zero.mp hij
  subst e1;exact o.irr _))
 obtain⟨a1,a2,a3,a4⟩:=hh_
 have a2:k≤n:=YB a2 (ZP en)
 by_cases hk:(k == n)=true
 ·rw[Yi hk]
  exact⟨a1,a2,hp,a3⟩
 ·rw[Yl hk]
  have hkn:k≠n:=by simpa using hk
  have kn:k<n:=YZ a2 hkn
  have k1:k-1<k:=XI a1 Nat.one_pos
  have hlt:lt (p.getD k 0) (p.getD (k-1) 0)=true:=by
   rcases a4 with e | e
   ·exact absurd (e.trans en) hkn
   ·exact e
  have hc:=o.asym _ _ hlt
  by_cases h1:k > 1
  ·rw[Yi h1]
   refine⟨hp.bd (Yh Nat.one_pos hn),hp.bd (Zo k1 kn),?_⟩
   cases c:lt (p.getD 0 0) (p.getD (k-1) 0) with
   | true=>
    (try dsimp only);rw[Yi rfl]
    exact⟨a1,a2,hp,a3⟩
   | false=>
    (try dsimp only);rw[Yl Yj]
    have alike:∀ i j,i<k→j<k→lt (p.getD i 0) (p.getD j 0)=false:=fun i j hi hj=>
     o.trans _ _ _ (o.trans _ _ _ (a3 j (k-1) (Zw hj) k1) c) (a3 0 i (YG _) hi)
    refine d7 o (hp.rev _ _) a1 kn fun i j hij hj=>?_
    rw[bB hp a2,bB hp a2]
    by_cases hjk:j<k
    ·have hi:0≤i∧i<k:=⟨YG _,Zh hij hjk⟩
     rw[Yi hi,Yi ⟨YG _,hjk⟩]
     exact alike _ _ (eI hi).2 (eI ⟨YG _,hjk⟩).2
    ·have ej:j=k:=YU (YW hj) (Zk hjk)
     subst ej
     rw[Yl (fun z:0≤j∧j<j=>YJ _ z.2)]
     by_cases hij':i<j
     ·rw[Yi ⟨YG _,hij'⟩]
      exact o.trans _ _ _ hc (alike _ _ (eI ⟨YG _,hij'⟩).2 k1)
     ·rw[Yl fun z=>hij' z.2]
      have:i=j:=YU hij (Zk hij')
      subst this
      exact o.irr _
  ·rw[Yl h1]
   have ek:k=1:=YU (Zk h1) a1
   subst ek
   refine d7 o hp (Yo _) kn fun i j hij hj=>?_
   by_cases hij':i=j
   ·subst hij';exact o.irr _
   ·have lj:i<j:=YZ hij hij'
    have e2:j=1:=YU (YW hj) (Zh (YG i) lj)
    subst e2
    have e1:i=0:=Nat.lt_one_iff.mp lj
    subst e1
    exact hc
theorem ms (o:Ord lt){p:Array Nat}(hp:PermN n p){k:Nat}(hk:k<n)(hr:Ris lt p k):∀ (f l r:Nat),l≤r→r≤k→r-l≤f→(∀ i,i<l→lt (p.getD k 0) (p.getD i 0)=false)→(∀ i,r≤i→i<k→lt (p.getD k 0) (p.getD i 0)=true)→
  kok n lt (kas_place p k f l r) (fun m=>m≤k∧(∀ i,i<m→lt (p.getD k 0) (p.getD i 0)=false)∧∀ i,m≤i→i<k→lt (p.getD k 0) (p.getD i 0)=true):=by
 intro f
 induction f with
 | zero=>
  intro l r h1 h2 h3 h4 h5
  have e:l=r:=YU h1 (Nat.le_of_sub_eq_zero (Nat.le_zero.mp h3))
  subst e
  exact⟨h2,h4,h5⟩
 | succ f ih=>
  intro l r h1 h2 h3 h4 h5
  unfold kas_place
  by_cases hlr:l ≥ r
  ·rw[Yi hlr]
   have e:l=r:=YU h1 hlr
   subst e
   exact⟨h2,h4,h5⟩
  ·rw[Yl hlr]
   have mid:l≤(l+r)/2∧(l+r)/2<r∧(l+r)/2-l≤f∧r-((l+r)/2+1)≤f:=by
    clear h4 h5 hr hp ih h2 hk
    omega
   obtain⟨m1,m2,m3,m4⟩:=mid
   refine⟨hp.bd hk,hp.bd (Zo (Yh m2 h2) hk),?_⟩
   cases c:lt (p.getD k 0) (p.getD ((l+r)/2) 0) with
   | true=>
    (try dsimp only);rw[Yi rfl]
    refine ih l _ m1 (YB (Zc m2) h2) m3 h4 fun i a1 a2=>?_
    cases q:lt (p.getD k 0) (p.getD i 0) with
    | true=>rfl
    | false=>
     have:=o.trans _ _ _ (hr ((l+r)/2) i a1 a2) q
     rw[c] at this
     cases this
   | false=>
    (try dsimp only);rw[Yl Yj]
    exact ih _ r m2 h2 m4 (fun i a1=>o.trans _ _ _ (hr i ((l+r)/2) (YW a1) (Yh m2 h2)) c) h5
theorem kD {p:Array Nat}(hp:PermN n p){k l:Nat}(hk:k<n)(hl:l≤k)(i:Nat):(bubble p k (k-l)).getD i 0=if i=l then p.getD k 0 else if l<i∧i≤k then p.getD (i-1) 0 else p.getD i 0:=by
 have e:=getElem?_bubble (xs:=p) (src:=k) (by rw[hp.size];exact hk) (k-l) (Nat.sub_le _ _) i
 rw[Nat.sub_sub_self hl] at e
 by_cases h1:i=l
 ·rw[Yi h1] at e ⊢;exact dF e
 ·rw[Yl h1] at e ⊢
  by_cases h2:l<i∧i≤k
  ·rw[Yi h2] at e ⊢;exact dF e
  ·rw[Yl h2] at e ⊢;exact dF e
theorem ou (o:Ord lt){p:Array Nat}(hp:PermN n p){k l:Nat}(kn:k<n)(hr:Ris lt p k)(a1:l≤k)(a2:∀ i,i<l→lt (p.getD k 0) (p.getD i 0)=false)(a3:∀ i,l≤i→i<k→lt (p.getD k 0) (p.getD i 0)=true):Ris lt (bubble p k (k-l)) (k+1):=by
 intro i j hij hj
 have jk:j≤k:=YW hj
 have jl:l<j→j-1<k:=fun z=>Yh (XI (Zh (YG l) z) Nat.one_pos) jk
 rw[kD hp kn a1,kD hp kn a1]
 by_cases ei:i=l
 ·rw[Yi ei]
  by_cases ej:j=l
  ·rw[Yi ej];exact o.irr _
  ·have lj:l<j:=YZ (ei ▸ hij) (ZZ ej)
   rw[Yl ej,Yi ⟨lj,jk⟩]
   exact o.asym _ _ (a3 (j-1) (Zw lj) (jl lj))
 ·rw[Yl ei]
  by_cases ej:j=l
  ·have il:i≤l:=ej ▸ hij
   rw[Yi ej,Yl fun z=>YJ _ (Yh z.1 il)]
   exact a2 i (YZ il ei)
  ·rw[Yl ej]
   by_cases ci:l<i∧i≤k
   ·have lj:=Yh ci.1 hij
    rw[Yi ci,Yi ⟨lj,jk⟩]
    exact hr _ _ (Nat.sub_le_sub_right hij 1) (jl lj)
   ·rw[Yl ci]
    by_cases cj:l<j∧j≤k
    ·rw[Yi cj]
     exact hr _ _ (Zw (Zh (Zk fun z=>ci ⟨z,YB hij jk⟩) cj.1)) (jl cj.1)
    ·rw[Yl cj]
     exact hr _ _ hij (Yh (YZ (Zk fun z=>cj ⟨z,jk⟩) ej) a1)
theorem qZ (o:Ord lt):∀ (f:Nat) (p:Array Nat) (k:Nat),PermN n p→k+f=n→Ris lt p k→kok n lt (kas_bin f p k) (fun r=>PermN n r∧Ris lt r n):=by
 intro f
 induction f with
 | zero=>exact fun p k hp hk hr=>⟨hp,by rw[← hk];exact hr⟩
 | succ f ih=>
  intro p k hp hk hr
  have kn:k<n:=hk ▸ Xg (Nat.succ_pos f)
  unfold kas_bin
  refine cL _ (be (fun l hh_=>?_) _ (ms o hp kn hr k 0 k (YG _) (Yo _) (Yo _) (fun i hi=>absurd hi (Nat.not_lt_zero _)) fun i h1 h2=>absurd h2 (Nat.not_lt_of_le h1)))
  obtain⟨a1,a2,a3⟩:=hh_
  exact ih _ (k+1) (hp.bub _ _) ((Xh k 1 f).trans hk) (ou o hp kn hr a1 a2 a3)
theorem eX (n:Nat):PermN n (List.toArray (List.range n)):=⟨by simp,by simp⟩
theorem i5 (o:Ord lt)(hn:1≤n):kok n lt (kas_sort n) (fun r=>PermN n r∧Ris lt r n):=by
 unfold kas_sort
 refine cL _ (be (fun r hh_=>?_) _ (m9 o (eX n) hn))
 obtain⟨a1,a2,a3,a4⟩:=hh_
 by_cases hr:r.1<n
 ·rw[Yi hr]
  have e:max r.1 1=r.1:=Nat.max_eq_left a1
  rw[e]
  exact qZ o _ _ _ a3 (Xb a2) a4
 ·rw[Yl hr]
  have e:r.1=n:=YU a2 (Zk hr)
  rw[e] at a4
  exact⟨a3,a4⟩
end
section
variable {prog:Program} {w:World} {A:Around} {E:Kv} {s:Shared}
def ee (vs:List Value)(p:Array Nat):Array Value:=(p.toList.map fun i=>vs.getD i Value.none).toArray
theorem kU (vs:List Value)(h:vs.length<2):ee vs (List.toArray (List.range vs.length))=(vs.toArray.zip vs.toArray).map (·.2):=by
 cases vs with
 | nil=>simp[ee]
 | cons v r=>
  cases r with
  | nil=>simp[ee,List.range,List.range.loop]
  | cons _ _=>simp at h;omega
theorem fZ {a:Addr}{vs:List Value}{n:Nat}{P:PySem.Fin→Shared→Prop}(ho:s.heap.get? a=some (seqObj "list" vs.toArray n))(h64:vs.length<64)(κ:SortKind)(lt:Nat→Nat→Bool)(o:Ord lt)
  (hk:2≤vs.length→∀ h',(∀ b u,b≠a→s.heap.get? b=some u→h'.get? b=some u)→∀ Q:SortKind→Shared→Prop,Q κ { s with heap:=h' }→wpAny (model prog w) A (keyKind' vs.toArray) Q E { s with heap:=h' })
  (hc:∀ h',(∀ b u,b≠a→s.heap.get? b=some u→h'.get? b=some u)→∀ i j C,i<vs.length→j<vs.length→C (lt i j) { s with heap:=h' }→kas_ask prog w A κ vs i j C { s with heap:=h' })
  (h:∀ p,PermN vs.length p→Ris lt p vs.length→P (.done (.ret .none)) { s with heap:=sortedHeap s.heap a vs (ee vs p) }) :
  wpAny (model prog w) A (Builtin.«list.sort» ⟨[.ref a],[]⟩) P E s:=by
 rw[list_sort_plain]
 have ha:a<s.heap.objs.size:=Yg ho
 refine Yd (listItems_at ho rfl ?_)
 refine Yd (listUpdate_at ho rfl ?_ (by rw[Yn,YM];omega) (YG _))
 obtain⟨e1,ho1⟩:∃ e1,(s.heap.update a (Obj.mapSeq fun _=>(#[]:Array Value))).get? a=some (seqObj "list" #[] e1):=⟨_,get?_update_seq ho (fun _=>#[])⟩
 refine Yd (seqEpoch_at ho1 rfl ?_)
 refine Yd (wpAny_newTuple ?_ (by show vs.length≤_;rw[YM];omega))
 refine Yd (wpAny_newList ?_ (YG _))
 refine ZS ?_
 have ho6:(((s.heap.update a (Obj.mapSeq fun _=>(#[]:Array Value))).push (seqObj "tuple" vs.toArray 0)).push (seqObj "list" #[] 0)).get? a=some (seqObj "list" #[] e1):=by
  rw[ZT _ _ _ (by rw[size_push',Xt];exact Yq (Zz ha)),ZT _ _ _ (by rw[Xt];exact Yq ha)]
  exact ho1
 have kept:∀ b u,b≠a→s.heap.get? b=some u→(((s.heap.update a (Obj.mapSeq fun _=>(#[]:Array Value))).push (seqObj "tuple" vs.toArray 0)).push (seqObj "list" #[] 0)).get? b=some u:=fun b u hb e=>by
  have hlt:b<s.heap.objs.size:=Yg e
  rw[ZT _ _ _ (by rw[size_push',Xt];exact Yq (Zz hlt)),ZT _ _ _ (by rw[Xt];exact Yq hlt),Heap.get?_update_ne _ _ _ _ hb]
  exact e
 show wpAny (model prog w) A _ P E { s with heap:=((s.heap.update a (Obj.mapSeq fun _=>(#[]:Array Value))).push (seqObj "tuple" vs.toArray 0)).push (seqObj "list" #[] 0) }
 dsimp only
 have hsz:vs.toArray.size=vs.length:=by simp
 by_cases h2:vs.toArray.size<2
 ·rw[Yi h2,Yi h2]
  refine Yd (Yp ?_)
  rw[StateT.run_pure]
  refine Yd (Yp ?_)
  dsimp only
  refine Yd (seqEpoch_at ho6 rfl ?_)
  refine Yd (listUpdate_at ho6 rfl ?_ (YG _) (by rw[Array.size_map];show (pairsOf vs).size≤_;rw[pairsOf_size,YM];omega))
  simp only[bne_self_eq_false,Xe,if_false]
  have q:=h (List.toArray (List.range vs.length)) (eX _) (fun i j hij hj=>by
   have e1:i=j:=by omega
   subst e1
   exact o.irr _)
  have e:ee vs (List.toArray (List.range vs.length))=(vs.toArray.zip vs.toArray).map (·.2):=by
   exact kU vs (by omega)
  rw[e] at q
  exact Yp q
 ·rw[Yl h2,Yl h2]
  have h2':2≤vs.length:=by omega
  refine Yd (hk h2' _ kept _ ?_)
  refine Yd (Zp (kat_run (Q:=fun st' s'=>s'={ s with heap:=((s.heap.update a (Obj.mapSeq fun _=>(#[]:Array Value))).push (seqObj "tuple" vs.toArray 0)).push (seqObj "list" #[] 0) }∧∃ p:Array Nat,PermN vs.length p∧Ris lt p vs.length∧arrOf st'=p.map (kas_item (vs.toArray.zip vs.toArray))∧failedOf st'=none)
   (G:=fun p s'=>s'={ s with heap:=((s.heap.update a (Obj.mapSeq fun _=>(#[]:Array Value))).push (seqObj "tuple" vs.toArray 0)).push (seqObj "list" #[] 0) }∧PermN vs.length p∧Ris lt p vs.length)
   rfl h2' h64 (fun p st' s' a1 a2 a3 ⟨b1,b2,b3⟩=>⟨b1,p,b2,b3,a2,a3⟩) (re (hc _ kept) (fun p ⟨b2,b3⟩=>⟨rfl,b2,b3⟩) _ (i5 o (by omega)))) ?_ fun _ _ e=>e)
  rintro⟨⟨⟩,st'⟩ s' ⟨rfl,p,hp,hr,har,hf⟩
  dsimp only
  have hout:=kat_snds rfl har
  rw[hout]
  refine Yd (seqEpoch_at ho6 rfl ?_)
  refine Yd (listUpdate_at ho6 rfl ?_ (YG _) (by rw[Yn,Yf,ZE,hp.size,YM];omega))
  rw[hf]
  simp only[bne_self_eq_false,Xe,if_false]
  exact Yp (h p hp hr)
end
theorem o3 {x y:Str}(h:x.cps.toList=y.cps.toList):x=y:=by
 cases x;cases y
 congr
 exact Array.toList_inj.mp h
mutual
theorem bA:∀ x y:D,ad x y=true→(eqd x y=true↔x=y)
 | .int i,.int j,_=>by simp[eqd,aU,PyData.eqv]
 | .bl a,.bl b,_=>by simp[eqd,aU,PyData.eqv]
 | .str a,.str b,_=>by simp[eqd,aU,PyData.eqv]
 | .tup xs,.tup ys,h=>by
  have:=dH xs ys (by simpa[ad] using h)
  simp only[eqd,aU,PyData.eqv,D.tup.injEq]
  exact this
 | .non,y,h=>by cases y <;> simp[ad] at h
 | .lst _,y,h=>by cases y <;> simp[ad] at h
 | .dT _,y,h=>by cases y <;> simp[ad] at h
 | .dK _,y,h=>by cases y <;> simp[ad] at h
 | .ins _ _,y,h=>by cases y <;> simp[ad] at h
 | .int _,.non,h=>by simp[ad] at h
 | .int _,.bl _,h=>by simp[ad] at h
 | .int _,.str _,h=>by simp[ad] at h
 | .int _,.tup _,h=>by simp[ad] at h
 | .int _,.lst _,h=>by simp[ad] at h
 | .int _,.dT _,h=>by simp[ad] at h
 | .int _,.dK _,h=>by simp[ad] at h
 | .int _,.ins _ _,h=>by simp[ad] at h
 | .bl _,.non,h=>by simp[ad] at h
 | .bl _,.int _,h=>by simp[ad] at h
 | .bl _,.str _,h=>by simp[ad] at h
 | .bl _,.tup _,h=>by simp[ad] at h
 | .bl _,.lst _,h=>by simp[ad] at h
 | .bl _,.dT _,h=>by simp[ad] at h
 | .bl _,.dK _,h=>by simp[ad] at h
 | .bl _,.ins _ _,h=>by simp[ad] at h
 | .str _,.non,h=>by simp[ad] at h
 | .str _,.bl _,h=>by simp[ad] at h
 | .str _,.int _,h=>by simp[ad] at h
 | .str _,.tup _,h=>by simp[ad] at h
 | .str _,.lst _,h=>by simp[ad] at h
 | .str _,.dT _,h=>by simp[ad] at h
 | .str _,.dK _,h=>by simp[ad] at h
 | .str _,.ins _ _,h=>by simp[ad] at h
 | .tup _,.non,h=>by simp[ad] at h
 | .tup _,.bl _,h=>by simp[ad] at h
 | .tup _,.int _,h=>by simp[ad] at h
 | .tup _,.str _,h=>by simp[ad] at h
 | .tup _,.lst _,h=>by simp[ad] at h
 | .tup _,.dT _,h=>by simp[ad] at h
 | .tup _,.dK _,h=>by simp[ad] at h
 | .tup _,.ins _ _,h=>by simp[ad] at h
theorem dH:∀ xs ys:List D,az xs ys=true→(PyData.eqvAll (aS xs) (aS ys)=true↔xs=ys)
 | [],[],_=>by simp[aS,PyData.eqvAll]
 | [],_::_,_=>by simp[aS,PyData.eqvAll]
 | _::_,[],_=>by simp[aS,PyData.eqvAll]
 | x::xs,y::ys,h=>by
  rw[az,Yr] at h
  have h1:=bA x y h.1
  have h2:=dH xs ys h.2
  simp only[aS,PyData.eqvAll,Yr,List.cons.injEq]
  rw[h2]
  unfold eqd at h1
  rw[h1]
end
structure Fc2 {α:Type} (l:α→α→Bool) (x y:α):Prop where
 as:l x y=true→l y x=false
 an:l x y=false→l y x=false→x=y
def Fc3 {α:Type}(l:α→α→Bool)(x y z:α):Prop:=l x y=true→l y z=true→l x z=true
theorem au {x y:D}(h:ad x y=true):(∃ i j,x=.int i∧y=.int j)∨(∃ i j,x=.bl i∧y=.bl j)∨(∃ i j,x=.str i∧y=.str j)∨∃ i j,x=.tup i∧y=.tup j∧az i j=true:=by
 cases x with
 | int i=>
  refine .inl ?_
  cases y with
  | int j=>exact⟨_,_,rfl,rfl⟩
  | _=>exact absurd h Yj
 | bl i=>
  refine .inr (.inl ?_)
  cases y with
  | bl j=>exact⟨_,_,rfl,rfl⟩
  | _=>exact absurd h Yj
 | str i=>
  refine .inr (.inr (.inl ?_))
  cases y with
  | str j=>exact⟨_,_,rfl,rfl⟩
  | _=>exact absurd h Yj
 | tup i=>
  refine .inr (.inr (.inr ?_))
  cases y with
  | tup j=>exact⟨_,_,rfl,rfl,h⟩
  | _=>exact absurd h Yj
 | _=>exact absurd h Yj
theorem lg {a b:List Nat}(h:a<b):¬ b<a:=fun h'=>List.lt_irrefl a (List.lt_trans h h')
theorem dM {x y:D}(h1:ad x y=true)(ht:dE x=false):Fc2 ltD x y:=by
 rcases au h1 with⟨i,j,rfl,rfl⟩ | ⟨i,j,rfl,rfl⟩ | ⟨i,j,rfl,rfl⟩ | ⟨i,j,rfl,rfl,_⟩
 ·refine⟨fun h=>?_,fun h h'=>?_⟩
  ·simp only[ltD,YH,Za] at h ⊢;omega
  ·simp only[ltD,Za] at h h';rw[show i=j by omega]
 ·refine⟨fun h=>?_,fun h h'=>?_⟩
  ·cases i <;> cases j <;> simp_all [ltD]
  ·cases i <;> cases j <;> simp_all [ltD]
 ·refine⟨fun h=>?_,fun h h'=>?_⟩
  ·simp only[ltD,YH,Za] at h ⊢;exact lg h
  ·simp only[ltD,Za] at h h'
   rw[o3 (List.le_antisymm h' h)]
 ·cases ht
theorem dI {x y z:D}(h1:ad x y=true)(h2:ad y z=true)(ht:dE x=false):Fc3 ltD x y z:=by
 rcases au h1 with⟨i,j,rfl,rfl⟩ | ⟨i,j,rfl,rfl⟩ | ⟨i,j,rfl,rfl⟩ | ⟨i,j,rfl,rfl,_⟩
 ·rcases au h2 with⟨j',k,e,rfl⟩ | ⟨j',k,e,rfl⟩ | ⟨j',k,e,rfl⟩ | ⟨j',k,e,rfl,_⟩ <;> cases e
  intro h h'
  simp only[ltD,YH] at h h' ⊢;omega
 ·rcases au h2 with⟨j',k,e,rfl⟩ | ⟨j',k,e,rfl⟩ | ⟨j',k,e,rfl⟩ | ⟨j',k,e,rfl,_⟩ <;> cases e
  intro h h'
  cases i <;> cases j <;> cases k <;> simp_all [ltD]
 ·rcases au h2 with⟨j',k,e,rfl⟩ | ⟨j',k,e,rfl⟩ | ⟨j',k,e,rfl⟩ | ⟨j',k,e,rfl,_⟩ <;> cases e
  intro h h'
  simp only[ltD,YH] at h h' ⊢;exact List.lt_trans h h'
 ·cases ht
theorem kN (n:Nat):∀ x y:D,okN n x=true→ad x y=true→ad y x=true:=by
 induction n with
 | zero=>
  intro x y o h
  rcases au h with⟨i,j,rfl,rfl⟩ | ⟨i,j,rfl,rfl⟩ | ⟨i,j,rfl,rfl⟩ | ⟨i,j,rfl,rfl,_⟩
  ·rfl
  ·rfl
  ·rfl
  ·simp[okN] at o
 | succ n ih=>
  intro x y o h
  rcases au h with⟨i,j,rfl,rfl⟩ | ⟨i,j,rfl,rfl⟩ | ⟨i,j,rfl,rfl⟩ | ⟨i,j,rfl,rfl,hc⟩
  ·rfl
  ·rfl
  ·rfl
  ·have key:∀ (xs ys:List D),(∀ d∈xs,okN n d=true)→az xs ys=true→az ys xs=true:=by
    intro xs
    induction xs with
    | nil=>intro ys _ _;cases ys <;> simp[az]
    | cons x xs ihx=>
     intro ys ho hc
     cases ys with
     | nil=>simp[az]
     | cons y ys=>
      rw[az,Yr] at hc ⊢
      exact⟨ih x y (ho x Ye) hc.1,ihx ys (fun d hd=>ho d (Yc _ hd)) hc.2⟩
   rw[ad]
   exact key i j (aY o) hc
theorem pX {n:Nat}(ih:∀ x y:D,okN n x=true→okN n y=true→ad x y=true→Fc2 ltD x y) :
  ∀ (xs ys:List D),(∀ d∈xs,okN n d=true)→(∀ d∈ys,okN n d=true)→az xs ys=true→Fc2 aH xs ys:=by
 intro xs
 induction xs with
 | nil=>
  intro ys _ _ _
  refine⟨fun h=>?_,fun h h'=>?_⟩
  ·cases ys <;> simp_all [aH]
  ·cases ys <;> simp_all [aH]
 | cons x xs ihx=>
  intro ys ox oy c1
  cases ys with
  | nil=>
   refine⟨fun h=>?_,fun h h'=>?_⟩
   ·simp[aH] at h
   ·simp[aH] at h'
  | cons y ys=>
   rw[az,Yr] at c1
   have px:=ox x Ye
   have py:=oy y Ye
   have exy:=bA x y c1.1
   have eyx:=bA y x (kN n x y px c1.1)
   have G:=ihx ys (fun d hd=>ox d (Yc _ hd)) (fun d hd=>oy d (Yc _ hd)) c1.2
   refine⟨fun h=>?_,fun h h'=>?_⟩
   ·rw[aH] at h ⊢
    by_cases hxy:x=y
    ·rw[Yi (exy.mpr hxy)] at h
     rw[Yi (eyx.mpr hxy.symm)]
     exact G.as h
    ·rw[Yl (fun q=>hxy (exy.mp q))] at h
     rw[Yl (fun q=>hxy (eyx.mp q).symm)]
     exact (ih x y px py c1.1).as h
   ·rw[aH] at h h'
    by_cases hxy:x=y
    ·rw[Yi (exy.mpr hxy)] at h
     rw[Yi (eyx.mpr hxy.symm)] at h'
     rw[hxy,G.an h h']
    ·rw[Yl (fun q=>hxy (exy.mp q))] at h
     rw[Yl (fun q=>hxy (eyx.mp q).symm)] at h'
     exact absurd ((ih x y px py c1.1).an h h') hxy
theorem dC (n:Nat):∀ x y:D,okN n x=true→okN n y=true→ad x y=true→Fc2 ltD x y:=by
 induction n with
 | zero=>
  intro x y ox oy c1
  refine dM c1 ?_
  cases x <;> first | rfl | (simp[okN] at ox)
 | succ n ih=>
  intro x y ox oy c1
  rcases au c1 with⟨i,j,rfl,rfl⟩ | ⟨i,j,rfl,rfl⟩ | ⟨i,j,rfl,rfl⟩ | ⟨i,j,rfl,rfl,d1⟩
  ·exact dM c1 rfl
  ·exact dM c1 rfl
  ·exact dM c1 rfl
  ·have F:=pX ih i j (aY ox) (aY oy) d1
   refine⟨fun h=>?_,fun h h'=>?_⟩
   ·rw[ltD] at h ⊢;exact F.as h
   ·rw[ltD] at h h';rw[F.an h h']
theorem pw {n:Nat}(ih:∀ x y z:D,okN n x=true→okN n y=true→okN n z=true→ad x y=true→ad y z=true→ad x z=true→Fc3 ltD x y z) :
  ∀ (xs ys zs:List D),(∀ d∈xs,okN n d=true)→(∀ d∈ys,okN n d=true)→(∀ d∈zs,okN n d=true)→az xs ys=true→az ys zs=true→az xs zs=true→Fc3 aH xs ys zs:=by
 intro xs
 induction xs with
 | nil=>
  intro ys zs _ _ _ _ _ _ h h'
  cases ys <;> cases zs <;> simp_all [aH]
 | cons x xs ihx=>
  intro ys zs ox oy oz c1 c2 c3 h h'
  cases ys with
  | nil=>simp[aH] at h
  | cons y ys=>
   rw[az,Yr] at c1
   have px:=ox x Ye
   have py:=oy y Ye
   have exy:=bA x y c1.1
   cases zs with
   | nil=>simp[aH] at h'
   | cons z zs=>
    rw[az,Yr] at c2 c3
    have pz:=oz z Ye
    have eyz:=bA y z c2.1
    have exz:=bA x z c3.1
    have F:=ih x y z px py pz c1.1 c2.1 c3.1
    rw[aH] at h h' ⊢
    by_cases hxy:x=y
    ·rw[Yi (exy.mpr hxy)] at h
     by_cases hyz:y=z
     ·rw[Yi (eyz.mpr hyz)] at h'
      rw[Yi (exz.mpr (hxy.trans hyz))]
      exact ihx ys zs (fun d hd=>ox d (Yc _ hd)) (fun d hd=>oy d (Yc _ hd)) (fun d hd=>oz d (Yc _ hd)) c1.2 c2.2 c3.2 h h'
     ·rw[Yl (fun q=>hyz (eyz.mp q))] at h'
      rw[Yl (fun q=>hyz (hxy.symm.trans (exz.mp q)))]
      rw[hxy];exact h'
    ·rw[Yl (fun q=>hxy (exy.mp q))] at h
     by_cases hyz:y=z
     ·rw[Yl (fun q=>hxy ((exz.mp q).trans hyz.symm))]
      rw[← hyz];exact h
     ·rw[Yl (fun q=>hyz (eyz.mp q))] at h'
      have hxz:=F h h'
      by_cases he:x=z
      ·subst he
       have:=(dC n x y px py c1.1).as h
       rw[h'] at this
       cases this
      ·rw[Yl (fun q=>he (exz.mp q))]
       exact hxz
theorem p0 (n:Nat):∀ x y z:D,okN n x=true→okN n y=true→okN n z=true→ad x y=true→ad y z=true→ad x z=true→Fc3 ltD x y z:=by
 induction n with
 | zero=>
  intro x y z ox oy oz c1 c2 c3
  refine dI c1 c2 ?_
  cases x <;> first | rfl | (simp[okN] at ox)
 | succ n ih=>
  intro x y z ox oy oz c1 c2 c3
  rcases au c1 with⟨i,j,rfl,rfl⟩ | ⟨i,j,rfl,rfl⟩ | ⟨i,j,rfl,rfl⟩ | ⟨i,j,rfl,rfl,d1⟩
  ·exact dI c1 c2 rfl
  ·exact dI c1 c2 rfl
  ·exact dI c1 c2 rfl
  ·rcases au c2 with⟨j',k,e,rfl⟩ | ⟨j',k,e,rfl⟩ | ⟨j',k,e,rfl⟩ | ⟨j',k,e,rfl,d2⟩ <;> cases e
   have F:=pw ih i j k (aY ox) (aY oy) (aY oz) d1 d2 (by simpa[ad] using c3)
   intro h h'
   rw[ltD] at h h' ⊢
   exact F h h'
def ll (x:D):List D→List D
 | []=>[x]
 | y::r=>if ltD x y=true then x::y::r else y::ll x r
def bK:List D→List D
 | []=>[]
 | x::r=>ll x (bK r)
theorem dZ (x:D):∀ l:List D,(ll x l).Perm (x::l)
 | []=>.refl _
 | y::r=>by
  unfold ll
  split
  ·exact .refl _
  ·exact ((dZ x r).cons y).trans (.swap x y r)
theorem df:∀ l:List D,(bK l).Perm l
 | []=>.refl _
 | x::r=>(dZ x (bK r)).trans ((df r).cons x)
def Cmps (n:Nat)(ds:List D):Prop:=(∀ d∈ds,okN n d=true)∧∀ x∈ds,∀ y∈ds,ad x y=true
theorem iU {n:Nat}:∀ {as bs:List D},as.Perm bs→Cmps n as→as.Pairwise (fun x y=>ltD y x=false)→bs.Pairwise (fun x y=>ltD y x=false)→as=bs:=by
 intro as
 induction as with
 | nil=>intro bs hp _ _ _;exact (List.Perm.nil_eq hp)
 | cons a as ih=>
  intro bs hp hc pa pb
  cases bs with
  | nil=>exact absurd hp.symm (List.not_perm_nil_cons _ _)
  | cons b bs=>
   have ma:a∈b::bs:=hp.mem_iff.mp Ye
   have mb:b∈a::as:=hp.mem_iff.mpr Ye
   have e:a=b:=by
    rcases Ys.mp ma with h | h
    ·exact h
    ·rcases Ys.mp mb with h' | h'
     ·exact h'.symm
     ·have l1:=(Zi.mp pa).1 b h'
      have l2:=(Zi.mp pb).1 a h
      exact (dC n a b (hc.1 a Ye) (hc.1 b mb) (hc.2 a Ye b mb)).an l2 l1
   subst e
   rw[ih (List.Perm.cons_inv hp) ⟨fun d hd=>hc.1 d (Yc _ hd),fun x hx y hy=>hc.2 x (Yc _ hx) y (Yc _ hy)⟩ (Zi.mp pa).2 (Zi.mp pb).2]
theorem Cmps.perm {n:Nat}{as bs:List D}(h:Cmps n as)(p:as.Perm bs):Cmps n bs:=⟨fun d hd=>h.1 d (p.mem_iff.mpr hd),fun x hx y hy=>h.2 x (p.mem_iff.mpr hx) y (p.mem_iff.mpr hy)⟩
theorem gM {n:Nat}{x y z:D}(ox:okN n x=true)(oy:okN n y=true)(oz:okN n z=true)(cxy:ad x y=true)(cyz:ad y z=true)(cxz:ad x z=true)(cyx:ad y x=true)(czy:ad z y=true)(czx:ad z x=true)
  (h1:ltD y x=false) (h2:ltD z y=false):ltD z x=false:=by
 cases q:ltD z x with
 | false=>rfl
 | true=>
  -- z<x;x≤y
  by_cases hxy:ltD x y=true
  ·have:=p0 n z x y oz ox oy czx cxy czy q hxy
   rw[h2] at this;cases this
  ·have e:x=y:=(dC n x y ox oy cxy).an (by simpa using hxy) h1
   subst e
   rw[h2] at q;cases q
theorem eE {n:Nat}{x:D}:∀ {l:List D},Cmps n (x::l)→l.Pairwise (fun a b=>ltD b a=false)→(ll x l).Pairwise (fun a b=>ltD b a=false)
 | [],_,_=>List.pairwise_singleton _ _
 | y::r,hc,hp=>by
  have mx:x∈x::y::r:=Ye
  have my:y∈x::y::r:=Yc _ Ye
  obtain⟨h1,h2⟩:=Zi.mp hp
  unfold ll
  split
  ·rename_i q
   refine Zi.mpr ⟨fun z hz=>?_,hp⟩
   have hyx:ltD y x=false:=(dC n x y (hc.1 x mx) (hc.1 y my) (hc.2 x mx y my)).as q
   rcases Ys.mp hz with rfl | hz
   ·exact hyx
   ·have mz:z∈x::y::r:=Yc _ (Yc _ hz)
    exact gM (hc.1 x mx) (hc.1 y my) (hc.1 z mz) (hc.2 x mx y my) (hc.2 y my z mz) (hc.2 x mx z mz) (hc.2 y my x mx) (hc.2 z mz y my) (hc.2 z mz x mx) hyx (h1 z hz)
  ·rename_i q
   refine Zi.mpr ⟨fun z hz=>?_,eE (x:=x) ⟨fun d hd=>hc.1 d ?_,fun a ha b hb=>hc.2 a ?_ b ?_⟩ h2⟩
   ·rcases Ys.mp ((dZ x r).mem_iff.mp hz) with rfl | hz
    ·simpa using q
    ·exact h1 z hz
   all_goals
    first
     | (
      rcases Ys.mp hd with rfl | hd
      ·exact mx
      ·exact Yc _ (Yc _ hd))
     | (
      rcases Ys.mp ha with rfl | ha
      ·exact mx
      ·exact Yc _ (Yc _ ha))
     | (
      rcases Ys.mp hb with rfl | hb
      ·exact mx
      ·exact Yc _ (Yc _ hb))
theorem Cmps.sub {n:Nat}{as bs:List D}(h:Cmps n bs)(k:∀ x∈as,x∈bs):Cmps n as:=⟨fun d hd=>h.1 d (k d hd),fun x hx y hy=>h.2 x (k x hx) y (k y hy)⟩
theorem dm {n:Nat}:∀ {l:List D},Cmps n l→(bK l).Pairwise (fun a b=>ltD b a=false)
 | [],_=>.nil
 | x::r,hc=>eE (hc.sub fun y hy=>by
   rcases Ys.mp hy with rfl | hy
   ·exact Ye
   ·exact Yc _ ((df r).mem_iff.mp hy)) (dm (hc.sub fun y hy=>Yc _ hy))
theorem fu {n:Nat}{as bs:List D}(hp:as.Perm bs)(hc:Cmps n bs)(hs:as.Pairwise (fun x y=>ltD y x=false)):as=bK bs:=
 iU (hp.trans (df bs).symm) (hc.perm hp.symm) hs (dm hc)
end L2
namespace L2
open PySem PySem.Spec PyProof.Rows
section
variable {X:Cx} {e a b c o:Expr} {es:List Expr} {pos p:Pos}
theorem mS {K:Kq}{H:Hp}{x:V}{i:Str}(r:Rep K H x (.str i)):x=.str i:=by cases r;rfl
def leS:D→D→Option D
 | .str x,.str y=>some (.bl (!decide (y.cps.toList<x.cps.toList)))
 | _,_=>none
def leA (x y:D):Option D:=(leI x y).or (leS x y)
def chD (f g:Dy)(fa fb fc:Dd):DF→Option D:=fun ρ=>(fa ρ).bind fun x=>(fb ρ).bind fun y=>match f x y with
 | some (.bl true)=>(fc ρ).bind fun z=>g y z
 | some (.bl false)=>some (.bl false)
 | _=>none
def tu (K:Kq)(r:List V→Hp→VK→Prop)(f:D→Option D):Prop:=
 ∀ (P F H:Hp) (x:V) (dx d:D) (Q:VK),f dx=some d→DHp P F H→Rep K H x dx→(∀ v F' H',Evo P F H F' H'→Rep K F' v d→Q v H')→r [x] H Q
theorem r9 {K:Kq}{r:List V→Hp→VK→Prop}{f:D→Option D}{fa:Dd}(ho:tu K r f):∀ σ H Q,tD K (d1 f fa) σ H Q→tCB r (fq (tN K fa) kW) σ H Q:=fun σ H Q=>un7 fun P F ρ d hf I k=>by
 unfold d1 at hf
 cases ha:fa ρ with
 | none=>rw[ha] at hf;cases hf
 | some dx=>
  rw[ha,Ya] at hf
  exact⟨P,F,ρ,dx,ha,I,fun x F1 H1 e1 rx=>ho P F1 H1 x dx d Q hf e1.hp rx fun v F2 H2 e2 rv=>k v F2 H2 (e1.trans e2) rv⟩
theorem rC {K:Kq}:tu K (sS K) bP:=by
 intro P F H x dx d Q hf hp rx k
 unfold bP at hf
 split at hf
 ·cases hf
  cases rx with | lst h1 h2=>exact .inl ⟨_,_,rfl,.inl h1,by rw[h2.length];exact k _ F H (Evo.refl hp) .int⟩
 ·cases hf
  cases rx with | tup h1 h2=>exact .inl ⟨_,_,rfl,.inr (SqT.of h1),by rw[h2.length];exact k _ F H (Evo.refl hp) .int⟩
 ·split at hf
  ·rename_i h
   cases hf
   exact .inr ⟨_,by rw[mS rx],by rw[YM];exact h,k _ F H (Evo.refl hp) .int⟩
  ·cases hf
 ·cases hf
theorem d3 {fa:Dd}(hg:Gl X "len")(hm:X.mg "len"=none)(ha:PDN X e fa)(hs:starEach [e] X.env=[(false,eval e X.env)]:=by rfl)(hpl:(backTo pos (starEach [] X.env)).any (·.1)=false:=by rfl) :
  PDE X (.Call (.Name "len" p) [e] [] pos) (d1 bP fa):=
 (cN (iq.or ij) hg hm PySem.boot_len (ar ha aN hs) (by decide) (by decide) hs hpl).imp (r9 rC)
theorem boot_int:bootBuiltins "int"=some (.type "int"):=by rfl
theorem boot_list:bootBuiltins "list"=some (.type "list"):=by rfl
theorem boot_bool:bootBuiltins "bool"=some (.type "bool"):=by rfl
theorem eG:bootBuiltins "isinstance"=some (.builtin "isinstance"):=by rfl
theorem mT:bootBuiltins "min"=some (.builtin "min"):=by rfl
theorem lQ:bootBuiltins "max"=some (.builtin "max"):=by rfl
theorem iG:bootBuiltins "sorted"=some (.builtin "sorted"):=by rfl
def dU (f:Dd):DF→Option (List D):=fun ρ=>(f ρ).bind cB
theorem jc {fa:Dd}(hg:Gl X "list")(hm:X.mg "list"=none)(ha:PDR X e fa)(hs:starEach [e] X.env=[(false,eval e X.env)]:=by rfl) :
  PDO X (.Call (.Name "list" p) [e] [] pos) (asL (dU fa)):=
 (cQ g0 hg hm boot_list (ar ha aN hs) (he:=hs)).imp fun σ H Q=>un7 fun P F ρ ob hf I k=>by
  unfold asL dU at hf
  cases ha:fa ρ with
  | none=>rw[ha] at hf;cases hf
  | some dx=>
   rw[ha,Ya] at hf
   cases hi:cB dx with
   | none=>rw[hi] at hf;cases hf
   | some ds=>
    rw[hi] at hf
    cases hf
    refine⟨P,F,ρ,dx,ha,I,fun x F1 H1 e1 rx=>?_⟩
    have I1:=I.evo e1
    have fin:∀ vs,Reps X.K F1 vs ds→∀ l,H1 l=none→Q (.ref l) (upd H1 l (.lst vs)):=fun vs r l hl=>
     k l F1 _ (e1.trans (Evo.side e1.hp hl)) ⟨⟨e1.back I.toDHp hl,(e1.hp.free hl).1⟩,_,ak,r⟩
    cases dx with
    | lst ds'=>
     cases hi
     obtain⟨q,vs,rfl,h1,h2⟩:=bW I1 rx
     exact⟨q,vs,rfl,.inl h1,fin vs h2⟩
    | tup ds'=>
     cases hi
     obtain⟨q,vs,rfl,h1,h2⟩:=eQ I1 rx
     exact⟨q,vs,rfl,.inr h1,fin vs h2⟩
    | _=>cases hi
def qo (K:Kq):R2:=fun x y H Q=>∃ l b xs zs,x=.ref l∧y=.ref b∧SqL K H l xs∧SqL K H b zs∧xs.length+zs.length≤sizeLine∧∀ p,H p=none→Q (.ref p) (upd H p (.lst (xs++zs)))
theorem j5:OpR X (binaryOp .Add) (qo X.K):=by
 intro pz s σ H x y v u Q I rx ry h
 obtain⟨l,b,xs,zs,rfl,rfl,hH,hB,hz,q⟩:=h
 cases rx
 cases ry
 obtain⟨its,r,p1,_⟩:=I.list hH
 obtain⟨its2,r2,p2,_⟩:=I.list hB
 obtain⟨⟨cls,dd,data,sl⟩,n,ho,hc,hdd,hd⟩:=p1
 obtain⟨⟨cls2,dd2,data2,sl2⟩,n2,ho2,hc2,hdd2,hd2⟩:=p2
 simp only at hc hd hc2 hd2
 subst hc hd hc2 hd2
 have e1:=r.length
 have e2:=r2.length
 refine concat_meets ⟨_,ho,rfl⟩ ⟨_,ho2,rfl⟩ PySem.noFill_list_add PySem.seq_list_add PySem.F.slot_list_add PySem.F.entry_list_add (PySem.F.args_list_add_2 _ _) (list_addW l b its.toArray its2.toArray n n2 dd dd2 sl sl2 (by rw[Yn,Yn];omega)) ⟨ho,ho2,?_⟩
 have ea:its.toArray++its2.toArray=(its++its2).toArray:=by simp
 rw[ea]
 exact⟨.ref _,_,I.lnew (t':=s.toks) (r.append r2) (by rw[YE];omega),rfl,q _ I.fresh⟩
def kQ (fa fb:Dd):DF→Option (List D):=fun ρ=>match fa ρ,fb ρ with
 | some (.lst xs),some (.lst ys)=>if xs.length+ys.length≤16777216 then some (xs++ys) else none
 | _,_=>none
theorem oH {fa fb:Dd}(ha:PDR X a fa)(hb:PDR X b fb):PDO X (.BinOp a .Add b pos) (asL (kQ fa fb)):=(qu j5 ha hb).imp fun σ H Q=>un7 fun P F ρ ob hf I k=>by
 unfold asL at hf
 cases q:kQ fa fb ρ with
 | none=>rw[q] at hf;cases hf
 | some out=>
 rw[q] at hf
 cases hf
 unfold kQ at q
 split at q
 ·rename_i xs ys qa qb
  split at q
  ·rename_i hz
   cases q
   refine⟨P,F,ρ,_,qa,I,fun x F1 H1 e1 rx=>⟨P,F1,ρ,_,qb,I.evo e1,fun y F2 H2 e2 ry=>?_⟩⟩
   have I2:=(I.evo e1).evo e2
   obtain⟨l,vs,rfl,h1,h2⟩:=bW I2 (rx.evo e2)
   obtain⟨l2,vs2,rfl,h3,h4⟩:=bW I2 ry
   refine⟨l,l2,vs,vs2,rfl,rfl,h1,h3,by rw[h2.length,h4.length,YM];exact hz,fun p hp=>?_⟩
   have e12:=e1.trans e2
   exact k p F2 _ (e12.trans (Evo.side e12.hp hp)) ⟨⟨e12.back I.toDHp hp,(e12.hp.free hp).1⟩,_,ak,h2.append h4⟩
  ·cases q
 ·cases q
end
section
variable {X:Cx} {k:Nat} {f C:Addr} {fd:FuncData} {ps:List Str} {m:Dm} {mM:Dz} {x mn:Str} {p pos apos spos:Pos} {e o:Expr} {es:List Expr} {g:Dv}
end
section
variable {X:Cx} {k:Nat} {f C:Addr} {fd:FuncData} {ps:List Str} {m:Dm} {mM:Dz} {x mn:Str} {p pos apos spos:Pos} {e o:Expr} {es:List Expr} {g:Dv} {s:DF→Option DV}
end
section
variable {κ:Type} [DecidableEq κ]
def eK (kvs:List (κ×D))(k:κ):Option D:=(kvs.find? fun kv=>decide (kv.1=k)).map (·.2)
def kR (kvs:List (κ×D))(k:κ)(v:D):List (κ×D):=
 if (kvs.any fun kv=>decide (kv.1=k))=true then kvs.map (fun kv=>if kv.1=k then (kv.1,v) else kv) else kvs++[(k,v)]
end
theorem gI {κ:Type}[DecidableEq κ]{k k':κ}{v:D}{vs:List (κ×D)}:eK ((k',v)::vs) k=if k'=k then some v else eK vs k:=by
 unfold eK
 by_cases q:k'=k <;> simp[Zq,q]
def e7:D→Option Key
 | .int i=>some (.inl i)
 | .str x=>some (.inr x)
 | _=>none
section
variable {X:Cx} {a b o i e f:Expr} {pos pos' apos cpos:Pos} {fd fk fx fv:Dd}
end
end L2
namespace L2
open PySem PySem.Spec PyProof.Rows PySem.W
section
variable {prog:Program} {w:World} {A:Around} {E:Kv} {s:Shared}
def gY (prog:Program)(w:World)(A:Around)(Q:Kv)(vs:List Value)(s1:Shared):Prop:=
 vs.length<64∧∃ (κ:SortKind) (lt:Nat→Nat→Bool),Ord lt ∧
  (2≤vs.length→∀ h',(∀ b u,s1.heap.get? b=some u→h'.get? b=some u)→∀ (Q:SortKind→Shared→Prop) (E:Kv),Q κ { s1 with heap:=h' }→wpAny (model prog w) A.in1.in1 (keyKind' vs.toArray) Q E { s1 with heap:=h' }) ∧
  (∀ h',(∀ b u,s1.heap.get? b=some u→h'.get? b=some u)→∀ i j C,i<vs.length→j<vs.length→C (lt i j) { s1 with heap:=h' }→kas_ask prog w A.in1.in1 κ vs i j C { s1 with heap:=h' }) ∧
  ∀ p,PermN vs.length p→Ris lt p vs.length→∀ (a:Addr) (h':Heap) (e:Nat),(∀ b u,s1.heap.get? b=some u→h'.get? b=some u)→s1.heap.objs.size≤a→h'.get? a=some (seqObj "list" (ee vs p) e)→Q (.ref a) { s1 with heap:=h' }
theorem iD {v:Value}{Q:Kv}(hcol:wpAny (model prog w) A.in1 (collect v) (gY prog w A Q) E s) :
  wpAny (model prog w) A (call (.builtin "sorted") [v]) Q E s:=by
 refine Calls.call_function_entry kind_sorted plain_sorted entry_sorted (args_sorted1 _) ?_
 unfold Builtin.«sorted»
 refine Yd (m:=checkCount "sorted" 1 1 _) (Yp ?_)
 refine Yd (Zp hcol (fun vs s1 hh_=>?_) fun _ _ e=>e)
 obtain⟨h64,κ,lt,o,hk,hc,h⟩:=hh_
 refine Yd (wpAny_newList ?_ (by rw[YM];omega))
 have hoL:(s1.heap.push (seqObj "list" vs.toArray 0)).get? s1.heap.objs.size=some (seqObj "list" vs.toArray 0):=Yk _ rfl
 have keep:∀ b u,s1.heap.get? b=some u→(s1.heap.push (seqObj "list" vs.toArray 0)).get? b=some u:=fun b u q=>Yb _ q
 show wpAny _ _ _ _ _ { s1 with heap:=s1.heap.push (seqObj "list" vs.toArray 0) }
 have lift:∀ h':Heap,(∀ b u,b≠s1.heap.objs.size→(s1.heap.push (seqObj "list" vs.toArray 0)).get? b=some u→h'.get? b=some u)→∀ b u,s1.heap.get? b=some u→h'.get? b=some u:=fun h' k b u e=>
  k b u (Yq (Yg e)) (keep b u e)
 refine Yd (ZS (ZX slot_list_sort ⟨_,hoL,rfl⟩ entry_list_sort ?body (args_list_sort _)))
 case body=>
  refine fZ hoL h64 κ lt o (fun h2 h' k Q q=>hk h2 h' (lift h' k) Q _ q) (fun h' k=>hc h' (lift h' k)) fun p hp hr=>⟨_,rfl,?_⟩
  obtain⟨e,he⟩:=sortedHeap_at (out:=ee vs p) hoL
  refine Yp ⟨_,rfl,h p hp hr s1.heap.objs.size _ e (fun b u q=>?_) (Yo _) he⟩
  have hlt:b<s1.heap.objs.size:=Yg q
  show (sortedHeap (s1.heap.push (seqObj "list" vs.toArray 0)) s1.heap.objs.size vs (ee vs p)).get? b=some u
  rw[sortedHeap_old (Yq hlt) (by rw[size_push'];exact Zz hlt)]
  exact keep b u q
theorem fX {l:Addr}{vs:List Value}{Q:Kl}(hl:IsTup s.heap l vs.toArray)
  (h:Q vs { s with heap:=(s.heap.push (seqObj "list" #[] 0)).update s.heap.objs.size (Obj.mapSeq (·++vs.toArray)) }) (hsz:vs.length≤sizeLine) :
  wpAny (model prog w) A (collect (.ref l)) Q E s:=by
 obtain⟨o,ho,hc,n,hd⟩:=id hl
 unfold collect
 refine Yd (wpAny_runValue (Xi entry_proto_collect' ?_))
 show wpAny _ _ (do again (.builtin "list.__iadd__" ⟨[← newList [],.ref l],[]⟩)) _ _ s
 refine Yd (wpAny_newList (Yp ⟨Code.quiet_builtin _ (by decide +kernel),Xi entry_list_iadd' ?_⟩))
 show wpAny _ _ (Builtin.List.listExtendWith (.ref s.heap.objs.size) (.ref l) (.ref s.heap.objs.size)) _ _ { s with heap:=s.heap.push (seqObj "list" #[] 0) }
 unfold Builtin.List.listExtendWith
 have ho':(s.heap.push (seqObj "list" #[] 0)).get? l=some o:=Yb _ ho
 refine Yd (wpAny_typeOf (T := "tuple") ⟨o,ho',hc⟩ ?_)
 have ht:(Value.type "tuple" == Value.type "tuple")=true:=by rfl
 rw[Yi (by rw[ht];simp)]
 refine Yd (listItems_at ho' hd ?_)
 refine Yd (listItems_at (xs:=#[]) (n:=0) (Yk _ rfl) rfl ?_)
 rw[Yl (by simp)]
 refine Yd (listUpdate_at (xs:=#[]) (n:=0) (Yk _ rfl) rfl ?_ (YG _) (by show (#[]++vs.toArray).size≤sizeLine+1;simp only[Array.size_append,Yn,YL];omega))
 refine Yp ?_
 show wpAny (model prog w) A (do
   let o ← load s.heap.objs.size
   match o.data with
   | .seq xs _=>pure xs.toList
   | _=>unsupported "internal:collect") Q E { s with heap:=(s.heap.push (seqObj "list" #[] 0)).update s.heap.objs.size (Obj.mapSeq (·++vs.toArray)) }
 refine Yd (wpAny_load (get?_update_seq (Yk _ rfl) _) ?_)
 show wpAny _ _ (pure ((#[]:Array Value)++vs.toArray).toList) Q E _
 rw[show ((#[]:Array Value)++vs.toArray).toList=vs by simp]
 exact Yp h
theorem fC {h:Heap}{vs:List Value}{b:Addr}{u:Obj}(q:h.get? b=some u):((h.push (seqObj "list" #[] 0)).update h.objs.size (Obj.mapSeq (·++vs.toArray))).get? b=some u:=by
 have hlt:b<h.objs.size:=Yg q
 rw[Heap.get?_update_ne _ _ _ _ (Yq hlt),ZT _ _ _ (Yq hlt)]
 exact q
end
def sk:D→Bool
 | .int _=>true
 | .str _=>true
 | .tup (_::_)=>true
 | _=>false
def fk:D→Bool
 | .int _=>true
 | .str _=>true
 | .tup _=>true
 | _=>false
def j6:D→Bool
 | .tup (d::_)=>fk d
 | _=>true
def ck (ds:List D):Bool:=decide (ds.length<64)&&ds.all (okN 28)&&(ds.all fun x=>ds.all fun y=>ad x y)&&ds.all sk&&ds.all j6
theorem c8 {ds:List D}(h:ck ds=true):ds.length<64∧Cmps 28 ds∧(∀ d∈ds,sk d=true)∧∀ d∈ds,j6 d=true:=by
 unfold ck at h
 simp only[Yr,YH] at h
 obtain⟨⟨⟨⟨h1,h2⟩,h3⟩,h4⟩,h5⟩:=h
 exact⟨h1,⟨fun d hd=>YF.mp h2 d hd,fun x hx y hy=>YF.mp (YF.mp h3 x hx) y hy⟩,fun d hd=>YF.mp h4 d hd,fun d hd=>YF.mp h5 d hd⟩
def dAt (ds:List D)(i:Nat):D:=ds.getD i (ds.headD (.int 0))
theorem h_ {ds:List D}(h:ds≠[])(i:Nat):dAt ds i∈ds:=by
 unfold dAt
 cases ds with
 | nil=>exact absurd rfl h
 | cons d r=>
  rw[YQ]
  cases q:(d::r)[i]? with
  | none=>exact Ye
  | some x=>exact Zl q
theorem ik {ds:List D}{i:Nat}(h:i<ds.length):ds[i]?=some (dAt ds i):=by
 unfold dAt
 rw[YQ,Yw h]
 rfl
theorem sm {n:Nat}{ds:List D}(hc:Cmps n ds):Ord fun i j=>ltD (dAt ds i) (dAt ds j):=by
 by_cases hn:ds=[]
 ·subst hn
  have e:∀ i,dAt [] i=.int 0:=fun i=>by simp[dAt]
  refine⟨fun i j h=>?_,fun i j k h1 h2=>?_⟩
  ·rw[e,e] at h;simp[ltD] at h
  ·rw[e,e];simp[ltD]
 ·have m:=fun i=>h_ hn i
  refine⟨fun i j h=>?_,fun i j k h1 h2=>?_⟩
  ·exact (dC n _ _ (hc.1 _ (m i)) (hc.1 _ (m j)) (hc.2 _ (m i) _ (m j))).as h
  ·exact gM (hc.1 _ (m i)) (hc.1 _ (m j)) (hc.1 _ (m k)) (hc.2 _ (m i) _ (m j)) (hc.2 _ (m j) _ (m k)) (hc.2 _ (m i) _ (m k)) (hc.2 _ (m j) _ (m i)) (hc.2 _ (m k) _ (m j)) (hc.2 _ (m k) _ (m i)) h1 h2
theorem j3 {n:Nat}{ds:List D}(hc:Cmps n ds){p:Array Nat}(hp:PermN ds.length p)(hr:Ris (fun i j=>ltD (dAt ds i) (dAt ds j)) p ds.length):p.toList.map (dAt ds)=bK ds:=by
 refine fu (n:=n) ?_ hc ?_
 ·have h1:(p.toList.map (dAt ds)).Perm ((List.range ds.length).map (dAt ds)):=hp.perm.map _
  have h2:(List.range ds.length).map (dAt ds)=ds:=by
   apply List.ext_getElem?
   intro i
   rw[Yv]
   by_cases h:i<ds.length
   ·rw[Xa h,YS,ik h]
   ·rw[Zt (by rw[Xn];omega),Zt (by omega)];rfl
  rw[h2] at h1
  exact h1
 ·rw[ZC,List.pairwise_iff_getElem]
  intro i j hi hj hij
  have hs:=hp.size
  rw[ZE] at hi hj
  have:=hr i j (Zc hij) (by omega)
  have e:∀ k (h:k<p.size),p.getD k 0=p[k]:=fun k h=>by simp[Array.getD,h]
  rw[e i hi,e j hj] at this
  simpa using this
theorem Reps.perm {K:Kq}{H:Hp}{vs:List V}{ds:List D}(r:Reps K H vs ds)(hn:ds≠[]):∀ (l:List Nat),(∀ i∈l,i<ds.length)→Reps K H (l.map fun i=>vs.getD i .non) (l.map (dAt ds))
 | [],_=>.nil
 | i::l,h=>by
  obtain⟨v,h1,h2⟩:=r.get (ik (h i Ye))
  have e:vs.getD i .non=v:=by rw[YQ,h1];rfl
  rw[Yt,Yt]
  show Reps K H (vs.getD i .non::_) _
  rw[e]
  exact .cons h2 (Reps.perm r hn l fun j hj=>h j (Yc _ hj))
theorem Vals.perm {vs:List V}{us:List Value}(r:Vals vs us):∀ (l:List Nat),(∀ i∈l,i<vs.length)→Vals (l.map fun i=>vs.getD i .non) (l.map fun i=>us.getD i Value.none)
 | [],_=>.nil
 | i::l,h=>by
  have hi:=h i Ye
  obtain⟨u,h1,h2⟩:=r.get (Yw hi)
  have e1:vs.getD i .non=vs[i]:=by rw[YQ,Yw hi];rfl
  have e2:us.getD i Value.none=u:=by rw[YQ,h1];rfl
  rw[Yt,Yt]
  show Vals (vs.getD i .non::_) (us.getD i Value.none::_)
  rw[e1,e2]
  exact .cons h2 (Vals.perm r l fun j hj=>h j (Yc _ hj))
def tyD:D→Value
 | .int _=>.type "int"
 | .str _=>.type "str"
 | _=>.type "tuple"
section
variable {X:Cx} {pz:Kp} {σ:St} {H:Hp} {s:Shared}
theorem Rep.ty (I:Inv X pz σ H s){v:V}{d:D}{u:Value}(h:Rep X.K H v d)(hk:fk d=true)(r:RelV v u)(M:Model):Looks M s.heap (typeOf u) (tyD d):=by
 cases d with
 | int i=>cases h;obtain⟨t,rfl⟩:=(show ∃ t,u=Value.int _ t from r);exact Looks.of_pure rfl
 | str i=>cases h;obtain⟨t,rfl⟩:=(show ∃ t,u=Value.str _ t from r);exact Looks.of_pure rfl
 | tup ds=>
  cases h with
  | tup h1 h2=>
   cases (show u=Value.ref _ from r)
   obtain⟨its,rv,⟨o,ho,hc,n,hd⟩,_⟩:=I.tuple (SqT.of h1)
   have:=(Looks.ld (M:=M) (part:=none) ho).andThen (f:=fun o=>pure o.cls) .now
   rw[hc] at this
   exact this
 | _=>cases hk
theorem jY {x y:D}(h:ad x y=true)(hx:fk x=true):tyD x=tyD y:=by
 rcases au h with⟨i,j,rfl,rfl⟩ | ⟨i,j,rfl,rfl⟩ | ⟨i,j,rfl,rfl⟩ | ⟨i,j,rfl,rfl,_⟩
 ·rfl
 ·cases hx
 ·rfl
 ·rfl
def gJ:List D→SortKind
 | .tup (d::_)::_=>tuples' (tyD d != .type "tuple")
 | _=>oneType'
theorem jD (I:Inv X pz σ H s):∀ {vs:List V} {ds:List D} {us:List Value},Reps X.K H vs ds→Vals vs us→(∀ d∈ds,∃ x r,d=.tup (x::r)∧fk x=true)→∀ T:Value,(∀ x r,.tup (x::r)∈ds→tyD x=T)→
  ∃ fs:List Value,KatTups s.heap us fs∧fs.length=us.length∧∀ M,∀ v∈fs,Looks M s.heap (typeOf v) T:=by
 intro vs ds us h
 exact Reps.ind (M:=fun vs ds=>∀ us:List Value,Vals vs us→(∀ d∈ds,∃ x r,d=.tup (x::r)∧fk x=true)→∀ T:Value,(∀ x r,.tup (x::r)∈ds→tyD x=T) →     ∃ fs:List Value,KatTups s.heap us fs∧fs.length=us.length∧∀ M,∀ v∈fs,Looks M s.heap (typeOf v) T) (fun us r _ _ _=>by cases r;exact⟨[],.nil,rfl,fun _ _ h=>by cases h⟩) (fun h _ ih us r0 hd T hT=>by
  cases r0 with
  | cons r t=>
  obtain⟨x,rr,rfl,hx⟩:=hd _ Ye
  obtain⟨fs,f1,f2,f3⟩:=ih _ t (fun d m=>hd d (Yc _ m)) T fun x r m=>hT x r (Yc _ m)
  cases h with
  | tup h1 h2=>
   cases (show _=Value.ref _ from r)
   obtain⟨its,rv,⟨o,ho,hc,n,hdt⟩,_⟩:=I.tuple (SqT.of h1)
   cases h2 with
   | cons g1 g2=>
    cases rv with
    | cons k1 k2=>
     refine⟨_::fs,KatTups.cons ho hc hdt (by simp;rfl) f1,by rw[Yu,Yu,f2],fun M v hv=>?_⟩
     rcases Ys.mp hv with rfl | hv
     ·rw[← hT x rr Ye]
      exact g1.ty I hx k1 M
     ·exact f3 M v hv) h us
theorem hV {d:D}(h:sk d=true)(ht:dE d=false):fk d=true:=by cases d <;> first | rfl | cases h | cases ht
theorem oJ (I:Inv X pz σ H s){vs:List V}{ds:List D}{us:List Value}(r:Reps X.K H vs ds)(rv:Vals vs us)(ok:ck ds=true)(h2:2≤us.length){A:Around}{M:Model}{Q:SortKind→Shared→Prop}{E:Kv}(hQ:Q (gJ ds) s) :
  wpAny M A (keyKind' us.toArray) Q E s:=by
 obtain⟨hl,hc,hs,hf⟩:=c8 ok
 have l1:=r.length
 have l2:=rv.length
 cases ds with
 | nil=>rw[YL] at l1;omega
 | cons d dr=>
  have md:d∈d::dr:=Ye
  cases ht:dE d with
  | true=>
   cases d with
   | tup xs=>
    cases xs with
    | nil=>have:=hs _ md;cases this
    | cons x rr=>
     have hx:fk x=true:=hf _ md
     have all:∀ d'∈(D.tup (x::rr)::dr),∃ y r',d'=.tup (y::r')∧fk y=true∧tyD y=tyD x:=fun d' m=>by
      have hcm:=hc.2 _ md _ m
      rcases au hcm with⟨i,j,e,_⟩ | ⟨i,j,e,_⟩ | ⟨i,j,e,_⟩ | ⟨i,j,e,e2,hcs⟩
      ·cases e
      ·cases e
      ·cases e
      ·cases e
       subst e2
       cases j with
       | nil=>have:=hs _ m;cases this
       | cons y r'=>
        rw[az,Yr] at hcs
        exact⟨y,r',rfl,hf _ m,(jY hcs.1 hx).symm⟩
     obtain⟨fs,f1,f2,f3⟩:=jD I r rv (fun d' m=>by obtain⟨y,r',e,h,_⟩:=all d' m;exact⟨y,r',e,h⟩) (tyD x) fun y r' m=>by
      obtain⟨y',r'',e,_,h⟩:=all _ m
      cases e
      exact h
     exact kat_kind f1 (by omega) (f3 M) (by cases x <;> rfl) hQ
   | _=>cases ht
  | false=>
   have hd:fk d=true:=hV (hs d md) ht
   have e:gJ (d::dr)=oneType':=by cases d <;> first | rfl | cases ht
   rw[e] at hQ
   have hT:∀ u∈us,Looks M s.heap (typeOf u) (tyD d):=fun u hu=>by
    obtain⟨i,hi,eu⟩:=List.getElem_of_mem hu
    have hiv:i<vs.length:=by omega
    obtain⟨u',e1,e2⟩:=rv.get (Yw hiv)
    rw[Yw hi,eu] at e1
    cases e1
    obtain⟨d',e3,e4⟩:=r.getV (Yw hiv)
    have m:=Zl e3
    have hcm:=hc.2 _ md _ m
    rw[jY hcm hd]
    refine e4.ty I ?_ e2 M
    refine hV (hs d' m) ?_
    rcases au hcm with⟨i,j,rfl,rfl⟩ | ⟨i,j,rfl,rfl⟩ | ⟨i,j,rfl,rfl⟩ | ⟨i,j,rfl,rfl,_⟩
    ·rfl
    ·rfl
    ·rfl
    ·cases ht
   refine kas_kind h2 hT ?_ ?_ hQ
   ·cases d <;> first | rfl | (simp[fk] at hd;done) | (simp[dE] at ht;done)
   ·cases d <;> rfl
theorem oZ {A:Around}{prog:Program}{w:World}{b:Bool}{Q:Kb}{n1 n2:Nat}:∀ {us ws:List Value} {ds es:List D} (i:Nat),LexOk A s us ws ds es→(b=true→i=0→∀ u w' d e ur wr dr er,us=u::ur→ws=w'::wr→ds=d::dr→es=e::er→∀ (Q:Kb) (E:Kv),Q (ltD d e) s→wpAny (model prog w) A (oneLt' true u w') Q E s)→
  us.length+n2=ws.length+n1→Q (aH ds es) s→KatLex prog w A b (decide (n1<n2)) Q (us.zip ws) i s:=by
 intro us ws ds es i h
 induction h generalizing i with
 | @nl ws es hl=>
  intro _ hn hQ
  rw[List.zip_nil_left]
  refine kat_nil ?_
  rw[YL] at hn
  cases es with
  | nil=>
   rw[YL] at hl
   rw[show aH [] []=false by simp[aH]] at hQ
   rw[YA (by omega)];exact hQ
  | cons c r=>
   rw[Yu] at hl
   rw[show aH [] (c::r)=true by simp[aH]] at hQ
   rw[YN (by omega)];exact hQ
 | @nr vs ds hl=>
  intro _ hn hQ
  rw[List.zip_nil_right]
  refine kat_nil ?_
  rw[YL] at hn
  cases ds with
  | nil=>
   rw[YL] at hl
   rw[show aH [] []=false by simp[aH]] at hQ
   rw[YA (by omega)];exact hQ
  | cons c r=>
   rw[Yu] at hl
   rw[show aH (c::r) []=false by simp[aH]] at hQ
   rw[YA (by omega)];exact hQ
 | @cons v w' d e _ _ _ _ he hlt hx ih=>
  intro h1 hn hQ
  rw[Xf]
  rw[Yu,Yu] at hn
  refine kat_cons (he prog w _ _ ?_)
  cases q:eqd d e with
  | true=>
   rw[aH,Yi q] at hQ
   exact kat_yes (ih (i+1) (fun _ z=>by omega) (by omega) hQ)
  | false=>
   rw[aH,Yl (by rw[q];exact Yj)] at hQ
   refine kat_no ?_
   cases hb:(b&&i == 0) with
   | true=>
    rw[Yr] at hb
    exact h1 hb.1 (by simpa using hb.2) _ _ _ _ _ _ _ _ rfl rfl rfl rfl _ _ hQ
   | false=>exact kat_one _ _ (hlt q prog w _ _ hQ)
theorem nY {A:Around}{prog:Program}{w:World}{x y:V}{d e:D}{u v:Value}(h1:Rep X.K H x d)(h2:Rep X.K H y e)(c:ad d e=true)(hd:fk d=true)(ht:dE d=false)(r1:RelV x u)(r2:RelV y v){Q:Kb}{E:Kv}(hQ:Q (ltD d e) s) :
  wpAny (model prog w) A (oneLt' true u v) Q E s:=by
 rcases au c with⟨i,j,rfl,rfl⟩ | ⟨i,j,rfl,rfl⟩ | ⟨i,j,rfl,rfl⟩ | ⟨i,j,rfl,rfl,_⟩
 ·cases h1;cases h2
  obtain⟨t,rfl⟩:=(show ∃ t,u=Value.int _ t from r1)
  obtain⟨t',rfl⟩:=(show ∃ t,v=Value.int _ t from r2)
  exact oneLt_int (by rw[ltD] at hQ;exact hQ)
 ·cases hd
 ·cases h1;cases h2
  obtain⟨t,rfl⟩:=(show ∃ t,u=Value.str _ t from r1)
  obtain⟨t',rfl⟩:=(show ∃ t,v=Value.str _ t from r2)
  exact oneLt_str (by rw[ltD] at hQ;exact hQ)
 ·cases ht
theorem rq (I:Inv X pz σ H s){vs:List V}{ds:List D}{us:List Value}(r:Reps X.K H vs ds)(rv:Vals vs us)(ok:ck ds=true){A:Around}(hu:A.units+60<cLine){prog:Program}{w:World}{i j:Nat}{C:Kb}(hi:i<us.length)(hj:j<us.length)(hQ:C (ltD (dAt ds i) (dAt ds j)) s) :
  kas_ask prog w A (gJ ds) us i j C s:=by
 obtain⟨hl,hc,hs,hf⟩:=c8 ok
 have l1:=r.length
 have l2:=rv.length
 obtain⟨v,e1,r1⟩:=r.get (ik (show i<ds.length by omega))
 obtain⟨v',e2,r2⟩:=r.get (ik (show j<ds.length by omega))
 obtain⟨u,e3,k1⟩:=rv.get e1
 obtain⟨u',e4,k2⟩:=rv.get e2
 have hn:ds≠[]:=fun z=>by rw[z,YL] at l1;omega
 have mi:=h_ hn i
 have mj:=h_ hn j
 have hcm:=hc.2 _ mi _ mj
 unfold kas_ask
 have g1:us.getD i Value.none=u:=by rw[YQ,e3];rfl
 have g2:us.getD j Value.none=u':=by rw[YQ,e4];rfl
 rw[g1,g2]
 generalize hx:dAt ds i=x at *
 generalize hy:dAt ds j=y at *
 cases ht:dE x with
 | false=>
  have e:gJ ds=oneType':=by
   cases ds with
   | nil=>exact absurd rfl hn
   | cons d dr=>
    have:=hc.2 _ mi d Ye
    rcases au this with⟨i,j,rfl,rfl⟩ | ⟨i,j,rfl,rfl⟩ | ⟨i,j,rfl,rfl⟩ | ⟨i,j,rfl,rfl,_⟩
    ·rfl
    ·rfl
    ·rfl
    ·cases ht
  rw[e,keyLt'_oneType]
  exact nY r1 r2 hcm (hV (hs _ mi) ht) ht k1 k2 hQ
 | true=>
  cases x with
  | tup xs=>
   cases xs with
   | nil=>have:=hs _ mi;cases this
   | cons x0 xr=>
    rcases au hcm with⟨_,_,e,_⟩ | ⟨_,_,e,_⟩ | ⟨_,_,e,_⟩ | ⟨xs',ys,e,rfl,hcs⟩
    ·cases e
    ·cases e
    ·cases e
    ·cases e
     have ek:gJ ds=tuples' (tyD x0 != .type "tuple"):=by
      cases ds with
      | nil=>exact absurd rfl hn
      | cons d dr=>
       have:=hc.2 _ mi d Ye
       rcases au this with⟨_,_,e,_⟩ | ⟨_,_,e,_⟩ | ⟨_,_,e,_⟩ | ⟨_,zs,e,rfl,hz⟩
       ·cases e
       ·cases e
       ·cases e
       ·cases e
        cases zs with
        | nil=>have:=hs (.tup []) Ye;cases this
        | cons z0 zr=>
         rw[az,Yr] at hz
         show tuples' (tyD z0 != _)=_
         rw[jY hz.1 (hf _ mi)]
     rw[ek]
     cases r1 with
     | tup a1 a2=>
      cases r2 with
      | tup b1 b2=>
       cases (show u=Value.ref _ from k1)
       cases (show u'=Value.ref _ from k2)
       obtain⟨its1,rv1,⟨o1,ho1,hc1,n1,hd1⟩,_⟩:=I.tuple (SqT.of a1)
       obtain⟨its2,rv2,⟨o2,ho2,hc2,n2,hd2⟩,_⟩:=I.tuple (SqT.of b1)
       have oi:okN 28 (.tup (x0::xr))=true:=hc.1 _ mi
       have oj:okN 28 (.tup ys)=true:=hc.1 _ mj
       have hlex:=Reps.lex I 27 A (by omega) (Rep.lt I 27 A (by omega)) a2 b2 (aY oi) (aY oj) hcs rv1 rv2
       refine kat_lt ho1 hd1 ho2 hd2 ?_
       simp only[Yn]
       refine oZ 0 hlex (fun hb _ u0 w0 d0 e0 ur wr dr er q1 q2 q3 q4 Q E hq=>?_) (by omega) (by rw[ltD] at hQ;exact hQ)
       subst q1 q2 q4
       cases q3
       cases a2 with
       | cons a3 a4=>
        cases b2 with
        | cons b3 b4=>
         cases rv1 with
         | cons c1 c2=>
          cases rv2 with
          | cons c3 c4=>
           rw[az,Yr] at hcs
           refine nY a3 b3 hcs.1 (hf _ mi) ?_ c1 c3 hq
           cases x0 <;> first | rfl | (simp[tyD] at hb)
  | _=>cases ht
theorem mk (I:Inv X pz σ H s){vs:List V}{ds:List D}{us:List Value}(r:Reps X.K H vs ds)(rv:Vals vs us)(ok:ck ds=true)(hu:X.A.units+64<cLine){Q:Kv}
  (hQ:∀ (a:Addr) (p:List Nat) (s':Shared),H a=none→(∀ i∈p,i<ds.length)→p.length=ds.length→p.map (dAt ds)=bK ds→Inv X pz σ (upd H a (.lst (p.map fun i=>vs.getD i .non))) s'→Q (.ref a) s'):gY X.prog X.w X.A Q us s:=by
 obtain⟨hl,hc,_,_⟩:=c8 ok
 have l1:=r.length
 have l2:=rv.length
 refine⟨by omega,gJ ds,_,sm hc,fun h2 h' k Q E q=>oJ (I.kept (t':=s.toks) k) r rv ok h2 q,fun h' k i j C hi hj hq=>?_,fun p hp hr a h' e k hsz hget=>?_⟩
 ·have hu':X.A.in1.in1.units+60<cLine:=by show X.A.units+1+1+60<cLine;omega
  exact rq (I.kept (t':=s.toks) k) r rv ok hu' hi hj hq
 ·have hp':PermN ds.length p:=by rw[← l1,l2];exact hp
  have hr':Ris (fun i j=>ltD (dAt ds i) (dAt ds j)) p ds.length:=by rw[← l1,l2];exact hr
  have eo:=j3 hc hp' hr'
  have bd:∀ i∈p.toList,i<ds.length:=fun i hi=>ZU.mp (hp'.perm.mem_iff.mp hi)
  have hna:H a=none:=I.hok.fresh hsz
  have lenp:p.toList.length=ds.length:=by rw[ZE];exact hp'.size
  refine hQ a p.toList _ hna bd lenp eo (I.laid (t':=s.toks) k hsz ⟨?_,p.toList.map fun i=>us.getD i Value.none,e,Vals.perm rv p.toList fun i hi=>by rw[l1];exact bd i hi,?_⟩)
  ·rw[Yf,lenp,YM];omega
  ·exact hget
end
section
variable {X:Cx} {e:Expr} {p pos:Pos} {fa:Dd}
theorem i_ (hu:X.A.units+64<cLine):CallR X (.builtin "sorted") (fun xs H Q=>∃ a vs ds,xs=[.ref a]∧(SqL X.K H a vs∨SqT X.K H a vs)∧Reps X.K H vs ds∧ck ds=true∧∀ l (p:List Nat),H l=none→(∀ i∈p,i<ds.length)→p.length=ds.length→p.map (dAt ds)=bK ds→Q (.ref l) (upd H l (.lst (p.map fun i=>vs.getD i .non)))):=by
 intro pz s σ H xs us Q I r h
 obtain⟨a,vs,ds,rfl,hq,hr,ok,q⟩:=h
 obtain⟨u,rfl,ru⟩:=d8 r
 cases ru
 refine iD ?_
 have fin:∀ its:List Value,Vals vs its→gY X.prog X.w X.A (EP X pz σ Q) its { s with heap:=(s.heap.push (seqObj "list" #[] 0)).update s.heap.objs.size (Obj.mapSeq (·++its.toArray)) }:=fun its rv=>
  mk (I.kept (t':=s.toks) fun b u e=>fC e) hr rv ok hu fun l p s' hl b1 b2 b3 I'=>⟨.ref l,_,I',rfl,q l p hl b1 b2 b3⟩
 rcases hq with hq | hq
 ·obtain⟨its,rv,pl,hz⟩:=I.list hq
  exact collect_list pl.isList (fin its rv) (by rw[← rv.length];exact hz)
 ·obtain⟨its,rv,pl,hz⟩:=I.tuple hq
  exact fX pl (fin its rv) (by rw[← rv.length];exact hz)
end
end L2
namespace L2
open PySem PySem.Spec PyProof.Rows
def jf {α:Type}(xs:List α)(lo hi:Option Int):List α:=(xs.drop (HT.sIx xs.length 0 lo)).take (HT.sIx xs.length xs.length hi-HT.sIx xs.length 0 lo)
theorem Reps.cut {K:Kq}{F:Hp}{vs:List V}{ds:List D}(r:Reps K F vs ds)(lo hi:Option Int):Reps K F (kM vs lo hi) (jf ds lo hi):=by
 unfold kM jf
 rw[r.length]
 exact (r.drop _).take _
def tOI (K:Kq)(f:DF→Option (Option Int)):TO:=fun σ H Q=>∃ P F ρ b,f ρ=some b∧DInv K P F H ρ σ∧∀ F' H',Evo P F H F' H'→Q b H'
def PDB (X:Cx)(e:Option Expr)(f:DF→Option (Option Int)):Prop:=PO X e (tOI X.K f)
def bNo:DF→Option (Option Int):=fun _=>some none
def bI (f:Dd):DF→Option (Option Int):=fun ρ=>match f ρ with
 | some (.int i)=>some (some i)
 | _=>none
section
variable {X:Cx} {e a b c o:Expr} {es:List Expr} {pos p p2:Pos} {lo hi:Option Expr} {fe fa fb:Dd} {fl fh:DF→Option (Option Int)}
theorem PO.imp {t t':TO}{e:Option Expr}(h:PO X e t)(i:∀ σ H Q,t' σ H Q→t σ H Q):PO X e t':=fun pz s σ H Q I q=>h pz s σ H Q I (i σ H Q q)
theorem nF:PDB X none bNo:=PO.imp o6 fun σ H Q=>un7 fun P F ρ b hf I k=>by
 cases hf
 exact k F H (Evo.refl I.toDHp)
theorem qe {f:Dd}(h:PDE X e f):PDB X (some e) (bI f):=PO.imp (pJ h) fun σ H Q=>un7 fun P F ρ b hf I k=>by
 unfold bI at hf
 split at hf
 ·rename_i i q
  cases hf
  refine⟨P,F,ρ,_,q,I,fun v F' H' ev r=>?_⟩
  cases r
  exact⟨i,rfl,k F' H' ev⟩
 ·cases hf
def slL (fe:Dd)(fl fh:DF→Option (Option Int)):DF→Option (List D):=fun ρ=>match fe ρ with
 | some (.lst xs)=>(fl ρ).bind fun l=>(fh ρ).map fun h=>jf xs l h
 | _=>none
theorem gf (he:PDR X e fe)(hl:PDB X lo fl)(hh:PDB X hi fh):PDO X (.Subscript e (.Slice lo hi none p2) pos) (asL (slL fe fl fh)):=(nW oR he hl hh).imp fun σ H Q=>un7 fun P F ρ ob hf I k=>by
 unfold asL at hf
 cases q:slL fe fl fh ρ with
 | none=>rw[q] at hf;cases hf
 | some out=>
 rw[q] at hf
 cases hf
 unfold slL at q
 split at q
 ·rename_i xs q1
  cases q2:fl ρ with
  | none=>rw[q2] at q;cases q
  | some l=>
  rw[q2,Ya] at q
  cases q3:fh ρ with
  | none=>rw[q3] at q;cases q
  | some h=>
  rw[q3] at q
  cases q
  refine⟨P,F,ρ,_,q1,I,fun x F1 H1 e1 rx=>⟨P,F1,ρ,l,q2,I.evo e1,fun F2 H2 e2=>⟨P,F2,ρ,h,q3,(I.evo e1).evo e2,fun F3 H3 e3=>?_⟩⟩⟩
  have e123:=(e1.trans e2).trans e3
  obtain⟨l',vs,rfl,h1,h2⟩:=bW (I.evo e123) ((rx.evo e2).evo e3)
  exact⟨l',vs,rfl,h1,fun p hp=>k p F3 _ (e123.trans (Evo.side e123.hp hp)) ⟨⟨e123.back I.toDHp hp,(e123.hp.free hp).1⟩,_,ak,h2.cut l h⟩⟩
 ·cases q
def slS (fe:Dd)(fl fh:DF→Option (Option Int)):DF→Option D:=fun ρ=>match fe ρ with
 | some (.str x)=>if x.length≤16777216 then (fl ρ).bind fun l=>(fh ρ).map fun h=>.str (Txt.slice x l h) else none
 | _=>none
def mU (K:Kq):R2:=fun x y H Q=>∃ a b xs ys,x=.ref a∧y=.ref b∧SqT K H a xs∧SqT K H b ys∧xs.length+ys.length≤sizeLine ∧
 (xs=[]→Q (.ref b) H)∧(xs≠[]→ys=[]→Q (.ref a) H)∧(xs≠[]→ys≠[]→∀ p,H p=none→Q (.ref p) (upd H p (.tup (xs++ys))))
theorem m8:OpR X (binaryOp .Add) (mU X.K):=by
 intro pz s σ H x y v u Q I rx ry h
 obtain⟨a,b,xs,ys,rfl,rfl,ha,hb,hz,q0,q1,q2⟩:=h
 by_cases hx:xs=[]
 ·cases rx
  cases ry
  obtain⟨its,r1,p1,_⟩:=I.tuple ha
  obtain⟨its2,r2,p2,_⟩:=I.tuple hb
  have hi:its=[]:=r1.nil_iff.mpr hx
  obtain⟨⟨cls,dd,data,sl⟩,ho,hc,n,hd⟩:=id p1
  obtain⟨⟨cls2,dd2,data2,sl2⟩,ho2,hc2,n2,hd2⟩:=id p2
  simp only at hc hd hc2 hd2
  subst hc hd hc2 hd2
  exact concat_meets ⟨_,ho,rfl⟩ ⟨_,ho2,rfl⟩ noFill_tuple_add seq_tuple_add PySem.F.slot_tuple_add PySem.F.entry_tuple_add (PySem.F.args_tuple_add_2 _ _)
   (tuple_addW0 a b its.toArray its2.toArray n n2 dd dd2 sl sl2 (by simp[hi])) ⟨ho,ho2,⟨.ref b,H,I,rfl,q0 hx⟩⟩
 ·exact pf pz s σ H _ _ v u Q I rx ry ⟨a,b,xs,ys,rfl,rfl,ha,hb,hx,hz,q1 hx,q2 hx⟩
def cC:D→D→Option D
 | .int i,.int j=>some (.int (i+j))
 | .str x,.str y=>if x.length+y.length≤16777216 then some (.str (x++y)) else none
 | .lst xs,.lst ys=>if xs.length+ys.length≤16777216 then some (.lst (xs++ys)) else none
 | .tup xs,.tup ys=>if xs.length+ys.length≤16777216 then some (.tup (xs++ys)) else none
 | _,_=>none
theorem Reps.nil_iff {K:Kq}{H:Hp}{vs:List V}{ds:List D}(r:Reps K H vs ds):vs=[]↔ds=[]:=by
 cases r with
 | nil=>simp
 | cons _ _=>simp
theorem pj {K:Kq}:jQ K (fun x y H Q=>tq x y H Q∨(qo K x y H Q∨mU K x y H Q)) cC:=by
 intro P F H ρ σ x y dx dy d Q hf I rx ry k
 unfold cC at hf
 split at hf
 ·cases hf
  exact .inl (.inl ⟨_,_,bi rx,bi ry,k _ F H (Evo.refl I.toDHp) .int⟩)
 ·split at hf
  ·rename_i h
   cases hf
   exact .inl (.inr ⟨_,_,g6 rx,g6 ry,by rw[YM];exact h,k _ F H (Evo.refl I.toDHp) .str⟩)
  ·cases hf
 ·split at hf
  ·rename_i hz
   cases hf
   obtain⟨l,vs,rfl,h1,h2⟩:=bW I rx
   obtain⟨l2,vs2,rfl,h3,h4⟩:=bW I ry
   exact .inr (.inl ⟨l,l2,vs,vs2,rfl,rfl,h1,h3,by rw[h2.length,h4.length,YM];exact hz,fun p hp=>k _ _ _ (Evo.laid I.toDHp hp) (.lst (SqL.of ak) ((h2.append h4).same (e8 (I.toDHp.free hp).1)))⟩)
  ·cases hf
 ·split at hf
  ·rename_i xs ys hz
   cases hf
   obtain⟨l,vs,rfl,h1,h2⟩:=eQ I rx
   obtain⟨l2,vs2,rfl,h3,h4⟩:=eQ I ry
   have tr:∀ {y:V} {ds:List D},RepS K H F y (.tup ds)→Rep K F y (.tup ds):=fun h=>by
    rcases h with h | ⟨_,ob,_,_,_,_,_,hfl,z⟩
    ·exact h
    ·cases ob <;> first | (cases z;done) | cases hfl
   refine .inr (.inr ⟨l,l2,vs,vs2,rfl,rfl,h1,h3,by rw[h2.length,h4.length,YM];exact hz,fun z=>?_,fun _ z=>?_,fun _ _ p hp=>?_⟩)
   ·have:xs=[]:=h2.nil_iff.mp z
    subst this
    exact k _ F H (Evo.refl I.toDHp) (tr ry)
   ·have:ys=[]:=h4.nil_iff.mp z
    subst this
    rw[YX] at k
    exact k _ F H (Evo.refl I.toDHp) (tr rx)
   ·exact k _ _ _ (Evo.laid I.toDHp hp) (.tup ak ((h2.append h4).same (e8 (I.toDHp.free hp).1)))
  ·cases hf
 ·cases hf
theorem bS (ha:PDR X a fa)(hb:PDR X b fb):PDE X (.BinOp a .Add b pos) (d2 cC fa fb):=e5 ((rH.or jW).or (j5.or m8)) pj ha hb
def isT:String→D→Option Bool
 | "int",.int _=>some true
 | "bool",.int _=>some false
 | "bool",.bl _=>some true
 | "list",.lst _=>some true
 | _,_=>none
def uM (K:Kq):List V→Hp→VK→Prop:=fun xs H Q=>∃ x T d b,xs=[x,.ty T]∧Rep K H x d∧isT T d=some b∧Q (.bl b) H
theorem m_:CallR X (.builtin "isinstance") (uM X.K):=by
 intro pz s σ H xs us Q I r h
 obtain⟨x,T,d,b,rfl,hr,ht,q⟩:=h
 obtain⟨u,w',rfl,r1,r2⟩:=j9 r
 cases (show w'=Value.type T from r2)
 have f1:EP X pz σ Q (.bool b) s:=⟨.bl b,H,I,rfl,q⟩
 have f2:EP X pz σ Q (.bool b) { s with toks:=s.toks+1 }:=⟨.bl b,H,I.tok _,rfl,q⟩
 unfold isT at ht
 split at ht <;> cases ht <;> cases hr
 ·obtain⟨t,rfl⟩:=(show ∃ t,u=Value.int _ t from r1);exact PySem.IsiPair.int_int f1
 ·obtain⟨t,rfl⟩:=(show ∃ t,u=Value.int _ t from r1);exact PySem.IsiPair.int_bool f2
 ·cases (show u=Value.bool _ from r1);exact PySem.IsiPair.bool_bool f1
 ·cases (show u=Value.ref _ from r1);rename_i hs _;obtain⟨_,_,⟨o,n,e,c,_⟩,_⟩:=I.list hs;exact PySem.IsiPair.list_list e c f1
def dS (T:String)(d:D):Option D:=(isT T d).map .bl
theorem gX {x:Str}{T:String}{p1:Pos}(hg:Gl X "isinstance")(hm:X.mg "isinstance"=none)(hgt:Gl X x)(hmt:X.mg x=none)(hv:bootBuiltins x=some (.type T))(ha:PDN X a fa)(hn:x ≠ "__name__":=by decide)(hd:(x == ("__debug__":Str))=false:=by decide)
  (hs:starEach [a,.Name x p1] X.env=[(false,eval a X.env),(false,eval (.Name x p1) X.env)]:=by rfl) (hs2:starEach [.Name x p1] X.env=[(false,eval (.Name x p1) X.env)]:=by rfl) (hpl:(backTo pos (starEach [.Name x p1] X.env)).any (·.1)=false:=by rfl) :
  PDE X (.Call (.Name "isinstance" p) [a,.Name x p1] [] pos) (d1 (dS T) fa):=
 (cN m_ hg hm eG (ar ha (ar (o8 (v:=.ty T) hgt hmt hv rfl hn hd) aN hs2) (by rw[hs,hs2])) (by decide) (by decide) (by rw[hs,hs2]) hpl).imp fun σ H Q=>un7 fun P F ρ d hf I k=>by
  unfold d1 dS at hf
  cases q:fa ρ with
  | none=>rw[q] at hf;cases hf
  | some dx=>
   rw[q,Ya] at hf
   cases q2:isT T dx with
   | none=>rw[q2] at hf;cases hf
   | some b=>
    rw[q2] at hf
    cases hf
    exact⟨P,F,ρ,dx,q,I,fun y F1 H1 e1 r1=>⟨y,T,dx,b,rfl,r1,q2,k _ F1 H1 e1 .bl⟩⟩
end
section
variable {X:Cx} {pz:Kp} {σ:St} {H:Hp} {s:Shared}
open Classical in
open Classical in
end
section
variable {X:Cx} {e a b c o:Expr} {es:List Expr} {pos p apos cpos:Pos} {fe fa fb:Dd}
end
section
variable {X:Cx} {tg e a b c o l:Expr} {es:List Expr} {pos p apos cpos spos:Pos} {fe fa fb fc:Dd}
def gQ:D→D→Option D
 | .int i,.int j=>some (.int (if j > i then j else i))
 | _,_=>none
def hW:D→D→Option D
 | .int i,.int j=>some (.int (if j<i then j else i))
 | _,_=>none
theorem mo {K:Kq}{r:List V→Hp→VK→Prop}{f:Dy}(ho:f7 K (fun x y=>r [x,y]) f):∀ σ H Q,tD K (d2 f fa fb) σ H Q→tCB r (fq (tN K fa) (fq (tN K fb) kW)) σ H Q:=fun σ H Q h=>jF ho σ H Q h
theorem rK {K:Kq}:f7 K (fun x y H Q=>∃ i j,[x,y]=[V.int i,.int j]∧Q (.int (if j > i then j else i)) H) gQ:=by
 intro P F H x y dx dy d Q hf hp rx ry k
 unfold gQ at hf
 split at hf
 ·cases hf;cases rx;cases ry;exact⟨_,_,rfl,k _ F H (Evo.refl hp) .int⟩
 ·cases hf
theorem qH {K:Kq}:f7 K (fun x y H Q=>∃ i j,[x,y]=[V.int i,.int j]∧Q (.int (if j<i then j else i)) H) hW:=by
 intro P F H x y dx dy d Q hf hp rx ry k
 unfold hW at hf
 split at hf
 ·cases hf;cases rx;cases ry;exact⟨_,_,rfl,k _ F H (Evo.refl hp) .int⟩
 ·cases hf
theorem pA (hc:X.calm=true)(hg:Gl X "max")(hm:X.mg "max"=none)(ha:PDN X a fa)(hb:PDN X b fb)(hs:starEach [a,b] X.env=[(false,eval a X.env),(false,eval b X.env)]:=by rfl)(hs2:starEach [b] X.env=[(false,eval b X.env)]:=by rfl)(hpl:(backTo pos (starEach [b] X.env)).any (·.1)=false:=by rfl) :
  PDE X (.Call (.Name "max" p) [a,b] [] pos) (d2 gQ fa fb):=
 (cN (k5 hc) hg hm lQ (ar ha (ar hb aN hs2) (by rw[hs,hs2])) (by decide) (by decide) (by rw[hs,hs2]) hpl).imp (mo rK)
theorem pq (hc:X.calm=true)(hg:Gl X "min")(hm:X.mg "min"=none)(ha:PDN X a fa)(hb:PDN X b fb)(hs:starEach [a,b] X.env=[(false,eval a X.env),(false,eval b X.env)]:=by rfl)(hs2:starEach [b] X.env=[(false,eval b X.env)]:=by rfl)(hpl:(backTo pos (starEach [b] X.env)).any (·.1)=false:=by rfl) :
  PDE X (.Call (.Name "min" p) [a,b] [] pos) (d2 hW fa fb):=
 (cN (lE hc) hg hm mT (ar ha (ar hb aN hs2) (by rw[hs,hs2])) (by decide) (by decide) (by rw[hs,hs2]) hpl).imp (mo qH)
end
section
variable {X:Cx} {tg e a b c o l r:Expr} {es:List Expr} {pos p p' apos cpos spos apos' cpos':Pos} {f fe fa fb fc:Dd}
theorem k9:CallR X (.type "range") (fun xs H Q=>∃ j:Int,xs=[.int j]∧∀ q,H q=none→Q (.ref q) (upd H q (.rng 0 j))):=by
 intro pz s σ H xs us Q I r h
 obtain⟨j,rfl,q⟩:=h
 obtain⟨u,rfl,t,rfl⟩:=d8 r
 exact call_range_1 ⟨.ref s.heap.objs.size,_,I.laid (o:=.rng 0 j) (fun b ob z=>Yb _ z) (Yo _) ⟨_,_,_,Yk _ rfl⟩,rfl,q _ (I.hok.fresh (Yo _))⟩
def lR (lo:Int)(n:Nat):List V:=(List.range n).map fun i:Nat=>.int (lo+(i:Int))
theorem fY (hc:X.calm=true):CallR X (.type "list") (fun xs H Q=>∃ (q:Addr) (lo hi:Int),xs=[.ref q]∧H q=some (.rng lo hi)∧(-(2 ^ 62)≤lo∧lo<2 ^ 62∧-(2 ^ 62)≤hi∧hi<2 ^ 62)∧(hi-lo).toNat≤16777216∧∀ l,H l=none→Q (.ref l) (upd H l (.lst (lR lo (hi-lo).toNat)))):=by
 intro pz s σ H xs us Q I r h
 obtain⟨q,lo,hi,rfl,hq,⟨h1,h2,h3,h4⟩,hn,k⟩:=h
 obtain⟨u,rfl,ru⟩:=d8 r
 cases ru
 obtain⟨t,u,v,ho⟩:=I.hok q _ hq
 have hsz:Builtin.Range.rangeSize lo hi 1=((hi-lo).toNat:Int):=by rw[rangeSize_one];split <;> omega
 refine call_list_range (I.ok.hd hc) (n:=(hi-lo).toNat) ho (small_one h1 h2 h3 h4) hsz (by omega) fun h' tk acc' c' kp hget hit=>?_
 refine⟨.ref s.heap.objs.size,_,I.laid (t':=tk) (o:=.lst (lR lo (hi-lo).toNat)) kp (Yo _) ⟨?_,acc'.toList,c',?_,?_⟩,rfl,k _ (I.hok.fresh (Yo _))⟩
 ·unfold lR;rw[Yf,Xn,YM];exact hn
 ·obtain⟨hs,hv⟩:=hit
  have key:∀ (n:Nat) (lo:Int) (vs:List Value),vs.length=n→(∀ (j:Nat) v,vs[j]?=some v→∃ t,v=Value.int (lo+(j:Int)) t)→Vals ((List.range n).map fun i:Nat=>V.int (lo+(i:Int))) vs:=by
   intro n
   induction n with
   | zero=>intro lo vs hl _;rw[Xj.mp hl];exact .nil
   | succ n ih=>
    intro lo vs hl hv
    cases vs with
    | nil=>simp at hl
    | cons v vs=>
     rw[List.range_succ_eq_map,Yt,Zu]
     refine .cons ?_ ?_
     ·obtain⟨t,e⟩:=hv 0 v rfl
      exact⟨t,e⟩
     ·have:=ih (lo+1) vs (by simpa using hl) fun j w hw=>by
       obtain⟨t,e⟩:=hv (j+1) w (by simpa using hw)
       exact⟨t,by rw[e];congr 1;push_cast;omega⟩
      have ef:((fun i:Nat=>V.int (lo+(i:Int))) ∘ Nat.succ)=fun i:Nat=>V.int (lo+1+(i:Int)):=by
       funext i
       show V.int (lo+((i+1:Nat):Int))=_
       congr 1;push_cast;omega
      rw[ef]
      exact this
  refine key _ lo _ (by simpa using hs) fun j v hj=>?_
  obtain⟨t,e⟩:=hv j v (by rw[← Array.getElem?_toList];exact hj)
  exact⟨t,by rw[e];congr 1;omega⟩
 ·simpa using hget
theorem lD {K:Kq}{F:Hp}(lo:Int)(n:Nat):Reps K F (lR lo n) (bn lo n):=by
 unfold lR bn
 generalize List.range n=l
 induction l with
 | nil=>exact .nil
 | cons i l ih=>exact .cons .int ih
def e_ (f:Dd):DF→Option (List D):=fun ρ=>match f ρ with
 | some (.int j)=>if j<16777216∧-(2 ^ 62)≤j then some (bn 0 j.toNat) else none
 | _=>none
theorem bC (hc:X.calm=true)(hg:Gl X "list")(hm:X.mg "list"=none)(hg2:Gl X "range")(hm2:X.mg "range"=none)(ha:PDE X a fa)(hs0:starEach [a] X.env=[(false,eval a X.env)]:=by rfl)
  (hs:starEach [.Call (.Name "range" p') [a] [] cpos] X.env=[(false,eval (.Call (.Name "range" p') [a] [] cpos) X.env)]:=by rfl):PDO X (.Call (.Name "list" p) [.Call (.Name "range" p') [a] [] cpos] [] pos) (asL (e_ fa)):=
 (cQ (fY hc) hg hm boot_list (ar (cQ k9 hg2 hm2 boot_range (ar ha aN hs0) (he:=hs0)) aN hs) (he:=hs)).imp fun σ H Q=>un7 fun P F ρ ob hf I k=>by
  unfold asL e_ at hf
  cases q:fa ρ with
  | none=>rw[q] at hf;cases hf
  | some dx=>
   rw[q] at hf
   cases dx with
   | int j=>
    dsimp only at hf
    split at hf
    ·rename_i hj
     cases hf
     refine⟨P,F,ρ,_,q,I,fun v F1 H1 e1 r1=>?_⟩
     cases r1
     refine⟨j,rfl,fun q1 hq1=>⟨q1,0,j,rfl,ak,⟨by omega,by omega,hj.2,by omega⟩,by omega,fun l hl=>?_⟩⟩
     have e2:=e1.trans (Evo.side e1.hp (o:=.rng 0 j) hq1)
     have ej:(j-0).toNat=j.toNat:=by omega
     rw[ej]
     exact k l F1 _ (e2.trans (Evo.side e2.hp hl)) ⟨⟨e2.back I.toDHp hl,(e2.hp.free hl).1⟩,_,ak,lD 0 _⟩
    ·cases hf
   | _=>cases hf
def iB (n:Nat):D→Option Nat
 | .int k=>if -(2 ^ 63)≤k∧k<2 ^ 63 then seqIndex? k n else none
 | _=>none
def jR (j:Nat)(f:Dd):DF→Option (DF×D):=fun ρ=>match ρ[j]? with
 | some (some (.own (.lst ds) t))=>(f ρ).bind fun dk=>(iB ds.length dk).bind fun k=>(ds[k]?).map fun d=>(ρ.set j (some (.own (.lst (ds.eraseIdx k)) t)),d)
 | _=>none
theorem oP {K:Kq}{j:Nat}{f:Dd}{σ:St}{H:Hp}{Q:VK}{P F:Hp}{ρ ρ':DF}{d:D}(hp:jR j f ρ=some (ρ',d))(I:DInv K P F H ρ σ)(k:∀ v F' H',Same F F'→DInv K P F' H' ρ' σ→Rep K F' v d→Q v H') :
  tBM K "list" nI (bZ j) (fq (tD K f) kW) σ H Q:=by
 unfold jR at hp
 split at hp
 ·rename_i ds t q
  cases q2:f ρ with
  | none=>rw[q2] at hp;cases hp
  | some dk=>
   rw[q2,Ya] at hp
   cases q3:iB ds.length dk with
   | none=>rw[q3] at hp;cases hp
   | some kk=>
    rw[q3,Ya] at hp
    cases q4:ds[kk]? with
    | none=>rw[q4] at hp;cases hp
    | some d'=>
     rw[q4] at hp
     cases hp
     cases dk with
     | int i=>
      have q3':(if -(2 ^ 63)≤i∧i<2 ^ 63 then seqIndex? i ds.length else none)=some kk:=q3
      split at q3'
      ·rename_i hb
       obtain⟨a,vs,h1,h2,h3,h4,h5⟩:=eY I q
       refine⟨_,h1,.inl ⟨rfl,vs,SqL.of h4⟩,P,F,ρ,_,q2,I,fun v F1 H1 e1 r1=>?_⟩
       cases r1
       obtain⟨k1,k2⟩:=e1.keep a _ h4 h2
       have r5:=h5.same e1.ext
       obtain⟨y,y1,y2⟩:=r5.get q4
       refine⟨a,vs,i,kk,y,rfl,rfl,k1,hb.1,hb.2,by rw[h5.length];exact q3',y1,?_⟩
       exact k y F1 _ e1.ext ((I.evo e1).mut (o':=.lst _) (u:=.lst _) q rfl rfl h1 (r5.eraseIdx kk)) y2
      ·cases q3'
     | _=>cases q3
 ·cases hp
def cS (i j:Nat)(f:Dd):DF→Option RES:=fun ρ=>(jR j f ρ).bind fun r=>match r.1[i]? with
 | some (some (.own (.lst ds) t))=>if i≠j∧ds.length<16777216 then some (.nx (r.1.set i (some (.own (.lst (ds++[r.2])) t)))) else none
 | _=>none
theorem k0 (i j:Nat)(ho:PE X o (bZ i))(hr:PE X r (bZ j))(ha:PDE X e f)(hbase:attributeBase o "append" X.env (eval o X.env)=eval o X.env:=by rfl)(hbase':attributeBase r "pop" X.env (eval r X.env)=eval r X.env:=by rfl)
  (hfew':((backTo cpos' (starEach [e] X.env)).all (fun x=>!x.1)&&(backToKw cpos' (keywordEach [] X.env)).all (fun x=>x.1.isSome)
   && decide (([e]:List Expr).length+([]:List Keyword).length+(if ([]:List Keyword).isEmpty then 0 else 1)<30))=true:=by rfl)
  (hfew:((backTo cpos (starEach [.Call (.Attribute r "pop" apos') [e] [] cpos'] X.env)).all (fun x=>!x.1)&&(backToKw cpos (keywordEach [] X.env)).all (fun x=>x.1.isSome)
   && decide (([.Call (.Attribute r "pop" apos') [e] [] cpos']:List Expr).length+([]:List Keyword).length+(if ([]:List Keyword).isEmpty then 0 else 1)<30))=true:=by rfl)
  (hline:(apos.endLine == cpos.line)=true:=by rfl) (hline':(apos'.endLine == cpos'.line)=true:=by rfl) (hs':starEach [e] X.env=[(false,eval e X.env)]:=by rfl)
  (hs:starEach [.Call (.Attribute r "pop" apos') [e] [] cpos'] X.env=[(false,eval (.Call (.Attribute r "pop" apos') [e] [] cpos') X.env)]:=by rfl) (hsw:swapsWith (.Call (.Attribute o "append" apos) [.Call (.Attribute r "pop" apos') [e] [] cpos'] [] cpos) none pos.line X.env=pure false:=by rfl) :
  PD1 X (.Expr (.Call (.Attribute o "append" apos) [.Call (.Attribute r "pop" apos') [e] [] cpos'] [] cpos) pos) (cS i j f):=
 PS.imp (eS (i6 Zm ZA ZB bR ho (ar (i6 Zm PySem.F.slot_list_pop PySem.F.type_list_pop mt hr (ar ha aN hs') hbase' hfew' hline' hs' rfl) aN hs) hbase hfew hline hs rfl) hsw) fun E σ H=>un7 fun P F ρ res hres I k=>by
  unfold cS at hres
  cases q:jR j f ρ with
  | none=>rw[q] at hres;cases hres
  | some pr=>
   rw[q,Ya] at hres
   split at hres
   ·rename_i ds t qi
    split at hres
    ·rename_i hc
     cases hres
     -- the i-th slot is not touched by the pop
     have qi0:ρ[i]?=some (some (.own (.lst ds) t)):=by
      have q':=q
      unfold jR at q'
      split at q'
      ·rename_i ds' t' qj
       cases z1:f ρ with
       | none=>rw[z1] at q';cases q'
       | some dk=>
        rw[z1,Ya] at q'
        cases z2:iB ds'.length dk with
        | none=>rw[z2] at q';cases q'
        | some kk=>
         rw[z2,Ya] at q'
         cases z3:ds'[kk]? with
         | none=>rw[z3] at q';cases q'
         | some d'=>
          rw[z3] at q'
          cases q'
          rw[Yz (fun z=>hc.1 z.symm)] at qi
          exact qi
      ·cases q'
     obtain⟨a,vs,h1,h2,h3,h4,h5⟩:=eY I qi0
     refine⟨_,h1,.inl ⟨rfl,vs,SqL.of h4⟩,?_⟩
     refine oP q I fun v F' H' e I' rv=>?_
     obtain⟨a',vs',g1,g2,g3,g4,g5⟩:=eY I' qi
     rw[h1] at g1
     cases g1
     refine⟨a,vs',v,rfl,rfl,g4,by rw[YM,g5.length];exact hc.2,k σ F' _ e ?_⟩
     exact I'.mut (o':=.lst _) (u:=.lst _) qi rfl rfl h1 (g5.append (.one rv))
    ·cases hres
   ·cases hres
end
theorem lz {k k':Key}{v:V}{vs:List (Key×V)}:cm ((k',v)::vs) k=if k'=k then some v else cm vs k:=by
 unfold cm
 by_cases q:k'=k <;> simp[Zq,q]
theorem RepsK.val {K:Kq}{H:Hp}{k:Key}{vs:List (Key×V)}{ds:List (Key×D)}(h:RepsK K H vs ds):(cm vs k=none∧eK ds k=none)∨∃ v d,cm vs k=some v∧eK ds k=some d∧Rep K H v d:=
 RepsK.ind (M:=fun vs ds=>(cm vs k=none∧eK ds k=none)∨∃ v d,cm vs k=some v∧eK ds k=some d∧Rep K H v d) (.inl ⟨rfl,rfl⟩) (fun {k' v d vs ds} h _ ih=>by
  rw[lz,gI]
  by_cases q:k'=k
  ·rw[Yi q,Yi q]
   exact .inr ⟨v,d,rfl,rfl,h⟩
  ·rw[Yl q,Yl q]
   exact ih) h
theorem RepsK.any {K:Kq}{H:Hp}{k:Key}{vs:List (Key×V)}{ds:List (Key×D)}(h:RepsK K H vs ds):(vs.any fun kv=>decide (kv.1=k))=ds.any fun kv=>decide (kv.1=k):=
 RepsK.ind (M:=fun vs ds=>(vs.any fun kv=>decide (kv.1=k))=ds.any fun kv=>decide (kv.1=k)) rfl (fun _ _ ih=>by rw[Xu,Xu,ih]) h
theorem RepsK.map {K:Kq}{H:Hp}{k:Key}{v:V}{d:D}(rv:Rep K H v d){vs:List (Key×V)}{ds:List (Key×D)}(h:RepsK K H vs ds):RepsK K H (vs.map fun kv=>if kv.1=k then (kv.1,v) else kv) (ds.map fun kv=>if kv.1=k then (kv.1,d) else kv):=
 RepsK.ind (M:=fun vs ds=>RepsK K H (vs.map fun kv=>if kv.1=k then (kv.1,v) else kv) (ds.map fun kv=>if kv.1=k then (kv.1,d) else kv)) .nil (fun {k' v' d' vs ds} h _ ih=>by
  rw[Yt,Yt]
  by_cases q:k'=k
  ·rw[Yi (show (k',v').1=k from q),Yi (show (k',d').1=k from q)];exact .cons rv ih
  ·rw[Yl (show ¬ (k',v').1=k from q),Yl (show ¬ (k',d').1=k from q)];exact .cons h ih) h
theorem RepsK.snoc {K:Kq}{H:Hp}{k:Key}{v:V}{d:D}(rv:Rep K H v d){vs:List (Key×V)}{ds:List (Key×D)}(h:RepsK K H vs ds):RepsK K H (vs++[(k,v)]) (ds++[(k,d)]):=
 RepsK.ind (M:=fun vs ds=>RepsK K H (vs++[(k,v)]) (ds++[(k,d)])) (.cons rv .nil) (fun h _ ih=>.cons h ih) h
theorem RepsK.put {K:Kq}{H:Hp}{k:Key}{v:V}{d:D}{vs:List (Key×V)}{ds:List (Key×D)}(rv:Rep K H v d)(r:RepsK K H vs ds):RepsK K H (cY vs k v) (kR ds k d):=by
 unfold cY kR
 rw[r.any (k:=k)]
 split
 ·exact r.map rv
 ·exact r.snoc rv
theorem RepsK.length {K:Kq}{H:Hp}{vs:List (Key×V)}{ds:List (Key×D)}(h:RepsK K H vs ds):vs.length=ds.length:=RepsK.ind (M:=fun vs ds=>vs.length=ds.length) rfl (fun _ _ ih=>ZR Nat.succ ih) h
theorem pk {K:Kq}{F:Hp}{y:V}{dy:D}{k:Key}(r:Rep K F y dy)(h:e7 dy=some k):y=kV k:=by
 cases dy with
 | int i=>cases h;cases r;rfl
 | str i=>cases h;cases r;rfl
 | _=>cases h
theorem qT {K:Kq}{P F H:Hp}{ρ:DF}{σ:St}{x:V}{ds:List (Key×D)}(I:DInv K P F H ρ σ)(r:RepS K H F x (.dK ds)):∃ a vs,x=.ref a∧H a=some (.dK vs)∧RepsK K F vs ds:=by
 rcases r with r | ⟨a,o,u,rfl,_,h3,h4,hfl,z⟩
 ·cases r with | dK h q=>exact⟨_,_,rfl,I.sub _ _ h,q⟩
 ·cases o with
  | dK ds'=>
   cases z
   cases u with
   | dK vs=>exact⟨a,vs,rfl,h3,h4⟩
   | _=>exact h4.elim
  | lst2 _=>cases hfl
  | tup2 _=>cases hfl
  | _=>cases z
section
variable {X:Cx} {tg a b c o i e f:Expr} {pos pos' apos cpos p:Pos} {fd fk fx fv fa fb fc:Dd}
def dQ (j:Nat)(fk fv:Dd):DF→Option RES:=fun ρ=>match ρ[j]? with
 | some (some (.own (.dK kvs) t))=>(fv ρ).bind fun v=>(fk ρ).bind fun y=>(e7 y).bind fun k=>if kvs.length<16777216 then some (.nx (ρ.set j (some (.own (.dK (kR kvs k v)) t)))) else none
 | _=>none
theorem lO (j:Nat)(hu:X.A.units+64<cLine)(ho:PE X o (bZ j))(hi:PDE X i fk)(hv:PDE X e fv)(hs:swapsWith e (some (.Subscript o i pos')) pos.line X.env=pure false:=by rfl):PD1 X (.Assign [.Subscript o i pos'] e pos) (dQ j fk fv):=
 PS.imp (oT (by omega) ho hi hv hs) fun E σ H=>un7 fun P F ρ r hr I k=>by
  unfold dQ at hr
  split at hr
  ·rename_i kvs t q
   cases qv:fv ρ with
   | none=>rw[qv] at hr;cases hr
   | some dv=>
   rw[qv,Ya] at hr
   cases qb:fk ρ with
   | none=>rw[qb] at hr;cases hr
   | some dy=>
   rw[qb,Ya] at hr
   cases qk:e7 dy with
   | none=>rw[qk] at hr;cases hr
   | some ks=>
   rw[qk,Ya] at hr
   split at hr
   ·rename_i hl
    cases hr
    obtain⟨v,h1,p,rfl,⟨⟨a1,a2,_⟩,u,a3,a4⟩,_⟩:=I.at q
    cases u with
    | dK vs=>
     have a4:RepsK X.K F vs kvs:=a4
     refine⟨P,F,ρ,_,qv,I,fun v F1 H1 e1 rv=>⟨_,h1,P,F1,ρ,_,qb,I.evo e1,fun y F2 H2 e2 ry=>?_⟩⟩
     have e12:=e1.trans e2
     obtain⟨k1,k2⟩:=e12.keep p _ a3 a1
     have ey:=pk ry qk
     subst ey
     refine⟨p,_,rfl,DPut.k k1 (by rw[YM,a4.length];exact hl),k σ F2 _ e12.ext ?_⟩
     exact (I.evo e12).mut (o':=.dK _) (u:=.dK _) q rfl rfl h1 ((RepsK.same e12.ext a4).put (rv.same e2.ext))
    | _=>exact a4.elim
   ·cases hr
  ·cases hr
end
theorem Room.h64 {k:Nat}{A:Around}(r:Room k A):A.units+64<cLine:=by have:=r.un;omega
def tZ (sc0 scope:Scope):Bool:=scope.kind == .function&&(scope.names.map (·.1)).Nodup&&(scope.names.all fun x=>x.2 != .free||(sc0.names.lookup x.1 == some .cell||sc0.names.lookup x.1 == some .free))
theorem eB {X:Cx}{scope:Scope}(sc0:Scope)(e:X.env.scope=sc0)(h:tZ sc0 scope=true):BlkScope X scope:=by
 unfold tZ at h
 simp only[Yr,YH] at h
 obtain⟨⟨h1,h2⟩,h3⟩:=h
 refine⟨by simpa using h1,h2,fun x hx hk=>?_⟩
 have:=YF.mp h3 x hx
 rw[hk] at this
 have e2:X.env.kindOf x.1=sc0.names.lookup x.1:=by show X.env.scope.names.lookup x.1=_;rw[e]
 rw[e2]
 simpa using this
def sJ (N0:List Str)(scope:Scope)(N:List Str)(own:Nat)(ix:List Nat):Bool:=
 decide (N.length=own+ix.length)&&(List.range ix.length).all fun i=>match N[own+i]?,ix[i]? with
  | some x,some j=>N0[j]? == some x&&scope.names.lookup x == some .free
  | _,_=>true
theorem eC {X:Cx}{scope:Scope}{N:List Str}{own:Nat}{ix:List Nat}(N0:List Str)(e:X.N=N0)(h:sJ N0 scope N own ix=true):Caps X scope N own ix:=by
 unfold sJ at h
 rw[Yr,YH] at h
 refine⟨h.1,fun i j x h1 h2=>?_⟩
 have hi:i<ix.length:=(Ym.mp h2).1
 have:=YF.mp h.2 i (ZU.mpr hi)
 rw[h1,h2] at this
 simp only[Yr,beq_iff_eq] at this
 rw[e]
 exact this
section
variable {X:Cx}
theorem fN:h8 X [] (tB' X.K bN):=fun pz s σ H Q I hh_=>by
 obtain⟨P,F,ρ,b,hf,J,k⟩:=hh_
 cases hf
 exact mZ pz s σ H Q I (k F H (Evo.refl J.toDHp))
theorem uf {c:Expr}{f:Dk}(h:PDT X c f):h8 X [c] (tB' X.K f):=nS h
end
theorem cw {is:List Nat}{own:Nat}(h:(is.all fun j=>decide (j<own))=true):∀ j∈is,j<own:=fun j m=>YV (YF.mp h j m)
theorem oq {K:Kq}{f:Do}:∀ σ H Q,tD K (asO f) σ H Q→tO K f σ H Q:=fun σ H Q=>un7 fun P F ρ d hf I k=>by
 unfold asO at hf
 cases q:f ρ with
 | none=>rw[q] at hf;cases hf
 | some o=>
  rw[q] at hf
  cases hf
  refine⟨P,F,ρ,o,q,I,fun a F' H' ev ho=>?_⟩
  exact k (.ref a) _ H' (ev.freeze I.toDHp (fun b=>H b=none∧F' b=none) fun _ q=>q) (ho.rep (aE fun b q=>q.2) fun b u q hb=>by rw[bf q];exact hb)
section
variable {X:Cx} {tg iter elt:Expr} {ifs:List Expr} {scope:Scope} {pos:Pos} {N:List Str} {own:Nat} {ix is:List Nat} {f:Dl} {st:Dq} {c:Dk} {e:Dd}
theorem dg {i:Nat}{y:Str}{py spos:Pos}(hN:X.N.Nodup)(hiN:X.N[i]?=some y)(hx:Loc X.env.scope y)(hcalm:X.calm=true)(b:BlkScope X scope)(cp:Caps X scope N own ix)(his:∀ j∈is,j<own)(hi:PDI X tg iter f)
  (hg:∀ s H fp pz,PDG (blk X scope N s H fp pz) tg is st) (hc:∀ s H fp pz,h8 (blk X scope N s H fp pz) ifs (tB' X.K c)) (he:∀ s H fp pz,PDE (blk X scope N s H fp pz) elt e)
  (hnames:∀ y∈scope.names,y.2=.local→scope.names.lookup y.1=some .local)
  (hsw:swapsWith (.ListComp elt [⟨tg,iter,ifs,0⟩] scope pos) (some (.Name y py)) spos.line X.env=pure true:=by rfl)
  (hs:∀ x,foldedSetIterable iter X.env x=pure x:=by intro _;rfl)
  (hf:X.fn y=true∨X.env.scope.names.lookup y=some .local:=by first | exact .inl rfl | exact .inr rfl | assumption) :
  PD1 X (.Assign [.Name y py] (.ListComp elt [⟨tg,iter,ifs,0⟩] scope pos) spos) (aQ i (asO (asL (aK own ix f st c e)))):=
 PS.imp (jo (g:=tG X.K is st) (tc:=tB' X.K c) (te:=tD X.K e) hcalm hN hiN hx b cp hi hg hc he hsw hnames hs hf) fun E σ H q=>kq his σ H _ (oq σ H _ (nN E σ H q))
end
theorem All2.impM {α β:Type}{R S:α→β→Prop}{as:List α}{bs:List β}(h:All2 R as bs)(f:∀ a b,a∈as→R a b→S a b):All2 S as bs:=by
 induction h with
 | nil=>exact .nil
 | cons q _ ih=>exact .cons (f _ _ Ye q) (ih fun a b m=>f a b (Yc _ m))
section
variable {X:Cx} {e:Expr} {pos:Pos}
end
section
variable {X:Cx} {e:Expr} {pos pos2 p p2:Pos}
end
end L2
namespace L2
open PySem PySem.Spec PySem.Calls PySem.W PyProof.Rows Builtin Builtin.ObjectAttr Builtin.Getset_descriptor
section
variable {K:Kq} {e C:Addr} {prog:Program} {w:World} {A:Around} {E:Kv} {s:Shared}
end
end L2
namespace L2
open PySem PySem.Spec PySem.Calls PySem.W PyProof.Rows
section
variable {P:Program} {w:World} {K:Kq} {mg:Ks} {base:Heap} {N:List Str} {qual:Str} {scope:Scope} {f C:Addr} {cd:Value} {A:Around} {outer:List Env} {s:Shared} {H:Hp} {E:XK}
end
section
variable {X:Cx} {a C:Addr} {ob:Obj} {pz:Kp} {σ:St} {H:Hp} {s:Shared}
end
section
variable {X:Cx} {a C:Addr} {ob:Obj} {pos p p1 p2 p3 p4:Pos}
end
section
variable {P:Program} {w:World} {K:Kq} {mg:Ks} {base:Heap} {N:List Str} {qual:Str} {scope:Scope} {f:Addr} {cl:Nat→Addr} {cd:Value} {A:Around} {outer:List Env} {s:Shared} {H:Hp} {E:XK}
end
section
variable {X:Cx} {cl:Nat→Addr} {E:XK} {st:Stmt} {aJ sts:List Stmt} {pos:Pos}
end
end L2
namespace L2
open PySem PySem.Spec PyProof.Rows
section
variable {X:Cx} {e:Expr} {pos:Pos}
end
section
variable {X:Cx} {a b e:Expr} {pos:Pos}
theorem All2.app {α β:Type}{R:α→β→Prop}{as as':List α}{bs bs':List β}(h:All2 R as bs)(h':All2 R as' bs'):All2 R (as++as') (bs++bs'):=by
 induction h with
 | nil=>exact h'
 | cons q _ ih=>exact .cons q ih
end
section
variable {X:Cx} {pz:Kp} {σ:List (Option V)} {H:Hp} {s:Shared} {h':Heap}
theorem Inv.turnedL {t':Nat}{fp:List Addr}(I:Inv X pz σ H s)(k:∀ b o,b∉fp→s.heap.get? b=some o→h'.get? b=some o)(hf:∀ b∈fp,cX X pz H b):Inv X pz σ H { s with heap:=h',toks:=t' }:=by
 have nit:∀ b u,H b=some u→b∉fp:=fun b u e z=>by rw[(hf b z).1] at e;cases e
 refine I.step (g':=s.gens) (d':=s.drawn) (ch:=fp) (fun b hb=>?_) (fun b o _ _ hc e _=>k b o hc e) (fun b o _ _ hc e _=>⟨o.slots,k b o hc e⟩) (fun _ _ _ _ n=>n)
  (fun b o hc e=>⟨o,k b o hc e⟩) (fun _ _ e=>e) (fun _ _ _ e=>e) (fun b ps e=>⟨#[],by rw[e];simp⟩) (fun m hm=>?_) (fun b u e=>?_) I.bare
 ·obtain⟨_,hL,_,h1,h2,h3⟩:=hf b hb
  exact⟨h1,hL,h2,h3⟩
 ·obtain⟨o,es,ep,ho,r⟩:=hm
  exact⟨o,es,ep,k _ o (fun z=>(hf _ z).2.1 rfl) ho,r⟩
 ·refine (I.hok b u e).stay (fun c v hc q=>k c v ?_ q) (fun _ q=>q) fun _ _ q=>q
  rcases hc with z | z
  ·rw[z];exact nit b u e
  ·exact nit c _ z
theorem Inv.turnedLaid {t':Nat}{fp:List Addr}{a:Addr}{o:HO}(I:Inv X pz σ H s)(k:∀ b o,b∉fp→s.heap.get? b=some o→h'.get? b=some o)(hf:∀ b∈fp,cX X pz H b)(hp:s.heap.objs.size≤a)(new:ObjOk X.prog X.w (upd H a o) h' a o) :
  Inv X pz σ (upd H a o) { s with heap:=h',toks:=t' }:=by
 have hn:H a=none:=I.hok.fresh hp
 have nit:∀ b u,H b=some u→b∉fp:=fun b u e z=>by rw[(hf b z).1] at e;cases e
 have ne1:∀ b u,s.heap.get? b=some u→b≠a:=fun b u q=>Yq (Yh (Yg q) hp)
 refine I.step (g':=s.gens) (d':=s.drawn) (ch:=fp) (fun b hb=>?_) (fun b o _ _ hc e _=>k b o hc e) (fun b o _ _ hc e _=>⟨o.slots,k b o hc e⟩) (fun b u _ q n=>by rw[ae (ne1 b u q)];exact n)
  (fun b o hc e=>⟨o,k b o hc e⟩) (fun b xs e=>by rw[ae (am e hn)];exact e) (fun b _ _ e=>by rw[ae (am e hn)];exact e) (fun b ps e=>⟨#[],by rw[ae (am e hn),e];simp⟩) (fun m hm=>?_) (fun b u e=>?_) I.bare
 ·obtain⟨_,hL,_,h1,h2,h3⟩:=hf b hb
  exact⟨h1,hL,h2,h3⟩
 ·obtain⟨o,es,ep,ho,r⟩:=hm
  exact⟨o,es,ep,k _ o (fun z=>(hf _ z).2.1 rfl) ho,r⟩
 ·by_cases hb:b=a
  ·subst hb;rw[ak] at e;cases e;exact new
  ·rw[ae hb] at e
   refine (I.hok b u e).stay (fun c v hc q=>k c v ?_ q) (fun c q=>by rw[ae (am q hn)];exact q) fun c xs q=>by rw[ae (am q hn)];exact q
   rcases hc with z | z
   ·rw[z];exact nit b u e
   ·exact nit c _ z
end
section
variable {X:Cx} {l:Expr} {elts:List Expr} {kk:Nat} {tpos pos p:Pos}
end
section
variable {prog:Program} {w:World} {A:Around} {E:Kv} {s:Shared}
theorem tU {it t:Addr}{i:Nat}{ys:Array Value}{y:Value}{Q:Kv}(a:s.heap.IsTupleIter it t i)(b:s.heap.IsTuple t ys)(c:ys[i]?=some y)
  (q:∀ g,g.IsTupleIter it t (i+1)→Heap.SameBut it s.heap g→Q y { s with heap:=g }):wpAny (model prog w) A (Builtin.SmallTypes.nextOf (.ref it)) Q E s:=by
 have ty:=a.typeIs
 obtain⟨u,e1,e2,e3⟩:=a
 obtain⟨v,f1,f2,m,f3⟩:=b
 unfold Builtin.SmallTypes.nextOf
 refine Yd (ZG (name:=Str.ofString "__next__") ty Zs (ZX Zs ty F.entry_tuple_iterator_next ?_ (F.args_tuple_iterator_next_1 _)))
 refine Yd (m:=field (.ref it) 0) (Zr e1 e3 (x:=.ref t) rfl ?_)
 have nn:¬ ((Value.ref t == Value.none)=true):=Yj
 show wpAny _ _ (if (Value.ref t == Value.none)=true then _ else field (.ref it) 1>>=_) _ _ s
 rw[Yl nn]
 refine Yd (Zr e1 e3 (x:=.int i 0) rfl ?_)
 refine Yd (m:=seqItems? (.ref t)) (ZH f1 f3 ?_)
 simp only[Xp,c]
 refine Yd (wpAny_setField e1 e3 (by simp) (Yp ⟨y,rfl,Yp (q _ ⟨_,Heap.get?_update_self _ e1 (Obj.isFreed_of_fields (Obj.data_mapFields e3 _)),(Obj.cls_mapFields ..).trans e2,?_⟩ (Heap.SameBut.update ..))⟩))
 rw[Obj.data_mapFields e3]
 simp[rawInt]
theorem uN {it t:Addr}{i:Nat}{ys:Array Value}{Q:Kv}(hd:A.handled=none)(a:s.heap.IsTupleIter it t i)(b:s.heap.IsTuple t ys)(c:ys[i]?=none)
  (q:∀ g x,Heap.ExtBut it s.heap g→(∃ o,g.get? x=some o∧o.cls=.type "StopIteration")→E (.ref x) { s with heap:=g }):wpAny (model prog w) A (Builtin.SmallTypes.nextOf (.ref it)) Q E s:=by
 have ty:=a.typeIs
 obtain⟨u,e1,e2,e3⟩:=a
 obtain⟨v,f1,f2,m,f3⟩:=b
 unfold Builtin.SmallTypes.nextOf
 refine Yd (ZG (name:=Str.ofString "__next__") ty Zs (ZX Zs ty F.entry_tuple_iterator_next ?_ (F.args_tuple_iterator_next_1 _)))
 refine Yd (m:=field (.ref it) 0) (Zr e1 e3 (x:=.ref t) rfl ?_)
 have nn:¬ ((Value.ref t == Value.none)=true):=Yj
 show wpAny _ _ (if (Value.ref t == Value.none)=true then _ else field (.ref it) 1>>=_) _ _ s
 rw[Yl nn]
 refine Yd (Zr e1 e3 (x:=.int i 0) rfl ?_)
 refine Yd (m:=seqItems? (.ref t)) (ZH f1 f3 ?_)
 simp only[Xp,c]
 refine Yd (wpAny_rule (Yd (wpAny_setField e1 e3 (by simp) ?_)))
 refine Yd (m:=newExc (.type "StopIteration") []) ?_
 simp only[newExc,newTuple]
 refine Yd (wpAny_newObj_type ?_ (by size_fits))
 refine Yd (m:=firstArgMember _ _) (wpAny_of_eq (a:=Value.none) (by first | rfl | (simp only[firstArgMember];rfl)) (wpAny_newObj_type ?_ (by size_fits)))
 simp only[raiseNew]
 refine Yd (wpAny_handled ?_)
 rw[show A.in1.handled=none from hd]
 refine Yd (Yp (wpAny_throw ?_))
 exact q _ _ (((Heap.SameBut.update ..).extBut.push _).push _) ⟨_,Yk _ rfl,rfl⟩
end
def SIt (b:Bool)(h:Heap)(it l:Addr)(i:Nat):Prop:=if b=true then h.IsListIter it l i else h.IsTupleIter it l i
def SSq (b:Bool)(h:Heap)(l:Addr)(ys:Array Value):Prop:=if b=true then h.IsList l ys else h.IsTuple l ys
theorem SIt.at {b:Bool}{h h':Heap}{it l:Addr}{i:Nat}(x:SIt b h it l i)(e:∀ o,h.get? it=some o→h'.get? it=some o):SIt b h' it l i:=by
 cases b
 ·exact Heap.IsTupleIter.at x e
 ·exact Heap.IsListIter.at x e
theorem SSq.at {b:Bool}{h h':Heap}{l:Addr}{ys:Array Value}(x:SSq b h l ys)(e:∀ o,h.get? l=some o→h'.get? l=some o):SSq b h' l ys:=by
 cases b
 ·exact Heap.IsTuple.at x e
 ·exact Heap.IsList.at x e
theorem SIt.obj {b:Bool}{h:Heap}{it l:Addr}{i:Nat}(x:SIt b h it l i):∃ o,h.get? it=some o∧∀ v,o.data≠.cell v:=by
 cases b
 ·obtain⟨o,e,_,d⟩:=(show h.IsTupleIter it l i from x);exact⟨o,e,fun v z=>by rw[d] at z;cases z⟩
 ·obtain⟨o,e,_,d⟩:=(show h.IsListIter it l i from x);exact⟨o,e,fun v z=>by rw[d] at z;cases z⟩
section
variable {prog:Program} {w:World} {A:Around} {E:Kv} {s:Shared}
theorem qm {b:Bool}{it l:Addr}{i:Nat}{ys:Array Value}{y:Value}{Q:Kv}(a:SIt b s.heap it l i)(c:SSq b s.heap l ys)(d:ys[i]?=some y)
  (q:∀ g,SIt b g it l (i+1)→Heap.SameBut it s.heap g→Q y { s with heap:=g }):wpAny (model prog w) A (Builtin.SmallTypes.nextOf (.ref it)) Q E s:=by
 cases b
 ·exact tU a c d q
 ·exact wpAny_nextOf_list_item a c d q
theorem uL {b:Bool}{it l:Addr}{i:Nat}{ys:Array Value}{Q:Kv}(hd:A.handled=none)(a:SIt b s.heap it l i)(c:SSq b s.heap l ys)(d:ys[i]?=none)
  (q:∀ g x,Heap.ExtBut it s.heap g→(∃ o,g.get? x=some o∧o.cls=.type "StopIteration")→E (.ref x) { s with heap:=g }):wpAny (model prog w) A (Builtin.SmallTypes.nextOf (.ref it)) Q E s:=by
 cases b
 ·exact uN hd a c d q
 ·exact wpAny_nextOf_list_end hd a c d q
theorem pW {b1 b2:Bool}{z TI TO i1 i2 l1 l2:Addr}{k:Nat}{xs ys:Array Value}{x y a b:Value}{Q:Kv}(D:ZipApart z TI TO i1 i2 l1 l2)
  (hz:IsZip s.heap z TI TO .none) (hTI:IsPair s.heap TI (.ref i1) (.ref i2)) (hTO:IsPair s.heap TO a b) (h1:SIt b1 s.heap i1 l1 k) (h2:SIt b2 s.heap i2 l2 k) (q1:SSq b1 s.heap l1 xs) (q2:SSq b2 s.heap l2 ys)
  (hx:xs[k]?=some x) (hy:ys[k]?=some y)
  (hQ:∀ g,IsZip g z TI TO (rawInt s.heap.objs.size)→IsPair g TO x y→SIt b1 g i1 l1 (k+1)→SIt b2 g i2 l2 (k+1)→IsPair g s.heap.objs.size x y→
   (∀ c o,c∉[z,TO,i1,i2]→s.heap.get? c=some o→g.get? c=some o)→Q (.ref s.heap.objs.size) { s with heap:=g }) :
  wpAny (model prog w) A (Builtin.«zip.__next__» ⟨[.ref z],[]⟩) (fun fin s'=>∃ v,fin=.done (.ret v)∧Q v s') E s:=by
 refine Yd (m:=field (.ref z) 2) (Zr hz rfl (x:=.bool false) rfl ?_)
 refine Yd (m:=field (.ref z) 3) (Zr hz rfl (x:=.ref TI) rfl ?_)
 refine Yd (ZH hTI rfl ?_)
 refine Yd (m:=Builtin.SmallTypes.ownedTupleIsFree (.ref z)) ?_
 unfold Builtin.SmallTypes.ownedTupleIsFree
 refine Yd (Zr hz rfl (x:=.none) rfl (Yp ?_))
 simp only[XH]
 refine Yd (wpAny_rule (Yd (Zr hz rfl (x:=.ref TO) rfl (Yd (ZL hz (by simp) fun ga za sa=>?_)))))
 have za:IsZip ga z TI TO .ellipsis:=za
 have ka:∀ c o,c≠z→s.heap.get? c=some o→ga.get? c=some o:=fun c o n e=>sa.extBut _ _ n e
 refine Yd ?_
 simp only[List.zipIdx_cons,List.zipIdx_nil,Xz,XC]
 refine Yd (Yd (wpAny_onRaise (Yd (m:=Builtin.SmallTypes.nextOf (.ref i1)) ?_)))
 refine qm (h1.at fun o e=>ka _ o D.i1z e) (q1.at fun o e=>ka _ o D.l1z e) hx fun gb ib sb=>Yp ?_
 have kb:∀ c o,c≠z→c≠i1→s.heap.get? c=some o→gb.get? c=some o:=fun c o n m e=>sb.extBut _ _ m (ka c o n e)
 have tb:IsPair gb TO a b:=kb _ _ D.TOz D.TOi1 hTO
 refine Yd (ZH tb rfl (Yd (wpAny_updateSeq_pair tb fun gc tc sc=>?_)))
 have tc:IsPair gc TO x b:=tc
 have kc:∀ c o,c≠z→c≠i1→c≠TO→s.heap.get? c=some o→gc.get? c=some o:=fun c o n m l e=>sc.extBut _ _ l (kb c o n m e)
 refine Yd (wpAny_letGo (Yp ?_))
 refine Yd (Yd (wpAny_onRaise (Yd (m:=Builtin.SmallTypes.nextOf (.ref i2)) ?_)))
 refine qm (h2.at fun o e=>kc _ o D.i2z D.i12.symm D.TOi2.symm e) (q2.at fun o e=>kc _ o D.l2z D.l2i1 D.l2TO e) hy fun gd id' sd=>Yp ?_
 have td:IsPair gd TO x b:=sd.extBut _ _ D.TOi2 tc
 refine Yd (ZH td rfl (Yd (wpAny_updateSeq_pair td fun ge te se=>?_)))
 have te:IsPair ge TO x y:=te
 have ke:∀ c o,c≠z→c≠i1→c≠TO→c≠i2→s.heap.get? c=some o→ge.get? c=some o:=fun c o n m l r e=>se.extBut _ _ l (sd.extBut _ _ r (kc c o n m l e))
 refine Yd (wpAny_letGo (Yp (Yp ?_)))
 refine Yd (ZH te rfl (Yd (wpAny_newTuple ?_)))
 have hsz:ge.objs.size=s.heap.objs.size:=by rw[se.1,sd.1,sc.1,sb.1,sa.1]
 have ze:IsZip ge z TI TO .ellipsis:=se.extBut _ _ D.TOz.symm (sd.extBut _ _ D.i2z.symm (sc.extBut _ _ D.TOz.symm (sb.extBut _ _ D.i1z.symm za)))
 have ie:SIt b1 ge i1 l1 (k+1):=ib.at fun o e=>se.extBut _ _ D.TOi1.symm (sd.extBut _ _ D.i12 (sc.extBut _ _ D.TOi1.symm e))
 have je:SIt b2 ge i2 l2 (k+1):=id'.at fun o e=>se.extBut _ _ D.TOi2.symm e
 have zlt:z<ge.objs.size:=Yg ze
 refine Yd (m:=Builtin.SmallTypes.ownedTupleHandOut (.ref z) (.ref ge.objs.size)) ?_
 unfold Builtin.SmallTypes.ownedTupleHandOut
 have zf:IsZip (ge.push { cls:=.type "tuple",data:=.seq #[x,y] }) z TI TO .ellipsis:=Yb _ ze
 refine Yd (ZL zf (by simp) fun gg zg sg=>?_)
 have zg:IsZip gg z TI TO (rawInt ge.objs.size):=zg
 refine ZL zg (by simp) fun gh zh sh=>Yp ⟨_,rfl,?_⟩
 have zh:IsZip gh z TI TO (rawInt ge.objs.size):=zh
 have up:∀ c o,c≠z→ge.get? c=some o→gh.get? c=some o:=fun c o n e=>sh.extBut _ _ n (sg.extBut _ _ n (Yb _ e))
 have tn:IsPair gh ge.objs.size x y:=sh.extBut _ _ (Zn zlt) (sg.extBut _ _ (Zn zlt) (Yk _ rfl))
 show Q (.ref ge.objs.size) _
 rw[hsz] at zh tn ⊢
 exact hQ gh zh (up _ _ D.TOz te) (ie.at fun o e=>up _ o D.i1z e) (je.at fun o e=>up _ o D.i2z e) tn fun c o hc e=>up c o (fun z=>hc (by simp[z])) (ke c o (fun z=>hc (by simp[z])) (fun z=>hc (by simp[z])) (fun z=>hc (by simp[z])) (fun z=>hc (by simp[z])) e)
theorem qR {b1 b2:Bool}{z TI TO i1 i2 l1 l2:Addr}{k:Nat}{xs ys:Array Value}{a b:Value}{Q:Fin→Shared→Prop}(hh:A.handled=none)(D:ZipApart z TI TO i1 i2 l1 l2)
  (hz:IsZip s.heap z TI TO .none) (hTI:IsPair s.heap TI (.ref i1) (.ref i2)) (hTO:IsPair s.heap TO a b) (h1:SIt b1 s.heap i1 l1 k) (h2:SIt b2 s.heap i2 l2 k) (q1:SSq b1 s.heap l1 xs) (q2:SSq b2 s.heap l2 ys)
  (hend:xs[k]?=none)
  (hE:∀ g e,(∀ c o,c∉[z,TO,i1,i2]→s.heap.get? c=some o→g.get? c=some o)→(∃ o,g.get? e=some o∧o.cls=.type "StopIteration")→E (.ref e) { s with heap:=g }) :
  wpAny (model prog w) A (Builtin.«zip.__next__» ⟨[.ref z],[]⟩) Q E s:=by
 refine Yd (m:=field (.ref z) 2) (Zr hz rfl (x:=.bool false) rfl ?_)
 refine Yd (m:=field (.ref z) 3) (Zr hz rfl (x:=.ref TI) rfl ?_)
 refine Yd (ZH hTI rfl ?_)
 refine Yd (m:=Builtin.SmallTypes.ownedTupleIsFree (.ref z)) ?_
 unfold Builtin.SmallTypes.ownedTupleIsFree
 refine Yd (Zr hz rfl (x:=.none) rfl (Yp ?_))
 simp only[XH]
 refine Yd (wpAny_rule (Yd (Zr hz rfl (x:=.ref TO) rfl (Yd (ZL hz (by simp) fun ga za sa=>?_)))))
 have za:IsZip ga z TI TO .ellipsis:=za
 have ka:∀ c o,c≠z→s.heap.get? c=some o→ga.get? c=some o:=fun c o n e=>sa.extBut _ _ n e
 refine Yd ?_
 simp only[List.zipIdx_cons,List.zipIdx_nil,Xz,XC]
 refine Yd (Yd (wpAny_onRaise (Yd (m:=Builtin.SmallTypes.nextOf (.ref i1)) ?_)))
 refine uL hh (h1.at fun o e=>ka _ o D.i1z e) (q1.at fun o e=>ka _ o D.l1z e) hend fun gb e sb ⟨oe,e1,e2⟩=>?_
 have zb:IsZip gb z TI TO .ellipsis:=sb _ _ D.i1z.symm za
 have hez:e≠z:=fun q=>by subst q;rw[zb] at e1;cases e1;simp at e2
 exact ZL zb (by simp) fun gc _ sc=>hE gc e (fun c o hc q=>sc.extBut _ _ (fun z=>hc (by simp[z])) (sb _ _ (fun z=>hc (by simp[z])) (ka c o (fun z=>hc (by simp[z])) q))) ⟨oe,sc.extBut _ _ hez e1,e2⟩
end
abbrev zT1 (h:Heap)(a:Addr):Heap:=h.push { cls:=.type "tuple_iterator",data:=.fields #[.ref a,.int 0 0] }
abbrev zT2 (h:Heap)(a b:Addr):Heap:=zT1 (zT1 h a) b
abbrev zT3 (h:Heap)(a b:Addr):Heap:=(zT2 h a b).push { cls:=.type "tuple",data:=.seq #[.ref h.objs.size,.ref (zT1 h a).objs.size] }
abbrev zT4 (h:Heap)(a b:Addr):Heap:=(zT3 h a b).push { cls:=.type "tuple",data:=.seq #[.none,.none] }
abbrev zT5 (h:Heap)(a b:Addr):Heap:=(zT4 h a b).push { cls:=.type "zip",data:=.fields #[.none,.bool false,.bool false,.ref (zT2 h a b).objs.size,.ref (zT3 h a b).objs.size] }
theorem lb (a b:Addr)(xs ys:Array Value):Meets (Builtin.«zip.__new__» ⟨[.type "zip",.ref a,.ref b],[]⟩) (fun _ R s=>s.heap.IsTuple a xs∧s.heap.IsTuple b ys∧R (.ok (.ret (.ref (zT4 s.heap a b).objs.size))) { s with heap:=zT5 s.heap a b }):=
 .of_wp fun prog w A R s h=>by
  obtain⟨hp,g,d,tk,os⟩:=s
  obtain⟨h1,h2,h⟩:=h
  have hsub:=sub_zip
  have k1:Heap.IsTuple (Shared.heap ⟨hp,g,d,tk,os⟩) a xs:=h1
  have k2:Heap.IsTuple (Shared.heap ⟨zT1 hp a,g,d,tk,os⟩) b ys:=Heap.IsTuple.push h2 _
  wp_walk using wpAny_pyIter_tuple k1,wpAny_pyIter_tuple k2
  exact⟨_,rfl,h⟩
section
variable {prog:Program} {w:World} {A:Around} {E:Kv} {s:Shared}
theorem pP {b:Bool}{l1 l2:Addr}{xs ys:Array Value}{Q:Kv}(q1:SSq b s.heap l1 xs)(q2:SSq b s.heap l2 ys)
  (h:∀ g,IsZip g (s.heap.objs.size+4) (s.heap.objs.size+2) (s.heap.objs.size+3) .none→IsPair g (s.heap.objs.size+2) (.ref s.heap.objs.size) (.ref (s.heap.objs.size+1))→
   IsPair g (s.heap.objs.size+3) .none .none→SIt b g s.heap.objs.size l1 0→SIt b g (s.heap.objs.size+1) l2 0→
   (∀ c o,s.heap.get? c=some o→g.get? c=some o)→Q (.ref (s.heap.objs.size+4)) { s with heap:=g }) :
  wpAny (model prog w) A (call (.type "zip") [.ref l1,.ref l2]) Q E s:=by
 cases b with
 | true=>exact call_zip_2 q1 q2 fun g a1 a2 a3 a4 a5 _ a7=>h g a1 a2 a3 a4 a5 a7
 | false=>
  refine callType_new F.called_zip (by decide) (F.typeCall_zip_2 _ _) (F.newCall_zip_2 _ _) (fun obj=>F.args_object_init_3 obj _ _) F.entry_zip_new (lb l1 l2 xs ys) ⟨q1,q2,?_⟩
  have z1:(zT1 s.heap l1).objs.size=s.heap.objs.size+1:=Zv ..
  have z2:(zT2 s.heap l1 l2).objs.size=s.heap.objs.size+2:=by rw[Zv,z1]
  have z3:(zT3 s.heap l1 l2).objs.size=s.heap.objs.size+3:=by rw[Zv,z2]
  have z4:(zT4 s.heap l1 l2).objs.size=s.heap.objs.size+4:=by rw[Zv,z3]
  have up:=fun {c o} (e:s.heap.get? c=some o)=>(Yb _ (Yb _ (Yb _ (Yb _ (Yb _ e)))):(zT5 s.heap l1 l2).get? c=some o)
  have g5:(zT5 s.heap l1 l2).get? (zT4 s.heap l1 l2).objs.size=some _:=Yk _ rfl
  have g4:(zT5 s.heap l1 l2).get? (zT3 s.heap l1 l2).objs.size=some _:=Yb _ (Yk _ rfl)
  have g3:(zT5 s.heap l1 l2).get? (zT2 s.heap l1 l2).objs.size=some _:=Yb _ (Yb _ (Yk _ rfl))
  have g2:(zT5 s.heap l1 l2).get? (zT1 s.heap l1).objs.size=some _:=Yb _ (Yb _ (Yb _ (Yk _ rfl)))
  have g1:(zT5 s.heap l1 l2).get? s.heap.objs.size=some _:=Yb _ (Yb _ (Yb _ (Yb _ (Yk _ rfl))))
  show _∧_
  rw[z2,z3,z4] at g5
  rw[z1,z2] at g3
  rw[z3] at g4
  rw[z1] at g2
  rw[z4]
  exact⟨⟨_,g5,rfl⟩,h _ g5 g3 g4 (show Heap.IsTupleIter _ _ _ _ from ⟨_,g1,rfl,rfl⟩) (show Heap.IsTupleIter _ _ _ _ from ⟨_,g2,rfl,rfl⟩) fun c o e=>up e⟩
end
def SqB (b:Bool)(K:Kq)(H:Hp)(a:Addr)(xs:List V):Prop:=if b=true then SqL K H a xs else SqT K H a xs
def Itz (b:Bool)(K:Kq)(a1 a2:Addr):It:=
  ⟨fun i H=>∃ xs ys x y,SqB b K H a1 xs∧SqB b K H a2 ys∧xs[i]?=some x∧ys[i]?=some y,
   fun i H u H'=>∃ p x y,H p=none∧u=.ref p∧H'=upd H p (.tup [x,y])∧(∀ xs,SqB b K H a1 xs→xs[i]?=some x)∧∀ ys,SqB b K H a2 ys→ys[i]?=some y,
   fun i H=>∃ xs ys,SqB b K H a1 xs∧SqB b K H a2 ys∧xs.length≤i⟩
theorem Inv.sqB {X:Cx}{pz:Kp}{σ:St}{H:Hp}{s:Shared}{b:Bool}{a:Addr}{xs:List V}(I:Inv X pz σ H s)(h:SqB b X.K H a xs):∃ its:List Value,Vals xs its∧SSq b s.heap a its.toArray:=by
 cases b with
 | true=>obtain⟨its,rv,p,_⟩:=I.list h;exact⟨its,rv,p.isList⟩
 | false=>obtain⟨its,rv,p,_⟩:=I.tuple h;exact⟨its,rv,p⟩
theorem Inv.sqB_inj {X:Cx}{pz:Kp}{σ:St}{H:Hp}{s:Shared}{b:Bool}{a:Addr}{xs ys:List V}(I:Inv X pz σ H s)(h:SqB b X.K H a xs)(h':SqB b X.K H a ys):xs=ys:=by
 cases b with
 | true=>exact I.list_inj h h'
 | false=>exact I.tuple_inj h h'
theorem Rd.no {H:Hp}{a:Addr}{o:HO}(h:Rd H a o)(n:H a=none):False:=by
 rcases h with h | ⟨u,h⟩
 ·rw[n] at h;cases h
 ·rw[n] at h;cases h
theorem Inv.sq_out {X:Cx}{pz:Kp}{σ:St}{H:Hp}{s:Shared}{b:Bool}{a c:Addr}{ws:List V}(I:Inv X pz σ H s)(hf:cX X pz H c)(h:SqB b X.K H a ws):a≠c:=by
 intro e
 subst e
 have kk:∀ o,X.K.lookup a=some o→False:=fun o hk=>by
  have hb:X.base.get? a=some o:=I.mod.kin a o hk
  rcases hf.2.2.2.1 with z | z
  ·exact I.ok.noex a o hb z
  ·exact absurd (Yh (Yg (I.ok.bs a o hb).1) z) (YJ _)
 cases b with
 | true=>
  rcases (show SqL X.K H a ws from h) with h | ⟨o,its,n,hk,_⟩
  ·exact h.no hf.1
  ·exact kk o hk
 | false=>
  rcases (show SqT X.K H a ws from h) with h | ⟨o,its,n,hk,_⟩
  ·exact h.no hf.1
  ·exact kk o hk
theorem nP {P:Program}{w:World}{K:Kq}{elts:List Expr}{kk:Nat}{pos:Pos}{b:Bool}(z TI TO i1 i2 a1 a2:Addr)(D:∀ l1 l2:Addr,l1∉[z,TO,i1,i2]→l2∉[z,TO,i1,i2]→ZipApart z TI TO i1 i2 l1 l2) :
  Turn P w K (.Tuple elts kk pos) (Itz b K a1 a2) [z,TI,TO,i1,i2] z (fun i h=>IsZip h z TI TO .none∧IsPair h TI (.ref i1) (.ref i2)∧(∃ u v,IsPair h TO u v)∧SIt b h i1 a1 i∧SIt b h i2 a2 i) where
 mem:=by simp
 obj:=fun i h st c hc=>by
  obtain⟨h1,h2,⟨u,v,h3⟩,h4,h5⟩:=st
  have hc':c=z∨c=TI∨c=TO∨c=i1∨c=i2:=by simpa using hc
  rcases hc' with rfl | rfl | rfl | rfl | rfl
  ·exact⟨_,h1,fun v z=>by cases z⟩
  ·exact⟨_,h2,fun v z=>by cases z⟩
  ·exact⟨_,h3,fun v z=>by cases z⟩
  ·exact h4.obj
  ·exact h5.obj
 keep:=fun i h h' st k=>by
  obtain⟨h1,h2,⟨u,v,h3⟩,h4,h5⟩:=st
  exact⟨k z (by simp) _ h1,k TI (by simp) _ h2,⟨u,v,k TO (by simp) _ h3⟩,h4.at fun o e=>k i1 (by simp) o e,h5.at fun o e=>k i2 (by simp) o e⟩
 item:=by
  intro X hP hw hK hc i pz s σ H E I hf st hg
  subst hP hw hK
  obtain⟨hz,hTI,⟨u,v,hTO⟩,h1,h2⟩:=st
  obtain⟨xs,ys,x,y,qx,qy,ex,ey⟩:=hg
  obtain⟨itx,rx,px⟩:=I.sqB qx
  obtain⟨ity,ry,py⟩:=I.sqB qy
  obtain⟨ux,hux,rux⟩:=rx.get ex
  obtain⟨uy,huy,ruy⟩:=ry.get ey
  have hout:∀ a (ws:List V),SqB b X.K H a ws→a∉[z,TO,i1,i2]:=by
   intro a ws hq hm
   have hm':a∈[z,TI,TO,i1,i2]:=by simp at hm ⊢;rcases hm with q | q | q | q <;> simp[q]
   exact I.sq_out (hf a hm') hq rfl
  have D':=D a1 a2 (hout a1 xs qx) (hout a2 ys qy)
  have hT:s.TypeIs (.ref z) "zip":=⟨_,hz,rfl⟩
  unfold pyNext
  refine Yd (wpAny_attempt (ZG (name:=Str.ofString "__next__") hT XB (ZX XB hT F.entry_zip_next
   (pW D' hz hTI hTO h1 h2 px py (x:=ux) (y:=uy) (by simpa using hux) (by simpa using huy) fun g gz gTO g1 g2 gT gk=>Yp ?_) (F.args_zip_next_1 _))))
  refine⟨_,rfl,wpAny_letOwnedTupleGo_zip gz fun h2' hz2 hs2=>?_⟩
  have zlt:z<s.heap.objs.size:=Yg hz
  have hTz:s.heap.objs.size≠z:=Zn zlt
  have kk2:∀ c o,c∉[z,TI,TO,i1,i2]→s.heap.get? c=some o→h2'.get? c=some o:=fun c o hc e=>(hs2.2 c (fun q=>hc (by simp[q]))).trans (gk c o (fun q=>hc (by simp at q ⊢;rcases q with q | q | q | q <;> simp[q])) e)
  have hT2:IsPair h2' s.heap.objs.size ux uy:=(hs2.2 _ hTz).trans gT
  have I2:Inv X pz σ (upd H s.heap.objs.size (.tup [x,y])) { s with heap:=h2' }:=
   I.turnedLaid (t':=s.toks) kk2 hf (Yo _) ⟨show 2≤sizeLine by decide,[ux,uy],.cons rux (.cons ruy .nil),⟨_,hT2,rfl,_,rfl⟩,_,hT2,rfl⟩
  have hn:H s.heap.objs.size=none:=I.hok.fresh (Yo _)
  refine⟨.ref s.heap.objs.size,_,I2,rfl,⟨_,x,y,hn,rfl,rfl,fun ws hy'=>by rw[I.sqB_inj hy' qx];exact ex,fun ws hy'=>by rw[I.sqB_inj hy' qy];exact ey⟩,⟨hz2,(hs2.2 _ D'.TIz).trans (gk _ _ (by simp[D'.TIz,D'.TITO,D'.TIi1,D'.TIi2]) hTI),⟨_,_,(hs2.2 _ D'.TOz).trans gTO⟩,g1.at fun o e=>(hs2.2 _ D'.i1z).trans e,g2.at fun o e=>(hs2.2 _ D'.i2z).trans e⟩,fun c hc=>?_⟩
  have hlt:c<s.heap.objs.size:=by
   have hc':c=z∨c=TI∨c=TO∨c=i1∨c=i2:=by simpa using hc
   rcases hc' with rfl | rfl | rfl | rfl | rfl
   ·exact zlt
   ·exact Yg hTI
   ·exact Yg hTO
   ·obtain⟨o,e,_⟩:=h1.obj;exact Yg e
   ·obtain⟨o,e,_⟩:=h2.obj;exact Yg e
  rw[ae (Yq hlt)]
  exact (hf c hc).1
 done:=by
  intro X hP hw hK hc i pz s σ H E I hf st hg
  subst hP hw hK
  obtain⟨hz,hTI,⟨u,v,hTO⟩,h1,h2⟩:=st
  obtain⟨xs,ys,qx,qy,hl⟩:=hg
  obtain⟨itx,rx,px⟩:=I.sqB qx
  obtain⟨ity,ry,py⟩:=I.sqB qy
  have hout:∀ a (ws:List V),SqB b X.K H a ws→a∉[z,TO,i1,i2]:=by
   intro a ws hq hm
   have hm':a∈[z,TI,TO,i1,i2]:=by simp at hm ⊢;rcases hm with q | q | q | q <;> simp[q]
   exact I.sq_out (hf a hm') hq rfl
  have D':=D a1 a2 (hout a1 xs qx) (hout a2 ys qy)
  have hT:s.TypeIs (.ref z) "zip":=⟨_,hz,rfl⟩
  have hlen:=rx.length
  unfold pyNext
  refine Yd (wpAny_attempt (ZG (name:=Str.ofString "__next__") hT XB (ZX XB hT F.entry_zip_next
   (qR (I.ok.hd hc) D' hz hTI hTO h1 h2 px py (by simp;omega) fun g e gk ⟨o,e1,e2⟩=>?_) (F.args_zip_next_1 _))))
  refine Yd (wpAny_isInstance (T := "StopIteration") (b:=true) ⟨o,e1,e2⟩ isSubtype_stop (Yp ⟨rfl,?_⟩))
  exact I.turnedL (t':=s.toks) (fun c o hc e=>gk c o (fun q=>hc (by simp at q ⊢;rcases q with q | q | q | q <;> simp[q])) e) hf
 self:=fun _ _ _ _ _ st h=>wpAny_pyIter_zip st.1 h
section
variable {X:Cx} {e1 e2:Expr} {elts:List Expr} {kk:Nat} {tpos pos p:Pos}
def uW (K:Kq)(ta:TA):TI:=fun σ H R=>ta σ H fun vs H1=>∃ b a1 a2,vs=[.ref a1,.ref a2]∧(∃ xs,SqB b K H1 a1 xs)∧(∃ ys,SqB b K H1 a2 ys)∧R (Itz b K a1 a2) H1
theorem nE:bootBuiltins "zip"=some (.type "zip"):=by rfl
theorem rT {ta:TA}(hg:Gl X "zip")(hm:X.mg "zip"=none)(ha:PA X [e1,e2] ta)(hs:starEach [e1,e2] X.env=[(false,eval e1 X.env),(false,eval e2 X.env)]:=by rfl)(hs2:starEach [e2] X.env=[(false,eval e2 X.env)]:=by rfl):PI X (.Tuple elts kk tpos) (.Call (.Name "zip" p) [e1,e2] [] pos) (uW X.K ta):=by
 intro pz s σ H R I h
 refine Call_ (fD I hg hm nE (ZN (thn (ha pos pz s σ H _ I h) fun us s1 ⟨vs,H1,I1,r1,q1⟩=>?_) (by rw[hs,hs2]) (by rw[hs2];rfl)))
 obtain⟨b,a1,a2,e,⟨xs,qx⟩,⟨ys,qy⟩,q⟩:=q1
 subst e
 cases r1 with
 | cons ra rr=>
 cases rr with
 | cons rb rr=>
 cases rr
 cases ra
 cases rb
 obtain⟨itx,rx,px⟩:=I1.sqB qx
 obtain⟨ity,ry,py⟩:=I1.sqB qy
 refine pP px py fun g gz gTI gTO g1 g2 kp=>?_
 have I2:Inv X pz σ H1 { s1 with heap:=g }:=I1.kept (t':=s1.toks) kp
 refine wpAny_pyIter_zip gz ?_
 refine⟨s1.heap.objs.size+4,[s1.heap.objs.size+4,s1.heap.objs.size+2,s1.heap.objs.size+3,s1.heap.objs.size,s1.heap.objs.size+1],_,_,H1,rfl,I2,nP _ _ _ _ _ a1 a2 (fun l1 l2 n1 n2=>?_),⟨gz,gTI,⟨_,_,gTO⟩,g1,g2⟩,fun b hb=>?_,q⟩
 ·simp only[Ys,List.not_mem_nil,or_false,not_or] at n1 n2
  obtain⟨n11,n12,n13,n14⟩:=n1
  obtain⟨n21,n22,n23,n24⟩:=n2
  constructor <;> first | assumption | exact Yq (by omega) | exact Zn (by omega)
 ·have hge:s1.heap.objs.size≤b:=by
   simp only[Ys,List.not_mem_nil,or_false] at hb
   rcases hb with rfl | rfl | rfl | rfl | rfl <;> first | exact Yo _ | exact Nat.le_add_right _ _
  exact I1.fpOk hge (I1.hok.fresh hge)
def fW (as bs:List D):List D:=(as.zip bs).map fun x=>.tup [x.1,x.2]
def gA (f g:Dd):DF→Option (List D):=fun ρ=>match f ρ,g ρ with
 | some (.lst as),some (.lst bs)=>if as.length=bs.length then some (fW as bs) else none
 | some (.tup as),some (.tup bs)=>if as.length=bs.length then some (fW as bs) else none
 | _,_=>none
theorem mw {as bs:List D}{i:Nat}{d:D}(h:(fW as bs)[i]?=some d):∃ x y,as[i]?=some x∧bs[i]?=some y∧d=.tup [x,y]:=by
 unfold fW at h
 rw[Yv] at h
 cases q:(as.zip bs)[i]? with
 | none=>rw[q] at h;cases h
 | some z=>
  rw[q] at h
  cases h
  obtain⟨h1,h2⟩:=List.getElem?_zip_eq_some.mp q
  exact⟨z.1,z.2,h1,h2,rfl⟩
theorem iR {K:Kq}{P F:Hp}{b:Bool}{a1 a2:Addr}{vs us:List V}{as bs:List D}(h1:∀ F' H',Same F F'→DHp P F' H'→SqB b K H' a1 vs)(h2:∀ F' H',Same F F'→DHp P F' H'→SqB b K H' a2 us)(r1:Reps K F vs as)(r2:Reps K F us bs)(hl:as.length=bs.length):nv K P (Itz b K a1 a2) F (fW as bs):=by
 intro F' H' e hp i
 refine⟨fun d hd=>?_,fun hle=>⟨vs,us,h1 F' H' e hp,h2 F' H' e hp,by rw[r1.length];simpa[fW,hl] using hle⟩⟩
 obtain⟨x,y,hx,hy,rfl⟩:=mw hd
 obtain⟨v,e1,q1⟩:=r1.get hx
 obtain⟨u,e2,q2⟩:=r2.get hy
 refine⟨⟨vs,us,v,u,h1 F' H' e hp,h2 F' H' e hp,e1,e2⟩,fun w H2 hy'=>?_⟩
 obtain⟨q,v',u',hn,rfl,rfl,hv,hu⟩:=hy'
 have t1:=hv vs (h1 F' H' e hp)
 have t2:=hu us (h2 F' H' e hp)
 rw[e1] at t1;cases t1
 rw[e2] at t2;cases t2
 have ev:=Evo.laid hp (o:=.tup [v,u]) hn
 exact⟨_,ev,.tup ak (.cons ((q1.same e).same ev.ext) (.cons ((q2.same e).same ev.ext) .nil))⟩
theorem pM {f g:Dd}(hg:Gl X "zip")(hm:X.mg "zip"=none)(h1:PDE X e1 f)(h2:PDE X e2 g)(hs:starEach [e1,e2] X.env=[(false,eval e1 X.env),(false,eval e2 X.env)]:=by rfl)(hs2:starEach [e2] X.env=[(false,eval e2 X.env)]:=by rfl):PDI X (.Tuple elts kk tpos) (.Call (.Name "zip" p) [e1,e2] [] pos) (gA f g):=
 PI.imp (rT hg hm (ar h1 (ar h2 aN hs2) (by rw[hs,hs2])) hs hs2) fun σ H R ⟨P,F,ρ,ds,hf,I,k⟩=>by
  unfold gA at hf
  split at hf
  ·rename_i as bs qa qb
   split at hf
   ·rename_i hl
    cases hf
    refine⟨P,F,ρ,_,qa,I,fun v F1 H1 ev1 rv=>⟨P,F1,ρ,_,qb,I.evo ev1,fun u F2 H2 ev2 ru=>?_⟩⟩
    cases rv with
    | lst x1 x2=>
     cases ru with
     | lst y1 y2=>
      refine⟨true,_,_,rfl,⟨_,ev2.hp.sub.seq (ev2.ext.seq x1)⟩,⟨_,ev2.hp.sub.seq y1⟩,k _ F2 H2 (ev1.trans ev2) (iR (fun F' H' e hp=>hp.sub.seq (e.seq (ev2.ext.seq x1))) (fun F' H' e hp=>hp.sub.seq (e.seq y1)) (x2.same ev2.ext) y2 hl)⟩
   ·cases hf
  ·rename_i as bs qa qb
   split at hf
   ·rename_i hl
    cases hf
    refine⟨P,F,ρ,_,qa,I,fun v F1 H1 ev1 rv=>⟨P,F1,ρ,_,qb,I.evo ev1,fun u F2 H2 ev2 ru=>?_⟩⟩
    cases rv with
    | tup x1 x2=>
     cases ru with
     | tup y1 y2=>
      refine⟨false,_,_,rfl,⟨_,SqT.of (ev2.hp.sub _ _ (ev2.ext _ _ x1))⟩,⟨_,SqT.of (ev2.hp.sub _ _ y1)⟩,k _ F2 H2 (ev1.trans ev2) (iR (fun F' H' e hp=>SqT.of (hp.sub _ _ (e _ _ (ev2.ext _ _ x1)))) (fun F' H' e hp=>SqT.of (hp.sub _ _ (e _ _ y1))) (x2.same ev2.ext) y2 hl)⟩
   ·cases hf
  ·cases hf
end
section
variable {prog:Program} {w:World} {A:Around} {s:Shared} {R:Kr}
variable {I:Addr} {fp wr:List Addr} {n:Nat} {P:Nat→Value→Prop} {St:Nat→Heap→Prop} {T:String}
end
section
variable {prog:Program} {w:World} {A:Around} {E:Kv} {s:Shared}
variable {I:Addr} {fp wr:List Addr} {n:Nat} {P:Nat→Value→Prop} {St:Nat→Heap→Prop} {T:String}
end
section
variable {prog:Program} {w:World} {A:Around} {E:Kv} {s:Shared}
end
section
variable {X:Cx} {e a:Expr} {p p' p2 pos cpos rpos:Pos} {t:TA}
variable {fa:Dd}
end
theorem k6 {K:Kq}{P F H H':Hp}{ρ ρ':DF}{σ σ':St}{O:Addr→Option Nat}{A:Addr→Prop}{ia ib:Nat}(hp:DHp P F H)
  (hR:∀ (i:Nat) (x:DV),ρ[i]?=some (some x)→∃ v,σ[i]?=some (some v)∧DVRep K P F H (fun b=>O b=some i) x v)
  (hA:∀ a,A a→F a=none∧P a=none∧(O a=none∨O a=some ia∨O a=some ib)) (hH:∀ a,¬ A a→H' a=H a)
  (hρ:∀ (i:Nat) (x:DV),ρ'[i]?=some (some x)→ρ[i]?=some (some x)∧i≠ia∧i≠ib∧σ'[i]?=σ[i]?) (hl:ρ'.length=σ'.length):DInv K P F H' ρ' σ':=by
 refine⟨⟨fun a u e=>?_,fun a u e=>?_,hp.dis⟩,hl,O,fun i x hx=>?_⟩
 ·rw[hH a fun z=>by rw[(hA a z).1] at e;cases e];exact hp.sub a u e
 ·rw[hH a fun z=>by rw[(hA a z).2.1] at e;cases e];exact hp.pro a u e
 ·obtain⟨h1,h2,h3,h4⟩:=hρ i x hx
  obtain⟨v,e1,e2⟩:=hR i x h1
  refine⟨v,h4.trans e1,?_⟩
  cases x with
  | v d=>exact e2
  | bor o=>exact e2
  | own o t=>
   obtain⟨c,rfl,e3,e4⟩:=e2
   refine⟨c,rfl,e3.mono (Same.refl _) fun b w q hb=>⟨?_,q⟩,e4⟩
   rw[hH b fun z=>?_]
   ·exact hb
   ·rcases (hA b z).2.2 with y | y | y
    ·rw[q.2.2] at y;cases y
    ·rw[q.2.2] at y;cases y;exact h2 rfl
    ·rw[q.2.2] at y;cases y;exact h3 rfl
theorem All2.mem {α β:Type}{R:α→β→Prop}{as:List α}{bs:List β}(h:All2 R as bs){a:α}(ha:a∈as):∃ b∈bs,R a b:=by
 induction h with
 | nil=>cases ha
 | cons q _ ih=>
  rcases Ys.mp ha with rfl | ha
  ·exact⟨_,Ye,q⟩
  ·obtain⟨b,h1,h2⟩:=ih ha
   exact⟨b,Yc _ h1,h2⟩
def dj (i ix:Nat):DF→Option RES:=fun ρ=>match ρ[i]? with
 | some (some (.own (.lst2 dss) _))=>if ix<ρ.length∧dss.all (fun ds=>decide (ds.length+dss.length≤16777216))=true then some (.nx ((ρ.set i none).set ix none)) else none
 | _=>none
theorem j1 {X:Cx}{e1 ev:Expr}{x:Str}{w:V}{p p2 apos cpos epos pos:Pos}(i ix:Nat)(hp:PassesOwn (model X.prog X.w) X.A X.env X.xe)(hc:X.calm=true)
  (h1:PE X e1 (bZ i)) (hg:PG X (.Name x p) (d_ ix)) (hx:PE X (.Name x p2) (bZ ix)) (hv:PE X ev (tC w))
  (hbase:attributeBase (.Name x p2) "append" X.env (eval (.Name x p2) X.env)=eval (.Name x p2) X.env:=by rfl)
  (hfew:((backTo cpos (starEach [ev] X.env)).all (fun x=>!x.1)&&(backToKw cpos (keywordEach [] X.env)).all (fun x=>x.1.isSome)
   && decide (([ev]:List Expr).length+([]:List Keyword).length+(if ([]:List Keyword).isEmpty then 0 else 1)<30))=true:=by rfl)
  (hline:(apos.endLine == cpos.line)=true:=by rfl) (hs:starEach [ev] X.env=[(false,eval ev X.env)]:=by rfl) (hsw:swapsWith (.Call (.Attribute (.Name x p2) "append" apos) [ev] [] cpos) none epos.line X.env=pure false:=by rfl)
  (hf:∀ y,foldedSetIterable e1 X.env y=pure y:=by intro _;rfl) :
  PD1 X (.For (.Name x p) e1 [.Expr (.Call (.Attribute (.Name x p2) "append" apos) [ev] [] cpos) epos] [] pos) (dj i ix):=
 PS.imp (jS hp hc (ir h1) hg
  (g9 (eS (i6 Zm ZA ZB bR hx (ar hv aN hs) hbase hfew hline hs rfl) hsw)) hf) fun E σ H hh_=>by
  obtain⟨P,F,ρ,r,hr,I,k⟩:=hh_
  unfold dj at hr
  split at hr
  ·rename_i dss t q1
   split at hr
   ·rename_i hl
    obtain⟨l0,l1⟩:=hl
    cases hr
    obtain⟨O,hR⟩:=I.rep
    obtain⟨_,s1,a,rfl,⟨⟨fa,pa,oa⟩,bs,a3,a4,a5⟩,_⟩:=hR i _ q1
    obtain⟨n1,n2⟩:=YY.mp a4
    have size:∀ r'∈bs,∃ ys,H r'=some (.lst ys)∧ys.length+bs.length≤sizeLine:=fun r' hr'=>by
     obtain⟨ds,m1,_,u,m2,m3⟩:=a5.mem hr'
     cases u with
     | lst ys=>exact⟨ys,m2,by rw[YM,a5.length,Reps.length m3];exact YV (YF.mp l1 ds m1)⟩
     | _=>exact m3.elim
    refine⟨.ref a,s1,a,rfl,⟨_,SqL.of a3⟩,?_⟩
    refine⟨fun j m σ' H'=>m=bs.length-j∧j≤bs.length∧σ'.length=σ.length∧(∀ n,n≠ix→σ'[n]?=σ[n]?)∧(∀ c,¬ c∈bs→H' c=H c)∧∀ r'∈bs,∃ ys,H' r'=some (.lst ys)∧ys.length+bs.length≤sizeLine+j,
     ⟨_,rfl,YG _,rfl,fun _ _=>rfl,fun _ _=>rfl,size⟩,?_⟩
    rintro j m σ' H' ⟨rfl,hj,hlen,hσ,off,sz⟩
    have hq':H' a=some (.lst (bs.map .ref)):=by rw[off a n1];exact a3
    by_cases hlt:j<bs.length
    ·have hgj:bs[j]?=some bs[j]:=Yw hlt
     have hr':bs[j]∈bs:=List.getElem_mem hlt
     generalize bs[j]=r' at hgj hr'
     have hg':(bs.map V.ref)[j]?=some (.ref r'):=by rw[Yv,hgj];rfl
     refine .inr ⟨⟨_,_,SqL.of hq',hg'⟩,fun σ2 H2'=>σ2.length=σ.length∧(∀ n,n≠ix→σ2[n]?=σ[n]?)∧(∀ c,¬ c∈bs→H2' c=H c)∧∀ r'∈bs,∃ ys,H2' r'=some (.lst ys)∧ys.length+bs.length≤sizeLine+(j+1),
      fun σ2 H2' hh2=>⟨bs.length-(j+1),by omega,rfl,hlt,hh2⟩,fun u H3 hy=>?_⟩
     obtain⟨rfl,hy2⟩:=hy
     have t:=hy2 _ (SqL.of hq')
     rw[hg'] at t;cases t
     obtain⟨ys,y1,y2⟩:=sz r' hr'
     have hset:ix<σ'.length:=by rw[hlen,← I.len];exact l0
     refine⟨.ref r',by rw[YI hset],.inl ⟨rfl,ys,SqL.of y1⟩,r',ys,w,rfl,rfl,y1,by omega,?_⟩
     refine⟨by rw[Yy];exact hlen,fun n hn=>by rw[Yz (ZZ hn)];exact hσ n hn,fun c hc=>by rw[ae (fun z:c=r'=>hc (by rw[z];exact hr'))];exact off c hc,fun w' hw=>?_⟩
     by_cases hwr:w'=r'
     ·subst hwr
      exact⟨_,ak,by rw[YE,ZO];omega⟩
     ·obtain⟨zs,z1,z2⟩:=sz w' hw
      exact⟨zs,by rw[ae hwr];exact z1,by omega⟩
    ·refine .inl ⟨⟨_,SqL.of hq',by rw[Yf];omega⟩,k σ' F H' (Same.refl _) ?_⟩
     refine k6 (A:=fun c=>c∈bs) (O:=O) (ia:=i) (ib:=i) I.toDHp hR (fun c hc=>?_) off (fun m x hx=>?_) (by rw[Yy,Yy,hlen];exact I.len)
     ·obtain⟨ds,_,⟨z1,z2,z3⟩,_⟩:=a5.mem hc
      exact⟨z1,z2,.inr (.inl z3)⟩
     ·have hi:m≠ix:=fun z=>by subst z;rw[List.getElem?_set] at hx;split at hx <;> first | (split at hx <;> cases hx) | exact absurd rfl ‹_›
      rw[Yz (ZZ hi)] at hx
      have hia:m≠i:=fun z=>by subst z;rw[List.getElem?_set] at hx;split at hx <;> first | (split at hx <;> cases hx) | exact absurd rfl ‹_›
      rw[Yz (ZZ hia)] at hx
      exact⟨hx,hia,hia,hσ m hi⟩
   ·cases hr
  ·cases hr
section
variable {X:Cx} {a b e:Expr} {pos:Pos}
def mf (i:Nat):DF→Option Bool:=fun ρ=>match ρ[i]? with
 | some (some (.own _ _))=>some false
 | some (some (.bor _))=>some false
 | some (some (.v .non))=>some true
 | some (some (.v _))=>some false
 | _=>none
theorem oC (i:Nat){j p}(h:PE X a (bZ i)):PDT X (.Compare a [.Is] [.Constant .none j p] pos) (mf i):=(nj (qX h)).imp fun σ H Q=>un7 fun P F ρ d hf I k=>by
 unfold mf at hf
 split at hf
 ·rename_i o t q
  cases hf
  obtain⟨v,h1,c,rfl,_⟩:=I.at q
  exact⟨_,h1,false,rfl,k F H (Evo.refl I.toDHp)⟩
 ·rename_i o q
  cases hf
  obtain⟨v,h1,c,rfl,_⟩:=I.at q
  exact⟨_,h1,false,rfl,k F H (Evo.refl I.toDHp)⟩
 ·rename_i q
  cases hf
  obtain⟨v,h1,h2⟩:=I.at q
  cases h2
  exact⟨_,h1,true,rfl,k F H (Evo.refl I.toDHp)⟩
 ·rename_i d' hd q
  cases hf
  obtain⟨v,h1,h2⟩:=I.at q
  refine⟨_,h1,false,?_,k F H (Evo.refl I.toDHp)⟩
  congr 1
  refine YA fun z=>?_
  subst z
  cases h2
  exact hd rfl
 ·cases hf
def cI (i:Nat)(g:Dk):DF→Option Bool:=fun ρ=>match ρ[i]? with
 | some (some (.own o _))=>g (ρ.set i (some (.v o.d)))
 | _=>none
theorem ii (i:Nat){g:Dk}(h:PDT X e g):PDT X e (cI i g):=PT.imp h fun σ H Q=>un7 fun P F ρ b hf I k=>by
 unfold cI at hf
 split at hf
 ·rename_i o t q
  obtain⟨F1,e1,I1⟩:=I.frz q
  exact⟨P,F1,_,b,hf,I1,fun F' H' ev=>k F H' ⟨Same.refl _,⟨(e1.trans ev.ext).trans ev.hp.sub,ev.hp.pro,I.dis⟩,fun a u hH hF=>⟨Evo.same I1.toDHp ev a u hH,hF⟩⟩⟩
 ·cases hf
end
end L2
namespace L2
open PySem PySem.Spec PySem.W PyProof.Rows
section
variable {X:Cx} {k:Nat} {f:Addr} {fd:FuncData} {ps:List Str} {mM:Dz} {x:Str} {p pos spos:Pos} {e0 e1 e2 e3 e4:Expr} {f0 f1 f2 f4:Dd}
end
structure Sep (K:PySem.W.Frag) (P F H:Hp) (ρ:DF) (σ:St) (b:Addr):Prop extends DHp P F H where
 len:ρ.length=σ.length
 rep:∃ O:Addr→Option Nat,∀ (i:Nat) (x:DV),ρ[i]?=some (some x)→∃ v,σ[i]?=some (some v)∧DVRep K P F H (fun c=>O c=some i∧c≠b) x v
theorem DInv.sepV {K:Kq}{P F H:Hp}{ρ:DF}{σ:St}(I:DInv K P F H ρ σ){j:Nat}{ds:List D}{t:Option Addr}(hj:ρ[j]?=some (some (.own (.lst ds) t))) :
  ∃ b,σ[j]?=some (some (.ref b))∧F b=none∧P b=none∧(∃ u,H b=some u∧ORep1 K F (.lst ds) u)∧Sep K P F H (ρ.set j none) σ b:=by
 obtain⟨O,hR⟩:=I.rep
 obtain⟨_,g1,b,rfl,⟨⟨fb,pb,ob⟩,u,g3,g4⟩,_⟩:=hR j _ hj
 refine⟨b,g1,fb,pb,⟨u,g3,g4⟩,I.toDHp,by rw[Yy];exact I.len,O,fun m x hm=>?_⟩
 rcases bz hm with⟨rfl,e,hl⟩ | ⟨hjm,hm'⟩
 ·cases e
 ·obtain⟨v,h1,h2⟩:=hR m x hm'
  exact⟨v,h1,h2.imp fun c w _ _ _ q=>⟨q,fun z=>by subst z;rw[ob] at q;exact hjm (Yx q)⟩⟩
theorem Sep.into {K:Kq}{P F H:Hp}{ρ:DF}{σ:St}{b:Addr}(I:Sep K P F H ρ σ b){i:Nat}{dss:List (List D)}{ds:List D}{t:Option Addr}(hi:ρ[i]?=some (some (.own (.lst2 dss) t)))(fb:F b=none)(pb:P b=none)(hu:∃ u,H b=some u∧ORep1 K F (.lst ds) u) :
  ∃ (a:Addr) (bs:List Addr),σ[i]?=some (some (.ref a))∧H a=some (.lst (bs.map .ref))∧bs.length=dss.length∧DInv K P F (upd H a (.lst (bs.map .ref++[.ref b]))) (ρ.set i (some (.own (.lst2 (dss++[ds])) t))) σ:=by
 obtain⟨O,hR⟩:=I.rep
 obtain⟨u,g3,g4⟩:=hu
 obtain⟨_,h1,a,rfl,⟨⟨fa,pa,oa,ab⟩,bs,h3,h4,h5⟩,ht⟩:=hR i _ hi
 obtain⟨n1,n2⟩:=YY.mp h4
 have nb:b∉bs:=fun z=>by
  obtain⟨x,_,⟨_,_,_,y⟩,_⟩:=h5.mem z
  exact y rfl
 refine⟨a,bs,h1,h3,h5.length,⟨fun c w e=>by rw[ae (am e fa)];exact I.sub c w e,fun c w e=>by rw[ae (am e pa)];exact I.pro c w e,I.dis⟩,by rw[Yy];exact I.len,?_⟩
 classical
 refine⟨fun c=>if c=b then some i else O c,fun m z hm=>?_⟩
 have keepO:∀ {c:Addr} {m:Nat},O c=some m→c≠b→(if c=b then some i else O c)=some m:=fun h h'=>by rw[Yl h'];exact h
 rcases bz hm with⟨rfl,e,hl⟩ | ⟨him,hm'⟩
 ·cases e
  refine⟨_,h1,a,rfl,⟨⟨fa,pa,keepO oa ab⟩,bs++[b],by rw[ak,ZD];rfl,?_,?_⟩,ht⟩
  ·rw[← List.cons_append]
   refine List.nodup_append.mpr ⟨h4,by simp,fun x hx y hy=>?_⟩
   rw[Zj] at hy
   subst hy
   rcases Ys.mp hx with rfl | hx
   ·exact ab
   ·exact fun z=>by subst z;exact nb hx
  ·refine All2.app (h5.impM fun c x hc ⟨⟨c1,c2,c3,c3'⟩,w,c4,c5⟩=>?_) (.cons ?_ .nil)
   ·have ca:c≠a:=fun z=>by subst z;exact n1 hc
    exact⟨⟨c1,c2,keepO c3 c3'⟩,w,by rw[ae ca];exact c4,c5⟩
   ·exact⟨⟨fb,pb,Yi rfl⟩,u,by rw[ae (ZZ ab)];exact g3,g4⟩
 ·obtain⟨w,e1,e2⟩:=hR m z hm'
  refine⟨w,e1,?_⟩
  cases z with
  | v d'=>exact e2
  | own od t'=>
   obtain⟨c,rfl,e3,ht'⟩:=e2
   refine⟨c,rfl,e3.mono (Same.refl _) fun c' w' q hb=>⟨?_,q.1,q.2.1,keepO q.2.2.1 q.2.2.2⟩,ht'⟩
   rw[ae (fun z=>by subst z;have q2:O _=some m:=q.2.2.1;rw[oa] at q2;exact him (Yx q2))];exact hb
  | bor od=>exact e2
section
variable {X:Cx} {k:Nat} {f:Addr} {fd:FuncData} {ps:List Str} {m:List (List D)→List D→List DV→Option (List (List D))} {x:Str} {p pos spos:Pos} {e0 e1 e2 e3 e4:Expr} {f0 f1 f4:Dd}
end
section
variable {X:Cx} {e o y:Expr} {pos apos cpos p2:Pos}
def gW (i j:Nat):DF→Option RES:=fun ρ=>match ρ[i]?,ρ[j]? with
 | some (some (.own (.lst2 dss) t)),some (some (.own (.lst ds) _))=>if dss.length<16777216 then some (.nx ((ρ.set j none).set i (some (.own (.lst2 (dss++[ds])) t)))) else none
 | _,_=>none
theorem ny (i j:Nat)(h:PE X o (bZ i))(hy:PE X y (bZ j))(hbase:attributeBase o "append" X.env (eval o X.env)=eval o X.env:=by rfl)
  (hfew:((backTo cpos (starEach [y] X.env)).all (fun x=>!x.1)&&(backToKw cpos (keywordEach [] X.env)).all (fun x=>x.1.isSome)
   && decide (([y]:List Expr).length+([]:List Keyword).length+(if ([]:List Keyword).isEmpty then 0 else 1)<30))=true:=by rfl)
  (hline:(apos.endLine == cpos.line)=true:=by rfl) (hs:starEach [y] X.env=[(false,eval y X.env)]:=by rfl) (hsw:swapsWith (.Call (.Attribute o "append" apos) [y] [] cpos) none pos.line X.env=pure false:=by rfl) :
  PD1 X (.Expr (.Call (.Attribute o "append" apos) [y] [] cpos) pos) (gW i j):=
 PS.imp (eS (i6 Zm ZA ZB bR h (ar hy aN hs) hbase hfew hline hs rfl) hsw) fun E σ H=>un7 fun P F ρ r hr I k=>by
  unfold gW at hr
  split at hr
  ·rename_i dss t ds t' q q'
   split at hr
   ·rename_i hl
    cases hr
    have hij:i≠j:=fun z=>by subst z;rw[q] at q';cases q'
    obtain⟨b,g1,fb,pb,hu,S⟩:=I.sepV q'
    have qi:(ρ.set j none)[i]?=some (some (.own (.lst2 dss) t)):=by rw[Yz (ZZ hij)];exact q
    obtain⟨a,bs,h1,h3,h4,h5⟩:=S.into qi fb pb hu
    exact⟨_,h1,.inl ⟨rfl,_,SqL.of h3⟩,_,g1,a,_,.ref b,rfl,rfl,h3,by rw[YM,Yf,h4];exact hl,k σ F _ (Same.refl _) h5⟩
   ·cases hr
  ·cases hr
theorem nU:PDO X (.List [] pos) (fun _=>some (.lst2 [])):=PE.imp (eN dB) fun σ H Q=>un7 fun P F ρ ob hf I k=>by
 cases hf
 refine⟨P,F,ρ,.lst [],rfl,I,fun a F' H' ev ho=>k a F' H' ev ?_⟩
 obtain⟨h1,u,h2,h3⟩:=ho
 cases u with
 | lst vs=>
  cases vs with
  | nil=>exact⟨h1,[],h2,by simp,.nil⟩
  | cons v vs=>cases h3
 | _=>exact h3.elim
end
structure LamS where
 qual:Str
 params:Arguments
 body:Expr
 scope:Scope
 p:Str
 x:Str
 cell:Bool:=false
structure LamS.Ok (L:LamS):Prop where
 kind:L.scope.kind=.function
 co:L.scope.isCoroutine=false
 gen:L.scope.isGenerator=false
 par:L.scope.names.lookup L.p=some (if L.cell then .cell else .local)
 fre:L.scope.names.lookup L.x=some .free
 ne:(L.x == L.p)=false
 onc:∀ y,L.scope.names.lookup y=some .cell→y=L.p∧L.cell=true
 noc:L.cell=false→∀ y∈L.scope.names,y.2≠.cell
 cels:L.cell=true→∀ n cl,cellsFrom n L.scope.names cl=(L.p,n)::cl
 psh:L.cell=true→∀ h:Heap,pushCells h L.scope.names=h.push { cls:=.type "cell",data:=.cell none }
 only:∀ y,L.scope.names.lookup y=some .free→y=L.x
 bind:∀ (pm cdv ct u:Value) (cl:List (Str×Addr)),bindArgs (kla_fn "<lambda>" L.qual L.params L.body L.scope cl pm cdv ct) ⟨[u],[]⟩=pure [(L.p,u)]
def iN (L:LamS)(f c' c:Addr)(h:Heap):Prop:=∃ pm ctv,h.get? f=some (kla_obj "<lambda>" L.qual L.params L.body L.scope [(L.x,c)] pm c' ctv)
def aR (L:LamS)(n:Nat)(c:Addr):List (Str×Addr):=if L.cell then [(L.p,n+1),(L.x,c)] else [(L.x,c)]
def bv (L:LamS)(s:Shared)(f c' c:Addr):Env:=envX L.qual L.scope s.heap.objs.size f (.ref c') (aR L s.heap.objs.size c)
theorem jp {L:LamS}(S:L.Ok)(n:Nat)(c:Addr):(aR L n c).lookup L.x=some c:=by
 unfold aR
 split
 ·rw[Zd,S.ne]
  show ([(L.x,c)]:List (Str×Addr)).lookup L.x=some c
  rw[Zd,ZY]
 ·rw[Zd,ZY]
theorem fg {L:LamS}(h:L.cell=true)(n:Nat)(c:Addr):(aR L n c).lookup L.p=some (n+1):=by
 unfold aR
 rw[Yi h,Zd,ZY]
theorem iC {L:LamS}{n:Nat}{c:Addr}{y:Str}{d:Addr}(e:(aR L n c).lookup y=some d):(y=L.x∧d=c)∨(L.cell=true∧y=L.p∧d=n+1):=by
 have one:∀ {e':([(L.x,c)]:List (Str×Addr)).lookup y=some d},y=L.x∧d=c:=fun {e'}=>by
  rw[Zd] at e'
  split at e'
  ·rename_i q
   cases e'
   exact⟨eq_of_beq q,rfl⟩
  ·cases e'
 unfold aR at e
 split at e
 ·rename_i hc
  rw[Zd] at e
  split at e
  ·rename_i q
   cases e
   exact .inr ⟨hc,eq_of_beq q,rfl⟩
  ·exact .inl (one (e':=e))
 ·exact .inl (one (e':=e))
def gD (CX:CXT)(P:Program)(w:World)(K:Kq)(mg:Ks)(base:Heap)(L:LamS)(f c' c:Addr)(A:Around)(outer:List Env)(s:Shared)(H:Hp)(E:XK):Cx where
 prog:=P
 w:=w
 K:=K
 mg:=mg
 base:=base
 A:=A.deeper (bv L s f c' c)
 N:=[L.p,L.x]
 s₀:=s
 H₀:=H
 env:=bv L s f c' c
 outer:=outer
 stack:=bv L s f c' c::outer
 ex:=[]
 calm:=true
 fn:=fun y=>y != L.x
 pn:=[]
 xe:=fun e s'=>wpAny (model P w) (A.deeper (bv L s f c' c)) (leaving (bv L s f c' c) e) (fun _ s''=>CX outer H s E e s'') (fun e' s''=>CX outer H s E e' s'') s'
theorem gK {CX:CXT}{P:Program}{w:World}{K:Kq}{mg:Ks}{base:Heap}{L:LamS}{f c' c:Addr}{A:Around}{outer:List Env}{s:Shared}{H:Hp}{E:XK}{ua uc:Value}{va vc:V}{h':Heap}{tk:Nat}{m:Ks}
  (S:L.Ok) (hd:A.handled=none) (e0:Env0 P w K mg base A outer s H) (hc:s.heap.IsCell c (some uc)) (hHc:H c=none) (ra:RelV va ua) (rc:RelV vc uc)
  (ns:h'.Ns s.heap.objs.size m) (hm:L.cell=false→m L.p=some ua) (hcl:L.cell=true→h'.IsCell (s.heap.objs.size+1) (some ua)) (hk:∀ (b:Addr) (o:Obj),s.heap.get? b=some o→h'.get? b=some o) :
  Inv (gD CX P w K mg base L f c' c A outer s H E) [] [some va,some vc] H { heap:=h',gens:=s.gens,drawn:=s.drawn,toks:=tk,os:=s.os }:=by
 have clt:c<s.heap.objs.size:=hc.lt
 have cl:∀ y d,(bv L s f c' c).cells.lookup y=some d→(y=L.x∧d=c)∨(L.cell=true∧y=L.p∧d=s.heap.objs.size+1):=fun y d e=>iC e
 have clx:(bv L s f c' c).cells.lookup L.x=some c:=jp S _ _
 have noA:∀ b:Addr,b∉(gD CX P w K mg base L f c' c A outer s H E).ex:=fun b z=>absurd (show b∈([]:List Addr) from z) (by simp)
 have kc:h'.IsCell c (some uc):=by obtain⟨o,h1,h2⟩:=hc;exact⟨o,hk c o h1,h2⟩
 have far:∀ d:Addr,d=c→d=s.heap.objs.size+1→False:=fun d a b=>by
  have q:d<s.heap.objs.size:=a.symm ▸ clt
  rw[b] at q
  exact YJ _ (Zo q (Xs _))
 refine⟨⟨e0.mod,S.kind,rfl,rfl,Yo _,fun y z d h1 h2=>?_,fun y hy=>?_,fun y d hf h=>?_,fun _=>hd,Around.frames_deeper e0.frames,.inr ⟨rfl,rfl⟩,fun b z=>absurd z (noA b),e0.bs,e0.bsz,fun b _ _=>noA b,fun b z=>absurd z (noA b),e0.funs,e0.frf⟩,
  rfl,e0.bare,Un.kept hk,⟨_,ns,fun i y v h1 h2 h3=>?_⟩,fun y d h=>?_,e0.hok.fresh (Yo _),fun y d h=>?_,fun p hp=>absurd (show p∈([]:Kp) from hp) (by simp),e0.hok.kept hk,rfl⟩
 ·rcases cl y d h1 with⟨a1,a2⟩ | ⟨_,a1,a2⟩ <;> rcases cl z d h2 with⟨b1,b2⟩ | ⟨_,b1,b2⟩
  ·exact a1.trans b1.symm
  ·exact (far d a2 b2).elim
  ·exact (far d b2 a2).elim
  ·exact a1.trans b1.symm
 ·have hy:L.scope.names.lookup y=some .cell∨L.scope.names.lookup y=some .free:=hy
  rcases hy with hy | hy
  ·obtain⟨a,b⟩:=S.onc y hy
   rw[a];exact⟨_,fg b _ _⟩
  ·rw[S.only y hy];exact⟨c,clx⟩
 ·have hf':(y != L.x)=true:=hf
  rcases cl y d h with⟨a1,a2⟩ | ⟨_,a1,a2⟩
  ·rw[a1] at hf'
   simp at hf'
  ·rw[a2];exact XF _
 ·have h1':[L.p,L.x][i]?=some y:=h1
  match i,h1',h2 with
  | 0,h1',h2=>
   cases h1'
   cases h2
   cases q:L.cell with
   | false=>exact⟨ua,ra,.inl ⟨by have:=S.par;rw[q] at this;exact this,hm q⟩⟩
   | true=>exact⟨ua,ra,.inr ⟨.inl (by have:=S.par;rw[q] at this;exact this),_,fg q _ _,hcl q⟩⟩
  | 1,h1',h2=>
   cases h1'
   cases h2
   exact⟨uc,rc,.inr ⟨.inr S.fre,c,clx,kc⟩⟩
  | i+2,h1',h2=>cases h1'
 ·rcases cl y d h with⟨a1,a2⟩ | ⟨q,a1,a2⟩
  ·rw[a2];exact⟨_,kc⟩
  ·rw[a2];exact⟨_,hcl q⟩
 ·rcases cl y d h with⟨a1,a2⟩ | ⟨q,a1,a2⟩
  ·rw[a2];exact hHc
  ·rw[a2];exact e0.hok.fresh (XF _)
theorem gS {M:Model}{A:Around}{E:Kv}{s:Shared}{scope:Scope}{globals:Addr}{cl:List (Str×Addr)}{p:Str}{u:Value}{qual:Str}{func:Option Addr}{code:Value}{builtins:Addr}{Q:Env→Shared→Prop}
  (hk:scope.kind=.function) (hp:scope.names.lookup p=some .cell) (hc:∀ n cl,cellsFrom n scope.names cl=(p,n)::cl) (hs:∀ h:Heap,pushCells h scope.names=h.push { cls:=.type "cell",data:=.cell none })
  (hQ:∀ h' tk,h'.Ns s.heap.objs.size (fun _=>none)→h'.IsCell (s.heap.objs.size+1) (some u)→(∀ (b:Addr) (o:Obj),s.heap.get? b=some o→h'.get? b=some o)→
   Q (newEnv scope s.heap.objs.size globals ((p,s.heap.objs.size+1)::cl) qual func code none builtins) { s with heap:=h',toks:=tk }) :
  wpAny M A (newFunctionEnv scope globals cl [(p,u)] qual func code none builtins) Q E s:=by
 simp only[newFunctionEnv,Option.isSome_none,Xe,if_false]
 refine Yd (wpAny_alloc ?_)
 refine Yd (wpAny_layCells _ (fun name kind cells=>by cases hkc:kind == NameKind.cell <;> simp[hkc]) _ _ _ _ ?_)
 have z:(s.heap.push { cls:=.type "frame",data:=.dict #[] }).objs.size=s.heap.objs.size+1:=Zv ..
 show wpAny M A _ Q E { s with heap:=pushCells (s.heap.push { cls:=.type "frame",data:=.dict #[] }) scope.names }
 rw[hs]
 show wpAny M A ((forIn [(p,u)] PUnit.unit fun x r=>(storeName (newEnv scope s.heap.objs.size globals (cellsFrom (s.heap.push { cls:=.type "frame",data:=.dict #[] }).objs.size scope.names cl) qual func code none builtins) x.1 x.2)>>=fun _=>pure (ForInStep.yield PUnit.unit))>>=fun _=>pure (newEnv scope s.heap.objs.size globals (cellsFrom (s.heap.push { cls:=.type "frame",data:=.dict #[] }).objs.size scope.names cl) qual func code none builtins)) Q E _
 rw[z,hc]
 have ic:((s.heap.push { cls:=.type "frame",data:=.dict #[] }).push { cls:=.type "cell",data:=.cell none }).IsCell (s.heap.objs.size+1) none:=⟨_,z ▸ Yk _ rfl,rfl⟩
 have nsn:((s.heap.push { cls:=.type "frame",data:=.dict #[] }).push { cls:=.type "cell",data:=.cell none }).Ns s.heap.objs.size (fun _=>none):=(Heap.Ns.new s.heap (.type "frame")).keeps fun b o e=>Yb _ e
 refine Yd ?_
 rw[Xz]
 refine Yd (Yd (wpAny_storeName_cell (c:=s.heap.objs.size+1) hk hp (by show List.lookup p ((p,s.heap.objs.size+1)::cl)=_;rw[Zd,ZY]) ic fun h' hc' hs'=>Yp ?_))
 show wpAny M A (forIn [] PUnit.unit _) _ _ _
 rw[XC]
 refine Yp (Yp ?_)
 refine hQ h' _ (nsn.sameBut hs' (Yq (Xs _))) hc' fun b o e=>?_
 exact hs'.extBut b o (Yq (Zz (Yg e))) (Yb _ (Yb _ e))
theorem pY {CX:CXT}{P:Program}{w:World}{K:Kq}{mg:Ks}{base:Heap}{L:LamS}{f c' c:Addr}{A:Around}{outer:List Env}{s:Shared}{H:Hp}{E:XK}{ua uc:Value}{va vc:V}{k:Nat}{Q:VK}{t:TE}
  (S:L.Ok) (hr:Room (k+1) A) (e0:Env0 P w K mg base A outer s H) (hl:iN L f c' c s.heap) (hcr:s.heap.CodeRec (.ref c') L.qual) (hc:s.heap.IsCell c (some uc)) (hHc:H c=none) (ra:RelV va ua) (rc:RelV vc uc)
  (hb:PE (gD CX P w K mg base L f c' c A outer s H E) L.body t) (ht:t [some va,some vc] H Q):codeAny (model P w) A (.call (.ref f) ⟨[ua],[]⟩) (CR CX outer P w H s Q E) s:=by
 obtain⟨pm,ctv,hf⟩:=hl
 have lim:s.heap.NoLimit:=e0.mod.nolimit.keeps fun b o e=>(e0.bs b o e).1
 refine kla_callFunE hr.depth hf rfl S.co S.gen rfl hcr ?_
 rw[S.bind]
 refine Yp ?_
 have goOn:∀ h' tk,Inv (gD CX P w K mg base L f c' c A outer s H E) [] [some va,some vc] H { heap:=h',gens:=s.gens,drawn:=s.drawn,toks:=tk,os:=s.os }→
   codeAny (model P w) A (.expr L.body (bv L s f c' c)) (CR CX outer P w H s Q E) { heap:=h',gens:=s.gens,drawn:=s.drawn,toks:=tk,os:=s.os }:=fun h' tk I=>by
  refine kla_codeExpr ?_
  refine Zp (hb [] _ [some va,some vc] H Q I ht) (fun u s' hs=>?_) fun e s' hs=>hs
  obtain⟨v,H',J,rv,q⟩:=hs
  exact⟨v,H',J.os,J.bare,J.base,J.hok,rv,q⟩
 cases q:L.cell with
 | false=>
  have ec:aR L s.heap.objs.size c=[(L.x,c)]:=by unfold aR;rw[q];rfl
  refine wpAny_newFunctionEnv (S.noc q) (fun y hy=>?_) (fun h' ns sb=>?_) S.kind
  ·rw[Zj.mp hy];have:=S.par;rw[q] at this;exact this
  ·have hk:∀ (b:Addr) (o:Obj),s.heap.get? b=some o→h'.get? b=some o:=fun b o e=>by
    rw[sb.2 b (Yq (Yg e))]
    exact Yb _ e
   have I:=gK (CX:=CX) (E:=E) (f:=f) (c':=c') (tk:=s.toks + [(L.p,ua)].length) S hr.hd e0 hc hHc ra rc ns (fun _=>by show List.lookup L.p [(L.p,ua)]=_;rw[Zd,ZY]) (fun z=>by rw[q] at z;cases z) hk
   refine⟨lim.keeps hk,?_⟩
   have g:=goOn _ _ I
   unfold bv at g
   rw[ec] at g
   exact g
 | true=>
  have ec:aR L s.heap.objs.size c=(L.p,s.heap.objs.size+1)::[(L.x,c)]:=by unfold aR;rw[q];rfl
  refine gS S.kind (by have:=S.par;rw[q] at this;exact this) (S.cels q) (S.psh q) fun h' tk ns hcl hk=>?_
  have I:=gK (CX:=CX) (E:=E) (f:=f) (c':=c') (tk:=tk) S hr.hd e0 hc hHc ra rc ns (fun z=>by rw[q] at z;cases z) (fun _=>hcl) hk
  refine⟨lim.keeps hk,?_⟩
  have g:=goOn _ _ I
  unfold bv at g
  rw[ec] at g
  exact g
structure LamIn (X:Cx) (L:LamS) (f c' c:Addr) (uc:Value):Prop where
 lam:iN L f c' c X.s₀.heap
 fH:X.H₀ f=none
 ff:f∉X.fs
 fe:f∉X.ex
 cl:X.s₀.heap.IsCell c (some uc)
 cH:X.H₀ c=none
 cf:c∉X.fs
 ce:c∉X.ex
 cd:∃ o u,X.H₀ c'=some (.frz o u)∧∃ vs t,o.data=.fields vs∧vs[1]?=some (.str L.qual t)
section
variable {X:Cx} {L:LamS} {f c' c:Addr} {uc:Value}
theorem LamIn.now {pz:Kp}{σ:St}{H:Hp}{s:Shared}(h:LamIn X L f c' c uc)(I:Inv X pz σ H s):iN L f c' c s.heap∧s.heap.CodeRec (.ref c') L.qual∧s.heap.IsCell c (some uc)∧H c=none:=by
 obtain⟨pm,ctv,hf⟩:=h.lam
 obtain⟨oc,hc,hd⟩:=h.cl
 obtain⟨o,u,ho,vs,t,e1,e2⟩:=h.cd
 obtain⟨g,_⟩:=I.hok c' _ (I.base.frzs c' o u ho)
 exact⟨⟨pm,ctv,I.base.keep f _ hf h.fH h.ff h.fe⟩,⟨c',o,vs,t,rfl,g,e1,e2⟩,⟨oc,I.base.keep c oc hc h.cH h.cf h.ce,hd⟩,I.base.free c oc hc h.cH h.ce⟩
def rV (i:Nat)(f:Addr)(te:TE)(vc:V)(t:TE):TE:=fun σ H Q=>σ[i]?=some (some (.ref f))∧fq te kW σ H fun vs H1=>∃ va,vs=[va]∧t [some va,some vc] H1 Q
theorem mm {i k:Nat}{x:Str}{p pos:Pos}{e:Expr}{te t:TE}{vc:V}(S:L.Ok)(hl:LamIn X L f c' c uc)(rc:RelV vc uc)(hr:Room (k+1) X.A)(hN:X.N[i]?=some x)(hv:Vis X.env.scope x)(ha:PE X e te)
  (hb:∀ (s:Shared) (H:Hp) (E:XK),PE (gD CX0 X.prog X.w X.K X.mg X.base L f c' c X.A X.stack s H E) L.body t)
  (hd:(x == ("__debug__":Str))=false:=by decide) (hcd:(x == ("__classdict__":Str))=false:=by decide) (he:starEach [e] X.env=(false,eval e X.env)::starEach [] X.env:=by rfl) :
  PE X (.Call (.Name x p) [e] [] pos) (rV i f te vc t):=by
 intro pz s σ H Q I h
 obtain⟨h1,h2⟩:=h
 refine ZK (aL (me hN hv hd hcd pz s σ H (fun v H'=>v=.ref f∧fq te kW σ H' fun vs H1=>∃ va,vs=[va]∧t [some va,some vc] H1 Q) I ⟨_,h1,rfl,h2⟩) fun u s1 v H1 I1 r1 q1=>?_)
 obtain⟨rfl,q1⟩:=q1
 cases r1
 obtain⟨⟨pm,ctv,g⟩,_⟩:=hl.now I1
 refine callWith_def_at g rfl (aL (ar ha aN he pos pz s1 σ H1 _ I1 q1) fun us s2 vs H2 I2 r2 q2=>?_) he
 ·obtain⟨va,rfl,q2⟩:=q2
  obtain⟨g1,g2,g3,g4⟩:=hl.now I2
  obtain⟨pm2,ctv2,g'⟩:=g1
  obtain⟨u1,rfl,ra⟩:=r2.one
  have gg:s2.heap.get? f=s1.heap.get? f:=by
   obtain⟨pm0,ctv0,e0⟩:=hl.lam
   rw[I2.base.keep f _ e0 hl.fH hl.ff hl.fe,I1.base.keep f _ e0 hl.fH hl.ff hl.fe]
  refine⟨gg.trans g,?_⟩
  refine wpAny_call (Xq (pY (CX:=CX0) (E:=E0) S hr I2.env0 ⟨pm2,ctv2,g'⟩ g2 g3 g4 ra rc (hb s2 H2 E0) q2) fun r s' hq=>?_)
  cases r with
  | error e=>exact False.elim hq
  | ok fl=>
   cases fl with
   | ret u=>exact I2.after hq
   | next=>exact False.elim hq
   | brk=>exact False.elim hq
   | cont=>exact False.elim hq
end
def dL (t:Addr)(pos:Pos)(o:Option Value):Heap→Prop:=fun h=>∃ ps,h.get? t=some (tabObj ps)∧TriplesOk ps.toList∧codeAmong pos ps.toList=o
theorem d4 {t:Addr}{pos:Pos}{o:Option Value}:∀ h1 h2:Heap,dL t pos o h1→(∀ ob,h1.get? t=some ob→h2.get? t=some ob)→dL t pos o h2:=
 fun _ _ ⟨ps,h1,h2,h3⟩ k=>⟨ps,k _ h1,h2,h3⟩
def jV:HO:=.ext fun _=>True
def tW (o:Obj)(q:Str):Prop:=∃ vs t,o.data=.fields vs∧vs[1]?=some (.str q t)
structure LamW where
 L:LamS
 t:Addr
 pos:Pos
def lS (W:LamW)(c':Addr)(H:Hp):Prop:=H W.t=some (.ext (dL W.t W.pos (some (.ref c'))))∧∃ o,H c'=some (.frz o jV)∧tW o W.L.qual
def Tab (W:LamW)(H:Hp):Prop:=H W.t=some (.ext (dL W.t W.pos none))∨∃ c',lS W c' H
def qB (W:LamW)(M:Addr→Prop)(H:Hp):Prop:=(H W.t=some (.ext (dL W.t W.pos none))∧∀ c',H c'=none→M c')∨∃ c',lS W c' H∧M c'
structure Grow (t:Addr) (H H':Hp):Prop where
 old:∀ a o,a≠t→H a=some o→H' a=some o
theorem Grow.refl {t:Addr}{H:Hp}:Grow t H H:=⟨fun _ _ _ e=>e⟩
theorem Grow.trans {t:Addr}{H H1 H2:Hp}(a:Grow t H H1)(b:Grow t H1 H2):Grow t H H2:=⟨fun c o n e=>b.old c o n (a.old c o n e)⟩
section
variable {X:Cx} {W:LamW} {c0 c:Addr} {pz:Kp} {σ:St} {H:Hp} {s:Shared} {Q:Kv}
theorem nG {M:Addr→Prop}(I:Inv X pz σ H s)(hT:qB W M H)(hcl:closureFor W.L.scope X.env=pure [(W.L.x,c)])(hco:X.env.code=.ref c0)(hch:codeHdIn X.K c0 W.t=true)(hq:X.env.qual++Str.ofString "<lambda>"=W.L.qual)(hdf:defaultsOf W.L.params X.env=([],[]))(hbl:X.base.BuiltinsAt X.mg W.t)
  (h:∀ f c' H' s',Inv X pz σ H' s'→H' f=none→iN W.L f c' c s'.heap→lS W c' H'→M c'→Grow W.t H H'→(∀ b o,s.heap.get? b=some o→b≠W.t→s'.heap.get? b=some o)→s.heap.objs.size≤f→Q (.ref f) s') :
  wpAny (model X.prog X.w) X.A (eval (.Lambda W.L.params W.L.body W.L.scope W.pos) X.env) Q X.xe s:=by
 have hg:s.heap.Ns mainGlobals X.mg:=I.mod.glob.keeps I.bk
 have hcd:CodeHd s.heap c0 W.t:=codeHd_of_K I.kIn hch
 have hbt:s.heap.BuiltinsAt X.mg W.t:=hbl.keeps I.bk
 refine kla_eval hdf ?_
 rw[hq]
 rcases hT with⟨cold,hM⟩ | ⟨c',⟨warm,o,fz,ho⟩,hM⟩
 ·obtain⟨⟨ps,g1,g2,g3⟩,_,_⟩:=I.hok _ _ cold
  have nt:mainGlobals≠W.t:=fun z=>by
   obtain⟨ob,es,ep,e1,e2,_⟩:=hg
   rw[z,g1] at e1
   cases e1
   cases e2
  refine kla_makeFunction hcl I.ok.glob hg hco hcd g1 g2 g3 nt hbt fun c' ctv h' tk ext lo hi cr tab=>?_
  have fc:H c'=none:=I.hok.fresh lo
  have ct:c'≠W.t:=fun z=>by subst z;rw[cold] at fc;cases fc
  obtain⟨c1,oc,vs,tt,e1,e2,e3,e4⟩:=cr
  cases e1
  have kept:∀ b ob,s.heap.get? b=some ob→b≠W.t→(h'.push (kla_obj "<lambda>" W.L.qual W.L.params W.L.body W.L.scope [(W.L.x,c)] ((X.mg (Str.ofString "__name__")).getD Value.none) c' ctv)).get? b=some ob:=fun b ob e n=>Yb _ (ext b ob n e)
  have H'n:∀ b,b≠W.t→b≠c'→upd (upd H W.t (.ext (dL W.t W.pos (some (.ref c'))))) c' (.frz oc jV) b=H b:=fun b n1 n2=>by rw[ae n2,ae n1]
  have H't:upd (upd H W.t (.ext (dL W.t W.pos (some (.ref c'))))) c' (.frz oc jV) W.t=some (.ext (dL W.t W.pos (some (.ref c')))):=by rw[ae (ZZ ct),ak]
  have oldOf:∀ b u,H b=some u→b≠W.t→upd (upd H W.t (.ext (dL W.t W.pos (some (.ref c'))))) c' (.frz oc jV) b=some u:=fun b u e n=>by rw[H'n b n (fun z=>by subst z;rw[fc] at e;cases e)];exact e
  have neT:∀ b u,H b=some u→(∀ φ,u≠.ext φ)→b≠W.t:=fun b u e n z=>by subst z;rw[cold] at e;cases e;exact n _ rfl
  have hsz:s.heap.objs.size≤h'.objs.size:=Zc (Zh lo hi)
  refine h _ c' (upd (upd H W.t (.ext (dL W.t W.pos (some (.ref c'))))) c' (.frz oc jV)) _ (I.un (t':=tk) ?_ ?_) ?_ ⟨_,ctv,Yk _ rfl⟩ ⟨H't,oc,ak,vs,tt,e3,e4⟩ (hM c' fc) ⟨fun a u n e=>oldOf a u e n⟩ kept hsz
  ·refine⟨fun b ob e n _ _=>kept b ob e (fun z=>by subst z;rw[cold] at n;cases n),fun b ob e n _ _=>⟨ob.slots,kept b ob e (fun z=>by subst z;rw[cold] at n;cases n)⟩,fun b ob e n _=>?_,fun b ob e _=>?_,fun b xs e=>oldOf b _ e (neT b _ e fun _ z=>nomatch z),fun b ob u e=>oldOf b _ e (neT b _ e fun _ z=>nomatch z),fun b ps e=>⟨#[],by rw[oldOf b _ e (neT b _ e fun _ z=>nomatch z)];simp⟩⟩
   ·rw[H'n b (fun z=>by subst z;rw[cold] at n;cases n) (fun z=>by subst z;exact absurd (Yh (Yg e) lo) (YJ _))]
    exact n
   ·by_cases hb:b=W.t
    ·subst hb;exact⟨_,Yb _ tab⟩
    ·exact⟨ob,kept b ob e hb⟩
  ·intro b u e
   by_cases hbc:b=c'
   ·subst hbc
    rw[ak] at e
    cases e
    exact⟨Yb _ e2,trivial,⟨_,Yb _ e2⟩,fun _ _ _ _=>trivial⟩
   ·by_cases hbt':b=W.t
    ·subst hbt'
     rw[H't] at e
     cases e
     refine⟨⟨_,Yb _ tab,?_,?_⟩,⟨_,Yb _ tab⟩,d4⟩
     ·rw[Array.toList_append];exact TriplesOk_snoc _ _ _ _ g2
     ·rw[Array.toList_append];exact codeAmong_snoc _ g2 g3
    ·rw[H'n b hbt' hbc] at e
     refine (I.hok b u e).stay (fun d v hd r=>kept d v r ?_) (fun d r=>oldOf d _ r (neT d _ r fun _ z=>nomatch z)) fun d xs r=>oldOf d _ r (neT d _ r fun _ z=>nomatch z)
     rcases hd with rfl | hd
     ·exact hbt'
     ·exact neT d _ hd fun _ z=>nomatch z
  ·have l1:W.t<s.heap.objs.size:=(I.hok _ _ cold).lt
   exact (H'n _ (Zn (Yh l1 hsz)) (Zn hi)).trans (I.hok.fresh hsz)
 ·obtain⟨⟨ps,g1,g2,g3⟩,_,_⟩:=I.hok _ _ warm
  refine kla_makeFunctionHit hcl I.ok.glob hg hco hcd g1 g2 g3 hbt fun ctv h' tk kp hsz=>?_
  have kept:∀ b ob,s.heap.get? b=some ob→(h'.push (kla_obj "<lambda>" W.L.qual W.L.params W.L.body W.L.scope [(W.L.x,c)] ((X.mg (Str.ofString "__name__")).getD Value.none) c' ctv)).get? b=some ob:=fun b ob e=>Yb _ (kp b ob e)
  exact h _ c' H _ (I.kept (t':=tk) kept) (I.hok.fresh hsz) ⟨_,ctv,Yk _ rfl⟩ ⟨warm,o,fz,ho⟩ hM Grow.refl (fun b ob e _=>kept b ob e) hsz
end
def HO.pl:HO→Bool
 | .lst _=>true
 | .tup _=>true
 | .dT _=>true
 | .dK _=>true
 | .ins _ _ _=>true
 | _=>false
theorem ORep1.pl {K:Kq}{F:Hp}{o:OD}{u:HO}(h:ORep1 K F o u):u.pl=true:=by
 cases o <;> cases u <;> first | exact h.elim | rfl
theorem ORep.monoP {K:Kq}{F F' H H':Hp}{ow ow':Addr→Prop}{o:OD}{a:Addr}(e:Same F F')(k:∀ b u,u.pl=true→ow b→H b=some u→H' b=some u∧ow' b)(h:ORep K F H ow o a):ORep K F' H' ow' o a:=by
 by_cases f:o.flat=true
 ·obtain⟨h1,u,h2,h3⟩:=(ORep.flat f).mp h
  obtain⟨k1,k2⟩:=k a u h3.pl h1 h2
  exact (ORep.flat f).mpr ⟨k2,u,k1,h3.same e⟩
 ·cases o with
  | lst2 dss=>
   obtain⟨h1,bs,h2,h3,h4⟩:=h
   obtain⟨k1,k2⟩:=k a _ rfl h1 h2
   exact⟨k2,bs,k1,h3,h4.imp fun b ds ⟨q1,u,q2,q3⟩=>by obtain⟨c1,c2⟩:=k b u (ORep1.pl q3) q1 q2;exact⟨c2,u,c1,q3.same e⟩⟩
  | tup2 dss=>
   obtain⟨h1,bs,h2,h3,h4⟩:=h
   obtain⟨k1,k2⟩:=k a _ rfl h1 h2
   exact⟨k2,bs,k1,h3,h4.imp fun b ds ⟨q1,u,q2,q3⟩=>by obtain⟨c1,c2⟩:=k b u (ORep1.pl q3) q1 q2;exact⟨c2,u,c1,q3.same e⟩⟩
  | _=>exact absurd rfl f
theorem Tab.ext {W:LamW}{P:Hp}(T:Tab W P):∃ φ,P W.t=some (.ext φ):=by
 rcases T with h | ⟨_,h,_⟩
 ·exact⟨_,h⟩
 ·exact⟨_,h⟩
noncomputable def grP (t:Addr)(P c:Hp):Hp:=fun a=>open Classical in if P a≠none∨a=t∨(∃ o,c a=some (.frz o jV)) then c a else none
section
variable {K:Kq} {W:LamW} {P F H F' H' c:Hp} {ρ:DF} {σ:St}
theorem g_ {t a:Addr}{o:HO}(h:grP t P c a=some o):c a=some o:=by
 unfold grP at h
 split at h
 ·exact h
 ·cases h
theorem gU {t a:Addr}(h:P a≠none∨a=t∨(∃ o,c a=some (.frz o jV))):grP t P c a=c a:=by unfold grP;exact Yi h
structure Grew (W:LamW) (F H F' H' c:Hp):Prop where
 ext:Same F F'
 hp:DHp c F' H'
 old:∀ a o,a≠W.t→H a=some o→F a=none→c a=some o
 tab:Tab W c
theorem Grew.tabP (g:Grew W F H F' H' c):Tab W (grP W.t P c):=by
 rcases g.tab with h | ⟨c',h,o,h1,h2⟩
 ·exact .inl ((gU (.inr (.inl rfl))).trans h)
 ·exact .inr ⟨c',(gU (.inr (.inl rfl))).trans h,o,(gU (.inr (.inr ⟨o,h1⟩))).trans h1,h2⟩
theorem Grew.grow (g:Grew W F H F' H' c)(hp:DHp P F H):Grow W.t P (grP W.t P c):=⟨fun a o n e=>(gU (.inl (by rw[e];simp))).trans (g.old a o n (hp.pro a o e) (hp.dis a o e))⟩
theorem Grew.hpP (g:Grew W F H F' H' c):DHp (grP W.t P c) F' H':=⟨g.hp.sub,fun a o e=>g.hp.pro a o (g_ e),fun a o e=>g.hp.dis a o (g_ e)⟩
theorem Grew.own (g:Grew W F H F' H' c)(T:Tab W P){b:Addr}{u:HO}(hu:u.pl=true)(h1:F b=none)(h2:P b=none)(h3:H b=some u):H' b=some u∧F' b=none∧grP W.t P c b=none∧c b≠none:=by
 have bt:b≠W.t:=fun z=>by subst z;obtain⟨φ,e⟩:=T.ext;rw[e] at h2;cases h2
 have e:=g.old b u bt h3 h1
 refine⟨g.hp.pro b u e,g.hp.dis b u e,?_,by rw[e];simp⟩
 unfold grP
 refine Yl ?_
 rintro (z | z | ⟨o,z⟩)
 ·exact z h2
 ·exact bt z
 ·rw[e] at z;cases z;cases hu
theorem Grew.dv (g:Grew W F H F' H' c)(hp:DHp P F H)(T:Tab W P){ow ow':Addr→Prop}(hw:∀ b,c b≠none→ow b→ow' b){x:DV}{v:V}(r:DVRep K P F H ow x v):DVRep K (grP W.t P c) F' H' ow' x v:=by
 cases x with
 | v d=>exact Rep.same g.ext r
 | own o t=>
  obtain⟨a,rfl,h,ht⟩:=r
  exact⟨a,rfl,h.monoP g.ext fun b u hu ⟨q1,q2,q3⟩ hb=>by
   obtain⟨z1,z2,z3,z4⟩:=g.own T hu q1 q2 hb
   exact⟨z1,z2,z3,hw b z4 q3⟩,ht⟩
 | bor o=>
  obtain⟨a,rfl,h⟩:=r
  exact⟨a,rfl,h.monoP g.ext fun b u hu q hb=>⟨by
   have bt:b≠W.t:=fun z=>by subst z;obtain⟨φ,e⟩:=T.ext;rw[e] at hb;cases hb;cases hu
   exact (g.grow hp).old b u bt hb,q⟩⟩
theorem Grew.inv (g:Grew W F H F' H' c)(I:DInv K P F H ρ σ)(T:Tab W P):DInv K (grP W.t P c) F' H' ρ σ:=
 ⟨g.hpP,I.len,by obtain⟨O,h⟩:=I.rep;exact⟨O,fun i x hx=>by obtain⟨v,h1,h2⟩:=h i x hx;exact⟨v,h1,g.dv I.toDHp T (fun _ _ q=>q) h2⟩⟩⟩
theorem Grew.setO (g:Grew W F H F' H' c)(I:DInv K P F H ρ σ)(T:Tab W P){i:Nat}{o:OD}{a:Addr}(ho:ORep K F' H' (fun b=>F' b=none∧c b=none) o a):DInv K (grP W.t P c) F' H' (ρ.set i (some (.own o none))) (σ.set i (some (.ref a))):=by
 obtain⟨O,h⟩:=I.rep
 classical
 refine⟨g.hpP,by rw[Yy,Yy];exact I.len,fun b=>if c b=none then some i else O b,fun m x hm=>?_⟩
 rcases bz hm with⟨rfl,e,hl⟩ | ⟨him,hm'⟩
 ·cases e
  refine⟨.ref a,by rw[YI (by rw[← I.len];exact hl)],a,rfl,ho.mono (Same.refl _) fun b u q hb=>⟨hb,q.1,?_,Yi q.2⟩,fun _ z=>nomatch z⟩
  cases z:grP W.t P c b with
  | none=>rfl
  | some y=>rw[g_ z] at q;cases q.2
 ·obtain⟨v,h1,h2⟩:=h m x hm'
  refine⟨v,by rw[Yz him];exact h1,g.dv I.toDHp T (fun b hb q=>?_) h2⟩
  exact (Yl hb).trans q
end
def EndsT (W:LamW)(K:Kq)(P F:Hp)(E:Ends):RES→Prop
 | .nx ρ=>∀ σ P' F' H',Same F F'→Grow W.t P P'→Tab W P'→DInv K P' F' H' ρ σ→E.nx σ H'
 | .bk ρ=>∀ σ P' F' H',Same F F'→Grow W.t P P'→Tab W P'→DInv K P' F' H' ρ σ→E.bk σ H'
 | .ct ρ=>∀ σ P' F' H',Same F F'→Grow W.t P P'→Tab W P'→DInv K P' F' H' ρ σ→E.ct σ H'
 | .rt x ρ=>∀ v σ P' F' H',Same F F'→Grow W.t P P'→Tab W P'→DInv K P' F' H' ρ σ→DVRep K P' F' H' fQ x v→E.rt v H'
theorem EndsT.on {W:LamW}{K:Kq}{P P1 F F1:Hp}{E:Ends}{r:RES}(h:EndsT W K P F E r)(e:Same F F1)(g:Grow W.t P P1):EndsT W K P1 F1 E r:=by
 cases r with
 | nx ρ=>exact fun σ P' F' H' e' g' T I=>h σ P' F' H' (e.trans e') (g.trans g') T I
 | bk ρ=>exact fun σ P' F' H' e' g' T I=>h σ P' F' H' (e.trans e') (g.trans g') T I
 | ct ρ=>exact fun σ P' F' H' e' g' T I=>h σ P' F' H' (e.trans e') (g.trans g') T I
 | rt x ρ=>exact fun v σ P' F' H' e' g' T I r=>h v σ P' F' H' (e.trans e') (g.trans g') T I r
theorem EndsT.d {W:LamW}{K:Kq}{P F:Hp}{E:Ends}{r:RES}(h:EndsT W K P F E r)(T:Tab W P):EndsD K P F E r:=by
 cases r with
 | nx ρ=>exact fun σ F' H' e I=>h σ P F' H' e Grow.refl T I
 | bk ρ=>exact fun σ F' H' e I=>h σ P F' H' e Grow.refl T I
 | ct ρ=>exact fun σ F' H' e I=>h σ P F' H' e Grow.refl T I
 | rt x ρ=>exact fun v σ F' H' e I r=>h v σ P F' H' e Grow.refl T I r
def tST (W:LamW)(K:Kq)(g:Dw):TS:=fun E σ H=>∃ P F ρ r,g ρ=some r∧DInv K P F H ρ σ∧Tab W P∧EndsT W K P F E r
def PT1 (X:Cx)(W:LamW)(st:Stmt)(g:Dw):Prop:=PS X st (tST W X.K g)
def PTS (X:Cx)(W:LamW)(sts:List Stmt)(g:Dw):Prop:=PSs X sts (tST W X.K g)
section
variable {X:Cx} {W:LamW} {st:Stmt} {aJ sts:List Stmt} {g h:Dw} {pos:Pos}
theorem cz (hd:PD1 X st g):PT1 X W st g:=PS.imp hd fun E σ H ⟨P,F,ρ,r,hg,I,T,k⟩=>⟨P,F,ρ,r,hg,I,k.d T⟩
theorem gZ (h1:PT1 X W st g):PTS X W [st] g:=PSs.imp (g9 h1) fun _ _ _ q=>q
theorem aP (h1:PT1 X W st g)(h2:PTS X W aJ h):PTS X W (st::aJ) (aq g h):=PSs.imp (iw h1 h2) fun E σ H ⟨P,F,ρ,r,hg,I,T,k⟩=>by
 unfold aq at hg
 split at hg
 ·rename_i ρ' q
  exact⟨P,F,ρ,_,q,I,T,fun σ' P' F' H' e gr T' I'=>⟨P',F',ρ',r,hg,I',T',k.on e gr⟩⟩
 ·rename_i q
  refine⟨P,F,ρ,r,hg,I,T,?_⟩
  cases r with
  | nx ρ'=>exact absurd hg (q ρ')
  | bk ρ=>exact k
  | ct ρ=>exact k
  | rt x ρ=>exact k
def lh (t:Addr)(P:Hp):Hp:=fun a=>if a=t then none else P a
theorem b0 {t a:Addr}{P:Hp}{o:HO}:lh t P a=some o↔a≠t∧P a=some o:=by
 unfold lh
 by_cases h:a=t
 ·rw[Yi h];simp[h]
 ·rw[Yl h];simp[h]
theorem DInv.off {K:Kq}{P F H:Hp}{ρ:DF}{σ:St}(I:DInv K P F H ρ σ)(T:Tab W P):DInv K (lh W.t P) F H ρ σ:=
 ⟨⟨I.sub,fun a o e=>I.pro a o (b0.mp e).2,fun a o e=>I.dis a o (b0.mp e).2⟩,I.len,by
  obtain⟨O,h⟩:=I.rep
  refine⟨O,fun i x hx=>?_⟩
  obtain⟨v,h1,h2⟩:=h i x hx
  refine⟨v,h1,?_⟩
  cases x with
  | v d=>exact h2
  | own o t=>
   obtain⟨a,rfl,z,ht⟩:=h2
   exact⟨a,rfl,z.mono (Same.refl _) fun b u q hb=>⟨hb,q.1,(by unfold lh;split <;> first | rfl | exact q.2.1),q.2.2⟩,ht⟩
  | bor o=>
   obtain⟨a,rfl,z⟩:=h2
   exact⟨a,rfl,z.monoP (Same.refl _) fun b u hu q hb=>⟨b0.mpr ⟨(fun z=>by subst z;obtain⟨φ,e⟩:=T.ext;rw[e] at hb;cases hb;cases hu),hb⟩,q⟩⟩⟩
theorem rg {t:Addr}{P P' F' H':Hp}(g:Grow t P P')(h:DHp P' F' H'):DHp (lh t P) F' H':=
 ⟨h.sub,fun a o e=>h.pro a o (g.old a o (b0.mp e).1 (b0.mp e).2),fun a o e=>h.dis a o (g.old a o (b0.mp e).1 (b0.mp e).2)⟩
theorem pd {tg iter:Expr}{body:List Stmt}{f:Dl}{is:List Nat}{st:Dq}(hp:PassesOwn (model X.prog X.w) X.A X.env X.xe)(hc:X.calm=true)(hi:PDI X tg iter f)(hg:PDG X tg is st)(hb:PTS X W body g)
  (hs:∀ x,foldedSetIterable iter X.env x=pure x:=by intro _;rfl):PT1 X W (.For tg iter body [] pos) (bD f st g):=PS.imp (jS hp hc hi hg hb hs) fun E σ H ⟨P,F,ρ,r,hr,I,T,k⟩=>by
 unfold bD at hr
 cases q:f ρ with
 | none=>rw[q] at hr;cases hr
 | some ds=>
  rw[q,Ya] at hr
  refine⟨lh W.t P,F,ρ,ds,q,I.off T,fun J F1 H1 ev0 ok=>?_⟩
  have ev:Evo P F H F1 H1:=ev0.change I.toDHp
  refine⟨fun i m σ' H'=>m=ds.length-i∧i≤ds.length∧∃ P' F' ρ',Same F1 F'∧Grow W.t P P'∧Tab W P'∧DInv X.K P' F' H' ρ' σ'∧bY st g (ds.drop i) ρ'=some r,⟨_,rfl,YG _,P,F1,ρ,Same.refl _,Grow.refl,T,I.evo ev,hr⟩,?_⟩
  rintro i m σ' H' ⟨rfl,hil,P',F',ρ',se,gr,T',I',hf⟩
  obtain⟨ok1,ok2⟩:=ok F' H' se (rg gr I'.toDHp) i
  by_cases hlt:i<ds.length
  ·have hd:ds[i]?=some ds[i]:=Yw hlt
   obtain⟨go,yl⟩:=ok1 _ hd
   have hdrop:ds.drop i=ds[i]::ds.drop (i+1):=ZV hlt
   rw[hdrop] at hf
   unfold bY at hf
   cases hst:st ds[i] ρ' with
   | none=>rw[hst] at hf;cases hf
   | some ρ1=>
    rw[hst] at hf
    dsimp only at hf
    refine .inr ⟨go,fun σ2 H2=>∃ P2 F2 ρ2,Same F1 F2∧Grow W.t P P2∧Tab W P2∧DInv X.K P2 F2 H2 ρ2 σ2∧bY st g (ds.drop (i+1)) ρ2=some r,fun σ2 H2 ⟨P2,F2,ρ2,s2,g2,T2,I2,hf2⟩=>⟨ds.length-(i+1),by omega,rfl,hlt,P2,F2,ρ2,s2,g2,T2,I2,hf2⟩,fun x H2 hy=>?_⟩
    obtain⟨F2,ev20,rx⟩:=yl x H2 hy
    have ev2:Evo P' F' H' F2 H2:=ev20.change I'.toDHp
    refine⟨P',F2,ρ',ds[i],ρ1,hst,I'.evo ev2,rx,fun σ3 F3 H3 ev3 I3 _ _=>?_⟩
    have s13:Same F1 F3:=se.trans (ev2.ext.trans ev3.ext)
    cases hb':g ρ1 with
    | none=>rw[hb'] at hf;cases hf
    | some res=>
     rw[hb'] at hf
     refine⟨P',F3,ρ1,res,hb',I3,T',?_⟩
     cases res with
     | nx ρ4=>exact fun σ4 P4 F4 H4 e4 g4 T4 I4=>⟨P4,F4,ρ4,s13.trans e4,gr.trans g4,T4,I4,hf⟩
     | ct ρ4=>exact fun σ4 P4 F4 H4 e4 g4 T4 I4=>⟨P4,F4,ρ4,s13.trans e4,gr.trans g4,T4,I4,hf⟩
     | bk ρ4=>
      cases hf
      exact fun σ4 P4 F4 H4 e4 g4 T4 I4=>k σ4 P4 F4 H4 (ev.ext.trans (s13.trans e4)) (gr.trans g4) T4 I4
     | rt x4 ρ4=>
      cases hf
      exact fun v4 σ4 P4 F4 H4 e4 g4 T4 I4 r4=>k v4 σ4 P4 F4 H4 (ev.ext.trans (s13.trans e4)) (gr.trans g4) T4 I4 r4
  ·have hz:ds.drop i=[]:=ZJ (by omega)
   rw[hz] at hf
   cases hf
   exact .inl ⟨ok2 (by omega),k σ' P' F' H' (ev.ext.trans se) gr T' I'⟩
end
structure FunD (K:PySem.W.Frag) (x qual:Str) (st:Stmt) (f:Addr) (fd:FuncData):Prop where
 ex:∃ (oc:Value) (od:Option Addr) (T:Addr) (kV doc pm:Value) (an:Option Addr) (cdv ct:Value) (osl:Array (Option Value)) (ot:Obj) (nt:Nat),
  fd=fnOf x qual (defArgs st) (defBody st) (defScope st) (.ref T) kV doc pm an cdv ct∧K.lookup f=some ⟨oc,od,.func fd,osl⟩∧codeIn K cdv qual=true∧K.lookup T=some ot∧ot.data=.seq #[Value.none] nt
 kp:keepIn K (.ref f)=true
theorem FunD.binds {K:Kq}{x qual:Str}{st:Stmt}{f:Addr}{fd:FuncData}{ps:List Str}(F:FunD K x qual st f fd)
  (h:∀ (T:Addr) (kV doc pm:Value) (an:Option Addr) (cdv ct:Value) (us:List Value),us.length+1=ps.length→∃ k:Option (Array Value)→Sem (List (Str×Value)),bindArgs (fnOf x qual (defArgs st) (defBody st) (defScope st) (.ref T) kV doc pm an cdv ct) ⟨us,[]⟩=seqItems? (.ref T)>>=k∧k (some #[Value.none])=pure (ps.zip (us++[Value.none]))):Binds K fd ps [Value.none]:=by
 obtain⟨oc,od,T,kV,doc,pm,an,cdv,ct,osl,ot,nt,rfl,lk,hcd,lt,dt⟩:=F.ex
 intro s us KX hl
 obtain⟨k,h1,h2⟩:=h T kV doc pm an cdv ct us (by rw[YE,ZO] at hl;exact hl)
 exact BindsTo.of_defaults rfl (KX _ _ lt) dt h1 h2
def nH (P:Program)(w:World)(K:Kq)(mg:Ks)(base:Heap)(k:Nat)(f:Addr)(fd:FuncData)(ps:List Str)(sp:List Env→Shared→Sp):Prop:=
 ∀ (A:Around) (outer:List Env) (s:Shared) (H:Hp) (args:Args) (us:List Value) (vs:List V) (Q:VK) (E:XK),Room k A→Env0 P w K mg base A outer s H→BindsTo s fd args (ps.zip us)→Vals vs us→vs.length=ps.length→sp outer s vs H Q E→
  codeAny (model P w) A (.call (.ref f) args) (CR CX0 outer P w H s Q E) s
theorem rB {P:Program}{w:World}{K:Kq}{mg:Ks}{base:Heap}{k:Nat}{f:Addr}{name qual:Str}{params:Arguments}{body:List Stmt}{scope:Scope}{dV kV doc pm cdv ct oc:Value}{an od:Option Addr}
  {osl:Array (Option Value)} {N ps:List Str} {sp:List Env→Shared→Sp} (lk:K.lookup f=some ⟨oc,od,.func (fnOf name qual params body scope dV kV doc pm an cdv ct),osl⟩) (hcd:codeIn K cdv qual=true) (S:FnScope N ps scope)
  (hbody:∀ (A:Around) (outer:List Env) (s:Shared) (H:Hp) (vs:List V) (Q:VK) (E:XK),Room k (A.deeper (envOfC qual scope s.heap.objs.size f cdv))→sp outer s vs H Q E→
   ∃ t,PSs (de CX0 P w K mg base N qual scope f cdv A outer s H E) body t∧t { nx:=fun _ H'=>Q .non H',rt:=Q } (start N vs) H) :
  nH P w K mg base (k+1) f (fnOf name qual params body scope dV kV doc pm an cdv ct) ps sp:=by
 intro A outer s H args us vs Q E hr e0 hb r hl hsp
 have KX:K.In s.heap:=e0.mod.kin.keeps fun b o e=>(e0.bs b o e).1
 have lim:s.heap.NoLimit:=e0.mod.nolimit.keeps fun b o e=>(e0.bs b o e).1
 have hkind:∀ y∈ps.zip us,scope.names.lookup y.1=some .local∨(scope.names.lookup y.1=some .cell∧((cellsFrom (s.heap.objs.size+1) scope.names []).lookup y.1).isSome=true):=fun ⟨n,v⟩ hy=>by
  rcases S.par n (Xy hy).1 with q | q
  ·exact .inl q
  ·exact .inr ⟨q,cellsFrom_some _ _ _ (.inl q)⟩
 refine codeAny_call_function hr.depth (KX _ _ lk) rfl S.co S.gen rfl (codeRec_of KX hcd) (hb _ _ _ _ ?_)
 refine wpAny_newFunctionEnv_cells S.kind hkind fun env he s1 x=>?_
 subst he
 refine⟨lim.keeps x.toInCall.keep,codeAny_func ?_⟩
 obtain⟨t,ht,hq⟩:=hbody A outer s H vs Q E (hr.deeper _) hsp
 have I:Inv (de CX0 P w K mg base N qual scope f cdv A outer s H E) [] (start N vs) H s1:=gN S hr.hd e0 hl r x
 refine Zp (ht [] s1 (start N vs) H _ I hq) (fun fl s' hs=>?_) fun e s' hs=>hs
 have fin:∀ {σ':St} {H':Hp} {v:V} {u:Value},Inv (de CX0 P w K mg base N qual scope f cdv A outer s H E) [] σ' H' s'→RelV v u→Q v H'→CE outer P w H s Q u s':=
  fun {σ' H' v u} J rv q=>⟨v,H',J.os,J.bare,J.base,J.hok,rv,q⟩
 cases fl with
 | ret u=>
  obtain⟨v,σ',H',J,rv,q⟩:=hs
  exact fin J rv q
 | next=>
  obtain⟨σ',H',J,q⟩:=hs
  exact fin (v:=V.non) (u:=Value.none) J rfl q
 | brk=>
  obtain⟨_,_,_,q⟩:=hs
  exact False.elim q
 | cont=>
  obtain⟨_,_,_,q⟩:=hs
  exact False.elim q
structure LamNow (W:LamW) (f c' c:Addr) (uc:Value) (outer:List Env) (s:Shared) (H:Hp):Prop where
 lam:iN W.L f c' c s.heap
 fH:H f=none
 ff:f∉frs outer
 cl:s.heap.IsCell c (some uc)
 cH:H c=none
 cf:c∉frs outer
 cd:∃ o u,H c'=some (.frz o u)∧∃ vs t,o.data=.fields vs∧vs[1]?=some (.str W.L.qual t)
def spR (W:LamW)(K:Kq)(n:Nat)(gR:Addr→V→D→DF→Option RES):List Env→Shared→Sp:=fun outer s vs H Q _=>∃ f c' c uc vc dc v0 v2 x0 x2 x P F,vs=[v0,.ref f,v2]∧LamNow W f c' c uc outer s H∧RelV vc uc ∧
 ba (gR f vc dc (aO n 3 [x0,.v (.fn f vc dc),x2]))=some x∧DHp P F H∧DVs K P F H [x0,.v (.fn f vc dc),x2] vs∧∀ v F' H',Same F F'→DHp P F' H'→DVRep K P F' H' fQ x v→Q v H'
theorem FunD.okR {W:LamW}{P:Program}{w:World}{K:Kq}{mg:Ks}{base:Heap}{x qual:Str}{st:Stmt}{f0:Addr}{fd:FuncData}{N ps:List Str}{k:Nat}{gR:Addr→V→D→DF→Option RES}(F:FunD K x qual st f0 fd)(S:FnScope N ps (defScope st))(h3:ps.length=3)
  (hbody:∀ (cdv:Value) (A:Around) (outer:List Env) (s:Shared) (H:Hp) (E:XK) (f c' c:Addr) (uc:Value) (vc:V) (dc:D),Room k (A.deeper (envOfC qual (defScope st) s.heap.objs.size f0 cdv))→
   LamIn (de CX0 P w K mg base N qual (defScope st) f0 cdv A outer s H E).nox W.L f c' c uc→RelV vc uc→PDS (de CX0 P w K mg base N qual (defScope st) f0 cdv A outer s H E).nox (defBody st) (gR f vc dc)):nH P w K mg base (k+1) f0 fd ps (spR W K N.length gR):=by
 obtain⟨oc,od,T,kV,doc,pm,an,cdv,ct,osl,ot,nt,rfl,lk,hcd,lt,dt⟩:=F.ex
 refine rB lk hcd S fun A outer s H vs Q E hr h=>?_
 obtain⟨f,c',c,uc,vc,dc,v0,v2,x0,x2,x,P',F',rfl,ln,rc,hg,hp,hv,hQ⟩:=h
 have li:LamIn (de CX0 P w K mg base N qual (defScope st) f0 cdv A outer s H E).nox W.L f c' c uc:=⟨ln.lam,ln.fH,ln.ff,(fun z=>absurd (show f∈([]:List Addr) from z) (by simp)),ln.cl,ln.cH,ln.cf,(fun z=>absurd (show c∈([]:List Addr) from z) (by simp)),ln.cd⟩
 refine⟨_,PSs.nox (hbody cdv A outer s H E f c' c uc vc dc hr li rc),?_⟩
 have I:DInv K P' F' H (aO N.length 3 [x0,.v (.fn f vc dc),x2]) (start N [v0,.ref f,v2]):=DInv.start N 3 hp hv rfl
 cases q:gR f vc dc (aO N.length 3 [x0,.v (.fn f vc dc),x2]) with
 | none=>rw[q] at hg;cases hg
 | some r=>
  rw[q] at hg
  refine⟨P',F',_,r,q,I,?_⟩
  cases r with
  | rt y ρ=>cases hg;exact fun v σ F2 H2 e h r=>hQ v F2 H2 e h.toDHp r
  | nx ρ=>cases hg;exact fun σ F2 H2 e h=>hQ .non F2 H2 e h.toDHp .non
  | bk ρ=>cases hg
  | ct ρ=>cases hg
def rP (W:LamW)(K:Kq)(n j:Nat)(gR:Addr→V→D→DF→Option RES)(te:TE):TE:=fun σ H Q=>te σ H fun v0 H1=>∃ M,qB W M H1∧∀ f c' H2,Grow W.t H1 H2→lS W c' H2→M c'→H2 f=none→
 ∃ vc dc x0 x P F,σ[j]?=some (some vc)∧ba (gR f vc dc (aO n 3 [x0,.v (.fn f vc dc),.v .non]))=some x∧DHp P F H2∧DVs K P F H2 [x0,.v (.fn f vc dc),.v .non] [v0,.ref f,.non]∧∀ v F' H',Same F F'→DHp P F' H'→DVRep K P F' H' fQ x v→Q v H'
section
variable {X:Cx} {W:LamW} {k n j:Nat} {f0 c0 c:Addr} {fd:FuncData} {ps:List Str} {gR:Addr→V→D→DF→Option RES} {x:Str} {p pos:Pos} {e:Expr} {te:TE}
theorem nK (R:nH X.prog X.w X.K X.mg X.base k f0 fd ps (spR W X.K n gR))(h3:ps.length=3)(hr:Room k X.A)(hg:Gl X x)(hm:X.mg x=some (.ref f0))(hk:keepIn X.K (.ref f0)=true)(hb:Binds X.K fd ps [Value.none])(ha:PE X e te)
  (hcl:closureFor W.L.scope X.env=pure [(W.L.x,c)]) (hcc:X.env.cells.lookup W.L.x=some c) (hck:X.env.kindOf W.L.x=some .cell) (hfn:X.fn W.L.x=true) (hj:X.N[j]?=some W.L.x) (hco:X.env.code=.ref c0) (hch:codeHdIn X.K c0 W.t=true) (hq:X.env.qual++Str.ofString "<lambda>"=W.L.qual) (hdf:defaultsOf W.L.params X.env=([],[])) (hbl:X.base.BuiltinsAt X.mg W.t)
  (hd:(x == ("__debug__":Str))=false:=by decide) (he:starEach [e,.Lambda W.L.params W.L.body W.L.scope W.pos] X.env=(false,eval e X.env)::starEach [.Lambda W.L.params W.L.body W.L.scope W.pos] X.env:=by rfl)
  (he1:starEach [.Lambda W.L.params W.L.body W.L.scope W.pos] X.env=(false,eval (.Lambda W.L.params W.L.body W.L.scope W.pos) X.env)::starEach [] X.env:=by rfl) (hpl:(backTo pos (starEach [.Lambda W.L.params W.L.body W.L.scope W.pos] X.env)).any (·.1)=false:=by rfl) :
  PE X (.Call (.Name x p) [e,.Lambda W.L.params W.L.body W.L.scope W.pos] [] pos) (rP W X.K n j gR te):=by
 intro pz s σ H Q I h
 refine ZK (km I hg hm ?_ hd)
 refine callWith_K (h₀:=X.base) I.ok.mod.kin hk ?_ he hpl
 rw[he]
 show wpAny _ _ (spliced ((false,eval e X.env)::backTo pos (starEach [.Lambda W.L.params W.L.body W.L.scope W.pos] X.env))) _ _ s
 refine Calls.spliced_cons (aL (ha pz s σ H _ I h) fun u0 s1 v0 H1 I1 r1 q1=>?_)
 obtain⟨M,T1,q1⟩:=q1
 rw[he1]
 show wpAny _ _ (spliced ((false,eval (.Lambda W.L.params W.L.body W.L.scope W.pos) X.env)::backTo pos (starEach [] X.env))) _ _ s1
 refine Calls.spliced_cons (nG I1 T1 hcl hco hch hq hdf hbl fun f c' H2 s2 I2 hf2 la wa hM gr kp hfs=>?_)
 refine Calls.spliced_nil ⟨I2.kIn,?_⟩
 obtain⟨vc,dc,x0,x',P,F,hσ,hret,hp,hv,hQ⟩:=q1 f c' H2 gr wa hM hf2
 obtain⟨m,hn,hl⟩:=I2.loc
 obtain⟨uc,rc,look⟩:=hl j W.L.x vc hj hσ (.inr (.inl hck))
 have hcell:s2.heap.IsCell c (some uc):=by
  rcases look with⟨z,_⟩ | ⟨_,c1,e1,e2⟩
  ·rw[hck] at z;cases z
  ·rw[hcc] at e1;cases e1;exact e2
 have inS:∀ b∈frs X.stack,b<s1.heap.objs.size∧(b=X.env.locals∨b<X.s₀.heap.objs.size):=fun b hb=>by
  rcases Ys.mp (I1.stkSub b hb) with z | z
  ·subst z;exact⟨I1.lt,.inl rfl⟩
  ·obtain⟨_,o,ho,_⟩:=I1.ok.funs.mem z
   exact⟨Yh (Yg ho) I1.sz,.inr (Yg ho)⟩
 have ln:LamNow W f c' c uc X.stack s2 H2:=by
  refine⟨la,hf2,fun z=>absurd (Yh (inS f z).1 hfs) (YJ _),hcell,I2.freeC _ _ hcc,fun z=>?_,?_⟩
  ·rcases (inS c z).2 with y | y
   ·exact I2.cne _ _ hcc y
   ·exact absurd (Yh y (I2.ok.cab _ _ hfn hcc)) (YJ _)
  ·obtain⟨_,o,h1,h2⟩:=wa
   exact⟨o,_,h1,h2⟩
 have rv:Vals [v0,.ref f,.non] ([u0,.ref f]++[Value.none]):=.cons r1 (.cons rfl (.cons rfl .nil))
 have hlen:([u0,Value.ref f]++[Value.none]).length=ps.length:=h3.symm
 refine wpAny_call (Xq (R X.A X.stack s2 H2 ⟨[u0,.ref f],[]⟩ _ [v0,.ref f,.non] Q E0 hr I2.env0 (hb s2 [u0,.ref f] I2.kIn hlen) rv h3.symm ⟨f,c',c,uc,vc,dc,v0,.non,x0,.v .non,x',P,F,rfl,ln,rc,hret,hp,hv,hQ⟩) fun r s' hq'=>?_)
 cases r with
 | error e=>exact False.elim hq'
 | ok fl=>
  cases fl with
  | ret u=>exact I2.after hq'
  | next=>exact False.elim hq'
  | brk=>exact False.elim hq'
  | cont=>exact False.elim hq'
end
theorem Tab.sub {W:LamW}{P H:Hp}(T:Tab W P)(s:Same P H):Tab W H:=by
 rcases T with h | ⟨c',h,o,h1,h2⟩
 ·exact .inl (s _ _ h)
 ·exact .inr ⟨c',s _ _ h,o,s _ _ h1,h2⟩
theorem Tab.free {W:LamW}{P F H:Hp}(T:Tab W P)(h:DHp P F H):qB W (fun c'=>F c'=none) H:=by
 rcases T with e | ⟨c',e,o,h1,h2⟩
 ·exact .inl ⟨h.pro _ _ e,fun c' q=>h.sub.free q⟩
 ·exact .inr ⟨c',⟨h.pro _ _ e,o,h.pro _ _ h1,h2⟩,h.dis _ _ h1⟩
theorem Tab.out {W:LamW}{P F H:Hp}(T:Tab W P)(h:DHp P F H):F W.t=none:=by obtain⟨φ,e⟩:=T.ext;exact h.dis _ _ e
theorem mL {W:LamW}{P F H F1 H1 H2 F3 H3:Hp}{c':Addr}(hp:DHp P F H)(T:Tab W P)(ev:Evo P F H F1 H1)(gr:Grow W.t H1 H2)(wa:lS W c' H2)(hM:F1 c'=none)(e3:Same F1 F3)(h3:DHp (gd F1 H2) F3 H3):Grew W F H F3 H3 (gd F1 H2) where
 ext:=ev.ext.trans e3
 hp:=h3
 old:=fun a o n e hf=>by
  obtain⟨k1,k2⟩:=ev.keep a o e hf
  exact bM.mpr ⟨k2,gr.old a o n k1⟩
 tab:=by
  obtain⟨h1,o,h2,h4⟩:=wa
  exact .inr ⟨c',bM.mpr ⟨T.out ev.hp,h1⟩,o,bM.mpr ⟨hM,h2⟩,h4⟩
noncomputable def bU (n:Nat)(gR:Addr→V→D→DF→Option RES)(dc d0:D):Option (List D):=
 open Classical in if h:∃ ds:List D,∀ f vc,ba (gR f vc dc (aO n 3 [.v d0,.v (.fn f vc dc),.v .non]))=some (.own (.lst ds) none) then some h.choose else none
theorem lm {n:Nat}{gR:Addr→V→D→DF→Option RES}{dc d0:D}{ds:List D}(h:bU n gR dc d0=some ds):∀ f vc,ba (gR f vc dc (aO n 3 [.v d0,.v (.fn f vc dc),.v .non]))=some (.own (.lst ds) none):=by
 unfold bU at h
 split at h
 ·rename_i q
  rw[← Yx h]
  exact q.choose_spec
 ·cases h
theorem lq {n:Nat}{gR:Addr→V→D→DF→Option RES}{dc d0:D}{ds:List D}(h:∀ f vc,ba (gR f vc dc (aO n 3 [.v d0,.v (.fn f vc dc),.v .non]))=some (.own (.lst ds) none)):bU n gR dc d0=some ds:=by
 have q:∃ ds:List D,∀ f vc,ba (gR f vc dc (aO n 3 [.v d0,.v (.fn f vc dc),.v .non]))=some (.own (.lst ds) none):=⟨ds,h⟩
 unfold bU
 rw[dif_pos q]
 have z:=q.choose_spec 0 .non
 rw[h 0 .non] at z
 exact ZR some (OD.lst.inj (DV.own.inj (Yx z)).1).symm
noncomputable def fr (i j n:Nat)(gR:Addr→V→D→DF→Option RES)(fe:Dd):DF→Option RES:=fun ρ=>(fe ρ).bind fun d0=>(getV j ρ).bind fun dc=>(bU n gR dc d0).bind fun ds=>if ck ds=true then some (.nx (ρ.set i (some (.own (.lst (bK ds)) none)))) else none
section
variable {X:Cx} {W:LamW} {k n i j:Nat} {f0 c0 c:Addr} {fd:FuncData} {ps:List Str} {gR:Addr→V→D→DF→Option RES} {x y:Str} {p p1 pos pos1 pos2 pos':Pos} {e:Expr} {fe:Dd}
theorem nJ (hN:X.N.Nodup)(hi:X.N[i]?=some y)(hx:Loc X.env.scope y)(hu:X.A.units+64<cLine)(hgs:Gl X "sorted")(hms:X.mg "sorted"=none)
  (R:nH X.prog X.w X.K X.mg X.base k f0 fd ps (spR W X.K n gR)) (h3:ps.length=3) (hr:Room k X.A) (hg:Gl X x) (hm:X.mg x=some (.ref f0)) (hk:keepIn X.K (.ref f0)=true) (hb:Binds X.K fd ps [Value.none]) (ha:PDE X e fe)
  (hcl:closureFor W.L.scope X.env=pure [(W.L.x,c)]) (hcc:X.env.cells.lookup W.L.x=some c) (hck:X.env.kindOf W.L.x=some .cell) (hfn:X.fn W.L.x=true) (hj:X.N[j]?=some W.L.x) (hco:X.env.code=.ref c0) (hch:codeHdIn X.K c0 W.t=true) (hq:X.env.qual++Str.ofString "<lambda>"=W.L.qual) (hdf:defaultsOf W.L.params X.env=([],[])) (hbl:X.base.BuiltinsAt X.mg W.t)
  (hd:(x == ("__debug__":Str))=false:=by decide) (he:starEach [e,.Lambda W.L.params W.L.body W.L.scope W.pos] X.env=(false,eval e X.env)::starEach [.Lambda W.L.params W.L.body W.L.scope W.pos] X.env:=by rfl)
  (he1:starEach [.Lambda W.L.params W.L.body W.L.scope W.pos] X.env=(false,eval (.Lambda W.L.params W.L.body W.L.scope W.pos) X.env)::starEach [] X.env:=by rfl) (hpl:(backTo pos (starEach [.Lambda W.L.params W.L.body W.L.scope W.pos] X.env)).any (·.1)=false:=by rfl)
  (hss:starEach [.Call (.Name x p) [e,.Lambda W.L.params W.L.body W.L.scope W.pos] [] pos] X.env=[(false,eval (.Call (.Name x p) [e,.Lambda W.L.params W.L.body W.L.scope W.pos] [] pos) X.env)]:=by rfl) (hpl2:(backTo pos1 (starEach [] X.env)).any (·.1)=false:=by rfl)
  (hsw:swapsWith (.Call (.Name "sorted" p1) [.Call (.Name x p) [e,.Lambda W.L.params W.L.body W.L.scope W.pos] [] pos] [] pos1) (some (.Name y pos')) pos2.line X.env=pure false:=by rfl) (hf5:X.fn y=true∨X.env.scope.names.lookup y=some .local:=by first | exact .inl rfl | exact .inr rfl | assumption) :
  PT1 X W (.Assign [.Name y pos'] (.Call (.Name "sorted" p1) [.Call (.Name x p) [e,.Lambda W.L.params W.L.body W.L.scope W.pos] [] pos] [] pos1) pos2) (fr i j n gR fe):=
 PS.imp (hJ hN hi hx (cN (i_ hu) hgs hms iG (ar (nK R h3 hr hg hm hk hb ha hcl hcc hck hfn hj hco hch hq hdf hbl hd he he1 hpl) aN hss) (by decide) (by decide) hss hpl2) hsw hf5) fun E σ H ⟨P,F,ρ,r,hr,I,T,k⟩=>by
  unfold fr at hr
  cases q0:fe ρ with
  | none=>rw[q0] at hr;cases hr
  | some d0=>
  cases q1:getV j ρ with
  | none=>rw[q0,q1] at hr;cases hr
  | some dc=>
  cases q2:bU n gR dc d0 with
  | none=>rw[q0,q1,Ya,Ya,q2] at hr;cases hr
  | some ds=>
  rw[q0,q1,Ya,Ya,q2,Ya] at hr
  split at hr
  ·rename_i ok
   cases hr
   refine⟨P,F,ρ,d0,q0,I,fun v0 F1 H1 ev r0=>⟨fun c'=>F1 c'=none,T.free ev.hp,fun f c' H2 gr wa hM hf2=>?_⟩⟩
   obtain⟨vc,g1,g2⟩:=I.at (kr q1)
   have ft:F1 W.t=none:=T.out ev.hp
   have sub2:Same F1 H2:=fun a o e=>gr.old a o (fun z=>by subst z;rw[ft] at e;cases e) (ev.hp.sub a o e)
   refine⟨vc,dc,.v d0,.own (.lst ds) none,gd F1 H2,F1,g1,lm q2 f vc,dl sub2,.cons rfl r0 (.cons rfl (.fn (Rep.same ev.ext g2)) (.cons rfl .non .nil)),fun v F3 H3 e3 h3 r3=>?_⟩
   obtain⟨a,rfl,⟨⟨a1,a2,_⟩,u,a3,a4⟩,_⟩:=r3
   cases u with
   | lst vs=>
    have rr:Reps X.K F3 vs ds:=a4
    refine⟨a,vs,ds,rfl,.inl (SqL.of a3),Reps.same h3.sub rr,ok,fun l pp hl b1 b2 b3=>?_⟩
    have hl3:=h3.free hl
    have h4:DHp (gd F1 H2) F3 (upd H3 l (.lst (pp.map fun i=>vs.getD i .non))):=(Evo.side h3 hl).hp
    have g:=mL I.toDHp T ev gr wa hM e3 h4
    have out:Reps X.K F3 (pp.map fun i=>vs.getD i .non) (bK ds):=by
     by_cases hn:ds=[]
     ·subst hn
      have:pp=[]:=Xj.mp b2
      rw[this]
      exact .nil
     ·rw[← b3]
      exact rr.perm hn pp b1
    exact k _ _ F3 _ g.ext (g.grow I.toDHp) g.tabP (g.setO I T (i:=i) (o:=.lst (bK ds)) ⟨⟨hl3.1,hl3.2⟩,_,ak,out⟩)
   | _=>exact a4.elim
  ·cases hr
end
def spT (W:LamW)(K:Kq)(m:Dm):Sp:=fun vs H Q _=>∃ P F xs x,m xs=some x∧DHp P F H∧Tab W P∧DVs K P F H xs vs∧∀ v P' F' H',Same F F'→Grow W.t P P'→Tab W P'→DHp P' F' H'→DVRep K P' F' H' fQ x v→Q v H'
structure FunC (K:PySem.W.Frag) (x qual:Str) (st:Stmt) (f:Addr) (fd:FuncData) (c0:Addr):Prop where
 ex:∃ (oc:Value) (od:Option Addr) (kV doc pm:Value) (an:Option Addr) (ct:Value) (osl:Array (Option Value)),
  fd=fnOf x qual (defArgs st) (defBody st) (defScope st) .none kV doc pm an (.ref c0) ct∧K.lookup f=some ⟨oc,od,.func fd,osl⟩∧codeIn K (.ref c0) qual=true
 kp:keepIn K (.ref f)=true
theorem FunC.f {K:Kq}{x qual:Str}{st:Stmt}{f c0:Addr}{fd:FuncData}(F:FunC K x qual st f fd c0):Fun K x qual st f fd:=by
 obtain⟨oc,od,kV,doc,pm,an,ct,osl,h⟩:=F.ex
 exact⟨⟨oc,od,kV,doc,pm,an,.ref c0,ct,osl,h⟩,F.kp⟩
theorem iK {W:LamW}{K:Kq}{N ps:List Str}{g:Dw}{vs:List V}{H:Hp}{Q:VK}{E:XK}(h:spT W K (mOf N.length ps.length g) vs H Q E):tST W K g { nx:=fun _ H'=>Q .non H',rt:=Q } (start N vs) H:=by
 obtain⟨P',F',xs,x',hm,hp,T,hv,hQ⟩:=h
 unfold mOf at hm
 split at hm
 ·rename_i hl
  have I:DInv K P' F' H (aO N.length ps.length xs) (start N vs):=DInv.start N ps.length hp hv hl
  cases q:g (aO N.length ps.length xs) with
  | none=>rw[q] at hm;cases hm
  | some r=>
   rw[q] at hm
   refine⟨P',F',_,r,q,I,T,?_⟩
   cases r with
   | rt y ρ=>cases hm;exact fun v σ P2 F2 H2 e g T2 h r=>hQ v P2 F2 H2 e g T2 h.toDHp r
   | nx ρ=>cases hm;exact fun σ P2 F2 H2 e g T2 h=>hQ .non P2 F2 H2 e g T2 h.toDHp .non
   | bk ρ=>cases hm
   | ct ρ=>cases hm
 ·cases hm
theorem kI {W:LamW}{K:Kq}{n p:Nat}{g:Dw}:∀ vs H Q E,spT W K (mOf n p g) vs H Q E→vs.length=p:=fun vs H Q E hh_=>by
 obtain⟨P',F',xs,x',hm,hp,T,hv,_⟩:=hh_
 unfold mOf at hm
 split at hm
 ·rename_i h;rw[← hv.length];exact h
 ·cases hm
theorem Fun.okT {W:LamW}{P:Program}{w:World}{K:Kq}{mg:Ks}{base:Heap}{x qual:Str}{st:Stmt}{f:Addr}{fd:FuncData}{N ps:List Str}{k:Nat}{g:Dw}(F:Fun K x qual st f fd)(S:FnScope N ps (defScope st))
  (hbody:∀ (cdv:Value) (A:Around) (outer:List Env) (s:Shared) (H:Hp) (E:XK),Room k (A.deeper (envOfC qual (defScope st) s.heap.objs.size f cdv))→
   PTS (de CX0 P w K mg base N qual (defScope st) f cdv A outer s H E).nox W (defBody st) g):FnOk P w K mg base CX0 (k+1) f fd ps (spT W K (mOf N.length ps.length g)):=
 F.ok S kI fun cdv A outer s H vs Q E hr h=>⟨_,hbody cdv A outer s H E hr,iK h⟩
theorem FunC.okT {W:LamW}{P:Program}{w:World}{K:Kq}{mg:Ks}{base:Heap}{x qual:Str}{st:Stmt}{f c0:Addr}{fd:FuncData}{N ps:List Str}{k:Nat}{g:Dw}(F:FunC K x qual st f fd c0)(S:FnScope N ps (defScope st))
  (hbody:∀ (A:Around) (outer:List Env) (s:Shared) (H:Hp) (E:XK),Room k (A.deeper (envOfC qual (defScope st) s.heap.objs.size f (.ref c0)))→
   PTS (de CX0 P w K mg base N qual (defScope st) f (.ref c0) A outer s H E).nox W (defBody st) g):FnOk P w K mg base CX0 (k+1) f fd ps (spT W K (mOf N.length ps.length g)):=by
 obtain⟨oc,od,kV,doc,pm,an,ct,osl,rfl,lk,hcd⟩:=F.ex
 exact qf lk hcd S kI fun A outer s H vs Q E hr h=>⟨_,PSs.nox (hbody A outer s H E hr),iK h⟩
theorem Tab.gd {W:LamW}{P F H:Hp}(T:Tab W P)(h:DHp P F H):Tab W (gd F H):=T.sub fun a o e=>bM.mpr ⟨h.dis a o e,h.pro a o e⟩
theorem gl {W:LamW}{P F H F1 H1 F2 H2 c:Hp}(ev:Evo P F H F1 H1)(e2:Same F1 F2)(gr:Grow W.t (gd F1 H1) c)(Tc:Tab W c)(h2:DHp c F2 H2):Grew W F H F2 H2 c where
 ext:=ev.ext.trans e2
 hp:=h2
 old:=fun a o n e hf=>by
  obtain⟨k1,k2⟩:=ev.keep a o e hf
  exact gr.old a o n (bM.mpr ⟨k2,k1⟩)
 tab:=Tc
theorem Grew.frz {W:LamW}{F H F' H' c:Hp}(g:Grew W F H F' H' c):Grew W F H (kY F' H' fun b=>F' b=none∧c b=none) H' c where
 ext:=g.ext.trans (aE fun _ q=>q.1)
 hp:=⟨fun b u h=>by
   by_cases q:F' b=none∧c b=none
   ·rw[bf (ow:=fun b=>F' b=none∧c b=none) q] at h;exact h
   ·rw[bq (ow:=fun b=>F' b=none∧c b=none) q] at h;exact g.hp.sub b u h,g.hp.pro,fun b u h=>by
   rw[bq (ow:=fun b=>F' b=none∧c b=none) fun q=>by rw[q.2] at h;cases h];exact g.hp.dis b u h⟩
 old:=g.old
 tab:=g.tab
def tDT (W:LamW)(K:Kq)(f:Dd):TE:=fun σ H Q=>∃ P F ρ d,f ρ=some d∧DInv K P F H ρ σ∧Tab W P∧∀ v P' F' H',Same F F'→Grow W.t P P'→Tab W P'→DInv K P' F' H' ρ σ→Rep K F' v d→Q v H'
def PET (X:Cx)(W:LamW)(e:Expr)(f:Dd):Prop:=PE X e (tDT W X.K f)
section
variable {X:Cx} {W:LamW} {k i:Nat} {f:Addr} {fd:FuncData} {ps:List Str} {m:Dm} {x y:Str} {p pos pos' pos2:Pos} {e:Expr} {es:List Expr} {g:Dv} {f0:Dd}
theorem pZ (hN:X.N.Nodup)(hi:X.N[i]?=some y)(hx:Loc X.env.scope y)(F:FnOk X.prog X.w X.K X.mg X.base CX0 k f fd ps (spT W X.K m))(hr:Room k X.A)(hg:Gl X x)(hm:X.mg x=some (.ref f))(hk:keepIn X.K (.ref f)=true)(hb:Binds X.K fd ps [])(ha:fV X (e::es) g)
  (hd:(x == ("__debug__":Str))=false:=by decide) (he:starEach (e::es) X.env=(false,eval e X.env)::starEach es X.env:=by rfl) (hpl:(backTo pos (starEach es X.env)).any (·.1)=false:=by rfl)
  (hsw:swapsWith (.Call (.Name x p) (e::es) [] pos) (some (.Name y pos')) pos2.line X.env=pure false:=by rfl) (hf5:X.fn y=true∨X.env.scope.names.lookup y=some .local:=by first | exact .inl rfl | exact .inr rfl | assumption) :
  PT1 X W (.Assign [.Name y pos'] (.Call (.Name x p) (e::es) [] pos) pos2) (bg i (dN m g)):=
 PS.imp (hJ hN hi hx (dq F hr hg hm hk hb .nil iL ha hd he hpl) hsw hf5) fun E σ H ⟨P,F,ρ,r,hr,I,T,k⟩=>by
  unfold bg dN at hr
  cases q:g ρ with
  | none=>rw[q] at hr;cases hr
  | some xs=>
   rw[q,Ya] at hr
   cases q2:m xs with
   | none=>rw[q2] at hr;cases hr
   | some x=>
    rw[q2,Ya] at hr
    cases x with
    | own o t=>
     cases hr
     refine⟨P,F,ρ,xs,q,I,fun vs F1 H1 e1 r1=>?_⟩
     have I1:=I.evo e1
     refine⟨gd F1 H1,F1,xs,_,q2,dl I1.sub,T.gd I1.toDHp,by rw[YX];exact r1.dvs I1,fun v c F2 H2 e2 gr Tc h2 r2=>?_⟩
     obtain⟨a,rfl,ho,_⟩:=r2
     have gw:=gl e1 e2 gr Tc h2
     exact k _ _ F2 H2 gw.ext (gw.grow I.toDHp) gw.tabP (gw.setO I T (ho.mono (Same.refl _) fun b u q hb=>⟨hb,q.1,q.2.1⟩))
    | v d=>cases hr
    | bor o=>cases hr
theorem l5 (F:FnOk X.prog X.w X.K X.mg X.base CX0 k f fd ps (spT W X.K m))(hr:Room k X.A)(hg:Gl X x)(hm:X.mg x=some (.ref f))(hk:keepIn X.K (.ref f)=true)(hb:Binds X.K fd ps [])(ha:fV X (e::es) g)
  (hd:(x == ("__debug__":Str))=false:=by decide) (he:starEach (e::es) X.env=(false,eval e X.env)::starEach es X.env:=by rfl) (hpl:(backTo pos (starEach es X.env)).any (·.1)=false:=by rfl):PET X W (.Call (.Name x p) (e::es) [] pos) (aA m g):=
 (dq F hr hg hm hk hb .nil iL ha hd he hpl).imp fun σ H Q ⟨P,F,ρ,d,hf,I,T,k⟩=>by
  unfold aA at hf
  cases q:g ρ with
  | none=>rw[q] at hf;cases hf
  | some xs=>
   rw[q,Ya] at hf
   cases q2:m xs with
   | none=>rw[q2] at hf;cases hf
   | some x=>
    rw[q2,Ya] at hf
    refine⟨P,F,ρ,xs,q,I,fun vs F1 H1 e1 r1=>?_⟩
    have I1:=I.evo e1
    refine⟨gd F1 H1,F1,xs,x,q2,dl I1.sub,T.gd I1.toDHp,by rw[YX];exact r1.dvs I1,fun v c F2 H2 e2 gr Tc h2 r2=>?_⟩
    have gw:=gl e1 e2 gr Tc h2
    cases x with
    | v d'=>cases hf;exact k v _ F2 H2 gw.ext (gw.grow I.toDHp) gw.tabP (gw.inv I T) r2
    | own o t=>
     cases hf
     obtain⟨a,rfl,ho,_⟩:=r2
     exact k _ _ _ H2 gw.frz.ext (gw.frz.grow I.toDHp) gw.frz.tabP (gw.frz.inv I T) (ho.rep (aE fun _ q=>q.1) fun b u q hb=>by rw[bf (ow:=fun b=>F2 b=none∧c b=none) ⟨q.1,q.2.1⟩];exact hb)
    | bor o=>cases hf
theorem lK (F:FnOk X.prog X.w X.K X.mg X.base CX0 k f fd ps (spD X.K m))(hr:Room k X.A)(hg:Gl X x)(hm:X.mg x=some (.ref f))(hk:keepIn X.K (.ref f)=true)(hb:Binds X.K fd ps [])(h0:PET X W e f0)(ha:fV X es g)
  (hd:(x == ("__debug__":Str))=false:=by decide) (he:starEach (e::es) X.env=(false,eval e X.env)::starEach es X.env:=by rfl) (hpl:(backTo pos (starEach es X.env)).any (·.1)=false:=by rfl):PET X W (.Call (.Name x p) (e::es) [] pos) (aA m (aV f0 g)):=
 (dq F hr hg hm hk hb .nil iL (ar h0 ha he) hd he hpl).imp fun σ H Q ⟨P,F,ρ,d,hf,I,T,k⟩=>by
  unfold aA aV at hf
  cases q0:f0 ρ with
  | none=>rw[q0] at hf;cases hf
  | some d0=>
  cases q1:g ρ with
  | none=>rw[q0,Ya,q1] at hf;cases hf
  | some ys=>
  rw[q0,Ya,q1] at hf
  cases q2:m (.v d0::ys) with
  | none=>rw[YS,Ya,q2] at hf;cases hf
  | some x=>
   rw[YS,Ya,q2,Ya] at hf
   refine⟨P,F,ρ,d0,q0,I,T,fun v0 P1 F1 H1 e1 g1 T1 I1 r0=>⟨P1,F1,ρ,ys,q1,I1,fun vs F2 H2 e2 r2=>?_⟩⟩
   have I2:=I1.evo e2
   have args:ArgsS X.K ρ σ F2 (.v d0::ys) (v0::vs):=.v (Rep.same e2.ext r0) r2
   refine⟨gd F2 H2,F2,_,x,q2,dl I2.sub,by rw[YX];exact args.dvs I2,fun v F3 H3 e3 hp3 r3=>?_⟩
   have ev:Evo P1 F2 H2 F3 H3:=I2.toDHp.gd e3 hp3
   cases x with
   | v d'=>cases hf;exact k v P1 F3 H3 (e1.trans (e2.ext.trans ev.ext)) g1 T1 (I2.evo ev) r3
   | own o t=>
    cases hf
    obtain⟨a,rfl,ho,_⟩:=r3
    have ho':=ip e3 ho
    have ev':=ev.freeze I2.toDHp (fun b=>H2 b=none∧F3 b=none) fun _ q=>q
    exact k _ P1 _ H3 (e1.trans (e2.ext.trans ev'.ext)) g1 T1 (I2.evo ev') (ho'.rep (aE fun b q=>q.2) fun b u q hb=>by rw[bf q];exact hb)
   | bor o=>cases hf
end
def kC (t:Addr)(pos:Pos)(H:Hp):Prop:=H t=some (.ext (dL t pos none))∧∀ b,b≠t→H b=none∨∃ o xs,H b=some (.frz o (.lst xs))
theorem lw {P:Program}{w:World}{K:Kq}{mg mb:Ks}{CX:CXT}{k:Nat}{fa a t c0:Addr}{lpos:Pos}{fd:FuncData}{x:Str}{sp:Sp}{s₁:Shared}{vs:List Value}{ns:List Int}
  (KX:K.In s₁.heap) (hns:s₁.heap.Ns mainGlobals mg) (hb:s₁.heap.Ns builtinsNs mb) (hbb:∀ x:Str,x ≠ "__name__"→mb x=bootBuiltins x) (hlim:s₁.heap.NoLimit) (hg:s₁.gens=#[])
  (hmb:∃ bm ob,mg (Str.ofString "__builtins__")=some (Value.ref bm)∧bm≠builtinsNs∧s₁.heap.get? bm=some ob∧ob.cls=Value.type "module"∧ob.dict=some builtinsNs∧ob.data=Data.plain)
  (ht:s₁.heap.get? t=some (tabObj #[])) (hch:codeHdIn K c0 t=true) (hKt:K.lookup t=none) (htc:t≠cStatics)
  (ha:s₁.heap.get? a=some { cls:=.type "list",data:=.seq vs.toArray }) (hi:IntsAre vs ns) (hl:ns.length≤sizeLine) (hr:Room k callerA)
  (F:∀ base:Heap,K.In base→base.Ns mainGlobals mg→base.BuiltinsAt mg t→FnOk P w K mg base CX k fa fd [x] sp) (hbind:∀ (s:Shared) (u:Value),BindsTo s fd ⟨[u],[]⟩ [(x,u)])
  (hsp:∀ H:Hp,kC t lpos H→SqL K H a (ns.map V.int)→sp [.ref a] H (fun v H'=>v=.bl true∧∃ φ,H' t=some (.ext φ)∧∀ h,φ h→∃ ps,h.get? t=some (tabObj ps)) fun _ _ _=>False)
  (hCX:∀ H e s',CX [] H s₁ (fun _ _ _=>False) e s'→False) :
  codeAny (model P w) callerA (.call (.ref fa) ⟨[.ref a],[]⟩) (fun r s'=>r=.ok (.ret (.bool true))∧OldK s₁.heap s'.heap∧s'.os=s₁.os∧AllBare s'.gens) s₁:=by
 have rv:=f_ hi
 have lenV:=hi.length
 have at':a≠t:=fun z=>by subst z;rw[ha] at ht;cases ht
 have chd:CodeHd s₁.heap c0 t:=codeHd_of_K KX hch
 have core:∀ H:Hp,kC t lpos H→SqL K H a (ns.map V.int)→HOk P w H s₁.heap→(∀ b,H b≠none→b=a∨b=t)→(H a≠none→K.lookup a=none)→
   codeAny (model P w) callerA (.call (.ref fa) ⟨[.ref a],[]⟩) (fun r s'=>r=.ok (.ret (.bool true))∧OldK s₁.heap s'.heap∧s'.os=s₁.os∧AllBare s'.gens) s₁:=by
  intro H hO hS hok hA hK
  have base_of:∀ {b:Addr} {o:Obj},s₁.heap.get? b=some o→H b=none→(f6 s₁.heap H).get? b=some o:=fun e n=>mB e n
  have noH:∀ {b:Addr} {o:Obj},s₁.heap.get? b=some o→(∀ xs n,o.data≠.seq xs n)→(∀ xs,o.data≠.fields xs)→H b=none:=fun {b o} e d1 d2=>by
   cases q:H b with
   | none=>rfl
   | some u=>
    rcases hA b (by rw[q];simp) with e' | e'
    ·subst e';rw[ha] at e;cases e;exact absurd rfl (d1 _ _)
    ·subst e';rw[ht] at e;cases e;exact absurd rfl (d2 _)
  have noA:∀ {b:Addr} {o:Obj} {es:Array DictEntry} {ep:Nat},s₁.heap.get? b=some o→o.data=.dict es ep→H b=none:=fun e d=>noH e (fun _ _ z=>by rw[d] at z;cases z) fun _ z=>by rw[d] at z;cases z
  have nsK:∀ {b:Addr} {m:Ks},s₁.heap.Ns b m→(f6 s₁.heap H).Ns b m:=fun {b m} ⟨o,es,ep,e,d,r⟩=>⟨o,es,ep,base_of e (noA e d),d,r⟩
  have hKb:K.In (f6 s₁.heap H):=fun b o e=>base_of (KX b o e) (by
   cases q:H b with
   | none=>rfl
   | some u=>
    rcases hA b (by rw[q];simp) with e' | e'
    ·subst e';rw[hK (by rw[q];simp)] at e;cases e
    ·subst e';rw[hKt] at e;cases e)
  have hM:Mod K mg (f6 s₁.heap H):=⟨hKb,nsK hns,⟨mb,nsK hb,hbb⟩,let ⟨mc,h1,h2⟩:=hlim;⟨mc,nsK h1,h2⟩⟩
  have hBa:(f6 s₁.heap H).BuiltinsAt mg t:=by
   obtain⟨bm,ob,m1,m2,m3,m4,m5,m6⟩:=hmb
   refine⟨bm,ob,m1,m2,fun z=>?_,fun z=>?_,base_of m3 (noH m3 (fun _ _ z=>by rw[m6] at z;cases z) fun _ z=>by rw[m6] at z;cases z),m4,m5,m6⟩
   ·obtain⟨o,es,ep,e,d,_⟩:=hns
    rw[← z,m3] at e
    cases e
    rw[m6] at d
    cases d
   ·rw[z,ht] at m3
    cases m3
    cases m6
  have e0:Env0 P w K mg (f6 s₁.heap H) callerA [] s₁ H:=⟨rfl,hM,fun b o e=>oO e,ZP (kX _ _),trivial,fun b hb=>absurd (show b∈([]:List Addr) from hb) (by simp),hok,.of_eq hg⟩
  refine Xq ((F _ hKb (nsK hns) hBa).run callerA [] s₁ H ⟨[.ref a],[]⟩ [.ref a] [.ref a] _ _ hr e0 (hbind s₁ (.ref a)) (.cons rfl .nil) (hsp H hO hS)) fun r s' h=>?_
  cases r with
  | error e=>exact (hCX H e s' h).elim
  | ok fl=>
   cases fl with
   | next=>exact False.elim h
   | brk=>exact False.elim h
   | cont=>exact False.elim h
   | ret u=>
    obtain⟨v,H',os,bare,un,hok',r',q⟩:=h
    obtain⟨rfl,φ,q1,q2⟩:=q
    obtain rfl:u=Value.bool true:=r'
    obtain⟨ph,_,_⟩:=hok' t _ q1
    obtain⟨ps,hps⟩:=q2 _ ph
    have ext:Heap.ExtBut t s₁.heap s'.heap:=fun b o n e=>by
     cases q:H b with
     | none=>exact un.keep b o e q (by intro z;exact absurd (show b∈([]:List Addr) from z) (by simp)) (by simp)
     | some u=>
      rcases hO.2 b n with z | ⟨ob,xs,z⟩
      ·rw[q] at z;cases z
      ·have z2:=un.frzs b ob _ z
       obtain⟨e1,_⟩:=hok b _ z
       obtain⟨e2,_⟩:=hok' b _ z2
       rw[e] at e1;cases e1
       exact e2
    have chd':CodeHd s'.heap c0 t:=by
     obtain⟨o,vs',file,tf,fl,tg,inF,tx,tt,g1,g2⟩:=chd
     exact⟨o,vs',file,tf,fl,tg,inF,tx,tt,ext c0 o g2.2.2.2.2.2.2.2.2 g1,g2⟩
    refine⟨rfl,OldK.step_table (OldK.refl _) (chd.tab ht) (chd.tab ht) (more:=ps) ?_ ext htc,os,bare⟩
    rw[show (#[]:Array Value)++ps=ps by simp]
    exact chd'.tab hps
 have tabk:dL t lpos none s₁.heap:=⟨#[],ht,by simp[TriplesOk],rfl⟩
 cases hk:K.lookup a with
 | some o=>
  have e:=KX a o hk
  rw[ha] at e
  cases e
  refine core (fun b=>if b=t then some (.ext (dL t lpos none)) else none) ⟨Yi rfl,fun b n=>.inl (Yl n)⟩ (.inr ⟨_,vs.toArray,_,hk,rfl,rfl,rfl,by rw[Yn,lenV];exact hl,by simpa using rv⟩) (fun b u z=>?_) (fun b z=>?_) fun z=>absurd (Yl at') z
  ·by_cases hb:b=t
   ·have z':=(Yi hb).symm.trans z
    cases z'
    subst hb
    exact⟨tabk,⟨_,ht⟩,d4⟩
   ·have z':=(Yl hb).symm.trans z
    cases z'
  ·by_cases hb:b=t
   ·exact .inr hb
   ·exact absurd (Yl hb) z
 | none=>
  refine core (fun b=>if b=t then some (.ext (dL t lpos none)) else if b=a then some (.frz { cls:=.type "list",data:=.seq vs.toArray } (.lst (ns.map V.int))) else none) ⟨Yi rfl,fun b n=>?_⟩ (.inl (.inr ⟨{ cls:=.type "list",data:=.seq vs.toArray },(Yl at').trans (Yi rfl)⟩)) (fun b u z=>?_) (fun b z=>?_) fun _=>hk
  ·by_cases hb:b=a
   ·exact .inr ⟨_,_,(Yl n).trans (Yi hb)⟩
   ·exact .inl ((Yl n).trans (Yl hb))
  ·by_cases hb:b=t
   ·have z':=(Yi hb).symm.trans z
    cases z'
    subst hb
    exact⟨tabk,⟨_,ht⟩,d4⟩
   ·by_cases hb2:b=a
    ·have z':=((Yl hb).trans (Yi hb2)).symm.trans z
     cases z'
     subst hb2
     exact⟨ha,by rw[Yf];exact hl,vs,_,rv,ha⟩
    ·have z':=((Yl hb).trans (Yl hb2)).symm.trans z
     cases z'
  ·by_cases hb:b=t
   ·exact .inr hb
   ·by_cases hb2:b=a
    ·exact .inl hb2
    ·exact absurd ((Yl hb).trans (Yl hb2)) z
theorem walk_ofT {l:PySem.W.OpenLaw}{n k:Nat}{q:Program}{loose:List Str}{XP:(Str→Option Value)→Heap→Prop}{YP:World→Heap→Prop}{d:DefRec}{K:Params→PySem.W.Frag}{CX:CXT}{sp:PySem.W.Frag→Sp}{x:Str}{t c0:Addr}{lpos:Pos}
  (hn:l.most=some n) (hn2:n≤sizeLine) (hdf:d.params.defaults=[]) (hr:Room k callerA)
  (hY:∀ (w:World) (h:Heap),YP w h→(K w.params).In h∧h.get? t=some (tabObj #[]))
  (hch:∀ w:World,codeHdIn (K w.params) c0 t=true) (hKt:∀ w:World,(K w.params).lookup t=none) (htc:t≠cStatics)
  (F:∀ (w:World) (mg:Ks) (fa:Addr) (h:Heap),(K w.params).In h→h.Ns mainGlobals mg→mg d.name=some (.ref fa)→
   ∃ fd:FuncData,(∀ (s:Shared) (u:Value),BindsTo s fd ⟨[u],[]⟩ [(x,u)]) ∧
    ∀ base:Heap,(K w.params).In base→base.Ns mainGlobals mg→base.BuiltinsAt mg t→FnOk l.prog w (K w.params) mg base CX k fa fd [x] (sp (K w.params)))
  (hsp:∀ (K:Kq) (H:Hp) (a:Addr) (ns:List Int),ns.length≤n→kC t lpos H→SqL K H a (ns.map V.int)→sp K [.ref a] H (fun v H'=>v=.bl true∧∃ φ,H' t=some (.ext φ)∧∀ h,φ h→∃ ps,h.get? t=some (tabObj ps)) fun _ _ _=>False)
  (hCX:∀ (H:Hp) (s:Shared) (e:Value) (s':Shared),CX [] H s (fun _ _ _=>False) e s'→False) :
  PySem.W.WalkO q loose XP YP l.row.toRowW d [] (fun f vs=>PySem.call f vs):=by
 refine Att.attach_call hn hdf fun w s₀ s₁ mg mb fa o pm cd doc a vs ns G Y ho hd hcd hmg hobj hints hlen hg=>?_
 obtain⟨KX,ht⟩:=hY w _ Y
 obtain⟨fd,hb,hF⟩:=F w mg fa _ KX G.T.g hmg
 exact lw (lpos:=lpos) KX G.T.g G.T.b G.T.builtins G.T.nolimit hg G.T.bmain ht (hch w) (hKt w) htc hobj hints (YB hlen hn2) hr hF hb (fun H hO hS=>hsp (K w.params) H a ns hlen hO hS) fun H e s'=>hCX H s₁ e s'
end L2
namespace L2
open PySem PySem.Spec PyProof.Rows
theorem hX:plainId "dict.update.loop"=true:=by decide +kernel
theorem mP:entryFor table "dict.update.loop"=some Builtin.«dict.update.loop»:=by kernel_rfl
section
variable {prog:Program} {w:World} {A:Around} {E:Kv} {s:Shared}
theorem oN {l:Addr}{its:Array Value}{n:Nat}{Q:Ko}(ho:s.heap.get? l=some { cls:=.type "list",data:=.seq its n })(hh:A.handled=none)
  (q:∀ h' tk,(∀ b o,s.heap.get? b=some o→h'.get? b=some o)→Q none { s with heap:=h',toks:=tk }):wpAny (model prog w) A (getAttr? (.ref l) "keys") Q E s:=by
 have hl:Shared.TypeIs s (.ref l) "list":=⟨_,ho,rfl⟩
 have g1:typeLookup (Value.type "list") "__getattribute__"=pure (some (.builtin "list.__getattribute__")):=Xc.lookup
 have g2:typeLookup (Value.type "list") "keys"=pure none:=by rfl
 have g4:typeLookup (Value.type "list") "__getattr__"=pure none:=by rfl
 unfold getAttr? getAttrBy? getAttrBy getAttrByItsOwn hookBefore callGetattribute
 wp_walk
 have g3:=Xc.bind (.ref l)
 rw[g3]
 refine Yp ?_
 show wpAny _ _ (call (.builtin "list.__getattribute__") [.ref l,Value.str (Str.ofString "keys") s.toks]) _ _ _
 refine call_meets Xc (s:={ s with toks:=s.toks+1 }) ⟨_,ho,rfl⟩ am_entry_list_getattribute (F.args_list_getattribute_2 _ _) (meets_getattribute_miss_list l its n #[] "keys" s.toks g2 (by decide)) ⟨ho,hh,fun h' tk e ne=>?_⟩
 obtain⟨t,u,he⟩:=ne.there
 have ke:=ne.keeps
 unfold getattributeRaised hookBehind hookOrError attributeErrorLeaves
 have s1:Shared.TypeIs { s with heap:=h',toks:=tk } (.ref e) "AttributeError":=⟨_,he,rfl⟩
 have s2:isSubtype (.type "AttributeError") (.type "AttributeError")=pure true:=sub_AttributeError
 wp_walk
 exact q h' tk ke
def cq (prs:List (Key×Value)):List (Key×Value):=prs.foldl (fun a p=>stored a p.1 p.2) []
theorem iJ (l:List (Key×Value))(p:Key×Value):cq (l++[p])=stored (cq l) p.1 p.2:=by unfold cq;rw[List.foldl_append];rfl
theorem js (l:List (Key×Value))(k:Key)(v:Value):(stored l k v).length≤l.length+1:=by
 unfold stored
 split <;> simp <;> omega
theorem jT (l:List (Key×Value)):(cq l).length≤l.length:=by
 have:∀ (l a:List (Key×Value)),(l.foldl (fun a p=>stored a p.1 p.2) a).length≤a.length+l.length:=by
  intro l
  induction l with
  | nil=>intro a;simp
  | cons p r ih=>intro a;have h1:=ih (stored a p.1 p.2);have h2:=js a p.1 p.2;rw[List.foldl_cons,Yu];omega
 have h:=this l []
 rw[YL,ZQ] at h
 exact h
theorem jX {p:Addr}{ku u:Value}{Q:Kl}(ht:IsTup s.heap p #[ku,u])(q:Q [ku,u] s):wpAny (model prog w) A (Builtin.Dict.pairItems (.ref p)) Q E s:=by
 obtain⟨o,e1,e2,n,e3⟩:=ht
 have hT:Shared.TypeIs s (.ref p) "tuple":=⟨o,e1,e2⟩
 unfold Builtin.Dict.pairItems
 wp_walk
 rw[e3]
 exact Yp (Yp q)
variable {I:Addr} {fp wr:List Addr} {G:Array GenState→Array GenState→Prop} {n:Nat} {P:Nat→Value→Prop} {St:Nat→Shared→Prop} {R:Kr}
theorem lx (W:WalksS prog w A.in1 I fp wr G n P St)(d:Addr)(hdf:d∉fp)(h0:Heap)(hnew:∀ b o,h0.get? b=some o→b∉d::wr)(prs:List (Key×Value))(hn:prs.length=n)(hn2:n≤1000)
  (hval:∀ i v,P i v→∃ k u p ku,prs[i]?=some (k,u)∧v=.ref p∧IsTup h0 p #[ku,u]∧(ay prog w).is k ku=true) :
  ∀ (k i:Nat) (s:Shared) (j:Int) (tj:Tok),n-i=k→i≤n→St i s→(∀ b o,h0.get? b=some o→s.heap.get? b=some o)→Heap.DictOf (ay prog w) s.heap d (cq (prs.take i))→
   (∀ s',Moved (d::wr) G s s'→Heap.DictOf (ay prog w) s'.heap d (cq prs)→R (.ok (.ret .none)) s')→
   codeAny (model prog w) A (.builtin "dict.update.loop" ⟨[.ref d,.ref I,.int j tj,.none],[]⟩) R s:=by
 have hdw:d∉wr:=fun h=>hdf (W.sub _ h)
 have hsub:∀ b∈wr,b∈d::wr:=fun b hb=>Yc _ hb
 have mv:∀ {s s':Shared} {l:List (Key×Value)},Moved wr G s s'→Heap.DictOf (ay prog w) s.heap d l→Heap.DictOf (ay prog w) s'.heap d l:=fun m ⟨o,es,ep,e,r⟩=>⟨o,es,ep,m.heap d o hdw e,r⟩
 intro k
 induction k with
 | zero=>
  intro i s j tj hk hi hst h0s hS hR
  have hin:i=n:=by omega
  subst hin
  refine Xi mP ?_
  rw[Around.under_plainId hX _]
  show wpAny _ A.in1 (pyNext (.ref I)>>=_) _ _ s
  refine Yd (W.done s _ _ hst fun s' hm=>?_)
  show wpAny _ A.in1 (Builtin.Dict.addKeywords d []>>=fun _=>ret Value.none) _ _ s'
  refine Yd (show wpAny _ A.in1 (pure ()) _ _ s' from Yp ?_)
  refine Yp (hR s' (hm.mono hsub) (mv hm ?_))
  rw[← hn,List.take_length] at hS
  exact hS
 | succ k ih=>
  intro i s j tj hk hi hst h0s hS hR
  have hlt:i<n:=by omega
  refine Xi mP ?_
  rw[Around.under_plainId hX _]
  show wpAny _ A.in1 (pyNext (.ref I)>>=_) _ _ s
  refine Yd (W.item i s _ _ hlt hst fun v s' hP hst' hm=>?_)
  obtain⟨ky,u,p,ku,hd,rfl,tup,kis⟩:=hval i v hP
  have h0s':∀ b o,h0.get? b=some o→s'.heap.get? b=some o:=fun b o e=>hm.heap b o (fun hb=>hnew b o e (hsub b hb)) (h0s b o e)
  have tup':IsTup s'.heap p #[ku,u]:=by obtain⟨o,e1,e2⟩:=tup;exact⟨o,h0s' p o e1,e2⟩
  refine Yd (ZS (Yd (wpAny_tryCatch (jX tup' ?_))))
  show wpAny _ A.in1 (holding [ku,u] (dictSet d ku u)) _ _ s'
  refine ZS (wpAny_dictSet_pairs kis (mv hm hS) (fun h' hS2 off=>?_) (by have:=jT (prs.take i);rw[List.length_take] at this;exact YB this (YB (Nat.min_le_left _ _) (YB (by omega) (show 1000≤sizeLine by decide)))))
  have et:prs.take i++[(ky,u)]=prs.take (i+1):=by rw[List.take_add_one,hd];rfl
  rw[← iJ _ (ky,u),et] at hS2
  refine Yp ⟨plainId_quiet hX _,ih (i+1) _ _ _ (by omega) hlt (W.frame _ s' _ _ hst' (XF _) fun b hb o e=>?_) (fun b o e=>?_) hS2 fun s'' hm'' hS''=>?_⟩
  ·rw[off.2 b (fun h:b=d=>hdf (by rw[← h];exact hb))];exact e
  ·show h'.get? b=some o
   rw[off.2 b (fun h:b=d=>hnew b o e (by rw[h];exact Ye))];exact h0s' b o e
  ·refine hR s'' (Moved.trans W.gtrans ((hm.mono hsub).then_heap (XF _) fun b o hb e=>?_) hm'') hS''
   rw[off.2 b (fun h:b=d=>hb (by rw[h];exact Ye))];exact e
end
abbrev r8 (l:Addr):Obj:={ cls:=.type "list_iterator",data:=.fields #[.ref l,.int 0 0] }
section
variable {prog:Program} {w:World} {A:Around} {E:Kv} {s:Shared}
end
abbrev eF:Obj:={ cls:=.type "dict",data:=.dict #[] }
section
variable {prog:Program} {w:World} {A:Around} {E:Kv} {s:Shared}
theorem fS {l:Addr}{items:Array Value}{nl:Nat}{Z:Heap→Prop}{Q:Kv}(hh:A.handled=none)(hl:s.heap.get? l=some { cls:=.type "list",data:=.seq items nl })
  (loop:∀ (R:Kr) (h1:Heap) (tk1:Nat),(∀ b o,(s.heap.push eF).get? b=some o→h1.get? b=some o)→(∀ h' tk,Z h'→(∀ b o,s.heap.get? b=some o→h'.get? b=some o)→R (.ok (.ret .none)) { s with heap:=h',toks:=tk })→
   codeAny (model prog w) A.in1 (.builtin "dict.update.loop" ⟨[.ref s.heap.objs.size,.ref h1.objs.size,.int 0 0,.none],[]⟩) R { s with heap:=h1.push (r8 l),toks:=tk1 })
  (q:∀ h' tk,Z h'→(∀ b o,s.heap.get? b=some o→h'.get? b=some o)→Q (.ref s.heap.objs.size) { s with heap:=h',toks:=tk }) :
  wpAny (model prog w) A (call (.type "dict") [.ref l]) Q E s:=by
 have ft:=F.kt_called_dict
 obtain⟨m0,mr,hm⟩:=ft.mro
 have y1:=ft.made
 have y2:=ft.sub
 have y3:=ft.notType
 have y4:=ft.canCreate
 have y5:=F.kt_typeCall_dict_1 (.ref l)
 refine wpAny_call (codeAny_of_tree ?_)
 show wpAny _ _ (callAny (.type "dict") ⟨[.ref l],[]⟩) _ _ _
 refine Yp ⟨Code.quiet_builtin _ (by decide +kernel),Xi F.entry_type_call ?_⟩
 rw[Around.under_plain (weight_type_call_type "dict" [.ref l] []) rfl]
 repeat any_goals first | assumption | wp_step
 refine Xq (kt_code_dict_new (.ref l) (E:=E) (Q₁:=fun obj s₁=>obj=.ref s.heap.objs.size∧s₁={ s with heap:=s.heap.push eF }) ⟨rfl,rfl⟩) fun r s₁ hr=>?_
 cases r with
 | error e=>exact hr
 | ok fl=>
  cases fl with
  | ret obj=>
   obtain⟨rfl,rfl⟩:=hr
   have hS:(s.heap.push eF).get? s.heap.objs.size=some eF:=Yk _ rfl
   have hT:Shared.TypeIs { s with heap:=s.heap.push eF } (.ref s.heap.objs.size) "dict":=⟨_,hS,rfl⟩
   have y6:=ft.init.lookup
   have y7:=ft.init.bind (.ref s.heap.objs.size)
   repeat any_goals first | assumption | wp_step
   refine Xq (codeAny_call_builtin (R:=wants (fun r s₂=>r=.none∧∃ h' tk,s₂={ s with heap:=h',toks:=tk }∧Z h'∧∀ b o,s.heap.get? b=some o→h'.get? b=some o) E) ft.init.plain F.entry_dict_init (ft.init.check _ _ _ _ _ _ _ _ hT (F.args_dict_init_2 _ _) ?_)) fun r₂ s₂ hr₂=>?_
   ·have e1':(s.heap.push eF).get? l=some { cls:=.type "list",data:=.seq items nl }:=Yb _ hl
    unfold Builtin.«dict.__init__» Builtin.Dict.selfAndRest Builtin.Dict.notOrdered
    generalize hPI:Builtin.Dict.updateCommon=PI
    wp_walk
    subst hPI
    show wpAny _ _ (Builtin.Dict.updateFrom "dict.__init__" s.heap.objs.size (.ref l) [] .none) _ _ _
    unfold Builtin.Dict.updateFrom
    generalize hGA:getAttr?=GA
    generalize hPI:pyIter=PI
    have z3:(Value.type "list" != Value.type "dict")=true:=by decide
    wp_walk
    subst hGA
    refine oN e1' (by simpa using hh) fun h1 tk1 k1=>?_
    wp_walk
    subst hPI
    have hl1:h1.IsList l items:=⟨_,k1 _ _ e1',rfl,nl,rfl⟩
    refine wpAny_pyIter_list hl1 (Yp ?_)
    exact⟨plainId_quiet hX _,loop _ h1 tk1 k1 fun h' tk hZ hk=>⟨rfl,h',tk,rfl,hZ,hk⟩⟩
   ·cases r₂ with
    | error e=>exact hr₂
    | ok fl₂=>
     cases fl₂ with
     | ret v=>
      obtain⟨rfl,h',tk,rfl,hZ,hk⟩:=hr₂
      repeat any_goals first | assumption | wp_step
      exact q _ _ hZ hk
     | _=>exact hr₂.elim
  | _=>exact hr.elim
end
theorem jJ:bootBuiltins "dict"=some (.type "dict"):=by rfl
inductive PairsV (H:Hp):List V→List (Key×V)→Prop
 | nil:PairsV H [] []
 | cons {p:Addr} {k:Key} {x:V} {vs:List V} {kvs:List (Key×V)}:H p=some (.tup [kV k,x])→PairsV H vs kvs→PairsV H (.ref p::vs) ((k,x)::kvs)
theorem PairsV.length {H:Hp}{vs:List V}{kvs:List (Key×V)}(h:PairsV H vs kvs):vs.length=kvs.length:=by
 induction h with
 | nil=>rfl
 | cons _ _ ih=>exact ZR Nat.succ ih
theorem mq {P:Program}{w:World}{H:Hp}{h:Heap}(ok:HOk P w H h){vs:List V}{kvs:List (Key×V)}(hp:PairsV H vs kvs):∀ {its:List Value},Vals vs its→∃ prs:List (Key×Value),KV kvs prs∧∀ (i:Nat) v,its[i]?=some v→∃ k u p ku,prs[i]?=some (k,u)∧v=.ref p∧IsTup h p #[ku,u]∧(ay P w).is k ku=true:=by
 induction hp with
 | nil=>intro its r;cases r;exact⟨[],.nil,fun i v e=>nomatch e⟩
 | cons h1 _ ih=>
  intro its r
  cases r with
  | cons r1 r2=>
   obtain⟨prs,a1,a2⟩:=ih r2
   cases r1
   obtain⟨_,ts,rt,it,_⟩:=ok _ _ h1
   obtain⟨ku,u,rfl,rk,ru⟩:=rt.two
   refine⟨(_,u)::prs,.cons ⟨rfl,ru⟩ a1,fun i v e=>?_⟩
   cases i with
   | zero=>cases e;exact⟨_,u,_,ku,rfl,rfl,it,kh rk⟩
   | succ i=>exact a2 i v e
theorem rA {kvs:List (Key×V)}{prs:List (Key×Value)}(h:KV kvs prs):KV (b_ [] kvs) (cq prs):=by
 have:∀ {kvs:List (Key×V)} {prs:List (Key×Value)},KV kvs prs→∀ {a:List (Key×V)} {b:List (Key×Value)},KV a b→KV (b_ a kvs) (prs.foldl (fun a p=>stored a p.1 p.2) b):=fun h=>by
  induction h with
  | nil=>exact fun h=>h
  | cons r _ ih=>
   intro a b hab
   refine ih (a:=cY a _ _) (b:=stored b _ _) ?_
   obtain⟨r1,r2⟩:=r
   rw[← r1]
   exact KV.put hab _ r2
 exact this h .nil
theorem jI (a kvs:List (Key×V)):(b_ a kvs).length≤a.length+kvs.length:=by
 unfold b_
 induction kvs generalizing a with
 | nil=>simp
 | cons p r ih=>have h1:=ih (cY a p.1 p.2);have h2:=cx a p.1 p.2;rw[List.foldl_cons,Yu];omega
section
variable {X:Cx}
theorem jh (hcalm:X.calm=true):CallR X (.type "dict") (fun xs H Q=>∃ a vs kvs,xs=[.ref a]∧H a=some (.lst vs)∧PairsV H vs kvs∧vs.length≤1000∧∀ d,H d=none→Q (.ref d) (upd H d (.dK (b_ [] kvs)))):=by
 intro pz s σ H xs us Q I r h
 obtain⟨a,vs,kvs,rfl,ha,hp,hl,q⟩:=h
 obtain⟨u,rfl,ru⟩:=d8 r
 cases ru
 obtain⟨_,its,n,rv,ho⟩:=I.hok _ _ ha
 obtain⟨prs,kv,at'⟩:=mq I.hok hp rv
 have sM:its.length=prs.length:=by rw[← rv.length,hp.length];exact Paired.length kv
 have hh:=I.ok.hd hcalm
 refine fS (Z:=fun h'=>Heap.DictOf (ay X.prog X.w) h' s.heap.objs.size (cq prs)) hh ho (fun R h1 tk1 k1 hR=>?_) fun h' tk hZ hk=>?_
 ·have hS:(s.heap.push eF).get? s.heap.objs.size=some eF:=Yk _ rfl
  have hd1:=k1 _ _ hS
  have hds:s.heap.objs.size<h1.objs.size:=Yg hd1
  have hla:a<s.heap.objs.size:=Yg ho
  have hne:a≠h1.objs.size:=Yq (Zo hla hds)
  have hold:∀ b o,s.heap.get? b=some o→h1.get? b=some o:=fun b o e=>k1 b o (Yb _ e)
  have hnew:∀ b o,s.heap.get? b=some o→b∉s.heap.objs.size::[h1.objs.size]:=fun b o e=>by
   have:=Yg e
   simp only[Ys,Zj,List.not_mem_nil,or_false,not_or]
   exact⟨Yq this,Yq (Zo this hds)⟩
  have hl2:(h1.push (r8 a)).IsList a its.toArray:=Heap.IsList.push ⟨_,hold _ _ ho,rfl,n,rfl⟩ _
  have nh3:X.A.in1.in1.handled=none:=by simpa using hh
  have hd0:Heap.DictOf (ay X.prog X.w) (h1.push (r8 a)) s.heap.objs.size (cq (prs.take 0)):=by
   obtain⟨_,_,vs0,kv0,o,es,ep,e,rr⟩:=lX (P:=X.prog) (w:=X.w) (H:=H) s.heap I.big
   cases kv0
   exact⟨o,es,ep,Yb _ (k1 _ _ e),rr⟩
  refine lx ((Walks.list nh3 _ a hne its.toArray).toS) s.heap.objs.size (by simp;exact⟨Yq hds,Zn hla⟩) s.heap hnew prs (by rw[← sM,Yn]) (by rw[Yn,← rv.length];exact hl) (fun i v e=>at' i v (by simpa using e)) (its.toArray.size-0) 0 _ 0 0 (by omega) (YG _)
   ⟨⟨_,Yk _ rfl,rfl,rfl⟩,hl2⟩ (fun b o e=>Yb _ (hold b o e)) hd0 fun s' hm hS'=>?_
  obtain⟨h',g',d',tk',os'⟩:=s'
  have eg:g'=s.gens:=hm.gens
  have ed:d'=s.drawn:=hm.drawn
  have eo:os'=s.os:=hm.os
  subst eg ed eo
  exact hR h' tk' hS' fun b o e=>hm.heap b o (hnew b o e) (Yb _ (hold b o e))
 ·have z:(b_ [] kvs).length≤sizeLine:=YB (jI [] kvs) (by rw[YL,ZQ,← hp.length];exact YB hl (by decide))
  exact⟨.ref s.heap.objs.size,_,I.laid (a:=s.heap.objs.size) (o:=.dK (b_ [] kvs)) (t':=tk) hk (Yo _) (mY z (Xv.mpr (ZZ (Yq I.big))) (rA kv) hZ),rfl,q _ (I.hok.fresh (Yo _))⟩
end
end L2
namespace L2
open PySem PySem.Spec PySem.W PyProof.Rows
def da:List D→Option (List (Key×D))
 | []=>some []
 | .tup [k,v]::r=>(e7 k).bind fun kk=>(da r).map fun l=>(kk,v)::l
 | _=>none
def jB (a kvs:List (Key×D)):List (Key×D):=kvs.foldl (fun acc p=>kR acc p.1 p.2) a
theorem iY {K:Kq}{F:Hp}{v:V}{d:D}{k:Key}(r:Rep K F v d)(h:e7 d=some k):v=kV k:=by
 cases d with
 | int i=>cases h;cases r;rfl
 | str x=>cases h;cases r;rfl
 | _=>cases h
theorem lG {K:Kq}{F H:Hp}(s:Same F H):∀ {vs:List V} {ds:List D} {kvs:List (Key×D)},Reps K F vs ds→da ds=some kvs→∃ l,PairsV H vs l∧RepsK K F l kvs:=by
 intro vs ds kvs r
 refine Reps.ind (M:=fun vs ds=>∀ kvs,da ds=some kvs→∃ l,PairsV H vs l∧RepsK K F l kvs) (fun kvs h=>by cases h;exact⟨[],.nil,.nil⟩) (fun {v d vs ds} rv _ ih kvs h=>?_) r kvs
 unfold da at h
 split at h
 ·rename_i e;cases e
 ·rename_i k x r' e
  cases e
  cases q:e7 k with
  | none=>rw[q] at h;cases h
  | some kk=>
   rw[q,Ya] at h
   cases q2:da ds with
   | none=>rw[q2] at h;cases h
   | some l=>
    rw[q2] at h
    cases h
    obtain⟨l',h1,h2⟩:=ih l q2
    cases rv with
    | tup e1 e2=>
     cases e2 with
     | cons ra rb=>
      cases rb with
      | cons rx rn=>
       cases rn
       have ek:=iY ra q
       subst ek
       exact⟨_,.cons (s _ _ e1) h1,.cons rx h2⟩
 ·cases h
theorem jt {K:Kq}{F:Hp}{l:List (Key×V)}{kvs:List (Key×D)}(h:RepsK K F l kvs){a:List (Key×V)}{b:List (Key×D)}(hab:RepsK K F a b):RepsK K F (b_ a l) (jB b kvs):=
 RepsK.ind (M:=fun l kvs=>∀ (a:List (Key×V)) (b:List (Key×D)),RepsK K F a b→RepsK K F (b_ a l) (jB b kvs)) (fun _ _ h=>h) (fun {k v d vs ds} r _ ih a b hab=>ih _ _ (RepsK.put r hab)) h a b hab
def lW (f:Dl):DF→Option OD:=fun ρ=>(f ρ).bind fun ds=>(da ds).bind fun kvs=>if ds.length≤1000 then some (.dK (jB [] kvs)) else none
section
variable {X:Cx} {e i o:Expr} {pos p:Pos} {fk fd fe:Dd}
theorem k7 {f:Dl}(hcalm:X.calm=true)(hg:Gl X "dict")(hm:X.mg "dict"=none)(h:PDO X e (asL f))(hs:starEach [e] X.env=[(false,eval e X.env)]:=by rfl)(hpl:(backTo pos (starEach [] X.env)).any (·.1)=false:=by rfl) :
  PDO X (.Call (.Name "dict" p) [e] [] pos) (lW f):=
 (cQ (jh hcalm) hg hm jJ (ar h aN hs) (by decide) (by decide) hs hpl).imp fun σ H Q=>un7 fun P F ρ ob hf I k=>by
  unfold lW at hf
  cases q:f ρ with
  | none=>rw[q] at hf;cases hf
  | some ds=>
  cases q2:da ds with
  | none=>rw[q,Ya,q2] at hf;cases hf
  | some kvs=>
  rw[q,Ya,q2,Ya] at hf
  split at hf
  ·rename_i hl
   cases hf
   refine⟨P,F,ρ,.lst ds,by unfold asL;rw[q];rfl,I,fun a F1 H1 ev ho=>?_⟩
   obtain⟨⟨a1,a2⟩,u,a3,a4⟩:=ho
   cases u with
   | lst vs=>
    have rr:Reps X.K F1 vs ds:=a4
    obtain⟨l,h1,h2⟩:=lG ev.hp.sub rr q2
    refine⟨a,vs,l,rfl,a3,h1,by rw[rr.length];exact hl,fun d hd=>?_⟩
    exact k d F1 _ (ev.trans (Evo.side ev.hp hd)) ⟨⟨ev.back I.toDHp hd,(ev.hp.free hd).1⟩,_,ak,jt h2 .nil⟩
   | _=>exact a4.elim
  ·cases hf
def dX:D→D→Option D
 | y,.dK kvs=>(e7 y).map fun k=>.bl (!(eK kvs k).isSome)
 | _,_=>none
theorem nD (hu:X.A.units+64<cLine)(hi:PDE X i fk)(ho:PDR X o fd)(h1:behindInMarks .NotIn o=false:=by first | exact iu _ (by decide) (by decide) | rfl):PDT X (.Compare i [.NotIn] [o] pos) (asB (d2 dX fk fd)):=(nj (kL (by omega) hi ho) h1).imp fun σ H Q=>un7 fun P F ρ b hf I k=>by
 have hf:=nO hf
 unfold d2 at hf
 cases qb:fk ρ with
 | none=>rw[qb] at hf;cases hf
 | some dy=>
 cases qa:fd ρ with
 | none=>rw[qb,Ya,qa] at hf;cases hf
 | some dx=>
 rw[qb,Ya,qa,Ya] at hf
 cases dx with
 | dK kvs=>
  have hf':((e7 dy).map fun k=>D.bl (!(eK kvs k).isSome))=some (.bl b):=hf
  cases qk:e7 dy with
  | none=>rw[qk] at hf';cases hf'
  | some ks=>
   rw[qk] at hf'
   cases hf'
   refine⟨P,F,ρ,_,qb,I,fun y F1 H1 e1 ry=>⟨P,F1,ρ,_,qa,I.evo e1,fun x F2 H2 e2 rx=>?_⟩⟩
   obtain⟨p,vs,rfl,h1,h2⟩:=qT ((I.evo e1).evo e2) rx
   have ek:=iY (ry.same e2.ext) qk
   subst ek
   refine⟨p,_,rfl,DGet.k h1,_,rfl,?_⟩
   have:(cm vs ks).isSome=(eK kvs ks).isSome:=by
    rcases h2.val (k:=ks) with⟨z1,z2⟩ | ⟨v,d',z1,z2,z3⟩
    ·rw[z1,z2];rfl
    ·rw[z1,z2];rfl
   rw[this]
   exact k F2 H2 (e1.trans e2)
 | _=>cases hf
noncomputable def fi (i:Nat)(a0:Addr)(v0:V)(gL:Dd)(fe:Dd):DF→Option D:=fun ρ=>match ρ[i]? with
 | some (some (.v (.fn a v d)))=>open Classical in if a=a0∧v=v0 then (fe ρ).bind fun x=>gL [some (.v x),some (.v d)] else none
 | _=>none
theorem nq {L:LamS}{a0 c' c:Addr}{uc:Value}{v0:V}{gL:Dd}{x:Str}{k ix:Nat}(S:L.Ok)(hl:LamIn X L a0 c' c uc)(rc:RelV v0 uc)(hr:Room (k+1) X.A)(hN:X.N[ix]?=some x)(hv:Vis X.env.scope x)(ha:PDE X e fe)
  (hb:∀ (s:Shared) (H:Hp) (E:XK),PDE (gD CX0 X.prog X.w X.K X.mg X.base L a0 c' c X.A X.stack s H E) L.body gL)
  (hd:(x == ("__debug__":Str))=false:=by decide) (hcd:(x == ("__classdict__":Str))=false:=by decide) (he:starEach [e] X.env=(false,eval e X.env)::starEach [] X.env:=by rfl) :
  PDE X (.Call (.Name x p) [e] [] pos) (fi ix a0 v0 gL fe):=
 (mm (t:=tD X.K gL) S hl rc hr hN hv ha (fun s H E=>hb s H E) hd hcd he).imp fun σ H Q=>un7 fun P F ρ d hf I k=>by
  unfold fi at hf
  split at hf
  ·rename_i a v dc q
   split at hf
   ·rename_i av
    obtain⟨rfl,rfl⟩:=av
    cases q2:fe ρ with
    | none=>rw[q2] at hf;cases hf
    | some xd=>
     rw[q2,Ya] at hf
     obtain⟨w,h1,h2⟩:=I.at q
     cases h2 with
     | fn rv=>
      refine⟨h1,P,F,ρ,xd,q2,I,fun va F1 H1 ev r=>⟨va,rfl,gd F1 H1,F1,[some (.v xd),some (.v dc)],d,hf,⟨dl ev.hp.sub,rfl,fun _=>none,fun i z hz=>?_⟩,fun v' F2 H2 e2 r2=>k v' F2 H2 (ev.trans (e2.change ev.hp)) r2⟩⟩
      match i,hz with
      | 0,hz=>cases hz;exact⟨va,rfl,r⟩
      | 1,hz=>cases hz;exact⟨_,rfl,Rep.same ev.ext rv⟩
      | i+2,hz=>cases hz
   ·cases hf
  ·cases hf
def o4 (i:Nat)(fe:Dd):DF→Option RES:=fun ρ=>match ρ[i]?,fe ρ with
 | some (some (.v (.int a))),some (.int b)=>some (.nx (ρ.set i (some (.v (.int (a+b))))))
 | _,_=>none
theorem rD {ix:Nat}{x:Str}{pos':Pos}(hN:X.N.Nodup)(hi:X.N[ix]?=some x)(hx:Loc X.env.scope x)(he:PDE X e fe)(hf:X.fn x=true∨X.env.scope.names.lookup x=some .local:=by first | exact .inl rfl | exact .inr rfl | assumption):PD1 X (.AugAssign (.Name x pos') .Add e pos) (o4 ix fe):=
 PS.imp (qU hN hi hx he qz hf) fun E σ H=>un7 fun P F ρ r hr I k=>by
  unfold o4 at hr
  split at hr
  ·rename_i a b q q2
   cases hr
   obtain⟨v,h1,h2⟩:=I.at q
   cases h2
   refine⟨_,h1,P,F,ρ,_,q2,I,fun y F1 H1 ev r=>?_⟩
   cases r
   exact⟨a,b,rfl,rfl,k _ F1 H1 ev.ext ((I.evo ev).setV ix .int)⟩
  ·cases hr
end
section
variable {X:Cx} {o e:Expr} {pos apos cpos:Pos}
end
def spLawT (W:LamW)(K:Kq):Sp:=fun vs H Q _=>∃ (a:Addr) (ns:List Int),vs=[.ref a]∧SqL K H a (ns.map V.int)∧ns.length≤63∧kC W.t W.pos H∧∀ H',(∃ φ,H' W.t=some (.ext φ)∧∀ h,φ h→∃ ps,h.get? W.t=some (tabObj ps))→Q (.bl true) H'
theorem jG {W:LamW}{K:Kq}{m:Dm}(hm:∀ ns:List Int,ns.length≤63→m [.v (.lst (ns.map D.int))]=some (.v (.bl true))):∀ vs H Q E,spLawT W K vs H Q E→spT W K m vs H Q E:=by
 rintro vs H Q E ⟨a,ns,rfl,hS,hl,⟨hO,hN⟩,hQ⟩
 have off:∀ {b:Addr},b≠W.t→(fun b=>if b=W.t then none else H b) b=H b:=fun h=>Yl h
 have hS':SqL K (fun b=>if b=W.t then none else H b) a (ns.map V.int):=by
  rcases hS with hr | hk
  ·refine .inl ?_
   have ne:a≠W.t:=fun z=>by
    subst z
    rcases hr with z | ⟨o,z⟩
    ·rw[hO] at z;cases z
    ·rw[hO] at z;cases z
   rcases hr with z | ⟨o,z⟩
   ·exact .inl ((off ne).trans z)
   ·exact .inr ⟨o,(off ne).trans z⟩
  ·exact .inr hk
 refine⟨fun b=>if b=W.t then H b else none,fun b=>if b=W.t then none else H b,_,_,hm ns hl,⟨fun b o e=>?_,fun b o e=>?_,fun b o e=>?_⟩,.inl ?_,.cons rfl (show Rep K _ _ _ from .lst hS' (Reps.ints ns)) .nil,fun v P' F' H' _ _ T' hp r=>?_⟩
 ·have e':(if b=W.t then none else H b)=some o:=e
  split at e'
  ·cases e'
  ·exact e'
 ·have e':(if b=W.t then H b else none)=some o:=e
  split at e'
  ·exact e'
  ·cases e'
 ·have e':(if b=W.t then H b else none)=some o:=e
  split at e'
  ·rename_i h;exact Yi h
  ·cases e'
 ·exact (Yi rfl).trans hO
 ·cases r
  refine hQ H' ?_
  rcases T' with h | ⟨c',h,_⟩
  ·exact⟨_,hp.pro _ _ h,fun _ ⟨ps,e,_⟩=>⟨ps,e⟩⟩
  ·exact⟨_,hp.pro _ _ h,fun _ ⟨ps,e,_⟩=>⟨ps,e⟩⟩
theorem DInv.lend {K:Kq}{P F H:Hp}{ρ:DF}{σ:St}(I:DInv K P F H ρ σ){i:Nat}{o:OD}{t:Option Addr}(fl:o.flat=true)(h:ρ[i]?=some (some (.own o t))):∃ P',DInv K P' F H (ρ.set i (some (.bor o))) σ:=by
 obtain⟨O,hR⟩:=I.rep
 obtain⟨_,h1,a,rfl,h2,_⟩:=hR i _ h
 obtain⟨⟨fa,pa,oa⟩,u,a3,a4⟩:=(ORep.flat fl).mp h2
 have ne:∀ {b:Addr} {m:Nat},O b=some m→i≠m→b≠a:=fun h hn z=>by subst z;rw[oa] at h;exact hn (Yx h)
 refine⟨upd P a u,⟨I.sub,fun b w e=>?_,fun b w e=>?_⟩,by rw[Yy];exact I.len,O,fun m x hm=>?_⟩
 ·by_cases q:b=a
  ·subst q;rw[ak] at e;cases e;exact a3
  ·rw[ae q] at e;exact I.pro b w e
 ·by_cases q:b=a
  ·subst q;exact fa
  ·rw[ae q] at e;exact I.dis b w e
 ·rcases bz hm with⟨rfl,e,hl⟩ | ⟨him,hm'⟩
  ·cases e
   exact⟨_,h1,a,rfl,(ORep.flat fl).mpr ⟨trivial,u,ak,a4⟩⟩
  ·obtain⟨v,e1,e2⟩:=hR m x hm'
   refine⟨v,e1,?_⟩
   cases x with
   | v d=>exact e2
   | own o' t'=>
    obtain⟨b,rfl,e3,ht⟩:=e2
    exact⟨b,rfl,e3.mono (Same.refl _) fun b' w q hb=>⟨hb,q.1,by rw[ae (ne q.2.2 him)];exact q.2.1,q.2.2⟩,ht⟩
   | bor o'=>
    obtain⟨b,rfl,e3⟩:=e2
    exact⟨b,rfl,e3.mono (Same.refl _) fun b' w q hb=>⟨by rw[ae (fun z=>by subst z;rw[pa] at hb;cases hb)];exact hb,q⟩⟩
def nV (i:Nat)(f:Do):DF→Option OD:=fun ρ=>match ρ[i]? with
 | some (some (.own o _))=>if o.flat=true then f (ρ.set i (some (.bor o))) else none
 | _=>none
theorem mE {X:Cx}{e:Expr}(i:Nat){f:Do}(h:PDO X e f):PDO X e (nV i f):=PE.imp h fun σ H Q=>un7 fun P F ρ o hf I k=>by
 unfold nV at hf
 split at hf
 ·rename_i o' t q
  split at hf
  ·rename_i fl
   obtain⟨P',I'⟩:=I.lend fl q
   exact⟨P',F,_,o,hf,I',fun a F' H' ev ho=>k a F' H' (ev.change I.toDHp) ho⟩
  ·cases hf
 ·cases hf
section
variable {K:Kq} {x qual:Str} {st:Stmt} {f:Addr} {oc:Value} {od an:Option Addr} {osl:Array (Option Value)} {kV doc pm cdv ct:Value}
theorem ol {T:Addr}{c1:Value}{d1:Option Addr}{s1:Array (Option Value)}{nt:Nat}(l:K.lookup f=some ⟨oc,od,.func (fnOf x qual (defArgs st) (defBody st) (defScope st) (.ref T) kV doc pm an cdv ct),osl⟩)
  (c:codeIn K cdv qual=true) (k:keepIn K (.ref f)=true) (lt:K.lookup T=some ⟨c1,d1,.seq #[Value.none] nt,s1⟩):FunD K x qual st f (fnOf x qual (defArgs st) (defBody st) (defScope st) (.ref T) kV doc pm an cdv ct):=⟨⟨oc,od,T,kV,doc,pm,an,cdv,ct,osl,_,nt,rfl,l,c,lt,rfl⟩,k⟩
theorem o_ {c0:Addr}(l:K.lookup f=some ⟨oc,od,.func (fnOf x qual (defArgs st) (defBody st) (defScope st) .none kV doc pm an (.ref c0) ct),osl⟩)
  (c:codeIn K (.ref c0) qual=true) (k:keepIn K (.ref f)=true):FunC K x qual st f (fnOf x qual (defArgs st) (defBody st) (defScope st) .none kV doc pm an (.ref c0) ct) c0:=⟨⟨oc,od,kV,doc,pm,an,ct,osl,rfl,l,c⟩,k⟩
end
section
variable {X:Cx} {W:LamW} {pos:Pos} {e a b:Expr}
theorem pD {aJ:List Expr}{f g:Dd}(ha:PET X W a f)(hb:PDE X (.BoolOp .And (b::aJ) pos) g):PET X W (.BoolOp .And (a::b::aJ) pos) (pC f g):=(qG ha hb).imp fun σ H Q ⟨P,F,ρ,r,hf,I,T,k⟩=>by
 unfold pC at hf
 split at hf
 ·rename_i q
  refine⟨P,F,ρ,_,q,I,T,fun v P1 F1 H1 e1 g1 T1 I1 r1=>?_⟩
  cases r1
  exact⟨true,rfl,by rw[Yi rfl];exact⟨P1,F1,ρ,r,hf,I1,fun v F2 H2 e2 r2=>k v P1 F2 H2 (e1.trans e2.ext) g1 T1 (I1.evo e2) r2⟩⟩
 ·rename_i q
  refine⟨P,F,ρ,_,q,I,T,fun v P1 F1 H1 e1 g1 T1 I1 r1=>?_⟩
  cases r1
  cases hf
  exact⟨false,rfl,by rw[Yl Yj];exact k _ P1 F1 H1 e1 g1 T1 I1 .bl⟩
 ·cases hf
theorem pN {f:Dd}(h:PET X W e f):PT1 X W (.Return (some e) pos) (cu f):=PS.imp (jH h) fun E σ H ⟨P,F,ρ,r,hg,I,T,k⟩=>by
 unfold cu at hg
 cases q:f ρ with
 | none=>rw[q] at hg;cases hg
 | some d=>
  rw[q] at hg
  cases hg
  exact⟨P,F,ρ,d,q,I,T,fun v P' F' H' e1 g1 T1 I1 rv=>k v σ P' F' H' e1 g1 T1 I1 rv⟩
end
end L2
namespace My
open PySem PySem.Spec PyProof.Rows L2
noncomputable section
def top (i:Nat):Stmt:=PySem.Challenge.pw_tieword_k17_orbits_of.main.body.getD i (.Pass ⟨0,0,0,0⟩)
abbrev jO:Stmt:=top 6
abbrev jx:Stmt:=top 5
abbrev jv:Stmt:=top 7
abbrev iH:Stmt:=top 8
abbrev iX:Stmt:=top 9
abbrev iT:Stmt:=top 10
abbrev iP:Stmt:=top 1
abbrev fU:Stmt:=top 3
abbrev jZ:Stmt:=top 11
abbrev fT:Stmt:=top 12
set_option genInjectivity false
set_option genSizeOf false
set_option genSizeOfSpec false
structure Adr where
 C:Addr
 f_q7:Addr
 d_q7:FuncData
 f_q1:Addr
 d_q1:FuncData
 f_q6:Addr
 d_q6:FuncData
 f_q5:Addr
 d_q5:FuncData
 f_q4:Addr
 d_q4:FuncData
 f_q2:Addr
 d_q2:FuncData
 f_q9:Addr
 d_q9:FuncData
 f_q8:Addr
 d_q8:FuncData
 f_q3:Addr
 d_q3:FuncData
 f_q0:Addr
 d_q0:FuncData
 tb:Addr
 cc:Addr
structure Txt (K:PySem.W.Frag) (mg:Str→Option Value) (t:Adr):Prop where
 fn_q7:Fun K "_law_some" "_law_some" jO t.f_q7 t.d_q7
 bd_q7:Binds K t.d_q7 ["_law_number", "_law_prime", "_law_many"] []
 g_q7:mg "_law_some"=some (.ref t.f_q7)
 fn_q1:Fun K "_law_cell" "_law_cell" jx t.f_q1 t.d_q1
 bd_q1:Binds K t.d_q1 ["_law_cells", "_law_k"] []
 g_q1:mg "_law_cell"=some (.ref t.f_q1)
 fn_q6:Fun K "_law_order" "_law_order" jv t.f_q6 t.d_q6
 bd_q6:Binds K t.d_q6 ["_law_cells", "_law_size", "_law_prime"] []
 g_q6:mg "_law_order"=some (.ref t.f_q6)
 fn_q5:Fun K "_law_one" "_law_one" iH t.f_q5 t.d_q5
 bd_q5:Binds K t.d_q5 ["_law_cells", "_law_size", "_law_k"] []
 g_q5:mg "_law_one"=some (.ref t.f_q5)
 fn_q4:Fun K "_law_marks" "_law_marks" iX t.f_q4 t.d_q4
 bd_q4:Binds K t.d_q4 ["_law_size", "_law_rows"] []
 g_q4:mg "_law_marks"=some (.ref t.f_q4)
 fn_q2:Fun K "_law_due" "_law_due" iT t.f_q2 t.d_q2
 bd_q2:Binds K t.d_q2 ["_law_size", "_law_rows"] []
 g_q2:mg "_law_due"=some (.ref t.f_q2)
 fn_q9:FunD K "reached" "reached" iP t.f_q9 t.d_q9
 bd_q9:Binds K t.d_q9 ["starts", "onward", "most"] [Value.none]
 g_q9:mg "reached"=some (.ref t.f_q9)
 fn_q8:FunC K "orbits_of" "orbits_of" fU t.f_q8 t.d_q8 t.cc
 bd_q8:Binds K t.d_q8 ["size", "turnings"] []
 g_q8:mg "orbits_of"=some (.ref t.f_q8)
 fn_q3:Fun K "_law_is" "_law_is" jZ t.f_q3 t.d_q3
 bd_q3:Binds K t.d_q3 ["_law_found", "_law_due_here"] []
 g_q3:mg "_law_is"=some (.ref t.f_q3)
 fn_q0:Fun K "law" "law" fT t.f_q0 t.d_q0
 bd_q0:Binds K t.d_q0 ["_law_script"] []
 g_q0:mg "law"=some (.ref t.f_q0)
 b_bool:mg "bool"=none
 b_dict:mg "dict"=none
 b_int:mg "int"=none
 b_isinstance:mg "isinstance"=none
 b_len:mg "len"=none
 b_list:mg "list"=none
 b_max:mg "max"=none
 b_min:mg "min"=none
 b_range:mg "range"=none
 b_sorted:mg "sorted"=none
 b_zip:mg "zip"=none
 ch:PySem.W.codeHdIn K t.cc t.tb=true
def mQ:Expr:=match defBody fU with | [_,.For _ _ (.Assign _ (.Call _ [.Call _ [_,l] _ _] _ _) _::_) _ _,_]=>l | _=>.Constant .none 0 ⟨0,0,0,0⟩
def vx:Arguments:=match mQ with | .Lambda p _ _ _=>p | _=>defArgs fU
def u_:Expr:=match mQ with | .Lambda _ b _ _=>b | _=>mQ
def oK:Scope:=match mQ with | .Lambda _ _ s _=>s | _=>defScope fU
def lamQ:Pos:=match mQ with | .Lambda _ _ _ q=>q | _=>⟨0,0,0,0⟩
def qV:LamS:=⟨"orbits_of.<locals>.<lambda>",vx,u_,oK, "at", "turnings",true⟩
def lamW (t:Addr):LamW:=⟨qV,t,lamQ⟩
theorem qD:qV.Ok:=⟨rfl,rfl,rfl,rfl,rfl,rfl,fun y h=>⟨(by decide +kernel:∀ p∈oK.names,p.2=.cell→p.1 = "at") _ (YR h) rfl,rfl⟩,nofun,fun _ _ _=>rfl,fun _ _=>rfl,fun y h=>(by decide +kernel:∀ p∈oK.names,p.2=.free→p.1 = "turnings") _ (YR h) rfl,fun _ _ _ _ _=>rfl⟩
variable {P:Program} {w:World} {K:Kq} {mg:Ks} {base:Heap} {t:Adr}
abbrev vh:List Str:=["_law_number", "_law_prime", "_law_many"]
theorem sG:FnScope vh ["_law_number", "_law_prime", "_law_many"] (defScope jO):=⟨rfl,rfl,rfl,by decide +kernel,rfl,by decide +kernel,by decide +kernel⟩
def g_q7 (C:Addr):DF→Option RES:=
  (cu (d2 cG (d2 cG (d2 j2 (d2 cG (d2 cC (ac 0) (fun _=>some (.int 1))) (fun _=>some (.int 2147483647))) (fun _=>some (.int 48271))) (ac 1)) (ac 2)))
def dh (C:Addr):List DV→Option DV:=mOf 3 3 (g_q7 C)
theorem kg (T:Txt K mg t):FnOk P w K mg base CX0 1 t.f_q7 t.d_q7 ["_law_number", "_law_prime", "_law_many"] (spD K (dh t.C)):=
 T.fn_q7.okD sG fun cdv A outer s H E hr=>(ao (bV (bT (PDE.r (bT (PDE.r (lT (PDE.r (bT (PDE.r (bS (ag 0 (pv 0)) (PDE.r aw))) (PDE.r aw))) (PDE.r aw))) (ag 1 (pv 1)))) (ag 2 (pv 2)))))
abbrev uV:List Str:=["_law_cells", "_law_k"]
theorem sU:FnScope uV ["_law_cells", "_law_k"] (defScope jx):=⟨rfl,rfl,rfl,by decide +kernel,rfl,by decide +kernel,by decide +kernel⟩
def g_q1 (C:Addr):DF→Option RES:=
  (aq (dIf (asB (d2 ltd (aj 1) (d1 bP (aj 0)))) (cu (d2 ixD (ac 0) (ac 1))) dNx)
  (cu (fun _=>some (.int 0))))
def d6 (C:Addr):List DV→Option DV:=mOf 2 2 (g_q1 C)
theorem kd (T:Txt K mg t):FnOk P w K mg base CX0 1 t.f_q1 t.d_q1 ["_law_cells", "_law_k"] (spD K (d6 t.C)):=
 T.fn_q1.okD sU fun cdv A outer s H E hr=>(ah (cE (jP hr.h64 (ax 1 (pv 1)) (PDE.n (d3 rfl T.b_len (ax 0 (pv 0))))) (ao (bV (cM (ag 0 (pv 0)) (ag 1 (pv 1))))) bc) (ao (bV aw)))
abbrev uK:List Str:=["_law_cells", "_law_size", "_law_prime", "_law_left", "_law_order_here", "_law_k"]
theorem kB:FnScope uK ["_law_cells", "_law_size", "_law_prime"] (defScope jv):=⟨rfl,rfl,rfl,by decide +kernel,rfl,by decide +kernel,by decide +kernel⟩
def g_q6 (C:Addr):DF→Option RES:=
  (aq (bg 3 (asL (e_ (getV 1))))
  (aq (bg 4 (asL jL))
  (aq (bD (cD (ac 1)) (setV 5) (cS 4 3 (aA (dh C) (aV (d2 cC (aA (d6 C) (aB 0 (aB 5 (fun _=>some [])))) (d2 j2 (ac 5) (ac 5))) (aB 2 (aV (d1 bP (aj 3)) (fun _=>some [])))))))
  (d9 4))))
def o7 (C:Addr):List DV→Option DV:=mOf 6 3 (g_q6 C)
theorem sQ (T:Txt K mg t):FnOk P w K mg base CX0 2 t.f_q6 t.d_q6 ["_law_cells", "_law_size", "_law_prime"] (spD K (o7 t.C)):=
 T.fn_q6.okD kB fun cdv A outer s H E hr=>(ah (br (i:=3) kB.nd rfl (.inl rfl) (bC rfl rfl T.b_list rfl T.b_range (ap 1 (pv 1)))) (ah (br (i:=4) kB.nd rfl (.inl rfl) (eN dB)) (ah (c9 Zb rfl (a9 rfl T.b_range (ag 1 (pv 1))) (aC (i:=5) kB.nd rfl (.inl rfl)) (ao (k0 4 3 (pv 4) (pv 3) (aX (kg T) (hr.mono (by decide)) rfl T.g_q7 T.fn_q7.kp T.bd_q7 (aG (bS (PDE.r (aX (kd T) (hr.mono (by decide)) rfl T.g_q1 T.fn_q1.kp T.bd_q1 (dO 0 (pv 0) (dO 5 (pv 5) aI)))) (PDE.r (lT (ag 5 (pv 5)) (ag 5 (pv 5))))) (dO 2 (pv 2) (aG (d3 rfl T.b_len (ax 3 (pv 3))) aI))))))) (ao (dJ 4 (pv 4))))))
abbrev tH:List Str:=["_law_cells", "_law_size", "_law_k", "_law_number", "_law_pick", "_law_row", "_law_run", "_law_one_here", "_law_other"]
theorem dG:FnScope tH ["_law_cells", "_law_size", "_law_k"] (defScope iH):=⟨rfl,rfl,rfl,by decide +kernel,rfl,by decide +kernel,by decide +kernel⟩
def g_q5 (C:Addr):DF→Option RES:=
  (aq (aQ 3 (aA (dh C) (aV (d2 cC (aA (d6 C) (aB 0 (aV (d2 cC (fun _=>some (.int 2)) (ac 2)) (fun _=>some [])))) (ac 2)) (aV (fun _=>some (.int 10111)) (aV (fun _=>some (.int 10000)) (fun _=>some []))))))
  (aq (aQ 4 (d2 cG (ac 3) (fun _=>some (.int 6))))
  (aq (bg 5 (asL (e_ (getV 1))))
  (aq (dIf (asB (d2 ltd (aj 4) (fun _=>some (.int 2)))) (aq (aQ 6 (d2 cC (fun _=>some (.int 1)) (d2 cG (d2 cK (ac 3) (fun _=>some (.int 6))) (ac 1))))
  (bg 5 (asL (kQ (asO (asL (aK 1 [3,6] (cD (ac 6)) (setV 0) bN (d2 cG (d2 cC (ac 0) (d2 cK (ac 1) (fun _=>some (.int 42)))) (ac 2))))) (asO (asL (slL (ac 5) (bI (getV 6)) bNo))))))) dNx)
  (aq (dIf (orT (asB (d2 eqD (aj 4) (fun _=>some (.int 2)))) (asB (d2 eqD (aj 4) (fun _=>some (.int 3))))) (aq (aQ 7 (d2 cG (d2 cK (ac 3) (fun _=>some (.int 6))) (ac 1)))
  (aq (aQ 8 (d2 cG (d2 cK (ac 3) (fun _=>some (.int 42))) (ac 1)))
  (aq (c6 5 (getV 7) (getV 8))
  (c6 5 (getV 8) (getV 7))))) dNx)
  (aq (dIf (asB (d2 eqD (aj 4) (fun _=>some (.int 4)))) (bg 5 (dN (o7 C) (aV (asO (asL (slL (ac 0) (bI (getV 2)) bNo))) (aV (getV 1) (aV (fun _=>some (.int 10133)) (fun _=>some [])))))) dNx)
  (d9 5)))))))
def lA (C:Addr):List DV→Option DV:=mOf 9 3 (g_q5 C)
theorem tp (T:Txt K mg t):FnOk P w K mg base CX0 3 t.f_q5 t.d_q5 ["_law_cells", "_law_size", "_law_k"] (spD K (lA t.C)):=
 T.fn_q5.okD dG fun cdv A outer s H E hr=>(ah (a_ (i:=3) dG.nd rfl (.inr rfl) (aX (kg T) (hr.mono (by decide)) rfl T.g_q7 T.fn_q7.kp T.bd_q7 (aG (bS (PDE.r (aX (kd T) (hr.mono (by decide)) rfl T.g_q1 T.fn_q1.kp T.bd_q1 (dO 0 (pv 0) (aG (bS (PDE.r aw) (ag 2 (pv 2))) aI)))) (ag 2 (pv 2))) (aG aw (aG aw aI))))) (ah (a_ (i:=4) dG.nd rfl (.inl rfl) (bT (ag 3 (pv 3)) (PDE.r aw))) (ah (br (i:=5) dG.nd rfl (.inl rfl) (bC rfl rfl T.b_list rfl T.b_range (ap 1 (pv 1)))) (ah (cE (jP hr.h64 (ax 4 (pv 4)) (PDE.n aw)) (ah (a_ (i:=6) dG.nd rfl (.inr rfl) (bS (PDE.r aw) (PDE.r (bT (PDE.r (eW (ag 3 (pv 3)) (PDE.r aw))) (ag 1 (pv 1)))))) (ao (br (i:=5) dG.nd rfl (.inl rfl) (oH (PDE.r (PDO.v (cF (N:=["_law_place", "_law_number", "_law_run"]) (own:=1) (ix:=[3,6]) (is:=[0]) rfl (eB (defScope iH) rfl (by decide +kernel)) (eC tH rfl (by decide +kernel)) (cw (by decide)) (a9 rfl T.b_range (ag 6 (pv 6))) (fun _ _ _ _=>(aC (i:=0) (show (["_law_place", "_law_number", "_law_run"]:List Str).Nodup from by decide +kernel) rfl (.inl rfl))) (fun _ _ _ _=>fN) (fun _ _ _ _=>(bT (PDE.r (bS (ag 0 (pv 0)) (PDE.r (eW (ag 1 (pv 1)) (PDE.r aw))))) (ag 2 (pv 2)))) (by decide +kernel)))) (PDE.r (PDO.v (gf (ag 5 (pv 5)) (qe (ap 6 (pv 6))) nF))))))) bc) (ah (cE (PDW.t (d5 (gH hr.h64 (ax 4 (pv 4)) (PDE.n aw)) (cU (gH hr.h64 (ax 4 (pv 4)) (PDE.n aw))))) (ah (a_ (i:=7) dG.nd rfl (.inl rfl) (bT (PDE.r (eW (ag 3 (pv 3)) (PDE.r aw))) (ag 1 (pv 1)))) (ah (a_ (i:=8) dG.nd rfl (.inl rfl) (bT (PDE.r (eW (ag 3 (pv 3)) (PDE.r aw))) (ag 1 (pv 1)))) (ah (i7 5 (pv 5) (ap 7 (pv 7)) (ap 8 (pv 8))) (ao (i7 5 (pv 5) (ap 8 (pv 8)) (ap 7 (pv 7))))))) bc) (ah (cE (gH hr.h64 (ax 4 (pv 4)) (PDE.n aw)) (ao (br (i:=5) dG.nd rfl (.inl rfl) (n5 (sQ T) (hr.mono (by decide)) rfl T.g_q6 T.fn_q6.kp T.bd_q6 (aG (PDO.v (gf (ag 0 (pv 0)) (qe (ap 2 (pv 2))) nF)) (aG (ap 1 (pv 1)) (aG aw aI)))))) bc) (ao (dJ 5 (pv 5)))))))))
abbrev tX:List Str:=["_law_size", "_law_rows", "_law_marks_here", "_law_row", "_law_place", "_law_low", "_law_high"]
theorem fy:FnScope tX ["_law_size", "_law_rows"] (defScope iX):=⟨rfl,rfl,rfl,by decide +kernel,rfl,by decide +kernel,by decide +kernel⟩
def g_q4 (C:Addr):DF→Option RES:=
  (aq (aQ 2 (asO (asL (e_ (getV 0)))))
  (aq (bD (aT 1) (setV 3) (bD (cD (ac 0)) (setV 4) (aq (aQ 5 (d2 hW (d2 ixD (ac 2) (ac 4)) (d2 ixD (ac 2) (d2 ixD (ac 3) (ac 4)))))
  (aq (aQ 6 (d2 gQ (d2 ixD (ac 2) (ac 4)) (d2 ixD (ac 2) (d2 ixD (ac 3) (ac 4)))))
  (aQ 2 (asO (asL (aK 1 [6,5] (aT 2) (setV 0) bN (ifV (asB (d2 eqD (aj 0) (aj 1))) (getV 2) (getV 0))))))))))
  (cu (getV 2))))
def oD (C:Addr):List DV→Option DV:=mOf 7 2 (g_q4 C)
theorem su (T:Txt K mg t):FnOk P w K mg base CX0 1 t.f_q4 t.d_q4 ["_law_size", "_law_rows"] (spD K (oD t.C)):=
 T.fn_q4.okD fy fun cdv A outer s H E hr=>(ah (a_ (i:=2) fy.nd rfl (.inl rfl) (PDO.v (bC rfl rfl T.b_list rfl T.b_range (ap 0 (pv 0))))) (ah (c9 Zb rfl (b5 1 (pv 1)) (aC (i:=3) fy.nd rfl (.inl rfl)) (ao (c9 Zb rfl (a9 rfl T.b_range (ag 0 (pv 0))) (aC (i:=4) fy.nd rfl (.inl rfl)) (ah (a_ (i:=5) fy.nd rfl (.inr rfl) (pq rfl rfl T.b_min (PDE.n (cM (ag 2 (pv 2)) (ag 4 (pv 4)))) (PDE.n (cM (ag 2 (pv 2)) (PDE.r (cM (ag 3 (pv 3)) (ag 4 (pv 4)))))))) (ah (a_ (i:=6) fy.nd rfl (.inr rfl) (pA rfl rfl T.b_max (PDE.n (cM (ag 2 (pv 2)) (ag 4 (pv 4)))) (PDE.n (cM (ag 2 (pv 2)) (PDE.r (cM (ag 3 (pv 3)) (ag 4 (pv 4)))))))) (ao (dg (i:=2) (N:=["_law_mark", "_law_high", "_law_low"]) (own:=1) (ix:=[6,5]) (is:=[0]) fy.nd rfl (.inl rfl) rfl (eB (defScope iX) rfl (by decide +kernel)) (eC tX rfl (by decide +kernel)) (cw (by decide)) (b5 2 (pv 2)) (fun _ _ _ _=>(aC (i:=0) (show (["_law_mark", "_law_high", "_law_low"]:List Str).Nodup from by decide +kernel) rfl (.inl rfl))) (fun _ _ _ _=>fN) (fun _ _ _ _=>(sn (gH hr.h64 (ax 0 (pv 0)) (ax 1 (pv 1))) (ap 2 (pv 2)) (ap 0 (pv 0)))) (by decide +kernel)))))))) (ao (bV (ap 2 (pv 2))))))
abbrev tP:List Str:=["_law_size", "_law_rows", "_law_marks_here", "_law_due_here", "_law_place"]
theorem kG:FnScope tP ["_law_size", "_law_rows"] (defScope iT):=⟨rfl,rfl,rfl,by decide +kernel,rfl,by decide +kernel,by decide +kernel⟩
def g_q2 (C:Addr):DF→Option RES:=
  (aq (aQ 2 (aA (oD C) (aV (getV 0) (aB 1 (fun _=>some [])))))
  (aq (bg 3 (asL jL))
  (aq (bD (cD (ac 0)) (setV 4) (dIf (asB (d2 eqD (d2 ixD (ac 2) (ac 4)) (aj 4))) (jb 3 (asO (asL (aK 1 [2,4] (cD (ac 0)) (setV 0) (asB (d2 eqD (d2 ixD (ac 1) (ac 0)) (aj 2))) (getV 0))))) dNx))
  (d9 3))))
def oW (C:Addr):List DV→Option DV:=mOf 5 2 (g_q2 C)
theorem tY (T:Txt K mg t):FnOk P w K mg base CX0 2 t.f_q2 t.d_q2 ["_law_size", "_law_rows"] (spD K (oW t.C)):=
 T.fn_q2.okD kG fun cdv A outer s H E hr=>(ah (a_ (i:=2) kG.nd rfl (.inr rfl) (aX (su T) (hr.mono (by decide)) rfl T.g_q4 T.fn_q4.kp T.bd_q4 (aG (ap 0 (pv 0)) (dO 1 (pv 1) aI)))) (ah (br (i:=3) kG.nd rfl (.inl rfl) (eN dB)) (ah (c9 Zb rfl (a9 rfl T.b_range (ag 0 (pv 0))) (aC (i:=4) kG.nd rfl (.inr rfl)) (ao (cE (gH hr.h64 (PDE.n (cM (ag 2 (pv 2)) (ag 4 (pv 4)))) (ax 4 (pv 4))) (ao (gs 3 (pv 3) (PDO.v (cF (N:=["_law_one_here", "_law_marks_here", "_law_place"]) (own:=1) (ix:=[2,4]) (is:=[0]) rfl (eB (defScope iT) rfl (by decide +kernel)) (eC tP rfl (by decide +kernel)) (cw (by decide)) (a9 rfl T.b_range (ag 0 (pv 0))) (fun _ _ _ _=>(aC (i:=0) (show (["_law_one_here", "_law_marks_here", "_law_place"]:List Str).Nodup from by decide +kernel) rfl (.inl rfl))) (fun _ _ _ _=>(uf (gH hr.h64 (PDE.n (cM (ag 1 (pv 1)) (ag 0 (pv 0)))) (ax 2 (pv 2))))) (fun _ _ _ _=>(ap 0 (pv 0))) (by decide +kernel))))) bc))) (ao (dJ 3 (pv 3))))))
abbrev t3:List Str:=["starts", "onward", "most", "found", "known", "done", "at", "thing"]
theorem fj:FnScope t3 ["starts", "onward", "most"] (defScope iP):=⟨rfl,rfl,rfl,by decide +kernel,rfl,by decide +kernel,by decide +kernel⟩
def eA (C:Addr):DF→Option D:=(asO (asL (aK 1 [0] (aT 1) (setV 0) bN (d2 ixD (ac 0) (ac 1)))))
def g_q9 (C:Addr)(a0:Addr)(v0:V)(_:D):DF→Option RES:=
  (aq (bg 3 (asL (dU (ac 0))))
  (aq (bg 4 (nV 3 (lW (aK 1 [] (aT 3) (setV 0) bN (asT (el (getV 0) (el (fun _=>some (.bl true)) jL)))))))
  (aq (aQ 5 (fun _=>some (.int 0)))
  (aq (bh (jn (asB (d2 ltd (aj 5) (d1 bP (aj 3)))) (orT (mf 2) (asB (d2 leI (d1 bP (aj 3)) (ac 2))))) (aq (aQ 6 (d2 ixD (ac 3) (ac 5)))
  (aq (bD (eD (fi 1 a0 v0 (eA C) (getV 6))) (setV 7) (dIf (asB (d2 dX (getV 7) (ac 4))) (aq (dQ 4 (getV 7) (fun _=>some (.bl true)))
  (jb 3 (getV 7))) dNx))
  (o4 5 (fun _=>some (.int 1))))) 10)
  (d9 3)))))
theorem sB (T:Txt K mg t):nH P w K mg base 2 t.f_q9 t.d_q9 ["starts", "onward", "most"] (spR (lamW t.tb) K 8 (g_q9 t.C)):=
 T.fn_q9.okR fj rfl fun cdv A outer s H E f c' c uc vc dc hr li rc=>(ah (br (i:=3) fj.nd rfl (.inl rfl) (jc rfl T.b_list (ag 0 (pv 0)))) (ah (br (i:=4) fj.nd rfl (.inl rfl) (mE 3 (k7 rfl rfl T.b_dict (cF (N:=["thing"]) (own:=1) (ix:=[]) (is:=[0]) rfl (eB (defScope iP) rfl (by decide +kernel)) (eC t3 rfl (by decide +kernel)) (cw (by decide)) (b5 3 (pv 3)) (fun _ _ _ _=>(aC (i:=0) (show (["thing"]:List Str).Nodup from by decide +kernel) rfl (.inl rfl))) (fun _ _ _ _=>fN) (fun _ _ _ _=>(qO (fJ (ap 0 (pv 0)) (fJ fE dB)))) (by decide +kernel))))) (ah (a_ (i:=5) fj.nd rfl (.inl rfl) aw) (ah (nZ 10 Zb (PDW.t (og (jP hr.h64 (ax 5 (pv 5)) (PDE.n (d3 rfl T.b_len (ax 3 (pv 3))))) (l_ (PDW.t (d5 (oC 2 (pv 2)) (cU (sK (PDE.r (d3 rfl T.b_len (ax 3 (pv 3)))) (ag 2 (pv 2))))))))) (ah (a_ (i:=6) fj.nd rfl (.inl rfl) (cM (ag 3 (pv 3)) (ag 5 (pv 5)))) (ah (c9 Zb rfl (oQ (nq (v0:=vc) (k:=0) qD li rc (hr.mono (by decide)) rfl (by first | exact Or.inl rfl | exact Or.inr (Or.inl rfl)) (ap 6 (pv 6)) (fun s_ _ _=>have hr:=Room.deeper (k:=0) (hr.mono (by decide)) (bv qV s_ f c' c);(PDO.v (cF (N:=["turning", "at"]) (own:=1) (ix:=[0]) (is:=[0]) rfl (eB oK rfl (by decide +kernel)) (eC ["at", "turnings"] rfl (by decide +kernel)) (cw (by decide)) (b5 1 (pv 1)) (fun _ _ _ _=>(aC (i:=0) (show (["turning", "at"]:List Str).Nodup from by decide +kernel) rfl (.inl rfl))) (fun _ _ _ _=>fN) (fun _ _ _ _=>(cM (ag 0 (pv 0)) (ag 1 (pv 1)))) (by decide +kernel)))))) (aC (i:=7) fj.nd rfl (.inl rfl)) (ao (cE (nD hr.h64 (ap 7 (pv 7)) (ag 4 (pv 4))) (ah (lO 4 hr.h64 (pv 4) (ap 7 (pv 7)) fE) (ao (gs 3 (pv 3) (ap 7 (pv 7))))) bc))) (ao (rD (ix:=5) fj.nd rfl (.inl rfl) aw))))) (ao (dJ 3 (pv 3)))))))
abbrev vf:List Str:=["size", "turnings", "found", "place", "orbit"]
theorem kj:FnScope vf ["size", "turnings"] (defScope fU):=⟨rfl,rfl,rfl,by decide +kernel,rfl,by decide +kernel,by decide +kernel⟩
def g_q8 (C:Addr):DF→Option RES:=
  (aq (bg 2 (fun _=>some (OD.lst2 [])))
  (aq (bD (cD (ac 0)) (setV 3) (aq (fr 4 1 8 (g_q9 C) (asO (asL (el (getV 3) jL))))
  (dIf (cI 4 (cI 2 (asB (d2 cg (aj 4) (aj 2))))) (gW 2 4) dNx)))
  (d9 2)))
def jM (C:Addr):List DV→Option DV:=mOf 5 2 (g_q8 C)
theorem qg (T:Txt K mg t)(hB:base.BuiltinsAt mg t.tb):FnOk P w K mg base CX0 3 t.f_q8 t.d_q8 ["size", "turnings"] (spT (lamW t.tb) K (jM t.C)):=
 T.fn_q8.okT kj fun A outer s H E hr=>(aP (cz (br (i:=2) kj.nd rfl (.inl rfl) nU)) (aP (pd Zb rfl (a9 rfl T.b_range (ag 0 (pv 0))) (aC (i:=3) kj.nd rfl (.inl rfl)) (aP (nJ (W:=lamW t.tb) (c:=s.heap.objs.size+1) (j:=1) kj.nd rfl (.inl rfl) hr.h64 rfl T.b_sorted (sB T) rfl (hr.mono (by decide)) rfl T.g_q9 T.fn_q9.kp T.bd_q9 (PDO.v (eN (fJ (ap 3 (pv 3)) dB))) rfl rfl rfl rfl rfl rfl T.ch rfl rfl hB) (gZ (cz (cE (ii 4 (ii 2 (nL hr.h64 (ax 4 (pv 4)) (ax 2 (pv 2))))) (ao (ny 2 4 (pv 2) (pv 4))) bc))))) (gZ (cz (dJ 2 (pv 2))))))
abbrev u7:List Str:=["_law_found", "_law_due_here", "_law_orbit", "_law_want", "_law_place"]
theorem ko:FnScope u7 ["_law_found", "_law_due_here"] (defScope jZ):=⟨rfl,rfl,rfl,by decide +kernel,rfl,by decide +kernel,by decide +kernel⟩
def g_q3 (C:Addr):DF→Option RES:=
  (aq (dIf (orT (eJ (asB (d1 (dS "list") (aj 0)))) (asB (d2 neD (d1 bP (aj 0)) (d1 bP (aj 1))))) (cu (fun _=>some (.bl false))) dNx)
  (aq (bD (gA (getV 0) (getV 1)) (mG [2,3]) (aq (dIf (orT (eJ (asB (d1 (dS "list") (aj 2)))) (asB (d2 neD (aj 2) (aj 3)))) (cu (fun _=>some (.bl false))) dNx)
  (bD (aT 2) (setV 4) (dIf (orT (eJ (asB (d1 (dS "int") (aj 4)))) (asB (d1 (dS "bool") (aj 4)))) (cu (fun _=>some (.bl false))) dNx))))
  (cu (fun _=>some (.bl true)))))
def jd (C:Addr):List DV→Option DV:=mOf 5 2 (g_q3 C)
theorem p_ (T:Txt K mg t):FnOk P w K mg base CX0 1 t.f_q3 t.d_q3 ["_law_found", "_law_due_here"] (spD K (jd t.C)):=
 T.fn_q3.okD ko fun cdv A outer s H E hr=>(ah (cE (PDW.t (d5 (eM (dz (gX rfl T.b_isinstance rfl T.b_list L2.boot_list (ax 0 (pv 0))))) (cU (mC hr.h64 (PDE.n (d3 rfl T.b_len (ax 0 (pv 0)))) (PDE.n (d3 rfl T.b_len (ax 1 (pv 1)))))))) (ao (bV fE)) bc) (ah (c9 Zb rfl (pM rfl T.b_zip (ap 0 (pv 0)) (ap 1 (pv 1))) (om (is:=[2,3]) rfl (i4 (eT (i:=2) ko.nd rfl (.inl rfl)) (i4 (eT (i:=3) ko.nd rfl (.inl rfl)) oB))) (ah (cE (PDW.t (d5 (eM (dz (gX rfl T.b_isinstance rfl T.b_list L2.boot_list (ax 2 (pv 2))))) (cU (mC hr.h64 (ax 2 (pv 2)) (ax 3 (pv 3)))))) (ao (bV fE)) bc) (ao (c9 Zb rfl (b5 2 (pv 2)) (aC (i:=4) ko.nd rfl (.inl rfl)) (ao (cE (PDW.t (d5 (eM (dz (gX rfl T.b_isinstance rfl T.b_int L2.boot_int (ax 4 (pv 4))))) (cU (dz (gX rfl T.b_isinstance rfl T.b_bool L2.boot_bool (ax 4 (pv 4))))))) (ao (bV fE)) bc)))))) (ao (bV fE))))
abbrev pi:List Str:=["_law_script", "_law_cells", "_law_size", "_law_many", "_law_rows", "_law_handed", "_law_due_here", "_law_found", "_law_orbit"]
theorem dw:FnScope pi ["_law_script"] (defScope fT):=⟨rfl,rfl,rfl,by decide +kernel,rfl,by decide +kernel,by decide +kernel⟩
def g_q0 (C:Addr):DF→Option RES:=
  (aq (aQ 1 (asO (asL (aK 1 [] (aT 0) (setV 0) bN (d2 cG (ac 0) (d2 lU (fun _=>some (.int 10)) (fun _=>some (.int 40))))))))
  (aq (aQ 2 (d2 cC (fun _=>some (.int 1)) (aA (dh C) (aV (aA (d6 C) (aB 1 (aV (fun _=>some (.int 0)) (fun _=>some [])))) (aV (fun _=>some (.int 10061)) (aV (fun _=>some (.int 7)) (fun _=>some [])))))))
  (aq (aQ 3 (aA (dh C) (aV (aA (d6 C) (aB 1 (aV (fun _=>some (.int 1)) (fun _=>some [])))) (aV (fun _=>some (.int 10067)) (aV (fun _=>some (.int 6)) (fun _=>some []))))))
  (aq (aQ 4 (asO (asL (aK 1 [1,2] (cD (ac 3)) (setV 0) bN (aA (lA C) (aB 1 (aV (getV 2) (aV (getV 0) (fun _=>some [])))))))))
  (aq (aQ 5 (asO (asL (aK 1 [] (aT 4) (setV 0) bN (asO (asL (dU (ac 0))))))))
  (aq (aQ 6 (aA (oW C) (aV (getV 2) (aB 4 (fun _=>some [])))))
  (aq (bg 7 (dN (jM C) (aV (getV 2) (aV (getV 5) (fun _=>some [])))))
  (aq (dIf (cI 7 (orT (eJ (asB (aA (jd C) (aV (getV 7) (aV (getV 6) (fun _=>some [])))))) (asB (d2 neD (aj 5) (aj 4))))) (cu (fun _=>some (.bl false))) dNx)
  (aq (dj 7 8)
  (cu (pC (aA (jd C) (aV (aA (jM C) (aV (getV 2) (aV (getV 5) (fun _=>some [])))) (aV (getV 6) (fun _=>some [])))) (d2 eqD (aj 5) (aj 4)))))))))))))
def ud (C:Addr):List DV→Option DV:=mOf 9 1 (g_q0 C)
theorem t7 (T:Txt K mg t)(hB:base.BuiltinsAt mg t.tb):FnOk P w K mg base CX0 4 t.f_q0 t.d_q0 ["_law_script"] (spT (lamW t.tb) K (ud t.C)):=
 T.fn_q0.okT dw fun cdv A outer s H E hr=>(aP (cz (a_ (i:=1) dw.nd rfl (.inr rfl) (PDO.v (cF (N:=["_law_cell_here"]) (own:=1) (ix:=[]) (is:=[0]) rfl (eB (defScope fT) rfl (by decide +kernel)) (eC pi rfl (by decide +kernel)) (cw (by decide)) (b5 0 (pv 0)) (fun _ _ _ _=>(aC (i:=0) (show (["_law_cell_here"]:List Str).Nodup from by decide +kernel) rfl (.inl rfl))) (fun _ _ _ _=>fN) (fun _ _ _ _=>(bT (ag 0 (pv 0)) (PDE.r (q_ (PDE.r aw) (PDE.r aw))))) (by decide +kernel))))) (aP (cz (a_ (i:=2) dw.nd rfl (.inr rfl) (bS (PDE.r aw) (PDE.r (aX (kg T) (hr.mono (by decide)) rfl T.g_q7 T.fn_q7.kp T.bd_q7 (aG (aX (kd T) (hr.mono (by decide)) rfl T.g_q1 T.fn_q1.kp T.bd_q1 (dO 1 (pv 1) (aG aw aI))) (aG aw (aG aw aI)))))))) (aP (cz (a_ (i:=3) dw.nd rfl (.inl rfl) (aX (kg T) (hr.mono (by decide)) rfl T.g_q7 T.fn_q7.kp T.bd_q7 (aG (aX (kd T) (hr.mono (by decide)) rfl T.g_q1 T.fn_q1.kp T.bd_q1 (dO 1 (pv 1) (aG aw aI))) (aG aw (aG aw aI)))))) (aP (cz (dg (i:=4) (N:=["_law_k", "_law_cells", "_law_size"]) (own:=1) (ix:=[1,2]) (is:=[0]) dw.nd rfl (.inl rfl) rfl (eB (defScope fT) rfl (by decide +kernel)) (eC pi rfl (by decide +kernel)) (cw (by decide)) (a9 rfl T.b_range (ag 3 (pv 3))) (fun _ _ _ _=>(aC (i:=0) (show (["_law_k", "_law_cells", "_law_size"]:List Str).Nodup from by decide +kernel) rfl (.inl rfl))) (fun _ _ _ _=>fN) (fun _ _ _ _=>(aX (tp T) (hr.mono (by decide)) rfl T.g_q5 T.fn_q5.kp T.bd_q5 (dO 1 (pv 1) (aG (ap 2 (pv 2)) (aG (ap 0 (pv 0)) aI))))) (by decide +kernel))) (aP (cz (dg (i:=5) (N:=["_law_row"]) (own:=1) (ix:=[]) (is:=[0]) dw.nd rfl (.inl rfl) rfl (eB (defScope fT) rfl (by decide +kernel)) (eC pi rfl (by decide +kernel)) (cw (by decide)) (b5 4 (pv 4)) (fun _ _ _ _=>(aC (i:=0) (show (["_law_row"]:List Str).Nodup from by decide +kernel) rfl (.inl rfl))) (fun _ _ _ _=>fN) (fun _ _ _ _=>(PDO.v (jc rfl T.b_list (ag 0 (pv 0))))) (by decide +kernel))) (aP (cz (a_ (i:=6) dw.nd rfl (.inl rfl) (aX (tY T) (hr.mono (by decide)) rfl T.g_q2 T.fn_q2.kp T.bd_q2 (aG (ap 2 (pv 2)) (dO 4 (pv 4) aI))))) (aP (pZ (i:=7) dw.nd rfl (.inl rfl) (qg T hB) (hr.mono (by decide)) rfl T.g_q8 T.fn_q8.kp T.bd_q8 (aG (ap 2 (pv 2)) (aG (ap 5 (pv 5)) aI))) (aP (cz (cE (ii 7 (PDW.t (d5 (eM (dz (aX (p_ T) (hr.mono (by decide)) rfl T.g_q3 T.fn_q3.kp T.bd_q3 (aG (ap 7 (pv 7)) (aG (ap 6 (pv 6)) aI))))) (cU (mC hr.h64 (ax 5 (pv 5)) (ax 4 (pv 4))))))) (ao (bV fE)) bc)) (aP (cz (j1 7 8 Zb rfl (pv 7) (eT (i:=8) dw.nd rfl (.inl rfl)) (pv 8) nT)) (gZ (pN (pD (lK (p_ T) (hr.mono (by decide)) rfl T.g_q3 T.fn_q3.kp T.bd_q3 (l5 (qg T hB) (hr.mono (by decide)) rfl T.g_q8 T.fn_q8.kp T.bd_q8 (aG (ap 2 (pv 2)) (aG (ap 5 (pv 5)) aI))) (aG (ap 6 (pv 6)) aI)) (rG (t5 hr.h64 (ax 5 (pv 5)) (ax 4 (pv 4))))))))))))))))
end
theorem eV {st:Dq}{body:Dw}(I:Nat→DF→Prop):∀ (ds:List D) (k:Nat) (ρ:DF),I k ρ→
  (∀ j d ρ,ds[j]?=some d→I (k+j) ρ→∃ ρ1,st d ρ=some ρ1∧∃ ρ',body ρ1=some (.nx ρ')∧I (k+j+1) ρ')→∃ ρ',bY st body ds ρ=some (.nx ρ')∧I (k+ds.length) ρ'
 | [],k,ρ,h,_=>⟨ρ,rfl,h⟩
 | d::ds,k,ρ,h,hs=>by
  obtain⟨ρ1,e1,ρ',e2,h'⟩:=hs 0 d ρ rfl h
  obtain⟨ρ2,e3,h3⟩:=eV I ds (k+1) ρ' h' fun j d' ρ0 hj hI=>by
   have:=hs (j+1) d' ρ0 (by simpa using hj) (by rw[← Nat.add_assoc,Xh];exact hI)
   rwa [show k+(j+1)+1=k+1+j+1 by omega] at this
  refine⟨ρ2,?_,by rw[Yu,show k+(ds.length+1)=k+1+ds.length by omega];exact h3⟩
  unfold bY
  rw[e1]
  simp only[e2]
  exact e3
theorem bH {st:Dq}{c:Dk}{e:Dd}{ρ:DF}{α:Type}(f:α→D)(F:α→D):∀ xs:List α,(∀ x∈xs,∃ ρ1,st (f x) ρ=some ρ1∧c ρ1=some true∧e ρ1=some (F x))→db st c e ρ (xs.map f)=some (xs.map F)
 | [],_=>rfl
 | x::xs,h=>by
  obtain⟨ρ1,h1,h2,h3⟩:=h x Ye
  rw[Yt]
  unfold db
  rw[h1,Ya,h2,Ya,Yi rfl,h3,Ya,bH f F xs fun y hy=>h y (Yc _ hy)]
  rfl
theorem f8 {st:Dq}{c:Dk}{e:Dd}{ρ:DF}{α:Type}(f:α→D)(G:α→Prop):∀ ds:List D,(∀ d∈ds,∃ ρ1,st d ρ=some ρ1∧c ρ1=some true∧∃ y,e ρ1=some (f y)∧G y)→∃ ys:List α,db st c e ρ ds=some (ys.map f)∧ys.length=ds.length∧∀ y∈ys,G y
 | [],_=>⟨[],rfl,rfl,fun _ h=>by cases h⟩
 | x::xs,h=>by
  obtain⟨ρ1,h1,h2,y,h3,h4⟩:=h x Ye
  obtain⟨ys,q1,q2,q3⟩:=f8 f G xs fun y hy=>h y (Yc _ hy)
  refine⟨y::ys,?_,by simp[q2],fun z hz=>?_⟩
  ·unfold db
   rw[h1,Ya,h2,Ya,Yi rfl,h3,Ya,q1]
   rfl
  ·rcases Ys.mp hz with rfl | hz
   ·exact h4
   ·exact q3 z hz
theorem kK (i j:Int):eqd (.int i) (.int j)=decide (i=j):=by
 have h:=bA (.int i) (.int j) rfl
 by_cases e:i=j
 ·rw[YN e,h,e]
 ·rw[YA e]
  cases q:eqd (.int i) (.int j) with
  | false=>rfl
  | true=>exact absurd (by simpa using h.mp q) e
theorem qQ (i j:Bool):eqd (.bl i) (.bl j)=decide (i=j):=by
 have h:=bA (.bl i) (.bl j) rfl
 by_cases e:i=j
 ·rw[YN e,h,e]
 ·rw[YA e]
  cases q:eqd (.bl i) (.bl j) with
  | false=>rfl
  | true=>exact absurd (by simpa using h.mp q) e
@[simp] theorem uD (i j:Int):eqD (.int i) (.int j)=some (.bl (decide (i=j))):=by
 unfold eqD
 rw[kK]
 rfl
@[simp] theorem vB (i j:Bool):eqD (.bl i) (.bl j)=some (.bl (decide (i=j))):=by
 unfold eqD
 rw[qQ]
 rfl
@[simp] theorem uH (i j:Int):neD (.int i) (.int j)=some (.bl (!decide (i=j))):=by
 unfold neD
 rw[kK]
 rfl
@[simp] theorem uJ (i j:Int):ltd (.int i) (.int j)=some (.bl (decide (i<j))):=rfl
@[simp] theorem uk (i j:Int):gtI (.int i) (.int j)=some (.bl (decide (j<i))):=rfl
@[simp] theorem ut (i j:Int):leA (.int i) (.int j)=some (.bl (decide (i≤j))):=rfl
@[simp] theorem uo (i j:Int):ltI (.int i) (.int j)=some (.bl (decide (i<j))):=rfl
@[simp] theorem tQ (i j:Int):cC (.int i) (.int j)=some (.int (i+j)):=rfl
@[simp] theorem sD (i j:Int):vn (.int i) (.int j)=some (.int (i-j)):=rfl
theorem iF (i j:Int)(h:(-(2 ^ 64)<i∧i<2 ^ 64)∨(-(2 ^ 64)<j∧j<2 ^ 64)):j2 (.int i) (.int j)=some (.int (i*j)):=Yi (YN h)
theorem bb (i j:Int)(h:0<j):cG (.int i) (.int j)=some (.int (i%j)):=Yi (YN h)
theorem cP (i j:Int)(h:0<j∧j<1073741824):cK (.int i) (.int j)=some (.int (i/j)):=Yi (YN h)
@[simp] theorem uq:lU (.int 10) (.int 30)=some (.int 1000000000000000000000000000000):=rfl
section
variable {f fa fb fc:Dd} {fo:Do} {fl:Dl} {fv:Dv} {c c':Dk} {g h:Dw} {ρ:DF} {i j:Nat} {m:Dm}
@[simp] theorem o0:aq g h ρ=match g ρ with | some (.nx ρ')=>h ρ' | r=>r:=rfl
@[simp] theorem di:aQ i f ρ=(f ρ).map fun d=>.nx (ρ.set i (some (.v d))):=rfl
@[simp] theorem iI:bg i fo ρ=(fo ρ).map fun o=>.nx (ρ.set i (some (.own o none))):=rfl
@[simp] theorem uv:cu f ρ=(f ρ).map fun d=>.rt (.v d) ρ:=rfl
@[simp] theorem tE:tM fo ρ=(fo ρ).map fun o=>.rt (.own o none) ρ:=rfl
@[simp] theorem sN:d9 i ρ=match ρ[i]? with | some (some x)=>some (.rt x ρ) | _=>none:=rfl
@[simp] theorem cJ:dIf c g h ρ=(c ρ).bind fun b=>if b=true then g ρ else h ρ:=rfl
@[simp] theorem vm:dNx ρ=some (.nx ρ):=rfl
@[simp] theorem sL:sE f ρ=(f ρ).map fun _=>.nx ρ:=rfl
@[simp] theorem vF {F:D→Option D}:d1 F fa ρ=(fa ρ).bind F:=rfl
@[simp] theorem vC {F:Dy}:d2 F fa fb ρ=(fa ρ).bind fun x=>(fb ρ).bind fun y=>F x y:=rfl
@[simp] theorem uC:getV i ρ=match ρ[i]? with | some (some (.v d))=>some d | _=>none:=rfl
@[simp] theorem uG:ac i ρ=match ρ[i]? with | some (some (.v d))=>some d | some (some (.own o _))=>if o.flat=true then some o.d else none | some (some (.bor o))=>if o.flat=true then some o.d else none | _=>none:=rfl
@[simp] theorem uA:aj i ρ=match ρ[i]? with | some (some (.v d))=>some d | some (some (.own o _))=>some o.d | some (some (.bor o))=>some o.d | _=>none:=rfl
@[simp] theorem vD:aB i fv ρ=match ρ[i]? with | some (some (.own o _))=>(fv ρ).map fun xs=>.bor o::xs | some (some (.bor o))=>(fv ρ).map fun xs=>.bor o::xs | some (some (.v d))=>(fv ρ).map fun xs=>.v d::xs | _=>none:=rfl
@[simp] theorem ug:aV f fv ρ=(f ρ).bind fun d=>(fv ρ).map fun xs=>.v d::xs:=rfl
@[simp] theorem sX:aA m fv ρ=(fv ρ).bind fun xs=>(m xs).bind dvD:=rfl
@[simp] theorem nh:dN m fv ρ=(fv ρ).bind fun xs=>(m xs).bind dvO:=rfl
@[simp] theorem uQ:asB f ρ=match f ρ with | some (.bl b)=>some b | _=>none:=rfl
@[simp] theorem bw:asL fl ρ=(fl ρ).map .lst:=rfl
@[simp] theorem bF:asO fo ρ=(fo ρ).map OD.d:=rfl
@[simp] theorem vi:asT fl ρ=(fl ρ).map .tup:=rfl
@[simp] theorem sO:el f fl ρ=(f ρ).bind fun d=>(fl ρ).map fun r=>d::r:=rfl
@[simp] theorem ul:jL ρ=some []:=rfl
@[simp] theorem uz:eJ c ρ=(c ρ).map fun b=>!b:=rfl
@[simp] theorem uw:bN ρ=some true:=rfl
@[simp] theorem o9 {d:D}:setV i d ρ=some (ρ.set i (some (.v d))):=rfl
@[simp] theorem u8:ifV c f fa ρ=(c ρ).bind fun b=>if b=true then f ρ else fa ρ:=rfl
@[simp] theorem sr:dU f ρ=(f ρ).bind cB:=rfl
@[simp] theorem uu:uY i g ρ=match ρ[i]? with | some (some (.own o none))=>g (ρ.set i (some (.v o.d))) | some (some (.v d))=>g ρ | _=>none:=rfl
theorem bu {own:Nat}{ix:List Nat}{it:Dl}{st:Dq}{e:Dd}:aK own ix it st c e ρ=(it ρ).bind fun ds=>if ds.length≤16777216 then db st c e (cZ own ix ρ) ds else none:=rfl
@[simp] theorem uE:jn c c' ρ=(c ρ).bind fun b=>if b=true then c' ρ else some false:=rfl
@[simp] theorem vk:orT c c' ρ=(c ρ).bind fun b=>if b=true then some true else c' ρ:=rfl
@[simp] theorem um:pC f fa ρ=match f ρ with | some (.bl true)=>fa ρ | some (.bl false)=>some (.bl false) | _=>none:=rfl
@[simp] theorem vo:orV f fa ρ=match f ρ with | some (.bl false)=>fa ρ | some (.bl true)=>some (.bl true) | _=>none:=rfl
@[simp] theorem uB:vd f ρ=match f ρ with | some (.bl b)=>some (.bl (!b)) | _=>none:=rfl
@[simp] theorem uZ {F G:Dy}:chD F G fa fb fc ρ=(fa ρ).bind fun x=>(fb ρ).bind fun y=>match F x y with | some (.bl true)=>(fc ρ).bind fun z=>G y z | some (.bl false)=>some (.bl false) | _=>none:=rfl
@[simp] theorem uh:eD f ρ=match f ρ with | some (.lst ds)=>some ds | _=>none:=rfl
@[simp] theorem tK:aT i ρ=match ρ[i]? with | some (some (.bor (.lst ds)))=>some ds | some (some (.v (.lst ds)))=>some ds | _=>none:=rfl
theorem pL:cD f ρ=match f ρ with | some (.int j)=>if -(2 ^ 62)≤j∧j<2 ^ 62 then some (bn 0 j.toNat) else none | _=>none:=rfl
@[simp] theorem uS {b b':DF→Option (Option Int)}:slS f b b' ρ=match f ρ with | some (.str x)=>if x.length≤16777216 then (b ρ).bind fun l=>(b' ρ).map fun h=>.str (Txt.slice x l h) else none | _=>none:=rfl
theorem mh {b b':DF→Option (Option Int)}:slL f b b' ρ=match f ρ with | some (.lst xs)=>(b ρ).bind fun l=>(b' ρ).map fun h=>jf xs l h | _=>none:=rfl
theorem oI:kQ fa fb ρ=match fa ρ,fb ρ with | some (.lst xs),some (.lst ys)=>if xs.length+ys.length≤16777216 then some (xs++ys) else none | _,_=>none:=rfl
@[simp] theorem oh:jb i f ρ=match ρ[i]? with | some (some (.own (.lst ds) t))=>(f ρ).bind fun d=>if ds.length<16777216 then some (.nx (ρ.set i (some (.own (.lst (ds++[d])) t)))) else none | _=>none:=rfl
@[simp] theorem t6 {is:List Nat}:ue is f ρ=(f ρ).bind fun d=>(mG is d ρ).map .nx:=rfl
@[simp] theorem vE:bI f ρ=match f ρ with | some (.int i)=>some (some i) | _=>none:=rfl
@[simp] theorem uX:bNo ρ=some none:=rfl
end
@[simp] theorem vR {ds:List D}:(OD.lst ds).d=.lst ds:=rfl
@[simp] theorem vK {ds:List (List Key×D)}:(OD.dT ds).d=.dT ds:=rfl
@[simp] theorem vG {ds:List (Key×D)}:(OD.dK ds).d=.dK ds:=rfl
@[simp] theorem vL {C:Addr}{ds:List (Str×D)}:(OD.ins C ds).d=.ins C ds:=rfl
@[simp] theorem vI {ds:List D}:(OD.lst ds).flat=true:=rfl
@[simp] theorem vU {ds:List (List Key×D)}:(OD.dT ds).flat=true:=rfl
@[simp] theorem vP {ds:List (Key×D)}:(OD.dK ds).flat=true:=rfl
@[simp] theorem vQ {C:Addr}{ds:List (Str×D)}:(OD.ins C ds).flat=true:=rfl
@[simp] theorem vV {d:D}:dvD (.v d)=some d:=rfl
@[simp] theorem vM {o:OD}{t:Option Addr}:dvD (.own o t)=some o.d:=rfl
@[simp] theorem vT {o:OD}{t:Option Addr}:dvO (.own o t)=some o:=rfl
@[simp] theorem vO {x:DV}{ρ:DF}:ba (some (.rt x ρ))=some x:=rfl
@[simp] theorem vW {ρ:DF}:ba (some (.nx ρ))=some (.v .non):=rfl
@[simp] theorem vS {d:D}:ly (some (.v d))=some (.v d):=rfl
@[simp] theorem vH {o:OD}{t:Option Addr}:ly (some (.own o t))=some (.bor o):=rfl
@[simp] theorem vJ {o:OD}:ly (some (.bor o))=some (.bor o):=rfl
@[simp] theorem uI {own:Nat}{ix:List Nat}{ρ:DF}:cZ own ix ρ=List.replicate own none++ix.map fun j=>ly (ρ[j]?).join:=rfl
@[simp] theorem u5 {ds:List D}:cB (.lst ds)=some ds:=rfl
@[simp] theorem bx {ds:List D}:cB (.tup ds)=some ds:=rfl
@[simp] theorem sM {ds:List D}:bP (.lst ds)=some (.int ds.length):=rfl
@[simp] theorem vN {ds:List D}:bP (.tup ds)=some (.int ds.length):=rfl
@[simp] theorem uP {n p:Nat}{g:Dw}{xs:List DV}:mOf n p g xs=if xs.length=p then ba (g (aO n p xs)) else none:=rfl
@[simp] theorem sq {n p:Nat}{xs:List DV}:aO n p xs=xs.map some++List.replicate (n-p) none:=rfl
theorem gp {α β:Type}(f:α→β):∀ (l:List α) (k:Nat),(l.map f).eraseIdx k=(l.eraseIdx k).map f
 | [],_=>rfl
 | _::_,0=>rfl
 | x::l,k+1=>by rw[Yt,Xk,Xk,Yt,gp f l k]
theorem mO {n:Nat}{k:Int}(h0:0≤k)(h1:k<n)(hn:n<1000):iB n (.int k)=some k.toNat:=by
 show (if -(2 ^ 63)≤k∧k<2 ^ 63 then seqIndex? k n else none)=_
 rw[Yi (by omega)]
 unfold seqIndex?
 simp only
 have e:¬ k<0:=by omega
 simp[e,h0,h1]
theorem cv {α:Type}:∀ (l:List α) (k:Nat) (h:k<l.length),(l[k]::l.eraseIdx k).Perm l
 | x::l,0,_=>.refl _
 | x::l,k+1,h=>by
  have:=cv l k (by simpa using h)
  rw[List.getElem_cons_succ,Xk]
  exact (List.Perm.swap _ _ _).trans (this.cons x)
def aa (n:Int):List Int:=(List.range n.toNat).map fun i:Nat=>(i:Int)
theorem ai (n:Int):(aa n).length=n.toNat:=by simp[aa]
theorem al {n i:Int}:i∈aa n↔0≤i∧i<n:=by
 unfold aa
 rw[YC]
 constructor
 ·rintro⟨k,hk,rfl⟩
  have:=ZU.mp hk
  omega
 ·rintro⟨h0,h1⟩
  exact⟨i.toNat,ZU.mpr (by omega),by omega⟩
theorem c7 (n:Int):(aa n).Nodup:=by
 unfold aa
 rw[List.Nodup,ZC]
 exact (List.nodup_range (n:=n.toNat)).imp fun h e=>h (by omega)
theorem f9 (n:Int):bn 0 n.toNat=(aa n).map D.int:=by
 unfold bn aa
 simp
theorem im {n:Int}{j:Nat}{d:D}(h:((aa n).map D.int)[j]?=some d):d=.int (j:Int):=by
 unfold aa at h
 rw[Yv,Yv] at h
 cases q:(List.range n.toNat)[j]? with
 | none=>rw[q] at h;cases h
 | some k=>
  rw[q] at h
  obtain⟨h1,h2⟩:=Ym.mp q
  rw[List.getElem_range] at h2
  subst h2
  cases h
  rfl
abbrev T4:=Int×Int×Int×Bool
def okT (n:Int)(t:T4):Prop:=0≤t.1∧t.1<n∧0≤t.2.1∧t.2.1<n∧t.1≠t.2.1∧0≤t.2.2.1∧t.2.2.1<1000000000000000000000000000000
theorem jr {α:Type}{l:List α}{i:Int}(h0:0≤i)(h1:i<l.length):atI l i=l[i.toNat]?:=by
 unfold atI ixN
 rw[Yi h0,Yi h1]
 rfl
theorem oY {α β:Type}{l:List α}(f:α→β){i:Int}(h0:0≤i)(h1:i<l.length):∃ x,l[i.toNat]?=some x∧atI (l.map f) i=some (f x):=by
 have h:i.toNat<l.length:=by omega
 refine⟨l[i.toNat],Yw h,?_⟩
 rw[jr h0 (by rw[Yf];exact h1),Yv,Yw h]
 rfl
theorem tT {out:List Int}(h:out.Nodup){i j:Nat}{x y:Int}(hi:out[i]?=some x)(hj:out[j]?=some y)(hij:i≠j):x≠y:=by
 intro e
 subst e
 obtain⟨h1,h1'⟩:=Ym.mp hi
 obtain⟨h2,h2'⟩:=Ym.mp hj
 exact hij ((List.getElem_inj h).mp (h1'.trans h2'.symm))
theorem cb {f:Dd}{ρ:DF}{n:Int}(h:f ρ=some (.int n))(hn:0≤n∧n≤1000):cD f ρ=some ((aa n).map .int):=by
 have hb:-(2 ^ 62)≤n∧n<2 ^ 62:=by omega
 rw[pL,h]
 simp only
 rw[Yi hb,f9]
theorem af {g h:Dw}{ρ ρ':DF}(e:g ρ=some (.nx ρ')):aq g h ρ=h ρ':=by rw[o0,e]
theorem mF (ts:List Int)(h:ts.length<64):ck (ts.map D.int)=true:=by
 unfold ck
 simp only[Yr,YH,YF,Yf]
 refine⟨⟨⟨⟨h,?_⟩,?_⟩,?_⟩,?_⟩
 ·intro x hx;obtain⟨t,_,rfl⟩:=YC.mp hx;rfl
 ·intro x hx y hy;obtain⟨t,_,rfl⟩:=YC.mp hx;obtain⟨u,_,rfl⟩:=YC.mp hy;rfl
 ·intro x hx;obtain⟨t,_,rfl⟩:=YC.mp hx;rfl
 ·intro x hx;obtain⟨t,_,rfl⟩:=YC.mp hx;rfl
def unI:D→Int
 | .int a=>a
 | _=>0
theorem mR {l:Nat}{i:Int}(h0:0≤i)(h1:i<l):ixN l i=some i.toNat:=by
 unfold ixN
 rw[Yi h0,Yi h1]
theorem eh {c:Dk}{ρ:DF}(q:Int→Bool):∀ xs:List Int,(∀ x∈xs,c (ρ.set 0 (some (.v (.int x))))=some (q x))→0<ρ.length→db (setV 0) c (getV 0) ρ (xs.map .int)=some ((xs.filter q).map .int)
 | [],_,_=>rfl
 | x::xs,h,hl=>by
  have ih:=eh q xs (fun y hy=>h y (Yc _ hy)) hl
  have hx:=h x Ye
  rw[Yt]
  unfold db
  rw[o9,Ya,hx,Ya,List.filter_cons]
  cases q x with
  | false=>rw[Yl (by decide),Yl (by decide),ih]
  | true=>
   have hg:getV 0 (ρ.set 0 (some (.v (.int x))))=some (.int x):=by
    unfold getV
    rw[YI hl]
   rw[Yi rfl,Yi rfl,hg,Ya,ih]
   rfl
theorem gq {i:Nat}{f g:Dd}{ρ:DF}:c6 i f g ρ=match ρ[i]? with
 | some (some (.own (.lst ds) t))=>(g ρ).bind fun d=>(f ρ).bind fun
  | .int k=>(ixN ds.length k).map fun j=>.nx (ρ.set i (some (.own (.lst (ds.set j d)) t)))
  | _=>none
 | _=>none:=rfl
theorem gC {α:Type}(l:List α){k:Int}(h:0≤k):jf l (some k) none=l.drop k.toNat:=by
 unfold jf HT.sIx
 simp only
 rw[Yl (by omega)]
 by_cases hk:k.toNat≤l.length
 ·rw[Nat.min_eq_left hk,← List.length_drop,List.take_length]
 ·rw[Nat.min_eq_right (by omega),Nat.sub_self,List.take_zero,ZJ (by omega)]
theorem n1:¬ (("kinds":Str) = "ties"):=by decide +kernel
theorem n2:¬ (("kinds":Str) = "joins"):=by decide +kernel
theorem n3:¬ (("ties":Str) = "joins"):=by decide +kernel
theorem b1:(("ties":Str) == "kinds")=false:=by decide +kernel
theorem b2:(("size":Str) == "kinds")=false:=by decide +kernel
theorem b3:(("size":Str) == "ties")=false:=by decide +kernel
theorem b4:(("size":Str) == "joins")=false:=by decide +kernel
theorem p5 (r:List Int):okN 30 (.lst (r.map .int))=true:=by
 show (r.map D.int).all (okN 29)=true
 rw[YF]
 intro x hx
 obtain⟨t,_,rfl⟩:=YC.mp hx
 rfl
theorem iE:∀ a b:List Int,az (a.map .int) (b.map .int)=true
 | [],_=>rfl
 | _::_,[]=>rfl
 | x::a,y::b=>by
  rw[Yt,Yt]
  show (ad (.int x) (.int y)&&az (a.map .int) (b.map .int))=true
  rw[iE a b]
  rfl
theorem jg {a b:List Int}(h:a.map D.int=b.map D.int):a=b:=by
 have:=ZR (List.map unI) h
 rw[Zu,Zu,show unI ∘ D.int=id from rfl,List.map_id,List.map_id] at this
 exact this
theorem e9 {α:Type}(f:α→D)(h:∀ x y,ad (f x) (f y)=true):∀ a b:List α,az (a.map f) (b.map f)=true
 | [],_=>rfl
 | _::_,[]=>rfl
 | x::a,y::b=>by
  rw[Yt,Yt]
  show (ad (f x) (f y)&&az (a.map f) (b.map f))=true
  rw[e9 f h a b,h]
  rfl
theorem nR {α:Type}(f:α→D)(h:∀ x y,ad (f x) (f y)=true)(a:List α):eqd (.lst (a.map f)) (.lst (a.map f))=true:=(dH _ _ (e9 f h a a)).mpr rfl
theorem lY {x y:D}(hx:okN 30 x=true)(hy:okN 30 y=true):neD x y=some (.bl (!eqd x y)):=Yi (by rw[hx,hy];rfl)
def prs (i j:Int)(t:T4):List (Int×Int):=(if t.1=i∧t.2.1=j then [(t.2.2.1,if t.2.2.2=true then 1 else 0)] else [])++(if t.2.1=i∧t.1=j then [(t.2.2.1,if t.2.2.2=true then 2 else 0)] else [])
def sH (i j:Int):List T4→List (Int×Int)
 | []=>[]
 | t::ts=>prs i j t++sH i j ts
theorem b6:(("near":Str) == "ties")=false:=by decide +kernel
theorem b7:(("near":Str) == "joins")=false:=by decide +kernel
theorem b8:(("between":Str) == "kinds")=false:=by decide +kernel
def nr (ts:List T4)(n p:Int):List Int:=(aa n).filter fun o=>!decide (sH p o ts=[])
@[simp] theorem sT {f g:Dd}{ρ:DF}:gA f g ρ=match f ρ,g ρ with
 | some (.lst as),some (.lst bs)=>if as.length=bs.length then some (fW as bs) else none
 | some (.tup as),some (.tup bs)=>if as.length=bs.length then some (fW as bs) else none
 | _,_=>none:=rfl
def dD (F xs:List Int):List Int:=xs.foldl (fun F x=>if x∈F then F else F++[x]) F
theorem cW (F:List Int)(x:Int)(xs:List Int):dD F (x::xs)=dD (if x∈F then F else F++[x]) xs:=rfl
theorem bJ {y:Int}:∀ {xs F:List Int},y∈dD F xs↔y∈F∨y∈xs
 | [],F=>by simp[dD]
 | x::xs,F=>by
  rw[cW,bJ]
  by_cases h:x∈F
  ·rw[Yi h,Ys]
   constructor
   ·rintro (a | a);exact .inl a;exact .inr (.inr a)
   ·rintro (a | rfl | a);exact .inl a;exact .inl h;exact .inr a
  ·rw[Yl h,List.mem_append,Zj,Ys,or_assoc]
theorem eU:∀ {xs F:List Int},F.Nodup→(dD F xs).Nodup
 | [],F,h=>h
 | x::xs,F,h=>by
  rw[cW]
  by_cases q:x∈F
  ·rw[Yi q];exact eU h
  ·rw[Yl q]
   refine eU (List.nodup_append.mpr ⟨h,by simp,fun a ha b hb=>?_⟩)
   rw[Zj] at hb
   subst hb
   exact fun z=>q (z ▸ ha)
theorem e6:∀ (xs F:List Int),∃ s,dD F xs=F++s
 | [],F=>⟨[],by simp[dD]⟩
 | x::xs,F=>by
  rw[cW]
  obtain⟨s,e⟩:=e6 xs (if x∈F then F else F++[x])
  rw[e]
  by_cases q:x∈F
  ·rw[Yi q];exact⟨s,rfl⟩
  ·rw[Yl q];exact⟨x::s,by rw[XD];rfl⟩
def bfs (nb:Int→List Int):Nat→List Int→Nat→List Int
 | 0,F,_=>F
 | k+1,F,d=>match F[d]? with
  | none=>F
  | some a=>bfs nb k (dD F (nb a)) (d+1)
inductive Rch (nb:Int→List Int) (p:Int):Int→Prop
 | refl:Rch nb p p
 | step {a b:Int}:Rch nb p a→b∈nb a→Rch nb p b
theorem c_:∀ {F M:List Int},F.Nodup→(∀ x∈F,x∈M)→F.length≤M.length
 | [],_,_,_=>YG _
 | x::F,M,h,hs=>by
  have hx:=hs x Ye
  have h':=YY.mp h
  have:=c_ (F:=F) (M:=M.erase x) h'.2 fun y hy=>(List.mem_erase_of_ne (show y≠x from fun z=>h'.1 (z ▸ hy))).mpr (hs y (Yc _ hy))
  rw[List.length_erase_of_mem hx] at this
  have:=List.length_pos_of_mem hx
  rw[Yu]
  omega
theorem na {nb:Int→List Int}{k:Nat}{F:List Int}{d:Nat}(h:F[d]?=none):bfs nb (k+1) F d=F:=by
 unfold bfs;rw[h]
theorem nz {nb:Int→List Int}{k:Nat}{F:List Int}{d:Nat}{a:Int}(h:F[d]?=some a):bfs nb (k+1) F d=bfs nb k (dD F (nb a)) (d+1):=by
 show (match F[d]? with | none=>F | some a=>bfs nb k (dD F (nb a)) (d+1))=_
 rw[h]
theorem l8 {nb:Int→List Int}{p:Int}{M:List Int}(hM:∀ a∈M,∀ b∈nb a,b∈M):∀ (k:Nat) (F:List Int) (d:Nat),F.Nodup→(∀ x∈F,x∈M∧Rch nb p x)→(∀ i a,i<d→F[i]?=some a→∀ b∈nb a,b∈F)→M.length<d+k→
  (bfs nb k F d).Nodup∧(∀ x∈F,x∈bfs nb k F d)∧(∀ x∈bfs nb k F d,x∈M∧Rch nb p x)∧∀ a∈bfs nb k F d,∀ b∈nb a,b∈bfs nb k F d
 | 0,F,d,hn,hF,hc,hl=>by
  refine⟨hn,fun _ h=>h,hF,fun a ha b hb=>?_⟩
  obtain⟨i,hi,e⟩:=List.mem_iff_getElem.mp ha
  have le:F.length≤M.length:=c_ hn fun x hx=>(hF x hx).1
  have hi:i<F.length:=hi
  exact hc i a (by omega) (Ym.mpr ⟨hi,e⟩) b hb
 | k+1,F,d,hn,hF,hc,hl=>by
  cases q:F[d]? with
  | none=>
   rw[na q]
   refine⟨hn,fun _ h=>h,hF,fun a ha b hb=>?_⟩
   obtain⟨i,hi,e⟩:=List.mem_iff_getElem.mp ha
   have:=List.getElem?_eq_none_iff.mp q
   exact hc i a (by omega) (Ym.mpr ⟨hi,e⟩) b hb
  | some a=>
   rw[nz q]
   have ha:=Zl q
   obtain⟨s,es⟩:=e6 (nb a) F
   have key:=l8 hM k (dD F (nb a)) (d+1) (eU hn) (fun x hx=>by
    rcases bJ.mp hx with h | h
    ·exact hF x h
    ·exact⟨hM a (hF a ha).1 x h,.step (hF a ha).2 h⟩) (fun i c hi e b hb=>by
    have hd:d<F.length:=(Ym.mp q).1
    rw[es,YT (by omega)] at e
    by_cases z:i=d
    ·subst z
     rw[q] at e
     cases e
     exact bJ.mpr (.inr hb)
    ·exact bJ.mpr (.inl (hc i c (by omega) e b hb))) (by omega)
   obtain⟨k1,k2,k3,k4⟩:=key
   exact⟨k1,fun x hx=>k2 x (bJ.mpr (.inl hx)),k3,k4⟩
theorem cV {nb:Int→List Int}{p:Int}{M:List Int}(hM:∀ a∈M,∀ b∈nb a,b∈M)(hp:p∈M){k:Nat}(hk:M.length<k):(bfs nb k [p] 0).Nodup∧∀ x,x∈bfs nb k [p] 0↔Rch nb p x:=by
 obtain⟨h1,h2,h3,h4⟩:=l8 hM k [p] 0 (by simp) (fun x hx=>by rw[Zj] at hx;subst hx;exact⟨hp,.refl⟩) (fun i a hi=>absurd hi (by omega)) (by omega)
 refine⟨h1,fun x=>⟨fun h=>(h3 x h).2,fun h=>?_⟩⟩
 induction h with
 | refl=>exact h2 p (by simp)
 | step _ hb ih=>exact h4 _ ih _ hb
def knw (F:List Int):List (Key×D):=F.map fun x=>(.inl x,.bl true)
theorem n9 (F:List Int)(x:Int):(eK (knw F) (.inl x)).isSome=decide (x∈F):=by
 induction F with
 | nil=>rfl
 | cons y F ih=>
  unfold knw at ih ⊢
  rw[Yt,gI]
  by_cases h:(Sum.inl y:Key)=.inl x
  ·rw[Yi h]
   have:y=x:=Sum.inl.inj h
   subst this
   simp
  ·rw[Yl h,ih]
   have:¬ x=y:=fun z=>h (by rw[z])
   simp[this]
theorem pI (F:List Int)(x:Int)(h:x∉F):kR (knw F) (.inl x) (.bl true)=knw (F++[x]):=by
 unfold kR knw
 rw[Yl,ZD]
 ·rfl
 ·intro z
  obtain⟨kv,h1,h2⟩:=List.any_eq_true.mp z
  obtain⟨y,hy,rfl⟩:=YC.mp h1
  have:(Sum.inl y:Key)=.inl x:=YV h2
  exact h (Sum.inl.inj this ▸ hy)
theorem cT {st:Dq}{body:Dw}{d:D}{ds:List D}{ρ ρ1 ρ2:DF}(h:st d ρ=some ρ1)(hb:body ρ1=some (.nx ρ2)):bY st body (d::ds) ρ=bY st body ds ρ2:=by
 rw[bY]
 simp only[h,hb]
theorem lB {c:Dk}{body:Dw}{k:Nat}{ρ:DF}(h:c ρ=some false):bh c body (k+1) ρ=some (.nx ρ):=by
 rw[bh]
 simp only[h]
theorem kO {c:Dk}{body:Dw}{k:Nat}{ρ ρ':DF}(h:c ρ=some true)(hb:body ρ=some (.nx ρ')):bh c body (k+1) ρ=bh c body k ρ':=by
 rw[bh]
 simp only[h,hb]
abbrev rF (S:D)(a0:Addr)(v0:V)(dc:D)(F:List Int)(d:Nat)(x6 x7:Option DV):DF:=[some (.v S),some (.v (.fn a0 v0 dc)),some (.v .non),some (.own (.lst (F.map .int)) none),some (.own (.dK (knw F)) none),some (.v (.int d)),x6,x7]
theorem n4 {S:D}{a0:Addr}{v0:V}{dc:D}{d:Nat}{x6:Option DV}:∀ (xs F:List Int) (x7:Option DV),F.length+xs.length≤1000→∃ y7,
  bY (setV 7) (dIf (asB (d2 dX (getV 7) (ac 4))) (aq (dQ 4 (getV 7) (fun _=>some (.bl true)))
  (jb 3 (getV 7))) dNx) (xs.map .int) (rF S a0 v0 dc F d x6 x7)=some (.nx (rF S a0 v0 dc (dD F xs) d x6 y7))
 | [],F,x7,_=>⟨x7,rfl⟩
 | x::xs,F,x7,hl=>by
  rw[cW]
  rw[Yu] at hl
  have hg:(eK (knw F) (.inl x)).isSome=decide (x∈F):=n9 F x
  have l1:(knw F).length<16777216:=by unfold knw;rw[Yf];omega
  have l2:(F.map D.int).length<16777216:=by rw[Yf];omega
  by_cases h:x∈F
  ·obtain⟨y7,e⟩:=n4 xs F (some (.v (.int x))) (by omega)
   refine⟨y7,?_⟩
   rw[Yi h,← e]
   rw[YN h] at hg
   obtain⟨w,hw⟩:=Zy.mp hg
   rw[Yt]
   refine cT (ρ1:=rF S a0 v0 dc F d x6 (some (.v (.int x)))) rfl ?_
   unfold rF
   generalize knw F=K at *
   simp[dX,e7,hw]
  ·obtain⟨y7,e⟩:=n4 xs (F++[x]) (some (.v (.int x))) (by rw[YE];simp;omega)
   refine⟨y7,?_⟩
   rw[Yl h,← e]
   rw[YA h,Option.isSome_eq_false_iff,Option.isNone_iff_eq_none] at hg
   rw[Yt]
   refine cT (ρ1:=rF S a0 v0 dc F d x6 (some (.v (.int x)))) rfl ?_
   have hp:=pI F x h
   have ha:(F++[x]).map D.int=F.map D.int++[D.int x]:=by simp
   unfold rF
   rw[ha,← hp]
   generalize knw F=K at *
   generalize F.map D.int=U at *
   simp[dX,e7,hg,dQ,l1,l2]
theorem l6 {C:Addr}{S:D}{a0:Addr}{v0:V}{dc:D}{nb:Int→List Int}{M:List Int}(hM:∀ a∈M,∀ b∈nb a,b∈M)(m7:M.length≤7)(n7:∀ a∈M,(nb a).length≤7)(hnb:∀ a∈M,eA C [some (.v (.int a)),some (.v dc)]=some (.lst ((nb a).map .int))):∀ (k:Nat) (F:List Int) (d:Nat) (x6 x7:Option DV),F.Nodup→(∀ x∈F,x∈M)→d≤F.length→M.length<d+k→∃ d' y6 y7,
  bh (jn (asB (d2 ltd (aj 5) (d1 bP (aj 3)))) (orT (mf 2) (asB (d2 leI (d1 bP (aj 3)) (ac 2))))) (aq (aQ 6 (d2 ixD (ac 3) (ac 5)))
  (aq (bD (eD (fi 1 a0 v0 (eA C) (getV 6))) (setV 7) (dIf (asB (d2 dX (getV 7) (ac 4))) (aq (dQ 4 (getV 7) (fun _=>some (.bl true)))
  (jb 3 (getV 7))) dNx))
  (o4 5 (fun _=>some (.int 1))))) k (rF S a0 v0 dc F d x6 x7)=some (.nx (rF S a0 v0 dc (bfs nb k F d) d' y6 y7))
 | 0,F,d,x6,x7,hn,hF,hd,hl=>by have:=c_ hn hF;omega
 | k+1,F,d,x6,x7,hn,hF,hd,hl=>by
  have len:=c_ hn hF
  have hc:∀ b,decide (d<F.length)=b→(jn (asB (d2 ltd (aj 5) (d1 bP (aj 3)))) (orT (mf 2) (asB (d2 leI (d1 bP (aj 3)) (ac 2))))) (rF S a0 v0 dc F d x6 x7)=some b:=fun b hb=>by
   have e:asB (d2 ltd (aj 5) (d1 bP (aj 3))) (rF S a0 v0 dc F d x6 x7)=some b:=by
    rw[← hb]
    unfold rF
    simp
   unfold jn
   rw[e]
   cases b with
   | false=>rfl
   | true=>rfl
  cases q:F[d]? with
  | none=>
   have:=List.getElem?_eq_none_iff.mp q
   rw[na q]
   exact⟨d,x6,x7,lB (hc false (YA (by omega)))⟩
  | some a=>
   have lt:=(Ym.mp q).1
   have aM:=hF a (Zl q)
   rw[nz q]
   obtain⟨y7,e⟩:=n4 (S:=S) (a0:=a0) (v0:=v0) (dc:=dc) (d:=d) (x6:=some (.v (.int a))) (nb a) F x7 (by have:=n7 a aM;omega)
   obtain⟨d',z6,z7,e2⟩:=l6 (S:=S) (a0:=a0) (v0:=v0) hM m7 n7 hnb k (dD F (nb a)) (d+1) (some (.v (.int a))) y7 (eU hn) (fun x hx=>by
    rcases bJ.mp hx with h | h
    ·exact hF x h
    ·exact hM a aM x h) (by obtain⟨s,es⟩:=e6 (nb a) F;rw[es,YE];omega) (by omega)
   refine⟨d',z6,z7,?_⟩
   rw[← e2]
   refine kO (hc true (YN lt)) ?_
   have i0:ixD (.lst (F.map .int)) (.int d)=some (.int a):=by
    show atI (F.map D.int) (d:Int)=_
    exact pH (by rw[Yv,q];rfl)
   rw[af (ρ':=rF S a0 v0 dc F d (some (.v (.int a))) x7) (by
    unfold rF
    generalize knw F=K at *
    generalize F.map D.int=U at *
    simp[i0,dvD])]
   rw[af (ρ':=rF S a0 v0 dc (dD F (nb a)) d (some (.v (.int a))) y7) (by
    rw[← e]
    unfold bD
    have hi:eD (fi 1 a0 v0 (eA C) (getV 6)) (rF S a0 v0 dc F d (some (.v (.int a))) x7)=some ((nb a).map .int):=by
     have:fi 1 a0 v0 (eA C) (getV 6) (rF S a0 v0 dc F d (some (.v (.int a))) x7)=some (.lst ((nb a).map .int)):=by
      unfold fi
      exact (Yi ⟨rfl,rfl⟩).trans (hnb a aM)
     unfold eD
     rw[this]
    rw[hi]
    rfl)]
   rfl
theorem tF {C:Addr}{dc:D}{nb:Int→List Int}{M:List Int}{p:Int}(hM:∀ a∈M,∀ b∈nb a,b∈M)(m7:M.length≤7)(n7:∀ a∈M,(nb a).length≤7)(hnb:∀ a∈M,eA C [some (.v (.int a)),some (.v dc)]=some (.lst ((nb a).map .int)))(hp:p∈M) :
  bU 8 (g_q9 C) dc (.lst [.int p])=some ((bfs nb 10 [p] 0).map .int):=lq fun a0 v0=>by
 obtain⟨d',y6,y7,e⟩:=l6 (S:=.lst [.int p]) (a0:=a0) (v0:=v0) hM m7 n7 hnb 10 [p] 0 none none (by simp) (fun x hx=>by rw[Zj] at hx;subst hx;exact hp) (by simp) (by omega)
 show ba (g_q9 C a0 v0 dc [some (.v (.lst [.int p])),some (.v (.fn a0 v0 dc)),some (.v .non),none,none,none,none,none])=_
 unfold g_q9
 rw[af (ρ':=[some (.v (.lst [.int p])),some (.v (.fn a0 v0 dc)),some (.v .non),some (.own (.lst [.int p]) none),none,none,none,none]) rfl]
 rw[af (ρ':=[some (.v (.lst [.int p])),some (.v (.fn a0 v0 dc)),some (.v .non),some (.own (.lst [.int p]) none),some (.own (.dK (knw [p])) none),none,none,none]) rfl]
 rw[af (ρ':=rF (.lst [.int p]) a0 v0 dc [p] 0 none none) rfl]
 rw[af e]
 rfl
structure NbOk (n:Int) (nb:Int→List Int):Prop where
 n7:n≤7
 inn:∀ a∈aa n,∀ b∈nb a,b∈aa n
 sym:∀ a∈aa n,∀ b∈nb a,Rch nb b a
theorem Rch.inn {nb:Int→List Int}{n p x:Int}(K:NbOk n nb)(hp:p∈aa n)(h:Rch nb p x):x∈aa n:=by
 induction h with
 | refl=>exact hp
 | step _ hb ih=>exact K.inn _ ih _ hb
theorem Rch.trans {nb:Int→List Int}{p q x:Int}(h1:Rch nb p q)(h2:Rch nb q x):Rch nb p x:=by
 induction h2 with
 | refl=>exact h1
 | step _ hb ih=>exact .step ih hb
theorem Rch.symm {nb:Int→List Int}{n p x:Int}(K:NbOk n nb)(hp:p∈aa n)(h:Rch nb p x):Rch nb x p:=by
 induction h with
 | refl=>exact .refl
 | step h hb ih=>exact Rch.trans (K.sym _ (h.inn K hp) _ hb) ih
def cls (nb:Int→List Int)(n p:Int):List Int:=(aa n).filter fun x=>decide (x∈bfs nb 10 [p] 0)
theorem dW {n:Int}(hn:n≤7):(aa n).length<10:=by rw[ai];omega
theorem dA {nb:Int→List Int}{n p x:Int}(K:NbOk n nb)(hp:p∈aa n):x∈cls nb n p↔Rch nb p x:=by
 unfold cls
 rw[Xd,YH,(cV K.inn hp (dW K.n7)).2]
 exact⟨fun h=>h.2,fun h=>⟨h.inn K hp,h⟩⟩
theorem qL (n:Int):(aa n).Pairwise (· < ·):=by
 unfold aa
 rw[ZC]
 exact List.pairwise_lt_range.imp fun h=>by omega
theorem nC (nb:Int→List Int)(n p:Int):(cls nb n p).Pairwise (· < ·):=(qL n).filter _
theorem qN (nb:Int→List Int)(n p:Int):(cls nb n p).Nodup:=(nC nb n p).imp fun h=>by omega
theorem iy {nb:Int→List Int}{n p q:Int}(K:NbOk n nb)(hp:p∈aa n)(hq:q∈aa n):cls nb n p=cls nb n q↔Rch nb p q:=by
 constructor
 ·intro h
  exact (dA K hp).mp (h ▸ (dA K hq).mpr .refl)
 ·intro h
  unfold cls
  refine List.filter_congr fun x hx=>?_
  rw[decide_eq_decide,(cV K.inn hp (dW K.n7)).2,(cV K.inn hq (dW K.n7)).2]
  exact⟨fun z=>(h.symm K hp).trans z,fun z=>h.trans z⟩
def led (nb:Int→List Int)(n p:Int):Bool:=(aa p).all fun q=>!decide (q∈cls nb n p)
theorem hU {nb:Int→List Int}{n p:Int}(K:NbOk n nb)(hp:p∈aa n):led nb n p=true↔∀ q,0≤q→q<p→¬ Rch nb p q:=by
 unfold led
 rw[YF]
 constructor
 ·intro h q h0 h1 z
  have:=h q (al.mpr ⟨h0,h1⟩)
  rw[XE,Za,dA K hp] at this
  exact this z
 ·intro h q hq
  obtain⟨h0,h1⟩:=al.mp hq
  rw[XE,Za,dA K hp]
  exact h q h0 h1
theorem kw {nb:Int→List Int}{n:Int}(K:NbOk n nb):∀ (k:Nat) (p:Int),p.toNat≤k→p∈aa n→∃ q,0≤q∧q≤p∧led nb n q=true∧Rch nb q p
 | k,p,hk,hp=>by
  cases z:led nb n p with
  | true=>exact⟨p,(al.mp hp).1,Int.le_refl _,z,.refl⟩
  | false=>
   have:¬ ∀ q,0≤q→q<p→¬ Rch nb p q:=fun h=>by
    rw[(hU K hp).mpr h] at z
    cases z
   have:∃ q,0≤q∧q<p∧Rch nb p q:=ZW fun w=>this fun q h0 h1 r=>w ⟨q,h0,h1,r⟩
   obtain⟨q,h0,h1,hr⟩:=this
   have hq:=hr.inn K hp
   cases k with
   | zero=>omega
   | succ k=>
    obtain⟨r,r0,r1,r2,r3⟩:=kw K k q (by omega) hq
    exact⟨r,r0,by omega,r2,r3.trans (hr.symm K hp)⟩
def bL (nb:Int→List Int)(n k:Int):List Int:=(aa k).filter (led nb n)
theorem iA {nb:Int→List Int}{n p:Int}(K:NbOk n nb)(hp:p∈aa n):(∃ q∈bL nb n p,cls nb n q=cls nb n p)↔led nb n p=false:=by
 have hpn:=al.mp hp
 constructor
 ·rintro⟨q,hq,e⟩
  obtain⟨h1,h2⟩:=Xd.mp hq
  have h3:=al.mp h1
  have hqn:q∈aa n:=al.mpr ⟨h3.1,by omega⟩
  have hr:=(iy K hqn hp).mp e
  cases z:led nb n p with
  | false=>rfl
  | true=>exact absurd (hr.symm K hqn) ((hU K hp).mp z q h3.1 h3.2)
 ·intro z
  obtain⟨q,h0,h1,h2,h3⟩:=kw K p.toNat p (Yo _) hp
  have ne:q≠p:=fun w=>by subst w;rw[z] at h2;cases h2
  have hqn:q∈aa n:=al.mpr ⟨h0,by omega⟩
  exact⟨q,Xd.mpr ⟨al.mpr ⟨h0,by omega⟩,h2⟩,(iy K hqn hp).mpr h3⟩
theorem rQ (r:List Int):Cmps 28 (r.map .int):=
 ⟨fun x hx=>by obtain⟨t,_,rfl⟩:=YC.mp hx;rfl,fun x hx y hy=>by obtain⟨t,_,rfl⟩:=YC.mp hx;obtain⟨u,_,rfl⟩:=YC.mp hy;rfl⟩
theorem pV {as bs:List Int}(hp:as.Perm bs)(h:as.Pairwise (· < ·)):bK (bs.map .int)=as.map .int:=by
 refine (fu (hp.map _) (rQ bs) ?_).symm
 rw[ZC]
 exact h.imp fun {a b} hab=>by
  show decide (b<a)=false
  exact YA (by omega)
theorem mH {nb:Int→List Int}{n p:Int}{L:List Int}(K:NbOk n nb)(hp:p∈aa n)(hd:L.Nodup)(h:∀ x,x∈L↔Rch nb p x):bK (L.map .int)=(cls nb n p).map .int:=
 pV ((List.perm_ext_iff_of_nodup (qN nb n p) hd).mpr fun x=>by rw[dA K hp,h]) (nC nb n p)
def at1 (r:List Int)(a:Int):Int:=(r[a.toNat]?).getD 0
def nbs (rows:List (List Int))(a:Int):List Int:=rows.map fun r=>at1 r a
theorem dn {n:Int}{r:List Int}(p:r.Perm (aa n)){a:Int}(ha:a∈aa n):r[a.toNat]?=some (at1 r a):=by
 have hl:r.length=n.toNat:=by rw[p.length_eq,ai]
 have:=al.mp ha
 have lt:a.toNat<r.length:=by omega
 unfold at1
 rw[Yw lt]
 rfl
theorem ni {n:Int}{r:List Int}(p:r.Perm (aa n)){a:Int}(ha:a∈aa n):at1 r a∈aa n:=p.mem_iff.mp (Zl (dn p ha))
theorem kA {n:Int}{r:List Int}(p:r.Perm (aa n)){a b:Int}(ha:a∈aa n)(hb:b∈aa n)(e:at1 r a=at1 r b):a=b:=by
 have h1:=al.mp ha
 have h2:=al.mp hb
 by_cases q:a.toNat=b.toNat
 ·omega
 ·exact absurd e (tT (p.nodup_iff.mpr (c7 n)) (dn p ha) (dn p hb) q)
theorem mJ {n:Int}{rows:List (List Int)}(hn:n≤7)(hr:∀ r∈rows,r.Perm (aa n)):NbOk n (nbs rows):=by
 have inn:∀ a∈aa n,∀ b∈nbs rows a,b∈aa n:=fun a ha b hb=>by
  obtain⟨r,h1,rfl⟩:=YC.mp hb
  exact ni (hr r h1) ha
 refine⟨hn,inn,fun a ha b hb=>?_⟩
 have hbn:=inn a ha b hb
 obtain⟨r,h1,rfl⟩:=YC.mp hb
 obtain⟨nd,mem⟩:=cV inn hbn (dW hn)
 have hin:∀ x∈bfs (nbs rows) 10 [at1 r a] 0,x∈aa n:=fun x hx=>by
  have h:=(mem x).mp hx
  clear hx
  induction h with
  | refl=>exact hbn
  | step _ hb ih=>exact inn _ ih _ hb
 have sub:∀ y∈(bfs (nbs rows) 10 [at1 r a] 0).map (at1 r),y∈bfs (nbs rows) 10 [at1 r a] 0:=fun y hy=>by
  obtain⟨x,hx,rfl⟩:=YC.mp hy
  exact (mem _).mpr (.step ((mem x).mp hx) (YC.mpr ⟨r,h1,rfl⟩))
 have ndm:((bfs (nbs rows) 10 [at1 r a] 0).map (at1 r)).Nodup:=by
  unfold List.Nodup
  rw[ZC]
  exact nd.imp_of_mem fun {x y} hx hy ne e=>ne (kA (hr r h1) (hin x hx) (hin y hy) e)
 have key:at1 r a∈(bfs (nbs rows) 10 [at1 r a] 0).map (at1 r):=ZW fun z=>by
  have:=c_ (F:=at1 r a::(bfs (nbs rows) 10 [at1 r a] 0).map (at1 r)) (M:=bfs (nbs rows) 10 [at1 r a] 0) (YY.mpr ⟨z,ndm⟩) (fun y hy=>by
   rcases Ys.mp hy with rfl | hy
   ·exact (mem _).mpr .refl
   ·exact sub y hy)
  rw[Yu,Yf] at this
  omega
 obtain⟨c,hc,e⟩:=YC.mp key
 have:=kA (hr r h1) (hin c hc) ha e
 exact this ▸ (mem c).mp hc
theorem pT {n:Int}{L:List Int}(h1:L.Nodup)(h2:∀ x∈L,x∈aa n)(h3:L.length=n.toNat):L.Perm (aa n):=by
 refine (List.perm_ext_iff_of_nodup h1 (c7 n)).mpr fun x=>⟨h2 x,fun hx=>ZW fun z=>?_⟩
 have:=c_ (F:=x::L) (M:=aa n) (YY.mpr ⟨z,h1⟩) (fun y hy=>by
  rcases Ys.mp hy with rfl | hy
  ·exact hx
  ·exact h2 y hy)
 rw[Yu,ai] at this
 omega
theorem iS {n:Int}{f:Int→Int}(h1:∀ a∈aa n,f a∈aa n)(h2:∀ a∈aa n,∀ b∈aa n,f a=f b→a=b):((aa n).map f).Perm (aa n):=by
 refine pT ?_ (fun x hx=>?_) (by rw[Yf,ai])
 ·unfold List.Nodup
  rw[ZC]
  exact (c7 n).imp_of_mem fun {x y} hx hy ne e=>ne (h2 x hx y hy e)
 ·obtain⟨a,ha,rfl⟩:=YC.mp hx
  exact h1 a ha
theorem lu {m:Int}(hm:1≤m)(q:Int):((aa m).map fun i=>(i+q)%m).Perm (aa m):=by
 refine iS (fun a ha=>al.mpr ⟨Xl _ (by omega),ZM _ (by omega)⟩) fun a ha b hb e=>?_
 have h1:=al.mp ha
 have h2:=al.mp hb
 have e2:=Int.emod_eq_emod_iff_emod_sub_eq_zero.mp e
 rw[show a+q-(b+q)=a-b by omega] at e2
 obtain⟨k,hk⟩:=Int.dvd_of_emod_eq_zero e2
 have:k=0:=by
  rcases Int.lt_trichotomy k 0 with w | w | w
  ·have:m*k≤m*(-1):=Int.mul_le_mul_of_nonneg_left (by omega) (by omega)
   omega
  ·exact w
  ·have:m*1≤m*k:=Int.mul_le_mul_of_nonneg_left (by omega) (by omega)
   omega
 subst this
 omega
theorem pE {m n:Int}(h0:0≤m)(h:m≤n):aa n=aa m++(aa n).drop m.toNat:=by
 have:(aa n).take m.toNat=aa m:=by
  unfold aa
  rw[← List.map_take,List.take_range,Nat.min_eq_left (by omega)]
 rw[← this,List.take_append_drop]
theorem nA {m n q:Int}(hm:1≤m)(h:m≤n):(((aa m).map fun i=>(i+q)%m)++(aa n).drop m.toNat).Perm (aa n):=by
 have e:=pE (by omega:0≤m) h
 exact ((lu hm q).append_right _).trans (e ▸ List.Perm.refl _)
theorem lH {n i j:Int}(hi:i∈aa n)(hj:j∈aa n):(((aa n).set i.toNat j).set j.toNat i).Perm (aa n):=by
 have e:((aa n).set i.toNat j).set j.toNat i=(aa n).map fun k=>if k=j then i else if k=i then j else k:=by
  have h1:=al.mp hi
  have h2:=al.mp hj
  refine List.ext_getElem? fun k=>?_
  rw[Yv]
  by_cases hk:k<n.toNat
  ·have g:(aa n)[k]?=some (k:Int):=by
    unfold aa
    rw[Yv,Xa hk]
    rfl
   have l1:k<(aa n).length:=by rw[ai];exact hk
   by_cases q1:j.toNat=k
   ·rw[← q1,YI (by rw[Yy,q1];exact l1),q1,g,YS,Yi (by omega)]
   ·rw[Yz q1]
    by_cases q2:i.toNat=k
    ·rw[← q2,YI (by rw[q2];exact l1),q2,g,YS,Yl (by omega),Yi (by omega)]
    ·rw[Yz q2,g,YS,Yl (by omega),Yl (by omega)]
  ·have l1:(aa n).length≤k:=by rw[ai];omega
   rw[Zt (by rw[Yy,Yy];exact l1),Zt l1]
   rfl
 rw[e]
 refine iS (fun a ha=>?_) fun a ha b hb=>?_
 ·show (if a=j then i else if a=i then j else a)∈_
  split
  ·exact hi
  ·split
   ·exact hj
   ·exact ha
 ·show (if a=j then i else if a=i then j else a)=(if b=j then i else if b=i then j else b)→_
  intro e
  split at e <;> split at e <;> (try split at e) <;> omega
structure MkOk (n:Int) (nb:Int→List Int) (μ:Int→Int):Prop where
 rel:∀ a∈aa n,Rch nb a (μ a)
 le:∀ a∈aa n,0≤μ a∧μ a≤a
 idem:∀ a∈aa n,μ (μ a)=μ a
theorem MkOk.inn {n:Int}{nb:Int→List Int}{μ:Int→Int}(h:MkOk n nb μ){a:Int}(ha:a∈aa n):μ a∈aa n:=by
 have:=h.le a ha
 have:=al.mp ha
 exact al.mpr ⟨by omega,by omega⟩
theorem MkOk.start (n:Int)(nb:Int→List Int):MkOk n nb id:=⟨fun _ _=>.refl,fun a ha=>⟨(al.mp ha).1,Int.le_refl _⟩,fun _ _=>rfl⟩
theorem MkOk.step {n:Int}{nb:Int→List Int}{μ:Int→Int}(K:NbOk n nb)(h:MkOk n nb μ){p q:Int}(hp:p∈aa n)(hq:q∈nb p) :
  MkOk n nb (fun a=>if μ a=max (μ p) (μ q) then min (μ p) (μ q) else μ a):=by
 have hqn:=K.inn p hp q hq
 have hpq:Rch nb p q:=.step .refl hq
 have one:Rch nb (μ p) (μ q):=((h.rel p hp).symm K hp).trans (hpq.trans (h.rel q hqn))
 have two:Rch nb (μ q) (μ p):=one.symm K (h.inn hp)
 have rl:Rch nb (max (μ p) (μ q)) (min (μ p) (μ q)):=by
  rcases Int.le_total (μ p) (μ q) with w | w
  ·rw[Int.max_eq_right w,Int.min_eq_left w];exact two
  ·rw[Int.max_eq_left w,Int.min_eq_right w];exact one
 have il:μ (min (μ p) (μ q))=min (μ p) (μ q):=by
  rcases Int.le_total (μ p) (μ q) with w | w
  ·rw[Int.min_eq_left w];exact h.idem p hp
  ·rw[Int.min_eq_right w];exact h.idem q hqn
 have l0:=h.le p hp
 have l1:=h.le q hqn
 refine⟨fun a ha=>?_,fun a ha=>?_,fun a ha=>?_⟩
 ·show Rch nb a (if μ a=max (μ p) (μ q) then min (μ p) (μ q) else μ a)
  split
  ·rename_i w
   exact (w ▸ h.rel a ha).trans rl
  ·exact h.rel a ha
 ·have:=h.le a ha
  show 0≤(if μ a=max (μ p) (μ q) then min (μ p) (μ q) else μ a)∧(if μ a=max (μ p) (μ q) then min (μ p) (μ q) else μ a)≤a
  split <;> omega
 ·show (if μ (if μ a=max (μ p) (μ q) then min (μ p) (μ q) else μ a)=max (μ p) (μ q) then min (μ p) (μ q) else μ (if μ a=max (μ p) (μ q) then min (μ p) (μ q) else μ a))=(if μ a=max (μ p) (μ q) then min (μ p) (μ q) else μ a)
  by_cases w:μ a=max (μ p) (μ q)
  ·rw[Yi w,il]
   split <;> rfl
  ·rw[Yl w,h.idem a ha,Yl w]
theorem k8 {x y:Int}:(if x=max x y then min x y else x)=(if y=max x y then min x y else y):=by
 split <;> split <;> omega
theorem MkOk.iff {n:Int}{nb:Int→List Int}{μ:Int→Int}(K:NbOk n nb)(h:MkOk n nb μ)(done:∀ a∈aa n,∀ b∈nb a,μ a=μ b){a b:Int}(ha:a∈aa n)(hb:b∈aa n):μ a=μ b↔Rch nb a b:=by
 constructor
 ·intro e
  exact (h.rel a ha).trans (e ▸ (h.rel b hb).symm K hb)
 ·intro r
  clear hb
  induction r with
  | refl=>rfl
  | step r hb ih=>exact ih.trans (done _ (r.inn K ha) _ hb)
theorem MkOk.led {n:Int}{nb:Int→List Int}{μ:Int→Int}(K:NbOk n nb)(h:MkOk n nb μ)(done:∀ a∈aa n,∀ b∈nb a,μ a=μ b){a:Int}(ha:a∈aa n):decide (μ a=a)=led nb n a:=by
 have l:=h.le a ha
 rw[Bool.eq_iff_iff,YH,hU K ha]
 constructor
 ·intro e q h0 h1 r
  have hq:=r.inn K ha
  have:=(h.iff K done ha hq).mpr r
  have:=h.le q hq
  omega
 ·intro z
  by_cases w:μ a=a
  ·exact w
  ·exact absurd (h.rel a ha) (z (μ a) l.1 (by omega))
theorem MkOk.cls {n:Int}{nb:Int→List Int}{μ:Int→Int}(K:NbOk n nb)(h:MkOk n nb μ)(done:∀ a∈aa n,∀ b∈nb a,μ a=μ b){a:Int}(ha:a∈aa n)(e:μ a=a):(aa n).filter (fun x=>decide (μ x=a))=cls nb n a:=by
 unfold My.cls
 refine List.filter_congr fun x hx=>?_
 rw[decide_eq_decide,(cV K.inn ha (dW K.n7)).2,← h.iff K done ha hx,e]
 exact eq_comm
def dR (r:List Int):D:=.lst (r.map .int)
theorem eP (C:Addr)(cs:List Int)(k:Int)(h0:0≤k):∃ r:Int,d6 C [.v (dR cs),.v (.int k)]=some (.v (.int r)):=by
 show ∃ r:Int,ba (g_q1 C [some (.v (dR cs)),some (.v (.int k))])=_
 unfold g_q1 dR
 by_cases h:k<(cs.length:Int)
 ·obtain⟨x,_,e⟩:=oY D.int h0 h
  refine⟨x,?_⟩
  have l:((cs.map D.int).length:Int)=cs.length:=by rw[Yf]
  have i:ixD (.lst (cs.map D.int)) (.int k)=some (.int x):=e
  generalize cs.map D.int=U at *
  simp[l,h,i]
 ·refine⟨0,?_⟩
  have l:((cs.map D.int).length:Int)=cs.length:=by rw[Yf]
  generalize cs.map D.int=U at *
  simp[l,h]
theorem eR (C:Addr)(a p m:Int)(hp:0<p)(hm:0<m):∃ r:Int,dh C [.v (.int a),.v (.int p),.v (.int m)]=some (.v (.int r))∧0≤r∧r<m:=by
 refine⟨(a+1)%2147483647*48271%p%m,?_,Xl _ (by omega),ZM _ hm⟩
 show ba (g_q7 C [some (.v (.int a)),some (.v (.int p)),some (.v (.int m))])=_
 unfold g_q7
 have m1:=bb (a+1) 2147483647 (by decide)
 generalize (a+1)%2147483647=b at *
 have m2:=iF b 48271 (.inr (by decide))
 generalize b*48271=c at *
 have m3:=bb c p hp
 generalize c%p=d at *
 have m4:=bb d m hm
 generalize d%m=e at *
 simp[m1,m2,m3,m4]
theorem h9 {f:Dd}{ρ:DF}{n:Int}(h:f ρ=some (.int n))(hn:0≤n∧n≤1000):e_ f ρ=some ((aa n).map .int):=by
 unfold e_
 rw[h]
 simp only
 rw[Yi (by omega),f9]
abbrev orF (cs:D)(n p:Int)(aJ order:List Int)(x5:Option DV):DF:=[some (.v cs),some (.v (.int n)),some (.v (.int p)),some (.own (.lst (aJ.map .int)) none),some (.own (.lst (order.map .int)) none),x5]
theorem nk (C:Addr)(cs:List Int)(n p k:Int)(hp:0<p)(hk:0≤k∧k<7)(x:Int)(r order:List Int)(h7:r.length+1≤7)(ho:order.length≤7):∃ k':Nat,∃ kl:k' < (x::r).length,
  (cS 4 3 (aA (dh C) (aV (d2 cC (aA (d6 C) (aB 0 (aB 5 (fun _=>some [])))) (d2 j2 (ac 5) (ac 5))) (aB 2 (aV (d1 bP (aj 3)) (fun _=>some [])))))) (orF (dR cs) n p (x::r) order (some (.v (.int k))))=some (.nx (orF (dR cs) n p ((x::r).eraseIdx k') (order++[(x::r)[k']]) (some (.v (.int k))))):=by
 obtain⟨c,hc⟩:=eP C cs k hk.1
 obtain⟨q,hq,q0,q1⟩:=eR C (c+k*k) p ((r.length+1:Nat):Int) hp (by omega)
 have hm:=iF k k (.inl ⟨by omega,by omega⟩)
 generalize k*k=kk at *
 have hl:=mO (n:=r.length+1) q0 q1 (by omega)
 have kl:q.toNat<(x::r).length:=by rw[Yu];omega
 refine⟨q.toNat,kl,?_⟩
 have hget:((x::r).map D.int)[q.toNat]?=some (.int ((x::r)[q.toNat])):=by rw[Yv,Yw kl];rfl
 generalize hI:(aA (dh C) (aV (d2 cC (aA (d6 C) (aB 0 (aB 5 (fun _=>some [])))) (d2 j2 (ac 5) (ac 5))) (aB 2 (aV (d1 bP (aj 3)) (fun _=>some [])))))=I
 have hf:I (orF (dR cs) n p (x::r) order (some (.v (.int k))))=some (.int q):=by
  have hq:dh C [.v (.int (c+kk)),.v (.int p),.v (.int ((r.length:Int)+1))]=some (.v (.int q)):=hq
  rw[← hI]
  generalize dR cs=U at *
  generalize dh C=M1 at *
  generalize d6 C=M2 at *
  simp[hc,hm,hq]
 have hlen:((x::r).map D.int).length=r.length+1:=by simp
 have hpop:jR 3 I (orF (dR cs) n p (x::r) order (some (.v (.int k))))=some (orF (dR cs) n p ((x::r).eraseIdx q.toNat) order (some (.v (.int k))),.int ((x::r)[q.toNat])):=by
  have:jR 3 I (orF (dR cs) n p (x::r) order (some (.v (.int k))))=(I (orF (dR cs) n p (x::r) order (some (.v (.int k))))).bind fun dk=>(iB ((x::r).map D.int).length dk).bind fun k'=>(((x::r).map D.int)[k']?).map fun d=>((orF (dR cs) n p (x::r) order (some (.v (.int k)))).set 3 (some (.own (.lst (((x::r).map D.int).eraseIdx k')) none)),d):=rfl
  rw[this,hf,Ya,hlen,hl,Ya,hget,gp]
  rfl
 unfold cS
 rw[hpop,Ya]
 have:(4:Nat)≠3∧(order.map D.int).length<16777216:=⟨by decide,by rw[Yf];omega⟩
 show (if _ then _ else _)=_
 rw[Yi this]
 show _=some (RES.nx [_,_,_,_,some (.own (.lst ((order++[(x::r)[q.toNat]]).map .int)) none),_])
 rw[ZD]
 rfl
theorem lN (C:Addr)(cs:List Int)(n p:Int)(hn:1≤n∧n≤7)(hp:0<p):∃ r:List Int,o7 C [.v (dR cs),.v (.int n),.v (.int p)]=some (.own (.lst (r.map .int)) none)∧r.Perm (aa n):=by
 have hr:=cb (f:=ac 1) (ρ:=orF (dR cs) n p (aa n) [] none) (n:=n) rfl ⟨by omega,by omega⟩
 obtain⟨ρ',e,aJ,out,x5,rfl,hl,hq⟩:=eV (st:=setV 5) (body:=(cS 4 3 (aA (dh C) (aV (d2 cC (aA (d6 C) (aB 0 (aB 5 (fun _=>some [])))) (d2 j2 (ac 5) (ac 5))) (aB 2 (aV (d1 bP (aj 3)) (fun _=>some []))))))) (fun j ρ=>∃ aJ out x5,ρ=orF (dR cs) n p aJ out x5∧aJ.length+j=n.toNat∧(out++aJ).Perm (aa n)) ((aa n).map .int) 0 (orF (dR cs) n p (aa n) [] none) ⟨_,_,_,rfl,by rw[ai];rfl,by simp⟩ (by
  rintro j d _ hj ⟨aJ,out,x5,rfl,hl,hq⟩
  have hd:=im hj
  subst hd
  rw[ZQ] at hl ⊢
  have hj':=(Ym.mp hj).1
  rw[Yf,ai] at hj'
  refine⟨orF (dR cs) n p aJ out (some (.v (.int j))),rfl,?_⟩
  have tot:=hq.length_eq
  rw[YE,ai] at tot
  cases aJ with
  | nil=>rw[YL] at hl;omega
  | cons x r=>
   rw[Yu] at hl tot
   obtain⟨k,kl,hb⟩:=nk C cs n p j hp ⟨by omega,by omega⟩ x r out (by omega) (by omega)
   refine⟨_,hb,_,_,_,rfl,?_,?_⟩
   ·rw[List.length_eraseIdx_of_lt kl,Yu];omega
   ·rw[XD]
    exact (List.Perm.append_left _ (cv _ k kl)).trans hq)
 rw[ZQ,Yf,ai] at hl
 have:aJ=[]:=Xj.mp (by omega)
 subst this
 refine⟨out,?_,by simpa using hq⟩
 show ba (g_q6 C [some (.v (dR cs)),some (.v (.int n)),some (.v (.int p)),none,none,none])=_
 unfold g_q6
 rw[af (ρ':=[some (.v (dR cs)),some (.v (.int n)),some (.v (.int p)),some (.own (.lst ((aa n).map .int)) none),none,none]) (by
  have:=h9 (f:=getV 1) (ρ:=[some (.v (dR cs)),some (.v (.int n)),some (.v (.int p)),none,none,none]) (n:=n) rfl ⟨by omega,by omega⟩
  generalize dR cs=U at *
  generalize (aa n).map D.int=V at *
  simp[this])]
 rw[af (ρ':=orF (dR cs) n p (aa n) [] none) rfl]
 rw[af (by unfold bD;rw[hr];exact e)]
 rfl
abbrev oF (cs:D)(n k num:Int)(row:List Int)(x6 x7 x8:Option DV):DF:=[some (.v cs),some (.v (.int n)),some (.v (.int k)),some (.v (.int num)),some (.v (.int (num%6))),some (.own (.lst (row.map .int)) none),x6,x7,x8]
theorem oS (C:Addr)(cs:D)(n k num:Int)(x6 x7 x8:Option DV)(hn:1≤n∧n≤7):∃ row y6 y7 y8,(dIf (asB (d2 ltd (aj 4) (fun _=>some (.int 2)))) (aq (aQ 6 (d2 cC (fun _=>some (.int 1)) (d2 cG (d2 cK (ac 3) (fun _=>some (.int 6))) (ac 1))))
  (bg 5 (asL (kQ (asO (asL (aK 1 [3,6] (cD (ac 6)) (setV 0) bN (d2 cG (d2 cC (ac 0) (d2 cK (ac 1) (fun _=>some (.int 42)))) (ac 2))))) (asO (asL (slL (ac 5) (bI (getV 6)) bNo))))))) dNx) (oF cs n k num (aa n) x6 x7 x8)=some (.nx (oF cs n k num row y6 y7 y8))∧row.Perm (aa n)∧(2≤num%6→row=aa n):=by
 by_cases h:num%6<2
 ·have hq:=cP num 6 (by decide)
  have hq2:=cP num 42 (by decide)
  have hm:=bb (num/6) n (by omega)
  generalize hr:num/6%n=r at *
  have r0:0≤r∧r<n:=by rw[← hr];exact⟨Xl _ (by omega),ZM _ (by omega)⟩
  refine⟨((aa (1+r)).map fun i=>(i+num/42)%(1+r))++(aa n).drop (1+r).toNat,some (.v (.int (1+r))),x7,x8,?_,nA (by omega) (by omega),fun z=>by omega⟩
  have hc:(aK 1 [3,6] (cD (ac 6)) (setV 0) bN (d2 cG (d2 cC (ac 0) (d2 cK (ac 1) (fun _=>some (.int 42)))) (ac 2))) (oF cs n k num (aa n) (some (.v (.int (1+r)))) x7 x8)=some (((aa (1+r)).map fun i=>(i+num/42)%(1+r)).map .int):=by
   rw[bu,cb (n:=1+r) rfl (by omega),Ya,Yi (by rw[Yf,ai];omega),bH D.int (fun i=>.int ((i+num/42)%(1+r))),Zu]
   ·rfl
   ·intro x hx
    refine⟨_,rfl,rfl,?_⟩
    have:=bb (x+num/42) (1+r) (by omega)
    simp[hq2,this]
  have hs:slL (ac 5) (bI (getV 6)) bNo (oF cs n k num (aa n) (some (.v (.int (1+r)))) x7 x8)=some (((aa n).drop (1+r).toNat).map .int):=by
   rw[mh]
   show some (jf ((aa n).map D.int) (some (1+r)) none)=_
   rw[gC _ (by omega),List.map_drop]
  have hl:(((aa (1+r)).map fun i=>(i+num/42)%(1+r)).map D.int).length+(((aa n).drop (1+r).toNat).map D.int).length≤16777216:=by
   rw[Yf,Yf,Yf,List.length_drop,ai,ai];omega
  rw[cJ,show asB (d2 ltd (aj 4) (fun _=>some (.int 2))) (oF cs n k num (aa n) x6 x7 x8)=some true by simp[h],Ya,Yi rfl]
  rw[af (ρ':=oF cs n k num (aa n) (some (.v (.int (1+r)))) x7 x8) (by
   generalize (aa n).map D.int=U at *
   simp[hq,hm])]
  rw[iI,bw,oI,bF,bw,hc,bF,bw,hs]
  show Option.map _ (Option.map _ (if _ then _ else _))=_
  rw[Yi hl,← ZD]
  rfl
 ·refine⟨aa n,x6,x7,x8,?_,.refl _,fun _=>rfl⟩
  rw[cJ,show asB (d2 ltd (aj 4) (fun _=>some (.int 2))) (oF cs n k num (aa n) x6 x7 x8)=some false by simp[h],Ya,Yl (by decide)]
  rfl
theorem n6 (C:Addr)(cs:D)(n k num:Int)(row:List Int)(x6 x7 x8:Option DV)(hn:1≤n∧n≤7)(hp:row.Perm (aa n))(he:2≤num%6→row=aa n):∃ row' y6 y7 y8,(dIf (orT (asB (d2 eqD (aj 4) (fun _=>some (.int 2)))) (asB (d2 eqD (aj 4) (fun _=>some (.int 3))))) (aq (aQ 7 (d2 cG (d2 cK (ac 3) (fun _=>some (.int 6))) (ac 1)))
  (aq (aQ 8 (d2 cG (d2 cK (ac 3) (fun _=>some (.int 42))) (ac 1)))
  (aq (c6 5 (getV 7) (getV 8))
  (c6 5 (getV 8) (getV 7))))) dNx) (oF cs n k num row x6 x7 x8)=some (.nx (oF cs n k num row' y6 y7 y8))∧row'.Perm (aa n):=by
 have ht:(orT (asB (d2 eqD (aj 4) (fun _=>some (.int 2)))) (asB (d2 eqD (aj 4) (fun _=>some (.int 3))))) (oF cs n k num row x6 x7 x8)=some (decide (num%6=2∨num%6=3)):=by
  by_cases h2:num%6=2
  ·simp[h2]
  ·by_cases h3:num%6=3 <;> simp[h2,h3]
 rw[cJ,ht,Ya]
 by_cases h:num%6=2∨num%6=3
 ·rw[Yi (YN h)]
  have e:=he (by omega)
  subst e
  have hq:=cP num 6 (by decide)
  have hq2:=cP num 42 (by decide)
  have hm:=bb (num/6) n (by omega)
  have hm2:=bb (num/42) n (by omega)
  generalize hi:num/6%n=i at *
  generalize hj:num/42%n=j at *
  have i0:0≤i∧i<n:=by rw[← hi];exact⟨Xl _ (by omega),ZM _ (by omega)⟩
  have j0:0≤j∧j<n:=by rw[← hj];exact⟨Xl _ (by omega),ZM _ (by omega)⟩
  refine⟨((aa n).set i.toNat j).set j.toNat i,x6,some (.v (.int i)),some (.v (.int j)),?_,lH (al.mpr i0) (al.mpr j0)⟩
  rw[af (ρ':=oF cs n k num (aa n) x6 (some (.v (.int i))) x8) (by
   generalize (aa n).map D.int=U at *
   simp[hq,hm])]
  rw[af (ρ':=oF cs n k num (aa n) x6 (some (.v (.int i))) (some (.v (.int j)))) (by
   generalize (aa n).map D.int=U at *
   simp[hq2,hm2])]
  have l1:ixN ((aa n).map D.int).length i=some i.toNat:=mR i0.1 (by rw[Yf,ai];omega)
  have l2:ixN ((((aa n).set i.toNat j)).map D.int).length j=some j.toNat:=mR j0.1 (by rw[Yf,Yy,ai];omega)
  rw[af (ρ':=oF cs n k num ((aa n).set i.toNat j) x6 (some (.v (.int i))) (some (.v (.int j)))) (by
   unfold oF
   rw[List.map_set]
   generalize (aa n).map D.int=U at *
   simp[gq,l1])]
  have e2:(((aa n).set i.toNat j).set j.toNat i).map D.int=(((aa n).set i.toNat j).map D.int).set j.toNat (.int i):=by rw[List.map_set]
  unfold oF
  rw[e2]
  generalize ((aa n).set i.toNat j).map D.int=U at *
  simp[gq,l2]
 ·rw[Yl (by simpa using h)]
  exact⟨row,x6,x7,x8,rfl,hp⟩
theorem po (C:Addr)(cs:List Int)(n k num:Int)(row:List Int)(x6 x7 x8:Option DV)(hn:1≤n∧n≤7)(hk:0≤k)(hp:row.Perm (aa n)):∃ row',(dIf (asB (d2 eqD (aj 4) (fun _=>some (.int 4)))) (bg 5 (dN (o7 C) (aV (asO (asL (slL (ac 0) (bI (getV 2)) bNo))) (aV (getV 1) (aV (fun _=>some (.int 10133)) (fun _=>some [])))))) dNx) (oF (dR cs) n k num row x6 x7 x8)=some (.nx (oF (dR cs) n k num row' x6 x7 x8))∧row'.Perm (aa n):=by
 by_cases h:num%6=4
 ·obtain⟨r,e,p⟩:=lN C (cs.drop k.toNat) n 10133 hn (by decide)
  refine⟨r,?_,p⟩
  rw[cJ,show (asB (d2 eqD (aj 4) (fun _=>some (.int 4)))) (oF (dR cs) n k num row x6 x7 x8)=some true by simp[h],Ya,Yi rfl]
  have hs:slL (ac 0) (bI (getV 2)) bNo (oF (dR cs) n k num row x6 x7 x8)=some ((cs.drop k.toNat).map .int):=by
   rw[mh]
   show some (jf (cs.map D.int) (some k) none)=_
   rw[gC _ hk,List.map_drop]
  have ha:(aV (asO (asL (slL (ac 0) (bI (getV 2)) bNo))) (aV (getV 1) (aV (fun _=>some (.int 10133)) (fun _=>some [])))) (oF (dR cs) n k num row x6 x7 x8)=some [.v (dR (cs.drop k.toNat)),.v (.int n),.v (.int 10133)]:=by
   rw[ug,bF,bw,hs]
   rfl
  rw[iI,nh,ha,Ya,e]
  rfl
 ·refine⟨row,?_,hp⟩
  rw[cJ,show (asB (d2 eqD (aj 4) (fun _=>some (.int 4)))) (oF (dR cs) n k num row x6 x7 x8)=some false by simp[h],Ya,Yl (by decide)]
  rfl
theorem qF (C:Addr)(cs:List Int)(n k:Int)(hn:1≤n∧n≤7)(hk:0≤k):∃ r:List Int,lA C [.v (dR cs),.v (.int n),.v (.int k)]=some (.own (.lst (r.map .int)) none)∧r.Perm (aa n):=by
 obtain⟨c,hc⟩:=eP C cs (2+k) (by omega)
 obtain⟨num,hq,q0,q1⟩:=eR C (c+k) 10111 10000 (by decide) (by decide)
 obtain⟨r1,a6,a7,a8,e1,p1,h1⟩:=oS C (dR cs) n k num none none none hn
 obtain⟨r2,b6,b7,b8,e2,p2⟩:=n6 C (dR cs) n k num r1 a6 a7 a8 hn p1 h1
 obtain⟨r3,e3,p3⟩:=po C cs n k num r2 b6 b7 b8 hn hk p2
 refine⟨r3,?_,p3⟩
 show ba (g_q5 C [some (.v (dR cs)),some (.v (.int n)),some (.v (.int k)),none,none,none,none,none,none])=_
 unfold g_q5
 rw[af (ρ':=[some (.v (dR cs)),some (.v (.int n)),some (.v (.int k)),some (.v (.int num)),none,none,none,none,none]) (by
  generalize dR cs=U at *
  generalize dh C=M1 at *
  generalize d6 C=M2 at *
  simp[hc,hq])]
 rw[af (ρ':=[some (.v (dR cs)),some (.v (.int n)),some (.v (.int k)),some (.v (.int num)),some (.v (.int (num%6))),none,none,none,none]) (by
  have:=bb num 6 (by decide)
  generalize dR cs=U at *
  simp[this])]
 rw[af (ρ':=oF (dR cs) n k num (aa n) none none none) (by
  have:=h9 (f:=getV 1) (ρ:=[some (.v (dR cs)),some (.v (.int n)),some (.v (.int k)),some (.v (.int num)),some (.v (.int (num%6))),none,none,none,none]) (n:=n) rfl ⟨by omega,by omega⟩
  unfold oF
  generalize dR cs=U at *
  generalize (aa n).map D.int=V at *
  simp[this])]
 rw[af e1,af e2,af e3]
 rfl
def dRs (rows:List (List Int)):D:=.lst (rows.map dR)
abbrev kF (n:Int)(RS:D)(μ:Int→Int)(x3 x4 x5 x6:Option DV):DF:=[some (.v (.int n)),some (.v RS),some (.v (dR ((aa n).map μ))),x3,x4,x5,x6]
theorem lV (j:Nat):aa ((j+1:Nat):Int)=aa (j:Int)++[(j:Int)]:=by
 unfold aa
 rw[Xp,Xp,List.range_succ,ZD]
 rfl
theorem gE (nb:Int→List Int)(n:Int)(j:Nat):bL nb n ((j+1:Nat):Int)=if led nb n j=true then bL nb n j++[(j:Int)] else bL nb n j:=by
 unfold bL
 rw[lV,List.filter_append]
 cases h:led nb n j <;> simp[h]
theorem o5 (a b:Int):gQ (.int a) (.int b)=some (.int (max a b)):=by
 show some (D.int (if b > a then b else a))=_
 congr 2
 split <;> omega
theorem oo (a b:Int):hW (.int a) (.int b)=some (.int (min a b)):=by
 show some (D.int (if b<a then b else a))=_
 congr 2
 split <;> omega
theorem mX {n:Int}{r:List Int}(p:r.Perm (aa n)){a:Int}(ha:a∈aa n):ixD (dR r) (.int a)=some (.int (at1 r a)):=by
 have h:=al.mp ha
 have hl:(r.length:Int)=n:=by rw[p.length_eq,ai];omega
 show atI (r.map D.int) a=_
 rw[jr h.1 (by rw[Yf];omega),Yv,dn p ha]
 rfl
theorem kf {n:Int}(μ:Int→Int){a:Int}(ha:a∈aa n):ixD (dR ((aa n).map μ)) (.int a)=some (.int (μ a)):=by
 have h:=al.mp ha
 show atI (((aa n).map μ).map D.int) a=_
 have g:(aa n)[a.toNat]?=some a:=by
  unfold aa
  rw[Yv,Xa (by omega)]
  show some ((a.toNat:Nat):Int)=_
  rw[Int.toNat_of_nonneg h.1]
 rw[jr h.1 (by rw[Yf,Yf,ai];omega),Yv,Yv,g]
 rfl
theorem pQ {n:Int}{RS:D}{r:List Int}(μ:Int→Int){p:Int}(x5 x6:Option DV)(hn:1≤n∧n≤7)(hr:r.Perm (aa n))(hp:p∈aa n):∃ y5 y6,
  (aq (aQ 5 (d2 hW (d2 ixD (ac 2) (ac 4)) (d2 ixD (ac 2) (d2 ixD (ac 3) (ac 4)))))
  (aq (aQ 6 (d2 gQ (d2 ixD (ac 2) (ac 4)) (d2 ixD (ac 2) (d2 ixD (ac 3) (ac 4)))))
  (aQ 2 (asO (asL (aK 1 [6,5] (aT 2) (setV 0) bN (ifV (asB (d2 eqD (aj 0) (aj 1))) (getV 2) (getV 0)))))))) (kF n RS μ (some (.v (dR r))) (some (.v (.int p))) x5 x6)=some (.nx (kF n RS (fun a=>if μ a=max (μ p) (μ (at1 r p)) then min (μ p) (μ (at1 r p)) else μ a) (some (.v (dR r))) (some (.v (.int p))) y5 y6)):=by
 have i1:=kf μ hp
 have i2:=mX hr hp
 have i3:=kf μ (ni hr hp)
 have hmin:hW (.int (μ p)) (.int (μ (at1 r p)))=some (.int (min (μ p) (μ (at1 r p)))):=oo _ _
 have hmax:gQ (.int (μ p)) (.int (μ (at1 r p)))=some (.int (max (μ p) (μ (at1 r p)))):=o5 _ _
 generalize max (μ p) (μ (at1 r p))=hi at *
 generalize min (μ p) (μ (at1 r p))=lo at *
 refine⟨some (.v (.int lo)),some (.v (.int hi)),?_⟩
 rw[af (ρ':=kF n RS μ (some (.v (dR r))) (some (.v (.int p))) (some (.v (.int lo))) x6) (by
  unfold kF
  generalize dR r=R at *
  generalize dR ((aa n).map μ)=U at *
  simp[i1,i2,i3,hmin])]
 rw[af (ρ':=kF n RS μ (some (.v (dR r))) (some (.v (.int p))) (some (.v (.int lo))) (some (.v (.int hi)))) (by
  unfold kF
  generalize dR r=R at *
  generalize dR ((aa n).map μ)=U at *
  simp[i1,i2,i3,hmax])]
 have hc:(aK 1 [6,5] (aT 2) (setV 0) bN (ifV (asB (d2 eqD (aj 0) (aj 1))) (getV 2) (getV 0))) (kF n RS μ (some (.v (dR r))) (some (.v (.int p))) (some (.v (.int lo))) (some (.v (.int hi))))=some (((aa n).map fun a=>if μ a=hi then lo else μ a).map .int):=by
  rw[bu,show aT 2 (kF n RS μ (some (.v (dR r))) (some (.v (.int p))) (some (.v (.int lo))) (some (.v (.int hi))))=some ((aa n).map fun a=>D.int (μ a)) from ZR some (Zu ..),Ya,Yi (by rw[Yf,ai];omega),bH (fun a=>D.int (μ a)) (fun a=>.int (if μ a=hi then lo else μ a)),Zu]
  ·rfl
  ·intro a ha
   refine⟨_,rfl,rfl,?_⟩
   by_cases q:μ a=hi
   ·simp[q]
   ·simp[q]
 rw[di,bF,bw,hc]
 rfl
theorem p6 {n:Int}{RS:D}{rows:List (List Int)}{r:List Int}(K:NbOk n (nbs rows))(hn:1≤n∧n≤7)(hr:r.Perm (aa n))(hrr:r∈rows):∀ (ps:List Int) (μ:Int→Int) (x4 x5 x6:Option DV),(∀ p∈ps,p∈aa n)→MkOk n (nbs rows) μ→∃ ν y4 y5 y6,
  bY (setV 4) (aq (aQ 5 (d2 hW (d2 ixD (ac 2) (ac 4)) (d2 ixD (ac 2) (d2 ixD (ac 3) (ac 4)))))
  (aq (aQ 6 (d2 gQ (d2 ixD (ac 2) (ac 4)) (d2 ixD (ac 2) (d2 ixD (ac 3) (ac 4)))))
  (aQ 2 (asO (asL (aK 1 [6,5] (aT 2) (setV 0) bN (ifV (asB (d2 eqD (aj 0) (aj 1))) (getV 2) (getV 0)))))))) (ps.map .int) (kF n RS μ (some (.v (dR r))) x4 x5 x6)=some (.nx (kF n RS ν (some (.v (dR r))) y4 y5 y6))∧MkOk n (nbs rows) ν∧(∃ f:Int→Int,∀ a,ν a=f (μ a))∧∀ p∈ps,ν p=ν (at1 r p)
 | [],μ,x4,x5,x6,_,hM=>⟨μ,x4,x5,x6,rfl,hM,⟨id,fun _=>rfl⟩,fun _ h=>by cases h⟩
 | p::ps,μ,x4,x5,x6,hs,hM=>by
  have hp:=hs p Ye
  obtain⟨y5,y6,e⟩:=pQ (RS:=RS) μ x5 x6 hn hr hp
  have hM2:=hM.step K hp (YC.mpr ⟨r,hrr,rfl⟩:at1 r p∈nbs rows p)
  obtain⟨ν,z4,z5,z6,e2,h1,⟨f,hf⟩,h3⟩:=p6 (RS:=RS) K hn hr hrr ps _ (some (.v (.int p))) y5 y6 (fun q hq=>hs q (Yc _ hq)) hM2
  refine⟨ν,z4,z5,z6,?_,h1,⟨fun m=>f (if m=max (μ p) (μ (at1 r p)) then min (μ p) (μ (at1 r p)) else m),hf⟩,fun q hq=>?_⟩
  ·rw[Yt,← e2]
   exact cT rfl e
  ·rcases Ys.mp hq with rfl | hq
   ·rw[hf,hf]
    exact ZR f k8
   ·exact h3 q hq
theorem l4 {n:Int}{RS:D}{rows:List (List Int)}(K:NbOk n (nbs rows))(hn:1≤n∧n≤7)(hr:∀ r∈rows,r.Perm (aa n)):∀ (rs:List (List Int)) (μ:Int→Int) (x3 x4 x5 x6:Option DV),(∀ r∈rs,r∈rows)→MkOk n (nbs rows) μ→∃ ν y3 y4 y5 y6,
  bY (setV 3) (bD (cD (ac 0)) (setV 4) (aq (aQ 5 (d2 hW (d2 ixD (ac 2) (ac 4)) (d2 ixD (ac 2) (d2 ixD (ac 3) (ac 4)))))
  (aq (aQ 6 (d2 gQ (d2 ixD (ac 2) (ac 4)) (d2 ixD (ac 2) (d2 ixD (ac 3) (ac 4)))))
  (aQ 2 (asO (asL (aK 1 [6,5] (aT 2) (setV 0) bN (ifV (asB (d2 eqD (aj 0) (aj 1))) (getV 2) (getV 0))))))))) (rs.map dR) (kF n RS μ x3 x4 x5 x6)=some (.nx (kF n RS ν y3 y4 y5 y6))∧MkOk n (nbs rows) ν∧(∃ f:Int→Int,∀ a,ν a=f (μ a))∧∀ r∈rs,∀ p∈aa n,ν p=ν (at1 r p)
 | [],μ,x3,x4,x5,x6,_,hM=>⟨μ,x3,x4,x5,x6,rfl,hM,⟨id,fun _=>rfl⟩,fun _ h=>by cases h⟩
 | r::rs,μ,x3,x4,x5,x6,hs,hM=>by
  have hrr:=hs r Ye
  obtain⟨ν,z4,z5,z6,e,h1,⟨f,hf⟩,h3⟩:=p6 (RS:=RS) K hn (hr r hrr) hrr (aa n) μ x4 x5 x6 (fun _ h=>h) hM
  obtain⟨ξ,w3,w4,w5,w6,e2,g1,⟨f2,hf2⟩,g3⟩:=l4 (RS:=RS) K hn hr rs ν (some (.v (dR r))) z4 z5 z6 (fun q hq=>hs q (Yc _ hq)) h1
  refine⟨ξ,w3,w4,w5,w6,?_,g1,⟨fun m=>f2 (f m),fun a=>by rw[hf2,hf]⟩,fun q hq p hp=>?_⟩
  ·rw[Yt,← e2]
   refine cT (ρ1:=kF n RS μ (some (.v (dR r))) x4 x5 x6) rfl ?_
   unfold bD
   rw[cb (n:=n) rfl ⟨by omega,by omega⟩]
   exact e
  ·rcases Ys.mp hq with rfl | hq
   ·rw[hf2,hf2,h3 p hp]
   ·exact g3 q hq p hp
theorem np (C:Addr){n:Int}{rows:List (List Int)}(K:NbOk n (nbs rows))(hn:1≤n∧n≤7)(hr:∀ r∈rows,r.Perm (aa n)):∃ ν,oD C [.v (.int n),.v (dRs rows)]=some (.v (dR ((aa n).map ν)))∧MkOk n (nbs rows) ν∧∀ a∈aa n,∀ b∈nbs rows a,ν a=ν b:=by
 obtain⟨ν,y3,y4,y5,y6,e,h1,_,h3⟩:=l4 (RS:=dRs rows) K hn hr rows id none none none none (fun _ h=>h) (MkOk.start n _)
 refine⟨ν,?_,h1,fun a ha b hb=>?_⟩
 ·show ba (g_q4 C [some (.v (.int n)),some (.v (dRs rows)),none,none,none,none,none])=_
  unfold g_q4
  rw[af (ρ':=kF n (dRs rows) id none none none none) (by
   have:=h9 (f:=getV 0) (ρ:=[some (.v (.int n)),some (.v (dRs rows)),none,none,none,none,none]) (n:=n) rfl ⟨by omega,by omega⟩
   rw[di,bF,bw,this]
   unfold kF
   rw[List.map_id]
   rfl)]
  rw[af (by exact e)]
  rfl
 ·obtain⟨r,h,rfl⟩:=YC.mp hb
  exact h3 r h a ha
abbrev uF (n:Int)(RS:D)(M:D)(L:List D)(x4:Option DV):DF:=[some (.v (.int n)),some (.v RS),some (.v M),some (.own (.lst L) none),x4]
def bG (nb:Int→List Int)(n p:Int):List D:=(cls nb n p).map .int
theorem rR (C:Addr){n:Int}{rows:List (List Int)}(hn:1≤n∧n≤7)(hr:∀ r∈rows,r.Perm (aa n)):oW C [.v (.int n),.v (dRs rows)]=some (.own (.lst ((bL (nbs rows) n n).map fun p=>.lst (bG (nbs rows) n p))) none):=by
 have K:=mJ hn.2 hr
 obtain⟨ν,hM,h1,h2⟩:=np C K hn hr
 show ba (g_q2 C [some (.v (.int n)),some (.v (dRs rows)),none,none,none])=_
 unfold g_q2
 rw[af (ρ':=[some (.v (.int n)),some (.v (dRs rows)),some (.v (dR ((aa n).map ν))),none,none]) (by
  generalize dRs rows=R at *
  generalize oD C=M at *
  simp[hM])]
 rw[af (ρ':=uF n (dRs rows) (dR ((aa n).map ν)) [] none) rfl]
 obtain⟨ρ',e,x4,rfl⟩:=eV (st:=setV 4) (body:=(dIf (asB (d2 eqD (d2 ixD (ac 2) (ac 4)) (aj 4))) (jb 3 (asO (asL (aK 1 [2,4] (cD (ac 0)) (setV 0) (asB (d2 eqD (d2 ixD (ac 1) (ac 0)) (aj 2))) (getV 0))))) dNx)) (fun j ρ=>∃ x4,ρ=uF n (dRs rows) (dR ((aa n).map ν)) ((bL (nbs rows) n j).map fun p=>.lst (bG (nbs rows) n p)) x4) ((aa n).map .int) 0 (uF n (dRs rows) (dR ((aa n).map ν)) [] none) ⟨none,rfl⟩ (by
  rintro j d _ hj ⟨x4,rfl⟩
  have hd:=im hj
  subst hd
  rw[ZQ]
  have hj':=(Ym.mp hj).1
  rw[Yf,ai] at hj'
  have hp:(j:Int)∈aa n:=al.mpr ⟨by omega,by omega⟩
  generalize hL:((bL (nbs rows) n (j:Int)).map fun p=>D.lst (bG (nbs rows) n p))=L
  have lL:L.length<16777216:=by
   rw[← hL,Yf]
   have:(bL (nbs rows) n j).length≤(aa j).length:=Xr _ _
   rw[ai] at this
   omega
  refine⟨uF n (dRs rows) (dR ((aa n).map ν)) L (some (.v (.int j))),rfl,?_⟩
  have hs:=gE (nbs rows) n j
  have ht:(asB (d2 eqD (d2 ixD (ac 2) (ac 4)) (aj 4))) (uF n (dRs rows) (dR ((aa n).map ν)) L (some (.v (.int j))))=some (led (nbs rows) n j):=by
   have:=kf ν hp
   rw[← h1.led K h2 hp]
   generalize dR ((aa n).map ν)=U at *
   simp[this]
  rw[cJ,ht,Ya]
  cases z:led (nbs rows) n j with
  | false=>
   rw[z,Yl (by decide)] at hs
   refine⟨_,Yl (by decide),some (.v (.int j)),?_⟩
   rw[hs,hL]
  | true=>
   rw[z,Yi rfl] at hs
   rw[Yi rfl]
   have ej:ν j=j:=YV ((h1.led K h2 hp).trans z)
   have hc:(aK 1 [2,4] (cD (ac 0)) (setV 0) (asB (d2 eqD (d2 ixD (ac 1) (ac 0)) (aj 2))) (getV 0)) (uF n (dRs rows) (dR ((aa n).map ν)) L (some (.v (.int j))))=some (bG (nbs rows) n j):=by
    unfold bG
    rw[← h1.cls K h2 hp ej,bu,cb (n:=n) rfl ⟨by omega,by omega⟩,Ya,Yi (by rw[Yf,ai];omega)]
    refine eh (fun x=>decide (ν x=j)) (aa n) (fun x hx=>?_) (by simp)
    have:=kf ν hx
    generalize dR ((aa n).map ν)=U at *
    simp[this]
   refine⟨uF n (dRs rows) (dR ((aa n).map ν)) (L++[.lst (bG (nbs rows) n j)]) (some (.v (.int j))),?_,some (.v (.int j)),?_⟩
   ·rw[oh]
    show ((asO (asL _)) _).bind _=_
    rw[bF,bw,hc]
    exact Yi lL
   ·rw[hs,ZD,hL]
    rfl)
 rw[ZQ,Yf,ai,show ((n.toNat:Nat):Int)=n by omega] at e
 rw[af (by unfold bD;rw[cb (n:=n) rfl ⟨by omega,by omega⟩];exact e)]
 rfl
theorem j4 (a b:List Int):eqd (.lst (a.map .int)) (.lst (b.map .int))=decide (a=b):=by
 by_cases h:a=b
 ·rw[h,YN rfl]
  exact nR D.int (fun _ _=>rfl) b
 ·rw[YA h]
  cases q:eqd (.lst (a.map .int)) (.lst (b.map .int)) with
  | false=>rfl
  | true=>exact absurd (jg ((dH _ _ (iE a b)).mp q)) h
theorem mV (n:Nat)(r:List Int):okN (n+1) (.lst (r.map .int))=true:=by
 show (r.map D.int).all (okN n)=true
 rw[YF]
 intro x hx
 obtain⟨t,_,rfl⟩:=YC.mp hx
 cases n <;> rfl
theorem pU (C:Addr){n:Int}{rows:List (List Int)}(hr:∀ r∈rows,r.Perm (aa n))(h5:rows.length≤5){a:Int}(ha:a∈aa n):eA C [some (.v (.int a)),some (.v (dRs rows))]=some (.lst ((nbs rows a).map .int)):=by
 unfold eA
 have hc:(aK 1 [0] (aT 1) (setV 0) bN (d2 ixD (ac 0) (ac 1))) [some (.v (.int a)),some (.v (dRs rows))]=some ((nbs rows a).map .int):=by
  rw[bu,show aT 1 [some (.v (.int a)),some (.v (dRs rows))]=some (rows.map dR) from rfl,Ya,Yi (by rw[Yf];omega),bH dR (fun r=>.int (at1 r a))]
  ·unfold nbs
   rw[Zu]
   rfl
  ·intro r hx
   refine⟨_,rfl,rfl,?_⟩
   have:=mX (hr r hx) ha
   generalize dR r=R at *
   simp[this]
 rw[bF,bw,hc]
 rfl
def bO (nb:Int→List Int)(n k:Int):List (List D):=(bL nb n k).map (bG nb n)
theorem p9 (nb:Int→List Int)(n k:Int):OD.d (.lst2 (bO nb n k))=.lst ((bL nb n k).map fun p=>.lst (bG nb n p)):=by
 show D.lst ((bO nb n k).map D.lst)=_
 unfold bO
 rw[Zu]
 rfl
theorem r_ {nb:Int→List Int}{n p:Int}(K:NbOk n nb)(hp:p∈aa n):cg (.lst (bG nb n p)) (OD.d (.lst2 (bO nb n p)))=some (.bl (led nb n p)):=by
 rw[p9]
 unfold cg
 show (if (okN 30 (.lst (bG nb n p))&&((bL nb n p).map fun p=>D.lst (bG nb n p)).all (okN 29))=true then some (D.bl (!((bL nb n p).map fun p=>D.lst (bG nb n p)).any fun z=>eqd z (.lst (bG nb n p)))) else none)=_
 rw[Yi]
 ·congr 2
  have key:=iA (nb:=nb) K hp
  cases z:led nb n p with
  | true=>
   rw[XE,Bool.eq_false_iff]
   intro w
   obtain⟨d,hd,e⟩:=List.any_eq_true.mp w
   obtain⟨q,hq,rfl⟩:=YC.mp hd
   have e':cls nb n q=cls nb n p:=YV ((j4 _ _).symm.trans e)
   rw[key.mp ⟨q,hq,e'⟩] at z
   cases z
  | false=>
   obtain⟨q,hq,e⟩:=key.mpr z
   rw[Bool.not_eq_false']
   exact List.any_eq_true.mpr ⟨_,YC.mpr ⟨q,hq,rfl⟩,(j4 _ _).trans (YN e)⟩
 ·rw[Yr]
  refine⟨mV 29 _,YF.mpr fun d hd=>?_⟩
  obtain⟨q,hq,rfl⟩:=YC.mp hd
  exact mV 28 _
theorem iQ (nb:Int→List Int){n k:Int}(hk:k≤7):(bL nb n k).length≤7:=by
 have:(bL nb n k).length≤(aa k).length:=Xr _ _
 rw[ai] at this
 omega
theorem lF (C:Addr){n:Int}{rows:List (List Int)}(hn:1≤n∧n≤7)(hr:∀ r∈rows,r.Perm (aa n))(h5:rows.length≤5):jM C [.v (.int n),.v (dRs rows)]=some (.own (.lst2 (bO (nbs rows) n n)) none):=by
 have K:=mJ hn.2 hr
 have hR:∀ p∈aa n,bU 8 (g_q9 C) (dRs rows) (.lst [.int p])=some ((bfs (nbs rows) 10 [p] 0).map .int):=fun p hp=>
  tF K.inn (by rw[ai];omega) (fun a _=>by unfold nbs;rw[Yf];omega) (fun a ha=>pU C hr h5 ha) hp
 rw[show jM C [.v (.int n),.v (dRs rows)]=ba (g_q8 C [some (.v (.int n)),some (.v (dRs rows)),none,none,none]) from rfl]
 unfold g_q8
 generalize g_q9 C=gR at *
 generalize dRs rows=W at *
 generalize nbs rows=nb at *
 rw[af (ρ':=[some (.v (.int n)),some (.v W),some (.own (.lst2 []) none),none,none]) rfl]
 obtain⟨ρ',e,x3,x4,rfl⟩:=eV (st:=setV 3) (body:=(aq (fr 4 1 8 gR (asO (asL (el (getV 3) jL))))
  (dIf (cI 4 (cI 2 (asB (d2 cg (aj 4) (aj 2))))) (gW 2 4) dNx))) (fun j ρ=>∃ x3 x4,ρ=[some (.v (.int n)),some (.v W),some (.own (.lst2 (bO nb n j)) none),x3,x4]) ((aa n).map .int) 0 [some (.v (.int n)),some (.v W),some (.own (.lst2 []) none),none,none] ⟨none,none,rfl⟩ (by
  rintro j d _ hj ⟨x2,x3,rfl⟩
  have hd:=im hj
  subst hd
  rw[ZQ]
  have hj':=(Ym.mp hj).1
  rw[Yf,ai] at hj'
  have hp:(j:Int)∈aa n:=al.mpr ⟨by omega,by omega⟩
  refine⟨[some (.v (.int n)),some (.v W),some (.own (.lst2 (bO nb n j)) none),some (.v (.int j)),x3],rfl,?_⟩
  obtain⟨b1,b2⟩:=cV K.inn hp (dW (n:=n) hn.2)
  have bl:(bfs nb 10 [(j:Int)] 0).length≤7:=by
   have:=c_ b1 fun x hx=>((b2 x).mp hx).inn K hp
   rw[ai] at this
   omega
  rw[af (ρ':=[some (.v (.int n)),some (.v W),some (.own (.lst2 (bO nb n j)) none),some (.v (.int j)),some (.own (.lst (bG nb n j)) none)]) (by
   unfold fr
   show (bU 8 gR W (.lst [.int (j:Int)])).bind _=_
   rw[hR j hp,Ya,Yi (mF _ (by omega)),mH K hp b1 b2]
   rfl)]
  have ht:cI 4 (cI 2 (asB (d2 cg (aj 4) (aj 2)))) [some (.v (.int n)),some (.v W),some (.own (.lst2 (bO nb n j)) none),some (.v (.int j)),some (.own (.lst (bG nb n j)) none)]=some (led nb n j):=by
   show asB (d2 cg (aj 4) (aj 2)) [some (.v (.int n)),some (.v W),some (.v (OD.d (.lst2 (bO nb n j)))),some (.v (.int j)),some (.v (.lst (bG nb n j)))]=_
   have:=r_ (nb:=nb) K hp
   generalize OD.d (.lst2 (bO nb n j))=U at *
   simp[this]
  rw[cJ,ht,Ya]
  have hl:=gE nb n j
  cases z:led nb n j with
  | false=>
   rw[z,Yl (by decide)] at hl
   refine⟨_,Yl (by decide),some (.v (.int j)),some (.own (.lst (bG nb n j)) none),?_⟩
   unfold bO
   rw[hl]
  | true=>
   rw[z,Yi rfl] at hl
   rw[Yi rfl]
   have le:(bO nb n j).length<16777216:=by
    have:=iQ nb (n:=n) (k:=j) (by omega)
    unfold bO
    rw[Yf]
    omega
   refine⟨[some (.v (.int n)),some (.v W),some (.own (.lst2 (bO nb n j++[bG nb n j])) none),some (.v (.int j)),none],?_,some (.v (.int j)),none,?_⟩
   ·exact Yi le
   ·unfold bO
    rw[hl,ZD]
    rfl)
 rw[ZQ,Yf,ai,show ((n.toNat:Nat):Int)=n by omega] at e
 rw[af (by unfold bD;rw[cb (n:=n) rfl ⟨by omega,by omega⟩];exact e)]
 rfl
theorem qq {PS:D}{x2 x3:Option DV}:∀ (xs:List Int) (x4:Option DV),∃ y4,bY (setV 4) (dIf (orT (eJ (asB (d1 (dS "int") (aj 4)))) (asB (d1 (dS "bool") (aj 4)))) (cu (fun _=>some (.bl false))) dNx) (xs.map .int) [some (.v PS),some (.v PS),x2,x3,x4]=some (.nx [some (.v PS),some (.v PS),x2,x3,y4])
 | [],x4=>⟨x4,rfl⟩
 | x::xs,x4=>by
  obtain⟨y4,e⟩:=qq xs (some (.v (.int x)))
  refine⟨y4,?_⟩
  rw[Yt,← e]
  exact cT rfl rfl
theorem nB {PS:D}:∀ (cs:List (List Int)) (x2 x3 x4:Option DV),∃ y2 y3 y4,bY (mG [2,3]) (aq (dIf (orT (eJ (asB (d1 (dS "list") (aj 2)))) (asB (d2 neD (aj 2) (aj 3)))) (cu (fun _=>some (.bl false))) dNx)
  (bD (aT 2) (setV 4) (dIf (orT (eJ (asB (d1 (dS "int") (aj 4)))) (asB (d1 (dS "bool") (aj 4)))) (cu (fun _=>some (.bl false))) dNx))) (cs.map fun c=>.tup [dR c,dR c]) [some (.v PS),some (.v PS),x2,x3,x4]=some (.nx [some (.v PS),some (.v PS),y2,y3,y4])
 | [],x2,x3,x4=>⟨x2,x3,x4,rfl⟩
 | c::cs,x2,x3,x4=>by
  obtain⟨y4,e⟩:=qq (PS:=PS) (x2:=some (.v (dR c))) (x3:=some (.v (dR c))) c x4
  obtain⟨z2,z3,z4,e2⟩:=nB (PS:=PS) cs (some (.v (dR c))) (some (.v (dR c))) y4
  refine⟨z2,z3,z4,?_⟩
  rw[Yt,← e2]
  refine cT (ρ1:=[some (.v PS),some (.v PS),some (.v (dR c)),some (.v (dR c)),x4]) rfl ?_
  have hne:neD (dR c) (dR c)=some (.bl false):=by
   unfold dR
   rw[lY (p5 c) (p5 c),j4]
   simp
  have hi:dS "list" (dR c)=some (.bl true):=rfl
  rw[af (ρ':=[some (.v PS),some (.v PS),some (.v (dR c)),some (.v (dR c)),x4]) (by
   generalize dR c=U at *
   simp[hne,hi])]
  exact e
theorem ui (C:Addr)(cs:List (List Int)):jd C [.v (dRs cs),.v (dRs cs)]=some (.v (.bl true)):=by
 obtain⟨y2,y3,y4,e⟩:=nB (PS:=dRs cs) cs none none none
 show ba (g_q3 C [some (.v (dRs cs)),some (.v (dRs cs)),none,none,none])=_
 unfold g_q3
 have hi:dS "list" (dRs cs)=some (.bl true):=rfl
 have hl:bP (dRs cs)=some (.int (cs.map dR).length):=rfl
 rw[af (ρ':=[some (.v (dRs cs)),some (.v (dRs cs)),none,none,none]) (by
  generalize dRs cs=U at *
  generalize ((cs.map dR).length:Int)=l at *
  simp[hi,hl])]
 have hz:gA (getV 0) (getV 1) [some (.v (dRs cs)),some (.v (dRs cs)),none,none,none]=some (cs.map fun c=>.tup [dR c,dR c]):=by
  unfold gA
  show (if (cs.map dR).length=(cs.map dR).length then some (fW (cs.map dR) (cs.map dR)) else none)=_
  rw[Yi rfl]
  unfold fW
  congr 1
  clear e hi hl
  induction cs with
  | nil=>rfl
  | cons c cs ih=>rw[Yt,Xf,Yt,ih];rfl
 rw[af (by unfold bD;rw[hz];exact e)]
 rfl
theorem ji (rows:List (List Int)):okN 30 (dRs rows)=true:=by
 show (rows.map dR).all (okN 29)=true
 rw[YF]
 intro x hx
 obtain⟨r,_,rfl⟩:=YC.mp hx
 exact mV 28 r
theorem j8:∀ rows:List (List Int),PyData.eqvAll (aS (rows.map dR)) (aS (rows.map dR))=true
 | []=>by simp[aS,PyData.eqvAll]
 | r::rows=>by
  have h:PyData.eqv (aU (dR r)) (aU (dR r))=true:=(j4 r r).trans (YN rfl)
  have h2:=j8 rows
  rw[Yt]
  generalize dR r=R at *
  generalize rows.map dR=U at *
  simp only[aS,PyData.eqvAll,Yr]
  exact⟨h,h2⟩
theorem mI (rows:List (List Int)):eqd (dRs rows) (dRs rows)=true:=j8 rows
theorem law_true (C:Addr)(ns:List Int)(hl:ns.length≤63):ud C [.v (.lst (ns.map L2.D.int))]=some (.v (.bl true)):=by
 show ba (g_q0 C [some (.v (dR ns)),none,none,none,none,none,none,none,none])=_
 unfold g_q0
 have hc:(aK 1 [] (aT 0) (setV 0) bN (d2 cG (ac 0) (d2 lU (fun _=>some (.int 10)) (fun _=>some (.int 40))))) [some (.v (dR ns)),none,none,none,none,none,none,none,none]=some ((ns.map fun c=>c%10 ^ 40).map .int):=by
  rw[bu,show aT 0 [some (.v (dR ns)),none,none,none,none,none,none,none,none]=some (ns.map .int) from rfl,Ya,Yi (by rw[Yf];omega),bH D.int (fun c=>.int (c%10 ^ 40)),Zu]
  ·rfl
  ·intro c _
   refine⟨_,rfl,rfl,?_⟩
   have hp:lU (.int 10) (.int 40)=some (.int (10 ^ 40)):=rfl
   have:=bb c (10 ^ 40) (by decide)
   generalize (10:Int) ^ 40=P at *
   simp[hp,this]
 generalize (ns.map fun c=>c%10 ^ 40)=cs at hc
 rw[af (ρ':=[some (.v (dR ns)),some (.v (dR cs)),none,none,none,none,none,none,none]) (by rw[di,bF,bw,hc];rfl)]
 obtain⟨c0,e0⟩:=eP C cs 0 (by decide)
 obtain⟨s,es,s0,s1⟩:=eR C c0 10061 7 (by decide) (by decide)
 generalize hn':1+s=n
 have hn:1≤n∧n≤7:=by omega
 rw[af (ρ':=[some (.v (dR ns)),some (.v (dR cs)),some (.v (.int n)),none,none,none,none,none,none]) (by
  generalize dR ns=U at *
  generalize dR cs=V at *
  generalize dh C=M1 at *
  generalize d6 C=M2 at *
  simp[e0,es,hn'])]
 obtain⟨c1,e1⟩:=eP C cs 1 (by decide)
 obtain⟨m,em,m0,m1⟩:=eR C c1 10067 6 (by decide) (by decide)
 rw[af (ρ':=[some (.v (dR ns)),some (.v (dR cs)),some (.v (.int n)),some (.v (.int m)),none,none,none,none,none]) (by
  generalize dR ns=U at *
  generalize dR cs=V at *
  generalize dh C=M1 at *
  generalize d6 C=M2 at *
  simp[e1,em])]
 have hrows:∃ rows:List (List Int),rows.length=m.toNat∧(∀ r∈rows,r.Perm (aa n))∧(aK 1 [1,2] (cD (ac 3)) (setV 0) bN (aA (lA C) (aB 1 (aV (getV 2) (aV (getV 0) (fun _=>some [])))))) [some (.v (dR ns)),some (.v (dR cs)),some (.v (.int n)),some (.v (.int m)),none,none,none,none,none]=some (rows.map dR):=by
  have:=f8 (st:=setV 0) (c:=bN) (e:=(aA (lA C) (aB 1 (aV (getV 2) (aV (getV 0) (fun _=>some [])))))) (ρ:=[none,some (.v (dR cs)),some (.v (.int n))]) dR (fun r=>r.Perm (aa n)) ((aa m).map .int) (fun d hd=>by
   obtain⟨k,hk,rfl⟩:=YC.mp hd
   obtain⟨r,er,pr⟩:=qF C cs n k hn (al.mp hk).1
   refine⟨[some (.v (.int k)),some (.v (dR cs)),some (.v (.int n))],rfl,rfl,r,?_,pr⟩
   have hd:dvD (.own (.lst (r.map .int)) none)=some (dR r):=rfl
   generalize dR cs=V at *
   generalize lA C=M at *
   simp[er]
   rfl)
  obtain⟨rows,h1,h2,h3⟩:=this
  refine⟨rows,?_,h3,?_⟩
  ·rw[h2,Yf,ai]
  ·rw[bu,cb (n:=m) rfl ⟨by omega,by omega⟩,Ya,Yi (by rw[Yf,ai];omega)]
   exact h1
 obtain⟨rows,rl,hr,er⟩:=hrows
 rw[af (ρ':=[some (.v (dR ns)),some (.v (dR cs)),some (.v (.int n)),some (.v (.int m)),some (.v (dRs rows)),none,none,none,none]) (by rw[di,bF,bw,er];rfl)]
 have hh:(aK 1 [] (aT 4) (setV 0) bN (asO (asL (dU (ac 0))))) [some (.v (dR ns)),some (.v (dR cs)),some (.v (.int n)),some (.v (.int m)),some (.v (dRs rows)),none,none,none,none]=some (rows.map dR):=by
  rw[bu,show aT 4 [some (.v (dR ns)),some (.v (dR cs)),some (.v (.int n)),some (.v (.int m)),some (.v (dRs rows)),none,none,none,none]=some (rows.map dR) from rfl,Ya,Yi (by rw[Yf];omega),bH dR dR]
  intro r _
  exact⟨_,rfl,rfl,rfl⟩
 rw[af (ρ':=[some (.v (dR ns)),some (.v (dR cs)),some (.v (.int n)),some (.v (.int m)),some (.v (dRs rows)),some (.v (dRs rows)),none,none,none]) (by rw[di,bF,bw,hh];rfl)]
 have hd:=rR C hn hr
 have ho:=lF C hn hr (by omega)
 have hi:=ui C ((bL (nbs rows) n n).map (cls (nbs rows) n))
 have ed:D.lst ((bL (nbs rows) n n).map fun p=>.lst (bG (nbs rows) n p))=dRs ((bL (nbs rows) n n).map (cls (nbs rows) n)):=by
  unfold dRs
  rw[Zu]
  rfl
 have ep:=(p9 (nbs rows) n n).trans ed
 have hne:neD (dRs rows) (dRs rows)=some (.bl false):=by rw[lY (ji rows) (ji rows),mI];rfl
 have heq:eqD (dRs rows) (dRs rows)=some (.bl true):=by
  unfold eqD
  rw[ji,mI]
  rfl
 have hall:(bO (nbs rows) n n).all (fun ds=>decide (ds.length+(bO (nbs rows) n n).length≤16777216))=true:=by
  rw[YF]
  intro x hx
  obtain⟨p,_,rfl⟩:=YC.mp hx
  have l1:=iQ (nbs rows) (n:=n) (k:=n) hn.2
  have l2:(cls (nbs rows) n p).length≤(aa n).length:=Xr _ _
  rw[ai] at l2
  unfold bG bO
  rw[Yf,Yf]
  exact YN (by omega)
 generalize bO (nbs rows) n n=PT at *
 generalize dRs ((bL (nbs rows) n n).map (cls (nbs rows) n))=DU at *
 generalize ((bL (nbs rows) n n).map fun p=>D.lst (bG (nbs rows) n p))=DL at *
 generalize dRs rows=RS at *
 generalize dR ns=U at *
 generalize dR cs=V at *
 rw[af (ρ':=[some (.v U),some (.v V),some (.v (.int n)),some (.v (.int m)),some (.v RS),some (.v RS),some (.v DU),none,none]) (by
  generalize oW C=M at *
  simp[hd,ed])]
 rw[af (ρ':=[some (.v U),some (.v V),some (.v (.int n)),some (.v (.int m)),some (.v RS),some (.v RS),some (.v DU),some (.own (.lst2 PT) none),none]) (by
  generalize jM C=M at *
  simp[ho])]
 have ht:(cI 7 (orT (eJ (asB (aA (jd C) (aV (getV 7) (aV (getV 6) (fun _=>some [])))))) (asB (d2 neD (aj 5) (aj 4))))) [some (.v U),some (.v V),some (.v (.int n)),some (.v (.int m)),some (.v RS),some (.v RS),some (.v DU),some (.own (.lst2 PT) none),none]=some false:=by
  unfold cI
  show (orT (eJ (asB (aA (jd C) (aV (getV 7) (aV (getV 6) (fun _=>some [])))))) (asB (d2 neD (aj 5) (aj 4)))) [some (.v U),some (.v V),some (.v (.int n)),some (.v (.int m)),some (.v RS),some (.v RS),some (.v DU),some (.v (OD.d (.lst2 PT))),none]=_
  rw[ep]
  generalize jd C=M at *
  simp[hi,hne]
 rw[af (ρ':=[some (.v U),some (.v V),some (.v (.int n)),some (.v (.int m)),some (.v RS),some (.v RS),some (.v DU),some (.own (.lst2 PT) none),none]) (by
  rw[cJ,ht,Ya,Yl (by decide)]
  rfl)]
 rw[af (ρ':=[some (.v U),some (.v V),some (.v (.int n)),some (.v (.int m)),some (.v RS),some (.v RS),some (.v DU),none,none]) (by
  unfold dj
  exact Yi ⟨by simp,hall⟩)]
 have hv:dvD (.own (.lst2 PT) none)=some DU:=by rw[← ep];rfl
 generalize jd C=M at *
 generalize jM C=N at *
 simp[ho,ep,hi,heq]
theorem p7 {α:Type}{us:List α}(h:us.length=1):∃ a,us=[a]:=List.length_eq_one_iff.mp h
theorem fG {α:Type}{us:List α}(h:us.length=2):∃ a1 a2,us=[a1,a2]:=by
 cases us with
 | nil=>cases h
 | cons a r=>
  obtain⟨a2,rfl⟩:=p7 (Nat.succ.inj h)
  exact⟨a,a2,rfl⟩
theorem lM {α:Type}{us:List α}(h:us.length=3):∃ a1 a2 a3,us=[a1,a2,a3]:=by
 cases us with
 | nil=>cases h
 | cons a r=>
  obtain⟨a2,a3,rfl⟩:=fG (Nat.succ.inj h)
  exact⟨a,a2,a3,rfl⟩
def kE (P:Params)(x:Str)(t:Nat)(v:Value):DictEntry:=⟨PyData.keyHash P x,.str x t,v⟩
def fO (n q:Str)(s:Stmt)(m:Str)(t c:Nat)(d:Value:=.none):Obj:=⟨.type "function",none,.func (PySem.W.fnOf n q (defArgs s) (defBody s) (defScope s) d .none .none (.str m t) none (.ref c) .none),#[]⟩
def cO (n:Str)(t:Nat)(q:Str)(u v:Nat)(l a f:Int)(r:Nat)(g:Int)(r2 r3:Nat)(h l2:Int)(y:Nat)(c d:Value:=.none):Obj:={ cls:=.type "code",data:=.fields #[.str n t,.str q u,.str "/claim/cut.py" v,.int l 0,.int a 0,.int 0 0,.int 0 0,.int f 0,.ref r,.bool true,.int g 0,.ref r2,.none,c,d,.ref r3,.int h 0,.int l2 0,.str "/claim/cut.py" y] }
def kz:Str := "__doc__"
def KK:Params→PySem.W.Frag:=fun P=>(fun (_:kz = "__doc__")=>
(nat_lit 3,{ cls:=.type "dict",data:=.dict #[kE P "__name__" 165 (.str "law_tieword_k17_orbits_of" 209),kE P "__doc__" 166 (.none),kE P "__package__" 167 (.none),kE P "__loader__" 168 (.builtin "__main__.__loader__#opaque"),kE P "__spec__" 169 (.none),kE P "__annotations__" 170 (.ref 6),kE P "__builtins__" 171 (.ref 4),kE P "__file__" 173 (.str "/claim/cut.py" 172),kE P "__cached__" 174 (.none),kE P "reached" 194 (.ref 20),kE P "orbits_of" 208 (.ref 27),kE P "_law_cell" 218 (.ref 34),kE P "_law_some" 227 (.ref 41),kE P "_law_order" 239 (.ref 48),kE P "_law_one" 245 (.ref 53),kE P "_law_marks" 251 (.ref 58),kE P "_law_due" 257 (.ref 63),kE P "_law_is" 268 (.ref 70),kE P "law" 274 (.ref 75)] 19 }) ::
(nat_lit 15,{ cls:=.type "tuple",data:=.seq #[.none] }) ::
(nat_lit 19,cO "reached" 189 "reached" 190 191 2 3 3 16 181 17 18 192 2 193) ::
(nat_lit 20,fO "reached" "reached" iP "tieword.reach" 187 19 (.ref (nat_lit 15))) ::
(nat_lit 26,cO "orbits_of" 197 "orbits_of" 198 199 15 2 3 21 181 22 25 206 15 207 (.ref 23) (.ref 24)) ::
(nat_lit 27,fO "orbits_of" "orbits_of" fU "tieword.turnings" 195 26) ::
(nat_lit 33,cO "_law_cell" 211 "_law_cell" 212 213 23 2 3 28 181 29 32 216 23 217 (.ref 30) (.ref 31)) ::
(nat_lit 34,fO "_law_cell" "_law_cell" jx "law_tieword_k17_orbits_of" 209 33) ::
(nat_lit 40,cO "_law_some" 219 "_law_some" 220 221 27 3 3 35 181 36 39 225 27 226 (.ref 37) (.ref 38)) ::
(nat_lit 41,fO "_law_some" "_law_some" jO "law_tieword_k17_orbits_of" 209 40) ::
(nat_lit 47,cO "_law_order" 228 "_law_order" 229 230 29 3 3 42 181 43 46 237 29 238 (.ref 44) (.ref 45)) ::
(nat_lit 48,fO "_law_order" "_law_order" jv "law_tieword_k17_orbits_of" 209 47) ::
(nat_lit 52,cO "_law_one" 240 "_law_one" 241 242 35 3 3 49 181 50 51 243 35 244) ::
(nat_lit 53,fO "_law_one" "_law_one" iH "law_tieword_k17_orbits_of" 209 52) ::
(nat_lit 57,cO "_law_marks" 246 "_law_marks" 247 248 50 2 3 54 181 55 56 249 50 250) ::
(nat_lit 58,fO "_law_marks" "_law_marks" iX "law_tieword_k17_orbits_of" 209 57) ::
(nat_lit 62,cO "_law_due" 252 "_law_due" 253 254 58 2 3 59 181 60 61 255 58 256) ::
(nat_lit 63,fO "_law_due" "_law_due" iT "law_tieword_k17_orbits_of" 209 62) ::
(nat_lit 69,cO "_law_is" 258 "_law_is" 259 260 65 2 3 64 181 65 68 266 65 267 (.ref 66) (.ref 67)) ::
(nat_lit 70,fO "_law_is" "_law_is" jZ "law_tieword_k17_orbits_of" 209 69) ::
(nat_lit 74,cO "law" 269 "law" 270 271 75 1 3 71 181 72 73 272 75 273) ::
(nat_lit 75,fO "law" "law" fT "law_tieword_k17_orbits_of" 209 74)::[]) rfl
set_option autoImplicit true in
set_option relaxedAutoImplicit true in
theorem all_mk {l:PySem.W.OpenLaw}{w:World}{K:Kq}{h:Heap}{mg:Ks}{fa:Addr}(X:K.In h)(G:h.Ns mainGlobals mg)(hfa:mg "law"=some (.ref fa))
  (a_q7:PySem.W.nsIn K mainGlobals "_law_some"=some (some (.ref f_q7)))
  (l_q7:K.lookup f_q7=some ⟨oc_q7,od_q7,.func (PySem.W.fnOf "_law_some" "_law_some" (defArgs jO) (defBody jO) (defScope jO) .none kV_q7 dc_q7 pm_q7 an_q7 cd_q7 ct_q7),sl_q7⟩)
  (c_q7:PySem.W.codeIn K cd_q7 "_law_some"=true)
  (k_q7:PySem.W.keepIn K (.ref f_q7)=true)
  (a_q1:PySem.W.nsIn K mainGlobals "_law_cell"=some (some (.ref f_q1)))
  (l_q1:K.lookup f_q1=some ⟨oc_q1,od_q1,.func (PySem.W.fnOf "_law_cell" "_law_cell" (defArgs jx) (defBody jx) (defScope jx) .none kV_q1 dc_q1 pm_q1 an_q1 cd_q1 ct_q1),sl_q1⟩)
  (c_q1:PySem.W.codeIn K cd_q1 "_law_cell"=true)
  (k_q1:PySem.W.keepIn K (.ref f_q1)=true)
  (a_q6:PySem.W.nsIn K mainGlobals "_law_order"=some (some (.ref f_q6)))
  (l_q6:K.lookup f_q6=some ⟨oc_q6,od_q6,.func (PySem.W.fnOf "_law_order" "_law_order" (defArgs jv) (defBody jv) (defScope jv) .none kV_q6 dc_q6 pm_q6 an_q6 cd_q6 ct_q6),sl_q6⟩)
  (c_q6:PySem.W.codeIn K cd_q6 "_law_order"=true)
  (k_q6:PySem.W.keepIn K (.ref f_q6)=true)
  (a_q5:PySem.W.nsIn K mainGlobals "_law_one"=some (some (.ref f_q5)))
  (l_q5:K.lookup f_q5=some ⟨oc_q5,od_q5,.func (PySem.W.fnOf "_law_one" "_law_one" (defArgs iH) (defBody iH) (defScope iH) .none kV_q5 dc_q5 pm_q5 an_q5 cd_q5 ct_q5),sl_q5⟩)
  (c_q5:PySem.W.codeIn K cd_q5 "_law_one"=true)
  (k_q5:PySem.W.keepIn K (.ref f_q5)=true)
  (a_q4:PySem.W.nsIn K mainGlobals "_law_marks"=some (some (.ref f_q4)))
  (l_q4:K.lookup f_q4=some ⟨oc_q4,od_q4,.func (PySem.W.fnOf "_law_marks" "_law_marks" (defArgs iX) (defBody iX) (defScope iX) .none kV_q4 dc_q4 pm_q4 an_q4 cd_q4 ct_q4),sl_q4⟩)
  (c_q4:PySem.W.codeIn K cd_q4 "_law_marks"=true)
  (k_q4:PySem.W.keepIn K (.ref f_q4)=true)
  (a_q2:PySem.W.nsIn K mainGlobals "_law_due"=some (some (.ref f_q2)))
  (l_q2:K.lookup f_q2=some ⟨oc_q2,od_q2,.func (PySem.W.fnOf "_law_due" "_law_due" (defArgs iT) (defBody iT) (defScope iT) .none kV_q2 dc_q2 pm_q2 an_q2 cd_q2 ct_q2),sl_q2⟩)
  (c_q2:PySem.W.codeIn K cd_q2 "_law_due"=true)
  (k_q2:PySem.W.keepIn K (.ref f_q2)=true)
  (a_q9:PySem.W.nsIn K mainGlobals "reached"=some (some (.ref f_q9)))
  (l_q9:K.lookup f_q9=some ⟨oc_q9,od_q9,.func (PySem.W.fnOf "reached" "reached" (defArgs iP) (defBody iP) (defScope iP) (.ref td_r) kV_q9 dc_q9 pm_q9 an_q9 cd_q9 ct_q9),sl_q9⟩)
  (c_q9:PySem.W.codeIn K cd_q9 "reached"=true)
  (k_q9:PySem.W.keepIn K (.ref f_q9)=true)
  (a_q8:PySem.W.nsIn K mainGlobals "orbits_of"=some (some (.ref f_q8)))
  (l_q8:K.lookup f_q8=some ⟨oc_q8,od_q8,.func (PySem.W.fnOf "orbits_of" "orbits_of" (defArgs fU) (defBody fU) (defScope fU) .none kV_q8 dc_q8 pm_q8 an_q8 (.ref cc) ct_q8),sl_q8⟩)
  (c_q8:PySem.W.codeIn K (.ref cc) "orbits_of"=true)
  (k_q8:PySem.W.keepIn K (.ref f_q8)=true)
  (a_q3:PySem.W.nsIn K mainGlobals "_law_is"=some (some (.ref f_q3)))
  (l_q3:K.lookup f_q3=some ⟨oc_q3,od_q3,.func (PySem.W.fnOf "_law_is" "_law_is" (defArgs jZ) (defBody jZ) (defScope jZ) .none kV_q3 dc_q3 pm_q3 an_q3 cd_q3 ct_q3),sl_q3⟩)
  (c_q3:PySem.W.codeIn K cd_q3 "_law_is"=true)
  (k_q3:PySem.W.keepIn K (.ref f_q3)=true)
  (a_q0:PySem.W.nsIn K mainGlobals "law"=some (some (.ref f_q0)))
  (l_q0:K.lookup f_q0=some ⟨oc_q0,od_q0,.func (PySem.W.fnOf "law" "law" (defArgs fT) (defBody fT) (defScope fT) .none kV_q0 dc_q0 pm_q0 an_q0 cd_q0 ct_q0),sl_q0⟩)
  (c_q0:PySem.W.codeIn K cd_q0 "law"=true)
  (k_q0:PySem.W.keepIn K (.ref f_q0)=true)
  (z_bool:PySem.W.nsIn K mainGlobals "bool"=some none)
  (z_dict:PySem.W.nsIn K mainGlobals "dict"=some none)
  (z_int:PySem.W.nsIn K mainGlobals "int"=some none)
  (z_isinstance:PySem.W.nsIn K mainGlobals "isinstance"=some none)
  (z_len:PySem.W.nsIn K mainGlobals "len"=some none)
  (z_list:PySem.W.nsIn K mainGlobals "list"=some none)
  (z_max:PySem.W.nsIn K mainGlobals "max"=some none)
  (z_min:PySem.W.nsIn K mainGlobals "min"=some none)
  (z_range:PySem.W.nsIn K mainGlobals "range"=some none)
  (z_sorted:PySem.W.nsIn K mainGlobals "sorted"=some none)
  (z_zip:PySem.W.nsIn K mainGlobals "zip"=some none)
  (ltr:K.lookup td_r=some ⟨otc,otd,.seq #[Value.none] ont,ots⟩)
  (tin:PySem.W.tabIn K "orbits_of"=some (cc,tb))
  (chh:PySem.W.codeHdIn K cc tb=true)
  (nll:(K.all fun p=>p.2.cls != .type "list")=true) :
  ∃ fd:FuncData,(∀ (s:Shared) (v:Value),BindsTo s fd ⟨[v],[]⟩ [("_law_script",v)])∧∀ base:Heap,K.In base→base.Ns mainGlobals mg→base.BuiltinsAt mg tb→FnOk l.prog w K mg base CX0 4 fa fd ["_law_script"] (spLawT (lamW tb) K):=by
 have e:=hfa.symm.trans (Zf X G a_q0)
 cases e
 have F_q7:=cA (st:=jO) l_q7 c_q7 k_q7
 have F_q1:=cA (st:=jx) l_q1 c_q1 k_q1
 have F_q6:=cA (st:=jv) l_q6 c_q6 k_q6
 have F_q5:=cA (st:=iH) l_q5 c_q5 k_q5
 have F_q4:=cA (st:=iX) l_q4 c_q4 k_q4
 have F_q2:=cA (st:=iT) l_q2 c_q2 k_q2
 have F_q9:=ol (st:=iP) l_q9 c_q9 k_q9 ltr
 have F_q8:=o_ (st:=fU) l_q8 c_q8 k_q8
 have F0_orbits_of:=F_q8.f
 have B_q8:=F0_orbits_of.binds (ps:=["size", "turnings"]) fun _ _ _ _ _ _ us hl=>by obtain⟨v0,v1,rfl⟩:=fG hl;rfl
 have F_q3:=cA (st:=jZ) l_q3 c_q3 k_q3
 have F_q0:=cA (st:=fT) l_q0 c_q0 k_q0
 have T:Txt K mg ⟨0,f_q7,_,f_q1,_,f_q6,_,f_q5,_,f_q4,_,f_q2,_,f_q9,_,f_q8,_,f_q3,_,f_q0,_,tb,cc⟩:={
  fn_q7:=F_q7
  bd_q7:=F_q7.binds fun _ _ _ _ _ _ us hl=>by obtain⟨v0,v1,v2,rfl⟩:=lM hl;rfl
  g_q7:=Zf X G a_q7
  fn_q1:=F_q1
  bd_q1:=F_q1.binds fun _ _ _ _ _ _ us hl=>by obtain⟨v0,v1,rfl⟩:=fG hl;rfl
  g_q1:=Zf X G a_q1
  fn_q6:=F_q6
  bd_q6:=F_q6.binds fun _ _ _ _ _ _ us hl=>by obtain⟨v0,v1,v2,rfl⟩:=lM hl;rfl
  g_q6:=Zf X G a_q6
  fn_q5:=F_q5
  bd_q5:=F_q5.binds fun _ _ _ _ _ _ us hl=>by obtain⟨v0,v1,v2,rfl⟩:=lM hl;rfl
  g_q5:=Zf X G a_q5
  fn_q4:=F_q4
  bd_q4:=F_q4.binds fun _ _ _ _ _ _ us hl=>by obtain⟨v0,v1,rfl⟩:=fG hl;rfl
  g_q4:=Zf X G a_q4
  fn_q2:=F_q2
  bd_q2:=F_q2.binds fun _ _ _ _ _ _ us hl=>by obtain⟨v0,v1,rfl⟩:=fG hl;rfl
  g_q2:=Zf X G a_q2
  fn_q9:=F_q9
  bd_q9:=F_q9.binds fun _ _ _ _ _ _ _ us hl=>by obtain⟨v0,v1,rfl⟩:=fG (Nat.succ.inj hl);exact⟨_,rfl,rfl⟩
  g_q9:=Zf X G a_q9
  fn_q8:=F_q8
  bd_q8:=B_q8
  g_q8:=Zf X G a_q8
  fn_q3:=F_q3
  bd_q3:=F_q3.binds fun _ _ _ _ _ _ us hl=>by obtain⟨v0,v1,rfl⟩:=fG hl;rfl
  g_q3:=Zf X G a_q3
  fn_q0:=F_q0
  bd_q0:=F_q0.binds fun _ _ _ _ _ _ us hl=>by obtain⟨v0,rfl⟩:=p7 hl;rfl
  g_q0:=Zf X G a_q0
  b_bool:=YO X G z_bool
  b_dict:=YO X G z_dict
  b_int:=YO X G z_int
  b_isinstance:=YO X G z_isinstance
  b_len:=YO X G z_len
  b_list:=YO X G z_list
  b_max:=YO X G z_max
  b_min:=YO X G z_min
  b_range:=YO X G z_range
  b_sorted:=YO X G z_sorted
  b_zip:=YO X G z_zip
  ch:=chh }
 exact⟨_,fun s v=>.of_eq rfl,fun base _ _ hB=>(t7 T hB).imp (jG (law_true _))⟩
end My
namespace PySem.W.Fast
theorem tw8600652780404577824:True:=.intro
theorem tw4663076463007323776:True:=.intro
theorem tw10071999655738954113:True:=.intro
theorem tw17847105377856956929:True:=.intro
theorem tw5562798064483524481:True:=.intro
theorem tw18021906196684143714:True:=.intro
theorem tw1997628111130013859:True:=.intro
theorem tw1310010731715278563:True:=.intro
theorem tw9700047068861574915:True:=.intro
theorem tw1071296889269033412:True:=.intro
theorem tw13351598642696308420:True:=.intro
theorem tw7556579351089739813:True:=.intro
theorem tw13144676687754097701:True:=.intro
theorem tw11633468114597067461:True:=.intro
theorem tw8698034229958203878:True:=.intro
theorem tw1143979489428158246:True:=.intro
theorem tw11173138875636037831:True:=.intro
theorem tw3157229575050249128:True:=.intro
theorem tw18000813314793580778:True:=.intro
theorem tw1975448495642978634:True:=.intro
theorem tw5044585735563340330:True:=.intro
theorem tw3408824233337255466:True:=.intro
theorem tw8371152660055128970:True:=.intro
theorem tw10984554814901084299:True:=.intro
theorem tw8838090470333383115:True:=.intro
theorem tw13159859259919403244:True:=.intro
theorem tw720592457727745199:True:=.intro
theorem tw15855422258470542607:True:=.intro
theorem tw14984333356764432079:True:=.intro
theorem tw15067636152083490096:True:=.intro
theorem tw11723204136272299600:True:=.intro
theorem tw18019549447438111761:True:=.intro
theorem tw16991328857432232113:True:=.intro
theorem tw749767389136329778:True:=.intro
theorem tw4195573307702431602:True:=.intro
theorem tw18335067291965598995:True:=.intro
theorem tw11026964656374241235:True:=.intro
theorem tw10648288636281462771:True:=.intro
theorem tw5744379948620758580:True:=.intro
theorem tw2381107918910086037:True:=.intro
theorem tw472860916373091414:True:=.intro
theorem tw9693384308088648246:True:=.intro
theorem tw15702503862731604247:True:=.intro
theorem tw12797013582593338807:True:=.intro
theorem tw8880706156554779127:True:=.intro
theorem tw18325525396561454743:True:=.intro
theorem tw9400551836453353977:True:=.intro
theorem tw4002118695556372891:True:=.intro
theorem tw6549131668358475291:True:=.intro
theorem tw12146699190763971038:True:=.intro
theorem tw10024398203510127294:True:=.intro
theorem tw13860062910270095391:True:=.intro
theorem tw4084607895828962911:True:=.intro
end PySem.W.Fast
open PySem PySem.W PyProof.Rows
set_option maxRecDepth 100000 in
set_option maxHeartbeats 0 in
theorem PySem.Challenge.cw_tieword_k17_orbits_of_holds : PySem.Challenge.rw_tieword_k17_orbits_of.Holds := by
  w_on; refine PySem.W.holds_law (by decide +kernel) fun said=>?_; o_head (PySem.W.kmHook My.KK [3,15,19,20,26,27,33,34,40,41,47,48,52,53,57,58,62,63,69,70,74,75] (fun _=>by kernel_rfl) [22]); (case hw=>w_witness2)
  k_fill
  refine L2.walk_ofT (l:=PySem.Challenge.rw_tieword_k17_orbits_of) (n:=63) (k:=4) (x := "_law_script") (CX:=L2.CX0) (sp:=L2.spLawT (My.lamW 22)) (t:=22) (c0:=26) (lpos:=My.lamQ) rfl (by decide) rfl ⟨rfl,by decide,by decide⟩ (fun w h Y=>⟨PySem.W.km_in_of Y,PySem.W.km_tabs_of Y _ (List.mem_singleton.2 rfl)⟩) ?ch ?kt (by decide) ?F (fun K H a ns hl hO hS=>⟨a,ns,rfl,hS,hl,hO,fun H' q=>⟨rfl,q⟩⟩) fun _ _ _ _ z=>z
  case ch=>intro w; kernel_rfl
  case kt=>intro w; kernel_rfl
  case F=>
    intro w mg fa h KX G hmg
    refine' My.all_mk (tb:=22) (cc:=26) KX G hmg ..
    all_goals (try k_is)
    all_goals kernel_rfl
