import PyProof.Rows.All
import Wide.All
import OpenK.AllK
import Wide.FinOn
import Lean
import PyProof.EqAt
import PyProof.EqKinds
import PyProof.TupleCall
import PyProof.Rows.SetFrom
import PySem.SetOps
import PyProof.CollectWalk
import PyProof.Rows.SortShell
import PyProof.SetRoads
import PyProof.ListRange
import PyProof.EnumFor
import PyProof.EnumMake
import PyProof.ZipIter
import KE.KRevIter
import PyProof.FactsAll.range_iterator_1
import PyProof.StrOps2
import PySem.Challenge.RW_tieword_k06_ranked
set_option Elab.async false
set_option linter.all false
set_option maxRecDepth 100000
set_option compiler.extract_closed false
set_option bootstrap.genMatcherCode false
set_option genSizeOf false
set_option genSizeOfSpec false
namespace L2
def Ya:=@PySem.wpAny_bind
def Yb:=@List.mem_cons_of_mem
def Yc:=@List.mem_cons_self
def Yd:=@PySem.wpAny_pure
def Ye:=@List.getElem?_eq_getElem
def Yf:=@PySem.Heap.get?_push_of_some
def Yg:=@Bool.false_ne_true
def Yh:=@Option.bind_some
def Yi:=@List.getElem?_eq_some_iff
def Yj:=@List.all_eq_true
def Yk:=@List.length_append
def Yl:=@Array.getElem?_eq_getElem
def Ym:=@PyProof.Rows.wpS_bind
def Yn:=@if_pos
def Yo:=@if_neg
def Yp:=@PySem.Heap.lt_size
def Yq:=@Bool.and_eq_true
def Yr:=@PyProof.Rows.wpS_pure
def Ys:=@PySem.Heap.get?_push_size
def Yt:=@List.mem_append_right
def Yu:=@Array.length_toList
def Yv:=@List.append_assoc
def Yw:=@Nat.le_refl
def Yx:=@Option.some.inj
def Yy:=@List.size_toArray
def Yz:=@List.mem_append
def YA:=@List.length_map
def YB:=@List.length_cons
def YC:=@Nat.ne_of_lt
def YD:=@List.mem_singleton
def YE:=@Nat.lt_of_lt_of_le
def YF:=@List.mem_cons
def YG:=@List.mem_of_getElem?
def YH:=@decide_eq_true_eq
def YI:=@List.append_nil
def YJ:=@PySem.Heap.get?_update_ne
def YK:=@List.mem_append_left
def YL:=@List.length_replicate
def YM:=@List.getD_eq_getElem?_getD
def YN:=@List.take_append_drop
def YO:=@List.mem_range
def YQ:=@List.getElem?_append_right
def YR:=@decide_eq_false
def YS:=@Array.getElem?_toList
def YT:=@PySem.Heap.get?_update_self
def YU:=@List.length_take
def YV:=@List.pairwise_cons
def YW:=@List.length_eq_zero_iff
def YX:=@List.getElem?_append_left
def YY:=@PySem.sizeLine_eq
def YZ:=@List.getElem?_map
def Za:=@Nat.zero_le
def Zb:=@PyProof.Rows.wpS_forRange
def Zc:=@Array.getElem?_eq_some_iff
def Zd:=@Nat.add_sub_cancel_left
def Ze:=@List.length_nil
def Zf:=@Nat.lt_succ_of_lt
def Zg:=@List.drop_eq_getElem_cons
def Zh:=@Nat.lt_irrefl
def Zi:=@Nat.le_trans
def Zj:=@Array.getD_eq_getD_getElem?
def Zk:=@List.length_range
def Zl:=@Int.toNat_natCast
def Zm:=@decide_eq_true
def Zn:=@PySem.wpAny_call_entry
def Zo:=@PySem.mem_of_lookup
def Zp:=@Array.mem_of_getElem?
def Zq:=@Bool.false_eq_true
def Zr:=@PySem.codeAny_builtin
def Zs:=@PyProof.Rows.F.plain_set_update_loop
def Zt:=@PySem.Obj.data_mapFields
def Zu:=@PySem.W.mg_none_of
def Zv:=@PySem.Around.under_plainId
def Zw:=@List.getElem?_set_self
def Zx:=@List.pairwise_iff_getElem
def Zy:=@PySem.wpAny_holding
def Zz:=@List.length_singleton
def ZA:=@List.getElem?_eq_none
def ZB:=@Option.isSome_iff_exists
def ZC:=@List.getElem?_set_ne
def ZD:=@List.pairwise_singleton
def ZE:=@Nat.ne_of_gt
def ZF:=@PySem.wpAny_newObj_type
def ZG:=@Option.map_some
def ZH:=@List.length_set
def ZI:=@List.getElem_of_mem
def ZJ:=@PySem.wpAny_mono
def ZK:=@List.length_drop
def ZL:=@List.getElem_mem
def ZM:=@PyProof.Rows.wpS_mono
def ZN:=@List.Perm.append_left
def ZO:=@PySem.hashByValue_scannable
def ZP:=@congrArg
def ZQ:=@List.mem_of_mem_drop
def ZR:=@List.nodup_cons
def ZS:=@List.getElem?_take_of_lt
def ZT:=@List.ext_getElem?
def ZU:=@List.mem_map
def ZV:=@List.getElem?_replicate
def ZW:=@Bool.true_and
def ZX:=@decide_eq_false_iff_not
def ZY:=@List.map_cons
def ZZ:=@PyProof.Rows.F.entry_set_update_loop
def Xa:=@PySem.wpAny_callSpecial?_slot
def Xb:=@PySem.W.mg_of
def Xc:=@PySem.wpAny_forIn_list
def Xd:=@List.perm_middle
def Xe:=@List.drop_zero
def Xf:=@PySem.wpAny_rule
def Xg:=@List.Perm.refl
def Xh:=@PySem.W.cellsFrom_some
def Xi:=@List.drop_eq_nil_of_le
def Xj:=@Array.getElem?_eq_none
def Xk:=@Int.emod_lt_of_pos
def Xl:=@Nat.lt_or_ge
def Xm:=@PySem.wpAny_specialOf
def Xn:=@PySem.Obj.isFreed_of_fields
def Xo:=@PySem.wpAny_ite_split
def Xp:=@PySem.wpAny_truthy_bool
def Xq:=@of_decide_eq_true
def Xr:=@Nat.le_of_lt_succ
def Xs:=@PySem.F.slot_tuple_hash
def Xt:=@List.nodup_iff_pairwise_ne
def Xu:=@List.mem_of_mem_take
def Xv:=@PySem.Heap.size_push
def Xw:=@List.take_zero
def Xx:=@Classical.byContradiction
def Xy:=@PySem.wpAny_setField
def Xz:=@List.mem_reverse
def XA:=@List.take_length
def XB:=@PySem.wpAny_isInstance
def XC:=@List.length_pos_iff
def XD:=@List.getElem?_range
def XE:=@Nat.le_of_lt
def XF:=@Nat.zero_add
def XG:=@Nat.succ_pos
def XH:=@List.filterMap_cons_some
def XI:=@PySem.wpAny_passesOwn
def XJ:=@PySem.F.plainAttrs_list
def XL:=@List.getElem?_drop
def XM:=@Nat.add_sub_cancel
def XN:=@Nat.not_lt_zero
def XO:=@List.map_append
def XQ:=@Array.forIn_toList
def XR:=@Int.emod_nonneg
def XS:=@List.getElem?_cons_succ
def XT:=@PySem.SeqAt.eqAt_reads
def XU:=@List.take_of_length_le
def XV:=@PySem.Value.isInt_shape
def XW:=@List.take_add_one
def XX:=@PyProof.Rows.wpS_modify
def XY:=@PySem.Heap.get?_push_ne
def XZ:=@Nat.le_succ
def Va:=@PySem.eqIsQuiet_byValue
def Vb:=@PySem.wpAny_setState_of
def Vc:=@PySem.wpAny_storeSet_of
def Vd:=@List.eraseIdx_eq_take_drop_succ
def Ve:=@PySem.wpAny_pyIter_slot
def Vf:=@PySem.wpAny_seqItems
def Vg:=@List.perm_append_comm
def Vh:=@Nat.lt_succ_self
def Vi:=@List.drop_length
def Vj:=@PySem.Heap.size_update
def Vk:=@List.mem_iff_getElem
def Vl:=@Array.getElem_of_mem
def Vm:=@if_false
def Vn:=@PySem.wpAny_attempt
def Vo:=@PySem.plainId_quiet
def Vp:=@Nat.mod_lt
def Vq:=@List.filterMap_cons
def Vr:=@PySem.pushCells_keeps
def Vs:=@List.nil_append
def Vt:=@List.foldl_cons
def Vu:=@PySem.F.slot_set_iter
def Vv:=@PySem.wpAny_updateSeq
def Vw:=@List.mem_filterMap
def Vx:=@List.zip_cons_cons
def Vy:=@PySem.wpAny_typeOf
def Vz:=@Ne.symm
def VA:=@Array.toList_push
def VB:=@List.pairwise_map
def VC:=@Nat.lt_trichotomy
def VD:=@List.all_cons
def VE:=@if_true
end L2
namespace L2
open PySem PySem.Spec PyProof.Rows
abbrev Kq:=PySem.W.Frag
abbrev Kv:=Value→Shared→Prop
abbrev Kp:=List (Addr×Obj)
abbrev Ks:=Str→Option Value
abbrev Ka:=Array (Int×Value)
abbrev Kb:=Bool→Shared→Prop
abbrev Ko:=Option Value→Shared→Prop
abbrev Kl:=List Value→Shared→Prop
abbrev Kr:=Result→Shared→Prop
abbrev Key:=Sum Int Str
def pC:Key→Value→Bool
 | .inl k,v=>Value.isInt k v
 | .inr x,v=>Value.isStrOf x v
def tP (w:World):Key→Int
 | .inl k=>hashInt k
 | .inr x=>hashStr w x
theorem aA:∀ {k:Key} {v:Value},pC k v=true→(∃ i t,k=Sum.inl i∧v=Value.int i t)∨(∃ x t,k=Sum.inr x∧v=Value.str x t)
 | .inl i,v,h=>by
  obtain⟨t,e⟩:=XV (k:=i) (v:=v) h
  exact .inl ⟨i,t,rfl,e⟩
 | .inr x,v,h=>by
  obtain⟨t,e⟩:=Value.isStrOf_shape (x:=x) (v:=v) h
  exact .inr ⟨x,t,rfl,e⟩
theorem qC (a b:Int):decide ((Sum.inl a:Key)=Sum.inl b)=(a == b):=by
 by_cases e:a=b
 ·subst e;simp
 ·have h:¬ (Sum.inl a:Key)=Sum.inl b:=fun q=>e (Sum.inl.inj q)
  rw[YR h]
  exact (beq_eq_false_iff_ne.mpr e).symm
theorem pZ (a b:Str):decide ((Sum.inr a:Key)=Sum.inr b)=decide (a=b):=by
 by_cases e:a=b
 ·subst e;simp
 ·have h:¬ (Sum.inr a:Key)=Sum.inr b:=fun q=>e (Sum.inr.inj q)
  rw[YR h,YR e]
theorem qo (a:Int)(b:Str):decide ((Sum.inl a:Key)=Sum.inr b)=false:=YR (fun q=>nomatch q)
theorem qL (a:Str)(b:Int):decide ((Sum.inr a:Key)=Sum.inl b)=false:=YR (fun q=>nomatch q)
def jO (prog:Program)(w:World):PySem.KeyKind prog w Key where
 is:=pC
 hash:=tP w
 inj:=fun v a b ha hb=>by
  rcases aA ha with⟨i,t,rfl,rfl⟩ | ⟨x,t,rfl,rfl⟩
  ·rcases aA hb with⟨j,u,rfl,e⟩ | ⟨y,u,rfl,e⟩
   ·injection e with e1 _;rw[e1]
   ·exact nomatch e
  ·rcases aA hb with⟨j,u,rfl,e⟩ | ⟨y,u,rfl,e⟩
   ·exact nomatch e
   ·injection e with e1 _;rw[e1]
 byValue:=fun k v h=>by
  rcases aA h with⟨i,t,rfl,rfl⟩ | ⟨x,t,rfl,rfl⟩ <;> rfl
 pyHash:=fun hv h=>by
  rcases aA hv with⟨i,t,rfl,rfl⟩ | ⟨x,t,rfl,rfl⟩
  ·exact wpAny_pyHash_int h
  ·exact wpAny_pyHash_str h
 eqBool:=fun hu hv h=>by
  rcases aA hu with⟨i,t,rfl,rfl⟩ | ⟨x,t,rfl,rfl⟩
  ·rcases aA hv with⟨j,u,rfl,rfl⟩ | ⟨y,u,rfl,rfl⟩
   ·rw[qC] at h;exact wpAny_eqBool_int h
   ·rw[qo] at h;exact SeqAt.EqAt.int_str i t y u _ _ _ _ h
  ·rcases aA hv with⟨j,u,rfl,rfl⟩ | ⟨y,u,rfl,rfl⟩
   ·rw[qL] at h;exact SeqAt.EqAt.str_int x t j u _ _ _ _ h
   ·rw[pZ] at h;exact wpAny_eqBool_str h
 «strs»:=fun k x t v h=>by
  rcases aA h with⟨i,u,rfl,e⟩ | ⟨y,u,rfl,e⟩
  ·exact nomatch e
  ·injection e with e1 _
   subst e1
   cases v <;> rfl
inductive V where
 | non | bl (b:Bool) | int (i:Int) | str (x:Str) | byt (b:Array UInt8) | flt (b:UInt64) | ref (a:Addr) | ty (n:String)
def RelV:V→Value→Prop
 | .non,u=>u=Value.none
 | .bl b,u=>u=Value.bool b
 | .int i,u=>∃ t,u=Value.int i t
 | .str x,u=>∃ t,u=Value.str x t
 | .byt b,u=>∃ t,u=Value.bytes b t
 | .flt b,u=>∃ t,u=Value.float b t
 | .ref a,u=>u=Value.ref a
 | .ty n,u=>u=Value.type n
abbrev Vals:List V→List Value→Prop:=Paired RelV
theorem Vals.length {xs:List V}{us:List Value}(r:Vals xs us):xs.length=us.length:=Paired.length r
theorem Vals.get:∀ {xs:List V} {us:List Value} {i:Nat} {x:V},Vals xs us→xs[i]?=some x→∃ u,us[i]?=some u∧RelV x u
 | _,_,_,_,.nil,e=>by simp at e
 | _,_,0,_,.cons r _,e=>by simp at e;subst e;exact⟨_,rfl,r⟩
 | _,_,i+1,x,.cons _ t,e=>by
  obtain⟨u,h1,h2⟩:=Vals.get (i:=i) (x:=x) t (by simpa using e)
  exact⟨u,by simpa using h1,h2⟩
theorem Vals.append {xs ys:List V}{us ws:List Value}(h:Vals xs us)(s:Vals ys ws):Vals (xs++ys) (us++ws):=by
 induction h with
 | nil=>exact s
 | cons r _ ih=>exact .cons r ih
theorem Vals.take:∀ {xs:List V} {us:List Value} (n:Nat),Vals xs us→Vals (xs.take n) (us.take n)
 | _,_,0,_=>.nil
 | _,_,_+1,.nil=>.nil
 | _,_,n+1,.cons r t=>.cons r (Vals.take n t)
theorem Vals.drop:∀ {xs:List V} {us:List Value} (n:Nat),Vals xs us→Vals (xs.drop n) (us.drop n)
 | _,_,0,r=>r
 | _,_,_+1,.nil=>.nil
 | _,_,n+1,.cons _ t=>Vals.drop n t
def rE:Option V→Option Value→Prop
 | some v,some u=>RelV v u
 | none,none=>True
 | _,_=>False
def KV {κ:Type}:List (κ×V)→List (κ×Value)→Prop:=Paired fun (p:κ×V) (q:κ×Value)=>p.1=q.1∧RelV p.2 q.2
def kV:Key→V
 | .inl i=>.int i
 | .inr x=>.str x
inductive HO where
 /-- a list -/
 | lst (xs:List V)
 /-- a tuple (never changes) -/
 | tup (xs:List V)
 /-- a dict whose keys are ints and texts;one whose keys are tuples of ints and texts (the empty one is both) -/
 | dK (kvs:List (Key×V)) | dT (kvs:List (List Key×V))
 /-- a set of ints: its members,its size -/
 | set (S:Int→Bool) (n:Nat)
 /-- an instance of the class at C,its dict at dx,its attributes -/
 | ins (C dx:Addr) (fs:List (Str×V))
 /-- the dict of the instance at x -/
 | own (x:Addr)
 /-- the dict of an exception -/
 | xd (fs:List (Str×V))
 /-- a bound method,f of x -/
 | met (f x:Addr)
 /-- a range object lo,lo+1,.. below hi -/
 | rng (lo hi:Int)
 /-- a thing that is known to the object (the script;a dict while a loop walks it): read,never written while it is so -/
 | frz (o:Obj) (u:HO)
 /-- a code object's table -/
 | tbl (ps:Array Value)
 /-- any other thing,by what is true of its one object (a def of one's own: SetO a S n:=HO.ext fun h=>..) -/
 | ext (φ:Heap→Prop)
abbrev Hp:=Addr→Option HO
def upd (H:Hp)(a:Addr)(o:HO):Hp:=fun b=>if b=a then some o else H b
theorem aD {H:Hp}{a:Addr}{o:HO}:upd H a o a=some o:=by unfold upd;rw[Yn rfl]
theorem ak {H:Hp}{a b:Addr}{o:HO}(h:b≠a):upd H a o b=H b:=by unfold upd;rw[Yo h]
theorem aE {H:Hp}{a b:Addr}{o:HO}(h:H a=some o)(h':H b=none):a≠b:=by
 intro e;subst e;rw[h] at h';cases h'
def NoD (h:Heap)(a:Addr):Prop:=∃ o,h.get? a=some o∧o.dict=none
theorem NoD.new (h:Heap)(items:Array Value):NoD (h.push { cls:=.type "tuple",data:=.seq items }) h.objs.size:=⟨_,Ys _ rfl,rfl⟩
section
variable (P:Program) (w:World)
def ObjOk (H:Hp)(h:Heap)(a:Addr):HO→Prop
 | .lst xs=>xs.length≤sizeLine∧∃ (its:List Value) (n:Nat),Vals xs its∧h.get? a=some { cls:=.type "list",data:=.seq its.toArray n }
 | .tup xs=>xs.length≤sizeLine∧∃ its:List Value,Vals xs its∧IsTup h a its.toArray∧NoD h a
 | .dK kvs=>kvs.length≤sizeLine∧(a == sysModules)=false∧∃ vs,KV kvs vs∧h.DictOf (jO P w) a vs
 | .dT kvs=>kvs.length≤sizeLine∧(a == sysModules)=false∧∃ xs:List (List Key×Addr×Value),
   Paired (fun (p:List Key×V) (q:List Key×Addr×Value)=>p.1=q.1∧H q.2.1=some (.tup (p.1.map kV))∧RelV p.2 q.2.2) kvs xs ∧
   ∃ o es ep,h.get? a=some o∧o.ExactDict∧o.data=.dict es ep∧es.toList=xs.map (entryOfKey (tupleKind (jO P w)))∧(xs.map (·.1)).Nodup
 | .set S n=>h.SetOf (intKind P w) a S n
 | .ins C dx fs=>H dx=some (.own a)∧fs.length≤1000∧dx≠a∧h.get? a=some (PySem.W.instObj C dx) ∧
   ∃ mA,h.Ns1 dx mA∧(∀ f,rE (fs.lookup f) (mA f))∧PySem.Within mA (fs.map (·.1))
 | .own _=>∃ o,h.get? a=some o
 | .xd fs=>∃ mA,h.Ns1 a mA∧∀ f,rE (fs.lookup f) (mA f)
 | .rng lo hi=>∃ t u v,h.get? a=some { cls:=.type "range",data:=.fields #[.int lo t,.int hi u,.int 1 v] }
 | .frz o u=>h.get? a=some o∧ObjOk H h a u
 | .tbl ps=>h.get? a=some { cls:=.none,data:=.fields ps }
 | .met f x=>h.get? a=some (PySem.W.methodObj (.ref f) (.ref x))
 | .ext φ=>φ h∧(∃ o,h.get? a=some o)∧∀ h1 h2:Heap,φ h1→(∀ o,h1.get? a=some o→h2.get? a=some o)→φ h2
def HOk (H:Hp)(h:Heap):Prop:=∀ a o,H a=some o→ObjOk P w H h a o
end
section
variable {P:Program} {w:World} {H H':Hp} {h h':Heap} {a:Addr} {o:HO}
theorem ObjOk.lt (x:ObjOk P w H h a o):a<h.objs.size:=by
 cases o with
 | lst xs=>obtain⟨_,_,_,_,e⟩:=x;exact Yp e
 | tup xs=>obtain⟨_,_,_,p,_⟩:=x;exact p.lt
 | dK kvs=>obtain⟨_,_,_,_,o,_,_,e,_⟩:=x;exact Yp e
 | dT kvs=>obtain⟨_,_,_,_,o,_,_,e,_⟩:=x;exact Yp e
 | set S n=>obtain⟨o,_,_,_,e,_⟩:=x;exact Yp e
 | ins C dx fs=>obtain⟨_,_,_,e,_⟩:=x;exact Yp e
 | own y=>obtain⟨_,e⟩:=x;exact Yp e
 | xd fs=>obtain⟨_,⟨_,_,_,e,_⟩,_⟩:=x;exact Yp e
 | rng lo hi=>obtain⟨_,_,_,e⟩:=x;exact Yp e
 | frz ob u=>obtain⟨e,_⟩:=x;exact Yp e
 | tbl ps=>exact Yp (show h.get? a=some _ from x)
 | met f y=>exact Yp (show h.get? a=some _ from x)
 | ext φ=>obtain⟨_,⟨_,e⟩,_⟩:=x;exact Yp e
theorem Paired.mapP {α β:Type}{F G:α→β→Prop}{l₁:List α}{l₂:List β}(h:Paired F l₁ l₂)(f:∀ a b,F a b→G a b):Paired G l₁ l₂:=by
 induction h with
 | nil=>exact .nil
 | cons r _ ih=>exact .cons (f _ _ r) ih
theorem ObjOk.stay (x:ObjOk P w H h a o)(k:∀ b u,(b=a∨H b=some (.own a))→h.get? b=some u→h'.get? b=some u)
  (ho:∀ b,H b=some (.own a)→H' b=some (.own a)) (ht:∀ b xs,H b=some (.tup xs)→H' b=some (.tup xs)):ObjOk P w H' h' a o:=by
 induction o with
 | lst xs=>obtain⟨z,its,n,r,e⟩:=x;exact⟨z,its,n,r,k _ _ (.inl rfl) e⟩
 | tup xs=>obtain⟨z,its,r,⟨ob,e,c⟩,ob2,e2,c2⟩:=x;exact⟨z,its,r,⟨ob,k _ _ (.inl rfl) e,c⟩,ob2,k _ _ (.inl rfl) e2,c2⟩
 | dK kvs=>obtain⟨z,y,vs,r,ob,es,ep,e,c⟩:=x;exact⟨z,y,vs,r,ob,es,ep,k _ _ (.inl rfl) e,c⟩
 | dT kvs=>
  obtain⟨z,y,xs,r,ob,es,ep,e,c⟩:=x
  exact⟨z,y,xs,Paired.mapP r fun p q z=>⟨z.1,ht _ _ z.2.1,z.2.2⟩,ob,es,ep,k _ _ (.inl rfl) e,c⟩
 | set S n=>obtain⟨ob,es,ep,t,e,c⟩:=x;exact⟨ob,es,ep,t,k _ _ (.inl rfl) e,c⟩
 | ins C dx fs=>
  obtain⟨d,z,ne,e,mA,⟨od,es,ep,e2,c⟩,r⟩:=x
  exact⟨ho _ d,z,ne,k _ _ (.inl rfl) e,mA,⟨od,es,ep,k _ _ (.inr d) e2,c⟩,r⟩
 | own y=>obtain⟨ob,e⟩:=x;exact⟨ob,k _ _ (.inl rfl) e⟩
 | xd fs=>obtain⟨mA,⟨od,es,ep,e,c⟩,r⟩:=x;exact⟨mA,⟨od,es,ep,k _ _ (.inl rfl) e,c⟩,r⟩
 | rng lo hi=>obtain⟨t,u,v,e⟩:=x;exact⟨t,u,v,k _ _ (.inl rfl) e⟩
 | frz ob u ih=>obtain⟨e,q⟩:=x;exact⟨k _ _ (.inl rfl) e,ih q⟩
 | tbl ps=>
  have e:h.get? a=some { cls:=.none,data:=.fields ps }:=x
  show h'.get? a=some { cls:=.none,data:=.fields ps }
  exact k a _ (.inl rfl) e
 | met f y=>
  have e:h.get? a=some (PySem.W.methodObj (.ref f) (.ref y)):=x
  show h'.get? a=some (PySem.W.methodObj (.ref f) (.ref y))
  exact k a _ (.inl rfl) e
 | ext φ=>obtain⟨p,⟨o,e⟩,st⟩:=x;exact⟨st _ _ p fun o q=>k _ _ (.inl rfl) q,⟨o,k _ _ (.inl rfl) e⟩,st⟩
theorem HOk.lt (x:HOk P w H h)(e:H a=some o):a<h.objs.size:=(x a o e).lt
theorem HOk.fresh (x:HOk P w H h)(e:h.objs.size≤a):H a=none:=by
 cases q:H a with
 | none=>rfl
 | some u=>exact absurd (YE (x.lt q) e) (Zh _)
theorem HOk.kept (x:HOk P w H h)(k:∀ b u,h.get? b=some u→h'.get? b=some u):HOk P w H h':=fun a o e=>
 (x a o e).stay (fun b u _ q=>k b u q) (fun _ q=>q) fun _ _ q=>q
theorem HOk.laid (x:HOk P w H h)(k:∀ b u,h.get? b=some u→h'.get? b=some u)(hp:h.objs.size≤a)(new:ObjOk P w (upd H a o) h' a o):HOk P w (upd H a o) h':=fun b u e=>by
 have hn:=x.fresh hp
 by_cases hb:b=a
 ·subst hb;rw[aD] at e;cases e;exact new
 ·rw[ak hb] at e
  exact (x b u e).stay (fun c v _ q=>k c v q) (fun c q=>by rw[ak (aE q hn)];exact q) fun c xs q=>by rw[ak (aE q hn)];exact q
end
def Rd (H:Hp)(a:Addr)(u:HO):Prop:=H a=some u∨∃ o,H a=some (.frz o u)
theorem Rd.ok {P:Program}{w:World}{H:Hp}{h:Heap}{a:Addr}{u:HO}(r:Rd H a u)(x:HOk P w H h):ObjOk P w H h a u:=by
 rcases r with r | ⟨o,r⟩
 ·exact x a u r
 ·obtain⟨_,q⟩:=x a _ r
  exact q
def Mut:Option HO→Prop
 | some (.lst _)=>True
 | some (.dK _)=>True
 | some (.dT _)=>True
 | some (.set _ _)=>True
 | some (.ins _ _ _)=>True
 | some (.ext _)=>True
 | _=>False
section
variable {P:Program} {w:World} {H:Hp} {h h':Heap} {x e:Addr} {o':HO}
theorem HOk.write (ok:HOk P w H h)(mu:Mut (H x))(he:e=x∨H e=some (.own x))(k:∀ b u,b≠e→h.get? b=some u→h'.get? b=some u)(heo:∃ u,h'.get? e=some u)
  (new:ObjOk P w (upd H x o') h' x o'):HOk P w (upd H x o') h':=fun b u q=>by
 have nown:∀ c y,H c=some (.own y)→c≠x:=fun c y r z=>by subst z;rw[r] at mu;exact mu
 have ntup:∀ c xs,H c=some (.tup xs)→c≠x:=fun c xs r z=>by subst z;rw[r] at mu;exact mu
 by_cases hb:b=x
 ·subst hb;rw[aD] at q;cases q;exact new
 ·rw[ak hb] at q
  by_cases hbe:b=e
  ·have q':H b=some (.own x):=by
    rcases he with z | z
    ·exact absurd (hbe.trans z) hb
    ·rw[hbe];exact z
   rw[q] at q';cases q'
   obtain⟨v,hv⟩:=heo
   exact⟨v,by rw[hbe];exact hv⟩
  ·refine (ok b u q).stay (fun c v hc r=>k c v ?_ r) (fun c r=>by rw[ak (nown c b r)];exact r) fun c xs r=>by rw[ak (ntup c xs r)];exact r
   rcases hc with rfl | hc
   ·exact hbe
   ·rintro rfl
    rcases he with z | z
    ·exact nown c b hc z
    ·rw[hc] at z;cases z;exact hb rfl
end
structure Un (fs ex:List Addr) (H H':Hp) (h h':Heap):Prop where
 keep:∀ b o,h.get? b=some o→H b=none→b∉fs→b∉ex→h'.get? b=some o
 slot:∀ b o,h.get? b=some o→H b=none→b∈fs→b∉ex→∃ sl,h'.get? b=some { o with slots:=sl }
 free:∀ b o,h.get? b=some o→H b=none→b∉ex→H' b=none
 there:∀ b o,h.get? b=some o→b∉ex→∃ o',h'.get? b=some o'
 tups:∀ b xs,H b=some (.tup xs)→H' b=some (.tup xs)
 frzs:∀ b o u,H b=some (.frz o u)→H' b=some (.frz o u)
 tbls:∀ b ps,H b=some (.tbl ps)→∃ more,H' b=some (.tbl (ps++more))
section
variable {fs fs' ex ex':List Addr} {H H1 H2:Hp} {h h1 h2 h':Heap} {a x e:Addr} {o:HO}
theorem Un.any (u:Un fs ex H H1 h h1){b:Addr}{ob:Obj}(q:h.get? b=some ob)(n:H b=none)(hx:b∉ex):∃ sl,h1.get? b=some { ob with slots:=sl }:=by
 by_cases hb:b∈fs
 ·exact u.slot b ob q n hb hx
 ·exact⟨ob.slots,u.keep b ob q n hb hx⟩
theorem Un.kept (k:∀ b u,h.get? b=some u→h'.get? b=some u):Un fs ex H H h h':=
 ⟨fun b ob q _ _ _=>k b ob q,fun b ob q _ _ _=>⟨ob.slots,k b ob q⟩,fun _ _ _ n _=>n,fun b ob q _=>⟨ob,k b ob q⟩,fun _ _ q=>q,fun _ _ _ q=>q,fun _ ps q=>⟨#[],by rw[q];simp⟩⟩
theorem Un.refl:Un fs ex H H h h:=Un.kept fun _ _ q=>q
theorem Un.laid (k:∀ b u,h.get? b=some u→h'.get? b=some u)(hp:h.objs.size≤a)(hn:H a=none):Un fs ex H (upd H a o) h h' where
 keep:=fun b u q _ _ _=>k b u q
 slot:=fun b u q _ _ _=>⟨u.slots,k b u q⟩
 free:=fun b u q n _=>by rw[ak (YC (YE (Yp q) hp))];exact n
 there:=fun b u q _=>⟨u,k b u q⟩
 tups:=fun b xs q=>by rw[ak (aE q hn)];exact q
 frzs:=fun b u xs q=>by rw[ak (aE q hn)];exact q
 tbls:=fun b ps q=>⟨#[],by rw[ak (aE q hn),q];simp⟩
theorem Un.write (mu:Mut (H x))(he:e=x∨H e=some (.own x))(k:∀ b u,b≠e→h.get? b=some u→h'.get? b=some u)(heo:∃ u,h'.get? e=some u):Un fs ex H (upd H x o) h h':=by
 have hx:∀ b,H b=none→b≠x:=fun b n z=>by subst z;rw[n] at mu;exact mu
 have hb:∀ b,H b=none→b≠e:=fun b n z=>by
  subst z
  rcases he with r | r
  ·exact hx b n r
  ·rw[n] at r;cases r
 have hm:∀ b u,H b=some u→¬ Mut (some u)→b≠x:=fun b u q nm z=>by subst z;rw[q] at mu;exact nm mu
 refine⟨fun b u q n _ _=>k b u (hb b n) q,fun b u q n _ _=>⟨u.slots,k b u (hb b n) q⟩,fun b u q n _=>by rw[ak (hx b n)];exact n,fun b u q _=>?_,
  fun b xs q=>by rw[ak (hm b _ q fun z=>z)];exact q,fun b u xs q=>by rw[ak (hm b _ q fun z=>z)];exact q,fun b ps q=>⟨#[],by rw[ak (hm b _ q fun z=>z),q];simp⟩⟩
 by_cases hbe:b=e
 ·subst hbe;exact heo
 ·exact⟨u,k b u hbe q⟩
end
def trk (h:Heap)(H:Hp):List Addr:=(List.range h.objs.size).filter fun a=>(H a).isSome
def gI (h:Heap)(H:Hp):Heap:=PySem.W.hideAll h (trk h H)
theorem kH (h:Heap)(H:Hp):(gI h H).objs.size=h.objs.size:=PySem.W.hideAll_size _ _
theorem lN {h:Heap}{H:Hp}{b:Addr}{o:Obj}(e:h.get? b=some o)(n:H b=none):(gI h H).get? b=some o:=
 PySem.W.hideAll_get _ e fun hm=>by
  have q:(H b).isSome=true:=(List.mem_filter.mp hm).2
  rw[n] at q;simp at q
theorem oE {h:Heap}{H:Hp}{b:Addr}{o:Obj}(e:(gI h H).get? b=some o):h.get? b=some o∧H b=none:=by
 have e':h.get? b=some o:=PySem.W.of_hideAll (trk h H) e
 refine⟨e',?_⟩
 cases q:H b with
 | none=>rfl
 | some x=>
  have hm:b∈trk h H:=List.mem_filter.mpr ⟨YO.mpr (Yp e'),by simp[q]⟩
  have z:(gI h H).get? b=none:=PySem.W.hideAll_none (trk h H) hm
  rw[z] at e;cases e
def oG (g h:Heap)(L:Addr):List (Addr×Obj):=(List.range h.objs.size).filterMap fun a=>if a=L∨(g.get? a).isSome=true then none else (h.get? a).map fun o=>(a,o)
def aG (g h:Heap)(L d:Addr):List (Addr×Obj):=(oG g h L).filter fun p=>decide (p.1≠d)
structure Mod (K:PySem.W.Frag) (mg:Str→Option Value) (base:Heap):Prop where
 kin:K.In base
 glob:base.Ns mainGlobals mg
 blt:∃ mb,base.Ns builtinsNs mb∧∀ x:Str,x ≠ "__name__"→mb x=bootBuiltins x
 nolimit:base.NoLimit
structure Cx where
 prog:Program
 w:World
 K:PySem.W.Frag
 mg:Str→Option Value
 base:Heap
 A:Around
 N:List Str
 s₀:Shared
 H₀:Hp
 env:Env
 outer:List Env
 stack:List Env
 ex:List Addr
 fn:Str→Bool
 calm:Bool
 pn:List (Addr×Obj)
 xe:Value→Shared→Prop
def frs (l:List Env):List Addr:=l.filterMap (·.frame)
abbrev Cx.fs (X:Cx):List Addr:=frs X.outer
def Vis (sc:Scope)(x:Str):Prop:=sc.names.lookup x=some .local∨sc.names.lookup x=some .cell∨sc.names.lookup x=some .free
def Loc (sc:Scope)(x:Str):Prop:=sc.names.lookup x=some .local∨sc.names.lookup x=some .cell
def tW (env:Env)(h:Heap)(m:Ks)(x:Str)(u:Value):Prop:=
 (env.kindOf x=some .local∧m x=some u)∨((env.kindOf x=some .cell∨env.kindOf x=some .free)∧∃ c,env.cells.lookup x=some c∧h.IsCell c (some u))
structure Cx.Ok (X:Cx):Prop where
 mod:Mod X.K X.mg X.base
 kind:X.env.scope.kind=.function
 glob:X.env.globals=mainGlobals
 blt:X.env.builtins=builtinsNs
 above:X.s₀.heap.objs.size≤X.env.locals
 inj:∀ x y c,X.env.cells.lookup x=some c→X.env.cells.lookup y=some c→x=y
 has:∀ x,(X.env.kindOf x=some .cell∨X.env.kindOf x=some .free)→∃ c,X.env.cells.lookup x=some c
 cab:∀ x c,X.fn x=true→X.env.cells.lookup x=some c→X.s₀.heap.objs.size≤c
 hd:X.calm=true→X.A.handled=none
 frames:X.A.frames=some X.stack
 stk:X.stack=X.outer∨(X.stack=X.env::X.outer∧X.env.frame=some X.env.locals)
 exf:∀ b∈X.ex,b≠X.env.locals∧∀ x c,X.env.cells.lookup x=some c→c≠b
 bs:∀ b o,X.base.get? b=some o→X.s₀.heap.get? b=some o∧X.H₀ b=none
 bsz:X.base.objs.size≤X.s₀.heap.objs.size
 noex:∀ b o,X.base.get? b=some o→b∉X.ex
 exfs:∀ b∈X.ex,b∉X.fs
 funs:X.s₀.heap.FunFrames X.base X.outer
 frf:∀ b∈X.fs,X.H₀ b=none
structure Inv (X:Cx) (pz:List (Addr×Obj)) (σ:List (Option V)) (H:Hp) (s:Shared):Prop where
 ok:X.Ok
 os:s.os=X.s₀.os
 bare:AllBare s.gens
 base:Un X.fs X.ex X.H₀ H X.s₀.heap s.heap
 loc:∃ m,s.heap.Ns X.env.locals m∧∀ (i:Nat) (x:Str) (v:V),X.N[i]?=some x→σ[i]?=some (some v)→Vis X.env.scope x→∃ u,RelV v u∧tW X.env s.heap m x u
 cell:∀ x c,X.env.cells.lookup x=some c→∃ v,s.heap.IsCell c v
 free:H X.env.locals=none
 freeC:∀ x c,X.env.cells.lookup x=some c→H c=none
 pin:∀ p∈X.pn++pz,s.heap.get? p.1=some p.2∧H p.1=none∧p.1≠X.env.locals∧p.1∉X.fs∧∀ v,p.2.data≠.cell v
 hok:HOk X.prog X.w H s.heap
 len:σ.length=X.N.length
section
variable {X:Cx} {pz:Kp} {σ:List (Option V)} {H H':Hp} {s:Shared} {h':Heap}
theorem Cx.Ok.nofr (ok:X.Ok){b:Addr}{o:Obj}(e:X.base.get? b=some o):b∉X.fs:=fun hb=>by
 have:=(ok.funs.mem hb).1
 rw[e] at this;cases this
theorem Inv.bs (I:Inv X pz σ H s):∀ b o,X.base.get? b=some o→s.heap.get? b=some o∧H b=none:=fun b o e=>
 ⟨I.base.keep b o (I.ok.bs b o e).1 (I.ok.bs b o e).2 (I.ok.nofr e) (I.ok.noex b o e),I.base.free b o (I.ok.bs b o e).1 (I.ok.bs b o e).2 (I.ok.noex b o e)⟩
theorem Inv.bk (I:Inv X pz σ H s):∀ b o,X.base.get? b=some o→s.heap.get? b=some o:=fun b o e=>(I.bs b o e).1
theorem Inv.mod (I:Inv X pz σ H s):Mod X.K X.mg X.base:=I.ok.mod
theorem Inv.kIn (I:Inv X pz σ H s):X.K.In s.heap:=I.ok.mod.kin.keeps I.bk
theorem Inv.lt (I:Inv X pz σ H s):X.env.locals<s.heap.objs.size:=let ⟨_,hn,_⟩:=I.loc;hn.lt
theorem Inv.sz (I:Inv X pz σ H s):X.s₀.heap.objs.size≤s.heap.objs.size:=Zi I.ok.above (XE I.lt)
theorem Inv.nofs (I:Inv X pz σ H s){a:Addr}(h:s.heap.objs.size≤a):a∉X.fs:=fun hb=>by
 obtain⟨_,o,ho,_⟩:=I.ok.funs.mem hb
 exact absurd (YE (Yp ho) (Zi I.sz h)) (Zh _)
theorem Inv.cne (I:Inv X pz σ H s):∀ x c,X.env.cells.lookup x=some c→c≠X.env.locals:=fun x c e z=>by
 obtain⟨v,o,ho,hd⟩:=I.cell x c e
 obtain⟨m,⟨o',es,ep,ho',hd',_⟩,_⟩:=I.loc
 rw[z,ho'] at ho;cases ho;rw[hd'] at hd;cases hd
theorem Inv.funs (I:Inv X pz σ H s):s.heap.FunFrames X.base X.outer:=by
 have all:∀ (l:List Env),(∀ b∈frs l,b∈X.fs)→X.s₀.heap.FunFrames X.base l→s.heap.FunFrames X.base l:=by
  intro l
  induction l with
  | nil=>intro _ _;trivial
  | cons env r ih=>
   intro hs hl
   obtain⟨hk,⟨L,o,hf,hn,ho,hd⟩,hr⟩:=hl
   have hL:L∈X.fs:=hs L (by unfold frs;rw[Vq,hf];exact Yc)
   obtain⟨sl,e⟩:=I.base.slot L o ho (I.ok.frf L hL) hL fun z=>I.ok.exfs L z hL
   exact⟨hk,⟨L,_,hf,hn,e,hd⟩,ih (fun b hb=>hs b (by unfold frs;rw[Vq,hf];exact Yb _ hb)) hr⟩
 exact all X.outer (fun _ hb=>hb) I.ok.funs
theorem Inv.stack (I:Inv X pz σ H s):s.heap.FunFrames X.base X.stack:=by
 rcases I.ok.stk with e | ⟨e,hf⟩
 ·rw[e];exact I.funs
 ·rw[e]
  obtain⟨m,hn,_⟩:=I.loc
  refine .cons (by rw[I.ok.kind];decide) hf hn ?_ I.funs
  exact Heap.get?_none_of_le (Zi I.ok.bsz I.ok.above)
theorem Inv.stkSub (I:Inv X pz σ H s):∀ b∈frs X.stack,b∈X.env.locals::X.fs:=fun b hb=>by
 rcases I.ok.stk with e | ⟨e,hf⟩
 ·rw[e] at hb;exact Yb _ hb
 ·rw[e] at hb
  unfold frs at hb
  rw[Vq,hf] at hb
  exact hb
theorem Inv.stkFree (I:Inv X pz σ H s):∀ b∈frs X.stack,H b=none:=fun b hb=>by
 rcases YF.mp (I.stkSub b hb) with e | hb
 ·rw[e];exact I.free
 ·obtain⟨_,o,ho,_⟩:=I.ok.funs.mem hb
  exact I.base.free b o ho (I.ok.frf b hb) fun z=>I.ok.exfs b z hb
theorem Inv.step {g':Array GenState}{t':Nat}{d':Drawn}{ch:List Addr}(I:Inv X pz σ H s)
  (hch:∀ b∈ch,(b∈X.ex∨X.s₀.heap.objs.size≤b)∧b≠X.env.locals∧(∀ x c,X.env.cells.lookup x=some c→c≠b)∧∀ p∈X.pn++pz,p.1≠b)
  (keep:∀ b o,b≠X.env.locals→b∉X.fs→b∉ch→s.heap.get? b=some o→H b=none→h'.get? b=some o)
  (slot:∀ b o,b≠X.env.locals→b∈X.fs→b∉ch→s.heap.get? b=some o→H b=none→∃ sl,h'.get? b=some { o with slots:=sl }) (free:∀ b o,b∉ch→s.heap.get? b=some o→H b=none→H' b=none)
  (there:∀ b o,b∉ch→s.heap.get? b=some o→∃ o',h'.get? b=some o')
  (tups:∀ b xs,H b=some (.tup xs)→H' b=some (.tup xs)) (frzs:∀ b o u,H b=some (.frz o u)→H' b=some (.frz o u)) (tbls:∀ b ps,H b=some (.tbl ps)→∃ more,H' b=some (.tbl (ps++more)))
  (ns:∀ m,s.heap.Ns X.env.locals m→h'.Ns X.env.locals m) (hok:HOk X.prog X.w H' h') (hg:AllBare g') :
  Inv X pz σ H' { s with heap:=h',gens:=g',drawn:=d',toks:=t' }:=by
 have neL:∀ b o,X.s₀.heap.get? b=some o→b≠X.env.locals:=fun b o e=>YC (YE (Yp e) I.ok.above)
 have neC:∀ b o,X.s₀.heap.get? b=some o→b∉X.ex→b∉ch:=fun b o e hx hb=>by
  rcases (hch b hb).1 with z | z
  ·exact hx z
  ·exact absurd (YE (Yp e) z) (Zh _)
 have cellK:∀ x c,X.env.cells.lookup x=some c→∀ v,s.heap.IsCell c v→h'.IsCell c v:=fun x c e v hh_=>by
  obtain⟨o,ho,hd⟩:=hh_
  have nch:c∉ch:=fun z=>(hch c z).2.2.1 x c e rfl
  by_cases hc:c∈X.fs
  ·obtain⟨sl,q⟩:=slot c o (I.cne x c e) hc nch ho (I.freeC x c e)
   exact⟨_,q,hd⟩
  ·exact⟨o,keep c o (I.cne x c e) hc nch ho (I.freeC x c e),hd⟩
 refine⟨I.ok,I.os,hg,⟨fun b o e n hb hx=>?_,fun b o e n hb hx=>?_,fun b o e n hx=>?_,fun b o e hx=>?_,fun b xs e=>tups b xs (I.base.tups b xs e),fun b o xs e=>frzs b o xs (I.base.frzs b o xs e),fun b ps e=>?_⟩,?_,fun x c e=>?_,?_,fun x c e=>?_,fun p hp=>?_,hok,I.len⟩
 ·exact keep b o (neL b o e) hb (neC b o e hx) (I.base.keep b o e n hb hx) (I.base.free b o e n hx)
 ·obtain⟨sl,e1⟩:=I.base.slot b o e n hb hx
  obtain⟨sl',e2⟩:=slot b _ (neL b o e) hb (neC b o e hx) e1 (I.base.free b o e n hx)
  exact⟨sl',e2⟩
 ·obtain⟨o',e1⟩:=I.base.there b o e hx
  exact free b o' (neC b o e hx) e1 (I.base.free b o e n hx)
 ·obtain⟨o',e1⟩:=I.base.there b o e hx
  exact there b o' (neC b o e hx) e1
 ·obtain⟨m1,e1⟩:=I.base.tbls b ps e
  obtain⟨m2,e2⟩:=tbls b _ e1
  exact⟨m1++m2,by rw[e2,Array.append_assoc]⟩
 ·obtain⟨m,hn,hl⟩:=I.loc
  refine⟨m,ns m hn,fun i x v e1 e2 e3=>?_⟩
  obtain⟨u,r,l⟩:=hl i x v e1 e2 e3
  refine⟨u,r,?_⟩
  rcases l with l | ⟨k,c,e,z⟩
  ·exact .inl l
  ·exact .inr ⟨k,c,e,cellK x c e _ z⟩
 ·obtain⟨v,z⟩:=I.cell x c e
  exact⟨v,cellK x c e v z⟩
 ·obtain⟨m,⟨o,_,_,ho,_⟩,_⟩:=I.loc
  exact free _ o (fun z=>(hch _ z).2.1 rfl) ho I.free
 ·obtain⟨v,o,ho,hd⟩:=I.cell x c e
  exact free c o (fun z=>(hch c z).2.2.1 x c e rfl) ho (I.freeC x c e)
 ·obtain⟨e,n,ne,nf,d⟩:=I.pin p hp
  have nch:p.1∉ch:=fun z=>(hch p.1 z).2.2.2 p hp rfl
  exact⟨keep p.1 p.2 ne nf nch e n,free p.1 p.2 nch e n,ne,nf,d⟩
theorem Inv.un {t':Nat}(I:Inv X pz σ H s)(u:Un X.fs [] H H' s.heap h')(hok:HOk X.prog X.w H' h'):Inv X pz σ H' { s with heap:=h',toks:=t' }:=by
 obtain⟨m,⟨o,es,ep,ho,r⟩,_⟩:=id I.loc
 obtain⟨sl,hL⟩:=u.any ho I.free (by simp)
 exact I.step (g':=s.gens) (d':=s.drawn) (ch:=[]) (fun _ z=>nomatch z) (fun b o _ hb _ e n=>u.keep b o e n hb (by simp)) (fun b o _ hb _ e n=>u.slot b o e n hb (by simp)) (fun b o _ e n=>u.free b o e n (by simp)) (fun b o _ e=>u.there b o e (by simp)) u.tups u.frzs u.tbls (fun m' hm=>by
  obtain⟨o',es',ep',ho',r'⟩:=hm
  rw[ho] at ho';cases ho'
  exact⟨_,es',ep',hL,r'⟩) hok I.bare
theorem Inv.call {g':Array GenState}{t':Nat}{d':Drawn}{ch:List Addr}(I:Inv X pz σ H s)(u:Un (frs X.stack) ch H H' s.heap h')(hok:HOk X.prog X.w H' h')(hg:AllBare g')
  (hch:∀ b∈ch,(b∈X.ex∨X.s₀.heap.objs.size≤b)∧b≠X.env.locals∧(∀ x c,X.env.cells.lookup x=some c→c≠b)∧∀ p∈X.pn++pz,p.1≠b) :
  Inv X pz σ H' { s with heap:=h',gens:=g',drawn:=d',toks:=t' }:=by
 obtain⟨m,⟨o,es,ep,ho,r⟩,_⟩:=id I.loc
 obtain⟨sl,hL⟩:=u.any ho I.free fun z=>(hch _ z).2.1 rfl
 exact I.step (ch:=ch) hch (fun b o hL hb hc e n=>u.keep b o e n (fun z=>(YF.mp (I.stkSub b z)).elim hL hb) hc) (fun b o _ _ hc e n=>u.any e n hc) (fun b o hc e n=>u.free b o e n hc) (fun b o hc e=>u.there b o e hc) u.tups u.frzs u.tbls (fun m' hm=>by
  obtain⟨o',es',ep',ho',r'⟩:=hm
  rw[ho] at ho';cases ho'
  exact⟨_,es',ep',hL,r'⟩) hok hg
theorem Inv.turned {t':Nat}{it:Addr}(I:Inv X pz σ H s)(k:∀ b o,b≠it→s.heap.get? b=some o→h'.get? b=some o)(hn:H it=none)(hL:it≠X.env.locals)
  (h1:it∈X.ex∨X.s₀.heap.objs.size≤it) (h2:∀ x c,X.env.cells.lookup x=some c→c≠it) (h3:∀ p∈X.pn++pz,p.1≠it):Inv X pz σ H { s with heap:=h',toks:=t' }:=by
 have nit:∀ b u,H b=some u→b≠it:=fun b u e z=>by rw[z,hn] at e;cases e
 refine I.step (g':=s.gens) (d':=s.drawn) (ch:=[it]) (fun b hb=>?_) (fun b o _ _ hc e _=>k b o (fun z=>hc (by simp[z])) e) (fun b o _ _ hc e _=>⟨o.slots,k b o (fun z=>hc (by simp[z])) e⟩) (fun _ _ _ _ n=>n)
  (fun b o hc e=>⟨o,k b o (fun z=>hc (by simp[z])) e⟩) (fun _ _ e=>e) (fun _ _ _ e=>e) (fun b ps e=>⟨#[],by rw[e];simp⟩) (fun m hm=>?_) (fun b u e=>?_) I.bare
 ·have e:b=it:=by simpa using hb
  subst e
  exact⟨h1,hL,h2,h3⟩
 ·obtain⟨o,es,ep,ho,r⟩:=hm
  exact⟨o,es,ep,k _ o (Vz hL) ho,r⟩
 ·refine (I.hok b u e).stay (fun c v hc q=>k c v ?_ q) (fun _ q=>q) fun _ _ q=>q
  rcases hc with z | z
  ·rw[z];exact nit b u e
  ·exact nit c _ z
theorem Inv.tok (I:Inv X pz σ H s)(t:Nat):Inv X pz σ H { s with toks:=t }:=I.un (h':=s.heap) (t':=t) Un.refl I.hok
theorem Inv.kept {t':Nat}(I:Inv X pz σ H s)(k:∀ b u,s.heap.get? b=some u→h'.get? b=some u):Inv X pz σ H { s with heap:=h',toks:=t' }:=I.un (Un.kept k) (I.hok.kept k)
theorem Inv.laid {a:Addr}{o:HO}{t':Nat}(I:Inv X pz σ H s)(k:∀ b u,s.heap.get? b=some u→h'.get? b=some u)(hp:s.heap.objs.size≤a)(new:ObjOk X.prog X.w (upd H a o) h' a o) :
  Inv X pz σ (upd H a o) { s with heap:=h',toks:=t' }:=I.un (Un.laid k hp (I.hok.fresh hp)) (I.hok.laid k hp new)
theorem Inv.write {x e:Addr}{o:HO}{t':Nat}(I:Inv X pz σ H s)(mu:Mut (H x))(he:e=x∨H e=some (.own x))(k:∀ b u,b≠e→s.heap.get? b=some u→h'.get? b=some u)(heo:∃ u,h'.get? e=some u)
  (new:ObjOk X.prog X.w (upd H x o) h' x o):Inv X pz σ (upd H x o) { s with heap:=h',toks:=t' }:=I.un (Un.write mu he k heo) (I.hok.write mu he k heo new)
theorem Inv.weak {σ':List (Option V)}(I:Inv X pz σ H s)(hl:σ'.length=σ.length)(w:∀ (i:Nat) v,σ'[i]?=some (some v)→σ[i]?=some (some v)):Inv X pz σ' H s:=
 ⟨I.ok,I.os,I.bare,I.base,let ⟨m,hn,hl'⟩:=I.loc;⟨m,hn,fun i x v e1 e2 e3=>hl' i x v e1 (w i v e2) e3⟩,I.cell,I.free,I.freeC,I.pin,I.hok,hl.trans I.len⟩
theorem Inv.pins_of {pz':Kp}(I:Inv X pz σ H s)(h:∀ p∈pz',s.heap.get? p.1=some p.2∧H p.1=none∧p.1≠X.env.locals∧p.1∉X.fs∧∀ v,p.2.data≠.cell v):Inv X pz' σ H s:=
 ⟨I.ok,I.os,I.bare,I.base,I.loc,I.cell,I.free,I.freeC,fun p hp=>(Yz.mp hp).elim (fun z=>I.pin p (YK _ z)) (h p),I.hok,I.len⟩
theorem h9 {N:List Str}(hN:N.Nodup){i j:Nat}{x:Str}(a:N[i]?=some x)(b:N[j]?=some x):i=j:=by
 obtain⟨h1,e1⟩:=Yi.mp a
 obtain⟨h2,e2⟩:=Yi.mp b
 exact (List.getElem_inj hN).mp (e1.trans e2.symm)
theorem f7 {M:Model}{A:Around}{E:Kv}{i:Nat}{x:Str}{v:V}{u:Value}{Q:Unit→Shared→Prop}(I:Inv X pz σ H s)(hN:X.N.Nodup)(hi:X.N[i]?=some x)(hx:Loc X.env.scope x)(r:RelV v u)
  (h:∀ s',Inv X pz (σ.set i (some v)) H s'→(∃ a,Heap.SameBut a s.heap s'.heap∧(a=X.env.locals∨X.env.cells.lookup x=some a))→Q () s') (hf:X.fn x=true∨X.env.scope.names.lookup x=some .local:=by first | exact .inl rfl | exact .inr rfl | assumption):wpAny M A (storeName X.env x u) Q E s:=by
 obtain⟨m,hn,hl⟩:=id I.loc
 have hcls:(X.env.scope.kind == .class||(X.env.scope.kind == .module&&X.env.locals != X.env.globals))=false:=by rw[I.ok.kind];rfl
 have hiσ:i<σ.length:=by rw[I.len];exact (Yi.mp hi).1
 have cne:=I.cne
 have tracked:∀ {a:Addr} {h':Heap},(∃ o,s.heap.get? a=some o∧H a=none)→Heap.SameBut a s.heap h'→HOk X.prog X.w H h':=fun {a h'} ha hs b ob e=>by
  obtain⟨_,_,hfree⟩:=ha
  refine (I.hok b ob e).stay (fun c w' hc q=>(hs.2 c ?_).trans q) (fun _ q=>q) fun _ _ q=>q
  rintro rfl
  rcases hc with rfl | hc
  ·rw[hfree] at e;cases e
  ·rw[hfree] at hc;cases hc
 rcases hx with hk | hk
 ·refine wpAny_storeName_local hk hn (fun h' hn' hs=>?_) hcls
  obtain⟨oL,_,_,hoL,_⟩:=id hn
  refine h _ ⟨I.ok,I.os,I.bare,⟨fun b o e n hb hx=>?_,fun b o e n hb hx=>?_,I.base.free,fun b o e hx=>?_,I.base.tups,I.base.frzs,I.base.tbls⟩,⟨_,hn',fun j y v' e1 e2 e3=>?_⟩,fun y c e=>?_,I.free,I.freeC,fun p hp=>?_,tracked ⟨oL,hoL,I.free⟩ hs,by simpa using I.len⟩ ⟨_,hs,.inl rfl⟩
  ·exact (hs.2 b (YC (YE (Yp e) I.ok.above))).trans (I.base.keep b o e n hb hx)
  ·obtain⟨sl,e1⟩:=I.base.slot b o e n hb hx
   exact⟨sl,(hs.2 b (YC (YE (Yp e) I.ok.above))).trans e1⟩
  ·obtain⟨o',e1⟩:=I.base.there b o e hx
   exact⟨o',(hs.2 b (YC (YE (Yp e) I.ok.above))).trans e1⟩
  ·by_cases hj:j=i
   ·subst hj
    rw[hi] at e1;cases e1
    rw[Zw hiσ] at e2
    cases e2
    exact⟨u,r,.inl ⟨hk,by simp⟩⟩
   ·rw[ZC (Vz hj)] at e2
    obtain⟨u',r',q⟩:=hl j y v' e1 e2 e3
    refine⟨u',r',?_⟩
    rcases q with⟨k,e⟩ | ⟨k,c,e,z⟩
    ·refine .inl ⟨k,?_⟩
     have:y≠x:=fun e=>hj (h9 hN e1 (e ▸ hi))
     simp[this,e]
    ·exact .inr ⟨k,c,e,z.sameBut hs (cne y c e)⟩
  ·obtain⟨w',z⟩:=I.cell y c e
   exact⟨w',z.sameBut hs (cne y c e)⟩
  ·obtain⟨e,n,ne,nf,d⟩:=I.pin p hp
   exact⟨(hs.2 p.1 ne).trans e,n,ne,nf,d⟩
 ·have hfn:X.fn x=true:=by
   rcases hf with z | z
   ·exact z
   ·rw[z] at hk;cases hk
  obtain⟨c,hc⟩:=I.ok.has x (.inl hk)
  obtain⟨w',z⟩:=I.cell x c hc
  refine wpAny_storeName_cell I.ok.kind hk hc z (fun h' hc' hs=>?_)
  obtain⟨oc,hoc,hocd⟩:=id z
  refine h { s with heap:=h' } ⟨I.ok,I.os,I.bare,⟨fun b o e n hb hx=>?_,fun b o e n hb hx=>?_,I.base.free,fun b o e hx=>?_,I.base.tups,I.base.frzs,I.base.tbls⟩,⟨m,hn.sameBut hs (Vz (cne x c hc)),fun j y v' e1 e2 e3=>?_⟩,fun y c' e=>?_,I.free,I.freeC,fun p hp=>?_,tracked ⟨oc,hoc,I.freeC x c hc⟩ hs,by simpa using I.len⟩ ⟨c,hs,.inr hc⟩
  ·exact (hs.2 b (YC (YE (Yp e) (I.ok.cab x c hfn hc)))).trans (I.base.keep b o e n hb hx)
  ·obtain⟨sl,e1⟩:=I.base.slot b o e n hb hx
   exact⟨sl,(hs.2 b (YC (YE (Yp e) (I.ok.cab x c hfn hc)))).trans e1⟩
  ·obtain⟨o',e1⟩:=I.base.there b o e hx
   exact⟨o',(hs.2 b (YC (YE (Yp e) (I.ok.cab x c hfn hc)))).trans e1⟩
  ·by_cases hj:j=i
   ·subst hj
    rw[hi] at e1;cases e1
    rw[Zw hiσ] at e2
    cases e2
    exact⟨u,r,.inr ⟨.inl hk,c,hc,hc'⟩⟩
   ·rw[ZC (Vz hj)] at e2
    obtain⟨u',r',q⟩:=hl j y v' e1 e2 e3
    refine⟨u',r',?_⟩
    rcases q with q | ⟨k,c',e,z'⟩
    ·exact .inl q
    ·refine .inr ⟨k,c',e,z'.sameBut hs ?_⟩
     rintro rfl
     exact hj (h9 hN e1 (I.ok.inj _ _ _ e hc ▸ hi))
  ·by_cases hcc:c'=c
   ·subst hcc;exact⟨_,hc'⟩
   ·obtain⟨w2,z2⟩:=I.cell y c' e
    exact⟨w2,z2.sameBut hs hcc⟩
  ·obtain⟨e,n,ne,nf,d⟩:=I.pin p hp
   refine⟨(hs.2 p.1 ?_).trans e,n,ne,nf,d⟩
   intro q
   rw[q,hoc] at e
   have q':oc=p.2:=Yx e
   exact d w' (by rw[← q'];exact hocd)
theorem ie {M:Model}{A:Around}{E:Kv}{i:Nat}{x:Str}{v:V}{u:Value}{Q:Unit→Shared→Prop}(I:Inv X pz σ H s)(hN:X.N.Nodup)(hi:X.N[i]?=some x)(hx:Loc X.env.scope x)(r:RelV v u)
  (h:∀ s',Inv X pz (σ.set i (some v)) H s'→Q () s') (hf:X.fn x=true∨X.env.scope.names.lookup x=some .local:=by first | exact .inl rfl | exact .inr rfl | assumption):wpAny M A (storeName X.env x u) Q E s:=
 f7 I hN hi hx r (fun s' I' _=>h s' I') hf
theorem Inv.call' {s':Shared}{ch:List Addr}(I:Inv X pz σ H s)(ho:s'.os=s.os)(u:Un (frs X.stack) ch H H' s.heap s'.heap)(hok:HOk X.prog X.w H' s'.heap)(hg:AllBare s'.gens)
  (hch:∀ b∈ch,(b∈X.ex∨X.s₀.heap.objs.size≤b)∧b≠X.env.locals∧(∀ x c,X.env.cells.lookup x=some c→c≠b)∧∀ p∈X.pn++pz,p.1≠b):Inv X pz σ H' s':=by
 obtain⟨h',g',d',t',o'⟩:=s'
 have e:o'=s.os:=ho
 subst e
 exact I.call (g':=g') (t':=t') (d':=d') u hok hg hch
end
abbrev XK:=Value→Option Addr→Hp→Prop
abbrev St:=List (Option V)
abbrev VK:=V→Hp→Prop
abbrev TE:=St→Hp→VK→Prop
abbrev TT:=St→Hp→(Bool→Hp→Prop)→Prop
abbrev TA:=St→Hp→(List V→Hp→Prop)→Prop
structure Ends where
 nx:St→Hp→Prop
 rt:VK
 bk:St→Hp→Prop:=fun _ _=>False
 ct:St→Hp→Prop:=fun _ _=>False
abbrev TS:=Ends→St→Hp→Prop
def EP (X:Cx)(pz:Kp)(σ:St)(Q:VK)(u:Value)(s':Shared):Prop:=∃ v H',Inv X pz σ H' s'∧RelV v u∧Q v H'
def TP (X:Cx)(pz:Kp)(σ:St)(Q:Bool→Hp→Prop)(b:Bool)(s':Shared):Prop:=∃ H',Inv X pz σ H' s'∧Q b H'
def AP (X:Cx)(pz:Kp)(σ:St)(Q:List V→Hp→Prop)(us:List Value)(s':Shared):Prop:=∃ vs H',Inv X pz σ H' s'∧Vals vs us∧Q vs H'
def SP (X:Cx)(pz:Kp)(D:Ends)(f:Flow)(s':Shared):Prop:=
 match f with
 | .next=>∃ σ' H',Inv X pz σ' H' s'∧D.nx σ' H'
 | .brk=>∃ σ' H',Inv X pz σ' H' s'∧D.bk σ' H'
 | .cont=>∃ σ' H',Inv X pz σ' H' s'∧D.ct σ' H'
 | .ret u=>∃ v σ' H',Inv X pz σ' H' s'∧RelV v u∧D.rt v H'
def PE (X:Cx)(e:Expr)(t:TE):Prop:=
 ∀ (pz:Kp) (s:Shared) (σ:St) (H:Hp) (Q:VK),Inv X pz σ H s→t σ H Q→wpAny (model X.prog X.w) X.A (eval e X.env) (EP X pz σ Q) X.xe s
def PT (X:Cx)(e:Expr)(t:TT):Prop:=
 ∀ (pz:Kp) (s:Shared) (σ:St) (H:Hp) (Q:Bool→Hp→Prop),Inv X pz σ H s→t σ H Q→wpAny (model X.prog X.w) X.A (isTrue e X.env (eval e X.env)) (TP X pz σ Q) X.xe s
def PW (X:Cx)(e:Expr)(t:TT):Prop:=
 ∀ (whole:Sem Value) (pz:Kp) (s:Shared) (σ:St) (H:Hp) (Q:Bool→Hp→Prop),Inv X pz σ H s→t σ H Q→wpAny (model X.prog X.w) X.A (isTrue e X.env whole) (TP X pz σ Q) X.xe s
theorem PW.pt {X:Cx}{e:Expr}{t:TT}(h:PW X e t):PT X e t:=h _
def PA (X:Cx)(es:List Expr)(t:TA):Prop:=
 ∀ (pos:Pos) (pz:Kp) (s:Shared) (σ:St) (H:Hp) (Q:List V→Hp→Prop),Inv X pz σ H s→t σ H Q→wpAny (model X.prog X.w) X.A (spliced (backTo pos (starEach es X.env))) (AP X pz σ Q) X.xe s
def PS (X:Cx)(st:Stmt)(t:TS):Prop:=
 ∀ (pz:Kp) (s:Shared) (σ:St) (H:Hp) (D:Ends),Inv X pz σ H s→t D σ H→wpAny (model X.prog X.w) X.A (exec st X.env) (SP X pz D) X.xe s
def PSs (X:Cx)(st:List Stmt)(t:TS):Prop:=
 ∀ (pz:Kp) (s:Shared) (σ:St) (H:Hp) (D:Ends),Inv X pz σ H s→t D σ H→wpAny (model X.prog X.w) X.A (execs st X.env) (SP X pz D) X.xe s
theorem thn {α:Type}{t:Sem α}{Q Q':α→Shared→Prop}{M:Model}{A:Around}{E:Kv}{s:Shared}(h:wpAny M A t Q E s)(hQ:∀ a s,Q a s→Q' a s):wpAny M A t Q' E s:=ZJ h hQ fun _ _ x=>x
theorem bq {α β:Type}{X:Cx}{pz:Kp}{σ:St}{t:Sem β}{R:α→β→Prop}{Q:α→Hp→Prop}{T:β→Shared→Prop}{M:Model}{A:Around}{E:Kv}{s:Shared}
  (h:wpAny M A t (fun u s1=>∃ x H1,Inv X pz σ H1 s1∧R x u∧Q x H1) E s) (k:∀ u s1 x H1,Inv X pz σ H1 s1→R x u→Q x H1→T u s1):wpAny M A t T E s:=
 thn h fun u s1 z=>by obtain⟨x,H1,a,b,c⟩:=z;exact k u s1 x H1 a b c
theorem un7 {β γ δ α:Type}{B A Z:β→γ→δ→α→Prop}{C:Prop}(k:∀ P F ρ d,B P F ρ d→A P F ρ d→Z P F ρ d→C)(h:∃ P F ρ d,B P F ρ d∧A P F ρ d∧Z P F ρ d):C:=by
 obtain⟨P,F,ρ,d,a,b,c⟩:=h;exact k P F ρ d a b c
section
variable {X:Cx}
def gr (i:Nat):TE:=fun σ H Q=>∃ v,σ[i]?=some (some v)∧Q v H
def tC (v:V):TE:=fun _ H Q=>Q v H
theorem qB {i:Nat}{x:Str}{pos:Pos}(hN:X.N[i]?=some x)(hv:Vis X.env.scope x)(hd:(x == ("__debug__":Str))=false:=by decide)(hcd:(x == ("__classdict__":Str))=false:=by decide):PE X (.Name x pos) (gr i):=by
 intro pz s σ H Q I h
 obtain⟨v,e,h⟩:=h
 obtain⟨m,hn,hl⟩:=I.loc
 obtain⟨u,r,l⟩:=hl i x v hN e hv
 have fin:EP X pz σ Q u s:=⟨v,H,I,r,h⟩
 rcases l with⟨hk,hm⟩ | ⟨hk,c,hc,hcell⟩
 ·exact wpAny_Name (wpAny_loadName_local I.ok.kind hk hn hm fin) hd
 ·rcases hk with hk | hk
  ·exact wpAny_Name (wpAny_loadName_cell I.ok.kind hk hc hcell fin) hd
  ·exact wpAny_Name (wpAny_loadName_free I.ok.kind hk hc hcell fin hcd) hd
theorem p5 {i j pos}:PE X (.Constant (.int i) j pos) (tC (.int i)):=fun _ _ _ H _ I h=>wpAny_Constant_int ⟨.int i,H,I.tok _,⟨_,rfl⟩,h⟩
theorem rW {b j pos}:PE X (.Constant (.bool b) j pos) (tC (.bl b)):=fun _ _ _ H _ I h=>Constant_bool ⟨.bl b,H,I,rfl,h⟩
theorem qx {x j pos}:PE X (.Constant (.str x) j pos) (tC (.str x)):=fun _ _ _ H _ I h=>Calls.Constant_str ⟨.str x,H,I.tok _,⟨_,rfl⟩,h⟩
def Gl (X:Cx)(x:Str):Prop:=X.env.kindOf x=some .globalImplicit
theorem np {E:Kv}{pz:Kp}{s:Shared}{σ:St}{H:Hp}{x:Str}{u:Value}{pos:Pos}{Q:Kv}(I:Inv X pz σ H s)(hg:Gl X x)(hm:X.mg x=some u)(h:Q u s)
  (hd:(x == ("__debug__":Str))=false:=by decide):wpAny (model X.prog X.w) X.A (eval (.Name x pos) X.env) Q E s:=
 Calls.Name_function_global I.ok.kind hg (Calls.loadGlobal_global (by rw[I.ok.glob];exact I.mod.glob.keeps I.bk) hm h) hd
theorem jv {E:Kv}{pz:Kp}{s:Shared}{σ:St}{H:Hp}{x:Str}{u:Value}{pos:Pos}{Q:Kv}(I:Inv X pz σ H s)(hg:Gl X x)(hm:X.mg x=none)(hv:bootBuiltins x=some u)(h:Q u s)
  (hn:x ≠ "__name__":=by decide) (hd:(x == ("__debug__":Str))=false:=by decide):wpAny (model X.prog X.w) X.A (eval (.Name x pos) X.env) Q E s:=by
 obtain⟨mb,h1,h2⟩:=I.mod.blt
 exact Calls.Name_function_global I.ok.kind hg (Calls.loadGlobal_builtin (by rw[I.ok.glob];exact I.mod.glob.keeps I.bk) hm (by rw[I.ok.blt];exact h1.keeps I.bk) ((h2 x hn).trans hv) h) hd
theorem oW {x:Str}{v:V}{u:Value}{pos:Pos}(hg:Gl X x)(hm:X.mg x=none)(hv:bootBuiltins x=some u)(r:RelV v u)(hn:x ≠ "__name__":=by decide)(hd:(x == ("__debug__":Str))=false:=by decide):PE X (.Name x pos) (tC v):=
 fun _ _ _ H _ I h=>jv I hg hm hv ⟨v,H,I,r,h⟩ hn hd
variable {a b:Expr} {ta tb:TE} {pos:Pos}
def tB (t:TE):TT:=fun σ H Q=>t σ H fun x H1=>∃ c,x=.bl c∧Q c H1
theorem qM {e:Expr}{t:TE}(h:PE X e t)(he:∀ whole,isTrue e X.env whole=(do let v ← whole;standAt e.pos;holding [v] (truthy v)):=by intro _;rfl):PT X e (tB t):=by
 intro pz s σ H Q I hw
 refine isTrue_plain (bq (h pz s σ H _ I hw) fun v s1 x H1 I1 r1 q1=>?_) (he _)
 obtain⟨d,rfl,q⟩:=q1
 cases r1
 exact Xp ⟨H1,I1,q⟩
variable {tA tB':TT} {aG:List Expr}
def tOr (t u:TT):TT:=fun σ H Q=>t σ H fun c H1=>if c=true then Q true H1 else u σ H1 Q
def tw (t:TT):TT:=fun σ H Q=>t σ H fun c H1=>Q (!c) H1
theorem pV (ha:PT X a tA):PW X (.BoolOp .Or [a] pos) tA:=by
 intro wh pz s σ H Q I h
 refine isTrue_or (thn (ha pz s σ H Q I h) fun c s1 e=>?_)
 cases c with
 | false=>exact isTrue_or_nil e
 | true=>exact e
theorem ri (ha:PT X a tA)(hb:PW X (.BoolOp .Or (b::aG) pos) tB'):PW X (.BoolOp .Or (a::b::aG) pos) (tOr tA tB'):=by
 intro wh pz s σ H Q I h
 refine isTrue_or (thn (ha pz s σ H _ I h) fun c s1 hh_=>?_)
 obtain⟨H1,I1,q1⟩:=hh_
 cases c with
 | true=>exact⟨H1,I1,q1⟩
 | false=>exact hb wh pz s1 σ H1 Q I1 q1
theorem qw (ha:PT X a tA):PT X (.UnaryOp .Not a pos) (tw tA):=by
 intro pz s σ H Q I h
 exact isTrue_not (ha pz s σ H (fun c H1=>Q (!c) H1) I h)
def rD (ta tb:TE):TE:=fun σ H Q=>ta σ H fun x H1=>∃ c,x=.bl c∧if c=true then tb σ H1 Q else Q (.bl false) H1
def sv (ta:TE):TE:=fun σ H Q=>ta σ H fun x H1=>∃ c,x=.bl c∧Q (.bl (!c)) H1
theorem pI {op}{t:TE}(h:PE X a t):PE X (.BoolOp op [a] pos) t:=fun pz s σ H Q I hw=>BoolOp_one (h pz s σ H Q I hw)
theorem qr (ha:PE X a ta)(hb:PE X (.BoolOp .And (b::aG) pos) tb):PE X (.BoolOp .And (a::b::aG) pos) (rD ta tb):=by
 intro pz s σ H Q I h
 refine BoolOp_and (bq (ha pz s σ H _ I h) fun v s1 x H1 I1 r1 q1=>?_)
 obtain⟨c,rfl,q1⟩:=q1
 cases r1
 refine Xp ?_
 cases c with
 | true=>exact hb pz s1 σ H1 Q I1 q1
 | false=>exact⟨.bl false,H1,I1,rfl,q1⟩
theorem pF (ha:PE X a ta):PE X (.UnaryOp .Not a pos) (sv ta):=by
 intro pz s σ H Q I h
 refine UnaryOp_ (bq (ha pz s σ H _ I h) fun v s1 x H1 I1 r1 q1=>?_)
 obtain⟨c,rfl,q1⟩:=q1
 cases r1
 exact not_of (Xp ⟨.bl (!c),H1,I1,rfl,q1⟩)
end
def SqL (K:Kq)(H:Hp)(a:Addr)(xs:List V):Prop:=
 Rd H a (.lst xs) ∨
  ∃ (o:Obj) (its:Array Value) (n:Nat),K.lookup a=some o∧o.cls=.type "list"∧o.dict=none∧o.data=.seq its n∧its.size≤sizeLine∧Vals xs its.toList
def SqT (K:Kq)(H:Hp)(a:Addr)(xs:List V):Prop:=
 Rd H a (.tup xs) ∨
  ∃ (o:Obj) (its:Array Value) (n:Nat),K.lookup a=some o∧o.cls=.type "tuple"∧o.data=.seq its n∧its.size≤sizeLine∧Vals xs its.toList
def tX:Value→Option V
 | .none=>some .non
 | .bool b=>some (.bl b)
 | .int i _=>some (.int i)
 | .str x _=>some (.str x)
 | .bytes b _=>some (.byt b)
 | .float b _=>some (.flt b)
 | .ref a=>some (.ref a)
 | .type n=>some (.ty n)
 | _=>none
theorem RelV.abs {x:V}{u:Value}(r:RelV x u):tX u=some x:=by
 cases x with
 | non=>cases r;rfl
 | bl _=>cases r;rfl
 | int _=>obtain⟨t,rfl⟩:=r;rfl
 | str _=>obtain⟨t,rfl⟩:=r;rfl
 | byt _=>obtain⟨t,rfl⟩:=r;rfl
 | flt _=>obtain⟨t,rfl⟩:=r;rfl
 | ref _=>cases r;rfl
 | ty _=>cases r;rfl
theorem RelV.inj {x y:V}{u:Value}(r:RelV x u)(q:RelV y u):x=y:=Yx (r.abs.symm.trans q.abs)
theorem Vals.inj {xs ys:List V}{us:List Value}(h:Vals xs us):Vals ys us→xs=ys:=by
 induction h generalizing ys with
 | nil=>intro q;cases q;rfl
 | cons r _ ih=>
  intro q
  cases q with
  | cons r' t'=>rw[r.inj r',ih t']
section
variable {X:Cx} {pz:Kp} {σ:St} {H:Hp} {s:Shared} {a:Addr} {xs ys:List V}
theorem SqL.of {K:Kq}(h:H a=some (.lst xs)):SqL K H a xs:=.inl (.inl h)
theorem SqT.of {K:Kq}(h:H a=some (.tup xs)):SqT K H a xs:=.inl (.inl h)
theorem Inv.list (I:Inv X pz σ H s)(h:SqL X.K H a xs):∃ its:List Value,Vals xs its∧PlainL s.heap a its.toArray∧xs.length≤sizeLine:=by
 rcases h with h | ⟨o,its,n,hk,hc,hd,hs,hz,r⟩
 ·obtain⟨z,its,n,r,e⟩:=h.ok I.hok
  exact⟨its,r,⟨_,n,e,rfl,rfl,rfl⟩,z⟩
 ·refine⟨its.toList,r,⟨o,n,I.kIn a o hk,hc,hd,by simpa using hs⟩,?_⟩
  have e:=r.length
  simp only[Yu] at e
  omega
theorem Inv.tuple (I:Inv X pz σ H s)(h:SqT X.K H a xs):∃ its:List Value,Vals xs its∧IsTup s.heap a its.toArray∧xs.length≤sizeLine:=by
 rcases h with h | ⟨o,its,n,hk,hc,hs,hz,r⟩
 ·obtain⟨z,its,r,p,_⟩:=h.ok I.hok
  exact⟨its,r,p,z⟩
 ·refine⟨its.toList,r,⟨o,I.kIn a o hk,hc,n,by simpa using hs⟩,?_⟩
  have e:=r.length
  simp only[Yu] at e
  omega
theorem Inv.list_inj (I:Inv X pz σ H s)(h:SqL X.K H a xs)(h':SqL X.K H a ys):xs=ys:=by
 obtain⟨its,r,⟨o,n,e,_,_,d⟩,_⟩:=I.list h
 obtain⟨its',r',⟨o',n',e',_,_,d'⟩,_⟩:=I.list h'
 rw[e] at e';cases e'
 rw[d] at d'
 injection d' with d1 _
 have:its=its':=by simpa using ZP Array.toList d1
 subst this
 exact r.inj r'
end
abbrev Cx.wish (X:Cx)(E:Kv):Cx:={ X with xe:=E }
abbrev Cx.nox (X:Cx):Cx:=X.wish fun _ _=>False
theorem Cx.Ok.wish {X:Cx}(ok:X.Ok)(E:Kv):(X.wish E).Ok:=
 ⟨ok.mod,ok.kind,ok.glob,ok.blt,ok.above,ok.inj,ok.has,ok.cab,ok.hd,ok.frames,ok.stk,ok.exf,ok.bs,ok.bsz,ok.noex,ok.exfs,ok.funs,ok.frf⟩
theorem Cx.Ok.unwish {X:Cx}{E:Kv}(ok:(X.wish E).Ok):X.Ok:=
 ⟨ok.mod,ok.kind,ok.glob,ok.blt,ok.above,ok.inj,ok.has,ok.cab,ok.hd,ok.frames,ok.stk,ok.exf,ok.bs,ok.bsz,ok.noex,ok.exfs,ok.funs,ok.frf⟩
section
variable {X:Cx} {pz:Kp} {σ:St} {H:Hp} {s:Shared} {E:Kv}
theorem Inv.wish (I:Inv X pz σ H s)(E:Kv):Inv (X.wish E) pz σ H s:=⟨I.ok.wish E,I.os,I.bare,I.base,I.loc,I.cell,I.free,I.freeC,I.pin,I.hok,I.len⟩
theorem Inv.unwish (I:Inv (X.wish E) pz σ H s):Inv X pz σ H s:=⟨I.ok.unwish,I.os,I.bare,I.base,I.loc,I.cell,I.free,I.freeC,I.pin,I.hok,I.len⟩
theorem SP.unwish {D:Ends}{f:Flow}{s':Shared}(h:SP (X.wish E) pz D f s'):SP X pz D f s':=by
 cases f with
 | next=>obtain⟨σ',H',I,q⟩:=h;exact⟨σ',H',I.unwish,q⟩
 | brk=>obtain⟨σ',H',I,q⟩:=h;exact⟨σ',H',I.unwish,q⟩
 | cont=>obtain⟨σ',H',I,q⟩:=h;exact⟨σ',H',I.unwish,q⟩
 | ret u=>obtain⟨v,σ',H',I,r,q⟩:=h;exact⟨v,σ',H',I.unwish,r,q⟩
theorem PSs.nox {st:List Stmt}{t:TS}(h:PSs X.nox st t):PSs X st t:=fun pz s σ H D I hw=>
 ZJ (h pz s σ H D (I.wish _) hw) (fun _ _ q=>q.unwish) fun _ _ z=>False.elim z
end
section
variable {X:Cx} {st:Stmt} {aG:List Stmt} {t u:TS} {e:Expr} {te:TE} {pos:Pos}
def rh:TS:=fun D σ H=>D.nx σ H
def sX (t u:TS):TS:=fun D σ H=>t { D with nx:=u D } σ H
theorem oC:PSs X [] rh:=fun _ _ σ H _ I h=>wpAny_execs_nil ⟨σ,H,I,h⟩
theorem lW (h1:PS X st t)(h2:PSs X aG u):PSs X (st::aG) (sX t u):=by
 intro pz s σ H D I h
 refine wpAny_execs_cons (thn (h1 pz s σ H { D with nx:=u D } I h) fun f s1 q=>?_)
 cases f with
 | next=>
  obtain⟨σ',H',I',q⟩:=q
  exact h2 pz s1 σ' H' D I' q
 | ret v=>exact q
 | brk=>exact q
 | cont=>exact q
theorem oN (h1:PS X st t):PSs X [st] t:=by
 intro pz s σ H D I h
 refine wpAny_execs_cons (thn (h1 pz s σ H D I h) fun f s1 q=>?_)
 cases f with
 | next=>exact wpAny_execs_nil q
 | ret v=>exact q
 | brk=>exact q
 | cont=>exact q
theorem Inv.quiet {pz:Kp}{σ:St}{H:Hp}{s:Shared}(I:Inv X pz σ H s):interactive X.env=false:=by simp[interactive,I.ok.kind]
def rl (te:TE):TS:=fun D σ H=>te σ H fun _ H1=>D.nx σ H1
theorem jJ (he:PE X e te)(hs:swapsWith e none pos.line X.env=pure false:=by rfl):PS X (.Expr e pos) (rl te):=by
 intro pz s σ H D I h
 exact wpAny_Expr_any (bq (he pz s σ H _ I h) fun v s1 x H1 I1 r1 q1=>⟨σ,H1,I1,q1⟩) I.quiet hs
def t9 (te:TE):TS:=fun D σ H=>te σ H D.rt
theorem m7 (he:PE X e te):PS X (.Return (some e) pos) (t9 te):=by
 intro pz s σ H D I h
 exact wpAny_Return_some (bq (he pz s σ H _ I h) fun v s1 x H1 I1 r1 q1=>⟨x,σ,H1,I1,r1,q1⟩)
def tF (c:TT)(t u:TS):TS:=fun D σ H=>c σ H fun b H1=>if b=true then t D σ H1 else u D σ H1
theorem rX {c:Expr}{a b:List Stmt}{tc:TT}(hc:PT X c tc)(ha:PSs X a t)(hb:PSs X b u):PS X (.If c a b pos) (tF tc t u):=by
 intro pz s σ H D I h
 refine wpAny_If (thn (hc pz s σ H _ I h) fun d s1 hh_=>?_)
 obtain⟨H1,I1,q1⟩:=hh_
 cases d with
 | true=>exact ha pz s1 σ H1 D I1 q1
 | false=>exact hb pz s1 σ H1 D I1 q1
end
abbrev TG:=V→St→Hp→(St→Hp→Prop)→Prop
def PG (X:Cx)(target:Expr)(t:TG):Prop:=
 ∀ (pz:Kp) (s:Shared) (σ:St) (H:Hp) (v:V) (u:Value) (Q:St→Hp→Prop),Inv X pz σ H s→RelV v u→t v σ H Q→
  wpAny (model X.prog X.w) X.A (assign target X.env u) (fun _ s'=>∃ σ' H',Inv X pz σ' H' s'∧Q σ' H') X.xe s
section
variable {X:Cx} {pos:Pos}
def gl (i:Nat):TG:=fun v σ H Q=>Q (σ.set i (some v)) H
theorem oq {i:Nat}{x:Str}(hN:X.N.Nodup)(hi:X.N[i]?=some x)(hx:Loc X.env.scope x)(hf:X.fn x=true∨X.env.scope.names.lookup x=some .local:=by first | exact .inl rfl | exact .inr rfl | assumption):PG X (.Name x pos) (gl i):=by
 intro pz s σ H v u Q I r h
 exact wpAny_assign_Name (ie I hN hi hx r (fun s' I'=>⟨_,H,I',h⟩) hf)
def oh (te:TE)(g:TG):TS:=fun D σ H=>te σ H fun x H1=>g x σ H1 D.nx
theorem k_ {i:Nat}{x:Str}{e:Expr}{te:TE}{pos':Pos}(hN:X.N.Nodup)(hi:X.N[i]?=some x)(hx:Loc X.env.scope x)(he:PE X e te)(hs:swapsWith e (some (.Name x pos')) pos.line X.env=pure false:=by rfl)(hf:X.fn x=true∨X.env.scope.names.lookup x=some .local:=by first | exact .inl rfl | exact .inr rfl | assumption) :
  PS X (.Assign [.Name x pos'] e pos) (oh te (gl i)):=by
 intro pz s σ H D I h
 refine wpAny_Assign_Name (bq (he pz s σ H _ I h) fun v s1 y H1 I1 r1 q1=>?_) hs
 exact ie I1 hN hi hx r1 (fun s2 I2=>⟨_,H1,I2,q1⟩) hf
end
section
variable {X:Cx} {pos:Pos}
end
structure It where
 go:Nat→Hp→Prop
 yld:Nat→Hp→V→Hp→Prop
 stop:Nat→Hp→Prop
def dD (X:Cx)(pz:Kp)(H:Hp)(b:Addr):Prop:=
 H b=none∧b≠X.env.locals∧b∉X.fs∧(b∈X.ex∨X.s₀.heap.objs.size≤b)∧(∀ x c,X.env.cells.lookup x=some c→c≠b)∧∀ p∈X.pn++pz,p.1≠b
theorem Inv.fpOk {X:Cx}{pz:Kp}{σ:St}{H H':Hp}{s:Shared}{b:Addr}(I:Inv X pz σ H s)(hb:s.heap.objs.size≤b)(hn:H' b=none):dD X pz H' b:=by
 refine⟨hn,ZE (YE I.lt hb),I.nofs hb,.inr (Zi I.sz hb),fun x c e z=>?_,fun p hp z=>?_⟩
 ·obtain⟨v,q⟩:=I.cell x c e
  exact absurd (YE q.lt (by rw[z];exact hb)) (Zh _)
 ·exact absurd (YE (Yp (I.pin p hp).1) (by rw[z];exact hb)) (Zh _)
structure Turn (P:Program) (w:World) (K:PySem.W.Frag) (tg:Expr) (J:It) (fp:List Addr) (it:Addr) (tn:Nat→Heap→Prop):Prop where
 mem:it∈fp
 obj:∀ i h,tn i h→∀ b∈fp,∃ o,h.get? b=some o∧∀ v,o.data≠.cell v
 keep:∀ i h h',tn i h→(∀ b∈fp,∀ o,h.get? b=some o→h'.get? b=some o)→tn i h'
 item:∀ (X:Cx),X.prog=P→X.w=w→X.K=K→X.calm=true→∀ (i:Nat) (pz:Kp) (s:Shared) (σ:St) (H:Hp) (E:Kv),Inv X pz σ H s→(∀ b∈fp,dD X pz H b)→tn i s.heap→J.go i H→
  wpAny (model P w) X.A (pyNext (.ref it)) (fun r s1=>∃ u,r=some u ∧
   wpAny (model P w) X.A (letOwnedTupleGo tg (.ref it) u) (fun _ s2=>∃ x H',Inv X pz σ H' s2∧RelV x u∧J.yld i H x H'∧tn (i+1) s2.heap∧∀ b∈fp,H' b=none) E s1) E s
 done:∀ (X:Cx),X.prog=P→X.w=w→X.K=K→X.calm=true→∀ (i:Nat) (pz:Kp) (s:Shared) (σ:St) (H:Hp) (E:Kv),Inv X pz σ H s→(∀ b∈fp,dD X pz H b)→tn i s.heap→J.stop i H→
  wpAny (model P w) X.A (pyNext (.ref it)) (fun r s1=>r=none∧Inv X pz σ H s1) E s
 self:∀ (A:Around) (i:Nat) (s:Shared) (Q:Kv) (E:Kv),tn i s.heap→Q (.ref it) s→wpAny (model P w) A (pyIter (.ref it)) Q E s
abbrev TI:=St→Hp→(It→Hp→Prop)→Prop
def PIE (X:Cx)(pz:Kp)(σ:St)(tg:Expr)(R:It→Hp→Prop)(itv:Value)(s2:Shared):Prop:=
 ∃ (it:Addr) (fp:List Addr) (tn:Nat→Heap→Prop) (J:It) (H':Hp),itv=.ref it∧Inv X pz σ H' s2∧Turn X.prog X.w X.K tg J fp it tn∧tn 0 s2.heap∧(∀ b∈fp,dD X pz H' b)∧R J H'
def PI (X:Cx)(tg iter:Expr)(wi:TI):Prop:=
 ∀ (pz:Kp) (s:Shared) (σ:St) (H:Hp) (R:It→Hp→Prop),Inv X pz σ H s→wi σ H R→
  wpAny (model X.prog X.w) X.A (eval iter X.env) (fun v s1=>wpAny (model X.prog X.w) X.A (pyIter v) (PIE X pz σ tg R) X.xe s1) X.xe s
theorem r9 {M:Model}{A:Around}{E:Kv}{s:Shared}{tg:Expr}{it:Addr}{u:Value}{o:Obj}{n:String}{vs:Array Value}{Q:Unit→Shared→Prop}(ho:s.heap.get? it=some o)(hc:o.cls=.type n)(hd:o.data=.fields vs)
  (hn:["enumerate", "zip", "dict_itemiterator", "dict_reverseitemiterator", "odict_iterator", "itertools.zip_longest", "itertools.pairwise"].contains n=false) (hQ:Q () s):wpAny M A (letOwnedTupleGo tg (.ref it) u) Q E s:=by
 unfold letOwnedTupleGo
 cases tg <;> first
  | exact Yd hQ
  | (cases u <;> first
    | exact Yd hQ
    | (
     refine Ya (wpAny_load ho ?_)
     rw[hc,hd]
     show wpAny M A (if (["enumerate", "zip", "dict_itemiterator", "dict_reverseitemiterator", "odict_iterator", "itertools.zip_longest", "itertools.pairwise"].contains n&&vs[0]? == some (rawInt _))=true then _ else _) Q E s
     rw[Yo (by intro h;rw[hn,Bool.false_and] at h;cases h)]
     exact Yd hQ))
def Itl (K:Kq)(a:Addr):It:=
 ⟨fun i H=>∃ xs x,SqL K H a xs∧xs[i]?=some x,fun i H x H'=>H'=H∧∀ xs,SqL K H a xs→xs[i]?=some x,fun i H=>∃ xs,SqL K H a xs∧xs.length≤i⟩
theorem kC {P:Program}{w:World}{K:Kq}{tg:Expr}(a it:Addr):Turn P w K tg (Itl K a) [it] it (fun i h=>h.IsListIter it a i) where
 mem:=by simp
 obj:=fun i h st b hb=>by
  have e:b=it:=by simpa using hb
  subst e
  obtain⟨o,e,c,d⟩:=st
  exact⟨o,e,fun v z=>by rw[d] at z;cases z⟩
 keep:=fun i h h' st k=>st.at fun o e=>k it (by simp) o e
 item:=by
  intro X hP hw hK hc i pz s σ H E I hf st hg
  subst hP hw hK
  obtain⟨xs,x,hq,hx⟩:=hg
  obtain⟨its,rv,p,hz⟩:=I.list hq
  obtain⟨u,hu,ru⟩:=rv.get hx
  obtain⟨f0,f1,f2,f3,f4,f5⟩:=hf it (by simp)
  refine wpAny_pyNext_list_item st p.isList (x:=u) (by simpa using hu) fun h' st' sb=>?_
  have I1:Inv X pz σ H { s with heap:=h' }:=I.turned (t':=s.toks) (fun b o hb e=>(sb.2 b hb).trans e) f0 f1 f3 f4 f5
  obtain⟨o,e,c,d⟩:=id st'
  exact⟨u,rfl,r9 (s:={ s with heap:=h' }) e c d (by decide) ⟨x,H,I1,ru,⟨rfl,fun ys hy=>by rw[I.list_inj hy hq];exact hx⟩,st',fun b hb=>(hf b hb).1⟩⟩
 done:=by
  intro X hP hw hK hc i pz s σ H E I hf st hg
  subst hP hw hK
  obtain⟨xs,hq,hx⟩:=hg
  obtain⟨its,rv,p,hz⟩:=I.list hq
  obtain⟨f0,f1,f2,f3,f4,f5⟩:=hf it (by simp)
  have hl:=rv.length
  exact wpAny_pyNext_list_end (I.ok.hd hc) st p.isList (by simp;omega) fun h' eb=>⟨rfl,I.turned (t':=s.toks) (fun b o hb e=>eb b o hb e) f0 f1 f3 f4 f5⟩
 self:=fun _ _ _ _ _ st h=>wpAny_pyIter_listiter st h
section
variable {X:Cx} {tg:Expr}
def sf (K:Kq)(tl:TE):TI:=fun σ H R=>tl σ H fun x H1=>∃ a,x=.ref a∧(∃ xs,SqL K H1 a xs)∧R (Itl K a) H1
theorem jQ {l:Expr}{tl:TE}(hl:PE X l tl):PI X tg l (sf X.K tl):=by
 intro pz s σ H R I h
 refine bq (hl pz s σ H _ I h) fun v s1 x H1 I1 r1 q1=>?_
 obtain⟨a,e,⟨xs,hq⟩,q⟩:=q1
 subst e
 cases r1
 obtain⟨its,rv,p,hz⟩:=I1.list hq
 refine wpAny_pyIter_list p.isList ?_
 refine⟨s1.heap.objs.size,[s1.heap.objs.size],_,_,H1,rfl,I1.kept (t':=s1.toks) fun b o e=>Yf _ e,kC a _,⟨_,Ys _ rfl,rfl,rfl⟩,fun b hb=>?_,q⟩
 have e:b=s1.heap.objs.size:=by simpa using hb
 subst e
 exact I1.fpOk (Yw _) (I1.hok.fresh (Yw _))
def t6 (wi:TI)(g:TG)(tb:TS):TS:=fun D σ H=>wi σ H fun J H1=>∃ W:Nat→Nat→St→Hp→Prop,(∃ m,W 0 m σ H1)∧∀ i m σ H,W i m σ H→
 (J.stop i H∧D.nx σ H)∨(J.go i H∧∃ N:St→Hp→Prop,(∀ σ' H',N σ' H'→∃ m',m' < m∧W (i+1) m' σ' H')∧∀ x H',J.yld i H x H'→g x σ H' fun σ2 H2=>tb { D with nx:=N,ct:=N,bk:=D.nx } σ2 H2)
def fq (fp:List Addr)(h:Heap):List (Addr×Obj):=fp.filterMap fun b=>(h.get? b).map fun o=>(b,o)
theorem cn {fp:List Addr}{h:Heap}{b:Addr}{o:Obj}(hb:b∈fp)(e:h.get? b=some o):(b,o)∈fq fp h:=Vw.mpr ⟨b,hb,by rw[e];rfl⟩
theorem km {fp:List Addr}{h:Heap}{p:Addr×Obj}(hp:p∈fq fp h):p.1∈fp∧h.get? p.1=some p.2:=by
 obtain⟨b,hb,e⟩:=Vw.mp hp
 cases q:h.get? b with
 | none=>rw[q] at e;cases e
 | some o=>
  rw[q] at e
  have e':(b,o)=p:=Yx e
  subst e'
  exact⟨hb,q⟩
theorem Inv.pinned {pz:Kp}{σ:St}{H:Hp}{s:Shared}{fp:List Addr}(I:Inv X pz σ H s)(hf:∀ b∈fp,dD X pz H b)(ho:∀ b∈fp,∃ o,s.heap.get? b=some o∧∀ v,o.data≠.cell v):Inv X (pz++fq fp s.heap) σ H s:=
 I.pins_of fun p hp=>(Yz.mp hp).elim (fun z=>I.pin p (Yt _ z)) fun z=>by
  obtain⟨hb,e⟩:=km z
  obtain⟨f0,f1,f2,_⟩:=hf p.1 hb
  obtain⟨o,e',d⟩:=ho p.1 hb
  rw[e] at e';cases e'
  exact⟨e,f0,f1,f2,d⟩
theorem Inv.unpinned {pz pl:Kp}{σ:St}{H:Hp}{s:Shared}(I:Inv X (pz++pl) σ H s):Inv X pz σ H s:=I.pins_of fun p hp=>I.pin p (Yt _ (YK _ hp))
theorem p3 {iter:Expr}{body:List Stmt}{wi:TI}{g:TG}{tb:TS}{pos:Pos}(hp:PassesOwn (model X.prog X.w) X.A X.env X.xe)(hc:X.calm=true)(hi:PI X tg iter wi)(hg:PG X tg g)(hb:PSs X body tb)
  (hs:∀ x,foldedSetIterable iter X.env x=pure x:=by intro _;rfl):PS X (.For tg iter body [] pos) (t6 wi g tb):=by
 intro pz s σ H D I h
 refine wpAny_For (thn (hi pz s σ H _ I h) fun v s1 h1=>thn h1 fun itv s2 h2=>?_) hs
 obtain⟨it,fp,tn,J,H2,e,I2,T,st2,f2,W,⟨m0,w0⟩,turn⟩:=h2
 subst e
 -- what stays true of the iterator's objects through the loop
 have stat:∀ {H':Hp},(∀ b∈fp,H' b=none)→∀ b∈fp,dD X pz H' b:=fun hn b hb=>⟨hn b hb,(f2 b hb).2⟩
 refine codeAny_forLoop_any (fun n s'=>∃ i σ' H',Inv X pz σ' H' s'∧tn i s'.heap∧(∀ b∈fp,H' b=none)∧W i n σ' H') ?_ m0 ⟨0,σ,H2,I2,st2,fun b hb=>(f2 b hb).1,w0⟩
 rintro n s3 ⟨i,σ3,H3,I3,st3,fr3,w3⟩
 rcases turn i n σ3 H3 w3 with⟨stop,qn⟩ | ⟨go,N,hN,step⟩
 ·refine XI hp (thn (T.done X rfl rfl rfl hc i pz s3 σ3 H3 X.xe I3 (stat fr3) st3 stop) fun r s4 ⟨hr,I4⟩=>?_)
  subst hr
  exact wpAny_execs_nil ⟨σ3,H3,I4,qn⟩
 ·refine XI hp (thn (T.item X rfl rfl rfl hc i pz s3 σ3 H3 X.xe I3 (stat fr3) st3 go) fun r s4 ⟨u,hr,h4⟩=>?_)
  subst hr
  refine XI hp (thn h4 fun _ s5 hh_=>?_)
  obtain⟨x,H5,I5,r5,y5,st5,fr5⟩:=hh_
  have I5':=I5.pinned (stat fr5) (T.obj _ _ st5)
  refine XI hp (thn (hg _ s5 σ3 H5 x u _ I5' r5 (step x H5 y5)) fun _ s6 hh_=>?_)
  obtain⟨σ6,H6,I6,q6⟩:=hh_
  refine XI hp (thn (hb _ s6 σ6 H6 _ I6 q6) fun f s7 q7=>?_)
  have again:∀ {σ7:St} {H7:Hp},Inv X (pz++fq fp s5.heap) σ7 H7 s7→N σ7 H7→∃ m,m<n∧∃ i σ' H',Inv X pz σ' H' s7∧tn i s7.heap∧(∀ b∈fp,H' b=none)∧W i m σ' H':=fun {σ7 H7} I7 n7=>by
   obtain⟨m',hm,w7⟩:=hN σ7 H7 n7
   refine⟨m',hm,i+1,σ7,H7,I7.unpinned,T.keep _ _ _ st5 fun b hb o e=>(I7.pin (b,o) (Yt _ (Yt _ (cn hb e)))).1,fun b hb=>?_,w7⟩
   obtain⟨o,e,d⟩:=T.obj _ _ st5 b hb
   exact (I7.pin (b,o) (Yt _ (Yt _ (cn hb e)))).2.1
  cases f with
  | next=>obtain⟨σ7,H7,I7,n7⟩:=q7;exact again I7 n7
  | cont=>obtain⟨σ7,H7,I7,n7⟩:=q7;exact again I7 n7
  | brk=>obtain⟨σ7,H7,I7,q7⟩:=q7;exact⟨σ7,H7,I7.unpinned,q7⟩
  | ret v=>obtain⟨x7,σ7,H7,I7,r7,q7⟩:=q7;exact⟨x7,σ7,H7,I7.unpinned,r7,q7⟩
end
abbrev R2:=V→V→Hp→VK→Prop
def OpR (X:Cx)(f:Value→Value→Sem Value)(r:R2):Prop:=
 ∀ (pz:Kp) (s:Shared) (σ:St) (H:Hp) (x y:V) (v u:Value) (Q:VK),Inv X pz σ H s→RelV x v→RelV y u→r x y H Q→
  wpAny (model X.prog X.w) X.A (f v u) (EP X pz σ Q) X.xe s
def CallR (X:Cx)(f:Value)(r:List V→Hp→VK→Prop):Prop:=
 ∀ (pz:Kp) (s:Shared) (σ:St) (H:Hp) (xs:List V) (us:List Value) (Q:VK),Inv X pz σ H s→Vals xs us→r xs H Q→
  wpAny (model X.prog X.w) X.A (call f us) (EP X pz σ Q) X.xe s
def tOp (r:R2)(ta tb:TE):TE:=fun σ H Q=>ta σ H fun x H1=>tb σ H1 fun y H2=>r x y H2 Q
def rI (C:Int→Int→Prop)(g:Int→Int→V):R2:=fun x y H Q=>∃ i j,x=.int i∧y=.int j∧C i j∧Q (g i j) H
def rI0 (g:Int→Int→V):R2:=fun x y H Q=>∃ i j,x=.int i∧y=.int j∧Q (g i j) H
section
variable {X:Cx} {a b c:Expr} {ta tb tc:TE} {pos:Pos}
theorem qT (ha:PE X a ta)(hb:PE X b tb){pz:Kp}{s:Shared}{σ:St}{H:Hp}{R:V→V→Hp→Prop}(I:Inv X pz σ H s)
  (h:ta σ H fun x H1=>tb σ H1 fun y H2=>R x y H2) {Q:Kv} {f:Value→Value→Sem Value}
  (hf:∀ v u s2 x y H2,Inv X pz σ H2 s2→RelV x v→RelV y u→R x y H2→wpAny (model X.prog X.w) X.A (f v u) Q X.xe s2) :
  wpAny (model X.prog X.w) X.A (eval a X.env) (fun v s₁=>wpAny (model X.prog X.w) X.A (eval b X.env) (fun u s₂=>wpAny (model X.prog X.w) X.A (f v u) Q X.xe s₂) X.xe s₁) X.xe s:=by
 refine bq (ha pz s σ H _ I h) fun v s1 x H1 I1 r1 q1=>?_
 refine bq (hb pz s1 σ H1 _ I1 q1) fun u s2 y H2 I2 r2 q2=>?_
 exact hf v u s2 x y H2 I2 r1 r2 q2
theorem rM {op:Operator}{r:R2}(ho:OpR X (binaryOp op) r)(ha:PE X a ta)(hb:PE X b tb):PE X (.BinOp a op b pos) (tOp r ta tb):=by
 intro pz s σ H Q I h
 exact wpAny_BinOp (qT ha hb I h fun v u s2 x y H2 I2 rx ry q=>ho pz s2 σ H2 x y v u Q I2 rx ry q)
theorem opI {f:Value→Value→Sem Value}{C:Int→Int→Prop}{g:Int→Int→Int}
  (rule:∀ (i j:Int) (t u:Tok) (s:Shared) (Q:Kv) (E:Kv),C i j→Q (.int (g i j) s.toks) { s with toks:=s.toks+1 }→wpAny (model X.prog X.w) X.A (f (.int i t) (.int j u)) Q E s) :
  OpR X f (rI C fun i j=>.int (g i j)):=by
 intro pz s σ H x y v u Q I rx ry h
 obtain⟨i,j,rfl,rfl,hc,q⟩:=h
 obtain⟨t,rfl⟩:=rx
 obtain⟨t',rfl⟩:=ry
 exact rule i j t t' s _ _ hc ⟨.int (g i j),H,I.tok _,⟨_,rfl⟩,q⟩
theorem rR {f:Value→Value→Sem Value}{g:Int→Int→Int}
  (rule:∀ (i j:Int) (t u:Tok) (s:Shared) (Q:Kv) (E:Kv),Q (.int (g i j) s.toks) { s with toks:=s.toks+1 }→wpAny (model X.prog X.w) X.A (f (.int i t) (.int j u)) Q E s) :
  OpR X f (rI0 fun i j=>.int (g i j)):=by
 intro pz s σ H x y v u Q I rx ry h
 obtain⟨i,j,rfl,rfl,q⟩:=h
 obtain⟨t,rfl⟩:=rx
 obtain⟨t',rfl⟩:=ry
 exact rule i j t t' s _ _ ⟨.int (g i j),H,I.tok _,⟨_,rfl⟩,q⟩
def tY (i j:Int):Prop:=0<j∧j<1073741824
def t7 (i j:Int):Prop:=0≤j∧j≤1000000∧i.natAbs<2 ^ 64
def CMul (i j:Int):Prop:=(-(2 ^ 64)<i∧i<2 ^ 64)∨(-(2 ^ 64)<j∧j<2 ^ 64)
theorem CMul.ok {i j:Int}(h:CMul i j):IntMulOk i j:=by
 rcases h with⟨h1,h2⟩ | ⟨h1,h2⟩
 ·exact .of_left (intBits_le_64 h1 h2)
 ·exact .of_right (intBits_le_64 h1 h2)
theorem qz:OpR X (binaryOp .Add) (rI0 fun i j=>.int (i+j)):=rR fun _ _ _ _ _ _ _ q=>add_int q
theorem pN:OpR X (binaryOp .Sub) (rI0 fun i j=>.int (i-j)):=rR fun _ _ _ _ _ _ _ q=>sub_int q
theorem qE:OpR X (binaryOp .Mult) (rI CMul fun i j=>.int (i*j)):=opI fun _ _ _ _ _ _ _ hc q=>mul_int q hc.ok
theorem nC:OpR X (binaryOp .FloorDiv) (rI tY fun i j=>.int (i/j)):=opI fun i j _ _ _ _ _ hc q=>by
 have h1:(0:Int)<j:=hc.1
 have h2:j<1073741824:=hc.2
 exact floordiv_int (by omega) (by rw[Int.fdiv_eq_ediv_of_nonneg i (by omega)];exact q) (.inl (PyProof.noPylong_small (by omega)))
theorem pM:OpR X (binaryOp .Mod) (rI (fun _ j=>0<j) fun i j=>.int (i%j)):=opI fun i j _ _ _ _ _ hc q=>by
 have h1:(0:Int)<j:=hc
 exact mod_int' (by omega) (by rw[Int.fmod_eq_emod_of_nonneg i (by omega)];exact q)
theorem qN:OpR X (binaryOp .Pow) (rI t7 fun i j=>.int (i ^ j.toNat)):=opI fun _ _ _ _ _ _ _ hc q=>pow_int_small hc.1 hc.2.1 hc.2.2 q
end
section
variable {X:Cx} {a b c:Expr} {ta tb tc:TE} {pos:Pos}
theorem OpR.or {f:Value→Value→Sem Value}{r r':R2}(h:OpR X f r)(h':OpR X f r'):OpR X f (fun x y H Q=>r x y H Q∨r' x y H Q):=by
 intro pz s σ H x y v u Q I rx ry q
 rcases q with q | q
 ·exact h pz s σ H x y v u Q I rx ry q
 ·exact h' pz s σ H x y v u Q I rx ry q
theorem gP (b:Expr){op:CmpOp}(h:op≠.In:=by decide)(h2:op≠.NotIn:=by decide):behindInMarks op b=false:=by
 have e1:(op == CmpOp.In)=false:=by cases op <;> first | rfl | exact absurd rfl h
 have e2:(op == CmpOp.NotIn)=false:=by cases op <;> first | rfl | exact absurd rfl h2
 cases b <;> simp[behindInMarks,e1,e2]
theorem ov {op:CmpOp}{r:R2}(ho:OpR X (compareOp op) r)(ha:PE X a ta)(hb:PE X b tb)(hm:behindInMarks op b=false):PE X (.Compare a [op] [b] pos) (tOp r ta tb):=by
 intro pz s σ H Q I h
 exact wpAny_Compare1 (qT ha hb I h fun v u s2 x y H2 I2 rx ry q=>ho pz s2 σ H2 x y v u Q I2 rx ry q) hm
def pi (t:TE):TT:=fun σ H Q=>t σ H fun x H'=>∃ k,x=.bl k∧Q k H'
theorem nU {op:CmpOp}{r:R2}(ho:OpR X (compareOp op) r)(ha:PE X a ta)(hb:PE X b tb)(hm:behindInMarks op b=false):PT X (.Compare a [op] [b] pos) (pi (tOp r ta tb)):=by
 intro pz s σ H Q I h
 refine wpAny_isTrue_Compare1 (bq (ha pz s σ H _ I h) fun v s1 x H1 I1 r1 q1=>bq (hb pz s1 σ H1 _ I1 q1) fun u s2 y H2 I2 r2 q2=>
  bq (ho pz s2 σ H2 x y v u _ I2 r1 r2 q2) fun c s3 z H3 I3 r3 ⟨k,e,q3⟩=>?_) hm
 subst e
 cases r3
 exact Xp ⟨H3,I3,q3⟩
theorem e7:(sizeLine:Nat)<2 ^ 63:=by rw[YY];decide
theorem jq:OpR X (binaryOp .Add) (fun x y H Q=>∃ i j,x=.str i∧y=.str j∧i.length+j.length≤sizeLine∧Q (.str (i++j)) H):=by
 intro pz s σ H x y v u Q I rx ry h
 obtain⟨i,j,rfl,rfl,hz,q⟩:=h
 obtain⟨t,rfl⟩:=rx
 obtain⟨t',rfl⟩:=ry
 exact add_str (fun t' tk=>⟨.str (i++j),H,I.tok _,⟨_,rfl⟩,q⟩) hz
theorem dQ {x:V}{us:List Value}(r:Vals [x] us):∃ u,us=[u]∧RelV x u:=by
 cases r with
 | cons r1 r2=>cases r2;exact⟨_,rfl,r1⟩
theorem rd {x y:V}{us:List Value}(r:Vals [x,y] us):∃ u w',us=[u,w']∧RelV x u∧RelV y w':=by
 cases r with
 | cons r1 r2=>
  cases r2 with
  | cons r3 r4=>cases r4;exact⟨_,_,rfl,r1,r3⟩
end
section
variable {prog:Program} {w:World} {A:Around} {E:Kv} {s:Shared} {K:Kq} {x dx C f:Addr} {mA:Ks} {name:Str} {v:Value}
end
section
variable {P:Program} {w:World} {H H':Hp} {h h':Heap} {a C dx:Addr} {fs fs':List (Str×V)}
end
section
variable {X:Cx} {pz:Kp} {σ:St} {H:Hp} {s:Shared} {a C dx:Addr} {fs:List (Str×V)} {f:Str} {v:V} {A:Around} {E:Kv}
end
section
variable {X:Cx} {o e value:Expr} {f:Str} {pos pos' tpos:Pos} {ta tv:TE}
end
section
variable {X:Cx} {pz:Kp} {σ:St} {H:Hp} {s:Shared} {A:Around} {E:Kv} {Q:Kv} {c:Value} {b:Bool}
end
structure Room (k:Nat) (A:Around):Prop where
 hd:A.handled=none
 dp:A.depth+3*k+5<recursionLimit
 un:A.units+16*k+200<cLine
theorem Room.mono {j k:Nat}{A:Around}(r:Room k A)(h:j≤k):Room j A:=⟨r.hd,by have:=r.dp;omega,by have:=r.un;omega⟩
theorem Room.deeper {k:Nat}{A:Around}(r:Room (k+1) A)(env:Env):Room k (A.deeper env):=
 ⟨r.hd,by have:=r.dp;show A.depth+1+3*k+5<_;omega,by have:=r.un;show A.units+3+16*k+200<_;omega⟩
theorem Room.depth {k:Nat}{A:Around}(r:Room k A):A.depth<recursionLimit:=by have:=r.dp;omega
def qa:TA:=fun _ H Q=>Q [] H
def m8 (ta:TE)(tr:TA):TA:=fun σ H Q=>ta σ H fun x H1=>tr σ H1 fun xs H2=>Q (x::xs) H2
section
variable {X:Cx} {e:Expr} {es:List Expr} {te:TE} {t:TA} {pos:Pos}
theorem bS:PA X [] qa:=fun _ _ _ _ H Q I h=>Calls.spliced_nil ⟨[],H,I,.nil,h⟩
theorem aW (ha:PE X e te)(hr:PA X es t)(hs:starEach (e::es) X.env=(false,eval e X.env)::starEach es X.env:=by rfl):PA X (e::es) (m8 te t):=by
 intro pos pz s σ H Q I h
 rw[hs]
 show wpAny _ _ (spliced ((false,eval e X.env)::backTo pos (starEach es X.env))) _ _ s
 refine Calls.spliced_cons (bq (ha pz s σ H _ I h) fun u s1 x H1 I1 r1 q1=>?_)
 exact bq (hr pos pz s1 σ H1 _ I1 q1) fun us s2 xs H2 I2 r2 q2=>⟨x::xs,H2,I2,.cons r1 r2,q2⟩
def ua (t:TA):TE:=fun σ H Q=>t σ H fun xs H1=>xs.length≤sizeLine∧∀ p,H1 p=none→Q (.ref p) (upd H1 p (.tup xs))
def t5 (t:TA):TE:=fun σ H Q=>t σ H fun xs H1=>xs.length≤sizeLine∧∀ p,H1 p=none→Q (.ref p) (upd H1 p (.lst xs))
theorem pJ {x1}(h:PA X es t):PE X (.Tuple es x1 pos) (ua t):=by
 intro pz s σ H Q I hq
 refine wpAny_Tuple_spliced (bq (h pos pz s σ H _ I hq) fun us s1 xs H1 I1 r ⟨z,q⟩=>⟨by rw[← r.length];exact z,?_⟩)
 have hf:H1 s1.heap.objs.size=none:=I1.hok.fresh (Yw _)
 refine⟨.ref s1.heap.objs.size,upd H1 s1.heap.objs.size (.tup xs),I1.laid (t':=s1.toks) (fun b u e=>Yf _ e) (Yw _) ?_,rfl,q _ hf⟩
 exact⟨z,us,r,⟨_,Ys _ rfl,rfl,_,rfl⟩,_,Ys _ rfl,rfl⟩
theorem pG (h:PA X es t):PE X (.List es pos) (t5 t):=by
 intro pz s σ H Q I hq
 refine wpAny_List_spliced (bq (h pos pz s σ H _ I hq) fun us s1 xs H1 I1 r ⟨z,q⟩=>⟨by rw[← r.length];exact z,?_⟩)
 have hf:H1 s1.heap.objs.size=none:=I1.hok.fresh (Yw _)
 refine⟨.ref s1.heap.objs.size,upd H1 s1.heap.objs.size (.lst xs),I1.laid (t':=s1.toks) (fun b u e=>Yf _ e) (Yw _) ?_,rfl,q _ hf⟩
 exact⟨z,us,0,r,Ys _ rfl⟩
end
abbrev Sp:=List V→Hp→VK→XK→Prop
abbrev CXT:=List Env→Hp→Shared→XK→Value→Shared→Prop
structure Env0 (P:Program) (w:World) (K:PySem.W.Frag) (mg:Str→Option Value) (base:Heap) (A:Around) (outer:List Env) (s:Shared) (H:Hp):Prop where
 frames:A.frames=some outer
 mod:Mod K mg base
 bs:∀ b o,base.get? b=some o→s.heap.get? b=some o∧H b=none
 bsz:base.objs.size≤s.heap.objs.size
 funs:s.heap.FunFrames base outer
 frf:∀ b∈frs outer,H b=none
 hok:HOk P w H s.heap
 bare:AllBare s.gens
def CE (outer:List Env)(P:Program)(w:World)(H:Hp)(s:Shared)(Q:VK)(u:Value)(s':Shared):Prop:=
 ∃ v H',s'.os=s.os∧AllBare s'.gens∧Un (frs outer) [] H H' s.heap s'.heap∧HOk P w H' s'.heap∧RelV v u∧Q v H'
def CR (CX:CXT)(outer:List Env)(P:Program)(w:World)(H:Hp)(s:Shared)(Q:VK)(E:XK)(r:Result)(s':Shared):Prop:=
 match r with
 | .ok (.ret u)=>CE outer P w H s Q u s'
 | .ok _=>False
 | .error e=>CX outer H s E e s'
structure FnOk (P:Program) (w:World) (K:PySem.W.Frag) (mg:Str→Option Value) (base:Heap) (CX:CXT) (k:Nat) (f:Addr) (fd:FuncData) (ps:List Str) (sp:Sp):Prop where
 len:∀ vs H Q E,sp vs H Q E→vs.length=ps.length
 run:∀ (A:Around) (outer:List Env) (s:Shared) (H:Hp) (args:Args) (us:List Value) (vs:List V) (Q:VK) (E:XK),Room k A→Env0 P w K mg base A outer s H→BindsTo s fd args (ps.zip us)→Vals vs us→sp vs H Q E→
  codeAny (model P w) A (.call (.ref f) args) (CR CX outer P w H s Q E) s
theorem FnOk.imp {P:Program}{w:World}{K:Kq}{mg:Ks}{base:Heap}{CX:CXT}{k:Nat}{f:Addr}{fd:FuncData}{ps:List Str}{sp sp':Sp}(F:FnOk P w K mg base CX k f fd ps sp)
  (h:∀ vs H Q E,sp' vs H Q E→sp vs H Q E):FnOk P w K mg base CX k f fd ps sp':=
 ⟨fun vs H Q E q=>F.len vs H Q E (h _ _ _ _ q),fun A outer s H args us vs Q E hr he hb hv hs=>F.run A outer s H args us vs Q E hr he hb hv (h _ _ _ _ hs)⟩
section
variable {X:Cx} {pz:Kp} {σ:St} {H:Hp} {s s':Shared}
theorem Inv.env0 (I:Inv X pz σ H s):Env0 X.prog X.w X.K X.mg X.base X.A X.stack s H:=
 ⟨I.ok.frames,I.ok.mod,I.bs,Zi I.ok.bsz I.sz,I.stack,I.stkFree,I.hok,I.bare⟩
theorem Inv.after {Q:VK}{u:Value}(I:Inv X pz σ H s)(h:CE X.stack X.prog X.w H s Q u s'):EP X pz σ Q u s':=by
 obtain⟨v,H',os,bare,un,hok,r,q⟩:=h
 obtain⟨hh,g,d,t,os'⟩:=s'
 obtain rfl:os'=s.os:=os
 exact⟨v,H',I.call (h':=hh) (g':=g) (d':=d) (t':=t) (ch:=[]) un hok bare (fun b z=>absurd z (by simp)),r,q⟩
end
def mw (sp:Sp)(dvs:List V)(E:XK)(t:TA):TE:=fun σ H Q=>t σ H fun vs H1=>sp (vs++dvs) H1 Q E
def Binds (K:Kq)(fd:FuncData)(ps:List Str)(ds:List Value):Prop:=
 ∀ (s:Shared) (us:List Value),K.In s.heap→(us++ds).length=ps.length→BindsTo s fd ⟨us,[]⟩ (ps.zip (us++ds))
theorem Binds.all {K:Kq}{fd:FuncData}{ps:List Str}(h:∀ us:List Value,us.length=ps.length→bindArgs fd ⟨us,[]⟩=pure (ps.zip us)):Binds K fd ps []:=fun s us _ hl=>by
 rw[YI] at hl ⊢
 exact .of_eq (h us hl)
def jf (CX:CXT)(X:Cx)(E:XK):Prop:=∀ (pz:Kp) (σ:St) (H:Hp) (s:Shared) (e:Value) (s':Shared),Inv X pz σ H s→CX X.stack H s E e s'→X.xe e s'
section
variable {X:Cx} {CX:CXT} {k:Nat} {f C:Addr} {fd:FuncData} {ps:List Str} {sp:Sp} {dvs:List V} {ds:List Value} {E:XK} {x m:Str} {p pos apos:Pos} {e o:Expr} {es:List Expr} {ta:TE} {t:TA}
theorem qO {pz:Kp}{σ:St}{H:Hp}{s:Shared}{Q:VK}{us:List Value}{vs:List V}(F:FnOk X.prog X.w X.K X.mg X.base CX k f fd ps sp)(hr:Room k X.A)(hb:Binds X.K fd ps ds)(hd:Vals dvs ds)(hx:jf CX X E)
  (I:Inv X pz σ H s) (r:Vals vs us) (h:sp (vs++dvs) H Q E):wpAny (model X.prog X.w) X.A (call (.ref f) us) (EP X pz σ Q) X.xe s:=by
 have r2:Vals (vs++dvs) (us++ds):=r.append hd
 have hl:(us++ds).length=ps.length:=by rw[← r2.length];exact F.len _ _ _ _ h
 refine wpAny_call (codeAny_mono (F.run X.A X.stack s H ⟨us,[]⟩ (us++ds) (vs++dvs) Q E hr I.env0 (hb s us I.kIn hl) r2 h) fun r s' hq=>?_)
 cases r with
 | error e=>exact hx pz σ H s e s' I hq
 | ok fl=>
  cases fl with
  | ret u=>exact I.after hq
  | next=>exact False.elim hq
  | brk=>exact False.elim hq
  | cont=>exact False.elim hq
theorem jK (F:FnOk X.prog X.w X.K X.mg X.base CX k f fd ps sp)(hr:Room k X.A)(hg:Gl X x)(hm:X.mg x=some (.ref f))(hk:PySem.W.keepIn X.K (.ref f)=true)(hb:Binds X.K fd ps ds)(hd:Vals dvs ds)(hx:jf CX X E)
  (ha:PA X (e::es) t) (hdb:(x == ("__debug__":Str))=false:=by decide) (he:starEach (e::es) X.env=(false,eval e X.env)::starEach es X.env:=by rfl) (hpl:(backTo pos (starEach es X.env)).any (·.1)=false:=by rfl) :
  PE X (.Call (.Name x p) (e::es) [] pos) (mw sp dvs E t):=by
 intro pz s σ H Q I h
 refine wpAny_Call_Name_kw (np I hg hm ?_ hdb)
 refine PySem.W.callWith_K (h₀:=X.base) I.ok.mod.kin hk (bq (ha pos pz s σ H _ I h) fun us s1 vs H1 I1 r q=>⟨I1.kIn,?_⟩) he hpl
 exact qO F hr hb hd hx I1 r q
end
section
variable {X:Cx} {CX:CXT} {k:Nat} {f C:Addr} {fd:FuncData} {ps ks:List Str} {sp:Sp} {E:XK} {x m:Str} {p pos apos kpos:Pos} {e o:Expr} {es:List Expr} {kws:List Keyword} {te ta:TE} {t tk:TA} {nm:Option Str}
variable {g:List Value→List Value→List Value} {gV:List V→List V→List V}
end
structure FnScope (N P:List Str) (sc:Scope):Prop where
 kind:sc.kind=.function
 co:sc.isCoroutine=false
 gen:sc.isGenerator=false
 nd:N.Nodup
 pre:N.take P.length=P
 par:∀ x∈P,sc.names.lookup x=some .local∨sc.names.lookup x=some .cell
 nofree:∀ y∈sc.names,y.2≠.free
theorem gq {kindOf:Str→Option NameKind}{x:Str}:∀ {binds:List (Str×Value)} {m:Ks},(∀ v,(x,v)∉binds)→bindL kindOf binds m x=m x
 | [],_,_=>rfl
 | (n,v)::r,m,h=>by
  unfold bindL
  rw[gq fun w hw=>h w (Yb _ hw)]
  split
  ·have:x≠n:=by rintro rfl;exact h v Yc
   simp[this]
  ·rfl
theorem fS {kindOf:Str→Option NameKind}{x:Str}:∀ {binds:List (Str×Value)} {m:Ks},(∀ v,(x,v)∉binds)→bindC kindOf binds m x=m x
 | [],_,_=>rfl
 | (n,v)::r,m,h=>by
  unfold bindC
  rw[fS fun w hw=>h w (Yb _ hw)]
  split
  ·rfl
  ·have:x≠n:=by rintro rfl;exact h v Yc
   simp[this]
theorem fW {kindOf:Str→Option NameKind}{x:Str}{v:Value}:∀ {P:List Str} {vs:List Value} {i:Nat} {m:Ks},P.Nodup→P[i]?=some x→vs[i]?=some v→kindOf x=some .local→
  bindL kindOf (P.zip vs) m x=some v
 | [],_,_,_,_,h,_,_=>by simp at h
 | _::_,[],_,_,_,_,h,_=>by simp at h
 | p::P,w::vs,0,m,nd,h1,h2,hk=>by
  simp at h1 h2;subst h1;subst h2
  show bindL kindOf ((p,w)::P.zip vs) m p=_
  unfold bindL
  rw[gq fun v hv=>(ZR.mp nd).1 (List.of_mem_zip hv).1,Yn hk]
  simp
 | p::P,w::vs,i+1,m,nd,h1,h2,hk=>by
  show bindL kindOf ((p,w)::P.zip vs) m x=_
  unfold bindL
  exact fW (i:=i) (ZR.mp nd).2 (by simpa using h1) (by simpa using h2) hk
theorem gf {kindOf:Str→Option NameKind}{x:Str}{v:Value}:∀ {P:List Str} {vs:List Value} {i:Nat} {m:Ks},P.Nodup→P[i]?=some x→vs[i]?=some v→kindOf x≠some .local→
  bindC kindOf (P.zip vs) m x=some v
 | [],_,_,_,_,h,_,_=>by simp at h
 | _::_,[],_,_,_,_,h,_=>by simp at h
 | p::P,w::vs,0,m,nd,h1,h2,hk=>by
  simp at h1 h2;subst h1;subst h2
  show bindC kindOf ((p,w)::P.zip vs) m p=_
  unfold bindC
  rw[fS fun v hv=>(ZR.mp nd).1 (List.of_mem_zip hv).1,Yo hk]
  simp
 | p::P,w::vs,i+1,m,nd,h1,h2,hk=>by
  show bindC kindOf ((p,w)::P.zip vs) m x=_
  unfold bindC
  exact gf (i:=i) (ZR.mp nd).2 (by simpa using h1) (by simpa using h2) hk
def start (N:List Str)(vs:List V):St:=vs.map some++List.replicate (N.length-vs.length) none
def jj (CX:CXT)(P:Program)(w:World)(K:Kq)(mg:Ks)(base:Heap)(N:List Str)(qual:Str)(scope:Scope)(f:Addr)(cd:Value)(A:Around)(outer:List Env)(s:Shared)(H:Hp)(E:XK):Cx where
 prog:=P
 w:=w
 K:=K
 mg:=mg
 base:=base
 A:=A.deeper (envOfC qual scope s.heap.objs.size f cd)
 N:=N
 s₀:=s
 H₀:=H
 env:=envOfC qual scope s.heap.objs.size f cd
 outer:=outer
 stack:=envOfC qual scope s.heap.objs.size f cd::outer
 ex:=[]
 calm:=true
 fn:=fun _=>true
 pn:=[]
 xe:=fun e s'=>wpAny (model P w) (A.deeper (envOfC qual scope s.heap.objs.size f cd)) (leaving (envOfC qual scope s.heap.objs.size f cd) e) (fun _ s''=>CX outer H s E e s'') (fun e' s''=>CX outer H s E e' s'') s'
theorem iH {sc:Scope}{n:Nat}{x:Str}(h:sc.names.lookup x=some .cell):∃ c,(cellsFrom n sc.names []).lookup x=some c:=by
 have q:=Xh sc.names n [] (.inl h)
 exact ZB.mp q
theorem kg {CX:CXT}{P:Program}{w:World}{K:Kq}{mg:Ks}{base:Heap}{N ps:List Str}{qual:Str}{scope:Scope}{f:Addr}{cd:Value}{A:Around}{outer:List Env}{s s1:Shared}{H:Hp}{E:XK}{us:List Value}{vs:List V}
  (S:FnScope N ps scope) (hd:A.handled=none) (e0:Env0 P w K mg base A outer s H) (hl:vs.length=ps.length) (r:Vals vs us)
  (x:InCallC s s.heap.objs.size (bindL (envOfC qual scope s.heap.objs.size f cd).kindOf (ps.zip us) fun _=>none) (cellsFrom (s.heap.objs.size+1) scope.names []) (bindC (envOfC qual scope s.heap.objs.size f cd).kindOf (ps.zip us) fun _=>none) s1) :
  Inv (jj CX P w K mg base N qual scope f cd A outer s H E) [] (start N vs) H s1:=by
 have hpl:ps.length≤N.length:=by have:=ZP List.length S.pre;rw[YU] at this;omega
 obtain⟨h1,tk,rfl,hk⟩:=x.done
 have noA:∀ b:Addr,b∉(jj CX P w K mg base N qual scope f cd A outer s H E).ex:=fun b z=>absurd (show b∈([]:List Addr) from z) (by simp)
 refine⟨⟨e0.mod,S.kind,rfl,rfl,Yw _,fun y z c h1 h2=>?_,fun y hy=>?_,fun y c _ h=>?_,fun _=>hd,Around.frames_deeper e0.frames,.inr ⟨rfl,rfl⟩,fun b z=>absurd z (noA b),e0.bs,e0.bsz,fun b _ _=>noA b,fun b z=>absurd z (noA b),e0.funs,e0.frf⟩,
  rfl,e0.bare,Un.kept hk,⟨_,x.toInCall.ns,fun i y v h1 h2 h3=>?_⟩,fun y c h=>⟨_,x.cell y c h⟩,e0.hok.fresh (Yw _),fun y c h=>?_,fun p hp=>absurd (show p∈([]:Kp) from hp) (by simp),e0.hok.kept hk,?_⟩
 ·exact name_of_addr x.apart (Zo h1) (Zo h2)
 ·have hy:scope.names.lookup y=some .cell∨scope.names.lookup y=some .free:=hy
  rcases hy with hy | hy
  ·exact iH hy
  ·exact absurd rfl (S.nofree _ (Zo hy))
 ·exact XE (x.above y c (Zo h))
 ·have hi:i<vs.length:=by
   unfold start at h2
   by_cases hi:i<vs.length
   ·exact hi
   ·rw[YQ (by simpa using hi)] at h2
    rw[ZV] at h2
    split at h2 <;> cases h2
  have ha:vs[i]?=some v:=by
   unfold start at h2
   rw[YX (by simpa using hi),YZ] at h2
   cases e:vs[i]? with
   | none=>rw[e] at h2;cases h2
   | some a=>rw[e] at h2;cases h2;rfl
  obtain⟨u,hu,rv⟩:=r.get ha
  have hp:ps[i]?=some y:=by
   rw[← S.pre,ZS (by omega)];exact h1
  have ndP:ps.Nodup:=by rw[← S.pre];exact S.nd.sublist (List.take_sublist _ _)
  refine⟨u,rv,?_⟩
  rcases S.par y (YG hp) with k | k
  ·exact .inl ⟨k,fW ndP hp hu k⟩
  ·obtain⟨c,e⟩:=iH (n:=s.heap.objs.size+1) k
   refine .inr ⟨.inl k,c,e,?_⟩
   have q:=x.cell y c e
   rw[gf ndP hp hu (by show scope.names.lookup y≠_;rw[k];decide)] at q
   exact q
 ·exact e0.hok.fresh (XE (x.above y c (Zo h)))
 ·unfold start
  show _=N.length
  rw[Yk,YA,YL]
  omega
theorem rg {CX:CXT}{P:Program}{w:World}{K:Kq}{mg:Ks}{base:Heap}{k:Nat}{f:Addr}{name qual:Str}{params:Arguments}{body:List Stmt}{scope:Scope}{dV kV doc pm cdv ct oc:Value}{an od:Option Addr}
  {osl:Array (Option Value)} {N ps:List Str} {sp:Sp} (lk:K.lookup f=some ⟨oc,od,.func (PySem.W.fnOf name qual params body scope dV kV doc pm an cdv ct),osl⟩) (hcd:PySem.W.codeIn K cdv qual=true) (S:FnScope N ps scope)
  (len:∀ vs H Q E,sp vs H Q E→vs.length=ps.length)
  (hbody:∀ (A:Around) (outer:List Env) (s:Shared) (H:Hp) (vs:List V) (Q:VK) (E:XK),Room k (A.deeper (envOfC qual scope s.heap.objs.size f cdv))→sp vs H Q E→
   ∃ t,PSs (jj CX P w K mg base N qual scope f cdv A outer s H E) body t∧t { nx:=fun _ H'=>Q .non H',rt:=Q } (start N vs) H) :
  FnOk P w K mg base CX (k+1) f (PySem.W.fnOf name qual params body scope dV kV doc pm an cdv ct) ps sp:=by
 refine⟨len,fun A outer s H args us vs Q E hr e0 hb r hsp=>?_⟩
 have hl:=len _ _ _ _ hsp
 have KX:K.In s.heap:=e0.mod.kin.keeps fun b o e=>(e0.bs b o e).1
 have lim:s.heap.NoLimit:=e0.mod.nolimit.keeps fun b o e=>(e0.bs b o e).1
 have hkind:∀ y∈ps.zip us,scope.names.lookup y.1=some .local∨(scope.names.lookup y.1=some .cell∧((cellsFrom (s.heap.objs.size+1) scope.names []).lookup y.1).isSome=true):=fun ⟨n,v⟩ hy=>by
  rcases S.par n (List.of_mem_zip hy).1 with q | q
  ·exact .inl q
  ·exact .inr ⟨q,Xh _ _ _ (.inl q)⟩
 refine codeAny_call_function hr.depth (KX _ _ lk) rfl S.co S.gen rfl (PySem.W.codeRec_of KX hcd) (hb _ _ _ _ ?_)
 refine wpAny_newFunctionEnv_cells S.kind hkind fun env he s1 x=>?_
 subst he
 refine⟨lim.keeps x.toInCall.keep,codeAny_func ?_⟩
 obtain⟨t,ht,hq⟩:=hbody A outer s H vs Q E (hr.deeper _) hsp
 have I:Inv (jj CX P w K mg base N qual scope f cdv A outer s H E) [] (start N vs) H s1:=kg S hr.hd e0 hl r x
 refine ZJ (ht [] s1 (start N vs) H _ I hq) (fun fl s' hs=>?_) fun e s' hs=>hs
 have fin:∀ {σ':St} {H':Hp} {v:V} {u:Value},Inv (jj CX P w K mg base N qual scope f cdv A outer s H E) [] σ' H' s'→RelV v u→Q v H'→CE outer P w H s Q u s':=
  fun {σ' H' v u} J rv q=>⟨v,H',J.os,J.bare,J.base,J.hok,rv,q⟩
 cases fl with
 | ret u=>
  obtain⟨v,σ',H',J,rv,q⟩:=hs
  exact fin J rv q
 | next=>
  obtain⟨σ',H',J,q⟩:=hs
  exact fin (v:=V.non) (u:=Value.none) J rfl q
 | brk=>
  obtain⟨_,_,_,q⟩:=hs
  exact False.elim q
 | cont=>
  obtain⟨_,_,_,q⟩:=hs
  exact False.elim q
section
variable {X:Cx} {x:Str} {p pos:Pos} {e:Expr} {es:List Expr} {t:TA} {id T:String} {r:List V→Hp→VK→Prop}
def tCB (r:List V→Hp→VK→Prop)(t:TA):TE:=fun σ H Q=>t σ H fun vs H1=>r vs H1 Q
theorem cV (hc:CallR X (.builtin id) r)(hg:Gl X x)(hm:X.mg x=none)(hv:bootBuiltins x=some (.builtin id))(ha:PA X (e::es) t)(hn:x ≠ "__name__":=by decide)(hdb:(x == ("__debug__":Str))=false:=by decide)
  (he:starEach (e::es) X.env=(false,eval e X.env)::starEach es X.env:=by rfl) (hpl:(backTo pos (starEach es X.env)).any (·.1)=false:=by rfl):PE X (.Call (.Name x p) (e::es) [] pos) (tCB r t):=by
 intro pz s σ H Q I h
 refine wpAny_Call_Name_kw (jv I hg hm hv ?_ hn hdb)
 exact PyProof.Rows.callWith_builtin1 (bq (ha pos pz s σ H _ I h) fun us s1 vs H1 I1 r1 q1=>hc pz s1 σ H1 vs us Q I1 r1 q1) he hpl
theorem fN (hc:CallR X (.type T) r)(hg:Gl X x)(hm:X.mg x=none)(hv:bootBuiltins x=some (.type T))(ha:PA X (e::es) t)(hn:x ≠ "__name__":=by decide)(hdb:(x == ("__debug__":Str))=false:=by decide)
  (he:starEach (e::es) X.env=(false,eval e X.env)::starEach es X.env:=by rfl) (hpl:(backTo pos (starEach es X.env)).any (·.1)=false:=by rfl):PE X (.Call (.Name x p) (e::es) [] pos) (tCB r t):=by
 intro pz s σ H Q I h
 refine wpAny_Call_Name_kw (jv I hg hm hv ?_ hn hdb)
 exact PyProof.Rows.callWith_type1 (bq (ha pos pz s σ H _ I h) fun us s1 vs H1 I1 r1 q1=>hc pz s1 σ H1 vs us Q I1 r1 q1) he hpl
end
end L2
namespace HT
open PySem PyProof.Rows
theorem rcLt_int (A:Around)(s:Shared)(a:Int)(t:Tok)(c:Int)(u:Tok)(prog:Program)(w:World)(E:Value→Shared→Prop)(Q:Value→Shared→Prop)(h:Q (.bool (decide (a<c))) s) :
  wpAny (model prog w) A (richCompare .Lt (.int a t) (.int c u)) Q E s:=
 (PyProof.Rows.lt_int h:wpAny (model prog w) A (compareOp .Lt (.int a t) (.int c u)) Q E s)
section
open PySem.SeqAt
open PySem.AutoSeq1 (wpAny_loadPart')
open PySem.MeetsSeq PySem.MeetsSeq2 PySem.MeetsSeq3
end
section
variable {prog:Program} {w:World} {A:Around} {E:Value→Shared→Prop} {s:Shared}
theorem cat_tup {t b:Addr}{vs ws:List Value}{Q:Value→Shared→Prop}(ht:IsTup s.heap t vs.toArray)(hb:IsTup s.heap b ws.toArray)(hv:vs≠[])
  (h1:ws=[]→Q (.ref t) s) (h2:ws≠[]→Q (.ref s.heap.objs.size) { s with heap:=s.heap.push { cls:=.type "tuple",data:=.seq (vs++ws).toArray } })
  (hsz:vs.length+ws.length≤sizeLine):wpAny (model prog w) A (binaryOp .Add (.ref t) (.ref b)) Q E s:=by
 obtain⟨⟨cls,dd,data,sl⟩,ho,hc,n,hd⟩:=id ht
 obtain⟨⟨cls2,dd2,data2,sl2⟩,ho2,hc2,n2,hd2⟩:=id hb
 simp only at hc hd hc2 hd2
 subst hc hd hc2 hd2
 have e:vs.toArray++ws.toArray=(vs++ws).toArray:=by simp
 by_cases hw:ws=[]
 ·exact concat_meets ⟨_,ho,rfl⟩ ⟨_,ho2,rfl⟩ noFill_tuple_add seq_tuple_add PySem.F.slot_tuple_add PySem.F.entry_tuple_add (PySem.F.args_tuple_add_2 _ _)
   (tuple_addW1 t b vs.toArray ws.toArray n n2 dd dd2 sl sl2 (by simpa using hv) (by simp[hw])) ⟨ho,ho2,h1 hw⟩
 ·refine concat_meets ⟨_,ho,rfl⟩ ⟨_,ho2,rfl⟩ noFill_tuple_add seq_tuple_add PySem.F.slot_tuple_add PySem.F.entry_tuple_add (PySem.F.args_tuple_add_2 _ _)
   (tuple_addW2 t b vs.toArray ws.toArray n n2 dd dd2 sl sl2 (by simpa using hv) (by simpa using hw) (by rw[List.size_toArray,List.size_toArray];exact hsz)) ⟨ho,ho2,?_⟩
  rw[e]
  exact h2 hw
def sIx (n d:Nat):Option Int→Nat
 | none=>d
 | some v=>if v<0 then (v+(n:Int)).toNat else min v.toNat n
end
end HT
namespace L2
open PySem PySem.Spec PyProof.Rows
abbrev TO:=St→Hp→(Option Int→Hp→Prop)→Prop
def PO (X:Cx)(e:Option Expr)(t:TO):Prop:=
 ∀ (pz:Kp) (s:Shared) (σ:St) (H:Hp) (Q:Option Int→Hp→Prop),Inv X pz σ H s→t σ H Q→
  wpAny (model X.prog X.w) X.A (evalPart e X.env) (fun u s'=>∃ o H',Inv X pz σ H' s'∧IsPart u o∧Q o H') X.xe s
def o9:TO:=fun _ H Q=>Q none H
def ro (t:TE):TO:=fun σ H Q=>t σ H fun x H1=>∃ i,x=.int i∧Q (some i) H1
section
variable {X:Cx} {e:Expr} {te:TE} {lo hi:Option Expr} {tl th:TO} {pos p2:Pos}
theorem nu:PO X none o9:=by
 intro pz s σ H Q I h
 rw[evalPart_none]
 exact Yd ⟨none,H,I,.none,h⟩
theorem oA (h:PE X e te):PO X (some e) (ro te):=by
 intro pz s σ H Q I hw
 rw[evalPart_some]
 refine bq (h pz s σ H _ I hw) fun u s1 x H1 I1 r1 q1=>?_
 obtain⟨i,rfl,q⟩:=q1
 obtain⟨t,rfl⟩:=r1
 exact⟨some i,H1,I1,.int i t,q⟩
def SlR (X:Cx)(r:V→Option Int→Option Int→Hp→VK→Prop):Prop:=
 ∀ (pz:Kp) (s:Shared) (σ:St) (H:Hp) (x:V) (v vl vu:Value) (lo hi:Option Int) (sl:Addr) (Q:VK),Inv X pz σ H s→RelV x v→s.heap.IsSliceOf sl vl vu .none→IsPart vl lo→IsPart vu hi→r x lo hi H Q→
  ∃ T id,typeLookup (.type T) "__getitem__"=pure (some (.builtin id))∧s.TypeIs v T∧wpAny (model X.prog X.w) X.A (getItem v (.ref sl)) (EP X pz σ Q) X.xe s
def tSl (r:V→Option Int→Option Int→Hp→VK→Prop)(te:TE)(tl th:TO):TE:=fun σ H Q=>te σ H fun x H1=>tl σ H1 fun l H2=>th σ H2 fun u H3=>r x l u H3 Q
theorem iq {r:V→Option Int→Option Int→Hp→VK→Prop}(hr:SlR X r)(he:PE X e te)(hl:PO X lo tl)(hu:PO X hi th):PE X (.Subscript e (.Slice lo hi none p2) pos) (tSl r te tl th):=by
 intro pz s σ H Q I h
 refine Subscript_ (bq (he pz s σ H _ I h) fun v s1 x H1 I1 r1 q1=>?_)
 refine wpAny_Slice (bq (hl pz s1 σ H1 _ I1 q1) fun vl s2 l H2 I2 pl q2=>bq (hu pz s2 σ H2 _ I2 q2) fun vu s3 u H3 I3 pu q3=>?_)
 rw[evalPart_none]
 refine Yd ?_
 have I4:Inv X pz σ H3 { s3 with heap:=s3.heap.push { cls:=.type "slice",data:=.fields #[vl,vu,.none] } }:=I3.kept (t':=s3.toks) fun b ob q=>Yf _ q
 obtain⟨T,id,hT,ht,hg⟩:=hr pz { s3 with heap:=s3.heap.push { cls:=.type "slice",data:=.fields #[vl,vu,.none] } } σ H3 x v vl vu l u s3.heap.objs.size Q I4 r1 (Heap.IsSliceOf.new ..) pl pu q3
 show wpAny (model X.prog X.w) X.A (subscriptTail e (.Slice lo hi none p2) v (.ref s3.heap.objs.size)) (EP X pz σ Q) X.xe { s3 with heap:=s3.heap.push { cls:=.type "slice",data:=.fields #[vl,vu,.none] } }
 exact tail_any (ops:=[.ref s3.heap.objs.size,v]) ht hT hg (by with_unfolding_all rfl)
def j_ (xs:List V)(lo hi:Option Int):List V:=(xs.drop (HT.sIx xs.length 0 lo)).take (HT.sIx xs.length xs.length hi-HT.sIx xs.length 0 lo)
theorem iu (xs:List V)(lo hi:Option Int):(j_ xs lo hi).length≤xs.length:=by
 unfold j_
 rw[YU,ZK]
 omega
def q_ (K:Kq):R2:=fun x y H Q=>∃ a b xs ys,x=.ref a∧y=.ref b∧SqT K H a xs∧SqT K H b ys∧xs≠[]∧xs.length+ys.length≤sizeLine ∧
 (ys=[]→Q (.ref a) H)∧(ys≠[]→∀ p,H p=none→Q (.ref p) (upd H p (.tup (xs++ys))))
theorem Vals.nil_iff {xs:List V}{us:List Value}(r:Vals xs us):us=[]↔xs=[]:=by
 cases r with
 | nil=>simp
 | cons _ _=>simp
theorem nG:OpR X (binaryOp .Add) (q_ X.K):=by
 intro pz s σ H x y v u Q I rx ry h
 obtain⟨a,b,xs,ys,rfl,rfl,ha,hb,hx,hz,q1,q2⟩:=h
 cases rx
 cases ry
 obtain⟨its,r1,p1,_⟩:=I.tuple ha
 obtain⟨its2,r2,p2,_⟩:=I.tuple hb
 refine HT.cat_tup p1 p2 (fun z=>hx (r1.nil_iff.mp z)) (fun z=>⟨.ref a,H,I,rfl,q1 (r2.nil_iff.mp z)⟩) (fun z=>?_) (by rw[← r1.length,← r2.length];exact hz)
 refine⟨.ref s.heap.objs.size,_,I.laid (t':=s.toks) (o:=.tup (xs++ys)) (fun b ob q=>Yf _ q) (Yw _) ?_,rfl,q2 (fun w=>z (r2.nil_iff.mpr w)) _ (I.hok.fresh (Yw _))⟩
 exact⟨by rw[Yk];exact hz,_,r1.append r2,IsTup.new _ _,NoD.new _ _⟩
end
def ixN (n:Nat)(i:Int):Option Nat:=if 0≤i then (if i<n then some i.toNat else none) else if -(n:Int)≤i then some (i+n).toNat else none
def atI {α:Type}(xs:List α)(i:Int):Option α:=(ixN xs.length i).bind fun j=>xs[j]?
theorem oJ {n:Nat}{i:Int}{j:Nat}(h:ixN n i=some j):seqIndex? i n=some j∧j<n∧-(n:Int)≤i∧i<n:=by
 unfold ixN at h
 by_cases h0:0≤i
 ·rw[Yn h0] at h
  by_cases h1:i<n
  ·rw[Yn h1] at h
   have e:i.toNat=j:=Yx h
   exact⟨by rw[seqIndex_of h0 h1,e],by omega,by omega,h1⟩
  ·rw[Yo h1] at h;cases h
 ·rw[Yo h0] at h
  by_cases h1:-(n:Int)≤i
  ·rw[Yn h1] at h
   have e:(i+n).toNat=j:=Yx h
   exact⟨by rw[seqIndex_neg (by omega) h1,e],by omega,h1,by omega⟩
  ·rw[Yo h1] at h;cases h
theorem gx {α:Type}{xs:List α}{i:Int}{v:α}(h:atI xs i=some v):∃ j,seqIndex? i xs.length=some j∧xs[j]?=some v∧j<xs.length∧-(xs.length:Int)≤i∧i<xs.length:=by
 unfold atI at h
 cases e:ixN xs.length i with
 | none=>rw[e] at h;cases h
 | some j=>
  rw[e] at h
  obtain⟨h1,h2,h3,h4⟩:=oJ e
  exact⟨j,h1,h,h2,h3,h4⟩
def jW (b:Expr):Prop:=∀ o i,subscripted b false o i=operate [o,i] (getItem o i)
def IxR (X:Cx)(r:R2):Prop:=
 ∀ (value slice:Expr) (pz:Kp) (s:Shared) (σ:St) (H:Hp) (x y:V) (v u:Value) (Q:VK),Inv X pz σ H s→RelV x v→RelV y u→r x y H Q→
  subscripted slice false v u=operate [v,u] (getItem v u)→wpAny (model X.prog X.w) X.A (subscriptTail value slice v u) (EP X pz σ Q) X.xe s
def MtR (X:Cx)(id:String)(r:V→List V→Hp→VK→Prop):Prop:=
 ∀ (pz:Kp) (s:Shared) (σ:St) (H:Hp) (x:V) (xs:List V) (v:Value) (us:List Value) (Q:VK),Inv X pz σ H s→RelV x v→Vals xs us→r x xs H Q→
  wpAny (model X.prog X.w) X.A (call (.builtin id) (v::us)) (EP X pz σ Q) X.xe s
section
variable {X:Cx} {a b:Expr} {ta tb:TE} {pos:Pos}
theorem IxR.or {r r':R2}(h:IxR X r)(h':IxR X r'):IxR X (fun x y H Q=>r x y H Q∨r' x y H Q):=by
 intro value slice pz s σ H x y v u Q I rx ry q hs
 rcases q with q | q
 ·exact h value slice pz s σ H x y v u Q I rx ry q hs
 ·exact h' value slice pz s σ H x y v u Q I rx ry q hs
theorem rK {r:R2}(hr:IxR X r)(ha:PE X a ta)(hb:PE X b tb)(hs:jW b):PE X (.Subscript a b pos) (tOp r ta tb):=by
 intro pz s σ H Q I h
 exact Subscript_ (qT ha hb I h fun v u s2 x y H2 I2 rx ry q=>hr a b pz s2 σ H2 x y v u Q I2 rx ry q (hs _ _))
def rT (K:Kq):R2:=fun x y H Q=>∃ p xs i v,x=.ref p∧y=.int i∧SqL K H p xs∧atI xs i=some v∧Q v H
def rq (K:Kq):R2:=fun x y H Q=>∃ p xs i v,x=.ref p∧y=.int i∧SqT K H p xs∧atI xs i=some v∧Q v H
def sy:R2:=fun x y H Q=>∃ z i c,x=.str z∧y=.int i∧z.length≤sizeLine∧atI z.cps.toList i=some c∧Q (.str ⟨#[c]⟩) H
theorem nS:IxR X (rT X.K):=by
 intro value slice pz s σ H x y v u Q I rx ry h hs
 obtain⟨p,xs,i,z,rfl,rfl,hq,he,q⟩:=h
 cases rx
 obtain⟨t,rfl⟩:=ry
 obtain⟨its,r,pl,hz⟩:=I.list hq
 obtain⟨j,h1,h2,h3,h4,h5⟩:=gx he
 obtain⟨w,ew,rw'⟩:=r.get h2
 have hl:=r.length
 have hn:=e7
 have fin:EP X pz σ Q w s:=⟨z,H,I,rw',q⟩
 by_cases h0:0≤i
 ·have hj:i.toNat=j:=by
   rw[seqIndex_of h0 h5] at h1
   exact Yx h1
  exact item_listR pl.isList h0 (by omega) (by rw[hj];simpa using ew) fin hs
 ·have hj:(i+(its.toArray.size:Int)).toNat=j:=by
   rw[seqIndex_neg (by omega) h4] at h1
   rw[Yy,← hl]
   exact Yx h1
  exact subscriptTail_builtinR (x:=w) pl.isList.typeIs slot_list_getitem.lookup
   (wpAny_getItem_list_neg (Q:=fun r s'=>r=w∧EP X pz σ Q r s') pl.isList (by omega) (by rw[Yy] <;> omega) (by omega) (by rw[hj];simpa using ew) ⟨rfl,fin⟩) hs
theorem pR:IxR X (rq X.K):=by
 intro value slice pz s σ H x y v u Q I rx ry h hs
 obtain⟨p,xs,i,z,rfl,rfl,hq,he,q⟩:=h
 cases rx
 obtain⟨t,rfl⟩:=ry
 obtain⟨its,r,pl,hz⟩:=I.tuple hq
 obtain⟨j,h1,h2,h3,h4,h5⟩:=gx he
 obtain⟨w,ew,rw'⟩:=r.get h2
 have hl:=r.length
 have hn:=e7
 have fin:EP X pz σ Q w s:=⟨z,H,I,rw',q⟩
 exact subscriptTail_builtinR (x:=w) pl.typeIs slot_tuple_getitem.lookup
  (getItem_tuple (j:=j) (Q:=fun r s'=>r=w∧EP X pz σ Q r s') pl (by omega) (by omega) (by rw[Yy,← hl];exact h1) (by simpa using ew) ⟨rfl,fin⟩) hs
theorem p6:IxR X sy:=by
 intro value slice pz s σ H x y v u Q I rx ry h hs
 obtain⟨z,i,c,rfl,rfl,hz,he,q⟩:=h
 obtain⟨t,rfl⟩:=rx
 obtain⟨t',rfl⟩:=ry
 obtain⟨j,h1,h2,h3,h4,h5⟩:=gx he
 have hl:z.cps.toList.length=z.length:=by simp[Str.length]
 rw[hl] at h1 h4 h5
 have hn:=e7
 exact tail_any (typeIs_str s z t) slot_str_getitem.lookup (getItem_str (c:=c) (by
  have e1:decide (i < -(2 ^ 63:Int))=false:=YR (by omega)
  have e2:decide (i ≥ 2 ^ 63)=false:=YR (by omega)
  rw[e1,e2,Bool.or_false]) (by rw[h1];simpa using h2) ⟨.str ⟨#[c]⟩,H,I.tok _,⟨_,rfl⟩,q⟩) hs
def rIx (K:Kq):R2:=fun x y H Q=>rT K x y H Q∨rq K x y H Q∨sy x y H Q
theorem qp:IxR X (rIx X.K):=nS.or (pR.or p6)
theorem gC (lo hi:Option Int)(n:Nat):(sliceBounds lo hi none n).1=((HT.sIx n 0 lo:Nat):Int)∧(sliceBounds lo hi none n).2.1=((HT.sIx n n hi:Nat):Int)∧(sliceBounds lo hi none n).2.2=1:=by
 refine⟨?_,?_,rfl⟩
 ·cases lo with
  | none=>simp[sliceBounds,HT.sIx]
  | some i=>
   simp only[sliceBounds,HT.sIx,Option.getD_none,show (1:Int) > 0 by decide,VE]
   by_cases h:i<0
   ·simp only[h,VE] <;> omega
   ·simp only[h,Vm] <;> omega
 ·cases hi with
  | none=>simp[sliceBounds,HT.sIx]
  | some i=>
   simp only[sliceBounds,HT.sIx,Option.getD_none,show (1:Int) > 0 by decide,VE]
   by_cases h:i<0
   ·simp only[h,VE] <;> omega
   ·simp only[h,Vm] <;> omega
theorem fA (its:List Value)(lo hi:Option Int):slicePick its.toArray lo hi none=((its.drop (HT.sIx its.length 0 lo)).take (HT.sIx its.length its.length hi-HT.sIx its.length 0 lo)).toArray:=by
 obtain⟨h1,h2,h3⟩:=gC lo hi its.toArray.size
 unfold slicePick
 rw[h1,h2,h3]
 simp only[sliceRange_one,pick_run,Yy] <;> rfl
def uc (K:Kq):V→Option Int→Option Int→Hp→VK→Prop:=fun x lo hi H Q=>∃ a xs,x=.ref a∧SqL K H a xs∧∀ p,H p=none→Q (.ref p) (upd H p (.lst (j_ xs lo hi)))
theorem nL:SlR X (uc X.K):=by
 intro pz s σ H x v vl vu lo hi sl Q I rx hs pl pu h
 obtain⟨a,xs,rfl,hx,q⟩:=h
 cases rx
 obtain⟨its,r,ht,hz⟩:=I.list hx
 have hlen:=r.length
 refine⟨"list",_,slot_list_getitem.lookup,ht.isList.typeIs,?_⟩
 refine wpAny_getItem_list_slice ht.isList hs pl pu .none (by simp) ?_ (by rw[Yy] <;> omega)
 rw[fA,← hlen]
 refine⟨.ref s.heap.objs.size,_,I.laid (t':=s.toks) (o:=.lst (j_ xs lo hi)) (fun b ob q=>Yf _ q) (Yw _) ?_,rfl,q _ (I.hok.fresh (Yw _))⟩
 exact⟨Zi (iu xs lo hi) hz,_,0,(r.drop (HT.sIx xs.length 0 lo)).take (HT.sIx xs.length xs.length hi-HT.sIx xs.length 0 lo),Ys _ rfl⟩
theorem gT:CallR X (.builtin "len") (fun xs H Q=>∃ p ys,xs=[.ref p]∧(SqL X.K H p ys∨SqT X.K H p ys)∧Q (.int ys.length) H):=by
 intro pz s σ H xs us Q I r h
 obtain⟨p,ys,rfl,hq,q⟩:=h
 obtain⟨u,rfl,rx⟩:=dQ r
 cases rx
 have hn:=e7
 rcases hq with hq | hq
 ·obtain⟨its,r',pl,hz⟩:=I.list hq
  have hlen:=r'.length
  exact Calls.call_len_list pl.isList (by simp only[Yy] <;> omega) ⟨.int ys.length,H,I.tok _,⟨s.toks+1,by rw[Yy,hlen]⟩,q⟩
 ·obtain⟨its,r',pl,hz⟩:=I.tuple hq
  have hlen:=r'.length
  exact len_tuple pl (by simp only[Yy] <;> omega) ⟨.int ys.length,H,I.tok _,⟨s.toks+1,by rw[Yy,hlen]⟩,q⟩
theorem g5:CallR X (.builtin "len") (fun xs H Q=>∃ z,xs=[.str z]∧z.length≤sizeLine∧Q (.int z.length) H):=by
 intro pz s σ H xs us Q I r h
 obtain⟨z,rfl,hz,q⟩:=h
 obtain⟨u,rfl,t,rfl⟩:=dQ r
 have hn:=e7
 exact len_str (by omega) ⟨.int z.length,H,I.tok _,⟨_,rfl⟩,q⟩
theorem CallR.or {f:Value}{r r':List V→Hp→VK→Prop}(h:CallR X f r)(h':CallR X f r'):CallR X f (fun xs H Q=>r xs H Q∨r' xs H Q):=by
 intro pz s σ H xs us Q I rs q
 rcases q with q | q
 ·exact h pz s σ H xs us Q I rs q
 ·exact h' pz s σ H xs us Q I rs q
theorem gK:CallR X (.type "list") (fun xs H Q=>∃ p ys,xs=[.ref p]∧(SqL X.K H p ys∨SqT X.K H p ys)∧∀ l,H l=none→Q (.ref l) (upd H l (.lst ys))):=by
 intro pz s σ H xs us Q I r h
 obtain⟨p,ys,rfl,hq,q⟩:=h
 obtain⟨u,rfl,rx⟩:=dQ r
 cases rx
 have fin:∀ (its:List Value),Vals ys its→ys.length≤sizeLine→∀ (h':Heap) (c':Nat),(∀ b o',s.heap.get? b=some o'→h'.get? b=some o')→
   h'.get? s.heap.objs.size=some { cls:=.type "list",dict:=none,data:=.seq its.toArray c',slots:=#[] }→EP X pz σ Q (.ref s.heap.objs.size) { s with heap:=h' }:=fun its r' hz h' c' kp e=>
  ⟨.ref s.heap.objs.size,_,I.laid (t':=s.toks) kp (Yw _) (show ObjOk X.prog X.w _ h' _ (.lst ys) from ⟨hz,its,c',r',e⟩),rfl,q _ (I.hok.fresh (Yw _))⟩
 rcases hq with hq | hq
 ·obtain⟨its,r',pl,hz⟩:=I.list hq
  have hlen:=r'.length
  obtain⟨o,ho,hc,n,hd⟩:=pl.isList
  exact call_list_seq p (.inl rfl) ho hc hd (fun h' c' kp e=>fin its r' hz h' c' kp e) (by simp only[Yy] <;> omega)
 ·obtain⟨its,r',pl,hz⟩:=I.tuple hq
  have hlen:=r'.length
  obtain⟨o,ho,hc,n,hd⟩:=pl
  exact call_list_seq p (.inr rfl) ho hc hd (fun h' c' kp e=>fin its r' hz h' c' kp e) (by simp only[Yy] <;> omega)
def tyV (K:Kq)(T:String)(x:V)(H:Hp):Prop:=match x with
 | .str _=>T = "str"
 | .int _=>T = "int"
 | .ref p=>(T = "list"∧∃ xs,SqL K H p xs)∨(T = "tuple"∧∃ o,K.lookup p=some o∧o.cls=.type "tuple"∧o.dict=none) ∨
   (T = "dict"∧((∃ kvs,H p=some (.dK kvs))∨∃ kvs,H p=some (.dT kvs)))∨(T = "set"∧∃ S n,H p=some (.set S n))
 | _=>False
theorem lp {pz:Kp}{σ:St}{H:Hp}{s:Shared}{T:String}{x:V}{v:Value}(I:Inv X pz σ H s)(r:RelV x v)(ty:tyV X.K T x H) :
  s.TypeIs v T∧∀ a,v=.ref a→∃ ob,s.heap.get? a=some ob∧ob.dict=none:=by
 cases x with
 | str z=>
  obtain⟨t,rfl⟩:=r
  cases (show T = "str" from ty)
  exact⟨typeIs_str s z t,fun _ e=>nomatch e⟩
 | int i=>
  obtain⟨t,rfl⟩:=r
  cases (show T = "int" from ty)
  exact⟨typeIs_int s i t,fun _ e=>nomatch e⟩
 | ref p=>
  cases r
  rcases ty with⟨rfl,xs,hq⟩ | ⟨rfl,o,hk,hc,hd⟩ | ⟨rfl,hk⟩ | ⟨rfl,S,n,hk⟩
  ·obtain⟨its,_,pl,_⟩:=I.list hq
   refine⟨pl.isList.typeIs,fun a e=>?_⟩
   cases e
   obtain⟨o,n,e,c,hd,_⟩:=pl
   exact⟨o,e,hd⟩
  ·refine⟨⟨o,I.kIn p o hk,hc⟩,fun a e=>?_⟩
   cases e
   exact⟨o,I.kIn _ o hk,hd⟩
  ·have z:∃ o,s.heap.get? p=some o∧o.ExactDict:=by
    rcases hk with⟨kvs,hk⟩ | ⟨kvs,hk⟩
    ·obtain⟨_,_,_,_,o,_,_,e,ex,_⟩:=I.hok p _ hk
     exact⟨o,e,ex⟩
    ·obtain⟨_,_,_,_,o,_,_,e,ex,_⟩:=I.hok p _ hk
     exact⟨o,e,ex⟩
   obtain⟨o,e,ex⟩:=z
   refine⟨⟨o,e,ex.1⟩,fun a e2=>?_⟩
   cases e2
   exact⟨o,e,ex.2.1⟩
  ·obtain⟨o,_,_,_,e,ex,_⟩:=I.hok p _ hk
   refine⟨⟨o,e,ex.1⟩,fun a e2=>?_⟩
   cases e2
   exact⟨o,e,ex.2.1⟩
 | _=>exact False.elim ty
def tz (K:Kq)(T:String)(r:V→List V→Hp→VK→Prop)(to:TE):TE:=fun σ H Q=>to σ H fun x H1=>tyV K T x H1∧r x [] H1 Q
def tBM (K:Kq)(T:String)(r:V→List V→Hp→VK→Prop)(to:TE)(t:TA):TE:=fun σ H Q=>to σ H fun x H1=>tyV K T x H1∧t σ H1 fun xs H2=>r x xs H2 Q
variable {o e:Expr} {es:List Expr} {to:TE} {t:TA} {name:Str} {apos cpos:Pos} {T id:String} {r:V→List V→Hp→VK→Prop}
theorem qQ (pa:PlainAttrs T)(slot:Slot T name id)(hty:typeOf (.builtin id)=pure (.type "method_descriptor"))(hm:MtR X id r)(ho:PE X o to)
  (hbase:attributeBase o name X.env (eval o X.env)=eval o X.env:=by rfl) (hline:(apos.endLine == cpos.line)=true:=by rfl):PE X (.Call (.Attribute o name apos) [] [] cpos) (tz X.K T r to):=by
 intro pz s σ H Q I h
 refine wpAny_Call_method0_late hbase hline (bq (ho pz s σ H _ I h) fun v s1 x H1 I1 r1 hh_=>?_)
 obtain⟨ty,q1⟩:=hh_
 obtain⟨h1,h2⟩:=lp I1 r1 ty
 exact⟨T,id,pa,slot,hty,h1,h2,Calls.callWith_builtin rfl (PySem.evalArgs_none (hm pz s1 σ H1 x [] v [] Q I1 r1 .nil q1))⟩
theorem ph (pa:PlainAttrs T)(slot:Slot T name id)(hty:typeOf (.builtin id)=pure (.type "method_descriptor"))(hm:MtR X id r)(ho:PE X o to)(ha:PA X (e::es) t)
  (hbase:attributeBase o name X.env (eval o X.env)=eval o X.env:=by rfl)
  (hfew:((backTo cpos (starEach (e::es) X.env)).all (fun x=>!x.1)&&(backToKw cpos (keywordEach [] X.env)).all (fun x=>x.1.isSome)
   && decide ((e::es).length+([]:List Keyword).length+(if ([]:List Keyword).isEmpty then 0 else 1)<30))=true:=by rfl)
  (hline:(apos.endLine == cpos.line)=true:=by rfl) (hs:starEach (e::es) X.env=(false,eval e X.env)::starEach es X.env:=by rfl) (hplain:(backTo cpos (starEach es X.env)).any (·.1)=false:=by rfl) :
  PE X (.Call (.Attribute o name apos) (e::es) [] cpos) (tBM X.K T r to t):=by
 intro pz s σ H Q I h
 refine wpAny_Call_method_late hbase hfew hline rfl (bq (ho pz s σ H _ I h) fun v s1 x H1 I1 r1 hh_=>?_)
 obtain⟨ty,q1⟩:=hh_
 obtain⟨h1,h2⟩:=lp I1 r1 ty
 refine⟨T,id,pa,slot,hty,h1,h2,?_⟩
 have hA:=ha cpos pz s1 σ H1 _ I1 q1
 rw[hs] at hA ⊢
 refine Calls.callWith_builtin (by show (false||(backTo cpos (starEach es X.env)).any (·.1))=false;rw[hplain] <;> rfl) (Calls.evalArgs_plain ?_)
 exact bq hA fun us s2 vs H2 I2 r2 q2=>hm pz s2 σ H2 x vs v us Q I2 r1 r2 q2
end
def MtM (X:Cx)(id:String)(r:V→List V→Hp→VK→Prop):Prop:=
 ∀ (pz:Kp) (s:Shared) (σ:St) (H:Hp) (x:V) (xs:List V) (v:Value) (us:List Value) (Q:VK),Inv X pz σ H s→RelV x v→Vals xs us→r x xs H Q→
  wpAny (model X.prog X.w) X.A (call (.builtin id) (v::us)) (EP X pz σ Q) X.xe s
theorem Vals.one {x:V}{us:List Value}(h:Vals [x] us):∃ u,us=[u]∧RelV x u:=dQ h
theorem Vals.zero:∀ {us:List Value},Vals [] us→us=[]
 | _,.nil=>rfl
section
variable {X:Cx} {pz:Kp} {σ:St} {H:Hp} {s:Shared} {l b:Addr} {xs ys zs:List V}
theorem Inv.lset {its its':List Value}{n:Nat}{f:Array Value→Array Value}{t':Nat}(I:Inv X pz σ H s)(hH:H l=some (.lst xs))
  (e:s.heap.get? l=some { cls:=.type "list",data:=.seq its.toArray n }) (hf:f its.toArray=its'.toArray) (hv:Vals ys its') (hz:ys.length≤sizeLine) :
  Inv X pz σ (upd H l (.lst ys)) { s with heap:=s.heap.update l (Obj.mapSeq f),toks:=t' }:=by
 have q:=PySem.IsL.update e f
 rw[hf] at q
 refine I.write (x:=l) (e:=l) (by rw[hH];exact trivial) (.inl rfl) (fun b' u hb hu=>(Heap.get?_update_other s.heap (Obj.mapSeq f) (Vz hb)).trans hu) ⟨_,q⟩ ?_
 exact⟨hz,its',_,hv,q⟩
theorem Inv.lnew {its:List Value}{t':Nat}(I:Inv X pz σ H s)(hv:Vals ys its)(hz:ys.length≤sizeLine) :
  Inv X pz σ (upd H s.heap.objs.size (.lst ys)) { s with heap:=s.heap.push { cls:=.type "list",data:=.seq its.toArray },toks:=t' }:=
 I.laid (fun _ _ q=>Yf _ q) (Yw _) ⟨hz,its,0,hv,Ys _ rfl⟩
theorem Inv.fresh (I:Inv X pz σ H s):H s.heap.objs.size=none:=I.hok.fresh (Yw _)
theorem Inv.lstM (I:Inv X pz σ H s)(hH:H l=some (.lst xs)):xs.length≤sizeLine∧∃ (its:List Value) (n:Nat),Vals xs its∧xs.length=its.length∧s.heap.get? l=some { cls:=.type "list",data:=.seq its.toArray n }:=by
 obtain⟨z,its,n,r,e⟩:=I.hok l _ hH
 exact⟨z,its,n,r,r.length,e⟩
end
section
variable {X:Cx}
def nJ:V→List V→Hp→VK→Prop:=fun x vs H Q=>∃ l xs y,x=.ref l∧vs=[y]∧H l=some (.lst xs)∧xs.length<sizeLine∧Q .non (upd H l (.lst (xs++[y])))
theorem fP:MtM X "list.append" nJ:=by
 intro pz s σ H x vs v us Q I rx rv h
 obtain⟨l,xs,y,rfl,rfl,hH,hz,q⟩:=h
 cases rx
 obtain⟨u,rfl,ru⟩:=rv.one
 obtain⟨z,its,n,r,hl,e⟩:=I.lstM hH
 refine call_meets F.slot_list_append ⟨_,e,rfl⟩ F.entry_list_append (F.args_list_append_2 _ _) (PySem.list_append l its.toArray n u (by rw[Yy];omega)) ⟨e,?_⟩
 refine⟨.non,_,I.lset (its':=its++[u]) hH e (by simp) (r.append (.cons ru .nil)) ?_,rfl,q⟩
 rw[Yk,Zz]
 omega
def qS:V→List V→Hp→VK→Prop:=fun x vs H Q=>∃ l xs,x=.ref l∧vs=[]∧H l=some (.lst xs)∧Q .non (upd H l (.lst []))
theorem mE:MtM X "list.clear" qS:=by
 intro pz s σ H x vs v us Q I rx rv h
 obtain⟨l,xs,rfl,rfl,hH,q⟩:=h
 cases rx
 have hus:=rv.zero
 subst hus
 obtain⟨z,its,n,r,hl,e⟩:=I.lstM hH
 refine call_meets F.slot_list_clear ⟨_,e,rfl⟩ F.entry_list_clear (F.args_list_clear_1 _) (AutoSeq1.list_clear_list_0 l its.toArray n (by rw[Yy];omega)) ⟨e,?_⟩
 exact⟨.non,_,I.lset (its':=[]) (ys:=[]) hH e rfl .nil (Za _),rfl,q⟩
end
section
variable {prog:Program} {w:World} {A:Around} {E:Kv} {s:Shared}
set_option maxRecDepth 100000 in
end
section
variable {X:Cx}
end
end L2
namespace Att
open PySem PySem.W PySem.Calls PyProof.Rows
theorem d4 {P:Params}{h:Heap}:∀ (ns:List Int) (vs:List Value),WellAll P h vs (ns.map WData.int)→IntsAre vs ns:=by
 intro ns
 induction ns with
 | nil=>
  intro vs w
  rw[List.map_nil] at w
  cases w
  exact .nil
 | cons n ns ih=>
  intro vs w
  rw[List.map_cons] at w
  cases w with
  | cons a b=>
   cases a
   exact .cons _ _ (ih _ b)
theorem kf {l:OpenLaw}{n:Nat}(hn:l.most=some n){P:Params}{h:Heap}{args:List WData}{vals:List Value}
  (hpre:l.row.toRowW.claim.pre args=true) (hwl:WellAll P h vals args) :
  ∃ a vs ns,vals=[Value.ref a]∧args=[WData.list (ns.map WData.int)]∧h.get? a=some { cls:=.type "list",data:=.seq vs.toArray }∧IntsAre vs ns∧ns.length≤n:=by
 have hsh:WShape.hasAll [] args [.list .int]=true:=(pre_splitW hpre).1
 have hc:l.pre.holds [] { args:=args }=true:=(pre_splitW hpre).2
 obtain⟨d,r,rfl,h1,h2⟩:=hasAllW_cons hsh
 obtain rfl:=hasAllW_nil h2
 obtain⟨xs,rfl,h3⟩:=hasW_list h1
 obtain⟨ns,rfl⟩:=items_int h3
 have hlen:ns.length≤n:=by
  unfold OpenLaw.pre at hc
  have h4:(WTm.not (.lt (.lit (.int (n:Int))) (.len (.arg 0)))).holds [] { args:=[.list (ns.map .int)] }=true:=by
   have h4:=(holds_andW hc).1
   rw[hn] at h4
   exact h4
  have h5:=condW_of h4 (w_not (w_lt w_lit (w_len_list (w_arg rfl))))
  rw[List.length_map] at h5
  refine Nat.le_of_not_lt fun q=>?_
  have q':(n:Int)<((ns.length:Nat):Int):=by omega
  first
   | (rw[decide_eq_true q'] at h5;exact absurd h5 (by decide))
   | (simp at h5;omega)
 cases hwl with
 | cons w1 w2=>
  cases w2
  cases w1 with
  | list ho hall=>exact⟨_,_,ns,rfl,rfl,ho,d4 ns _ hall,hlen⟩
theorem kK (l:OpenLaw)(args:List WData):l.row.toRowW.claim.post args (.bool true) args=true:=
 postW_of (r:=l.row.toRowW) (X:=(true == true))
  (show WShape.has [] (.bool true) .bool=true by first | rfl | decide | simp[WShape.has,WShape.arms,WShape.armsAll])
  (show (WTm.eq .res (.lit (.bool true))).value [] { args:=args,res:=some (.bool true),after:=args }=some (.bool (true == true)) from w_eq_bool (w_res rfl) w_lit) rfl
theorem attach_call {l:OpenLaw}{n:Nat}{q:Program}{loose:List Str}{XP:(Str→Option Value)→Heap→Prop}{YP:World→Heap→Prop}{d:DefRec}
  (hn:l.most=some n) (hdf:d.params.defaults=[])
  (call:∀ (w:World) (s₀ s₁:Shared) (mg mb:Str→Option Value) (fa:Addr) (o:Obj) (pm cd doc:Value) (a:Addr) (vs:List Value) (ns:List Int),
   Ground q loose [] XP w s₀ mg mb s₁.heap→YP w s₁.heap→
   s₁.heap.get? fa=some o→o.data=.func (docDef d.name d.params d.body d.scope pm cd doc)→s₁.heap.CodeRec cd d.name→mg d.name=some (.ref fa)→
   s₁.heap.get? a=some { cls:=.type "list",data:=.seq vs.toArray }→IntsAre vs ns→ns.length≤n→s₁.gens=#[]→
   codeAny (model l.prog w) callerA (.call (.ref fa) ⟨[.ref a],[]⟩) (fun r s'=>r=.ok (.ret (.bool true))∧OldK s₁.heap s'.heap∧s'.os=s₁.os∧AllBare s'.gens) s₁) :
  WalkO q loose XP YP l.row.toRowW d [] (fun f vs=>PySem.call f vs):=by
 intro w s₀ s₁ mg mb G Y fa o pm cd doc dV kV ho hd hcd hD hmg hg args vals as hpre hlay hrd hwl hlo
 obtain rfl:dV=.none:=Dflts.none hD hdf
 obtain rfl:kV=.none:=Dflts.noKw hD
 obtain⟨a,vs,ns,rfl,rfl,hobj,hints,hlen⟩:=kf hn hpre hwl
 refine enter_call (codeAny_mono (call w s₀ s₁ mg mb fa o pm cd doc a vs ns G Y ho (fd_plain hd) hcd hmg hobj hints hlen hg) fun r s' hq=>?_)
 obtain⟨rfl,h2,h3,h4⟩:=hq
 exact⟨.inl ⟨.bool true,.bool true,[],rfl,fun _=>rfl,.bool true,kK l _,fun _=>⟨List.Pairwise.nil,fun _ hm=>(nomatch hm)⟩⟩,h2,h3,h4⟩
section
variable {prog:Program} {w:World} {A:Around} {E:Value→Shared→Prop} {s:Shared} {K:Frag}
end
end Att
namespace L2
open PySem PySem.Spec PyProof.Rows
theorem gm:∀ {vs:List Value} {ns:List Int},IntsAre vs ns→Vals (ns.map V.int) vs
 | _,_,.nil=>.nil
 | _,_,.cons n t h=>.cons ⟨t,rfl⟩ (gm h)
def nH (H:Hp):Prop:=∀ b,H b=none∨∃ o xs,H b=some (.frz o (.lst xs))
theorem mf {P:Program}{w:World}{K:Kq}{mg mb:Ks}{CX:CXT}{k:Nat}{fa a:Addr}{fd:FuncData}{x:Str}{sp:Sp}{s₁:Shared}{vs:List Value}{ns:List Int}
  (KX:K.In s₁.heap) (hns:s₁.heap.Ns mainGlobals mg) (hb:s₁.heap.Ns builtinsNs mb) (hbb:∀ x:Str,x ≠ "__name__"→mb x=bootBuiltins x) (hlim:s₁.heap.NoLimit) (hg:s₁.gens=#[])
  (ha:s₁.heap.get? a=some { cls:=.type "list",data:=.seq vs.toArray }) (hi:IntsAre vs ns) (hl:ns.length≤sizeLine) (hr:Room k callerA)
  (F:∀ base:Heap,K.In base→base.Ns mainGlobals mg→FnOk P w K mg base CX k fa fd [x] sp) (hbind:∀ (s:Shared) (u:Value),BindsTo s fd ⟨[u],[]⟩ [(x,u)])
  (hsp:∀ H:Hp,nH H→SqL K H a (ns.map V.int)→sp [.ref a] H (fun v _=>v=.bl true) fun _ _ _=>False)
  (hCX:∀ H e s',CX [] H s₁ (fun _ _ _=>False) e s'→False) :
  codeAny (model P w) callerA (.call (.ref fa) ⟨[.ref a],[]⟩) (fun r s'=>r=.ok (.ret (.bool true))∧OldK s₁.heap s'.heap∧s'.os=s₁.os∧AllBare s'.gens) s₁:=by
 have rv:=gm hi
 have lenV:=hi.length
 -- from an abstract heap in which nothing but the script may be tracked
 have core:∀ H:Hp,nH H→SqL K H a (ns.map V.int)→HOk P w H s₁.heap→(∀ b,H b≠none→b=a)→(H a≠none→K.lookup a=none)→
   codeAny (model P w) callerA (.call (.ref fa) ⟨[.ref a],[]⟩) (fun r s'=>r=.ok (.ret (.bool true))∧OldK s₁.heap s'.heap∧s'.os=s₁.os∧AllBare s'.gens) s₁:=by
  intro H hO hS hok hA hK
  have base_of:∀ {b:Addr} {o:Obj},s₁.heap.get? b=some o→H b=none→(gI s₁.heap H).get? b=some o:=fun e n=>lN e n
  have noA:∀ {b:Addr} {o:Obj} {es:Array DictEntry} {ep:Nat},s₁.heap.get? b=some o→o.data=.dict es ep→H b=none:=fun {b o es ep} e d=>by
   cases q:H b with
   | none=>rfl
   | some u=>
    have e':b=a:=hA b (by rw[q];simp)
    subst e'
    rw[ha] at e;cases e
    have d':Data.seq vs.toArray _=Data.dict es ep:=d
    cases d'
  have nsK:∀ {b:Addr} {m:Ks},s₁.heap.Ns b m→(gI s₁.heap H).Ns b m:=fun {b m} ⟨o,es,ep,e,d,r⟩=>⟨o,es,ep,base_of e (noA e d),d,r⟩
  have hKb:K.In (gI s₁.heap H):=fun b o e=>base_of (KX b o e) (by
   cases q:H b with
   | none=>rfl
   | some u=>
    have e':b=a:=hA b (by rw[q];simp)
    subst e'
    rw[hK (by rw[q];simp)] at e;cases e)
  have hM:Mod K mg (gI s₁.heap H):=⟨hKb,nsK hns,⟨mb,nsK hb,hbb⟩,let ⟨mc,h1,h2⟩:=hlim;⟨mc,nsK h1,h2⟩⟩
  have e0:Env0 P w K mg (gI s₁.heap H) callerA [] s₁ H:=⟨rfl,hM,fun b o e=>oE e,Nat.le_of_eq (kH _ _),trivial,fun b hb=>absurd (show b∈([]:List Addr) from hb) (by simp),hok,.of_eq hg⟩
  refine codeAny_mono ((F _ hKb (nsK hns)).run callerA [] s₁ H ⟨[.ref a],[]⟩ [.ref a] [.ref a] _ _ hr e0 (hbind s₁ (.ref a)) (.cons rfl .nil) (hsp H hO hS)) fun r s' h=>?_
  cases r with
  | error e=>exact (hCX H e s' h).elim
  | ok fl=>
   cases fl with
   | next=>exact False.elim h
   | brk=>exact False.elim h
   | cont=>exact False.elim h
   | ret u=>
    obtain⟨v,H',os,bare,un,hok',r',q⟩:=h
    have q':v=.bl true:=q
    subst q'
    obtain rfl:u=Value.bool true:=r'
    refine⟨rfl,OldK.of_keep fun b o e=>?_,os,bare⟩
    cases q:H b with
    | none=>exact un.keep b o e q (by intro z;exact absurd (show b∈([]:List Addr) from z) (by simp)) (by simp)
    | some u=>
     rcases hO b with z | ⟨ob,xs,z⟩
     ·rw[q] at z;cases z
     ·have z2:=un.frzs b ob _ z
      obtain⟨e1,_⟩:=hok b _ z
      obtain⟨e2,_⟩:=hok' b _ z2
      rw[e] at e1;cases e1
      exact e2
 cases hk:K.lookup a with
 | some o=>
  -- the script is one of the module's own objects
  have e:=KX a o hk
  rw[ha] at e
  cases e
  refine core (fun _=>none) (fun _=>.inl rfl) (.inr ⟨_,vs.toArray,_,hk,rfl,rfl,rfl,by rw[Yy,lenV];exact hl,by simpa using rv⟩) (fun b u z=>by have z':(none:Option HO)=some u:=z;cases z') (fun b z=>absurd rfl z) fun z=>absurd rfl z
 | none=>
  refine core (fun b=>if b=a then some (.frz { cls:=.type "list",data:=.seq vs.toArray } (.lst (ns.map V.int))) else none) (fun b=>?_) (.inl (.inr ⟨{ cls:=.type "list",data:=.seq vs.toArray },Yn rfl⟩)) (fun b u z=>?_) (fun b z=>?_) fun _=>hk
  ·by_cases hb:b=a
   ·exact .inr ⟨_,_,Yn hb⟩
   ·exact .inl (Yo hb)
  ·by_cases hb:b=a
   ·have z':=(Yn hb).symm.trans z
    cases z'
    subst hb
    exact⟨ha,by rw[YA];exact hl,vs,_,rv,ha⟩
   ·have z':=(Yo hb).symm.trans z
    cases z'
  ·by_cases hb:b=a
   ·exact hb
   ·exact absurd (Yo hb) z
theorem ny {l:PySem.W.OpenLaw}{n k:Nat}{q:Program}{loose:List Str}{XP:(Str→Option Value)→Heap→Prop}{YP:World→Heap→Prop}{d:DefRec}{K:Params→PySem.W.Frag}{CX:World→CXT}{sp:World→Sp}{x:Str}
  (hn:l.most=some n) (hn2:n≤sizeLine) (hdf:d.params.defaults=[]) (hr:Room k callerA)
  (hY:∀ (w:World) (h:Heap),YP w h→(K w.params).In h)
  (F:∀ (w:World) (mg:Ks) (fa:Addr) (h:Heap),(K w.params).In h→h.Ns mainGlobals mg→mg d.name=some (.ref fa)→
   ∃ fd:FuncData,(∀ (s:Shared) (u:Value),BindsTo s fd ⟨[u],[]⟩ [(x,u)]) ∧
    ∀ base:Heap,(K w.params).In base→base.Ns mainGlobals mg→FnOk l.prog w (K w.params) mg base (CX w) k fa fd [x] (sp w))
  (hsp:∀ (w:World) (H:Hp) (a:Addr) (ns:List Int),ns.length≤n→nH H→SqL (K w.params) H a (ns.map V.int)→sp w [.ref a] H (fun v _=>v=.bl true) fun _ _ _=>False)
  (hCX:∀ (w:World) (H:Hp) (s:Shared) (e:Value) (s':Shared),CX w [] H s (fun _ _ _=>False) e s'→False) :
  PySem.W.WalkO q loose XP YP l.row.toRowW d [] (fun f vs=>PySem.call f vs):=by
 refine Att.attach_call hn hdf fun w s₀ s₁ mg mb fa o pm cd doc a vs ns G Y ho hd hcd hmg hobj hints hlen hg=>?_
 have KX:=hY w _ Y
 obtain⟨fd,hb,hF⟩:=F w mg fa _ KX G.T.g hmg
 exact mf KX G.T.g G.T.b G.T.builtins G.T.nolimit hg hobj hints (Zi hlen hn2) hr hF hb (fun H hO hS=>hsp w H a ns hlen hO hS) fun H e s'=>hCX w H s₁ e s'
theorem walk_ofK {l:PySem.W.OpenLaw}{n k:Nat}{q:Program}{loose:List Str}{XP:(Str→Option Value)→Heap→Prop}{YP:World→Heap→Prop}{d:DefRec}{K:Params→PySem.W.Frag}{CX:CXT}{sp:PySem.W.Frag→Sp}{x:Str}
  (hn:l.most=some n) (hn2:n≤sizeLine) (hdf:d.params.defaults=[]) (hr:Room k callerA)
  (hY:∀ (w:World) (h:Heap),YP w h→(K w.params).In h)
  (F:∀ (w:World) (mg:Ks) (fa:Addr) (h:Heap),(K w.params).In h→h.Ns mainGlobals mg→mg d.name=some (.ref fa)→
   ∃ fd:FuncData,(∀ (s:Shared) (u:Value),BindsTo s fd ⟨[u],[]⟩ [(x,u)]) ∧
    ∀ base:Heap,(K w.params).In base→base.Ns mainGlobals mg→FnOk l.prog w (K w.params) mg base CX k fa fd [x] (sp (K w.params)))
  (hsp:∀ (K:Kq) (H:Hp) (a:Addr) (ns:List Int),ns.length≤n→nH H→SqL K H a (ns.map V.int)→sp K [.ref a] H (fun v _=>v=.bl true) fun _ _ _=>False)
  (hCX:∀ (H:Hp) (s:Shared) (e:Value) (s':Shared),CX [] H s (fun _ _ _=>False) e s'→False) :
  PySem.W.WalkO q loose XP YP l.row.toRowW d [] (fun f vs=>PySem.call f vs):=
 ny (K:=K) (CX:=fun _=>CX) (sp:=fun w=>sp (K w.params)) hn hn2 hdf hr hY F (fun w H a ns h1 h2 h3=>hsp (K w.params) H a ns h1 h2 h3) fun _ H s e s'=>hCX H s e s'
def defArgs (s:Stmt):Arguments:=match s with
 | .FunctionDef _ a _ _ _ _ _ _ _ _=>a
 | _=>{ posonlyargs:=[],args:=[],vararg:=none,kwonlyargs:=[],kw_defaults:=[],kwarg:=none,defaults:=[] }
def defBody (s:Stmt):List Stmt:=match s with
 | .FunctionDef _ _ b _ _ _ _ _ _ _=>b
 | _=>[]
def defScope (s:Stmt):Scope:=match s with
 | .FunctionDef _ _ _ _ _ _ sc _ _ _=>sc
 | _=>{ kind:=.function,names:=[],isGenerator:=false,isCoroutine:=false }
abbrev CX0:CXT:=fun _ _ _ _ _ _=>False
abbrev E0:XK:=fun _ _ _=>False
theorem po {X:Cx}:jf CX0 X E0:=fun _ _ _ _ _ _ _ h=>h.elim
structure Fun (K:PySem.W.Frag) (x qual:Str) (st:Stmt) (f:Addr) (fd:FuncData):Prop where
 ex:∃ (oc:Value) (od:Option Addr) (kV doc pm:Value) (an:Option Addr) (cdv ct:Value) (osl:Array (Option Value)),
  fd=PySem.W.fnOf x qual (defArgs st) (defBody st) (defScope st) .none kV doc pm an cdv ct∧K.lookup f=some ⟨oc,od,.func fd,osl⟩∧PySem.W.codeIn K cdv qual=true
 kp:PySem.W.keepIn K (.ref f)=true
section
variable {P:Program} {w:World} {K:Kq} {mg:Ks} {base:Heap}
theorem Fun.ok {x qual:Str}{st:Stmt}{f:Addr}{fd:FuncData}{N ps:List Str}{k:Nat}{sp:Sp}(F:Fun K x qual st f fd)(S:FnScope N ps (defScope st))(len:∀ vs H Q E,sp vs H Q E→vs.length=ps.length)
  (hbody:∀ (cdv:Value) (A:Around) (outer:List Env) (s:Shared) (H:Hp) (vs:List V) (Q:VK) (E:XK),Room k (A.deeper (envOfC qual (defScope st) s.heap.objs.size f cdv))→sp vs H Q E→
   ∃ t,PSs (jj CX0 P w K mg base N qual (defScope st) f cdv A outer s H E).nox (defBody st) t∧t { nx:=fun _ H'=>Q .non H',rt:=Q } (start N vs) H):FnOk P w K mg base CX0 (k+1) f fd ps sp:=by
 obtain⟨oc,od,kV,doc,pm,an,cdv,ct,osl,rfl,lk,hcd⟩:=F.ex
 refine rg lk hcd S len fun A outer s H vs Q E hr hsp=>?_
 obtain⟨t,h,q⟩:=hbody cdv A outer s H vs Q E hr hsp
 exact⟨t,h.nox,q⟩
theorem Fun.binds {x qual:Str}{st:Stmt}{f:Addr}{fd:FuncData}{ps:List Str}(F:Fun K x qual st f fd)
  (h:∀ (kV doc pm:Value) (an:Option Addr) (cdv ct:Value) (us:List Value),us.length=ps.length→bindArgs (PySem.W.fnOf x qual (defArgs st) (defBody st) (defScope st) .none kV doc pm an cdv ct) ⟨us,[]⟩=pure (ps.zip us)):Binds K fd ps []:=by
 obtain⟨oc,od,kV,doc,pm,an,cdv,ct,osl,rfl,lk,hcd⟩:=F.ex
 exact .all (h kV doc pm an cdv ct)
theorem cQ {x qual:Str}{st:Stmt}{f:Addr}{oc:Value}{od an:Option Addr}{osl:Array (Option Value)}{kV doc pm cdv ct:Value}(l:K.lookup f=some ⟨oc,od,.func (PySem.W.fnOf x qual (defArgs st) (defBody st) (defScope st) .none kV doc pm an cdv ct),osl⟩)
  (c:PySem.W.codeIn K cdv qual=true) (k:PySem.W.keepIn K (.ref f)=true):Fun K x qual st f (PySem.W.fnOf x qual (defArgs st) (defBody st) (defScope st) .none kV doc pm an cdv ct):=⟨⟨oc,od,kV,doc,pm,an,cdv,ct,osl,rfl,l,c⟩,k⟩
end
section
variable {X:Cx}
theorem pv (i:Nat){x:Str}{pos:Pos}(hN:X.N[i]?=some x:=by rfl)(hv:Vis X.env.scope x:=by first | exact Or.inl rfl | exact Or.inr (Or.inl rfl) | exact Or.inr (Or.inr rfl))(hd:(x == ("__debug__":Str))=false:=by decide)
  (hcd:(x == ("__classdict__":Str))=false:=by decide):PE X (.Name x pos) (gr i):=qB hN hv hd hcd
end
def Same (H H':Hp):Prop:=∀ b o,H b=some o→H' b=some o
theorem Same.refl (H:Hp):Same H H:=fun _ _ h=>h
theorem Same.trans {H H1 H2:Hp}(a:Same H H1)(b:Same H1 H2):Same H H2:=fun c o h=>b c o (a c o h)
theorem Same.free {H H':Hp}(e:Same H H'){l:Addr}(h:H' l=Option.none):H l=Option.none:=by
 cases q:H l with
 | none=>rfl
 | some o=>
  rw[e l o q] at h
  cases h
theorem Same.seq {K:Kq}{H H':Hp}{a:Addr}{xs:List V}(e:Same H H')(h:SqL K H a xs):SqL K H' a xs:=by
 rcases h with (h | ⟨o,h⟩) | h
 ·exact .inl (.inl (e _ _ h))
 ·exact .inl (.inr ⟨o,e _ _ h⟩)
 ·exact .inr h
end L2
set_option maxHeartbeats 4000000
namespace L2
open PySem PySem.Spec PyProof.Rows
def aS (cs:List (Str×Addr)):List (Str×NameKind)→List (Str×Addr)→List (Str×Addr)
 | [],acc=>acc
 | (n,k)::r,acc=>if k == .free then aS cs r ((n,(cs.lookup n).getD 0)::acc) else aS cs r acc
theorem fj {scope:Scope}{env:Env}(h:∀ x∈scope.names,x.2=.free→∃ c,env.cells.lookup x.1=some c):closureFor scope env=pure (aS env.cells scope.names []):=by
 have key:∀ (names:List (Str×NameKind)) (acc:List (Str×Addr)) (f:Str×NameKind→List (Str×Addr)→Sem (ForInStep (List (Str×Addr)))),
   (∀ n k r,f (n,k) r=if k == .free then (cellOf env n>>=fun c=>pure (.yield ((n,c)::r))) else pure (.yield r))→
   (∀ x∈names,x.2=.free→∃ c,env.cells.lookup x.1=some c)→forIn names acc f=pure (aS env.cells names acc):=by
  intro names
  induction names with
  | nil=>intro acc f _ _;rfl
  | cons x r ih=>
   intro acc f hf hx
   obtain⟨n,k⟩:=x
   rw[List.forIn_cons,hf]
   unfold aS
   by_cases hk:(k == NameKind.free)=true
   ·rw[Yn hk,Yn hk]
    obtain⟨c,hc⟩:=hx (n,k) Yc (by simpa using hk)
    have e:cellOf env n=pure c:=by unfold cellOf;rw[hc]
    rw[e,pure_bind,pure_bind,hc]
    exact ih _ f hf fun y hy=>hx y (Yb _ hy)
   ·rw[Yo hk,Yo hk,pure_bind]
    exact ih _ f hf fun y hy=>hx y (Yb _ hy)
 unfold closureFor
 show (forIn scope.names ([]:List (Str×Addr)) _>>=fun cs=>pure cs)=_
 rw[key scope.names [] _ (fun n k r=>by
  by_cases hk:(k == NameKind.free)=true
  ·simp only[hk,VE]
  ·simp only[hk]) h]
 rfl
theorem az {α:Type}(y n:Str)(c:α)(l:List (Str×α)):((n,c)::l).lookup y=if y=n then some c else l.lookup y:=by
 rw[List.lookup_cons]
 by_cases h:y=n
 ·subst h;simp
 ·have:(y == n)=false:=by simpa using h
  rw[this,Yo h]
theorem aY {cs:List (Str×Addr)}:∀ (names:List (Str×NameKind)) (acc:List (Str×Addr)) (y:Str) (c:Addr),
  (∀ x∈names,x.2=.free→∃ c,cs.lookup x.1=some c)→(∀ y c,acc.lookup y=some c→cs.lookup y=some c)→(aS cs names acc).lookup y=some c→cs.lookup y=some c
 | [],acc,y,c,_,h,e=>h y c e
 | (n,k)::r,acc,y,c,hx,h,e=>by
  unfold aS at e
  have hr:∀ x∈r,x.2=.free→∃ c,cs.lookup x.1=some c:=fun x hm=>hx x (Yb _ hm)
  by_cases hk:(k == NameKind.free)=true
  ·rw[Yn hk] at e
   refine aY r _ y c hr (fun z d ez=>?_) e
   obtain⟨c',hc'⟩:=hx (n,k) Yc (by simpa using hk)
   rw[az] at ez
   split at ez
   ·rename_i q
    subst q
    cases ez
    rw[hc']
    rfl
   ·exact h z d ez
  ·rw[Yo hk] at e
   exact aY r acc y c hr h e
theorem ca {cs:List (Str×Addr)}:∀ (names:List (Str×NameKind)) (acc:List (Str×Addr)) (y:Str) (c:Addr),
  (aS cs names acc).lookup y=some c→(y,NameKind.free)∈names∨acc.lookup y=some c
 | [],acc,y,c,e=>.inr e
 | (n,k)::r,acc,y,c,e=>by
  unfold aS at e
  by_cases hk:(k == NameKind.free)=true
  ·rw[Yn hk] at e
   have hk':k=.free:=by simpa using hk
   rcases ca r _ y c e with q | q
   ·exact .inl (Yb _ q)
   ·rw[az] at q
    split at q
    ·rename_i z
     subst z
     subst hk'
     exact .inl Yc
    ·exact .inr q
  ·rw[Yo hk] at e
   rcases ca r acc y c e with q | q
   ·exact .inl (Yb _ q)
   ·exact .inr q
theorem cb {cs:List (Str×Addr)}:∀ (names:List (Str×NameKind)) (acc:List (Str×Addr)) (y:Str),
  ((y,NameKind.free)∈names∨∃ c,acc.lookup y=some c)→∃ c,(aS cs names acc).lookup y=some c
 | [],acc,y,h=>h.elim (fun z=>by cases z) id
 | (n,k)::r,acc,y,h=>by
  unfold aS
  by_cases hk:(k == NameKind.free)=true
  ·rw[Yn hk]
   refine cb r _ y ?_
   rcases h with h | ⟨c,h⟩
   ·rcases YF.mp h with q | q
    ·cases q
     exact .inr ⟨_,by rw[az,Yn rfl]⟩
    ·exact .inl q
   ·refine .inr ?_
    by_cases q:y=n
    ·exact⟨_,by rw[az,Yn q]⟩
    ·exact⟨c,by rw[az,Yo q];exact h⟩
  ·rw[Yo hk]
   refine cb r acc y ?_
   rcases h with h | h
   ·rcases YF.mp h with q | q
    ·cases q
     exact absurd rfl hk
    ·exact .inl q
   ·exact .inr h
theorem gE:∀ (names:List (Str×NameKind)) (h:Heap) (acc:List (Str×Addr)) (y:Str) (c:Addr),(cellsFrom h.objs.size names acc).lookup y=some c→
  (h.objs.size≤c∧(pushCells h names).IsCell c none∧(y,NameKind.cell)∈names)∨acc.lookup y=some c
 | [],_,_,_,_,e=>.inr e
 | (n,k)::r,h,acc,y,c,e=>by
  unfold cellsFrom at e
  unfold pushCells
  by_cases hk:(k == NameKind.cell)=true
  ·rw[Yn hk] at e ⊢
   have hk':k=.cell:=by simpa using hk
   have hz:(h.push { cls:=.type "cell",data:=.cell none }).objs.size=h.objs.size+1:=Xv ..
   rw[← hz] at e
   rcases gE r _ _ y c e with⟨q1,q2,q3⟩ | q
   ·exact .inl ⟨by rw[hz] at q1;omega,q2,Yb _ q3⟩
   ·rw[az] at q
    split at q
    ·rename_i z
     subst z
     cases q
     subst hk'
     exact .inl ⟨Yw _,⟨_,Vr r _ _ _ (Ys _ rfl),rfl⟩,Yc⟩
    ·exact .inr q
  ·rw[Yo hk] at e ⊢
   rcases gE r h acc y c e with⟨q1,q2,q3⟩ | q
   ·exact .inl ⟨q1,q2,Yb _ q3⟩
   ·exact .inr q
theorem jg {y:Str}:∀ (names:List (Str×NameKind)) (n:Nat) (acc:List (Str×Addr)),(∀ k,(y,k)∈names→k≠.cell)→(cellsFrom n names acc).lookup y=acc.lookup y
 | [],_,_,_=>rfl
 | (m,k)::r,n,acc,h=>by
  unfold cellsFrom
  have hr:∀ k,(y,k)∈r→k≠.cell:=fun k hk=>h k (Yb _ hk)
  by_cases hk:(k == NameKind.cell)=true
  ·rw[Yn hk,jg r _ _ hr,az,Yo]
   rintro rfl
   exact h k Yc (by simpa using hk)
  ·rw[Yo hk]
   exact jg r n acc hr
theorem i0:∀ (names:List (Str×NameKind)) (n:Nat) (acc:List (Str×Addr)),(∀ y c,acc.lookup y=some c→c<n)→(∀ y z c,acc.lookup y=some c→acc.lookup z=some c→y=z)→
  ∀ y z c,(cellsFrom n names acc).lookup y=some c→(cellsFrom n names acc).lookup z=some c→y=z
 | [],_,_,_,h=>h
 | (m,k)::r,n,acc,hlt,h=>by
  unfold cellsFrom
  by_cases hk:(k == NameKind.cell)=true
  ·rw[Yn hk]
   refine i0 r (n+1) _ (fun y c e=>?_) fun y z c e e'=>?_
   ·rw[az] at e
    split at e
    ·cases e;exact Vh _
    ·exact Zf (hlt y c e)
   ·rw[az] at e e'
    split at e <;> split at e'
    ·rename_i a b;rw[a,b]
    ·cases e;exact absurd (hlt z _ e') (Zh _)
    ·cases e';exact absurd (hlt y _ e) (Zh _)
    ·exact h y z c e e'
  ·rw[Yo hk]
   exact i0 r n acc hlt h
def cr (env:Env)(scope:Scope)(C:Addr):Env:=
 { scope:=relabel scope env,locals:=C,globals:=env.globals,cells:=cellsFrom (C+1) scope.names (aS env.cells scope.names []),qual:=env.qual,func:=none,code:=env.code,frame:=env.frame,builtins:=env.builtins }
def blk (X:Cx)(scope:Scope)(N:List Str)(s:Shared)(H:Hp)(fp:List Addr)(pz:Kp):Cx where
 prog:=X.prog
 w:=X.w
 K:=X.K
 mg:=X.mg
 base:=X.base
 A:=X.A
 N:=N
 s₀:=s
 H₀:=H
 env:=cr X.env scope s.heap.objs.size
 outer:=X.stack
 stack:=X.stack
 ex:=fp
 fn:=fun x=>scope.names.lookup x == some .local||scope.names.lookup x == some .cell
 calm:=X.calm
 pn:=X.pn++pz
 xe:=fun _ _=>False
structure BlkScope (X:Cx) (scope:Scope):Prop where
 kind:scope.kind=.function
 nd:(scope.names.map (·.1)).Nodup
 free:∀ x∈scope.names,x.2=.free→X.env.kindOf x.1=some .cell∨X.env.kindOf x.1=some .free
theorem bT {α:Type}:∀ {l:List (Str×α)} {n:Str} {c:α},(l.map (·.1)).Nodup→(n,c)∈l→l.lookup n=some c
 | [],_,_,_,h=>by cases h
 | (k,v)::r,n,c,nd,h=>by
  rw[az]
  rcases YF.mp h with q | q
  ·cases q;rw[Yn rfl]
  ·have nd':=ZR.mp nd
   rw[Yo]
   ·exact bT nd'.2 q
   ·rintro rfl
    exact nd'.1 (ZU.mpr ⟨_,q,rfl⟩)
theorem cg {env:Env}{x:Str}:∀ (names:List (Str×NameKind)),
  (names.map fun (n,k)=>if (k == NameKind.free&&env.scope.kind == .function&&env.kindOf n == some .cell) then (n,NameKind.cell) else (n,k)).lookup x =
   (names.lookup x).map fun k=>if (k == NameKind.free&&env.scope.kind == .function&&env.kindOf x == some .cell) then NameKind.cell else k
 | []=>rfl
 | (n,k)::r=>by
  show List.lookup x ((if (k == NameKind.free&&env.scope.kind == .function&&env.kindOf n == some .cell)=true then (n,NameKind.cell) else (n,k))::_)=_
  have e:(if (k == NameKind.free&&env.scope.kind == .function&&env.kindOf n == some .cell)=true then (n,NameKind.cell) else (n,k)) =
    (n,if (k == NameKind.free&&env.scope.kind == .function&&env.kindOf n == some .cell)=true then NameKind.cell else k):=by split <;> rfl
  rw[e,az,az]
  split
  ·rename_i q
   subst q
   rfl
  ·exact cg r
theorem eS {env:Env}{scope:Scope}{C:Addr}(x:Str):(cr env scope C).kindOf x =
  (scope.names.lookup x).map fun k=>if (k == NameKind.free&&env.scope.kind == .function&&env.kindOf x == some .cell) then NameKind.cell else k:=cg scope.names
section
variable {X:Cx} {pz:Kp} {σ:St} {H:Hp} {s:Shared} {scope:Scope} {N:List Str} {fp:List Addr}
theorem BlkScope.cl (b:BlkScope X scope)(ok:X.Ok):∀ x∈scope.names,x.2=.free→∃ c,X.env.cells.lookup x.1=some c:=fun x hx e=>ok.has x.1 (b.free x hx e)
theorem bV (b:BlkScope X scope)(I:Inv X pz σ H s){y:Str}{c:Addr}(e:(cr X.env scope s.heap.objs.size).cells.lookup y=some c) :
  (s.heap.objs.size<c∧(pushCells (s.heap.push { cls:=.type "dict",data:=.dict #[] }) scope.names).IsCell c none∧(y,NameKind.cell)∈scope.names)∨(X.env.cells.lookup y=some c∧(y,NameKind.free)∈scope.names):=by
 have hz:(s.heap.push { cls:=.type "dict",data:=.dict #[] }).objs.size=s.heap.objs.size+1:=Xv ..
 have e':(cellsFrom (s.heap.push { cls:=.type "dict",data:=.dict #[] }).objs.size scope.names (aS X.env.cells scope.names [])).lookup y=some c:=by rw[hz];exact e
 rcases gE _ _ _ _ _ e' with⟨h1,h2,h3⟩ | h
 ·exact .inl ⟨by rw[hz] at h1;omega,h2,h3⟩
 ·refine .inr ⟨aY _ _ y c (b.cl I.ok) (fun _ _ z=>by cases z) h,?_⟩
  rcases ca _ _ _ _ h with q | q
  ·exact q
  ·cases q
theorem qy (b:BlkScope X scope)(I:Inv X pz σ H s)(hf:∀ a∈fp,dD X pz H a)(hlt:∀ a∈fp,a<s.heap.objs.size):(blk X scope N s H fp pz).Ok:=by
 have clt:∀ y c,X.env.cells.lookup y=some c→c<s.heap.objs.size:=fun y c e=>by obtain⟨v,q⟩:=I.cell y c e;exact q.lt
 refine⟨I.ok.mod,b.kind,I.ok.glob,I.ok.blt,Yw _,fun x y c e e'=>?_,fun x hx=>?_,fun x c hx e=>?_,I.ok.hd,I.ok.frames,.inl rfl,fun a ha=>⟨YC (hlt a ha),fun x c e=>?_⟩,I.bs,Zi I.ok.bsz I.sz,fun a o e ha=>?_,fun a ha=>?_,I.stack,I.stkFree⟩
 ·refine i0 scope.names (s.heap.objs.size+1) _ (fun y c q=>?_) (fun y z c q q'=>?_) x y c e e'
  ·exact Zf (clt y c (aY _ _ y c (b.cl I.ok) (fun _ _ z=>by cases z) q))
  ·exact I.ok.inj y z c (aY _ _ y c (b.cl I.ok) (fun _ _ z=>by cases z) q) (aY _ _ z c (b.cl I.ok) (fun _ _ z=>by cases z) q')
 ·have hx':(cr X.env scope s.heap.objs.size).kindOf x=some .cell∨(cr X.env scope s.heap.objs.size).kindOf x=some .free:=hx
  rw[eS] at hx'
  show ∃ c,(cellsFrom (s.heap.objs.size+1) scope.names (aS X.env.cells scope.names [])).lookup x=some c
  cases q:scope.names.lookup x with
  | none=>rw[q] at hx';rcases hx' with z | z <;> cases z
  | some k=>
   have hm:(x,k)∈scope.names:=Zo q
   cases k with
   | cell=>exact ZB.mp (Xh scope.names _ _ (.inl q))
   | free=>
    obtain⟨c,hc⟩:=cb (cs:=X.env.cells) scope.names [] x (.inl hm)
    exact ZB.mp (Xh scope.names _ _ (.inr (by rw[hc];rfl)))
   | _=>rw[q] at hx';exfalso;revert hx';simp
 ·rcases bV b I e with⟨h1,_,_⟩ | ⟨_,h2⟩
  ·exact XE h1
  ·exfalso
   have q:=bT b.nd h2
   have hx':(scope.names.lookup x == some .local||scope.names.lookup x == some .cell)=true:=hx
   rw[q] at hx'
   revert hx'
   decide
 ·rcases bV b I e with⟨h1,_,_⟩ | ⟨h1,_⟩
  ·intro z
   subst z
   exact absurd (Nat.lt_trans (hlt _ ha) h1) (Zh _)
  ·exact (hf a ha).2.2.2.2.1 x c h1
 ·have h4:=(hf a ha).2.2.2.1
  rcases h4 with z | z
  ·exact I.ok.noex a o e z
  ·exact absurd (YE (Yp e) (Zi I.ok.bsz z)) (Zh _)
 ·intro z
  rcases YF.mp (I.stkSub a z) with q | q
  ·exact (hf a ha).2.1 q
  ·exact (hf a ha).2.2.1 q
def bm (own:Nat)(ix:List Nat)(σ:St):St:=List.replicate own none++ix.map fun j=>(σ[j]?).join
theorem cJ (own:Nat)(ix:List Nat)(σ:St):(bm own ix σ).length=own+ix.length:=by
 unfold bm;rw[Yk,YL,YA]
theorem fV {own:Nat}{ix:List Nat}{σ:St}{i:Nat}{v:V}(h:(bm own ix σ)[i]?=some (some v)):own≤i∧∃ j,ix[i-own]?=some j∧σ[j]?=some (some v):=by
 unfold bm at h
 by_cases hi:i<own
 ·rw[YX (by rw[YL];exact hi),ZV,Yn hi] at h
  cases h
 ·rw[YQ (by rw[YL];omega),YL,YZ] at h
  refine⟨by omega,?_⟩
  cases q:ix[i-own]? with
  | none=>rw[q] at h;cases h
  | some j=>
   rw[q] at h
   refine⟨j,rfl,?_⟩
   cases q2:σ[j]? with
   | none=>rw[ZG,q2] at h;cases h
   | some o=>
    rw[ZG,q2] at h
    cases o with
    | none=>cases h
    | some v'=>rw[Option.join_some] at h;cases h;rfl
structure Caps (X:Cx) (scope:Scope) (N:List Str) (own:Nat) (ix:List Nat):Prop where
 len:N.length=own+ix.length
 cap:∀ (i:Nat) (j:Nat) (x:Str),N[own+i]?=some x→ix[i]?=some j→X.N[j]?=some x∧scope.names.lookup x=some .free
theorem kT {own:Nat}{ix:List Nat}(b:BlkScope X scope)(cp:Caps X scope N own ix)(I:Inv X pz σ H s)(hf:∀ a∈fp,dD X pz H a)(hlt:∀ a∈fp,a<s.heap.objs.size) :
  Inv (blk X scope N s H fp pz) [] (bm own ix σ) H { s with heap:=pushCells (s.heap.push { cls:=.type "dict",data:=.dict #[] }) scope.names }:=by
 have kp:∀ a o,s.heap.get? a=some o→(pushCells (s.heap.push { cls:=.type "dict",data:=.dict #[] }) scope.names).get? a=some o:=fun a o e=>Vr _ _ a o (Yf _ e)
 refine⟨qy b I hf hlt,rfl,I.bare,Un.kept kp,⟨_,(Heap.Ns.new s.heap (.type "dict")).keeps (Vr _ _),fun i x v e1 e2 e3=>?_⟩,fun y c e=>?_,I.fresh,fun y c e=>?_,fun p hp=>?_,I.hok.kept kp,?_⟩
 ·obtain⟨ho,j,ej,ev⟩:=fV e2
  have e1':N[own+(i-own)]?=some x:=by rw[show own+(i-own)=i by omega];exact e1
  obtain⟨hN,hfree⟩:=cp.cap (i-own) j x e1' ej
  obtain⟨m,hn,hl⟩:=I.loc
  have hk:X.env.kindOf x=some .cell∨X.env.kindOf x=some .free:=b.free (x,.free) (Zo hfree) rfl
  have hv:Vis X.env.scope x:=hk.elim (fun z=>.inr (.inl z)) fun z=>.inr (.inr z)
  obtain⟨u,r,lk⟩:=hl j x v hN ev hv
  refine⟨u,r,.inr ⟨?_,?_⟩⟩
  ·show (cr X.env scope s.heap.objs.size).kindOf x=some .cell∨(cr X.env scope s.heap.objs.size).kindOf x=some .free
   rw[eS,hfree]
   show some (if _ then NameKind.cell else NameKind.free)=some .cell∨some (if _ then NameKind.cell else NameKind.free)=some .free
   split
   ·exact .inl rfl
   ·exact .inr rfl
  ·rcases lk with⟨k,_⟩ | ⟨_,c,ec,z⟩
   ·rw[k] at hk
    rcases hk with z | z <;> cases z
   ·refine⟨c,?_,z.keeps kp⟩
    show (cellsFrom (s.heap.objs.size+1) scope.names (aS X.env.cells scope.names [])).lookup x=some c
    rw[jg]
    ·obtain⟨c',hc'⟩:=cb (cs:=X.env.cells) scope.names [] x (.inl (Zo hfree))
     have:=aY _ _ x c' (b.cl I.ok) (fun _ _ z=>by cases z) hc'
     rw[ec] at this
     cases this
     exact hc'
    ·intro k hk' z
     rw[bT b.nd hk'] at hfree
     cases hfree
     cases z
 ·rcases bV b I e with⟨_,h2,_⟩ | ⟨h1,_⟩
  ·exact⟨_,h2⟩
  ·obtain⟨v,z⟩:=I.cell y c h1
   exact⟨v,z.keeps kp⟩
 ·rcases bV b I e with⟨h1,_,_⟩ | ⟨h1,_⟩
  ·exact I.hok.fresh (XE h1)
  ·exact I.freeC y c h1
 ·have hp':p∈X.pn++pz:=by
   have:p∈(X.pn++pz)++[]:=hp
   rwa [YI] at this
  obtain⟨e,n,ne,nf,d⟩:=I.pin p hp'
  refine⟨kp _ _ e,n,YC (Yp e),fun z=>?_,d⟩
  rcases YF.mp (I.stkSub p.1 z) with q | q
  ·exact ne q
  ·exact nf q
 ·rw[cJ]
  exact cp.len.symm
theorem iD {σ':St}{H':Hp}{s':Shared}{h':Heap}{pl:Kp}(I:Inv X pz σ H s)(hf:∀ a∈fp,dD X pz H a)(J:Inv (blk X scope N s H fp pz) pl σ' H' s')(hs:Heap.SameBut s.heap.objs.size s'.heap h') :
  Inv X pz σ H' { s' with heap:=h' }:=by
 have hC:H' s.heap.objs.size=none:=J.free
 have ne:∀ a o,s.heap.get? a=some o→a≠s.heap.objs.size:=fun a o e=>YC (Yp e)
 have u:Un (frs X.stack) fp H H' s.heap s'.heap:=J.base
 refine I.call' (ch:=fp) (s':={ s' with heap:=h' }) J.os ⟨fun a o e n h1 h2=>(hs.2 a (ne a o e)).trans (u.keep a o e n h1 h2),fun a o e n h1 h2=>?_,fun a o e n h2=>u.free a o e n h2,fun a o e h2=>?_,u.tups,u.frzs,u.tbls⟩ (fun a o e=>?_) J.bare fun a ha=>?_
 ·obtain⟨sl,q⟩:=u.slot a o e n h1 h2
  exact⟨sl,(hs.2 a (ne a o e)).trans q⟩
 ·obtain⟨o',q⟩:=u.there a o e h2
  exact⟨o',(hs.2 a (ne a o e)).trans q⟩
 ·refine (J.hok a o e).stay (fun c v hc q=>(hs.2 c ?_).trans q) (fun _ q=>q) fun _ _ q=>q
  rintro rfl
  rcases hc with rfl | hc
  ·rw[hC] at e;cases e
  ·rw[hC] at hc;cases hc
 ·obtain⟨_,h2,_,h4,h5,h6⟩:=hf a ha
  exact⟨h4,h2,h5,h6⟩
theorem mJ {pl:Kp}{H':Hp}(b:BlkScope X scope)(I:Inv X pz σ H s)(hf:∀ a∈fp,dD X pz H a)(hlt:∀ a∈fp,a<s.heap.objs.size)(hn:∀ a∈fp,H' a=none) :
  ∀ a∈fp,dD (blk X scope N s H fp pz) [] H' a:=fun a ha=>by
 obtain⟨_,h2,h3,h4,h5,h6⟩:=hf a ha
 refine⟨hn a ha,YC (hlt a ha),fun z=>?_,.inl ha,fun x c e=>?_,fun p hp=>?_⟩
 ·rcases YF.mp (I.stkSub a z) with q | q
  ·exact h2 q
  ·exact h3 q
 ·rcases bV b I e with⟨q,_,_⟩ | ⟨q,_⟩
  ·intro z
   subst z
   exact absurd (Nat.lt_trans (hlt _ ha) q) (Zh _)
  ·exact h5 x c q
 ·have hp':p∈X.pn++pz:=by
   have:p∈(X.pn++pz)++[]:=hp
   rwa [YI] at this
  exact h6 p hp'
end
theorem jx {M:Model}{A:Around}{E:Kv}{s:Shared}{scope:Scope}{env:Env}{Q:Env→Shared→Prop}(cl:List (Str×Addr))
  (h:∀ cenv:Env,cenv={ scope:=scope,locals:=s.heap.objs.size,globals:=env.globals,cells:=cellsFrom (s.heap.objs.size+1) scope.names cl,qual:=env.qual,func:=none,code:=env.code,frame:=env.frame,builtins:=env.builtins }→
   Q cenv { s with heap:=pushCells (s.heap.push { cls:=.type "dict",data:=.dict #[] }) scope.names }) :
  wpAny M A (newFunctionEnv scope env.globals cl [] env.qual none .none (some env)) Q E s:=by
 simp only[newFunctionEnv,Option.isSome_some,VE]
 refine Ya (wpAny_alloc ?_)
 refine Ya (wpAny_layCells _ (fun name kind cells=>by cases hkc:kind == NameKind.cell <;> simp[hkc]) _ _ _ _ ?_)
 rw[show ({ s with heap:=s.heap.push { cls:=.type "dict",data:=.dict #[] } }:Shared).heap.objs.size=s.heap.objs.size+1 from Xv ..]
 refine Ya ?_
 rw[List.forIn_nil]
 exact Yd (Yd (h _ rfl))
theorem k5 {prog:Program}{w:World}{A:Around}{R:Kr}{s:Shared}{elt target iter:Expr}{ifs:List Expr}{scope:Scope}{pos:Pos}{it acc:Value}{env:Env}(I:Nat→Shared→Prop)
  (turn:∀ n s,I n s→wpAny (model prog w) A (pyNext it) (fun r s₁=>match r with
   | none=>R (.ok .next) s₁
   | some v=>wpAny (model prog w) A (letOwnedTupleGo target it v) (fun _ s₁=>wpAny (model prog w) A (assign target env v) (fun _ s₂=>
     wpAny (model prog w) A (forIn ifs true fun c r=>if r=true then do let ok ← isTrue c env (eval c env);pure (ForInStep.yield ok) else pure (ForInStep.yield r)) (fun ok s₃=>
      if ok=true then wpAny (model prog w) A (eval elt env) (fun x s₄=>
       wpAny (model prog w) A (call (.builtin "list.append") [acc,x]) (fun _ s₅=>∃ m,m<n∧I m s₅) (fun _ _=>False) s₄) (fun _ _=>False) s₃
      else ∃ m,m<n∧I m s₃) (fun _ _=>False) s₂) (fun _ _=>False) s₁) (fun _ _=>False) s₁) (fun _ _=>False) s)
  (n:Nat) (h:I n s) :
  codeAny (model prog w) A (.compLoop (.ListComp elt [⟨target,iter,ifs,0⟩] scope pos) 0 it acc env) R s:=by
 refine codeAny_loop rfl I (fun n s hI=>?_) n h
 show wpAny _ A ((compTurn (.ListComp elt [⟨target,iter,ifs,0⟩] scope pos) 0 it acc env).onRaise (fun x=>do noteFrame x env;theTreesLotGoes x)) _ _ s
 refine wpAny_noted ?_
 rw[compTurn_list]
 refine Ya (wpAny_standAt (Ya (ZJ (turn n s hI) (fun r s₁ h₁=>?_) fun _ _ h'=>h'.elim)))
 cases r with
 | none=>exact Yd h₁
 | some v=>
  refine Ya (ZJ h₁ (fun _ s₁' h₁'=>?_) fun _ _ h'=>h'.elim)
  refine Ya (ZJ h₁' (fun _ s₂ h₂=>Ya (ZJ h₂ (fun ok s₃ h₃=>?_) fun _ _ h'=>h'.elim)) fun _ _ h'=>h'.elim)
  cases ok with
  | true=>
   rw[Yn rfl] at h₃
   simp only[VE]
   exact Ya (Ya (ZJ h₃ (fun x s₄ h₄=>Ya (ZJ h₄ (fun _ s₅ h₅=>Yd (Yd ⟨rfl,h₅⟩)) fun _ _ h'=>h'.elim)) fun _ _ h'=>h'.elim))
  | false=>
   rw[Yo Yg] at h₃
   simp only[Zq,Vm]
   exact Yd ⟨rfl,h₃⟩
def tJ:TT:=fun _ H Q=>Q true H
def gF (X:Cx)(ifs:List Expr)(t:TT):Prop:=
 ∀ (pz:Kp) (s:Shared) (σ:St) (H:Hp) (Q:Bool→Hp→Prop),Inv X pz σ H s→t σ H Q→
  wpAny (model X.prog X.w) X.A (forIn ifs true fun c r=>if r=true then do let ok ← isTrue c X.env (eval c X.env);pure (ForInStep.yield ok) else pure (ForInStep.yield r)) (TP X pz σ Q) X.xe s
theorem mW {X:Cx}:gF X [] tJ:=fun _ _ _ H _ I h=>Yd ⟨H,I,h⟩
theorem mh {X:Cx}{c:Expr}{t:TT}(h:PT X c t):gF X [c] t:=fun pz s σ H Q I q=>wpAny_tests_one (h pz s σ H Q I q)
def mq (own:Nat)(ix:List Nat)(wi:TI)(g:TG)(tc:TT)(te:TE):TE:=fun σ H Q=>wi σ H fun J H1=>∀ acc,H1 acc=none→∃ W:Nat→Nat→List V→Hp→Prop,
 (∃ m,W 0 m [] (upd H1 acc (.lst [])))∧∀ i m ys H,W i m ys H→
  (J.stop i H∧Q (.ref acc) H)∨(J.go i H∧∃ N:List V→Hp→Prop,(∀ ys' H',N ys' H'→∃ m',m' < m∧W (i+1) m' ys' H')∧∀ x H',J.yld i H x H'→g x (bm own ix σ) H' fun σ2 H2=>
   (σ2.length=own+ix.length∧∀ (j:Nat) v,(bm own ix σ)[j]?=some (some v)→σ2[j]?=some (some v)) ∧
   tc σ2 H2 fun ok H3=>if ok=true then te σ2 H3 fun y H4=>H4 acc=some (.lst ys)∧ys.length<sizeLine∧N (ys++[y]) (upd H4 acc (.lst (ys++[y]))) else N ys H3)
section
variable {X:Cx} {elt tg iter:Expr} {ifs:List Expr} {scope:Scope} {pos:Pos} {N:List Str} {own:Nat} {ix:List Nat} {wi:TI} {g:TG} {tc:TT} {te:TE}
theorem e9 {pz:Kp}{σ:St}{s:Shared}{Q:VK}{itv:Value}{RR:Value→Addr→Result→Shared→Prop}{E:Kv}(hcalm:X.calm=true)(b:BlkScope X scope)(cp:Caps X scope N own ix)
  (hg:∀ s H fp pz,PG (blk X scope N s H fp pz) tg g) (hc:∀ s H fp pz,gF (blk X scope N s H fp pz) ifs tc) (he:∀ s H fp pz,PE (blk X scope N s H fp pz) elt te)
  (hp:PIE X pz σ tg (fun J H1=>∀ acc,H1 acc=none→∃ W:Nat→Nat→List V→Hp→Prop,
   (∃ m,W 0 m [] (upd H1 acc (.lst [])))∧∀ i m ys H,W i m ys H→
    (J.stop i H∧Q (.ref acc) H)∨(J.go i H∧∃ N:List V→Hp→Prop,(∀ ys' H',N ys' H'→∃ m',m' < m∧W (i+1) m' ys' H')∧∀ x H',J.yld i H x H'→g x (bm own ix σ) H' fun σ2 H2=>
     (σ2.length=own+ix.length∧∀ (j:Nat) v,(bm own ix σ)[j]?=some (some v)→σ2[j]?=some (some v)) ∧
     tc σ2 H2 fun ok H3=>if ok=true then te σ2 H3 fun y H4=>H4 acc=some (.lst ys)∧ys.length<sizeLine∧N (ys++[y]) (upd H4 acc (.lst (ys++[y]))) else N ys H3)) itv s)
  (hR:∀ (s3:Shared) (H3:Hp) (fp:List Addr) (acc:Addr) (σ':St) (H':Hp) (s':Shared),Inv X pz σ H3 s3→(∀ a∈fp,dD X pz H3 a)→Inv (blk X scope N s3 H3 fp pz) [] σ' H' s'→Q (.ref acc) H'→RR (.ref acc) s3.heap.objs.size (.ok .next) s') :
  wpAny (model X.prog X.w) X.A (newList []) (fun acc s₃=>wpAny (model X.prog X.w) X.A (newFunctionEnv scope X.env.globals (aS X.env.cells scope.names []) [] X.env.qual none .none (some X.env)) (fun cenv s₄=>
   codeAny (model X.prog X.w) X.A (.compStart (.ListComp elt [⟨tg,iter,ifs,0⟩] scope pos) 0 itv acc { cenv with scope:=relabel scope X.env }) (RR acc cenv.locals) s₄) E s₃) E s:=by
 obtain⟨it,fp,tn,J,H1,rfl,I1,T,st1,f1,hacc⟩:=hp
 refine ZF ?_
 -- the list
 have I3:Inv X pz σ (upd H1 s.heap.objs.size (.lst [])) { s with heap:=s.heap.push { cls:=.type "list",dict:=none,data:=.seq ([]:List Value).toArray } }:=I1.lnew (ys:=[]) (its:=[]) .nil (Za _)
 generalize hs3:({ s with heap:=s.heap.push { cls:=.type "list",dict:=none,data:=.seq ([]:List Value).toArray } }:Shared)=s3 at I3 ⊢
 have kp3:∀ a o,s.heap.get? a=some o→s3.heap.get? a=some o:=fun a o e=>by rw[← hs3];exact Yf _ e
 have st3:tn 0 s3.heap:=T.keep _ _ _ st1 fun a _ o e=>kp3 a o e
 have lt1:∀ a∈fp,a<s.heap.objs.size:=fun a ha=>by obtain⟨o,e,_⟩:=T.obj _ _ st1 a ha;exact Yp e
 have f3:∀ a∈fp,dD X pz (upd H1 s.heap.objs.size (.lst [])) a:=fun a ha=>⟨by rw[ak (YC (lt1 a ha))];exact (f1 a ha).1,(f1 a ha).2⟩
 have lt3:∀ a∈fp,a<s3.heap.objs.size:=fun a ha=>by obtain⟨o,e,_⟩:=T.obj _ _ st3 a ha;exact Yp e
 obtain⟨W,⟨m0,w0⟩,turn⟩:=hacc s.heap.objs.size I1.fresh
 generalize hH3:upd H1 s.heap.objs.size (.lst [])=H3 at I3 f3 w0
 generalize hacc':s.heap.objs.size=acc at w0 turn ⊢
 refine jx _ fun cenv hc'=>?_
 subst hc'
 have J0:=kT (N:=N) (fp:=fp) b cp I3 f3 lt3
 have st4:tn 0 (pushCells (s3.heap.push { cls:=.type "dict",data:=.dict #[] }) scope.names):=T.keep _ _ _ st3 fun a _ o e=>Vr _ _ a o (Yf _ e)
 generalize hs4:({ s3 with heap:=pushCells (s3.heap.push { cls:=.type "dict",data:=.dict #[] }) scope.names }:Shared)=s4 at J0 ⊢
 have st4':tn 0 s4.heap:=by rw[← hs4];exact st4
 -- the loop
 have loop:codeAny (model X.prog X.w) X.A (.compLoop (.ListComp elt [⟨tg,iter,ifs,0⟩] scope pos) 0 (.ref it) (.ref acc) (cr X.env scope s3.heap.objs.size)) (RR (.ref acc) s3.heap.objs.size) s4:=by
  refine k5 (fun n s'=>∃ i ys H',Inv (blk X scope N s3 H3 fp pz) [] (bm own ix σ) H' s'∧tn i s'.heap∧(∀ a∈fp,H' a=none)∧W i n ys H') ?_ m0 ⟨0,[],H3,J0,st4',fun a ha=>(f3 a ha).1,w0⟩
  rintro n s5 ⟨i,ys,H5,J5,st5,fr5,w5⟩
  have fp5:=mJ (pl:=[]) (N:=N) b I3 f3 lt3 fr5
  rcases turn i n ys H5 w5 with⟨stop,q⟩ | ⟨go,NN,hN,step⟩
  ·refine thn (T.done (blk X scope N s3 H3 fp pz) rfl rfl rfl hcalm i [] s5 _ H5 _ J5 fp5 st5 stop) fun r s6 ⟨hr,J6⟩=>?_
   subst hr
   exact hR s3 H3 fp acc _ H5 s6 I3 f3 J6 q
  ·refine thn (T.item (blk X scope N s3 H3 fp pz) rfl rfl rfl hcalm i [] s5 _ H5 _ J5 fp5 st5 go) fun r s6 ⟨u,hr,h6⟩=>?_
   subst hr
   refine thn h6 fun _ s7 hh_=>?_
   obtain⟨x,H7,J7,r7,y7,st7,fr7⟩:=hh_
   have fp7:=mJ (pl:=[]) (N:=N) b I3 f3 lt3 fr7
   have J7':=J7.pinned fp7 (T.obj _ _ st7)
   have back:∀ {σ8:St} {H8:Hp} {s8:Shared} {zs:List V},Inv (blk X scope N s3 H3 fp pz) ([]++fq fp s7.heap) σ8 H8 s8→(σ8.length=own+ix.length∧∀ (j:Nat) v,(bm own ix σ)[j]?=some (some v)→σ8[j]?=some (some v))→NN zs H8→
     ∃ m,m<n∧∃ i ys H',Inv (blk X scope N s3 H3 fp pz) [] (bm own ix σ) H' s8∧tn i s8.heap∧(∀ a∈fp,H' a=none)∧W i m ys H':=fun {σ8 H8 s8 zs} J8 hw n8=>by
    obtain⟨m',hm,w8⟩:=hN zs H8 n8
    refine⟨m',hm,i+1,zs,H8,(J8.unpinned).weak (by rw[cJ,hw.1]) hw.2,T.keep _ _ _ st7 fun a ha o e=>(J8.pin (a,o) (Yt _ (Yt _ (cn ha e)))).1,fun a ha=>?_,w8⟩
    obtain⟨o,e,d⟩:=T.obj _ _ st7 a ha
    exact (J8.pin (a,o) (Yt _ (Yt _ (cn ha e)))).2.1
   refine thn (hg s3 H3 fp pz _ s7 _ H7 x u _ J7' r7 (step x H7 y7)) fun _ s8 hh_=>?_
   obtain⟨σ8,H8,J8,hw,q8⟩:=hh_
   refine thn (hc s3 H3 fp pz _ s8 σ8 H8 _ J8 q8) fun ok s9 hh_=>?_
   obtain⟨H9,J9,q9⟩:=hh_
   cases ok with
   | false=>
    rw[Yo Yg] at q9 ⊢
    exact back J9 hw q9
   | true=>
    rw[Yn rfl] at q9 ⊢
    refine thn (he s3 H3 fp pz _ s9 σ8 H9 _ J9 q9) fun y s10 hh_=>?_
    obtain⟨z,H10,J10,rz,e10,hlt,n10⟩:=hh_
    refine thn (fP (X:=blk X scope N s3 H3 fp pz) _ s10 σ8 H10 (.ref acc) [z] (.ref acc) [y] (fun v H'=>v=.non∧H'=upd H10 acc (.lst (ys++[z]))) J10 rfl (.cons rz .nil) ⟨acc,ys,z,rfl,rfl,e10,hlt,rfl,rfl⟩) fun _ s11 hh_=>?_
    obtain⟨_,H11,J11,_,_,e11⟩:=hh_
    subst e11
    exact back J11 hw n10
 subst hs4
 exact codeAny_compStart_list loop (T.self _ _ _ _ _ st4' loop)
theorem oM (hcalm:X.calm=true)(b:BlkScope X scope)(cp:Caps X scope N own ix)(hi:PI X tg iter wi)
  (hg:∀ s H fp pz,PG (blk X scope N s H fp pz) tg g) (hc:∀ s H fp pz,gF (blk X scope N s H fp pz) ifs tc) (he:∀ s H fp pz,PE (blk X scope N s H fp pz) elt te)
  (hnames:∀ y∈scope.names,y.2=.local→scope.names.lookup y.1=some .local:=by decide)
  (hs:∀ x,foldedSetIterable iter X.env x=pure x:=by intro _;rfl):PE X (.ListComp elt [⟨tg,iter,ifs,0⟩] scope pos) (mq own ix wi g tc te):=by
 intro pz s σ H Q I h
 rw[eval_ListComp]
 refine wpAny_comprehension_free (use:=none) rfl hs (fj (b.cl I.ok)) b.kind hnames (thn (hi pz s σ H _ I h) fun v s1 h1=>thn h1 fun itv s2 h2=>?_)
 refine e9 (RR:=fun acc C=>compPost (model X.prog X.w) X.A X.xe none (EP X pz σ Q) acc C) hcalm b cp hg hc he h2 ?_
 intro s3 H3 fp acc σ' H' s' I3 f3 J q
 obtain⟨m,hn,_⟩:=id J.loc
 exact⟨m,hn,fun h' hs'=>⟨.ref acc,H',iD I3 f3 J hs',rfl,q⟩⟩
theorem js {i:Nat}{y:Str}{py spos:Pos}(hcalm:X.calm=true)(hN:X.N.Nodup)(hiN:X.N[i]?=some y)(hx:Loc X.env.scope y)(b:BlkScope X scope)(cp:Caps X scope N own ix)(hi:PI X tg iter wi)
  (hg:∀ s H fp pz,PG (blk X scope N s H fp pz) tg g) (hc:∀ s H fp pz,gF (blk X scope N s H fp pz) ifs tc) (he:∀ s H fp pz,PE (blk X scope N s H fp pz) elt te)
  (hsw:swapsWith (.ListComp elt [⟨tg,iter,ifs,0⟩] scope pos) (some (.Name y py)) spos.line X.env=pure true:=by rfl)
  (hnames:∀ y∈scope.names,y.2=.local→scope.names.lookup y.1=some .local:=by decide)
  (hs:∀ x,foldedSetIterable iter X.env x=pure x:=by intro _;rfl)
  (hf:X.fn y=true∨X.env.scope.names.lookup y=some .local:=by first | exact .inl rfl | exact .inr rfl | assumption) :
  PS X (.Assign [.Name y py] (.ListComp elt [⟨tg,iter,ifs,0⟩] scope pos) spos) (oh (mq own ix wi g tc te) (gl i)):=by
 intro pz s σ H D I h
 rw[exec_Assign_Name_used _ _ _ _ hsw]
 refine Ya (wpAny_standAt (Ya ?_))
 show wpAny _ X.A (do let _ ← comprehension (.ListComp elt [⟨tg,iter,ifs,0⟩] scope pos) scope X.env _ (newList []) false (eval iter X.env) (some (assign (.Name y py) X.env))) _ _ s
 refine Ya (ZJ (wpAny_comprehension_free (use:=some (assign (.Name y py) X.env)) (Q:=fun _ s'=>SP X pz D .next s') rfl hs (fj (b.cl I.ok)) b.kind hnames
  (thn (hi pz s σ H _ I h) fun v s1 h1=>thn h1 fun itv s2 h2=>?_)) (fun _ s' hq=>Yd (Yd hq)) fun _ _ e=>e)
 refine e9 (Q:=fun x H1=>gl i x σ H1 D.nx) (RR:=fun acc C=>compPost (model X.prog X.w) X.A X.xe (some (assign (.Name y py) X.env)) (fun _ s'=>SP X pz D .next s') acc C) hcalm b cp hg hc he h2 ?_
 intro s3 H3 fp acc σ' H' s' I3 f3 J q
 obtain⟨m,hn,_⟩:=id J.loc
 have hn:s'.heap.Ns s3.heap.objs.size m:=hn
 have I':Inv X pz σ H' s':=iD I3 f3 J (Heap.SameBut.refl ..)
 show wpAny _ X.A (assign (.Name y py) X.env (.ref acc)) _ _ s'
 refine wpAny_assign_Name (f7 (v:=.ref acc) I' hN hiN hx rfl (fun s'' I'' hh_=>?_) hf)
 obtain⟨a,hsb,ha⟩:=hh_
 have hne:s3.heap.objs.size≠a:=by
  rcases ha with ha | ha
  ·rw[ha];exact ZE I3.lt
  ·obtain⟨v,z⟩:=I3.cell y a ha
   exact ZE z.lt
 refine⟨m,hn.sameBut hsb hne,fun h' hs'=>?_⟩
 refine⟨σ.set i (some (.ref acc)),H',?_,q⟩
 exact I''.turned (h':=h') (t':=s''.toks) (it:=s3.heap.objs.size) (fun c o hc e=>(hs'.2 c hc).trans e) J.free (ZE I3.lt) (.inr I3.sz) (fun x c e=>by obtain⟨v,z⟩:=I3.cell x c e;exact YC z.lt) fun p hp=>YC (Yp (I3.pin p hp).1)
end
section
variable {κ:Type} [DecidableEq κ]
end
section
variable {P:Program} {w:World} {H:Hp} {h:Heap} {a:Addr}
end
section
variable {X:Cx} {pz:Kp} {σ:St} {H:Hp} {s:Shared} {a:Addr} {y v:V} {u r:Value} {o:Option V} {A:Around} {E:Kv}
end
section
variable {X:Cx} {pz:Kp} {σ:St} {H:Hp} {s:Shared} {a:Addr} {kvs:List (Key×V)} {k:Key} {u:Value} {A:Around} {E:Kv}
end
section
variable {X:Cx} {o i e value:Expr} {pos pos' tpos:Pos} {td ty tv:TE}
end
section
variable {X:Cx} {pos:Pos}
end
structure M1 (X:Cx) (o:Expr) (m:Str) (apos:Pos) (e:Expr) (cpos:Pos):Prop where
 base:attributeBase o m X.env (eval o X.env)=eval o X.env
 few:((backTo cpos (starEach [e] X.env)).all (fun x=>!x.1)&&(backToKw cpos (keywordEach [] X.env)).all (fun x=>x.1.isSome)
  && decide (([e]:List Expr).length+([]:List Keyword).length+(if ([]:List Keyword).isEmpty then 0 else 1)<30))=true
 line:(apos.endLine == cpos.line)=true
 trees:backTo cpos (starEach [e] X.env)=[(false,eval e X.env)]
structure M2 (X:Cx) (o:Expr) (m:Str) (apos:Pos) (e f:Expr) (cpos:Pos):Prop where
 base:attributeBase o m X.env (eval o X.env)=eval o X.env
 few:((backTo cpos (starEach [e,f] X.env)).all (fun x=>!x.1)&&(backToKw cpos (keywordEach [] X.env)).all (fun x=>x.1.isSome)
  && decide (([e,f]:List Expr).length+([]:List Keyword).length+(if ([]:List Keyword).isEmpty then 0 else 1)<30))=true
 line:(apos.endLine == cpos.line)=true
 trees:backTo cpos (starEach [e,f] X.env)=[(false,eval e X.env),(false,eval f X.env)]
section
variable {X:Cx} {pz:Kp} {σ:St} {H:Hp} {s:Shared} {a:Addr} {y d:V} {u r:Value} {o:Option V} {A:Around} {E:Kv}
end
section
variable {X:Cx} {o e f:Expr} {apos cpos:Pos} {td ty tx:TE}
end
section
variable {X:Cx} {pz:Kp} {σ:St} {H:Hp} {s:Shared} {a:Addr} {kvs:List (Key×V)} {A:Around} {E:Kv}
end
section
variable {X:Cx} {pz:Kp} {σ:St} {H:Hp} {s:Shared} {a:Addr} {y:V} {u:Value} {A:Around} {E:Kv}
end
section
variable {κ:Type} [DecidableEq κ]
end
inductive D where
 | non | bl (b:Bool) | int (i:Int) | str (x:Str)
 | tup (xs:List D) | lst (xs:List D)
 | dT (kvs:List (List Key×D)) | dK (kvs:List (Key×D))
 | ins (C:Addr) (fs:List (Str×D))
 | fn (a:Addr) (v:V) (d:D)
mutual
inductive Rep (K:PySem.W.Frag) (H:Hp):V→D→Prop
 | non:Rep K H .non .non
 | bl {b:Bool}:Rep K H (.bl b) (.bl b)
 | int {i:Int}:Rep K H (.int i) (.int i)
 | str {x:Str}:Rep K H (.str x) (.str x)
 | tup {a:Addr} {vs:List V} {ds:List D}:H a=some (.tup vs)→Reps K H vs ds→Rep K H (.ref a) (.tup ds)
 | lst {a:Addr} {vs:List V} {ds:List D}:SqL K H a vs→Reps K H vs ds→Rep K H (.ref a) (.lst ds)
 | dT {a:Addr} {vs:List (List Key×V)} {ds:List (List Key×D)}:H a=some (.dT vs)→RepsT K H vs ds→Rep K H (.ref a) (.dT ds)
 | dK {a:Addr} {vs:List (Key×V)} {ds:List (Key×D)}:H a=some (.dK vs)→RepsK K H vs ds→Rep K H (.ref a) (.dK ds)
 | ins {a C dx:Addr} {vs:List (Str×V)} {ds:List (Str×D)}:H a=some (.ins C dx vs)→RepsF K H vs ds→Rep K H (.ref a) (.ins C ds)
 /-- a lambda at a: what it takes from without is v -/
 | fn {a:Addr} {v:V} {d:D}:Rep K H v d→Rep K H (.ref a) (.fn a v d)
inductive Reps (K:PySem.W.Frag) (H:Hp):List V→List D→Prop
 | nil:Reps K H [] []
 | cons {v:V} {d:D} {vs:List V} {ds:List D}:Rep K H v d→Reps K H vs ds→Reps K H (v::vs) (d::ds)
inductive RepsT (K:PySem.W.Frag) (H:Hp):List (List Key×V)→List (List Key×D)→Prop
 | nil:RepsT K H [] []
 | cons {k:List Key} {v:V} {d:D} {vs:List (List Key×V)} {ds:List (List Key×D)}:Rep K H v d→RepsT K H vs ds→RepsT K H ((k,v)::vs) ((k,d)::ds)
inductive RepsK (K:PySem.W.Frag) (H:Hp):List (Key×V)→List (Key×D)→Prop
 | nil:RepsK K H [] []
 | cons {k:Key} {v:V} {d:D} {vs:List (Key×V)} {ds:List (Key×D)}:Rep K H v d→RepsK K H vs ds→RepsK K H ((k,v)::vs) ((k,d)::ds)
inductive RepsF (K:PySem.W.Frag) (H:Hp):List (Str×V)→List (Str×D)→Prop
 | nil:RepsF K H [] []
 | cons {k:Str} {v:V} {d:D} {vs:List (Str×V)} {ds:List (Str×D)}:Rep K H v d→RepsF K H vs ds→RepsF K H ((k,v)::vs) ((k,d)::ds)
end
section
variable {K:Kq} {H H':Hp}
theorem Rep.same (e:Same H H'){v:V}{d:D}(h:Rep K H v d):Rep K H' v d:=
 Rep.rec (motive_1:=fun v d _=>Rep K H' v d) (motive_2:=fun v d _=>Reps K H' v d) (motive_3:=fun v d _=>RepsT K H' v d) (motive_4:=fun v d _=>RepsK K H' v d) (motive_5:=fun v d _=>RepsF K H' v d) .non .bl .int .str (fun h _ i=>.tup (e _ _ h) i) (fun h _ i=>.lst (e.seq h) i) (fun h _ i=>.dT (e _ _ h) i) (fun h _ i=>.dK (e _ _ h) i) (fun h _ i=>.ins (e _ _ h) i) (fun _ i=>.fn i) .nil (fun _ _ a b=>.cons a b) .nil (fun _ _ a b=>.cons a b) .nil (fun _ _ a b=>.cons a b) .nil (fun _ _ a b=>.cons a b) h
theorem Reps.same (e:Same H H'){v:List V}{d:List D}(h:Reps K H v d):Reps K H' v d:=
 Reps.rec (motive_1:=fun v d _=>Rep K H' v d) (motive_2:=fun v d _=>Reps K H' v d) (motive_3:=fun v d _=>RepsT K H' v d) (motive_4:=fun v d _=>RepsK K H' v d) (motive_5:=fun v d _=>RepsF K H' v d) .non .bl .int .str (fun h _ i=>.tup (e _ _ h) i) (fun h _ i=>.lst (e.seq h) i) (fun h _ i=>.dT (e _ _ h) i) (fun h _ i=>.dK (e _ _ h) i) (fun h _ i=>.ins (e _ _ h) i) (fun _ i=>.fn i) .nil (fun _ _ a b=>.cons a b) .nil (fun _ _ a b=>.cons a b) .nil (fun _ _ a b=>.cons a b) .nil (fun _ _ a b=>.cons a b) h
theorem RepsT.same (e:Same H H'){v:List (List Key×V)}{d:List (List Key×D)}(h:RepsT K H v d):RepsT K H' v d:=
 RepsT.rec (motive_1:=fun v d _=>Rep K H' v d) (motive_2:=fun v d _=>Reps K H' v d) (motive_3:=fun v d _=>RepsT K H' v d) (motive_4:=fun v d _=>RepsK K H' v d) (motive_5:=fun v d _=>RepsF K H' v d) .non .bl .int .str (fun h _ i=>.tup (e _ _ h) i) (fun h _ i=>.lst (e.seq h) i) (fun h _ i=>.dT (e _ _ h) i) (fun h _ i=>.dK (e _ _ h) i) (fun h _ i=>.ins (e _ _ h) i) (fun _ i=>.fn i) .nil (fun _ _ a b=>.cons a b) .nil (fun _ _ a b=>.cons a b) .nil (fun _ _ a b=>.cons a b) .nil (fun _ _ a b=>.cons a b) h
theorem RepsK.same (e:Same H H'){v:List (Key×V)}{d:List (Key×D)}(h:RepsK K H v d):RepsK K H' v d:=
 RepsK.rec (motive_1:=fun v d _=>Rep K H' v d) (motive_2:=fun v d _=>Reps K H' v d) (motive_3:=fun v d _=>RepsT K H' v d) (motive_4:=fun v d _=>RepsK K H' v d) (motive_5:=fun v d _=>RepsF K H' v d) .non .bl .int .str (fun h _ i=>.tup (e _ _ h) i) (fun h _ i=>.lst (e.seq h) i) (fun h _ i=>.dT (e _ _ h) i) (fun h _ i=>.dK (e _ _ h) i) (fun h _ i=>.ins (e _ _ h) i) (fun _ i=>.fn i) .nil (fun _ _ a b=>.cons a b) .nil (fun _ _ a b=>.cons a b) .nil (fun _ _ a b=>.cons a b) .nil (fun _ _ a b=>.cons a b) h
theorem RepsF.same (e:Same H H'){v:List (Str×V)}{d:List (Str×D)}(h:RepsF K H v d):RepsF K H' v d:=
 RepsF.rec (motive_1:=fun v d _=>Rep K H' v d) (motive_2:=fun v d _=>Reps K H' v d) (motive_3:=fun v d _=>RepsT K H' v d) (motive_4:=fun v d _=>RepsK K H' v d) (motive_5:=fun v d _=>RepsF K H' v d) .non .bl .int .str (fun h _ i=>.tup (e _ _ h) i) (fun h _ i=>.lst (e.seq h) i) (fun h _ i=>.dT (e _ _ h) i) (fun h _ i=>.dK (e _ _ h) i) (fun h _ i=>.ins (e _ _ h) i) (fun _ i=>.fn i) .nil (fun _ _ a b=>.cons a b) .nil (fun _ _ a b=>.cons a b) .nil (fun _ _ a b=>.cons a b) .nil (fun _ _ a b=>.cons a b) h
end
section
variable {K:Kq} {H H':Hp}
theorem Reps.ind {M:List V→List D→Prop}(n:M [] [])(c:∀ {v:V} {d:D} {vs:List V} {ds:List D},Rep K H v d→Reps K H vs ds→M vs ds→M (v::vs) (d::ds)){vs:List V}{ds:List D}(h:Reps K H vs ds):M vs ds:=
 Reps.rec (motive_1:=fun _ _ _=>True) (motive_2:=fun vs ds _=>M vs ds) (motive_3:=fun _ _ _=>True) (motive_4:=fun _ _ _=>True) (motive_5:=fun _ _ _=>True) trivial trivial trivial trivial (fun _ _ _=>trivial) (fun _ _ _=>trivial) (fun _ _ _=>trivial) (fun _ _ _=>trivial) (fun _ _ _=>trivial) (fun _ _=>trivial) n (fun h q _ ih=>c h q ih) trivial (fun _ _ _ _=>trivial) trivial (fun _ _ _ _=>trivial) trivial (fun _ _ _ _=>trivial) h
theorem Reps.length {vs:List V}{ds:List D}(h:Reps K H vs ds):vs.length=ds.length:=Reps.ind (M:=fun vs ds=>vs.length=ds.length) rfl (fun _ _ ih=>ZP Nat.succ ih) h
theorem Reps.get {vs:List V}{ds:List D}{i:Nat}{d:D}(h:Reps K H vs ds):ds[i]?=some d→∃ v,vs[i]?=some v∧Rep K H v d:=
 Reps.ind (M:=fun vs ds=>∀ i:Nat,ds[i]?=some d→∃ v,vs[i]?=some v∧Rep K H v d) (fun _ e=>nomatch e) (fun r _ ih i e=>by
  cases i with
  | zero=>obtain rfl:=Yx e;exact⟨_,rfl,r⟩
  | succ i=>exact ih i e) h i
theorem Reps.getV {vs:List V}{ds:List D}{i:Nat}{v:V}(h:Reps K H vs ds):vs[i]?=some v→∃ d,ds[i]?=some d∧Rep K H v d:=
 Reps.ind (M:=fun vs ds=>∀ i:Nat,vs[i]?=some v→∃ d,ds[i]?=some d∧Rep K H v d) (fun _ e=>nomatch e) (fun r _ ih i e=>by
  cases i with
  | zero=>obtain rfl:=Yx e;exact⟨_,rfl,r⟩
  | succ i=>exact ih i e) h i
theorem Reps.append {vs ws:List V}{ds es:List D}(h:Reps K H vs ds)(s:Reps K H ws es):Reps K H (vs++ws) (ds++es):=Reps.ind (M:=fun vs ds=>Reps K H (vs++ws) (ds++es)) s (fun r _ ih=>.cons r ih) h
theorem Reps.take {vs:List V}{ds:List D}(n:Nat)(h:Reps K H vs ds):Reps K H (vs.take n) (ds.take n):=Reps.ind (M:=fun vs ds=>∀ n,Reps K H (vs.take n) (ds.take n)) (fun n=>by cases n <;> exact .nil) (fun r _ ih n=>by
  cases n with
  | zero=>exact .nil
  | succ n=>exact .cons r (ih n)) h n
theorem Reps.drop {vs:List V}{ds:List D}(n:Nat)(h:Reps K H vs ds):Reps K H (vs.drop n) (ds.drop n):=Reps.ind (M:=fun vs ds=>∀ n,Reps K H (vs.drop n) (ds.drop n)) (fun n=>by cases n <;> exact .nil) (fun r q ih n=>by
  cases n with
  | zero=>exact .cons r q
  | succ n=>exact ih n) h n
theorem Reps.one {v:V}{d:D}(r:Rep K H v d):Reps K H [v] [d]:=.cons r .nil
end
inductive OD where
 | lst (ds:List D) | lst2 (dss:List (List D)) | tup2 (dss:List (List D)) | dT (kvs:List (List Key×D)) | dK (kvs:List (Key×D)) | ins (C:Addr) (fs:List (Str×D))
def OD.d:OD→D
 | .lst ds=>.lst ds
 | .lst2 dss=>.lst (dss.map .lst)
 | .tup2 dss=>.tup (dss.map .lst)
 | .dT kvs=>.dT kvs
 | .dK kvs=>.dK kvs
 | .ins C fs=>.ins C fs
def OD.flat:OD→Bool
 | .lst2 _=>false
 | .tup2 _=>false
 | _=>true
inductive All2 {α β:Type} (R:α→β→Prop):List α→List β→Prop
 | nil:All2 R [] []
 | cons {a:α} {b:β} {as:List α} {bs:List β}:R a b→All2 R as bs→All2 R (a::as) (b::bs)
theorem All2.imp {α β:Type}{R S:α→β→Prop}(f:∀ a b,R a b→S a b){as:List α}{bs:List β}(h:All2 R as bs):All2 S as bs:=by
 induction h with
 | nil=>exact .nil
 | cons h _ ih=>exact .cons (f _ _ h) ih
def ORep1 (K:Kq)(F:Hp):OD→HO→Prop
 | .lst ds,.lst vs=>Reps K F vs ds
 | .dT ds,.dT vs=>RepsT K F vs ds
 | .dK ds,.dK vs=>RepsK K F vs ds
 | .ins C fs,.ins C' _ vs=>C=C'∧RepsF K F vs fs
 | _,_=>False
def ORep (K:Kq)(F H:Hp)(ow:Addr→Prop):OD→Addr→Prop
 | .lst2 dss,a=>ow a∧∃ bs,H a=some (.lst (bs.map .ref))∧(a::bs).Nodup∧All2 (fun b ds=>ow b∧∃ u,H b=some u∧ORep1 K F (.lst ds) u) bs dss
 | .tup2 dss,a=>ow a∧∃ bs,H a=some (.tup (bs.map .ref))∧(a::bs).Nodup∧All2 (fun b ds=>ow b∧∃ u,H b=some u∧ORep1 K F (.lst ds) u) bs dss
 | o,a=>ow a∧∃ u,H a=some u∧ORep1 K F o u
theorem ORep1.same {K:Kq}{F F':Hp}(e:Same F F'){o:OD}{u:HO}(h:ORep1 K F o u):ORep1 K F' o u:=by
 cases o <;> cases u <;> first | exact h.elim | exact Reps.same e h | exact RepsT.same e h | exact RepsK.same e h | exact⟨h.1,RepsF.same e h.2⟩
theorem ORep.flat {K:Kq}{F H:Hp}{ow:Addr→Prop}{o:OD}{a:Addr}(f:o.flat=true):ORep K F H ow o a↔ow a∧∃ u,H a=some u∧ORep1 K F o u:=by
 cases o <;> first | exact Iff.rfl | cases f
theorem ORep.mono {K:Kq}{F F' H H':Hp}{ow ow':Addr→Prop}{o:OD}{a:Addr}(e:Same F F')(k:∀ b u,ow b→H b=some u→H' b=some u∧ow' b)(h:ORep K F H ow o a):ORep K F' H' ow' o a:=by
 by_cases f:o.flat=true
 ·obtain⟨h1,u,h2,h3⟩:=(ORep.flat f).mp h
  obtain⟨k1,k2⟩:=k a u h1 h2
  exact (ORep.flat f).mpr ⟨k2,u,k1,h3.same e⟩
 ·cases o with
  | lst2 dss=>
   obtain⟨h1,bs,h2,h3,h4⟩:=h
   obtain⟨k1,k2⟩:=k a _ h1 h2
   exact⟨k2,bs,k1,h3,h4.imp fun b ds ⟨q1,u,q2,q3⟩=>by obtain⟨c1,c2⟩:=k b u q1 q2;exact⟨c2,u,c1,q3.same e⟩⟩
  | tup2 dss=>
   obtain⟨h1,bs,h2,h3,h4⟩:=h
   obtain⟨k1,k2⟩:=k a _ h1 h2
   exact⟨k2,bs,k1,h3,h4.imp fun b ds ⟨q1,u,q2,q3⟩=>by obtain⟨c1,c2⟩:=k b u q1 q2;exact⟨c2,u,c1,q3.same e⟩⟩
  | _=>exact absurd rfl f
theorem ORep1.rep {K:Kq}{F H:Hp}{o:OD}{u:HO}{a:Addr}(f:o.flat=true)(h:ORep1 K F o u)(hH:H a=some u)(e:Same F H):Rep K H (.ref a) o.d:=by
 cases o with
 | lst ds=>cases u with | lst vs=>exact .lst (SqL.of hH) (Reps.same e h) | _=>exact h.elim
 | dT ds=>cases u with | dT vs=>exact .dT hH (RepsT.same e h) | _=>exact h.elim
 | dK ds=>cases u with | dK vs=>exact .dK hH (RepsK.same e h) | _=>exact h.elim
 | ins C fs=>cases u with | ins C' dx vs=>(obtain⟨rfl,h⟩:=h;exact .ins hH (RepsF.same e h)) | _=>exact h.elim
 | lst2 _=>cases f
 | tup2 _=>cases f
theorem ORep.rep {K:Kq}{F H G:Hp}{ow:Addr→Prop}{o:OD}{a:Addr}(h:ORep K F H ow o a)(e:Same F G)(k:∀ b u,ow b→H b=some u→G b=some u):Rep K G (.ref a) o.d:=by
 by_cases f:o.flat=true
 ·obtain⟨h1,u,h2,h3⟩:=(ORep.flat f).mp h
  exact h3.rep f (k a u h1 h2) e
 ·cases o with
  | lst2 dss=>
   obtain⟨h1,bs,h2,h3,h4⟩:=h
   refine .lst (SqL.of (k a _ h1 h2)) ?_
   clear h2 h1 h3 f
   induction h4 with
   | nil=>exact .nil
   | cons q r ih=>
    obtain⟨q1,u,q2,q3⟩:=q
    exact .cons (q3.rep (o:=.lst _) rfl (k _ u q1 q2) e) ih
  | tup2 dss=>
   obtain⟨h1,bs,h2,h3,h4⟩:=h
   refine .tup (k a _ h1 h2) ?_
   clear h2 h1 h3 f
   induction h4 with
   | nil=>exact .nil
   | cons q r ih=>
    obtain⟨q1,u,q2,q3⟩:=q
    exact .cons (q3.rep (o:=.lst _) rfl (k _ u q1 q2) e) ih
  | _=>exact absurd rfl f
inductive DV where
 | v (d:D) | own (o:OD) (t:Option Addr) | bor (o:OD)
abbrev DF:=List (Option DV)
def DVRep (K:Kq)(P F H:Hp)(ow:Addr→Prop):DV→V→Prop
 | .v d,x=>Rep K F x d
 | .own o t,x=>∃ a,x=.ref a∧ORep K F H (fun b=>F b=none∧P b=none∧ow b) o a∧∀ b,t=some b→b=a
 | .bor o,x=>∃ a,x=.ref a∧ORep K F P (fun _=>True) o a
def kY:Addr→Prop:=fun _=>True
structure DHp (P F H:Hp):Prop where
 sub:Same F H
 pro:Same P H
 dis:∀ a o,P a=some o→F a=none
structure DInv (K:PySem.W.Frag) (P F H:Hp) (ρ:DF) (σ:St):Prop extends DHp P F H where
 len:ρ.length=σ.length
 rep:∃ O:Addr→Option Nat,∀ (i:Nat) (x:DV),ρ[i]?=some (some x)→∃ v,σ[i]?=some (some v)∧DVRep K P F H (fun b=>O b=some i) x v
structure Evo (P F H F' H':Hp):Prop where
 ext:Same F F'
 hp:DHp P F' H'
 keep:∀ a o,H a=some o→F a=none→H' a=some o∧F' a=none
theorem Evo.same {P F H F' H':Hp}(h:DHp P F H)(e:Evo P F H F' H'):Same H H':=fun a o q=>by
 cases c:F a with
 | none=>exact (e.keep a o q c).1
 | some u=>
  have:=h.sub a u c
  rw[q] at this
  cases this
  exact e.hp.sub a o (e.ext a o c)
theorem DVRep.evo {K:Kq}{P F H F' H':Hp}{ow:Addr→Prop}(e:Evo P F H F' H'){x:DV}{v:V}(r:DVRep K P F H ow x v):DVRep K P F' H' ow x v:=by
 cases x with
 | v d=>exact Rep.same e.ext r
 | own o t=>
  obtain⟨a,rfl,h,ht⟩:=r
  exact⟨a,rfl,h.mono e.ext fun b u ⟨q1,q2,q3⟩ hb=>by (obtain⟨k1,k2⟩:=e.keep b u hb q1;exact⟨k1,k2,q2,q3⟩),ht⟩
 | bor o=>
  obtain⟨a,rfl,h⟩:=r
  exact⟨a,rfl,h.mono e.ext fun b u q hb=>⟨hb,q⟩⟩
theorem DVRep.imp {K:Kq}{P F H:Hp}{ow ow':Addr→Prop}(f:∀ b u,F b=none→P b=none→H b=some u→ow b→ow' b){x:DV}{v:V}(r:DVRep K P F H ow x v):DVRep K P F H ow' x v:=by
 cases x with
 | v d=>exact r
 | own o t=>
  obtain⟨a,rfl,h,ht⟩:=r
  exact⟨a,rfl,h.mono (Same.refl _) fun b u ⟨q1,q2,q3⟩ hb=>⟨hb,q1,q2,f b u q1 q2 hb q3⟩,ht⟩
 | bor o=>exact r
theorem DInv.evo {K:Kq}{P F H F' H':Hp}{ρ:DF}{σ:St}(I:DInv K P F H ρ σ)(e:Evo P F H F' H'):DInv K P F' H' ρ σ:=
 ⟨e.hp,I.len,by obtain⟨O,h⟩:=I.rep;exact⟨O,fun i x hx=>by obtain⟨v,h1,h2⟩:=h i x hx;exact⟨v,h1,h2.evo e⟩⟩⟩
theorem DInv.at {K:Kq}{P F H:Hp}{ρ:DF}{σ:St}(I:DInv K P F H ρ σ){i:Nat}{x:DV}(h:ρ[i]?=some (some x)):∃ v,σ[i]?=some (some v)∧DVRep K P F H kY x v:=by
 obtain⟨O,k⟩:=I.rep
 obtain⟨v,h1,h2⟩:=k i x h
 exact⟨v,h1,h2.imp fun _ _ _ _ _ _=>trivial⟩
theorem Evo.refl {P F H:Hp}(h:DHp P F H):Evo P F H F H:=⟨Same.refl _,h,fun _ _ a b=>⟨a,b⟩⟩
theorem Evo.trans {P F H F1 H1 F2 H2:Hp}(a:Evo P F H F1 H1)(b:Evo P F1 H1 F2 H2):Evo P F H F2 H2:=
 ⟨a.ext.trans b.ext,b.hp,fun c o h n=>by obtain⟨h1,n1⟩:=a.keep c o h n;exact b.keep c o h1 n1⟩
theorem Evo.laid {P F H:Hp}(h:DHp P F H){a:Addr}{o:HO}(hn:H a=none):Evo P F H (upd F a o) (upd H a o) where
 ext:=fun b u e=>by rw[ak (fun z=>by subst z;rw[h.sub _ _ e] at hn;cases hn)];exact e
 hp:=⟨fun b u e=>by
   by_cases hb:b=a
   ·subst hb;rw[aD] at e ⊢;exact e
   ·rw[ak hb] at e ⊢;exact h.sub b u e,
  fun b u e=>by rw[ak (fun z=>by subst z;rw[h.pro _ _ e] at hn;cases hn)];exact h.pro b u e,
  fun b u e=>by rw[ak (fun z=>by subst z;rw[h.pro _ _ e] at hn;cases hn)];exact h.dis b u e⟩
 keep:=fun b u e n=>by
  have hb:b≠a:=fun z=>by subst z;rw[e] at hn;cases hn
  rw[ak hb,ak hb];exact⟨e,n⟩
theorem Evo.side {P F H:Hp}(h:DHp P F H){a:Addr}{o:HO}(hn:H a=none):Evo P F H F (upd H a o) where
 ext:=Same.refl _
 hp:=⟨fun b u e=>by rw[ak (fun z=>by subst z;rw[h.sub _ _ e] at hn;cases hn)];exact h.sub b u e,
  fun b u e=>by rw[ak (fun z=>by subst z;rw[h.pro _ _ e] at hn;cases hn)];exact h.pro b u e,h.dis⟩
 keep:=fun b u e n=>by
  have hb:b≠a:=fun z=>by subst z;rw[e] at hn;cases hn
  rw[ak hb];exact⟨e,n⟩
theorem DHp.free {P F H:Hp}(h:DHp P F H){a:Addr}(hn:H a=none):F a=none∧P a=none:=⟨h.sub.free hn,h.pro.free hn⟩
def RepS (K:Kq)(H F:Hp)(v:V)(d:D):Prop:=
 Rep K F v d∨∃ (a:Addr) (o:OD) (u:HO),v=.ref a∧F a=none∧H a=some u∧ORep1 K F o u∧o.flat=true∧d=o.d
theorem RepS.evo {K:Kq}{P F H F' H':Hp}{v:V}{d:D}(r:RepS K H F v d)(e:Evo P F H F' H'):RepS K H' F' v d:=
 r.imp (Rep.same e.ext) fun ⟨a,o,u,h1,h2,h3,h4,h5⟩=>⟨a,o,u,h1,(e.keep a u h3 h2).2,(e.keep a u h3 h2).1,h4.same e.ext,h5⟩
theorem DInv.slot {K:Kq}{P F H:Hp}{ρ:DF}{σ:St}(I:DInv K P F H ρ σ){i:Nat}{o:OD}{v:V}(hv:σ[i]?=some (some v))(h:(∃ t,ρ[i]?=some (some (.own o t)))∨ρ[i]?=some (some (.bor o))):∃ a,v=.ref a∧ORep K F H (fun b=>F b=none) o a:=by
 rcases h with⟨t,h⟩ | h
 ·obtain⟨v',h1,a,rfl,h2,_⟩:=I.at h
  rw[hv] at h1;cases h1
  exact⟨a,rfl,h2.mono (Same.refl _) fun b u q hb=>⟨hb,q.1⟩⟩
 ·obtain⟨v',h1,a,rfl,h2⟩:=I.at h
  rw[hv] at h1;cases h1
  exact⟨a,rfl,h2.mono (Same.refl _) fun b u q hb=>⟨I.pro b u hb,I.dis b u hb⟩⟩
theorem RepS.now {K:Kq}{F H:Hp}{v:V}{d:D}(I:Same F H)(r:RepS K H F v d):Rep K H v d:=by
 rcases r with r | ⟨a,o,u,rfl,_,h3,h4,hfl,rfl⟩
 ·exact r.same I
 ·exact h4.rep hfl h3 I
theorem RepS.slot {K:Kq}{P F H:Hp}{ρ:DF}{σ:St}(I:DInv K P F H ρ σ){i:Nat}{o:OD}{v:V}(hv:σ[i]?=some (some v))(h:(∃ t,ρ[i]?=some (some (.own o t)))∨ρ[i]?=some (some (.bor o)))(hfl:o.flat=true):RepS K H F v o.d:=by
 obtain⟨a,rfl,h2⟩:=I.slot hv h
 obtain⟨h3,u,h4,h5⟩:=(ORep.flat hfl).mp h2
 exact .inr ⟨a,o,u,rfl,h3,h4,h5,hfl,rfl⟩
def tD (K:Kq)(f:DF→Option D):TE:=fun σ H Q=>∃ P F ρ d,f ρ=some d∧DInv K P F H ρ σ∧∀ v F' H',Evo P F H F' H'→Rep K F' v d→Q v H'
def tR (K:Kq)(f:DF→Option D):TE:=fun σ H Q=>∃ P F ρ d,f ρ=some d∧DInv K P F H ρ σ∧∀ v F' H',Evo P F H F' H'→RepS K H' F' v d→Q v H'
def tN (K:Kq)(f:DF→Option D):TE:=fun σ H Q=>∃ P F ρ d,f ρ=some d∧DInv K P F H ρ σ∧∀ v F' H',Evo P F H F' H'→Rep K H' v d→Q v H'
def tB' (K:Kq)(f:DF→Option Bool):TT:=fun σ H Q=>∃ P F ρ b,f ρ=some b∧DInv K P F H ρ σ∧∀ F' H',Evo P F H F' H'→Q b H'
def tL (K:Kq)(f:DF→Option (List D)):TA:=fun σ H Q=>∃ P F ρ ds,f ρ=some ds∧DInv K P F H ρ σ∧∀ vs F' H',Evo P F H F' H'→Reps K F' vs ds→Q vs H'
def PDE (X:Cx)(e:Expr)(f:DF→Option D):Prop:=PE X e (tD X.K f)
def PDR (X:Cx)(e:Expr)(f:DF→Option D):Prop:=PE X e (tR X.K f)
def PDN (X:Cx)(e:Expr)(f:DF→Option D):Prop:=PE X e (tN X.K f)
def PDT (X:Cx)(e:Expr)(f:DF→Option Bool):Prop:=PT X e (tB' X.K f)
def PDA (X:Cx)(es:List Expr)(f:DF→Option (List D)):Prop:=PA X es (tL X.K f)
section
variable {X:Cx} {e a b c:Expr} {es:List Expr} {pos:Pos}
theorem PE.imp {t t':TE}(h:PE X e t)(i:∀ σ H Q,t' σ H Q→t σ H Q):PE X e t':=fun pz s σ H Q I q=>h pz s σ H Q I (i σ H Q q)
theorem PT.imp {t t':TT}(h:PT X e t)(i:∀ σ H Q,t' σ H Q→t σ H Q):PT X e t':=fun pz s σ H Q I q=>h pz s σ H Q I (i σ H Q q)
theorem PA.imp {t t':TA}(h:PA X es t)(i:∀ σ H Q,t' σ H Q→t σ H Q):PA X es t':=fun pos pz s σ H Q I q=>h pos pz s σ H Q I (i σ H Q q)
def getV (i:Nat)(ρ:DF):Option D:=match ρ[i]? with
 | some (some (.v d))=>some d
 | _=>none
def bu (i:Nat)(ρ:DF):Option D:=match ρ[i]? with
 | some (some (.v d))=>some d
 | some (some (.own o _))=>if o.flat=true then some o.d else none
 | some (some (.bor o))=>if o.flat=true then some o.d else none
 | _=>none
def aN (i:Nat)(ρ:DF):Option D:=match ρ[i]? with
 | some (some (.v d))=>some d
 | some (some (.own o _))=>some o.d
 | some (some (.bor o))=>some o.d
 | _=>none
theorem oD {i:Nat}{ρ:DF}{d:D}(h:getV i ρ=some d):ρ[i]?=some (some (.v d)):=by
 unfold getV at h
 split at h
 ·rename_i q;cases h;exact q
 ·cases h
theorem dF (i:Nat)(h:PE X e (gr i)):PDE X e (getV i):=h.imp fun σ H Q=>un7 fun P F ρ d hf I k=>by
 obtain⟨v,h1,h2⟩:=I.at (oD hf)
 exact⟨v,h1,k v F H (Evo.refl I.toDHp) h2⟩
theorem aU (i:Nat)(h:PE X e (gr i)):PDR X e (bu i):=h.imp fun σ H Q=>un7 fun P F ρ d hf I k=>by
 unfold bu at hf
 split at hf
 ·rename_i d' q
  cases hf
  obtain⟨v,h1,h2⟩:=I.at q
  exact⟨v,h1,k v F H (Evo.refl I.toDHp) (.inl h2)⟩
 ·rename_i o t q
  split at hf
  ·rename_i hfl
   cases hf
   obtain⟨v,h1,h2⟩:=I.at q
   exact⟨v,h1,k v F H (Evo.refl I.toDHp) (RepS.slot I h1 (.inl ⟨t,q⟩) hfl)⟩
  ·cases hf
 ·rename_i o q
  split at hf
  ·rename_i hfl
   cases hf
   obtain⟨v,h1,h2⟩:=I.at q
   exact⟨v,h1,k v F H (Evo.refl I.toDHp) (RepS.slot I h1 (.inr q) hfl)⟩
  ·cases hf
 ·cases hf
theorem aP (i:Nat)(h:PE X e (gr i)):PDN X e (aN i):=h.imp fun σ H Q=>un7 fun P F ρ d hf I k=>by
 unfold aN at hf
 split at hf
 ·rename_i d' q
  cases hf
  obtain⟨v,h1,h2⟩:=I.at q
  exact⟨v,h1,k v F H (Evo.refl I.toDHp) (Rep.same I.sub h2)⟩
 ·rename_i o t q
  cases hf
  obtain⟨v,h1,_⟩:=I.at q
  obtain⟨a,rfl,h2⟩:=I.slot h1 (.inl ⟨t,q⟩)
  exact⟨_,h1,k _ F H (Evo.refl I.toDHp) (h2.rep I.sub fun _ _ _ q=>q)⟩
 ·rename_i o q
  cases hf
  obtain⟨v,h1,_⟩:=I.at q
  obtain⟨a,rfl,h2⟩:=I.slot h1 (.inr q)
  exact⟨_,h1,k _ F H (Evo.refl I.toDHp) (h2.rep I.sub fun _ _ _ q=>q)⟩
 ·cases hf
theorem PDE.r {f:DF→Option D}(h:PDE X e f):PDR X e f:=PE.imp h fun σ H Q=>un7 fun P F ρ d hf I k=>⟨P,F,ρ,d,hf,I,fun v F' H' ev r=>k v F' H' ev (.inl r)⟩
theorem PDR.n {f:DF→Option D}(h:PDR X e f):PDN X e f:=PE.imp h fun σ H Q=>un7 fun P F ρ d hf I k=>⟨P,F,ρ,d,hf,I,fun v F' H' ev r=>k v F' H' ev (r.now ev.hp.sub)⟩
theorem PDE.n {f:DF→Option D}(h:PDE X e f):PDN X e f:=h.r.n
theorem mN {d:D}{v:V}(h:PE X e (tC v))(r:∀ F,Rep X.K F v d):PDE X e (fun _=>some d):=h.imp fun σ H Q=>un7 fun P F ρ d' hf I k=>by
 cases hf
 exact k v F H (Evo.refl I.toDHp) (r F)
theorem ap {i j p}:PDE X (.Constant (.int i) j p) (fun _=>some (.int i)):=mN p5 fun _=>.int
theorem lf {i j p}:PDE X (.Constant (.bool i) j p) (fun _=>some (.bl i)):=mN rW fun _=>.bl
theorem k6 {i j p}:PDE X (.Constant (.str i) j p) (fun _=>some (.str i)):=mN qx fun _=>.str
def ji (K:Kq)(r:R2)(f:D→D→Option D):Prop:=
 ∀ (P F H:Hp) (x y:V) (dx dy d:D) (Q:VK),f dx dy=some d→DHp P F H→Rep K H x dx→Rep K H y dy→(∀ v F' H',Evo P F H F' H'→Rep K F' v d→Q v H')→r x y H Q
def d2 (f:D→D→Option D)(fa fb:DF→Option D):DF→Option D:=fun ρ=>(fa ρ).bind fun x=>(fb ρ).bind fun y=>f x y
theorem mP {K:Kq}{r:R2}{f:D→D→Option D}{fa fb:DF→Option D}(ho:ji K r f):∀ σ H Q,tD K (d2 f fa fb) σ H Q→tOp r (tN K fa) (tN K fb) σ H Q:=fun σ H Q=>un7 fun P F ρ d hf I k=>by
 unfold d2 at hf
 cases ha:fa ρ with
 | none=>rw[ha] at hf;cases hf
 | some dx=>
  rw[ha] at hf
  cases hb:fb ρ with
  | none=>rw[Yh,hb] at hf;cases hf
  | some dy=>
   rw[Yh,hb,Yh] at hf
   refine⟨P,F,ρ,dx,ha,I,fun x F1 H1 e1 rx=>⟨P,F1,ρ,dy,hb,I.evo e1,fun y F2 H2 e2 ry=>?_⟩⟩
   exact ho P F2 H2 x y dx dy d Q hf e2.hp (rx.same (e2.same e1.hp)) ry fun v F3 H3 e3 rv=>k v F3 H3 ((e1.trans e2).trans e3) rv
theorem pL {op:CmpOp}{r:R2}{f:D→D→Option D}{fa fb:DF→Option D}(ho:OpR X (compareOp op) r)(hf:ji X.K r f)(ha:PDN X a fa)(hb:PDN X b fb)(hm:behindInMarks op b=false):PDE X (.Compare a [op] [b] pos) (d2 f fa fb):=
 (ov ho ha hb hm).imp (mP hf)
def j8 (K:Kq)(r:R2)(f:D→D→Option D):Prop:=
 ∀ (P F H:Hp) (ρ:DF) (σ:St) (x y:V) (dx dy d:D) (Q:VK),f dx dy=some d→DInv K P F H ρ σ→RepS K H F x dx→RepS K H F y dy→(∀ v F' H',Evo P F H F' H'→Rep K F' v d→Q v H')→r x y H Q
theorem k8 {K:Kq}{r:R2}{f:D→D→Option D}{fa fb:DF→Option D}(ho:j8 K r f):∀ σ H Q,tD K (d2 f fa fb) σ H Q→tOp r (tR K fa) (tR K fb) σ H Q:=fun σ H Q=>un7 fun P F ρ d hf I k=>by
 unfold d2 at hf
 cases ha:fa ρ with
 | none=>rw[ha] at hf;cases hf
 | some dx=>
  rw[ha] at hf
  cases hb:fb ρ with
  | none=>rw[Yh,hb] at hf;cases hf
  | some dy=>
   rw[Yh,hb,Yh] at hf
   refine⟨P,F,ρ,dx,ha,I,fun x F1 H1 e1 rx=>⟨P,F1,ρ,dy,hb,I.evo e1,fun y F2 H2 e2 ry=>?_⟩⟩
   exact ho P F2 H2 ρ σ x y dx dy d Q hf ((I.evo e1).evo e2) (rx.evo e2) ry fun v F3 H3 e3 rv=>k v F3 H3 ((e1.trans e2).trans e3) rv
theorem dm {op:Operator}{r:R2}{f:D→D→Option D}{fa fb:DF→Option D}(ho:OpR X (binaryOp op) r)(hf:j8 X.K r f)(ha:PDR X a fa)(hb:PDR X b fb):PDE X (.BinOp a op b pos) (d2 f fa fb):=
 (rM ho ha hb).imp (k8 hf)
def asB (f:DF→Option D):DF→Option Bool:=fun ρ=>match f ρ with
 | some (.bl b)=>some b
 | _=>none
theorem p9 {f:DF→Option D}{ρ:DF}{b:Bool}(h:asB f ρ=some b):f ρ=some (.bl b):=by
 unfold asB at h
 split at h
 ·rename_i q;cases h;exact q
 ·cases h
theorem iy {K:Kq}{t:TE}{f:DF→Option D}(h:∀ σ H Q,tD K f σ H Q→t σ H Q):∀ σ H Q,tB' K (asB f) σ H Q→pi t σ H Q:=fun σ H Q=>un7 fun P F ρ b hf I k=>by
 refine h σ H _ ⟨P,F,ρ,.bl b,p9 hf,I,fun v F' H' ev r=>?_⟩
 cases r
 exact⟨b,rfl,k F' H' ev⟩
theorem em {op:CmpOp}{r:R2}{f:D→D→Option D}{fa fb:DF→Option D}(ho:OpR X (compareOp op) r)(hf:ji X.K r f)(ha:PDN X a fa)(hb:PDN X b fb)(hm:behindInMarks op b=false):PDT X (.Compare a [op] [b] pos) (asB (d2 f fa fb)):=
 (nU ho ha hb hm).imp (iy (mP hf))
theorem j6 {f:DF→Option D}(h:PDE X e f)(he:∀ whole,isTrue e X.env whole=(do let v ← whole;standAt e.pos;holding [v] (truthy v)):=by intro _;rfl):PDT X e (asB f):=
 (qM h he).imp (iy (t:=tD X.K f) fun _ _ _ q=>q)
theorem bz {K:Kq}{H F:Hp}{x:V}{i:Int}(r:RepS K H F x (.int i)):x=.int i:=by
 rcases r with r | ⟨_,o,_,_,_,_,_,_,z⟩
 ·cases r;rfl
 ·cases o <;> cases z
theorem d9 {K:Kq}{H F:Hp}{x:V}{i:Str}(r:RepS K H F x (.str i)):x=.str i:=by
 rcases r with r | ⟨_,o,_,_,_,_,_,_,z⟩
 ·cases r;rfl
 ·cases o <;> cases z
theorem cG {K:Kq}{P F H:Hp}{ρ:DF}{σ:St}{x:V}{ds:List D}(I:DInv K P F H ρ σ)(r:RepS K H F x (.lst ds)):∃ a vs,x=.ref a∧SqL K H a vs∧Reps K F vs ds:=by
 rcases r with r | ⟨a,o,u,rfl,_,h3,h4,hfl,z⟩
 ·cases r with | lst h q=>exact⟨_,_,rfl,I.sub.seq h,q⟩
 ·cases o with
  | lst ds'=>
   cases z
   cases u with
   | lst vs=>exact⟨a,vs,rfl,SqL.of h3,h4⟩
   | _=>exact h4.elim
  | lst2 _=>cases hfl
  | tup2 _=>cases hfl
  | _=>cases z
theorem d_ {K:Kq}{P F H:Hp}{ρ:DF}{σ:St}{x:V}{ds:List D}(I:DInv K P F H ρ σ)(r:RepS K H F x (.tup ds)):∃ a vs,x=.ref a∧SqT K H a vs∧Reps K F vs ds:=by
 rcases r with r | ⟨a,o,u,rfl,_,h3,h4,hfl,z⟩
 ·cases r with | tup h q=>exact⟨_,_,rfl,SqT.of (I.sub _ _ h),q⟩
 ·cases o <;> first | (cases z;done) | cases hfl
def fI (C:Int→Int→Bool)(g:Int→Int→D):D→D→Option D
 | .int i,.int j=>if C i j=true then some (g i j) else none
 | _,_=>none
theorem gG {K:Kq}{C:Int→Int→Prop}{C':Int→Int→Bool}{g:Int→Int→V}{g':Int→Int→D}(hC:∀ i j,C' i j=true→C i j)(hg:∀ F i j,Rep K F (g i j) (g' i j)):j8 K (rI C g) (fI C' g'):=by
 intro P F H ρ σ x y dx dy d Q hf I rx ry k
 unfold fI at hf
 split at hf
 ·rename_i i j
  split at hf
  ·rename_i hc
   cases hf
   exact⟨i,j,bz rx,bz ry,hC i j hc,k _ F H (Evo.refl I.toDHp) (hg F i j)⟩
  ·cases hf
 ·cases hf
def fI0 (g:Int→Int→D):D→D→Option D
 | .int i,.int j=>some (g i j)
 | _,_=>none
theorem nO {K:Kq}{g:Int→Int→V}{g':Int→Int→D}(hg:∀ F i j,Rep K F (g i j) (g' i j)):j8 K (rI0 g) (fI0 g'):=by
 intro P F H ρ σ x y dx dy d Q hf I rx ry k
 unfold fI0 at hf
 split at hf
 ·rename_i i j
  cases hf
  exact⟨i,j,bz rx,bz ry,k _ F H (Evo.refl I.toDHp) (hg F i j)⟩
 ·cases hf
def lV:=fI0 fun i j=>.int (i-j)
def qA:=fI (fun i j=>decide ((-(2 ^ 64)<i∧i<2 ^ 64)∨(-(2 ^ 64)<j∧j<2 ^ 64))) fun i j=>.int (i*j)
def cU:=fI (fun _ j=>decide (0<j∧j<1073741824)) fun i j=>.int (i/j)
def cR:=fI (fun _ j=>decide (0<j)) fun i j=>.int (i%j)
def j7:=fI (fun i j=>decide (0≤j∧j≤1000000∧i.natAbs<2 ^ 64)) fun i j=>.int (i ^ j.toNat)
def ltI:=fI0 fun i j=>.bl (decide (i<j))
def leI:=fI0 fun i j=>.bl (decide (i≤j))
def gtI:=fI0 fun i j=>.bl (decide (j<i))
theorem lB {fa fb:DF→Option D}(ha:PDR X a fa)(hb:PDR X b fb):PDE X (.BinOp a .Sub b pos) (d2 lV fa fb):=dm pN (nO fun _ _ _=>.int) ha hb
theorem qv {fa fb:DF→Option D}(ha:PDR X a fa)(hb:PDR X b fb):PDE X (.BinOp a .Mult b pos) (d2 qA fa fb):=dm qE (gG (fun _ _ h=>by have q:=Xq h;exact q) fun _ _ _=>.int) ha hb
theorem eB {fa fb:DF→Option D}(ha:PDR X a fa)(hb:PDR X b fb):PDE X (.BinOp a .FloorDiv b pos) (d2 cU fa fb):=dm nC (gG (fun _ _ h=>by have q:=Xq h;exact q) fun _ _ _=>.int) ha hb
theorem bQ {fa fb:DF→Option D}(ha:PDR X a fa)(hb:PDR X b fb):PDE X (.BinOp a .Mod b pos) (d2 cR fa fb):=dm pM (gG (fun _ _ h=>by have q:=Xq h;exact q) fun _ _ _=>.int) ha hb
theorem l7 {fa fb:DF→Option D}(ha:PDR X a fa)(hb:PDR X b fb):PDE X (.BinOp a .Pow b pos) (d2 j7 fa fb):=dm qN (gG (fun _ _ h=>by have q:=Xq h;exact q) fun _ _ _=>.int) ha hb
end
def tO (K:Kq)(f:DF→Option OD):TE:=fun σ H Q=>∃ P F ρ o,f ρ=some o∧DInv K P F H ρ σ ∧
 ∀ a F' H',Evo P F H F' H'→ORep K F' H' (fun b=>H b=none∧F' b=none) o a→Q (.ref a) H'
def PDO (X:Cx)(e:Expr)(f:DF→Option OD):Prop:=PE X e (tO X.K f)
def asO (f:DF→Option OD):DF→Option D:=fun ρ=>(f ρ).map OD.d
theorem Evo.back {P F H F' H':Hp}(h:DHp P F H)(e:Evo P F H F' H'){a:Addr}(n:H' a=none):H a=none:=by
 cases q:H a with
 | none=>rfl
 | some o=>rw[e.same h a o q] at n;cases n
open Classical in
noncomputable def mY (F H:Hp)(ow:Addr→Prop):Hp:=fun b=>if ow b then H b else F b
theorem bX {F H:Hp}{ow:Addr→Prop}{b:Addr}(h:ow b):mY F H ow b=H b:=Yn h
theorem ck {F H:Hp}{ow:Addr→Prop}{b:Addr}(h:¬ ow b):mY F H ow b=F b:=Yo h
theorem aR {F H:Hp}{ow:Addr→Prop}(h:∀ b,ow b→F b=none):Same F (mY F H ow):=fun b u e=>by
 by_cases q:ow b
 ·rw[h b q] at e;cases e
 ·rw[ck q];exact e
theorem Evo.freeze {P F H F' H':Hp}(h0:DHp P F H)(e:Evo P F H F' H')(ow:Addr→Prop)(hn:∀ b,ow b→H b=none∧F' b=none):Evo P F H (mY F' H' ow) H' where
 ext:=e.ext.trans (aR fun b q=>(hn b q).2)
 hp:=⟨fun b u h=>by
   by_cases q:ow b
   ·rw[bX q] at h;exact h
   ·rw[ck q] at h;exact e.hp.sub b u h,e.hp.pro,fun b u h=>by
   rw[ck fun q=>by rw[(h0.pro.free (hn b q).1)] at h;cases h];exact e.hp.dis b u h⟩
 keep:=fun b u h n=>by
  obtain⟨k1,k2⟩:=e.keep b u h n
  refine⟨k1,?_⟩
  rw[ck fun q=>by rw[(hn b q).1] at h;cases h]
  exact k2
theorem fw {F:Hp}{a:Addr}{o:HO}(h:F a=none):Same F (upd F a o):=fun b u e=>by rw[ak (aE e h)];exact e
section
variable {X:Cx} {e:Expr} {es:List Expr} {st:Stmt} {sts aG:List Stmt} {pos:Pos}
theorem PDO.v {f:DF→Option OD}(h:PDO X e f):PDE X e (asO f):=PE.imp h fun σ H Q=>un7 fun P F ρ d hf I k=>by
 unfold asO at hf
 cases q:f ρ with
 | none=>rw[q] at hf;cases hf
 | some o=>
  rw[q] at hf
  cases hf
  refine⟨P,F,ρ,o,q,I,fun a F' H' ev ho=>?_⟩
  have hn:∀ b,(H b=none∧F' b=none)→H b=none∧F' b=none:=fun _ q=>q
  exact k (.ref a) _ H' (ev.freeze I.toDHp (fun b=>H b=none∧F' b=none) hn) (ho.rep (aR fun b q=>q.2) fun b u q hb=>by rw[bX q];exact hb)
def asL (f:DF→Option (List D)):DF→Option OD:=fun ρ=>(f ρ).map .lst
inductive RES where
 | nx (ρ:DF) | rt (x:DV) (ρ:DF) | bk (ρ:DF) | ct (ρ:DF)
abbrev Dd:=DF→Option D
abbrev Dw:=DF→Option RES
abbrev Dk:=DF→Option Bool
abbrev Dv:=DF→Option (List DV)
abbrev Dl:=DF→Option (List D)
abbrev Dm:=List DV→Option DV
abbrev Dq:=D→DF→Option DF
abbrev Do:=DF→Option OD
abbrev Dz:=OD→List DV→Option (OD×D)
abbrev Dy:=D→D→Option D
def EndsD (K:Kq)(P F:Hp)(E:Ends):RES→Prop
 | .nx ρ=>∀ σ F' H',Same F F'→DInv K P F' H' ρ σ→E.nx σ H'
 | .bk ρ=>∀ σ F' H',Same F F'→DInv K P F' H' ρ σ→E.bk σ H'
 | .ct ρ=>∀ σ F' H',Same F F'→DInv K P F' H' ρ σ→E.ct σ H'
 | .rt x ρ=>∀ v σ F' H',Same F F'→DInv K P F' H' ρ σ→DVRep K P F' H' kY x v→E.rt v H'
theorem EndsD.ext {K:Kq}{P F F1:Hp}{E:Ends}{r:RES}(h:EndsD K P F E r)(e:Same F F1):EndsD K P F1 E r:=by
 cases r with
 | nx ρ=>exact fun σ F' H' e' I=>h σ F' H' (e.trans e') I
 | bk ρ=>exact fun σ F' H' e' I=>h σ F' H' (e.trans e') I
 | ct ρ=>exact fun σ F' H' e' I=>h σ F' H' (e.trans e') I
 | rt x ρ=>exact fun v σ F' H' e' I r=>h v σ F' H' (e.trans e') I r
def tS (K:Kq)(g:Dw):TS:=fun E σ H=>∃ P F ρ r,g ρ=some r∧DInv K P F H ρ σ∧EndsD K P F E r
def PD1 (X:Cx)(st:Stmt)(g:Dw):Prop:=PS X st (tS X.K g)
def PDS (X:Cx)(sts:List Stmt)(g:Dw):Prop:=PSs X sts (tS X.K g)
theorem PS.imp {t t':TS}(h:PS X st t)(i:∀ E σ H,t' E σ H→t E σ H):PS X st t':=fun pz s σ H E I q=>h pz s σ H E I (i E σ H q)
theorem PSs.imp {t t':TS}(h:PSs X sts t)(i:∀ E σ H,t' E σ H→t E σ H):PSs X sts t':=fun pz s σ H E I q=>h pz s σ H E I (i E σ H q)
def dNx:DF→Option RES:=fun ρ=>some (.nx ρ)
theorem r_ {K:Kq}:∀ E σ H,tS K dNx E σ H→E.nx σ H:=fun E σ H=>un7 fun P F ρ r hg I k=>by
 cases hg
 exact k σ F H (Same.refl _) I
theorem bP:PDS X [] dNx:=PSs.imp oC r_
def bJ (g h:Dw):DF→Option RES:=fun ρ=>match g ρ with
 | some (.nx ρ')=>h ρ'
 | r=>r
theorem ao {g h:Dw}(h1:PD1 X st g)(h2:PDS X aG h):PDS X (st::aG) (bJ g h):=PSs.imp (lW h1 h2) fun E σ H=>un7 fun P F ρ r hg I k=>by
 unfold bJ at hg
 split at hg
 ·rename_i ρ' q
  exact⟨P,F,ρ,_,q,I,fun σ' F' H' e I'=>⟨P,F',ρ',r,hg,I',k.ext e⟩⟩
 ·rename_i q
  refine⟨P,F,ρ,r,hg,I,?_⟩
  cases r with
  | nx ρ'=>exact absurd hg (q ρ')
  | bk ρ=>exact k
  | ct ρ=>exact k
  | rt x ρ=>exact k
theorem aH {g:Dw}(h1:PD1 X st g):PDS X [st] g:=PSs.imp (oN h1) fun _ _ _ q=>q
def cN (f:Dd):DF→Option RES:=fun ρ=>(f ρ).map fun d=>.rt (.v d) ρ
theorem bv {f:Dd}(h:PDE X e f):PD1 X (.Return (some e) pos) (cN f):=PS.imp (m7 h) fun E σ H=>un7 fun P F ρ r hg I k=>by
 unfold cN at hg
 cases q:f ρ with
 | none=>rw[q] at hg;cases hg
 | some d=>
  rw[q] at hg
  cases hg
  exact⟨P,F,ρ,d,q,I,fun v F' H' ev rv=>k v σ F' H' ev.ext (I.evo ev) rv⟩
def jY (f:Do):DF→Option RES:=fun ρ=>(f ρ).map fun o=>.rt (.own o none) ρ
theorem nK {f:Do}(h:PDO X e f):PD1 X (.Return (some e) pos) (jY f):=PS.imp (m7 h) fun E σ H=>un7 fun P F ρ r hg I k=>by
 unfold jY at hg
 cases q:f ρ with
 | none=>rw[q] at hg;cases hg
 | some o=>
  rw[q] at hg
  cases hg
  exact⟨P,F,ρ,o,q,I,fun a F' H' ev ho=>k (.ref a) σ F' H' ev.ext (I.evo ev) ⟨a,rfl,ho.mono (Same.refl _) fun b u q hb=>⟨hb,q.2,I.pro.free q.1,trivial⟩,fun _ z=>nomatch z⟩⟩
def sC (i:Nat):DF→Option RES:=fun ρ=>match ρ[i]? with
 | some (some x)=>some (.rt x ρ)
 | _=>none
theorem d7 {α:Type}{l:List α}{i j:Nat}{x y:α}(h:(l.set i x)[j]?=some y):(i=j∧y=x∧i<l.length)∨(i≠j∧l[j]?=some y):=by
 by_cases hj:i=j
 ·subst hj
  have hl:i<l.length:=by have:=(Yi.mp h).1;rwa [ZH] at this
  rw[Zw hl] at h
  exact .inl ⟨rfl,(Yx h).symm,hl⟩
 ·rw[ZC hj] at h
  exact .inr ⟨hj,h⟩
theorem DInv.setO {K:Kq}{P F H:Hp}{ρ:DF}{σ:St}(I:DInv K P F H ρ σ)(i:Nat){v:V}{x:DV}(nw:Addr→Prop)(hn:∀ (j:Nat) (y:DV) (w:V) (O:Addr→Option Nat),j≠i→ρ[j]?=some (some y)→DVRep K P F H (fun b=>O b=some j) y w→DVRep K P F H (fun b=>O b=some j∧¬ nw b) y w)(r:DVRep K P F H nw x v) :
  DInv K P F H (ρ.set i (some x)) (σ.set i (some v)):=by
 obtain⟨O,h⟩:=I.rep
 refine⟨I.toDHp,by rw[ZH,ZH];exact I.len,?_⟩
 classical
 refine⟨fun b=>if nw b then some i else if O b=some i then none else O b,fun j y hj=>?_⟩
 rcases d7 hj with⟨rfl,e,hl⟩ | ⟨hij,hj'⟩
 ·cases e
  refine⟨v,by rw[Zw (by rw[← I.len];exact hl)],r.imp fun b u _ _ _ q=>Yn q⟩
 ·obtain⟨w,h1,h2⟩:=h j y hj'
  refine⟨w,by rw[ZC hij];exact h1,(hn j y w O (Vz hij) hj' h2).imp fun b u _ _ _ q=>?_⟩
  show (if nw b then some i else if O b=some i then none else O b)=some j
  rw[Yo q.2,Yo (by rw[q.1];intro z;exact hij (Yx z).symm),q.1]
theorem DInv.setV {K:Kq}{P F H:Hp}{ρ:DF}{σ:St}(I:DInv K P F H ρ σ)(i:Nat){v:V}{d:D}(r:Rep K F v d):DInv K P F H (ρ.set i (some (.v d))) (σ.set i (some v)):=
 I.setO i (fun _=>False) (fun j y w O _ _ q=>q.imp fun b u _ _ _ z=>⟨z,id⟩) r
theorem DInv.setN {K:Kq}{P F H F' H':Hp}{ρ:DF}{σ:St}(I:DInv K P F H ρ σ)(ev:Evo P F H F' H')(i:Nat){a:Addr}{o:OD}(ho:ORep K F' H' (fun b=>H b=none∧F' b=none) o a):DInv K P F' H' (ρ.set i (some (.own o none))) (σ.set i (some (.ref a))):=by
 obtain⟨O,h⟩:=I.rep
 refine⟨ev.hp,by rw[ZH,ZH];exact I.len,?_⟩
 classical
 refine⟨fun b=>if H b=none then some i else if O b=some i then none else O b,fun j y hj=>?_⟩
 rcases d7 hj with⟨rfl,e,hl⟩ | ⟨hij,hj'⟩
 ·cases e
  refine⟨.ref a,by rw[Zw (by rw[← I.len];exact hl)],a,rfl,ho.mono (Same.refl _) fun b u q hb=>⟨hb,q.2,I.pro.free q.1,Yn q.1⟩,fun _ z=>nomatch z⟩
 ·obtain⟨w,h1,h2⟩:=h j y hj'
  refine⟨w,by rw[ZC hij];exact h1,?_⟩
  have h3:DVRep K P F H (fun b=>(if H b=none then some i else if O b=some i then none else O b)=some j) y w:=h2.imp fun b u _ _ hb q=>by
   show (if H b=none then some i else if O b=some i then none else O b)=some j
   rw[Yo (by rw[hb];simp),Yo (by rw[q];intro z;exact hij (Yx z).symm),q]
  exact h3.evo ev
def setV (i:Nat)(d:D)(ρ:DF):Option DF:=some (ρ.set i (some (.v d)))
def di (i:Nat)(f:Dd):DF→Option RES:=fun ρ=>(f ρ).map fun d=>.nx (ρ.set i (some (.v d)))
theorem lC {K:Kq}{i:Nat}{f:Dd}:∀ E σ H,tS K (di i f) E σ H→oh (tD K f) (gl i) E σ H:=fun E σ H=>un7 fun P F ρ r hg I k=>by
 unfold di at hg
 cases q:f ρ with
 | none=>rw[q] at hg;cases hg
 | some d=>
  rw[q] at hg
  cases hg
  exact⟨P,F,ρ,d,q,I,fun v F' H' ev rv=>k _ F' H' ev.ext ((I.evo ev).setV i rv)⟩
theorem fm {i:Nat}{x:Str}{pos':Pos}{f:Dd}(hN:X.N.Nodup)(hi:X.N[i]?=some x)(hx:Loc X.env.scope x)(he:PDE X e f)(hs:swapsWith e (some (.Name x pos')) pos.line X.env=pure false:=by rfl)(hf:X.fn x=true∨X.env.scope.names.lookup x=some .local:=by first | exact .inl rfl | exact .inr rfl | assumption) :
  PD1 X (.Assign [.Name x pos'] e pos) (di i f):=PS.imp (k_ hN hi hx he hs hf) lC
def fg (i:Nat)(f:Do):DF→Option RES:=fun ρ=>(f ρ).map fun o=>.nx (ρ.set i (some (.own o none)))
theorem qg {K:Kq}{i:Nat}{f:Do}:∀ E σ H,tS K (fg i f) E σ H→oh (tO K f) (gl i) E σ H:=fun E σ H=>un7 fun P F ρ r hg I k=>by
 unfold fg at hg
 cases q:f ρ with
 | none=>rw[q] at hg;cases hg
 | some o=>
  rw[q] at hg
  cases hg
  exact⟨P,F,ρ,o,q,I,fun a F' H' ev ho=>k _ F' H' ev.ext (I.setN ev i ho)⟩
theorem gu {i:Nat}{x:Str}{pos':Pos}{f:Do}(hN:X.N.Nodup)(hi:X.N[i]?=some x)(hx:Loc X.env.scope x)(he:PDO X e f)(hs:swapsWith e (some (.Name x pos')) pos.line X.env=pure false:=by rfl)(hf:X.fn x=true∨X.env.scope.names.lookup x=some .local:=by first | exact .inl rfl | exact .inr rfl | assumption) :
  PD1 X (.Assign [.Name x pos'] e pos) (fg i f):=PS.imp (k_ hN hi hx he hs hf) qg
def k9 (i:Nat)(g:Dw):DF→Option RES:=fun ρ=>match ρ[i]? with
 | some (some (.own o none))=>g (ρ.set i (some (.v o.d)))
 | some (some (.v d))=>g ρ
 | _=>none
theorem DInv.frz {K:Kq}{P F H:Hp}{ρ:DF}{σ:St}(I:DInv K P F H ρ σ){i:Nat}{o:OD}{t:Option Addr}(h:ρ[i]?=some (some (.own o t))):∃ F',Same F F'∧DInv K P F' H (ρ.set i (some (.v o.d))) σ:=by
 obtain⟨O,hr⟩:=I.rep
 have hn:∀ b,(F b=none∧P b=none∧O b=some i)→F b=none:=fun b q=>q.1
 refine⟨mY F H (fun b=>F b=none∧P b=none∧O b=some i),aR hn,⟨fun b u q=>?_,I.pro,fun b u q=>?_⟩,by rw[ZH];exact I.len,O,fun j y hj=>?_⟩
 ·by_cases c:F b=none∧P b=none∧O b=some i
  ·rw[bX (ow:=fun b=>F b=none∧P b=none∧O b=some i) c] at q;exact q
  ·rw[ck (ow:=fun b=>F b=none∧P b=none∧O b=some i) c] at q;exact I.sub b u q
 ·rw[ck (ow:=fun b=>F b=none∧P b=none∧O b=some i) fun c=>by rw[c.2.1] at q;cases q];exact I.dis b u q
 ·rcases d7 hj with⟨rfl,e,hl⟩ | ⟨hij,hj'⟩
  ·cases e
   obtain⟨v,h1,a,rfl,h2,_⟩:=hr i _ h
   exact⟨_,h1,h2.rep (aR hn) fun b u q hb=>by rw[bX (ow:=fun b=>F b=none∧P b=none∧O b=some i) q];exact hb⟩
  ·obtain⟨v,h1,h2⟩:=hr j y hj'
   refine⟨v,h1,?_⟩
   cases y with
   | v d=>exact Rep.same (aR hn) h2
   | own o' t'=>
    obtain⟨a,rfl,h3,ht⟩:=h2
    exact⟨a,rfl,h3.mono (aR hn) fun b u q hb=>⟨hb,by
     rw[ck (ow:=fun b=>F b=none∧P b=none∧O b=some i) fun c=>by rw[q.2.2] at c;exact hij (Yx c.2.2).symm];exact q.1,q.2⟩,ht⟩
   | bor o'=>
    obtain⟨a,rfl,h3⟩:=h2
    exact⟨a,rfl,h3.mono (aR hn) fun b u q hb=>⟨hb,q⟩⟩
theorem pH {K:Kq}{i:Nat}{g:Dw}:∀ E σ H,tS K (k9 i g) E σ H→tS K g E σ H:=fun E σ H=>un7 fun P F ρ r hg I k=>by
 unfold k9 at hg
 split at hg
 ·rename_i o q
  obtain⟨F',e,I'⟩:=I.frz q
  exact⟨P,F',_,r,hg,I',k.ext e⟩
 ·exact⟨P,F,ρ,r,hg,I,k⟩
 ·cases hg
theorem nD (i:Nat){g:Dw}(h:PD1 X st g):PD1 X st (k9 i g):=PS.imp h pH
def rS (f:Dd):DF→Option RES:=fun ρ=>(f ρ).map fun _=>.nx ρ
def dIf (c:Dk)(g h:Dw):DF→Option RES:=fun ρ=>(c ρ).bind fun b=>if b=true then g ρ else h ρ
theorem dU {c:Expr}{a b:List Stmt}{fc:Dk}{g h:Dw}(hc:PDT X c fc)(ha:PDS X a g)(hb:PDS X b h):PD1 X (.If c a b pos) (dIf fc g h):=PS.imp (rX hc ha hb) fun E σ H=>un7 fun P F ρ r hg I k=>by
 unfold dIf at hg
 cases q:fc ρ with
 | none=>rw[q] at hg;cases hg
 | some b=>
  rw[q,Yh] at hg
  refine⟨P,F,ρ,b,q,I,fun F' H' ev=>?_⟩
  cases b with
  | true=>
   rw[Yn rfl] at hg ⊢
   exact⟨P,F',ρ,r,hg,I.evo ev,k.ext ev.ext⟩
  | false=>
   rw[Yo Yg] at hg ⊢
   exact⟨P,F',ρ,r,hg,I.evo ev,k.ext ev.ext⟩
def pO (K:Kq)(P:Hp)(J:It)(F:Hp)(ds:List D):Prop:=
 ∀ F' H',Same F F'→DHp P F' H'→∀ i:Nat,(∀ d,ds[i]?=some d→J.go i H'∧∀ x H2,J.yld i H' x H2→∃ F2,Evo P F' H' F2 H2∧Rep K F2 x d)∧(ds.length≤i→J.stop i H')
def tI (K:Kq)(f:Dl):TI:=fun σ H R=>∃ P F ρ ds,f ρ=some ds∧DInv K P F H ρ σ∧∀ (J:It) F' H',Evo P F H F' H'→pO K P J F' ds→R J H'
def PDI (X:Cx)(tg iter:Expr)(f:Dl):Prop:=PI X tg iter (tI X.K f)
theorem PI.imp {tg iter:Expr}{t t':TI}(h:PI X tg iter t)(i:∀ σ H R,t' σ H R→t σ H R):PI X tg iter t':=fun pz s σ H R I q=>h pz s σ H R I (i σ H R q)
def tG (K:Kq)(is:List Nat)(st:Dq):TG:=fun v σ H Q=>∃ P F ρ d ρ',st d ρ=some ρ'∧DInv K P F H ρ σ∧Rep K F v d∧∀ σ' F' H',Evo P F H F' H'→DInv K P F' H' ρ' σ'→σ'.length=σ.length→(∀ j,j∉is→σ'[j]?=σ[j]?)→Q σ' H'
def PDG (X:Cx)(tg:Expr)(is:List Nat)(st:Dq):Prop:=PG X tg (tG X.K is st)
theorem PG.imp {tg:Expr}{t t':TG}(h:PG X tg t)(i:∀ v σ H Q,t' v σ H Q→t v σ H Q):PG X tg t':=fun pz s σ H v u Q I r q=>h pz s σ H v u Q I r (i v σ H Q q)
theorem bU {i:Nat}{x:Str}(hN:X.N.Nodup)(hi:X.N[i]?=some x)(hx:Loc X.env.scope x)(hf:X.fn x=true∨X.env.scope.names.lookup x=some .local:=by first | exact .inl rfl | exact .inr rfl | assumption):PDG X (.Name x pos) [i] (setV i):=
 PG.imp (oq hN hi hx hf) fun v σ H Q hh_=>by
  obtain⟨P,F,ρ,d,ρ',hs,I,r,k⟩:=hh_
  cases hs
  exact k _ F H (Evo.refl I.toDHp) (I.setV i r) (ZH ..) fun j hj=>by rw[ZC (fun z=>hj (by rw[z];exact List.mem_singleton_self _))]
def fH (st:Dq)(body:Dw):List D→DF→Option RES
 | [],ρ=>some (.nx ρ)
 | d::ds,ρ=>match st d ρ with
  | none=>none
  | some ρ1=>match body ρ1 with
   | some (.nx ρ')=>fH st body ds ρ'
   | some (.ct ρ')=>fH st body ds ρ'
   | some (.bk ρ')=>some (.nx ρ')
   | r=>r
def qs (it:Dl)(st:Dq)(body:Dw):DF→Option RES:=fun ρ=>(it ρ).bind fun ds=>fH st body ds ρ
theorem qb {tg iter:Expr}{body:List Stmt}{f:Dl}{is:List Nat}{st:Dq}{g:Dw}(hp:PassesOwn (model X.prog X.w) X.A X.env X.xe)(hc:X.calm=true)(hi:PDI X tg iter f)(hg:PDG X tg is st)(hb:PDS X body g)
  (hs:∀ x,foldedSetIterable iter X.env x=pure x:=by intro _;rfl):PD1 X (.For tg iter body [] pos) (qs f st g):=PS.imp (p3 hp hc hi hg hb hs) fun E σ H=>un7 fun P F ρ r hr I k=>by
 unfold qs at hr
 cases q:f ρ with
 | none=>rw[q] at hr;cases hr
 | some ds=>
  rw[q,Yh] at hr
  refine⟨P,F,ρ,ds,q,I,fun J F1 H1 ev ok=>?_⟩
  refine⟨fun i m σ' H'=>m=ds.length-i∧i≤ds.length∧∃ F' ρ',Same F1 F'∧DInv X.K P F' H' ρ' σ'∧fH st g (ds.drop i) ρ'=some r,⟨_,rfl,Za _,F1,ρ,Same.refl _,I.evo ev,hr⟩,?_⟩
  rintro i m σ' H' ⟨rfl,hil,F',ρ',se,I',hf⟩
  obtain⟨ok1,ok2⟩:=ok F' H' se I'.toDHp i
  by_cases hlt:i<ds.length
  ·have hd:ds[i]?=some ds[i]:=Ye hlt
   obtain⟨go,yl⟩:=ok1 _ hd
   have hdrop:ds.drop i=ds[i]::ds.drop (i+1):=Zg hlt
   rw[hdrop] at hf
   unfold fH at hf
   cases hst:st ds[i] ρ' with
   | none=>rw[hst] at hf;cases hf
   | some ρ1=>
    rw[hst] at hf
    dsimp only at hf
    have hE:Same F F':=ev.ext.trans se
    refine .inr ⟨go,fun σ2 H2=>∃ F2 ρ2,Same F1 F2∧DInv X.K P F2 H2 ρ2 σ2∧fH st g (ds.drop (i+1)) ρ2=some r,fun σ2 H2 ⟨F2,ρ2,s2,I2,hf2⟩=>⟨ds.length-(i+1),by omega,rfl,hlt,F2,ρ2,s2,I2,hf2⟩,fun x H2 hy=>?_⟩
    obtain⟨F2,ev2,rx⟩:=yl x H2 hy
    refine⟨P,F2,ρ',ds[i],ρ1,hst,I'.evo ev2,rx,fun σ3 F3 H3 ev3 I3 _ _=>?_⟩
    have s13:Same F1 F3:=se.trans (ev2.ext.trans ev3.ext)
    cases hb':g ρ1 with
    | none=>rw[hb'] at hf;cases hf
    | some res=>
     rw[hb'] at hf
     refine⟨P,F3,ρ1,res,hb',I3,?_⟩
     cases res with
     | nx ρ4=>exact fun σ4 F4 H4 e4 I4=>⟨F4,ρ4,s13.trans e4,I4,hf⟩
     | ct ρ4=>exact fun σ4 F4 H4 e4 I4=>⟨F4,ρ4,s13.trans e4,I4,hf⟩
     | bk ρ4=>
      cases hf
      exact fun σ4 F4 H4 e4 I4=>k σ4 F4 H4 (ev.ext.trans (s13.trans e4)) I4
     | rt x4 ρ4=>
      cases hf
      exact fun v4 σ4 F4 H4 e4 I4 r4=>k v4 σ4 F4 H4 (ev.ext.trans (s13.trans e4)) I4 r4
  ·have hz:ds.drop i=[]:=Xi (by omega)
   rw[hz] at hf
   cases hf
   exact .inl ⟨ok2 (by omega),k σ' F' H' (ev.ext.trans se) I'⟩
end
def gd (F H:Hp):Hp:=fun a=>match F a with
 | none=>H a
 | some _=>none
theorem dX {F H:Hp}{a:Addr}{o:HO}:gd F H a=some o↔F a=none∧H a=some o:=by
 unfold gd
 cases q:F a with
 | none=>simp
 | some u=>simp
theorem j5 {F H:Hp}(s:Same F H):DHp (gd F H) F H:=⟨s,fun a o e=>(dX.mp e).2,fun a o e=>(dX.mp e).1⟩
theorem DHp.gd {P F H F' H':Hp}(h:DHp P F H)(e:Same F F')(g:DHp (gd F H) F' H'):Evo P F H F' H' where
 ext:=e
 hp:=⟨g.sub,fun a o q=>g.pro a o (dX.mpr ⟨h.dis a o q,h.pro a o q⟩),fun a o q=>g.dis a o (dX.mpr ⟨h.dis a o q,h.pro a o q⟩)⟩
 keep:=fun a o q n=>⟨g.pro a o (dX.mpr ⟨n,q⟩),g.dis a o (dX.mpr ⟨n,q⟩)⟩
theorem Evo.change {P P1 F H F' H':Hp}(e:Evo P F H F' H')(h:DHp P1 F H):Evo P1 F H F' H':=
 ⟨e.ext,⟨e.hp.sub,fun a o q=>(e.keep a o (h.pro a o q) (h.dis a o q)).1,fun a o q=>(e.keep a o (h.pro a o q) (h.dis a o q)).2⟩,e.keep⟩
def pq:DV→Bool
 | .own _ _=>true
 | _=>false
inductive DVs (K:PySem.W.Frag) (P F H:Hp):List DV→List V→Prop
 | nil:DVs K P F H [] []
 | cons {x:DV} {v:V} {xs:List DV} {vs:List V}:pq x=false→DVRep K P F H kY x v→DVs K P F H xs vs→DVs K P F H (x::xs) (v::vs)
theorem DVs.length {K:Kq}{P F H:Hp}{xs:List DV}{vs:List V}(h:DVs K P F H xs vs):xs.length=vs.length:=by
 induction h with
 | nil=>rfl
 | cons _ _ _ ih=>exact ZP Nat.succ ih
theorem DVs.get {K:Kq}{P F H:Hp}{xs:List DV}{vs:List V}{i:Nat}{x:DV}(h:DVs K P F H xs vs)(e:xs[i]?=some x):pq x=false∧∃ v,vs[i]?=some v∧DVRep K P F H kY x v:=by
 induction h generalizing i with
 | nil=>exact nomatch e
 | cons h r _ ih=>
  cases i with
  | zero=>obtain rfl:=Yx e;exact⟨h,_,rfl,r⟩
  | succ i=>exact ih e
def spD (K:Kq)(m:Dm):Sp:=fun vs H Q _=>∃ P F xs x,m xs=some x∧DHp P F H∧DVs K P F H xs vs∧∀ v F' H',Same F F'→DHp P F' H'→DVRep K P F' H' kY x v→Q v H'
def cc (n p:Nat)(xs:List DV):DF:=xs.map some++List.replicate (n-p) none
def b_:Option RES→Option DV
 | some (.rt x _)=>some x
 | some (.nx _)=>some (.v .non)
 | _=>none
def mOf (n p:Nat)(g:Dw):List DV→Option DV:=fun xs=>if xs.length=p then b_ (g (cc n p xs)) else none
theorem iT {n p:Nat}{xs:List DV}{i:Nat}{x:DV}(h:(cc n p xs)[i]?=some (some x)):xs[i]?=some x:=by
 unfold cc at h
 by_cases hi:i<xs.length
 ·rw[YX (by simpa using hi),YZ] at h
  cases q:xs[i]? with
  | none=>rw[q] at h;cases h
  | some y=>rw[q] at h;cases h;rfl
 ·rw[YQ (by simpa using hi),ZV] at h
  split at h <;> cases h
theorem ku {N:List Str}{vs:List V}{i:Nat}{v:V}(h:vs[i]?=some v):(start N vs)[i]?=some (some v):=by
 unfold start
 have hi:i<vs.length:=(Yi.mp h).1
 rw[YX (by simpa using hi),YZ,h]
 rfl
theorem DInv.start {K:Kq}{P F H:Hp}{xs:List DV}{vs:List V}(N:List Str)(p:Nat)(h:DHp P F H)(r:DVs K P F H xs vs)(hp:xs.length=p):DInv K P F H (cc N.length p xs) (start N vs):=by
 refine⟨h,?_,fun _=>none,fun i x e=>?_⟩
 ·unfold cc L2.start
  rw[Yk,Yk,YA,YA,YL,YL,r.length,← r.length,hp]
 ·obtain⟨ho,v,h1,h2⟩:=r.get (iT e)
  refine⟨v,ku h1,?_⟩
  cases x with
  | own o t=>cases ho
  | v d=>exact h2
  | bor o=>exact h2
theorem Fun.okD {P:Program}{w:World}{K:Kq}{mg:Ks}{base:Heap}{x qual:Str}{st:Stmt}{f:Addr}{fd:FuncData}{N ps:List Str}{k:Nat}{g:Dw}(F:Fun K x qual st f fd)(S:FnScope N ps (defScope st))
  (hbody:∀ (cdv:Value) (A:Around) (outer:List Env) (s:Shared) (H:Hp) (E:XK),Room k (A.deeper (envOfC qual (defScope st) s.heap.objs.size f cdv))→
   PDS (jj CX0 P w K mg base N qual (defScope st) f cdv A outer s H E).nox (defBody st) g):FnOk P w K mg base CX0 (k+1) f fd ps (spD K (mOf N.length ps.length g)):=by
 have lens:∀ vs H Q E,spD K (mOf N.length ps.length g) vs H Q E→vs.length=ps.length:=fun vs H Q E hh_=>by
  obtain⟨P',F',xs,x',hm,hp,hv,_⟩:=hh_
  unfold mOf at hm
  split at hm
  ·rename_i h;rw[← hv.length];exact h
  ·cases hm
 refine F.ok S lens fun cdv A outer s H vs Q E hr h=>?_
 refine⟨_,hbody cdv A outer s H E hr,?_⟩
 obtain⟨P',F',xs,x',hm,hp,hv,hQ⟩:=h
 unfold mOf at hm
 split at hm
 ·rename_i hl
  have I:DInv K P' F' H (cc N.length ps.length xs) (start N vs):=DInv.start N ps.length hp hv hl
  cases q:g (cc N.length ps.length xs) with
  | none=>rw[q] at hm;cases hm
  | some r=>
   rw[q] at hm
   refine⟨P',F',_,r,q,I,?_⟩
   cases r with
   | rt y ρ=>cases hm;exact fun v σ F2 H2 e h r=>hQ v F2 H2 e h.toDHp r
   | nx ρ=>cases hm;exact fun σ F2 H2 e I2=>hQ .non F2 H2 e I2.toDHp .non
   | bk ρ=>cases hm
   | ct ρ=>cases hm
 ·cases hm
inductive ArgsS (K:PySem.W.Frag) (ρ:DF) (σ:St) (F:Hp):List DV→List V→Prop
 | nil:ArgsS K ρ σ F [] []
 | v {d:D} {v:V} {xs:List DV} {vs:List V}:Rep K F v d→ArgsS K ρ σ F xs vs→ArgsS K ρ σ F (.v d::xs) (v::vs)
 | b {o:OD} {v:V} {xs:List DV} {vs:List V} (i:Nat):σ[i]?=some (some v)→((∃ t,ρ[i]?=some (some (.own o t)))∨ρ[i]?=some (some (.bor o)))→ArgsS K ρ σ F xs vs→ArgsS K ρ σ F (.bor o::xs) (v::vs)
theorem ArgsS.dvs {K:Kq}{P F H:Hp}{ρ:DF}{σ:St}(I:DInv K P F H ρ σ){xs:List DV}{vs:List V}(h:ArgsS K ρ σ F xs vs):DVs K (gd F H) F H xs vs:=by
 induction h with
 | nil=>exact .nil
 | v h _ ih=>exact .cons rfl h ih
 | b i h1 h2 _ ih=>
  obtain⟨a,rfl,h3⟩:=I.slot h1 h2
  exact .cons rfl ⟨a,rfl,h3.mono (Same.refl _) fun b u q hb=>⟨dX.mpr ⟨q,hb⟩,trivial⟩⟩ ih
def tLV (K:Kq)(f:Dv):TA:=fun σ H Q=>∃ P F ρ xs,f ρ=some xs∧DInv K P F H ρ σ∧∀ vs F' H',Evo P F H F' H'→ArgsS K ρ σ F' xs vs→Q vs H'
def jB (X:Cx)(es:List Expr)(f:Dv):Prop:=PA X es (tLV X.K f)
section
variable {X:Cx} {e:Expr} {es:List Expr} {pos:Pos}
theorem bh:jB X [] (fun _=>some []):=PA.imp bS fun σ H Q=>un7 fun P F ρ xs hf I k=>by
 cases hf
 exact k [] F H (Evo.refl I.toDHp) .nil
def aV (f:Dd)(g:Dv):DF→Option (List DV):=fun ρ=>(f ρ).bind fun d=>(g ρ).map fun xs=>.v d::xs
theorem eO {f:Dd}{g:Dv}(h:PDE X e f)(hr:jB X es g)(hs:starEach (e::es) X.env=(false,eval e X.env)::starEach es X.env:=by rfl):jB X (e::es) (aV f g):=PA.imp (aW h hr hs) fun σ H Q=>un7 fun P F ρ xs hf I k=>by
 unfold aV at hf
 cases q:f ρ with
 | none=>rw[q] at hf;cases hf
 | some d=>
  rw[q,Yh] at hf
  cases q2:g ρ with
  | none=>rw[q2] at hf;cases hf
  | some ys=>
   rw[q2] at hf
   cases hf
   exact⟨P,F,ρ,d,q,I,fun v F1 H1 e1 r1=>⟨P,F1,ρ,ys,q2,I.evo e1,fun vs F2 H2 e2 r2=>k (v::vs) F2 H2 (e1.trans e2) (.v (r1.same e2.ext) r2)⟩⟩
def aB (i:Nat)(g:Dv):DF→Option (List DV):=fun ρ=>match ρ[i]? with
 | some (some (.own o _))=>(g ρ).map fun xs=>.bor o::xs
 | some (some (.bor o))=>(g ρ).map fun xs=>.bor o::xs
 | some (some (.v d))=>(g ρ).map fun xs=>.v d::xs
 | _=>none
theorem dg (i:Nat){g:Dv}(h:PE X e (gr i))(hr:jB X es g)(hs:starEach (e::es) X.env=(false,eval e X.env)::starEach es X.env:=by rfl):jB X (e::es) (aB i g):=PA.imp (aW h hr hs) fun σ H Q=>un7 fun P F ρ xs hf I k=>by
 unfold aB at hf
 split at hf
 ·rename_i o t q
  obtain⟨v,h1,h2⟩:=I.at q
  cases q2:g ρ with
  | none=>rw[q2] at hf;cases hf
  | some ys=>
   rw[q2] at hf
   cases hf
   exact⟨v,h1,P,F,ρ,ys,q2,I,fun vs F2 H2 e2 r2=>k (v::vs) F2 H2 e2 (.b i h1 (.inl ⟨t,q⟩) r2)⟩
 ·rename_i o q
  obtain⟨v,h1,h2⟩:=I.at q
  cases q2:g ρ with
  | none=>rw[q2] at hf;cases hf
  | some ys=>
   rw[q2] at hf
   cases hf
   exact⟨v,h1,P,F,ρ,ys,q2,I,fun vs F2 H2 e2 r2=>k (v::vs) F2 H2 e2 (.b i h1 (.inr q) r2)⟩
 ·rename_i d q
  obtain⟨v,h1,h2⟩:=I.at q
  cases q2:g ρ with
  | none=>rw[q2] at hf;cases hf
  | some ys=>
   rw[q2] at hf
   cases hf
   exact⟨v,h1,P,F,ρ,ys,q2,I,fun vs F2 H2 e2 r2=>k (v::vs) F2 H2 e2 (.v (Rep.same e2.ext h2) r2)⟩
 ·cases hf
def dvD:DV→Option D
 | .v d=>some d
 | .own o _=>some o.d
 | .bor _=>none
def bn (m:Dm)(g:Dv):DF→Option D:=fun ρ=>(g ρ).bind fun xs=>(m xs).bind dvD
def dvO:DV→Option OD
 | .own o _=>some o
 | _=>none
def iE (m:Dm)(g:Dv):DF→Option OD:=fun ρ=>(g ρ).bind fun xs=>(m xs).bind dvO
theorem pU {F H:Hp}{F':Hp}{a:Addr}(e:Same F F')(h1:F' a=none)(h2:gd F H a=none):H a=none:=by
 unfold gd at h2
 have:F a=none:=by
  cases q:F a with
  | none=>rfl
  | some o=>rw[e a o q] at h1;cases h1
 rw[this] at h2
 exact h2
theorem jI {K:Kq}{F1 H1 F2 H2:Hp}{o:OD}{a:Addr}(e2:Same F1 F2)(h:ORep K F2 H2 (fun b=>F2 b=none∧gd F1 H1 b=none∧kY b) o a):ORep K F2 H2 (fun b=>H1 b=none∧F2 b=none) o a:=
 h.mono (Same.refl _) fun b u q hb=>⟨hb,pU e2 q.1 q.2.1,q.1⟩
theorem n_ {K:Kq}{m:Dm}{g:Dv}{E:XK}:∀ σ H Q,tD K (bn m g) σ H Q→mw (spD K m) [] E (tLV K g) σ H Q:=fun σ H Q=>un7 fun P F ρ d hf I k=>by
 unfold bn at hf
 cases q:g ρ with
 | none=>rw[q] at hf;cases hf
 | some xs=>
  rw[q,Yh] at hf
  cases q2:m xs with
  | none=>rw[q2] at hf;cases hf
  | some x=>
   rw[q2,Yh] at hf
   refine⟨P,F,ρ,xs,q,I,fun vs F1 H1 e1 r1=>?_⟩
   have I1:=I.evo e1
   refine⟨gd F1 H1,F1,xs,x,q2,j5 I1.sub,by rw[YI];exact r1.dvs I1,fun v F2 H2 e2 hp2 r2=>?_⟩
   have ev:Evo P F1 H1 F2 H2:=I1.toDHp.gd e2 hp2
   cases x with
   | v d'=>cases hf;exact k v F2 H2 (e1.trans ev) r2
   | own o t=>
    cases hf
    obtain⟨a,rfl,ho,_⟩:=r2
    have ho':=jI e2 ho
    exact k _ _ H2 (e1.trans (ev.freeze I1.toDHp (fun b=>H1 b=none∧F2 b=none) fun _ q=>q)) (ho'.rep (aR fun b q=>q.2) fun b u q hb=>by rw[bX q];exact hb)
   | bor o=>cases hf
theorem nP {K:Kq}{m:Dm}{g:Dv}{E:XK}:∀ σ H Q,tO K (iE m g) σ H Q→mw (spD K m) [] E (tLV K g) σ H Q:=fun σ H Q=>un7 fun P F ρ d hf I k=>by
 unfold iE at hf
 cases q:g ρ with
 | none=>rw[q] at hf;cases hf
 | some xs=>
  rw[q,Yh] at hf
  cases q2:m xs with
  | none=>rw[q2] at hf;cases hf
  | some x=>
   rw[q2,Yh] at hf
   refine⟨P,F,ρ,xs,q,I,fun vs F1 H1 e1 r1=>?_⟩
   have I1:=I.evo e1
   refine⟨gd F1 H1,F1,xs,x,q2,j5 I1.sub,by rw[YI];exact r1.dvs I1,fun v F2 H2 e2 hp2 r2=>?_⟩
   have ev:Evo P F1 H1 F2 H2:=I1.toDHp.gd e2 hp2
   cases x with
   | own o t=>
    cases hf
    obtain⟨a,rfl,ho,_⟩:=r2
    exact k a F2 H2 (e1.trans ev) ((jI e2 ho).mono (Same.refl _) fun b u q hb=>⟨hb,e1.back I.toDHp q.1,q.2⟩)
   | _=>cases hf
section
variable {k:Nat} {f:Addr} {fd:FuncData} {ps:List Str} {m:Dm} {x:Str} {p:Pos} {g:Dv}
theorem bC (F:FnOk X.prog X.w X.K X.mg X.base CX0 k f fd ps (spD X.K m))(hr:Room k X.A)(hg:Gl X x)(hm:X.mg x=some (.ref f))(hk:PySem.W.keepIn X.K (.ref f)=true)(hb:Binds X.K fd ps [])(ha:jB X (e::es) g)
  (hd:(x == ("__debug__":Str))=false:=by decide) (he:starEach (e::es) X.env=(false,eval e X.env)::starEach es X.env:=by rfl) (hpl:(backTo pos (starEach es X.env)).any (·.1)=false:=by rfl):PDE X (.Call (.Name x p) (e::es) [] pos) (bn m g):=
 (jK F hr hg hm hk hb .nil po ha hd he hpl).imp n_
theorem lK (F:FnOk X.prog X.w X.K X.mg X.base CX0 k f fd ps (spD X.K m))(hr:Room k X.A)(hg:Gl X x)(hm:X.mg x=some (.ref f))(hk:PySem.W.keepIn X.K (.ref f)=true)(hb:Binds X.K fd ps [])(ha:jB X (e::es) g)
  (hd:(x == ("__debug__":Str))=false:=by decide) (he:starEach (e::es) X.env=(false,eval e X.env)::starEach es X.env:=by rfl) (hpl:(backTo pos (starEach es X.env)).any (·.1)=false:=by rfl):PDO X (.Call (.Name x p) (e::es) [] pos) (iE m g):=
 (jK F hr hg hm hk hb .nil po ha hd he hpl).imp nP
end
end
def kS:Option DV→Option DV
 | some (.v d)=>some (.v d)
 | some (.own o _)=>some (.bor o)
 | some (.bor o)=>some (.bor o)
 | _=>none
def cK (own:Nat)(ix:List Nat)(ρ:DF):DF:=List.replicate own none++ix.map fun j=>kS (ρ[j]?).join
def cD (st:Dq)(c:Dk)(e:Dd)(ρ:DF):List D→Option (List D)
 | []=>some []
 | d::ds=>(st d ρ).bind fun ρ1=>(c ρ1).bind fun b=>if b=true then (e ρ1).bind fun y=>(cD st c e ρ ds).map fun r=>y::r else cD st c e ρ ds
def a8 (own:Nat)(ix:List Nat)(it:Dl)(st:Dq)(c:Dk)(e:Dd):DF→Option (List D):=
 fun ρ=>(it ρ).bind fun ds=>if ds.length≤16777216 then cD st c e (cK own ix ρ) ds else none
def dj:DF→Option Bool:=fun _=>some true
theorem iC {own:Nat}{ix:List Nat}{ρ:DF}{i:Nat}{x:DV}(h:(cK own ix ρ)[i]?=some (some x)):own≤i∧∃ j y,ix[i-own]?=some j∧ρ[j]?=some (some y)∧kS (some y)=some x:=by
 unfold cK at h
 by_cases hi:i<own
 ·rw[YX (by rw[YL];exact hi),ZV,Yn hi] at h
  cases h
 ·rw[YQ (by rw[YL];omega),YL,YZ] at h
  refine⟨by omega,?_⟩
  cases q:ix[i-own]? with
  | none=>rw[q] at h;cases h
  | some j=>
   rw[q,ZG] at h
   have h':=Yx h
   cases q2:ρ[j]? with
   | none=>rw[q2] at h';cases h'
   | some o=>
    rw[q2,Option.join_some] at h'
    cases o with
    | none=>cases h'
    | some y=>exact⟨j,y,rfl,q2,h'⟩
theorem mI {own:Nat}{ix:List Nat}{σ:St}{i j:Nat}{v:V}(hi:own≤i)(h:ix[i-own]?=some j)(hv:σ[j]?=some (some v)):(bm own ix σ)[i]?=some (some v):=by
 unfold bm
 rw[YQ (by rw[YL];exact hi),YL,YZ,h,ZG,hv]
 rfl
theorem DInv.cap {K:Kq}{P F H:Hp}{ρ:DF}{σ:St}(I:DInv K P F H ρ σ)(own:Nat)(ix:List Nat):DInv K (gd F H) F H (cK own ix ρ) (bm own ix σ):=by
 refine⟨j5 I.sub,?_,fun _=>none,fun i x h=>?_⟩
 ·rw[cJ]
  unfold cK
  rw[Yk,YL,YA]
 ·obtain⟨hi,j,y,h1,h2,h3⟩:=iC h
  obtain⟨v,q1,q2⟩:=I.at h2
  refine⟨v,mI hi h1 q1,?_⟩
  have bo:∀ o,((∃ t,ρ[j]?=some (some (.own o t)))∨ρ[j]?=some (some (.bor o)))→DVRep K (gd F H) F H (fun b=>none=some i) (.bor o) v:=fun o ho=>by
   obtain⟨a,rfl,h3⟩:=I.slot q1 ho
   exact⟨a,rfl,h3.mono (Same.refl _) fun b u q hb=>⟨dX.mpr ⟨q,hb⟩,trivial⟩⟩
  cases y with
  | v d=>cases h3;exact q2
  | own o t=>cases h3;exact bo o (.inl ⟨t,h2⟩)
  | bor o=>cases h3;exact bo o (.inr h2)
theorem lQ {K:Kq}{G F H F2 H2:Hp}{own:Nat}{ix:List Nat}{ρ:DF}{τ:St}(B:DInv K G F H (cK own ix ρ) τ)(e:Same F F2)(hp:DHp G F2 H2):DInv K G F2 H2 (cK own ix ρ) τ:=by
 obtain⟨O,h⟩:=B.rep
 refine⟨hp,B.len,O,fun i x hx=>?_⟩
 obtain⟨v,h1,h2⟩:=h i x hx
 refine⟨v,h1,?_⟩
 cases x with
 | v d=>exact Rep.same e h2
 | bor o=>obtain⟨a,rfl,h3⟩:=h2;exact⟨a,rfl,h3.mono e fun b u q hb=>⟨hb,q⟩⟩
 | own o t=>(obtain⟨_,j,y,_,_,h3⟩:=iC hx;cases y <;> cases h3)
section
variable {X:Cx} {elt tg iter:Expr} {ifs:List Expr} {scope:Scope} {pos:Pos} {N:List Str} {own:Nat} {ix is:List Nat} {f:Dl} {st:Dq} {c:Dk} {e:Dd}
theorem jN {K:Kq}(his:∀ j∈is,j<own):∀ σ H Q,tO K (asL (a8 own ix f st c e)) σ H Q→mq own ix (tI K f) (tG K is st) (tB' K c) (tD K e) σ H Q:=fun σ H Q=>un7 fun P F ρ ob hf I k=>by
 unfold asL at hf
 cases hout:a8 own ix f st c e ρ with
 | none=>rw[hout] at hf;cases hf
 | some out=>
 rw[hout] at hf
 cases hf
 have hf:=hout
 unfold a8 at hf
 cases q:f ρ with
 | none=>rw[q] at hf;cases hf
 | some ds=>
  rw[q,Yh] at hf
  split at hf
  rotate_left
  ·cases hf
  rename_i hlen
  refine⟨P,F,ρ,ds,q,I,fun J F1 H1 ev ok acc hacc=>?_⟩
  have I1:=I.evo ev
  have hp1:DHp (gd F1 H1) F1 H1:=j5 I1.sub
  have hg:gd F1 H1 acc=none:=by unfold gd;rw[I1.sub.free hacc];exact hacc
  have B1:DInv K (gd F1 H1) F1 H1 (cK own ix ρ) (bm own ix σ):=I1.cap own ix
  have hP:∀ {F' H':Hp},Same F1 F'→DHp (gd F1 H1) F' H'→DHp P F' H':=fun s h=>(I1.toDHp.gd s h).hp
  refine⟨fun i m ys H'=>m=ds.length-i∧i≤ds.length∧∃ F',Same F1 F'∧DHp (gd F1 H1) F' H'∧F' acc=none∧H' acc=some (.lst ys)∧ys.length≤i∧∃ pre,Reps K F' ys pre∧(cD st c e (cK own ix ρ) (ds.drop i)).map (fun r=>pre++r)=some out,
   ⟨_,rfl,Za _,F1,Same.refl _,(Evo.side hp1 hacc).hp,I1.sub.free hacc,aD,Yw _,[],.nil,by rw[Xe,hf];rfl⟩,?_⟩
  rintro i m ys H' ⟨rfl,hi,F',se,hp',fa,ha,hy,pre,rp,hm⟩
  obtain⟨ok1,ok2⟩:=ok F' H' se (hP se hp') i
  by_cases hlt:i<ds.length
  ·have hd:ds[i]?=some ds[i]:=Ye hlt
   obtain⟨go,yl⟩:=ok1 _ hd
   have hdrop:ds.drop i=ds[i]::ds.drop (i+1):=Zg hlt
   rw[hdrop] at hm
   unfold cD at hm
   cases hst:st ds[i] (cK own ix ρ) with
   | none=>rw[hst] at hm;cases hm
   | some ρ1=>
    rw[hst,Yh] at hm
    refine .inr ⟨go,fun ys' H2=>∃ F2,Same F1 F2∧DHp (gd F1 H1) F2 H2∧F2 acc=none∧H2 acc=some (.lst ys')∧ys'.length≤i+1∧∃ pre',Reps K F2 ys' pre'∧(cD st c e (cK own ix ρ) (ds.drop (i+1))).map (fun r=>pre'++r)=some out,
     fun ys' H2 h=>⟨ds.length-(i+1),by omega,rfl,hlt,h⟩,fun x H2 hyl=>?_⟩
    obtain⟨F2,ev2,rx⟩:=yl x H2 hyl
    have ev2':Evo (gd F1 H1) F' H' F2 H2:=ev2.change hp'
    obtain⟨a2,fa2⟩:=ev2'.keep acc _ ha fa
    have B2:DInv K (gd F1 H1) F2 H2 (cK own ix ρ) (bm own ix σ):=lQ B1 (se.trans ev2.ext) ev2'.hp
    refine⟨gd F1 H1,F2,cK own ix ρ,ds[i],ρ1,hst,B2,rx,fun σ3 F3 H3 ev3 I3 hl3 hσ=>?_⟩
    refine⟨⟨?_,fun j v hj=>?_⟩,?_⟩
    ·rw[hl3,cJ]
    ·rw[hσ j]
     ·exact hj
     ·intro hj'
      obtain⟨ho,_⟩:=fV hj
      have:=his j hj'
      omega
    obtain⟨a3,fa3⟩:=ev3.keep acc _ a2 fa2
    cases hc:c ρ1 with
    | none=>rw[hc] at hm;cases hm
    | some b=>
     rw[hc,Yh] at hm
     refine⟨gd F1 H1,F3,ρ1,b,hc,I3,fun F4 H4 ev4=>?_⟩
     obtain⟨a4,fa4⟩:=ev4.keep acc _ a3 fa3
     have s14:Same F' F4:=ev2.ext.trans (ev3.ext.trans ev4.ext)
     cases b with
     | false=>
      rw[Yo Yg] at hm ⊢
      exact⟨F4,se.trans s14,ev4.hp,fa4,a4,by omega,pre,rp.same s14,hm⟩
     | true=>
      rw[Yn rfl] at hm ⊢
      cases he:e ρ1 with
      | none=>rw[he] at hm;cases hm
      | some y=>
       rw[he,Yh] at hm
       refine⟨gd F1 H1,F4,ρ1,y,he,I3.evo ev4,fun v F5 H5 ev5 rv=>?_⟩
       obtain⟨a5,fa5⟩:=ev5.keep acc _ a4 fa4
       have s15:Same F' F5:=s14.trans ev5.ext
       refine⟨a5,by rw[YY];omega,F5,se.trans s15,⟨fun b u h=>by rw[ak (aE h fa5)];exact ev5.hp.sub b u h,fun b u h=>by rw[ak (aE h hg)];exact ev5.hp.pro b u h,ev5.hp.dis⟩,fa5,aD,by rw[Yk,Zz];omega,pre++[y],(rp.same s15).append (.one rv),?_⟩
       cases hmm:cD st c e (cK own ix ρ) (ds.drop (i+1)) with
       | none=>rw[hmm] at hm;cases hm
       | some r=>
        rw[hmm] at hm
        simp only[ZG] at hm ⊢
        rw[Yv]
        exact hm
  ·have hz:ds.drop i=[]:=Xi (by omega)
   rw[hz] at hm
   unfold cD at hm
   rw[ZG,YI] at hm
   cases hm
   exact .inl ⟨ok2 (by omega),k acc F' H' (ev.trans (I1.toDHp.gd se hp')) ⟨⟨ev.back I.toDHp hacc,fa⟩,_,ha,rp⟩⟩
theorem eN (hcalm:X.calm=true)(b:BlkScope X scope)(cp:Caps X scope N own ix)(his:∀ j∈is,j<own)(hi:PDI X tg iter f)
  (hg:∀ s H fp pz,PDG (blk X scope N s H fp pz) tg is st) (hc:∀ s H fp pz,gF (blk X scope N s H fp pz) ifs (tB' X.K c)) (he:∀ s H fp pz,PDE (blk X scope N s H fp pz) elt e)
  (hnames:∀ y∈scope.names,y.2=.local→scope.names.lookup y.1=some .local:=by decide)
  (hs:∀ x,foldedSetIterable iter X.env x=pure x:=by intro _;rfl):PDO X (.ListComp elt [⟨tg,iter,ifs,0⟩] scope pos) (asL (a8 own ix f st c e)):=
 (oM (g:=tG X.K is st) (tc:=tB' X.K c) (te:=tD X.K e) hcalm b cp hi hg hc he hnames hs).imp (jN his)
end
section
variable {X:Cx} {e a b c:Expr} {es:List Expr} {pos:Pos}
def rn (n:Nat)(f:Dl):Prop:=∀ ρ ds,f ρ=some ds→ds.length=n
def PDL (X:Cx)(es:List Expr)(n:Nat)(f:Dl):Prop:=PDA X es f∧rn n f
def gJ:DF→Option (List D):=fun _=>some []
def dk (f:Dd)(g:Dl):DF→Option (List D):=fun ρ=>(f ρ).bind fun d=>(g ρ).map fun r=>d::r
theorem da:PDL X [] 0 gJ:=⟨PA.imp bS fun σ H Q=>un7 fun P F ρ xs hf I k=>by
 cases hf
 exact k [] F H (Evo.refl I.toDHp) .nil,fun ρ ds h=>by cases h;rfl⟩
theorem eT {f:Dd}{n:Nat}{g:Dl}(h:PDE X e f)(hr:PDL X es n g)(hs:starEach (e::es) X.env=(false,eval e X.env)::starEach es X.env:=by rfl):PDL X (e::es) (n+1) (dk f g):=
 ⟨PA.imp (aW h hr.1 hs) fun σ H Q=>un7 fun P F ρ xs hf I k=>by
  unfold dk at hf
  cases q:f ρ with
  | none=>rw[q] at hf;cases hf
  | some d=>
   rw[q,Yh] at hf
   cases q2:g ρ with
   | none=>rw[q2] at hf;cases hf
   | some ys=>
    rw[q2] at hf
    cases hf
    exact⟨P,F,ρ,d,q,I,fun v F1 H1 e1 r1=>⟨P,F1,ρ,ys,q2,I.evo e1,fun vs F2 H2 e2 r2=>k (v::vs) F2 H2 (e1.trans e2) (.cons (r1.same e2.ext) r2)⟩⟩,fun ρ ds hf=>by
  unfold dk at hf
  cases q:f ρ with
  | none=>rw[q] at hf;cases hf
  | some d=>
   rw[q,Yh] at hf
   cases q2:g ρ with
   | none=>rw[q2] at hf;cases hf
   | some ys=>
    rw[q2] at hf
    cases hf
    rw[YB,hr.2 ρ ys q2]⟩
def asT (f:Dl):DF→Option D:=fun ρ=>(f ρ).map .tup
theorem qK {x1}{n:Nat}{f:Dl}(h:PDL X es n f)(hn:n≤16777216:=by decide):PDE X (.Tuple es x1 pos) (asT f):=(pJ h.1).imp fun σ H Q=>un7 fun P F ρ d hf I k=>by
 unfold asT at hf
 cases q:f ρ with
 | none=>rw[q] at hf;cases hf
 | some ds=>
  rw[q] at hf
  cases hf
  refine⟨P,F,ρ,ds,q,I,fun vs F1 H1 e1 r1=>⟨by rw[r1.length,h.2 ρ ds q,YY];exact hn,fun p hp=>?_⟩⟩
  exact k (.ref p) _ _ (e1.trans (Evo.laid e1.hp hp)) (.tup aD (r1.same (fw (e1.hp.free hp).1)))
theorem eA {n:Nat}{f:Dl}(h:PDL X es n f)(hn:n≤16777216:=by decide):PDO X (.List es pos) (asL f):=(pG h.1).imp fun σ H Q=>un7 fun P F ρ ob hf I k=>by
 unfold asL at hf
 cases q:f ρ with
 | none=>rw[q] at hf;cases hf
 | some ds=>
 rw[q] at hf
 cases hf
 refine⟨P,F,ρ,ds,q,I,fun vs F1 H1 e1 r1=>⟨by rw[r1.length,h.2 ρ ds q,YY];exact hn,fun p hp=>?_⟩⟩
 exact k p F1 _ (e1.trans (Evo.side e1.hp hp)) ⟨⟨e1.back I.toDHp hp,(e1.hp.free hp).1⟩,_,aD,r1⟩
theorem Reps.atI {K:Kq}{F:Hp}{vs:List V}{ds:List D}{i:Int}{d:D}(r:Reps K F vs ds)(h:atI ds i=some d):∃ v,atI vs i=some v∧Rep K F v d:=by
 unfold L2.atI at h ⊢
 rw[r.length]
 cases q:ixN ds.length i with
 | none=>rw[q] at h;cases h
 | some j=>
  rw[q,Yh] at h
  obtain⟨v,h1,h2⟩:=r.get h
  exact⟨v,h1,h2⟩
def ixD:D→D→Option D
 | .lst ds,.int i=>atI ds i
 | .tup ds,.int i=>atI ds i
 | .str z,.int i=>if z.length≤16777216 then (atI z.cps.toList i).map fun c=>.str ⟨#[c]⟩ else none
 | _,_=>none
theorem r6 {K:Kq}:j8 K (rIx K) ixD:=by
 intro P F H ρ σ x y dx dy d Q hf I rx ry k
 unfold ixD at hf
 split at hf
 ·obtain⟨p,vs,rfl,h1,h2⟩:=cG I rx
  obtain⟨v,h3,h4⟩:=h2.atI hf
  exact .inl ⟨p,vs,_,v,rfl,bz ry,h1,h3,k v F H (Evo.refl I.toDHp) h4⟩
 ·obtain⟨p,vs,rfl,h1,h2⟩:=d_ I rx
  obtain⟨v,h3,h4⟩:=h2.atI hf
  exact .inr (.inl ⟨p,vs,_,v,rfl,bz ry,h1,h3,k v F H (Evo.refl I.toDHp) h4⟩)
 ·split at hf
  ·rename_i z i hz
   cases q:atI z.cps.toList i with
   | none=>rw[q] at hf;cases hf
   | some c=>
    rw[q] at hf
    cases hf
    exact .inr (.inr ⟨z,i,c,d9 rx,bz ry,by rw[YY];exact hz,q,k _ F H (Evo.refl I.toDHp) .str⟩)
  ·cases hf
 ·cases hf
theorem lJ {fa fb:Dd}(ha:PDR X a fa)(hb:PDR X b fb)(hs:jW b:=by exact fun _ _=>rfl):PDE X (.Subscript a b pos) (d2 ixD fa fb):=(rK qp ha hb hs).imp (k8 r6)
def rV:R2:=fun x y H Q=>(∃ i j,x=.int i∧y=.int j∧Q (.int (i+j)) H)∨∃ i j,x=.str i∧y=.str j∧i.length+j.length≤sizeLine∧Q (.str (i++j)) H
def s0 (f g:Dk):DF→Option Bool:=fun ρ=>(f ρ).bind fun b=>if b=true then g ρ else some false
def orT (f g:Dk):DF→Option Bool:=fun ρ=>(f ρ).bind fun b=>if b=true then some true else g ρ
def mK (f:Dk):DF→Option Bool:=fun ρ=>(f ρ).map fun b=>!b
def PDW (X:Cx)(e:Expr)(f:Dk):Prop:=PW X e (tB' X.K f)
theorem PDW.t {f:Dk}(h:PDW X e f):PDT X e f:=PW.pt h
theorem PW.imp {t t':TT}(h:PW X e t)(i:∀ σ H Q,t' σ H Q→t σ H Q):PW X e t':=fun w pz s σ H Q I q=>h w pz s σ H Q I (i σ H Q q)
theorem oO {f:Dk}(h:PDT X a f):PDW X (.BoolOp .Or [a] pos) f:=pV h
theorem qG {aG:List Expr}{f g:Dk}(ha:PDT X a f)(hb:PDW X (.BoolOp .Or (b::aG) pos) g):PDW X (.BoolOp .Or (a::b::aG) pos) (orT f g):=PW.imp (ri ha hb) fun σ H Q=>un7 fun P F ρ r hf I k=>by
 unfold orT at hf
 cases q:f ρ with
 | none=>rw[q] at hf;cases hf
 | some x=>
  rw[q,Yh] at hf
  refine⟨P,F,ρ,x,q,I,fun F1 H1 e1=>?_⟩
  cases x with
  | true=>rw[Yn rfl] at hf ⊢;cases hf;exact k F1 H1 e1
  | false=>rw[Yo Yg] at hf ⊢;exact⟨P,F1,ρ,r,hf,I.evo e1,fun F2 H2 e2=>k F2 H2 (e1.trans e2)⟩
theorem j4 {f:Dk}(ha:PDT X a f):PDT X (.UnaryOp .Not a pos) (mK f):=(qw ha).imp fun σ H Q=>un7 fun P F ρ r hf I k=>by
 unfold mK at hf
 cases q:f ρ with
 | none=>rw[q] at hf;cases hf
 | some x=>rw[q] at hf;cases hf;exact⟨P,F,ρ,x,q,I,fun F1 H1 e1=>k F1 H1 e1⟩
def kW (f g:Dd):DF→Option D:=fun ρ=>match f ρ with
 | some (.bl true)=>g ρ
 | some (.bl false)=>some (.bl false)
 | _=>none
def orV (f g:Dd):DF→Option D:=fun ρ=>match f ρ with
 | some (.bl false)=>g ρ
 | some (.bl true)=>some (.bl true)
 | _=>none
def og (f:Dd):DF→Option D:=fun ρ=>match f ρ with
 | some (.bl b)=>some (.bl (!b))
 | _=>none
theorem jz {op}{f:Dd}(h:PDE X a f):PDE X (.BoolOp op [a] pos) f:=pI h
theorem ju {aG:List Expr}{f g:Dd}(ha:PDE X a f)(hb:PDE X (.BoolOp .And (b::aG) pos) g):PDE X (.BoolOp .And (a::b::aG) pos) (kW f g):=(qr ha hb).imp fun σ H Q=>un7 fun P F ρ r hf I k=>by
 unfold kW at hf
 split at hf
 ·rename_i q
  refine⟨P,F,ρ,_,q,I,fun v F1 H1 e1 r1=>?_⟩
  cases r1
  exact⟨true,rfl,by rw[Yn rfl];exact⟨P,F1,ρ,r,hf,I.evo e1,fun v F2 H2 e2 r2=>k v F2 H2 (e1.trans e2) r2⟩⟩
 ·rename_i q
  refine⟨P,F,ρ,_,q,I,fun v F1 H1 e1 r1=>?_⟩
  cases r1
  cases hf
  exact⟨false,rfl,by rw[Yo Yg];exact k _ F1 H1 e1 .bl⟩
 ·cases hf
theorem qk {f:Dd}(ha:PDE X a f):PDE X (.UnaryOp .Not a pos) (og f):=(pF ha).imp fun σ H Q=>un7 fun P F ρ r hf I k=>by
 unfold og at hf
 split at hf
 ·rename_i q
  cases hf
  refine⟨P,F,ρ,_,q,I,fun v F1 H1 e1 r1=>?_⟩
  cases r1
  exact⟨_,rfl,k _ F1 H1 e1 .bl⟩
 ·cases hf
def ifV (c:Dk)(f g:Dd):DF→Option D:=fun ρ=>(c ρ).bind fun b=>if b=true then f ρ else g ρ
def d1 (f:D→Option D)(fa:Dd):DF→Option D:=fun ρ=>(fa ρ).bind f
def dZ:D→Option D
 | .lst ds=>some (.int ds.length)
 | .tup ds=>some (.int ds.length)
 | .str z=>if z.length≤16777216 then some (.int z.length) else none
 | _=>none
def si (K:Kq):List V→Hp→VK→Prop:=fun xs H Q=>(∃ p ys,xs=[.ref p]∧(SqL K H p ys∨SqT K H p ys)∧Q (.int ys.length) H)∨∃ z,xs=[.str z]∧z.length≤sizeLine∧Q (.int z.length) H
end
mutual
def aw:D→PyData
 | .non=>.none
 | .bl b=>.bool b
 | .int i=>.int i
 | .str x=>.str x
 | .tup xs=>.tuple (ay xs)
 | .lst xs=>.list (ay xs)
 | .dT _=>.none
 | .dK _=>.none
 | .ins _ _=>.none
 | .fn _ _ _=>.none
def ay:List D→List PyData
 | []=>[]
 | d::ds=>aw d::ay ds
end
def okN:Nat→D→Bool
 | _,.non=>true
 | _,.bl _=>true
 | _,.int _=>true
 | _,.str x=>PyData.strOk x
 | n+1,.tup xs=>xs.all (okN n)
 | n+1,.lst xs=>xs.all (okN n)
 | _,_=>false
theorem aC {n:Nat}:∀ {ds:List D},ds.all (okN n)=true→∀ d∈ds,okN n d=true:=fun h d hd=>Yj.mp h d hd
theorem aO:∀ (n:Nat) (d:D),okN n d=true→(aw d).canLay0=true∧(aw d).depth≤n+1:=by
 intro n
 induction n with
 | zero=>
  intro d h
  cases d with
  | non=>exact⟨rfl,by simp[aw,PyData.depth]⟩
  | bl b=>exact⟨rfl,by simp[aw,PyData.depth]⟩
  | int b=>exact⟨rfl,by simp[aw,PyData.depth]⟩
  | str b=>exact⟨h,by simp[aw,PyData.depth]⟩
  | _=>cases h
 | succ n ih=>
  have all:∀ ds:List D,ds.all (okN n)=true→PyData.canLayAll0 (ay ds)=true∧PyData.depthAll (ay ds)≤n+1:=by
   intro ds
   induction ds with
   | nil=>intro _;exact⟨rfl,by simp[ay,PyData.depthAll]⟩
   | cons x r ihr=>
    intro h
    rw[VD,Yq] at h
    obtain⟨h1,h2⟩:=ih x h.1
    obtain⟨h3,h4⟩:=ihr h.2
    refine⟨?_,?_⟩
    ·show (PyData.canLay0 (aw x)&&PyData.canLayAll0 (ay r))=true
     rw[h1,h3];rfl
    ·show PyData.depthAll (aw x::ay r)≤n+1
     simp only[PyData.depthAll]
     omega
  intro d h
  cases d with
  | non=>exact⟨rfl,by simp[aw,PyData.depth]⟩
  | bl b=>exact⟨rfl,by simp[aw,PyData.depth]⟩
  | int b=>exact⟨rfl,by simp[aw,PyData.depth]⟩
  | str b=>exact⟨h,by simp[aw,PyData.depth]⟩
  | tup xs=>
   obtain⟨h1,h2⟩:=all xs h
   exact⟨h1,by simp only[aw,PyData.depth];omega⟩
  | lst xs=>
   obtain⟨h1,h2⟩:=all xs h
   exact⟨h1,by simp only[aw,PyData.depth];omega⟩
  | _=>cases h
section
variable {X:Cx} {pz:Kp} {σ:St} {H:Hp} {s:Shared}
theorem Reps.readsOf {n:Nat}(ih:∀ {v:V} {d:D} {u:Value},Rep X.K H v d→okN n d=true→RelV v u→∃ as,Reads s.heap u (aw d) as){vs:List V}{ds:List D}(h:Reps X.K H vs ds):∀ us:List Value,(∀ d∈ds,okN n d=true)→Vals vs us→∃ as,ReadsAll s.heap us (ay ds) as:=
 Reps.ind (M:=fun vs ds=>∀ us:List Value,(∀ d∈ds,okN n d=true)→Vals vs us→∃ as,ReadsAll s.heap us (ay ds) as) (fun us _ r=>by cases r;exact⟨_,.nil⟩) (fun h _ i us ho r=>by
  cases r with
  | cons r t=>
   obtain⟨a1,r1⟩:=ih h (ho _ Yc) r
   obtain⟨a2,r2⟩:=i _ (fun d hd=>ho d (Yb _ hd)) t
   exact⟨_,.cons r1 r2⟩) h
theorem Rep.reads1 (I:Inv X pz σ H s)(n:Nat)(ih:∀ m,n=m+1→∀ {v:V} {d:D} {u:Value},Rep X.K H v d→okN m d=true→RelV v u→∃ as,Reads s.heap u (aw d) as){v:V}{d:D}{u:Value}(h:Rep X.K H v d)(ho:okN n d=true)(r:RelV v u):∃ as,Reads s.heap u (aw d) as:=by
 cases h with
 | non=>cases (show u=Value.none from r);exact⟨_,.none⟩
 | bl=>cases (show u=Value.bool _ from r);exact⟨_,.bool _⟩
 | int=>obtain⟨t,rfl⟩:=(show ∃ t,u=Value.int _ t from r);exact⟨_,.int _ _⟩
 | str=>obtain⟨t,rfl⟩:=(show ∃ t,u=Value.str _ t from r);exact⟨_,.str _ _⟩
 | tup h q=>
  cases n with
  | zero=>cases ho
  | succ m=>
   cases (show u=Value.ref _ from r)
   obtain⟨its,rv,ht,_⟩:=I.tuple (SqT.of h)
   obtain⟨as,ra⟩:=Reps.readsOf (ih m rfl) q _ (aC ho) rv
   obtain⟨o,h1,h2,m,h3⟩:=ht
   exact⟨_,.tuple h1 h2 h3 (by simpa using ra)⟩
 | lst h q=>
  cases n with
  | zero=>cases ho
  | succ m=>
   cases (show u=Value.ref _ from r)
   obtain⟨its,rv,ht,_⟩:=I.list h
   obtain⟨as,ra⟩:=Reps.readsOf (ih m rfl) q _ (aC ho) rv
   obtain⟨o,m,h1,h2,_,h3⟩:=ht
   exact⟨_,.list h1 h2 h3 (by simpa using ra)⟩
 | _=>cases n <;> cases ho
theorem Rep.reads (I:Inv X pz σ H s)(n:Nat):∀ {v:V} {d:D} {u:Value},Rep X.K H v d→okN n d=true→RelV v u→∃ as,Reads s.heap u (aw d) as:=by
 induction n with
 | zero=>exact fun h ho r=>Rep.reads1 I 0 (fun m e=>by cases e) h ho r
 | succ n ih=>exact fun h ho r=>Rep.reads1 I (n+1) (fun m e=>by cases e;exact ih) h ho r
end
def eqd (x y:D):Bool:=PyData.eqv (aw x) (aw y)
def eqD (x y:D):Option D:=if (okN 30 x&&okN 30 y)=true then some (.bl (eqd x y)) else none
def neD (x y:D):Option D:=if (okN 30 x&&okN 30 y)=true then some (.bl (!eqd x y)) else none
def nQ (K:Kq)(g:Bool→Bool):R2:=fun x y H Q=>∃ dx dy,Rep K H x dx∧Rep K H y dy∧okN 30 dx=true∧okN 30 dy=true∧Q (.bl (g (eqd dx dy))) H
section
variable {X:Cx} {e a b c:Expr} {es:List Expr} {pos:Pos}
theorem nn (hu:X.A.units+64<cLine):OpR X (compareOp .Eq) (nQ X.K fun b=>b):=by
 intro pz s σ H x y v u Q I rx ry h
 obtain⟨dx,dy,h1,h2,o1,o2,q⟩:=h
 obtain⟨a1,r1⟩:=h1.reads I 30 o1 rx
 obtain⟨a2,r2⟩:=h2.reads I 30 o2 ry
 obtain⟨l1,p1⟩:=aO 30 dx o1
 obtain⟨l2,p2⟩:=aO 30 dy o2
 refine PySem.SeqAt.compareEq_shaped r1 r2 ?_ ?_ hu ⟨.bl _,H,I,rfl,q⟩
 ·unfold PySem.SeqAt.shaped;rw[l1,ZW,YH];omega
 ·unfold PySem.SeqAt.shaped;rw[l2,ZW,YH];omega
theorem ql (hu:X.A.units+64<cLine):OpR X (compareOp .NotEq) (nQ X.K fun b=>!b):=by
 intro pz s σ H x y v u Q I rx ry h
 obtain⟨dx,dy,h1,h2,o1,o2,q⟩:=h
 obtain⟨a1,r1⟩:=h1.reads I 30 o1 rx
 obtain⟨a2,r2⟩:=h2.reads I 30 o2 ry
 obtain⟨l1,p1⟩:=aO 30 dx o1
 obtain⟨l2,p2⟩:=aO 30 dy o2
 refine PySem.SeqAt.compareNe_shaped r1 r2 ?_ ?_ hu ⟨.bl _,H,I,rfl,q⟩
 ·unfold PySem.SeqAt.shaped;rw[l1,ZW,YH];omega
 ·unfold PySem.SeqAt.shaped;rw[l2,ZW,YH];omega
theorem l0 {K:Kq}:ji K (nQ K fun b=>b) eqD:=by
 intro P F H x y dx dy d Q hf hp rx ry k
 unfold eqD at hf
 split at hf
 ·rename_i h
  rw[Yq] at h
  cases hf
  exact⟨dx,dy,rx,ry,h.1,h.2,k _ F H (Evo.refl hp) .bl⟩
 ·cases hf
theorem p_ {K:Kq}:ji K (nQ K fun b=>!b) neD:=by
 intro P F H x y dx dy d Q hf hp rx ry k
 unfold neD at hf
 split at hf
 ·rename_i h
  rw[Yq] at h
  cases hf
  exact⟨dx,dy,rx,ry,h.1,h.2,k _ F H (Evo.refl hp) .bl⟩
 ·cases hf
theorem pB {fa fb:Dd}(hu:X.A.units+64<cLine)(ha:PDN X a fa)(hb:PDN X b fb):PDE X (.Compare a [.Eq] [b] pos) (d2 eqD fa fb):=pL (nn hu) l0 ha hb (gP _)
theorem l4 {fa fb:Dd}(hu:X.A.units+64<cLine)(ha:PDN X a fa)(hb:PDN X b fb):PDT X (.Compare a [.Eq] [b] pos) (asB (d2 eqD fa fb)):=em (nn hu) l0 ha hb (gP _)
theorem pj {fa fb:Dd}(hu:X.A.units+64<cLine)(ha:PDN X a fa)(hb:PDN X b fb):PDT X (.Compare a [.NotEq] [b] pos) (asB (d2 neD fa fb)):=em (ql hu) p_ ha hb (gP _)
def cu:D→Option (List D)
 | .lst ds=>some ds
 | .tup ds=>some ds
 | _=>none
def dn (x y:D):Option D:=(cu y).bind fun ds=>if (okN 30 x&&ds.all (okN 29))=true then some (.bl (!ds.any fun z=>eqd z x)) else none
def sA (K:Kq)(g:Bool→Bool):R2:=fun x y H Q=>∃ dx dy ds,Rep K H x dx∧Rep K H y dy∧cu dy=some ds∧okN 30 dx=true∧ds.all (okN 29)=true∧Q (.bl (g (ds.any fun z=>eqd z dx))) H
theorem dG (x:D):∀ ds:List D,(ay ds).any (fun y=>PyData.eqv y (aw x))=ds.any fun z=>eqd z x
 | []=>rfl
 | d::ds=>by
  show ((PyData.eqv (aw d) (aw x))||(ay ds).any _)=_
  rw[dG x ds]
  rfl
theorem kN (hu:X.A.units+64<cLine):OpR X (compareOp .NotIn) (sA X.K fun b=>!b):=by
 intro pz s σ H x y v u Q I rx ry h
 obtain⟨dx,dy,ds,h1,h2,hi,o1,o2,q⟩:=h
 obtain⟨a1,r1⟩:=h1.reads I 30 o1 rx
 obtain⟨l1,p1⟩:=aO 30 dx o1
 have hm:min (PyData.depthAll (ay ds)) (aw dx).depth≤31:=Zi (Nat.min_le_right _ _) p1
 cases dy with
 | lst xs=>
  cases hi
  obtain⟨a2,r2⟩:=h2.reads I 30 (d:=.lst ds) o2 ry
  obtain⟨l2,p2⟩:=aO 30 (.lst ds) o2
  exact PySem.SeqAt.notIn_list_reads r2 r1 l2 l1 (by omega) ⟨.bl _,H,I,(by show Value.bool _=Value.bool _;rw[dG]),q⟩
 | tup xs=>
  cases hi
  obtain⟨a2,r2⟩:=h2.reads I 30 (d:=.tup ds) o2 ry
  obtain⟨l2,p2⟩:=aO 30 (.tup ds) o2
  exact PySem.SeqAt.notIn_tuple_reads r2 r1 l2 l1 (by omega) ⟨.bl _,H,I,(by show Value.bool _=Value.bool _;rw[dG]),q⟩
 | _=>cases hi
theorem kc {K:Kq}:ji K (sA K fun b=>!b) dn:=by
 intro P F H x y dx dy d Q hf hp rx ry k
 unfold dn at hf
 cases q:cu dy with
 | none=>rw[q] at hf;cases hf
 | some ds=>
  rw[q,Yh] at hf
  split at hf
  ·rename_i h
   rw[Yq] at h
   cases hf
   exact⟨dx,dy,ds,rx,ry,q,h.1,h.2,k _ F H (Evo.refl hp) .bl⟩
  ·cases hf
theorem nc {fa fb:Dd}(hu:X.A.units+64<cLine)(ha:PDN X a fa)(hb:PDN X b fb)(hm:behindInMarks .NotIn b=false:=by with_unfolding_all rfl):PDT X (.Compare a [.NotIn] [b] pos) (asB (d2 dn fa fb)):=em (kN hu) kc ha hb hm
end
section
variable {X:Cx} {tg e a b l:Expr} {pos p:Pos}
def b6 (f:Dd):DF→Option (List D):=fun ρ=>match f ρ with
 | some (.lst ds)=>some ds
 | _=>none
theorem ni {f:Dd}{ρ:DF}{ds:List D}(h:b6 f ρ=some ds):f ρ=some (.lst ds):=by
 unfold b6 at h
 split at h
 ·rename_i q;cases h;exact q
 ·cases h
theorem fZ {K:Kq}{P F:Hp}{a:Addr}{vs:List V}{ds:List D}(h:SqL K F a vs)(r:Reps K F vs ds):pO K P (Itl K a) F ds:=by
 intro F' H' e hp i
 have hv:SqL K H' a vs:=hp.sub.seq (e.seq h)
 refine⟨fun d hd=>?_,fun hl=>⟨vs,hv,by rw[r.length];exact hl⟩⟩
 obtain⟨v,h1,h2⟩:=r.get hd
 refine⟨⟨vs,v,hv,h1⟩,fun x H2 hy=>?_⟩
 obtain⟨rfl,hx⟩:=hy
 have:=hx vs hv
 rw[h1] at this
 cases this
 exact⟨F',Evo.refl hp,h2.same e⟩
theorem jD {f:Dd}(h:PDE X l f):PDI X tg l (b6 f):=PI.imp (jQ h) fun σ H R=>un7 fun P F ρ ds hf I k=>by
 refine⟨P,F,ρ,_,ni hf,I,fun v F' H' ev rv=>?_⟩
 cases rv with
 | lst h1 h2=>exact⟨_,rfl,⟨_,ev.hp.sub.seq h1⟩,k _ F' H' ev (fZ h1 h2)⟩
def bW (i:Nat):DF→Option (List D):=fun ρ=>match ρ[i]? with
 | some (some (.bor (.lst ds)))=>some ds
 | some (some (.v (.lst ds)))=>some ds
 | _=>none
theorem mH {K:Kq}{P F:Hp}{a:Addr}{vs:List V}{ds:List D}(h:P a=some (.lst vs))(r:Reps K F vs ds):pO K P (Itl K a) F ds:=by
 intro F' H' e hp i
 have hv:SqL K H' a vs:=SqL.of (hp.pro _ _ h)
 refine⟨fun d hd=>?_,fun hl=>⟨vs,hv,by rw[r.length];exact hl⟩⟩
 obtain⟨v,h1,h2⟩:=r.get hd
 refine⟨⟨vs,v,hv,h1⟩,fun x H2 hy=>?_⟩
 obtain⟨rfl,hx⟩:=hy
 have:=hx vs hv
 rw[h1] at this
 cases this
 exact⟨F',Evo.refl hp,h2.same e⟩
theorem eG (i:Nat)(h:PE X l (gr i)):PDI X tg l (bW i):=PI.imp (jQ h) fun σ H R=>un7 fun P F ρ ds hf I k=>by
 unfold bW at hf
 split at hf
 ·rename_i ds' q
  cases hf
  obtain⟨v,h1,a,rfl,_,u,h3,h4⟩:=I.at q
  cases u with
  | lst vs=>exact⟨_,h1,a,rfl,⟨vs,SqL.of (I.pro _ _ h3)⟩,k _ F H (Evo.refl I.toDHp) (mH h3 h4)⟩
  | _=>exact h4.elim
 ·rename_i ds' q
  cases hf
  obtain⟨v,h1,h2⟩:=I.at q
  cases h2 with
  | lst h3 h4=>exact⟨_,h1,_,rfl,⟨_,I.sub.seq h3⟩,k _ F H (Evo.refl I.toDHp) (fZ h3 h4)⟩
 ·cases hf
def pA:List Nat→List D→DF→Option DF
 | [],[],ρ=>some ρ
 | i::is,d::ds,ρ=>pA is ds (ρ.set i (some (.v d)))
 | _,_,_=>none
def sD (is:List Nat)(d:D)(ρ:DF):Option DF:=match d with
 | .tup ds=>pA is ds ρ
 | _=>none
def rA (is:List Nat)(f:Dd):DF→Option RES:=fun ρ=>(f ρ).bind fun d=>(sD is d ρ).map .nx
end
theorem DInv.mut {K:Kq}{P F H:Hp}{ρ:DF}{σ:St}(I:DInv K P F H ρ σ){i:Nat}{o o':OD}{t:Option Addr}{a:Addr}{u:HO}(h:ρ[i]?=some (some (.own o t)))(hf:o.flat=true)(hf':o'.flat=true)(hs:σ[i]?=some (some (.ref a)))(hr:ORep1 K F o' u) :
  DInv K P F (upd H a u) (ρ.set i (some (.own o' t))) σ:=by
 obtain⟨O,hR⟩:=I.rep
 obtain⟨v,h1,b,rfl,h2,ht⟩:=hR i _ h
 rw[hs] at h1;cases h1
 obtain⟨⟨q1,q2,q3⟩,u',q4,_⟩:=(ORep.flat hf).mp h2
 refine⟨⟨fun c w e=>by rw[ak (aE e q1)];exact I.sub c w e,fun c w e=>by rw[ak (aE e q2)];exact I.pro c w e,I.dis⟩,by rw[ZH];exact I.len,O,fun j z hj=>?_⟩
 rcases d7 hj with⟨rfl,e,hl⟩ | ⟨hij,hj'⟩
 ·cases e
  exact⟨_,hs,a,rfl,(ORep.flat hf').mpr ⟨⟨q1,q2,q3⟩,u,aD,hr⟩,ht⟩
 ·obtain⟨w,e1,e2⟩:=hR j z hj'
  refine⟨w,e1,?_⟩
  cases z with
  | v d'=>exact e2
  | own od t'=>(obtain⟨c,rfl,e3,ht'⟩:=e2;exact⟨c,rfl,e3.mono (Same.refl _) fun b w' q hb=>⟨by rw[ak (fun z=>by subst z;rw[q.2.2] at q3;exact hij (Yx q3).symm)];exact hb,q⟩,ht'⟩)
  | bor od=>exact e2
section
variable {X:Cx} {o e:Expr} {pos apos cpos:Pos}
def kD (i:Nat)(f:Dd):DF→Option RES:=fun ρ=>match ρ[i]? with
 | some (some (.own (.lst ds) t))=>(f ρ).bind fun d=>if ds.length<16777216 then some (.nx (ρ.set i (some (.own (.lst (ds++[d])) t)))) else none
 | _=>none
theorem ms {K:Kq}{P F H:Hp}{ρ:DF}{σ:St}(I:DInv K P F H ρ σ){i:Nat}{ds:List D}{t:Option Addr}(q:ρ[i]?=some (some (.own (.lst ds) t))):∃ a vs,σ[i]?=some (some (.ref a))∧F a=none∧P a=none∧H a=some (.lst vs)∧Reps K F vs ds:=by
 obtain⟨v,h1,a,rfl,⟨⟨q1,q2,_⟩,u,q3,q4⟩,_⟩:=I.at q
 cases u with
 | lst vs=>exact⟨a,vs,h1,q1,q2,q3,q4⟩
 | _=>exact q4.elim
theorem fR (i:Nat){f:Dd}(h:PE X o (gr i))(ha:PDE X e f)(hbase:attributeBase o "append" X.env (eval o X.env)=eval o X.env:=by rfl)
  (hfew:((backTo cpos (starEach [e] X.env)).all (fun x=>!x.1)&&(backToKw cpos (keywordEach [] X.env)).all (fun x=>x.1.isSome)
   && decide (([e]:List Expr).length+([]:List Keyword).length+(if ([]:List Keyword).isEmpty then 0 else 1)<30))=true:=by rfl)
  (hline:(apos.endLine == cpos.line)=true:=by rfl) (hs:starEach [e] X.env=[(false,eval e X.env)]:=by rfl) (hsw:swapsWith (.Call (.Attribute o "append" apos) [e] [] cpos) none pos.line X.env=pure false:=by rfl) :
  PD1 X (.Expr (.Call (.Attribute o "append" apos) [e] [] cpos) pos) (kD i f):=
 PS.imp (jJ (ph XJ PySem.F.slot_list_append PySem.F.type_list_append fP h (aW ha bS hs) hbase hfew hline hs rfl) hsw) fun E σ H=>un7 fun P F ρ r hr I k=>by
  unfold kD at hr
  split at hr
  ·rename_i ds t q
   cases q2:f ρ with
   | none=>rw[q2] at hr;cases hr
   | some d=>
    rw[q2,Yh] at hr
    split at hr
    ·rename_i hl
     cases hr
     obtain⟨a,vs,h1,h2,h3,h4,h5⟩:=ms I q
     refine⟨_,h1,.inl ⟨rfl,vs,SqL.of h4⟩,P,F,ρ,d,q2,I,fun v F1 H1 e1 r1=>?_⟩
     obtain⟨k1,k2⟩:=e1.keep a _ h4 h2
     have I1:=I.evo e1
     refine⟨a,vs,v,rfl,rfl,k1,by rw[YY,h5.length];exact hl,k σ F1 _ e1.ext ?_⟩
     exact I1.mut (o':=.lst _) (u:=.lst _) q rfl rfl h1 ((h5.same e1.ext).append (.one r1))
    ·cases hr
  ·cases hr
def pX (i:Nat):DF→Option RES:=fun ρ=>match ρ[i]? with
 | some (some (.own (.lst _) t))=>some (.nx (ρ.set i (some (.own (.lst []) t))))
 | _=>none
theorem ng (i:Nat)(h:PE X o (gr i))(hbase:attributeBase o "clear" X.env (eval o X.env)=eval o X.env:=by rfl)(hline:(apos.endLine == cpos.line)=true:=by rfl)(hsw:swapsWith (.Call (.Attribute o "clear" apos) [] [] cpos) none pos.line X.env=pure false:=by rfl) :
  PD1 X (.Expr (.Call (.Attribute o "clear" apos) [] [] cpos) pos) (pX i):=
 PS.imp (jJ (qQ XJ PySem.F.slot_list_clear PySem.F.type_list_clear mE h hbase hline) hsw) fun E σ H=>un7 fun P F ρ r hr I k=>by
  unfold pX at hr
  split at hr
  ·rename_i ds t q
   cases hr
   obtain⟨a,vs,h1,h2,h3,h4,h5⟩:=ms I q
   exact⟨_,h1,.inl ⟨rfl,vs,SqL.of h4⟩,a,vs,rfl,rfl,h4,k σ F _ (Same.refl _) (I.mut (o':=.lst []) (u:=.lst []) q rfl rfl h1 .nil)⟩
  ·cases hr
end
mutual
def ltD:D→D→Bool
 | .int i,.int j=>decide (i<j)
 | .bl a,.bl b=>!a&&b
 | .str x,.str y=>decide (x.cps.toList<y.cps.toList)
 | .tup xs,.tup ys=>aF xs ys
 | _,_=>false
def aF:List D→List D→Bool
 | [],[]=>false
 | [],_::_=>true
 | _::_,[]=>false
 | x::xs,y::ys=>if eqd x y=true then aF xs ys else ltD x y
end
mutual
def ab:D→D→Bool
 | .int _,.int _=>true
 | .bl _,.bl _=>true
 | .str _,.str _=>true
 | .tup xs,.tup ys=>av xs ys
 | _,_=>false
def av:List D→List D→Bool
 | x::xs,y::ys=>ab x y&&av xs ys
 | _,_=>true
end
def l9 (A:Around)(s:Shared)(y x:Value)(b:Bool):Prop:=
 ∀ (prog:Program) (w:World) (E:Kv) (Q:Kv),Q (.bool b) s→wpAny (model prog w) A (richCompare .Lt y x) Q E s
inductive LexOk (A:Around) (s:Shared):List Value→List Value→List D→List D→Prop
 | nl {ws:List Value} {es:List D}:ws.length=es.length→LexOk A s [] ws [] es
 | nr {vs:List Value} {ds:List D}:vs.length=ds.length→LexOk A s vs [] ds []
 | cons {v w:Value} {d e:D} {vs ws:List Value} {ds es:List D}:SeqAt.EqAt A s v w (eqd d e)→(eqd d e=false→l9 A s v w (ltD d e))→LexOk A s vs ws ds es→LexOk A s (v::vs) (w::ws) (d::ds) (e::es)
theorem LexOk.len {A:Around}{s:Shared}{vs ws:List Value}{ds es:List D}(h:LexOk A s vs ws ds es):vs.length=ds.length∧ws.length=es.length:=by
 induction h with
 | nl h=>exact⟨rfl,h⟩
 | nr h=>exact⟨h,rfl⟩
 | cons _ _ _ ih=>exact⟨ZP Nat.succ ih.1,ZP Nat.succ ih.2⟩
section
open PySem.SeqAt
open PySem.AutoSeq1 (wpAny_loadPart')
open PySem.MeetsSeq PySem.MeetsSeq2 PySem.MeetsSeq3
theorem gX (l b:Addr)(items bH:Array Value)(n n2:Nat)(dd dd2:Option Addr)(sl sl2:Array (Option Value))(ds es:List D) :
  Meets (Builtin.«tuple.__lt__» ⟨[.ref l,.ref b],[]⟩)
   (fun A R s=>LexOk A.in1 s items.toList bH.toList ds es∧s.heap.get? l=some { cls:=.type "tuple",dict:=dd,data:=.seq items n,slots:=sl }∧s.heap.get? b=some { cls:=.type "tuple",dict:=dd2,data:=.seq bH n2,slots:=sl2 } ∧
    R (.ok (.ret (.bool (aF ds es)))) s):=
 .of_wp fun prog w A R s h=>by
  obtain⟨hp,g,d,tk,os⟩:=s;obtain⟨hlex,hl,hb,h⟩:=h
  have f2:=AutoSeq1.sub_tuple_tuple
  have z1:items.size=ds.length:=by rw[← hlex.len.1];simp
  have z2:bH.size=es.length:=by rw[← hlex.len.2];simp
  wp_walk using wpAny_loadPart' hl,wpAny_loadPart' hb,Xc _ (fun aG b s'=>b.1=none∧s'=⟨hp,g,d,tk,os⟩∧∃ (vs ws:List Value) (ds' es':List D),aG=vs.zip ws ∧
   LexOk A.in1 ⟨hp,g,d,tk,os⟩ vs ws ds' es'∧ds'.length+bH.size=es'.length+items.size∧R (.ok (.ret (.bool (aF ds' es')))) ⟨hp,g,d,tk,os⟩) _
  case turn=>
   rintro⟨y,x⟩ aG b s' ⟨hb',rfl,vs,ws,ds',es',hz,hx,hlen,hR⟩
   cases hx with
   | nl _=>rw[List.zip_nil_left] at hz;cases hz
   | nr _=>rw[List.zip_nil_right] at hz;cases hz
   | @cons v w' dd' ee' vs' ws' ds'' es'' he hlt hx'=>
    rw[Vx] at hz
    injection hz with hyx hrest
    injection hyx with hy hxx
    subst hy hxx
    simp only[YB] at hlen
    refine Ya (he prog w _ _ ?_)
    cases q:eqd dd' ee' with
    | true=>
     have hR':R (.ok (.ret (.bool (aF ds'' es'')))) ⟨hp,g,d,tk,os⟩:=by
      rw[aF,Yn q] at hR;exact hR
     wp_walk
     exact⟨rfl,rfl,_,_,_,_,hrest,hx',by omega,hR'⟩
    | false=>
     have hR':R (.ok (.ret (.bool (ltD dd' ee')))) ⟨hp,g,d,tk,os⟩:=by
      rw[aF,Yo (by rw[q];exact Yg)] at hR;exact hR
     have hri:=hlt q prog w
     wp_walk using hri
     exact⟨_,rfl,by simpa using hR'⟩
  case fin=>
   rintro⟨b1,b2⟩ s' ⟨hb',rfl,vs,ws,ds',es',hz,hx,hlen,hR⟩
   simp only at hb'
   subst hb'
   have hv:aF ds' es'=decide (items.size<bH.size):=by
    cases hx with
    | nl hw=>
     cases es' with
     | nil=>
      simp only[Ze] at hlen
      rw[show aF [] []=false by simp[aF]]
      exact (YR (by omega)).symm
     | cons c u=>
      simp only[Ze,YB] at hlen
      rw[show aF [] (c::u)=true by simp[aF]]
      exact (Zm (by omega)).symm
    | nr hw=>
     cases ds' with
     | nil=>
      simp only[Ze] at hlen
      rw[show aF [] []=false by simp[aF]]
      exact (YR (by omega)).symm
     | cons c u=>
      simp only[Ze,YB] at hlen
      rw[show aF (c::u) []=false by simp[aF]]
      exact (YR (by omega)).symm
    | cons _ _ _=>
     rw[Vx] at hz
     cases hz
   rw[hv] at hR
   wp_walk
   exact⟨_,rfl,by simpa[Builtin.Tuple.tupleCompareSizes] using hR⟩
  case h=>
   exact⟨rfl,rfl,items.toList,bH.toList,ds,es,rfl,hlex,by omega,h⟩
end
theorem kO {A:Around}{s:Shared}{l b:Addr}{items bH:Array Value}{ds es:List D}(hl:IsTup s.heap l items)(hb:IsTup s.heap b bH)(hx:LexOk A.in1 s items.toList bH.toList ds es)(hu:A.units<cLine) :
  l9 A s (.ref l) (.ref b) (aF ds es):=by
 intro prog w E Q h
 obtain⟨⟨cls,dd,data,sl⟩,ho,hc,n,hd⟩:=id hl
 obtain⟨⟨cls2,dd2,data2,sl2⟩,ho2,hc2,n2,hd2⟩:=id hb
 simp only at hc hd hc2 hd2
 subst hc hd hc2 hd2
 exact richCompare_meets_room (op:=.Lt) ⟨_,ho,rfl⟩ ⟨_,ho2,rfl⟩ PySem.F.slot_tuple_lt PySem.F.entry_tuple_lt (PySem.F.args_tuple_lt_2 _ _) (gX l b items bH n n2 dd dd2 sl sl2 ds es)
  ⟨hx,ho,ho2,show Value.bool (aF ds es)≠Value.notImplemented∧Q (.bool (aF ds es)) s from ⟨(fun x=>nomatch x),h⟩⟩ hu
section
variable {X:Cx} {pz:Kp} {σ:St} {H:Hp} {s:Shared}
def cX:D→Bool
 | .tup _=>true
 | _=>false
theorem Rep.ltS (A:Around){x y:V}{d e:D}{u w:Value}(h1:Rep X.K H x d)(h2:Rep X.K H y e)(c:ab d e=true)(hd:cX d=false)(r1:RelV x u)(r2:RelV y w):l9 A s u w (ltD d e):=by
 cases d with
 | int i=>
  cases e with
  | int j=>
   cases h1;cases h2
   obtain⟨t,rfl⟩:=(show ∃ t,u=Value.int _ t from r1)
   obtain⟨t',rfl⟩:=(show ∃ t,w=Value.int _ t from r2)
   intro prog w' E Q h
   exact HT.rcLt_int A s _ _ _ _ prog w' E Q (by rw[ltD] at h;exact h)
  | _=>exact absurd c Yg
 | bl b1=>
  cases e with
  | bl b2=>
   cases h1;cases h2
   cases (show u=Value.bool _ from r1)
   cases (show w=Value.bool _ from r2)
   intro prog w' E Q h
   exact (PyProof.Rows.lt_bool (by cases b1 <;> cases b2 <;> (rw[ltD] at h;exact h)):wpAny (model prog w') A (compareOp .Lt (.bool b1) (.bool b2)) Q E s)
  | _=>exact absurd c Yg
 | str x1=>
  cases e with
  | str x2=>
   cases h1;cases h2
   obtain⟨t,rfl⟩:=(show ∃ t,u=Value.str _ t from r1)
   obtain⟨t',rfl⟩:=(show ∃ t,w=Value.str _ t from r2)
   intro prog w' E Q h
   exact (PyProof.Rows.lt_str (by rw[ltD] at h;exact h):wpAny (model prog w') A (compareOp .Lt (.str x1 t) (.str x2 t')) Q E s)
  | _=>exact absurd c Yg
 | tup xs=>cases hd
 | _=>exact absurd c Yg
theorem Reps.lex (I:Inv X pz σ H s)(n:Nat)(A:Around)(hu:A.units+n+2<cLine)
  (ih:∀ {x y:V} {d e:D} {u w:Value},Rep X.K H x d→Rep X.K H y e→okN n d=true→okN n e=true→ab d e=true→RelV x u→RelV y w→l9 A s u w (ltD d e)) :
  ∀ {xs ys:List V} {ds es:List D} {us ws:List Value},Reps X.K H xs ds→Reps X.K H ys es→(∀ d∈ds,okN n d=true)→(∀ d∈es,okN n d=true)→av ds es=true→Vals xs us→Vals ys ws→LexOk A s us ws ds es:=by
 intro xs ys ds
 induction ds generalizing xs ys with
 | nil=>
  intro es us ws q1 q2 _ _ _ r1 r2
  cases q1;cases r1
  exact .nl (by rw[← r2.length,q2.length])
 | cons d ds ihd=>
  intro es us ws q1 q2 o1 o2 c r1 r2
  cases es with
  | nil=>
   cases q2;cases r2
   exact .nr (by rw[← r1.length,q1.length])
  | cons e es=>
   cases q1 with
   | cons h q=>
    cases q2 with
    | cons h' q'=>
     cases r1 with
     | cons r t=>
      cases r2 with
      | cons r' t'=>
       rw[av,Yq] at c
       have a1:=o1 _ Yc
       have a2:=o2 _ Yc
       obtain⟨x1,p1⟩:=h.reads I n a1 r
       obtain⟨x2,p2⟩:=h'.reads I n a2 r'
       obtain⟨l1,m1⟩:=aO n _ a1
       obtain⟨l2,m2⟩:=aO n _ a2
       refine .cons (XT _ _ A s _ _ _ _ p1 p2 l1 l2 ?_) (fun _=>ih h h' a1 a2 c.1 r r') (ihd q q' (fun d hd=>o1 d (Yb _ hd)) (fun d hd=>o2 d (Yb _ hd)) c.2 t t')
       have:min (aw d).depth (aw e).depth≤n+1:=Zi (Nat.min_le_left _ _) m1
       omega
theorem Rep.lt (I:Inv X pz σ H s):∀ (n:Nat) (A:Around),A.units+n+2<cLine→∀ {x y:V} {d e:D} {u w:Value},Rep X.K H x d→Rep X.K H y e→okN n d=true→okN n e=true→ab d e=true→RelV x u→RelV y w→l9 A s u w (ltD d e):=by
 intro n
 induction n with
 | zero=>
  intro A hu x y d e u w h1 h2 o1 o2 c r1 r2
  refine h1.ltS A h2 c ?_ r1 r2
  cases d <;> first | rfl | (simp[okN] at o1)
 | succ n ihn=>
  intro A hu x y d e u w h1 h2 o1 o2 c r1 r2
  cases hd:cX d with
  | false=>exact h1.ltS A h2 c hd r1 r2
  | true=>
   cases d with
   | tup ds=>
    cases e with
    | tup es=>
     cases h1 with
     | tup h1 q1=>
      cases h2 with
      | tup h2 q2=>
       cases (show u=Value.ref _ from r1)
       cases (show w=Value.ref _ from r2)
       obtain⟨its1,rv1,ht1,_⟩:=I.tuple (SqT.of h1)
       obtain⟨its2,rv2,ht2,_⟩:=I.tuple (SqT.of h2)
       rw[ltD]
       have hu':A.in1.units+n+2<cLine:=by show A.units+1+n+2<cLine;omega
       exact kO ht1 ht2 (Reps.lex I n A.in1 hu' (ihn A.in1 hu') q1 q2 (aC o1) (aC o2) (by rw[ab] at c;exact c) rv1 rv2) (by omega)
    | _=>exact absurd c Yg
   | _=>cases hd
end
def ltd (x y:D):Option D:=if (okN 30 x&&okN 30 y&&ab x y)=true then some (.bl (ltD x y)) else none
def r8 (K:Kq):R2:=fun x y H Q=>∃ dx dy,Rep K H x dx∧Rep K H y dy∧okN 30 dx=true∧okN 30 dy=true∧ab dx dy=true∧Q (.bl (ltD dx dy)) H
section
variable {X:Cx} {a b:Expr} {pos:Pos}
theorem qD (hu:X.A.units+64<cLine):OpR X (compareOp .Lt) (r8 X.K):=by
 intro pz s σ H x y v u Q I rx ry h
 obtain⟨dx,dy,h1,h2,o1,o2,c,q⟩:=h
 exact Rep.lt I 30 X.A (by omega) h1 h2 o1 o2 c rx ry X.prog X.w X.xe _ ⟨.bl _,H,I,rfl,q⟩
theorem pW {K:Kq}:ji K (r8 K) ltd:=by
 intro P F H x y dx dy d Q hf hp rx ry k
 unfold ltd at hf
 split at hf
 ·rename_i h
  rw[Yq,Yq] at h
  cases hf
  exact⟨dx,dy,rx,ry,h.1.1,h.1.2,h.2,k _ F H (Evo.refl hp) .bl⟩
 ·cases hf
theorem li {fa fb:Dd}(hu:X.A.units+64<cLine)(ha:PDN X a fa)(hb:PDN X b fb):PDT X (.Compare a [.Lt] [b] pos) (asB (d2 ltd fa fb)):=em (qD hu) pW ha hb (gP _)
end
end L2
namespace L2
open PySem PySem.Spec PyProof.Rows PySem.W
structure Ord (lt:Nat→Nat→Bool):Prop where
 asym:∀ i j,lt i j=true→lt j i=false
 trans:∀ i j k,lt j i=false→lt k j=false→lt k i=false
section
variable {n:Nat} {lt:Nat→Nat→Bool}
structure PermN (n:Nat) (p:Array Nat):Prop where
 size:p.size=n
 perm:p.toList.Perm (List.range n)
theorem PermN.bd {p:Array Nat}(h:PermN n p){i:Nat}(hi:i<n):p.getD i 0<n:=by
 have hs:i<p.size:=by rw[h.size];exact hi
 have e:p.getD i 0=p[i]:=by simp[Array.getD,hs]
 rw[e]
 have hm:p[i]∈p.toList:=by simp
 exact YO.mp (h.perm.mem_iff.mp hm)
theorem PermN.rev {p:Array Nat}(h:PermN n p)(i j:Nat):PermN n (kas_rev p i j):=
 ⟨by unfold kas_rev;rw[mirror_size,h.size],((Array.perm_iff_toList_perm.mp (mirror_perm _ _ _ _)).trans h.perm)⟩
theorem PermN.bub {p:Array Nat}(h:PermN n p)(i j:Nat):PermN n (bubble p i j):=
 ⟨by rw[bubble_size,h.size],((Array.perm_iff_toList_perm.mp (bubble_perm _ _ _)).trans h.perm)⟩
theorem c9 {p q:Array Nat}{i j:Nat}(h:p[i]?=q[j]?):p.getD i 0=q.getD j 0:=by
 simp only[Zj,h]
theorem a9 {p:Array Nat}(h:PermN n p){i j:Nat}(hj:j≤n)(k:Nat):(kas_rev p i j).getD k 0=if i≤k∧k<j then p.getD (i+j-1-k) 0 else p.getD k 0:=by
 have e:=getElem?_mirror_all (xs:=p) (i:=i) (j:=j) (by rw[h.size];exact hj) k
 unfold kas_rev
 split
 ·rename_i q;rw[Yn q] at e;exact c9 e
 ·rename_i q;rw[Yo q] at e;exact c9 e
def Ris (lt:Nat→Nat→Bool)(p:Array Nat)(b:Nat):Prop:=∀ i j,i≤j→j<b→lt (p.getD j 0) (p.getD i 0)=false
def Eqs (lt:Nat→Nat→Bool)(p:Array Nat)(a b:Nat):Prop:=∀ i j,a≤i→i<b→a≤j→j<b→lt (p.getD i 0) (p.getD j 0)=false
theorem Ord.irr (o:Ord lt)(i:Nat):lt i i=false:=by
 cases q:lt i i with
 | false=>rfl
 | true=>have:=o.asym i i q;rw[q] at this;cases this
theorem iZ {a b i:Nat}(h:a≤i∧i<b):a≤a+b-1-i∧a+b-1-i<b:=by omega
theorem g8 (o:Ord lt)(p':Array Nat)(k:Nat):Eqs lt p' (k+1-(0+1)) (k+1):=by
 intro i j a1 a2 a3 a4
 have e1:i=k:=Nat.le_antisymm (Xr a2) a1
 have e2:j=k:=Nat.le_antisymm (Xr a4) a3
 subst e1
 subst e2
 exact o.irr _
theorem nk (o:Ord lt){p:Array Nat}{k q:Nat}(hb:k-(q+1)≤k-1∧k-1<k)(he:Eqs lt p (k-(q+1)) k)(c:lt (p.getD k 0) (p.getD (k-1) 0)=false)(d:lt (p.getD (k-1) 0) (p.getD k 0)=false):Eqs lt p (k+1-(q+1+1)) (k+1):=by
 have e1:∀ i,k+1-(q+1+1)≤i→i<k+1→lt (p.getD i 0) (p.getD k 0)=false∧lt (p.getD k 0) (p.getD i 0)=false:=fun i b1 b2=>by
  rw[Nat.add_sub_add_right] at b1
  by_cases hik:i=k
  ·subst hik;exact⟨o.irr _,o.irr _⟩
  ·have il:i<k:=Nat.lt_of_le_of_ne (Xr b2) hik
   exact⟨o.trans _ _ _ d (he i (k-1) b1 il hb.1 hb.2),o.trans _ _ _ (he (k-1) i hb.1 hb.2 b1 il) c⟩
 exact fun i j a1 a2 a3 a4=>o.trans _ _ _ (e1 j a3 a4).2 (e1 i a1 a2).1
theorem gN {p:Array Nat}(hp:PermN n p){k l:Nat}(hk:k<n)(hl:l≤k)(i:Nat):(bubble p k (k-l)).getD i 0=if i=l then p.getD k 0 else if l<i∧i≤k then p.getD (i-1) 0 else p.getD i 0:=by
 have e:=getElem?_bubble (xs:=p) (src:=k) (by rw[hp.size];exact hk) (k-l) (Nat.sub_le _ _) i
 rw[Nat.sub_sub_self hl] at e
 by_cases h1:i=l
 ·rw[Yn h1] at e ⊢;exact c9 e
 ·rw[Yo h1] at e ⊢
  by_cases h2:l<i∧i≤k
  ·rw[Yn h2] at e ⊢;exact c9 e
  ·rw[Yo h2] at e ⊢;exact c9 e
theorem jw (n:Nat):PermN n (List.toArray (List.range n)):=⟨by simp,by simp⟩
end
def gy:Bool→Keyed→Array Keyed→Nat→Nat→Nat→StateT SortSt Sem (Option Nat):=sortPriv% PySem.Builtin.gallop
def iI:Array Keyed→Array Keyed→StateT SortSt Sem (Array Keyed):=sortPriv% PySem.Builtin.mergeLo
def ij:Array Keyed→Array Keyed→StateT SortSt Sem (Array Keyed):=sortPriv% PySem.Builtin.mergeHi
section
variable {prog:Program} {w:World} {A:Around} {E:Kv} {s:Shared} {n:Nat} {lt:Nat→Nat→Bool} {κ:SortKind} {it:Array Keyed}
def Cmp (prog:Program)(w:World)(A:Around)(E:Kv)(s:Shared)(n:Nat)(lt:Nat→Nat→Bool)(κ:SortKind)(it:Array Keyed):Prop:=
 ∀ (i j:Nat) (st:SortSt) (Q:Option Bool→SortSt→Prop),i<n→j<n→kindOf st=κ→Q (some (lt i j)) st→wpS (model prog w) A E s (lt' (kas_item it i) (kas_item it j)) Q st
theorem p8 (hc:∀ i j C,i<n→j<n→C (lt i j) s→kas_cmp prog w A κ it i j C s):Cmp prog w A E s n lt κ it:=by
 intro i j st Q hi hj hk h
 rw[lt'_eq]
 refine Ym (wpS_get ?_)
 rw[hk]
 refine Ym (wpS_lift (Vn (ZJ (hc i j (fun b s'=>s'=s∧b=lt i j) hi hj ⟨rfl,rfl⟩) (fun b s' hb=>?_) fun _ _ hF=>hF.elim)))
 obtain⟨rfl,rfl⟩:=hb
 exact⟨rfl,Yr h⟩
theorem eJ {q:Array Nat}{i:Nat}{st:SortSt}{Q:Keyed→SortSt→Prop}(hi:i<q.size)(h:Q (kas_item it (q.getD i 0)) st):wpS (model prog w) A E s (elem' (q.map (kas_item it)) i) Q st:=by
 have e:(q.map (kas_item it))[i]?=some (kas_item it (q.getD i 0)):=by
  have e:q.getD i 0=q[i]:=by simp[Array.getD,hi]
  rw[e]
  simp[hi]
 rw[elem'_eq,e]
 exact Yr h
theorem qh (hC:Cmp prog w A E s n lt κ it){left:Bool}{key:Nat}{q:Array Nat}{base m hint:Nat}{st:SortSt}{Q:Option Nat→SortSt→Prop}(hk:kindOf st=κ)(hkey:key<n)(hq:∀ i,i<m→q.getD (base+i) 0<n)(hz:base+m≤q.size)(hh:hint<m)
  (B:Nat→Bool) (hB:∀ i,i<m→B i=if left=true then lt (q.getD (base+i) 0) key else !lt key (q.getD (base+i) 0)) (mono:∀ i j,i≤j→j<m→B j=true→B i=true)
  (h:∀ k,k≤m→(∀ i,i<k→B i=true)→(∀ i,k≤i→i<m→B i=false)→Q (some k) st):wpS (model prog w) A E s (gy left (kas_item it key) (q.map (kas_item it)) base m hint) Q st:=by
 have hbey:∀ i,i<m→∀ (st:SortSt) (Q:Option Bool→SortSt→Prop),kindOf st=κ→Q (some (B i)) st→wpS (model prog w) A E s (elem' (q.map (kas_item it)) (base+i)>>=fun x=>if left=true then lt' x (kas_item it key) else lt' (kas_item it key) x>>=fun r=>pure (r.map fun b=>!b)) Q st:=fun i hi st Q hk hQ=>by
  refine Ym (eJ (by omega) ?_)
  rw[hB i hi] at hQ
  cases left with
  | true=>
   rw[Yn rfl] at hQ ⊢
   exact hC _ _ _ _ (hq i hi) hkey hk hQ
  | false=>
   rw[Yo Yg] at hQ ⊢
   exact Ym (hC _ _ _ _ hkey (hq i hi) hk (Yr hQ))
 have down:∀ i j,i≤j→j<m→B i=false→B j=false:=fun i j h1 h2 h3=>by
  cases hb:B j with
  | false=>rfl
  | true=>rw[mono i j h1 h2 hb] at h3;cases h3
 unfold gy
 refine Ym (hbey hint hh st _ hk ?_)
 dsimp only
 cases hb:B hint with
 | true=>
  rw[Yn rfl]
  refine Ym (ZM (Zb (I:=fun x (c:Option (Option Nat)×Nat×Nat) st'=>st=st'∧c.1=none∧x+1≤c.2.2∧c.2.1<c.2.2∧(c.2.1<m-hint)∧B (hint+c.2.1)=true) (Q:=fun (c:Option (Option Nat)×Nat×Nat) st'=>st=st'∧c.1=none∧c.2.1<c.2.2∧(c.2.1<m-hint)∧B (hint+c.2.1)=true∧(c.2.2<m-hint→B (hint+c.2.2)=false)) ?_ (fun c st' z=>⟨z.1,z.2.1,z.2.2.2.1,z.2.2.2.2.1,z.2.2.2.2.2,fun y=>by have:=z.2.2.1;omega⟩) ⟨rfl,rfl,by decide,by decide,by dsimp only;omega,hb⟩) ?_)
  ·rintro x ⟨c0,la,of⟩ st' _ hx ⟨rfl,rfl,h1,h2,h3,h4⟩
   dsimp only at h1 h2 h3 h4 ⊢
   by_cases hl:of ≥ m-hint
   ·rw[Yn hl]
    exact Yr ⟨rfl,rfl,h2,h3,h4,fun y=>by dsimp only at y;omega⟩
   ·rw[Yo hl]
    refine Ym (hbey (hint+of) (by omega) _ _ hk ?_)
    dsimp only
    cases hb':B (hint+of) with
    | true=>
     rw[Yo (by decide)]
     exact Yr ⟨rfl,rfl,by dsimp only;omega,by dsimp only;omega,by dsimp only;omega,hb'⟩
    | false=>
     rw[Yn (by decide)]
     exact Yr ⟨rfl,rfl,h2,h3,h4,fun _=>hb'⟩
  ·rintro⟨c0,la,of⟩ st' ⟨rfl,rfl,h1,h2,h3,h4⟩
   dsimp only at h1 h2 h3 h4 ⊢
   have G1:∀ i,i<hint+la+1→B i=true:=fun i hi=>mono i _ (by omega) (by omega) h3
   have G2:∀ i,hint+min of (m-hint)≤i→i<m→B i=false:=fun i h5 h6=>down (hint+of) i (by omega) h6 (h4 (by omega))
   refine Ym (ZM (Zb (I:=fun x (c:Option (Option Nat)×Nat×Nat) st'=>st=st'∧c.1=none∧c.2.1≤c.2.2∧c.2.2≤m∧c.2.2-c.2.1≤m-x∧(∀ i,i<c.2.1→B i=true)∧(∀ i,c.2.2≤i→i<m→B i=false)) (Q:=fun (c:Option (Option Nat)×Nat×Nat) st'=>st=st'∧c.1=none∧c.2.1=c.2.2∧c.2.2≤m∧(∀ i,i<c.2.1→B i=true)∧(∀ i,c.2.2≤i→i<m→B i=false)) ?_ (fun c st' z=>⟨z.1,z.2.1,by have:=z.2.2.1;have:=z.2.2.2.2.1;omega,z.2.2.2.1,z.2.2.2.2.2⟩) ⟨rfl,rfl,by dsimp only;omega,by dsimp only;omega,by dsimp only;omega,G1,G2⟩) ?_)
   ·rintro x ⟨c0,lo,hi⟩ st' _ hx ⟨rfl,rfl,h1,h2,h3,h4,h5⟩
    dsimp only at h1 h2 h3 h4 h5 ⊢
    by_cases hl:lo ≥ hi
    ·rw[Yn hl]
     exact Yr ⟨rfl,rfl,by dsimp only;omega,h2,h4,h5⟩
    ·rw[Yo hl]
     refine Ym (hbey (lo+(hi-lo)/2) (by omega) _ _ hk ?_)
     dsimp only
     cases hb:B (lo+(hi-lo)/2) with
     | true=>
      rw[Yn rfl]
      exact Yr ⟨rfl,rfl,by dsimp only;omega,h2,by dsimp only;omega,fun i hi'=>mono i _ (by dsimp only at hi';omega) (by omega) hb,h5⟩
     | false=>
      rw[Yo Yg]
      refine Yr ⟨rfl,rfl,by dsimp only;omega,by dsimp only;omega,by dsimp only;omega,h4,fun i h6 h7=>?_⟩
      cases hb':B i with
      | false=>rfl
      | true=>rw[mono _ i h6 h7 hb'] at hb;cases hb
   ·rintro⟨c0,lo,hi⟩ st' ⟨rfl,rfl,h1,h2,h3,h4⟩
    dsimp only at h1 h2 h3 h4 ⊢
    subst h1
    exact Yr (h lo h2 h3 h4)
 | false=>
  rw[Yo Yg]
  refine Ym (ZM (Zb (I:=fun x (c:Option (Option Nat)×Nat×Nat) st'=>st=st'∧c.1=none∧x+1≤c.2.2∧c.2.1<c.2.2∧(c.2.1<hint+1)∧B (hint-c.2.1)=false) (Q:=fun (c:Option (Option Nat)×Nat×Nat) st'=>st=st'∧c.1=none∧c.2.1<c.2.2∧(c.2.1<hint+1)∧B (hint-c.2.1)=false∧(c.2.2<hint+1→B (hint-c.2.2)=true)) ?_ (fun c st' z=>⟨z.1,z.2.1,z.2.2.2.1,z.2.2.2.2.1,z.2.2.2.2.2,fun y=>by have:=z.2.2.1;omega⟩) ⟨rfl,rfl,by decide,by decide,by dsimp only;omega,hb⟩) ?_)
  ·rintro x ⟨c0,la,of⟩ st' _ hx ⟨rfl,rfl,h1,h2,h3,h4⟩
   dsimp only at h1 h2 h3 h4 ⊢
   by_cases hl:of ≥ hint+1
   ·rw[Yn hl]
    exact Yr ⟨rfl,rfl,h2,h3,h4,fun y=>by dsimp only at y;omega⟩
   ·rw[Yo hl]
    refine Ym (hbey (hint-of) (by omega) _ _ hk ?_)
    dsimp only
    cases hb':B (hint-of) with
    | false=>
     rw[Yo (by decide)]
     exact Yr ⟨rfl,rfl,by dsimp only;omega,by dsimp only;omega,by dsimp only;omega,hb'⟩
    | true=>
     rw[Yn (by decide)]
     exact Yr ⟨rfl,rfl,h2,h3,h4,fun _=>hb'⟩
  ·rintro⟨c0,la,of⟩ st' ⟨rfl,rfl,h1,h2,h3,h4⟩
   dsimp only at h1 h2 h3 h4 ⊢
   have G1:∀ i,i<hint+1-min of (hint+1)→B i=true:=fun i hi=>mono i _ (by omega) (by omega) (h4 (by omega))
   have G2:∀ i,hint-la≤i→i<m→B i=false:=fun i h5 h6=>down (hint-la) i (by omega) h6 h3
   refine Ym (ZM (Zb (I:=fun x (c:Option (Option Nat)×Nat×Nat) st'=>st=st'∧c.1=none∧c.2.1≤c.2.2∧c.2.2≤m∧c.2.2-c.2.1≤m-x∧(∀ i,i<c.2.1→B i=true)∧(∀ i,c.2.2≤i→i<m→B i=false)) (Q:=fun (c:Option (Option Nat)×Nat×Nat) st'=>st=st'∧c.1=none∧c.2.1=c.2.2∧c.2.2≤m∧(∀ i,i<c.2.1→B i=true)∧(∀ i,c.2.2≤i→i<m→B i=false)) ?_ (fun c st' z=>⟨z.1,z.2.1,by have:=z.2.2.1;have:=z.2.2.2.2.1;omega,z.2.2.2.1,z.2.2.2.2.2⟩) ⟨rfl,rfl,by dsimp only;omega,by dsimp only;omega,by dsimp only;omega,G1,G2⟩) ?_)
   ·rintro x ⟨c0,lo,hi⟩ st' _ hx ⟨rfl,rfl,h1,h2,h3,h4,h5⟩
    dsimp only at h1 h2 h3 h4 h5 ⊢
    by_cases hl:lo ≥ hi
    ·rw[Yn hl]
     exact Yr ⟨rfl,rfl,by dsimp only;omega,h2,h4,h5⟩
    ·rw[Yo hl]
     refine Ym (hbey (lo+(hi-lo)/2) (by omega) _ _ hk ?_)
     dsimp only
     cases hb:B (lo+(hi-lo)/2) with
     | true=>
      rw[Yn rfl]
      exact Yr ⟨rfl,rfl,by dsimp only;omega,h2,by dsimp only;omega,fun i hi'=>mono i _ (by dsimp only at hi';omega) (by omega) hb,h5⟩
     | false=>
      rw[Yo Yg]
      refine Yr ⟨rfl,rfl,by dsimp only;omega,by dsimp only;omega,by dsimp only;omega,h4,fun i h6 h7=>?_⟩
      cases hb':B i with
      | false=>rfl
      | true=>rw[mono _ i h6 h7 hb'] at hb;cases hb
   ·rintro⟨c0,lo,hi⟩ st' ⟨rfl,rfl,h1,h2,h3,h4⟩
    dsimp only at h1 h2 h3 h4 ⊢
    subst h1
    exact Yr (h lo h2 h3 h4)
end
section
variable {lt:Nat→Nat→Bool} {la lb o:List Nat} {ia ib:Nat}
def Up (lt:Nat→Nat→Bool)(l:List Nat):Prop:=l.Pairwise fun x y=>lt y x=false
structure MGood (lt:Nat→Nat→Bool) (la lb l:List Nat):Prop where
 perm:l.Perm (la++lb)
 up:Up lt l
structure MIv (lt:Nat→Nat→Bool) (la lb o:List Nat) (ia ib:Nat):Prop where
 perm:(o++(la.drop ia++lb.drop ib)).Perm (la++lb)
 up:Up lt o
 le:∀ x∈o,∀ y∈la.drop ia++lb.drop ib,lt y x=false
theorem eC {l:List Nat}{i x:Nat}(h:l[i]?=some x):l.drop i=x::l.drop (i+1):=by
 obtain⟨hi,rfl⟩:=Yi.mp h
 exact Zg hi
theorem aM {l m:List Nat}:Up lt (l++m)↔Up lt l∧Up lt m∧∀ x∈l,∀ y∈m,lt y x=false:=List.pairwise_append
theorem bA {l:List Nat}(h:Up lt l)(i:Nat):Up lt (l.drop i):=h.drop
theorem MIv.b (I:MIv lt la lb o ia ib)(sb:Up lt lb){y:Nat}(hb:lb[ib]?=some y)(h:∀ x∈la.drop ia,lt x y=false):MIv lt la lb (o++[y]) ia (ib+1):=by
 have e:=eC hb
 have hy:y∈la.drop ia++lb.drop ib:=Yt _ (e ▸ Yc)
 refine⟨?_,aM.mpr ⟨I.up,ZD _ _,fun x hx z hz=>by rw[YD] at hz;subst hz;exact I.le x hx _ hy⟩,fun x hx z hz=>?_⟩
 ·refine List.Perm.trans ?_ I.perm
  rw[e,Yv]
  refine ZN _ ?_
  exact (Xd (l₁:=la.drop ia)).symm
 ·rcases Yz.mp hx with hx | hx
  ·refine I.le x hx z ?_
   rw[e]
   rcases Yz.mp hz with hz | hz
   ·exact YK _ hz
   ·exact Yt _ (Yb _ hz)
  ·rw[YD] at hx
   subst hx
   rcases Yz.mp hz with hz | hz
   ·exact h z hz
   ·have:=bA sb ib
    rw[e] at this
    exact (YV.mp this).1 z hz
theorem MIv.a (I:MIv lt la lb o ia ib)(sa:Up lt la){y:Nat}(hb:la[ia]?=some y)(h:∀ x∈lb.drop ib,lt x y=false):MIv lt la lb (o++[y]) (ia+1) ib:=by
 have e:=eC hb
 have hy:y∈la.drop ia++lb.drop ib:=YK _ (e ▸ Yc)
 refine⟨?_,aM.mpr ⟨I.up,ZD _ _,fun x hx z hz=>by rw[YD] at hz;subst hz;exact I.le x hx _ hy⟩,fun x hx z hz=>?_⟩
 ·refine List.Perm.trans (.of_eq ?_) I.perm
  rw[e,Yv]
  rfl
 ·rcases Yz.mp hx with hx | hx
  ·refine I.le x hx z ?_
   rw[e]
   rcases Yz.mp hz with hz | hz
   ·exact YK _ (Yb _ hz)
   ·exact Yt _ hz
  ·rw[YD] at hx
   subst hx
   rcases Yz.mp hz with hz | hz
   ·have:=bA sa ia
    rw[e] at this
    exact (YV.mp this).1 z hz
   ·exact h z hz
theorem cE {l:List Nat}{i k x:Nat}(h:l[i+k]?=some x):(l.drop i).take (k+1)=(l.drop i).take k++[x]:=by
 rw[XW,XL,h]
 rfl
theorem MIv.as (I:MIv lt la lb o ia ib)(sa:Up lt la):∀ k,ia+k≤la.length→(∀ i x,i<k→la[ia+i]?=some x→∀ y∈lb.drop ib,lt y x=false)→MIv lt la lb (o++(la.drop ia).take k) (ia+k) ib
 | 0,_,_=>by rw[Xw,YI];exact I
 | k+1,hl,h=>by
  have e:la[ia+k]?=some la[ia+k]:=Ye (by omega)
  rw[cE e,← Yv]
  exact MIv.a (MIv.as I sa k (by omega) fun i x hi=>h i x (by omega)) sa e (h k _ (by omega) e)
theorem MIv.bs (I:MIv lt la lb o ia ib)(sb:Up lt lb):∀ k,ib+k≤lb.length→(∀ i x,i<k→lb[ib+i]?=some x→∀ y∈la.drop ia,lt y x=false)→MIv lt la lb (o++(lb.drop ib).take k) ia (ib+k)
 | 0,_,_=>by rw[Xw,YI];exact I
 | k+1,hl,h=>by
  have e:lb[ib+k]?=some lb[ib+k]:=Ye (by omega)
  rw[cE e,← Yv]
  exact MIv.b (MIv.bs I sb k (by omega) fun i x hi=>h i x (by omega)) sb e (h k _ (by omega) e)
theorem MIv.endB (I:MIv lt la lb o ia ib)(sa:Up lt la)(h:ib=lb.length):MGood lt la lb (o++la.drop ia++lb.drop ib):=by
 subst h
 have p:=I.perm
 have l:=I.le
 rw[Vi,YI] at p l ⊢
 exact⟨p,aM.mpr ⟨I.up,bA sa _,l⟩⟩
theorem MIv.endA (I:MIv lt la lb o ia ib)(sb:Up lt lb)(h:ia=la.length):MGood lt la lb (o++la.drop ia++lb.drop ib):=by
 subst h
 have p:=I.perm
 have l:=I.le
 rw[Vi,Vs] at p l
 rw[Vi,YI]
 exact⟨p,aM.mpr ⟨I.up,bA sb _,l⟩⟩
theorem MIv.endL (I:MIv lt la lb o ia ib)(sa:Up lt la)(sb:Up lt lb){z:Nat}(hz:la[ia]?=some z)(h:ia+1=la.length)(hl:∀ y∈lb,lt z y=false):MGood lt la lb (o++lb.drop ib++la.drop ia):=by
 have e:la.drop ia=[z]:=by rw[eC hz,h,Vi]
 refine⟨List.Perm.trans ?_ I.perm,?_⟩
 ·rw[Yv]
  exact ZN _ Vg
 ·rw[Yv]
  refine aM.mpr ⟨I.up,aM.mpr ⟨bA sb _,bA sa _,fun x hx y hy=>?_⟩,fun x hx y hy=>I.le x hx y ?_⟩
  ·rw[e,YD] at hy
   subst hy
   exact hl x (ZQ hx)
  ·rcases Yz.mp hy with hy | hy
   ·exact Yt _ hy
   ·exact YK _ hy
theorem cL {l:List Nat}(h:Up lt l)(O:Ord lt){i j x y:Nat}(hij:i≤j)(hi:l[i]?=some x)(hj:l[j]?=some y):lt y x=false:=by
 obtain⟨h1,rfl⟩:=Yi.mp hi
 obtain⟨h2,rfl⟩:=Yi.mp hj
 rcases Xl i j with q | q
 ·exact Zx.mp h i j h1 h2 q
 ·have:i=j:=by omega
  subst this
  exact O.irr _
theorem bj {l:List Nat}{i y:Nat}(h:y∈l.drop i):∃ j,i≤j∧l[j]?=some y:=by
 obtain⟨k,hk,e⟩:=Vk.mp h
 exact⟨i+k,by omega,by rw[← XL];exact Yi.mpr ⟨hk,e⟩⟩
theorem dB {l:List Nat}(h:Up lt l)(O:Ord lt){i x y:Nat}(hi:l[i]?=some y)(hx:lt y x=false):∀ z∈l.drop i,lt z x=false:=fun z hz=>by
 obtain⟨j,hj,e⟩:=bj hz
 exact O.trans _ _ _ hx (cL h O hj hi e)
end
section
variable {prog:Program} {w:World} {A:Around} {E:Kv} {s:Shared} {n:Nat} {lt:Nat→Nat→Bool} {κ:SortKind} {it:Array Keyed}
def KA (it:Array Keyed)(l:List Nat):Array Keyed:=l.toArray.map (kas_item it)
theorem aa (l:List Nat):(KA it l).size=l.length:=by simp[KA]
theorem bO (l:List Nat)(x:Nat):(KA it l).push (kas_item it x)=KA it (l++[x]):=by simp[KA]
theorem bt (l m:List Nat):KA it l++KA it m=KA it (l++m):=by simp[KA]
theorem cA (l:List Nat)(i j:Nat):(KA it l).extract i j=KA it ((l.drop i).take (j-i)):=by
 simp[KA,List.extract_eq_take_drop]
theorem d6 (l:List Nat)(i:Nat):(KA it l).extract i (KA it l).size=KA it (l.drop i):=by
 rw[cA,aa,XU (by rw[ZK];exact Yw _)]
theorem gB (x:Nat):#[kas_item it x]=KA it [x]:=by simp[KA]
theorem aK {l:List Nat}{i x:Nat}{st:SortSt}{Q:Keyed→SortSt→Prop}(hi:l[i]?=some x)(h:Q (kas_item it x) st):wpS (model prog w) A E s (elem' (KA it l) i) Q st:=by
 have e:(KA it l)[i]?=some (kas_item it x):=by simp[KA,hi]
 rw[elem'_eq,e]
 exact Yr h
structure SG (st st':SortSt):Prop where
 kind:kindOf st'=kindOf st
 arr:arrOf st'=arrOf st
 pend:pendingOf st'=pendingOf st
 fail:failedOf st'=failedOf st
theorem SG.refl (st:SortSt):SG st st:=⟨rfl,rfl,rfl,rfl⟩
theorem SG.mg {st st':SortSt}(h:SG st st')(g:Nat):SG st (SortSt.mk' (kindOf st') (arrOf st') (pendingOf st') g (failedOf st')):=⟨h.kind,h.arr,h.pend,h.fail⟩
variable {M:Model} {σ α β:Type}
theorem gc (O:Ord lt)(hC:Cmp prog w A E s n lt κ it){left:Bool}{key:Nat}{l:List Nat}{base m hint:Nat}{st:SortSt}{Q:Option Nat→SortSt→Prop}(hk:kindOf st=κ)(hkey:key<n)(hl:∀ x∈l,x<n)(hz:base+m≤l.length)(hh:hint<m)(up:∀ i j x y,base≤i→i≤j→j<base+m→l[i]?=some x→l[j]?=some y→lt y x=false)
  (h:∀ k,k≤m→(∀ i x,i<k→l[base+i]?=some x→(if left=true then lt x key else !lt key x)=true)→(∀ i x,k≤i→i<m→l[base+i]?=some x→(if left=true then lt x key else !lt key x)=false)→Q (some k) st):wpS (model prog w) A E s (gy left (kas_item it key) (KA it l) base m hint) Q st:=by
 have ge:∀ i,i<m→l[base+i]?=some (l.toArray.getD (base+i) 0):=fun i hi=>by
  have:base+i<l.length:=by omega
  simp[Array.getD,this]
 refine qh hC hk hkey (fun i hi=>hl _ (YG (ge i hi))) (by simpa using hz) hh (fun i=>if left=true then lt (l.toArray.getD (base+i) 0) key else !lt key (l.toArray.getD (base+i) 0)) (fun _ _=>rfl) (fun i j hij hj hb=>?_) fun k hk h1 h2=>h k hk (fun i x hi e=>?_) fun i x hi hm e=>?_
 ·have u:=up (base+i) (base+j) _ _ (by omega) (by omega) (by omega) (ge i (by omega)) (ge j hj)
  revert hb
  generalize l.toArray.getD (base+i) 0=a at *
  generalize l.toArray.getD (base+j) 0=b at *
  cases left with
  | true=>
   show lt b key=true→lt a key=true
   intro hb
   cases q:lt a key with
   | true=>rfl
   | false=>
    have:=O.trans _ _ _ u (O.asym _ _ hb)
    have t:=O.trans key a b q u
    rw[t] at hb
    cases hb
  | false=>
   show (!lt key b)=true→(!lt key a)=true
   intro hb
   rw[Bool.not_eq_true'] at hb ⊢
   exact O.trans _ _ _ u hb
 ·have:=h1 i hi
  have e2:=(ge i (by omega)).symm.trans e
  cases e2
  exact this
 ·have:=h2 i hi hm
  have e2:=(ge i hm).symm.trans e
  cases e2
  exact this
end
section
variable {prog:Program} {w:World} {A:Around} {E:Kv} {s:Shared} {n:Nat} {lt:Nat→Nat→Bool} {κ:SortKind} {it:Array Keyed}
theorem aj {M:Model}{σ α:Type}{c:Prop}[Decidable c]{m m':StateT σ Sem α}{Q:α→σ→Prop}{st:σ}(h:wpS M A E s m Q st)(hc:c):wpS M A E s (if c then m else m') Q st:=by rw[Yn hc];exact h
theorem ae {M:Model}{σ α:Type}{c:Prop}[Decidable c]{m m':StateT σ Sem α}{Q:α→σ→Prop}{st:σ}(h:wpS M A E s m' Q st)(hc:¬ c):wpS M A E s (if c then m else m') Q st:=by rw[Yo hc];exact h
theorem f_ {M:Model}{σ α β:Type}{c:β→Prop}[DecidablePred c]{m1 f:β→StateT σ Sem α}{Q:α→σ→Prop}{st:σ}{v0:β}(P:β→Prop)(hf:∀ v,P v→wpS M A E s (f v) Q st)
  (h1:c v0→(∀ v,P v→wpS M A E s (f v) Q st)→wpS M A E s (m1 v0) Q st) (h2:¬ c v0→P v0):∀ v,v0=v→wpS M A E s (if c v then m1 v else f v) Q st:=by
 rintro v rfl
 by_cases q:c v0
 ·rw[Yn q];exact h1 q hf
 ·rw[Yo q];exact hf v0 (h2 q)
theorem dh {M:Model}{σ α β γ:Type}{c:Prop}[Decidable c]{m1 f:β→γ→StateT σ Sem α}{Q:α→σ→Prop}{st:σ}{u0:β}{v0:γ}(P:β→γ→Prop)(hf:∀ u v,P u v→wpS M A E s (f u v) Q st)
  (h1:c→(∀ u v,P u v→wpS M A E s (f u v) Q st)→wpS M A E s (m1 u0 v0) Q st) (h2:¬ c→P u0 v0):∀ u,u0=u→∀ v,v0=v→wpS M A E s (if c then m1 u v else f u v) Q st:=by
 rintro u rfl v rfl
 by_cases q:c
 ·rw[Yn q];exact h1 q hf
 ·rw[Yo q];exact hf u0 v0 (h2 q)
def pQ:Nat→StateT SortSt Sem Unit:=sortPriv% PySem.Builtin.setMinGallop
theorem cF {g:Nat}{st st':SortSt}{Q:Unit→SortSt→Prop}(hG:SG st st')(h:∀ st2,SG st st2→Q () st2):wpS (model prog w) A E s (pQ g) Q st':=XX (h _ (hG.mg g))
def MGo (it:Array Keyed)(lt:Nat→Nat→Bool)(la lb:List Nat)(S:Nat)(r:Option (Array Keyed))(out:Array Keyed)(ia ib:Nat):Prop:=
 (∃ l,r=some (KA it l)∧MGood lt la lb l)∨(r=none∧∃ o,out=KA it o∧MIv lt la lb o ia ib∧ia+1<la.length∧ib<lb.length∧S≤ia+ib)
theorem jd (O:Ord lt)(hC:Cmp prog w A E s n lt κ it){la lb:List Nat}{b0 z:Nat}{st:SortSt}{Q:Array Keyed→SortSt→Prop}(hk:kindOf st=κ)(na:∀ x∈la,x<n)(nb:∀ x∈lb,x<n)(sa:Up lt la)(sb:Up lt lb)
  (hb0:lb[0]?=some b0) (hf:∀ x∈la,lt x b0=false) (hz:la[la.length-1]?=some z) (hl:∀ y∈lb,lt z y=false)
  (h:∀ l st',MGood lt la lb l→SG st st'→Q (KA it l) st'):wpS (model prog w) A E s (iI (KA it la) (KA it lb)) Q st:=by
 have hla:1≤la.length:=by
  cases la with
  | nil=>simp at hz
  | cons x r=>simp
 have ga:∀ i,i<la.length→∃ x,la[i]?=some x∧x<n:=fun i hi=>⟨la[i],Ye hi,na _ (ZL hi)⟩
 have gb:∀ i,i<lb.length→∃ x,lb[i]?=some x∧x<n:=fun i hi=>⟨lb[i],Ye hi,nb _ (ZL hi)⟩
 have hlb:1≤lb.length:=(Yi.mp hb0).1
 have I0:MIv lt la lb [b0] 0 1:=by
  have e:=eC hb0
  have q:lb=b0::lb.drop 1:=e
  refine⟨?_,ZD _ _,fun x hx y hy=>?_⟩
  ·rw[Xe]
   refine List.Perm.trans (Xd (l₁:=la) (l₂:=lb.drop 1)).symm ?_
   rw[← q]
  ·rw[YD] at hx
   subst hx
   rcases Yz.mp hy with hy | hy
   ·exact hf y hy
   ·exact dB sb O hb0 (O.irr _) y (by rw[Xe];exact ZQ hy)
 have done:∀ o ia ib,KA it o++(KA it la).extract ia (KA it la).size++(KA it lb).extract ib (KA it lb).size=KA it (o++la.drop ia++lb.drop ib):=fun o ia ib=>by rw[d6,d6,bt,bt]
 have last:∀ o ia ib,KA it o++(KA it lb).extract ib (KA it lb).size++(KA it la).extract ia (KA it la).size=KA it (o++lb.drop ib++la.drop ia):=fun o ia ib=>by rw[d6,d6,bt,bt]
 have endL:∀ o ia ib,MIv lt la lb o ia ib→ia+1=la.length→MGood lt la lb (o++lb.drop ib++la.drop ia):=fun o ia ib I q=>I.endL sa sb (z:=z) (by rw[show ia=la.length-1 by omega];exact hz) q hl
 unfold iI
 refine Ym (wpS_lift (Xf ⟨rfl,?_⟩))
 refine Ym (aK hb0 ?_)
 by_cases h1:1=lb.length
 ·have e:(1 == (KA it lb).size)=true:=by rw[aa];simpa using h1
  refine aj ?_ e
  rw[gB]
  dsimp only
  rw[done]
  exact Yr (h _ _ (I0.endB sa h1) (SG.refl _))
 have e:¬ (1 == (KA it lb).size)=true:=by rw[aa];simpa using h1
 refine ae ?_ e
 by_cases h2:1=la.length
 ·have e:(0+1 == (KA it la).size)=true:=by rw[aa];simpa using h2
  refine aj ?_ e
  rw[gB]
  dsimp only
  rw[last]
  exact Yr (h _ _ (endL _ _ _ I0 h2) (SG.refl _))
 have e:¬ (0+1 == (KA it la).size)=true:=by rw[aa];simpa using h2
 refine ae ?_ e
 refine Ym (wpS_get ?_)
 have h1b:1<lb.length:=by omega
 have h2b:1<la.length:=by omega
 refine Ym (ZM (Zb (I:=fun x (c:Option (Array Keyed)×Array Keyed×Nat×Nat×Nat) st'=>SG st st'∧c.1=none∧MGo it lt la lb (x+1) c.1 c.2.1 c.2.2.1 c.2.2.2.1)
  (Q:=fun (c:Option (Array Keyed)×Array Keyed×Nat×Nat×Nat) st'=>SG st st'∧∃ l,c.1=some (KA it l)∧MGood lt la lb l) ?_ (fun c st' z=>?_) ⟨SG.refl _,rfl,.inr ⟨rfl,[b0],gB b0,I0,by dsimp only;omega,h1b,by dsimp only;omega⟩⟩) ?_)
 ·rintro x ⟨c0,out,ia,ib,mg⟩ st' _ hx ⟨hG,rfl,hM⟩
  rcases hM with⟨l,z1,_⟩ | ⟨_,o,rfl,I,ha,hb,hS⟩
  ·cases z1
  dsimp only at I ha hb hS
  refine Ym (ZM (Zb (I:=fun y (c:Option (Array Keyed)×Array Keyed×Nat×Nat×Nat×Nat) st'=>SG st st'∧c.1=none∧MGo it lt la lb (x+1+y) c.1 c.2.1 c.2.2.1 c.2.2.2.1)
   (Q:=fun (c:Option (Array Keyed)×Array Keyed×Nat×Nat×Nat×Nat) st'=>SG st st'∧MGo it lt la lb (x+2) c.1 c.2.1 c.2.2.1 c.2.2.2.1) ?_ (fun c st' z=>⟨z.1,?_⟩) ⟨hG,rfl,.inr ⟨rfl,o,rfl,I,ha,hb,hS⟩⟩) ?_)
  ·rintro y ⟨d0,out,ja,jb,ac,bc⟩ st2 _ hy ⟨hG2,rfl,hM⟩
   rcases hM with⟨l,z1,_⟩ | ⟨_,o2,rfl,I2,ha2,hb2,hS2⟩
   ·cases z1
   dsimp only at I2 ha2 hb2 hS2
   obtain⟨vb,eb,lb'⟩:=gb jb hb2
   obtain⟨va,ea,la'⟩:=ga ja (by omega)
   refine Ym (aK eb (Ym (aK ea (Ym (hC _ _ _ _ lb' la' (hG2.kind.trans hk) ?_)))))
   dsimp only
   cases hw:lt vb va with
   | true=>
    rw[Yn rfl]
    refine Ym (aK eb ?_)
    have I3:=I2.b sb eb (dB sa O ea (O.asym _ _ hw))
    rw[bO]
    by_cases q:jb+1=lb.length
    ·have e:(jb+1 == (KA it lb).size)=true:=by rw[aa];simpa using q
     refine aj ?_ e
     rw[done]
     exact Yr ⟨hG2,.inl ⟨_,rfl,I3.endB sa q⟩⟩
    ·have e:¬ (jb+1 == (KA it lb).size)=true:=by rw[aa];simpa using q
     refine ae ?_ e
     by_cases q2:bc+1 ≥ mg
     ·exact aj (Yr ⟨hG2,.inr ⟨rfl,_,rfl,I3,ha2,by dsimp only;omega,by dsimp only;omega⟩⟩) q2
     ·exact ae (Yr ⟨hG2,rfl,.inr ⟨rfl,_,rfl,I3,ha2,by dsimp only;omega,by dsimp only;omega⟩⟩) q2
   | false=>
    rw[Yo Yg]
    refine Ym (aK ea ?_)
    have I3:=I2.a sa ea (dB sb O eb hw)
    rw[bO]
    by_cases q:ja+1+1=la.length
    ·have e:(ja+1+1 == (KA it la).size)=true:=by rw[aa];simpa using q
     refine aj ?_ e
     rw[last]
     exact Yr ⟨hG2,.inl ⟨_,rfl,endL _ _ _ I3 q⟩⟩
    ·have e:¬ (ja+1+1 == (KA it la).size)=true:=by rw[aa];simpa using q
     refine ae ?_ e
     by_cases q2:ac+1 ≥ mg
     ·exact aj (Yr ⟨hG2,.inr ⟨rfl,_,rfl,I3,by dsimp only;omega,hb2,by dsimp only;omega⟩⟩) q2
     ·exact ae (Yr ⟨hG2,rfl,.inr ⟨rfl,_,rfl,I3,by dsimp only;omega,hb2,by dsimp only;omega⟩⟩) q2
  ·rcases z.2.2 with⟨l,z1,z2⟩ | ⟨z0,o2,z1,z2,z3,z4,z5⟩
   ·exact .inl ⟨l,z1,z2⟩
   ·refine .inr ⟨z0,o2,z1,z2,z3,z4,?_⟩
    rw[aa,aa] at z5
    omega
  ·rintro⟨d0,out,ja,jb,ac,bc⟩ st2 ⟨hG2,hM⟩
   dsimp only at hM
   rcases hM with⟨l,rfl,g⟩ | ⟨rfl,o2,rfl,I2,ha2,hb2,hS2⟩
   ·exact Yr ⟨hG2,l,rfl,g⟩
   refine Ym (wpS_lift (Xf ⟨rfl,?_⟩))
   refine Ym (ZM (Zb (I:=fun y (c:Option (Array Keyed)×Array Keyed×Nat×Nat×Nat×Nat×Nat) st'=>SG st st'∧c.1=none∧MGo it lt la lb (x+2) c.1 c.2.1 c.2.2.1 c.2.2.2.1)
    (Q:=fun (c:Option (Array Keyed)×Array Keyed×Nat×Nat×Nat×Nat×Nat) st'=>SG st st'∧MGo it lt la lb (x+2) c.1 c.2.1 c.2.2.1 c.2.2.2.1) ?_ (fun c st' z=>⟨z.1,z.2.2⟩) ⟨hG2,rfl,.inr ⟨rfl,o2,rfl,I2,ha2,hb2,hS2⟩⟩) ?_)
   ·rintro y ⟨f0,out,ka,kb,mg2,ac2,bc2⟩ st3 _ hy ⟨hG3,rfl,hM⟩
    rcases hM with⟨l,z1,_⟩ | ⟨_,o3,rfl,I3,ha3,hb3,hS3⟩
    ·cases z1
    dsimp only at I3 ha3 hb3 hS3
    dsimp only
    generalize hmg:mg2=mg3
    revert mg3 hmg
    refine f_ (P:=fun _=>True) ?hf1 (fun _ H=>H _ trivial) (fun _=>trivial)
    intro mg3 _
    refine Ym (cF hG3 fun st4 hG4=>?_)
    obtain⟨vb,eb,lb'⟩:=gb kb hb3
    refine Ym (aK eb ?_)
    refine Ym (gc O hC (hG4.kind.trans hk) lb' na (by rw[aa];omega) (by rw[aa];omega) (fun i j x y _ hij _ e1 e2=>cL sa O hij e1 e2) fun k hk0 g1 g2=>?_)
    rw[aa] at hk0 g2
    have hgt:∀ i v,ka+k≤i→la[i]?=some v→lt vb v=true:=fun i v hi e=>by
     have hi2:=(Yi.mp e).1
     have:=g2 (i-ka) v (by omega) (by omega) (by rw[show ka+(i-ka)=i by omega];exact e)
     simpa using this
    have I4:=I3.as sa k (by omega) fun i v hi e y hy=>by
     have:=g1 i v hi e
     exact dB sb O eb (by simpa using this) y hy
    dsimp only
    generalize hu:KA it o3=u
    generalize hv:ka=v
    revert u v hu hv
    refine dh (P:=fun u v=>∃ o4,u=KA it o4∧MIv lt la lb o4 v kb∧v+1<la.length∧x+2≤v+kb∧∀ i y,v≤i→la[i]?=some y→lt vb y=true) ?_ ?_ ?_
    ·rintro _ ia4 ⟨o4,rfl,I4,ha4,hS4,hgt⟩
     refine Ym (aK eb ?_)
     have I5:=I4.b sb eb fun y hy=>by
      obtain⟨i,hi,e⟩:=bj hy
      exact O.asym _ _ (hgt i y hi e)
     rw[bO]
     by_cases q:kb+1=lb.length
     ·have e:(kb+1 == (KA it lb).size)=true:=by rw[aa];simpa using q
      refine aj ?_ e
      rw[done]
      exact Yr ⟨hG4,.inl ⟨_,rfl,I5.endB sa q⟩⟩
     have e:¬ (kb+1 == (KA it lb).size)=true:=by rw[aa];simpa using q
     refine ae ?_ e
     obtain⟨va,ea,la'⟩:=ga ia4 (by omega)
     refine Ym (aK ea ?_)
     generalize hkb:kb+1=kb1 at *
     refine Ym (gc O hC (hG4.kind.trans hk) la' nb (by rw[aa];omega) (by rw[aa];omega) (fun i j x y _ hij _ e1 e2=>cL sb O hij e1 e2) fun k2 hk2 g3 g4=>?_)
     rw[aa] at hk2 g4
     have I6:=I5.bs sb k2 (by omega) fun i v hi e y hy=>by
      have:=g3 i v hi e
      exact dB sa O ea (O.asym _ _ (by simpa using this)) y hy
     have hle:∀ y∈lb.drop (kb1+k2),lt y va=false:=fun y hy=>by
      obtain⟨i,hi,e⟩:=bj hy
      have hi2:=(Yi.mp e).1
      have:=g4 (i-kb1) y (by omega) (by omega) (by rw[show kb1+(i-kb1)=i by omega];exact e)
      simpa using this
     dsimp only
     generalize hu:KA it (o4++[vb])=u
     generalize hv:kb1=v
     revert u v hu hv
     refine dh (P:=fun u v=>∃ o6,u=KA it o6∧MIv lt la lb o6 ia4 v∧v<lb.length∧x+2≤ia4+v∧∀ y∈lb.drop v,lt y va=false) ?_ ?_ ?_
     ·rintro _ ib6 ⟨o6,rfl,I6,hb6,hS6,hle⟩
      refine Ym (aK ea ?_)
      have I7:=I6.a sa ea hle
      rw[bO]
      by_cases q:ia4+1+1=la.length
      ·have e:(ia4+1+1 == (KA it la).size)=true:=by rw[aa];simpa using q
       refine aj ?_ e
       rw[last]
       exact Yr ⟨hG4,.inl ⟨_,rfl,endL _ _ _ I7 q⟩⟩
      ·have e:¬ (ia4+1+1 == (KA it la).size)=true:=by rw[aa];simpa using q
       refine ae ?_ e
       by_cases q2:(decide (k<7)&&decide (k2<7))=true
       ·exact aj (Yr ⟨hG4,.inr ⟨rfl,_,rfl,I7,by dsimp only;omega,hb6,by dsimp only;omega⟩⟩) q2
       ·exact ae (Yr ⟨hG4,rfl,.inr ⟨rfl,_,rfl,I7,by dsimp only;omega,hb6,by dsimp only;omega⟩⟩) q2
     ·intro hk3 H
      rw[cA,bt,Zd]
      by_cases q:kb1+k2=lb.length
      ·have e:(kb1+k2 == (KA it lb).size)=true:=by rw[aa];simpa using q
       refine aj ?_ e
       rw[done]
       exact Yr ⟨hG4,.inl ⟨_,rfl,I6.endB sa q⟩⟩
      ·have e:¬ (kb1+k2 == (KA it lb).size)=true:=by rw[aa];simpa using q
       exact ae (H _ _ ⟨_,rfl,I6,by omega,by omega,hle⟩) e
     ·intro hk3
      have:k2=0:=by omega
      subst this
      exact⟨_,rfl,I5,by omega,by omega,hle⟩
    ·intro hk3 H
     rw[cA,bt,Zd]
     by_cases q:ka+k+1=la.length
     ·have e:(ka+k+1 == (KA it la).size)=true:=by rw[aa];simpa using q
      refine aj ?_ e
      rw[last]
      exact Yr ⟨hG4,.inl ⟨_,rfl,endL _ _ _ I4 q⟩⟩
     ·have e:¬ (ka+k+1 == (KA it la).size)=true:=by rw[aa];simpa using q
      refine ae ?_ e
      by_cases q3:ka+k=la.length
      ·have e:(ka+k == (KA it la).size)=true:=by rw[aa];simpa using q3
       refine aj ?_ e
       rw[done]
       exact Yr ⟨hG4,.inl ⟨_,rfl,I4.endA sb q3⟩⟩
      ·have e:¬ (ka+k == (KA it la).size)=true:=by rw[aa];simpa using q3
       exact ae (H _ _ ⟨_,rfl,I4,by omega,by omega,hgt⟩) e
    ·intro hk3
     have:k=0:=by omega
     subst this
     exact⟨_,rfl,I3,ha3,hS3,hgt⟩
   ·rintro⟨f0,out,ka,kb,mg2,ac2,bc2⟩ st3 ⟨hG3,hM⟩
    dsimp only at hM
    rcases hM with⟨l,rfl,g⟩ | ⟨rfl,o3,rfl,I3,ha3,hb3,hS3⟩
    ·exact Yr ⟨hG3,l,rfl,g⟩
    refine Ym (cF hG3 fun st4 hG4=>?_)
    exact Yr ⟨hG4,rfl,.inr ⟨rfl,_,rfl,I3,ha3,hb3,hS3⟩⟩
 ·obtain⟨hG,z1,z2⟩:=z
  rcases z2 with⟨l,z3,_⟩ | ⟨_,o,_,_,z4,z5,z6⟩
  ·rw[z1] at z3;cases z3
  ·rw[aa,aa] at z6
   omega
 ·rintro⟨c0,out,ia,ib,mg⟩ st' ⟨hG,l,z1,z2⟩
  dsimp only at z1 ⊢
  subst z1
  exact Yr (h l st' z2 hG)
end
section
variable {lt:Nat→Nat→Bool} {la lb o:List Nat} {na nb:Nat}
structure HIv (lt:Nat→Nat→Bool) (la lb o:List Nat) (na nb:Nat):Prop where
 perm:(la.take na++lb.take nb++o.reverse).Perm (la++lb)
 up:Up lt o.reverse
 le:∀ x∈o,∀ y∈la.take na++lb.take nb,lt x y=false
theorem eD {l:List Nat}{i x:Nat}(h:l[i]?=some x):l.take (i+1)=l.take i++[x]:=by
 rw[XW,h]
 rfl
theorem bx {l:List Nat}(h:Up lt l)(i:Nat):Up lt (l.take i):=h.take
theorem HIv.a {m:Nat}(I:HIv lt la lb o (m+1) nb)(sa:Up lt la){y:Nat}(hb:la[m]?=some y)(h:∀ x∈lb.take nb,lt y x=false):HIv lt la lb (o++[y]) m nb:=by
 have e:=eD hb
 have hy:y∈la.take (m+1)++lb.take nb:=YK _ (e ▸ Yt _ Yc)
 have er:(o++[y]).reverse=y::o.reverse:=by simp
 refine⟨?_,?_,fun x hx z hz=>?_⟩
 ·refine List.Perm.trans ?_ I.perm
  rw[e,er,Yv,Yv,Yv]
  refine ZN _ ?_
  exact Xd
 ·rw[er]
  exact YV.mpr ⟨fun z hz=>I.le z (Xz.mp hz) y hy,I.up⟩
 ·rcases Yz.mp hx with hx | hx
  ·refine I.le x hx z ?_
   rw[e]
   rcases Yz.mp hz with hz | hz
   ·exact YK _ (YK _ hz)
   ·exact Yt _ hz
  ·rw[YD] at hx
   subst hx
   rcases Yz.mp hz with hz | hz
   ·have:=bx sa (m+1)
    rw[e] at this
    exact (aM.mp this).2.2 z hz _ Yc
   ·exact h z hz
theorem HIv.b {m:Nat}(I:HIv lt la lb o na (m+1))(sb:Up lt lb){y:Nat}(hb:lb[m]?=some y)(h:∀ x∈la.take na,lt y x=false):HIv lt la lb (o++[y]) na m:=by
 have e:=eD hb
 have hy:y∈la.take na++lb.take (m+1):=Yt _ (e ▸ Yt _ Yc)
 have er:(o++[y]).reverse=y::o.reverse:=by simp
 refine⟨?_,?_,fun x hx z hz=>?_⟩
 ·refine List.Perm.trans (.of_eq ?_) I.perm
  rw[e,er]
  simp
 ·rw[er]
  exact YV.mpr ⟨fun z hz=>I.le z (Xz.mp hz) y hy,I.up⟩
 ·rcases Yz.mp hx with hx | hx
  ·refine I.le x hx z ?_
   rw[e]
   rcases Yz.mp hz with hz | hz
   ·exact YK _ hz
   ·exact Yt _ (YK _ hz)
  ·rw[YD] at hx
   subst hx
   rcases Yz.mp hz with hz | hz
   ·exact h z hz
   ·have:=bx sb (m+1)
    rw[e] at this
    exact (aM.mp this).2.2 z hz _ Yc
theorem HIv.as (sa:Up lt la):∀ (k m:Nat) (o:List Nat),HIv lt la lb o (m+k) nb→m+k≤la.length→(∀ i x,m≤i→i<m+k→la[i]?=some x→∀ y∈lb.take nb,lt x y=false)→HIv lt la lb (o++((la.drop m).take k).reverse) m nb
 | 0,m,o,I,_,_=>by rw[Xw,List.reverse_nil,YI];exact I
 | k+1,m,o,I,hl,h=>by
  have e:la[m+k]?=some la[m+k]:=Ye (by omega)
  have I2:=HIv.a (m:=m+k) I sa e (h _ _ (by omega) (by omega) e)
  have I3:=HIv.as sa k m _ I2 (by omega) fun i x h1 h2=>h i x h1 (by omega)
  rw[cE e,List.reverse_append,← Yv]
  exact I3
theorem HIv.bs (sb:Up lt lb):∀ (k m:Nat) (o:List Nat),HIv lt la lb o na (m+k)→m+k≤lb.length→(∀ i x,m≤i→i<m+k→lb[i]?=some x→∀ y∈la.take na,lt x y=false)→HIv lt la lb (o++((lb.drop m).take k).reverse) na m
 | 0,m,o,I,_,_=>by rw[Xw,List.reverse_nil,YI];exact I
 | k+1,m,o,I,hl,h=>by
  have e:lb[m+k]?=some lb[m+k]:=Ye (by omega)
  have I2:=HIv.b (m:=m+k) I sb e (h _ _ (by omega) (by omega) e)
  have I3:=HIv.bs sb k m _ I2 (by omega) fun i x h1 h2=>h i x h1 (by omega)
  rw[cE e,List.reverse_append,← Yv]
  exact I3
theorem HIv.endA (I:HIv lt la lb o na nb)(sb:Up lt lb)(h:na=0):MGood lt la lb (la.take na++lb.take nb++o.reverse):=by
 subst h
 refine⟨I.perm,?_⟩
 have l:=I.le
 rw[Xw,Vs] at l ⊢
 exact aM.mpr ⟨bx sb _,I.up,fun x hx y hy=>l y (Xz.mp hy) x hx⟩
theorem HIv.endB (I:HIv lt la lb o na nb)(sa:Up lt la)(h:nb=0):MGood lt la lb (la.take na++lb.take nb++o.reverse):=by
 subst h
 refine⟨I.perm,?_⟩
 have l:=I.le
 rw[Xw,YI] at l ⊢
 exact aM.mpr ⟨bx sa _,I.up,fun x hx y hy=>l y (Xz.mp hy) x hx⟩
theorem HIv.endF (I:HIv lt la lb o na nb)(sa:Up lt la)(sb:Up lt lb){z:Nat}(hz:lb[0]?=some z)(h:nb=1)(hl:∀ y∈la,lt y z=false):MGood lt la lb (lb.take nb++la.take na++o.reverse):=by
 have e:lb.take nb=[z]:=by rw[h,eD hz];rfl
 refine⟨List.Perm.trans (Vg.append_right _) I.perm,aM.mpr ⟨aM.mpr ⟨bx sb _,bx sa _,fun x hx y hy=>?_⟩,I.up,fun x hx y hy=>I.le y (Xz.mp hy) x ?_⟩⟩
 ·rw[e,YD] at hx
  subst hx
  exact hl y (Xu hy)
 ·rcases Yz.mp hx with hx | hx
  ·exact Yt _ hx
  ·exact YK _ hx
theorem bp {l:List Nat}{i y:Nat}(h:y∈l.take i):∃ j,j<i∧l[j]?=some y:=by
 obtain⟨k,hk,e⟩:=Vk.mp h
 rw[YU] at hk
 rw[List.getElem_take] at e
 exact⟨k,by omega,Yi.mpr ⟨by omega,e⟩⟩
theorem g9 {l:List Nat}(h:Up lt l)(O:Ord lt){i x y:Nat}(hi:l[i]?=some y)(hx:lt x y=false):∀ z∈l.take (i+1),lt x z=false:=fun z hz=>by
 obtain⟨j,hj,e⟩:=bp hz
 exact O.trans _ _ _ (cL h O (by omega) e hi) hx
end
section
variable {prog:Program} {w:World} {A:Around} {E:Kv} {s:Shared} {n:Nat} {lt:Nat→Nat→Bool} {κ:SortKind} {it:Array Keyed}
theorem gQ (l:List Nat):(KA it l).reverse=KA it l.reverse:=by simp[KA]
theorem eF (l:List Nat)(i:Nat):(KA it l).extract 0 i=KA it (l.take i):=by rw[cA];rfl
def HGo (it:Array Keyed)(lt:Nat→Nat→Bool)(la lb:List Nat)(S:Nat)(r:Option (Array Keyed))(na nb:Nat)(out:Array Keyed):Prop:=
 (∃ l,r=some (KA it l)∧MGood lt la lb l)∨(r=none∧∃ o,out=KA it o∧HIv lt la lb o na nb∧0<na∧1<nb∧na≤la.length∧nb≤lb.length∧na+nb+S≤la.length+lb.length)
theorem jm (O:Ord lt)(hC:Cmp prog w A E s n lt κ it){la lb:List Nat}{b0 z:Nat}{st:SortSt}{Q:Array Keyed→SortSt→Prop}(hk:kindOf st=κ)(ba:∀ x∈la,x<n)(bb:∀ x∈lb,x<n)(sa:Up lt la)(sb:Up lt lb)
  (hb0:lb[0]?=some b0) (hf:∀ x∈la,lt x b0=false) (hz:la[la.length-1]?=some z) (hl:∀ y∈lb,lt z y=false)
  (h:∀ l st',MGood lt la lb l→SG st st'→Q (KA it l) st'):wpS (model prog w) A E s (ij (KA it la) (KA it lb)) Q st:=by
 have hla:1≤la.length:=by
  cases la with
  | nil=>simp at hz
  | cons x r=>simp
 have ga:∀ i,i<la.length→∃ x,la[i]?=some x∧x<n:=fun i hi=>⟨la[i],Ye hi,ba _ (ZL hi)⟩
 have gb:∀ i,i<lb.length→∃ x,lb[i]?=some x∧x<n:=fun i hi=>⟨lb[i],Ye hi,bb _ (ZL hi)⟩
 have hlb:1≤lb.length:=(Yi.mp hb0).1
 have I0:HIv lt la lb [z] (la.length-1) lb.length:=by
  have e:=eD hz
  rw[show la.length-1+1=la.length by omega,XA] at e
  refine⟨?_,ZD _ _,fun x hx y hy=>?_⟩
  ·rw[XA]
   refine List.Perm.trans ?_ (.of_eq (ZP (·++lb) e.symm))
   rw[Yv,Yv]
   exact ZN _ Vg
  ·rw[YD] at hx
   subst hx
   rcases Yz.mp hy with hy | hy
   ·rw[e] at sa
    exact (aM.mp sa).2.2 y hy _ Yc
   ·exact hl y (Xu hy)
 have done:∀ o na nb,(KA it la).extract 0 na++(KA it lb).extract 0 nb++(KA it o).reverse=KA it (la.take na++lb.take nb++o.reverse):=fun o na nb=>by rw[eF,eF,gQ,bt,bt]
 have first:∀ o na nb,(KA it lb).extract 0 nb++(KA it la).extract 0 na++(KA it o).reverse=KA it (lb.take nb++la.take na++o.reverse):=fun o na nb=>by rw[eF,eF,gQ,bt,bt]
 unfold ij
 refine Ym (wpS_lift (Xf ⟨rfl,?_⟩))
 have hz':la[(KA it la).size-1]?=some z:=by rw[aa];exact hz
 refine Ym (aK hz' ?_)
 rw[gB]
 have endF:∀ o na nb,HIv lt la lb o na nb→nb=1→MGood lt la lb (lb.take nb++la.take na++o.reverse):=fun o na nb I q=>I.endF sa sb hb0 q hf
 by_cases h1:la.length-1=0
 ·have e:((KA it la).size-1 == 0)=true:=by rw[aa,h1];rfl
  refine aj ?_ e
  dsimp only
  rw[done,aa,aa]
  exact Yr (h _ _ (I0.endA sb h1) (SG.refl _))
 have e:¬ ((KA it la).size-1 == 0)=true:=by rw[aa];simpa using h1
 refine ae ?_ e
 by_cases h2:lb.length=1
 ·have e:((KA it lb).size == 1)=true:=by rw[aa,h2];rfl
  refine aj ?_ e
  dsimp only
  rw[first,aa,aa]
  exact Yr (h _ _ (endF _ _ _ I0 h2) (SG.refl _))
 have e:¬ ((KA it lb).size == 1)=true:=by rw[aa];simpa using h2
 refine ae ?_ e
 refine Ym (wpS_get ?_)
 have h1b:1<lb.length:=by omega
 have h2b:1<la.length:=by omega
 refine Ym (ZM (Zb (I:=fun x (c:Option (Array Keyed)×Nat×Nat×Array Keyed×Nat) st'=>SG st st'∧c.1=none∧HGo it lt la lb (x+1) c.1 c.2.1 c.2.2.1 c.2.2.2.1)
  (Q:=fun (c:Option (Array Keyed)×Nat×Nat×Array Keyed×Nat) st'=>SG st st'∧∃ l,c.1=some (KA it l)∧MGood lt la lb l) ?_ (fun c st' z=>?_) ⟨SG.refl _,rfl,.inr ⟨rfl,[z],rfl,by rw[aa,aa];exact I0,by dsimp only;rw[aa];omega,by dsimp only;rw[aa];omega,by dsimp only;rw[aa];omega,by dsimp only;rw[aa];omega,by dsimp only;rw[aa,aa];omega⟩⟩) ?_)
 ·rintro x ⟨c0,na,nb,out,mg⟩ st' _ hx ⟨hG,rfl,hM⟩
  rcases hM with⟨l,z1,_⟩ | ⟨_,o,rfl,I,ha,hb,ha',hb',hS⟩
  ·cases z1
  dsimp only at I ha hb hS ha' hb'
  refine Ym (ZM (Zb (I:=fun y (c:Option (Array Keyed)×Nat×Nat×Array Keyed×Nat×Nat) st'=>SG st st'∧c.1=none∧HGo it lt la lb (x+1+y) c.1 c.2.1 c.2.2.1 c.2.2.2.1)
   (Q:=fun (c:Option (Array Keyed)×Nat×Nat×Array Keyed×Nat×Nat) st'=>SG st st'∧HGo it lt la lb (x+2) c.1 c.2.1 c.2.2.1 c.2.2.2.1) ?_ (fun c st' z=>⟨z.1,?_⟩) ⟨hG,rfl,.inr ⟨rfl,o,rfl,I,ha,hb,ha',hb',hS⟩⟩) ?_)
  ·rintro y ⟨d0,ja,jb,out,ac,bc⟩ st2 _ hy ⟨hG2,rfl,hM⟩
   rcases hM with⟨l,z1,_⟩ | ⟨_,o2,rfl,I2,ha2,hb2,ha2',hb2',hS2⟩
   ·cases z1
   dsimp only at I2 ha2 hb2 hS2 ha2' hb2'
   obtain⟨ja,rfl⟩:∃ m,ja=m+1:=⟨ja-1,by omega⟩
   obtain⟨jb,rfl⟩:∃ m,jb=m+1:=⟨jb-1,by omega⟩
   obtain⟨vb,eb,lb'⟩:=gb jb (by omega)
   obtain⟨va,ea,la'⟩:=ga ja (by omega)
   refine Ym (aK eb (Ym (aK ea (Ym (hC _ _ _ _ lb' la' (hG2.kind.trans hk) ?_)))))
   dsimp only
   simp only[XM]
   cases hw:lt vb va with
   | true=>
    rw[Yn rfl]
    refine Ym (aK ea ?_)
    have I3:=I2.a sa ea (g9 sb O eb (O.asym _ _ hw))
    rw[bO]
    by_cases q:ja=0
    ·have e:(ja == 0)=true:=by simpa using q
     refine aj ?_ e
     rw[done]
     exact Yr ⟨hG2,.inl ⟨_,rfl,I3.endA sb q⟩⟩
    ·have e:¬ (ja == 0)=true:=by simpa using q
     refine ae ?_ e
     by_cases q2:ac+1 ≥ mg
     ·exact aj (Yr ⟨hG2,.inr ⟨rfl,_,rfl,I3,by dsimp only;omega,hb2,by dsimp only;omega,hb2',by dsimp only;omega⟩⟩) q2
     ·exact ae (Yr ⟨hG2,rfl,.inr ⟨rfl,_,rfl,I3,by dsimp only;omega,hb2,by dsimp only;omega,hb2',by dsimp only;omega⟩⟩) q2
   | false=>
    rw[Yo Yg]
    refine Ym (aK eb ?_)
    have I3:=I2.b sb eb (g9 sa O ea hw)
    rw[bO]
    by_cases q:jb=1
    ·have e:(jb == 1)=true:=by simpa using q
     refine aj ?_ e
     rw[first]
     exact Yr ⟨hG2,.inl ⟨_,rfl,endF _ _ _ I3 q⟩⟩
    ·have e:¬ (jb == 1)=true:=by simpa using q
     refine ae ?_ e
     by_cases q2:bc+1 ≥ mg
     ·exact aj (Yr ⟨hG2,.inr ⟨rfl,_,rfl,I3,ha2,by dsimp only;omega,ha2',by dsimp only;omega,by dsimp only;omega⟩⟩) q2
     ·exact ae (Yr ⟨hG2,rfl,.inr ⟨rfl,_,rfl,I3,ha2,by dsimp only;omega,ha2',by dsimp only;omega,by dsimp only;omega⟩⟩) q2
  ·rcases z.2.2 with⟨l,z1,z2⟩ | ⟨z0,o2,z1,z2,z3,z4,z5,z6,z7⟩
   ·exact .inl ⟨l,z1,z2⟩
   ·refine .inr ⟨z0,o2,z1,z2,z3,z4,z5,z6,?_⟩
    rw[aa,aa] at z7
    omega
  ·rintro⟨d0,ja,jb,out,ac,bc⟩ st2 ⟨hG2,hM⟩
   dsimp only at hM
   rcases hM with⟨l,rfl,g⟩ | ⟨rfl,o2,rfl,I2,ha2,hb2,ha2',hb2',hS2⟩
   ·exact Yr ⟨hG2,l,rfl,g⟩
   refine Ym (wpS_lift (Xf ⟨rfl,?_⟩))
   refine Ym (ZM (Zb (I:=fun y (c:Option (Array Keyed)×Nat×Nat×Array Keyed×Nat×Nat×Nat) st'=>SG st st'∧c.1=none∧HGo it lt la lb (x+2) c.1 c.2.1 c.2.2.1 c.2.2.2.1)
    (Q:=fun (c:Option (Array Keyed)×Nat×Nat×Array Keyed×Nat×Nat×Nat) st'=>SG st st'∧HGo it lt la lb (x+2) c.1 c.2.1 c.2.2.1 c.2.2.2.1) ?_ (fun c st' z=>⟨z.1,z.2.2⟩) ⟨hG2,rfl,.inr ⟨rfl,o2,rfl,I2,ha2,hb2,ha2',hb2',hS2⟩⟩) ?_)
   ·rintro y ⟨f0,ka,kb,out,mg2,ac2,bc2⟩ st3 _ hy ⟨hG3,rfl,hM⟩
    rcases hM with⟨l,z1,_⟩ | ⟨_,o3,rfl,I3,ha3,hb3,ha3',hb3',hS3⟩
    ·cases z1
    dsimp only at I3 ha3 hb3 hS3 ha3' hb3'
    obtain⟨kb,rfl⟩:∃ m,kb=m+1:=⟨kb-1,by omega⟩
    dsimp only
    simp only[XM]
    generalize hmg:mg2=mg3
    revert mg3 hmg
    refine f_ (P:=fun _=>True) ?hf1 (fun _ H=>H _ trivial) (fun _=>trivial)
    intro mg3 _
    refine Ym (cF hG3 fun st4 hG4=>?_)
    obtain⟨vb,eb,lb'⟩:=gb kb (by omega)
    refine Ym (aK eb ?_)
    refine Ym (gc O hC (hG4.kind.trans hk) lb' ba (by omega) (by omega) (fun i j x y _ hij _ e1 e2=>cL sa O hij e1 e2) fun k hk0 g1 g2=>?_)
    have hlo:∀ y∈la.take k,lt vb y=false:=fun y hy=>by
     obtain⟨i,hi,e⟩:=bp hy
     have:=g1 i y hi (by rw[XF];exact e)
     simpa using this
    have I4:HIv lt la lb (o3++((la.drop k).take (ka-k)).reverse) k (kb+1):=HIv.as sa (ka-k) k o3 (by rw[show k+(ka-k)=ka by omega];exact I3) (by omega) fun i v h5 h6 e y hy=>by
     have:=g2 i v h5 (by omega) (by rw[XF];exact e)
     exact g9 sb O eb (O.asym _ _ (by simpa using this)) y hy
    dsimp only
    generalize hkk:ka-k=kk
    generalize hu:ka=u
    generalize hv:KA it o3=v
    revert u hu v hv
    refine dh (P:=fun u v=>∃ o4,v=KA it o4∧HIv lt la lb o4 u (kb+1)∧0<u∧u≤la.length∧u+(kb+1)+(x+2)≤la.length+lb.length∧∀ y∈la.take u,lt vb y=false) ?_ ?_ ?_
    ·rintro ia4 _ ⟨o4,rfl,I4,ha4,ha4',hS4,hlo⟩
     refine Ym (aK eb ?_)
     have I5:=I4.b sb eb hlo
     rw[bO]
     by_cases q:kb=1
     ·have e:(kb == 1)=true:=by simpa using q
      refine aj ?_ e
      rw[first]
      exact Yr ⟨hG4,.inl ⟨_,rfl,endF _ _ _ I5 q⟩⟩
     have e:¬ (kb == 1)=true:=by simpa using q
     refine ae ?_ e
     obtain⟨ia4,rfl⟩:∃ m,ia4=m+1:=⟨ia4-1,by omega⟩
     obtain⟨va,ea,la'⟩:=ga ia4 (by omega)
     refine Ym (aK ea ?_)
     refine Ym (gc O hC (hG4.kind.trans hk) la' bb (by omega) (by omega) (fun i j x y _ hij _ e1 e2=>cL sb O hij e1 e2) fun k2 hk2 g3 g4=>?_)
     have I6:HIv lt la lb (o4++[vb]++((lb.drop k2).take (kb-k2)).reverse) (ia4+1) k2:=HIv.bs sb (kb-k2) k2 _ (by rw[show k2+(kb-k2)=kb by omega];exact I5) (by omega) fun i v h5 h6 e y hy=>by
      have:=g4 i v h5 (by omega) (by rw[XF];exact e)
      exact g9 sa O ea (by simpa using this) y hy
     have hle:∀ y∈lb.take k2,lt va y=false:=fun y hy=>by
      obtain⟨i,hi,e⟩:=bp hy
      have:=g3 i y hi (by rw[XF];exact e)
      exact O.asym _ _ (by simpa using this)
     dsimp only
     simp only[XM]
     generalize hkk2:kb-k2=kk2
     generalize hu:kb=u
     generalize hv:KA it (o4++[vb])=v
     revert u hu v hv
     refine dh (P:=fun u v=>∃ o6,v=KA it o6∧HIv lt la lb o6 (ia4+1) u∧1<u∧u≤lb.length∧(ia4+1)+u+(x+2)≤la.length+lb.length∧∀ y∈lb.take u,lt va y=false) ?_ ?_ ?_
     ·rintro ib6 _ ⟨o6,rfl,I6,hb6,hb6',hS6,hle⟩
      refine Ym (aK ea ?_)
      have I7:=I6.a sa ea hle
      rw[bO]
      by_cases q:ia4=0
      ·have e:(ia4 == 0)=true:=by simpa using q
       refine aj ?_ e
       rw[done]
       exact Yr ⟨hG4,.inl ⟨_,rfl,I7.endA sb q⟩⟩
      ·have e:¬ (ia4 == 0)=true:=by simpa using q
       refine ae ?_ e
       by_cases q2:(decide (kk<7)&&decide (kk2<7))=true
       ·exact aj (Yr ⟨hG4,.inr ⟨rfl,_,rfl,I7,by dsimp only;omega,hb6,by dsimp only;omega,hb6',by dsimp only;omega⟩⟩) q2
       ·exact ae (Yr ⟨hG4,rfl,.inr ⟨rfl,_,rfl,I7,by dsimp only;omega,hb6,by dsimp only;omega,hb6',by dsimp only;omega⟩⟩) q2
     ·intro hk3 H
      rw[cA lb k2 kb,hkk2,gQ,bt]
      rw[hkk2] at I6
      by_cases q:k2=1
      ·have e:(k2 == 1)=true:=by simpa using q
       refine aj ?_ e
       rw[first]
       exact Yr ⟨hG4,.inl ⟨_,rfl,endF _ _ _ I6 q⟩⟩
      ·have e:¬ (k2 == 1)=true:=by simpa using q
       refine ae ?_ e
       by_cases q3:k2=0
       ·have e:(k2 == 0)=true:=by simpa using q3
        refine aj ?_ e
        rw[done]
        exact Yr ⟨hG4,.inl ⟨_,rfl,I6.endB sa q3⟩⟩
       ·have e:¬ (k2 == 0)=true:=by simpa using q3
        exact ae (H _ _ ⟨_,rfl,I6,by omega,by omega,by omega,hle⟩) e
     ·intro hk3
      have:k2=kb:=by omega
      subst this
      exact⟨_,rfl,I5,by omega,by omega,by omega,hle⟩
    ·intro hk3 H
     rw[cA la k ka,hkk,gQ,bt]
     rw[hkk] at I4
     by_cases q:k=0
     ·have e:(k == 0)=true:=by simpa using q
      refine aj ?_ e
      rw[done]
      exact Yr ⟨hG4,.inl ⟨_,rfl,I4.endA sb q⟩⟩
     ·have e:¬ (k == 0)=true:=by simpa using q
      exact ae (H _ _ ⟨_,rfl,I4,by omega,by omega,by omega,hlo⟩) e
    ·intro hk3
     have:k=ka:=by omega
     subst this
     exact⟨_,rfl,I3,ha3,ha3',hS3,hlo⟩
   ·rintro⟨f0,ka,kb,out,mg2,ac2,bc2⟩ st3 ⟨hG3,hM⟩
    dsimp only at hM
    rcases hM with⟨l,rfl,g⟩ | ⟨rfl,o3,rfl,I3,ha3,hb3,ha3',hb3',hS3⟩
    ·exact Yr ⟨hG3,l,rfl,g⟩
    refine Ym (cF hG3 fun st4 hG4=>?_)
    exact Yr ⟨hG4,rfl,.inr ⟨rfl,_,rfl,I3,ha3,hb3,ha3',hb3',hS3⟩⟩
 ·obtain⟨hG,z1,z2⟩:=z
  rcases z2 with⟨l,z3,_⟩ | ⟨_,o,_,_,z4,z5,z6,z7,z8⟩
  ·rw[z1] at z3;cases z3
  ·rw[aa,aa] at z8
   omega
 ·rintro⟨c0,na,nb,out,mg⟩ st' ⟨hG,l,z1,z2⟩
  dsimp only at z1 ⊢
  subst z1
  exact Yr (h l st' z2 hG)
end
section
variable {n:Nat} {lt:Nat→Nat→Bool} {p p0:Array Nat} {lo:Nat}
def RiL (lt:Nat→Nat→Bool)(p:Array Nat)(a b:Nat):Prop:=∀ i j,a≤i→i≤j→j<b→lt (p.getD j 0) (p.getD i 0)=false
def FaL (lt:Nat→Nat→Bool)(p:Array Nat)(a b:Nat):Prop:=∀ i j,a≤i→i≤j→j<b→lt (p.getD i 0) (p.getD j 0)=false
def Low (p0 p:Array Nat)(lo:Nat):Prop:=∀ i,i<lo→p.getD i 0=p0.getD i 0
theorem iA (O:Ord lt){K:Nat}(h1:lo<K)(h:RiL lt p lo K)(c:lt (p.getD K 0) (p.getD (K-1) 0)=false):RiL lt p lo (K+1):=fun i j hi hij hj=>by
 by_cases hjk:j<K
 ·exact h i j hi hij hjk
 ·have:j=K:=by omega
  subst this
  by_cases hik:i=j
  ·subst hik;exact O.irr _
  ·exact O.trans _ _ _ (h i (j-1) hi (by omega) (by omega)) c
theorem cv (O:Ord lt){K:Nat}(h1:lo<K)(h:FaL lt p lo K)(c:lt (p.getD (K-1) 0) (p.getD K 0)=false):FaL lt p lo (K+1):=fun i j hi hij hj=>by
 by_cases hjk:j<K
 ·exact h i j hi hij hjk
 ·have:j=K:=by omega
  subst this
  by_cases hik:i=j
  ·subst hik;exact O.irr _
  ·exact O.trans _ _ _ c (h i (j-1) hi (by omega) (by omega))
theorem d8 (hp:PermN n p){a b:Nat}(hb:b≤n)(ha:lo≤a)(h:Low p0 p lo):Low p0 (kas_rev p a b) lo:=fun i hi=>by
 rw[a9 hp hb,Yo (by omega)]
 exact h i hi
theorem hW (hp:PermN n p){a b:Nat}(hb:b≤n)(ha:lo≤a)(he:Eqs lt p a b)(hf:FaL lt p lo b):FaL lt (kas_rev p a b) lo b:=fun i j hi hij hj=>by
 rw[a9 hp hb,a9 hp hb]
 by_cases h1:a≤i∧i<b
 ·have h2:a≤j∧j<b:=by omega
  rw[Yn h1,Yn h2]
  exact he _ _ (iZ h1).1 (iZ h1).2 (iZ h2).1 (iZ h2).2
 ·rw[Yo h1]
  by_cases h2:a≤j∧j<b
  ·rw[Yn h2]
   have:=iZ h2
   exact hf _ _ hi (by omega) (by omega)
  ·rw[Yo h2]
   exact hf i j hi hij hj
theorem lc (hp:PermN n p){b:Nat}(hb:b≤n)(hf:FaL lt p lo b):RiL lt (kas_rev p lo b) lo b:=fun i j hi hij hj=>by
 rw[a9 hp hb,a9 hp hb,Yn (by omega),Yn (by omega)]
 exact hf _ _ (by omega) (by omega) (by omega)
theorem oU (hp:PermN n p){k l:Nat}(hk:k<n)(hl:l≤k)(ha:lo≤l)(h:Low p0 p lo):Low p0 (bubble p k (k-l)) lo:=fun i hi=>by
 rw[gN hp hk hl,Yo (by omega),Yo (by omega)]
 exact h i hi
theorem mR (O:Ord lt)(hp:PermN n p){k l:Nat}(kn:k<n)(hr:RiL lt p lo k)(a0:lo≤l)(a1:l≤k)(a2:∀ i,lo≤i→i<l→lt (p.getD k 0) (p.getD i 0)=false)(a3:∀ i,l≤i→i<k→lt (p.getD k 0) (p.getD i 0)=true):RiL lt (bubble p k (k-l)) lo (k+1):=fun i j hi hij hj=>by
 rw[gN hp kn a1,gN hp kn a1]
 by_cases ei:i=l
 ·rw[Yn ei]
  by_cases ej:j=l
  ·rw[Yn ej];exact O.irr _
  ·rw[Yo ej,Yn (by omega)]
   exact O.asym _ _ (a3 (j-1) (by omega) (by omega))
 ·rw[Yo ei]
  by_cases ej:j=l
  ·rw[Yn ej,Yo (by omega)]
   exact a2 i hi (by omega)
  ·rw[Yo ej]
   by_cases ci:l<i∧i≤k
   ·rw[Yn ci,Yn (by omega)]
    exact hr _ _ (by omega) (by omega) (by omega)
   ·rw[Yo ci]
    by_cases cj:l<j∧j≤k
    ·rw[Yn cj]
     exact hr _ _ hi (by omega) (by omega)
    ·rw[Yo cj]
     exact hr _ _ hi hij (by omega)
end
section
variable {prog:Program} {w:World} {A:Around} {E:Kv} {s:Shared} {n:Nat} {lt:Nat→Nat→Bool} {κ:SortKind} {it:Array Keyed} {st0 st:SortSt} {p p0:Array Nat} {lo:Nat}
theorem f8 {M:Model}{σ α:Type}{c:Prop}[Decidable c]{m1 f:StateT σ Sem α}{Q:α→σ→Prop}{st:σ}(P:σ→Prop)(hf:∀ st',P st'→wpS M A E s f Q st')
  (h1:c→(∀ st',P st'→wpS M A E s f Q st')→wpS M A E s m1 Q st) (h2:¬ c→P st):wpS M A E s (if c then m1 else f) Q st:=by
 by_cases q:c
 ·rw[Yn q];exact h1 q hf
 ·rw[Yo q];exact hf st (h2 q)
structure SrP (it:Array Keyed) (st0:SortSt) (p:Array Nat) (st:SortSt):Prop where
 kind:kindOf st=kindOf st0
 pend:pendingOf st=pendingOf st0
 fail:failedOf st=failedOf st0
 arr:arrOf st=p.map (kas_item it)
theorem cH (hC:Cmp prog w A E s n lt κ it)(hk:kindOf st0=κ)(S:SrP it st0 p st)(hp:PermN n p){i j:Nat}{Q:Option Bool→SortSt→Prop}(hi:i<n)(hj:j<n)(h:Q (some (lt (p.getD i 0) (p.getD j 0))) st):wpS (model prog w) A E s (ltAt' i j) Q st:=by
 rw[ltAt'_eq]
 refine Ym (wpS_get ?_)
 show wpS _ _ _ _ (elem' (arrOf st) i>>=fun x=>elem' (arrOf st) j>>=fun y=>lt' x y) Q st
 rw[S.arr]
 exact Ym (eJ (by rw[hp.size];exact hi) (Ym (eJ (by rw[hp.size];exact hj) (hC _ _ _ _ (hp.bd hi) (hp.bd hj) (S.kind.trans hk) h))))
theorem c_ (S:SrP it st0 p st){i j:Nat}{Q:Unit→SortSt→Prop}(h:∀ st',SrP it st0 (kas_rev p i j) st'→Q () st'):wpS (model prog w) A E s (reverseSlice' i j) Q st:=by
 rw[reverseSlice'_eq]
 refine XX (h _ ⟨S.kind,S.pend,S.fail,?_⟩)
 show mirror (arrOf st) i j ((j-i)/2)=(mirror p i j ((j-i)/2)).map (kas_item it)
 rw[S.arr]
 exact kas_swaps_map (kas_item it) (fun k=>i+k) (fun k=>j-1-k) _ p
theorem kw (S:SrP it st0 p st){k l:Nat}{Q:Unit→SortSt→Prop}(h:∀ st',SrP it st0 (bubble p k (k-l)) st'→Q () st'):wpS (model prog w) A E s (moveDown' k l) Q st:=by
 rw[moveDown'_eq]
 refine XX (h _ ⟨S.kind,S.pend,S.fail,?_⟩)
 show bubble (arrOf st) k (k-l)=(bubble p k (k-l)).map (kas_item it)
 rw[S.arr]
 exact kas_swaps_map (kas_item it) (fun i=>k-i) (fun i=>k-i-1) _ p
theorem mS (O:Ord lt)(hC:Cmp prog w A E s n lt κ it)(hk:kindOf st0=κ)(hlo:lo<n)(S0:SrP it st0 p0 st)(hp0:PermN n p0){Q:Option Nat→SortSt→Prop}
  (h:∀ m p st',1≤m→m≤n-lo→SrP it st0 p st'→PermN n p→Low p0 p lo→RiL lt p lo (lo+m)→Q (some m) st'):wpS (model prog w) A E s (countRun' lo (n-lo)) Q st:=by
 unfold countRun'
 generalize hM:n-lo=M at *
 refine Ym (ZM (Zb (I:=fun x (c:Option (Option Nat)×Nat) st'=>st=st'∧c=(none,x)∧1≤x∧x≤M∧RiL lt p0 lo (lo+x)) (Q:=fun (c:Option (Option Nat)×Nat) st'=>st=st'∧∃ k,c=(none,k)∧1≤k∧k≤M∧RiL lt p0 lo (lo+k)∧(k=M∨lt (p0.getD (lo+k) 0) (p0.getD (lo+k-1) 0)=true)) ?_ (fun c st' z=>⟨z.1,_,z.2.1,z.2.2.1,z.2.2.2.1,z.2.2.2.2,.inl (by have:=z.2.2.2.1;omega)⟩) ⟨rfl,rfl,by decide,by omega,fun i j h1 h2 h3=>by rw[show i=j by omega];exact O.irr _⟩) ?_)
 ·rintro x c st' h1 h2 ⟨rfl,rfl,h3,h4,h5⟩
  refine Ym (cH hC hk S0 hp0 (by dsimp only;omega) (by dsimp only;omega) ?_)
  dsimp only
  cases c:lt (p0.getD (lo+x) 0) (p0.getD (lo+x-1) 0) with
  | true=>
   rw[Yn rfl]
   exact Yr ⟨rfl,x,rfl,h3,h4,h5,.inr c⟩
  | false=>
   rw[Yo Yg]
   exact Yr ⟨rfl,rfl,by omega,by omega,iA (K:=lo+x) O (by omega) h5 c⟩
 ·rintro c st' ⟨rfl,k,rfl,h1,h2,h3,h4⟩
  by_cases hkm:k=M
  ·subst hkm
   refine aj (Yr (h k p0 st h1 (Yw _) S0 hp0 (fun _ _=>rfl) h3)) ?_
   exact beq_self_eq_true k
  refine ae ?_ (by simpa using hkm)
  have hlt:lt (p0.getD (lo+k) 0) (p0.getD (lo+k-1) 0)=true:=h4.resolve_left hkm
  dsimp only
  refine f8 (P:=fun st'=>∃ p,SrP it st0 p st'∧PermN n p∧Low p0 p lo∧FaL lt p lo (lo+k+1)) ?_ ?_ ?_
  ·rintro st1 ⟨p1,S1,hp1,hl1,hf1⟩
   refine Ym (wpS_lift (Xf ⟨rfl,?_⟩))
   refine Ym (ZM (Zb (I:=fun x (c:Option (Option Nat)×Nat×Nat) st'=>∃ p q,c=(none,x,q)∧x≤M∧q+1≤x∧SrP it st0 p st'∧PermN n p∧Low p0 p lo∧FaL lt p lo (lo+x)∧Eqs lt p (lo+x-(q+1)) (lo+x)) (Q:=fun (c:Option (Option Nat)×Nat×Nat) st'=>∃ p x q,c=(none,x,q)∧1≤x∧x≤M∧q+1≤x∧SrP it st0 p st'∧PermN n p∧Low p0 p lo∧FaL lt p lo (lo+x)∧Eqs lt p (lo+x-(q+1)) (lo+x)) ?_ (fun c st' z=>?_) ⟨p1,0,rfl,by omega,by omega,S1,hp1,hl1,hf1,g8 O p1 (lo+k)⟩) ?_)
   ·rintro x c st' g1 g2 ⟨p,q,rfl,g3,g4,S,hp,hl,hf,he⟩
    refine Ym (cH hC hk S hp (by dsimp only;omega) (by dsimp only;omega) ?_)
    dsimp only
    cases c:lt (p.getD (lo+x) 0) (p.getD (lo+x-1) 0) with
    | true=>
     rw[Yn rfl]
     have hc:=O.asym _ _ c
     by_cases hq:q > 0
     ·rw[Yn hq]
      refine Ym (c_ S fun st2 S2=>Yr ⟨_,0,rfl,by omega,by omega,S2,hp.rev _ _,d8 hp (by omega) (by omega) hl,?_,g8 O _ (lo+x)⟩)
      refine cv (K:=lo+x) O (by omega) (hW hp (by omega) (by omega) he hf) ?_
      have hb:lo+x-(q+1)≤lo+x-1∧lo+x-1<lo+x:=by omega
      rw[a9 hp (by omega),a9 hp (by omega),Yn hb,Yo (by omega)]
      exact O.trans _ _ _ hc (he _ _ (iZ hb).1 (iZ hb).2 hb.1 hb.2)
     ·rw[Yo hq]
      exact Yr ⟨p,0,rfl,by omega,by omega,S,hp,hl,cv (K:=lo+x) O (by omega) hf hc,g8 O _ (lo+x)⟩
    | false=>
     rw[Yo Yg]
     refine Ym (cH hC hk S hp (by omega) (by omega) ?_)
     dsimp only
     cases d:lt (p.getD (lo+x-1) 0) (p.getD (lo+x) 0) with
     | true=>
      rw[Yn rfl]
      exact Yr ⟨p,x,q,rfl,by omega,by omega,g4,S,hp,hl,hf,he⟩
     | false=>
      rw[Yo Yg]
      exact Yr ⟨p,q+1,rfl,by omega,by omega,S,hp,hl,cv (K:=lo+x) O (by omega) hf d,nk (k:=lo+x) O (by omega) he c d⟩
   ·obtain⟨p,q,e,z⟩:=z
    have hmx:max (k+1) M=M:=by omega
    refine⟨p,_,q,e,by omega,z⟩
   ·rintro c st2 ⟨p,x,q,rfl,g0,g1,g2,S,hp,hl,hf,he⟩
    dsimp only
    refine f8 (P:=fun st'=>∃ p,SrP it st0 p st'∧PermN n p∧Low p0 p lo∧FaL lt p lo (lo+x)) ?_ ?_ ?_
    ·rintro st3 ⟨p,S,hp,hl,hf⟩
     refine Ym (c_ S fun st4 S4=>?_)
     have hp4:=hp.rev lo (lo+x)
     have hl4:=d8 (a:=lo) (b:=lo+x) hp (by omega) (Yw _) hl
     have hr4:=lc (b:=lo+x) hp (by omega) hf
     generalize kas_rev p lo (lo+x)=p4 at *
     refine Ym (ZM (Zb (I:=fun x (c:Option (Option Nat)×Nat) st'=>st4=st'∧c=(none,x)∧1≤x∧x≤M∧RiL lt p4 lo (lo+x)) (Q:=fun (c:Option (Option Nat)×Nat) st'=>st4=st'∧∃ k,c=(none,k)∧1≤k∧k≤M∧RiL lt p4 lo (lo+k)) ?_ (fun c st' z=>⟨z.1,_,z.2⟩) ⟨rfl,rfl,g0,g1,hr4⟩) ?_)
     ·rintro y c st' h1 h2 ⟨rfl,rfl,h3,h4,h5⟩
      refine Ym (cH hC hk S4 hp4 (by dsimp only;omega) (by dsimp only;omega) ?_)
      dsimp only
      cases c:lt (p4.getD (lo+y) 0) (p4.getD (lo+y-1) 0) with
      | true=>
       rw[Yn rfl]
       exact Yr ⟨rfl,y,rfl,h3,h4,h5⟩
      | false=>
       rw[Yo Yg]
       exact Yr ⟨rfl,rfl,by omega,by omega,iA (K:=lo+y) O (by omega) h5 c⟩
     ·rintro c st' ⟨rfl,m,rfl,h1,h2,h3⟩
      exact Yr (h m p4 _ h1 h2 S4 hp4 hl4 h3)
    ·intro hq H
     exact Ym (c_ S fun st3 S3=>H st3 ⟨_,S3,hp.rev _ _,d8 hp (by omega) (by omega) hl,hW hp (by omega) (by omega) he hf⟩)
    ·exact fun _=>⟨p,S,hp,hl,hf⟩
  ·intro hk1 H
   refine Ym (cH hC hk S0 hp0 (by omega) (by omega) ?_)
   dsimp only
   cases c:lt (p0.getD lo 0) (p0.getD (lo+k-1) 0) with
   | true=>
    rw[Yn rfl]
    exact Yr (h k p0 _ h1 h2 S0 hp0 (fun _ _=>rfl) h3)
   | false=>
    rw[Yo Yg]
    have alike:∀ i j,lo≤i→i<lo+k→lo≤j→j<lo+k→lt (p0.getD i 0) (p0.getD j 0)=false:=fun i j hi hi' hj hj'=>
     O.trans _ _ _ (O.trans _ _ _ (h3 j (lo+k-1) hj (by omega) (by omega)) c) (h3 lo i (Yw _) hi hi')
    refine Ym (c_ S0 fun st1 S1=>H st1 ⟨_,S1,hp0.rev _ _,d8 hp0 (by omega) (Yw _) (fun _ _=>rfl),cv (K:=lo+k) O (by omega) (fun i j hi hij hj=>?_) ?_⟩)
    ·rw[a9 hp0 (by omega),a9 hp0 (by omega),Yn (by omega),Yn (by omega)]
     exact alike _ _ (by omega) (by omega) (by omega) (by omega)
    ·rw[a9 hp0 (by omega),a9 hp0 (by omega),Yn (by omega),Yo (by omega)]
     exact O.trans _ _ _ (O.asym _ _ hlt) (alike _ _ (by omega) (by omega) (by omega) (by omega))
  ·intro hk1
   have:k=1:=by omega
   subst this
   refine⟨p0,S0,hp0,fun _ _=>rfl,cv (K:=lo+1) O (by omega) (fun i j hi hij hj=>?_) (O.asym _ _ hlt)⟩
   rw[show i=j by omega]
   exact O.irr _
theorem qu (O:Ord lt)(hC:Cmp prog w A E s n lt κ it)(hk:kindOf st0=κ){m ok:Nat}(hm:lo+m≤n)(h1:1≤ok)(h2:ok≤m)(S0:SrP it st0 p0 st)(hp0:PermN n p0)(hr0:RiL lt p0 lo (lo+ok)){Q:Bool→SortSt→Prop}
  (h:∀ p st',SrP it st0 p st'→PermN n p→Low p0 p lo→RiL lt p lo (lo+m)→Q true st'):wpS (model prog w) A E s (binarySort' lo m ok) Q st:=by
 unfold binarySort'
 have hmx:max ok 1=ok:=by omega
 refine Ym (ZM (Zb (I:=fun x (c:Option Bool×Unit) st'=>c=(none,())∧x≤m∧1≤x∧∃ p,SrP it st0 p st'∧PermN n p∧Low p0 p lo∧RiL lt p lo (lo+x)) (Q:=fun (c:Option Bool×Unit) st'=>c=(none,())∧∃ p,SrP it st0 p st'∧PermN n p∧Low p0 p lo∧RiL lt p lo (lo+m)) ?_ (fun c st' z=>⟨z.1,?_⟩) ⟨rfl,by omega,by omega,p0,S0,hp0,fun _ _=>rfl,hmx.symm ▸ hr0⟩) ?_)
 ·rintro k c st1 g1 g2 ⟨rfl,g3,g4,p,S,hp,hl,hr⟩
  refine Ym (ZM (Zb (I:=fun y (c:Option Bool×Nat×Nat) st'=>st1=st'∧∃ l r,c=(none,l,r)∧l≤r∧r≤k∧r-l≤k-y∧(∀ i,i<l→lt (p.getD (lo+k) 0) (p.getD (lo+i) 0)=false)∧(∀ i,r≤i→i<k→lt (p.getD (lo+k) 0) (p.getD (lo+i) 0)=true)) (Q:=fun (c:Option Bool×Nat×Nat) st'=>st1=st'∧∃ l,c=(none,l,l)∧l≤k∧(∀ i,i<l→lt (p.getD (lo+k) 0) (p.getD (lo+i) 0)=false)∧(∀ i,l≤i→i<k→lt (p.getD (lo+k) 0) (p.getD (lo+i) 0)=true)) ?_ (fun c st' z=>?_) ⟨rfl,0,k,rfl,by omega,by omega,by omega,fun i hi=>absurd hi (XN _),fun i a b=>absurd b (by omega)⟩) ?_)
  ·rintro y c st' _ hy ⟨rfl,l,r,rfl,q1,q2,q3,q4,q5⟩
   dsimp only
   by_cases hlr:l ≥ r
   ·rw[Yn hlr]
    have:l=r:=by omega
    subst this
    exact Yr ⟨rfl,l,rfl,q2,q4,q5⟩
   ·rw[Yo hlr]
    refine Ym (cH hC hk S hp (by omega) (by omega) ?_)
    dsimp only
    cases c:lt (p.getD (lo+k) 0) (p.getD (lo+(l+r)/2) 0) with
    | true=>
     rw[Yn rfl]
     refine Yr ⟨rfl,l,(l+r)/2,rfl,by omega,by omega,by omega,q4,fun i a1 a2=>?_⟩
     cases q:lt (p.getD (lo+k) 0) (p.getD (lo+i) 0) with
     | true=>rfl
     | false=>
      have:=O.trans _ _ _ (hr (lo+(l+r)/2) (lo+i) (by omega) (by omega) (by omega)) q
      rw[c] at this
      cases this
    | false=>
     rw[Yo Yg]
     exact Yr ⟨rfl,(l+r)/2+1,r,rfl,by omega,by omega,by omega,fun i a1=>O.trans _ _ _ (hr (lo+i) (lo+(l+r)/2) (by omega) (by omega) (by omega)) c,q5⟩
  ·obtain⟨z0,l,r,rfl,q1,q2,q3,q4,q5⟩:=z
   have:l=r:=by omega
   subst this
   exact⟨z0,l,rfl,q2,q4,q5⟩
  ·rintro c st' ⟨rfl,l,rfl,q1,q2,q3⟩
   dsimp only
   refine Ym (kw S fun st2 S2=>Yr ⟨rfl,by omega,by omega,_,S2,hp.bub _ _,oU hp (by omega) (by omega) (by omega) hl,mR O hp (by omega) hr (by omega) (by omega) (fun i a1 a2=>?_) fun i a1 a2=>?_⟩)
   ·have:=q2 (i-lo) (by omega)
    rwa [show lo+(i-lo)=i by omega] at this
   ·have:=q3 (i-lo) (by omega) (by omega)
    rwa [show lo+(i-lo)=i by omega] at this
 ·obtain⟨_,z1,z2,p,S,hp,hl,hr⟩:=z
  have e:max (max ok 1) m=m:=by omega
  rw[e] at hr
  exact⟨p,S,hp,hl,hr⟩
 ·rintro c st' ⟨rfl,p,S,hp,hl,hr⟩
  exact Yr (h p st' S hp hl hr)
end
section
variable {prog:Program} {w:World} {A:Around} {E:Kv} {s:Shared} {n:Nat} {lt:Nat→Nat→Bool} {κ:SortKind} {it:Array Keyed}
theorem nM {M:Model}{σ:Type}{Q:PUnit→σ→Prop}{st st':σ}(h:Q ⟨⟩ st'):wpS M A E s (set st':StateT σ Sem PUnit) Q st:=by
 unfold wpS;rw[StateT.run_set];exact Yd ⟨rfl,h⟩
def hJ {α:Type}(b:Nat)(L:List (α×Nat))(arr:Array α):Array α:=L.foldl (fun a x=>match x with | (p,j)=>a.setIfInBounds (b+j) p) arr
theorem ir {α:Type}(b:Nat):∀ (L:List α) (j:Nat) (U V W:List α),U.length=b+j→V.length=L.length→hJ b (L.zipIdx j) (U++V++W).toArray=(U++L++W).toArray
 | [],j,U,V,W,hU,hV=>by
  have:V=[]:=YW.mp hV
  subst this
  rfl
 | x::L,j,U,[],W,hU,hV=>by cases hV
 | x::L,j,U,v::V,W,hU,hV=>by
  have ih:=ir b L (j+1) (U++[x]) V W (by rw[Yk,Zz];omega) (Nat.succ.inj hV)
  rw[List.zipIdx_cons]
  show hJ b (L.zipIdx (j+1)) ((U++v::V++W).toArray.setIfInBounds (b+j) x)=_
  have e:(U++v::V++W).toArray.setIfInBounds (b+j) x=(U++[x]++V++W).toArray:=by
   rw[← hU]
   simp
  rw[e,ih]
  simp
theorem pe (O:Ord lt){X Y:List Nat}{m:Nat}(hX:Up lt X)(hY:Up lt Y)(h1:∀ x∈X,lt m x=false)(h2:∀ y∈Y,lt y m=false):Up lt (X++Y):=
 aM.mpr ⟨hX,hY,fun x hx y hy=>O.trans _ _ _ (h1 x hx) (h2 y hy)⟩
theorem pS {l:List Nat}{y:Nat}(h:y∈l):∃ j:Nat,l[j]?=some y:=by
 obtain⟨k,hk,e⟩:=Vk.mp h
 exact⟨k,Yi.mpr ⟨hk,e⟩⟩
theorem gz (O:Ord lt)(hC:Cmp prog w A E s n lt κ it){Aa X Y B:List Nat}{pd:Array (Nat×Nat×Nat)}{g i pw pw2:Nat}{Q:Bool→SortSt→Prop}(hn:∀ x∈Aa++X++Y++B,x<n)(hX:Up lt X)(hY:Up lt Y)(nX:X≠[])(nY:Y≠[])
  (e1:pd[i]?=some (Aa.length,X.length,pw)) (e2:pd[i+1]?=some (Aa.length+X.length,Y.length,pw2))
  (h:∀ (Z:List Nat) (st':SortSt),Z.Perm (X++Y)→Up lt Z→PyProof.Rows.kindOf st'=κ→failedOf st'=none→arrOf st'=KA it (Aa++Z++B)→pendingOf st'=(pd.setIfInBounds i (Aa.length,X.length+Y.length,pw)).eraseIdxIfInBounds (i+1)→Q true st') :
  wpS (model prog w) A E s (mergeAt' i) Q (SortSt.mk' κ (KA it (Aa++X++Y++B)) pd g none):=by
 have lX:0<X.length:=XC.mpr nX
 have lY:0<Y.length:=XC.mpr nY
 have hnX:∀ x∈X,x<n:=fun x hx=>hn x (by simp[hx])
 have hnY:∀ x∈Y,x<n:=fun x hx=>hn x (by simp[hx])
 have iX:∀ i,i<X.length→(Aa++X++Y++B)[Aa.length+i]?=X[i]?:=fun i hi=>by
  rw[Yv,Yv,YQ (Nat.le_add_right _ _),Zd,YX hi]
 have iY:∀ i,i<Y.length→(Aa++X++Y++B)[Aa.length+X.length+i]?=Y[i]?:=fun i hi=>by
  rw[Yv,YQ (by rw[Yk];omega),Yk,Zd,YX hi]
 obtain⟨y0,ey0⟩:∃ y,Y[0]?=some y:=⟨Y[0],Ye lY⟩
 obtain⟨z,ez⟩:∃ z,X[X.length-1]?=some z:=⟨X[X.length-1],Ye (by omega)⟩
 have y0n:y0<n:=hnY _ (YG ey0)
 have zn:z<n:=hnX _ (YG ez)
 have y0le:∀ y∈Y,lt y y0=false:=fun y hy=>dB hY O ey0 (O.irr _) y (by rw[Xe];exact hy)
 have lez:∀ x∈X,lt z x=false:=fun x hx=>by
  obtain⟨j,e⟩:=pS hx
  exact cL hX O (by have:=(Yi.mp e).1;omega) e ez
 have len:(Aa++X++Y++B).length=Aa.length+X.length+Y.length+B.length:=by rw[Yk,Yk,Yk]
 unfold mergeAt'
 refine Ym (wpS_get ?_)
 dsimp only
 rw[e1,e2]
 dsimp only
 refine Ym (nM ?_)
 generalize hL:Aa++X++Y++B=L at *
 generalize hpd:(pd.setIfInBounds i (Aa.length,X.length+Y.length,pw)).eraseIdxIfInBounds (i+1)=pd' at *
 refine Ym (aK (x:=y0) (by have:=iY 0 lY;rw[Nat.add_zero] at this;rw[this];exact ey0) ?_)
 refine Ym (gc O hC rfl y0n hn (by omega) lX (fun a b x y h1 h2 h3 h4 h5=>?_) fun k hk g1 g2=>?_)
 ·have q1:=iX (a-Aa.length) (by omega)
  have q2:=iX (b-Aa.length) (by omega)
  rw[show Aa.length+(a-Aa.length)=a by omega] at q1
  rw[show Aa.length+(b-Aa.length)=b by omega] at q2
  exact cL hX O (i:=a-Aa.length) (j:=b-Aa.length) (by omega) (q1 ▸ h4) (q2 ▸ h5)
 have lo1:∀ x∈X.take k,lt y0 x=false:=fun x hx=>by
  obtain⟨j,hj,e⟩:=bp hx
  have:=g1 j x hj (by rw[iX j (by omega)];exact e)
  simpa using this
 have hi1:∀ x∈X.drop k,lt y0 x=true:=fun x hx=>by
  obtain⟨j,hj,e⟩:=bj hx
  have hj2:=(Yi.mp e).1
  have:=g2 j x hj hj2 (by rw[iX j hj2];exact e)
  simpa using this
 dsimp only
 by_cases q:X.length-k=0
 ·refine aj (Yr (h (X++Y) _ (.refl _) (pe O hX hY (m:=y0) (fun x hx=>lo1 x (by rw[XU (by omega)];exact hx)) y0le) rfl rfl ?_ rfl)) (by simpa using q)
  show KA it L=_
  rw[← hL,Yv Aa]
 refine ae ?_ (by simpa using q)
 refine Ym (aK (x:=z) (by rw[show Aa.length+k+(X.length-k)-1=Aa.length+(X.length-1) by omega,iX _ (by omega)];exact ez) ?_)
 refine Ym (gc O hC rfl zn hn (by omega) (by omega) (fun a b x y h1 h2 h3 h4 h5=>?_) fun k2 hk2 g3 g4=>?_)
 ·have q1:=iY (a-(Aa.length+X.length)) (by omega)
  have q2:=iY (b-(Aa.length+X.length)) (by omega)
  rw[show Aa.length+X.length+(a-(Aa.length+X.length))=a by omega] at q1
  rw[show Aa.length+X.length+(b-(Aa.length+X.length))=b by omega] at q2
  exact cL hY O (i:=a-(Aa.length+X.length)) (j:=b-(Aa.length+X.length)) (by omega) (q1 ▸ h4) (q2 ▸ h5)
 have lo2:∀ y∈Y.take k2,lt y z=true:=fun x hx=>by
  obtain⟨j,hj,e⟩:=bp hx
  have:=g3 j x hj (by rw[iY j (by omega)];exact e)
  simpa using this
 have hi2:∀ y∈Y.drop k2,lt y z=false:=fun x hx=>by
  obtain⟨j,hj,e⟩:=bj hx
  have hj2:=(Yi.mp e).1
  have:=g4 j x hj hj2 (by rw[iY j hj2];exact e)
  simpa using this
 dsimp only
 by_cases q2:k2=0
 ·subst q2
  refine aj (Yr (h (X++Y) _ (.refl _) (pe O hX hY (m:=z) lez fun y hy=>hi2 y (by rw[Xe];exact hy)) rfl rfl ?_ rfl)) (by rfl)
  show KA it L=_
  rw[← hL,Yv Aa]
 refine ae ?_ (by simpa using q2)
 have ex:(KA it L).extract (Aa.length+k) (Aa.length+X.length)=KA it (X.drop k):=by
  rw[cA,← hL]
  congr 1
  rw[Yv,Yv,List.drop_append,Xi (Nat.le_add_right _ _),Vs,Zd,List.drop_append_of_le_length hk,List.take_append_of_le_length (by rw[ZK];omega),XU (by rw[ZK];omega)]
 have ey:(KA it L).extract (Aa.length+X.length) (Aa.length+X.length+k2)=KA it (Y.take k2):=by
  rw[cA,← hL]
  congr 1
  rw[Zd,Yv,List.drop_append,Xi (by rw[Yk];omega),Vs,Yk,Nat.sub_self,Xe,List.take_append_of_le_length hk2]
 rw[ex,ey]
 have fin:∀ l st2,MGood lt (X.drop k) (Y.take k2) l→SG (SortSt.mk' κ (KA it L) pd' g none) st2→Q true (SortSt.mk' (kindOf st2) (hJ (Aa.length+k) ((KA it l).toList.zipIdx) (arrOf st2)) (pendingOf st2) (gallopOf st2) (failedOf st2)):=fun l st2 G S=>by
  refine h (X.take k++l++Y.drop k2) _ ?_ ?_ S.kind S.fail ?_ S.pend
  ·refine List.Perm.trans ((G.perm.append_left _).append_right _) (.of_eq ?_)
   rw[← Yv,YN,Yv,YN]
  ·have ml:∀ x∈l,x∈X.drop k∨x∈Y.take k2:=fun x hx=>Yz.mp (G.perm.mem_iff.mp hx)
   have u1:∀ x∈X.take k,∀ y∈Y,lt y x=false:=fun x hx y hy=>O.trans _ _ _ (lo1 x hx) (y0le y hy)
   refine aM.mpr ⟨aM.mpr ⟨bx hX k,G.up,fun x hx y hy=>?_⟩,bA hY k2,fun x hx y hy=>?_⟩
   ·rcases ml y hy with m | m
    ·have:=hX
     rw[← YN k X] at this
     exact (aM.mp this).2.2 x hx y m
    ·exact u1 x hx y (Xu m)
   ·rcases Yz.mp hx with m | m
    ·exact u1 x m y (ZQ hy)
    ·rcases ml x m with m | m
     ·exact O.trans _ _ _ (lez x (ZQ m)) (hi2 y hy)
     ·have:=hY
      rw[← YN k2 Y] at this
      exact (aM.mp this).2.2 x m y hy
  ·show hJ (Aa.length+k) ((KA it l).toList.zipIdx) (arrOf st2)=_
   rw[S.arr]
   show hJ (Aa.length+k) ((KA it l).toList.zipIdx) (KA it L)=_
   have ll:l.length=(X.drop k++Y.take k2).length:=G.perm.length_eq
   have eL:L=(Aa++X.take k)++(X.drop k++Y.take k2)++(Y.drop k2++B):=by
    have a1:=YN k X
    have a2:=YN k2 Y
    generalize X.take k=X1 at *
    generalize X.drop k=X2 at *
    generalize Y.take k2=Y1 at *
    generalize Y.drop k2=Y2 at *
    rw[← hL,← a1,← a2]
    simp
   have eK:∀ m:List Nat,KA it m=(m.map (kas_item it)).toArray:=fun m=>by simp[KA]
   rw[eK l,eK L,eL,XO,XO]
   rw[ir (Aa.length+k) (l.map (kas_item it)) 0 _ _ _ (by rw[YA,Yk,YU];omega) (by rw[YA,YA];exact ll.symm)]
   rw[eK,← XO,← XO]
   congr 2
   simp
 have pa:∀ x∈X.drop k,x<n:=fun x hx=>hnX x (ZQ hx)
 have pb:∀ x∈Y.take k2,x<n:=fun x hx=>hnY x (Xu hx)
 have pb0:(Y.take k2)[0]?=some y0:=by rw[ZS (by omega)];exact ey0
 have pz:(X.drop k)[(X.drop k).length-1]?=some z:=by rw[XL,ZK,show k+(X.length-k-1)=X.length-1 by omega];exact ez
 by_cases q3:X.length-k≤k2
 ·refine aj ?_ q3
  refine Ym (jd O hC rfl pa pb (bA hX k) (bx hY k2) pb0 (fun x hx=>O.asym _ _ (hi1 x hx)) pz (fun y hy=>O.asym _ _ (lo2 y hy)) fun l st2 G S=>?_)
  refine Ym (XX (Ym (wpS_get ?_)))
  have ef:failedOf st2=none:=S.fail
  have r:=fin l st2 G S
  show wpS _ _ _ _ (pure (failedOf st2).isNone) Q _
  rw[ef]
  exact Yr r
 ·refine ae ?_ q3
  refine Ym (jm O hC rfl pa pb (bA hX k) (bx hY k2) pb0 (fun x hx=>O.asym _ _ (hi1 x hx)) pz (fun y hy=>O.asym _ _ (lo2 y hy)) fun l st2 G S=>?_)
  refine Ym (XX (Ym (wpS_get ?_)))
  have ef:failedOf st2=none:=S.fail
  have r:=fin l st2 G S
  show wpS _ _ _ _ (pure (failedOf st2).isNone) Q _
  rw[ef]
  exact Yr r
end
def b7:Nat→List (List Nat×Nat)→List (Nat×Nat×Nat)
 | _,[]=>[]
 | b,(R,pw)::r=>(b,R.length,pw)::b7 (b+R.length) r
def flt (Rs:List (List Nat×Nat)):List Nat:=(Rs.map (·.1)).flatten
theorem bN (l m:List (List Nat×Nat)):flt (l++m)=flt l++flt m:=by simp[flt]
theorem aQ (R:List Nat)(pw:Nat)(m:List (List Nat×Nat)):flt ((R,pw)::m)=R++flt m:=by simp[flt]
theorem b9:∀ (b:Nat) (l m:List (List Nat×Nat)),b7 b (l++m)=b7 b l++b7 (b+(flt l).length) m
 | b,[],m=>rfl
 | b,(R,pw)::l,m=>by
  rw[List.cons_append,b7,b7,b9 (b+R.length) l m,aQ,Yk,Nat.add_assoc]
  rfl
theorem br:∀ (b:Nat) (l:List (List Nat×Nat)),(b7 b l).length=l.length
 | _,[]=>rfl
 | b,(R,pw)::l=>by rw[b7,YB,br,YB]
theorem mU {α:Type}{l:List α}{i:Nat}(h:i+1<l.length):∃ L x y T,l=L++x::y::T∧L.length=i:=by
 refine⟨l.take i,l[i],l[i+1],l.drop (i+2),?_,by rw[YU];omega⟩
 rw[← Zg h,← Zg (by omega),YN]
section
variable {prog:Program} {w:World} {A:Around} {E:Kv} {s:Shared} {n:Nat} {lt:Nat→Nat→Bool} {κ:SortKind} {it:Array Keyed}
structure SR (it:Array Keyed) (κ:SortKind) (lt:Nat→Nat→Bool) (n:Nat) (st:SortSt) (Rs:List (List Nat×Nat)) (T:List Nat):Prop where
 kind:PyProof.Rows.kindOf st=κ
 fail:failedOf st=none
 arr:arrOf st=KA it (flt Rs++T)
 perm:(flt Rs++T).Perm (List.range n)
 up:∀ R∈Rs,Up lt R.1∧R.1≠[]
 pend:(pendingOf st).toList=b7 0 Rs
theorem SR.len {st:SortSt}{Rs:List (List Nat×Nat)}{T:List Nat}(S:SR it κ lt n st Rs T):(flt Rs).length+T.length=n:=by
 have:=S.perm.length_eq
 rwa [Yk,Zk] at this
theorem SR.psize {st:SortSt}{Rs:List (List Nat×Nat)}{T:List Nat}(S:SR it κ lt n st Rs T):(pendingOf st).size=Rs.length:=by
 rw[← Yu,S.pend,br]
theorem lI:∀ {Rs:List (List Nat×Nat)},(∀ R∈Rs,R.1≠[])→Rs.length≤(flt Rs).length
 | [],_=>Za _
 | (R,pw)::Rs,h=>by
  have:=lI (Rs:=Rs) fun R hR=>h R (Yb _ hR)
  have:=XC.mpr (h (R,pw) Yc)
  rw[aQ,Yk,YB]
  dsimp only at this
  omega
theorem eH (O:Ord lt)(hC:Cmp prog w A E s n lt κ it){Ls Ts:List (List Nat×Nat)}{X Y T:List Nat}{pw pw2 i:Nat}{st:SortSt}{Q:Bool→SortSt→Prop}(S:SR it κ lt n st (Ls++(X,pw)::(Y,pw2)::Ts) T)(hi:Ls.length=i)
  (h:∀ Z st',SR it κ lt n st' (Ls++(Z,pw)::Ts) T→Z.length=X.length+Y.length→Q true st'):wpS (model prog w) A E s (mergeAt' i) Q st:=by
 have eL:flt (Ls++(X,pw)::(Y,pw2)::Ts)++T=flt Ls++X++Y++(flt Ts++T):=by simp[bN,aQ]
 have ar:=S.arr
 rw[eL] at ar
 have pm:=S.perm
 rw[eL] at pm
 have est:st=SortSt.mk' κ (KA it (flt Ls++X++Y++(flt Ts++T))) (pendingOf st) (gallopOf st) none:=by
  have:st=SortSt.mk' (PyProof.Rows.kindOf st) (arrOf st) (pendingOf st) (gallopOf st) (failedOf st):=rfl
  rw[S.kind,ar,S.fail] at this
  exact this
 have pd:=S.pend
 rw[b9,XF,b7,b7] at pd
 have gi:∀ j,(pendingOf st)[j]?=(pendingOf st).toList[j]?:=fun j=>by rw[YS]
 have e1:(pendingOf st)[i]?=some ((flt Ls).length,X.length,pw):=by
  rw[gi,pd,YQ (by rw[br];omega),br,hi,Nat.sub_self]
  rfl
 have e2:(pendingOf st)[i+1]?=some ((flt Ls).length+X.length,Y.length,pw2):=by
  rw[gi,pd,YQ (by rw[br];omega),br,hi,Zd]
  rfl
 have uX:=S.up (X,pw) (by simp)
 have uY:=S.up (Y,pw2) (by simp)
 rw[est]
 refine gz O hC (fun x hx=>YO.mp (pm.mem_iff.mp hx)) uX.1 uY.1 uX.2 uY.2 e1 e2 fun Z st' hZ uZ k1 k2 k3 k4=>h Z st' ⟨k1,k2,?_,?_,fun R hR=>?_,?_⟩ (by rw[hZ.length_eq,Yk])
 ·rw[k3]
  congr 1
  simp[bN,aQ]
 ·refine List.Perm.trans ?_ pm
  rw[show flt (Ls++(Z,pw)::Ts)++T=flt Ls++(Z++(flt Ts++T)) by simp[bN,aQ],show flt Ls++X++Y++(flt Ts++T)=flt Ls++((X++Y)++(flt Ts++T)) by simp]
  exact (hZ.append_right _).append_left _
 ·rcases Yz.mp hR with m | m
  ·exact S.up R (YK _ m)
  ·rcases YF.mp m with rfl | m
   ·exact⟨uZ,fun z=>by
     have q:=hZ.length_eq
     have u:=XC.mpr uX.2
     dsimp only at z u
     rw[z,Yk,Ze] at q
     omega⟩
   ·exact S.up R (Yt _ (Yb _ (Yb _ m)))
 ·rw[k4,Array.toList_eraseIdxIfInBounds,Array.toList_setIfInBounds,pd,b9,XF,b7]
  have hl:(b7 0 Ls).length=i:=by rw[br];exact hi
  rw[show Z.length=X.length+Y.length by rw[hZ.length_eq,Yk],← Nat.add_assoc]
  generalize b7 0 Ls=P at *
  generalize b7 ((flt Ls).length+X.length+Y.length) Ts=U
  subst hl
  rw[List.set_append_right _ _ (Yw _),Nat.sub_self,List.set_cons_zero,List.eraseIdx_append_of_length_le (by omega),Zd]
  rfl
theorem ki {M:Model}{σ α β:Type}{c:β→Prop}[DecidablePred c]{m1 f:β→StateT σ Sem α}{Q:α→σ→Prop}{st:σ}{v0:β}(P:β→σ→Prop)(hf:∀ v st',P v st'→wpS M A E s (f v) Q st')
  (h1:c v0→(∀ v st',P v st'→wpS M A E s (f v) Q st')→wpS M A E s (m1 v0) Q st) (h2:¬ c v0→P v0 st):∀ v,v0=v→wpS M A E s (if c v then m1 v else f v) Q st:=by
 rintro v rfl
 by_cases q:c v0
 ·rw[Yn q];exact h1 q hf
 ·rw[Yo q];exact hf v0 st (h2 q)
theorem SR.sr {st st':SortSt}{Rs:List (List Nat×Nat)}{T:List Nat}{p:Array Nat}{m:Nat}(S:SR it κ lt n st Rs T)(S':SrP it st p st')(hp:PermN n p)(hl:Low (flt Rs++T).toArray p (flt Rs).length)(hm:(flt Rs).length+m≤n)(hr:RiL lt p (flt Rs).length ((flt Rs).length+m)) :
  ∃ T',SR it κ lt n st' Rs T'∧m≤T'.length∧Up lt (T'.take m)∧p=(flt Rs++T').toArray:=by
 have ge:∀ i,i<n→p.toList[i]?=some (p.getD i 0):=fun i hi=>by
  have:i<p.size:=by rw[hp.size];exact hi
  simp[Array.getD,this]
 have ln:=S.len
 have et:p.toList.take (flt Rs).length=flt Rs:=by
  refine ZT fun i=>?_
  by_cases hi:i<(flt Rs).length
  ·rw[ZS hi,ge i (by omega),hl i hi]
   have:i<(flt Rs).length+T.length:=by omega
   rw[Ye hi]
   have e2:(flt Rs++T).toArray.getD i 0=(flt Rs++T)[i]'(by rw[Yk];exact this):=by simp[Array.getD,this]
   rw[e2,List.getElem_append_left hi]
  ·rw[List.getElem?_take_eq_none (by omega),ZA (by omega)]
 have ep:flt Rs++p.toList.drop (flt Rs).length=p.toList:=by
  conv=>lhs;lhs;rw[← et]
  exact YN _ _
 refine⟨p.toList.drop (flt Rs).length,⟨S'.kind.trans S.kind,S'.fail.trans S.fail,?_,?_,S.up,(ZP Array.toList S'.pend).trans S.pend⟩,?_,?_,?_⟩
 ·rw[S'.arr,ep]
  unfold KA
  rw[Array.toArray_toList]
 ·rw[ep];exact hp.perm
 ·rw[ZK,Yu,hp.size];omega
 ·unfold Up
  rw[Zx]
  intro i j hi hj hij
  rw[YU,ZK,Yu,hp.size] at hi hj
  have q:∀ k,k<m→(flt Rs).length+k<n→∀ hk,((p.toList.drop (flt Rs).length).take m)[k]'hk=p.getD ((flt Rs).length+k) 0:=fun k h1 h2 hk=>by
   have:=ge _ h2
   rw[List.getElem_take,List.getElem_drop]
   have hs:=hp.size
   rw[← Yu] at hs
   rw[Ye (hs.symm ▸ h2)] at this
   exact Yx this
  rw[q i (by omega) (by omega),q j (by omega) (by omega)]
  exact hr _ _ (by omega) (by omega) (by omega)
 ·rw[ep,Array.toArray_toList]
theorem SR.srp {st:SortSt}{Rs:List (List Nat×Nat)}{T:List Nat}(S:SR it κ lt n st Rs T):SrP it st (flt Rs++T).toArray st∧PermN n (flt Rs++T).toArray:=
 ⟨⟨rfl,rfl,rfl,S.arr⟩,⟨by rw[Yy,Yk];exact S.len,S.perm⟩⟩
end
section
variable {prog:Program} {w:World} {A:Around} {E:Kv} {s:Shared} {n:Nat} {lt:Nat→Nat→Bool} {κ:SortKind} {it:Array Keyed}
theorem dN {α:Type}(f:α→α)(x:α):∀ P:List α,(P++[x]).modify P.length f=P++[f x]
 | []=>rfl
 | y::P=>by
  rw[List.cons_append,YB,List.modify_succ_cons,dN f x P]
  rfl
theorem SR.push {st:SortSt}{Rs:List (List Nat×Nat)}{T:List Nat}{m:Nat}(S:SR it κ lt n st Rs T)(h1:1≤m)(h2:m≤T.length)(hu:Up lt (T.take m)) :
  SR it κ lt n (setPending st ((pendingOf st).push ((flt Rs).length,m,0))) (Rs++[(T.take m,0)]) (T.drop m):=by
 have e:flt (Rs++[(T.take m,0)])++T.drop m=flt Rs++T:=by
  rw[bN,aQ,Yv]
  show flt Rs++(T.take m++[]++T.drop m)=_
  rw[YI,YN]
 refine⟨S.kind,S.fail,by rw[e];exact S.arr,by rw[e];exact S.perm,fun R hR=>?_,?_⟩
 ·rcases Yz.mp hR with q | q
  ·exact S.up R q
  ·rw[YD] at q
   subst q
   refine⟨hu,fun z=>?_⟩
   have:=ZP List.length z
   rw[YU,Ze] at this
   omega
 ·show ((pendingOf st).push ((flt Rs).length,m,0)).toList=_
  rw[VA,S.pend,b9,XF]
  show _=b7 0 Rs++[((flt Rs).length,(T.take m).length,0)]
  rw[YU,Nat.min_eq_left h2]
theorem SR.power {st:SortSt}{Rs:List (List Nat×Nat)}{T:List Nat}(S:SR it κ lt n st Rs T)(hR:Rs≠[])(pw:Nat)(f:Nat×Nat×Nat→Nat×Nat×Nat)(hf:∀ a b c,f (a,b,c)=(a,b,pw)) :
  ∃ Rs',SR it κ lt n (setPending st ((pendingOf st).modify ((pendingOf st).size-1) f)) Rs' T∧(flt Rs').length=(flt Rs).length:=by
 obtain⟨Ls,⟨X,p0⟩,rfl⟩:∃ Ls x,Rs=Ls++[x]:=⟨Rs.dropLast,Rs.getLast hR,(List.dropLast_concat_getLast hR).symm⟩
 have e:flt (Ls++[(X,pw)])=flt (Ls++[(X,p0)]):=by rw[bN,bN,aQ,aQ]
 have uX:=S.up (X,p0) (by simp)
 refine⟨Ls++[(X,pw)],⟨S.kind,S.fail,by rw[e];exact S.arr,by rw[e];exact S.perm,fun R hR=>?_,?_⟩,by rw[e]⟩
 ·rcases Yz.mp hR with q | q
  ·exact S.up R (YK _ q)
  ·rw[YD] at q
   subst q
   exact uX
 ·show ((pendingOf st).modify ((pendingOf st).size-1) f).toList=_
  rw[S.psize,Array.toList_modify,S.pend,b9,b9]
  rw[Yk,Zz,XM]
  have hl:(b7 0 Ls).length=Ls.length:=br _ _
  show (b7 0 Ls++[(0+(flt Ls).length,X.length,p0)]).modify Ls.length f=b7 0 Ls++[(0+(flt Ls).length,X.length,pw)]
  generalize 0+(flt Ls).length=B
  generalize b7 0 Ls=P at *
  rw[← hl,dN,hf]
theorem lD (O:Ord lt)(hC:Cmp prog w A E s n lt κ it)(hn:it.size=n){g:Nat}{Q:Unit→SortSt→Prop}
  (h:∀ l st',l.Perm (List.range n)→Up lt l→arrOf st'=KA it l→failedOf st'=none→Q () st'):wpS (model prog w) A E s sortRuns' Q (SortSt.mk' κ it #[] g none):=by
 have S0:SR it κ lt n (SortSt.mk' κ it #[] g none) [] (List.range n):=by
  refine⟨rfl,rfl,?_,.refl _,(fun R hR=>by cases hR),rfl⟩
  show it=KA it (List.range n)
  rw[← hn]
  exact (kas_range it).symm
 have hs0:(arrOf (SortSt.mk' κ it #[] g none)).size=n:=hn
 generalize SortSt.mk' κ it #[] g none=st0 at *
 rw[sortRuns'_eq]
 refine Ym (wpS_get ?_)
 rw[hs0]
 refine Ym (ZM (Zb (I:=fun x (c:Option Unit×Nat) st'=>∃ Rs T,c=(none,(flt Rs).length)∧SR it κ lt n st' Rs T∧x≤(flt Rs).length) (Q:=fun (c:Option Unit×Nat) st'=>c.1=none∧∃ Rs,SR it κ lt n st' Rs []) ?_ (fun c st' z=>?_) ⟨[],_,rfl,S0,Za _⟩) ?_)
 ·rintro x c st _ hx ⟨Rs,T,rfl,S,hle⟩
  have ln:=S.len
  by_cases hlo:(flt Rs).length ≥ n
  ·refine aj (Yr ⟨rfl,Rs,?_⟩) hlo
   have:T=[]:=YW.mp (by omega)
   exact this ▸ S
  refine ae ?_ hlo
  refine Ym (mS (lo:=(flt Rs).length) O hC S.kind (by omega) S.srp.1 S.srp.2 fun m p st1 m1 m2 S1 hp1 hl1 hr1=>?_)
  obtain⟨T1,SR1,le1,up1,rfl⟩:=S.sr S1 hp1 hl1 (by omega) hr1
  dsimp only
  generalize hmv:m=mv
  revert mv hmv
  refine ki (P:=fun v st'=>∃ T',SR it κ lt n st' Rs T'∧1≤v∧v≤T'.length∧Up lt (T'.take v)) ?_ ?_ ?_
  ·rintro v st2 ⟨T2,S2,v1,v2,uv⟩
   refine Ym (wpS_get ?_)
   have last:∀ Rs' st',SR it κ lt n st' Rs' T2→(flt Rs').length=(flt Rs).length→∃ Rs T,SR it κ lt n (setPending st' ((pendingOf st').push ((flt Rs').length,v,0))) Rs T∧(flt Rs).length=(flt Rs').length+v:=fun Rs' st' S' e=>by
    refine⟨_,_,S'.push v1 v2 uv,?_⟩
    rw[bN,aQ,Yk,Yk,YU,Nat.min_eq_left v2]
    rfl
   cases hb:(pendingOf st2).back? with
   | none=>
    refine Ym (XX ?_)
    obtain⟨Rs',T',S',e⟩:=last Rs st2 S2 rfl
    exact Yr ⟨Rs',T',by rw[e],S',by rw[e];omega⟩
   | some b=>
    obtain⟨s1,n1,pw1⟩:=b
    have ne:Rs≠[]:=fun z=>by
     have:=S2.psize
     rw[z] at this
     have:pendingOf st2=#[]:=Array.eq_empty_of_size_eq_zero this
     rw[this] at hb
     cases hb
    dsimp only
    generalize power' n (2*s1+n1) (2*s1+n1+n1+v) n=pw
    refine Ym (ZM (Zb (I:=fun y (c:Option Unit×Unit) st'=>c=(none,())∧∃ Rs',SR it κ lt n st' Rs' T2∧(flt Rs').length=(flt Rs).length∧Rs'≠[]) (Q:=fun (c:Option Unit×Unit) st'=>c=(none,())∧∃ Rs',SR it κ lt n st' Rs' T2∧(flt Rs').length=(flt Rs).length∧Rs'≠[]) ?_ (fun c st' z=>z) ⟨rfl,Rs,S2,rfl,ne⟩) ?_)
    ·rintro y c st3 _ _ ⟨rfl,Rs3,S3,e3,ne3⟩
     refine Ym (wpS_get ?_)
     by_cases hz:(pendingOf st3).size > 1
     ·rw[Yn hz]
      have ps:=S3.psize
      rw[Yl (by omega)]
      obtain⟨f1,f2,older⟩:=(pendingOf st3)[(pendingOf st3).size-2]
      dsimp only
      by_cases ho:older≤pw
      ·rw[Yn ho]
       exact Yr ⟨rfl,Rs3,S3,e3,ne3⟩
      ·rw[Yo ho]
       obtain⟨Ls,⟨X,q1⟩,⟨Y,q2⟩,Ts,eR,el⟩:=mU (l:=Rs3) (i:=(pendingOf st3).size-2) (by omega)
       subst eR
       refine Ym (eH O hC S3 el fun Z st4 S4 lz=>?_)
       refine ae (Yr ⟨rfl,_,S4,?_,by simp⟩) (by decide)
       rw[← e3]
       simp only[bN,aQ,Yk,lz]
       omega
     ·rw[Yo hz]
      exact Yr ⟨rfl,Rs3,S3,e3,ne3⟩
    ·rintro c st3 ⟨rfl,Rs3,S3,e3,ne3⟩
     refine Ym (XX ?_)
     obtain⟨Rs4,S4,e4⟩:=S3.power ne3 pw (fun x=>match x with | (st,len,snd)=>(st,len,pw)) (fun _ _ _=>rfl)
     refine Ym (XX ?_)
     obtain⟨Rs',T',S',e⟩:=last Rs4 _ S4 (e4.trans e3)
     have e':(flt Rs4).length=(flt Rs).length:=e4.trans e3
     rw[e'] at S' e
     exact Yr ⟨Rs',T',by rw[e],S',by rw[e];omega⟩
  ·intro hmr H
   refine Ym (wpS_lift (Xf ⟨rfl,?_⟩))
   refine Ym (qu O hC S.kind (lo:=(flt Rs).length) (m:=min (n-(flt Rs).length) (minRun' n n 0)) (by omega) m1 (by omega) S1 hp1 hr1 fun p st2 S2 hp2 hl2 hr2=>?_)
   refine ae ?_ (by decide)
   obtain⟨T2,SR2,le2,up2,rfl⟩:=S.sr S2 hp2 (fun i hi=>(hl2 i hi).trans (hl1 i hi)) (by omega) hr2
   exact H _ st2 ⟨T2,SR2,by omega,le2,up2⟩
  ·exact fun _=>⟨T1,SR1,m1,le1,up1⟩
 ·obtain⟨Rs,T,rfl,S,hle⟩:=z
  have ln:=S.len
  have:T=[]:=YW.mp (by omega)
  exact⟨rfl,Rs,this ▸ S⟩
 ·rintro⟨c0,lo⟩ st ⟨rfl,Rs,S⟩
  have ln:=S.len
  rw[Ze,Nat.add_zero] at ln
  refine Ym (ZM (Zb (I:=fun y (c:Option Unit×Unit) st'=>c=(none,())∧∃ Rs,SR it κ lt n st' Rs []∧Rs.length+y≤n) (Q:=fun (c:Option Unit×Unit) st'=>c=(none,())∧∃ Rs,SR it κ lt n st' Rs []∧Rs.length≤1) ?_ (fun c st' z=>?_) ⟨rfl,Rs,S,by have:=lI (fun R hR=>(S.up R hR).2);omega⟩) ?_)
  ·rintro y c st3 _ hy ⟨rfl,Rs3,S3,le3⟩
   refine Ym (wpS_get ?_)
   have ps:=S3.psize
   by_cases hz:(pendingOf st3).size≤1
   ·exact aj (Yr ⟨rfl,Rs3,S3,by omega⟩) hz
   refine ae ?_ hz
   dsimp only
   generalize hb:Option.any _ _=b
   have hi:(if b=true then (pendingOf st3).size-2-1 else (pendingOf st3).size-2)+1<Rs3.length:=by split <;> omega
   obtain⟨Ls,⟨X,q1⟩,⟨Y,q2⟩,Ts,eR,el⟩:=mU hi
   subst eR
   refine Ym (eH O hC S3 el fun Z st4 S4 lz=>?_)
   refine ae (Yr ⟨rfl,_,S4,?_⟩) (by decide)
   rw[Yk,YB] at le3 ⊢
   rw[YB] at le3
   omega
  ·obtain⟨z1,Rs,S,le⟩:=z
   exact⟨z1,Rs,S,by omega⟩
  ·rintro c st3 ⟨rfl,Rs3,S3,le3⟩
   refine Yr (h _ st3 S3.perm ?_ S3.arr S3.fail)
   rw[YI]
   match Rs3,le3,S3 with
   | [],_,_=>exact List.Pairwise.nil
   | [(R,pw)],_,S3=>
    rw[aQ]
    show Up lt (R++[])
    rw[YI]
    exact (S3.up (R,pw) Yc).1
end
section
variable {prog:Program} {w:World} {A:Around} {E:Kv} {s:Shared}
def dP (vs:List Value)(p:Array Nat):Array Value:=(p.toList.map fun i=>vs.getD i Value.none).toArray
theorem j9 (vs:List Value)(h:vs.length<2):dP vs (List.toArray (List.range vs.length))=(vs.toArray.zip vs.toArray).map (·.2):=by
 cases vs with
 | nil=>simp[dP]
 | cons v r=>
  cases r with
  | nil=>simp[dP,List.range,List.range.loop]
  | cons _ _=>simp at h;omega
theorem fC {a:Addr}{vs:List Value}{n:Nat}{P:PySem.Fin→Shared→Prop}(ho:s.heap.get? a=some (seqObj "list" vs.toArray n))(h64:vs.length<16777216)(κ:SortKind)(lt:Nat→Nat→Bool)(o:Ord lt)
  (hk:2≤vs.length→∀ h',(∀ b u,b≠a→s.heap.get? b=some u→h'.get? b=some u)→∀ Q:SortKind→Shared→Prop,Q κ { s with heap:=h' }→wpAny (model prog w) A (keyKind' vs.toArray) Q E { s with heap:=h' })
  (hc:∀ h',(∀ b u,b≠a→s.heap.get? b=some u→h'.get? b=some u)→∀ i j C,i<vs.length→j<vs.length→C (lt i j) { s with heap:=h' }→kas_ask prog w A κ vs i j C { s with heap:=h' })
  (h:∀ p,PermN vs.length p→Ris lt p vs.length→P (.done (.ret .none)) { s with heap:=sortedHeap s.heap a vs (dP vs p) }) :
  wpAny (model prog w) A (Builtin.«list.sort» ⟨[.ref a],[]⟩) P E s:=by
 rw[list_sort_plain]
 have ha:a<s.heap.objs.size:=Yp ho
 refine Ya (listItems_at ho rfl ?_)
 refine Ya (listUpdate_at ho rfl ?_ (by rw[Yy,YY];omega) (Za _))
 obtain⟨e1,ho1⟩:∃ e1,(s.heap.update a (Obj.mapSeq fun _=>(#[]:Array Value))).get? a=some (seqObj "list" #[] e1):=⟨_,get?_update_seq ho (fun _=>#[])⟩
 refine Ya (seqEpoch_at ho1 rfl ?_)
 refine Ya (wpAny_newTuple ?_ (by show vs.length≤_;rw[YY];omega))
 refine Ya (wpAny_newList ?_ (Za _))
 refine Zy ?_
 have ho6:(((s.heap.update a (Obj.mapSeq fun _=>(#[]:Array Value))).push (seqObj "tuple" vs.toArray 0)).push (seqObj "list" #[] 0)).get? a=some (seqObj "list" #[] e1):=by
  rw[XY _ _ _ (by rw[size_push',Vj];exact YC (Zf ha)),XY _ _ _ (by rw[Vj];exact YC ha)]
  exact ho1
 have kept:∀ b u,b≠a→s.heap.get? b=some u→(((s.heap.update a (Obj.mapSeq fun _=>(#[]:Array Value))).push (seqObj "tuple" vs.toArray 0)).push (seqObj "list" #[] 0)).get? b=some u:=fun b u hb e=>by
  have hlt:b<s.heap.objs.size:=Yp e
  rw[XY _ _ _ (by rw[size_push',Vj];exact YC (Zf hlt)),XY _ _ _ (by rw[Vj];exact YC hlt),YJ _ _ _ _ hb]
  exact e
 show wpAny (model prog w) A _ P E { s with heap:=((s.heap.update a (Obj.mapSeq fun _=>(#[]:Array Value))).push (seqObj "tuple" vs.toArray 0)).push (seqObj "list" #[] 0) }
 dsimp only
 have hsz:vs.toArray.size=vs.length:=by simp
 by_cases h2:vs.toArray.size<2
 ·rw[Yn h2,Yn h2]
  refine Ya (Yd ?_)
  rw[StateT.run_pure]
  refine Ya (Yd ?_)
  dsimp only
  refine Ya (seqEpoch_at ho6 rfl ?_)
  refine Ya (listUpdate_at ho6 rfl ?_ (Za _) (by rw[Array.size_map];show (pairsOf vs).size≤_;rw[pairsOf_size,YY];omega))
  simp only[bne_self_eq_false,Zq,Vm]
  have q:=h (List.toArray (List.range vs.length)) (jw _) (fun i j hij hj=>by
   have e1:i=j:=by omega
   subst e1
   exact o.irr _)
  have e:dP vs (List.toArray (List.range vs.length))=(vs.toArray.zip vs.toArray).map (·.2):=by
   exact j9 vs (by omega)
  rw[e] at q
  exact Yd q
 ·rw[Yo h2,Yo h2]
  have h2':2≤vs.length:=by omega
  refine Ya (hk h2' _ kept _ ?_)
  have hC:Cmp prog w A E { s with heap:=((s.heap.update a (Obj.mapSeq fun _=>(#[]:Array Value))).push (seqObj "tuple" vs.toArray 0)).push (seqObj "list" #[] 0) } vs.length lt κ (pairsOf vs):=p8 fun i j C hi hj q=>by
   have:=hc _ kept i j C hi hj q
   rwa [kas_ask_eq] at this
  have run:=lD (g:=7) o hC (by rw[pairsOf_size]) (Q:=fun _ st'=>∃ p:Array Nat,PermN vs.length p∧Ris lt p vs.length∧arrOf st'=p.map (kas_item (vs.toArray.zip vs.toArray))∧failedOf st'=none) fun l st' h1 h2 h3 h4=>⟨l.toArray,⟨by rw[Yy,h1.length_eq,Zk],h1⟩,fun i j hij hj=>by
   have hl:l.length=vs.length:=by rw[h1.length_eq,Zk]
   have ge:∀ k,k<vs.length→l[k]?=some (l.toArray.getD k 0):=fun k hk=>by
    have:k<l.length:=by omega
    simp[Array.getD,this]
   exact cL h2 o hij (ge i (by omega)) (ge j hj),h3,h4⟩
  refine Ya (ZJ run ?_ fun _ _ e=>e)
  rintro⟨⟨⟩,st'⟩ s' ⟨rfl,p,hp,hr,har,hf⟩
  dsimp only
  have hout:=kat_snds rfl har
  rw[hout]
  refine Ya (seqEpoch_at ho6 rfl ?_)
  refine Ya (listUpdate_at ho6 rfl ?_ (Za _) (by rw[Yy,YA,Yu,hp.size,YY];omega))
  rw[hf]
  simp only[bne_self_eq_false,Zq,Vm]
  exact Yd (h p hp hr)
end
theorem nz {x y:Str}(h:x.cps.toList=y.cps.toList):x=y:=by
 cases x;cases y
 congr
 exact Array.toList_inj.mp h
mutual
theorem aX:∀ x y:D,ab x y=true→(eqd x y=true↔x=y)
 | .int i,.int j,_=>by simp[eqd,aw,PyData.eqv]
 | .bl a,.bl b,_=>by simp[eqd,aw,PyData.eqv]
 | .str a,.str b,_=>by simp[eqd,aw,PyData.eqv]
 | .tup xs,.tup ys,h=>by
  have:=c7 xs ys (by simpa[ab] using h)
  simp only[eqd,aw,PyData.eqv,D.tup.injEq]
  exact this
 | .non,y,h=>by cases y <;> simp[ab] at h
 | .lst _,y,h=>by cases y <;> simp[ab] at h
 | .dT _,y,h=>by cases y <;> simp[ab] at h
 | .dK _,y,h=>by cases y <;> simp[ab] at h
 | .ins _ _,y,h=>by cases y <;> simp[ab] at h
 | .int _,.non,h=>by simp[ab] at h
 | .int _,.bl _,h=>by simp[ab] at h
 | .int _,.str _,h=>by simp[ab] at h
 | .int _,.tup _,h=>by simp[ab] at h
 | .int _,.lst _,h=>by simp[ab] at h
 | .int _,.dT _,h=>by simp[ab] at h
 | .int _,.dK _,h=>by simp[ab] at h
 | .int _,.ins _ _,h=>by simp[ab] at h
 | .bl _,.non,h=>by simp[ab] at h
 | .bl _,.int _,h=>by simp[ab] at h
 | .bl _,.str _,h=>by simp[ab] at h
 | .bl _,.tup _,h=>by simp[ab] at h
 | .bl _,.lst _,h=>by simp[ab] at h
 | .bl _,.dT _,h=>by simp[ab] at h
 | .bl _,.dK _,h=>by simp[ab] at h
 | .bl _,.ins _ _,h=>by simp[ab] at h
 | .str _,.non,h=>by simp[ab] at h
 | .str _,.bl _,h=>by simp[ab] at h
 | .str _,.int _,h=>by simp[ab] at h
 | .str _,.tup _,h=>by simp[ab] at h
 | .str _,.lst _,h=>by simp[ab] at h
 | .str _,.dT _,h=>by simp[ab] at h
 | .str _,.dK _,h=>by simp[ab] at h
 | .str _,.ins _ _,h=>by simp[ab] at h
 | .tup _,.non,h=>by simp[ab] at h
 | .tup _,.bl _,h=>by simp[ab] at h
 | .tup _,.int _,h=>by simp[ab] at h
 | .tup _,.str _,h=>by simp[ab] at h
 | .tup _,.lst _,h=>by simp[ab] at h
 | .tup _,.dT _,h=>by simp[ab] at h
 | .tup _,.dK _,h=>by simp[ab] at h
 | .tup _,.ins _ _,h=>by simp[ab] at h
theorem c7:∀ xs ys:List D,av xs ys=true→(PyData.eqvAll (ay xs) (ay ys)=true↔xs=ys)
 | [],[],_=>by simp[ay,PyData.eqvAll]
 | [],_::_,_=>by simp[ay,PyData.eqvAll]
 | _::_,[],_=>by simp[ay,PyData.eqvAll]
 | x::xs,y::ys,h=>by
  rw[av,Yq] at h
  have h1:=aX x y h.1
  have h2:=c7 xs ys h.2
  simp only[ay,PyData.eqvAll,Yq,List.cons.injEq]
  rw[h2]
  unfold eqd at h1
  rw[h1]
end
structure Fc2 {α:Type} (l:α→α→Bool) (x y:α):Prop where
 as:l x y=true→l y x=false
 an:l x y=false→l y x=false→x=y
def Fc3 {α:Type}(l:α→α→Bool)(x y z:α):Prop:=l x y=true→l y z=true→l x z=true
theorem ah {x y:D}(h:ab x y=true):(∃ i j,x=.int i∧y=.int j)∨(∃ i j,x=.bl i∧y=.bl j)∨(∃ i j,x=.str i∧y=.str j)∨∃ i j,x=.tup i∧y=.tup j∧av i j=true:=by
 cases x with
 | int i=>
  refine .inl ?_
  cases y with
  | int j=>exact⟨_,_,rfl,rfl⟩
  | _=>exact absurd h Yg
 | bl i=>
  refine .inr (.inl ?_)
  cases y with
  | bl j=>exact⟨_,_,rfl,rfl⟩
  | _=>exact absurd h Yg
 | str i=>
  refine .inr (.inr (.inl ?_))
  cases y with
  | str j=>exact⟨_,_,rfl,rfl⟩
  | _=>exact absurd h Yg
 | tup i=>
  refine .inr (.inr (.inr ?_))
  cases y with
  | tup j=>exact⟨_,_,rfl,rfl,h⟩
  | _=>exact absurd h Yg
 | _=>exact absurd h Yg
theorem kA {a b:List Nat}(h:a<b):¬ b<a:=fun h'=>List.lt_irrefl a (List.lt_trans h h')
theorem df {x y:D}(h1:ab x y=true)(ht:cX x=false):Fc2 ltD x y:=by
 rcases ah h1 with⟨i,j,rfl,rfl⟩ | ⟨i,j,rfl,rfl⟩ | ⟨i,j,rfl,rfl⟩ | ⟨i,j,rfl,rfl,_⟩
 ·refine⟨fun h=>?_,fun h h'=>?_⟩
  ·simp only[ltD,YH,ZX] at h ⊢;omega
  ·simp only[ltD,ZX] at h h';rw[show i=j by omega]
 ·refine⟨fun h=>?_,fun h h'=>?_⟩
  ·cases i <;> cases j <;> simp_all [ltD]
  ·cases i <;> cases j <;> simp_all [ltD]
 ·refine⟨fun h=>?_,fun h h'=>?_⟩
  ·simp only[ltD,YH,ZX] at h ⊢;exact kA h
  ·simp only[ltD,ZX] at h h'
   rw[nz (List.le_antisymm h' h)]
 ·cases ht
theorem db {x y z:D}(h1:ab x y=true)(h2:ab y z=true)(ht:cX x=false):Fc3 ltD x y z:=by
 rcases ah h1 with⟨i,j,rfl,rfl⟩ | ⟨i,j,rfl,rfl⟩ | ⟨i,j,rfl,rfl⟩ | ⟨i,j,rfl,rfl,_⟩
 ·rcases ah h2 with⟨j',k,e,rfl⟩ | ⟨j',k,e,rfl⟩ | ⟨j',k,e,rfl⟩ | ⟨j',k,e,rfl,_⟩ <;> cases e
  intro h h'
  simp only[ltD,YH] at h h' ⊢;omega
 ·rcases ah h2 with⟨j',k,e,rfl⟩ | ⟨j',k,e,rfl⟩ | ⟨j',k,e,rfl⟩ | ⟨j',k,e,rfl,_⟩ <;> cases e
  intro h h'
  cases i <;> cases j <;> cases k <;> simp_all [ltD]
 ·rcases ah h2 with⟨j',k,e,rfl⟩ | ⟨j',k,e,rfl⟩ | ⟨j',k,e,rfl⟩ | ⟨j',k,e,rfl,_⟩ <;> cases e
  intro h h'
  simp only[ltD,YH] at h h' ⊢;exact List.lt_trans h h'
 ·cases ht
theorem kl (n:Nat):∀ x y:D,okN n x=true→ab x y=true→ab y x=true:=by
 induction n with
 | zero=>
  intro x y o h
  rcases ah h with⟨i,j,rfl,rfl⟩ | ⟨i,j,rfl,rfl⟩ | ⟨i,j,rfl,rfl⟩ | ⟨i,j,rfl,rfl,_⟩
  ·rfl
  ·rfl
  ·rfl
  ·simp[okN] at o
 | succ n ih=>
  intro x y o h
  rcases ah h with⟨i,j,rfl,rfl⟩ | ⟨i,j,rfl,rfl⟩ | ⟨i,j,rfl,rfl⟩ | ⟨i,j,rfl,rfl,hc⟩
  ·rfl
  ·rfl
  ·rfl
  ·have key:∀ (xs ys:List D),(∀ d∈xs,okN n d=true)→av xs ys=true→av ys xs=true:=by
    intro xs
    induction xs with
    | nil=>intro ys _ _;cases ys <;> simp[av]
    | cons x xs ihx=>
     intro ys ho hc
     cases ys with
     | nil=>simp[av]
     | cons y ys=>
      rw[av,Yq] at hc ⊢
      exact⟨ih x y (ho x Yc) hc.1,ihx ys (fun d hd=>ho d (Yb _ hd)) hc.2⟩
   rw[ab]
   exact key i j (aC o) hc
theorem oB {n:Nat}(ih:∀ x y:D,okN n x=true→okN n y=true→ab x y=true→Fc2 ltD x y) :
  ∀ (xs ys:List D),(∀ d∈xs,okN n d=true)→(∀ d∈ys,okN n d=true)→av xs ys=true→Fc2 aF xs ys:=by
 intro xs
 induction xs with
 | nil=>
  intro ys _ _ _
  refine⟨fun h=>?_,fun h h'=>?_⟩
  ·cases ys <;> simp_all [aF]
  ·cases ys <;> simp_all [aF]
 | cons x xs ihx=>
  intro ys ox oy c1
  cases ys with
  | nil=>
   refine⟨fun h=>?_,fun h h'=>?_⟩
   ·simp[aF] at h
   ·simp[aF] at h'
  | cons y ys=>
   rw[av,Yq] at c1
   have px:=ox x Yc
   have py:=oy y Yc
   have exy:=aX x y c1.1
   have eyx:=aX y x (kl n x y px c1.1)
   have G:=ihx ys (fun d hd=>ox d (Yb _ hd)) (fun d hd=>oy d (Yb _ hd)) c1.2
   refine⟨fun h=>?_,fun h h'=>?_⟩
   ·rw[aF] at h ⊢
    by_cases hxy:x=y
    ·rw[Yn (exy.mpr hxy)] at h
     rw[Yn (eyx.mpr hxy.symm)]
     exact G.as h
    ·rw[Yo (fun q=>hxy (exy.mp q))] at h
     rw[Yo (fun q=>hxy (eyx.mp q).symm)]
     exact (ih x y px py c1.1).as h
   ·rw[aF] at h h'
    by_cases hxy:x=y
    ·rw[Yn (exy.mpr hxy)] at h
     rw[Yn (eyx.mpr hxy.symm)] at h'
     rw[hxy,G.an h h']
    ·rw[Yo (fun q=>hxy (exy.mp q))] at h
     rw[Yo (fun q=>hxy (eyx.mp q).symm)] at h'
     exact absurd ((ih x y px py c1.1).an h h') hxy
theorem cq (n:Nat):∀ x y:D,okN n x=true→okN n y=true→ab x y=true→Fc2 ltD x y:=by
 induction n with
 | zero=>
  intro x y ox oy c1
  refine df c1 ?_
  cases x <;> first | rfl | (simp[okN] at ox)
 | succ n ih=>
  intro x y ox oy c1
  rcases ah c1 with⟨i,j,rfl,rfl⟩ | ⟨i,j,rfl,rfl⟩ | ⟨i,j,rfl,rfl⟩ | ⟨i,j,rfl,rfl,d1⟩
  ·exact df c1 rfl
  ·exact df c1 rfl
  ·exact df c1 rfl
  ·have F:=oB ih i j (aC ox) (aC oy) d1
   refine⟨fun h=>?_,fun h h'=>?_⟩
   ·rw[ltD] at h ⊢;exact F.as h
   ·rw[ltD] at h h';rw[F.an h h']
theorem oK {n:Nat}(ih:∀ x y z:D,okN n x=true→okN n y=true→okN n z=true→ab x y=true→ab y z=true→ab x z=true→Fc3 ltD x y z) :
  ∀ (xs ys zs:List D),(∀ d∈xs,okN n d=true)→(∀ d∈ys,okN n d=true)→(∀ d∈zs,okN n d=true)→av xs ys=true→av ys zs=true→av xs zs=true→Fc3 aF xs ys zs:=by
 intro xs
 induction xs with
 | nil=>
  intro ys zs _ _ _ _ _ _ h h'
  cases ys <;> cases zs <;> simp_all [aF]
 | cons x xs ihx=>
  intro ys zs ox oy oz c1 c2 c3 h h'
  cases ys with
  | nil=>simp[aF] at h
  | cons y ys=>
   rw[av,Yq] at c1
   have px:=ox x Yc
   have py:=oy y Yc
   have exy:=aX x y c1.1
   cases zs with
   | nil=>simp[aF] at h'
   | cons z zs=>
    rw[av,Yq] at c2 c3
    have pz:=oz z Yc
    have eyz:=aX y z c2.1
    have exz:=aX x z c3.1
    have F:=ih x y z px py pz c1.1 c2.1 c3.1
    rw[aF] at h h' ⊢
    by_cases hxy:x=y
    ·rw[Yn (exy.mpr hxy)] at h
     by_cases hyz:y=z
     ·rw[Yn (eyz.mpr hyz)] at h'
      rw[Yn (exz.mpr (hxy.trans hyz))]
      exact ihx ys zs (fun d hd=>ox d (Yb _ hd)) (fun d hd=>oy d (Yb _ hd)) (fun d hd=>oz d (Yb _ hd)) c1.2 c2.2 c3.2 h h'
     ·rw[Yo (fun q=>hyz (eyz.mp q))] at h'
      rw[Yo (fun q=>hyz (hxy.symm.trans (exz.mp q)))]
      rw[hxy];exact h'
    ·rw[Yo (fun q=>hxy (exy.mp q))] at h
     by_cases hyz:y=z
     ·rw[Yo (fun q=>hxy ((exz.mp q).trans hyz.symm))]
      rw[← hyz];exact h
     ·rw[Yo (fun q=>hyz (eyz.mp q))] at h'
      have hxz:=F h h'
      by_cases he:x=z
      ·subst he
       have:=(cq n x y px py c1.1).as h
       rw[h'] at this
       cases this
      ·rw[Yo (fun q=>he (exz.mp q))]
       exact hxz
theorem ot (n:Nat):∀ x y z:D,okN n x=true→okN n y=true→okN n z=true→ab x y=true→ab y z=true→ab x z=true→Fc3 ltD x y z:=by
 induction n with
 | zero=>
  intro x y z ox oy oz c1 c2 c3
  refine db c1 c2 ?_
  cases x <;> first | rfl | (simp[okN] at ox)
 | succ n ih=>
  intro x y z ox oy oz c1 c2 c3
  rcases ah c1 with⟨i,j,rfl,rfl⟩ | ⟨i,j,rfl,rfl⟩ | ⟨i,j,rfl,rfl⟩ | ⟨i,j,rfl,rfl,d1⟩
  ·exact db c1 c2 rfl
  ·exact db c1 c2 rfl
  ·exact db c1 c2 rfl
  ·rcases ah c2 with⟨j',k,e,rfl⟩ | ⟨j',k,e,rfl⟩ | ⟨j',k,e,rfl⟩ | ⟨j',k,e,rfl,d2⟩ <;> cases e
   have F:=oK ih i j k (aC ox) (aC oy) (aC oz) d1 d2 (by simpa[ab] using c3)
   intro h h'
   rw[ltD] at h h' ⊢
   exact F h h'
def kU (x:D):List D→List D
 | []=>[x]
 | y::r=>if ltD x y=true then x::y::r else y::kU x r
def aL:List D→List D
 | []=>[]
 | x::r=>kU x (aL r)
theorem dH (x:D):∀ l:List D,(kU x l).Perm (x::l)
 | []=>.refl _
 | y::r=>by
  unfold kU
  split
  ·exact .refl _
  ·exact ((dH x r).cons y).trans (.swap x y r)
theorem bf:∀ l:List D,(aL l).Perm l
 | []=>.refl _
 | x::r=>(dH x (aL r)).trans ((bf r).cons x)
def Cmps (n:Nat)(ds:List D):Prop:=(∀ d∈ds,okN n d=true)∧∀ x∈ds,∀ y∈ds,ab x y=true
theorem iB {n:Nat}:∀ {as bs:List D},as.Perm bs→Cmps n as→as.Pairwise (fun x y=>ltD y x=false)→bs.Pairwise (fun x y=>ltD y x=false)→as=bs:=by
 intro as
 induction as with
 | nil=>intro bs hp _ _ _;exact (List.Perm.nil_eq hp)
 | cons a as ih=>
  intro bs hp hc pa pb
  cases bs with
  | nil=>exact absurd hp.symm (List.not_perm_nil_cons _ _)
  | cons b bs=>
   have ma:a∈b::bs:=hp.mem_iff.mp Yc
   have mb:b∈a::as:=hp.mem_iff.mpr Yc
   have e:a=b:=by
    rcases YF.mp ma with h | h
    ·exact h
    ·rcases YF.mp mb with h' | h'
     ·exact h'.symm
     ·have l1:=(YV.mp pa).1 b h'
      have l2:=(YV.mp pb).1 a h
      exact (cq n a b (hc.1 a Yc) (hc.1 b mb) (hc.2 a Yc b mb)).an l2 l1
   subst e
   rw[ih (List.Perm.cons_inv hp) ⟨fun d hd=>hc.1 d (Yb _ hd),fun x hx y hy=>hc.2 x (Yb _ hx) y (Yb _ hy)⟩ (YV.mp pa).2 (YV.mp pb).2]
theorem Cmps.perm {n:Nat}{as bs:List D}(h:Cmps n as)(p:as.Perm bs):Cmps n bs:=⟨fun d hd=>h.1 d (p.mem_iff.mpr hd),fun x hx y hy=>h.2 x (p.mem_iff.mpr hx) y (p.mem_iff.mpr hy)⟩
theorem gn {n:Nat}{x y z:D}(ox:okN n x=true)(oy:okN n y=true)(oz:okN n z=true)(cxy:ab x y=true)(cyz:ab y z=true)(cxz:ab x z=true)(cyx:ab y x=true)(czy:ab z y=true)(czx:ab z x=true)
  (h1:ltD y x=false) (h2:ltD z y=false):ltD z x=false:=by
 cases q:ltD z x with
 | false=>rfl
 | true=>
  -- z<x;x≤y
  by_cases hxy:ltD x y=true
  ·have:=ot n z x y oz ox oy czx cxy czy q hxy
   rw[h2] at this;cases this
  ·have e:x=y:=(cq n x y ox oy cxy).an (by simpa using hxy) h1
   subst e
   rw[h2] at q;cases q
theorem dR {n:Nat}{x:D}:∀ {l:List D},Cmps n (x::l)→l.Pairwise (fun a b=>ltD b a=false)→(kU x l).Pairwise (fun a b=>ltD b a=false)
 | [],_,_=>ZD _ _
 | y::r,hc,hp=>by
  have mx:x∈x::y::r:=Yc
  have my:y∈x::y::r:=Yb _ Yc
  obtain⟨h1,h2⟩:=YV.mp hp
  unfold kU
  split
  ·rename_i q
   refine YV.mpr ⟨fun z hz=>?_,hp⟩
   have hyx:ltD y x=false:=(cq n x y (hc.1 x mx) (hc.1 y my) (hc.2 x mx y my)).as q
   rcases YF.mp hz with rfl | hz
   ·exact hyx
   ·have mz:z∈x::y::r:=Yb _ (Yb _ hz)
    exact gn (hc.1 x mx) (hc.1 y my) (hc.1 z mz) (hc.2 x mx y my) (hc.2 y my z mz) (hc.2 x mx z mz) (hc.2 y my x mx) (hc.2 z mz y my) (hc.2 z mz x mx) hyx (h1 z hz)
  ·rename_i q
   refine YV.mpr ⟨fun z hz=>?_,dR (x:=x) ⟨fun d hd=>hc.1 d ?_,fun a ha b hb=>hc.2 a ?_ b ?_⟩ h2⟩
   ·rcases YF.mp ((dH x r).mem_iff.mp hz) with rfl | hz
    ·simpa using q
    ·exact h1 z hz
   all_goals
    first
     | (
      rcases YF.mp hd with rfl | hd
      ·exact mx
      ·exact Yb _ (Yb _ hd))
     | (
      rcases YF.mp ha with rfl | ha
      ·exact mx
      ·exact Yb _ (Yb _ ha))
     | (
      rcases YF.mp hb with rfl | hb
      ·exact mx
      ·exact Yb _ (Yb _ hb))
theorem Cmps.sub {n:Nat}{as bs:List D}(h:Cmps n bs)(k:∀ x∈as,x∈bs):Cmps n as:=⟨fun d hd=>h.1 d (k d hd),fun x hx y hy=>h.2 x (k x hx) y (k y hy)⟩
theorem bD {n:Nat}:∀ {l:List D},Cmps n l→(aL l).Pairwise (fun a b=>ltD b a=false)
 | [],_=>.nil
 | x::r,hc=>dR (hc.sub fun y hy=>by
   rcases YF.mp hy with rfl | hy
   ·exact Yc
   ·exact Yb _ ((bf r).mem_iff.mp hy)) (bD (hc.sub fun y hy=>Yb _ hy))
theorem e8 {n:Nat}{as bs:List D}(hp:as.Perm bs)(hc:Cmps n bs)(hs:as.Pairwise (fun x y=>ltD y x=false)):as=aL bs:=
 iB (hp.trans (bf bs).symm) (hc.perm hp.symm) hs (bD hc)
theorem eX {n:Nat}{as bs:List D}(hp:as.Perm bs)(hc:Cmps n bs):aL as=aL bs:=
 e8 ((bf as).trans hp) hc (bD (hc.perm hp.symm))
end L2
namespace L2
open PySem PySem.Spec PyProof.Rows
section
variable {X:Cx} {e a b c o:Expr} {es:List Expr} {pos p:Pos}
theorem lP {K:Kq}{H:Hp}{x:V}{i:Str}(r:Rep K H x (.str i)):x=.str i:=by cases r;rfl
def leS:D→D→Option D
 | .str x,.str y=>some (.bl (!decide (y.cps.toList<x.cps.toList)))
 | _,_=>none
def leA (x y:D):Option D:=(leI x y).or (leS x y)
def chD (f g:Dy)(fa fb fc:Dd):DF→Option D:=fun ρ=>(fa ρ).bind fun x=>(fb ρ).bind fun y=>match f x y with
 | some (.bl true)=>(fc ρ).bind fun z=>g y z
 | some (.bl false)=>some (.bl false)
 | _=>none
def rF (K:Kq)(r:List V→Hp→VK→Prop)(f:D→Option D):Prop:=
 ∀ (P F H:Hp) (x:V) (dx d:D) (Q:VK),f dx=some d→DHp P F H→Rep K H x dx→(∀ v F' H',Evo P F H F' H'→Rep K F' v d→Q v H')→r [x] H Q
theorem mF {K:Kq}{r:List V→Hp→VK→Prop}{f:D→Option D}{fa:Dd}(ho:rF K r f):∀ σ H Q,tD K (d1 f fa) σ H Q→tCB r (m8 (tN K fa) qa) σ H Q:=fun σ H Q=>un7 fun P F ρ d hf I k=>by
 unfold d1 at hf
 cases ha:fa ρ with
 | none=>rw[ha] at hf;cases hf
 | some dx=>
  rw[ha,Yh] at hf
  exact⟨P,F,ρ,dx,ha,I,fun x F1 H1 e1 rx=>ho P F1 H1 x dx d Q hf e1.hp rx fun v F2 H2 e2 rv=>k v F2 H2 (e1.trans e2) rv⟩
theorem qU {K:Kq}:rF K (si K) dZ:=by
 intro P F H x dx d Q hf hp rx k
 unfold dZ at hf
 split at hf
 ·cases hf
  cases rx with | lst h1 h2=>exact .inl ⟨_,_,rfl,.inl h1,by rw[h2.length];exact k _ F H (Evo.refl hp) .int⟩
 ·cases hf
  cases rx with | tup h1 h2=>exact .inl ⟨_,_,rfl,.inr (SqT.of h1),by rw[h2.length];exact k _ F H (Evo.refl hp) .int⟩
 ·split at hf
  ·rename_i h
   cases hf
   exact .inr ⟨_,by rw[lP rx],by rw[YY];exact h,k _ F H (Evo.refl hp) .int⟩
  ·cases hf
 ·cases hf
theorem g7 {fa:Dd}(hg:Gl X "len")(hm:X.mg "len"=none)(ha:PDN X e fa)(hs:starEach [e] X.env=[(false,eval e X.env)]:=by rfl)(hpl:(backTo pos (starEach [] X.env)).any (·.1)=false:=by rfl) :
  PDE X (.Call (.Name "len" p) [e] [] pos) (d1 dZ fa):=
 (cV (gT.or g5) hg hm PySem.boot_len (aW ha bS hs) (by decide) (by decide) hs hpl).imp (mF qU)
theorem boot_int:bootBuiltins "int"=some (.type "int"):=by rfl
theorem boot_list:bootBuiltins "list"=some (.type "list"):=by rfl
theorem boot_bool:bootBuiltins "bool"=some (.type "bool"):=by rfl
theorem me:bootBuiltins "set"=some (.type "set"):=by rfl
theorem d5:bootBuiltins "isinstance"=some (.builtin "isinstance"):=by rfl
theorem lA:bootBuiltins "all"=some (.builtin "all"):=by rfl
theorem iO:bootBuiltins "sorted"=some (.builtin "sorted"):=by rfl
def eP (f:Dd):DF→Option (List D):=fun ρ=>(f ρ).bind cu
theorem iS {fa:Dd}(hg:Gl X "list")(hm:X.mg "list"=none)(ha:PDR X e fa)(hs:starEach [e] X.env=[(false,eval e X.env)]:=by rfl) :
  PDO X (.Call (.Name "list" p) [e] [] pos) (asL (eP fa)):=
 (fN gK hg hm boot_list (aW ha bS hs) (he:=hs)).imp fun σ H Q=>un7 fun P F ρ ob hf I k=>by
  unfold asL eP at hf
  cases ha:fa ρ with
  | none=>rw[ha] at hf;cases hf
  | some dx=>
   rw[ha,Yh] at hf
   cases hi:cu dx with
   | none=>rw[hi] at hf;cases hf
   | some ds=>
    rw[hi] at hf
    cases hf
    refine⟨P,F,ρ,dx,ha,I,fun x F1 H1 e1 rx=>?_⟩
    have I1:=I.evo e1
    have fin:∀ vs,Reps X.K F1 vs ds→∀ l,H1 l=none→Q (.ref l) (upd H1 l (.lst vs)):=fun vs r l hl=>
     k l F1 _ (e1.trans (Evo.side e1.hp hl)) ⟨⟨e1.back I.toDHp hl,(e1.hp.free hl).1⟩,_,aD,r⟩
    cases dx with
    | lst ds'=>
     cases hi
     obtain⟨q,vs,rfl,h1,h2⟩:=cG I1 rx
     exact⟨q,vs,rfl,.inl h1,fin vs h2⟩
    | tup ds'=>
     cases hi
     obtain⟨q,vs,rfl,h1,h2⟩:=d_ I1 rx
     exact⟨q,vs,rfl,.inr h1,fin vs h2⟩
    | _=>cases hi
def pD (K:Kq):R2:=fun x y H Q=>∃ l b xs zs,x=.ref l∧y=.ref b∧SqL K H l xs∧SqL K H b zs∧xs.length+zs.length≤sizeLine∧∀ p,H p=none→Q (.ref p) (upd H p (.lst (xs++zs)))
theorem oP:OpR X (binaryOp .Add) (pD X.K):=by
 intro pz s σ H x y v u Q I rx ry h
 obtain⟨l,b,xs,zs,rfl,rfl,hH,hB,hz,q⟩:=h
 cases rx
 cases ry
 obtain⟨its,r,p1,_⟩:=I.list hH
 obtain⟨its2,r2,p2,_⟩:=I.list hB
 obtain⟨⟨cls,dd,data,sl⟩,n,ho,hc,hdd,hd⟩:=p1
 obtain⟨⟨cls2,dd2,data2,sl2⟩,n2,ho2,hc2,hdd2,hd2⟩:=p2
 simp only at hc hd hc2 hd2
 subst hc hd hc2 hd2
 have e1:=r.length
 have e2:=r2.length
 refine concat_meets ⟨_,ho,rfl⟩ ⟨_,ho2,rfl⟩ PySem.noFill_list_add PySem.seq_list_add PySem.F.slot_list_add PySem.F.entry_list_add (PySem.F.args_list_add_2 _ _) (list_addW l b its.toArray its2.toArray n n2 dd dd2 sl sl2 (by rw[Yy,Yy];omega)) ⟨ho,ho2,?_⟩
 have ea:its.toArray++its2.toArray=(its++its2).toArray:=by simp
 rw[ea]
 exact⟨.ref _,_,I.lnew (t':=s.toks) (r.append r2) (by rw[Yk];omega),rfl,q _ I.fresh⟩
end
section
variable {X:Cx} {k:Nat} {f C:Addr} {fd:FuncData} {ps:List Str} {m:Dm} {mM:Dz} {x mn:Str} {p pos apos spos:Pos} {e o:Expr} {es:List Expr} {g:Dv}
end
def g0:DF→Option (List DV):=fun _=>some []
section
variable {X:Cx} {k:Nat} {f C:Addr} {fd:FuncData} {ps:List Str} {m:Dm} {mM:Dz} {x mn:Str} {p pos apos spos:Pos} {e o:Expr} {es:List Expr} {g:Dv} {s:DF→Option DV}
end
section
variable {κ:Type} [DecidableEq κ]
end
section
variable {X:Cx} {a b o i e f:Expr} {pos pos' apos cpos:Pos} {fd fk fx fv:Dd}
end
end L2
namespace L2
open PySem PySem.Spec PyProof.Rows PySem.W
section
variable {prog:Program} {w:World} {A:Around} {E:Kv} {s:Shared}
def gH (prog:Program)(w:World)(A:Around)(Q:Kv)(vs:List Value)(s1:Shared):Prop:=
 vs.length<16777216∧∃ (κ:SortKind) (lt:Nat→Nat→Bool),Ord lt ∧
  (2≤vs.length→∀ h',(∀ b u,s1.heap.get? b=some u→h'.get? b=some u)→∀ (Q:SortKind→Shared→Prop) (E:Kv),Q κ { s1 with heap:=h' }→wpAny (model prog w) A.in1.in1 (keyKind' vs.toArray) Q E { s1 with heap:=h' }) ∧
  (∀ h',(∀ b u,s1.heap.get? b=some u→h'.get? b=some u)→∀ i j C,i<vs.length→j<vs.length→C (lt i j) { s1 with heap:=h' }→kas_ask prog w A.in1.in1 κ vs i j C { s1 with heap:=h' }) ∧
  ∀ p,PermN vs.length p→Ris lt p vs.length→∀ (a:Addr) (h':Heap) (e:Nat),(∀ b u,s1.heap.get? b=some u→h'.get? b=some u)→s1.heap.objs.size≤a→h'.get? a=some (seqObj "list" (dP vs p) e)→Q (.ref a) { s1 with heap:=h' }
theorem dW {v:Value}{Q:Kv}(hcol:wpAny (model prog w) A.in1 (collect v) (gH prog w A Q) E s) :
  wpAny (model prog w) A (call (.builtin "sorted") [v]) Q E s:=by
 refine Calls.call_function_entry kind_sorted plain_sorted entry_sorted (args_sorted1 _) ?_
 unfold Builtin.«sorted»
 refine Ya (m:=checkCount "sorted" 1 1 _) (Yd ?_)
 refine Ya (ZJ hcol (fun vs s1 hh_=>?_) fun _ _ e=>e)
 obtain⟨h64,κ,lt,o,hk,hc,h⟩:=hh_
 refine Ya (wpAny_newList ?_ (by rw[YY];omega))
 have hoL:(s1.heap.push (seqObj "list" vs.toArray 0)).get? s1.heap.objs.size=some (seqObj "list" vs.toArray 0):=Ys _ rfl
 have keep:∀ b u,s1.heap.get? b=some u→(s1.heap.push (seqObj "list" vs.toArray 0)).get? b=some u:=fun b u q=>Yf _ q
 show wpAny _ _ _ _ _ { s1 with heap:=s1.heap.push (seqObj "list" vs.toArray 0) }
 have lift:∀ h':Heap,(∀ b u,b≠s1.heap.objs.size→(s1.heap.push (seqObj "list" vs.toArray 0)).get? b=some u→h'.get? b=some u)→∀ b u,s1.heap.get? b=some u→h'.get? b=some u:=fun h' k b u e=>
  k b u (YC (Yp e)) (keep b u e)
 refine Ya (Zy (Zn slot_list_sort ⟨_,hoL,rfl⟩ entry_list_sort ?body (args_list_sort _)))
 case body=>
  refine fC hoL h64 κ lt o (fun h2 h' k Q q=>hk h2 h' (lift h' k) Q _ q) (fun h' k=>hc h' (lift h' k)) fun p hp hr=>⟨_,rfl,?_⟩
  obtain⟨e,he⟩:=sortedHeap_at (out:=dP vs p) hoL
  refine Yd ⟨_,rfl,h p hp hr s1.heap.objs.size _ e (fun b u q=>?_) (Yw _) he⟩
  have hlt:b<s1.heap.objs.size:=Yp q
  show (sortedHeap (s1.heap.push (seqObj "list" vs.toArray 0)) s1.heap.objs.size vs (dP vs p)).get? b=some u
  rw[sortedHeap_old (YC hlt) (by rw[size_push'];exact Zf hlt)]
  exact keep b u q
end
def sk:D→Bool
 | .int _=>true
 | .str _=>true
 | .tup (_::_)=>true
 | _=>false
def fk:D→Bool
 | .int _=>true
 | .str _=>true
 | .tup _=>true
 | _=>false
def gU:D→Bool
 | .tup (d::_)=>fk d
 | _=>true
def bw (ds:List D):Bool:=decide (ds.length<16777216)&&ds.all (okN 28)&&(ds.all fun x=>ds.all fun y=>ab x y)&&ds.all sk&&ds.all gU
theorem bL {ds:List D}(h:bw ds=true):ds.length<16777216∧Cmps 28 ds∧(∀ d∈ds,sk d=true)∧∀ d∈ds,gU d=true:=by
 unfold bw at h
 simp only[Yq,YH] at h
 obtain⟨⟨⟨⟨h1,h2⟩,h3⟩,h4⟩,h5⟩:=h
 exact⟨h1,⟨fun d hd=>Yj.mp h2 d hd,fun x hx y hy=>Yj.mp (Yj.mp h3 x hx) y hy⟩,fun d hd=>Yj.mp h4 d hd,fun d hd=>Yj.mp h5 d hd⟩
def dAt (ds:List D)(i:Nat):D:=ds.getD i (ds.headD (.int 0))
theorem gS {ds:List D}(h:ds≠[])(i:Nat):dAt ds i∈ds:=by
 unfold dAt
 cases ds with
 | nil=>exact absurd rfl h
 | cons d r=>
  rw[YM]
  cases q:(d::r)[i]? with
  | none=>exact Yc
  | some x=>exact YG q
theorem gD {ds:List D}{i:Nat}(h:i<ds.length):ds[i]?=some (dAt ds i):=by
 unfold dAt
 rw[YM,Ye h]
 rfl
theorem qR {n:Nat}{ds:List D}(hc:Cmps n ds):Ord fun i j=>ltD (dAt ds i) (dAt ds j):=by
 by_cases hn:ds=[]
 ·subst hn
  have e:∀ i,dAt [] i=.int 0:=fun i=>by simp[dAt]
  refine⟨fun i j h=>?_,fun i j k h1 h2=>?_⟩
  ·rw[e,e] at h;simp[ltD] at h
  ·rw[e,e];simp[ltD]
 ·have m:=fun i=>gS hn i
  refine⟨fun i j h=>?_,fun i j k h1 h2=>?_⟩
  ·exact (cq n _ _ (hc.1 _ (m i)) (hc.1 _ (m j)) (hc.2 _ (m i) _ (m j))).as h
  ·exact gn (hc.1 _ (m i)) (hc.1 _ (m j)) (hc.1 _ (m k)) (hc.2 _ (m i) _ (m j)) (hc.2 _ (m j) _ (m k)) (hc.2 _ (m i) _ (m k)) (hc.2 _ (m j) _ (m i)) (hc.2 _ (m k) _ (m j)) (hc.2 _ (m k) _ (m i)) h1 h2
theorem jh {n:Nat}{ds:List D}(hc:Cmps n ds){p:Array Nat}(hp:PermN ds.length p)(hr:Ris (fun i j=>ltD (dAt ds i) (dAt ds j)) p ds.length):p.toList.map (dAt ds)=aL ds:=by
 refine e8 (n:=n) ?_ hc ?_
 ·have h1:(p.toList.map (dAt ds)).Perm ((List.range ds.length).map (dAt ds)):=hp.perm.map _
  have h2:(List.range ds.length).map (dAt ds)=ds:=by
   apply ZT
   intro i
   rw[YZ]
   by_cases h:i<ds.length
   ·rw[XD h,ZG,gD h]
   ·rw[ZA (by rw[Zk];omega),ZA (by omega)];rfl
  rw[h2] at h1
  exact h1
 ·rw[VB,Zx]
  intro i j hi hj hij
  have hs:=hp.size
  rw[Yu] at hi hj
  have:=hr i j (XE hij) (by omega)
  have e:∀ k (h:k<p.size),p.getD k 0=p[k]:=fun k h=>by simp[Array.getD,h]
  rw[e i hi,e j hj] at this
  simpa using this
theorem Reps.perm {K:Kq}{H:Hp}{vs:List V}{ds:List D}(r:Reps K H vs ds)(hn:ds≠[]):∀ (l:List Nat),(∀ i∈l,i<ds.length)→Reps K H (l.map fun i=>vs.getD i .non) (l.map (dAt ds))
 | [],_=>.nil
 | i::l,h=>by
  obtain⟨v,h1,h2⟩:=r.get (gD (h i Yc))
  have e:vs.getD i .non=v:=by rw[YM,h1];rfl
  rw[ZY,ZY]
  show Reps K H (vs.getD i .non::_) _
  rw[e]
  exact .cons h2 (Reps.perm r hn l fun j hj=>h j (Yb _ hj))
theorem Vals.perm {vs:List V}{us:List Value}(r:Vals vs us):∀ (l:List Nat),(∀ i∈l,i<vs.length)→Vals (l.map fun i=>vs.getD i .non) (l.map fun i=>us.getD i Value.none)
 | [],_=>.nil
 | i::l,h=>by
  have hi:=h i Yc
  obtain⟨u,h1,h2⟩:=r.get (Ye hi)
  have e1:vs.getD i .non=vs[i]:=by rw[YM,Ye hi];rfl
  have e2:us.getD i Value.none=u:=by rw[YM,h1];rfl
  rw[ZY,ZY]
  show Vals (vs.getD i .non::_) (us.getD i Value.none::_)
  rw[e1,e2]
  exact .cons h2 (Vals.perm r l fun j hj=>h j (Yb _ hj))
def tyD:D→Value
 | .int _=>.type "int"
 | .str _=>.type "str"
 | _=>.type "tuple"
section
variable {X:Cx} {pz:Kp} {σ:St} {H:Hp} {s:Shared}
theorem Rep.ty (I:Inv X pz σ H s){v:V}{d:D}{u:Value}(h:Rep X.K H v d)(hk:fk d=true)(r:RelV v u)(M:Model):Looks M s.heap (typeOf u) (tyD d):=by
 cases d with
 | int i=>cases h;obtain⟨t,rfl⟩:=(show ∃ t,u=Value.int _ t from r);exact Looks.of_pure rfl
 | str i=>cases h;obtain⟨t,rfl⟩:=(show ∃ t,u=Value.str _ t from r);exact Looks.of_pure rfl
 | tup ds=>
  cases h with
  | tup h1 h2=>
   cases (show u=Value.ref _ from r)
   obtain⟨its,rv,⟨o,ho,hc,n,hd⟩,_⟩:=I.tuple (SqT.of h1)
   have:=(Looks.ld (M:=M) (part:=none) ho).andThen (f:=fun o=>pure o.cls) .now
   rw[hc] at this
   exact this
 | _=>cases hk
theorem jy {x y:D}(h:ab x y=true)(hx:fk x=true):tyD x=tyD y:=by
 rcases ah h with⟨i,j,rfl,rfl⟩ | ⟨i,j,rfl,rfl⟩ | ⟨i,j,rfl,rfl⟩ | ⟨i,j,rfl,rfl,_⟩
 ·rfl
 ·cases hx
 ·rfl
 ·rfl
def fL:List D→SortKind
 | .tup (d::_)::_=>tuples' (tyD d != .type "tuple")
 | _=>oneType'
theorem jl (I:Inv X pz σ H s):∀ {vs:List V} {ds:List D} {us:List Value},Reps X.K H vs ds→Vals vs us→(∀ d∈ds,∃ x r,d=.tup (x::r)∧fk x=true)→∀ T:Value,(∀ x r,.tup (x::r)∈ds→tyD x=T)→
  ∃ fs:List Value,KatTups s.heap us fs∧fs.length=us.length∧∀ M,∀ v∈fs,Looks M s.heap (typeOf v) T:=by
 intro vs ds us h
 exact Reps.ind (M:=fun vs ds=>∀ us:List Value,Vals vs us→(∀ d∈ds,∃ x r,d=.tup (x::r)∧fk x=true)→∀ T:Value,(∀ x r,.tup (x::r)∈ds→tyD x=T) →     ∃ fs:List Value,KatTups s.heap us fs∧fs.length=us.length∧∀ M,∀ v∈fs,Looks M s.heap (typeOf v) T) (fun us r _ _ _=>by cases r;exact⟨[],.nil,rfl,fun _ _ h=>by cases h⟩) (fun h _ ih us r0 hd T hT=>by
  cases r0 with
  | cons r t=>
  obtain⟨x,rr,rfl,hx⟩:=hd _ Yc
  obtain⟨fs,f1,f2,f3⟩:=ih _ t (fun d m=>hd d (Yb _ m)) T fun x r m=>hT x r (Yb _ m)
  cases h with
  | tup h1 h2=>
   cases (show _=Value.ref _ from r)
   obtain⟨its,rv,⟨o,ho,hc,n,hdt⟩,_⟩:=I.tuple (SqT.of h1)
   cases h2 with
   | cons g1 g2=>
    cases rv with
    | cons k1 k2=>
     refine⟨_::fs,KatTups.cons ho hc hdt (by simp;rfl) f1,by rw[YB,YB,f2],fun M v hv=>?_⟩
     rcases YF.mp hv with rfl | hv
     ·rw[← hT x rr Yc]
      exact g1.ty I hx k1 M
     ·exact f3 M v hv) h us
theorem gs {d:D}(h:sk d=true)(ht:cX d=false):fk d=true:=by cases d <;> first | rfl | cases h | cases ht
theorem oa (I:Inv X pz σ H s){vs:List V}{ds:List D}{us:List Value}(r:Reps X.K H vs ds)(rv:Vals vs us)(ok:bw ds=true)(h2:2≤us.length){A:Around}{M:Model}{Q:SortKind→Shared→Prop}{E:Kv}(hQ:Q (fL ds) s) :
  wpAny M A (keyKind' us.toArray) Q E s:=by
 obtain⟨hl,hc,hs,hf⟩:=bL ok
 have l1:=r.length
 have l2:=rv.length
 cases ds with
 | nil=>rw[Ze] at l1;omega
 | cons d dr=>
  have md:d∈d::dr:=Yc
  cases ht:cX d with
  | true=>
   cases d with
   | tup xs=>
    cases xs with
    | nil=>have:=hs _ md;cases this
    | cons x rr=>
     have hx:fk x=true:=hf _ md
     have all:∀ d'∈(D.tup (x::rr)::dr),∃ y r',d'=.tup (y::r')∧fk y=true∧tyD y=tyD x:=fun d' m=>by
      have hcm:=hc.2 _ md _ m
      rcases ah hcm with⟨i,j,e,_⟩ | ⟨i,j,e,_⟩ | ⟨i,j,e,_⟩ | ⟨i,j,e,e2,hcs⟩
      ·cases e
      ·cases e
      ·cases e
      ·cases e
       subst e2
       cases j with
       | nil=>have:=hs _ m;cases this
       | cons y r'=>
        rw[av,Yq] at hcs
        exact⟨y,r',rfl,hf _ m,(jy hcs.1 hx).symm⟩
     obtain⟨fs,f1,f2,f3⟩:=jl I r rv (fun d' m=>by obtain⟨y,r',e,h,_⟩:=all d' m;exact⟨y,r',e,h⟩) (tyD x) fun y r' m=>by
      obtain⟨y',r'',e,_,h⟩:=all _ m
      cases e
      exact h
     exact kat_kind f1 (by omega) (f3 M) (by cases x <;> rfl) hQ
   | _=>cases ht
  | false=>
   have hd:fk d=true:=gs (hs d md) ht
   have e:fL (d::dr)=oneType':=by cases d <;> first | rfl | cases ht
   rw[e] at hQ
   have hT:∀ u∈us,Looks M s.heap (typeOf u) (tyD d):=fun u hu=>by
    obtain⟨i,hi,eu⟩:=ZI hu
    have hiv:i<vs.length:=by omega
    obtain⟨u',e1,e2⟩:=rv.get (Ye hiv)
    rw[Ye hi,eu] at e1
    cases e1
    obtain⟨d',e3,e4⟩:=r.getV (Ye hiv)
    have m:=YG e3
    have hcm:=hc.2 _ md _ m
    rw[jy hcm hd]
    refine e4.ty I ?_ e2 M
    refine gs (hs d' m) ?_
    rcases ah hcm with⟨i,j,rfl,rfl⟩ | ⟨i,j,rfl,rfl⟩ | ⟨i,j,rfl,rfl⟩ | ⟨i,j,rfl,rfl,_⟩
    ·rfl
    ·rfl
    ·rfl
    ·cases ht
   refine kas_kind h2 hT ?_ ?_ hQ
   ·cases d <;> first | rfl | (simp[fk] at hd;done) | (simp[cX] at ht;done)
   ·cases d <;> rfl
theorem nV {A:Around}{prog:Program}{w:World}{b:Bool}{Q:Kb}{n1 n2:Nat}:∀ {us ws:List Value} {ds es:List D} (i:Nat),LexOk A s us ws ds es→(b=true→i=0→∀ u w' d e ur wr dr er,us=u::ur→ws=w'::wr→ds=d::dr→es=e::er→∀ (Q:Kb) (E:Kv),Q (ltD d e) s→wpAny (model prog w) A (oneLt' true u w') Q E s)→
  us.length+n2=ws.length+n1→Q (aF ds es) s→KatLex prog w A b (decide (n1<n2)) Q (us.zip ws) i s:=by
 intro us ws ds es i h
 induction h generalizing i with
 | @nl ws es hl=>
  intro _ hn hQ
  rw[List.zip_nil_left]
  refine kat_nil ?_
  rw[Ze] at hn
  cases es with
  | nil=>
   rw[Ze] at hl
   rw[show aF [] []=false by simp[aF]] at hQ
   rw[YR (by omega)];exact hQ
  | cons c r=>
   rw[YB] at hl
   rw[show aF [] (c::r)=true by simp[aF]] at hQ
   rw[Zm (by omega)];exact hQ
 | @nr vs ds hl=>
  intro _ hn hQ
  rw[List.zip_nil_right]
  refine kat_nil ?_
  rw[Ze] at hn
  cases ds with
  | nil=>
   rw[Ze] at hl
   rw[show aF [] []=false by simp[aF]] at hQ
   rw[YR (by omega)];exact hQ
  | cons c r=>
   rw[YB] at hl
   rw[show aF (c::r) []=false by simp[aF]] at hQ
   rw[YR (by omega)];exact hQ
 | @cons v w' d e _ _ _ _ he hlt hx ih=>
  intro h1 hn hQ
  rw[Vx]
  rw[YB,YB] at hn
  refine kat_cons (he prog w _ _ ?_)
  cases q:eqd d e with
  | true=>
   rw[aF,Yn q] at hQ
   exact kat_yes (ih (i+1) (fun _ z=>by omega) (by omega) hQ)
  | false=>
   rw[aF,Yo (by rw[q];exact Yg)] at hQ
   refine kat_no ?_
   cases hb:(b&&i == 0) with
   | true=>
    rw[Yq] at hb
    exact h1 hb.1 (by simpa using hb.2) _ _ _ _ _ _ _ _ rfl rfl rfl rfl _ _ hQ
   | false=>exact kat_one _ _ (hlt q prog w _ _ hQ)
theorem nj {A:Around}{prog:Program}{w:World}{x y:V}{d e:D}{u v:Value}(h1:Rep X.K H x d)(h2:Rep X.K H y e)(c:ab d e=true)(hd:fk d=true)(ht:cX d=false)(r1:RelV x u)(r2:RelV y v){Q:Kb}{E:Kv}(hQ:Q (ltD d e) s) :
  wpAny (model prog w) A (oneLt' true u v) Q E s:=by
 rcases ah c with⟨i,j,rfl,rfl⟩ | ⟨i,j,rfl,rfl⟩ | ⟨i,j,rfl,rfl⟩ | ⟨i,j,rfl,rfl,_⟩
 ·cases h1;cases h2
  obtain⟨t,rfl⟩:=(show ∃ t,u=Value.int _ t from r1)
  obtain⟨t',rfl⟩:=(show ∃ t,v=Value.int _ t from r2)
  exact oneLt_int (by rw[ltD] at hQ;exact hQ)
 ·cases hd
 ·cases h1;cases h2
  obtain⟨t,rfl⟩:=(show ∃ t,u=Value.str _ t from r1)
  obtain⟨t',rfl⟩:=(show ∃ t,v=Value.str _ t from r2)
  exact oneLt_str (by rw[ltD] at hQ;exact hQ)
 ·cases ht
theorem qt (I:Inv X pz σ H s){vs:List V}{ds:List D}{us:List Value}(r:Reps X.K H vs ds)(rv:Vals vs us)(ok:bw ds=true){A:Around}(hu:A.units+60<cLine){prog:Program}{w:World}{i j:Nat}{C:Kb}(hi:i<us.length)(hj:j<us.length)(hQ:C (ltD (dAt ds i) (dAt ds j)) s) :
  kas_ask prog w A (fL ds) us i j C s:=by
 obtain⟨hl,hc,hs,hf⟩:=bL ok
 have l1:=r.length
 have l2:=rv.length
 obtain⟨v,e1,r1⟩:=r.get (gD (show i<ds.length by omega))
 obtain⟨v',e2,r2⟩:=r.get (gD (show j<ds.length by omega))
 obtain⟨u,e3,k1⟩:=rv.get e1
 obtain⟨u',e4,k2⟩:=rv.get e2
 have hn:ds≠[]:=fun z=>by rw[z,Ze] at l1;omega
 have mi:=gS hn i
 have mj:=gS hn j
 have hcm:=hc.2 _ mi _ mj
 unfold kas_ask
 have g1:us.getD i Value.none=u:=by rw[YM,e3];rfl
 have g2:us.getD j Value.none=u':=by rw[YM,e4];rfl
 rw[g1,g2]
 generalize hx:dAt ds i=x at *
 generalize hy:dAt ds j=y at *
 cases ht:cX x with
 | false=>
  have e:fL ds=oneType':=by
   cases ds with
   | nil=>exact absurd rfl hn
   | cons d dr=>
    have:=hc.2 _ mi d Yc
    rcases ah this with⟨i,j,rfl,rfl⟩ | ⟨i,j,rfl,rfl⟩ | ⟨i,j,rfl,rfl⟩ | ⟨i,j,rfl,rfl,_⟩
    ·rfl
    ·rfl
    ·rfl
    ·cases ht
  rw[e,keyLt'_oneType]
  exact nj r1 r2 hcm (gs (hs _ mi) ht) ht k1 k2 hQ
 | true=>
  cases x with
  | tup xs=>
   cases xs with
   | nil=>have:=hs _ mi;cases this
   | cons x0 xr=>
    rcases ah hcm with⟨_,_,e,_⟩ | ⟨_,_,e,_⟩ | ⟨_,_,e,_⟩ | ⟨xs',ys,e,rfl,hcs⟩
    ·cases e
    ·cases e
    ·cases e
    ·cases e
     have ek:fL ds=tuples' (tyD x0 != .type "tuple"):=by
      cases ds with
      | nil=>exact absurd rfl hn
      | cons d dr=>
       have:=hc.2 _ mi d Yc
       rcases ah this with⟨_,_,e,_⟩ | ⟨_,_,e,_⟩ | ⟨_,_,e,_⟩ | ⟨_,zs,e,rfl,hz⟩
       ·cases e
       ·cases e
       ·cases e
       ·cases e
        cases zs with
        | nil=>have:=hs (.tup []) Yc;cases this
        | cons z0 zr=>
         rw[av,Yq] at hz
         show tuples' (tyD z0 != _)=_
         rw[jy hz.1 (hf _ mi)]
     rw[ek]
     cases r1 with
     | tup a1 a2=>
      cases r2 with
      | tup b1 b2=>
       cases (show u=Value.ref _ from k1)
       cases (show u'=Value.ref _ from k2)
       obtain⟨its1,rv1,⟨o1,ho1,hc1,n1,hd1⟩,_⟩:=I.tuple (SqT.of a1)
       obtain⟨its2,rv2,⟨o2,ho2,hc2,n2,hd2⟩,_⟩:=I.tuple (SqT.of b1)
       have oi:okN 28 (.tup (x0::xr))=true:=hc.1 _ mi
       have oj:okN 28 (.tup ys)=true:=hc.1 _ mj
       have hlex:=Reps.lex I 27 A (by omega) (Rep.lt I 27 A (by omega)) a2 b2 (aC oi) (aC oj) hcs rv1 rv2
       refine kat_lt ho1 hd1 ho2 hd2 ?_
       simp only[Yy]
       refine nV 0 hlex (fun hb _ u0 w0 d0 e0 ur wr dr er q1 q2 q3 q4 Q E hq=>?_) (by omega) (by rw[ltD] at hQ;exact hQ)
       subst q1 q2 q4
       cases q3
       cases a2 with
       | cons a3 a4=>
        cases b2 with
        | cons b3 b4=>
         cases rv1 with
         | cons c1 c2=>
          cases rv2 with
          | cons c3 c4=>
           rw[av,Yq] at hcs
           refine nj a3 b3 hcs.1 (hf _ mi) ?_ c1 c3 hq
           cases x0 <;> first | rfl | (simp[tyD] at hb)
  | _=>cases ht
theorem lM (I:Inv X pz σ H s){vs:List V}{ds:List D}{us:List Value}(r:Reps X.K H vs ds)(rv:Vals vs us)(ok:bw ds=true)(hu:X.A.units+64<cLine){Q:Kv}
  (hQ:∀ (a:Addr) (p:List Nat) (s':Shared),H a=none→(∀ i∈p,i<ds.length)→p.length=ds.length→p.map (dAt ds)=aL ds→Inv X pz σ (upd H a (.lst (p.map fun i=>vs.getD i .non))) s'→Q (.ref a) s'):gH X.prog X.w X.A Q us s:=by
 obtain⟨hl,hc,_,_⟩:=bL ok
 have l1:=r.length
 have l2:=rv.length
 refine⟨by omega,fL ds,_,qR hc,fun h2 h' k Q E q=>oa (I.kept (t':=s.toks) k) r rv ok h2 q,fun h' k i j C hi hj hq=>?_,fun p hp hr a h' e k hsz hget=>?_⟩
 ·have hu':X.A.in1.in1.units+60<cLine:=by show X.A.units+1+1+60<cLine;omega
  exact qt (I.kept (t':=s.toks) k) r rv ok hu' hi hj hq
 ·have hp':PermN ds.length p:=by rw[← l1,l2];exact hp
  have hr':Ris (fun i j=>ltD (dAt ds i) (dAt ds j)) p ds.length:=by rw[← l1,l2];exact hr
  have eo:=jh hc hp' hr'
  have bd:∀ i∈p.toList,i<ds.length:=fun i hi=>YO.mp (hp'.perm.mem_iff.mp hi)
  have hna:H a=none:=I.hok.fresh hsz
  have lenp:p.toList.length=ds.length:=by rw[Yu];exact hp'.size
  refine hQ a p.toList _ hna bd lenp eo (I.laid (t':=s.toks) k hsz ⟨?_,p.toList.map fun i=>us.getD i Value.none,e,Vals.perm rv p.toList fun i hi=>by rw[l1];exact bd i hi,?_⟩)
  ·rw[YA,lenp,YY];omega
  ·exact hget
end
section
variable {X:Cx} {e:Expr} {p pos:Pos} {fa:Dd}
end
end L2
namespace L2
open PySem PySem.Spec PyProof.Rows
def jC {α:Type}(xs:List α)(lo hi:Option Int):List α:=(xs.drop (HT.sIx xs.length 0 lo)).take (HT.sIx xs.length xs.length hi-HT.sIx xs.length 0 lo)
theorem Reps.cut {K:Kq}{F:Hp}{vs:List V}{ds:List D}(r:Reps K F vs ds)(lo hi:Option Int):Reps K F (j_ vs lo hi) (jC ds lo hi):=by
 unfold j_ jC
 rw[r.length]
 exact (r.drop _).take _
def tOI (K:Kq)(f:DF→Option (Option Int)):TO:=fun σ H Q=>∃ P F ρ b,f ρ=some b∧DInv K P F H ρ σ∧∀ F' H',Evo P F H F' H'→Q b H'
def PDB (X:Cx)(e:Option Expr)(f:DF→Option (Option Int)):Prop:=PO X e (tOI X.K f)
def bNo:DF→Option (Option Int):=fun _=>some none
def bI (f:Dd):DF→Option (Option Int):=fun ρ=>match f ρ with
 | some (.int i)=>some (some i)
 | _=>none
section
variable {X:Cx} {e a b c o:Expr} {es:List Expr} {pos p p2:Pos} {lo hi:Option Expr} {fe fa fb:Dd} {fl fh:DF→Option (Option Int)}
theorem PO.imp {t t':TO}{e:Option Expr}(h:PO X e t)(i:∀ σ H Q,t' σ H Q→t σ H Q):PO X e t':=fun pz s σ H Q I q=>h pz s σ H Q I (i σ H Q q)
theorem lm:PDB X none bNo:=PO.imp nu fun σ H Q=>un7 fun P F ρ b hf I k=>by
 cases hf
 exact k F H (Evo.refl I.toDHp)
theorem pk {f:Dd}(h:PDE X e f):PDB X (some e) (bI f):=PO.imp (oA h) fun σ H Q=>un7 fun P F ρ b hf I k=>by
 unfold bI at hf
 split at hf
 ·rename_i i q
  cases hf
  refine⟨P,F,ρ,_,q,I,fun v F' H' ev r=>?_⟩
  cases r
  exact⟨i,rfl,k F' H' ev⟩
 ·cases hf
def slL (fe:Dd)(fl fh:DF→Option (Option Int)):DF→Option (List D):=fun ρ=>match fe ρ with
 | some (.lst xs)=>(fl ρ).bind fun l=>(fh ρ).map fun h=>jC xs l h
 | _=>none
theorem kq (he:PDR X e fe)(hl:PDB X lo fl)(hh:PDB X hi fh):PDO X (.Subscript e (.Slice lo hi none p2) pos) (asL (slL fe fl fh)):=(iq nL he hl hh).imp fun σ H Q=>un7 fun P F ρ ob hf I k=>by
 unfold asL at hf
 cases q:slL fe fl fh ρ with
 | none=>rw[q] at hf;cases hf
 | some out=>
 rw[q] at hf
 cases hf
 unfold slL at q
 split at q
 ·rename_i xs q1
  cases q2:fl ρ with
  | none=>rw[q2] at q;cases q
  | some l=>
  rw[q2,Yh] at q
  cases q3:fh ρ with
  | none=>rw[q3] at q;cases q
  | some h=>
  rw[q3] at q
  cases q
  refine⟨P,F,ρ,_,q1,I,fun x F1 H1 e1 rx=>⟨P,F1,ρ,l,q2,I.evo e1,fun F2 H2 e2=>⟨P,F2,ρ,h,q3,(I.evo e1).evo e2,fun F3 H3 e3=>?_⟩⟩⟩
  have e123:=(e1.trans e2).trans e3
  obtain⟨l',vs,rfl,h1,h2⟩:=cG (I.evo e123) ((rx.evo e2).evo e3)
  exact⟨l',vs,rfl,h1,fun p hp=>k p F3 _ (e123.trans (Evo.side e123.hp hp)) ⟨⟨e123.back I.toDHp hp,(e123.hp.free hp).1⟩,_,aD,h2.cut l h⟩⟩
 ·cases q
def tq:V→Option Int→Option Int→Hp→VK→Prop:=fun x lo hi H Q=>∃ z,x=.str z∧z.length≤sizeLine∧Q (.str (Txt.slice z lo hi)) H
theorem jL {v:Value}{o:Option Int}(h:IsPart v o):∃ l:Option (Int×Tok),v=partValue l∧l.map (·.1)=o:=by
 cases h with
 | none=>exact⟨none,rfl,rfl⟩
 | int i t=>exact⟨some (i,t),rfl,rfl⟩
theorem qH:SlR X tq:=by
 intro pz s σ H x v vl vu lo hi sl Q I rx hs pl pu h
 obtain⟨z,rfl,hz,q⟩:=h
 have hle:=Txt.slice_le z lo hi
 obtain⟨t,rfl⟩:=rx
 obtain⟨l,rfl,e1⟩:=jL pl
 obtain⟨u,rfl,e2⟩:=jL pu
 refine⟨"str",_,PySem.F.slot_str_getitem.lookup,typeIs_str s z t,wpAny_getItem_str_slice (st:=none) hs rfl ?_⟩
 have e:slicePicked z l u none=Builtin.Str.strSliceIndices lo hi 1 z.length:=by unfold slicePicked;rw[e1,e2];rfl
 unfold sliceMade
 rw[e]
 unfold Txt.slice at q hle
 show (if ((1:Int) == 1&&(Builtin.Str.strSliceIndices lo hi 1 z.length).length == z.length)=true then Made.val (.str z t) else Made.str ⟨((Builtin.Str.strSliceIndices lo hi 1 z.length).filterMap (z.cps[·]?)).toArray⟩).post _ _
 split
 ·rename_i c
  rw[Yn c] at q
  exact⟨.str z,H,I,⟨t,rfl⟩,q⟩
 ·rename_i c
  rw[Yo c] at q hle
  exact⟨Zi hle hz,⟨.str _,H,I.tok _,⟨_,rfl⟩,q⟩⟩
def slS (fe:Dd)(fl fh:DF→Option (Option Int)):DF→Option D:=fun ρ=>match fe ρ with
 | some (.str x)=>if x.length≤16777216 then (fl ρ).bind fun l=>(fh ρ).map fun h=>.str (Txt.slice x l h) else none
 | _=>none
theorem kM (he:PDR X e fe)(hl:PDB X lo fl)(hh:PDB X hi fh):PDE X (.Subscript e (.Slice lo hi none p2) pos) (slS fe fl fh):=(iq qH he hl hh).imp fun σ H Q=>un7 fun P F ρ d q I k=>by
 unfold slS at q
 split at q
 ·rename_i x q1
  split at q
  rotate_left
  ·cases q
  rename_i hz
  cases q2:fl ρ with
  | none=>rw[q2] at q;cases q
  | some l=>
  rw[q2,Yh] at q
  cases q3:fh ρ with
  | none=>rw[q3] at q;cases q
  | some h=>
  rw[q3] at q
  cases q
  refine⟨P,F,ρ,_,q1,I,fun y F1 H1 e1 rx=>⟨P,F1,ρ,l,q2,I.evo e1,fun F2 H2 e2=>⟨P,F2,ρ,h,q3,(I.evo e1).evo e2,fun F3 H3 e3=>?_⟩⟩⟩
  exact⟨x,d9 rx,by rw[YY];exact hz,k _ F3 H3 ((e1.trans e2).trans e3) .str⟩
 ·cases q
def lu (K:Kq):R2:=fun x y H Q=>∃ a b xs ys,x=.ref a∧y=.ref b∧SqT K H a xs∧SqT K H b ys∧xs.length+ys.length≤sizeLine ∧
 (xs=[]→Q (.ref b) H)∧(xs≠[]→ys=[]→Q (.ref a) H)∧(xs≠[]→ys≠[]→∀ p,H p=none→Q (.ref p) (upd H p (.tup (xs++ys))))
theorem k7:OpR X (binaryOp .Add) (lu X.K):=by
 intro pz s σ H x y v u Q I rx ry h
 obtain⟨a,b,xs,ys,rfl,rfl,ha,hb,hz,q0,q1,q2⟩:=h
 by_cases hx:xs=[]
 ·cases rx
  cases ry
  obtain⟨its,r1,p1,_⟩:=I.tuple ha
  obtain⟨its2,r2,p2,_⟩:=I.tuple hb
  have hi:its=[]:=r1.nil_iff.mpr hx
  obtain⟨⟨cls,dd,data,sl⟩,ho,hc,n,hd⟩:=id p1
  obtain⟨⟨cls2,dd2,data2,sl2⟩,ho2,hc2,n2,hd2⟩:=id p2
  simp only at hc hd hc2 hd2
  subst hc hd hc2 hd2
  exact concat_meets ⟨_,ho,rfl⟩ ⟨_,ho2,rfl⟩ noFill_tuple_add seq_tuple_add PySem.F.slot_tuple_add PySem.F.entry_tuple_add (PySem.F.args_tuple_add_2 _ _)
   (tuple_addW0 a b its.toArray its2.toArray n n2 dd dd2 sl sl2 (by simp[hi])) ⟨ho,ho2,⟨.ref b,H,I,rfl,q0 hx⟩⟩
 ·exact nG pz s σ H _ _ v u Q I rx ry ⟨a,b,xs,ys,rfl,rfl,ha,hb,hx,hz,q1 hx,q2 hx⟩
def fF:D→D→Option D
 | .int i,.int j=>some (.int (i+j))
 | .str x,.str y=>if x.length+y.length≤16777216 then some (.str (x++y)) else none
 | .lst xs,.lst ys=>if xs.length+ys.length≤16777216 then some (.lst (xs++ys)) else none
 | .tup xs,.tup ys=>if xs.length+ys.length≤16777216 then some (.tup (xs++ys)) else none
 | _,_=>none
theorem Reps.nil_iff {K:Kq}{H:Hp}{vs:List V}{ds:List D}(r:Reps K H vs ds):vs=[]↔ds=[]:=by
 cases r with
 | nil=>simp
 | cons _ _=>simp
theorem om {K:Kq}:j8 K (fun x y H Q=>rV x y H Q∨(pD K x y H Q∨lu K x y H Q)) fF:=by
 intro P F H ρ σ x y dx dy d Q hf I rx ry k
 unfold fF at hf
 split at hf
 ·cases hf
  exact .inl (.inl ⟨_,_,bz rx,bz ry,k _ F H (Evo.refl I.toDHp) .int⟩)
 ·split at hf
  ·rename_i h
   cases hf
   exact .inl (.inr ⟨_,_,d9 rx,d9 ry,by rw[YY];exact h,k _ F H (Evo.refl I.toDHp) .str⟩)
  ·cases hf
 ·split at hf
  ·rename_i hz
   cases hf
   obtain⟨l,vs,rfl,h1,h2⟩:=cG I rx
   obtain⟨l2,vs2,rfl,h3,h4⟩:=cG I ry
   exact .inr (.inl ⟨l,l2,vs,vs2,rfl,rfl,h1,h3,by rw[h2.length,h4.length,YY];exact hz,fun p hp=>k _ _ _ (Evo.laid I.toDHp hp) (.lst (SqL.of aD) ((h2.append h4).same (fw (I.toDHp.free hp).1)))⟩)
  ·cases hf
 ·split at hf
  ·rename_i xs ys hz
   cases hf
   obtain⟨l,vs,rfl,h1,h2⟩:=d_ I rx
   obtain⟨l2,vs2,rfl,h3,h4⟩:=d_ I ry
   have tr:∀ {y:V} {ds:List D},RepS K H F y (.tup ds)→Rep K F y (.tup ds):=fun h=>by
    rcases h with h | ⟨_,ob,_,_,_,_,_,hfl,z⟩
    ·exact h
    ·cases ob <;> first | (cases z;done) | cases hfl
   refine .inr (.inr ⟨l,l2,vs,vs2,rfl,rfl,h1,h3,by rw[h2.length,h4.length,YY];exact hz,fun z=>?_,fun _ z=>?_,fun _ _ p hp=>?_⟩)
   ·have:xs=[]:=h2.nil_iff.mp z
    subst this
    exact k _ F H (Evo.refl I.toDHp) (tr ry)
   ·have:ys=[]:=h4.nil_iff.mp z
    subst this
    rw[YI] at k
    exact k _ F H (Evo.refl I.toDHp) (tr rx)
   ·exact k _ _ _ (Evo.laid I.toDHp hp) (.tup aD ((h2.append h4).same (fw (I.toDHp.free hp).1)))
  ·cases hf
 ·cases hf
theorem gt (ha:PDR X a fa)(hb:PDR X b fb):PDE X (.BinOp a .Add b pos) (d2 fF fa fb):=dm ((qz.or jq).or (oP.or k7)) om ha hb
def isT:String→D→Option Bool
 | "int",.int _=>some true
 | "bool",.int _=>some false
 | "bool",.bl _=>some true
 | "list",.lst _=>some true
 | _,_=>none
def sV (K:Kq):List V→Hp→VK→Prop:=fun xs H Q=>∃ x T d b,xs=[x,.ty T]∧Rep K H x d∧isT T d=some b∧Q (.bl b) H
theorem mV:CallR X (.builtin "isinstance") (sV X.K):=by
 intro pz s σ H xs us Q I r h
 obtain⟨x,T,d,b,rfl,hr,ht,q⟩:=h
 obtain⟨u,w',rfl,r1,r2⟩:=rd r
 cases (show w'=Value.type T from r2)
 have f1:EP X pz σ Q (.bool b) s:=⟨.bl b,H,I,rfl,q⟩
 have f2:EP X pz σ Q (.bool b) { s with toks:=s.toks+1 }:=⟨.bl b,H,I.tok _,rfl,q⟩
 unfold isT at ht
 split at ht <;> cases ht <;> cases hr
 ·obtain⟨t,rfl⟩:=(show ∃ t,u=Value.int _ t from r1);exact PySem.IsiPair.int_int f1
 ·obtain⟨t,rfl⟩:=(show ∃ t,u=Value.int _ t from r1);exact PySem.IsiPair.int_bool f2
 ·cases (show u=Value.bool _ from r1);exact PySem.IsiPair.bool_bool f1
 ·cases (show u=Value.ref _ from r1);rename_i hs _;obtain⟨_,_,⟨o,n,e,c,_⟩,_⟩:=I.list hs;exact PySem.IsiPair.list_list e c f1
def kZ (T:String)(d:D):Option D:=(isT T d).map .bl
theorem jn {x:Str}{T:String}{p1:Pos}(hg:Gl X "isinstance")(hm:X.mg "isinstance"=none)(hgt:Gl X x)(hmt:X.mg x=none)(hv:bootBuiltins x=some (.type T))(ha:PDN X a fa)(hn:x ≠ "__name__":=by decide)(hd:(x == ("__debug__":Str))=false:=by decide)
  (hs:starEach [a,.Name x p1] X.env=[(false,eval a X.env),(false,eval (.Name x p1) X.env)]:=by rfl) (hs2:starEach [.Name x p1] X.env=[(false,eval (.Name x p1) X.env)]:=by rfl) (hpl:(backTo pos (starEach [.Name x p1] X.env)).any (·.1)=false:=by rfl) :
  PDE X (.Call (.Name "isinstance" p) [a,.Name x p1] [] pos) (d1 (kZ T) fa):=
 (cV mV hg hm d5 (aW ha (aW (oW (v:=.ty T) hgt hmt hv rfl hn hd) bS hs2) (by rw[hs,hs2])) (by decide) (by decide) (by rw[hs,hs2]) hpl).imp fun σ H Q=>un7 fun P F ρ d hf I k=>by
  unfold d1 kZ at hf
  cases q:fa ρ with
  | none=>rw[q] at hf;cases hf
  | some dx=>
   rw[q,Yh] at hf
   cases q2:isT T dx with
   | none=>rw[q2] at hf;cases hf
   | some b=>
    rw[q2] at hf
    cases hf
    exact⟨P,F,ρ,dx,q,I,fun y F1 H1 e1 r1=>⟨y,T,dx,b,rfl,r1,q2,k _ F1 H1 e1 .bl⟩⟩
end
section
variable {X:Cx} {pz:Kp} {σ:St} {H:Hp} {s:Shared}
theorem iR (I:Inv X pz σ H s){a:Addr}{xs ys:List V}(h1:SqT X.K H a xs)(h2:SqL X.K H a ys):False:=by
 obtain⟨_,_,⟨o,e,c,_⟩,_⟩:=I.tuple h1
 obtain⟨_,_,⟨o',n,e',c',_⟩,_⟩:=I.list h2
 rw[e] at e'
 cases e'
 rw[c] at c'
 injection c' with z
 exact absurd z (by decide)
theorem Reps.detOf {n:Nat}(ih:∀ {v:V} {d d':D},okN n d=true→okN n d'=true→Rep X.K H v d→Rep X.K H v d'→d=d'){vs:List V}{ds:List D}(h:Reps X.K H vs ds):∀ ds':List D,(∀ d∈ds,okN n d=true)→(∀ d∈ds',okN n d=true)→Reps X.K H vs ds'→ds=ds':=
 Reps.ind (M:=fun vs ds=>∀ ds':List D,(∀ d∈ds,okN n d=true)→(∀ d∈ds',okN n d=true)→Reps X.K H vs ds'→ds=ds') (fun ds' _ _ r=>by cases r;rfl) (fun a _ i ds' h h' r=>by
  cases r with
  | cons a' r'=>rw[ih (h _ Yc) (h' _ Yc) a a',i _ (fun d m=>h d (Yb _ m)) (fun d m=>h' d (Yb _ m)) r']) h
theorem Rep.det1 (I:Inv X pz σ H s)(n:Nat)(ih:∀ m,n=m+1→∀ {v:V} {d d':D},okN m d=true→okN m d'=true→Rep X.K H v d→Rep X.K H v d'→d=d'){v:V}{d d':D}(h:okN n d=true)(h':okN n d'=true)(q:Rep X.K H v d)(r:Rep X.K H v d'):d=d':=by
 cases q with
 | non=>cases r;rfl
 | bl=>cases r;rfl
 | int=>cases r;rfl
 | str=>cases r;rfl
 | tup a1 a2=>
  cases r with
  | tup b1 b2=>
   rw[a1] at b1
   cases b1
   cases n with
   | zero=>cases h
   | succ n=>rw[Reps.detOf (ih n rfl) a2 _ (aC h) (aC h') b2]
  | lst b1 b2=>exact (iR I (SqT.of a1) b1).elim
  | dT b1 b2=>rw[a1] at b1;cases b1
  | dK b1 b2=>rw[a1] at b1;cases b1
  | ins b1 b2=>rw[a1] at b1;cases b1
  | fn b=>cases n <;> cases h'
 | lst a1 a2=>
  cases r with
  | tup b1 b2=>exact (iR I (SqT.of b1) a1).elim
  | lst b1 b2=>
   have e:=I.list_inj a1 b1
   subst e
   cases n with
   | zero=>cases h
   | succ n=>rw[Reps.detOf (ih n rfl) a2 _ (aC h) (aC h') b2]
  | _=>cases n <;> cases h'
 | _=>cases n <;> cases h
theorem Rep.det (I:Inv X pz σ H s)(n:Nat):∀ {v:V} {d d':D},okN n d=true→okN n d'=true→Rep X.K H v d→Rep X.K H v d'→d=d':=by
 induction n with
 | zero=>exact fun h h' q r=>Rep.det1 I 0 (fun m e=>by cases e) h h' q r
 | succ n ih=>exact fun h h' q r=>Rep.det1 I (n+1) (fun m e=>by cases e;exact ih) h h' q r
theorem mo {v v':V}{u:Value}(h:RelV v u)(h':RelV v' u):v=v':=RelV.inj h h'
open Classical in
noncomputable def mQ (us:List Value)(ds:List D)(dy:D)(u:Value):Bool:=decide (∃ (i:Nat) (d:D),us[i]?=some u∧ds[i]?=some d∧eqd d dy=true)
open Classical in
theorem jE (I:Inv X pz σ H s){n:Nat}{vs:List V}{ds:List D}{us:List Value}{dy:D}(r:Reps X.K H vs ds)(rv:Vals vs us)(ok:∀ d∈ds,okN n d=true){i:Nat}{u:Value}{d:D}(hu:us[i]?=some u)(hd:ds[i]?=some d):mQ us ds dy u=eqd d dy:=by
 unfold mQ
 cases q:eqd d dy with
 | true=>exact Zm ⟨i,d,hu,hd,q⟩
 | false=>
  refine YR ?_
  rintro⟨j,d',h1,h2,h3⟩
  obtain⟨v,a1,a2⟩:=r.get hd
  obtain⟨v',b1,b2⟩:=r.get h2
  obtain⟨u1,c1,c2⟩:=rv.get a1
  obtain⟨u2,c3,c4⟩:=rv.get b1
  rw[hu] at c1;cases c1
  rw[h1] at c3;cases c3
  have e:=mo c2 c4
  subst e
  have:=a2.det I n (ok d (YG hd)) (ok d' (YG h2)) b2
  rw[this,h3] at q
  cases q
theorem ly (I:Inv X pz σ H s){vs:List V}{ds:List D}{us:List Value}{y:V}{dy:D}{uy:Value}(r:Reps X.K H vs ds)(rv:Vals vs us)(ok:∀ d∈ds,okN 29 d=true)(ry:Rep X.K H y dy)(oy:okN 30 dy=true)(ky:RelV y uy){A:Around}(hu:A.units+60<cLine) :
  ∀ u∈us,SeqAt.EqAt A s u uy (mQ us ds dy u):=fun u hu'=>by
 obtain⟨i,hi,eu⟩:=ZI hu'
 have l1:=r.length
 have l2:=rv.length
 have hiv:i<vs.length:=by omega
 obtain⟨u',e1,k1⟩:=rv.get (Ye hiv)
 rw[Ye hi,eu] at e1
 cases e1
 obtain⟨d,e2,r2⟩:=r.getV (Ye hiv)
 rw[jE I r rv ok (by rw[Ye hi,eu]) e2]
 have od:=ok d (YG e2)
 obtain⟨a1,p1⟩:=r2.reads I 29 od k1
 obtain⟨a2,p2⟩:=ry.reads I 30 oy ky
 obtain⟨l1',m1⟩:=aO 29 d od
 obtain⟨l2',m2⟩:=aO 30 dy oy
 refine XT _ _ A s _ _ _ _ p1 p2 l1' l2' ?_
 have:min (aw d).depth (aw dy).depth≤30:=Zi (Nat.min_le_left _ _) m1
 omega
end
def d3 (dy:D):List D→Option Nat
 | []=>none
 | d::r=>if eqd d dy=true then some 0 else (d3 dy r).map (· + 1)
theorem gp {dy:D}:∀ {ds:List D} {j:Nat},d3 dy ds=some j→(∃ d,ds[j]?=some d∧eqd d dy=true)∧∀ m,m<j→∃ d,ds[m]?=some d∧eqd d dy=false
 | [],_,h=>by cases h
 | d::r,j,h=>by
  unfold d3 at h
  split at h
  ·rename_i q
   cases h
   exact⟨⟨d,rfl,q⟩,fun m hm=>by omega⟩
  ·rename_i q
   cases q2:d3 dy r with
   | none=>rw[q2] at h;cases h
   | some k=>
    rw[q2] at h
    have h:=Yx h
    have h:k+1=j:=h
    subst h
    obtain⟨h1,h2⟩:=gp q2
    refine⟨by simpa using h1,fun m hm=>?_⟩
    cases m with
    | zero=>exact⟨d,rfl,by simpa using q⟩
    | succ m=>simpa using h2 m (by omega)
def sZ (K:Kq):V→List V→Hp→VK→Prop:=fun x vs H Q=>∃ l xs ds y dy j,x=.ref l∧vs=[y]∧SqL K H l xs∧Reps K H xs ds∧Rep K H y dy∧ds.all (okN 29)=true∧okN 30 dy=true∧d3 dy ds=some j∧Q (.int j) H
section
variable {X:Cx} {e a b c o:Expr} {es:List Expr} {pos p apos cpos:Pos} {fe fa fb:Dd}
theorem lO (hu:X.A.units+64<cLine):MtR X "list.index" (sZ X.K):=by
 intro pz s σ H x vs v us Q I rx rvv h
 obtain⟨l,xs,ds,y,dy,j,rfl,rfl,hq,r,ry,ok,oy,hj,q⟩:=h
 cases rx
 obtain⟨u,rfl,ru⟩:=rvv.one
 obtain⟨its,rv,pl,hz⟩:=I.list hq
 obtain⟨⟨cls,dd,data,sl⟩,n,ho,hc,hdd,hd⟩:=pl
 simp only at hc hd
 subst hc hd
 obtain⟨⟨d0,j1,j2⟩,j3⟩:=gp hj
 have l1:=r.length
 have l2:=rv.length
 have hjl:j<ds.length:=(Yi.mp j1).1
 have hlt:j<its.toArray.size:=by rw[Yy];omega
 have ok':=aC ok
 have at':∀ (m:Nat) (hm:m<its.toArray.size) d,ds[m]?=some d→mQ its ds dy its.toArray[m]=eqd d dy:=fun m hm d hd=>jE I r rv ok' (by simp) hd
 refine call_meets PySem.F.slot_list_index ⟨_,ho,rfl⟩ PySem.F.entry_list_index (PySem.F.args_list_index_2 _ _)
  (PySem.SeqAt.list_indexAt l its.toArray n dd sl u (mQ its ds dy) j hlt (by have:=YY;omega) (by rw[at' j hlt d0 j1];exact j2) fun m hm hmj=>?_) ⟨ho,fun z hz=>ly I r rv ok' ry oy ru (A:=X.A.in1) (by show X.A.units+1+60<cLine;omega) z (by simpa using hz),⟨.int j,H,I.tok _,⟨_,rfl⟩,q⟩⟩
 obtain⟨d,e1,e2⟩:=j3 m hmj
 rw[at' m hm d e1]
 exact e2
def kI:D→D→Option D
 | .lst ds,y=>if (ds.all (okN 29)&&okN 30 y)=true then (d3 y ds).map (fun (j:Nat)=>D.int (j:Int)) else none
 | _,_=>none
theorem qJ {K:Kq}{r:V→List V→Hp→VK→Prop}{f:Dy}{fa fb:Dd}(hl:∀ dx dy d,f dx dy=some d→∃ ds,dx=.lst ds)
  (ho:∀ (P F H:Hp) (l:Addr) (vs:List V) (y:V) (ds:List D) (dy d:D) (Q:VK),f (.lst ds) dy=some d→DHp P F H→SqL K H l vs→Reps K H vs ds→Rep K H y dy→(∀ v F' H',Evo P F H F' H'→Rep K F' v d→Q v H')→r (.ref l) [y] H Q) :
  ∀ σ H Q,tD K (d2 f fa fb) σ H Q→tBM K "list" r (tN K fa) (m8 (tN K fb) qa) σ H Q:=fun σ H Q=>un7 fun P F ρ d hf I k=>by
 unfold d2 at hf
 cases ha:fa ρ with
 | none=>rw[ha] at hf;cases hf
 | some dx=>
  rw[ha] at hf
  cases hb:fb ρ with
  | none=>rw[Yh,hb] at hf;cases hf
  | some dy=>
   rw[Yh,hb,Yh] at hf
   obtain⟨ds,rfl⟩:=hl dx dy d hf
   refine⟨P,F,ρ,_,ha,I,fun x F1 H1 e1 rx=>?_⟩
   cases rx with
   | lst h1 h2=>
    refine⟨.inl ⟨rfl,_,h1⟩,P,F1,ρ,dy,hb,I.evo e1,fun y F2 H2 e2 ry=>?_⟩
    have sm:=e2.same e1.hp
    exact ho P F2 H2 _ _ y ds dy d Q hf e2.hp (sm.seq h1) (h2.same sm) ry fun v F3 H3 e3 rv=>k v F3 H3 ((e1.trans e2).trans e3) rv
theorem lr (hu:X.A.units+64<cLine)(ho:PDN X o fa)(ha:PDN X e fb)(hbase:attributeBase o "index" X.env (eval o X.env)=eval o X.env:=by rfl)
  (hfew:((backTo cpos (starEach [e] X.env)).all (fun x=>!x.1)&&(backToKw cpos (keywordEach [] X.env)).all (fun x=>x.1.isSome)
   && decide (([e]:List Expr).length+([]:List Keyword).length+(if ([]:List Keyword).isEmpty then 0 else 1)<30))=true:=by rfl)
  (hline:(apos.endLine == cpos.line)=true:=by rfl) (hs:starEach [e] X.env=[(false,eval e X.env)]:=by rfl) :
  PDE X (.Call (.Attribute o "index" apos) [e] [] cpos) (d2 kI fa fb):=
 (ph XJ PySem.F.slot_list_index PySem.F.type_list_index (lO hu) ho (aW ha bS hs) hbase hfew hline hs rfl).imp (qJ (fun dx dy d h=>by cases dx <;> first | exact⟨_,rfl⟩ | cases h)
  fun P F H l vs y ds dy d Q hf hp h1 h2 h3 k=>by
   have hf:(if (ds.all (okN 29)&&okN 30 dy)=true then (d3 dy ds).map (fun (j:Nat)=>D.int (j:Int)) else none)=some d:=hf
   split at hf
   ·rename_i c
    rw[Yq] at c
    cases q:d3 dy ds with
    | none=>rw[q] at hf;cases hf
    | some j=>rw[q] at hf;cases hf;exact⟨l,vs,ds,y,dy,j,rfl,rfl,h1,h2,h3,c.1,c.2,q,k _ F H (Evo.refl hp) .int⟩
   ·cases hf)
end
section
variable {X:Cx} {tg e a b c o l:Expr} {es:List Expr} {pos p apos cpos spos:Pos} {fe fa fb fc:Dd}
def l5:D→Bool
 | .bl _=>true
 | _=>false
def trD:D→Bool
 | .bl b=>b
 | _=>false
def lT:D→Option D
 | .lst ds=>if ds.all l5=true then some (.bl (ds.all trD)) else none
 | _=>none
def tK (K:Kq):List V→Hp→VK→Prop:=fun xs H Q=>∃ l vs ds,xs=[.ref l]∧SqL K H l vs∧Reps K H vs ds∧ds.all l5=true∧Q (.bl (ds.all trD)) H
theorem kJ {ds:List D}:(List.range ds.length).all (fun i=>trD (ds.getD i .non))=ds.all trD:=by
 rw[Bool.eq_iff_iff,Yj,Yj]
 constructor
 ·intro h d hd
  obtain⟨i,hi,e⟩:=ZI hd
  have:=h i (YO.mpr hi)
  rw[YM,Ye hi,e] at this
  exact this
 ·intro h i hi
  have hi:=YO.mp hi
  rw[YM,Ye hi]
  exact h _ (ZL hi)
theorem kP (hc:X.calm=true):CallR X (.builtin "all") (tK X.K):=by
 intro pz s σ H xs us Q I r h
 obtain⟨l,vs,ds,rfl,hq,hr,hb,q⟩:=h
 obtain⟨u,rfl,ru⟩:=dQ r
 cases ru
 obtain⟨its,rv,pl,hz⟩:=I.list hq
 have ho:=pl.isList
 have l1:=hr.length
 have l2:=rv.length
 refine call_all_walk (wpAny_pyIter_list ho ?_)
 have hlt:l<s.heap.objs.size:=by obtain⟨o,e,_⟩:=ho;exact Yp e
 refine⟨s.heap.objs.size,[s.heap.objs.size,l],[s.heap.objs.size],its.toArray.size,_,_,fun i=>trD (ds.getD i .non),rfl,Walks.list (by show X.A.in1.handled=none;exact I.ok.hd hc) s.heap.objs.size l (YC hlt) its.toArray,⟨⟨_,Ys _ rfl,rfl,rfl⟩,ho.at fun o e=>Yf _ e⟩,fun i v s' Q' E' hv hq'=>?_,fun h' tk k=>?_⟩
 ·have hv:its[i]?=some v:=by simpa using hv
  have hi:i<its.length:=(Yi.mp hv).1
  have hid:i<ds.length:=by omega
  obtain⟨w',a1,a2⟩:=hr.get (Ye hid)
  obtain⟨u',a3,a4⟩:=rv.get a1
  rw[hv] at a3
  cases a3
  have hbd:=Yj.mp hb _ (ZL hid)
  have eg:ds.getD i .non=ds[i]:=by rw[YM,Ye hid];rfl
  have hq':Q' (trD (ds.getD i .non)) s':=hq'
  rw[eg] at hq'
  generalize ds[i]=d at *
  cases d with
  | bl b=>cases a2;cases (show v=Value.bool _ from a4);exact Xp hq'
  | _=>cases hbd
 ·have e:its.toArray.size=ds.length:=by rw[Yy];omega
  rw[e,kJ]
  refine⟨.bl _,H,I.kept (t':=tk) fun b o e=>k b o (fun z=>?_) (Yf _ e),rfl,q⟩
  have z:b=s.heap.objs.size:=by simpa using z
  rw[z] at e
  exact absurd (Yp e) (Zh _)
theorem qm (hc:X.calm=true)(hg:Gl X "all")(hm:X.mg "all"=none)(ha:PDN X e fa)(hs:starEach [e] X.env=[(false,eval e X.env)]:=by rfl)(hpl:(backTo pos (starEach [] X.env)).any (·.1)=false:=by rfl) :
  PDE X (.Call (.Name "all" p) [e] [] pos) (d1 lT fa):=
 (cV (kP hc) hg hm lA (aW ha bS hs) (by decide) (by decide) hs hpl).imp (mF fun P F H x dx d Q hf hp rx k=>by
  cases dx with
  | lst ds=>
   have hf:(if ds.all l5=true then some (D.bl (ds.all trD)) else none)=some d:=hf
   split at hf
   ·rename_i hb
    cases hf
    cases rx with | lst h1 h2=>exact⟨_,_,ds,rfl,h1,h2,hb,k _ F H (Evo.refl hp) .bl⟩
   ·cases hf
  | _=>cases hf)
end
section
variable {X:Cx} {tg e a b c o l r:Expr} {es:List Expr} {pos p p' apos cpos spos apos' cpos':Pos} {f fe fa fb fc:Dd}
end
section
variable {X:Cx} {tg a b c o i e f:Expr} {pos pos' apos cpos p:Pos} {fd fk fx fv fa fb fc:Dd}
end
theorem Room.h64 {k:Nat}{A:Around}(r:Room k A):A.units+64<cLine:=by have:=r.un;omega
def nZ (sc0 scope:Scope):Bool:=scope.kind == .function&&(scope.names.map (·.1)).Nodup&&(scope.names.all fun x=>x.2 != .free||(sc0.names.lookup x.1 == some .cell||sc0.names.lookup x.1 == some .free))
theorem jZ {X:Cx}{scope:Scope}(sc0:Scope)(e:X.env.scope=sc0)(h:nZ sc0 scope=true):BlkScope X scope:=by
 unfold nZ at h
 simp only[Yq,YH] at h
 obtain⟨⟨h1,h2⟩,h3⟩:=h
 refine⟨by simpa using h1,h2,fun x hx hk=>?_⟩
 have:=Yj.mp h3 x hx
 rw[hk] at this
 have e2:X.env.kindOf x.1=sc0.names.lookup x.1:=by show X.env.scope.names.lookup x.1=_;rw[e]
 rw[e2]
 simpa using this
def rc (N0:List Str)(scope:Scope)(N:List Str)(own:Nat)(ix:List Nat):Bool:=
 decide (N.length=own+ix.length)&&(List.range ix.length).all fun i=>match N[own+i]?,ix[i]? with
  | some x,some j=>N0[j]? == some x&&scope.names.lookup x == some .free
  | _,_=>true
theorem im {X:Cx}{scope:Scope}{N:List Str}{own:Nat}{ix:List Nat}(N0:List Str)(e:X.N=N0)(h:rc N0 scope N own ix=true):Caps X scope N own ix:=by
 unfold rc at h
 rw[Yq,YH] at h
 refine⟨h.1,fun i j x h1 h2=>?_⟩
 have hi:i<ix.length:=(Yi.mp h2).1
 have:=Yj.mp h.2 i (YO.mpr hi)
 rw[h1,h2] at this
 simp only[Yq,beq_iff_eq] at this
 rw[e]
 exact this
section
variable {X:Cx}
theorem jU:gF X [] (tB' X.K dj):=fun pz s σ H Q I hh_=>by
 obtain⟨P,F,ρ,b,hf,J,k⟩:=hh_
 cases hf
 exact mW pz s σ H Q I (k F H (Evo.refl J.toDHp))
theorem rU {c:Expr}{f:Dk}(h:PDT X c f):gF X [c] (tB' X.K f):=mh h
end
theorem eM {is:List Nat}{own:Nat}(h:(is.all fun j=>decide (j<own))=true):∀ j∈is,j<own:=fun j m=>Xq (Yj.mp h j m)
theorem nt {K:Kq}{f:Do}:∀ σ H Q,tD K (asO f) σ H Q→tO K f σ H Q:=fun σ H Q=>un7 fun P F ρ d hf I k=>by
 unfold asO at hf
 cases q:f ρ with
 | none=>rw[q] at hf;cases hf
 | some o=>
  rw[q] at hf
  cases hf
  refine⟨P,F,ρ,o,q,I,fun a F' H' ev ho=>?_⟩
  exact k (.ref a) _ H' (ev.freeze I.toDHp (fun b=>H b=none∧F' b=none) fun _ q=>q) (ho.rep (aR fun b q=>q.2) fun b u q hb=>by rw[bX q];exact hb)
section
variable {X:Cx} {tg iter elt:Expr} {ifs:List Expr} {scope:Scope} {pos:Pos} {N:List Str} {own:Nat} {ix is:List Nat} {f:Dl} {st:Dq} {c:Dk} {e:Dd}
theorem eW {i:Nat}{y:Str}{py spos:Pos}(hN:X.N.Nodup)(hiN:X.N[i]?=some y)(hx:Loc X.env.scope y)(hcalm:X.calm=true)(b:BlkScope X scope)(cp:Caps X scope N own ix)(his:∀ j∈is,j<own)(hi:PDI X tg iter f)
  (hg:∀ s H fp pz,PDG (blk X scope N s H fp pz) tg is st) (hc:∀ s H fp pz,gF (blk X scope N s H fp pz) ifs (tB' X.K c)) (he:∀ s H fp pz,PDE (blk X scope N s H fp pz) elt e)
  (hnames:∀ y∈scope.names,y.2=.local→scope.names.lookup y.1=some .local)
  (hsw:swapsWith (.ListComp elt [⟨tg,iter,ifs,0⟩] scope pos) (some (.Name y py)) spos.line X.env=pure true:=by rfl)
  (hs:∀ x,foldedSetIterable iter X.env x=pure x:=by intro _;rfl)
  (hf:X.fn y=true∨X.env.scope.names.lookup y=some .local:=by first | exact .inl rfl | exact .inr rfl | assumption) :
  PD1 X (.Assign [.Name y py] (.ListComp elt [⟨tg,iter,ifs,0⟩] scope pos) spos) (di i (asO (asL (a8 own ix f st c e)))):=
 PS.imp (js (g:=tG X.K is st) (tc:=tB' X.K c) (te:=tD X.K e) hcalm hN hiN hx b cp hi hg hc he hsw hnames hs hf) fun E σ H q=>jN his σ H _ (nt σ H _ (lC E σ H q))
end
section
variable {X:Cx} {e:Expr} {pos:Pos}
end
def isI:D→Bool
 | .int _=>true
 | _=>false
def toI:D→Int
 | .int i=>i
 | _=>0
theorem dI {K:Kq}{F:Hp}:∀ {vs:List V} {ds:List D},Reps K F vs ds→ds.all isI=true→vs=(ds.map toI).map V.int:=by
 intro vs ds h
 refine Reps.ind (M:=fun vs ds=>ds.all isI=true→vs=(ds.map toI).map V.int) (fun _=>rfl) (fun {v d vs ds} r _ ih q=>?_) h
 rw[VD,Yq] at q
 cases d with
 | int i=>
  cases r
  rw[ih q.2]
  rfl
 | _=>cases q.1
section
variable {X:Cx} {e:Expr} {pos pos2 p p2:Pos}
end
mutual
def ad (w:World):D→Int
 | .int i=>hashInt i
 | .str x=>hashStr w x
 | .tup xs=>reduceHash (Builtin.Tuple.tupleHashOf (eV w xs))
 | _=>0
def eV (w:World):List D→List Int
 | []=>[]
 | d::ds=>ad w d::eV w ds
end
theorem e_ (w:World):∀ ds,eV w ds=ds.map (ad w)
 | []=>rfl
 | d::ds=>by rw[ZY,← e_ w ds];rfl
def hkN:Nat→D→Bool
 | _,.int _=>true
 | _,.str _=>true
 | n+1,.tup xs=>xs.all (hkN n)
 | _,_=>false
section
variable {prog:Program} {w:World}
theorem bF {h:Heap}{ds:List D}{u:Value}{as:List Addr}(r:Reads h u (aw (.tup ds)) as):∃ a o vs n,u=.ref a∧h.get? a=some o∧o.cls=.type "tuple"∧o.data=.seq vs n∧ReadsAll h vs.toList (ay ds) as:=by
 cases r with
 | tuple h1 h2 h3 h4=>exact⟨_,_,_,_,rfl,h1,h2,h3,h4⟩
theorem nT:∀ (n:Nat) {A:Around} {E:Kv} {s:Shared} {d:D} {u:Value} {as:List Addr} {Q:Int→Shared→Prop},A.units+n<cLine→hkN n d=true→Reads s.heap u (aw d) as→
  (∀ tk,s.toks≤tk→Q (ad w d) { s with toks:=tk })→wpAny (model prog w) A (pyHash u) Q E s:=by
 intro n
 induction n with
 | zero=>
  intro A E s d u as Q hu hd r h
  cases d with
  | int i=>cases r;exact wpAny_pyHash_int (h _ (XZ _))
  | str x=>cases r;exact wpAny_pyHash_str (h _ (XZ _))
  | _=>cases hd
 | succ n ih=>
  intro A E s d u as Q hu hd r h
  cases d with
  | int i=>cases r;exact wpAny_pyHash_int (h _ (XZ _))
  | str x=>cases r;exact wpAny_pyHash_str (h _ (XZ _))
  | tup ds=>
   obtain⟨a,o,vs,m,rfl,ho,hc,hdt,ra⟩:=bF r
   have hT:s.TypeIs (.ref a) "tuple":=⟨o,ho,hc⟩
   have hall:∀ d∈ds,hkN n d=true:=fun d m=>Yj.mp hd d m
   unfold pyHash
   unfold pyHashByItsType
   refine Ya (wpAny_cRoomFor_or (.inr (by omega)) ?_)
   refine Ya (Xm hT Xs.lookup ?_)
   show wpAny _ _ (if (some (Value.builtin "tuple.__hash__") == some Value.none)=true then _ else _) Q E s
   rw[Yo (by rw[beq_builtin_none];exact Yg)]
   refine Ya (Xm hT Xs.lookup ?_)
   show wpAny _ _ (callSpecialIfBoundUnlessNone? (.ref a) "__hash__" _>>=_) Q E s
   refine Ya (wpAny_callSpecialIfBoundUnlessNone?_slot hT Xs (Zn Xs hT F.entry_tuple_hash ?_ (F.args_tuple_hash_1 _)))
   show wpAny _ _ (Builtin.Tuple.tupleItemsOf (.ref a)>>=_) _ _ s
   refine Ya (wpAny_tupleItemsOf ho hdt ?_)
   refine Ya ?_
   rw[← XQ]
   refine Xc _
    (fun aG (b:Array Int) s'=>∃ done left bs tk,ds=done++left∧ReadsAll s.heap aG (ay left) bs∧b.toList=done.map (ad w)∧s.toks≤tk∧s'={ s with toks:=tk })
    _ ?_ ?_ _ _ ⟨[],ds,_,_,rfl,ra,rfl,Yw _,rfl⟩
   ·rintro x aG b s' ⟨done,left,bs,tk,e,hl,hb,hk,rfl⟩
    cases left with
    | nil=>cases hl
    | cons d0 left=>
     cases hl with
     | cons h1 h2=>
      refine Ya (ih (by show A.units+1+n<cLine;omega) (hall d0 (by rw[e];simp)) h1 fun tk' hk'=>?_)
      first
       | exact Yd ⟨done++[d0],left,_,_,by simp[e],h2,by simp[hb],Zi hk hk',rfl⟩
       | exact Ya (Yd (Yd ⟨done++[d0],left,_,_,by simp[e],h2,by simp[hb],Zi hk hk',rfl⟩))
   ·rintro b s' ⟨done,left,bs,tk,e,hl,hb,hk,rfl⟩
    cases left with
    | cons _ _=>cases hl
    | nil=>
    rw[YI] at e
    subst e
    show wpAny _ _ (retInt (Builtin.Tuple.tupleHashOf b.toList)) _ _ _
    rw[hb,← e_]
    refine wpAny_ret_mkInt ?_
    have h':∀ tk,s.toks≤tk→Q (reduceHash (Builtin.Tuple.tupleHashOf (eV w ds))) { s with toks:=tk }:=h
    generalize Builtin.Tuple.tupleHashOf (eV w ds)=z at h'
    show wpAny _ _ (if (decide (-(2:Int) ^ 63≤z)&&decide (z<2 ^ 63))=true then _ else _) Q E _
    unfold reduceHash at h'
    by_cases hr:(decide (-(2:Int) ^ 63≤z)&&decide (z<2 ^ 63))=true
    ·rw[Yn hr]
     rw[Yn hr] at h'
     exact Yd (h' _ (by show s.toks≤_;first | exact hk | (simp only[];omega)))
    ·rw[Yo hr]
     rw[Yo hr] at h'
     exact Ya (Xf (Yd (h' _ (by show s.toks≤_;first | exact hk | (simp only[];omega)))))
  | _=>cases hd
end
section
variable {prog:Program} {w:World}
theorem ig:∀ (n m:Nat) {A:Around} {E:Kv} {s:Shared} {d:D} {u:Value} {as:List Addr} {Q:Kb},n≤m→hkN n d=true→Reads s.heap u (aw d) as→Q true s→
  wpAny (model prog w) A (eqIsQuiet m u) Q E s:=by
 intro n
 induction n with
 | zero=>
  intro m A E s d u as Q hm hd r h
  cases d with
  | int i=>cases r;rw[Va _ rfl];exact Yd h
  | str x=>cases r;rw[Va _ rfl];exact Yd h
  | _=>cases hd
 | succ n ih=>
  intro m A E s d u as Q hm hd r h
  cases d with
  | int i=>cases r;rw[Va _ rfl];exact Yd h
  | str x=>cases r;rw[Va _ rfl];exact Yd h
  | tup ds=>
   obtain⟨a,o,vs,k,rfl,ho,hc,hdt,ra⟩:=bF r
   have hT:s.TypeIs (.ref a) "tuple":=⟨o,ho,hc⟩
   have hall:∀ d∈ds,hkN n d=true:=fun d m=>Yj.mp hd d m
   obtain⟨m,rfl⟩:∃ m',m=m' + 1:=⟨m-1,by omega⟩
   unfold eqIsQuiet
   refine Ya (Xm hT F.slot_tuple_eq.lookup ?_)
   show wpAny _ _ (isInstance (.ref a) (.type "tuple")>>=_) Q E s
   refine Ya (XB hT isSubtype_tuple_tuple ?_)
   show wpAny _ _ (seqItems? (.ref a)>>=_) Q E s
   refine Ya (Vf ho hdt ?_)
   show wpAny _ _ (forIn vs _ _>>=_) Q E s
   refine Ya ?_
   rw[← XQ]
   refine Xc _ (fun aG r s'=>r.1=none∧s'=s∧∃ left bs,(∀ d∈left,hkN n d=true)∧ReadsAll s.heap aG (ay left) bs) _ ?_ ?_ _ _ ⟨rfl,rfl,ds,_,hall,ra⟩
   ·rintro x aG ⟨r1,r2⟩ s' ⟨e,rfl,left,bs,hl,hr⟩
    cases left with
    | nil=>cases hr
    | cons d0 left=>
     cases hr with
     | cons h1 h2=>
      refine Ya (ih m (by omega) (hl d0 Yc) h1 ?_)
      exact Yd ⟨rfl,rfl,left,_,fun d m=>hl d (Yb _ m),h2⟩
   ·rintro⟨r1,r2⟩ s' ⟨e,rfl,_⟩
    cases e
    exact Yd h
  | _=>cases hd
theorem lL:∀ (n m:Nat) {A:Around} {E:Kv} {s:Shared} {d:D} {u:Value} {as:List Addr} {Q:Kb},n≤m→hkN n d=true→Reads s.heap u (aw d) as→(∀ b,Q b s)→
  wpAny (model prog w) A (hashByValue m u) Q E s:=by
 intro n
 induction n with
 | zero=>
  intro m A E s d u as Q hm hd r h
  cases d with
  | int i=>cases r;rw[ZO _ rfl];exact Yd (h _)
  | str i=>cases r;rw[ZO _ rfl];exact Yd (h _)
  | _=>cases hd
 | succ n ih=>
  intro m A E s d u as Q hm hd r h
  cases d with
  | int i=>cases r;rw[ZO _ rfl];exact Yd (h _)
  | str i=>cases r;rw[ZO _ rfl];exact Yd (h _)
  | tup ds=>
   obtain⟨a,o,vs,k,rfl,ho,hc,hdt,ra⟩:=bF r
   have hT:s.TypeIs (.ref a) "tuple":=⟨o,ho,hc⟩
   have hall:∀ d∈ds,hkN n d=true:=fun d m=>Yj.mp hd d m
   obtain⟨m,rfl⟩:∃ m',m=m' + 1:=⟨m-1,by omega⟩
   unfold hashByValue
   refine Ya (Xm hT Xs.lookup ?_)
   show wpAny _ _ (seqItems? (.ref a)>>=_) Q E s
   refine Ya (Vf ho hdt ?_)
   show wpAny _ _ (forIn vs _ _>>=_) Q E s
   refine Ya ?_
   rw[← XQ]
   refine Xc _ (fun aG r s'=>r.1=none∧s'=s∧∃ left bs,(∀ d∈left,hkN n d=true)∧ReadsAll s.heap aG (ay left) bs) _ ?_ ?_ _ _ ⟨rfl,rfl,ds,_,hall,ra⟩
   ·rintro x aG ⟨r1,r2⟩ s' ⟨e,rfl,left,bs,hl,hr⟩
    cases left with
    | nil=>cases hr
    | cons d0 left=>
     cases hr with
     | cons h1 h2=>
      refine Ya (ih m (by omega) (hl d0 Yc) h1 fun b=>?_)
      cases b with
      | true=>exact Yd ⟨rfl,rfl,left,_,fun d m=>hl d (Yb _ m),h2⟩
      | false=>exact Yd (Yd (h false))
   ·rintro⟨r1,r2⟩ s' ⟨e,rfl,_⟩
    cases e
    exact Yd (h true)
  | _=>cases hd
theorem m9:∀ (n m:Nat) {A:Around} {E:Kv} {s:Shared} {d:D} {u:Value} {as:List Addr} {Q:Kb},n≤m→hkN n d=true→Reads s.heap u (aw d) as→Q false s→
  wpAny (model prog w) A (ofAClassStatement m u) Q E s:=by
 intro n
 induction n with
 | zero=>
  intro m A E s d u as Q hm hd r h
  cases d with
  | int i=>cases r;unfold ofAClassStatement;exact Yd h
  | str x=>cases r;unfold ofAClassStatement;exact Yd h
  | _=>cases hd
 | succ n ih=>
  intro m A E s d u as Q hm hd r h
  cases d with
  | int i=>cases r;unfold ofAClassStatement;exact Yd h
  | str x=>cases r;unfold ofAClassStatement;exact Yd h
  | tup ds=>
   obtain⟨a,o,vs,k,rfl,ho,hc,hdt,ra⟩:=bF r
   have hT:s.TypeIs (.ref a) "tuple":=⟨o,ho,hc⟩
   have hall:∀ d∈ds,hkN n d=true:=fun d m=>Yj.mp hd d m
   obtain⟨m,rfl⟩:∃ m',m=m' + 1:=⟨m-1,by omega⟩
   unfold ofAClassStatement
   refine Ya (Vy hT ?_)
   show wpAny _ _ ((if ("tuple" == "tuple")=true then pure true else isSubtype (.type "tuple") (.type "tuple"))>>=_) Q E s
   rw[Yn (show ("tuple" == "tuple")=true by decide)]
   refine Ya (Yd ?_)
   show wpAny _ _ (seqItems? (.ref a)>>=_) Q E s
   refine Ya (Vf ho hdt ?_)
   show wpAny _ _ (forIn vs _ _>>=_) Q E s
   refine Ya ?_
   rw[← XQ]
   refine Xc _ (fun aG r s'=>r.1=none∧s'=s∧∃ left bs,(∀ d∈left,hkN n d=true)∧ReadsAll s.heap aG (ay left) bs) _ ?_ ?_ _ _ ⟨rfl,rfl,ds,_,hall,ra⟩
   ·rintro x aG ⟨r1,r2⟩ s' ⟨e,rfl,left,bs,hl,hr⟩
    cases left with
    | nil=>cases hr
    | cons d0 left=>
     cases hr with
     | cons h1 h2=>
      refine Ya (ih m (by omega) (hl d0 Yc) h1 ?_)
      exact Yd ⟨rfl,rfl,left,_,fun d m=>hl d (Yb _ m),h2⟩
   ·rintro⟨r1,r2⟩ s' ⟨e,rfl,_⟩
    cases e
    exact Yd h
  | _=>cases hd
end
end L2
namespace L2
open PySem PySem.SetTable
structure Rising (xs:Array Nat):Prop where
 lt:∀ i j (hi:i<xs.size) (hj:j<xs.size),i<j→xs[i]<xs[j]
theorem eY {xs:Array Nat}{j:Nat}(r:Rising xs):∀ (f lo hi:Nat),lo≤hi→hi≤xs.size→hi-lo≤f→(∀ i (h:i<xs.size),i<lo→xs[i]<j)→(∀ i (h:i<xs.size),hi≤i→j≤xs[i])→
  ∃ k,below.go xs j f lo hi=k∧k≤xs.size∧(∀ i (h:i<xs.size),i<k→xs[i]<j)∧∀ i (h:i<xs.size),k≤i→j≤xs[i]
 | 0,lo,hi,h1,h2,h3,h4,h5=>by
  have e:lo=hi:=by omega
  subst e
  exact⟨lo,rfl,h2,h4,h5⟩
 | f+1,lo,hi,h1,h2,h3,h4,h5=>by
  unfold below.go
  by_cases hlt:lo<hi
  ·rw[Yn hlt]
   have hm:(lo+hi)/2<xs.size:=by omega
   have eg:xs.getD ((lo+hi)/2) j=xs[(lo+hi)/2]:=by simp[Array.getD,hm]
   dsimp only
   rw[eg]
   by_cases hc:xs[(lo+hi)/2]<j
   ·rw[Yn hc]
    refine eY r f _ _ (by omega) h2 (by omega) (fun i h hi'=>?_) h5
    by_cases e:i=(lo+hi)/2
    ·subst e;exact hc
    ·exact Nat.lt_trans (r.lt i _ h hm (by omega)) hc
   ·rw[Yo hc]
    refine eY r f _ _ (by omega) (by omega) (by omega) h4 (fun i h hi'=>?_)
    by_cases e:i=(lo+hi)/2
    ·subst e;omega
    ·exact Zi (by omega) (XE (r.lt _ i hm h (by omega)))
  ·rw[Yo hlt]
   have e:lo=hi:=by omega
   subst e
   exact⟨lo,rfl,h2,h4,h5⟩
theorem bM {xs:Array Nat}(r:Rising xs)(j:Nat):below xs j≤xs.size∧(∀ i (h:i<xs.size),i<below xs j→xs[i]<j)∧∀ i (h:i<xs.size),below xs j≤i→j≤xs[i]:=by
 obtain⟨k,h1,h2,h3,h4⟩:=eY (j:=j) r xs.size 0 xs.size (Za _) (Yw _) (by omega) (fun i h z=>by omega) (fun i h z=>by omega)
 have e:below xs j=k:=h1
 rw[e]
 exact⟨h2,h3,h4⟩
theorem lE {xs:Array Nat}(r:Rising xs){i:Nat}(h:i<xs.size):below xs xs[i]=i:=by
 obtain⟨h1,h2,h3⟩:=bM r xs[i]
 apply Nat.le_antisymm
 ·rcases Xl i (below xs xs[i]) with q | q
  ·exact absurd (h2 i h q) (Zh _)
  ·exact q
 ·rcases Xl (below xs xs[i]) i with q | q
  ·have hb:below xs xs[i]<xs.size:=by omega
   have:=r.lt _ i hb h q
   have:=h3 _ hb (Yw _)
   omega
  ·exact q
theorem dJ {t:SetTable}(r:Rising t.place){i j:Nat}(h:t.place[i]?=some j):t.slot j=.live i:=by
 obtain⟨hi,e⟩:=Zc.mp h
 unfold slot
 have eb:below t.place j=i:=by rw[← e];exact lE r hi
 dsimp only
 rw[eb,h]
 simp
theorem i9 {t:SetTable}(r:Rising t.place)(hd:t.dummies=#[]){j:Nat}(h:j∉t.place):t.slot j=.empty:=by
 unfold slot
 dsimp only
 have hn:(t.place[below t.place j]? == some j)=false:=by
  cases q:t.place[below t.place j]? with
  | none=>rfl
  | some k=>
   have:k≠j:=fun z=>by subst z;exact h (Zp q)
   simpa using this
 rw[hn]
 simp only[Zq,Vm]
 have:has t.dummies j=false:=by
  unfold has
  rw[hd]
  simp
 rw[this]
 simp
def fy (mask:Nat)(p:Probe):Probe:=
 if p.more > 0 then { p with j:=p.j+1,more:=p.more-1 } else
 let (i,perturb):=leap mask p.i p.perturb
 { p with j:=i,more:=runEnd mask i-i,i,perturb }
def aT (mask:Nat)(h:Int):Probe:=
 let i:=bits h%(mask+1)
 { j:=i,more:=runEnd mask i-i,i,perturb:=bits h,dummy:=none }
def af (mask:Nat)(p:Probe):Nat→Probe
 | 0=>p
 | n+1=>fy mask (af mask p n)
def at_ (mask:Nat)(h:Int)(n:Nat):Nat:=(af mask (aT mask h) n).j
theorem dw (mask:Nat)(p:Probe)(m:Nat):∀ n,af mask p (m+n)=af mask (af mask p m) n
 | 0=>rfl
 | n+1=>by show fy mask (af mask p (m+n))=_;rw[dw mask p m n];rfl
theorem cz (mask:Nat)(p:Probe):∀ n,(af mask p n).dummy=p.dummy
 | 0=>rfl
 | n+1=>by
  show (fy mask (af mask p n)).dummy=_
  unfold fy
  split
  ·exact cz mask p n
  ·exact cz mask p n
theorem bY (mask:Nat)(p:Probe):∀ n,n≤p.more→af mask p n={ p with j:=p.j+n,more:=p.more-n }
 | 0,_=>rfl
 | n+1,h=>by
  show fy mask (af mask p n)=_
  rw[bY mask p n (by omega)]
  unfold fy
  have:(p.more-n) > 0:=by omega
  rw[Yn (show ({ p with j:=p.j+n,more:=p.more-n }:Probe).more > 0 from this)]
  simp only[Probe.mk.injEq,and_true,true_and]
  omega
def aZ (mask:Nat)(i perturb:Nat):Nat→Nat×Nat
 | 0=>(i,perturb)
 | k+1=>let (i',p'):=aZ mask i perturb k;leap mask i' p'
def ai (mask:Nat)(i perturb:Nat)(d:Option Nat):Probe:={ j:=i,more:=runEnd mask i-i,i,perturb,dummy:=d }
theorem iz (mask i:Nat):runEnd mask i-i≤9:=by
 unfold runEnd
 split <;> omega
theorem f6 (mask i pt:Nat)(d:Option Nat):af mask (ai mask i pt d) (runEnd mask i-i+1)=ai mask (leap mask i pt).1 (leap mask i pt).2 d:=by
 show fy mask (af mask (ai mask i pt d) (runEnd mask i-i))=_
 rw[bY mask (ai mask i pt d) (runEnd mask i-i) (Yw _)]
 unfold fy
 rw[Yo (by show ¬ (runEnd mask i-i-(runEnd mask i-i) > 0);omega)]
 rfl
theorem dM (mask i pt:Nat)(d:Option Nat):∀ k,∃ n,n≤10*k∧af mask (ai mask i pt d) n=ai mask (aZ mask i pt k).1 (aZ mask i pt k).2 d
 | 0=>⟨0,Yw _,rfl⟩
 | k+1=>by
  obtain⟨n,h1,h2⟩:=dM mask i pt d k
  refine⟨n+(runEnd mask (aZ mask i pt k).1-(aZ mask i pt k).1+1),?_,?_⟩
  ·have:=iz mask (aZ mask i pt k).1
   omega
  ·rw[dw,h2,f6]
   rfl
def lcg (m:Nat)(i:Nat):Nat→Nat
 | 0=>i
 | k+1=>(lcg m i k*5+1)%m
theorem cW (m i a:Nat):∀ b,lcg m i (a+b)=lcg m (lcg m i a) b
 | 0=>rfl
 | b+1=>by show (lcg m i (a+b)*5+1)%m=_;rw[cW m i a b];rfl
def cS (m:Nat):Prop:=(∀ j,j<m→∃ k,k<m∧lcg m 0 k=j)∧lcg m 0 m=0
theorem jS {m:Nat}(hm:0<m)(F:cS m){i j:Nat}(hi:i<m)(hj:j<m):∃ k,k<m∧lcg m i k=j:=by
 obtain⟨a,ha,ea⟩:=F.1 i hi
 obtain⟨b,hb,eb⟩:=F.1 j hj
 by_cases h:a≤b
 ·refine⟨b-a,by omega,?_⟩
  rw[← ea,← cW,show a+(b-a)=b by omega,eb]
 ·refine⟨m-a+b,by omega,?_⟩
  rw[← ea,← cW,show a+(m-a+b)=m+b by omega,cW,F.2,eb]
def iP (m:Nat):Nat→Nat→List Nat
 | 0,_=>[]
 | n+1,i=>i::iP m n ((i*5+1)%m)
theorem eQ (m:Nat):∀ (n i k:Nat),k<n→(iP m n i)[k]?=some (lcg m i k)
 | 0,_,_,h=>by omega
 | n+1,i,0,_=>rfl
 | n+1,i,k+1,h=>by
  show (iP m n ((i*5+1)%m))[k]?=_
  rw[eQ m n _ k (by omega)]
  rw[show k+1=1+k by omega,cW]
  rfl
theorem gM (m:Nat)(h:((List.range m).all fun j=>(iP m m 0).contains j)=true)(h0:(iP m (m+1) 0)[m]?=some 0):cS m:=by
 refine⟨fun j hj=>?_,?_⟩
 ·have hc:=Yj.mp h j (YO.mpr hj)
  have hm:j∈iP m m 0:=by simpa using hc
  obtain⟨k,hk,e⟩:=ZI hm
  have hl:∀ n i,(iP m n i).length=n:=by
   intro n
   induction n with
   | zero=>intro i;rfl
   | succ n ih=>intro i;show (iP m n _).length+1=n+1;rw[ih]
  have hk':k<m:=by rw[hl] at hk;exact hk
  refine⟨k,hk',?_⟩
  have:=eQ m m 0 k hk'
  rw[Ye hk,e] at this
  exact (Yx this).symm
 ·rw[eQ m (m+1) 0 m (by omega)] at h0
  exact Yx h0
theorem pf:cS 8:=gM 8 (by decide) (by decide)
theorem qq:cS 32:=gM 32 (by decide +kernel) (by decide +kernel)
theorem oR:cS 128:=gM 128 (by decide +kernel) (by decide +kernel)
theorem ic (mask i pt:Nat):∀ k,(aZ mask i pt k).2=pt/32 ^ k
 | 0=>by simp[aZ]
 | k+1=>by
  show (aZ mask i pt k).2/32=_
  rw[ic mask i pt k,Nat.div_div_eq_div_mul,Nat.pow_succ]
theorem dA (mask i pt:Nat)(a:Nat)(h:pt/32 ^ (a+1)=0):∀ k,(aZ mask i pt (a+k)).1=lcg (mask+1) (aZ mask i pt a).1 k
 | 0=>rfl
 | k+1=>by
  show (leap mask (aZ mask i pt (a+k)).1 (aZ mask i pt (a+k)).2).1=_
  unfold leap
  rw[ic,dA mask i pt a h k]
  have:pt/32 ^ (a+k)/32=0:=by
   rw[Nat.div_div_eq_div_mul,← Nat.pow_succ]
   have h1:32 ^ (a+1)≤32 ^ (a+k+1):=Nat.pow_le_pow_right (by omega) (by omega)
   have h2:pt<32 ^ (a+1):=by
    rcases Xl pt (32 ^ (a+1)) with q | q
    ·exact q
    ·have:=Nat.div_pos q (Nat.pow_pos (by omega:0<32))
     omega
   exact Nat.div_eq_of_lt (YE h2 h1)
  rw[this]
  rfl
theorem h8 (mask i pt:Nat)(h:i<mask+1):∀ k,(aZ mask i pt k).1<mask+1
 | 0=>h
 | k+1=>Vp _ (XG _)
theorem jV (h:Int):bits h<2 ^ 64:=by
 unfold bits
 have h1:=XR h (by decide:(2 ^ 64:Int)≠0)
 have h2:=Xk h (by decide:(0:Int)<2 ^ 64)
 omega
theorem jo (mask:Nat)(h:Int):aT mask h=ai mask (bits h%(mask+1)) (bits h) none:=rfl
theorem kj {mask:Nat}(F:cS (mask+1))(h:Int){j:Nat}(hj:j≤mask):∃ k,k<turns mask∧(aZ mask (bits h%(mask+1)) (bits h) k).1=j:=by
 have hz:bits h/32 ^ (12+1)=0:=Nat.div_eq_of_lt (YE (jV h) (by decide))
 have hi:bits h%(mask+1)<mask+1:=Vp _ (XG _)
 obtain⟨k,hk,ek⟩:=jS (XG mask) F (h8 mask _ (bits h) hi 12) (show j<mask+1 by omega)
 have e:=dA mask (bits h%(mask+1)) (bits h) 12 hz k
 rw[ek] at e
 exact⟨12+k,by unfold turns;omega,e⟩
theorem qf {mask:Nat}(F:cS (mask+1))(h:Int){j:Nat}(hj:j≤mask):∃ n,n<10*turns mask∧at_ mask h n=j:=by
 have hz:bits h/32 ^ (12+1)=0:=Nat.div_eq_of_lt (YE (jV h) (by decide))
 have hi:bits h%(mask+1)<mask+1:=Vp _ (XG _)
 obtain⟨k,hk,ek⟩:=jS (XG mask) F (h8 mask _ (bits h) hi 12) (show j<mask+1 by omega)
 have e:=dA mask (bits h%(mask+1)) (bits h) 12 hz k
 rw[ek] at e
 obtain⟨n,hn,es⟩:=dM mask (bits h%(mask+1)) (bits h) none (12+k)
 refine⟨n,?_,?_⟩
 ·unfold turns;omega
 ·unfold at_
  rw[jo,es,e]
  rfl
structure TabOk (hs:Nat→Int) (t:SetTable):Prop where
 rise:Rising t.place
 nod:t.dummies=#[]
 bd:∀ j,j∈t.place→j≤t.mask
 odd:t.mask%2=1
 full:cS (t.mask+1)
 room:t.place.size≤t.mask
 reach:∀ i j,t.place[i]?=some j→∃ n,n<10*turns t.mask∧at_ t.mask (hs i) n=j∧∀ m,m<n→at_ t.mask (hs i) m∈t.place
theorem TabOk.fits {hs:Nat→Int}{t:SetTable}(k:TabOk hs t){n:Nat}(h:t.place.size=n):t.fits n=true:=by
 unfold SetTable.fits fill
 rw[k.nod]
 have:=k.room
 simp[h]
 omega
theorem TabOk.gave {hs:Nat→Int}{t:SetTable}(k:TabOk hs t):t.gaveWay=false:=by
 unfold SetTable.gaveWay
 rw[k.odd]
 rfl
theorem i_:∀ (l m:List Nat),l.Nodup→(∀ x∈l,x∈m)→l.length≤m.length
 | [],_,_,_=>Za _
 | x::l,m,nd,h=>by
  have hx:=h x Yc
  have hn:=ZR.mp nd
  have:=i_ l (m.erase x) hn.2 fun y hy=>(List.mem_erase_of_ne (fun (z:y=x)=>hn.1 (z ▸ hy))).mpr (h y (Yb _ hy))
  rw[List.length_erase_of_mem hx] at this
  have:=List.length_pos_of_mem hx
  rw[YB]
  omega
theorem gA {t:SetTable}(r:Rising t.place)(bd:∀ j,j∈t.place→j≤t.mask)(room:t.place.size≤t.mask):∃ j,j≤t.mask∧j∉t.place:=by
 apply Xx
 intro hn
 have hall:∀ j,j≤t.mask→j∈t.place:=fun j hj=>Xx fun q=>hn ⟨j,hj,q⟩
 have hsub:∀ j∈List.range (t.mask+1),j∈t.place.toList:=fun j hj=>Array.mem_toList_iff.mpr (hall j (by have:=YO.mp hj;omega))
 have h:=i_ (List.range (t.mask+1)) t.place.toList List.nodup_range hsub
 rw[Zk,Yu] at h
 omega
theorem TabOk.empty {hs:Nat→Int}{t:SetTable}(k:TabOk hs t)(h:Int):∃ n,n<10*turns t.mask∧at_ t.mask h n∉t.place:=by
 obtain⟨j,h1,h2⟩:=gA k.rise k.bd k.room
 obtain⟨n,h3,h4⟩:=qf k.full h h1
 exact⟨n,h3,by rw[h4];exact h2⟩
theorem iF {hs:Nat→Int}{t:SetTable}(k:TabOk hs t){hashAt:Nat→Int}{h:Int}{N:Nat}(hN:at_ t.mask h N∉t.place):∀ (f n:Nat),n≤N→N-n<f→
  (∃ m,n≤m∧m≤N∧at_ t.mask h m∉t.place∧(∀ l,n≤l→l<m→∃ i,t.place[i]?=some (at_ t.mask h l)∧hashAt i≠h)∧SetTable.probe.go t hashAt h f (af t.mask (aT t.mask h) n)=some (.empty (at_ t.mask h m) none)) ∨
  ∃ m i,n≤m∧m<N∧t.place[i]?=some (at_ t.mask h m)∧hashAt i=h∧(∀ l,n≤l→l<m→∃ i,t.place[i]?=some (at_ t.mask h l)∧hashAt i≠h)∧SetTable.probe.go t hashAt h f (af t.mask (aT t.mask h) n)=some (.candidate (at_ t.mask h m) i (af t.mask (aT t.mask h) (m+1)))
 | 0,n,_,h2=>by omega
 | f+1,n,h1,h2=>by
  by_cases hm:at_ t.mask h n∈t.place
  ·obtain⟨i,hi,e⟩:=Vl hm
   have hp:t.place[i]?=some (at_ t.mask h n):=by rw[Yl hi,e]
   have hne:n≠N:=fun z=>by subst z;exact hN hm
   have hs:=dJ k.rise hp
   by_cases hh:hashAt i=h
   ·refine .inr ⟨n,i,Yw _,by omega,hp,hh,fun l a b=>by omega,?_⟩
    unfold SetTable.probe.go
    rw[show t.slot (af t.mask (aT t.mask h) n).j=.live i from hs]
    have hb:(hashAt i == h)=true:=by simpa using hh
    simp only[hb,VE]
    rfl
   ·have go:SetTable.probe.go t hashAt h (f+1) (af t.mask (aT t.mask h) n)=SetTable.probe.go t hashAt h f (af t.mask (aT t.mask h) (n+1)):=by
     conv=>lhs;unfold SetTable.probe.go
     rw[show t.slot (af t.mask (aT t.mask h) n).j=.live i from hs]
     have hb:(hashAt i == h)=false:=by simpa using hh
     simp only[hb,Zq,Vm]
     rfl
    have more:∀ {m},(∀ l,n+1≤l→l<m→∃ i,t.place[i]?=some (at_ t.mask h l)∧hashAt i≠h)→∀ l,n≤l→l<m→∃ i,t.place[i]?=some (at_ t.mask h l)∧hashAt i≠h:=fun {m} q l a b=>by
     by_cases e:l=n
     ·subst e;exact⟨i,hp,hh⟩
     ·exact q l (by omega) b
    rcases iF k hN f (n+1) (by omega) (by omega) with⟨m,a1,a2,a3,a4,a5⟩ | ⟨m,i',a1,a2,a3,a4,a5,a6⟩
    ·exact .inl ⟨m,by omega,a2,a3,more a4,by rw[go];exact a5⟩
    ·exact .inr ⟨m,i',by omega,a2,a3,a4,more a5,by rw[go];exact a6⟩
  ·refine .inl ⟨n,Yw _,h1,hm,fun l a b=>by omega,?_⟩
   unfold SetTable.probe.go
   rw[show t.slot (af t.mask (aT t.mask h) n).j=.empty from i9 k.rise k.nod hm]
   show some (Met.empty _ (af t.mask (aT t.mask h) n).dummy)=_
   rw[cz]
   rfl
theorem au {α:Type}(xs:Array α)(p:Nat)(x:α)(h:p≤xs.size):(insertAt xs p x).size=xs.size+1:=by
 unfold insertAt
 simp
 omega
theorem am {α:Type}(xs:Array α)(p:Nat)(x:α)(h:p≤xs.size)(i:Nat):(insertAt xs p x)[i]?=if i<p then xs[i]? else if i=p then some x else xs[i-1]?:=by
 unfold insertAt
 have hs:((xs.extract 0 p).push x).size=p+1:=by simp;omega
 rw[Array.getElem?_append,hs]
 by_cases h1:i<p
 ·rw[Yn (by omega),Yn h1,Array.getElem?_push,Yo (by simp;omega),Array.getElem?_extract,Yn (by omega)]
  simp
 ·rw[Yo h1]
  by_cases h2:i=p
  ·rw[Yn h2,Yn (by omega),Array.getElem?_push,Yn (by simp;omega)]
  ·rw[Yo h2,Yo (by omega),Array.getElem?_extract]
   by_cases h3:i-(p+1)<min xs.size xs.size-p
   ·rw[Yn h3,show p+(i-(p+1))=i-1 by omega]
   ·rw[Yo h3]
    symm
    rw[Array.getElem?_eq_none_iff]
    simp at h3
    omega
theorem gO {α:Type}{xs:Array α}{p:Nat}{x y:α}(h:p≤xs.size):y∈insertAt xs p x↔y=x∨y∈xs:=by
 constructor
 ·intro hy
  obtain⟨i,hi,e⟩:=Vl hy
  have q:(insertAt xs p x)[i]?=some y:=by rw[Yl hi,e]
  rw[am xs p x h] at q
  split at q
  ·exact .inr (Zp q)
  ·split at q
   ·cases q;exact .inl rfl
   ·exact .inr (Zp q)
 ·rintro (rfl | hy)
  ·exact Zp (i:=p) (by rw[am xs p y h,Yo (Zh _),Yn rfl])
  ·obtain⟨i,hi,e⟩:=Vl hy
   have q:xs[i]?=some y:=by rw[Yl hi,e]
   by_cases hp:i<p
   ·exact Zp (i:=i) (by rw[am xs p x h,Yn hp,q])
   ·exact Zp (i:=i+1) (by rw[am xs p x h,Yo (by omega),Yo (by omega)];exact q)
def l3 (hs:Nat→Int)(p:Nat)(h:Int)(i:Nat):Int:=if i<p then hs i else if i=p then h else hs (i-1)
theorem fX (t:SetTable)(j:Nat):(t.put j).1.place=insertAt t.place (below t.place j) j:=rfl
theorem l_ (t:SetTable)(j:Nat):(t.put j).1.mask=t.mask:=rfl
theorem ff {xs:Array Nat}(r:Rising xs){j:Nat}(hj:j∉xs):Rising (insertAt xs (below xs j) j):=by
 obtain⟨b1,b2,b3⟩:=bM r j
 constructor
 intro a b ha hb hab
 rw[au xs _ _ b1] at ha hb
 have ga:=am xs (below xs j) j b1 a
 have gb:=am xs (below xs j) j b1 b
 rw[Yl (by rw[au xs _ _ b1];exact ha)] at ga
 rw[Yl (by rw[au xs _ _ b1];exact hb)] at gb
 have big:∀ i (h:i<xs.size),below xs j≤i→j<xs[i]:=fun i h hi=>by
  have:=b3 i h hi
  have:j≠xs[i]:=fun z=>hj (by rw[z];exact Array.getElem_mem h)
  omega
 by_cases c1:a<below xs j
 ·rw[Yn c1,Yl (by omega)] at ga
  have ga:=Yx ga
  rw[ga]
  by_cases c2:b<below xs j
  ·rw[Yn c2,Yl (by omega)] at gb
   rw[Yx gb]
   exact r.lt a b (by omega) (by omega) hab
  ·rw[Yo c2] at gb
   by_cases c3:b=below xs j
   ·rw[Yn c3] at gb
    rw[Yx gb]
    exact b2 a (by omega) c1
   ·rw[Yo c3,Yl (by omega)] at gb
    rw[Yx gb]
    exact r.lt a (b-1) (by omega) (by omega) (by omega)
 ·rw[Yo c1] at ga
  rw[Yo (by omega),Yo (by omega),Yl (by omega)] at gb
  rw[Yx gb]
  by_cases c2:a=below xs j
  ·rw[Yn c2] at ga
   rw[Yx ga]
   exact big (b-1) (by omega) (by omega)
  ·rw[Yo c2,Yl (by omega)] at ga
   rw[Yx ga]
   exact r.lt (a-1) (b-1) (by omega) (by omega) (by omega)
theorem TabOk.put {hs:Nat→Int}{t:SetTable}(k:TabOk hs t){h:Int}{N:Nat}(hN:N<10*turns t.mask)(he:at_ t.mask h N∉t.place)(hb:∀ m,m<N→at_ t.mask h m∈t.place)(hj:at_ t.mask h N≤t.mask)(hr:t.place.size+1≤t.mask) :
  TabOk (l3 hs (below t.place (at_ t.mask h N)) h) (t.put (at_ t.mask h N)).1:=by
 obtain⟨b1,b2,b3⟩:=bM k.rise (at_ t.mask h N)
 have mem:∀ y,y∈(t.put (at_ t.mask h N)).1.place↔y=at_ t.mask h N∨y∈t.place:=fun y=>gO b1
 refine⟨ff k.rise he,?_,fun j hm=>?_,k.odd,k.full,?_,fun i j hij=>?_⟩
 ·show (if has t.dummies _ then _ else t.dummies)=#[]
  rw[k.nod]
  have:has (#[]:Array Nat) (at_ t.mask h N)=false:=by unfold has;simp
  rw[this]
  rfl
 ·rcases (mem j).mp hm with rfl | q
  ·exact hj
  ·exact k.bd j q
 ·show (insertAt t.place _ _).size≤t.mask
  rw[au _ _ _ b1]
  exact hr
 ·rw[fX,am _ _ _ b1] at hij
  unfold l3
  rw[l_]
  have old:∀ i',t.place[i']?=some j→∃ n,n<10*turns t.mask∧at_ t.mask (hs i') n=j∧∀ m,m<n→at_ t.mask (hs i') m∈(t.put (at_ t.mask h N)).1.place:=fun i' q=>by
   obtain⟨n,a1,a2,a3⟩:=k.reach i' j q
   exact⟨n,a1,a2,fun m hm=>(mem _).mpr (.inr (a3 m hm))⟩
  split at hij
  ·rename_i c
   simp only[Yn c]
   exact old i hij
  ·rename_i c
   simp only[Yo c]
   split at hij
   ·rename_i c2
    cases hij
    simp only[Yn c2]
    exact⟨N,hN,rfl,fun m hm=>(mem _).mpr (.inr (hb m hm))⟩
   ·rename_i c2
    simp only[Yo c2]
    exact old (i-1) hij
theorem dO (mask i pt:Nat):∀ k,aZ mask i pt (k+1)=aZ mask (leap mask i pt).1 (leap mask i pt).2 k
 | 0=>rfl
 | k+1=>by
  show leap mask (aZ mask i pt (k+1)).1 (aZ mask i pt (k+1)).2=_
  rw[dO mask i pt k]
  rfl
def own (owner:Array (Option Nat))(j:Nat):Option Nat:=owner.getD j (some 0)
theorem jP {mask:Nat}(owner:Array (Option Nat)):∀ (f i pt:Nat),(∃ k,k<f∧own owner (aZ mask i pt k).1=none)→
  ∃ n,n<10*f∧layClean.free mask owner f i pt=some (af mask (ai mask i pt none) n).j∧own owner (af mask (ai mask i pt none) n).j=none∧∀ m,m<n→own owner (af mask (ai mask i pt none) m).j≠none
 | 0,i,pt,⟨k,hk,_⟩=>by omega
 | f+1,i,pt,⟨k,hk,hn⟩=>by
  unfold layClean.free
  have hm:=iz mask i
  have hle:i≤runEnd mask i:=by unfold runEnd;split <;> omega
  cases q:(List.range (runEnd mask i+1-i)).find? fun k=>(owner.getD (i+k) (some 0)).isNone with
  | some r=>
   have h1:=List.find?_some q
   have h2:=YO.mp (List.mem_of_find?_eq_some q)
   have e:(af mask (ai mask i pt none) r).j=i+r:=by
    rw[bY mask (ai mask i pt none) r (by show r≤runEnd mask i-i;omega)]
    rfl
   refine⟨r,by omega,by rw[e],by rw[e];unfold own;simpa using h1,fun m hm'=>?_⟩
   have e':(af mask (ai mask i pt none) m).j=i+m:=by
    rw[bY mask (ai mask i pt none) m (by show m≤runEnd mask i-i;omega)]
    rfl
   rw[e']
   intro z
   obtain⟨_,as,bs,e1,e2⟩:=List.find?_eq_some_iff_append.mp q
   have hmem:m∈as:=by
    have hr:(List.range (runEnd mask i+1-i))[m]?=some m:=XD (by omega)
    have hlen:as.length=r:=by
     have hx:(List.range (runEnd mask i+1-i))[as.length]?=some r:=by rw[e1];simp
     have hl:as.length<runEnd mask i+1-i:=by
      have:=ZP List.length e1
      simp at this
      omega
     rw[XD hl] at hx
     exact Yx hx
    rw[e1,YX (by omega)] at hr
    exact YG hr
   have:=e2 m hmem
   unfold own at z
   rw[z] at this
   simp at this
  | none=>
   have hall:=List.find?_eq_none.mp q
   have run:∀ m,m≤runEnd mask i-i→(af mask (ai mask i pt none) m).j=i+m∧own owner (i+m)≠none:=fun m hm'=>by
    refine⟨?_,fun z=>?_⟩
    ·rw[bY mask (ai mask i pt none) m (by show m≤runEnd mask i-i;omega)]
     rfl
    ·have:=hall m (YO.mpr (by omega))
     unfold own at z
     rw[z] at this
     simp at this
   cases k with
   | zero=>exact absurd (show own owner i=none from hn) (by have:=(run 0 (Za _)).2;simpa using this)
   | succ k=>
    rw[dO] at hn
    obtain⟨n,a1,a2,a3,a4⟩:=jP owner f (leap mask i pt).1 (leap mask i pt).2 ⟨k,by omega,hn⟩
    have sh:∀ m,af mask (ai mask i pt none) (runEnd mask i-i+1+m)=af mask (ai mask (leap mask i pt).1 (leap mask i pt).2 none) m:=fun m=>by
     rw[dw,f6]
    refine⟨runEnd mask i-i+1+n,by omega,by rw[sh];exact a2,by rw[sh];exact a3,fun m hm'=>?_⟩
    by_cases c:m≤runEnd mask i-i
    ·rw[(run m c).1];exact (run m c).2
    ·have:m=runEnd mask i-i+1+(m-(runEnd mask i-i+1)):=by omega
     rw[this,sh]
     exact a4 _ (by omega)
theorem fU {mask i:Nat}(h:i≤mask):runEnd mask i≤mask:=by unfold runEnd;split <;> omega
theorem gk (mask i:Nat):i≤runEnd mask i:=by unfold runEnd;split <;> omega
theorem iK (mask:Nat)(p:Probe)(h:p.j+p.more≤mask):∀ n,(af mask p n).j+(af mask p n).more≤mask
 | 0=>h
 | n+1=>by
  show (fy mask (af mask p n)).j+(fy mask (af mask p n)).more≤mask
  have ih:=iK mask p h n
  unfold fy
  split
  ·rename_i c
   show (af mask p n).j+1+((af mask p n).more-1)≤mask
   omega
  ·show (leap mask _ _).1+(runEnd mask (leap mask _ _).1-(leap mask _ _).1)≤mask
   have hl:(leap mask (af mask p n).i (af mask p n).perturb).1≤mask:=Xr (Vp _ (XG _))
   have:=fU hl
   have:=gk mask (leap mask (af mask p n).i (af mask p n).perturb).1
   omega
theorem jX (mask:Nat)(h:Int)(n:Nat):at_ mask h n≤mask:=by
 have hi:bits h%(mask+1)≤mask:=Xr (Vp _ (XG _))
 have:=iK mask (aT mask h) (by
  show bits h%(mask+1)+(runEnd mask (bits h%(mask+1))-bits h%(mask+1))≤mask
  have:=fU hi
  have:=gk mask (bits h%(mask+1))
  omega) n
 unfold at_
 omega
def ow (owner:Array (Option Nat))(j:Nat):Option Nat:=owner.getD j none
theorem i3 {owner:Array (Option Nat)}{mask j:Nat}(hs:owner.size=mask+1)(hj:j≤mask):own owner j=ow owner j:=by
 unfold own ow
 have:j<owner.size:=by omega
 simp[Array.getD,this]
structure LayInv (mask:Nat) (hashes:List Int) (owner:Array (Option Nat)) (k:Nat):Prop where
 sz:owner.size=mask+1
 lt:∀ j a,ow owner j=some a→j≤mask∧a<k
 inj:∀ j j' a,ow owner j=some a→ow owner j'=some a→j=j'
 surj:∀ a,a<k→∃ j,ow owner j=some a
 reach:∀ j a,ow owner j=some a→∃ h,hashes[a]?=some h∧∃ n,n<10*turns mask∧at_ mask h n=j∧∀ m,m<n→ow owner (at_ mask h m)≠none
theorem qd {owner:Array (Option Nat)}{mask j:Nat}(hs:owner.size=mask+1)(hj:j≤mask)(v:Option Nat)(i:Nat):ow (owner.setIfInBounds j v) i=if i=j then v else ow owner i:=by
 unfold ow
 have hj':j<owner.size:=by omega
 by_cases h:i=j
 ·subst h
  simp[Array.getD,hj']
 ·rw[Yo h]
  simp only[Zj]
  rw[Array.getElem?_setIfInBounds_ne (fun z=>h z.symm)]
theorem lq {mask:Nat}(F:cS (mask+1)){hashes:List Int}{owner:Array (Option Nat)}{k:Nat}(I:LayInv mask hashes owner k){h:Int}(hk:hashes[k]?=some h)(hm:k≤mask) :
  ∃ j,layClean.free mask owner (turns mask) (bits h%(mask+1)) (bits h)=some j∧LayInv mask hashes (owner.setIfInBounds j (some k)) (k+1):=by
 -- some place is free
 have hfree:∃ j,j≤mask∧ow owner j=none:=by
  apply Xx
  intro hn
  have hall:∀ j,j≤mask→∃ a,ow owner j=some a:=fun j hj=>by
   cases q:ow owner j with
   | none=>exact absurd ⟨j,hj,q⟩ hn
   | some a=>exact⟨a,rfl⟩
  have nd:((List.range (mask+1)).map fun j=>(ow owner j).getD 0).Nodup:=by
   rw[Xt,VB]
   refine List.Pairwise.imp_of_mem ?_ (Xt.mp List.nodup_range)
   intro a b ha hb hab e
   obtain⟨x,hx⟩:=hall a (by have:=YO.mp ha;omega)
   obtain⟨y,hy⟩:=hall b (by have:=YO.mp hb;omega)
   rw[hx,hy] at e
   have e:x=y:=e
   subst e
   exact hab (I.inj a b x hx hy)
  have:=i_ _ (List.range k) nd fun x hx=>by
   obtain⟨j,hj,rfl⟩:=ZU.mp hx
   obtain⟨a,ha⟩:=hall j (by have:=YO.mp hj;omega)
   rw[ha]
   exact YO.mpr (I.lt j a ha).2
  rw[YA,Zk,Zk] at this
  omega
 obtain⟨j0,hj0,ej0⟩:=hfree
 obtain⟨r,hr,er⟩:=kj F h hj0
 obtain⟨n,a1,a2,a3,a4⟩:=jP (mask:=mask) owner (turns mask) (bits h%(mask+1)) (bits h) ⟨r,hr,by rw[er,i3 I.sz hj0];exact ej0⟩
 have hj:at_ mask h n≤mask:=jX mask h n
 have e:(af mask (ai mask (bits h%(mask+1)) (bits h) none) n).j=at_ mask h n:=rfl
 rw[e] at a2 a3
 rw[i3 I.sz hj] at a3
 have sw:=qd (owner:=owner) I.sz hj (some k)
 refine⟨_,a2,⟨by rw[Array.size_setIfInBounds];exact I.sz,fun j a q=>?_,fun j j' a q q'=>?_,fun a ha=>?_,fun j a q=>?_⟩⟩
 ·rw[sw] at q
  split at q
  ·rename_i c;cases q;exact⟨by rw[c];exact hj,Vh _⟩
  ·have:=I.lt j a q;exact⟨this.1,by omega⟩
 ·rw[sw] at q q'
  split at q <;> split at q'
  ·rename_i c c';rw[c,c']
  ·cases q;have:=(I.lt j' _ q').2;omega
  ·cases q';have:=(I.lt j _ q).2;omega
  ·exact I.inj j j' a q q'
 ·by_cases c:a=k
  ·exact⟨at_ mask h n,by rw[sw,Yn rfl,c]⟩
  ·obtain⟨j,ej⟩:=I.surj a (by omega)
   refine⟨j,?_⟩
   rw[sw,Yo]
   ·exact ej
   ·intro z
    rw[z,a3] at ej
    cases ej
 ·have keep:∀ i,ow owner i≠none→ow (owner.setIfInBounds (at_ mask h n) (some k)) i≠none:=fun i hi=>by
   rw[sw]
   split
   ·simp
   ·exact hi
  rw[sw] at q
  split at q
  ·rename_i c
   cases q
   refine⟨h,hk,n,a1,c.symm,fun m hm'=>keep _ ?_⟩
   have:=a4 m hm'
   have e':(af mask (ai mask (bits h%(mask+1)) (bits h) none) m).j=at_ mask h m:=rfl
   rw[e',i3 I.sz (jX mask h m)] at this
   exact this
  ·obtain⟨h',b1,n',b2,b3,b4⟩:=I.reach j a q
   exact⟨h',b1,n',b2,b3,fun m hm'=>keep _ (b4 m hm')⟩
theorem jR {mask:Nat}(F:cS (mask+1)){hashes:List Int}(hm:hashes.length≤mask):∀ (aG:List Int) (owner:Array (Option Nat)) (k:Nat),hashes.drop k=aG→k+aG.length=hashes.length→LayInv mask hashes owner k→
  ∃ owner',(aG.foldl (fun (acc:Option (Array (Option Nat)×Nat)) h=>do
   let (owner,k) ← acc
   let j ← layClean.free mask owner (turns mask) (bits h%(mask+1)) (bits h)
   pure (owner.setIfInBounds j (some k),k+1)) (some (owner,k)))=some (owner',hashes.length)∧LayInv mask hashes owner' hashes.length
 | [],owner,k,_,hl,I=>by
  have:k=hashes.length:=by simpa using hl
  subst this
  exact⟨owner,rfl,I⟩
 | h::aG,owner,k,hd,hl,I=>by
  have hk:hashes[k]?=some h:=by
   have:=ZP (fun l=>l[0]?) hd
   simpa using this
  rw[YB] at hl
  obtain⟨j,e,I'⟩:=lq F I hk (by omega)
  obtain⟨owner',e',I''⟩:=jR F hm aG _ (k+1) (by
   have:=ZP List.tail hd
   rw[List.tail_drop] at this
   exact this) (by omega) I'
  refine⟨owner',?_,I''⟩
  rw[Vt,← e']
  congr 1
  show (layClean.free mask owner (turns mask) (bits h%(mask+1)) (bits h)).bind _=_
  rw[e]
  rfl
theorem kh (mask:Nat)(hashes:List Int):LayInv mask hashes (Array.replicate (mask+1) none) 0:=by
 have e:∀ j,ow (Array.replicate (mask+1) (none:Option Nat)) j=none:=fun j=>by
  unfold ow
  simp only[Zj,Array.getElem?_replicate]
  split <;> rfl
 refine⟨by simp,fun j a q=>?_,fun j j' a q _=>?_,fun a ha=>by omega,fun j a q=>?_⟩
 all_goals rw[e] at q;cases q
theorem iv {mask:Nat}(F:cS (mask+1)){hashes:Array Int}(hm:hashes.size≤mask):∃ owner,layClean mask hashes=some owner∧LayInv mask hashes.toList owner hashes.size:=by
 obtain⟨owner,e,I⟩:=jR F (hashes:=hashes.toList) (by simpa using hm) hashes.toList _ 0 rfl (by simp) (kh mask hashes.toList)
 refine⟨owner,?_,by simpa using I⟩
 unfold layClean
 rw[← Array.foldl_toList,e]
 rfl
def aJ (owner:Array (Option Nat))(mask:Nat):List (Nat×Nat):=(List.range (mask+1)).filterMap fun j=>(ow owner j).map (j,·)
theorem bK {owner:Array (Option Nat)}{mask j a:Nat}:(j,a)∈aJ owner mask↔j≤mask∧ow owner j=some a:=by
 unfold aJ
 rw[Vw]
 constructor
 ·rintro⟨i,hi,e⟩
  have:=YO.mp hi
  cases q:ow owner i with
  | none=>rw[q] at e;cases e
  | some b=>rw[q] at e;cases e;exact⟨by omega,q⟩
 ·rintro⟨h1,h2⟩
  exact⟨j,YO.mpr (by omega),by rw[h2];rfl⟩
theorem dz (owner:Array (Option Nat))(mask:Nat):(aJ owner mask).Pairwise fun x y=>x.1<y.1:=by
 unfold aJ
 rw[List.pairwise_filterMap]
 refine List.Pairwise.imp ?_ List.pairwise_lt_range
 intro a b hab x hx y hy
 cases q:ow owner a with
 | none=>rw[q] at hx;cases hx
 | some u=>
  rw[q] at hx
  cases q':ow owner b with
  | none=>rw[q'] at hy;cases hy
  | some v=>rw[q'] at hy;cases hx;cases hy;exact hab
theorem nR {mask:Nat}(F:cS (mask+1))(ho:mask%2=1){hashes:Array Int}(hm:hashes.size≤mask)(finger moves:Nat)(led plain:Bool) :
  ∃ (t:SetTable) (order:Array Nat),laid mask finger moves led plain hashes=some (t,order)∧TabOk (fun i=>hashes.getD (order.getD i 0) 0) t∧t.place.size=hashes.size∧order.toList.Perm (List.range hashes.size)∧t.mask=mask∧t.led=led∧t.plain=plain∧t.moves=moves:=by
 obtain⟨owner,e,I⟩:=iv F hm
 have hl:laid mask finger moves led plain hashes=some ({ mask,place:=((aJ owner mask).map (·.1)).toArray,dummies:=#[],finger,led,moves,plain },((aJ owner mask).map (·.2)).toArray):=by
  unfold laid
  rw[e]
  rfl
 have perm:((aJ owner mask).map (·.2)).Perm (List.range hashes.size):=by
  have nd:((aJ owner mask).map (·.2)).Nodup:=by
   rw[Xt,VB]
   refine List.Pairwise.imp_of_mem ?_ (dz owner mask)
   rintro⟨a,x⟩ ⟨b,y⟩ ha hb hab q
   have hab:a<b:=hab
   have q:x=y:=q
   subst q
   have:=I.inj a b x (bK.mp ha).2 (bK.mp hb).2
   omega
  refine (List.perm_ext_iff_of_nodup nd List.nodup_range).mpr fun x=>?_
  rw[ZU,YO]
  constructor
  ·rintro⟨⟨j,a⟩,h,rfl⟩
   exact (I.lt j a (bK.mp h).2).2
  ·intro hx
   obtain⟨j,ej⟩:=I.surj x hx
   exact⟨(j,x),bK.mpr ⟨(I.lt j x ej).1,ej⟩,rfl⟩
 have hsz:(aJ owner mask).length=hashes.size:=by
  have:=perm.length_eq
  simpa using this
 have pm:∀ j,j∈((aJ owner mask).map (·.1)).toArray↔j≤mask∧ow owner j≠none:=fun j=>by
  rw[List.mem_toArray,ZU]
  constructor
  ·rintro⟨⟨j',a⟩,h,rfl⟩
   obtain⟨h1,h2⟩:=bK.mp h
   exact⟨h1,by rw[h2];simp⟩
  ·rintro⟨h1,h2⟩
   cases q:ow owner j with
   | none=>exact absurd q h2
   | some a=>exact⟨(j,a),bK.mpr ⟨h1,q⟩,rfl⟩
 refine⟨_,_,hl,⟨⟨fun i j hi hj hij=>?_⟩,rfl,fun j hj=>((pm j).mp hj).1,ho,F,?_,fun i j hij=>?_⟩,?_,?_,rfl,rfl,rfl,rfl⟩
 ·simp only[Yy,YA] at hi hj
  simp only[List.getElem_toArray,List.getElem_map]
  exact (Zx.mp (dz owner mask)) i j hi hj hij
 ·show ((aJ owner mask).map (·.1)).toArray.size≤mask
  simp[hsz,hm]
 ·have hij':((aJ owner mask).map (·.1)).toArray[i]?=some j:=hij
  simp only[List.getElem?_toArray,YZ] at hij'
  cases q:(aJ owner mask)[i]? with
  | none=>rw[q] at hij';cases hij'
  | some p=>
   rw[q] at hij'
   obtain⟨j',a⟩:=p
   have hij':j'=j:=Yx hij'
   subst hij'
   obtain⟨h1,h2⟩:=bK.mp (YG q)
   obtain⟨h,b1,n,b2,b3,b4⟩:=I.reach j' a h2
   have eh:hashes.getD (((aJ owner mask).map (·.2)).toArray.getD i 0) 0=h:=by
    have e1:((aJ owner mask).map (·.2)).toArray.getD i 0=a:=by
     simp[Zj,q]
    rw[e1]
    have b1':hashes[a]?=some h:=by rw[← YS];exact b1
    simp[Zj,b1']
   show ∃ n,n<10*turns mask∧at_ mask (hashes.getD (((aJ owner mask).map (·.2)).toArray.getD i 0) 0) n=j'∧∀ m,m<n→at_ mask (hashes.getD (((aJ owner mask).map (·.2)).toArray.getD i 0) 0) m∈((aJ owner mask).map (·.1)).toArray
   rw[eh]
   exact⟨n,b2,b3,fun m hm'=>(pm _).mpr ⟨jX mask h m,b4 m hm'⟩⟩
 ·simp[hsz]
 ·simpa using perm
end L2
namespace L2
open PySem PySem.Spec PyProof.Rows PySem.SetTable
def gh (d:D):Bool:=hkN 8 d&&okN 8 d&&(match d with | .tup _=>true | _=>false)
theorem aq {d:D}(h:gh d=true):hkN 8 d=true∧okN 8 d=true∧∃ xs,d=.tup xs:=by
 unfold gh at h
 rw[Yq,Yq] at h
 refine⟨h.1.1,h.1.2,?_⟩
 cases d with
 | tup xs=>exact⟨xs,rfl⟩
 | _=>cases h.2
def KeyAt (h:Heap)(u:Value)(d:D):Prop:=gh d=true∧∃ as,Reads h u (aw d) as
theorem KeyAt.ref {h:Heap}{u:Value}{d:D}(k:KeyAt h u d):∃ a,u=.ref a:=by
 obtain⟨k,as,r⟩:=k
 obtain⟨_,_,xs,rfl⟩:=aq k
 obtain⟨a,_,_,_,e,_⟩:=bF r
 exact⟨a,e⟩
theorem KeyAt.keeps {h h':Heap}{u:Value}{d:D}(k:KeyAt h u d)(hk:∀ b o,h.get? b=some o→h'.get? b=some o):KeyAt h' u d:=by
 obtain⟨k,as,r⟩:=k
 exact⟨k,as,PyProof.Rows.Reads.keeps hk r⟩
section
variable {prog:Program} {w:World} {A:Around} {E:Kv} {s:Shared}
theorem qP {x y:Value}{dx dy:D}{Q:Kb}(hu:A.units+64<cLine)(hx:KeyAt s.heap x dx)(hy:KeyAt s.heap y dy)(h:Q (eqd dx dy) s):wpAny (model prog w) A (eqBool x y) Q E s:=by
 obtain⟨k1,as,r1⟩:=hx
 obtain⟨k2,bs,r2⟩:=hy
 obtain⟨l1,p1⟩:=aO 8 dx (aq k1).2.1
 obtain⟨l2,p2⟩:=aO 8 dy (aq k2).2.1
 refine XT _ _ A s x y _ _ r1 r2 l1 l2 ?_ prog w E Q h
 have:min (aw dx).depth (aw dy).depth≤(aw dx).depth:=Nat.min_le_left _ _
 omega
theorem o8 {x:Value}{dx:D}(hx:KeyAt s.heap x dx){Q:Kb}:∀ {stored:List Value},(∀ y∈stored,∃ d,KeyAt s.heap y d)→Q false s→wpAny (model prog w) A (searchCouldBeSeen x stored) Q E s:=by
 intro stored hst h
 obtain⟨k1,as,r1⟩:=hx
 unfold searchCouldBeSeen
 refine Ya ?_
 refine Xc _ (fun aG r s'=>r.1=none∧s'=s∧∀ y∈aG,∃ d,KeyAt s.heap y d) _ ?_ ?_ _ _ ⟨rfl,rfl,hst⟩
 ·rintro y aG ⟨r1',r2⟩ s' ⟨e,rfl,hl⟩
  obtain⟨d,k2,bs,r2'⟩:=hl y Yc
  have hrest:∀ y∈aG,∃ d,KeyAt s'.heap y d:=fun y m=>hl y (Yb _ m)
  dsimp only
  have body:∀ (c:Prop) [Decidable c] (Z:Sem (ForInStep (Option Bool×Unit))) (R:ForInStep (Option Bool×Unit)→Shared→Prop),R (.yield (none,())) s'→(∀ R',R'=R→wpAny (model prog w) A Z R' E s')→wpAny (model prog w) A (if c then pure (.yield (none,())) else Z) R E s':=by
   intro c _ Z R h1 h2
   split
   ·exact Yd h1
   ·exact h2 R rfl
  split
  all_goals
   refine body _ _ _ ⟨rfl,rfl,hrest⟩ ?_
   rintro _ rfl
   refine Ya (ig 8 8 (Yw _) (aq k1).1 r1 ?_)
   refine Ya (ig 8 8 (Yw _) (aq k2).1 r2' ?_)
   refine Ya (m9 8 8 (Yw _) (aq k1).1 r1 ?_)
   refine Ya (m9 8 8 (Yw _) (aq k2).1 r2' ?_)
   exact Yd ⟨rfl,rfl,hrest⟩
 ·rintro⟨r1',r2⟩ s' ⟨e,rfl,_⟩
  cases e
  exact Yd h
end
def gY (es:Ka)(i:Nat):Int:=(es[i]?.map (·.1)).getD 0
structure SetAt (Pv:Value→D→Prop) (w:World) (h:Heap) (a:Addr) (es:Array (Int×Value)) (t:SetTable) (ds:List D):Prop where
 obj:∃ o ep,h.get? a=some o∧o.ExactSet∧o.data=.set es ep t
 tab:TabOk (gY es) t
 siz:t.place.size=es.size
 len:ds.length=es.size
 its:∀ (i:Nat) (e:Int×Value) (d:D),es[i]?=some e→ds[i]?=some d→e.1=ad w d∧KeyAt h e.2 d
 pv:∀ (i:Nat) (e:Int×Value) (d:D),es[i]?=some e→ds[i]?=some d→Pv e.2 d
theorem Rising.inj {xs:Array Nat}(r:Rising xs){i k j:Nat}(h1:xs[i]?=some j)(h2:xs[k]?=some j):i=k:=by
 obtain⟨a,e1⟩:=Zc.mp h1
 obtain⟨b,e2⟩:=Zc.mp h2
 rcases VC i k with q | q | q
 ·have:=r.lt i k a b q;omega
 ·exact q
 ·have:=r.lt k i b a q;omega
section
variable {Pv:Value→D→Prop} {prog:Program} {w:World} {A:Around} {E:Kv} {s:Shared}
theorem SetAt.state {a:Addr}{es:Ka}{t:SetTable}{ds:List D}(S:SetAt Pv w s.heap a es t ds){Q:(Array (Int×Value)×Nat×SetTable)→Shared→Prop}(h:∀ ep,Q (es,ep,t) s) :
  wpAny (model prog w) A (setState a) Q E s:=by
 obtain⟨o,ep,h1,h2,h3⟩:=S.obj
 exact Vb h1 h3 (S.tab.fits S.siz) (h ep)
theorem SetAt.key {a:Addr}{es:Ka}{t:SetTable}{ds:List D}{h:Heap}(S:SetAt Pv w h a es t ds){i:Nat}{e:Int×Value}(he:es[i]?=some e):∃ d,ds[i]?=some d∧e.1=ad w d∧KeyAt h e.2 d:=by
 obtain⟨hi,_⟩:=Zc.mp he
 have hd:i<ds.length:=by rw[S.len];exact hi
 exact⟨ds[i],Ye hd,S.its i e _ he (Ye hd)⟩
def pP (t:SetTable)(es:Ka)(ds:List D)(h:Int)(dx:D)(l:Nat):Prop:=∃ i,t.place[i]?=some (at_ t.mask h l)∧(gY es i≠h∨∃ d,ds[i]?=some d∧eqd d dx=false)
theorem kt {a:Addr}{es:Ka}{t:SetTable}{ds:List D}{hp:Heap}(S:SetAt Pv w hp a es t ds){dx:D}{m:Nat}(hEq:∀ d∈ds,eqd d dx=true→ad w d=ad w dx)
  (hm:at_ t.mask (ad w dx) m∉t.place) (hg:∀ l,l<m→pP t es ds (ad w dx) dx l):∀ d∈ds,eqd d dx=false:=by
 intro d hd
 cases q:eqd d dx with
 | false=>rfl
 | true=>
  exfalso
  have hh:=hEq d hd q
  obtain⟨i,hi,e⟩:=ZI hd
  have hi':i<es.size:=by rw[← S.len];exact hi
  have hp':i<t.place.size:=by rw[S.siz];exact hi'
  have e1:es[i]?=some es[i]:=Yl hi'
  have e2:ds[i]?=some d:=by rw[Ye hi,e]
  have e3:t.place[i]?=some t.place[i]:=Yl hp'
  have hs:gY es i=ad w dx:=by unfold gY;rw[e1];exact (S.its i _ d e1 e2).1.trans hh
  obtain⟨n,n1,n2,n3⟩:=S.tab.reach i _ e3
  rw[hs] at n2 n3
  rcases VC n m with z | z | z
  ·obtain⟨k,k1,k2⟩:=hg n z
   rw[n2] at k1
   have:=S.tab.rise.inj k1 e3
   subst this
   rcases k2 with k2 | ⟨d',k2,k3⟩
   ·exact k2 hs
   ·rw[e2] at k2;cases k2;rw[q] at k3;cases k3
  ·subst z
   rw[n2] at hm
   exact hm (Array.getElem_mem hp')
  ·exact hm (n3 m z)
theorem dS {a:Addr}{es:Ka}{t:SetTable}{ds:List D}(S:SetAt Pv w s.heap a es t ds){x:Value}{dx:D}(hx:KeyAt s.heap x dx)(hu:A.units+64<cLine){Q:SetFound→Shared→Prop}{N:Nat}(hN:N<10*turns t.mask)(hN':at_ t.mask (ad w dx) N∉t.place)
  (hEq:∀ d∈ds,eqd d dx=true→ad w d=ad w dx)
  (q1:∀ d∈ds,eqd d dx=true→Q (.there none) s)
  (q2:∀ m,m≤N→at_ t.mask (ad w dx) m∉t.place→(∀ l,l<m→at_ t.mask (ad w dx) l∈t.place)→(∀ d∈ds,eqd d dx=false)→Q (.free (at_ t.mask (ad w dx) m) false) s) :
  ∀ (f n:Nat) (st:Option Probe),st.getD (t.probeStart (ad w dx))=af t.mask (aT t.mask (ad w dx)) n→n≤N→N-n<f→(∀ l,l<n→pP t es ds (ad w dx) dx l)→
   wpAny (model prog w) A (setSearchFrom a x (ad w dx) true f st) Q E s
 | 0,n,st,_,_,h,_=>by omega
 | f+1,n,st,e,hn,hf,hg=>by
  unfold setSearchFrom
  refine Ya (S.state fun ep=>?_)
  dsimp only
  rw[S.tab.gave]
  simp only[Zq,Vm]
  rw[e]
  have gone:∀ m,n≤m→(∀ l,n≤l→l<m→∃ i,t.place[i]?=some (at_ t.mask (ad w dx) l)∧gY es i≠ad w dx)→∀ l,l<m→pP t es ds (ad w dx) dx l:=fun m _ h l hl=>by
   rcases Xl l n with z | z
   ·exact hg l z
   ·obtain⟨i,i1,i2⟩:=h l z hl
    exact⟨i,i1,.inl i2⟩
  rcases iF S.tab (hashAt:=gY es) hN' (10*turns t.mask) n hn (by omega) with⟨m,m1,m2,m3,m4,m5⟩ | ⟨m,i,m1,m2,m3,m4,m5,m6⟩
  ·generalize hz:t.probe _ (ad w dx) (af t.mask (aT t.mask (ad w dx)) n)=z
   have hz':z=some (.empty (at_ t.mask (ad w dx) m) none):=hz.symm.trans m5
   subst hz'
   have hgo:=gone m m1 m4
   refine Yd (q2 m m2 m3 (fun l hl=>?_) (kt S hEq m3 hgo))
   obtain⟨i,i1,_⟩:=hgo l hl
   exact Zp i1
  ·generalize hz:t.probe _ (ad w dx) (af t.mask (aT t.mask (ad w dx)) n)=z
   have hz':z=some (.candidate (at_ t.mask (ad w dx) m) i (af t.mask (aT t.mask (ad w dx)) (m+1))):=hz.symm.trans m6
   subst hz'
   have hgo:=gone m m1 m5
   have hsl:=dJ S.tab.rise m3
   have hi:i<es.size:=by
    rw[← S.siz]
    obtain⟨h,_⟩:=Zc.mp m3
    exact h
   have e1:es[i]?=some es[i]:=Yl hi
   obtain⟨d,e2,e3,e4⟩:=S.key e1
   obtain⟨ra,era⟩:=e4.ref
   have key:∀ (U Z:Sem SetFound),wpAny (model prog w) A Z Q E s→wpAny (model prog w) A (if (!t.led)=true then (do
     let b ← searchCouldBeSeen x (List.map (fun x=>x.snd) (Array.filter (fun x=>x.fst == ad w dx) es).toList)
     if b=true then U else Z) else Z) Q E s:=by
    intro U Z hZ
    split
    ·refine Ya (o8 hx (fun y hy=>?_) ?_)
     ·obtain⟨p,hp,rfl⟩:=ZU.mp hy
      have hp':p∈es:=(Array.mem_filter.mp (Array.mem_toList_iff.mp hp)).1
      obtain⟨k,hk⟩:=Array.getElem?_of_mem hp'
      obtain⟨d,_,_,h⟩:=S.key hk
      exact⟨d,h⟩
     ·rw[Yo Yg]
      exact hZ
    ·exact hZ
   refine key _ _ ?_
   rw[e1]
   dsimp only
   refine Ya (Zy (qP hu e4 hx ?_))
   refine Ya (S.state fun ep'=>?_)
   dsimp only
   cases hq:eqd d dx with
   | true=>exact Yd (q1 d (YG e2) hq)
   | false=>
    rw[Bool.and_false,Yo Yg]
    have hsm:t.sameMemory t.moves t.mask=some true:=by unfold sameMemory;rw[Yn (by simp)]
    rw[hsm]
    dsimp only
    rw[Yn rfl,hsl]
    dsimp only
    rw[e1]
    dsimp only
    rw[era]
    refine Ya (wpAny_isSame_ref_self ?_)
    refine Ya (Yd ?_)
    rw[Yn rfl]
    dsimp only
    rw[Yo Yg]
    refine dS S hx hu hN hN' hEq q1 q2 f (m+1) _ rfl (by omega) (by omega) fun l hl=>?_
    rcases Xl l m with z | z
    ·exact hgo l z
    ·have:l=m:=by omega
     subst this
     exact⟨i,m3,.inr ⟨d,e2,hq⟩⟩
end
theorem lF:∀ (n:Nat) {d e:D},hkN n d=true→hkN n e=true→eqd d e=true→d=e:=by
 intro n
 induction n with
 | zero=>
  intro d e hd he h
  cases d with
  | int i=>
   cases e with
   | int j=>exact ZP D.int (eq_of_beq h)
   | str y=>cases h
   | _=>cases he
  | str x=>
   cases e with
   | str y=>exact ZP D.str (eq_of_beq h)
   | int j=>cases h
   | _=>cases he
  | _=>cases hd
 | succ n ih=>
  have all:∀ ds es:List D,(∀ d∈ds,hkN n d=true)→(∀ d∈es,hkN n d=true)→PyData.eqvAll (ay ds) (ay es)=true→ds=es:=by
   intro ds
   induction ds with
   | nil=>
    intro es _ _ h
    cases es with
    | nil=>rfl
    | cons _ _=>cases h
   | cons d ds ihl=>
    intro es h1 h2 h
    cases es with
    | nil=>cases h
    | cons e es=>
     have h':(PyData.eqv (aw d) (aw e)&&PyData.eqvAll (ay ds) (ay es))=true:=h
     rw[Yq] at h'
     rw[ih (h1 d Yc) (h2 e Yc) h'.1,ihl es (fun d m=>h1 d (Yb _ m)) (fun d m=>h2 d (Yb _ m)) h'.2]
  intro d e hd he h
  cases d with
  | int i=>
   cases e with
   | int j=>exact ZP D.int (eq_of_beq h)
   | str y=>cases h
   | tup y=>cases h
   | _=>cases he
  | str x=>
   cases e with
   | str y=>exact ZP D.str (eq_of_beq h)
   | int j=>cases h
   | tup y=>cases h
   | _=>cases he
  | tup xs=>
   cases e with
   | tup ys=>exact ZP D.tup (all xs ys (fun d m=>Yj.mp hd d m) (fun d m=>Yj.mp he d m) h)
   | int j=>cases h
   | str j=>cases h
   | _=>cases he
  | _=>cases hd
theorem f9 {h h':Heap}(hk:∀ b o vs n,h.get? b=some o→o.data=.seq vs n→h'.get? b=some o):∀ (n:Nat) {d:D} {u:Value} {as:List Addr},hkN n d=true→Reads h u (aw d) as→Reads h' u (aw d) as:=by
 intro n
 induction n with
 | zero=>
  intro d u as hd r
  cases d with
  | int i=>cases r;exact .int _ _
  | str i=>cases r;exact .str _ _
  | _=>cases hd
 | succ n ih=>
  have all:∀ (ds:List D) (us:List Value) (as:List Addr),(∀ d∈ds,hkN n d=true)→ReadsAll h us (ay ds) as→ReadsAll h' us (ay ds) as:=by
   intro ds
   induction ds with
   | nil=>intro us as _ r;cases r;exact .nil
   | cons d ds ihl=>
    intro us as hl r
    cases r with
    | cons h1 h2=>exact .cons (ih (hl d Yc) h1) (ihl _ _ (fun d m=>hl d (Yb _ m)) h2)
  intro d u as hd r
  cases d with
  | int i=>cases r;exact .int _ _
  | str i=>cases r;exact .str _ _
  | tup ds=>
   obtain⟨a,o,vs,k,rfl,ho,hc,hdt,ra⟩:=bF r
   exact .tuple (hk a o _ _ ho hdt) hc hdt (all ds _ _ (fun d m=>Yj.mp hd d m) ra)
  | _=>cases hd
theorem KeyAt.off {h h':Heap}{u:Value}{d:D}(k:KeyAt h u d){a:Addr}{o:Obj}{es:Ka}{ep:Nat}{t:SetTable}(ho:h.get? a=some o)(hd:o.data=.set es ep t)(hk:∀ b,b≠a→h'.get? b=h.get? b):KeyAt h' u d:=by
 obtain⟨k,as,r⟩:=k
 refine⟨k,as,f9 (fun b o' vs n hb hq=>?_) 8 (aq k).1 r⟩
 rw[hk b (fun e=>?_)]
 ·exact hb
 ·subst e
  rw[ho] at hb
  cases hb
  rw[hd] at hq
  cases hq
theorem KeyAt.same {h h':Heap}{u v:Value}{d e:D}(k:KeyAt h u d)(k':KeyAt h' v e)(q:eqd d e=true):d=e:=lF 8 (aq k.1).1 (aq k'.1).1 q
def i7 (t:SetTable)(n:Nat):Prop:=t.mask=7∧n≤4∨t.mask=31∧n≤18∨t.mask=127∧n≤76
def pE (w:World)(t:SetTable):Prop:=w.params.followText "set-order"=false→t.led=true
def ls (Pv:Value→D→Prop)(w:World)(h:Heap)(a:Addr)(ds:List D):Prop:=∃ es t,SetAt Pv w h a es t ds∧i7 t es.size∧pE w t
theorem TabOk.plain {hs:Nat→Int}{t:SetTable}(k:TabOk hs t):TabOk hs { t with plain:=false }:=⟨k.rise,k.nod,k.bd,k.odd,k.full,k.room,k.reach⟩
theorem TabOk.congr {hs hs':Nat→Int}{t:SetTable}(k:TabOk hs t)(e:∀ i,i<t.place.size→hs i=hs' i):TabOk hs' t:=
 ⟨k.rise,k.nod,k.bd,k.odd,k.full,k.room,fun i j h=>by
  rw[← e i (Zc.mp h).1]
  exact k.reach i j h⟩
def io {α:Type}(l:List α)(p:Nat)(x:α):List α:=(insertAt l.toArray p x).toList
theorem fr {α:Type}(l:List α)(p:Nat)(x:α)(h:p≤l.length)(i:Nat):(io l p x)[i]?=if i<p then l[i]? else if i=p then some x else l[i-1]?:=by
 unfold io
 rw[YS,am _ _ _ (by simpa using h)]
 simp
theorem mC {α:Type}(l:List α)(p:Nat)(x:α)(h:p≤l.length):(io l p x).length=l.length+1:=by
 unfold io
 rw[Yu,au _ _ _ (by simpa using h)]
 simp
theorem kG {α:Type}:∀ (l:List α) (p:Nat) (x:α),p≤l.length→(io l p x).Perm (x::l):=by
 intro l p x hp
 have e:io l p x=l.take p++x::l.drop p:=by
  apply ZT
  intro i
  rw[fr _ _ _ hp,List.getElem?_append]
  have hl:(l.take p).length=p:=by rw[YU];omega
  rw[hl]
  by_cases h1:i<p
  ·rw[Yn h1,Yn h1,ZS h1]
  ·rw[Yo h1,Yo h1]
   by_cases h2:i=p
   ·subst h2;simp
   ·rw[Yo h2]
    obtain⟨k,hk⟩:∃ k,i-p=k+1:=⟨i-p-1,by omega⟩
    rw[hk,XS,XL]
    congr 1
    omega
 rw[e]
 refine Xd.trans ?_
 rw[YN]
section
variable {Pv:Value→D→Prop} {prog:Program} {w:World} {A:Around} {E:Kv} {s:Shared}
theorem SetAt.put {h h':Heap}{a:Addr}{es:Ka}{t:SetTable}{ds:List D}(S:SetAt Pv w h a es t ds){x:Value}{dx:D}(hx:KeyAt h x dx)(px:Pv x dx){N:Nat}(hN:N<10*turns t.mask)(he:at_ t.mask (ad w dx) N∉t.place)
  (hb:∀ m,m<N→at_ t.mask (ad w dx) m∈t.place) (hr:es.size+1≤t.mask) (b:Bool)
  (ho:h'=h.update a (Obj.putSet (insertAt es (t.put (at_ t.mask (ad w dx) N)).2 (ad w dx,x)) (if b=true then (t.put (at_ t.mask (ad w dx) N)).1 else { (t.put (at_ t.mask (ad w dx) N)).1 with plain:=false }))) :
  SetAt Pv w h' a (insertAt es (t.put (at_ t.mask (ad w dx) N)).2 (ad w dx,x)) (if b=true then (t.put (at_ t.mask (ad w dx) N)).1 else { (t.put (at_ t.mask (ad w dx) N)).1 with plain:=false }) (io ds (t.put (at_ t.mask (ad w dx) N)).2 dx)∧∀ c,c≠a→h'.get? c=h.get? c:=by
 obtain⟨o,ep,h1,h2,h3⟩:=S.obj
 have hT:=S.tab.put hN he hb (jX _ _ _) (by rw[S.siz];exact hr)
 obtain⟨b1,_,_⟩:=bM S.tab.rise (at_ t.mask (ad w dx) N)
 rw[S.siz] at b1
 have ep2:(t.put (at_ t.mask (ad w dx) N)).2=below t.place (at_ t.mask (ad w dx) N):=rfl
 have epl:(t.put (at_ t.mask (ad w dx) N)).1.place.size=es.size+1:=by
  rw[fX,au _ _ _ (by rw[S.siz];exact b1),S.siz]
 rw[ep2] at ho ⊢
 generalize (t.put (at_ t.mask (ad w dx) N)).1=t1 at *
 generalize below t.place (at_ t.mask (ad w dx) N)=p at *
 have hd:p≤ds.length:=by rw[S.len];exact b1
 have hoff:∀ c,c≠a→h'.get? c=h.get? c:=fun c hc=>by rw[ho];exact YJ _ _ _ _ hc
 have hself:∀ (es':Ka) (t':SetTable),(h.update a (Obj.putSet es' t')).get? a=some { o with data:=.set es' (ep+1) t' }:=fun es' t'=>by
  have:=YT (Obj.putSet es' t') h1 (by rw[putSet_of es' t' h3];rfl)
  rw[putSet_of es' t' h3] at this;exact this
 have hT':TabOk (gY (insertAt es p (ad w dx,x))) t1:=hT.congr fun i hi=>by
  unfold l3 gY
  rw[am _ _ _ b1]
  by_cases q1:i<p
  ·rw[Yn q1,Yn q1]
  ·rw[Yo q1,Yo q1]
   by_cases q2:i=p
   ·rw[Yn q2,Yn q2];rfl
   ·rw[Yo q2,Yo q2]
 refine⟨⟨?_,?_,?_,?_,?_,?_⟩,hoff⟩
 ·rw[ho]
  exact⟨_,_,hself _ _,h2,rfl⟩
 ·cases b with
  | true=>exact hT'
  | false=>exact hT'.plain
 ·rw[au _ _ _ b1]
  cases b with
  | true=>exact epl
  | false=>exact epl
 ·rw[mC _ _ _ hd,au _ _ _ b1,S.len]
 ·intro i e d he' hd'
  rw[am _ _ _ b1] at he'
  rw[fr _ _ _ hd] at hd'
  by_cases q1:i<p
  ·rw[Yn q1] at he' hd'
   obtain⟨z1,z2⟩:=S.its i e d he' hd'
   exact⟨z1,z2.off h1 h3 hoff⟩
  ·rw[Yo q1] at he' hd'
   by_cases q2:i=p
   ·rw[Yn q2] at he' hd'
    cases he';cases hd'
    exact⟨rfl,hx.off h1 h3 hoff⟩
   ·rw[Yo q2] at he' hd'
    obtain⟨z1,z2⟩:=S.its (i-1) e d he' hd'
    exact⟨z1,z2.off h1 h3 hoff⟩
 ·intro i e d he' hd'
  rw[am _ _ _ b1] at he'
  rw[fr _ _ _ hd] at hd'
  by_cases q1:i<p
  ·rw[Yn q1] at he' hd'
   exact S.pv i e d he' hd'
  ·rw[Yo q1] at he' hd'
   by_cases q2:i=p
   ·rw[Yn q2] at he' hd'
    cases he';cases hd'
    exact px
   ·rw[Yo q2] at he' hd'
    exact S.pv (i-1) e d he' hd'
end
theorem fz {α β:Type}{f:α→Option β}:∀ (l:List α),(∀ k∈l,(f k).isSome=true)→∀ i:Nat,(l.filterMap f)[i]?=(l[i]?).bind f
 | [],_,i=>by simp
 | a::l,h,i=>by
  obtain⟨b,hb⟩:=ZB.mp (h a Yc)
  rw[XH hb]
  cases i with
  | zero=>simp[hb]
  | succ i=>rw[XS,XS];exact fz l (fun k m=>h k (Yb _ m)) i
theorem jp {α β:Type}{f:α→Option β}:∀ (l:List α),(∀ k∈l,(f k).isSome=true)→(l.filterMap f).length=l.length
 | [],_=>rfl
 | a::l,h=>by
  obtain⟨b,hb⟩:=ZB.mp (h a Yc)
  rw[XH hb,YB,YB,jp l fun k m=>h k (Yb _ m)]
theorem lg {α:Type}(l:List α):(List.range l.length).filterMap (fun k=>l[k]?)=l:=by
 have hs:∀ k∈List.range l.length,(l[k]?).isSome=true:=fun k hk=>by
  rw[Ye (YO.mp hk)];rfl
 apply ZT
 intro i
 rw[fz _ hs]
 by_cases h:i<l.length
 ·rw[XD h];rfl
 ·rw[ZA (by simpa using Nat.not_lt.mp h),ZA (Nat.not_lt.mp h)];rfl
section
variable {Pv:Value→D→Prop} {prog:Program} {w:World} {A:Around} {E:Kv} {s:Shared}
theorem SetAt.relay {a:Addr}{es:Ka}{t:SetTable}{ds:List D}(S:SetAt Pv w s.heap a es t ds){wanted mask:Nat}(hm:sizeAbove wanted=mask+1)(F:cS (mask+1))(ho:mask%2=1)(hz:es.size≤mask)(hz':mask≤1000){Q:Unit→Shared→Prop}
  (q:∀ es' t' ds' h',SetAt Pv w h' a es' t' ds'→t'.mask=mask→t'.led=t.led∧t'.plain=t.plain→es'.size=es.size→ds'.Perm ds→(∀ c,c≠a→h'.get? c=s.heap.get? c)→Q () { s with heap:=h' }) :
  wpAny (model prog w) A (setRelay a wanted) Q E s:=by
 obtain⟨t',order,o1,o2,o3,o4,o5,o6,o7,_⟩:=nR F ho (hashes:=es.map (·.1)) (by simpa using hz) t.finger (t.movedTo mask) t.led t.plain
 have hl:t.relaid (es.map (·.1)) wanted=some (t',order):=by
  unfold relaid
  rw[hm]
  exact o1
 have hin:∀ k∈order.toList,k<es.size:=fun k hk=>by
  have:=o4.mem_iff.mp hk
  simpa using this
 have h1:∀ k∈order.toList,(es[k]?).isSome=true:=fun k hk=>by rw[Yl (hin k hk)];rfl
 have h2:∀ k∈order.toList,(ds[k]?).isSome=true:=fun k hk=>by rw[Ye (by rw[S.len];exact hin k hk)];rfl
 have osz:order.size=es.size:=by
  have:=o4.length_eq
  simpa using this
 have esL:(order.filterMap fun k=>es[k]?).toList=order.toList.filterMap fun k=>es[k]?:=by simp
 have eget:∀ i,(order.filterMap fun k=>es[k]?)[i]?=(order[i]?).bind fun k=>es[k]?:=fun i=>by
  rw[← YS,esL,fz _ h1,YS]
 have esz:(order.filterMap fun k=>es[k]?).size=es.size:=by
  rw[← Yu,esL,jp _ h1,Yu,osz]
 obtain⟨o,ep,k1,k2,k3⟩:=S.obj
 unfold setRelay
 refine Ya (S.state fun ep'=>?_)
 dsimp only
 rw[Yo (by rw[hm];show ¬ (mask+1 > 2 ^ 24);omega),hl]
 refine Ya ?_
 show wpAny _ _ (if ((order.filterMap fun k=>es[k]?).size != es.size)=true then _ else pure ((order.filterMap fun k=>es[k]?),t')) _ _ _
 rw[Yo (by rw[esz];simp)]
 refine Yd ?_
 dsimp only
 have hself:∀ (es':Ka) (t':SetTable),(s.heap.update a (Obj.putSet es' t')).get? a=some { o with data:=.set es' (ep+1) t' }:=fun es' t'=>by
  have:=YT (Obj.putSet es' t') k1 (by rw[putSet_of es' t' k3];rfl)
  rw[putSet_of es' t' k3] at this;exact this
 have hoff:∀ c,c≠a→(s.heap.update a (Obj.putSet (order.filterMap fun k=>es[k]?) t')).get? c=s.heap.get? c:=fun c hc=>YJ _ _ _ _ hc
 refine Vc k1 k3 (q _ t' (order.toList.filterMap fun k=>ds[k]?) _ ⟨⟨_,_,hself _ _,k2,rfl⟩,o2.congr fun i hi=>?_,?_,?_,fun i e d he hd=>?_,fun i e d he hd=>?_⟩ o5 ⟨o6,o7⟩ esz ?_ hoff) (by rw[esz];show es.size≤2 ^ 24;omega)
 ·rw[o3] at hi
  have hi':i<order.size:=by rw[osz];simpa using hi
  unfold gY
  rw[eget i,Yl hi']
  simp[Zj,Yl hi']
 ·rw[o3,esz];simp
 ·rw[jp _ h2,esz,Yu,osz]
 ·rw[eget i] at he
  rw[fz _ h2,YS] at hd
  cases z:order[i]? with
  | none=>rw[z] at he;cases he
  | some k=>
   rw[z] at he hd
   obtain⟨z1,z2⟩:=S.its k e d he hd
   exact⟨z1,z2.off k1 k3 hoff⟩
 ·rw[eget i] at he
  rw[fz _ h2,YS] at hd
  cases z:order[i]? with
  | none=>rw[z] at he;cases he
  | some k=>
   rw[z] at he hd
   exact S.pv k e d he hd
 ·have p:=List.Perm.filterMap (fun k=>ds[k]?) o4
  have e:(es.map (·.1)).size=ds.length:=by rw[Array.size_map,S.len]
  rw[e,lg] at p
  exact p
end
theorem mm {d:D}(h:gh d=true):eqd d d=true:=PySem.SeqAt.eqv_refl _ (aO 8 d (aq h).2.1).1
theorem nB {hs:Nat→Int}{t:SetTable}(k:TabOk hs t):t.fill=t.place.size:=by unfold SetTable.fill;rw[k.nod];rfl
theorem tZ:sizeAbove (grown 5)=31+1:=by decide +kernel
theorem t0:sizeAbove (grown 19)=127+1:=by decide +kernel
section
variable {Pv:Value→D→Prop} {prog:Program} {w:World} {A:Around} {E:Kv} {s:Shared}
theorem jA {a:Addr}{ds:List D}(S:ls Pv w s.heap a ds){x:Value}{dx:D}(hx:KeyAt s.heap x dx)(px:Pv x dx)(hu:A.units+64<cLine)(hn:ds.length<70){f:Nat}{Q:Kb}(q0:dx∈ds→Q false s)
  (q1:dx∉ds→∀ ds' h',ls Pv w h' a ds'→ds'.Perm (dx::ds)→(∀ c,c≠a→h'.get? c=s.heap.get? c)→Q true { s with heap:=h' }) :
  wpAny (model prog w) A (setAddHashedIn a x (ad w dx) (f+1)) Q E s:=by
 obtain⟨es,t,S,sz,ld⟩:=S
 have hk:∀ d∈ds,∃ u,KeyAt s.heap u d:=fun d hd=>by
  obtain⟨i,hi,e⟩:=ZI hd
  have hi':i<es.size:=by rw[← S.len];exact hi
  exact⟨_,(S.its i _ d (Yl hi') (by rw[Ye hi,e])).2⟩
 have hsame:∀ d∈ds,eqd d dx=true→d=dx:=fun d hd q=>by
  obtain⟨u,k⟩:=hk d hd
  exact k.same hx q
 obtain⟨ax,rfl⟩:=hx.ref
 have hlt:es.size<70:=by rw[← S.len];exact hn
 have hmask:es.size+1≤t.mask∧t.mask≤127:=by
  rcases sz with⟨h1,h2⟩ | ⟨h1,h2⟩ | ⟨h1,h2⟩ <;> omega
 obtain⟨N,N1,N2⟩:=S.tab.empty (ad w dx)
 unfold setAddHashedIn
 refine Ya (S.state fun ep=>?_)
 dsimp only
 have hb:byScan (.ref ax) es=false:=rfl
 rw[hb,Yo Yg]
 refine Ya ?_
 unfold setSearch
 refine dS S hx hu N1 N2 (fun d hd q=>by rw[hsame d hd q]) (fun d hd q=>?_) (fun m m1 m2 m3 m4=>?_) 100000 0 none rfl (Za _) ?_ (fun l hl=>absurd hl (XN _))
 ·exact Yd (q0 (by rw[← hsame d hd q];exact hd))
 ·have hni:dx∉ds:=fun hd=>by
   have:=m4 dx hd
   rw[mm hx.1] at this
   cases this
  have hmN:m<10*turns t.mask:=by omega
  refine Ya (S.state fun ep=>?_)
  dsimp only
  obtain⟨b1,_,_⟩:=bM S.tab.rise (at_ t.mask (ad w dx) m)
  rw[S.siz] at b1
  have tail:∀ b:Bool,wpAny (model prog w) A (do
    storeSet a (insertAt es (t.put (at_ t.mask (ad w dx) m)).2 (ad w dx,Value.ref ax)) (if b=true then (t.put (at_ t.mask (ad w dx) m)).1 else { (t.put (at_ t.mask (ad w dx) m)).1 with plain:=false })
    if (!false&&(if b=true then (t.put (at_ t.mask (ad w dx) m)).1 else { (t.put (at_ t.mask (ad w dx) m)).1 with plain:=false }).tooFull)=true then (do
     setRelay a (grown (es.size+1))
     pure true) else pure true) Q E s:=by
   intro b
   obtain⟨S',hoff⟩:=S.put hx px hmN m2 m3 hmask.1 b rfl
   obtain⟨o,ep',k1,k2,k3⟩:=S.obj
   have hp:(t.put (at_ t.mask (ad w dx) m)).2≤ds.length:=by rw[S.len];exact b1
   have pm:=kG ds _ dx hp
   have hmk:(if b=true then (t.put (at_ t.mask (ad w dx) m)).1 else { (t.put (at_ t.mask (ad w dx) m)).1 with plain:=false }).mask=t.mask:=by cases b <;> rfl
   have ld':pE w (if b=true then (t.put (at_ t.mask (ad w dx) m)).1 else { (t.put (at_ t.mask (ad w dx) m)).1 with plain:=false }):=by cases b <;> exact ld
   have hsz:(insertAt es (t.put (at_ t.mask (ad w dx) m)).2 (ad w dx,Value.ref ax)).size=es.size+1:=au _ _ _ b1
   generalize (if b=true then (t.put (at_ t.mask (ad w dx) m)).1 else { (t.put (at_ t.mask (ad w dx) m)).1 with plain:=false })=tb at *
   generalize insertAt es (t.put (at_ t.mask (ad w dx) m)).2 (ad w dx,Value.ref ax)=es1 at *
   generalize io ds (t.put (at_ t.mask (ad w dx) m)).2 dx=ds1 at *
   have hfl:tb.fill=es.size+1:=by rw[nB S'.tab,S'.siz,hsz]
   refine Ya (Vc k1 k3 ?_ (by rw[hsz];show es.size+1≤2 ^ 24;omega))
   have again:∀ mask:Nat,sizeAbove (grown (es.size+1))=mask+1→cS (mask+1)→mask%2=1→es.size+1≤mask→mask≤1000→(∀ t':SetTable,t'.mask=mask→i7 t' (es.size+1))→
     wpAny (model prog w) A (do
      setRelay a (grown (es.size+1))
      pure true) Q E { s with heap:=s.heap.update a (Obj.putSet es1 tb) }:=by
    intro mask c1 c2 c3 c4 c5 c6
    refine Ya (SetAt.relay (s:={ s with heap:=s.heap.update a (Obj.putSet es1 tb) }) S' c1 c2 c3 (by rw[hsz];exact c4) c5 fun es' t' ds' h' S2 z1 zl z2 z3 z4=>?_)
    refine Yd (q1 hni ds' h' ⟨es',t',S2,?_,fun z=>zl.1.trans (ld' z)⟩ (z3.trans pm) fun c hc=>(z4 c hc).trans (hoff c hc))
    rw[z2,hsz]
    exact c6 t' z1
   have stay:i7 tb (es.size+1)→Q true { s with heap:=s.heap.update a (Obj.putSet es1 tb) }:=fun h=>q1 hni ds1 _ ⟨es1,tb,S',by rw[hsz];exact h,ld'⟩ pm hoff
   have tf:tb.tooFull=decide ((es.size+1)*5 ≥ t.mask*3):=by unfold tooFull;rw[hfl,hmk]
   rw[tf,Bool.not_false,ZW]
   rcases sz with⟨h1,h2⟩ | ⟨h1,h2⟩ | ⟨h1,h2⟩
   ·rw[h1]
    rcases Xl es.size 4 with z | z
    ·rw[Yo (by simp;omega)]
     exact Yd (stay (.inl ⟨hmk.trans h1,by omega⟩))
    ·have e4:es.size=4:=by omega
     rw[Yn (by simp;omega)]
     exact again 31 (by rw[e4];exact tZ) qq rfl (by omega) (by omega) fun t' h=>.inr (.inl ⟨h,by omega⟩)
   ·rw[h1]
    rcases Xl es.size 18 with z | z
    ·rw[Yo (by simp;omega)]
     exact Yd (stay (.inr (.inl ⟨hmk.trans h1,by omega⟩)))
    ·have e4:es.size=18:=by omega
     rw[Yn (by simp;omega)]
     exact again 127 (by rw[e4];exact t0) oR rfl (by omega) (by omega) fun t' h=>.inr (.inr ⟨h,by omega⟩)
   ·rw[h1,Yo (by simp;omega)]
    exact Yd (stay (.inr (.inr ⟨hmk.trans h1,by omega⟩)))
  obtain⟨as,rx⟩:=hx.2
  split
  ·exact Ya (lL 8 8 (Yw _) (aq hx.1).1 rx fun b=>tail b)
  ·exact Ya (Yd (tail true))
 ·have:turns t.mask=t.mask+15:=rfl
  omega
end
noncomputable def al (ds:List D):List D:=ds.foldl (fun acc d=>open Classical in if d∈acc then acc else acc++[d]) []
theorem bZ (ds:List D)(d:D):al (ds++[d])=(open Classical in if d∈al ds then al ds else al ds++[d]):=by
 unfold al
 rw[List.foldl_append]
 rfl
theorem cB (ds:List D):(al ds).length≤ds.length:=by
 have:∀ n,∀ ds:List D,ds.length=n→(al ds).length≤n:=by
  intro n
  induction n with
  | zero=>intro ds h;rw[YW.mp h];exact Yw _
  | succ n ih=>
   intro ds h
   have hne:ds≠[]:=fun e=>by rw[e] at h;cases h
   rw[← List.dropLast_concat_getLast hne,bZ]
   have:=ih ds.dropLast (by rw[List.length_dropLast];omega)
   split
   ·omega
   ·rw[Yk,Zz];omega
 exact this _ ds rfl
def SetHas (Pv:Value→D→Prop)(w:World)(h:Heap)(a:Addr)(ds:List D):Prop:=∃ ds',ls Pv w h a ds'∧ds'.Perm (al ds)
theorem SetHas.move {Pv:Value→D→Prop}{w:World}{h h':Heap}{a:Addr}{ds:List D}(S:SetHas Pv w h a ds)(ha:∀ o,h.get? a=some o→h'.get? a=some o)(hk:∀ b o vs n,h.get? b=some o→o.data=.seq vs n→h'.get? b=some o):SetHas Pv w h' a ds:=by
 obtain⟨ds',⟨es,t,S,sz,ld⟩,p⟩:=S
 refine⟨ds',⟨es,t,⟨?_,S.tab,S.siz,S.len,fun i e d he hd=>?_,S.pv⟩,sz,ld⟩,p⟩
 ·obtain⟨o,ep,h1,h2,h3⟩:=S.obj
  exact⟨o,ep,ha o h1,h2,h3⟩
 ·obtain⟨z1,z2,as,z3⟩:=S.its i e d he hd
  exact⟨z1,z2,as,f9 hk 8 (aq z2).1 z3⟩
section
variable {Pv:Value→D→Prop} {prog:Program} {w:World} {A:Around} {R:Kr} {I:Addr} {fp wr:List Addr} {G:Array GenState→Array GenState→Prop} {n:Nat} {P:Nat→Value→Prop} {St:Nat→Shared→Prop}
theorem oI {E:Kv}{s:Shared}{a:Addr}{ds:List D}(S:SetHas Pv w s.heap a ds){x:Value}{dx:D}(hx:KeyAt s.heap x dx)(px:Pv x dx)(hu:A.units+64<cLine)(hn:ds.length<70){Q:Kb}
  (q:∀ b h' tk,s.toks≤tk→SetHas Pv w h' a (ds++[dx])→(∀ c,c≠a→h'.get? c=s.heap.get? c)→Q b { s with heap:=h',toks:=tk }) :
  wpAny (model prog w) A (setAdd a x) Q E s:=by
 obtain⟨ds',S,p⟩:=S
 obtain⟨as,rx⟩:=hx.2
 unfold setAdd
 refine Zy (Ya (nT 8 (by omega) (aq hx.1).1 rx fun tk htk=>?_))
 unfold setAddHashed
 refine Zy ?_
 have hl:ds'.length<70:=by rw[p.length_eq];exact Nat.lt_of_le_of_lt (cB ds) hn
 refine jA (s:={ s with toks:=tk }) (f:=99999) S hx px hu hl (fun hd=>?_) fun hd ds2 h' S2 p2 off=>?_
 ·refine q false s.heap tk htk ⟨ds',S,?_⟩ fun c _=>rfl
  rw[bZ,Yn (p.mem_iff.mp hd)]
  exact p
 ·refine q true h' tk htk ⟨ds2,S2,?_⟩ off
  rw[bZ,Yo (fun z=>hd (p.mem_iff.mpr z))]
  exact p2.trans ((List.Perm.cons dx p).trans (List.perm_append_singleton dx _).symm)
theorem mG (W:WalksS prog w A.in1 I fp wr G n P St)(S:Addr)(hSf:S∉fp)(h0:Heap)(hnew:∀ b o,h0.get? b=some o→b∉S::wr)
  (hI:∀ i s,St i s→∀ b∈wr,∀ o vs k,s.heap.get? b=some o→o.data≠.seq vs k)
  (ds:List D) (hn:ds.length=n) (hn70:n<70) (hval:∀ i v,P i v→∃ d,ds[i]?=some d∧KeyAt h0 v d∧Pv v d) (hu:A.units+70<cLine) :
  ∀ (k i:Nat) (s:Shared),n-i=k→i≤n→St i s→(∀ b o,h0.get? b=some o→s.heap.get? b=some o)→SetHas Pv w s.heap S (ds.take i)→
   (∀ s',Moved (S::wr) G s s'→SetHas Pv w s'.heap S ds→R (.ok (.ret .none)) s')→
   codeAny (model prog w) A (.builtin "set.update.loop" ⟨[.ref S,.ref I],[]⟩) R s:=by
 have hSw:S∉wr:=fun h=>hSf (W.sub _ h)
 have hsub:∀ b∈wr,b∈S::wr:=fun b hb=>Yb _ hb
 have mv:∀ {i:Nat} {s s':Shared} {l:List D},St i s→Moved wr G s s'→SetHas Pv w s.heap S l→SetHas Pv w s'.heap S l:=fun st m h=>
  h.move (fun o e=>m.heap S o hSw e) fun b o vs k e z=>m.heap b o (fun hb=>hI _ _ st b hb o vs k e z) e
 intro k
 induction k with
 | zero=>
  intro i s hk hi hst h0s hS hR
  have hin:i=n:=by omega
  subst hin
  refine Zr ZZ ?_
  rw[Zv Zs _]
  show wpAny _ A.in1 (pyNext (.ref I)>>=_) _ _ s
  refine Ya (W.done s _ _ hst fun s' hm=>?_)
  show wpAny _ A.in1 (ret Value.none) _ _ s'
  refine Yd (hR s' (hm.mono hsub) (mv hst hm ?_))
  rw[← hn,XA] at hS
  exact hS
 | succ k ih=>
  intro i s hk hi hst h0s hS hR
  have hlt:i<n:=by omega
  refine Zr ZZ ?_
  rw[Zv Zs _]
  show wpAny _ A.in1 (pyNext (.ref I)>>=_) _ _ s
  refine Ya (W.item i s _ _ hlt hst fun v s' hP hst' hm=>?_)
  obtain⟨d,hd,kv,pv⟩:=hval i v hP
  have h0s':∀ b o,h0.get? b=some o→s'.heap.get? b=some o:=fun b o e=>hm.heap b o (fun hb=>hnew b o e (hsub b hb)) (h0s b o e)
  show wpAny _ A.in1 (holding [v] (setAdd S v)>>=_) _ _ s'
  refine Ya (Zy (oI (mv hst hm hS) (kv.keeps h0s') pv (by show A.units+1+64<cLine;omega) (by rw[YU];omega) fun b h' tk htk hS2 off=>?_))
  have et:ds.take i++[d]=ds.take (i+1):=by rw[XW,hd];rfl
  rw[et] at hS2
  refine Yd ⟨Vo Zs _,ih (i+1) _ (by omega) hlt (W.frame _ s' _ _ hst' htk fun b hb o e=>?_) (fun b o e=>?_) hS2 fun s'' hm'' hS''=>?_⟩
  ·rw[off b (fun h:b=S=>hSf (by rw[← h];exact hb))];exact e
  ·show h'.get? b=some o
   rw[off b (fun h:b=S=>hnew b o e (by rw[h];exact Yc))];exact h0s' b o e
  ·refine hR s'' (Moved.trans W.gtrans ((hm.mono hsub).then_heap htk fun b o hb e=>?_) hm'') hS''
   rw[off b (fun h:b=S=>hb (by rw[h];exact Yc))];exact e
end
end L2
namespace L2
open PySem PySem.Spec PyProof.Rows
abbrev cf (w:World):Obj:={ cls:=.type "set",dict:=none,data:=.set #[] 0 (.fresh 0 0 (!w.params.followText "set-order")) }
abbrev qF (l:Addr):Obj:={ cls:=.type "list_iterator",data:=.fields #[.ref l,.int 0 0] }
section
variable {prog:Program} {w:World} {A:Around} {E:Kv} {s:Shared}
theorem ip (x:Value){Q₁:Kv}(q:Q₁ (.ref s.heap.objs.size) { s with heap:=s.heap.push (cf w) }) :
  codeAny (model prog w) A (.call (.builtin "set.__new__") ⟨[.type "set",x],[]⟩) (wants Q₁ E) s:=by
 refine codeAny_of_tree (Ya (m:=checkBuiltinCall "set.__new__" ⟨[.type "set",x],[]⟩) (wpAny_of_eq (F.newCall_set_1 x) (Yd ⟨Vo F.plain_set_new _,Zr F.entry_set_new ?_⟩)))
 rw[Zv F.plain_set_new ⟨[.type "set",x],[]⟩]
 unfold Builtin.«set.__new__» Builtin.Frozenset.newClass
 have hself:=sub_set_self
 obtain⟨hp,gg,dd,tt,oo⟩:=s
 dsimp only;wp_walk
 refine wpAny_askSetting (Yd ?_);dsimp only;simp only[newObj]
 exact Ya (wpAny_alloc (Yd (Yd q)))
theorem de {l:Addr}{items:Array Value}{Z:Heap→Prop}{Q:Kv}(hl:s.heap.IsList l items)
  (loop:∀ R:Result→Shared→Prop,(∀ h' tk,Z h'→(∀ b o,s.heap.get? b=some o→h'.get? b=some o)→R (.ok (.ret .none)) { s with heap:=h',toks:=tk })→
   codeAny (model prog w) A.in1.in1 (.builtin "set.update.loop" ⟨[.ref s.heap.objs.size,.ref (s.heap.push (cf w)).objs.size],[]⟩) R { s with heap:=(s.heap.push (cf w)).push (qF l) })
  (q:∀ h' tk,Z h'→(∀ b o,s.heap.get? b=some o→h'.get? b=some o)→Q (.ref s.heap.objs.size) { s with heap:=h',toks:=tk }) :
  wpAny (model prog w) A (call (.type "set") [.ref l]) Q E s:=by
 have ft:=F.called_set
 obtain⟨m0,mr,hm⟩:=ft.mro
 have y1:=ft.made
 have y2:=ft.sub
 have y3:=ft.notType
 have y4:=ft.canCreate
 have y5:=F.typeCall_set_1 (.ref l)
 refine wpAny_call (codeAny_of_tree ?_)
 show wpAny _ _ (callAny (.type "set") ⟨[.ref l],[]⟩) _ _ _
 refine Yd ⟨Code.quiet_builtin _ (by decide +kernel),Zr F.entry_type_call ?_⟩
 rw[Around.under_plain (weight_type_call_type "set" [.ref l] []) rfl]
 repeat any_goals first | assumption | wp_step
 refine codeAny_mono (ip (.ref l) (E:=E) (Q₁:=fun obj s₁=>obj=.ref s.heap.objs.size∧s₁={ s with heap:=s.heap.push (cf w) }) ⟨rfl,rfl⟩) fun r s₁ hr=>?_
 cases r with
 | error e=>exact hr
 | ok fl=>
  cases fl with
  | ret obj=>
   obtain⟨rfl,rfl⟩:=hr
   have hS:(s.heap.push (cf w)).get? s.heap.objs.size=some (cf w):=Ys _ rfl
   have hT:Shared.TypeIs { s with heap:=s.heap.push (cf w) } (.ref s.heap.objs.size) "set":=⟨_,hS,rfl⟩
   have y6:=ft.init.lookup
   have y7:=ft.init.bind (.ref s.heap.objs.size)
   repeat any_goals first | assumption | wp_step
   refine codeAny_mono (codeAny_call_builtin (R:=wants (fun r s₂=>r=.none∧∃ h' tk,s₂={ s with heap:=h',toks:=tk }∧Z h'∧∀ b o,s.heap.get? b=some o→h'.get? b=some o) E) ft.init.plain F.entry_set_init (check_set_init_1 hT ?_)) fun r₂ s₂ hr₂=>?_
   ·obtain⟨⟨cl,dc,dt,sl⟩,e1,e2,nl,e3⟩:=hl
    simp only at e2 e3
    subst e2 e3
    have e1':(s.heap.push (cf w)).get? l=some { cls:=.type "list",dict:=dc,data:=.seq items nl,slots:=sl }:=Yf _ e1
    have z1:=F.sub_list_set
    have z2:=F.sub_list_frozenset
    have z3:(Value.type "list" == Value.type "dict")=false:=by decide
    have hl1:(s.heap.push (cf w)).IsList l items:=⟨_,e1',rfl,nl,rfl⟩
    unfold Builtin.«set.__init__» noKeywords Builtin.Frozenset.updateFrom
    generalize hPI:pyIter=PI
    wp_walk
    subst hPI
    refine wpAny_pyIter_list hl1 (Ya (wpAny_runValue (loop _ fun h' tk hZ hk=>?_)))
    show wpAny _ _ _ _ _ _
    exact Yd (show wpAny _ _ (ret Value.none) _ _ _ from Yd ⟨rfl,h',tk,rfl,hZ,hk⟩)
   ·cases r₂ with
    | error e=>exact hr₂
    | ok fl₂=>
     cases fl₂ with
     | ret v=>
      obtain⟨rfl,h',tk,rfl,hZ,hk⟩:=hr₂
      repeat any_goals first | assumption | wp_step
      exact q _ _ hZ hk
     | _=>exact hr₂.elim
  | _=>exact hr.elim
end
end L2
namespace L2
open PySem PySem.Spec PyProof.Rows PySem.SetTable
theorem oX {α:Type}(next:Nat→Nat):∀ (f k:Nat) (left:List α) (out:Array α),left.length≤f→(pickOrder.go next f k left out).toList.Perm (out.toList++left):=by
 intro f
 induction f with
 | zero=>
  intro k left out h
  obtain rfl:left=[]:=YW.mp (by omega)
  rw[YI]
  exact Xg _
 | succ f ih=>
  intro k left out h
  unfold pickOrder.go
  split
  ·rename_i x hx
   obtain⟨hl,ex⟩:=Yi.mp hx
   refine (ih (k+1) _ _ (by rw[List.length_eraseIdx_of_lt hl];omega)).trans ?_
   rw[VA,Yv,← ex]
   refine ZN _ ?_
   show ((left[next k%left.length]::left.eraseIdx (next k%left.length))).Perm left
   rw[Vd]
   have:=YN (next k%left.length) left
   refine List.Perm.trans ?_ (List.Perm.of_eq this)
   rw[Zg hl]
   exact Xd.symm
  ·rename_i hx
   have hz:left.length=0:=by
    rcases Nat.eq_zero_or_pos left.length with z | z
    ·exact z
    ·have:=List.getElem?_eq_none_iff.mp hx
     have:=Vp (next k) z
     omega
   obtain rfl:left=[]:=YW.mp hz
   rw[YI]
theorem kX {α:Type}(next:Nat→Nat)(xs:Array α):(pickOrder next xs).toList.Perm xs.toList:=by
 have:=oX next xs.size 0 xs.toList #[] (by simp)
 simpa[pickOrder] using this
def b8 (w:World)(S:Addr)(ep:Nat)(es:Ka):Array (Int×Value):=if w.params.followText "set-order"=true then pickOrder (w.params.setOrder S ep) es else es
theorem fY (w:World)(S:Addr)(ep:Nat)(es:Ka):(b8 w S ep es).toList.Perm es.toList:=by
 unfold b8
 split
 ·exact kX _ _
 ·exact Xg _
theorem dv (w:World)(S:Addr)(ep:Nat)(es:Ka):(b8 w S ep es).size=es.size:=by
 have:=(fY w S ep es).length_eq
 simpa using this
structure SObj (w:World) (h:Heap) (S:Addr) (es:Array (Int×Value)) (ep:Nat) (t:SetTable):Prop where
 obj:∃ o,h.get? S=some o∧o.cls=.type "set"∧o.data=.set es ep t
 fits:t.fits es.size=true
 siz:t.place.size=es.size
 rise:w.params.followText "set-order"=false→Rising t.place
 led:w.params.followText "set-order"=false→t.led=true
 plain:w.params.followText "set-order"=false→(!t.plain&&decide (es.size > 1))=false
def lU (h:Heap)(I S:Addr)(slot i n ep:Nat):Prop:=∃ o,h.get? I=some o∧o.cls=.type "set_iterator"∧o.data=.fields #[.int slot 0,.int i 0,.ref S,.int n 0,.int ep 0]
theorem ag:Slot "set_iterator" "__next__" "set_iterator.__next__":=.of (owner := "set_iterator") (n := "__next__") (by rw[typeLookup_type,builtinLookup_eq_fast];kernel_rfl) (by decide +kernel) (by decide +kernel) (by decide +kernel) (by first | exact .inl (by decide +kernel) | exact .inr (by decide +kernel)) (by rw[isSubtype_type];kernel_rfl)
theorem bi:entryFor table "set_iterator.__next__"=some Builtin.«set_iterator.__next__»:=entryFor_of_fast (by kernel_rfl)
theorem bB (x:Value):argsOk "set_iterator.__next__" ⟨[x],[]⟩:=by unfold argsOk;kernel_rfl
theorem bE:Slot "set_iterator" "__iter__" "set_iterator.__iter__":=.of (owner := "set_iterator") (n := "__iter__") (by rw[typeLookup_type,builtinLookup_eq_fast];kernel_rfl) (by decide +kernel) (by decide +kernel) (by decide +kernel) (by first | exact .inl (by decide +kernel) | exact .inr (by decide +kernel)) (by rw[isSubtype_type];kernel_rfl)
theorem cM:entryFor table "set_iterator.__iter__"=some Builtin.«dict_keyiterator.__iter__»:=entryFor_alias (id' := "dict_keyiterator.__iter__") (by kernel_rfl) (by rfl) (by decide +kernel) (by kernel_rfl)
theorem cY (x:Value):argsOk "set_iterator.__iter__" ⟨[x],[]⟩:=by unfold argsOk;kernel_rfl
theorem cZ:entryFor table "set.__iter__"=some Builtin.«frozenset.__iter__»:=entryFor_alias (id' := "frozenset.__iter__") (by kernel_rfl) (by rfl) (by decide +kernel) (by kernel_rfl)
theorem fi:isSubtype (.type "StopIteration") (.type "StopIteration")=pure true:=by rw[isSubtype_type];kernel_rfl
section
variable {prog:Program} {w:World} {A:Around} {E:Kv} {s:Shared}
variable {S I:Addr} {es:Ka} {ep:Nat} {t:SetTable}
theorem SObj.state (K:SObj w s.heap S es ep t){Q:(Array (Int×Value)×Nat×SetTable)→Shared→Prop}(h:Q (es,ep,t) s):wpAny (model prog w) A (setState S) Q E s:=by
 obtain⟨o,h1,h2,h3⟩:=K.obj
 exact Vb h1 h3 K.fits h
theorem SObj.entries (K:SObj w s.heap S es ep t){Q:Array (Int×Value)→Shared→Prop}(h:Q es s):wpAny (model prog w) A (setEntries S) Q E s:=by
 unfold setEntries
 exact Ya (K.state (Yd h))
theorem SObj.epoch (K:SObj w s.heap S es ep t){Q:Nat→Shared→Prop}(h:Q ep s):wpAny (model prog w) A (setEpoch S) Q E s:=by
 unfold setEpoch
 exact Ya (K.state (Yd h))
theorem eE {Q:Kb}(h:Q (w.params.followText "set-order") s):wpAny (model prog w) A setsByText Q E s:=by
 unfold setsByText
 exact Ya (wpAny_askSetting (Yd h))
theorem jT (K:SObj w s.heap S es ep t){slot i:Nat}(hs:w.params.followText "set-order"=false→below t.place slot=i){Q:Option (Value×Nat)→Shared→Prop}
  (h1:∀ e slot',(b8 w S ep es)[i]?=some e→(w.params.followText "set-order"=false→below t.place slot'=i+1)→Q (some (e.2,slot')) s) (h2:(b8 w S ep es)[i]?=none→Q none s) :
  wpAny (model prog w) A (setNext S slot i ep) Q E s:=by
 unfold setNext
 refine Ya (K.state ?_)
 dsimp only
 refine Ya (eE ?_)
 cases hb:w.params.followText "set-order" with
 | true=>
  rw[Yn rfl,Yo (by simp)]
  refine Ya ?_
  unfold setWalk
  refine Ya (K.state ?_)
  dsimp only
  refine Ya (eE ?_)
  rw[hb,Yn rfl]
  refine Ya (wpAny_askSetting (Yd (Yd ?_)))
  have eo:b8 w S ep es=pickOrder (w.params.setOrder S ep) es:=by unfold b8;rw[Yn hb]
  show Q (((pickOrder (w.params.setOrder S ep) es)[i]?).map fun e=>(e.2,slot)) s
  rw[← eo]
  cases q:(b8 w S ep es)[i]? with
  | none=>exact h2 q
  | some e=>exact h1 e slot q fun z=>by rw[hb] at z;cases z
 | false=>
  rw[Yo Yg]
  have eo:b8 w S ep es=es:=by unfold b8;rw[Yo (by rw[hb];exact Yg)]
  rw[eo] at h1 h2
  have hd:((!t.plain)&&decide (es.size > 1))=false:=K.plain hb
  have hl:=K.led hb
  have hi:=hs hb
  show wpAny _ _ (if ((!t.plain)&&decide (es.size > 1))=true then _ else _) _ _ _
  rw[hd,Yo Yg]
  refine Ya ?_
  show wpAny _ _ (if ((!t.led)&&!es.isEmpty)=true then _ else _) _ _ _
  rw[hl,Yo (by simp)]
  refine Yd ?_
  show wpAny _ _ (pure (match es[below t.place slot]?,t.place[below t.place slot]? with
   | some (_,x),some j=>some (x,j+1)
   | _,_=>none)) _ _ _
  rw[hi]
  refine Yd ?_
  cases q:es[i]? with
  | none=>exact h2 q
  | some e=>
   have hlt:i<t.place.size:=by rw[K.siz];exact (Zc.mp q).1
   rw[Yl hlt]
   refine h1 e (t.place[i]+1) q fun _=>?_
   obtain⟨b1,b2,b3⟩:=bM (K.rise hb) (t.place[i]+1)
   generalize below t.place (t.place[i]+1)=b at b1 b2 b3
   rcases VC b (i+1) with z | z | z
   ·have:=b3 i hlt (by omega)
    omega
   ·exact z
   ·have h':i+1<t.place.size:=by omega
    have g1:=b2 (i+1) h' z
    have g2:=(K.rise hb).lt i (i+1) hlt h' (by omega)
    omega
end
section
variable {prog:Program} {w:World} {A:Around} {E:Kv} {s:Shared}
variable {S I:Addr} {es:Ka} {ep:Nat} {t:SetTable}
theorem SObj.at {h h':Heap}(K:SObj w h S es ep t)(k:∀ o,h.get? S=some o→h'.get? S=some o):SObj w h' S es ep t:=by
 obtain⟨o,h1,h2,h3⟩:=K.obj
 exact⟨⟨o,k o h1,h2,h3⟩,K.fits,K.siz,K.rise,K.led,K.plain⟩
theorem nI {slot i:Nat}(hit:lU s.heap I S slot i es.size ep)(K:SObj w s.heap S es ep t)(hs:w.params.followText "set-order"=false→below t.place slot=i){e:Int×Value}(he:(b8 w S ep es)[i]?=some e){Q:Ko}
  (q:∀ h' slot',lU h' I S slot' (i+1) es.size ep→(w.params.followText "set-order"=false→below t.place slot'=i+1)→(∀ b,b≠I→h'.get? b=s.heap.get? b)→Q (some e.2) { s with heap:=h' }) :
  wpAny (model prog w) A (pyNext (.ref I)) Q E s:=by
 obtain⟨o,ho,hc,hd⟩:=id hit
 have hT:s.TypeIs (.ref I) "set_iterator":=⟨o,ho,hc⟩
 unfold pyNext
 refine Ya (Vn (Xa (name:=Str.ofString "__next__") hT ag (Zn ag hT bi ?_ (bB _))))
 unfold Builtin.«set_iterator.__next__»
 refine Ya (Yd ?_)
 refine Ya (wpAny_fieldsOf ho hd ?_)
 show wpAny _ _ (setEntries S>>=_) _ _ s
 refine Ya (K.entries ?_)
 rw[Yo (by simp)]
 show wpAny _ _ (setNext S ((slot:Int).toNat) ((i:Int).toNat) ((ep:Int).toNat)>>=_) _ _ s
 rw[Zl,Zl,Zl]
 refine Ya (jT K hs (fun e' slot' he' hs'=>?_) fun z=>by rw[he] at z;cases z)
 rw[he] at he'
 cases he'
 show wpAny _ _ (setField (.ref I) 0 (rawInt (slot':Nat))>>=_) _ _ s
 refine Ya (Xy ho hd (by simp) ?_)
 have ho2:=YT (Obj.mapFields (·.setIfInBounds 0 (rawInt ((slot':Nat):Int)))) ho (Xn (Zt hd _))
 have hd2:=Zt hd (·.setIfInBounds 0 (rawInt ((slot':Nat):Int)))
 refine Ya (Xy ho2 hd2 (by simp) ?_)
 have ho3:=YT (Obj.mapFields (·.setIfInBounds 1 (rawInt ((i:Int)+1)))) ho2 (Xn (Zt hd2 _))
 have hd3:=Zt hd2 (·.setIfInBounds 1 (rawInt ((i:Int)+1)))
 refine Yd ⟨_,rfl,Yd (q _ slot' ⟨_,ho3,?_,?_⟩ hs' fun b hb=>?_)⟩
 ·rw[Obj.cls_mapFields,Obj.cls_mapFields];exact hc
 ·rw[hd3];simp[rawInt]
 ·rw[YJ _ _ _ _ hb,YJ _ _ _ _ hb]
theorem nE {slot i:Nat}(nh:A.handled=none)(hit:lU s.heap I S slot i es.size ep)(K:SObj w s.heap S es ep t)(hs:w.params.followText "set-order"=false→below t.place slot=i)(he:(b8 w S ep es)[i]?=none){Q:Ko}
  (q:∀ h',(∀ b o,b≠I→s.heap.get? b=some o→h'.get? b=some o)→Q none { s with heap:=h' }):wpAny (model prog w) A (pyNext (.ref I)) Q E s:=by
 obtain⟨o,ho,hc,hd⟩:=id hit
 have hT:s.TypeIs (.ref I) "set_iterator":=⟨o,ho,hc⟩
 unfold pyNext
 refine Ya (Vn (Xa (name:=Str.ofString "__next__") hT ag (Zn ag hT bi ?_ (bB _))))
 unfold Builtin.«set_iterator.__next__»
 refine Ya (Yd ?_)
 refine Ya (wpAny_fieldsOf ho hd ?_)
 show wpAny _ _ (setEntries S>>=_) _ _ s
 refine Ya (K.entries ?_)
 rw[Yo (by simp)]
 show wpAny _ _ (setNext S ((slot:Int).toNat) ((i:Int).toNat) ((ep:Int).toNat)>>=_) _ _ s
 rw[Zl,Zl,Zl]
 refine Ya (jT K hs (fun e' slot' he' hs'=>by rw[he] at he';cases he') fun _=>?_)
 show wpAny _ _ (setField (.ref I) 2 .none>>=_) _ _ s
 refine Ya (Xy ho hd (by simp) ?_)
 show wpAny _ _ (newExc (.type "StopIteration") []>>=_) _ _ _
 refine Ya ?_;simp only[newExc,newTuple]
 refine Ya (ZF (Ya (m:=firstArgMember _ _) (wpAny_of_eq (a:=Value.none) (by first | rfl | (simp only[firstArgMember];rfl)) ?_)) (by size_fits))
 refine ZF ?_ (by size_fits);simp only[raiseNew]
 refine Ya (wpAny_handled ?_)
 rw[show A.in1.handled=none from nh]
 refine Ya (Yd (wpAny_throw ?_))
 refine Ya (XB (b:=true) (T := "StopIteration") ⟨_,Ys _ rfl,rfl⟩ fi ?_)
 exact Yd (q _ fun b o hb e=>(((Heap.SameBut.update ..).extBut.push _).push _) b o hb e)
theorem lh (nh:A.handled=none)(hne:S≠I)(hl:es.size≤sizeLine):Walks prog w A I [I,S] [I] es.size (fun i v=>∃ e,(b8 w S ep es)[i]?=some e∧v=e.2)
  (fun i h=>(∃ slot,lU h I S slot i es.size ep∧(w.params.followText "set-order"=false→below t.place slot=i))∧SObj w h S es ep t) where
 sub:=fun b hb=>by simp at hb;simp[hb]
 frame:=fun i h h' st hk=>by
  obtain⟨⟨slot,⟨o,h1,h2,h3⟩,hs⟩,K⟩:=st
  exact⟨⟨slot,⟨o,hk I (by simp) o h1,h2,h3⟩,hs⟩,K.at fun o e=>hk S (by simp) o e⟩
 item:=fun i s Q E hi st hQ=>by
  obtain⟨⟨slot,hit,hs⟩,K⟩:=st
  have hi':i<(b8 w S ep es).size:=by rw[dv];exact hi
  have he:(b8 w S ep es)[i]?=some (b8 w S ep es)[i]:=Yl hi'
  refine nI hit K hs he fun h' slot' hit' hs' hk=>?_
  exact hQ _ h' s.toks ⟨_,he,rfl⟩ ⟨⟨slot',hit',hs'⟩,K.at fun o e=>(hk S hne).trans e⟩ fun b o hb e=>(hk b (fun z=>hb (by simp[z]))).trans e
 done:=fun s Q E st hQ=>by
  obtain⟨⟨slot,hit,hs⟩,K⟩:=st
  refine nE nh hit K hs (Xj (by rw[dv];exact Yw _)) fun h' hk=>?_
  exact hQ h' s.toks fun b o hb e=>hk b o (fun z=>hb (by simp[z])) e
 self:=fun i s Q E st hQ=>by
  obtain⟨⟨slot,⟨o,h1,h2,h3⟩,hs⟩,K⟩:=st
  have hT:s.TypeIs (.ref I) "set_iterator":=⟨o,h1,h2⟩
  refine Ve hT bE (Zn bE hT cM ?_ (cY _))
  show wpAny _ _ (ret (.ref I)) _ _ s
  exact Yd ⟨_,rfl, "set_iterator",_,hT,ag.lookup,hQ⟩
theorem lH (K:SObj w s.heap S es ep t){Q:Kv}
  (q:Q (.ref s.heap.objs.size) { s with heap:=s.heap.push { cls:=.type "set_iterator",data:=.fields #[.int 0 0,.int 0 0,.ref S,.int es.size 0,.int ep 0] } }):wpAny (model prog w) A (pyIter (.ref S)) Q E s:=by
 obtain⟨o,h1,h2,h3⟩:=id K.obj
 have hT:s.TypeIs (.ref S) "set":=⟨o,h1,h2⟩
 refine Ve hT Vu (Zn Vu hT cZ ?_ (F.args_set_iter_1 _))
 unfold Builtin.«frozenset.__iter__»
 refine Ya (Ya (m:=slotArgs _ _ _) (Yd (Yd ?_)))
 refine Ya (Ya (K.entries (Yd ?_)))
 refine Ya ?_
 unfold setDrawn
 refine Ya (K.state ?_)
 refine Ya (eE (Yd ?_))
 have hd:(!w.params.followText "set-order"&&(!t.plain&&decide (es.size > 1)))=false:=by
  cases z:w.params.followText "set-order" with
  | true=>rfl
  | false=>rw[K.plain z];rfl
 show wpAny _ _ (if (!w.params.followText "set-order"&&(!t.plain&&decide (es.size > 1)))=true then _ else _) _ _ s
 rw[hd,Yo Yg]
 refine Ya (Yd ?_)
 refine Ya (K.epoch ?_)
 exact Ya (ZF (Yd ⟨_,rfl, "set_iterator",_,⟨_,Ys _ rfl,rfl⟩,ag.lookup,q⟩))
theorem kQ {acc:Array Value}(h:ItemsOf (fun i v=>∃ e,(b8 w S ep es)[i]?=some e∧v=e.2) acc es.size):acc.toList=(b8 w S ep es).toList.map (·.2):=by
 obtain⟨h1,h2⟩:=h
 apply ZT
 intro i
 rw[YS,YZ,YS]
 by_cases hi:i<acc.size
 ·have e:=Yl hi
  obtain⟨x,q1,q2⟩:=h2 i _ e
  rw[e,q1,q2];rfl
 ·rw[Xj (by omega),Xj (by rw[dv];omega)];rfl
theorem mL (K:SObj w s.heap S es ep t){Q:Kb}(h:Q false s):wpAny (model prog w) A (Builtin.List.listLengthHint (.ref S)) Q E s:=by
 obtain⟨o,h1,h2,h3⟩:=id K.obj
 have hT:s.TypeIs (.ref S) "set":=⟨o,h1,h2⟩
 unfold Builtin.List.listLengthHint
 refine Ya (Xm hT F.slot_set_len.lookup ?_)
 generalize hid:("set.__len__":String)=id0
 wp_delta
 rw[show splitId id0=some ("set", "__len__") from by subst hid;decide +kernel]
 subst hid
 refine Ya (XB (T := "set") (b:=true) hT sub_set_self ?_)
 refine Xo (fun z=>absurd z (by decide)) (fun _=>?_)
 refine Xo (fun _=>?_) (fun z=>absurd (by decide +kernel) z)
 refine Ya (Vy hT ?_)
 exact Yd h
theorem jr {R:Kr}{L:Addr}{res:Value}{c₀:Nat}(nh:A.handled=none)(K:SObj w s.heap S es ep t)(hl:es.size≤sizeLine)(hLS:L≠S)(hL:s.heap.get? L=some { cls:=.type "list",data:=.seq #[] c₀ })
  (hR:∀ h' tk acc' c',(∀ b o,b≠L→s.heap.get? b=some o→h'.get? b=some o)→h'.get? L=some { cls:=.type "list",dict:=none,data:=.seq acc' c',slots:=#[] }→acc'.toList=(b8 w S ep es).toList.map (·.2)→R (.ok (.ret res)) { s with heap:=h',toks:=tk }) :
  wpAny (model prog w) A.in1 (Builtin.List.listExtendWith (.ref L) (.ref S) res)
   (fun fin s'=>match fin with | .done f=>R (.ok f) s' | .again c'=>c'.quiet=true∧codeAny (model prog w) A c' R s') (fun e s'=>R (.error e) s') s:=by
 obtain⟨o,h1,h2,h3⟩:=id K.obj
 have hT:s.TypeIs (.ref S) "set":=⟨o,h1,h2⟩
 unfold Builtin.List.listExtendWith
 refine Ya (Vy hT ?_)
 have g1:Builtin.List.listSameRef (.ref L) (.ref S)=false:=by simp[Builtin.List.listSameRef,hLS]
 have g2:(Value.type "set" == Value.type "list")=false:=by decide
 have g3:(Value.type "set" == Value.type "tuple")=false:=by decide
 simp only[g1,g2,g3,Bool.or_false,Zq,Vm]
 refine Ya (lH K ?_)
 have hSlt:S<s.heap.objs.size:=Yp h1
 have hLlt:L<s.heap.objs.size:=Yp hL
 have K1:SObj w (s.heap.push { cls:=.type "set_iterator",data:=.fields #[.int 0 0,.int 0 0,.ref S,.int es.size 0,.int ep 0] }) S es ep t:=K.at fun o e=>Yf _ e
 have hL1:(s.heap.push { cls:=.type "set_iterator",data:=.fields #[.int 0 0,.int 0 0,.ref S,.int es.size 0,.int ep 0] }).get? L=some { cls:=.type "list",data:=.seq #[] c₀ }:=Yf _ hL
 have hI1:lU (s.heap.push { cls:=.type "set_iterator",data:=.fields #[.int 0 0,.int 0 0,.ref S,.int es.size 0,.int ep 0] }) s.heap.objs.size S 0 0 es.size ep:=⟨_,Ys _ rfl,rfl,rfl⟩
 have k1:∀ b o,s.heap.get? b=some o→(s.heap.push { cls:=.type "set_iterator",data:=.fields #[.int 0 0,.int 0 0,.ref S,.int es.size 0,.int ep 0] }).get? b=some o:=fun b o e=>Yf _ e
 generalize s.heap.push { cls:=.type "set_iterator",data:=.fields #[.int 0 0,.int 0 0,.ref S,.int es.size 0,.int ep 0] }=hp1 at *
 refine Ya (Zy (mL (s:={ s with heap:=hp1 }) K1 ?_))
 refine Xo (fun _=>?_) (fun z=>absurd (by decide +kernel) z)
 refine Ya (Xf (Ya ?_))
 show wpAny _ _ (updateSeq L (·.push .none)>>=fun _=>updateSeq L (·.pop)) _ _ _
 refine Ya (Vv hL1 rfl ?_)
 have hL2:=YT (Obj.mapSeq (·.push Value.none)) hL1 rfl
 refine Vv (hz:=by seq_fits) hL2 rfl ?_
 have hL3:=YT (Obj.mapSeq (·.pop)) hL2 rfl
 have oth:∀ b,b≠L→((hp1.update L (Obj.mapSeq (·.push Value.none))).update L (Obj.mapSeq (·.pop))).get? b=hp1.get? b:=fun b hb=>by
  rw[YJ _ _ _ _ hb,YJ _ _ _ _ hb]
 have hIL:s.heap.objs.size≠L:=ZE hLlt
 refine Yd ⟨Vo F.plain_extend_loop _,?_⟩
 have W:=(lh (prog:=prog) (w:=w) (A:=A.in1) (S:=S) (I:=s.heap.objs.size) (es:=es) (ep:=ep) (t:=t) (by simpa using nh) (YC hSlt) hl).toS
 refine codeAny_extend_loopS W hl L (by simp[Vz hIL,hLS]) res es.size 0 _ #[] _ (Nat.sub_zero _) (Za _) ⟨⟨0,?_,fun z0=>?_⟩,K1.at fun o e=>(oth S (Vz hLS)).trans e⟩ hL3 (ItemsOf.nil _) fun s' acc' c' hm hS' hacc=>?_
 ·obtain⟨o',q1,q2,q3⟩:=hI1
  exact⟨o',(oth _ hIL).trans q1,q2,q3⟩
 ·obtain⟨b1,b2,b3⟩:=bM (K.rise z0) 0
  rcases Nat.eq_zero_or_pos (below t.place 0) with z | z
  ·exact z
  ·exact absurd (b2 0 (by omega) z) (XN _)
 ·rw[Moved.eq_with hm]
  refine hR s'.heap s'.toks acc' c' (fun b o hb e=>hm.heap b o (fun z=>?_) ((oth b hb).trans (k1 b o e))) hS' ?_
  ·rcases YF.mp z with z | z
   ·exact hb z
   ·have:b=s.heap.objs.size:=by simpa using z
    exact absurd (Yp e) (by rw[this];exact Zh _)
  ·exact kQ hacc
theorem iw (nh:A.handled=none)(K:SObj w s.heap S es ep t)(hl:es.size≤sizeLine){Q:Kl}
  (q:∀ h' tk,(∀ b o,s.heap.get? b=some o→h'.get? b=some o)→Q ((b8 w S ep es).toList.map (·.2)) { s with heap:=h',toks:=tk }):wpAny (model prog w) A (collect (.ref S)) Q E s:=by
 obtain⟨o,h1,h2,h3⟩:=id K.obj
 have hlt:S<s.heap.objs.size:=Yp h1
 unfold collect
 refine Ya (wpAny_runValue (Zr entry_proto_collect' ?_))
 refine Ya (m:=newList []) (wpAny_newList (Yd ⟨Code.quiet_builtin _ (by decide +kernel),Zr entry_list_iadd' ?_⟩))
 rw[Zv (show plainId "list.__iadd__"=true by decide +kernel) ⟨[.ref s.heap.objs.size,.ref S],[]⟩]
 refine jr (R:=fun r s'=>match r with
  | Except.ok (Flow.ret v)=>wpAny (model prog w) A (match v with
   | Value.ref a=>(load a>>=fun o=>match o.data with
    | Data.seq xs _=>pure xs.toList
    | _=>unsupported "internal:collect")
   | _=>unsupported "internal:collect") Q E s'
  | Except.ok _=>False
  | Except.error e=>E e s') (s:={ s with heap:=s.heap.push (seqObj "list" #[] 0) }) (A:=A) (L:=s.heap.objs.size) (res:=.ref s.heap.objs.size) (c₀:=0) ?_ (K.at fun o e=>Yf _ e) hl (ZE hlt) (Ys _ rfl) fun h' tk acc' c' hk hL' hacc=>?_
 ·simpa using nh
 ·refine Ya (wpAny_load hL' ?_)
  show wpAny _ _ (pure acc'.toList) _ _ _
  rw[hacc]
  exact Yd (q h' tk fun b o e=>hk b o (YC (Yp e)) (Yf _ e))
end
theorem SetHas.fresh {Pv:Value→D→Prop}{w:World}{h:Heap}{a:Addr}{ds:List D}(hget:h.get? a=some (cf w)):SetHas Pv w h a (ds.take 0):=by
 refine⟨[],⟨#[],.fresh 0 0 (!w.params.followText "set-order"),⟨⟨_,0,hget,⟨rfl,rfl,rfl⟩,rfl⟩,⟨⟨fun i j hi=>absurd hi (XN _)⟩,rfl,fun j hj=>?_,by show 7%2=1;decide,by first | exact pf | (show cS 8;exact pf),Za _,fun i j e=>?_⟩,rfl,rfl,fun i e d he=>?_,fun i e d he=>?_⟩,.inl ⟨rfl,Za _⟩,fun z=>?_⟩,Xg _⟩
 ·cases hj;rename_i q;cases q
 ·cases e
 ·cases he
 ·cases he
 ·show (!w.params.followText "set-order")=true
  rw[z];rfl
section
variable {Pv:Value→D→Prop} {prog:Program} {w:World} {A:Around} {E:Kv} {s:Shared}
theorem fB {l:Addr}{items:Array Value}{ds:List D}{Q:Kv}(nh:A.handled=none)(hl:s.heap.IsList l items)(hi:∀ (i:Nat) v,items[i]?=some v→∃ d,ds[i]?=some d∧KeyAt s.heap v d∧Pv v d)(hlen:ds.length=items.size)(hb:items.size<70)(hu:A.units+80<cLine)
  (q:∀ h' tk,SetHas Pv w h' s.heap.objs.size ds→(∀ b o,s.heap.get? b=some o→h'.get? b=some o)→Q (.ref s.heap.objs.size) { s with heap:=h',toks:=tk }):wpAny (model prog w) A (call (.type "set") [.ref l]) Q E s:=by
 refine de (Z:=fun h'=>SetHas Pv w h' s.heap.objs.size ds) hl (fun R hR=>?_) q
 obtain⟨ol,hol,_⟩:=id hl
 have hlS:l<s.heap.objs.size:=Yp hol
 have hsz:(s.heap.push (cf w)).objs.size=s.heap.objs.size+1:=Xv ..
 have hne:l≠(s.heap.push (cf w)).objs.size:=by rw[hsz];exact YC (Zf hlS)
 have hnew:∀ b o,s.heap.get? b=some o→b∉s.heap.objs.size::[(s.heap.push (cf w)).objs.size]:=fun b o e=>by
  have:=Yp e
  rw[hsz]
  simp only[YF,YD,List.not_mem_nil,or_false,not_or]
  exact⟨YC this,YC (Zf this)⟩
 have hl2:((s.heap.push (cf w)).push (qF l)).IsList l items:=(hl.push _).push _
 have nh3:A.in1.in1.in1.handled=none:=by simpa using nh
 refine mG (Pv:=Pv) ((Walks.list nh3 _ l hne items).toS) s.heap.objs.size (by rw[hsz];simp;exact ZE hlS) s.heap hnew (fun i s' st b hb' o vs k e z=>?_) ds hlen hb hi (by show A.units+1+1+70<cLine;omega) (items.size-0) 0 _ (by omega) (Za _)
  ⟨⟨_,Ys _ rfl,rfl,rfl⟩,hl2⟩ (fun b o e=>Yf _ (Yf _ e)) (SetHas.fresh (Yf _ (Ys _ rfl))) fun s' hm hS=>?_
 ·rw[YD] at hb'
  subst hb'
  obtain⟨⟨o',e1,e2,e3⟩,_⟩:=st
  rw[e1] at e
  cases e
  rw[e3] at z
  cases z
 ·obtain⟨h',g',d',tk',os'⟩:=s'
  have eg:g'=s.gens:=hm.gens
  have ed:d'=s.drawn:=hm.drawn
  have eo:os'=s.os:=hm.os
  subst eg ed eo
  exact hR h' tk' hS fun b o e=>hm.heap b o (hnew b o e) (Yf _ (Yf _ e))
end
theorem nN (t:SetTable)(es:Ka)(h:Int)(x:Value):(layNew t es h x).2.1.led=t.led:=by
 unfold layNew
 split
 ·show (SetTable.orStandIn _ _).led=t.led
  unfold SetTable.orStandIn
  split <;> rfl
 ·rfl
theorem gZ {t t':SetTable}{hs:Array Int}{n:Nat}{order:Array Nat}(h:t.relaid hs n=some (t',order)):t'.led=t.led∧Rising t'.place∧t'.dummies=#[]:=by
 unfold relaid laid at h
 cases q:layClean (sizeAbove n-1) hs with
 | none=>rw[q] at h;cases h
 | some ow=>
  rw[q] at h;cases h
  refine⟨rfl,?_,rfl⟩
  show Rising ((aJ ow (sizeAbove n-1)).map (·.1)).toArray
  have z:=dz ow (sizeAbove n-1)
  generalize aJ ow (sizeAbove n-1)=L at z
  refine⟨fun i j hi hj hij=>?_⟩
  have z2:=Zx.mp z i j (by simpa using hi) (by simpa using hj) hij
  simpa using z2
theorem ce (n:Nat):Rising (Array.range n):=⟨fun i j hi hj h=>by simpa using h⟩
theorem kR (t:SetTable)(es:Ka)(n:Nat):(relayAll t es n).2.1.led=t.led∧Rising (relayAll t es n).2.1.place∧(relayAll t es n).2.1.dummies=#[]:=by
 unfold relayAll
 split
 ·rename_i t' order hq
  obtain⟨a,b⟩:=gZ hq
  dsimp only
  split
  ·exact⟨a,b⟩
  ·exact⟨rfl,ce _,rfl⟩
 ·exact⟨rfl,ce _,rfl⟩
theorem ii {t:SetTable}(hd:t.dummies=#[])(j:Nat):has t.dummies j=false:=by rw[hd];rfl
theorem iL {t:SetTable}{hashAt:Nat→Int}{h:Int}(hd:t.dummies=#[]):∀ (f:Nat) (p:Probe) (j:Nat) (d:Option Nat),p.dummy=none→probe.go t hashAt h f p=some (.empty j d)→t.slot j=.empty∧d=none:=by
 intro f
 induction f with
 | zero=>intro p j d _ e;cases e
 | succ f ih=>
  intro p j d hp e
  have adv:(t.advance p).dummy=none:=by
   unfold advance
   split
   ·exact hp
   ·exact hp
  unfold probe.go at e
  split at e
  ·rename_i hs
   cases e
   exact⟨hs,hp⟩
  ·rename_i hs
   exfalso
   unfold slot at hs
   dsimp only at hs
   split at hs
   ·cases hs
   ·rw[ii hd] at hs;cases hs
  ·split at e
   ·cases e
   ·exact ih _ _ _ adv e
theorem kr {t:SetTable}(r:Rising t.place){j:Nat}(h:t.slot j=.empty):j∉t.place:=fun m=>by
 obtain⟨i,hi⟩:=Array.getElem?_of_mem m
 rw[dJ r hi] at h
 cases h
theorem mD {t:SetTable}(r:Rising t.place)(hd:t.dummies=#[])(es:Ka)(h:Int)(x:Value):Rising (layNew t es h x).2.1.place∧(layNew t es h x).2.1.dummies=#[]:=by
 unfold layNew
 split
 ·rename_i sl wd hf
  have hj:sl∉t.place:=by
   unfold freeSlot at hf
   split at hf
   ·rename_i j d hpr
    cases hf
    obtain⟨h1,h2⟩:=iL hd _ _ _ _ rfl hpr
    subst h2
    exact kr r h1
   ·cases hf
  dsimp only
  unfold SetTable.orStandIn
  split
  ·refine⟨ff r hj,?_⟩
   show (if has t.dummies sl=true then _ else t.dummies)=#[]
   rw[ii hd]
   exact hd
  ·exact⟨ce _,rfl⟩
 ·exact⟨ce _,rfl⟩
def enV:Value→D
 | .str x _=>.str x
 | .int i _=>.int i
 | _=>.non
def enD (e:Int×Value):D:=enV e.2
structure TxAt {prog:Program} {w:World} {K:Type} [DecidableEq K] (knd:PySem.KeyKind prog w K) (h:Heap) (a:Addr) (es:Array (Int×Value)) (ep:Nat) (t:SetTable):Prop where
 obj:∃ o,h.get? a=some o∧o.ExactSet∧o.data=.set es ep t
 fits:t.fits es.size=true
 led:w.params.followText "set-order"=false→t.led=true
 rise:Rising t.place
 nod:t.dummies=#[]
 its:∀ e∈es.toList,∃ k,knd.is k e.2=true∧e.1=knd.hash k
 small:es.size≤1000
structure Sca {prog:Program} {w:World} {K:Type} [DecidableEq K] (knd:PySem.KeyKind prog w K) (f:K→D):Prop where
 inj:∀ a b,f a=f b→a=b
 en:∀ k v,knd.is k v=true→enV v=f k
 sc:∀ k v,knd.is k v=true→v.scannable=true
def TxHas {prog:Program}{w:World}{K:Type}[DecidableEq K](knd:PySem.KeyKind prog w K)(h:Heap)(a:Addr)(ds:List D):Prop:=∃ es ep t,TxAt knd h a es ep t∧(es.toList.map enD).Perm (al ds)
section
variable {prog:Program} {w:World} {K:Type} [DecidableEq K] {knd:PySem.KeyKind prog w K}
theorem TxAt.at {h h':Heap}{a:Addr}{es:Ka}{ep:Nat}{t:SetTable}(X:TxAt knd h a es ep t)(k:∀ o,h.get? a=some o→h'.get? a=some o):TxAt knd h' a es ep t:=by
 obtain⟨o,h1,h2,h3⟩:=X.obj
 exact⟨⟨o,k o h1,h2,h3⟩,X.fits,X.led,X.rise,X.nod,X.its,X.small⟩
theorem TxHas.move {h h':Heap}{a:Addr}{ds:List D}(S:TxHas knd h a ds)(k:∀ o,h.get? a=some o→h'.get? a=some o):TxHas knd h' a ds:=by
 obtain⟨es,ep,t,X,p⟩:=S
 exact⟨es,ep,t,X.at k,p⟩
theorem TxAt.elems {h:Heap}{a:Addr}{es:Ka}{ep:Nat}{t:SetTable}{f:K→D}(X:TxAt knd h a es ep t)(C:Sca knd f):ElemsOf knd es.toList:=by
 intro e he
 obtain⟨x,h1,h2⟩:=X.its e he
 exact⟨⟨x,h1,h2⟩,C.sc _ _ h1⟩
end
theorem iM {h:Heap}{a:Addr}{o:Obj}{es:Ka}{ep:Nat}{t:SetTable}(k1:h.get? a=some o)(k3:o.data=.set es ep t)(es':Ka)(t':SetTable):(h.update a (Obj.putSet es' t')).get? a=some { o with data:=.set es' (ep+1) t' }:=by
 have z:=YT (Obj.putSet es' t') k1 (by rw[putSet_of es' t' k3];rfl)
 rw[putSet_of es' t' k3] at z
 exact z
section
variable {prog:Program} {w:World} {A:Around} {E:Kv} {s:Shared} {K:Type} [DecidableEq K] {knd:PySem.KeyKind prog w K} {f:K→D}
theorem pT (C:Sca knd f){a:Addr}{ds:List D}{x:K}{v:Value}(hkey:knd.is x v=true)(S:TxHas knd s.heap a ds)(hn:ds.length<1000){Q:Kb}
  (q:∀ b h' tk,s.toks≤tk→TxHas knd h' a (ds++[f x])→(∀ c,c≠a→h'.get? c=s.heap.get? c)→Q b { s with heap:=h',toks:=tk }) :
  wpAny (model prog w) A (setAdd a v) Q E s:=by
 obtain⟨es,ep,t,X,p⟩:=S
 obtain⟨o,k1,k2,k3⟩:=X.obj
 have hsz:es.size<1000:=by
  have z:=p.length_eq
  rw[YA,Yu] at z
  have:=cB ds
  omega
 have hel:ElemsOf knd es.toList:=X.elems C
 have hsc:=C.sc _ _ hkey
 unfold setAdd
 refine Zy (Ya (knd.pyHash hkey ?_))
 unfold setAddHashed setAddHashedIn
 refine Zy (Ya (Vb (s:={ s with toks:=s.toks+1 }) k1 k3 X.fits ?_))
 dsimp only
 have hbs:byScan v es=true:=byScan_of (knd:=knd) hsc (by unfold scanBound;omega) hel
 rw[hbs,Yn rfl]
 unfold setAddByScan
 refine Ya (Ya (Xf (Ya (wpAny_setScan_of (s:={ s with toks:=s.toks+1 }) (knd:=knd) (k:=x) hkey k1 k3 X.fits hel ?_))))
 cases hr:List.findIdx? (fun e=>knd.is x e.2) es.toList with
 | some j=>
  dsimp only
  obtain⟨hj,hpj,_⟩:=List.findIdx?_eq_some_iff_getElem.mp hr
  have hm:f x∈al ds:=by
   refine p.mem_iff.mp (ZU.mpr ⟨es.toList[j],ZL hj,?_⟩)
   exact C.en _ _ hpj
  refine Yd (Yd (q false s.heap (s.toks+1) (XZ _) ⟨es,ep,t,X,?_⟩ fun c _=>rfl))
  rw[bZ,Yn hm]
  exact p
 | none=>
  dsimp only
  have hm:f x∉al ds:=fun z=>by
   obtain⟨e,he,hx⟩:=ZU.mp (p.mem_iff.mpr z)
   obtain⟨y,e1,e2⟩:=X.its e he
   have hy:y=x:=C.inj _ _ ((C.en _ _ e1).symm.trans hx)
   subst hy
   have z:=List.findIdx?_eq_none_iff.mp hr _ he
   rw[e1] at z
   cases z
  have gw:∀ (b:Bool) (s1:Shared) (Q1:Unit→Shared→Prop),Q1 () s1→wpAny (model prog w) A (match b with | true=>rule "set.scan.the-table-gave-way" | false=>pure ()) Q1 E s1:=by
   intro b s1 Q1 z
   cases b
   ·exact Yd z
   ·exact Xf z
  have c1:=layNew_perm t es (knd.hash x) v
  have c2:=layNew_fits t es (knd.hash x) v
  have c3:=nN t es (knd.hash x) v
  have c4:=mD X.rise X.nod es (knd.hash x) v
  have hL:∃ L,layNew t es (knd.hash x) v=L:=⟨_,rfl⟩
  obtain⟨⟨es1,t1,wd,gv⟩,hL⟩:=hL
  rw[hL] at c1 c2 c3 c4
  rw[hL]
  dsimp only at c1 c2 c3 c4 ⊢
  rw[VA] at c1
  have sz1:es1.size=es.size+1:=by rw[← Yu,c1.length_eq,Yk,Yu];rfl
  refine Ya (gw _ _ _ ?_)
  have hl1:w.params.followText "set-order"=false→t1.led=true:=fun z=>c3.trans (X.led z)
  have i1:∀ e∈es1.toList,∃ k,knd.is k e.2=true∧e.1=knd.hash k:=fun e he=>by
   rcases Yz.mp (c1.mem_iff.mp he) with z | z
   ·exact X.its e z
   ·obtain rfl:=YD.mp z
    exact⟨x,hkey,rfl⟩
  have d1:(es1.toList.map enD).Perm (al (ds++[f x])):=by
   rw[bZ,Yo hm]
   refine (c1.map enD).trans ?_
   rw[XO,← C.en _ _ hkey]
   exact p.append (Xg _)
  have tail:∀ t2:SetTable,t2.fits es1.size=true→Rising t2.place→t2.dummies=#[]→t2.led=t1.led→wpAny (model prog w) A (do
    storeSet a es1 t2
    if (!wd&&t2.tooFull)=true then do
      (match (relayAll t2 es1 (SetTable.grown es1.size)).2.2 with | true=>rule "set.scan.the-table-gave-way" | false=>pure ())
      storeSet a (relayAll t2 es1 (SetTable.grown es1.size)).1 (relayAll t2 es1 (SetTable.grown es1.size)).2.1
      pure (some true)
     else pure (some true)) (fun r s'=>wpAny (model prog w) A (match r with | some added=>pure added | none=>setAddHashedIn a v (knd.hash x) 99999) Q E s') E { s with toks:=s.toks+1 }:=by
   intro t2 f2 ri2 nd2 ld2
   refine Ya (Vc (s:={ s with toks:=s.toks+1 }) k1 k3 ?_ (by rw[sz1];show es.size+1≤2 ^ 24;omega))
   have g1:=iM k1 k3 es1 t2
   have off1:∀ c,c≠a→(s.heap.update a (Obj.putSet es1 t2)).get? c=s.heap.get? c:=fun c hc=>YJ _ _ _ _ hc
   split
   ·have r1:=relayAll_perm t2 es1 (SetTable.grown es1.size)
    have r2:=relayAll_fits t2 es1 (SetTable.grown es1.size)
    have r3:=kR t2 es1 (SetTable.grown es1.size)
    generalize relayAll t2 es1 (SetTable.grown es1.size)=Rl at r1 r2 r3 ⊢
    obtain⟨es2,t3,gv2⟩:=Rl
    dsimp only at r1 r2 r3 ⊢
    have sz2:es2.size=es1.size:=by rw[← Yu,r1.length_eq,Yu]
    refine Ya (gw _ _ _ ?_)
    refine Ya (Vc (s:={ s with heap:=s.heap.update a (Obj.putSet es1 t2),toks:=s.toks+1 }) g1 rfl ?_ (by rw[sz2,sz1];show es.size+1≤2 ^ 24;omega))
    have g2:=iM g1 rfl es2 t3
    refine Yd (Yd (q true _ (s.toks+1) (XZ _) ⟨es2,_,t3,⟨⟨_,g2,k2,rfl⟩,r2,fun z=>r3.1.trans (ld2.trans (hl1 z)),r3.2.1,r3.2.2,fun e he=>i1 e (r1.mem_iff.mp he),by omega⟩,(r1.map enD).trans d1⟩ fun c hc=>?_))
    exact (YJ _ _ _ _ hc).trans (off1 c hc)
   ·exact Yd (Yd (q true _ (s.toks+1) (XZ _) ⟨es1,_,t2,⟨⟨_,g1,k2,rfl⟩,f2,fun z=>ld2.trans (hl1 z),ri2,nd2,i1,by omega⟩,d1⟩ off1))
  split
  ·refine Ya ?_
   rw[ZO 8 hsc]
   refine Yd ?_
   cases plainKind v with
   | true=>exact tail t1 c2 c4.1 c4.2 rfl
   | false=>exact tail { t1 with plain:=false } (SetTable.fits_plain_off c2) c4.1 c4.2 rfl
  ·refine Ya (Yd ?_)
   rw[Yn rfl]
   exact tail t1 c2 c4.1 c4.2 rfl
end
theorem nA {prog:Program}{w:World}:Sca (PySem.strKind prog w) D.str where
 inj:=fun a b h=>by cases h;rfl
 en:=fun k v h=>by
  have h':Value.isStrOf k v=true:=h
  cases v <;> simp[Value.isStrOf] at h'
  rw[h'];rfl
 sc:=fun k v h=>by
  have h':Value.isStrOf k v=true:=h
  cases v <;> simp[Value.isStrOf] at h'
  rfl
theorem oS {prog:Program}{w:World}:Sca (PySem.intKind prog w) D.int where
 inj:=fun a b h=>by cases h;rfl
 en:=fun k v h=>by
  obtain⟨t,rfl⟩:=XV (show Value.isInt k v=true from h)
  rfl
 sc:=fun k v h=>by
  obtain⟨t,rfl⟩:=XV (show Value.isInt k v=true from h)
  rfl
section
variable {prog:Program} {w:World} {A:Around} {R:Kr} {I:Addr} {fp wr:List Addr} {G:Array GenState→Array GenState→Prop} {n:Nat} {P:Nat→Value→Prop} {St:Nat→Shared→Prop} {K:Type} [DecidableEq K] {knd:PySem.KeyKind prog w K} {f:K→D}
theorem oY (C:Sca knd f)(W:WalksS prog w A.in1 I fp wr G n P St)(S:Addr)(hSf:S∉fp)(ds:List D)(hn:ds.length=n)(hn70:n<1000)(hval:∀ i v,P i v→∃ x,knd.is x v=true∧ds[i]?=some (f x)) :
  ∀ (k i:Nat) (s:Shared),n-i=k→i≤n→St i s→TxHas knd s.heap S (ds.take i)→
   (∀ s',Moved (S::wr) G s s'→TxHas knd s'.heap S ds→R (.ok (.ret .none)) s')→
   codeAny (model prog w) A (.builtin "set.update.loop" ⟨[.ref S,.ref I],[]⟩) R s:=by
 have hSw:S∉wr:=fun h=>hSf (W.sub _ h)
 have hsub:∀ b∈wr,b∈S::wr:=fun b hb=>Yb _ hb
 intro k
 induction k with
 | zero=>
  intro i s hk hi hst hS hR
  have hin:i=n:=by omega
  subst hin
  refine Zr ZZ ?_
  rw[Zv Zs _]
  show wpAny _ A.in1 (pyNext (.ref I)>>=_) _ _ s
  refine Ya (W.done s _ _ hst fun s' hm=>?_)
  show wpAny _ A.in1 (ret Value.none) _ _ s'
  refine Yd (hR s' (hm.mono hsub) (TxHas.move ?_ fun o e=>hm.heap S o hSw e))
  rw[← hn,XA] at hS
  exact hS
 | succ k ih=>
  intro i s hk hi hst hS hR
  have hlt:i<n:=by omega
  refine Zr ZZ ?_
  rw[Zv Zs _]
  show wpAny _ A.in1 (pyNext (.ref I)>>=_) _ _ s
  refine Ya (W.item i s _ _ hlt hst fun v s' hP hst' hm=>?_)
  obtain⟨x,hx,hd⟩:=hval i v hP
  show wpAny _ A.in1 (holding [v] (setAdd S v)>>=_) _ _ s'
  refine Ya (Zy (pT C hx (hS.move fun o e=>hm.heap S o hSw e) (by rw[YU];omega) fun b h' tk htk hS2 off=>?_))
  have et:ds.take i++[f x]=ds.take (i+1):=by rw[XW,hd];rfl
  rw[et] at hS2
  refine Yd ⟨Vo Zs _,ih (i+1) _ (by omega) hlt (W.frame _ s' _ _ hst' htk fun b hb o e=>?_) hS2 fun s'' hm'' hS''=>?_⟩
  ·rw[off b (fun h:b=S=>hSf (by rw[← h];exact hb))];exact e
  ·refine hR s'' (Moved.trans W.gtrans ((hm.mono hsub).then_heap htk fun b o hb e=>?_) hm'') hS''
   rw[off b (fun h:b=S=>hb (by rw[h];exact Yc))];exact e
end
theorem TxHas.fresh {prog:Program}{w:World}{K:Type}[DecidableEq K]{knd:PySem.KeyKind prog w K}{h:Heap}{a:Addr}{ds:List D}(hget:h.get? a=some (cf w)):TxHas knd h a (ds.take 0):=by
 refine⟨#[],0,.fresh 0 0 (!w.params.followText "set-order"),⟨⟨_,hget,⟨rfl,rfl,rfl⟩,rfl⟩,rfl,fun z=>?_,⟨fun i j hi=>absurd hi (XN _)⟩,rfl,fun e he=>(nomatch he),Za _⟩,Xg _⟩
 show (!w.params.followText "set-order")=true
 rw[z];rfl
section
variable {prog:Program} {w:World} {A:Around} {E:Kv} {s:Shared} {K:Type} [DecidableEq K] {knd:PySem.KeyKind prog w K} {f:K→D}
theorem fu (C:Sca knd f){l:Addr}{items:Array Value}{ds:List D}{Q:Kv}(nh:A.handled=none)(hl:s.heap.IsList l items)(hi:∀ (i:Nat) v,items[i]?=some v→∃ x,knd.is x v=true∧ds[i]?=some (f x))(hlen:ds.length=items.size)(hb:items.size<1000)
  (q:∀ h' tk,TxHas knd h' s.heap.objs.size ds→(∀ b o,s.heap.get? b=some o→h'.get? b=some o)→Q (.ref s.heap.objs.size) { s with heap:=h',toks:=tk }):wpAny (model prog w) A (call (.type "set") [.ref l]) Q E s:=by
 refine de (Z:=fun h'=>TxHas knd h' s.heap.objs.size ds) hl (fun R hR=>?_) q
 obtain⟨ol,hol,_⟩:=id hl
 have hlS:l<s.heap.objs.size:=Yp hol
 have hsz:(s.heap.push (cf w)).objs.size=s.heap.objs.size+1:=Xv ..
 have hne:l≠(s.heap.push (cf w)).objs.size:=by rw[hsz];exact YC (Zf hlS)
 have hnew:∀ b o,s.heap.get? b=some o→b∉s.heap.objs.size::[(s.heap.push (cf w)).objs.size]:=fun b o e=>by
  have:=Yp e
  rw[hsz]
  simp only[YF,YD,List.not_mem_nil,or_false,not_or]
  exact⟨YC this,YC (Zf this)⟩
 have hl2:((s.heap.push (cf w)).push (qF l)).IsList l items:=(hl.push _).push _
 have nh3:A.in1.in1.in1.handled=none:=by simpa using nh
 refine oY C ((Walks.list nh3 _ l hne items).toS) s.heap.objs.size (by rw[hsz];simp;exact ZE hlS) ds hlen hb hi (items.size-0) 0 _ (by omega) (Za _)
  ⟨⟨_,Ys _ rfl,rfl,rfl⟩,hl2⟩ (TxHas.fresh (Yf _ (Ys _ rfl))) fun s' hm hS=>?_
 obtain⟨h',g',d',tk',os'⟩:=s'
 have eg:g'=s.gens:=hm.gens
 have ed:d'=s.drawn:=hm.drawn
 have eo:os'=s.os:=hm.os
 subst eg ed eo
 exact hR h' tk' hS fun b o e=>hm.heap b o (hnew b o e) (Yf _ (Yf _ e))
end
structure DrAt (w:World) (h:Heap) (a:Addr) (es:Array (Int×Value)) (ep:Nat) (t:SetTable):Prop where
 obj:∃ o,h.get? a=some o∧o.ExactSet∧o.data=.set es ep t
 fits:t.fits es.size=true
 plain:t.plain=false
 small:es.size≤1000
theorem DrAt.at {w:World}{h h':Heap}{a:Addr}{es:Ka}{ep:Nat}{t:SetTable}(K:DrAt w h a es ep t)(k:∀ o,h.get? a=some o→h'.get? a=some o):DrAt w h' a es ep t:=by
 obtain⟨o,h1,h2,h3⟩:=K.obj
 exact⟨⟨o,k o h1,h2,h3⟩,K.fits,K.plain,K.small⟩
theorem iV {M:Model}{A:Around}{E:Kv}{s:Shared}{src:Source}{n:Nat}(hn:n≠0){Q:Nat→Shared→Prop}(h:∀ i d,i<n→Q i { s with drawn:=d }):wpAny M A (choose src n) Q E s:=
 fun Γ p hΓ=>⟨hn,h _ _ (Vp _ (Nat.pos_of_ne_zero hn))⟩
theorem o0 {M:Model}{A:Around}{E:Kv}{α:Type}:∀ (n:Nat) (xs:List α) (s:Shared) (Q:List α→Shared→Prop),xs.length=n→(∀ ys d,ys.Perm xs→Q ys { s with drawn:=d })→wpAny M A (drawOrder n xs) Q E s:=by
 intro n
 induction n with
 | zero=>
  intro xs s Q hl h
  obtain rfl:=YW.mp hl
  exact Yd (h [] s.drawn (Xg _))
 | succ n ih=>
  intro xs s Q hl h
  cases xs with
  | nil=>cases hl
  | cons x r=>
   unfold drawOrder
   refine Ya (iV (by simp) fun i d hi=>?_)
   have hg:(x::r)[i]?=some (x::r)[i]:=Ye hi
   rw[hg]
   dsimp only
   refine Ya (ih ((x::r).eraseIdx i) _ _ (by rw[List.length_eraseIdx_of_lt hi];simpa using hl) fun ys d' p=>?_)
   refine Yd (h _ d' ?_)
   refine (List.Perm.cons _ p).trans ?_
   rw[Vd]
   have e:=YN i (x::r)
   refine List.Perm.trans ?_ (List.Perm.of_eq e)
   rw[Zg hi]
   exact Xd.symm
def lw (h:Heap)(I S T:Addr)(ord:List Nat)(i n ep:Nat):Prop:=(∃ o,h.get? I=some o∧o.cls=.type "set_iterator"∧o.data=.fields #[.ref T,.int i 0,.ref S,.int n 0,.int ep 0])∧∃ o c,h.get? T=some o∧o.data=.seq (ord.map fun (j:Nat)=>rawInt (j:Int)).toArray c
def du (es:Ka)(ord:List Nat):List (Int×Value):=ord.filterMap fun j=>es[j]?
theorem lv {es:Ka}{ord:List Nat}(p:ord.Perm (List.range es.size))(i:Nat):(du es ord)[i]?=(ord[i]?).bind fun j=>es[j]?:=by
 unfold du
 have:∀ l:List Nat,(∀ k∈l,k<es.size)→∀ i:Nat,(l.filterMap fun j=>es[j]?)[i]?=(l[i]?).bind fun j=>es[j]?:=by
  intro l
  induction l with
  | nil=>intro _ i;rfl
  | cons k l ih=>
   intro h i
   have hk0:k<es.size:=h k Yc
   have hk:es[k]?=some es[k]:=Yl hk0
   rw[XH hk]
   cases i with
   | zero=>simp[hk]
   | succ i=>simpa using ih (fun j hj=>h j (Yb _ hj)) i
 exact this ord (fun k hk=>by simpa using p.mem_iff.mp hk) i
theorem dE {es:Ka}{ord:List Nat}(p:ord.Perm (List.range es.size)):(du es ord).Perm es.toList:=by
 have z:=p.filterMap fun j=>es[j]?
 rw[filterMap_getElem?_range] at z
 exact z
section
variable {prog:Program} {w:World} {A:Around} {E:Kv} {s:Shared}
variable {S I T:Addr} {es:Ka} {ep:Nat} {t:SetTable} {ord:List Nat}
theorem DrAt.state (K:DrAt w s.heap S es ep t){Q:(Array (Int×Value)×Nat×SetTable)→Shared→Prop}(h:Q (es,ep,t) s):wpAny (model prog w) A (setState S) Q E s:=by
 obtain⟨o,h1,h2,h3⟩:=K.obj
 exact Vb h1 h3 K.fits h
theorem DrAt.entries (K:DrAt w s.heap S es ep t){Q:Array (Int×Value)→Shared→Prop}(h:Q es s):wpAny (model prog w) A (setEntries S) Q E s:=by
 unfold setEntries
 exact Ya (K.state (Yd h))
theorem DrAt.epoch (K:DrAt w s.heap S es ep t){Q:Nat→Shared→Prop}(h:Q ep s):wpAny (model prog w) A (setEpoch S) Q E s:=by
 unfold setEpoch
 exact Ya (K.state (Yd h))
theorem i6 (K:DrAt w s.heap S es ep t)(hb:w.params.followText "set-order"=false)(h2:1<es.size){Q:Kv}
  (q:∀ ord d h',ord.Perm (List.range es.size)→(∀ b o,s.heap.get? b=some o→h'.get? b=some o)→lw h' (s.heap.objs.size+1) S s.heap.objs.size ord 0 es.size ep→Q (.ref (s.heap.objs.size+1)) { s with heap:=h',drawn:=d }):wpAny (model prog w) A (pyIter (.ref S)) Q E s:=by
 obtain⟨o,h1,⟨hc,_,_⟩,h3⟩:=id K.obj
 have hT:s.TypeIs (.ref S) "set":=⟨o,h1,hc⟩
 refine Ve hT Vu (Zn Vu hT cZ ?_ (F.args_set_iter_1 _))
 unfold Builtin.«frozenset.__iter__»
 refine Ya (Ya (m:=slotArgs _ _ _) (Yd (Yd ?_)))
 refine Ya (Ya (K.entries (Yd ?_)))
 refine Ya ?_
 unfold setDrawn
 refine Ya (K.state ?_)
 refine Ya (eE (Yd ?_))
 have hd:(!w.params.followText "set-order"&&(!t.plain&&decide (es.size > 1)))=true:=by
  rw[hb,K.plain,Zm h2];rfl
 show wpAny _ _ (if (!w.params.followText "set-order"&&(!t.plain&&decide (es.size > 1)))=true then _ else _) _ _ s
 rw[hd,Yn rfl]
 refine Ya (o0 es.size (List.range es.size) _ _ (Zk) fun ord d p=>?_)
 have hl:ord.length=es.size:=by rw[p.length_eq,Zk]
 refine Ya (wpAny_newTuple (items:=ord.map fun (j:Nat)=>rawInt (j:Int)) ?_ (by rw[YA,hl];have:=K.small;rw[YY];omega))
 refine Ya ((K.at (h':=s.heap.push _) fun o e=>Yf _ e).epoch (s:={ s with heap:=s.heap.push _,drawn:=d }) ?_)
 refine Ya (ZF (Yd ⟨_,rfl, "set_iterator",_,⟨_,Ys _ rfl,rfl⟩,ag.lookup,?_⟩))
 have hz:(s.heap.push { cls:=.type "tuple",data:=.seq (ord.map fun (j:Nat)=>rawInt (j:Int)).toArray }).objs.size=s.heap.objs.size+1:=Xv ..
 have z:=q ord d _ p (fun b o e=>Yf _ (Yf _ e)) ⟨⟨{ cls:=.type "set_iterator",data:=.fields #[.ref s.heap.objs.size,.int 0 0,.ref S,.int es.size 0,.int ep 0] },by rw[← hz];exact Ys _ rfl,rfl,rfl⟩,⟨_,_,Yf _ (Ys _ rfl),rfl⟩⟩
 rw[← hz] at z
 exact z
theorem nF {i:Nat}(hit:lw s.heap I S T ord i es.size ep)(K:DrAt w s.heap S es ep t)(p:ord.Perm (List.range es.size))(hIT:T≠I){e:Int×Value}(he:(du es ord)[i]?=some e){Q:Ko}
  (q:∀ h',lw h' I S T ord (i+1) es.size ep→(∀ b,b≠I→h'.get? b=s.heap.get? b)→Q (some e.2) { s with heap:=h' }) :
  wpAny (model prog w) A (pyNext (.ref I)) Q E s:=by
 obtain⟨⟨o,ho,hc,hd⟩,oT,cT,hoT,hdT⟩:=id hit
 have hT:s.TypeIs (.ref I) "set_iterator":=⟨o,ho,hc⟩
 rw[lv p] at he
 cases hj:ord[i]? with
 | none=>rw[hj] at he;cases he
 | some j=>
 rw[hj] at he
 have he':es[j]?=some e:=he
 unfold pyNext
 refine Ya (Vn (Xa (name:=Str.ofString "__next__") hT ag (Zn ag hT bi ?_ (bB _))))
 unfold Builtin.«set_iterator.__next__»
 refine Ya (Yd ?_)
 refine Ya (wpAny_fieldsOf ho hd ?_)
 show wpAny _ _ (setEntries S>>=_) _ _ s
 refine Ya (K.entries ?_)
 rw[Yo (by simp)]
 show wpAny _ _ (seqItems? (.ref T)>>=_) _ _ s
 refine Ya (Vf hoT hdT ?_)
 have hp:(ord.map fun (j:Nat)=>rawInt (j:Int)).toArray[((i:Int)).toNat]?=some (rawInt (j:Int)):=by
  rw[Zl]
  simp[hj]
 show wpAny _ _ (match (ord.map fun (j:Nat)=>rawInt (j:Int)).toArray[((i:Int)).toNat]? with | _=>_) _ _ s
 rw[hp]
 show wpAny _ _ (setNextDrawn S ((j:Int).toNat) ((ep:Int).toNat)>>=_) _ _ s
 rw[Zl,Zl]
 unfold setNextDrawn
 refine Ya (Ya (K.state ?_))
 dsimp only
 rw[Yo (by simp)]
 rw[he']
 refine Yd ?_
 refine Ya (Xy ho hd (by simp) ?_)
 have ho3:=YT (Obj.mapFields (·.setIfInBounds 1 (rawInt ((i:Int)+1)))) ho (Xn (Zt hd _))
 have hd3:=Zt hd (·.setIfInBounds 1 (rawInt ((i:Int)+1)))
 refine Yd ⟨_,rfl,Yd (q _ ⟨⟨_,ho3,?_,?_⟩,oT,cT,?_,hdT⟩ fun b hb=>?_)⟩
 ·rw[Obj.cls_mapFields];exact hc
 ·rw[hd3];simp[rawInt]
 ·rw[YJ _ _ _ _ hIT];exact hoT
 ·rw[YJ _ _ _ _ hb]
theorem nq {i:Nat}(nh:A.handled=none)(hit:lw s.heap I S T ord i es.size ep)(K:DrAt w s.heap S es ep t)(hi:ord.length≤i){Q:Ko}
  (q:∀ h',(∀ b o,b≠I→s.heap.get? b=some o→h'.get? b=some o)→Q none { s with heap:=h' }):wpAny (model prog w) A (pyNext (.ref I)) Q E s:=by
 obtain⟨⟨o,ho,hc,hd⟩,oT,cT,hoT,hdT⟩:=id hit
 have hT:s.TypeIs (.ref I) "set_iterator":=⟨o,ho,hc⟩
 unfold pyNext
 refine Ya (Vn (Xa (name:=Str.ofString "__next__") hT ag (Zn ag hT bi ?_ (bB _))))
 unfold Builtin.«set_iterator.__next__»
 refine Ya (Yd ?_)
 refine Ya (wpAny_fieldsOf ho hd ?_)
 show wpAny _ _ (setEntries S>>=_) _ _ s
 refine Ya (K.entries ?_)
 rw[Yo (by simp)]
 show wpAny _ _ (seqItems? (.ref T)>>=_) _ _ s
 refine Ya (Vf hoT hdT ?_)
 have hp:(ord.map fun (j:Nat)=>rawInt (j:Int)).toArray[((i:Int)).toNat]?=none:=by
  rw[Zl]
  simp[hi]
 show wpAny _ _ (match (ord.map fun (j:Nat)=>rawInt (j:Int)).toArray[((i:Int)).toNat]? with | _=>_) _ _ s
 rw[hp]
 show wpAny _ _ (setField (.ref I) 0 (rawInt 0)>>=_) _ _ s
 refine Ya (Xy ho hd (by simp) ?_)
 have ho2:=YT (Obj.mapFields (·.setIfInBounds 0 (rawInt 0))) ho (Xn (Zt hd _))
 have hd2:=Zt hd (·.setIfInBounds 0 (rawInt 0))
 refine Ya (Xy ho2 hd2 (by simp) ?_)
 show wpAny _ _ (newExc (.type "StopIteration") []>>=_) _ _ _
 refine Ya ?_;simp only[newExc,newTuple]
 refine Ya (ZF (Ya (m:=firstArgMember _ _) (wpAny_of_eq (a:=Value.none) (by first | rfl | (simp only[firstArgMember];rfl)) ?_)) (by size_fits))
 refine ZF ?_ (by size_fits);simp only[raiseNew]
 refine Ya (wpAny_handled ?_)
 rw[show A.in1.handled=none from nh]
 refine Ya (Yd (wpAny_throw ?_))
 refine Ya (XB (b:=true) (T := "StopIteration") ⟨_,Ys _ rfl,rfl⟩ fi ?_)
 refine Yd (q _ fun b o hb e=>?_)
 refine Yf _ (Yf _ ?_)
 rw[YJ _ _ _ _ hb,YJ _ _ _ _ hb]
 exact e
theorem lG (nh:A.handled=none)(p:ord.Perm (List.range es.size))(hS:S≠I)(hIT:T≠I):Walks prog w A I [I,S,T] [I] es.size (fun i v=>∃ e,(du es ord)[i]?=some e∧v=e.2)
  (fun i h=>lw h I S T ord i es.size ep∧DrAt w h S es ep t) where
 sub:=fun b hb=>by simp at hb;simp[hb]
 frame:=fun i h h' st hk=>by
  obtain⟨⟨⟨o,h1,h2,h3⟩,oT,cT,h4,h5⟩,K⟩:=st
  exact⟨⟨⟨o,hk I (by simp) o h1,h2,h3⟩,oT,cT,hk T (by simp) oT h4,h5⟩,K.at fun o e=>hk S (by simp) o e⟩
 item:=fun i s Q E hi st hQ=>by
  obtain⟨hit,K⟩:=st
  have hl:(du es ord).length=es.size:=by rw[(dE p).length_eq,Yu]
  have he:(du es ord)[i]?=some (du es ord)[i]:=Ye (by rw[hl];exact hi)
  refine nF hit K p hIT he fun h' hit' hk=>?_
  exact hQ _ h' s.toks ⟨_,he,rfl⟩ ⟨hit',K.at fun o e=>(hk S hS).trans e⟩ fun b o hb e=>(hk b (fun z=>hb (by simp[z]))).trans e
 done:=fun s Q E st hQ=>by
  obtain⟨hit,K⟩:=st
  refine nq nh hit K (by rw[p.length_eq,Zk];exact Yw _) fun h' hk=>?_
  exact hQ h' s.toks fun b o hb e=>hk b o (fun z=>hb (by simp[z])) e
 self:=fun i s Q E st hQ=>by
  obtain⟨⟨⟨o,h1,h2,h3⟩,_⟩,K⟩:=st
  have hT:s.TypeIs (.ref I) "set_iterator":=⟨o,h1,h2⟩
  refine Ve hT bE (Zn bE hT cM ?_ (cY _))
  show wpAny _ _ (ret (.ref I)) _ _ s
  exact Yd ⟨_,rfl, "set_iterator",_,hT,ag.lookup,hQ⟩
end
section
variable {prog:Program} {w:World} {A:Around} {E:Kv} {s:Shared}
variable {S I T:Addr} {es:Ka} {ep:Nat} {t:SetTable}
theorem iQ {ord:List Nat}{acc:Array Value}(p:ord.Perm (List.range es.size))(h:ItemsOf (fun i v=>∃ e,(du es ord)[i]?=some e∧v=e.2) acc es.size):acc.toList=(du es ord).map (·.2):=by
 obtain⟨h1,h2⟩:=h
 have hl:(du es ord).length=es.size:=by rw[(dE p).length_eq,Yu]
 apply ZT
 intro i
 rw[YS,YZ]
 by_cases hi:i<acc.size
 ·have e:=Yl hi
  obtain⟨x,q1,q2⟩:=h2 i _ e
  rw[e,q1,q2];rfl
 ·rw[Xj (by omega),ZA (by omega)];rfl
theorem oe (K:DrAt w s.heap S es ep t){Q:Kb}(h:Q false s):wpAny (model prog w) A (Builtin.List.listLengthHint (.ref S)) Q E s:=by
 obtain⟨o,h1,⟨h2,_,_⟩,h3⟩:=id K.obj
 have hT:s.TypeIs (.ref S) "set":=⟨o,h1,h2⟩
 unfold Builtin.List.listLengthHint
 refine Ya (Xm hT F.slot_set_len.lookup ?_)
 generalize hid:("set.__len__":String)=id0
 wp_delta
 rw[show splitId id0=some ("set", "__len__") from by subst hid;decide +kernel]
 subst hid
 refine Ya (XB (T := "set") (b:=true) hT sub_set_self ?_)
 refine Xo (fun z=>absurd z (by decide)) (fun _=>?_)
 refine Xo (fun _=>?_) (fun z=>absurd (by decide +kernel) z)
 refine Ya (Vy hT ?_)
 exact Yd h
theorem g6 {R:Kr}{L:Addr}{res:Value}{c₀:Nat}(nh:A.handled=none)(K:DrAt w s.heap S es ep t)(hb:w.params.followText "set-order"=false)(h2:1<es.size)(hLS:L≠S)(hL:s.heap.get? L=some { cls:=.type "list",data:=.seq #[] c₀ })
  (hR:∀ ord h' d tk acc' c',ord.Perm (List.range es.size)→(∀ b o,b≠L→s.heap.get? b=some o→h'.get? b=some o)→h'.get? L=some { cls:=.type "list",dict:=none,data:=.seq acc' c',slots:=#[] }→acc'.toList=(du es ord).map (·.2)→R (.ok (.ret res)) { s with heap:=h',drawn:=d,toks:=tk }) :
  wpAny (model prog w) A.in1 (Builtin.List.listExtendWith (.ref L) (.ref S) res)
   (fun fin s'=>match fin with | .done f=>R (.ok f) s' | .again c'=>c'.quiet=true∧codeAny (model prog w) A c' R s') (fun e s'=>R (.error e) s') s:=by
 obtain⟨o,h1,⟨hc,_,_⟩,h3⟩:=id K.obj
 have hT:s.TypeIs (.ref S) "set":=⟨o,h1,hc⟩
 have hl:es.size≤sizeLine:=by have:=K.small;rw[YY];omega
 unfold Builtin.List.listExtendWith
 refine Ya (Vy hT ?_)
 have g1:Builtin.List.listSameRef (.ref L) (.ref S)=false:=by simp[Builtin.List.listSameRef,hLS]
 have g2:(Value.type "set" == Value.type "list")=false:=by decide
 have g3:(Value.type "set" == Value.type "tuple")=false:=by decide
 simp only[g1,g2,g3,Bool.or_false,Zq,Vm]
 refine Ya (i6 K hb h2 fun ord d hp1 p k1 hit=>?_)
 have hSlt:S<s.heap.objs.size:=Yp h1
 have hLlt:L<s.heap.objs.size:=Yp hL
 have K1:DrAt w hp1 S es ep t:=K.at fun o e=>k1 S o e
 have hL1:hp1.get? L=some { cls:=.type "list",data:=.seq #[] c₀ }:=k1 L _ hL
 refine Ya (Zy (oe (s:={ s with heap:=hp1,drawn:=d }) K1 ?_))
 refine Xo (fun _=>?_) (fun z=>absurd (by decide +kernel) z)
 refine Ya (Xf (Ya ?_))
 show wpAny _ _ (updateSeq L (·.push .none)>>=fun _=>updateSeq L (·.pop)) _ _ _
 refine Ya (Vv hL1 rfl ?_)
 have hL2:=YT (Obj.mapSeq (·.push Value.none)) hL1 rfl
 refine Vv (hz:=by seq_fits) hL2 rfl ?_
 have hL3:=YT (Obj.mapSeq (·.pop)) hL2 rfl
 have oth:∀ b,b≠L→((hp1.update L (Obj.mapSeq (·.push Value.none))).update L (Obj.mapSeq (·.pop))).get? b=hp1.get? b:=fun b hb=>by
  rw[YJ _ _ _ _ hb,YJ _ _ _ _ hb]
 have hIL:s.heap.objs.size+1≠L:=ZE (Zf hLlt)
 have hTL:s.heap.objs.size≠L:=ZE hLlt
 refine Yd ⟨Vo F.plain_extend_loop _,?_⟩
 have W:=(lG (prog:=prog) (w:=w) (A:=A.in1) (S:=S) (I:=s.heap.objs.size+1) (T:=s.heap.objs.size) (es:=es) (ep:=ep) (t:=t) (ord:=ord) (by simpa using nh) p (YC (Zf hSlt)) (YC (Vh _))).toS
 refine codeAny_extend_loopS W hl L (by simp[Vz hIL,Vz hTL,hLS]) res es.size 0 _ #[] _ (Nat.sub_zero _) (Za _) ⟨?_,K1.at fun o e=>(oth S (Vz hLS)).trans e⟩ hL3 (ItemsOf.nil _) fun s' acc' c' hm hS' hacc=>?_
 ·obtain⟨⟨o',q1,q2,q3⟩,oT,cT,q4,q5⟩:=hit
  exact⟨⟨o',(oth _ hIL).trans q1,q2,q3⟩,oT,cT,(oth _ hTL).trans q4,q5⟩
 ·rw[Moved.eq_with hm]
  refine hR ord s'.heap d s'.toks acc' c' p (fun b o hb e=>hm.heap b o (fun z=>?_) ((oth b hb).trans (k1 b o e))) hS' (iQ p hacc)
  rcases YF.mp z with z | z
  ·exact hb z
  ·have z':b=s.heap.objs.size+1:=by simpa using z
   have hlt:=Yp e
   rw[z'] at hlt
   exact absurd (Nat.lt_trans (Vh _) hlt) (Zh _)
theorem fE (nh:A.handled=none)(K:DrAt w s.heap S es ep t)(hb:w.params.followText "set-order"=false)(h2:1<es.size){Q:Kl}
  (q:∀ ord h' d tk,ord.Perm (List.range es.size)→(∀ b o,s.heap.get? b=some o→h'.get? b=some o)→Q ((du es ord).map (·.2)) { s with heap:=h',drawn:=d,toks:=tk }):wpAny (model prog w) A (collect (.ref S)) Q E s:=by
 obtain⟨o,h1,_,h3⟩:=id K.obj
 have hlt:S<s.heap.objs.size:=Yp h1
 unfold collect
 refine Ya (wpAny_runValue (Zr entry_proto_collect' ?_))
 refine Ya (m:=newList []) (wpAny_newList (Yd ⟨Code.quiet_builtin _ (by decide +kernel),Zr entry_list_iadd' ?_⟩))
 rw[Zv (show plainId "list.__iadd__"=true by decide +kernel) ⟨[.ref s.heap.objs.size,.ref S],[]⟩]
 refine g6 (R:=fun r s'=>match r with
  | Except.ok (Flow.ret v)=>wpAny (model prog w) A (match v with
   | Value.ref a=>(load a>>=fun o=>match o.data with
    | Data.seq xs _=>pure xs.toList
    | _=>unsupported "internal:collect")
   | _=>unsupported "internal:collect") Q E s'
  | Except.ok _=>False
  | Except.error e=>E e s') (s:={ s with heap:=s.heap.push (seqObj "list" #[] 0) }) (A:=A) (L:=s.heap.objs.size) (res:=.ref s.heap.objs.size) (c₀:=0) ?_ (K.at fun o e=>Yf _ e) hb h2 (ZE hlt) (Ys _ rfl) fun ord h' d tk acc' c' p hk hL' hacc=>?_
 ·simpa using nh
 ·refine Ya (wpAny_load hL' ?_)
  show wpAny _ _ (pure acc'.toList) _ _ _
  rw[hacc]
  exact Yd (q ord h' d tk p fun b o e=>hk b o (YC (Yp e)) (Yf _ e))
end
theorem Inv.keptD {X:Cx}{pz:Kp}{σ:List (Option V)}{H:Hp}{s:Shared}{h':Heap}{d':Drawn}{t':Nat}(I:Inv X pz σ H s)(k:∀ b u,s.heap.get? b=some u→h'.get? b=some u):Inv X pz σ H { s with heap:=h',drawn:=d',toks:=t' }:=by
 refine I.step (g':=s.gens) (d':=d') (ch:=[]) (fun _ z=>nomatch z) (fun b o _ _ _ e _=>k b o e) (fun b o _ _ _ e _=>⟨o.slots,k b o e⟩) (fun _ _ _ _ n=>n) (fun b o _ e=>⟨o,k b o e⟩) (fun _ _ e=>e) (fun _ _ _ e=>e) (fun b ps e=>⟨#[],by rw[e];simp⟩) (fun m hm=>?_) (I.hok.kept k) I.bare
 obtain⟨o,es,ep,ho,r⟩:=hm
 exact⟨o,es,ep,k _ o ho,r⟩
theorem iN {w:World}{h:Heap}{a:Addr}{es:Ka}{ep:Nat}{t:SetTable}(ho:∃ o,h.get? a=some o∧o.ExactSet∧o.data=.set es ep t)(fits:t.fits es.size=true)(rise:Rising t.place)(led:w.params.followText "set-order"=false→t.led=true)(sm:es.size≤1000) :
  SObj w h a es ep t∨(DrAt w h a es ep t∧w.params.followText "set-order"=false∧1<es.size):=by
 obtain⟨o,h1,h2,h3⟩:=ho
 have hf:=fits
 simp only[SetTable.fits,Yq,beq_iff_eq,YH] at hf
 by_cases z:w.params.followText "set-order"=false∧1<es.size∧t.plain=false
 ·exact .inr ⟨⟨⟨o,h1,h2,h3⟩,fits,z.2.2,sm⟩,z.1,z.2.1⟩
 ·refine .inl ⟨⟨o,h1,h2.1,h3⟩,fits,hf.1,fun _=>rise,led,fun y=>?_⟩
  cases hp:t.plain with
  | true=>rfl
  | false=>rw[YR fun q=>z ⟨y,q,hp⟩];rfl
end L2
namespace L2
open PySem PySem.Spec PyProof.Rows PySem.W PySem.SetTable
def jk (w:World)(a:Addr)(vs:List V):Heap→Prop:=fun h=>∃ es ep t,(SObj w h a es ep t∨(DrAt w h a es ep t∧w.params.followText "set-order"=false∧1<es.size))∧es.size≤76∧Vals vs (es.toList.map (·.2))
def a_ (ds:List D):Bool:=decide (ds.length<70)&&ds.all gh
theorem fD {ds:List D}(h:a_ ds=true):ds.length<70∧∀ d∈ds,gh d=true:=by
 unfold a_ at h
 rw[Yq,YH] at h
 exact⟨h.1,fun d m=>Yj.mp h.2 d m⟩
def s_:D→Bool
 | .str _=>true
 | _=>false
def tQ:D→Bool
 | .int _=>true
 | _=>false
def bg (ds:List D):Bool:=decide (ds.length<70)&&ds.all s_
theorem eU {ds:List D}(h:bg ds=true):ds.length<70∧∀ d∈ds,∃ x,d=.str x:=by
 unfold bg at h
 rw[Yq,YH] at h
 refine⟨h.1,fun d m=>?_⟩
 have z:=Yj.mp h.2 d m
 cases d with
 | str x=>exact⟨x,rfl⟩
 | _=>cases z
def bG (ds:List D):Bool:=decide (ds.length<70)&&ds.all tQ
theorem fG {ds:List D}(h:bG ds=true):ds.length<70∧∀ d∈ds,∃ x,d=.int x:=by
 unfold bG at h
 rw[Yq,YH] at h
 refine⟨h.1,fun d m=>?_⟩
 have z:=Yj.mp h.2 d m
 cases d with
 | int x=>exact⟨x,rfl⟩
 | _=>cases z
theorem fQ {K:Kq}{H:Hp}:∀ (us:List Value) (ds:List D),us.length=ds.length→(∀ (i:Nat) u d,us[i]?=some u→ds[i]?=some d→∃ x,RelV x u∧Rep K H x d)→∃ vs,Vals vs us∧Reps K H vs ds:=by
 intro us
 induction us with
 | nil=>
  intro ds hl _
  obtain rfl:ds=[]:=YW.mp hl.symm
  exact⟨[],.nil,.nil⟩
 | cons u us ih=>
  intro ds hl h
  cases ds with
  | nil=>cases hl
  | cons d ds=>
   obtain⟨x,h1,h2⟩:=h 0 u d rfl rfl
   obtain⟨vs,h3,h4⟩:=ih ds (Nat.succ.inj hl) fun i u' d' e1 e2=>h (i+1) u' d' e1 e2
   exact⟨x::vs,.cons h1 h3,.cons h2 h4⟩
theorem kB {K:Kq}{H:Hp}{us us0:List Value}(p:us.Perm us0):∀ {vs:List V} {ds:List D},Vals vs us0→Reps K H vs ds→∃ vs2 ds2,Vals vs2 us∧Reps K H vs2 ds2∧ds2.Perm ds:=by
 induction p with
 | nil=>
  intro vs ds r1 r2
  exact⟨vs,ds,r1,r2,Xg _⟩
 | cons x _ ih=>
  intro vs ds r1 r2
  cases r1 with
  | cons a1 a2=>
   cases r2 with
   | cons b1 b2=>
    obtain⟨vs2,ds2,h1,h2,h3⟩:=ih a2 b2
    exact⟨_,_,.cons a1 h1,.cons b1 h2,h3.cons _⟩
 | swap x y l=>
  intro vs ds r1 r2
  cases r1 with
  | cons a1 a2=>
   cases a2 with
   | cons a2 a3=>
    cases r2 with
    | cons b1 b2=>
     cases b2 with
     | cons b2 b3=>exact⟨_,_,.cons a2 (.cons a1 a3),.cons b2 (.cons b1 b3),List.Perm.swap _ _ _⟩
 | trans _ _ ih1 ih2=>
  intro vs ds r1 r2
  obtain⟨vs2,ds2,h1,h2,h3⟩:=ih2 r1 r2
  obtain⟨vs3,ds3,h4,h5,h6⟩:=ih1 h1 h2
  exact⟨vs3,ds3,h4,h5,h6.trans h3⟩
theorem eZ {α:Type}{p:α→Bool}{as bs:List α}(h:as.Perm bs)(hb:bs.all p=true):as.all p=true:=Yj.mpr fun x m=>Yj.mp hb x (h.mem_iff.mp m)
theorem dL {as bs:List D}(h:as.Perm bs)(ok:bw bs=true):bw as=true:=by
 unfold bw at ok ⊢
 simp only[Yq,YH] at ok ⊢
 obtain⟨⟨⟨⟨h1,h2⟩,h3⟩,h4⟩,h5⟩:=ok
 refine⟨⟨⟨⟨by rw[h.length_eq];exact h1,eZ h h2⟩,?_⟩,eZ h h4⟩,eZ h h5⟩
 refine Yj.mpr fun x hx=>Yj.mpr fun y hy=>?_
 exact Yj.mp (Yj.mp h3 x (h.mem_iff.mp hx)) y (h.mem_iff.mp hy)
section
variable {X:Cx}
theorem kx (hu:X.A.units+80<cLine)(hcalm:X.calm=true):CallR X (.type "set") (fun xs H Q=>∃ l vs ds F0,xs=[.ref l]∧SqL X.K H l vs∧Same F0 H∧Reps X.K F0 vs ds∧a_ ds=true ∧
  ∀ a vs' ds',H a=none→ds'.Perm (al ds)→Reps X.K F0 vs' ds'→Q (.ref a) (upd H a (.ext (jk X.w a vs')))):=by
 intro pz s σ H xs us Q I r h
 obtain⟨l,vs,ds,F0,rfl,hq,hF,hr,ok,q⟩:=h
 obtain⟨u,rfl,ru⟩:=dQ r
 cases ru
 obtain⟨hlen,hk⟩:=fD ok
 obtain⟨its,rv,pl,hz⟩:=I.list hq
 have l1:=rv.length
 have l2:=hr.length
 refine fB (Pv:=fun v d=>∃ x,RelV x v∧Rep X.K F0 x d) (ds:=ds) (I.ok.hd hcalm) pl.isList (fun i v hv=>?_) (by simp;omega) (by simp;omega) hu fun h' tk S kp=>?_
 ·have hv':its[i]?=some v:=by simpa using hv
  have hi:i<vs.length:=by rw[l1];exact (Yi.mp hv').1
  obtain⟨u',e1,e2⟩:=rv.get (Ye hi)
  rw[hv'] at e1
  cases e1
  obtain⟨d,e3,e4⟩:=hr.getV (Ye hi)
  have kd:=hk d (YG e3)
  exact⟨d,e3,⟨kd,Rep.reads I 8 (e4.same hF) (aq kd).2.1 e2⟩,_,e2,e4⟩
 ·obtain⟨ds',⟨es,t,S,sz,ld⟩,p⟩:=S
  obtain⟨vs',h1,h2⟩:=fQ (K:=X.K) (H:=F0) (es.toList.map (·.2)) ds' (by rw[YA,Yu,S.len]) fun i u d e1 e2=>by
   rw[YZ,YS] at e1
   cases z:es[i]? with
   | none=>rw[z] at e1;cases e1
   | some e=>rw[z] at e1;cases e1;exact S.pv i e d z e2
  obtain⟨o,ep,g1,g2,g3⟩:=S.obj
  have hsz:es.size≤76:=by rcases sz with⟨_,z⟩ | ⟨_,z⟩ | ⟨_,z⟩ <;> omega
  have hK:=iN (ep:=ep) ⟨o,g1,g2,g3⟩ (S.tab.fits S.siz) S.tab.rise ld (by omega)
  refine⟨.ref s.heap.objs.size,_,I.laid (o:=.ext (jk X.w s.heap.objs.size vs')) (t':=tk) kp (Yw _) ⟨⟨es,ep,t,hK,hsz,h1⟩,⟨o,g1⟩,fun ha hb hφ hk'=>?_⟩,rfl,q _ vs' ds' (I.hok.fresh (Yw _)) p h2⟩
  obtain⟨es',ep',t',K',z1,z2⟩:=hφ
  rcases K' with K' | ⟨K',y1,y2⟩
  ·exact⟨es',ep',t',.inl (K'.at hk'),z1,z2⟩
  ·exact⟨es',ep',t',.inr ⟨K'.at hk',y1,y2⟩,z1,z2⟩
theorem fM (hcalm:X.calm=true){Kt:Type}[DecidableEq Kt]{knd:PySem.KeyKind X.prog X.w Kt}{f:Kt→D}(C:Sca knd f)(hval:∀ {F0:Hp} {x:V} {u:Value} {k:Kt},Rep X.K F0 x (f k)→RelV x u→knd.is k u=true)(hback:∀ {F0:Hp} {u:Value} {k:Kt},knd.is k u=true→∃ x,RelV x u∧Rep X.K F0 x (f k)) :
  CallR X (.type "set") (fun xs H Q=>∃ l vs ds F0,xs=[.ref l]∧SqL X.K H l vs∧Same F0 H∧Reps X.K F0 vs ds∧(ds.length<70∧∀ d∈ds,∃ k,d=f k) ∧
  ∀ a vs' ds',H a=none→ds'.Perm (al ds)→Reps X.K F0 vs' ds'→Q (.ref a) (upd H a (.ext (jk X.w a vs')))):=by
 intro pz s σ H xs us Q I r h
 obtain⟨l,vs,ds,F0,rfl,hq,hF,hr,⟨hlen,hk⟩,q⟩:=h
 obtain⟨u,rfl,ru⟩:=dQ r
 cases ru
 obtain⟨its,rv,pl,hz⟩:=I.list hq
 have l1:=rv.length
 have l2:=hr.length
 refine fu C (ds:=ds) (I.ok.hd hcalm) pl.isList (fun i v hv=>?_) (by simp;omega) (by simp;omega) fun h' tk S kp=>?_
 ·have hv':its[i]?=some v:=by simpa using hv
  have hi:i<vs.length:=by rw[l1];exact (Yi.mp hv').1
  obtain⟨u',e1,e2⟩:=rv.get (Ye hi)
  rw[hv'] at e1
  cases e1
  obtain⟨d,e3,e4⟩:=hr.getV (Ye hi)
  obtain⟨k,rfl⟩:=hk d (YG e3)
  exact⟨k,hval e4 e2,e3⟩
 ·obtain⟨es,ep,t,K,p⟩:=S
  obtain⟨vs',h1,h2⟩:=fQ (K:=X.K) (H:=F0) (es.toList.map (·.2)) (es.toList.map enD) (by rw[YA,YA]) fun i u d e1 e2=>by
   rw[YZ] at e1 e2
   cases z:es.toList[i]? with
   | none=>rw[z] at e1;cases e1
   | some e=>
    rw[z] at e1 e2
    obtain⟨k,y1,y2⟩:=K.its e (YG z)
    cases e1
    cases e2
    rw[show enD e=f k from C.en _ _ y1]
    exact hback y1
  obtain⟨o,g1,g2,g3⟩:=K.obj
  have hsz:es.size≤76:=by
   have z:=p.length_eq
   rw[YA,Yu] at z
   have:=cB ds
   omega
  have hK:=iN (ep:=ep) ⟨o,g1,g2,g3⟩ K.fits K.rise K.led (by omega)
  refine⟨.ref s.heap.objs.size,_,I.laid (o:=.ext (jk X.w s.heap.objs.size vs')) (t':=tk) kp (Yw _) ⟨⟨es,ep,t,hK,hsz,h1⟩,⟨o,g1⟩,fun ha hb hφ hk'=>?_⟩,rfl,q _ vs' _ (I.hok.fresh (Yw _)) p h2⟩
  obtain⟨es',ep',t',K',z1,z2⟩:=hφ
  rcases K' with K' | ⟨K',y1,y2⟩
  ·exact⟨es',ep',t',.inl (K'.at hk'),z1,z2⟩
  ·exact⟨es',ep',t',.inr ⟨K'.at hk',y1,y2⟩,z1,z2⟩
theorem kL (hu:X.A.units+80<cLine)(hcalm:X.calm=true):CallR X (.type "set") (fun xs H Q=>∃ l vs ds F0,xs=[.ref l]∧SqL X.K H l vs∧Same F0 H∧Reps X.K F0 vs ds∧(a_ ds=true∨bg ds=true∨bG ds=true) ∧
  ∀ a vs' ds',H a=none→ds'.Perm (al ds)→Reps X.K F0 vs' ds'→Q (.ref a) (upd H a (.ext (jk X.w a vs')))):=by
 intro pz s σ H xs us Q I r h
 obtain⟨l,vs,ds,F0,e1,e2,e3,e4,ok,e5⟩:=h
 rcases ok with ok | ok | ok
 ·exact kx hu hcalm pz s σ H xs us Q I r ⟨l,vs,ds,F0,e1,e2,e3,e4,ok,e5⟩
 ·refine fM hcalm (nA (prog:=X.prog) (w:=X.w)) (fun rx ru=>?_) (fun {F0 u k} z=>?_) pz s σ H xs us Q I r ⟨l,vs,ds,F0,e1,e2,e3,e4,eU ok,e5⟩
  ·cases rx
   obtain⟨tx,rfl⟩:=ru
   show Value.isStrOf _ (.str _ tx)=true
   simp[Value.isStrOf]
  ·have z':Value.isStrOf k u=true:=z
   cases u <;> simp[Value.isStrOf] at z'
   subst z'
   exact⟨.str _,⟨_,rfl⟩,.str⟩
 ·refine fM hcalm (oS (prog:=X.prog) (w:=X.w)) (fun rx ru=>?_) (fun {F0 u k} z=>?_) pz s σ H xs us Q I r ⟨l,vs,ds,F0,e1,e2,e3,e4,fG ok,e5⟩
  ·cases rx
   obtain⟨tx,rfl⟩:=ru
   exact intKind_is _ _ _ _
  ·obtain⟨tk,rfl⟩:=XV (show Value.isInt k u=true from z)
   exact⟨.int _,⟨_,rfl⟩,.int⟩
theorem gL (hu:X.A.units+64<cLine)(hcalm:X.calm=true):CallR X (.builtin "sorted") (fun xs H Q=>∃ a vs ds F0,xs=[.ref a]∧H a=some (.ext (jk X.w a vs))∧Same F0 H∧Reps X.K F0 vs ds∧bw ds=true ∧
  ∀ l ws,H l=none→Reps X.K F0 ws (aL ds)→Q (.ref l) (upd H l (.lst ws))):=by
 intro pz s σ H xs us Q I r h
 obtain⟨a,vs,ds,F0,rfl,hH,hF,hr,ok,q⟩:=h
 obtain⟨u,rfl,ru⟩:=dQ r
 cases ru
 obtain⟨⟨es,ep,t,KK,hsz,rv⟩,_⟩:=I.hok a _ hH
 have fin:∀ (us:List Value) (h':Heap) (d:Drawn) (tk:Nat),us.Perm (es.toList.map (·.2))→(∀ b o,s.heap.get? b=some o→h'.get? b=some o)→gH X.prog X.w X.A (EP X pz σ Q) us { s with heap:=h',drawn:=d,toks:=tk }:=by
  intro us h' d tk p kp
  obtain⟨vs2,ds2,h1,h2,h3⟩:=kB p rv hr
  obtain⟨_,hc,_,_⟩:=bL ok
  have es2:aL ds2=aL ds:=eX h3 hc
  refine lM (I.keptD (d':=d) (t':=tk) kp) (h2.same hF) h1 (dL h3 ok) hu fun l pp s' hl b1 b2 b3 I'=>⟨.ref l,_,I',rfl,q l _ hl ?_⟩
  rw[← es2]
  by_cases hn:ds2=[]
  ·subst hn
   have:pp=[]:=YW.mp b2
   rw[this]
   exact .nil
  ·rw[← b3]
   exact h2.perm hn pp b1
 rcases KK with K | ⟨K,hb,h2⟩
 ·exact dW (iw (by have:=I.ok.hd hcalm;simpa using this) K (by rw[YY];omega) fun h' tk kp=>fin _ h' s.drawn tk ((fY X.w a ep es).map _) kp)
 ·exact dW (fE (by have:=I.ok.hd hcalm;simpa using this) K hb h2 fun ord h' d tk p kp=>fin _ h' d tk ((dE p).map _) kp)
variable {e:Expr} {p p2 pos pos2:Pos}
noncomputable def b5 (fa:Dd):DF→Option (List D):=fun ρ=>match fa ρ with
 | some (.lst ds)=>if (a_ ds=true∨bg ds=true∨bG ds=true)∧bw (al ds)=true then some (aL (al ds)) else none
 | _=>none
theorem g_ {fa:Dd}(hu:X.A.units+80<cLine)(hcalm:X.calm=true)(hg:Gl X "sorted")(hm:X.mg "sorted"=none)(hg2:Gl X "set")(hm2:X.mg "set"=none)(ha:PDR X e fa)
  (hs:starEach [e] X.env=[(false,eval e X.env)]:=by rfl) (hs2:starEach [.Call (.Name "set" p2) [e] [] pos2] X.env=[(false,eval (.Call (.Name "set" p2) [e] [] pos2) X.env)]:=by rfl)
  (hpl:(backTo pos (starEach [] X.env)).any (·.1)=false:=by rfl) (hpl2:(backTo pos2 (starEach [] X.env)).any (·.1)=false:=by rfl) :
  PDO X (.Call (.Name "sorted" p) [.Call (.Name "set" p2) [e] [] pos2] [] pos) (asL (b5 fa)):=
 (cV (gL (by omega) hcalm) hg hm iO (aW (fN (kL hu hcalm) hg2 hm2 me (aW ha bS hs) (by decide) (by decide) hs hpl2) bS hs2) (by decide) (by decide) hs2 hpl).imp fun σ H Q=>un7 fun P F ρ ob hf I k=>by
  unfold asL b5 at hf
  cases ha:fa ρ with
  | none=>rw[ha] at hf;cases hf
  | some dx=>
  rw[ha] at hf
  cases dx with
  | lst ds=>
   dsimp only at hf
   split at hf
   ·rename_i ok
    cases hf
    refine⟨P,F,ρ,_,ha,I,fun x F1 H1 e1 rx=>?_⟩
    have I1:=I.evo e1
    obtain⟨l,vs,rfl,h1,h2⟩:=cG I1 rx
    refine⟨l,vs,ds,F1,rfl,h1,I1.sub,h2,ok.1,fun a vs' ds' na pm r'=>?_⟩
    have e2:Evo P F1 H1 F1 (upd H1 a (.ext (jk X.w a vs'))):=Evo.side e1.hp na
    obtain⟨_,hc,_,_⟩:=bL ok.2
    refine⟨a,vs',ds',F1,rfl,aD,e2.hp.sub,r',dL pm ok.2,fun l2 ws nl rw'=>?_⟩
    rw[eX pm hc] at rw'
    exact k l2 F1 _ ((e1.trans e2).trans (Evo.side e2.hp nl)) ⟨⟨(e1.trans e2).back I.toDHp nl,(e2.hp.free nl).1⟩,_,aD,rw'⟩
   ·cases hf
  | _=>cases hf
end
end L2
namespace L2
open PySem PySem.Spec PyProof.Rows
section
variable {X:Cx} {pz:Kp} {σ:List (Option V)} {H:Hp} {s:Shared} {h':Heap}
end
section
variable {X:Cx} {l:Expr} {elts:List Expr} {kk:Nat} {tpos pos p:Pos}
end
section
variable {prog:Program} {w:World} {A:Around} {E:Kv} {s:Shared}
end
section
variable {prog:Program} {w:World} {A:Around} {E:Kv} {s:Shared}
end
section
variable {prog:Program} {w:World} {A:Around} {E:Kv} {s:Shared}
end
section
variable {X:Cx} {e1 e2:Expr} {elts:List Expr} {kk:Nat} {tpos pos p:Pos}
def n5 (as bs:List D):List D:=(as.zip bs).map fun x=>.tup [x.1,x.2]
def rN (f g:Dd):DF→Option (List D):=fun ρ=>match f ρ,g ρ with
 | some (.lst as),some (.lst bs)=>if as.length=bs.length then some (n5 as bs) else none
 | some (.tup as),some (.tup bs)=>if as.length=bs.length then some (n5 as bs) else none
 | _,_=>none
end
section
variable {prog:Program} {w:World} {A:Around} {s:Shared} {R:Kr}
variable {I:Addr} {fp wr:List Addr} {n:Nat} {P:Nat→Value→Prop} {St:Nat→Heap→Prop} {T:String}
end
section
variable {prog:Program} {w:World} {A:Around} {E:Kv} {s:Shared}
variable {I:Addr} {fp wr:List Addr} {n:Nat} {P:Nat→Value→Prop} {St:Nat→Heap→Prop} {T:String}
end
section
variable {prog:Program} {w:World} {A:Around} {E:Kv} {s:Shared}
end
section
variable {X:Cx} {e a:Expr} {p p' p2 pos cpos rpos:Pos} {t:TA}
variable {fa:Dd}
end
section
variable {X:Cx} {a b:Expr} {pos:Pos} {fa fb:Dd}
end
theorem Room.h80 {k:Nat}{A:Around}(r:Room k A):A.units+80<cLine:=by have:=r.un;omega
theorem pY {X:Cx}{scope scope2:Scope}{N:List Str}{s:Shared}{H:Hp}{fp:List Addr}{pz:Kp}(h:nZ scope scope2=true):BlkScope (blk X scope N s H fp pz) scope2:=by
 unfold nZ at h
 simp only[Yq,YH] at h
 obtain⟨⟨h1,h2⟩,h3⟩:=h
 refine⟨by simpa using h1,h2,fun x hx hk=>?_⟩
 have q:=Yj.mp h3 x hx
 rw[hk] at q
 have e2:(blk X scope N s H fp pz).env.kindOf x.1=(scope.names.lookup x.1).map fun k=>if (k == NameKind.free&&X.env.scope.kind == .function&&X.env.kindOf x.1 == some .cell) then NameKind.cell else k:=cg scope.names
 rw[e2]
 have q':scope.names.lookup x.1=some .cell∨scope.names.lookup x.1=some .free:=by simpa using q
 rcases q' with z | z
 ·rw[z];exact .inl rfl
 ·rw[z,ZG]
  split
  ·exact .inl rfl
  ·exact .inr rfl
noncomputable def gW (acc:List D)(d:D):List D:=open Classical in if d∈acc then acc else acc++[d]
theorem lx (ds:List D):∀ acc:List D,(∀ d,d∈ds.foldl gW acc↔d∈acc∨d∈ds)∧(acc.Nodup→(ds.foldl gW acc).Nodup):=by
 induction ds with
 | nil=>exact fun acc=>⟨fun d=>by simp,fun h=>h⟩
 | cons x r ih=>
  intro acc
  rw[Vt]
  by_cases hx:x∈acc
  ·rw[show gW acc x=acc from Yn hx]
   obtain⟨h1,h2⟩:=ih acc
   refine⟨fun d=>(h1 d).trans ⟨fun z=>z.imp id (Yb _),fun z=>?_⟩,h2⟩
   rcases z with z | z
   ·exact .inl z
   ·rcases YF.mp z with rfl | z
    ·exact .inl hx
    ·exact .inr z
  ·rw[show gW acc x=acc++[x] from Yo hx]
   obtain⟨h1,h2⟩:=ih (acc++[x])
   refine⟨fun d=>(h1 d).trans ?_,fun nd=>h2 (List.nodup_append.mpr ⟨nd,by simp,fun a ha b hb=>?_⟩)⟩
   ·rw[Yz,YD,YF]
    constructor
    ·rintro ((z | z) | z)
     ·exact .inl z
     ·exact .inr (.inl z)
     ·exact .inr (.inr z)
    ·rintro (z | z | z)
     ·exact .inl (.inl z)
     ·exact .inl (.inr z)
     ·exact .inr z
   ·rw[YD] at hb
    subst hb
    rintro rfl
    exact hx ha
theorem cy {ds:List D}{d:D}:d∈al ds↔d∈ds:=by
 have:=(lx ds []).1 d
 rw[show al ds=ds.foldl gW [] from rfl,this]
 simp
theorem i8 (ds:List D):(al ds).Nodup:=(lx ds []).2 List.nodup_nil
def rkD (L:List D)(d:D):Nat:=(L.filter fun x=>ltD x d).length
theorem lj {L M:List D}(p:L.Perm M)(d:D):rkD L d=rkD M d:=(p.filter _).length_eq
theorem iG {n:Nat}{d:D}:∀ {L:List D},Cmps n L→L.Pairwise (fun a b=>ltD b a=false)→L.Nodup→d∈L→d3 d L=some (rkD L d)
 | [],_,_,_,h=>by cases h
 | x::r,hc,hs,nd,h=>by
  have hx:okN n x=true:=hc.1 x Yc
  obtain⟨s1,s2⟩:=YV.mp hs
  obtain⟨n1,n2⟩:=ZR.mp nd
  have irr:ltD x x=false:=by
   cases q:ltD x x with
   | false=>rfl
   | true=>have:=(cq n x x hx hx (hc.2 x Yc x Yc)).as q;rw[q] at this;cases this
  unfold d3 rkD
  rcases YF.mp h with rfl | hr
  ·rw[Yn ((aX _ _ (hc.2 _ Yc _ Yc)).mpr rfl),List.filter_cons_of_neg (by rw[irr];exact Yg)]
   rw[List.filter_eq_nil_iff.mpr fun y hy=>by rw[s1 y hy];exact Yg]
   rfl
  ·have hne:x≠d:=fun z=>n1 (z ▸ hr)
   have hm:d∈x::r:=h
   have hlt:ltD x d=true:=by
    cases q:ltD x d with
    | true=>rfl
    | false=>exact absurd ((cq n x d hx (hc.1 d hm) (hc.2 x Yc d hm)).an q (s1 d hr)) hne
   rw[Yo fun z=>hne ((aX _ _ (hc.2 x Yc d hm)).mp z),List.filter_cons_of_pos (p:=fun x=>ltD x d) hlt]
   rw[iG (hc.sub fun y hy=>Yb _ hy) s2 n2 hr]
   rfl
theorem no {n:Nat}{ds:List D}(hc:Cmps n ds){d:D}(hd:d∈ds):d3 d (aL (al ds))=some (rkD (al ds) d):=by
 have hc':Cmps n (al ds):=hc.sub fun x hx=>cy.mp hx
 have p:=bf (al ds)
 rw[iG (hc'.perm p.symm) (bD hc') ((p.nodup_iff).mpr (i8 ds)) (p.mem_iff.mpr (cy.mpr hd)),lj p]
end L2
namespace My
open PySem PySem.Spec PyProof.Rows L2
noncomputable section
def top (i:Nat):Stmt:=PySem.Challenge.pw_tieword_k06_ranked.main.body.getD i (.Pass ⟨0,0,0,0⟩)
abbrev jt:Stmt:=top 4
abbrev je:Stmt:=top 3
abbrev jc:Stmt:=top 7
abbrev ik:Stmt:=top 1
abbrev i4:Stmt:=top 5
abbrev h_:Stmt:=top 6
abbrev gR:Stmt:=top 8
set_option genInjectivity false
set_option genSizeOf false
set_option genSizeOfSpec false
structure Adr where
 C:Addr
 f_q4:Addr
 d_q4:FuncData
 f_q1:Addr
 d_q1:FuncData
 f_q2:Addr
 d_q2:FuncData
 f_q6:Addr
 d_q6:FuncData
 f_q5:Addr
 d_q5:FuncData
 f_q3:Addr
 d_q3:FuncData
 f_q0:Addr
 d_q0:FuncData
structure Txt (K:PySem.W.Frag) (mg:Str→Option Value) (t:Adr):Prop where
 fn_q4:Fun K "_law_spread" "_law_spread" jt t.f_q4 t.d_q4
 bd_q4:Binds K t.d_q4 ["_law_cell", "_law_factor"] []
 g_q4:mg "_law_spread"=some (.ref t.f_q4)
 fn_q1:Fun K "_law_at" "_law_at" je t.f_q1 t.d_q1
 bd_q1:Binds K t.d_q1 ["_law_script", "_law_k"] []
 g_q1:mg "_law_at"=some (.ref t.f_q1)
 fn_q2:Fun K "_law_key" "_law_key" jc t.f_q2 t.d_q2
 bd_q2:Binds K t.d_q2 ["_law_cell", "_law_sort"] []
 g_q2:mg "_law_key"=some (.ref t.f_q2)
 fn_q6:Fun K "ranked" "ranked" ik t.f_q6 t.d_q6
 bd_q6:Binds K t.d_q6 ["keys"] []
 g_q6:mg "ranked"=some (.ref t.f_q6)
 fn_q5:Fun K "_law_whole" "_law_whole" i4 t.f_q5 t.d_q5
 bd_q5:Binds K t.d_q5 ["_law_found"] []
 g_q5:mg "_law_whole"=some (.ref t.f_q5)
 fn_q3:Fun K "_law_numbers" "_law_numbers" h_ t.f_q3 t.d_q3
 bd_q3:Binds K t.d_q3 ["_law_found", "_law_due"] []
 g_q3:mg "_law_numbers"=some (.ref t.f_q3)
 fn_q0:Fun K "law" "law" gR t.f_q0 t.d_q0
 bd_q0:Binds K t.d_q0 ["_law_script"] []
 g_q0:mg "law"=some (.ref t.f_q0)
 b_all:mg "all"=none
 b_bool:mg "bool"=none
 b_int:mg "int"=none
 b_isinstance:mg "isinstance"=none
 b_len:mg "len"=none
 b_list:mg "list"=none
 b_set:mg "set"=none
 b_sorted:mg "sorted"=none
variable {P:Program} {w:World} {K:Kq} {mg:Ks} {base:Heap} {t:Adr}
abbrev ti:List Str:=["_law_cell", "_law_factor"]
theorem rC:FnScope ti ["_law_cell", "_law_factor"] (defScope jt):=⟨rfl,rfl,rfl,by decide +kernel,rfl,by decide +kernel,by decide +kernel⟩
def g_q4 (C:Addr):DF→Option RES:=
  (cN (d2 cR (d2 qA (d2 fF (d2 cR (bu 0) (fun _=>some (.int 2147483647))) (fun _=>some (.int 1))) (bu 1)) (fun _=>some (.int 2147483647))))
def iW (C:Addr):List DV→Option DV:=mOf 2 2 (g_q4 C)
theorem pc (T:Txt K mg t):FnOk P w K mg base CX0 1 t.f_q4 t.d_q4 ["_law_cell", "_law_factor"] (spD K (iW t.C)):=
 T.fn_q4.okD rC fun cdv A outer s H E hr=>(aH (bv (bQ (PDE.r (qv (PDE.r (gt (PDE.r (bQ (aU 0 (pv 0)) (PDE.r ap))) (PDE.r ap))) (aU 1 (pv 1)))) (PDE.r ap))))
abbrev tT:List Str:=["_law_script", "_law_k"]
theorem rf:FnScope tT ["_law_script", "_law_k"] (defScope je):=⟨rfl,rfl,rfl,by decide +kernel,rfl,by decide +kernel,by decide +kernel⟩
def g_q1 (C:Addr):DF→Option RES:=
  (bJ (dIf (asB (d2 ltd (aN 1) (d1 dZ (aN 0)))) (cN (d2 ixD (bu 0) (bu 1))) dNx)
  (cN (fun _=>some (.int 0))))
def oQ (C:Addr):List DV→Option DV:=mOf 2 2 (g_q1 C)
theorem rH (T:Txt K mg t):FnOk P w K mg base CX0 1 t.f_q1 t.d_q1 ["_law_script", "_law_k"] (spD K (oQ t.C)):=
 T.fn_q1.okD rf fun cdv A outer s H E hr=>(ao (dU (li hr.h64 (aP 1 (pv 1)) (PDE.n (g7 rfl T.b_len (aP 0 (pv 0))))) (aH (bv (lJ (aU 0 (pv 0)) (aU 1 (pv 1))))) bP) (aH (bv ap)))
abbrev t_:List Str:=["_law_cell", "_law_sort", "_law_number", "_law_word"]
theorem jM:FnScope t_ ["_law_cell", "_law_sort"] (defScope jc):=⟨rfl,rfl,rfl,by decide +kernel,rfl,by decide +kernel,by decide +kernel⟩
def g_q2 (C:Addr):DF→Option RES:=
  (bJ (di 2 (d2 lV (d2 cR (bu 0) (d2 j7 (fun _=>some (.int 10)) (fun _=>some (.int 30)))) (d2 j7 (fun _=>some (.int 10)) (fun _=>some (.int 29)))))
  (bJ (dIf (asB (d2 eqD (d2 cR (d2 cU (bu 1) (fun _=>some (.int 3))) (fun _=>some (.int 2))) (fun _=>some (.int 0)))) (di 2 (d2 lV (d2 cR (d2 cU (bn (iW C) (aB 0 (aV (fun _=>some (.int 1530421987)) (fun _=>some [])))) (fun _=>some (.int 5))) (fun _=>some (.int 7))) (fun _=>some (.int 3)))) dNx)
  (bJ (di 3 (d2 fF (d2 ixD (fun _=>some (.str "abc")) (d2 cR (bu 2) (fun _=>some (.int 3)))) (slS (fun _=>some (.str "abca")) bNo (bI (d2 cR (d2 cU (bu 2) (fun _=>some (.int 3))) (fun _=>some (.int 3)))))))
  (bJ (dIf (asB (d2 eqD (d2 cR (bu 1) (fun _=>some (.int 3))) (fun _=>some (.int 0)))) (cN (getV 2)) dNx)
  (bJ (dIf (asB (d2 eqD (d2 cR (bu 1) (fun _=>some (.int 3))) (fun _=>some (.int 1)))) (cN (getV 3)) dNx)
  (cN (asT (dk (d2 cR (bu 2) (fun _=>some (.int 4))) (dk (getV 3) gJ)))))))))
def kF (C:Addr):List DV→Option DV:=mOf 4 2 (g_q2 C)
theorem rP (T:Txt K mg t):FnOk P w K mg base CX0 2 t.f_q2 t.d_q2 ["_law_cell", "_law_sort"] (spD K (kF t.C)):=
 T.fn_q2.okD jM fun cdv A outer s H E hr=>(ao (fm (i:=2) jM.nd rfl (.inl rfl) (lB (PDE.r (bQ (aU 0 (pv 0)) (PDE.r (l7 (PDE.r ap) (PDE.r ap))))) (PDE.r (l7 (PDE.r ap) (PDE.r ap))))) (ao (dU (l4 hr.h64 (PDE.n (bQ (PDE.r (eB (aU 1 (pv 1)) (PDE.r ap))) (PDE.r ap))) (PDE.n ap)) (aH (fm (i:=2) jM.nd rfl (.inl rfl) (lB (PDE.r (bQ (PDE.r (eB (PDE.r (bC (pc T) (hr.mono (by decide)) rfl T.g_q4 T.fn_q4.kp T.bd_q4 (dg 0 (pv 0) (eO ap bh)))) (PDE.r ap))) (PDE.r ap))) (PDE.r ap)))) bP) (ao (fm (i:=3) jM.nd rfl (.inl rfl) (gt (PDE.r (lJ (PDE.r k6) (PDE.r (bQ (aU 2 (pv 2)) (PDE.r ap))))) (PDE.r (kM (PDE.r k6) lm (pk (bQ (PDE.r (eB (aU 2 (pv 2)) (PDE.r ap))) (PDE.r ap))))))) (ao (dU (l4 hr.h64 (PDE.n (bQ (aU 1 (pv 1)) (PDE.r ap))) (PDE.n ap)) (aH (bv (dF 2 (pv 2)))) bP) (ao (dU (l4 hr.h64 (PDE.n (bQ (aU 1 (pv 1)) (PDE.r ap))) (PDE.n ap)) (aH (bv (dF 3 (pv 3)))) bP) (aH (bv (qK (eT (bQ (aU 2 (pv 2)) (PDE.r ap)) (eT (dF 3 (pv 3)) da))))))))))
abbrev sd:List Str:=["keys", "values"]
theorem pr:FnScope sd ["keys"] (defScope ik):=⟨rfl,rfl,rfl,by decide +kernel,rfl,by decide +kernel,by decide +kernel⟩
def g_q6 (C:Addr):DF→Option RES:=
  (bJ (di 1 (asO (asL (b5 (bu 0)))))
  (jY (asL (a8 1 [1] (bW 0) (setV 0) dj (d2 kI (aN 1) (aN 0))))))
def ko (C:Addr):List DV→Option DV:=mOf 2 1 (g_q6 C)
theorem mX (T:Txt K mg t):FnOk P w K mg base CX0 1 t.f_q6 t.d_q6 ["keys"] (spD K (ko t.C)):=
 T.fn_q6.okD pr fun cdv A outer s H E hr=>(ao (fm (i:=1) pr.nd rfl (.inr rfl) (PDO.v (g_ hr.h80 rfl rfl T.b_sorted rfl T.b_set (aU 0 (pv 0))))) (aH (nK (eN (N:=["key", "values"]) (own:=1) (ix:=[1]) (is:=[0]) rfl (jZ (defScope ik) rfl (by decide +kernel)) (im sd rfl (by decide +kernel)) (eM (by decide)) (eG 0 (pv 0)) (fun _ _ _ _=>(bU (i:=0) (show (["key", "values"]:List Str).Nodup from by decide +kernel) rfl (.inl rfl))) (fun _ _ _ _=>jU) (fun _ _ _ _=>(lr hr.h64 (aP 1 (pv 1)) (aP 0 (pv 0)))) (by decide +kernel)))))
abbrev ub:List Str:=["_law_found"]
theorem rJ:FnScope ub ["_law_found"] (defScope i4):=⟨rfl,rfl,rfl,by decide +kernel,rfl,by decide +kernel,by decide +kernel⟩
def g_q5 (C:Addr):DF→Option RES:=
  (cN (kW (d1 (kZ "int") (aN 0)) (og (d1 (kZ "bool") (aN 0)))))
def mB (C:Addr):List DV→Option DV:=mOf 1 1 (g_q5 C)
theorem rL (T:Txt K mg t):FnOk P w K mg base CX0 1 t.f_q5 t.d_q5 ["_law_found"] (spD K (mB t.C)):=
 T.fn_q5.okD rJ fun cdv A outer s H E hr=>(aH (bv (ju (jn rfl T.b_isinstance rfl T.b_int L2.boot_int (aP 0 (pv 0))) (jz (qk (jn rfl T.b_isinstance rfl T.b_bool L2.boot_bool (aP 0 (pv 0))))))))
abbrev rG:List Str:=["_law_found", "_law_due"]
theorem qZ:FnScope rG ["_law_found", "_law_due"] (defScope h_):=⟨rfl,rfl,rfl,by decide +kernel,rfl,by decide +kernel,by decide +kernel⟩
def g_q3 (C:Addr):DF→Option RES:=
  (bJ (dIf (orT (mK (asB (d1 (kZ "list") (aN 0)))) (asB (d2 neD (d1 dZ (aN 0)) (d1 dZ (aN 1))))) (cN (fun _=>some (.bl false))) dNx)
  (cN (kW (d1 lT (asO (asL (a8 1 [] (bW 0) (setV 0) dj (bn (mB C) (aB 0 (fun _=>some []))))))) (d2 eqD (aN 0) (aN 1)))))
def mT (C:Addr):List DV→Option DV:=mOf 2 2 (g_q3 C)
theorem o_ (T:Txt K mg t):FnOk P w K mg base CX0 2 t.f_q3 t.d_q3 ["_law_found", "_law_due"] (spD K (mT t.C)):=
 T.fn_q3.okD qZ fun cdv A outer s H E hr=>(ao (dU (PDW.t (qG (j4 (j6 (jn rfl T.b_isinstance rfl T.b_list L2.boot_list (aP 0 (pv 0))))) (oO (pj hr.h64 (PDE.n (g7 rfl T.b_len (aP 0 (pv 0)))) (PDE.n (g7 rfl T.b_len (aP 1 (pv 1)))))))) (aH (bv lf)) bP) (aH (bv (ju (qm rfl rfl T.b_all (PDE.n (PDO.v (eN (N:=["_law_number"]) (own:=1) (ix:=[]) (is:=[0]) rfl (jZ (defScope h_) rfl (by decide +kernel)) (im rG rfl (by decide +kernel)) (eM (by decide)) (eG 0 (pv 0)) (fun _ _ _ _=>(bU (i:=0) (show (["_law_number"]:List Str).Nodup from by decide +kernel) rfl (.inl rfl))) (fun _ _ _ _=>jU) (fun _ _ _ _=>(bC (rL T) (hr.mono (by decide)) rfl T.g_q5 T.fn_q5.kp T.bd_q5 (dg 0 (pv 0) bh))) (by decide +kernel))))) (jz (pB hr.h64 (aP 0 (pv 0)) (aP 1 (pv 1))))))))
abbrev qI:List Str:=["_law_script", "_law_sort", "_law_keys", "_law_unlike", "_law_key_here", "_law_due", "_law_handed", "_law_found"]
theorem dY:FnScope qI ["_law_script"] (defScope gR):=⟨rfl,rfl,rfl,by decide +kernel,rfl,by decide +kernel,by decide +kernel⟩
def g_q0 (C:Addr):DF→Option RES:=
  (bJ (di 1 (d2 cU (bn (iW C) (aV (bn (oQ C) (aB 0 (aV (fun _=>some (.int 0)) (fun _=>some [])))) (aV (fun _=>some (.int 1873046521)) (fun _=>some [])))) (fun _=>some (.int 3))))
  (bJ (di 2 (asO (asL (a8 1 [1] (b6 (d2 fF (asO (asL (dk (fun _=>some (.int 5)) gJ))) (asO (asL (slL (bu 0) bNo (bI (fun _=>some (.int 80)))))))) (setV 0) dj (bn (kF C) (aB 0 (aB 1 (fun _=>some []))))))))
  (bJ (fg 3 (asL gJ))
  (bJ (qs (bW 2) (setV 4) (dIf (asB (d2 dn (aN 4) (aN 3))) (kD 3 (getV 4)) dNx))
  (bJ (k9 3 (di 5 (asO (asL (a8 1 [3] (bW 2) (setV 0) dj (d1 dZ (asO (asL (a8 1 [0] (b6 (getV 1)) (setV 0) (asB (d2 ltd (aN 0) (aN 1))) (getV 0))))))))))
  (bJ (fg 6 (asL (eP (bu 2))))
  (bJ (fg 7 (iE (ko C) (aB 6 (fun _=>some []))))
  (bJ (dIf (asB (d2 neD (aN 6) (aN 2))) (cN (fun _=>some (.bl false))) dNx)
  (bJ (kD 6 (d2 ixD (bu 2) (fun _=>some (.int 0))))
  (bJ (dIf (mK (asB (bn (mT C) (aB 7 (aB 5 (fun _=>some [])))))) (cN (fun _=>some (.bl false))) dNx)
  (bJ (pX 7)
  (cN (kW (bn (mT C) (aV (bn (ko C) (aV (asO (asL (eP (bu 2)))) (fun _=>some []))) (aB 5 (fun _=>some [])))) (d2 eqD (bn (ko C) (aV (asO (asL gJ)) (fun _=>some []))) (asO (asL gJ))))))))))))))))
def rj (C:Addr):List DV→Option DV:=mOf 8 1 (g_q0 C)
theorem sx (T:Txt K mg t):FnOk P w K mg base CX0 3 t.f_q0 t.d_q0 ["_law_script"] (spD K (rj t.C)):=
 T.fn_q0.okD dY fun cdv A outer s H E hr=>(ao (fm (i:=1) dY.nd rfl (.inr rfl) (eB (PDE.r (bC (pc T) (hr.mono (by decide)) rfl T.g_q4 T.fn_q4.kp T.bd_q4 (eO (bC (rH T) (hr.mono (by decide)) rfl T.g_q1 T.fn_q1.kp T.bd_q1 (dg 0 (pv 0) (eO ap bh))) (eO ap bh)))) (PDE.r ap))) (ao (eW (i:=2) (N:=["_law_cell", "_law_sort"]) (own:=1) (ix:=[1]) (is:=[0]) dY.nd rfl (.inl rfl) rfl (jZ (defScope gR) rfl (by decide +kernel)) (im qI rfl (by decide +kernel)) (eM (by decide)) (jD (gt (PDE.r (PDO.v (eA (eT ap da)))) (PDE.r (PDO.v (kq (aU 0 (pv 0)) lm (pk ap)))))) (fun _ _ _ _=>(bU (i:=0) (show (["_law_cell", "_law_sort"]:List Str).Nodup from by decide +kernel) rfl (.inl rfl))) (fun _ _ _ _=>jU) (fun _ _ _ _=>(bC (rP T) (hr.mono (by decide)) rfl T.g_q2 T.fn_q2.kp T.bd_q2 (dg 0 (pv 0) (dg 1 (pv 1) bh)))) (by decide +kernel)) (ao (gu (i:=3) dY.nd rfl (.inr rfl) (eA da)) (ao (qb PassesOwn.never rfl (eG 2 (pv 2)) (bU (i:=4) dY.nd rfl (.inl rfl)) (aH (dU (nc hr.h64 (aP 4 (pv 4)) (aP 3 (pv 3))) (aH (fR 3 (pv 3) (dF 4 (pv 4)))) bP))) (ao (nD 3 (eW (i:=5) (N:=["_law_key_here", "_law_unlike"]) (own:=1) (ix:=[3]) (is:=[0]) dY.nd rfl (.inl rfl) rfl (jZ (defScope gR) rfl (by decide +kernel)) (im qI rfl (by decide +kernel)) (eM (by decide)) (eG 2 (pv 2)) (fun _ _ _ _=>(bU (i:=0) (show (["_law_key_here", "_law_unlike"]:List Str).Nodup from by decide +kernel) rfl (.inr rfl))) (fun _ _ _ _=>jU) (fun _ _ _ _=>(g7 rfl T.b_len (PDE.n (PDO.v (eN (N:=["_law_other", "_law_key_here"]) (own:=1) (ix:=[0]) (is:=[0]) rfl (pY (by decide +kernel)) (im ["_law_key_here", "_law_unlike"] rfl (by decide +kernel)) (eM (by decide)) (jD (dF 1 (pv 1))) (fun _ _ _ _=>(bU (i:=0) (show (["_law_other", "_law_key_here"]:List Str).Nodup from by decide +kernel) rfl (.inl rfl))) (fun _ _ _ _=>(rU (li hr.h64 (aP 0 (pv 0)) (aP 1 (pv 1))))) (fun _ _ _ _=>(dF 0 (pv 0))) (by decide +kernel)))))) (by decide +kernel))) (ao (gu (i:=6) dY.nd rfl (.inl rfl) (iS rfl T.b_list (aU 2 (pv 2)))) (ao (gu (i:=7) dY.nd rfl (.inl rfl) (lK (mX T) (hr.mono (by decide)) rfl T.g_q6 T.fn_q6.kp T.bd_q6 (dg 6 (pv 6) bh))) (ao (dU (pj hr.h64 (aP 6 (pv 6)) (aP 2 (pv 2))) (aH (bv lf)) bP) (ao (fR 6 (pv 6) (lJ (aU 2 (pv 2)) (PDE.r ap))) (ao (dU (j4 (j6 (bC (o_ T) (hr.mono (by decide)) rfl T.g_q3 T.fn_q3.kp T.bd_q3 (dg 7 (pv 7) (dg 5 (pv 5) bh))))) (aH (bv lf)) bP) (ao (ng 7 (pv 7)) (aH (bv (ju (bC (o_ T) (hr.mono (by decide)) rfl T.g_q3 T.fn_q3.kp T.bd_q3 (eO (bC (mX T) (hr.mono (by decide)) rfl T.g_q6 T.fn_q6.kp T.bd_q6 (eO (PDO.v (iS rfl T.b_list (aU 2 (pv 2)))) bh)) (dg 5 (pv 5) bh))) (jz (pB hr.h64 (PDE.n (bC (mX T) (hr.mono (by decide)) rfl T.g_q6 T.fn_q6.kp T.bd_q6 (eO (PDO.v (eA da)) bh))) (PDE.n (PDO.v (eA da)))))))))))))))))))
end
theorem c8 {st:Dq}{c:Dk}{e:Dd}{ρ:DF}{α:Type}(f:α→D)(F:α→D):∀ xs:List α,(∀ x∈xs,∃ ρ1,st (f x) ρ=some ρ1∧c ρ1=some true∧e ρ1=some (F x))→cD st c e ρ (xs.map f)=some (xs.map F)
 | [],_=>rfl
 | x::xs,h=>by
  obtain⟨ρ1,h1,h2,h3⟩:=h x Yc
  rw[ZY]
  unfold cD
  rw[h1,Yh,h2,Yh,Yn rfl,h3,Yh,c8 f F xs fun y hy=>h y (Yb _ hy)]
  rfl
theorem fJ {st:Dq}{c:Dk}{e:Dd}{ρ:DF}{α:Type}(f:α→D)(G:α→Prop):∀ ds:List D,(∀ d∈ds,∃ ρ1,st d ρ=some ρ1∧c ρ1=some true∧∃ y,e ρ1=some (f y)∧G y)→∃ ys:List α,cD st c e ρ ds=some (ys.map f)∧ys.length=ds.length∧∀ y∈ys,G y
 | [],_=>⟨[],rfl,rfl,fun _ h=>by cases h⟩
 | x::xs,h=>by
  obtain⟨ρ1,h1,h2,y,h3,h4⟩:=h x Yc
  obtain⟨ys,q1,q2,q3⟩:=fJ f G xs fun y hy=>h y (Yb _ hy)
  refine⟨y::ys,?_,by simp[q2],fun z hz=>?_⟩
  ·unfold cD
   rw[h1,Yh,h2,Yh,Yn rfl,h3,Yh,q1]
   rfl
  ·rcases YF.mp hz with rfl | hz
   ·exact h4
   ·exact q3 z hz
theorem jG (i j:Int):eqd (.int i) (.int j)=decide (i=j):=by
 have h:=aX (.int i) (.int j) rfl
 by_cases e:i=j
 ·rw[Zm e,h,e]
 ·rw[YR e]
  cases q:eqd (.int i) (.int j) with
  | false=>rfl
  | true=>exact absurd (by simpa using h.mp q) e
theorem qj (i j:Bool):eqd (.bl i) (.bl j)=decide (i=j):=by
 have h:=aX (.bl i) (.bl j) rfl
 by_cases e:i=j
 ·rw[Zm e,h,e]
 ·rw[YR e]
  cases q:eqd (.bl i) (.bl j) with
  | false=>rfl
  | true=>exact absurd (by simpa using h.mp q) e
@[simp] theorem sQ (i j:Int):eqD (.int i) (.int j)=some (.bl (decide (i=j))):=by
 unfold eqD
 rw[jG]
 rfl
@[simp] theorem t4 (i j:Bool):eqD (.bl i) (.bl j)=some (.bl (decide (i=j))):=by
 unfold eqD
 rw[qj]
 rfl
@[simp] theorem sE (i j:Int):neD (.int i) (.int j)=some (.bl (!decide (i=j))):=by
 unfold neD
 rw[jG]
 rfl
@[simp] theorem sF (i j:Int):ltd (.int i) (.int j)=some (.bl (decide (i<j))):=rfl
@[simp] theorem sM (i j:Int):gtI (.int i) (.int j)=some (.bl (decide (j<i))):=rfl
@[simp] theorem sH (i j:Int):leA (.int i) (.int j)=some (.bl (decide (i≤j))):=rfl
@[simp] theorem sN (i j:Int):ltI (.int i) (.int j)=some (.bl (decide (i<j))):=rfl
@[simp] theorem sj (i j:Int):fF (.int i) (.int j)=some (.int (i+j)):=rfl
@[simp] theorem sn (i j:Int):lV (.int i) (.int j)=some (.int (i-j)):=rfl
theorem mt (i j:Int)(h:(-(2 ^ 64)<i∧i<2 ^ 64)∨(-(2 ^ 64)<j∧j<2 ^ 64)):qA (.int i) (.int j)=some (.int (i*j)):=Yn (Zm h)
theorem a7 (i j:Int)(h:0<j):cR (.int i) (.int j)=some (.int (i%j)):=Yn (Zm h)
theorem cI (i j:Int)(h:0<j∧j<1073741824):cU (.int i) (.int j)=some (.int (i/j)):=Yn (Zm h)
@[simp] theorem sG:j7 (.int 10) (.int 30)=some (.int 1000000000000000000000000000000):=rfl
section
variable {f fa fb fc:Dd} {fo:Do} {fl:Dl} {fv:Dv} {c c':Dk} {g h:Dw} {ρ:DF} {i j:Nat} {m:Dm}
@[simp] theorem oH:bJ g h ρ=match g ρ with | some (.nx ρ')=>h ρ' | r=>r:=rfl
@[simp] theorem ee:di i f ρ=(f ρ).map fun d=>.nx (ρ.set i (some (.v d))):=rfl
@[simp] theorem rm:fg i fo ρ=(fo ρ).map fun o=>.nx (ρ.set i (some (.own o none))):=rfl
@[simp] theorem ou:cN f ρ=(f ρ).map fun d=>.rt (.v d) ρ:=rfl
@[simp] theorem m_:jY fo ρ=(fo ρ).map fun o=>.rt (.own o none) ρ:=rfl
@[simp] theorem sB:sC i ρ=match ρ[i]? with | some (some x)=>some (.rt x ρ) | _=>none:=rfl
@[simp] theorem tj:dIf c g h ρ=(c ρ).bind fun b=>if b=true then g ρ else h ρ:=rfl
@[simp] theorem tm:dNx ρ=some (.nx ρ):=rfl
@[simp] theorem rO:rS f ρ=(f ρ).map fun _=>.nx ρ:=rfl
@[simp] theorem pg {F:D→Option D}:d1 F fa ρ=(fa ρ).bind F:=rfl
@[simp] theorem l8 {F:Dy}:d2 F fa fb ρ=(fa ρ).bind fun x=>(fb ρ).bind fun y=>F x y:=rfl
@[simp] theorem nW:getV i ρ=match ρ[i]? with | some (some (.v d))=>some d | _=>none:=rfl
@[simp] theorem sJ:bu i ρ=match ρ[i]? with | some (some (.v d))=>some d | some (some (.own o _))=>if o.flat=true then some o.d else none | some (some (.bor o))=>if o.flat=true then some o.d else none | _=>none:=rfl
@[simp] theorem sO:aN i ρ=match ρ[i]? with | some (some (.v d))=>some d | some (some (.own o _))=>some o.d | some (some (.bor o))=>some o.d | _=>none:=rfl
@[simp] theorem uf:aB i fv ρ=match ρ[i]? with | some (some (.own o _))=>(fv ρ).map fun xs=>.bor o::xs | some (some (.bor o))=>(fv ρ).map fun xs=>.bor o::xs | some (some (.v d))=>(fv ρ).map fun xs=>.v d::xs | _=>none:=rfl
@[simp] theorem ug:aV f fv ρ=(f ρ).bind fun d=>(fv ρ).map fun xs=>.v d::xs:=rfl
@[simp] theorem su:bn m fv ρ=(fv ρ).bind fun xs=>(m xs).bind dvD:=rfl
@[simp] theorem rB:iE m fv ρ=(fv ρ).bind fun xs=>(m xs).bind dvO:=rfl
@[simp] theorem t8:asB f ρ=match f ρ with | some (.bl b)=>some b | _=>none:=rfl
@[simp] theorem cw:asL fl ρ=(fl ρ).map .lst:=rfl
@[simp] theorem cP:asO fo ρ=(fo ρ).map OD.d:=rfl
@[simp] theorem sW:asT fl ρ=(fl ρ).map .tup:=rfl
@[simp] theorem ss:dk f fl ρ=(f ρ).bind fun d=>(fl ρ).map fun r=>d::r:=rfl
@[simp] theorem sT:gJ ρ=some []:=rfl
@[simp] theorem sL:mK c ρ=(c ρ).map fun b=>!b:=rfl
@[simp] theorem sK:dj ρ=some true:=rfl
@[simp] theorem oZ {d:D}:setV i d ρ=some (ρ.set i (some (.v d))):=rfl
@[simp] theorem tU:ifV c f fa ρ=(c ρ).bind fun b=>if b=true then f ρ else fa ρ:=rfl
@[simp] theorem qV:eP f ρ=(f ρ).bind cu:=rfl
@[simp] theorem sU:k9 i g ρ=match ρ[i]? with | some (some (.own o none))=>g (ρ.set i (some (.v o.d))) | some (some (.v d))=>g ρ | _=>none:=rfl
theorem cC {own:Nat}{ix:List Nat}{it:Dl}{st:Dq}{e:Dd}:a8 own ix it st c e ρ=(it ρ).bind fun ds=>if ds.length≤16777216 then cD st c e (cK own ix ρ) ds else none:=rfl
@[simp] theorem sR:s0 c c' ρ=(c ρ).bind fun b=>if b=true then c' ρ else some false:=rfl
@[simp] theorem tM:orT c c' ρ=(c ρ).bind fun b=>if b=true then some true else c' ρ:=rfl
@[simp] theorem oF:kW f fa ρ=match f ρ with | some (.bl true)=>fa ρ | some (.bl false)=>some (.bl false) | _=>none:=rfl
@[simp] theorem tp:orV f fa ρ=match f ρ with | some (.bl false)=>fa ρ | some (.bl true)=>some (.bl true) | _=>none:=rfl
@[simp] theorem sS:og f ρ=match f ρ with | some (.bl b)=>some (.bl (!b)) | _=>none:=rfl
@[simp] theorem ud {F G:Dy}:chD F G fa fb fc ρ=(fa ρ).bind fun x=>(fb ρ).bind fun y=>match F x y with | some (.bl true)=>(fc ρ).bind fun z=>G y z | some (.bl false)=>some (.bl false) | _=>none:=rfl
@[simp] theorem l6:b6 f ρ=match f ρ with | some (.lst ds)=>some ds | _=>none:=rfl
@[simp] theorem rZ:bW i ρ=match ρ[i]? with | some (some (.bor (.lst ds)))=>some ds | some (some (.v (.lst ds)))=>some ds | _=>none:=rfl
@[simp] theorem tV {b b':DF→Option (Option Int)}:slS f b b' ρ=match f ρ with | some (.str x)=>if x.length≤16777216 then (b ρ).bind fun l=>(b' ρ).map fun h=>.str (Txt.slice x l h) else none | _=>none:=rfl
theorem qe {b b':DF→Option (Option Int)}:slL f b b' ρ=match f ρ with | some (.lst xs)=>(b ρ).bind fun l=>(b' ρ).map fun h=>jC xs l h | _=>none:=rfl
@[simp] theorem sP:kD i f ρ=match ρ[i]? with | some (some (.own (.lst ds) t))=>(f ρ).bind fun d=>if ds.length<16777216 then some (.nx (ρ.set i (some (.own (.lst (ds++[d])) t)))) else none | _=>none:=rfl
@[simp] theorem qY {is:List Nat}:rA is f ρ=(f ρ).bind fun d=>(sD is d ρ).map .nx:=rfl
@[simp] theorem ue:bI f ρ=match f ρ with | some (.int i)=>some (some i) | _=>none:=rfl
@[simp] theorem tH:bNo ρ=some none:=rfl
end
@[simp] theorem um {ds:List D}:(OD.lst ds).d=.lst ds:=rfl
@[simp] theorem uC {ds:List (List Key×D)}:(OD.dT ds).d=.dT ds:=rfl
@[simp] theorem uB {ds:List (Key×D)}:(OD.dK ds).d=.dK ds:=rfl
@[simp] theorem uh {C:Addr}{ds:List (Str×D)}:(OD.ins C ds).d=.ins C ds:=rfl
@[simp] theorem uD {ds:List D}:(OD.lst ds).flat=true:=rfl
@[simp] theorem ut {ds:List (List Key×D)}:(OD.dT ds).flat=true:=rfl
@[simp] theorem uE {ds:List (Key×D)}:(OD.dK ds).flat=true:=rfl
@[simp] theorem ux {C:Addr}{ds:List (Str×D)}:(OD.ins C ds).flat=true:=rfl
@[simp] theorem uj {d:D}:dvD (.v d)=some d:=rfl
@[simp] theorem ui {o:OD}{t:Option Addr}:dvD (.own o t)=some o.d:=rfl
@[simp] theorem uz {o:OD}{t:Option Addr}:dvO (.own o t)=some o:=rfl
@[simp] theorem uq {x:DV}{ρ:DF}:b_ (some (.rt x ρ))=some x:=rfl
@[simp] theorem uA {ρ:DF}:b_ (some (.nx ρ))=some (.v .non):=rfl
@[simp] theorem ul {d:D}:kS (some (.v d))=some (.v d):=rfl
@[simp] theorem uw {o:OD}{t:Option Addr}:kS (some (.own o t))=some (.bor o):=rfl
@[simp] theorem uu {o:OD}:kS (some (.bor o))=some (.bor o):=rfl
@[simp] theorem sI {own:Nat}{ix:List Nat}{ρ:DF}:cK own ix ρ=List.replicate own none++ix.map fun j=>kS (ρ[j]?).join:=rfl
@[simp] theorem sY {ds:List D}:cu (.lst ds)=some ds:=rfl
@[simp] theorem bH {ds:List D}:cu (.tup ds)=some ds:=rfl
@[simp] theorem uk {ds:List D}:dZ (.lst ds)=some (.int ds.length):=rfl
@[simp] theorem uo {ds:List D}:dZ (.tup ds)=some (.int ds.length):=rfl
@[simp] theorem tE {n p:Nat}{g:Dw}{xs:List DV}:mOf n p g xs=if xs.length=p then b_ (g (cc n p xs)) else none:=rfl
@[simp] theorem qW {n p:Nat}{xs:List DV}:cc n p xs=xs.map some++List.replicate (n-p) none:=rfl
theorem pK {x:Int}(h:0≤x∧x<3):x=0∨x=1∨x=2:=by
 obtain⟨m,rfl⟩:=Int.eq_ofNat_of_zero_le h.1
 have key:∀ m:Fin 3,((m:Nat):Int)=0∨((m:Nat):Int)=1∨((m:Nat):Int)=2:=by decide
 exact key ⟨m,Int.ofNat_lt.mp h.2⟩
abbrev abc:Str := "abcdefghijklmnopqrstuvwxyz"
def tu (n:Int):List Int:=(List.range n.toNat).map fun i:Nat=>(i:Int)
abbrev T4:=Int×Int×Int×Bool
theorem lS {α:Type}{l:List α}{i:Int}(h0:0≤i)(h1:i<l.length):atI l i=l[i.toNat]?:=by
 unfold atI ixN
 rw[Yn h0,Yn h1]
 rfl
theorem aI {g h:Dw}{ρ ρ':DF}(e:g ρ=some (.nx ρ')):bJ g h ρ=h ρ':=by rw[oH,e]
theorem nv {α:Type}(l:List α){k:Int}(h:0≤k):jC l none (some k)=l.take k.toNat:=by
 unfold jC HT.sIx
 simp only[Xe,Nat.sub_zero]
 rw[Yo (by omega),← List.take_take,XA]
theorem n1:¬ (("kinds":Str) = "ties"):=by decide +kernel
theorem n2:¬ (("kinds":Str) = "joins"):=by decide +kernel
theorem n3:¬ (("ties":Str) = "joins"):=by decide +kernel
theorem b1:(("ties":Str) == "kinds")=false:=by decide +kernel
theorem b2:(("size":Str) == "kinds")=false:=by decide +kernel
theorem b3:(("size":Str) == "ties")=false:=by decide +kernel
theorem b4:(("size":Str) == "joins")=false:=by decide +kernel
theorem rb (r:List Int):okN 30 (.lst (r.map .int))=true:=by
 show (r.map D.int).all (okN 29)=true
 rw[Yj]
 intro x hx
 obtain⟨t,_,rfl⟩:=ZU.mp hx
 rfl
theorem e6 {α:Type}(f:α→D)(h:∀ x y,ab (f x) (f y)=true):∀ a b:List α,av (a.map f) (b.map f)=true
 | [],_=>rfl
 | _::_,[]=>rfl
 | x::a,y::b=>by
  rw[ZY,ZY]
  show (ab (f x) (f y)&&av (a.map f) (b.map f))=true
  rw[e6 f h a b,h]
  rfl
theorem lZ {α:Type}(f:α→D)(h:∀ x y,ab (f x) (f y)=true)(a:List α):eqd (.lst (a.map f)) (.lst (a.map f))=true:=(c7 _ _ (e6 f h a a)).mpr rfl
theorem p7 {x y:D}(hx:okN 30 x=true)(hy:okN 30 y=true):neD x y=some (.bl (!eqd x y)):=Yn (by rw[hx,hy];rfl)
def prs (i j:Int)(t:T4):List (Int×Int):=(if t.1=i∧t.2.1=j then [(t.2.2.1,if t.2.2.2=true then 1 else 0)] else [])++(if t.2.1=i∧t.1=j then [(t.2.2.1,if t.2.2.2=true then 2 else 0)] else [])
def qX (i j:Int):List T4→List (Int×Int)
 | []=>[]
 | t::ts=>prs i j t++qX i j ts
def nr (ts:List T4)(n p:Int):List Int:=(tu n).filter fun o=>!decide (qX p o ts=[])
@[simp] theorem rQ {f g:Dd}{ρ:DF}:rN f g ρ=match f ρ,g ρ with
 | some (.lst as),some (.lst bs)=>if as.length=bs.length then some (n5 as bs) else none
 | some (.tup as),some (.tup bs)=>if as.length=bs.length then some (n5 as bs) else none
 | _,_=>none:=rfl
theorem fK (C:Addr)(c f:Int):∃ r:Int,iW C [.v (.int c),.v (.int f)]=some (.v (.int r)):=by
 refine⟨(c%2147483647+1)*f%2147483647,?_⟩
 show b_ (g_q4 C [some (.v (.int c)),some (.v (.int f))])=_
 unfold g_q4
 have m1:=a7 c 2147483647 (by decide)
 have b0:0≤c%2147483647:=XR _ (by decide)
 have b1:c%2147483647<2147483647:=Xk _ (by decide)
 generalize c%2147483647=b at *
 have m2:=mt (b+1) f (.inl ⟨by omega,by omega⟩)
 generalize (b+1)*f=g at *
 have m3:=a7 g 2147483647 (by decide)
 generalize g%2147483647=e at *
 simp[m1,m2,m3]
theorem sq (C:Addr)(ns:List Int):∃ r:Int,oQ C [.v (.lst (ns.map .int)),.v (.int 0)]=some (.v (.int r)):=by
 show ∃ r:Int,b_ (g_q1 C [some (.v (.lst (ns.map .int))),some (.v (.int 0))])=_
 unfold g_q1
 cases ns with
 | nil=>exact⟨0,rfl⟩
 | cons n ns=>
  refine⟨n,?_⟩
  have l:(0:Int)<(((n::ns).map D.int).length:Int):=by simp
  have i:ixD (.lst ((n::ns).map D.int)) (.int 0)=some (.int n):=by
   show atI ((n::ns).map D.int) 0=_
   rw[lS (by decide) l]
   rfl
  generalize (n::ns).map D.int=U at *
  have l2:0<U.length:=by omega
  simp[l2,i]
def bR (k:Int)(d:D):Prop:=(k=0∧∃ i,d=.int i)∨(k=1∧∃ x,d=.str x∧okN 0 (.str x)=true)∨(k=2∧∃ i x,d=.tup [.int i,.str x]∧okN 0 (.str x)=true)
theorem mZ (a b:Int)(ha:0≤a∧a<3)(hb:0≤b∧b<3):∃ x y z,ixD (.str "abc") (.int a)=some (.str x)∧slS (fun _=>some (.str "abca")) bNo (bI fun _=>some (.int b)) []=some (.str y)∧fF (.str x) (.str y)=some (.str z)∧okN 0 (.str z)=true:=by
 rcases pK ha with rfl | rfl | rfl <;> rcases pK hb with rfl | rfl | rfl <;> exact⟨_,_,_,rfl,rfl,rfl,by decide +kernel⟩
theorem qi (C:Addr)(c so:Int):∃ d,kF C [.v (.int c),.v (.int so)]=some (.v d)∧bR (so%3) d:=by
 obtain⟨s,hs⟩:=fK C c 1530421987
 have p30:j7 (.int 10) (.int 30)=some (.int 1000000000000000000000000000000):=rfl
 have p29:j7 (.int 10) (.int 29)=some (.int 100000000000000000000000000000):=rfl
 have m1:=a7 c 1000000000000000000000000000000 (by decide)
 generalize c%1000000000000000000000000000000=c1 at *
 show ∃ d,b_ (g_q2 C [some (.v (.int c)),some (.v (.int so)),none,none])=some (.v d)∧_
 unfold g_q2
 rw[aI (ρ':=[some (.v (.int c)),some (.v (.int so)),some (.v (.int (c1-100000000000000000000000000000))),none]) (by simp[p30,p29,m1])]
 generalize c1-100000000000000000000000000000=n0
 obtain⟨n,hn⟩:∃ n:Int,(dIf (asB (d2 eqD (d2 cR (d2 cU (bu 1) (fun _=>some (.int 3))) (fun _=>some (.int 2))) (fun _=>some (.int 0)))) (di 2 (d2 lV (d2 cR (d2 cU (bn (iW C) (aB 0 (aV (fun _=>some (.int 1530421987)) (fun _=>some [])))) (fun _=>some (.int 5))) (fun _=>some (.int 7))) (fun _=>some (.int 3)))) dNx) [some (.v (.int c)),some (.v (.int so)),some (.v (.int n0)),none]=some (.nx [some (.v (.int c)),some (.v (.int so)),some (.v (.int n)),none]):=by
  have q1:=cI so 3 (by decide)
  have q2:=a7 (so/3) 2 (by decide)
  have q3:=cI s 5 (by decide)
  have q4:=a7 (s/5) 7 (by decide)
  generalize iW C=M at *
  by_cases z:so/3%2=0
  ·exact⟨s/5%7-3,by simp[q1,q2,z,hs,q3,q4]⟩
  ·exact⟨n0,by simp[q1,q2,z]⟩
 rw[aI hn]
 have w1:=a7 n 3 (by decide)
 have w2:=cI n 3 (by decide)
 have w3:=a7 (n/3) 3 (by decide)
 obtain⟨x,y,z,e1,e2,e3,eo⟩:=mZ (n%3) (n/3%3) ⟨XR _ (by decide),Xk _ (by decide)⟩ ⟨XR _ (by decide),Xk _ (by decide)⟩
 have w4:=a7 n 4 (by decide)
 have w5:=a7 so 3 (by decide)
 have hk:=pK (x:=so%3) ⟨XR _ (by decide),Xk _ (by decide)⟩
 generalize n%3=n3 at *
 generalize n/3%3=n9 at *
 generalize n/3=nd at *
 generalize n%4=n4 at *
 generalize so%3=k at *
 have e4:slS (fun _=>some (.str "abca")) bNo (bI (d2 cR (d2 cU (bu 2) (fun _=>some (.int 3))) (fun _=>some (.int 3)))) [some (.v (.int c)),some (.v (.int so)),some (.v (.int n)),none]=some (.str y):=by
  rw[← e2]
  simp[w2,w3]
 rw[aI (ρ':=[some (.v (.int c)),some (.v (.int so)),some (.v (.int n)),some (.v (.str z))]) (by
  rw[ee,l8,e4]
  simp[w1,e1,e3])]
 rcases hk with rfl | rfl | rfl
 ·exact⟨.int n,by simp[w5],.inl ⟨rfl,n,rfl⟩⟩
 ·exact⟨.str z,by simp[w5],.inr (.inl ⟨rfl,z,rfl,eo⟩)⟩
 ·exact⟨.tup [.int n4,.str z],by simp[w5,w4],.inr (.inr ⟨rfl,n4,z,rfl,eo⟩)⟩
theorem dC {k:Int}{x y:D}(hx:bR k x)(hy:bR k y):ab x y=true:=by
 rcases hx with⟨rfl,i,rfl⟩ | ⟨rfl,i,rfl,_⟩ | ⟨rfl,i,u,rfl,_⟩ <;> rcases hy with⟨e,j,rfl⟩ | ⟨e,j,rfl,_⟩ | ⟨e,j,v,rfl,_⟩ <;> first | rfl | omega
theorem mO {n:Nat}{x:Str}(h:okN 0 (.str x)=true):okN n (.str x)=true:=by cases n <;> exact h
theorem cx {k:Int}{x:D}(n:Nat)(hx:bR k x):okN (n+1) x=true∧sk x=true∧gU x=true:=by
 rcases hx with⟨rfl,i,rfl⟩ | ⟨rfl,i,rfl,h⟩ | ⟨rfl,i,u,rfl,h⟩
 ·exact⟨rfl,rfl,rfl⟩
 ·exact⟨mO h,rfl,rfl⟩
 ·refine⟨?_,rfl,rfl⟩
  show ([D.int i,D.str u].all (okN n))=true
  rw[VD,VD,mO h]
  cases n <;> rfl
theorem oV {k:Int}{ds:List D}(h:∀ d∈ds,bR k d):Cmps 28 ds:=⟨fun d hd=>(cx 27 (h d hd)).1,fun x hx y hy=>dC (h x hx) (h y hy)⟩
theorem n6 {k:Int}{ds:List D}(h:∀ d∈ds,bR k d)(hl:ds.length≤64):bw (al ds)=true:=by
 have h':∀ d∈al ds,bR k d:=fun d hd=>h d (cy.mp hd)
 have:=cB ds
 unfold bw
 simp only[Yq,YH,Yj]
 exact⟨⟨⟨⟨by omega,fun d hd=>(cx 27 (h' d hd)).1⟩,fun x hx y hy=>dC (h' x hx) (h' y hy)⟩,fun d hd=>(cx 27 (h' d hd)).2.1⟩,fun d hd=>(cx 27 (h' d hd)).2.2⟩
theorem iU {k:Int}{ds:List D}{f:Dd}{ρ:DF}(h:∀ d∈ds,bR k d)(hl:ds.length≤64)(hf:f ρ=some (.lst ds)):b5 f ρ=some (aL (al ds)):=by
 have hl2:ds.length<70:=by omega
 have ok:=n6 h hl
 have ks:a_ ds=true∨bg ds=true∨bG ds=true:=by
  by_cases k0:k=0
  ·refine .inr (.inr ?_)
   unfold bG
   rw[Zm hl2,ZW]
   refine Yj.mpr fun d hd=>?_
   rcases h d hd with⟨_,i,rfl⟩ | ⟨z,x,rfl,_⟩ | ⟨z,i,x,rfl,_⟩
   ·rfl
   ·omega
   ·omega
  ·by_cases k1:k=1
   ·refine .inr (.inl ?_)
    unfold bg
    rw[Zm hl2,ZW]
    refine Yj.mpr fun d hd=>?_
    rcases h d hd with⟨z,i,rfl⟩ | ⟨z,x,rfl,_⟩ | ⟨z,i,x,rfl,_⟩
    ·exact absurd z k0
    ·rfl
    ·omega
   ·refine .inl ?_
    unfold a_
    rw[Zm hl2,ZW]
    refine Yj.mpr fun d hd=>?_
    rcases h d hd with⟨z,i,rfl⟩ | ⟨z,x,rfl,_⟩ | ⟨z,i,x,rfl,ox⟩
    ·exact absurd z k0
    ·exact absurd z k1
    ·have ox':PyData.strOk x=true:=ox
     show (hkN 8 (.tup [.int i,.str x])&&okN 8 (.tup [.int i,.str x])&&true)=true
     simp[hkN,okN,ox']
 unfold b5
 rw[hf]
 dsimp only
 rw[Yn ⟨ks,ok⟩]
noncomputable def rkL (ds:List D):List D:=ds.map fun d=>.int (rkD (al ds) d:Int)
theorem dq (C:Addr){k:Int}{ds:List D}(h:∀ d∈ds,bR k d)(hl:ds.length≤64)(x:DV)(hx:x=.v (.lst ds)∨x=.bor (.lst ds)):ko C [x]=some (.own (.lst (rkL ds)) none):=by
 have hc:=oV h
 have hm:∀ d∈aL (al ds),d∈ds:=fun d hd=>cy.mp ((bf _).mem_iff.mp hd)
 have hall:(aL (al ds)).all (okN 29)=true:=Yj.mpr fun d hd=>(cx 28 (h d (hm d hd))).1
 have hix:∀ d∈ds,kI (.lst (aL (al ds))) d=some (.int (rkD (al ds) d:Int)):=fun d hd=>by
  show (if ((aL (al ds)).all (okN 29)&&okN 30 d)=true then (d3 d (aL (al ds))).map (fun (j:Nat)=>D.int (j:Int)) else none)=_
  rw[hall,(cx 29 (h d hd)).1,Bool.and_self,Yn rfl,no hc hd];rfl
 have cm:cD (setV 0) dj (d2 kI (aN 1) (aN 0)) [none,some (.v (.lst (aL (al ds))))] ds=some (rkL ds):=by
  have:=c8 (st:=setV 0) (c:=dj) (e:=d2 kI (aN 1) (aN 0)) (ρ:=[none,some (.v (.lst (aL (al ds))))]) id (fun d=>D.int (rkD (al ds) d:Int)) ds fun d hd=>⟨_,rfl,rfl,by
   show kI (.lst (aL (al ds))) d=_
   exact hix d hd⟩
  rw[List.map_id] at this
  exact this
 have hset:b5 (bu 0) [some x,none]=some (aL (al ds)):=iU h hl (by rcases hx with rfl | rfl <;> rfl)
 have hb:bW 0 [some x,some (.v (.lst (aL (al ds))))]=some ds:=by rcases hx with rfl | rfl <;> rfl
 have hl2:ds.length≤16777216:=by omega
 show b_ (g_q6 C [some x,none])=_
 unfold g_q6
 rw[aI (ρ':=[some x,some (.v (.lst (aL (al ds))))]) (by rw[ee,cP,cw,hset];rfl)]
 rw[m_,cw,cC,hb,Yh,Yn hl2]
 show b_ (((cD _ _ _ [none,some (.v (.lst (aL (al ds))))] ds).map OD.lst).map _)=_
 rw[cm]
 rfl
theorem qc {k:Int}{acc:List D}{d:D}(ha:∀ x∈acc,bR k x)(hd:bR k d):∃ b,dn d (.lst acc)=some (.bl b)∧(b=true↔d∉acc):=by
 refine⟨!acc.any fun z=>eqd z d,?_,?_⟩
 ·show (if (okN 30 d&&acc.all (okN 29))=true then some (D.bl (!acc.any fun z=>eqd z d)) else none)=_
  rw[(cx 29 hd).1,show acc.all (okN 29)=true from Yj.mpr fun x hx=>(cx 28 (ha x hx)).1,Bool.and_self,Yn rfl]
 ·rw[Bool.not_eq_true']
  constructor
  ·intro z m
   have:(acc.any fun z=>eqd z d)=true:=List.any_eq_true.mpr ⟨d,m,(aX d d (dC hd hd)).mpr rfl⟩
   rw[z] at this
   cases this
  ·intro m
   cases z:acc.any fun z=>eqd z d with
   | false=>rfl
   | true=>
    obtain⟨x,hx,e⟩:=List.any_eq_true.mp z
    exact absurd ((aX x d (dC (ha x hx) hd)).mp e ▸ hx) m
theorem fT {c:Dk}{ρ:DF}(q:D→Bool):∀ xs:List D,(∀ x∈xs,c (ρ.set 0 (some (.v x)))=some (q x))→0<ρ.length→cD (setV 0) c (getV 0) ρ xs=some (xs.filter q)
 | [],_,_=>rfl
 | x::xs,h,hl=>by
  have ih:=fT q xs (fun y hy=>h y (Yb _ hy)) hl
  have hx:=h x Yc
  have hg:getV 0 (ρ.set 0 (some (.v x)))=some x:=by
   rw[nW,Zw hl]
  unfold cD
  rw[oZ,Yh,hx,Yh]
  cases hq:q x with
  | false=>rw[Yo Yg,ih,List.filter_cons_of_neg (by rw[hq];decide)]
  | true=>rw[Yn rfl,hg,Yh,ih,List.filter_cons_of_pos hq];rfl
theorem gj {k:Int}:∀ {as bs:List D},(∀ d∈as,bR k d)→(∀ d∈bs,bR k d)→av as bs=true
 | [],_,_,_=>rfl
 | _::_,[],_,_=>rfl
 | x::as,y::bs,ha,hb=>by
  rw[av,dC (ha x Yc) (hb y Yc),gj (fun d hd=>ha d (Yb _ hd)) fun d hd=>hb d (Yb _ hd)]
  rfl
theorem sg {k:Int}{ds:List D}(h:∀ d∈ds,bR k d):neD (.lst ds) (.lst ds)=some (.bl false):=by
 have o:okN 30 (.lst ds)=true:=Yj.mpr fun d hd=>(cx 28 (h d hd)).1
 have e:eqd (.lst ds) (.lst ds)=true:=(c7 ds ds (gj h h)).mpr rfl
 rw[p7 o o,e]
 rfl
theorem iJ {st:Dq}{body:Dw}{d:D}{ds:List D}{ρ ρ1 ρ2:DF}(h:st d ρ=some ρ1)(hb:body ρ1=some (.nx ρ2)):fH st body (d::ds) ρ=fH st body ds ρ2:=by
 rw[fH]
 simp only[h,hb]
theorem i5 {k:Int}{a0 a1 a2:Option DV}:∀ (ds acc:List D) (x4:Option DV),(∀ d∈ds,bR k d)→(∀ d∈acc,bR k d)→acc.length+ds.length≤1000→∃ y4,
  fH (setV 4) (dIf (asB (d2 dn (aN 4) (aN 3))) (kD 3 (getV 4)) dNx) ds [a0,a1,a2,some (.own (.lst acc) none),x4,none,none,none]=some (.nx [a0,a1,a2,some (.own (.lst (ds.foldl gW acc)) none),y4,none,none,none])
 | [],acc,x4,_,_,_=>⟨x4,rfl⟩
 | d::ds,acc,x4,h,ha,hl=>by
  rw[YB] at hl
  obtain⟨b,hn,hb⟩:=qc ha (h d Yc)
  have ll:acc.length<16777216:=by omega
  by_cases m:d∈acc
  ·obtain⟨y4,e⟩:=i5 (a0:=a0) (a1:=a1) (a2:=a2) ds acc (some (.v d)) (fun x hx=>h x (Yb _ hx)) ha (by omega)
   refine⟨y4,?_⟩
   rw[Vt,show gW acc d=acc from Yn m,← e]
   refine iJ (ρ1:=[a0,a1,a2,some (.own (.lst acc) none),some (.v d),none,none,none]) rfl ?_
   have b0:b=false:=by
    cases b with
    | false=>rfl
    | true=>exact absurd m (hb.mp rfl)
   simp[hn,b0]
  ·obtain⟨y4,e⟩:=i5 (a0:=a0) (a1:=a1) (a2:=a2) ds (acc++[d]) (some (.v d)) (fun x hx=>h x (Yb _ hx)) (fun x hx=>by
    rcases Yz.mp hx with q | q
    ·exact ha x q
    ·rw[YD] at q;subst q;exact h _ Yc) (by rw[Yk,Zz];omega)
   refine⟨y4,?_⟩
   rw[Vt,show gW acc d=acc++[d] from Yo m,← e]
   refine iJ (ρ1:=[a0,a1,a2,some (.own (.lst acc) none),some (.v d),none,none,none]) rfl ?_
   simp[hn,hb.mpr m,ll]
theorem re (a:List Int):eqd (.lst (a.map .int)) (.lst (a.map .int))=true:=lZ D.int (fun _ _=>rfl) a
theorem lR:∀ n:Nat,lT (.lst (List.replicate n (.bl true)))=some (.bl true):=by
 intro n
 show (if (List.replicate n (D.bl true)).all l5=true then some (D.bl ((List.replicate n (D.bl true)).all trD)) else none)=_
 have h1:(List.replicate n (D.bl true)).all l5=true:=Yj.mpr fun d hd=>by rw[(List.mem_replicate.mp hd).2];rfl
 have h2:(List.replicate n (D.bl true)).all trD=true:=Yj.mpr fun d hd=>by rw[(List.mem_replicate.mp hd).2];rfl
 rw[Yn h1,h2]
theorem eI (C:Addr)(is:List Int)(x:DV)(hx:x=.v (.lst (is.map .int))∨x=.bor (.lst (is.map .int)))(hl:is.length≤64):mT C [x,.v (.lst (is.map .int))]=some (.v (.bl true)):=by
 show b_ (g_q3 C [some x,some (.v (.lst (is.map .int)))])=_
 unfold g_q3
 have g0:aN 0 [some x,some (.v (.lst (is.map .int)))]=some (.lst (is.map .int)):=by rcases hx with rfl | rfl <;> rfl
 have b0:bW 0 [some x,some (.v (.lst (is.map .int)))]=some (is.map .int):=by rcases hx with rfl | rfl <;> rfl
 have hi:kZ "list" (.lst (is.map .int))=some (.bl true):=rfl
 rw[aI (ρ':=[some x,some (.v (.lst (is.map .int)))]) (by
  clear b0 g0
  generalize is.map D.int=U at *
  rcases hx with rfl | rfl <;> simp[hi])]
 have hc:(a8 1 [] (bW 0) (setV 0) dj (bn (mB C) (aB 0 (fun _=>some [])))) [some x,some (.v (.lst (is.map .int)))]=some (is.map fun _=>.bl true):=by
  rw[cC,b0,Yh,Yn (by rw[YA];omega)]
  refine c8 D.int (fun _=>.bl true) is fun i _=>⟨_,rfl,rfl,?_⟩
  have:mB C [.v (.int i)]=some (.v (.bl true)):=rfl
  generalize mB C=M at *
  simp[this]
 have ha:lT (.lst (is.map fun _=>.bl true))=some (.bl true):=by
  rw[List.map_const']
  exact lR _
 have he:eqD (.lst (is.map .int)) (.lst (is.map .int))=some (.bl true):=by
  unfold eqD
  rw[rb,re]
  rfl
 rw[ou,oF,pg,cP,cw,hc]
 show b_ (((match (lT (.lst (is.map fun _=>.bl true))) with | some (.bl true)=>d2 eqD (aN 0) (aN 1) [some x,some (.v (.lst (is.map .int)))] | some (.bl false)=>some (.bl false) | _=>none)).map _)=_
 rw[ha,l8,g0]
 show b_ ((eqD (.lst (is.map .int)) (.lst (is.map .int))).map _)=_
 rw[he]
 rfl
theorem rY {k:Int}{x y:D}(hx:bR k x)(hy:bR k y):ltd x y=some (.bl (ltD x y)):=by
 unfold ltd
 rw[(cx 29 hx).1,(cx 29 hy).1,dC hx hy]
 rfl
theorem law_true (C:Addr)(ns:List Int)(hl:ns.length≤63):rj C [.v (.lst (ns.map L2.D.int))]=some (.v (.bl true)):=by
 show b_ (g_q0 C [some (.v (.lst (ns.map .int))),none,none,none,none,none,none,none])=_
 unfold g_q0
 obtain⟨a,ea⟩:=sq C ns
 obtain⟨sp,es⟩:=fK C a 1873046521
 have ef:=cI sp 3 (by decide)
 generalize sp/3=so at *
 rw[aI (ρ':=[some (.v (.lst (ns.map .int))),some (.v (.int so)),none,none,none,none,none,none]) (by
  generalize ns.map D.int=U at *
  generalize iW C=M1 at *
  generalize oQ C=M2 at *
  simp[ea,es,ef])]
 have hls:b6 (d2 fF (asO (asL (dk (fun _=>some (.int 5)) gJ))) (asO (asL (slL (bu 0) bNo (bI (fun _=>some (.int 80))))))) [some (.v (.lst (ns.map .int))),some (.v (.int so)),none,none,none,none,none,none]=some ((5::ns.take 80).map .int):=by
  have hs:slL (bu 0) bNo (bI (fun _=>some (.int 80))) [some (.v (.lst (ns.map .int))),some (.v (.int so)),none,none,none,none,none,none]=some ((ns.take 80).map .int):=by
   rw[qe]
   show some (jC (ns.map D.int) none (some 80))=_
   rw[nv _ (by decide),List.map_take]
   rfl
  have la:1+((ns.take 80).map D.int).length≤16777216:=by rw[YA,YU];omega
  rw[l6,l8,cP,cw,cP,cw,hs]
  show (match (if 1+((ns.take 80).map D.int).length≤16777216 then some (D.lst ([.int 5]++(ns.take 80).map .int)) else none) with | some (.lst ds)=>some ds | _=>none)=_
  rw[Yn la]
  rfl
 have hk:∃ ds:List D,ds.length=(5::ns.take 80).length∧(∀ d∈ds,bR (so%3) d)∧(a8 1 [1] (b6 (d2 fF (asO (asL (dk (fun _=>some (.int 5)) gJ))) (asO (asL (slL (bu 0) bNo (bI (fun _=>some (.int 80)))))))) (setV 0) dj (bn (kF C) (aB 0 (aB 1 (fun _=>some []))))) [some (.v (.lst (ns.map .int))),some (.v (.int so)),none,none,none,none,none,none]=some ds:=by
  obtain⟨rows,h1,h2,h3⟩:=fJ (st:=setV 0) (c:=dj) (e:=(bn (kF C) (aB 0 (aB 1 (fun _=>some []))))) (ρ:=[none,some (.v (.int so))]) id (bR (so%3)) ((5::ns.take 80).map .int) (fun d hd=>by
   obtain⟨c,_,rfl⟩:=ZU.mp hd
   obtain⟨d,e,kd⟩:=qi C c so
   refine⟨[some (.v (.int c)),some (.v (.int so))],rfl,rfl,d,?_,kd⟩
   generalize kF C=M at *
   simp[e])
  rw[List.map_id] at h1
  refine⟨rows,by rw[h2,YA],h3,?_⟩
  rw[cC,hls,Yh,Yn (by rw[YA,YB,YU];omega)]
  exact h1
 obtain⟨ds,dl,hd,ed⟩:=hk
 have d64:ds.length≤64:=by rw[dl,YB,YU];omega
 rw[aI (ρ':=[some (.v (.lst (ns.map .int))),some (.v (.int so)),some (.v (.lst ds)),none,none,none,none,none]) (by rw[ee,cP,cw,ed];rfl)]
 rw[aI (ρ':=[some (.v (.lst (ns.map .int))),some (.v (.int so)),some (.v (.lst ds)),some (.own (.lst []) none),none,none,none,none]) rfl]
 obtain⟨y4,eu⟩:=i5 (a0:=some (.v (.lst (ns.map .int)))) (a1:=some (.v (.int so))) (a2:=some (.v (.lst ds))) ds [] none hd (fun d h=>by cases h) (by simp;omega)
 rw[aI (by exact eu)]
 rw[show ds.foldl gW []=al ds from rfl]
 have hdd:∀ d∈al ds,bR (so%3) d:=fun d h=>hd d (cy.mp h)
 have ddl:=cB ds
 have hin:∀ d∈ds,(a8 1 [0] (b6 (getV 1)) (setV 0) (asB (d2 ltd (aN 0) (aN 1))) (getV 0)) [some (.v d),some (.v (.lst (al ds)))]=some ((al ds).filter fun x=>ltD x d):=fun d h=>by
  rw[cC,show b6 (getV 1) [some (.v d),some (.v (.lst (al ds)))]=some (al ds) from rfl,Yh,Yn (by omega)]
  refine fT (fun x=>ltD x d) (al ds) (fun x hx=>?_) (by simp)
  have:=rY (hdd x hx) (hd d h)
  simp[this]
 have hdue:(a8 1 [3] (bW 2) (setV 0) dj (d1 dZ (asO (asL (a8 1 [0] (b6 (getV 1)) (setV 0) (asB (d2 ltd (aN 0) (aN 1))) (getV 0)))))) [some (.v (.lst (ns.map .int))),some (.v (.int so)),some (.v (.lst ds)),some (.v (.lst (al ds))),y4,none,none,none]=some (rkL ds):=by
  rw[cC,show bW 2 [some (.v (.lst (ns.map .int))),some (.v (.int so)),some (.v (.lst ds)),some (.v (.lst (al ds))),y4,none,none,none]=some ds from rfl,Yh,Yn (by omega)]
  have:=c8 (st:=setV 0) (c:=dj) (e:=(d1 dZ (asO (asL (a8 1 [0] (b6 (getV 1)) (setV 0) (asB (d2 ltd (aN 0) (aN 1))) (getV 0)))))) (ρ:=[none,some (.v (.lst (al ds)))]) id (fun d=>D.int (rkD (al ds) d:Int)) ds fun d h=>⟨[some (.v d),some (.v (.lst (al ds)))],rfl,rfl,by
   rw[pg,cP,cw,hin d h]
   rfl⟩
  rw[List.map_id] at this
  exact this
 rw[aI (ρ':=[some (.v (.lst (ns.map .int))),some (.v (.int so)),some (.v (.lst ds)),some (.v (.lst (al ds))),y4,some (.v (.lst (rkL ds))),none,none]) (by
  show di 5 (asO (asL (a8 1 [3] (bW 2) (setV 0) dj (d1 dZ (asO (asL (a8 1 [0] (b6 (getV 1)) (setV 0) (asB (d2 ltd (aN 0) (aN 1))) (getV 0)))))))) [some (.v (.lst (ns.map .int))),some (.v (.int so)),some (.v (.lst ds)),some (.v (.lst (al ds))),y4,none,none,none]=_
  rw[ee,cP,cw,hdue]
  rfl)]
 have r1:=dq C hd d64 (.bor (.lst ds)) (.inr rfl)
 have r2:=dq C hd d64 (.v (.lst ds)) (.inl rfl)
 have r3:=dq C (k:=0) (ds:=[]) (fun d h=>by cases h) (by decide) (.v (.lst [])) (.inl rfl)
 have hne:=sg hd
 obtain⟨d0,hd0⟩:∃ d,ixD (.lst ds) (.int 0)=some d:=by
  cases ds with
  | nil=>cases dl
  | cons d r=>
   refine⟨d,?_⟩
   show atI (d::r) 0=_
   rw[lS (by decide) (by simp)]
   rfl
 have rk:rkL ds=(ds.map fun d=>(rkD (al ds) d:Int)).map .int:=by unfold rkL;rw[List.map_map];rfl
 have n1:=eI C (ds.map fun d=>(rkD (al ds) d:Int)) (.bor (.lst (rkL ds))) (.inr (by rw[rk])) (by rw[YA];exact d64)
 have n2:=eI C (ds.map fun d=>(rkD (al ds) d:Int)) (.v (.lst (rkL ds))) (.inl (by rw[rk])) (by rw[YA];exact d64)
 rw[← rk] at n1 n2
 have r3':rkL []=[]:=rfl
 rw[r3'] at r3
 have he:eqD (.lst []) (.lst [])=some (.bl true):=rfl
 have dll:ds.length<16777216:=by omega
 generalize rkL ds=R at *
 generalize al ds=DD at *
 generalize ns.map D.int=U at *
 generalize ko C=Mr at *
 generalize mT C=Mn at *
 clear hdue hin eu ed hls
 rw[aI (ρ':=[some (.v (.lst U)),some (.v (.int so)),some (.v (.lst ds)),some (.v (.lst DD)),y4,some (.v (.lst R)),some (.own (.lst ds) none),none]) (by simp)]
 rw[aI (ρ':=[some (.v (.lst U)),some (.v (.int so)),some (.v (.lst ds)),some (.v (.lst DD)),y4,some (.v (.lst R)),some (.own (.lst ds) none),some (.own (.lst R) none)]) (by simp[r1])]
 rw[aI (ρ':=[some (.v (.lst U)),some (.v (.int so)),some (.v (.lst ds)),some (.v (.lst DD)),y4,some (.v (.lst R)),some (.own (.lst ds) none),some (.own (.lst R) none)]) (by simp[hne])]
 rw[aI (ρ':=[some (.v (.lst U)),some (.v (.int so)),some (.v (.lst ds)),some (.v (.lst DD)),y4,some (.v (.lst R)),some (.own (.lst (ds++[d0])) none),some (.own (.lst R) none)]) (by simp[hd0,dll])]
 rw[aI (ρ':=[some (.v (.lst U)),some (.v (.int so)),some (.v (.lst ds)),some (.v (.lst DD)),y4,some (.v (.lst R)),some (.own (.lst (ds++[d0])) none),some (.own (.lst R) none)]) (by simp[n1])]
 rw[aI (ρ':=[some (.v (.lst U)),some (.v (.int so)),some (.v (.lst ds)),some (.v (.lst DD)),y4,some (.v (.lst R)),some (.own (.lst (ds++[d0])) none),some (.own (.lst []) none)]) rfl]
 simp[r2,r3,n2,he]
def spLaw (K:Kq):Sp:=fun vs H Q _=>∃ (a:Addr) (ns:List Int),vs=[.ref a]∧SqL K H a (ns.map V.int)∧ns.length≤63∧∀ H',Q (.bl true) H'
theorem dI {K:Kq}{H:Hp}:∀ ns:List Int,Reps K H (ns.map V.int) (ns.map D.int)
 | []=>.nil
 | _::ns=>.cons .int (dI ns)
theorem ke {K:Kq}{m:Dm}(hm:∀ ns:List Int,ns.length≤63→m [.v (.lst (ns.map D.int))]=some (.v (.bl true))):∀ vs H Q E,spLaw K vs H Q E→spD K m vs H Q E:=by
 rintro vs H Q E ⟨a,ns,rfl,hS,hl,hQ⟩
 refine⟨fun _=>none,H,_,_,hm ns hl,⟨fun _ _ e=>e,fun _ _ e=>(by cases e),fun _ _ e=>(by cases e)⟩,.cons rfl (show Rep K H _ _ from .lst hS (dI ns)) .nil,fun v F' H' _ _ r=>?_⟩
 cases r
 exact hQ H'
theorem jF {α:Type}{us:List α}(h:us.length=1):∃ a,us=[a]:=List.length_eq_one_iff.mp h
theorem jH {α:Type}{us:List α}(h:us.length=2):∃ a1 a2,us=[a1,a2]:=by
 cases us with
 | nil=>cases h
 | cons a r=>
  obtain⟨a2,rfl⟩:=jF (Nat.succ.inj h)
  exact⟨a,a2,rfl⟩
def kE (P:Params)(x:Str)(t:Nat)(v:Value):DictEntry:=⟨PyData.keyHash P x,.str x t,v⟩
def fO (n q:Str)(s:Stmt)(m:Str)(t c:Nat):Obj:=⟨.type "function",none,.func (PySem.W.fnOf n q (defArgs s) (defBody s) (defScope s) .none .none .none (.str m t) none (.ref c) .none),#[]⟩
def cO (n:Str)(t:Nat)(q:Str)(u v:Nat)(l a f:Int)(r:Nat)(g:Int)(r2 r3:Nat)(h l2:Int)(y:Nat)(c d:Value:=.none):Obj:={ cls:=.type "code",data:=.fields #[.str n t,.str q u,.str "/claim/cut.py" v,.int l 0,.int a 0,.int 0 0,.int 0 0,.int f 0,.ref r,.bool true,.int g 0,.ref r2,.none,c,d,.ref r3,.int h 0,.int l2 0,.str "/claim/cut.py" y] }
def kz:Str := "__doc__"
def KK:Params→PySem.W.Frag:=fun P=>(fun (_:kz = "__doc__")=>
(nat_lit 3,{ cls:=.type "dict",data:=.dict #[kE P "__name__" 165 (.str "law_tieword_k06_ranked" 195),kE P "__doc__" 166 (.none),kE P "__package__" 167 (.none),kE P "__loader__" 168 (.builtin "__main__.__loader__#opaque"),kE P "__spec__" 169 (.none),kE P "__annotations__" 170 (.ref 6),kE P "__builtins__" 171 (.ref 4),kE P "__file__" 173 (.str "/claim/cut.py" 172),kE P "__cached__" 174 (.none),kE P "ranked" 194 (.ref 19),kE P "_law_at" 204 (.ref 26),kE P "_law_spread" 212 (.ref 33),kE P "_law_whole" 219 (.ref 40),kE P "_law_numbers" 225 (.ref 45),kE P "_law_key" 235 (.ref 52),kE P "law" 241 (.ref 57)] 16 }) ::
(nat_lit 18,cO "ranked" 189 "ranked" 190 191 2 1 3 15 181 16 17 192 2 193) ::
(nat_lit 19,fO "ranked" "ranked" ik "tieword.parting" 187 18) ::
(nat_lit 25,cO "_law_at" 197 "_law_at" 198 199 6 2 3 20 181 21 24 202 6 203 (.ref 22) (.ref 23)) ::
(nat_lit 26,fO "_law_at" "_law_at" je "law_tieword_k06_ranked" 195 25) ::
(nat_lit 32,cO "_law_spread" 205 "_law_spread" 206 207 10 2 3 27 181 28 31 210 10 211 (.ref 29) (.ref 30)) ::
(nat_lit 33,fO "_law_spread" "_law_spread" jt "law_tieword_k06_ranked" 195 32) ::
(nat_lit 39,cO "_law_whole" 213 "_law_whole" 214 215 12 1 3 34 181 35 38 217 12 218 (.ref 36) (.ref 37)) ::
(nat_lit 40,fO "_law_whole" "_law_whole" i4 "law_tieword_k06_ranked" 195 39) ::
(nat_lit 44,cO "_law_numbers" 220 "_law_numbers" 221 222 14 2 3 41 181 42 43 223 14 224) ::
(nat_lit 45,fO "_law_numbers" "_law_numbers" h_ "law_tieword_k06_ranked" 195 44) ::
(nat_lit 51,cO "_law_key" 226 "_law_key" 227 228 18 2 3 46 181 47 50 233 18 234 (.ref 48) (.ref 49)) ::
(nat_lit 52,fO "_law_key" "_law_key" jc "law_tieword_k06_ranked" 195 51) ::
(nat_lit 56,cO "law" 236 "law" 237 238 28 1 3 53 181 54 55 239 28 240) ::
(nat_lit 57,fO "law" "law" gR "law_tieword_k06_ranked" 195 56)::[]) rfl
set_option autoImplicit true in
set_option relaxedAutoImplicit true in
theorem all_mk {l:PySem.W.OpenLaw}{w:World}{K:Kq}{h:Heap}{mg:Ks}{fa:Addr}(X:K.In h)(G:h.Ns mainGlobals mg)(hfa:mg "law"=some (.ref fa))
  (a_q4:PySem.W.nsIn K mainGlobals "_law_spread"=some (some (.ref f_q4)))
  (l_q4:K.lookup f_q4=some ⟨oc_q4,od_q4,.func (PySem.W.fnOf "_law_spread" "_law_spread" (defArgs jt) (defBody jt) (defScope jt) .none kV_q4 dc_q4 pm_q4 an_q4 cd_q4 ct_q4),sl_q4⟩)
  (c_q4:PySem.W.codeIn K cd_q4 "_law_spread"=true)
  (k_q4:PySem.W.keepIn K (.ref f_q4)=true)
  (a_q1:PySem.W.nsIn K mainGlobals "_law_at"=some (some (.ref f_q1)))
  (l_q1:K.lookup f_q1=some ⟨oc_q1,od_q1,.func (PySem.W.fnOf "_law_at" "_law_at" (defArgs je) (defBody je) (defScope je) .none kV_q1 dc_q1 pm_q1 an_q1 cd_q1 ct_q1),sl_q1⟩)
  (c_q1:PySem.W.codeIn K cd_q1 "_law_at"=true)
  (k_q1:PySem.W.keepIn K (.ref f_q1)=true)
  (a_q2:PySem.W.nsIn K mainGlobals "_law_key"=some (some (.ref f_q2)))
  (l_q2:K.lookup f_q2=some ⟨oc_q2,od_q2,.func (PySem.W.fnOf "_law_key" "_law_key" (defArgs jc) (defBody jc) (defScope jc) .none kV_q2 dc_q2 pm_q2 an_q2 cd_q2 ct_q2),sl_q2⟩)
  (c_q2:PySem.W.codeIn K cd_q2 "_law_key"=true)
  (k_q2:PySem.W.keepIn K (.ref f_q2)=true)
  (a_q6:PySem.W.nsIn K mainGlobals "ranked"=some (some (.ref f_q6)))
  (l_q6:K.lookup f_q6=some ⟨oc_q6,od_q6,.func (PySem.W.fnOf "ranked" "ranked" (defArgs ik) (defBody ik) (defScope ik) .none kV_q6 dc_q6 pm_q6 an_q6 cd_q6 ct_q6),sl_q6⟩)
  (c_q6:PySem.W.codeIn K cd_q6 "ranked"=true)
  (k_q6:PySem.W.keepIn K (.ref f_q6)=true)
  (a_q5:PySem.W.nsIn K mainGlobals "_law_whole"=some (some (.ref f_q5)))
  (l_q5:K.lookup f_q5=some ⟨oc_q5,od_q5,.func (PySem.W.fnOf "_law_whole" "_law_whole" (defArgs i4) (defBody i4) (defScope i4) .none kV_q5 dc_q5 pm_q5 an_q5 cd_q5 ct_q5),sl_q5⟩)
  (c_q5:PySem.W.codeIn K cd_q5 "_law_whole"=true)
  (k_q5:PySem.W.keepIn K (.ref f_q5)=true)
  (a_q3:PySem.W.nsIn K mainGlobals "_law_numbers"=some (some (.ref f_q3)))
  (l_q3:K.lookup f_q3=some ⟨oc_q3,od_q3,.func (PySem.W.fnOf "_law_numbers" "_law_numbers" (defArgs h_) (defBody h_) (defScope h_) .none kV_q3 dc_q3 pm_q3 an_q3 cd_q3 ct_q3),sl_q3⟩)
  (c_q3:PySem.W.codeIn K cd_q3 "_law_numbers"=true)
  (k_q3:PySem.W.keepIn K (.ref f_q3)=true)
  (a_q0:PySem.W.nsIn K mainGlobals "law"=some (some (.ref f_q0)))
  (l_q0:K.lookup f_q0=some ⟨oc_q0,od_q0,.func (PySem.W.fnOf "law" "law" (defArgs gR) (defBody gR) (defScope gR) .none kV_q0 dc_q0 pm_q0 an_q0 cd_q0 ct_q0),sl_q0⟩)
  (c_q0:PySem.W.codeIn K cd_q0 "law"=true)
  (k_q0:PySem.W.keepIn K (.ref f_q0)=true)
  (z_all:PySem.W.nsIn K mainGlobals "all"=some none)
  (z_bool:PySem.W.nsIn K mainGlobals "bool"=some none)
  (z_int:PySem.W.nsIn K mainGlobals "int"=some none)
  (z_isinstance:PySem.W.nsIn K mainGlobals "isinstance"=some none)
  (z_len:PySem.W.nsIn K mainGlobals "len"=some none)
  (z_list:PySem.W.nsIn K mainGlobals "list"=some none)
  (z_set:PySem.W.nsIn K mainGlobals "set"=some none)
  (z_sorted:PySem.W.nsIn K mainGlobals "sorted"=some none) :
  ∃ fd:FuncData,(∀ (s:Shared) (v:Value),BindsTo s fd ⟨[v],[]⟩ [("_law_script",v)])∧∀ base:Heap,K.In base→base.Ns mainGlobals mg→FnOk l.prog w K mg base CX0 3 fa fd ["_law_script"] (spLaw K):=by
 have e:=hfa.symm.trans (Xb X G a_q0)
 cases e
 have F_q4:=cQ (st:=jt) l_q4 c_q4 k_q4
 have F_q1:=cQ (st:=je) l_q1 c_q1 k_q1
 have F_q2:=cQ (st:=jc) l_q2 c_q2 k_q2
 have F_q6:=cQ (st:=ik) l_q6 c_q6 k_q6
 have F_q5:=cQ (st:=i4) l_q5 c_q5 k_q5
 have F_q3:=cQ (st:=h_) l_q3 c_q3 k_q3
 have F_q0:=cQ (st:=gR) l_q0 c_q0 k_q0
 have T:Txt K mg ⟨0,f_q4,_,f_q1,_,f_q2,_,f_q6,_,f_q5,_,f_q3,_,f_q0,_⟩:={
  fn_q4:=F_q4
  bd_q4:=F_q4.binds fun _ _ _ _ _ _ us hl=>by obtain⟨v0,v1,rfl⟩:=jH hl;rfl
  g_q4:=Xb X G a_q4
  fn_q1:=F_q1
  bd_q1:=F_q1.binds fun _ _ _ _ _ _ us hl=>by obtain⟨v0,v1,rfl⟩:=jH hl;rfl
  g_q1:=Xb X G a_q1
  fn_q2:=F_q2
  bd_q2:=F_q2.binds fun _ _ _ _ _ _ us hl=>by obtain⟨v0,v1,rfl⟩:=jH hl;rfl
  g_q2:=Xb X G a_q2
  fn_q6:=F_q6
  bd_q6:=F_q6.binds fun _ _ _ _ _ _ us hl=>by obtain⟨v0,rfl⟩:=jF hl;rfl
  g_q6:=Xb X G a_q6
  fn_q5:=F_q5
  bd_q5:=F_q5.binds fun _ _ _ _ _ _ us hl=>by obtain⟨v0,rfl⟩:=jF hl;rfl
  g_q5:=Xb X G a_q5
  fn_q3:=F_q3
  bd_q3:=F_q3.binds fun _ _ _ _ _ _ us hl=>by obtain⟨v0,v1,rfl⟩:=jH hl;rfl
  g_q3:=Xb X G a_q3
  fn_q0:=F_q0
  bd_q0:=F_q0.binds fun _ _ _ _ _ _ us hl=>by obtain⟨v0,rfl⟩:=jF hl;rfl
  g_q0:=Xb X G a_q0
  b_all:=Zu X G z_all
  b_bool:=Zu X G z_bool
  b_int:=Zu X G z_int
  b_isinstance:=Zu X G z_isinstance
  b_len:=Zu X G z_len
  b_list:=Zu X G z_list
  b_set:=Zu X G z_set
  b_sorted:=Zu X G z_sorted }
 exact⟨_,fun s v=>.of_eq rfl,fun base _ _=>(sx T).imp (ke (law_true _))⟩
end My
namespace PySem.W.Fast
theorem tw2882618101827974176:True:=.intro
theorem tw10156895409028438305:True:=.intro
theorem tw2364549868810937825:True:=.intro
theorem tw4638595038132100993:True:=.intro
theorem tw4949331788764309571:True:=.intro
theorem tw14692797214965482213:True:=.intro
theorem tw4841800510586354533:True:=.intro
theorem tw7686464769561001094:True:=.intro
theorem tw15728787586603327718:True:=.intro
theorem tw6660012388226118951:True:=.intro
theorem tw4148960178111967113:True:=.intro
theorem tw5357192573421191274:True:=.intro
theorem tw3535345218161043690:True:=.intro
theorem tw9184682652668058508:True:=.intro
theorem tw5556074603378450509:True:=.intro
theorem tw9857297386721286669:True:=.intro
theorem tw4139671492880533102:True:=.intro
theorem tw1236864882359833262:True:=.intro
theorem tw10228599664546124143:True:=.intro
theorem tw16202614793659662927:True:=.intro
theorem tw12566587487149904080:True:=.intro
theorem tw18144256651625825872:True:=.intro
theorem tw15001087620288123186:True:=.intro
theorem tw12766755735024050899:True:=.intro
theorem tw16204297565570206934:True:=.intro
theorem tw13614315482875039510:True:=.intro
theorem tw5057474391539954520:True:=.intro
theorem tw18112847407466692762:True:=.intro
theorem tw15763405390853838010:True:=.intro
theorem tw15265324151517061594:True:=.intro
theorem tw9065872864998694203:True:=.intro
theorem tw14650619749229030939:True:=.intro
theorem tw10477864315613048667:True:=.intro
theorem tw5280803536544775003:True:=.intro
theorem tw14621589370889247611:True:=.intro
theorem tw9134519777751348572:True:=.intro
theorem tw5563545628902067487:True:=.intro
theorem tw11241197231253665535:True:=.intro
end PySem.W.Fast
open PySem PySem.W PyProof.Rows
set_option maxRecDepth 100000 in
set_option maxHeartbeats 0 in
theorem PySem.Challenge.cw_tieword_k06_ranked_holds : PySem.Challenge.rw_tieword_k06_ranked.Holds := by
  w_on; refine PySem.W.holds_law (by decide +kernel) fun said=>?_; o_head (PySem.W.kHook My.KK [3,18,19,25,26,32,33,39,40,44,45,51,52,56,57] (fun _=>by kernel_rfl)); (case hw=>w_witness2)
  k_fill
  refine L2.walk_ofK (l:=PySem.Challenge.rw_tieword_k06_ranked) (n:=63) (k:=3) (x := "_law_script") (CX:=L2.CX0) (sp:=My.spLaw) rfl (by decide) rfl ⟨rfl,by decide,by decide⟩ (fun w h Y=>PySem.W.kIn_of Y) ?F (fun K H a ns hl _ hS=>⟨a,ns,rfl,hS,hl,fun _=>rfl⟩) fun _ _ _ _ z=>z
  case F=>
    intro w mg fa h KX G hmg
    refine' My.all_mk KX G hmg ..
    all_goals (try k_is)
    all_goals kernel_rfl
