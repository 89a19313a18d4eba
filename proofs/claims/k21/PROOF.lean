import PyProof.Rows.All
import Wide.All
import OpenK.AllK
import Wide.FinOn
import Lean
import PyProof.EqAt
import PyProof.EqKinds
import PyProof.TupleCall
import PyProof.ReprStr
import PyProof.Rows.FStr
import PyProof.Rows.SetFrom
import PyProof.EnumFor
import PyProof.EnumMake
import PyProof.ZipIter
import KE.KRevIter
import PyProof.ListRange
import PyProof.FactsAll.range_iterator_1
import KE.KIntText
import PyProof.CallStr
import PyProof.Rows.TupDisplay
import PyProof.Rows.MinMaxN
import PySem.SetOps
import PyProof.CollectWalk
import PyProof.Rows.SortShell
import PyProof.SetRoads
import PyProof.StrOps2
import PySem.Challenge.RW_tieword_k21_texts_read
set_option Elab.async false
set_option linter.all false
set_option maxRecDepth 100000
set_option compiler.extract_closed false
set_option bootstrap.genMatcherCode false
set_option genSizeOf false
set_option genSizeOfSpec false
namespace L2
def Ya:=@Option.bind_some
def Yb:=@List.length_map
def Yc:=@List.length_append
def Yd:=@List.mem_cons_of_mem
def Ye:=@Option.bind_eq_some_iff
def Yf:=@List.mem_cons_self
def Yg:=@List.length_cons
def Yh:=@if_pos
def Yi:=@List.append_nil
def Yj:=@List.mem_append
def Yk:=@decide_eq_false
def Yl:=@List.mem_singleton
def Ym:=@List.size_toArray
def Yn:=@List.append_assoc
def Yo:=@List.mem_map
def Yp:=@Bool.false_ne_true
def Yq:=@Option.some.inj
def Yr:=@if_neg
def Ys:=@Bool.and_eq_true
def Yt:=@PySem.Heap.get?_push_of_some
def Yu:=@PySem.wpAny_bind
def Yv:=@List.getElem?_eq_getElem
def Yw:=@List.length_replicate
def Yx:=@Nat.le_refl
def Yy:=@Nat.lt_of_lt_of_le
def Yz:=@List.map_append
def YA:=@List.map_cons
def YB:=@decide_eq_true_eq
def YC:=@List.mem_cons
def YD:=@List.nodup_cons
def YE:=@PySem.Heap.lt_size
def YF:=@decide_eq_true
def YG:=@List.all_eq_true
def YH:=@List.getElem?_map
def YI:=@PySem.Heap.get?_push_size
def YJ:=@List.nodup_append
def YK:=@PySem.sizeLine_eq
def YL:=@Nat.ne_of_lt
def YM:=@List.getElem?_eq_some_iff
def YN:=@congrArg
def YO:=@Nat.zero_le
def YQ:=@Nat.le_trans
def YR:=@List.getD_eq_getElem?_getD
def YS:=@of_decide_eq_true
def YT:=@List.mem_append_right
def YU:=@List.flatMap_append
def YV:=@PySem.wpAny_pure
def YW:=@List.length_nil
def YX:=@PySem.F.plainAttrs_list
def YY:=@Nat.lt_of_le_of_lt
def YZ:=@List.length_set
def Za:=@List.map_nil
def Zb:=@decide_eq_false_iff_not
def Zc:=@List.find?_cons
def Zd:=@PySem.wpAny_truthy_bool
def Ze:=@Nat.add_right_comm
def Zf:=@Nat.le_antisymm
def Zg:=@List.map_map
def Zh:=@Nat.lt_irrefl
def Zi:=@List.getElem?_set_ne
def Zj:=@List.mem_of_getElem?
def Zk:=@PySem.W.kia_one
def Zl:=@List.mem_flatMap
def Zm:=@beq_eq_false_iff_ne
def Zn:=@PySem.mem_of_lookup
def Zo:=@Nat.le_of_lt_succ
def Zp:=@Nat.lt_of_le_of_ne
def Zq:=@List.nil_append
def Zr:=@List.getElem?_append_right
def Zs:=@Array.length_toList
def Zt:=@List.mem_range
def Zu:=@List.getElem?_append_left
def Zv:=@Nat.le_of_lt
def Zw:=@Nat.le_add_left
def Zx:=@List.pairwise_cons
def Zy:=@Nat.le_of_not_lt
def Zz:=@List.mem_singleton_self
def ZA:=@PySem.wpAny_mono
def ZB:=@Option.map_some
def ZC:=@List.getElem?_set_self
def ZD:=@List.length_singleton
def ZE:=@Nat.add_assoc
def ZF:=@Int.emod_lt_of_pos
def ZG:=@Nat.le_sub_one_of_lt
def ZH:=@PySem.wpAny_passesOwn
def ZI:=@Option.isSome_iff_exists
def ZJ:=@PySem.F.slot_list_append
def ZK:=@PySem.F.type_list_append
def ZL:=@PySem.PassesOwn.never
def ZM:=@Nat.le_of_eq
def ZN:=@List.getElem?_replicate
def ZO:=@List.length_eq_zero_iff
def ZP:=@List.getElem?_cons_zero
def ZQ:=@PySem.W.cellsFrom_some
def ZR:=@List.Perm.append_right
def ZS:=@PySem.tupleKind_room_in1
def ZT:=@Nat.lt_trans
def ZU:=@PySem.wpAny_loadPart'
def ZV:=@Array.getD_eq_getD_getElem?
def ZW:=@Int.emod_nonneg
def ZX:=@List.Perm.append_left
def ZY:=@List.perm_append_comm
def ZZ:=@Nat.lt_succ_of_lt
def Xa:=@List.any_cons
def Xb:=@PySem.Heap.get?_push_ne
def Xc:=@List.mem_append_left
def Xd:=@Nat.succ_le_succ
def Xe:=@Nat.add_sub_cancel'
def Xf:=@List.replicate_succ
def Xg:=@beq_iff_eq
def Xh:=@PySem.wpAny_Call_Name_kw
def Xi:=@Nat.lt_add_of_pos_right
def Xj:=@List.getElem?_cons_succ
def Xk:=@PySem.Calls.callWith_builtin
def Xl:=@List.take_of_length_le
def Xm:=@List.reverse_cons
def Xn:=@List.eraseIdxIfInBounds_toArray
def Xo:=@List.length_range
def Xp:=@Nat.le_of_succ_le
def Xq:=@PySem.Heap.size_push
def Xr:=@List.Perm.refl
def Xs:=@PySem.F.slot_dict_get
def Xt:=@List.getElem?_eq_none
def Xu:=@Nat.lt_succ_self
def Xv:=@PySem.Heap.size_update
def Xw:=@Bool.not_eq_true
def Xx:=@PySem.wpAny_holding
def Xy:=@List.filterMap_cons
def Xz:=@PySem.wpAny_execs_nil
def XA:=@PySem.W.plainGet_of
def XB:=@PySem.pushCells_keeps
def XC:=@PySem.codeAny_builtin
def XD:=@List.getElem_of_mem
def XE:=@List.length_pos_iff
def XF:=@List.replicate_zero
def XG:=@PySem.W.callWith_K
def XH:=@Bool.false_eq_true
def XI:=@List.zip_cons_cons
def XJ:=@Ne.symm
def XL:=@List.nodup_nil
def XM:=@Option.isSome_map
def XN:=@List.pairwise_map
def XO:=@Bool.true_and
def XQ:=@Nat.sub_lt
end L2
namespace L2
open PySem PySem.Spec PyProof.Rows
abbrev Kq:=PySem.W.Frag
abbrev Kv:=Value→Shared→Prop
abbrev Kp:=List (Addr×Obj)
abbrev Ks:=Str→Option Value
abbrev Ka:=Array (Int×Value)
abbrev Kb:=Bool→Shared→Prop
abbrev Ko:=Option Value→Shared→Prop
abbrev Kl:=List Value→Shared→Prop
abbrev Kr:=Result→Shared→Prop
abbrev Key:=Sum Int Str
def kH:Key→Value→Bool
 | .inl k,v=>Value.isInt k v
 | .inr x,v=>Value.isStrOf x v
def Fl (w:World):Key→Int
 | .inl k=>hashInt k
 | .inr x=>hashStr w x
theorem bQ:∀ {k:Key} {v:Value},kH k v=true→(∃ i t,k=Sum.inl i∧v=Value.int i t)∨(∃ x t,k=Sum.inr x∧v=Value.str x t)
 | .inl i,v,h=>by
  obtain⟨t,e⟩:=Value.isInt_shape (k:=i) (v:=v) h
  exact .inl ⟨i,t,rfl,e⟩
 | .inr x,v,h=>by
  obtain⟨t,e⟩:=Value.isStrOf_shape (x:=x) (v:=v) h
  exact .inr ⟨x,t,rfl,e⟩
theorem rQ (i:Int)(t:Tok):kH (.inl i) (.int i t)=true:=by simp[kH,Value.isInt]
theorem d_ (x:Str)(t:Tok):kH (.inr x) (.str x t)=true:=by simp[kH,Value.isStrOf]
theorem BO (a b:Int):decide ((Sum.inl a:Key)=Sum.inl b)=(a == b):=by
 by_cases e:a=b
 ·subst e;simp
 ·have h:¬ (Sum.inl a:Key)=Sum.inl b:=fun q=>e (Sum.inl.inj q)
  rw[Yk h]
  exact (Zm.mpr e).symm
theorem pC (a b:Str):decide ((Sum.inr a:Key)=Sum.inr b)=decide (a=b):=by
 by_cases e:a=b
 ·subst e;simp
 ·have h:¬ (Sum.inr a:Key)=Sum.inr b:=fun q=>e (Sum.inr.inj q)
  rw[Yk h,Yk e]
theorem Ah (a:Int)(b:Str):decide ((Sum.inl a:Key)=Sum.inr b)=false:=Yk (fun q=>nomatch q)
theorem Bj (a:Str)(b:Int):decide ((Sum.inr a:Key)=Sum.inl b)=false:=Yk (fun q=>nomatch q)
def bp (prog:Program)(w:World):PySem.KeyKind prog w Key where
 is:=kH
 hash:=Fl w
 inj:=fun v a b ha hb=>by
  rcases bQ ha with⟨i,t,rfl,rfl⟩ | ⟨x,t,rfl,rfl⟩
  ·rcases bQ hb with⟨j,u,rfl,e⟩ | ⟨y,u,rfl,e⟩
   ·injection e with e1 _;rw[e1]
   ·exact nomatch e
  ·rcases bQ hb with⟨j,u,rfl,e⟩ | ⟨y,u,rfl,e⟩
   ·exact nomatch e
   ·injection e with e1 _;rw[e1]
 byValue:=fun k v h=>by
  rcases bQ h with⟨i,t,rfl,rfl⟩ | ⟨x,t,rfl,rfl⟩ <;> rfl
 pyHash:=fun hv h=>by
  rcases bQ hv with⟨i,t,rfl,rfl⟩ | ⟨x,t,rfl,rfl⟩
  ·exact wpAny_pyHash_int h
  ·exact wpAny_pyHash_str h
 eqBool:=fun hu hv h=>by
  rcases bQ hu with⟨i,t,rfl,rfl⟩ | ⟨x,t,rfl,rfl⟩
  ·rcases bQ hv with⟨j,u,rfl,rfl⟩ | ⟨y,u,rfl,rfl⟩
   ·rw[BO] at h;exact wpAny_eqBool_int h
   ·rw[Ah] at h;exact SeqAt.EqAt.int_str i t y u _ _ _ _ h
  ·rcases bQ hv with⟨j,u,rfl,rfl⟩ | ⟨y,u,rfl,rfl⟩
   ·rw[Bj] at h;exact SeqAt.EqAt.str_int x t j u _ _ _ _ h
   ·rw[pC] at h;exact wpAny_eqBool_str h
 «strs»:=fun k x t v h=>by
  rcases bQ h with⟨i,u,rfl,e⟩ | ⟨y,u,rfl,e⟩
  ·exact nomatch e
  ·injection e with e1 _
   subst e1
   cases v <;> rfl
theorem nX (prog:Program)(w:World)(i:Int)(t:Tok):(bp prog w).is (.inl i) (.int i t)=true:=rQ i t
theorem oB (prog:Program)(w:World)(x:Str)(t:Tok):(bp prog w).is (.inr x) (.str x t)=true:=d_ x t
inductive V where
 | non | bl (b:Bool) | int (i:Int) | str (x:Str) | byt (b:Array UInt8) | flt (b:UInt64) | ref (a:Addr) | ty (n:String)
def RelV:V→Value→Prop
 | .non,u=>u=Value.none
 | .bl b,u=>u=Value.bool b
 | .int i,u=>∃ t,u=Value.int i t
 | .str x,u=>∃ t,u=Value.str x t
 | .byt b,u=>∃ t,u=Value.bytes b t
 | .flt b,u=>∃ t,u=Value.float b t
 | .ref a,u=>u=Value.ref a
 | .ty n,u=>u=Value.type n
abbrev Vals:List V→List Value→Prop:=Paired RelV
theorem Vals.length {xs:List V}{us:List Value}(r:Vals xs us):xs.length=us.length:=Paired.length r
theorem Vals.get:∀ {xs:List V} {us:List Value} {i:Nat} {x:V},Vals xs us→xs[i]?=some x→∃ u,us[i]?=some u∧RelV x u
 | _,_,_,_,.nil,e=>by simp at e
 | _,_,0,_,.cons r _,e=>by simp at e;subst e;exact⟨_,rfl,r⟩
 | _,_,i+1,x,.cons _ t,e=>by
  obtain⟨u,h1,h2⟩:=Vals.get (i:=i) (x:=x) t (by simpa using e)
  exact⟨u,by simpa using h1,h2⟩
theorem Vals.set {x:V}{u:Value}(r:RelV x u):∀ {xs:List V} {us:List Value} (i:Nat),Vals xs us→Vals (xs.set i x) (us.set i u)
 | _,_,_,.nil=>.nil
 | _,_,0,.cons _ t=>.cons r t
 | _,_,i+1,.cons q t=>.cons q (Vals.set r i t)
theorem Vals.append {xs ys:List V}{us ws:List Value}(h:Vals xs us)(s:Vals ys ws):Vals (xs++ys) (us++ws):=by
 induction h with
 | nil=>exact s
 | cons r _ ih=>exact .cons r ih
def RelO:Option V→Option Value→Prop
 | some v,some u=>RelV v u
 | none,none=>True
 | _,_=>False
def KV {κ:Type}:List (κ×V)→List (κ×Value)→Prop:=Paired fun (p:κ×V) (q:κ×Value)=>p.1=q.1∧RelV p.2 q.2
def kV:Key→V
 | .inl i=>.int i
 | .inr x=>.str x
inductive HO where
 /-- a list -/
 | lst (xs:List V)
 /-- a tuple (never changes) -/
 | tup (xs:List V)
 /-- a dict whose keys are ints and texts;one whose keys are tuples of ints and texts (the empty one is both) -/
 | dK (kvs:List (Key×V)) | dT (kvs:List (List Key×V))
 /-- a set of ints: its members,its size -/
 | set (S:Int→Bool) (n:Nat)
 /-- an instance of the class at C,its dict at dx,its attributes -/
 | ins (C dx:Addr) (fs:List (Str×V))
 /-- the dict of the instance at x -/
 | own (x:Addr)
 /-- the dict of an exception -/
 | xd (fs:List (Str×V))
 /-- a bound method,f of x -/
 | met (f x:Addr)
 /-- a range object lo,lo+1,.. below hi -/
 | rng (lo hi:Int)
 /-- a thing that is known to the object (the script;a dict while a loop walks it): read,never written while it is so -/
 | frz (o:Obj) (u:HO)
 /-- a code object's table -/
 | tbl (ps:Array Value)
 /-- any other thing,by what is true of its one object (a def of one's own: SetO a S n:=HO.ext fun h=>..) -/
 | ext (φ:Heap→Prop)
abbrev Hp:=Addr→Option HO
def upd (H:Hp)(a:Addr)(o:HO):Hp:=fun b=>if b=a then some o else H b
theorem aw {H:Hp}{a:Addr}{o:HO}:upd H a o a=some o:=by unfold upd;rw[Yh rfl]
theorem ay {H:Hp}{a b:Addr}{o:HO}(h:b≠a):upd H a o b=H b:=by unfold upd;rw[Yr h]
theorem DE {H:Hp}{a b:Addr}{o u:HO}(h:H a=some o)(h':H b=some u)(d:o≠u):a≠b:=by
 intro e;subst e;rw[h] at h';exact d (Yq h')
theorem bb {H:Hp}{a b:Addr}{o:HO}(h:H a=some o)(h':H b=none):a≠b:=by
 intro e;subst e;rw[h] at h';cases h'
def NoD (h:Heap)(a:Addr):Prop:=∃ o,h.get? a=some o∧o.dict=none
theorem NoD.new (h:Heap)(items:Array Value):NoD (h.push { cls:=.type "tuple",data:=.seq items }) h.objs.size:=⟨_,YI _ rfl,rfl⟩
section
variable (P:Program) (w:World)
def ObjOk (H:Hp)(h:Heap)(a:Addr):HO→Prop
 | .lst xs=>xs.length≤sizeLine∧∃ (its:List Value) (n:Nat),Vals xs its∧h.get? a=some { cls:=.type "list",data:=.seq its.toArray n }
 | .tup xs=>xs.length≤sizeLine∧∃ its:List Value,Vals xs its∧IsTup h a its.toArray∧NoD h a
 | .dK kvs=>kvs.length≤sizeLine∧(a == sysModules)=false∧∃ vs,KV kvs vs∧h.DictOf (bp P w) a vs
 | .dT kvs=>kvs.length≤sizeLine∧(a == sysModules)=false∧∃ xs:List (List Key×Addr×Value),
   Paired (fun (p:List Key×V) (q:List Key×Addr×Value)=>p.1=q.1∧H q.2.1=some (.tup (p.1.map kV))∧RelV p.2 q.2.2) kvs xs ∧
   ∃ o es ep,h.get? a=some o∧o.ExactDict∧o.data=.dict es ep∧es.toList=xs.map (entryOfKey (tupleKind (bp P w)))∧(xs.map (·.1)).Nodup
 | .set S n=>h.SetOf (intKind P w) a S n
 | .ins C dx fs=>H dx=some (.own a)∧fs.length≤1000∧dx≠a∧h.get? a=some (PySem.W.instObj C dx) ∧
   ∃ mA,h.Ns1 dx mA∧(∀ f,RelO (fs.lookup f) (mA f))∧PySem.Within mA (fs.map (·.1))
 | .own _=>∃ o,h.get? a=some o
 | .xd fs=>∃ mA,h.Ns1 a mA∧∀ f,RelO (fs.lookup f) (mA f)
 | .rng lo hi=>∃ t u v,h.get? a=some { cls:=.type "range",data:=.fields #[.int lo t,.int hi u,.int 1 v] }
 | .frz o u=>h.get? a=some o∧ObjOk H h a u
 | .tbl ps=>h.get? a=some { cls:=.none,data:=.fields ps }
 | .met f x=>h.get? a=some (PySem.W.methodObj (.ref f) (.ref x))
 | .ext φ=>φ h∧(∃ o,h.get? a=some o)∧∀ h1 h2:Heap,φ h1→(∀ o,h1.get? a=some o→h2.get? a=some o)→φ h2
def HOk (H:Hp)(h:Heap):Prop:=∀ a o,H a=some o→ObjOk P w H h a o
end
section
variable {P:Program} {w:World} {H H':Hp} {h h':Heap} {a:Addr} {o:HO}
theorem ObjOk.lt (x:ObjOk P w H h a o):a<h.objs.size:=by
 cases o with
 | lst xs=>obtain⟨_,_,_,_,e⟩:=x;exact YE e
 | tup xs=>obtain⟨_,_,_,p,_⟩:=x;exact p.lt
 | dK kvs=>obtain⟨_,_,_,_,o,_,_,e,_⟩:=x;exact YE e
 | dT kvs=>obtain⟨_,_,_,_,o,_,_,e,_⟩:=x;exact YE e
 | set S n=>obtain⟨o,_,_,_,e,_⟩:=x;exact YE e
 | ins C dx fs=>obtain⟨_,_,_,e,_⟩:=x;exact YE e
 | own y=>obtain⟨_,e⟩:=x;exact YE e
 | xd fs=>obtain⟨_,⟨_,_,_,e,_⟩,_⟩:=x;exact YE e
 | rng lo hi=>obtain⟨_,_,_,e⟩:=x;exact YE e
 | frz ob u=>obtain⟨e,_⟩:=x;exact YE e
 | tbl ps=>exact YE (show h.get? a=some _ from x)
 | met f y=>exact YE (show h.get? a=some _ from x)
 | ext φ=>obtain⟨_,⟨_,e⟩,_⟩:=x;exact YE e
theorem Paired.mapP {α β:Type}{F G:α→β→Prop}{l₁:List α}{l₂:List β}(h:Paired F l₁ l₂)(f:∀ a b,F a b→G a b):Paired G l₁ l₂:=by
 induction h with
 | nil=>exact .nil
 | cons r _ ih=>exact .cons (f _ _ r) ih
theorem ObjOk.stay (x:ObjOk P w H h a o)(k:∀ b u,(b=a∨H b=some (.own a))→h.get? b=some u→h'.get? b=some u)
  (ho:∀ b,H b=some (.own a)→H' b=some (.own a)) (ht:∀ b xs,H b=some (.tup xs)→H' b=some (.tup xs)):ObjOk P w H' h' a o:=by
 induction o with
 | lst xs=>obtain⟨z,its,n,r,e⟩:=x;exact⟨z,its,n,r,k _ _ (.inl rfl) e⟩
 | tup xs=>obtain⟨z,its,r,⟨ob,e,c⟩,ob2,e2,c2⟩:=x;exact⟨z,its,r,⟨ob,k _ _ (.inl rfl) e,c⟩,ob2,k _ _ (.inl rfl) e2,c2⟩
 | dK kvs=>obtain⟨z,y,vs,r,ob,es,ep,e,c⟩:=x;exact⟨z,y,vs,r,ob,es,ep,k _ _ (.inl rfl) e,c⟩
 | dT kvs=>
  obtain⟨z,y,xs,r,ob,es,ep,e,c⟩:=x
  exact⟨z,y,xs,Paired.mapP r fun p q z=>⟨z.1,ht _ _ z.2.1,z.2.2⟩,ob,es,ep,k _ _ (.inl rfl) e,c⟩
 | set S n=>obtain⟨ob,es,ep,t,e,c⟩:=x;exact⟨ob,es,ep,t,k _ _ (.inl rfl) e,c⟩
 | ins C dx fs=>
  obtain⟨d,z,ne,e,mA,⟨od,es,ep,e2,c⟩,r⟩:=x
  exact⟨ho _ d,z,ne,k _ _ (.inl rfl) e,mA,⟨od,es,ep,k _ _ (.inr d) e2,c⟩,r⟩
 | own y=>obtain⟨ob,e⟩:=x;exact⟨ob,k _ _ (.inl rfl) e⟩
 | xd fs=>obtain⟨mA,⟨od,es,ep,e,c⟩,r⟩:=x;exact⟨mA,⟨od,es,ep,k _ _ (.inl rfl) e,c⟩,r⟩
 | rng lo hi=>obtain⟨t,u,v,e⟩:=x;exact⟨t,u,v,k _ _ (.inl rfl) e⟩
 | frz ob u ih=>obtain⟨e,q⟩:=x;exact⟨k _ _ (.inl rfl) e,ih q⟩
 | tbl ps=>
  have e:h.get? a=some { cls:=.none,data:=.fields ps }:=x
  show h'.get? a=some { cls:=.none,data:=.fields ps }
  exact k a _ (.inl rfl) e
 | met f y=>
  have e:h.get? a=some (PySem.W.methodObj (.ref f) (.ref y)):=x
  show h'.get? a=some (PySem.W.methodObj (.ref f) (.ref y))
  exact k a _ (.inl rfl) e
 | ext φ=>obtain⟨p,⟨o,e⟩,st⟩:=x;exact⟨st _ _ p fun o q=>k _ _ (.inl rfl) q,⟨o,k _ _ (.inl rfl) e⟩,st⟩
theorem HOk.lt (x:HOk P w H h)(e:H a=some o):a<h.objs.size:=(x a o e).lt
theorem HOk.fresh (x:HOk P w H h)(e:h.objs.size≤a):H a=none:=by
 cases q:H a with
 | none=>rfl
 | some u=>exact absurd (Yy (x.lt q) e) (Zh _)
theorem HOk.kept (x:HOk P w H h)(k:∀ b u,h.get? b=some u→h'.get? b=some u):HOk P w H h':=fun a o e=>
 (x a o e).stay (fun b u _ q=>k b u q) (fun _ q=>q) fun _ _ q=>q
theorem HOk.laid (x:HOk P w H h)(k:∀ b u,h.get? b=some u→h'.get? b=some u)(hp:h.objs.size≤a)(new:ObjOk P w (upd H a o) h' a o):HOk P w (upd H a o) h':=fun b u e=>by
 have hn:=x.fresh hp
 by_cases hb:b=a
 ·subst hb;rw[aw] at e;cases e;exact new
 ·rw[ay hb] at e
  exact (x b u e).stay (fun c v _ q=>k c v q) (fun c q=>by rw[ay (bb q hn)];exact q) fun c xs q=>by rw[ay (bb q hn)];exact q
end
def Rd (H:Hp)(a:Addr)(u:HO):Prop:=H a=some u∨∃ o,H a=some (.frz o u)
theorem Rd.ok {P:Program}{w:World}{H:Hp}{h:Heap}{a:Addr}{u:HO}(r:Rd H a u)(x:HOk P w H h):ObjOk P w H h a u:=by
 rcases r with r | ⟨o,r⟩
 ·exact x a u r
 ·obtain⟨_,q⟩:=x a _ r
  exact q
def Mut:Option HO→Prop
 | some (.lst _)=>True
 | some (.dK _)=>True
 | some (.dT _)=>True
 | some (.set _ _)=>True
 | some (.ins _ _ _)=>True
 | some (.ext _)=>True
 | _=>False
section
variable {P:Program} {w:World} {H:Hp} {h h':Heap} {x e:Addr} {o':HO}
theorem HOk.write (ok:HOk P w H h)(mu:Mut (H x))(he:e=x∨H e=some (.own x))(k:∀ b u,b≠e→h.get? b=some u→h'.get? b=some u)(heo:∃ u,h'.get? e=some u)
  (new:ObjOk P w (upd H x o') h' x o'):HOk P w (upd H x o') h':=fun b u q=>by
 have nown:∀ c y,H c=some (.own y)→c≠x:=fun c y r z=>by subst z;rw[r] at mu;exact mu
 have ntup:∀ c xs,H c=some (.tup xs)→c≠x:=fun c xs r z=>by subst z;rw[r] at mu;exact mu
 by_cases hb:b=x
 ·subst hb;rw[aw] at q;cases q;exact new
 ·rw[ay hb] at q
  by_cases hbe:b=e
  ·have q':H b=some (.own x):=by
    rcases he with z | z
    ·exact absurd (hbe.trans z) hb
    ·rw[hbe];exact z
   rw[q] at q';cases q'
   obtain⟨v,hv⟩:=heo
   exact⟨v,by rw[hbe];exact hv⟩
  ·refine (ok b u q).stay (fun c v hc r=>k c v ?_ r) (fun c r=>by rw[ay (nown c b r)];exact r) fun c xs r=>by rw[ay (ntup c xs r)];exact r
   rcases hc with rfl | hc
   ·exact hbe
   ·rintro rfl
    rcases he with z | z
    ·exact nown c b hc z
    ·rw[hc] at z;cases z;exact hb rfl
end
structure Un (fs ex:List Addr) (H H':Hp) (h h':Heap):Prop where
 keep:∀ b o,h.get? b=some o→H b=none→b∉fs→b∉ex→h'.get? b=some o
 slot:∀ b o,h.get? b=some o→H b=none→b∈fs→b∉ex→∃ sl,h'.get? b=some { o with slots:=sl }
 free:∀ b o,h.get? b=some o→H b=none→b∉ex→H' b=none
 there:∀ b o,h.get? b=some o→b∉ex→∃ o',h'.get? b=some o'
 tups:∀ b xs,H b=some (.tup xs)→H' b=some (.tup xs)
 frzs:∀ b o u,H b=some (.frz o u)→H' b=some (.frz o u)
 tbls:∀ b ps,H b=some (.tbl ps)→∃ more,H' b=some (.tbl (ps++more))
section
variable {fs fs' ex ex':List Addr} {H H1 H2:Hp} {h h1 h2 h':Heap} {a x e:Addr} {o:HO}
theorem Un.any (u:Un fs ex H H1 h h1){b:Addr}{ob:Obj}(q:h.get? b=some ob)(n:H b=none)(hx:b∉ex):∃ sl,h1.get? b=some { ob with slots:=sl }:=by
 by_cases hb:b∈fs
 ·exact u.slot b ob q n hb hx
 ·exact⟨ob.slots,u.keep b ob q n hb hx⟩
theorem Un.kept (k:∀ b u,h.get? b=some u→h'.get? b=some u):Un fs ex H H h h':=
 ⟨fun b ob q _ _ _=>k b ob q,fun b ob q _ _ _=>⟨ob.slots,k b ob q⟩,fun _ _ _ n _=>n,fun b ob q _=>⟨ob,k b ob q⟩,fun _ _ q=>q,fun _ _ _ q=>q,fun _ ps q=>⟨#[],by rw[q];simp⟩⟩
theorem Un.refl:Un fs ex H H h h:=Un.kept fun _ _ q=>q
theorem Un.laid (k:∀ b u,h.get? b=some u→h'.get? b=some u)(hp:h.objs.size≤a)(hn:H a=none):Un fs ex H (upd H a o) h h' where
 keep:=fun b u q _ _ _=>k b u q
 slot:=fun b u q _ _ _=>⟨u.slots,k b u q⟩
 free:=fun b u q n _=>by rw[ay (YL (Yy (YE q) hp))];exact n
 there:=fun b u q _=>⟨u,k b u q⟩
 tups:=fun b xs q=>by rw[ay (bb q hn)];exact q
 frzs:=fun b u xs q=>by rw[ay (bb q hn)];exact q
 tbls:=fun b ps q=>⟨#[],by rw[ay (bb q hn),q];simp⟩
theorem Un.write (mu:Mut (H x))(he:e=x∨H e=some (.own x))(k:∀ b u,b≠e→h.get? b=some u→h'.get? b=some u)(heo:∃ u,h'.get? e=some u):Un fs ex H (upd H x o) h h':=by
 have hx:∀ b,H b=none→b≠x:=fun b n z=>by subst z;rw[n] at mu;exact mu
 have hb:∀ b,H b=none→b≠e:=fun b n z=>by
  subst z
  rcases he with r | r
  ·exact hx b n r
  ·rw[n] at r;cases r
 have hm:∀ b u,H b=some u→¬ Mut (some u)→b≠x:=fun b u q nm z=>by subst z;rw[q] at mu;exact nm mu
 refine⟨fun b u q n _ _=>k b u (hb b n) q,fun b u q n _ _=>⟨u.slots,k b u (hb b n) q⟩,fun b u q n _=>by rw[ay (hx b n)];exact n,fun b u q _=>?_,
  fun b xs q=>by rw[ay (hm b _ q fun z=>z)];exact q,fun b u xs q=>by rw[ay (hm b _ q fun z=>z)];exact q,fun b ps q=>⟨#[],by rw[ay (hm b _ q fun z=>z),q];simp⟩⟩
 by_cases hbe:b=e
 ·subst hbe;exact heo
 ·exact⟨u,k b u hbe q⟩
end
def trk (h:Heap)(H:Hp):List Addr:=(List.range h.objs.size).filter fun a=>(H a).isSome
def lG (h:Heap)(H:Hp):Heap:=PySem.W.hideAll h (trk h H)
theorem sG (h:Heap)(H:Hp):(lG h H).objs.size=h.objs.size:=PySem.W.hideAll_size _ _
theorem vn {h:Heap}{H:Hp}{b:Addr}{o:Obj}(e:h.get? b=some o)(n:H b=none):(lG h H).get? b=some o:=
 PySem.W.hideAll_get _ e fun hm=>by
  have q:(H b).isSome=true:=(List.mem_filter.mp hm).2
  rw[n] at q;simp at q
theorem xO {h:Heap}{H:Hp}{b:Addr}{o:Obj}(e:(lG h H).get? b=some o):h.get? b=some o∧H b=none:=by
 have e':h.get? b=some o:=PySem.W.of_hideAll (trk h H) e
 refine⟨e',?_⟩
 cases q:H b with
 | none=>rfl
 | some x=>
  have hm:b∈trk h H:=List.mem_filter.mpr ⟨Zt.mpr (YE e'),by simp[q]⟩
  have z:(lG h H).get? b=none:=PySem.W.hideAll_none (trk h H) hm
  rw[z] at e;cases e
def xj (g h:Heap)(L:Addr):List (Addr×Obj):=(List.range h.objs.size).filterMap fun a=>if a=L∨(g.get? a).isSome=true then none else (h.get? a).map fun o=>(a,o)
def aE (g h:Heap)(L d:Addr):List (Addr×Obj):=(xj g h L).filter fun p=>decide (p.1≠d)
structure Mod (K:PySem.W.Frag) (mg:Str→Option Value) (base:Heap):Prop where
 kin:K.In base
 glob:base.Ns mainGlobals mg
 blt:∃ mb,base.Ns builtinsNs mb∧∀ x:Str,x ≠ "__name__"→mb x=bootBuiltins x
 nolimit:base.NoLimit
structure Cx where
 prog:Program
 w:World
 K:PySem.W.Frag
 mg:Str→Option Value
 base:Heap
 A:Around
 N:List Str
 s₀:Shared
 H₀:Hp
 env:Env
 outer:List Env
 stack:List Env
 ex:List Addr
 fn:Str→Bool
 calm:Bool
 pn:List (Addr×Obj)
 xe:Value→Shared→Prop
def frs (l:List Env):List Addr:=l.filterMap (·.frame)
abbrev Cx.fs (X:Cx):List Addr:=frs X.outer
def Vis (sc:Scope)(x:Str):Prop:=sc.names.lookup x=some .local∨sc.names.lookup x=some .cell∨sc.names.lookup x=some .free
def Loc (sc:Scope)(x:Str):Prop:=sc.names.lookup x=some .local∨sc.names.lookup x=some .cell
def EF (env:Env)(h:Heap)(m:Ks)(x:Str)(u:Value):Prop:=
 (env.kindOf x=some .local∧m x=some u)∨((env.kindOf x=some .cell∨env.kindOf x=some .free)∧∃ c,env.cells.lookup x=some c∧h.IsCell c (some u))
structure Cx.Ok (X:Cx):Prop where
 mod:Mod X.K X.mg X.base
 kind:X.env.scope.kind=.function
 glob:X.env.globals=mainGlobals
 blt:X.env.builtins=builtinsNs
 above:X.s₀.heap.objs.size≤X.env.locals
 inj:∀ x y c,X.env.cells.lookup x=some c→X.env.cells.lookup y=some c→x=y
 has:∀ x,(X.env.kindOf x=some .cell∨X.env.kindOf x=some .free)→∃ c,X.env.cells.lookup x=some c
 cab:∀ x c,X.fn x=true→X.env.cells.lookup x=some c→X.s₀.heap.objs.size≤c
 hd:X.calm=true→X.A.handled=none
 frames:X.A.frames=some X.stack
 stk:X.stack=X.outer∨(X.stack=X.env::X.outer∧X.env.frame=some X.env.locals)
 exf:∀ b∈X.ex,b≠X.env.locals∧∀ x c,X.env.cells.lookup x=some c→c≠b
 bs:∀ b o,X.base.get? b=some o→X.s₀.heap.get? b=some o∧X.H₀ b=none
 bsz:X.base.objs.size≤X.s₀.heap.objs.size
 noex:∀ b o,X.base.get? b=some o→b∉X.ex
 exfs:∀ b∈X.ex,b∉X.fs
 funs:X.s₀.heap.FunFrames X.base X.outer
 frf:∀ b∈X.fs,X.H₀ b=none
structure Inv (X:Cx) (pz:List (Addr×Obj)) (σ:List (Option V)) (H:Hp) (s:Shared):Prop where
 ok:X.Ok
 os:s.os=X.s₀.os
 bare:AllBare s.gens
 base:Un X.fs X.ex X.H₀ H X.s₀.heap s.heap
 loc:∃ m,s.heap.Ns X.env.locals m∧∀ (i:Nat) (x:Str) (v:V),X.N[i]?=some x→σ[i]?=some (some v)→Vis X.env.scope x→∃ u,RelV v u∧EF X.env s.heap m x u
 cell:∀ x c,X.env.cells.lookup x=some c→∃ v,s.heap.IsCell c v
 free:H X.env.locals=none
 freeC:∀ x c,X.env.cells.lookup x=some c→H c=none
 pin:∀ p∈X.pn++pz,s.heap.get? p.1=some p.2∧H p.1=none∧p.1≠X.env.locals∧p.1∉X.fs∧∀ v,p.2.data≠.cell v
 hok:HOk X.prog X.w H s.heap
 len:σ.length=X.N.length
section
variable {X:Cx} {pz:Kp} {σ:List (Option V)} {H H':Hp} {s:Shared} {h':Heap}
theorem Cx.Ok.nofr (ok:X.Ok){b:Addr}{o:Obj}(e:X.base.get? b=some o):b∉X.fs:=fun hb=>by
 have:=(ok.funs.mem hb).1
 rw[e] at this;cases this
theorem Inv.bs (I:Inv X pz σ H s):∀ b o,X.base.get? b=some o→s.heap.get? b=some o∧H b=none:=fun b o e=>
 ⟨I.base.keep b o (I.ok.bs b o e).1 (I.ok.bs b o e).2 (I.ok.nofr e) (I.ok.noex b o e),I.base.free b o (I.ok.bs b o e).1 (I.ok.bs b o e).2 (I.ok.noex b o e)⟩
theorem Inv.bk (I:Inv X pz σ H s):∀ b o,X.base.get? b=some o→s.heap.get? b=some o:=fun b o e=>(I.bs b o e).1
theorem Inv.mod (I:Inv X pz σ H s):Mod X.K X.mg X.base:=I.ok.mod
theorem Inv.kIn (I:Inv X pz σ H s):X.K.In s.heap:=I.ok.mod.kin.keeps I.bk
theorem Inv.lt (I:Inv X pz σ H s):X.env.locals<s.heap.objs.size:=let ⟨_,hn,_⟩:=I.loc;hn.lt
theorem Inv.sz (I:Inv X pz σ H s):X.s₀.heap.objs.size≤s.heap.objs.size:=YQ I.ok.above (Zv I.lt)
theorem Inv.nofs (I:Inv X pz σ H s){a:Addr}(h:s.heap.objs.size≤a):a∉X.fs:=fun hb=>by
 obtain⟨_,o,ho,_⟩:=I.ok.funs.mem hb
 exact absurd (Yy (YE ho) (YQ I.sz h)) (Zh _)
theorem Inv.cne (I:Inv X pz σ H s):∀ x c,X.env.cells.lookup x=some c→c≠X.env.locals:=fun x c e z=>by
 obtain⟨v,o,ho,hd⟩:=I.cell x c e
 obtain⟨m,⟨o',es,ep,ho',hd',_⟩,_⟩:=I.loc
 rw[z,ho'] at ho;cases ho;rw[hd'] at hd;cases hd
theorem Inv.funs (I:Inv X pz σ H s):s.heap.FunFrames X.base X.outer:=by
 have all:∀ (l:List Env),(∀ b∈frs l,b∈X.fs)→X.s₀.heap.FunFrames X.base l→s.heap.FunFrames X.base l:=by
  intro l
  induction l with
  | nil=>intro _ _;trivial
  | cons env r ih=>
   intro hs hl
   obtain⟨hk,⟨L,o,hf,hn,ho,hd⟩,hr⟩:=hl
   have hL:L∈X.fs:=hs L (by unfold frs;rw[Xy,hf];exact Yf)
   obtain⟨sl,e⟩:=I.base.slot L o ho (I.ok.frf L hL) hL fun z=>I.ok.exfs L z hL
   exact⟨hk,⟨L,_,hf,hn,e,hd⟩,ih (fun b hb=>hs b (by unfold frs;rw[Xy,hf];exact Yd _ hb)) hr⟩
 exact all X.outer (fun _ hb=>hb) I.ok.funs
theorem Inv.stack (I:Inv X pz σ H s):s.heap.FunFrames X.base X.stack:=by
 rcases I.ok.stk with e | ⟨e,hf⟩
 ·rw[e];exact I.funs
 ·rw[e]
  obtain⟨m,hn,_⟩:=I.loc
  refine .cons (by rw[I.ok.kind];decide) hf hn ?_ I.funs
  exact Heap.get?_none_of_le (YQ I.ok.bsz I.ok.above)
theorem Inv.stkSub (I:Inv X pz σ H s):∀ b∈frs X.stack,b∈X.env.locals::X.fs:=fun b hb=>by
 rcases I.ok.stk with e | ⟨e,hf⟩
 ·rw[e] at hb;exact Yd _ hb
 ·rw[e] at hb
  unfold frs at hb
  rw[Xy,hf] at hb
  exact hb
theorem Inv.stkFree (I:Inv X pz σ H s):∀ b∈frs X.stack,H b=none:=fun b hb=>by
 rcases YC.mp (I.stkSub b hb) with e | hb
 ·rw[e];exact I.free
 ·obtain⟨_,o,ho,_⟩:=I.ok.funs.mem hb
  exact I.base.free b o ho (I.ok.frf b hb) fun z=>I.ok.exfs b z hb
theorem Inv.step {g':Array GenState}{t':Nat}{d':Drawn}{ch:List Addr}(I:Inv X pz σ H s)
  (hch:∀ b∈ch,(b∈X.ex∨X.s₀.heap.objs.size≤b)∧b≠X.env.locals∧(∀ x c,X.env.cells.lookup x=some c→c≠b)∧∀ p∈X.pn++pz,p.1≠b)
  (keep:∀ b o,b≠X.env.locals→b∉X.fs→b∉ch→s.heap.get? b=some o→H b=none→h'.get? b=some o)
  (slot:∀ b o,b≠X.env.locals→b∈X.fs→b∉ch→s.heap.get? b=some o→H b=none→∃ sl,h'.get? b=some { o with slots:=sl }) (free:∀ b o,b∉ch→s.heap.get? b=some o→H b=none→H' b=none)
  (there:∀ b o,b∉ch→s.heap.get? b=some o→∃ o',h'.get? b=some o')
  (tups:∀ b xs,H b=some (.tup xs)→H' b=some (.tup xs)) (frzs:∀ b o u,H b=some (.frz o u)→H' b=some (.frz o u)) (tbls:∀ b ps,H b=some (.tbl ps)→∃ more,H' b=some (.tbl (ps++more)))
  (ns:∀ m,s.heap.Ns X.env.locals m→h'.Ns X.env.locals m) (hok:HOk X.prog X.w H' h') (hg:AllBare g') :
  Inv X pz σ H' { s with heap:=h',gens:=g',drawn:=d',toks:=t' }:=by
 have neL:∀ b o,X.s₀.heap.get? b=some o→b≠X.env.locals:=fun b o e=>YL (Yy (YE e) I.ok.above)
 have neC:∀ b o,X.s₀.heap.get? b=some o→b∉X.ex→b∉ch:=fun b o e hx hb=>by
  rcases (hch b hb).1 with z | z
  ·exact hx z
  ·exact absurd (Yy (YE e) z) (Zh _)
 have cellK:∀ x c,X.env.cells.lookup x=some c→∀ v,s.heap.IsCell c v→h'.IsCell c v:=fun x c e v hh_=>by
  obtain⟨o,ho,hd⟩:=hh_
  have nch:c∉ch:=fun z=>(hch c z).2.2.1 x c e rfl
  by_cases hc:c∈X.fs
  ·obtain⟨sl,q⟩:=slot c o (I.cne x c e) hc nch ho (I.freeC x c e)
   exact⟨_,q,hd⟩
  ·exact⟨o,keep c o (I.cne x c e) hc nch ho (I.freeC x c e),hd⟩
 refine⟨I.ok,I.os,hg,⟨fun b o e n hb hx=>?_,fun b o e n hb hx=>?_,fun b o e n hx=>?_,fun b o e hx=>?_,fun b xs e=>tups b xs (I.base.tups b xs e),fun b o xs e=>frzs b o xs (I.base.frzs b o xs e),fun b ps e=>?_⟩,?_,fun x c e=>?_,?_,fun x c e=>?_,fun p hp=>?_,hok,I.len⟩
 ·exact keep b o (neL b o e) hb (neC b o e hx) (I.base.keep b o e n hb hx) (I.base.free b o e n hx)
 ·obtain⟨sl,e1⟩:=I.base.slot b o e n hb hx
  obtain⟨sl',e2⟩:=slot b _ (neL b o e) hb (neC b o e hx) e1 (I.base.free b o e n hx)
  exact⟨sl',e2⟩
 ·obtain⟨o',e1⟩:=I.base.there b o e hx
  exact free b o' (neC b o e hx) e1 (I.base.free b o e n hx)
 ·obtain⟨o',e1⟩:=I.base.there b o e hx
  exact there b o' (neC b o e hx) e1
 ·obtain⟨m1,e1⟩:=I.base.tbls b ps e
  obtain⟨m2,e2⟩:=tbls b _ e1
  exact⟨m1++m2,by rw[e2,Array.append_assoc]⟩
 ·obtain⟨m,hn,hl⟩:=I.loc
  refine⟨m,ns m hn,fun i x v e1 e2 e3=>?_⟩
  obtain⟨u,r,l⟩:=hl i x v e1 e2 e3
  refine⟨u,r,?_⟩
  rcases l with l | ⟨k,c,e,z⟩
  ·exact .inl l
  ·exact .inr ⟨k,c,e,cellK x c e _ z⟩
 ·obtain⟨v,z⟩:=I.cell x c e
  exact⟨v,cellK x c e v z⟩
 ·obtain⟨m,⟨o,_,_,ho,_⟩,_⟩:=I.loc
  exact free _ o (fun z=>(hch _ z).2.1 rfl) ho I.free
 ·obtain⟨v,o,ho,hd⟩:=I.cell x c e
  exact free c o (fun z=>(hch c z).2.2.1 x c e rfl) ho (I.freeC x c e)
 ·obtain⟨e,n,ne,nf,d⟩:=I.pin p hp
  have nch:p.1∉ch:=fun z=>(hch p.1 z).2.2.2 p hp rfl
  exact⟨keep p.1 p.2 ne nf nch e n,free p.1 p.2 nch e n,ne,nf,d⟩
theorem Inv.un {t':Nat}(I:Inv X pz σ H s)(u:Un X.fs [] H H' s.heap h')(hok:HOk X.prog X.w H' h'):Inv X pz σ H' { s with heap:=h',toks:=t' }:=by
 obtain⟨m,⟨o,es,ep,ho,r⟩,_⟩:=id I.loc
 obtain⟨sl,hL⟩:=u.any ho I.free (by simp)
 exact I.step (g':=s.gens) (d':=s.drawn) (ch:=[]) (fun _ z=>nomatch z) (fun b o _ hb _ e n=>u.keep b o e n hb (by simp)) (fun b o _ hb _ e n=>u.slot b o e n hb (by simp)) (fun b o _ e n=>u.free b o e n (by simp)) (fun b o _ e=>u.there b o e (by simp)) u.tups u.frzs u.tbls (fun m' hm=>by
  obtain⟨o',es',ep',ho',r'⟩:=hm
  rw[ho] at ho';cases ho'
  exact⟨_,es',ep',hL,r'⟩) hok I.bare
theorem Inv.call {g':Array GenState}{t':Nat}{d':Drawn}{ch:List Addr}(I:Inv X pz σ H s)(u:Un (frs X.stack) ch H H' s.heap h')(hok:HOk X.prog X.w H' h')(hg:AllBare g')
  (hch:∀ b∈ch,(b∈X.ex∨X.s₀.heap.objs.size≤b)∧b≠X.env.locals∧(∀ x c,X.env.cells.lookup x=some c→c≠b)∧∀ p∈X.pn++pz,p.1≠b) :
  Inv X pz σ H' { s with heap:=h',gens:=g',drawn:=d',toks:=t' }:=by
 obtain⟨m,⟨o,es,ep,ho,r⟩,_⟩:=id I.loc
 obtain⟨sl,hL⟩:=u.any ho I.free fun z=>(hch _ z).2.1 rfl
 exact I.step (ch:=ch) hch (fun b o hL hb hc e n=>u.keep b o e n (fun z=>(YC.mp (I.stkSub b z)).elim hL hb) hc) (fun b o _ _ hc e n=>u.any e n hc) (fun b o hc e n=>u.free b o e n hc) (fun b o hc e=>u.there b o e hc) u.tups u.frzs u.tbls (fun m' hm=>by
  obtain⟨o',es',ep',ho',r'⟩:=hm
  rw[ho] at ho';cases ho'
  exact⟨_,es',ep',hL,r'⟩) hok hg
theorem Inv.turned {t':Nat}{it:Addr}(I:Inv X pz σ H s)(k:∀ b o,b≠it→s.heap.get? b=some o→h'.get? b=some o)(hn:H it=none)(hL:it≠X.env.locals)
  (h1:it∈X.ex∨X.s₀.heap.objs.size≤it) (h2:∀ x c,X.env.cells.lookup x=some c→c≠it) (h3:∀ p∈X.pn++pz,p.1≠it):Inv X pz σ H { s with heap:=h',toks:=t' }:=by
 have nit:∀ b u,H b=some u→b≠it:=fun b u e z=>by rw[z,hn] at e;cases e
 refine I.step (g':=s.gens) (d':=s.drawn) (ch:=[it]) (fun b hb=>?_) (fun b o _ _ hc e _=>k b o (fun z=>hc (by simp[z])) e) (fun b o _ _ hc e _=>⟨o.slots,k b o (fun z=>hc (by simp[z])) e⟩) (fun _ _ _ _ n=>n)
  (fun b o hc e=>⟨o,k b o (fun z=>hc (by simp[z])) e⟩) (fun _ _ e=>e) (fun _ _ _ e=>e) (fun b ps e=>⟨#[],by rw[e];simp⟩) (fun m hm=>?_) (fun b u e=>?_) I.bare
 ·have e:b=it:=by simpa using hb
  subst e
  exact⟨h1,hL,h2,h3⟩
 ·obtain⟨o,es,ep,ho,r⟩:=hm
  exact⟨o,es,ep,k _ o (XJ hL) ho,r⟩
 ·refine (I.hok b u e).stay (fun c v hc q=>k c v ?_ q) (fun _ q=>q) fun _ _ q=>q
  rcases hc with z | z
  ·rw[z];exact nit b u e
  ·exact nit c _ z
theorem Inv.tok (I:Inv X pz σ H s)(t:Nat):Inv X pz σ H { s with toks:=t }:=I.un (h':=s.heap) (t':=t) Un.refl I.hok
theorem Inv.kept {t':Nat}(I:Inv X pz σ H s)(k:∀ b u,s.heap.get? b=some u→h'.get? b=some u):Inv X pz σ H { s with heap:=h',toks:=t' }:=I.un (Un.kept k) (I.hok.kept k)
theorem Inv.laid {a:Addr}{o:HO}{t':Nat}(I:Inv X pz σ H s)(k:∀ b u,s.heap.get? b=some u→h'.get? b=some u)(hp:s.heap.objs.size≤a)(new:ObjOk X.prog X.w (upd H a o) h' a o) :
  Inv X pz σ (upd H a o) { s with heap:=h',toks:=t' }:=I.un (Un.laid k hp (I.hok.fresh hp)) (I.hok.laid k hp new)
theorem Inv.write {x e:Addr}{o:HO}{t':Nat}(I:Inv X pz σ H s)(mu:Mut (H x))(he:e=x∨H e=some (.own x))(k:∀ b u,b≠e→s.heap.get? b=some u→h'.get? b=some u)(heo:∃ u,h'.get? e=some u)
  (new:ObjOk X.prog X.w (upd H x o) h' x o):Inv X pz σ (upd H x o) { s with heap:=h',toks:=t' }:=I.un (Un.write mu he k heo) (I.hok.write mu he k heo new)
theorem Inv.weak {σ':List (Option V)}(I:Inv X pz σ H s)(hl:σ'.length=σ.length)(w:∀ (i:Nat) v,σ'[i]?=some (some v)→σ[i]?=some (some v)):Inv X pz σ' H s:=
 ⟨I.ok,I.os,I.bare,I.base,let ⟨m,hn,hl'⟩:=I.loc;⟨m,hn,fun i x v e1 e2 e3=>hl' i x v e1 (w i v e2) e3⟩,I.cell,I.free,I.freeC,I.pin,I.hok,hl.trans I.len⟩
theorem Inv.pins_of {pz':Kp}(I:Inv X pz σ H s)(h:∀ p∈pz',s.heap.get? p.1=some p.2∧H p.1=none∧p.1≠X.env.locals∧p.1∉X.fs∧∀ v,p.2.data≠.cell v):Inv X pz' σ H s:=
 ⟨I.ok,I.os,I.bare,I.base,I.loc,I.cell,I.free,I.freeC,fun p hp=>(Yj.mp hp).elim (fun z=>I.pin p (Xc _ z)) (h p),I.hok,I.len⟩
theorem nt {N:List Str}(hN:N.Nodup){i j:Nat}{x:Str}(a:N[i]?=some x)(b:N[j]?=some x):i=j:=by
 obtain⟨h1,e1⟩:=YM.mp a
 obtain⟨h2,e2⟩:=YM.mp b
 exact (List.getElem_inj hN).mp (e1.trans e2.symm)
theorem rX {M:Model}{A:Around}{E:Kv}{i:Nat}{x:Str}{v:V}{u:Value}{Q:Unit→Shared→Prop}(I:Inv X pz σ H s)(hN:X.N.Nodup)(hi:X.N[i]?=some x)(hx:Loc X.env.scope x)(r:RelV v u)
  (h:∀ s',Inv X pz (σ.set i (some v)) H s'→(∃ a,Heap.SameBut a s.heap s'.heap∧(a=X.env.locals∨X.env.cells.lookup x=some a))→Q () s') (hf:X.fn x=true∨X.env.scope.names.lookup x=some .local:=by first | exact .inl rfl | exact .inr rfl | assumption):wpAny M A (storeName X.env x u) Q E s:=by
 obtain⟨m,hn,hl⟩:=id I.loc
 have hcls:(X.env.scope.kind == .class||(X.env.scope.kind == .module&&X.env.locals != X.env.globals))=false:=by rw[I.ok.kind];rfl
 have hiσ:i<σ.length:=by rw[I.len];exact (YM.mp hi).1
 have cne:=I.cne
 have tracked:∀ {a:Addr} {h':Heap},(∃ o,s.heap.get? a=some o∧H a=none)→Heap.SameBut a s.heap h'→HOk X.prog X.w H h':=fun {a h'} ha hs b ob e=>by
  obtain⟨_,_,hfree⟩:=ha
  refine (I.hok b ob e).stay (fun c w' hc q=>(hs.2 c ?_).trans q) (fun _ q=>q) fun _ _ q=>q
  rintro rfl
  rcases hc with rfl | hc
  ·rw[hfree] at e;cases e
  ·rw[hfree] at hc;cases hc
 rcases hx with hk | hk
 ·refine wpAny_storeName_local hk hn (fun h' hn' hs=>?_) hcls
  obtain⟨oL,_,_,hoL,_⟩:=id hn
  refine h _ ⟨I.ok,I.os,I.bare,⟨fun b o e n hb hx=>?_,fun b o e n hb hx=>?_,I.base.free,fun b o e hx=>?_,I.base.tups,I.base.frzs,I.base.tbls⟩,⟨_,hn',fun j y v' e1 e2 e3=>?_⟩,fun y c e=>?_,I.free,I.freeC,fun p hp=>?_,tracked ⟨oL,hoL,I.free⟩ hs,by simpa using I.len⟩ ⟨_,hs,.inl rfl⟩
  ·exact (hs.2 b (YL (Yy (YE e) I.ok.above))).trans (I.base.keep b o e n hb hx)
  ·obtain⟨sl,e1⟩:=I.base.slot b o e n hb hx
   exact⟨sl,(hs.2 b (YL (Yy (YE e) I.ok.above))).trans e1⟩
  ·obtain⟨o',e1⟩:=I.base.there b o e hx
   exact⟨o',(hs.2 b (YL (Yy (YE e) I.ok.above))).trans e1⟩
  ·by_cases hj:j=i
   ·subst hj
    rw[hi] at e1;cases e1
    rw[ZC hiσ] at e2
    cases e2
    exact⟨u,r,.inl ⟨hk,by simp⟩⟩
   ·rw[Zi (XJ hj)] at e2
    obtain⟨u',r',q⟩:=hl j y v' e1 e2 e3
    refine⟨u',r',?_⟩
    rcases q with⟨k,e⟩ | ⟨k,c,e,z⟩
    ·refine .inl ⟨k,?_⟩
     have:y≠x:=fun e=>hj (nt hN e1 (e ▸ hi))
     simp[this,e]
    ·exact .inr ⟨k,c,e,z.sameBut hs (cne y c e)⟩
  ·obtain⟨w',z⟩:=I.cell y c e
   exact⟨w',z.sameBut hs (cne y c e)⟩
  ·obtain⟨e,n,ne,nf,d⟩:=I.pin p hp
   exact⟨(hs.2 p.1 ne).trans e,n,ne,nf,d⟩
 ·have hfn:X.fn x=true:=by
   rcases hf with z | z
   ·exact z
   ·rw[z] at hk;cases hk
  obtain⟨c,hc⟩:=I.ok.has x (.inl hk)
  obtain⟨w',z⟩:=I.cell x c hc
  refine wpAny_storeName_cell I.ok.kind hk hc z (fun h' hc' hs=>?_)
  obtain⟨oc,hoc,hocd⟩:=id z
  refine h { s with heap:=h' } ⟨I.ok,I.os,I.bare,⟨fun b o e n hb hx=>?_,fun b o e n hb hx=>?_,I.base.free,fun b o e hx=>?_,I.base.tups,I.base.frzs,I.base.tbls⟩,⟨m,hn.sameBut hs (XJ (cne x c hc)),fun j y v' e1 e2 e3=>?_⟩,fun y c' e=>?_,I.free,I.freeC,fun p hp=>?_,tracked ⟨oc,hoc,I.freeC x c hc⟩ hs,by simpa using I.len⟩ ⟨c,hs,.inr hc⟩
  ·exact (hs.2 b (YL (Yy (YE e) (I.ok.cab x c hfn hc)))).trans (I.base.keep b o e n hb hx)
  ·obtain⟨sl,e1⟩:=I.base.slot b o e n hb hx
   exact⟨sl,(hs.2 b (YL (Yy (YE e) (I.ok.cab x c hfn hc)))).trans e1⟩
  ·obtain⟨o',e1⟩:=I.base.there b o e hx
   exact⟨o',(hs.2 b (YL (Yy (YE e) (I.ok.cab x c hfn hc)))).trans e1⟩
  ·by_cases hj:j=i
   ·subst hj
    rw[hi] at e1;cases e1
    rw[ZC hiσ] at e2
    cases e2
    exact⟨u,r,.inr ⟨.inl hk,c,hc,hc'⟩⟩
   ·rw[Zi (XJ hj)] at e2
    obtain⟨u',r',q⟩:=hl j y v' e1 e2 e3
    refine⟨u',r',?_⟩
    rcases q with q | ⟨k,c',e,z'⟩
    ·exact .inl q
    ·refine .inr ⟨k,c',e,z'.sameBut hs ?_⟩
     rintro rfl
     exact hj (nt hN e1 (I.ok.inj _ _ _ e hc ▸ hi))
  ·by_cases hcc:c'=c
   ·subst hcc;exact⟨_,hc'⟩
   ·obtain⟨w2,z2⟩:=I.cell y c' e
    exact⟨w2,z2.sameBut hs hcc⟩
  ·obtain⟨e,n,ne,nf,d⟩:=I.pin p hp
   refine⟨(hs.2 p.1 ?_).trans e,n,ne,nf,d⟩
   intro q
   rw[q,hoc] at e
   have q':oc=p.2:=Yq e
   exact d w' (by rw[← q'];exact hocd)
theorem oA {M:Model}{A:Around}{E:Kv}{i:Nat}{x:Str}{v:V}{u:Value}{Q:Unit→Shared→Prop}(I:Inv X pz σ H s)(hN:X.N.Nodup)(hi:X.N[i]?=some x)(hx:Loc X.env.scope x)(r:RelV v u)
  (h:∀ s',Inv X pz (σ.set i (some v)) H s'→Q () s') (hf:X.fn x=true∨X.env.scope.names.lookup x=some .local:=by first | exact .inl rfl | exact .inr rfl | assumption):wpAny M A (storeName X.env x u) Q E s:=
 rX I hN hi hx r (fun s' I' _=>h s' I') hf
theorem Inv.call' {s':Shared}{ch:List Addr}(I:Inv X pz σ H s)(ho:s'.os=s.os)(u:Un (frs X.stack) ch H H' s.heap s'.heap)(hok:HOk X.prog X.w H' s'.heap)(hg:AllBare s'.gens)
  (hch:∀ b∈ch,(b∈X.ex∨X.s₀.heap.objs.size≤b)∧b≠X.env.locals∧(∀ x c,X.env.cells.lookup x=some c→c≠b)∧∀ p∈X.pn++pz,p.1≠b):Inv X pz σ H' s':=by
 obtain⟨h',g',d',t',o'⟩:=s'
 have e:o'=s.os:=ho
 subst e
 exact I.call (g':=g') (t':=t') (d':=d') u hok hg hch
end
abbrev XK:=Value→Option Addr→Hp→Prop
abbrev St:=List (Option V)
abbrev VK:=V→Hp→Prop
abbrev TE:=St→Hp→VK→Prop
abbrev TT:=St→Hp→(Bool→Hp→Prop)→Prop
abbrev TA:=St→Hp→(List V→Hp→Prop)→Prop
structure Ends where
 nx:St→Hp→Prop
 rt:VK
 bk:St→Hp→Prop:=fun _ _=>False
 ct:St→Hp→Prop:=fun _ _=>False
abbrev TS:=Ends→St→Hp→Prop
def EP (X:Cx)(pz:Kp)(σ:St)(Q:VK)(u:Value)(s':Shared):Prop:=∃ v H',Inv X pz σ H' s'∧RelV v u∧Q v H'
def TP (X:Cx)(pz:Kp)(σ:St)(Q:Bool→Hp→Prop)(b:Bool)(s':Shared):Prop:=∃ H',Inv X pz σ H' s'∧Q b H'
def AP (X:Cx)(pz:Kp)(σ:St)(Q:List V→Hp→Prop)(us:List Value)(s':Shared):Prop:=∃ vs H',Inv X pz σ H' s'∧Vals vs us∧Q vs H'
def SP (X:Cx)(pz:Kp)(D:Ends)(f:Flow)(s':Shared):Prop:=
 match f with
 | .next=>∃ σ' H',Inv X pz σ' H' s'∧D.nx σ' H'
 | .brk=>∃ σ' H',Inv X pz σ' H' s'∧D.bk σ' H'
 | .cont=>∃ σ' H',Inv X pz σ' H' s'∧D.ct σ' H'
 | .ret u=>∃ v σ' H',Inv X pz σ' H' s'∧RelV v u∧D.rt v H'
def PE (X:Cx)(e:Expr)(t:TE):Prop:=
 ∀ (pz:Kp) (s:Shared) (σ:St) (H:Hp) (Q:VK),Inv X pz σ H s→t σ H Q→wpAny (model X.prog X.w) X.A (eval e X.env) (EP X pz σ Q) X.xe s
def PT (X:Cx)(e:Expr)(t:TT):Prop:=
 ∀ (pz:Kp) (s:Shared) (σ:St) (H:Hp) (Q:Bool→Hp→Prop),Inv X pz σ H s→t σ H Q→wpAny (model X.prog X.w) X.A (isTrue e X.env (eval e X.env)) (TP X pz σ Q) X.xe s
def PW (X:Cx)(e:Expr)(t:TT):Prop:=
 ∀ (whole:Sem Value) (pz:Kp) (s:Shared) (σ:St) (H:Hp) (Q:Bool→Hp→Prop),Inv X pz σ H s→t σ H Q→wpAny (model X.prog X.w) X.A (isTrue e X.env whole) (TP X pz σ Q) X.xe s
theorem PW.pt {X:Cx}{e:Expr}{t:TT}(h:PW X e t):PT X e t:=h _
def PA (X:Cx)(es:List Expr)(t:TA):Prop:=
 ∀ (pos:Pos) (pz:Kp) (s:Shared) (σ:St) (H:Hp) (Q:List V→Hp→Prop),Inv X pz σ H s→t σ H Q→wpAny (model X.prog X.w) X.A (spliced (backTo pos (starEach es X.env))) (AP X pz σ Q) X.xe s
def PS (X:Cx)(st:Stmt)(t:TS):Prop:=
 ∀ (pz:Kp) (s:Shared) (σ:St) (H:Hp) (D:Ends),Inv X pz σ H s→t D σ H→wpAny (model X.prog X.w) X.A (exec st X.env) (SP X pz D) X.xe s
def PSs (X:Cx)(st:List Stmt)(t:TS):Prop:=
 ∀ (pz:Kp) (s:Shared) (σ:St) (H:Hp) (D:Ends),Inv X pz σ H s→t D σ H→wpAny (model X.prog X.w) X.A (execs st X.env) (SP X pz D) X.xe s
theorem thn {α:Type}{t:Sem α}{Q Q':α→Shared→Prop}{M:Model}{A:Around}{E:Kv}{s:Shared}(h:wpAny M A t Q E s)(hQ:∀ a s,Q a s→Q' a s):wpAny M A t Q' E s:=ZA h hQ fun _ _ x=>x
theorem aT {α β:Type}{X:Cx}{pz:Kp}{σ:St}{t:Sem β}{R:α→β→Prop}{Q:α→Hp→Prop}{T:β→Shared→Prop}{M:Model}{A:Around}{E:Kv}{s:Shared}
  (h:wpAny M A t (fun u s1=>∃ x H1,Inv X pz σ H1 s1∧R x u∧Q x H1) E s) (k:∀ u s1 x H1,Inv X pz σ H1 s1→R x u→Q x H1→T u s1):wpAny M A t T E s:=
 thn h fun u s1 z=>by obtain⟨x,H1,a,b,c⟩:=z;exact k u s1 x H1 a b c
theorem un7 {β γ δ α:Type}{B A Z:β→γ→δ→α→Prop}{C:Prop}(k:∀ P F ρ d,B P F ρ d→A P F ρ d→Z P F ρ d→C)(h:∃ P F ρ d,B P F ρ d∧A P F ρ d∧Z P F ρ d):C:=by
 obtain⟨P,F,ρ,d,a,b,c⟩:=h;exact k P F ρ d a b c
section
variable {X:Cx}
def ce (i:Nat):TE:=fun σ H Q=>∃ v,σ[i]?=some (some v)∧Q v H
def tC (v:V):TE:=fun _ H Q=>Q v H
theorem z8 {i:Nat}{x:Str}{pos:Pos}(hN:X.N[i]?=some x)(hv:Vis X.env.scope x)(hd:(x == ("__debug__":Str))=false:=by decide)(hcd:(x == ("__classdict__":Str))=false:=by decide):PE X (.Name x pos) (ce i):=by
 intro pz s σ H Q I h
 obtain⟨v,e,h⟩:=h
 obtain⟨m,hn,hl⟩:=I.loc
 obtain⟨u,r,l⟩:=hl i x v hN e hv
 have fin:EP X pz σ Q u s:=⟨v,H,I,r,h⟩
 rcases l with⟨hk,hm⟩ | ⟨hk,c,hc,hcell⟩
 ·exact wpAny_Name (wpAny_loadName_local I.ok.kind hk hn hm fin) hd
 ·rcases hk with hk | hk
  ·exact wpAny_Name (wpAny_loadName_cell I.ok.kind hk hc hcell fin) hd
  ·exact wpAny_Name (wpAny_loadName_free I.ok.kind hk hc hcell fin hcd) hd
theorem vW {i j pos}:PE X (.Constant (.int i) j pos) (tC (.int i)):=fun _ _ _ H _ I h=>wpAny_Constant_int ⟨.int i,H,I.tok _,⟨_,rfl⟩,h⟩
theorem CL {b j pos}:PE X (.Constant (.bool b) j pos) (tC (.bl b)):=fun _ _ _ H _ I h=>Constant_bool ⟨.bl b,H,I,rfl,h⟩
theorem cU {x j pos}:PE X (.Constant (.str x) j pos) (tC (.str x)):=fun _ _ _ H _ I h=>Calls.Constant_str ⟨.str x,H,I.tok _,⟨_,rfl⟩,h⟩
def Gl (X:Cx)(x:Str):Prop:=X.env.kindOf x=some .globalImplicit
theorem gE {E:Kv}{pz:Kp}{s:Shared}{σ:St}{H:Hp}{x:Str}{u:Value}{pos:Pos}{Q:Kv}(I:Inv X pz σ H s)(hg:Gl X x)(hm:X.mg x=some u)(h:Q u s)
  (hd:(x == ("__debug__":Str))=false:=by decide):wpAny (model X.prog X.w) X.A (eval (.Name x pos) X.env) Q E s:=
 Calls.Name_function_global I.ok.kind hg (Calls.loadGlobal_global (by rw[I.ok.glob];exact I.mod.glob.keeps I.bk) hm h) hd
theorem mr {E:Kv}{pz:Kp}{s:Shared}{σ:St}{H:Hp}{x:Str}{u:Value}{pos:Pos}{Q:Kv}(I:Inv X pz σ H s)(hg:Gl X x)(hm:X.mg x=none)(hv:bootBuiltins x=some u)(h:Q u s)
  (hn:x ≠ "__name__":=by decide) (hd:(x == ("__debug__":Str))=false:=by decide):wpAny (model X.prog X.w) X.A (eval (.Name x pos) X.env) Q E s:=by
 obtain⟨mb,h1,h2⟩:=I.mod.blt
 exact Calls.Name_function_global I.ok.kind hg (Calls.loadGlobal_builtin (by rw[I.ok.glob];exact I.mod.glob.keeps I.bk) hm (by rw[I.ok.blt];exact h1.keeps I.bk) ((h2 x hn).trans hv) h) hd
theorem qX {x:Str}{v:V}{u:Value}{pos:Pos}(hg:Gl X x)(hm:X.mg x=some u)(r:RelV v u)(hd:(x == ("__debug__":Str))=false:=by decide):PE X (.Name x pos) (tC v):=
 fun _ _ _ H _ I h=>gE I hg hm ⟨v,H,I,r,h⟩ hd
theorem yJ {x:Str}{v:V}{u:Value}{pos:Pos}(hg:Gl X x)(hm:X.mg x=none)(hv:bootBuiltins x=some u)(r:RelV v u)(hn:x ≠ "__name__":=by decide)(hd:(x == ("__debug__":Str))=false:=by decide):PE X (.Name x pos) (tC v):=
 fun _ _ _ H _ I h=>mr I hg hm hv ⟨v,H,I,r,h⟩ hn hd
variable {a b:Expr} {ta tb:TE} {pos:Pos}
def PC (X:Cx)(op:CmpOp)(a b:Expr)(t:TE):Prop:=
 ∀ (pz:Kp) (s:Shared) (σ:St) (H:Hp) (Q:VK),Inv X pz σ H s→t σ H Q→
  wpAny (model X.prog X.w) X.A (eval a X.env) (fun v s₁=>wpAny (model X.prog X.w) X.A (eval b X.env) (fun u s₂=>wpAny (model X.prog X.w) X.A (compareOp op v u) (EP X pz σ Q) X.xe s₂) X.xe s₁) X.xe s
theorem gO (b:Expr){op:CmpOp}(h:op≠.In)(h2:op≠.NotIn):behindInMarks op b=false:=by
 have e1:(op == CmpOp.In)=false:=by cases op <;> first | rfl | exact absurd rfl h
 have e2:(op == CmpOp.NotIn)=false:=by cases op <;> first | rfl | exact absurd rfl h2
 cases b <;> simp[behindInMarks,e1,e2]
instance (x:V):Decidable (x=.non):=by cases x <;> first | exact .isTrue rfl | exact .isFalse nofun
def tB (t:TE):TT:=fun σ H Q=>t σ H fun x H1=>∃ c,x=.bl c∧Q c H1
theorem pw {op:CmpOp}{t:TE}(h:PC X op a b t)(h1:behindInMarks op b=false:=by first | exact gO _ (by decide) (by decide) | rfl):PT X (.Compare a [op] [b] pos) (tB t):=by
 intro pz s σ H Q I hw
 refine wpAny_isTrue_Compare1 (thn (h pz s σ H _ I hw) fun v s1 h1=>thn h1 fun u s2 h2=>thn h2 fun c s3 hh_=>?_) h1
 obtain⟨x,H1,I1,r1,q1⟩:=hh_
 obtain⟨d,rfl,q⟩:=q1
 cases r1
 exact Zd ⟨H1,I1,q⟩
theorem Af {e:Expr}{t:TE}(h:PE X e t)(he:∀ whole,isTrue e X.env whole=(do let v ← whole;standAt e.pos;holding [v] (truthy v)):=by intro _;rfl):PT X e (tB t):=by
 intro pz s σ H Q I hw
 refine isTrue_plain (aT (h pz s σ H _ I hw) fun v s1 x H1 I1 r1 q1=>?_) (he _)
 obtain⟨d,rfl,q⟩:=q1
 cases r1
 exact Zd ⟨H1,I1,q⟩
variable {tA tB':TT} {aE:List Expr}
def EB (t u:TT):TT:=fun σ H Q=>t σ H fun c H1=>if c=true then u σ H1 Q else Q false H1
def tOr (t u:TT):TT:=fun σ H Q=>t σ H fun c H1=>if c=true then Q true H1 else u σ H1 Q
def EL (t:TT):TT:=fun σ H Q=>t σ H fun c H1=>Q (!c) H1
theorem y6 (ha:PT X a tA):PW X (.BoolOp .And [a] pos) tA:=by
 intro wh pz s σ H Q I h
 refine isTrue_and (thn (ha pz s σ H Q I h) fun c s1 e=>?_)
 cases c with
 | true=>exact isTrue_and_nil e
 | false=>exact e
theorem uQ (ha:PT X a tA):PW X (.BoolOp .Or [a] pos) tA:=by
 intro wh pz s σ H Q I h
 refine isTrue_or (thn (ha pz s σ H Q I h) fun c s1 e=>?_)
 cases c with
 | false=>exact isTrue_or_nil e
 | true=>exact e
theorem Bw (ha:PT X a tA)(hb:PW X (.BoolOp .And (b::aE) pos) tB'):PW X (.BoolOp .And (a::b::aE) pos) (EB tA tB'):=by
 intro wh pz s σ H Q I h
 refine isTrue_and (thn (ha pz s σ H _ I h) fun c s1 hh_=>?_)
 obtain⟨H1,I1,q1⟩:=hh_
 cases c with
 | true=>exact hb wh pz s1 σ H1 Q I1 q1
 | false=>exact⟨H1,I1,q1⟩
theorem zv (ha:PT X a tA)(hb:PW X (.BoolOp .Or (b::aE) pos) tB'):PW X (.BoolOp .Or (a::b::aE) pos) (tOr tA tB'):=by
 intro wh pz s σ H Q I h
 refine isTrue_or (thn (ha pz s σ H _ I h) fun c s1 hh_=>?_)
 obtain⟨H1,I1,q1⟩:=hh_
 cases c with
 | true=>exact⟨H1,I1,q1⟩
 | false=>exact hb wh pz s1 σ H1 Q I1 q1
theorem BW (ha:PT X a tA):PT X (.UnaryOp .Not a pos) (EL tA):=by
 intro pz s σ H Q I h
 exact isTrue_not (ha pz s σ H (fun c H1=>Q (!c) H1) I h)
def DQ (ta tb:TE):TE:=fun σ H Q=>ta σ H fun x H1=>∃ c,x=.bl c∧if c=true then tb σ H1 Q else Q (.bl false) H1
def EH (ta tb:TE):TE:=fun σ H Q=>ta σ H fun x H1=>∃ c,x=.bl c∧if c=true then Q (.bl true) H1 else tb σ H1 Q
def B7 (ta:TE):TE:=fun σ H Q=>ta σ H fun x H1=>∃ c,x=.bl c∧Q (.bl (!c)) H1
theorem An {op}{t:TE}(h:PE X a t):PE X (.BoolOp op [a] pos) t:=fun pz s σ H Q I hw=>BoolOp_one (h pz s σ H Q I hw)
theorem Aa (ha:PE X a ta)(hb:PE X (.BoolOp .And (b::aE) pos) tb):PE X (.BoolOp .And (a::b::aE) pos) (DQ ta tb):=by
 intro pz s σ H Q I h
 refine BoolOp_and (aT (ha pz s σ H _ I h) fun v s1 x H1 I1 r1 q1=>?_)
 obtain⟨c,rfl,q1⟩:=q1
 cases r1
 refine Zd ?_
 cases c with
 | true=>exact hb pz s1 σ H1 Q I1 q1
 | false=>exact⟨.bl false,H1,I1,rfl,q1⟩
theorem D4 (ha:PE X a ta)(hb:PE X (.BoolOp .Or (b::aE) pos) tb):PE X (.BoolOp .Or (a::b::aE) pos) (EH ta tb):=by
 intro pz s σ H Q I h
 refine BoolOp_or (aT (ha pz s σ H _ I h) fun v s1 x H1 I1 r1 q1=>?_)
 obtain⟨c,rfl,q1⟩:=q1
 cases r1
 refine Zd ?_
 cases c with
 | false=>exact hb pz s1 σ H1 Q I1 q1
 | true=>exact⟨.bl true,H1,I1,rfl,q1⟩
theorem AB (ha:PE X a ta):PE X (.UnaryOp .Not a pos) (B7 ta):=by
 intro pz s σ H Q I h
 refine UnaryOp_ (aT (ha pz s σ H _ I h) fun v s1 x H1 I1 r1 q1=>?_)
 obtain⟨c,rfl,q1⟩:=q1
 cases r1
 exact not_of (Zd ⟨.bl (!c),H1,I1,rfl,q1⟩)
def tIf (t:TT)(ta tb:TE):TE:=fun σ H Q=>t σ H fun c H1=>if c=true then ta σ H1 Q else tb σ H1 Q
theorem vp {c:Expr}(hc:PT X c tA)(ha:PE X a ta)(hb:PE X b tb):PE X (.IfExp c a b pos) (tIf tA ta tb):=by
 intro pz s σ H Q I h
 refine wpAny_IfExp (thn (hc pz s σ H _ I h) fun d s1 hh_=>?_)
 obtain⟨H1,I1,q1⟩:=hh_
 cases d with
 | true=>exact ha pz s1 σ H1 Q I1 q1
 | false=>exact hb pz s1 σ H1 Q I1 q1
end
def SqL (K:Kq)(H:Hp)(a:Addr)(xs:List V):Prop:=
 Rd H a (.lst xs) ∨
  ∃ (o:Obj) (its:Array Value) (n:Nat),K.lookup a=some o∧o.cls=.type "list"∧o.dict=none∧o.data=.seq its n∧its.size≤sizeLine∧Vals xs its.toList
def SqT (K:Kq)(H:Hp)(a:Addr)(xs:List V):Prop:=
 Rd H a (.tup xs) ∨
  ∃ (o:Obj) (its:Array Value) (n:Nat),K.lookup a=some o∧o.cls=.type "tuple"∧o.data=.seq its n∧its.size≤sizeLine∧Vals xs its.toList
def Fg:Value→Option V
 | .none=>some .non
 | .bool b=>some (.bl b)
 | .int i _=>some (.int i)
 | .str x _=>some (.str x)
 | .bytes b _=>some (.byt b)
 | .float b _=>some (.flt b)
 | .ref a=>some (.ref a)
 | .type n=>some (.ty n)
 | _=>none
theorem RelV.abs {x:V}{u:Value}(r:RelV x u):Fg u=some x:=by
 cases x with
 | non=>cases r;rfl
 | bl _=>cases r;rfl
 | int _=>obtain⟨t,rfl⟩:=r;rfl
 | str _=>obtain⟨t,rfl⟩:=r;rfl
 | byt _=>obtain⟨t,rfl⟩:=r;rfl
 | flt _=>obtain⟨t,rfl⟩:=r;rfl
 | ref _=>cases r;rfl
 | ty _=>cases r;rfl
theorem RelV.inj {x y:V}{u:Value}(r:RelV x u)(q:RelV y u):x=y:=Yq (r.abs.symm.trans q.abs)
theorem Vals.inj {xs ys:List V}{us:List Value}(h:Vals xs us):Vals ys us→xs=ys:=by
 induction h generalizing ys with
 | nil=>intro q;cases q;rfl
 | cons r _ ih=>
  intro q
  cases q with
  | cons r' t'=>rw[r.inj r',ih t']
section
variable {X:Cx} {pz:Kp} {σ:St} {H:Hp} {s:Shared} {a:Addr} {xs ys:List V}
theorem SqL.of {K:Kq}(h:H a=some (.lst xs)):SqL K H a xs:=.inl (.inl h)
theorem SqT.of {K:Kq}(h:H a=some (.tup xs)):SqT K H a xs:=.inl (.inl h)
theorem Inv.list (I:Inv X pz σ H s)(h:SqL X.K H a xs):∃ its:List Value,Vals xs its∧PlainL s.heap a its.toArray∧xs.length≤sizeLine:=by
 rcases h with h | ⟨o,its,n,hk,hc,hd,hs,hz,r⟩
 ·obtain⟨z,its,n,r,e⟩:=h.ok I.hok
  exact⟨its,r,⟨_,n,e,rfl,rfl,rfl⟩,z⟩
 ·refine⟨its.toList,r,⟨o,n,I.kIn a o hk,hc,hd,by simpa using hs⟩,?_⟩
  have e:=r.length
  simp only[Zs] at e
  omega
theorem Inv.tuple (I:Inv X pz σ H s)(h:SqT X.K H a xs):∃ its:List Value,Vals xs its∧IsTup s.heap a its.toArray∧xs.length≤sizeLine:=by
 rcases h with h | ⟨o,its,n,hk,hc,hs,hz,r⟩
 ·obtain⟨z,its,r,p,_⟩:=h.ok I.hok
  exact⟨its,r,p,z⟩
 ·refine⟨its.toList,r,⟨o,I.kIn a o hk,hc,n,by simpa using hs⟩,?_⟩
  have e:=r.length
  simp only[Zs] at e
  omega
theorem Inv.list_inj (I:Inv X pz σ H s)(h:SqL X.K H a xs)(h':SqL X.K H a ys):xs=ys:=by
 obtain⟨its,r,⟨o,n,e,_,_,d⟩,_⟩:=I.list h
 obtain⟨its',r',⟨o',n',e',_,_,d'⟩,_⟩:=I.list h'
 rw[e] at e';cases e'
 rw[d] at d'
 injection d' with d1 _
 have:its=its':=by simpa using YN Array.toList d1
 subst this
 exact r.inj r'
end
abbrev Cx.wish (X:Cx)(E:Kv):Cx:={ X with xe:=E }
abbrev Cx.nox (X:Cx):Cx:=X.wish fun _ _=>False
theorem Cx.Ok.wish {X:Cx}(ok:X.Ok)(E:Kv):(X.wish E).Ok:=
 ⟨ok.mod,ok.kind,ok.glob,ok.blt,ok.above,ok.inj,ok.has,ok.cab,ok.hd,ok.frames,ok.stk,ok.exf,ok.bs,ok.bsz,ok.noex,ok.exfs,ok.funs,ok.frf⟩
theorem Cx.Ok.unwish {X:Cx}{E:Kv}(ok:(X.wish E).Ok):X.Ok:=
 ⟨ok.mod,ok.kind,ok.glob,ok.blt,ok.above,ok.inj,ok.has,ok.cab,ok.hd,ok.frames,ok.stk,ok.exf,ok.bs,ok.bsz,ok.noex,ok.exfs,ok.funs,ok.frf⟩
section
variable {X:Cx} {pz:Kp} {σ:St} {H:Hp} {s:Shared} {E:Kv}
theorem Inv.wish (I:Inv X pz σ H s)(E:Kv):Inv (X.wish E) pz σ H s:=⟨I.ok.wish E,I.os,I.bare,I.base,I.loc,I.cell,I.free,I.freeC,I.pin,I.hok,I.len⟩
theorem Inv.unwish (I:Inv (X.wish E) pz σ H s):Inv X pz σ H s:=⟨I.ok.unwish,I.os,I.bare,I.base,I.loc,I.cell,I.free,I.freeC,I.pin,I.hok,I.len⟩
theorem SP.unwish {D:Ends}{f:Flow}{s':Shared}(h:SP (X.wish E) pz D f s'):SP X pz D f s':=by
 cases f with
 | next=>obtain⟨σ',H',I,q⟩:=h;exact⟨σ',H',I.unwish,q⟩
 | brk=>obtain⟨σ',H',I,q⟩:=h;exact⟨σ',H',I.unwish,q⟩
 | cont=>obtain⟨σ',H',I,q⟩:=h;exact⟨σ',H',I.unwish,q⟩
 | ret u=>obtain⟨v,σ',H',I,r,q⟩:=h;exact⟨v,σ',H',I.unwish,r,q⟩
theorem PSs.nox {st:List Stmt}{t:TS}(h:PSs X.nox st t):PSs X st t:=fun pz s σ H D I hw=>
 ZA (h pz s σ H D (I.wish _) hw) (fun _ _ q=>q.unwish) fun _ _ z=>False.elim z
end
section
variable {X:Cx} {st:Stmt} {aE:List Stmt} {t u:TS} {e:Expr} {te:TE} {pos:Pos}
def C1:TS:=fun D σ H=>D.nx σ H
def El (t u:TS):TS:=fun D σ H=>t { D with nx:=u D } σ H
theorem yh:PSs X [] C1:=fun _ _ σ H _ I h=>Xz ⟨σ,H,I,h⟩
theorem t5 (h1:PS X st t)(h2:PSs X aE u):PSs X (st::aE) (El t u):=by
 intro pz s σ H D I h
 refine wpAny_execs_cons (thn (h1 pz s σ H { D with nx:=u D } I h) fun f s1 q=>?_)
 cases f with
 | next=>
  obtain⟨σ',H',I',q⟩:=q
  exact h2 pz s1 σ' H' D I' q
 | ret v=>exact q
 | brk=>exact q
 | cont=>exact q
theorem yX (h1:PS X st t):PSs X [st] t:=by
 intro pz s σ H D I h
 refine wpAny_execs_cons (thn (h1 pz s σ H D I h) fun f s1 q=>?_)
 cases f with
 | next=>exact Xz q
 | ret v=>exact q
 | brk=>exact q
 | cont=>exact q
theorem Inv.quiet {pz:Kp}{σ:St}{H:Hp}{s:Shared}(I:Inv X pz σ H s):interactive X.env=false:=by simp[interactive,I.ok.kind]
def CK (te:TE):TS:=fun D σ H=>te σ H fun _ H1=>D.nx σ H1
theorem c_ (he:PE X e te)(hs:swapsWith e none pos.line X.env=pure false:=by rfl):PS X (.Expr e pos) (CK te):=by
 intro pz s σ H D I h
 exact wpAny_Expr_any (aT (he pz s σ H _ I h) fun v s1 x H1 I1 r1 q1=>⟨σ,H1,I1,q1⟩) I.quiet hs
def Es (te:TE):TS:=fun D σ H=>te σ H D.rt
theorem mQ (he:PE X e te):PS X (.Return (some e) pos) (Es te):=by
 intro pz s σ H D I h
 exact wpAny_Return_some (aT (he pz s σ H _ I h) fun v s1 x H1 I1 r1 q1=>⟨x,σ,H1,I1,r1,q1⟩)
def Fm (c:TT)(t u:TS):TS:=fun D σ H=>c σ H fun b H1=>if b=true then t D σ H1 else u D σ H1
theorem zP {c:Expr}{a b:List Stmt}{tc:TT}(hc:PT X c tc)(ha:PSs X a t)(hb:PSs X b u):PS X (.If c a b pos) (Fm tc t u):=by
 intro pz s σ H D I h
 refine wpAny_If (thn (hc pz s σ H _ I h) fun d s1 hh_=>?_)
 obtain⟨H1,I1,q1⟩:=hh_
 cases d with
 | true=>exact ha pz s1 σ H1 D I1 q1
 | false=>exact hb pz s1 σ H1 D I1 q1
def AZ:TS:=fun _ _ _=>False
theorem tV:PS X st AZ:=fun _ _ _ _ _ _ h=>h.elim
end
abbrev TG:=V→St→Hp→(St→Hp→Prop)→Prop
abbrev TGs:=List V→St→Hp→(St→Hp→Prop)→Prop
def PG (X:Cx)(target:Expr)(t:TG):Prop:=
 ∀ (pz:Kp) (s:Shared) (σ:St) (H:Hp) (v:V) (u:Value) (Q:St→Hp→Prop),Inv X pz σ H s→RelV v u→t v σ H Q→
  wpAny (model X.prog X.w) X.A (assign target X.env u) (fun _ s'=>∃ σ' H',Inv X pz σ' H' s'∧Q σ' H') X.xe s
def PGs (X:Cx)(ts:List Expr)(t:TGs):Prop:=
 ∀ (pz:Kp) (s:Shared) (σ:St) (H:Hp) (vs:List V) (us:List Value) (Q:St→Hp→Prop),Inv X pz σ H s→Vals vs us→t vs σ H Q→
  wpAny (model X.prog X.w) X.A (assignInOrder ((assignEach ts X.env).map (·.2)) us) (fun _ s'=>∃ σ' H',Inv X pz σ' H' s'∧Q σ' H') X.xe s
abbrev BD:=V→V→V→Hp→(Hp→Prop)→Prop
def Db (X:Cx)(t:BD):Prop:=
 ∀ (pz:Kp) (s:Shared) (σ:St) (H:Hp) (o i v:V) (ov iv u:Value) (Q:Hp→Prop),Inv X pz σ H s→RelV o ov→RelV i iv→RelV v u→t o i v H Q→
  wpAny (model X.prog X.w) X.A (setItem ov iv u) (fun _ s'=>∃ H',Inv X pz σ H' s'∧Q H') X.xe s
abbrev TIp:=V→V→Hp→VK→Prop
def PIp (X:Cx)(op:Operator)(t:TIp):Prop:=
 ∀ (pz:Kp) (s:Shared) (σ:St) (H:Hp) (x y:V) (v u:Value) (Q:VK),Inv X pz σ H s→RelV x v→RelV y u→t x y H Q→
  wpAny (model X.prog X.w) X.A (inplaceOp op v u) (EP X pz σ Q) X.xe s
section
variable {X:Cx} {pos:Pos}
def kb (i:Nat):TG:=fun v σ H Q=>Q (σ.set i (some v)) H
theorem rb {i:Nat}{x:Str}(hN:X.N.Nodup)(hi:X.N[i]?=some x)(hx:Loc X.env.scope x)(hf:X.fn x=true∨X.env.scope.names.lookup x=some .local:=by first | exact .inl rfl | exact .inr rfl | assumption):PG X (.Name x pos) (kb i):=by
 intro pz s σ H v u Q I r h
 exact wpAny_assign_Name (oA I hN hi hx r (fun s' I'=>⟨_,H,I',h⟩) hf)
def CV:TGs:=fun vs σ H Q=>vs=[]∧Q σ H
def zp (t:TG)(u:TGs):TGs:=fun vs σ H Q=>∃ v r,vs=v::r∧t v σ H fun σ' H'=>u r σ' H' Q
theorem gL:PGs X [] CV:=by
 intro pz s σ H vs us Q I r h
 obtain⟨e,h⟩:=h
 subst e
 cases r
 exact assignInOrder_nil ⟨σ,H,I,h⟩
theorem bP {e:Expr}{es:List Expr}{t:TG}{u:TGs}(h1:PG X e t)(h2:PGs X es u)
  (hs:(assignEach (e::es) X.env).map (·.2)=assign e X.env::(assignEach es X.env).map (·.2):=by rfl):PGs X (e::es) (zp t u):=by
 intro pz s σ H vs us Q I r h
 obtain⟨v,vr,e1,h⟩:=h
 subst e1
 cases r with
 | cons r rr=>
  rw[hs]
  refine assignInOrder_cons (thn (h1 pz s σ H _ _ _ I r h) fun _ s1 hh_=>?_)
  obtain⟨σ1,H1,I1,q1⟩:=hh_
  exact h2 pz s1 σ1 H1 _ _ Q I1 rr q1
def Fp (K:Kq)(n:Nat)(t:TGs):TG:=fun v σ H Q=>∃ a xs,v=.ref a∧SqT K H a xs∧xs.length=n∧t xs σ H Q
theorem Aq {es:List Expr}{k:Nat}{t:TGs}{n:Nat}(hc:X.calm=true)(h:PGs X es t)
  (hn:(assignEach es X.env).length=n:=by rfl) (hst:(assignEach es X.env).findIdx? (·.1)=none:=by rfl):PG X (.Tuple es k pos) (Fp X.K n t):=by
 intro pz s σ H v u Q I r hw
 obtain⟨a,xs,e1,hq,hl,hw⟩:=hw
 subst e1
 cases r
 obtain⟨its,rv,ht,hz⟩:=I.tuple hq
 refine assign_Tuple_tuple (I.ok.hd hc) ht (by simp[hn,← hl,rv.length]) hst fun h' hx=>?_
 have I1:Inv X pz σ H { s with heap:=h' }:=I.kept (t':=s.toks) fun b o e=>hx b o (YL (YE e)) e
 exact h pz _ σ H xs _ Q I1 (by simpa using rv) hw
def EX (to ti:TE)(t:BD):TG:=fun v σ H Q=>to σ H fun o H1=>ti σ H1 fun i H2=>t o i v H2 fun H3=>Q σ H3
theorem Bt {o i:Expr}{to ti:TE}{t:BD}(ho:PE X o to)(hi:PE X i ti)(hs:Db X t)
  (ha:∀ v,assign (.Subscript o i pos) X.env v=(do
   let ov ← holding [v] (eval o X.env)
   let iv ← holding [v,ov] (eval i X.env)
   standAt pos
   holding [v,ov,iv] (setItem ov iv v)
   release [v,ov,iv] []):=by intro _;rfl):PG X (.Subscript o i pos) (EX to ti t):=by
 intro pz s σ H v u Q I r h
 rw[ha]
 refine Yu (Xx (aT (ho pz s σ H _ I h) fun ov s1 x H1 I1 r1 q1=>?_))
 refine Yu (Xx (aT (hi pz s1 σ H1 _ I1 q1) fun iv s2 y H2 I2 r2 q2=>?_))
 refine Yu (wpAny_standAt (Yu (Xx (thn (hs pz s2 σ H2 x y v ov iv u _ I2 r1 r2 r q2) fun _ s3 hh_=>?_))))
 obtain⟨H3,I3,q3⟩:=hh_
 exact wpAny_release ⟨σ,H3,I3,q3⟩
def xV (te:TE)(g:TG):TS:=fun D σ H=>te σ H fun x H1=>g x σ H1 D.nx
theorem ve {tg e:Expr}{te:TE}{g:TG}(he:PE X e te)(hg:PG X tg g)(hs:swapsWithSole [tg] e pos.line X.env=pure false:=by rfl)(hw:swappedStores [tg] e X.env=pure none:=by rfl)
  (h1:(assignEach [tg] X.env).map (·.2)=[assign tg X.env]:=by rfl):PS X (.Assign [tg] e pos) (xV te g):=by
 intro pz s σ H D I h
 refine wpAny_Assign_stores (aT (he pz s σ H _ I h) fun v s1 x H1 I1 r1 q1=>?_) hs hw
 rw[h1]
 exact thn (hg pz s1 σ H1 x v _ I1 r1 q1) fun _ s2 q=>q
theorem oX {i:Nat}{x:Str}{e:Expr}{te:TE}{pos':Pos}(hN:X.N.Nodup)(hi:X.N[i]?=some x)(hx:Loc X.env.scope x)(he:PE X e te)(hs:swapsWith e (some (.Name x pos')) pos.line X.env=pure false:=by rfl)(hf:X.fn x=true∨X.env.scope.names.lookup x=some .local:=by first | exact .inl rfl | exact .inr rfl | assumption) :
  PS X (.Assign [.Name x pos'] e pos) (xV te (kb i)):=by
 intro pz s σ H D I h
 refine wpAny_Assign_Name (aT (he pz s σ H _ I h) fun v s1 y H1 I1 r1 q1=>?_) hs
 exact oA I1 hN hi hx r1 (fun s2 I2=>⟨_,H1,I2,q1⟩) hf
def ipI (f:Int→Int→Int):TIp:=fun x y H Q=>∃ i j,x=.int i∧y=.int j∧Q (.int (f i j)) H
theorem z6:PIp X .Add (ipI fun i j=>i+j):=by
 intro pz s σ H x y v u Q I r1 r2 h
 obtain⟨i,j,e1,e2,q⟩:=h
 subst e1;subst e2
 obtain⟨t,rfl⟩:=r1
 obtain⟨t',rfl⟩:=r2
 exact iadd_int ⟨.int _,H,I.tok _,⟨_,rfl⟩,q⟩
end
section
variable {X:Cx} {pos:Pos}
def BR (c:TT)(tb:TS):TS:=fun D σ H=>∃ W:Nat→St→Hp→Prop,(∃ m,W m σ H)∧∀ m σ H,W m σ H→
 c σ H fun b H1=>if b=true then ∃ N:St→Hp→Prop,(∀ σ' H',N σ' H'→∃ m',m' < m∧W m' σ' H')∧tb { D with nx:=N,ct:=N,bk:=D.nx } σ H1 else D.nx σ H1
theorem wp {c:Expr}{body:List Stmt}{tc:TT}{tb:TS}(hp:PassesOwn (model X.prog X.w) X.A X.env X.xe)(hc:PT X c tc)(hb:PSs X body tb):PS X (.While c body [] pos) (BR tc tb):=by
 intro pz s σ H D I h
 obtain⟨W,⟨m0,w0⟩,turn⟩:=h
 refine wpAny_While (codeAny_whileLoop (fun n s'=>∃ σ' H',Inv X pz σ' H' s'∧W n σ' H') ?_ m0 ⟨σ,H,I,w0⟩)
 rintro n s1 ⟨σ1,H1,I1,w1⟩
 refine ZH hp (thn (hc pz s1 σ1 H1 _ I1 (turn n σ1 H1 w1)) fun b s2 hh_=>?_)
 obtain⟨H2,I2,q2⟩:=hh_
 cases b with
 | true=>
  obtain⟨N,hN,q2⟩:=q2
  rw[Yh rfl]
  refine ZH hp (thn (hb pz s2 σ1 H2 _ I2 q2) fun f s3 q3=>?_)
  cases f with
  | next=>
   obtain⟨σ3,H3,I3,n3⟩:=q3
   obtain⟨m',hm,w3⟩:=hN σ3 H3 n3
   exact⟨m',hm,σ3,H3,I3,w3⟩
  | cont=>
   obtain⟨σ3,H3,I3,n3⟩:=q3
   obtain⟨m',hm,w3⟩:=hN σ3 H3 n3
   exact⟨m',hm,σ3,H3,I3,w3⟩
  | brk=>exact q3
  | ret v=>exact q3
 | false=>
  rw[Yr Yp]
  exact Xz ⟨σ1,H2,I2,q2⟩
end
structure It where
 go:Nat→Hp→Prop
 yld:Nat→Hp→V→Hp→Prop
 stop:Nat→Hp→Prop
def h8 (X:Cx)(pz:Kp)(H:Hp)(b:Addr):Prop:=
 H b=none∧b≠X.env.locals∧b∉X.fs∧(b∈X.ex∨X.s₀.heap.objs.size≤b)∧(∀ x c,X.env.cells.lookup x=some c→c≠b)∧∀ p∈X.pn++pz,p.1≠b
theorem Inv.fpOk {X:Cx}{pz:Kp}{σ:St}{H H':Hp}{s:Shared}{b:Addr}(I:Inv X pz σ H s)(hb:s.heap.objs.size≤b)(hn:H' b=none):h8 X pz H' b:=by
 refine⟨hn,Nat.ne_of_gt (Yy I.lt hb),I.nofs hb,.inr (YQ I.sz hb),fun x c e z=>?_,fun p hp z=>?_⟩
 ·obtain⟨v,q⟩:=I.cell x c e
  exact absurd (Yy q.lt (by rw[z];exact hb)) (Zh _)
 ·exact absurd (Yy (YE (I.pin p hp).1) (by rw[z];exact hb)) (Zh _)
structure Turn (P:Program) (w:World) (K:PySem.W.Frag) (tg:Expr) (J:It) (fp:List Addr) (it:Addr) (tn:Nat→Heap→Prop):Prop where
 mem:it∈fp
 obj:∀ i h,tn i h→∀ b∈fp,∃ o,h.get? b=some o∧∀ v,o.data≠.cell v
 keep:∀ i h h',tn i h→(∀ b∈fp,∀ o,h.get? b=some o→h'.get? b=some o)→tn i h'
 item:∀ (X:Cx),X.prog=P→X.w=w→X.K=K→X.calm=true→∀ (i:Nat) (pz:Kp) (s:Shared) (σ:St) (H:Hp) (E:Kv),Inv X pz σ H s→(∀ b∈fp,h8 X pz H b)→tn i s.heap→J.go i H→
  wpAny (model P w) X.A (pyNext (.ref it)) (fun r s1=>∃ u,r=some u ∧
   wpAny (model P w) X.A (letOwnedTupleGo tg (.ref it) u) (fun _ s2=>∃ x H',Inv X pz σ H' s2∧RelV x u∧J.yld i H x H'∧tn (i+1) s2.heap∧∀ b∈fp,H' b=none) E s1) E s
 done:∀ (X:Cx),X.prog=P→X.w=w→X.K=K→X.calm=true→∀ (i:Nat) (pz:Kp) (s:Shared) (σ:St) (H:Hp) (E:Kv),Inv X pz σ H s→(∀ b∈fp,h8 X pz H b)→tn i s.heap→J.stop i H→
  wpAny (model P w) X.A (pyNext (.ref it)) (fun r s1=>r=none∧Inv X pz σ H s1) E s
 self:∀ (A:Around) (i:Nat) (s:Shared) (Q:Kv) (E:Kv),tn i s.heap→Q (.ref it) s→wpAny (model P w) A (pyIter (.ref it)) Q E s
abbrev TI:=St→Hp→(It→Hp→Prop)→Prop
def PIE (X:Cx)(pz:Kp)(σ:St)(tg:Expr)(R:It→Hp→Prop)(itv:Value)(s2:Shared):Prop:=
 ∃ (it:Addr) (fp:List Addr) (tn:Nat→Heap→Prop) (J:It) (H':Hp),itv=.ref it∧Inv X pz σ H' s2∧Turn X.prog X.w X.K tg J fp it tn∧tn 0 s2.heap∧(∀ b∈fp,h8 X pz H' b)∧R J H'
def PI (X:Cx)(tg iter:Expr)(wi:TI):Prop:=
 ∀ (pz:Kp) (s:Shared) (σ:St) (H:Hp) (R:It→Hp→Prop),Inv X pz σ H s→wi σ H R→
  wpAny (model X.prog X.w) X.A (eval iter X.env) (fun v s1=>wpAny (model X.prog X.w) X.A (pyIter v) (PIE X pz σ tg R) X.xe s1) X.xe s
theorem wy {M:Model}{A:Around}{E:Kv}{s:Shared}{tg:Expr}{it:Addr}{u:Value}{o:Obj}{n:String}{vs:Array Value}{Q:Unit→Shared→Prop}(ho:s.heap.get? it=some o)(hc:o.cls=.type n)(hd:o.data=.fields vs)
  (hn:["enumerate", "zip", "dict_itemiterator", "dict_reverseitemiterator", "odict_iterator", "itertools.zip_longest", "itertools.pairwise"].contains n=false) (hQ:Q () s):wpAny M A (letOwnedTupleGo tg (.ref it) u) Q E s:=by
 unfold letOwnedTupleGo
 cases tg <;> first
  | exact YV hQ
  | (cases u <;> first
    | exact YV hQ
    | (
     refine Yu (wpAny_load ho ?_)
     rw[hc,hd]
     show wpAny M A (if (["enumerate", "zip", "dict_itemiterator", "dict_reverseitemiterator", "odict_iterator", "itertools.zip_longest", "itertools.pairwise"].contains n&&vs[0]? == some (rawInt _))=true then _ else _) Q E s
     rw[Yr (by intro h;rw[hn,Bool.false_and] at h;cases h)]
     exact YV hQ))
def Itl (K:Kq)(a:Addr):It:=
 ⟨fun i H=>∃ xs x,SqL K H a xs∧xs[i]?=some x,fun i H x H'=>H'=H∧∀ xs,SqL K H a xs→xs[i]?=some x,fun i H=>∃ xs,SqL K H a xs∧xs.length≤i⟩
def Itr (lo:Int)(n:Nat):It:=⟨fun i _=>i<n,fun i H x H'=>H'=H∧x=.int (lo+i),fun i _=>n≤i⟩
theorem sh {P:Program}{w:World}{K:Kq}{tg:Expr}(a it:Addr):Turn P w K tg (Itl K a) [it] it (fun i h=>h.IsListIter it a i) where
 mem:=by simp
 obj:=fun i h st b hb=>by
  have e:b=it:=by simpa using hb
  subst e
  obtain⟨o,e,c,d⟩:=st
  exact⟨o,e,fun v z=>by rw[d] at z;cases z⟩
 keep:=fun i h h' st k=>st.at fun o e=>k it (by simp) o e
 item:=by
  intro X hP hw hK hc i pz s σ H E I hf st hg
  subst hP hw hK
  obtain⟨xs,x,hq,hx⟩:=hg
  obtain⟨its,rv,p,hz⟩:=I.list hq
  obtain⟨u,hu,ru⟩:=rv.get hx
  obtain⟨f0,f1,f2,f3,f4,f5⟩:=hf it (by simp)
  refine wpAny_pyNext_list_item st p.isList (x:=u) (by simpa using hu) fun h' st' sb=>?_
  have I1:Inv X pz σ H { s with heap:=h' }:=I.turned (t':=s.toks) (fun b o hb e=>(sb.2 b hb).trans e) f0 f1 f3 f4 f5
  obtain⟨o,e,c,d⟩:=id st'
  exact⟨u,rfl,wy (s:={ s with heap:=h' }) e c d (by decide) ⟨x,H,I1,ru,⟨rfl,fun ys hy=>by rw[I.list_inj hy hq];exact hx⟩,st',fun b hb=>(hf b hb).1⟩⟩
 done:=by
  intro X hP hw hK hc i pz s σ H E I hf st hg
  subst hP hw hK
  obtain⟨xs,hq,hx⟩:=hg
  obtain⟨its,rv,p,hz⟩:=I.list hq
  obtain⟨f0,f1,f2,f3,f4,f5⟩:=hf it (by simp)
  have hl:=rv.length
  exact wpAny_pyNext_list_end (I.ok.hd hc) st p.isList (by simp;omega) fun h' eb=>⟨rfl,I.turned (t':=s.toks) (fun b o hb e=>eb b o hb e) f0 f1 f3 f4 f5⟩
 self:=fun _ _ _ _ _ st h=>wpAny_pyIter_listiter st h
theorem pJ {P:Program}{w:World}{K:Kq}{tg:Expr}(it:Addr)(lo:Int)(n:Nat):Turn P w K tg (Itr lo n) [it] it (fun i h=>IsRangeIter h it (lo+(i:Nat)*1) ((n:Int)-(i:Nat)) 1) where
 mem:=by simp
 obj:=fun i h st b hb=>by
  have e:b=it:=by simpa using hb
  subst e
  exact⟨_,st,fun v z=>by
   have z':Data.fields _=Data.cell v:=z
   cases z'⟩
 keep:=fun i h h' st k=>k it (by simp) _ st
 item:=by
  intro X hP hw hK hc i pz s σ H E I hf st hg
  subst hP hw hK
  obtain⟨f0,f1,f2,f3,f4,f5⟩:=hf it (by simp)
  have W:=Walks.range (prog:=X.prog) (w:=X.w) (I.ok.hd hc) it lo 1 n
  refine W.item i s _ _ hg st fun v h' tk hv st' kk=>?_
  obtain⟨t,rfl⟩:=hv
  have I1:Inv X pz σ H { s with heap:=h',toks:=tk }:=I.turned (fun b o hb e=>kk b o (by simpa using hb) e) f0 f1 f3 f4 f5
  refine⟨_,rfl,wy (s:={ s with heap:=h',toks:=tk }) (n := "range_iterator") st' rfl rfl (by decide) ⟨.int (lo+i),H,I1,⟨t,?_⟩,⟨rfl,rfl⟩,st',fun b hb=>(hf b hb).1⟩⟩
  rw[Int.mul_one]
 done:=by
  intro X hP hw hK hc i pz s σ H E I hf st hg
  subst hP hw hK
  obtain⟨f0,f1,f2,f3,f4,f5⟩:=hf it (by simp)
  exact wpAny_pyNext_range_end (I.ok.hd hc) st (by have:n≤i:=hg;omega) fun h' eb=>⟨rfl,I.turned (t':=s.toks) (fun b o hb e=>eb b o hb e) f0 f1 f3 f4 f5⟩
 self:=fun _ _ _ _ _ st h=>wpAny_pyIter_rangeiter st h
section
variable {X:Cx} {tg:Expr}
def Ca (K:Kq)(tl:TE):TI:=fun σ H R=>tl σ H fun x H1=>∃ a,x=.ref a∧(∃ xs,SqL K H1 a xs)∧R (Itl K a) H1
theorem qZ {l:Expr}{tl:TE}(hl:PE X l tl):PI X tg l (Ca X.K tl):=by
 intro pz s σ H R I h
 refine aT (hl pz s σ H _ I h) fun v s1 x H1 I1 r1 q1=>?_
 obtain⟨a,e,⟨xs,hq⟩,q⟩:=q1
 subst e
 cases r1
 obtain⟨its,rv,p,hz⟩:=I1.list hq
 refine wpAny_pyIter_list p.isList ?_
 refine⟨s1.heap.objs.size,[s1.heap.objs.size],_,_,H1,rfl,I1.kept (t':=s1.toks) fun b o e=>Yt _ e,sh a _,⟨_,YI _ rfl,rfl,rfl⟩,fun b hb=>?_,q⟩
 have e:b=s1.heap.objs.size:=by simpa using hb
 subst e
 exact I1.fpOk (Yx _) (I1.hok.fresh (Yx _))
theorem wf {pz:Kp}{σ:St}{H:Hp}{s:Shared}{R:It→Hp→Prop}{E:Kv}{lo hi:Int}{t u v:Tok}{tk:Nat}(I:Inv X pz σ H s)(h1:-(2 ^ 62)≤lo)(h2:lo<2 ^ 62)(h3:-(2 ^ 62)≤hi)(h4:hi<2 ^ 62)
  (q:R (Itr lo (hi-lo).toNat) H):wpAny (model X.prog X.w) X.A (pyIter (.ref s.heap.objs.size)) (PIE X pz σ tg R) E { s with heap:=s.heap.push { cls:=.type "range",data:=.fields #[.int lo t,.int hi u,.int 1 v] },toks:=tk }:=by
 refine wpAny_pyIter_range (IsRange.new ..) (small_one h1 h2 h3 h4) ?_
 have I1:Inv X pz σ H { s with heap:=s.heap.push { cls:=.type "range",data:=.fields #[.int lo t,.int hi u,.int 1 v] },toks:=tk }:=I.kept fun b o e=>Yt _ e
 refine⟨(s.heap.push { cls:=.type "range",data:=.fields #[.int lo t,.int hi u,.int 1 v] }).objs.size,[(s.heap.push { cls:=.type "range",data:=.fields #[.int lo t,.int hi u,.int 1 v] }).objs.size],_,_,H,rfl,
  I1.kept (t':=tk) fun b o e=>Yt _ e,pJ _ lo (hi-lo).toNat,?_,fun b hb=>?_,q⟩
 ·have e1:lo+((0:Nat):Int)*1=lo:=by simp
  have e2:(((hi-lo).toNat:Nat):Int)-((0:Nat):Int)=Builtin.Range.rangeSize lo hi 1:=by rw[rangeSize_one];split <;> omega
  show IsRangeIter _ _ (lo+((0:Nat):Int)*1) ((((hi-lo).toNat:Nat):Int)-((0:Nat):Int)) 1
  rw[e1,e2]
  exact YI _ rfl
 ·have e:b=(s.heap.push { cls:=.type "range",data:=.fields #[.int lo t,.int hi u,.int 1 v] }).objs.size:=by simpa using hb
  subst e
  exact I1.fpOk (Yx _) (I1.hok.fresh (Yx _))
def BZ (ta:TA):TI:=fun σ H R=>ta σ H fun vs H1=>∃ j:Int,vs=[.int j]∧-(2 ^ 62)≤j∧j<2 ^ 62∧R (Itr 0 j.toNat) H1
theorem tj {a:Expr}{ta:TA}{p pos:Pos}(hg:Gl X "range")(hm:X.mg "range"=none)(ha:PA X [a] ta)(hs:starEach [a] X.env=[(false,eval a X.env)]:=by rfl):PI X tg (.Call (.Name "range" p) [a] [] pos) (BZ ta):=by
 intro pz s σ H R I h
 refine Call_ (mr I hg hm boot_range (PyProof.Rows.callWith_type1 (aT (ha pos pz s σ H _ I h) fun us s1 vs H1 I1 r1 q1=>?_) hs rfl))
 obtain⟨j,e,q1,q2,q⟩:=q1
 subst e
 cases r1 with
 | cons r rr=>
  cases rr
  obtain⟨t,rfl⟩:=r
  exact call_range_1 (wf I1 (by omega) (by omega) q1 q2 (by simpa using q))
def Ff (wi:TI)(g:TG)(tb:TS):TS:=fun D σ H=>wi σ H fun J H1=>∃ W:Nat→Nat→St→Hp→Prop,(∃ m,W 0 m σ H1)∧∀ i m σ H,W i m σ H→
 (J.stop i H∧D.nx σ H)∨(J.go i H∧∃ N:St→Hp→Prop,(∀ σ' H',N σ' H'→∃ m',m' < m∧W (i+1) m' σ' H')∧∀ x H',J.yld i H x H'→g x σ H' fun σ2 H2=>tb { D with nx:=N,ct:=N,bk:=D.nx } σ2 H2)
def i7 (fp:List Addr)(h:Heap):List (Addr×Obj):=fp.filterMap fun b=>(h.get? b).map fun o=>(b,o)
theorem eT {fp:List Addr}{h:Heap}{b:Addr}{o:Obj}(hb:b∈fp)(e:h.get? b=some o):(b,o)∈i7 fp h:=List.mem_filterMap.mpr ⟨b,hb,by rw[e];rfl⟩
theorem rV {fp:List Addr}{h:Heap}{p:Addr×Obj}(hp:p∈i7 fp h):p.1∈fp∧h.get? p.1=some p.2:=by
 obtain⟨b,hb,e⟩:=List.mem_filterMap.mp hp
 cases q:h.get? b with
 | none=>rw[q] at e;cases e
 | some o=>
  rw[q] at e
  have e':(b,o)=p:=Yq e
  subst e'
  exact⟨hb,q⟩
theorem Inv.pinned {pz:Kp}{σ:St}{H:Hp}{s:Shared}{fp:List Addr}(I:Inv X pz σ H s)(hf:∀ b∈fp,h8 X pz H b)(ho:∀ b∈fp,∃ o,s.heap.get? b=some o∧∀ v,o.data≠.cell v):Inv X (pz++i7 fp s.heap) σ H s:=
 I.pins_of fun p hp=>(Yj.mp hp).elim (fun z=>I.pin p (YT _ z)) fun z=>by
  obtain⟨hb,e⟩:=rV z
  obtain⟨f0,f1,f2,_⟩:=hf p.1 hb
  obtain⟨o,e',d⟩:=ho p.1 hb
  rw[e] at e';cases e'
  exact⟨e,f0,f1,f2,d⟩
theorem Inv.unpinned {pz pl:Kp}{σ:St}{H:Hp}{s:Shared}(I:Inv X (pz++pl) σ H s):Inv X pz σ H s:=I.pins_of fun p hp=>I.pin p (YT _ (Xc _ hp))
theorem Ar {iter:Expr}{body:List Stmt}{wi:TI}{g:TG}{tb:TS}{pos:Pos}(hp:PassesOwn (model X.prog X.w) X.A X.env X.xe)(hc:X.calm=true)(hi:PI X tg iter wi)(hg:PG X tg g)(hb:PSs X body tb)
  (hs:∀ x,foldedSetIterable iter X.env x=pure x:=by intro _;rfl):PS X (.For tg iter body [] pos) (Ff wi g tb):=by
 intro pz s σ H D I h
 refine wpAny_For (thn (hi pz s σ H _ I h) fun v s1 h1=>thn h1 fun itv s2 h2=>?_) hs
 obtain⟨it,fp,tn,J,H2,e,I2,T,st2,f2,W,⟨m0,w0⟩,turn⟩:=h2
 subst e
 -- what stays true of the iterator's objects through the loop
 have stat:∀ {H':Hp},(∀ b∈fp,H' b=none)→∀ b∈fp,h8 X pz H' b:=fun hn b hb=>⟨hn b hb,(f2 b hb).2⟩
 refine codeAny_forLoop_any (fun n s'=>∃ i σ' H',Inv X pz σ' H' s'∧tn i s'.heap∧(∀ b∈fp,H' b=none)∧W i n σ' H') ?_ m0 ⟨0,σ,H2,I2,st2,fun b hb=>(f2 b hb).1,w0⟩
 rintro n s3 ⟨i,σ3,H3,I3,st3,fr3,w3⟩
 rcases turn i n σ3 H3 w3 with⟨stop,qn⟩ | ⟨go,N,hN,step⟩
 ·refine ZH hp (thn (T.done X rfl rfl rfl hc i pz s3 σ3 H3 X.xe I3 (stat fr3) st3 stop) fun r s4 ⟨hr,I4⟩=>?_)
  subst hr
  exact Xz ⟨σ3,H3,I4,qn⟩
 ·refine ZH hp (thn (T.item X rfl rfl rfl hc i pz s3 σ3 H3 X.xe I3 (stat fr3) st3 go) fun r s4 ⟨u,hr,h4⟩=>?_)
  subst hr
  refine ZH hp (thn h4 fun _ s5 hh_=>?_)
  obtain⟨x,H5,I5,r5,y5,st5,fr5⟩:=hh_
  have I5':=I5.pinned (stat fr5) (T.obj _ _ st5)
  refine ZH hp (thn (hg _ s5 σ3 H5 x u _ I5' r5 (step x H5 y5)) fun _ s6 hh_=>?_)
  obtain⟨σ6,H6,I6,q6⟩:=hh_
  refine ZH hp (thn (hb _ s6 σ6 H6 _ I6 q6) fun f s7 q7=>?_)
  have again:∀ {σ7:St} {H7:Hp},Inv X (pz++i7 fp s5.heap) σ7 H7 s7→N σ7 H7→∃ m,m<n∧∃ i σ' H',Inv X pz σ' H' s7∧tn i s7.heap∧(∀ b∈fp,H' b=none)∧W i m σ' H':=fun {σ7 H7} I7 n7=>by
   obtain⟨m',hm,w7⟩:=hN σ7 H7 n7
   refine⟨m',hm,i+1,σ7,H7,I7.unpinned,T.keep _ _ _ st5 fun b hb o e=>(I7.pin (b,o) (YT _ (YT _ (eT hb e)))).1,fun b hb=>?_,w7⟩
   obtain⟨o,e,d⟩:=T.obj _ _ st5 b hb
   exact (I7.pin (b,o) (YT _ (YT _ (eT hb e)))).2.1
  cases f with
  | next=>obtain⟨σ7,H7,I7,n7⟩:=q7;exact again I7 n7
  | cont=>obtain⟨σ7,H7,I7,n7⟩:=q7;exact again I7 n7
  | brk=>obtain⟨σ7,H7,I7,q7⟩:=q7;exact⟨σ7,H7,I7.unpinned,q7⟩
  | ret v=>obtain⟨x7,σ7,H7,I7,r7,q7⟩:=q7;exact⟨x7,σ7,H7,I7.unpinned,r7,q7⟩
end
abbrev R2:=V→V→Hp→VK→Prop
def OpR (X:Cx)(f:Value→Value→Sem Value)(r:R2):Prop:=
 ∀ (pz:Kp) (s:Shared) (σ:St) (H:Hp) (x y:V) (v u:Value) (Q:VK),Inv X pz σ H s→RelV x v→RelV y u→r x y H Q→
  wpAny (model X.prog X.w) X.A (f v u) (EP X pz σ Q) X.xe s
def CallR (X:Cx)(f:Value)(r:List V→Hp→VK→Prop):Prop:=
 ∀ (pz:Kp) (s:Shared) (σ:St) (H:Hp) (xs:List V) (us:List Value) (Q:VK),Inv X pz σ H s→Vals xs us→r xs H Q→
  wpAny (model X.prog X.w) X.A (call f us) (EP X pz σ Q) X.xe s
def ES (X:Cx)(r:V→Hp→(Bool→Hp→Prop)→Prop):Prop:=
 ∀ (pz:Kp) (s:Shared) (σ:St) (H:Hp) (x:V) (v:Value) (Q:Bool→Hp→Prop),Inv X pz σ H s→RelV x v→r x H Q→
  wpAny (model X.prog X.w) X.A (truthy v) (TP X pz σ Q) X.xe s
def tOp (r:R2)(ta tb:TE):TE:=fun σ H Q=>ta σ H fun x H1=>tb σ H1 fun y H2=>r x y H2 Q
def rI (C:Int→Int→Prop)(g:Int→Int→V):R2:=fun x y H Q=>∃ i j,x=.int i∧y=.int j∧C i j∧Q (g i j) H
def rI0 (g:Int→Int→V):R2:=fun x y H Q=>∃ i j,x=.int i∧y=.int j∧Q (g i j) H
section
variable {X:Cx} {a b c:Expr} {ta tb tc:TE} {pos:Pos}
theorem Ae (ha:PE X a ta)(hb:PE X b tb){pz:Kp}{s:Shared}{σ:St}{H:Hp}{R:V→V→Hp→Prop}(I:Inv X pz σ H s)
  (h:ta σ H fun x H1=>tb σ H1 fun y H2=>R x y H2) {Q:Kv} {f:Value→Value→Sem Value}
  (hf:∀ v u s2 x y H2,Inv X pz σ H2 s2→RelV x v→RelV y u→R x y H2→wpAny (model X.prog X.w) X.A (f v u) Q X.xe s2) :
  wpAny (model X.prog X.w) X.A (eval a X.env) (fun v s₁=>wpAny (model X.prog X.w) X.A (eval b X.env) (fun u s₂=>wpAny (model X.prog X.w) X.A (f v u) Q X.xe s₂) X.xe s₁) X.xe s:=by
 refine aT (ha pz s σ H _ I h) fun v s1 x H1 I1 r1 q1=>?_
 refine aT (hb pz s1 σ H1 _ I1 q1) fun u s2 y H2 I2 r2 q2=>?_
 exact hf v u s2 x y H2 I2 r1 r2 q2
theorem ze {op:Operator}{r:R2}(ho:OpR X (binaryOp op) r)(ha:PE X a ta)(hb:PE X b tb):PE X (.BinOp a op b pos) (tOp r ta tb):=by
 intro pz s σ H Q I h
 exact wpAny_BinOp (Ae ha hb I h fun v u s2 x y H2 I2 rx ry q=>ho pz s2 σ H2 x y v u Q I2 rx ry q)
theorem opI {f:Value→Value→Sem Value}{C:Int→Int→Prop}{g:Int→Int→Int}
  (rule:∀ (i j:Int) (t u:Tok) (s:Shared) (Q:Kv) (E:Kv),C i j→Q (.int (g i j) s.toks) { s with toks:=s.toks+1 }→wpAny (model X.prog X.w) X.A (f (.int i t) (.int j u)) Q E s) :
  OpR X f (rI C fun i j=>.int (g i j)):=by
 intro pz s σ H x y v u Q I rx ry h
 obtain⟨i,j,rfl,rfl,hc,q⟩:=h
 obtain⟨t,rfl⟩:=rx
 obtain⟨t',rfl⟩:=ry
 exact rule i j t t' s _ _ hc ⟨.int (g i j),H,I.tok _,⟨_,rfl⟩,q⟩
theorem DI {f:Value→Value→Sem Value}{g:Int→Int→Int}
  (rule:∀ (i j:Int) (t u:Tok) (s:Shared) (Q:Kv) (E:Kv),Q (.int (g i j) s.toks) { s with toks:=s.toks+1 }→wpAny (model X.prog X.w) X.A (f (.int i t) (.int j u)) Q E s) :
  OpR X f (rI0 fun i j=>.int (g i j)):=by
 intro pz s σ H x y v u Q I rx ry h
 obtain⟨i,j,rfl,rfl,q⟩:=h
 obtain⟨t,rfl⟩:=rx
 obtain⟨t',rfl⟩:=ry
 exact rule i j t t' s _ _ ⟨.int (g i j),H,I.tok _,⟨_,rfl⟩,q⟩
theorem Av {f:Value→Value→Sem Value}{g:Int→Int→Bool}
  (rule:∀ (i j:Int) (t u:Tok) (s:Shared) (Q:Kv) (E:Kv),Q (.bool (g i j)) s→wpAny (model X.prog X.w) X.A (f (.int i t) (.int j u)) Q E s) :
  OpR X f (rI0 fun i j=>.bl (g i j)):=by
 intro pz s σ H x y v u Q I rx ry h
 obtain⟨i,j,rfl,rfl,q⟩:=h
 obtain⟨t,rfl⟩:=rx
 obtain⟨t',rfl⟩:=ry
 exact rule i j t t' s _ _ ⟨.bl (g i j),H,I,rfl,q⟩
def Ep (i j:Int):Prop:=0<j∧j<1073741824
def EC (i j:Int):Prop:=0≤j∧j≤1000000∧i.natAbs<2 ^ 64
def CMul (i j:Int):Prop:=(-(2 ^ 64)<i∧i<2 ^ 64)∨(-(2 ^ 64)<j∧j<2 ^ 64)
theorem CMul.ok {i j:Int}(h:CMul i j):IntMulOk i j:=by
 rcases h with⟨h1,h2⟩ | ⟨h1,h2⟩
 ·exact .of_left (intBits_le_64 h1 h2)
 ·exact .of_right (intBits_le_64 h1 h2)
theorem uV:OpR X (binaryOp .Add) (rI0 fun i j=>.int (i+j)):=DI fun _ _ _ _ _ _ _ q=>add_int q
theorem Ab:OpR X (binaryOp .Sub) (rI0 fun i j=>.int (i-j)):=DI fun _ _ _ _ _ _ _ q=>sub_int q
theorem BH:OpR X (binaryOp .Mult) (rI CMul fun i j=>.int (i*j)):=opI fun _ _ _ _ _ _ _ hc q=>mul_int q hc.ok
theorem wJ:OpR X (binaryOp .FloorDiv) (rI Ep fun i j=>.int (i/j)):=opI fun i j _ _ _ _ _ hc q=>by
 have h1:(0:Int)<j:=hc.1
 have h2:j<1073741824:=hc.2
 exact floordiv_int (by omega) (by rw[Int.fdiv_eq_ediv_of_nonneg i (by omega)];exact q) (.inl (PyProof.noPylong_small (by omega)))
theorem vJ:OpR X (binaryOp .Mod) (rI (fun _ j=>0<j) fun i j=>.int (i%j)):=opI fun i j _ _ _ _ _ hc q=>by
 have h1:(0:Int)<j:=hc
 exact mod_int' (by omega) (by rw[Int.fmod_eq_emod_of_nonneg i (by omega)];exact q)
theorem As:OpR X (binaryOp .Pow) (rI EC fun i j=>.int (i ^ j.toNat)):=opI fun _ _ _ _ _ _ _ hc q=>pow_int_small hc.1 hc.2.1 hc.2.2 q
end
section
variable {X:Cx} {a b c:Expr} {ta tb tc:TE} {pos:Pos}
theorem Cj:OpR X (compareOp .Lt) (rI0 fun i j=>.bl (decide (i<j))):=Av fun _ _ _ _ _ _ _ q=>lt_int q
theorem DU:OpR X (compareOp .LtE) (rI0 fun i j=>.bl (decide (i≤j))):=Av fun _ _ _ _ _ _ _ q=>le_int q
theorem zM:OpR X (compareOp .Gt) (rI0 fun i j=>.bl (decide (j<i))):=Av fun _ _ _ _ _ _ _ q=>gt_int q
theorem OpR.or {f:Value→Value→Sem Value}{r r':R2}(h:OpR X f r)(h':OpR X f r'):OpR X f (fun x y H Q=>r x y H Q∨r' x y H Q):=by
 intro pz s σ H x y v u Q I rx ry q
 rcases q with q | q
 ·exact h pz s σ H x y v u Q I rx ry q
 ·exact h' pz s σ H x y v u Q I rx ry q
theorem fz (b:Expr){op:CmpOp}(h:op≠.In:=by decide)(h2:op≠.NotIn:=by decide):behindInMarks op b=false:=by
 have e1:(op == CmpOp.In)=false:=by cases op <;> first | rfl | exact absurd rfl h
 have e2:(op == CmpOp.NotIn)=false:=by cases op <;> first | rfl | exact absurd rfl h2
 cases b <;> simp[behindInMarks,e1,e2]
theorem qQ {op:CmpOp}{r:R2}(ho:OpR X (compareOp op) r)(ha:PE X a ta)(hb:PE X b tb)(hm:behindInMarks op b=false):PE X (.Compare a [op] [b] pos) (tOp r ta tb):=by
 intro pz s σ H Q I h
 exact wpAny_Compare1 (Ae ha hb I h fun v u s2 x y H2 I2 rx ry q=>ho pz s2 σ H2 x y v u Q I2 rx ry q) hm
def ww (t:TE):TT:=fun σ H Q=>t σ H fun x H'=>∃ k,x=.bl k∧Q k H'
theorem mK {op:CmpOp}{r:R2}(ho:OpR X (compareOp op) r)(ha:PE X a ta)(hb:PE X b tb)(hm:behindInMarks op b=false):PT X (.Compare a [op] [b] pos) (ww (tOp r ta tb)):=by
 intro pz s σ H Q I h
 refine wpAny_isTrue_Compare1 (aT (ha pz s σ H _ I h) fun v s1 x H1 I1 r1 q1=>aT (hb pz s1 σ H1 _ I1 q1) fun u s2 y H2 I2 r2 q2=>
  aT (ho pz s2 σ H2 x y v u _ I2 r1 r2 q2) fun c s3 z H3 I3 r3 ⟨k,e,q3⟩=>?_) hm
 subst e
 cases r3
 exact Zd ⟨H3,I3,q3⟩
def pd (r r':R2)(ta tb tc:TE):TE:=fun σ H Q=>ta σ H fun x H1=>tb σ H1 fun y H2=>r x y H2 fun z H3=>∃ k,z=.bl k ∧
 (if k=true then tc σ H3 fun w' H4=>r' y w' H4 Q else Q (.bl false) H3)
theorem nI {op op':CmpOp}{r r':R2}(ho:OpR X (compareOp op) r)(ho':OpR X (compareOp op') r')(ha:PE X a ta)(hb:PE X b tb)(hc:PE X c tc)
  (hm:lastMarks [op,op'] [b,c]=false:=by with_unfolding_all rfl):PE X (.Compare a [op,op'] [b,c] pos) (pd r r' ta tb tc):=by
 intro pz s σ H Q I h
 refine Compare_chain (aT (ha pz s σ H _ I h) fun v s1 x H1 I1 r1 q1=>chain_link (aT (hb pz s1 σ H1 _ I1 q1) fun u s2 y H2 I2 r2 q2=>
  aT (ho pz s2 σ H2 x y v u _ I2 r1 r2 q2) fun d s3 z H3 I3 r3 ⟨k,e,q3⟩=>?_)) hm
 subst e
 cases r3
 refine Zd ?_
 cases k with
 | false=>exact ite_ff ⟨.bl false,H3,I3,rfl,q3⟩
 | true=>exact ite_tt (chain_last (aT (hc pz s3 σ H3 _ I3 q3) fun w' s4 z' H4 I4 r4 q4=>ho' pz s4 σ H4 y z' u w' Q I4 r2 r4 q4))
theorem uU {op op':CmpOp}{r r':R2}(ho:OpR X (compareOp op) r)(ho':OpR X (compareOp op') r')(ha:PE X a ta)(hb:PE X b tb)(hc:PE X c tc)
  (hm:lastMarks [op,op'] [b,c]=false:=by with_unfolding_all rfl):PT X (.Compare a [op,op'] [b,c] pos) (ww (pd r r' ta tb tc)):=by
 intro pz s σ H Q I h
 refine isTrue_chain (aT (ha pz s σ H _ I h) fun v s1 x H1 I1 r1 q1=>test_link (aT (hb pz s1 σ H1 _ I1 q1) fun u s2 y H2 I2 r2 q2=>
  aT (ho pz s2 σ H2 x y v u _ I2 r1 r2 q2) fun d s3 z H3 I3 r3 ⟨k,e,q3⟩=>?_)) hm
 subst e
 cases r3
 refine Zd ?_
 cases k with
 | false=>
  obtain⟨k',e',q'⟩:=q3
  cases e'
  exact ite_ff ⟨H3,I3,q'⟩
 | true=>
  refine ite_tt (test_last (aT (hc pz s3 σ H3 _ I3 q3) fun w' s4 z' H4 I4 r4 q4=>aT (ho' pz s4 σ H4 y z' u w' _ I4 r2 r4 q4) fun d' s5 z2 H5 I5 r5 hh_=>?_))
  obtain⟨k2,e2,q5⟩:=hh_
  subst e2
  cases r5
  exact Zd ⟨H5,I5,q5⟩
def D5 (K:Kq)(x:V)(H:Hp)(k:Bool):Prop:=
 match x with
 | .non=>k=false
 | .bl b=>k=b
 | .int i=>k=(i != 0)
 | .str y=>y.length≤sizeLine∧k=((y.length:Int) != 0)
 | .byt y=>y.size≤sizeLine∧k=((y.size:Int) != 0)
 | .ref p=>(∃ xs,SqL K H p xs∧k=!xs.isEmpty)∨(∃ xs,SqT K H p xs∧k=!xs.isEmpty)∨∃ kvs,H p=some (.dK kvs)∧k=!kvs.isEmpty
 | _=>False
theorem pi {κ:Type}{kvs:List (κ×V)}{vs:List (κ×Value)}(r:KV kvs vs):(!vs.isEmpty)=!kvs.isEmpty:=by
 cases r <;> rfl
theorem jd {xs:List V}{its:List Value}(r:Vals xs its):(!its.toArray.isEmpty)=!xs.isEmpty:=by
 cases r <;> simp
theorem f_:(sizeLine:Nat)<2 ^ 63:=by rw[YK];decide
theorem AF:ES X (fun x H Q=>∃ k,D5 X.K x H k∧Q k H):=by
 intro pz s σ H x v Q I rx h
 obtain⟨k,e,q⟩:=h
 have hl:=f_
 have hs:sizeLine=16777216:=YK
 cases x with
 | non=>
  cases rx
  have e':k=false:=e
  subst e'
  exact truthy_none ⟨H,I,q⟩
 | bl b=>
  cases rx
  have e':k=b:=e
  subst e'
  exact Zd ⟨H,I,q⟩
 | int i=>
  obtain⟨t,rfl⟩:=rx
  have e':k=(i != 0):=e
  subst e'
  exact PySem.P.truthy_int ⟨H,I,q⟩
 | str y=>
  obtain⟨t,rfl⟩:=rx
  obtain⟨hy,e'⟩:y.length≤sizeLine∧k=((y.length:Int) != 0):=e
  subst e'
  exact PySem.P.truthy_str (by omega) ⟨H,I.tok _,q⟩
 | byt y=>
  obtain⟨t,rfl⟩:=rx
  obtain⟨hy,e'⟩:y.size≤sizeLine∧k=((y.size:Int) != 0):=e
  subst e'
  exact PySem.W.truthy_bytes (by omega) ⟨H,I.tok _,q⟩
 | ref p=>
  cases rx
  have e':(∃ xs,SqL X.K H p xs∧k=!xs.isEmpty)∨(∃ xs,SqT X.K H p xs∧k=!xs.isEmpty)∨∃ kvs,H p=some (.dK kvs)∧k=!kvs.isEmpty:=e
  rcases e' with⟨xs,hx,e'⟩ | ⟨xs,hx,e'⟩ | ⟨kvs,hx,e'⟩
  ·subst e'
   obtain⟨its,r,pl,hz⟩:=I.list hx
   have hlen:=r.length
   exact wpAny_truthy_list pl.isList (by simp only[Ym];omega) ⟨H,I.tok _,by rw[jd r];exact q⟩
  ·subst e'
   obtain⟨its,r,pl,hz⟩:=I.tuple hx
   have hlen:=r.length
   exact truthy_tuple pl (by simp only[Ym];omega) ⟨H,I.tok _,by rw[jd r];exact q⟩
  ·subst e'
   obtain⟨hz,hS,vs,r,m⟩:kvs.length≤sizeLine∧(p == sysModules)=false∧∃ vs,KV kvs vs∧s.heap.DictOf (bp X.prog X.w) p vs:=I.hok p _ hx
   have hlen:kvs.length=vs.length:=Paired.length r
   exact wpAny_truthy_dict hS m (by omega) ⟨H,I.tok _,by rw[pi r];exact q⟩
 | _=>exact (show False from e).elim
theorem uD (ha:PE X a ta)(he:∀ whole,isTrue a X.env whole=(do let v ← whole;standAt a.pos;holding [v] (truthy v))) :
  PT X a (fun σ H Q=>ta σ H fun x H'=>∃ k,D5 X.K x H' k∧Q k H'):=by
 intro pz s σ H Q I h
 exact isTrue_plain (aT (ha pz s σ H _ I h) fun v s1 x H1 I1 r1 q1=>AF pz s1 σ H1 x v Q I1 r1 q1) (he _)
theorem jQ:OpR X (binaryOp .Add) (fun x y H Q=>∃ i j,x=.str i∧y=.str j∧i.length+j.length≤sizeLine∧Q (.str (i++j)) H):=by
 intro pz s σ H x y v u Q I rx ry h
 obtain⟨i,j,rfl,rfl,hz,q⟩:=h
 obtain⟨t,rfl⟩:=rx
 obtain⟨t',rfl⟩:=ry
 exact add_str (fun t' tk=>⟨.str (i++j),H,I.tok _,⟨_,rfl⟩,q⟩) hz
theorem fU {x:V}{us:List Value}(r:Vals [x] us):∃ u,us=[u]∧RelV x u:=by
 cases r with
 | cons r1 r2=>cases r2;exact⟨_,rfl,r1⟩
theorem rf {x y:V}{us:List Value}(r:Vals [x,y] us):∃ u w',us=[u,w']∧RelV x u∧RelV y w':=by
 cases r with
 | cons r1 r2=>
  cases r2 with
  | cons r3 r4=>cases r4;exact⟨_,_,rfl,r1,r3⟩
theorem sW (hc:X.calm=true):CallR X (.builtin "max") (fun xs H Q=>∃ i j,xs=[.int i,.int j]∧Q (.int (if j > i then j else i)) H):=by
 intro pz s σ H xs us Q I r h
 obtain⟨i,j,rfl,q⟩:=h
 obtain⟨u,w',rfl,⟨t,rfl⟩,⟨t',rfl⟩⟩:=rf r
 refine max_two_ints (I.ok.hd hc) fun h' tk k=>⟨_,H,I.kept k,?_,q⟩
 by_cases hj:j > i
 ·rw[Yh hj,Yh hj];exact⟨_,rfl⟩
 ·rw[Yr hj,Yr hj];exact⟨_,rfl⟩
theorem sK (hc:X.calm=true):CallR X (.builtin "min") (fun xs H Q=>∃ i j,xs=[.int i,.int j]∧Q (.int (if j<i then j else i)) H):=by
 intro pz s σ H xs us Q I r h
 obtain⟨i,j,rfl,q⟩:=h
 obtain⟨u,w',rfl,⟨t,rfl⟩,⟨t',rfl⟩⟩:=rf r
 refine min_two_ints (I.ok.hd hc) fun h' tk k=>⟨_,H,I.kept k,?_,q⟩
 by_cases hj:j<i
 ·rw[Yh hj,Yh hj];exact⟨_,rfl⟩
 ·rw[Yr hj,Yr hj];exact⟨_,rfl⟩
end
structure ObjM (h:Heap) (x dx C:Addr) (mA:Str→Option Value):Prop where
 obj:h.get? x=some (PySem.W.instObj C dx)
 ns:h.Ns1 dx mA
 ne:dx≠x
theorem r6 {h:Heap}{dx:Addr}{mA:Ks}(n:h.Ns1 dx mA):∃ od,h.get? dx=some od∧∀ name,PySem.W.lookIn name od=some (mA name):=by
 obtain⟨o,es,ep,ho,hd,hk,_,hm⟩:=n
 refine⟨o,ho,fun name=>?_⟩
 have e:=hm name
 unfold nsFind findBy at e
 rw[← Array.find?_toList] at e
 unfold PySem.W.lookIn
 rw[hd]
 dsimp only
 split
 ·rename_i y q
  rw[q] at e
  exact YN some e
 ·rename_i q
  rw[q] at e
  have a:es.toList.any (·.refKey)=false:=by
   rw[List.any_eq_false]
   intro y hy
   obtain⟨z,t,hkey⟩:=hk y (Array.mem_toList_iff.mp hy)
   simp[DictEntry.refKey,hkey]
  have a':¬ es.toList.any (·.refKey)=true:=by rw[a];exact Yp
  rw[Yr a']
  exact YN some e
theorem ObjM.look {h:Heap}{x dx C:Addr}{mA:Ks}(I:ObjM h x dx C mA):∃ od,PySem.W.InstAt h x (PySem.W.instObj C dx) C (some od)∧∀ name,PySem.W.lookIn name od=some (mA name):=
 let ⟨od,ho,hl⟩:=r6 I.ns
 ⟨od,⟨I.obj,rfl,rfl,ho⟩,hl⟩
section
variable {prog:Program} {w:World} {A:Around} {E:Kv} {s:Shared} {K:Kq} {x dx C f:Addr} {mA:Ks} {name:Str} {v:Value}
theorem wY {expr:Bool}{Q:Kv}(X:K.In s.heap)(I:ObjM s.heap x dx C mA)(hg:PySem.W.plainGet K C name=true)(hh:PySem.W.hasDictIn K C=true)
  (ha:PySem.W.findIn K (.ref C) name=some none) (hv:mA name=some v) (hv':PySem.W.handedIn v=true) (h:Q v { s with toks:=s.toks+1 }) :
  wpAny (model prog w) A (getAttr (.ref x) name expr) Q E s:=by
 obtain⟨od,J,hl⟩:=I.look
 exact PySem.W.get_value X J (XA hg).1 (PySem.W.findObj_own hh ha rfl (by rw[hl,hv])) hv' h
theorem uC {pl:Sem Bool}{Q:Value×List Value→Shared→Prop}(X:K.In s.heap)(I:ObjM s.heap x dx C mA)(hg:PySem.W.plainGet K C name=true)
  (hf:PySem.W.findIn K (.ref C) name=some (some (.ref f))) (ht:PySem.W.isFn K (.ref f)=true) (hv:mA name=none) (h:Q (.ref f,[.ref x]) s) :
  wpAny (model prog w) A (getMethod (.ref x) name pl) Q E s:=by
 obtain⟨od,J,hl⟩:=I.look
 exact PySem.W.method_fn X J (XA hg).1 (XA hg).2 hf (Xg.mp ht) (by show (PySem.W.lookIn name od).map (·.isSome)=some false;rw[hl,hv];rfl) h
theorem yT {ns:List Str}{Q:Unit→Shared→Prop}(X:K.In s.heap)(I:ObjM s.heap x dx C mA)
  (hs:PySem.W.findIn K (.ref C) "__setattr__"=some (some (.builtin "object.__setattr__"))) (hp:PySem.W.plainOver K C=true) (ht:PySem.W.takerIn K C name=some none) (hh:PySem.W.hasDictIn K C=true)
  (hw:PySem.Within mA ns) (hsz:ns.length≤sizeLine)
  (h:∀ h',ObjM h' x dx C (fun y=>if y=name then some v else mA y)→Heap.SameBut dx s.heap h'→Q () { s with heap:=h',toks:=s.toks+2 }) :
  wpAny (model prog w) A (setAttr (.ref x) name v) Q E s:=by
 obtain⟨od,J,hl⟩:=I.look
 refine PySem.W.set_plain X J hs (PySem.W.osa_open (s:={ s with toks:=s.toks+1 }) (r:=none) X J hp ht fun b=>?_)
 obtain⟨cd,hc,hd'⟩:=PySem.W.any_some hh
 have hx:s.heap.get? x=some ⟨.ref C,some dx,.plain,#[]⟩:=I.obj
 refine Yu (YV (Yu (Yu (wpAny_loadPart hx (Yu (PySem.W.Looks.here (s:={ s with toks:=s.toks+1 }) (PySem.W.looks_clsIn X hc) ?_))))))
 rw[hd']
 refine YV (a:=some dx) (Yu (YV (Yu ?_)))
 refine wpAny_nsSet1 (s:={ s with toks:=s.toks+1 }) I.ns fun h' hn2 hs2=>?_
 obtain⟨oD,esD,epD,hoD,hdD,hcD⟩:=hn2.count (PySem.Within.cons name v hw)
 refine Yu (wpAny_lookBehind hoD (by rw[hdD];exact pastItsLine_dict (YQ hcD (by rw[Yg];omega))) ?_)
 exact YV (h _ ⟨(hs2.2 _ (XJ I.ne)).trans I.obj,hn2,I.ne⟩ hs2)
theorem tJ {R:Kr}{vs:List Value}{kw:List (Str×Value)}(X:K.In s.heap)(hm:PySem.W.makesIn K C=true)
  (hi:PySem.W.findIn K (.ref C) "__init__"=some (some (.ref f))) (hf:PySem.W.typeIn K (.ref f)=some (.type "function"))
  (h:codeAny (model prog w) (A.under (.builtin "type.__call__" ⟨.ref C::vs,kw⟩)) (.call (.ref f) ⟨.ref (s.heap.objs.size+1)::vs,kw⟩) (PySem.W.InitBack (s.heap.objs.size+1) R)
   { s with heap:=(s.heap.push PySem.W.emptyDict).push (PySem.W.instObj C s.heap.objs.size) }) :
  codeAny (model prog w) A (.call (.ref C) ⟨vs,kw⟩) R s:=by
 obtain⟨hh,g,d,t,os⟩:=s
 exact PySem.W.make_core (PySem.W.makes_of X hm) (PySem.W.looks_findIn X hi) (fun self=>PySem.W.bind_fn X self hf) (.inl rfl) h
end
def cu (f:Str)(v:V):List (Str×V)→List (Str×V)
 | []=>[(f,v)]
 | (g,x)::r=>if g=f then (g,v)::r else (g,x)::cu f v r
theorem iG (f g:Str)(v:V):∀ fs:List (Str×V),(cu f v fs).lookup g=if g=f then some v else fs.lookup g
 | []=>by
  show List.lookup g [(f,v)]=_
  by_cases h:g=f
  ·have hb:(g == f)=true:=Xg.mpr h
   simp only[List.lookup,hb,Yh h]
  ·have hb:(g == f)=false:=Zm.mpr h
   simp only[List.lookup,hb,Yr h]
 | (k,x)::r=>by
  have ih:=iG f g v r
  rw[show cu f v ((k,x)::r)=(if k=f then (k,v)::r else (k,x)::cu f v r) from rfl]
  by_cases hk:k=f
  ·rw[Yh hk]
   by_cases h:g=k
   ·have hb:(g == k)=true:=Xg.mpr h
    simp only[List.lookup,hb,Yh (h.trans hk)]
   ·have hb:(g == k)=false:=Zm.mpr h
    simp only[List.lookup,hb,Yr (fun e:g=f=>h (e.trans hk.symm))]
  ·rw[Yr hk]
   by_cases h:g=k
   ·have hb:(g == k)=true:=Xg.mpr h
    simp only[List.lookup,hb,Yr (fun e:g=f=>hk (h.symm.trans e))]
   ·have hb:(g == k)=false:=Zm.mpr h
    simp only[List.lookup,hb]
    exact ih
theorem g9 (f:Str)(v:V):∀ fs:List (Str×V),f∈(cu f v fs).map (·.1)∧∀ g,g∈fs.map (·.1)→g∈(cu f v fs).map (·.1)
 | []=>⟨by simp[cu],fun g h=>by simp at h⟩
 | (k,x)::r=>by
  obtain⟨i1,i2⟩:=g9 f v r
  rw[show cu f v ((k,x)::r)=(if k=f then (k,v)::r else (k,x)::cu f v r) from rfl]
  by_cases hk:k=f
  ·rw[Yh hk]
   subst hk
   exact⟨by simp,fun g h=>by simpa using h⟩
  ·rw[Yr hk]
   refine⟨?_,fun g h=>?_⟩
   ·rw[YA]
    exact Yd _ i1
   ·rw[YA] at h ⊢
    rcases YC.mp h with e | e
    ·exact YC.mpr (.inl e)
    ·exact Yd _ (i2 g e)
theorem iy (f:Str)(v:V):∀ fs:List (Str×V),(cu f v fs).length≤fs.length+1
 | []=>by simp[cu]
 | (k,x)::r=>by
  have ih:=iy f v r
  rw[show cu f v ((k,x)::r)=(if k=f then (k,v)::r else (k,x)::cu f v r) from rfl]
  by_cases hk:k=f
  ·rw[Yh hk,Yg,Yg];omega
  ·rw[Yr hk,Yg,Yg];omega
theorem RelO.some_of {v:V}{o:Option Value}(r:RelO (some v) o):∃ u,o=some u∧RelV v u:=by
 cases o with
 | none=>exact (show False from r).elim
 | some u=>exact⟨u,rfl,r⟩
theorem RelO.none_of {o:Option Value}(r:RelO none o):o=none:=by
 cases o with
 | none=>rfl
 | some u=>exact (show False from r).elim
theorem sE {v:V}{u:Value}(r:RelV v u):PySem.W.handedIn u=true:=by
 cases v with
 | non=>cases (show u=Value.none from r);rfl
 | bl b=>cases (show u=Value.bool b from r);rfl
 | int i=>obtain⟨t,e⟩:=(show ∃ t,u=Value.int i t from r);cases e;rfl
 | str x=>obtain⟨t,e⟩:=(show ∃ t,u=Value.str x t from r);cases e;rfl
 | byt b=>obtain⟨t,e⟩:=(show ∃ t,u=Value.bytes b t from r);cases e;rfl
 | flt b=>obtain⟨t,e⟩:=(show ∃ t,u=Value.float b t from r);cases e;rfl
 | ref a=>cases (show u=Value.ref a from r);rfl
 | ty n=>cases (show u=Value.type n from r);rfl
section
variable {P:Program} {w:World} {H H':Hp} {h h':Heap} {a C dx:Addr} {fs fs':List (Str×V)}
theorem iU (hok:HOk P w H h)(e:H a=some (.ins C dx fs)):∃ mA,ObjM h a dx C mA∧(∀ f,RelO (fs.lookup f) (mA f))∧PySem.Within mA (fs.map (·.1))∧fs.length≤1000∧H dx=some (.own a):=by
 obtain⟨d,z,ne,ob,mA,n,r,q⟩:=(show ObjOk P w H h a (.ins C dx fs) from hok a _ e)
 exact⟨mA,⟨ob,n,ne⟩,r,q,z,d⟩
end
structure Cls (K:PySem.W.Frag) (C:Addr):Prop where
 pg:PySem.W.plainGet K C Str.empty=true
 hd:PySem.W.hasDictIn K C=true
 po:PySem.W.plainOver K C=true
 sa:PySem.W.findIn K (.ref C) "__setattr__"=some (some (.builtin "object.__setattr__"))
theorem Cls.get {K:Kq}{C:Addr}(c:Cls K C)(f:Str):PySem.W.plainGet K C f=true:=c.pg
def NoAttr (K:Kq)(C:Addr)(f:Str):Prop:=PySem.W.findIn K (.ref C) f=some none
theorem NoAttr.taker {K:Kq}{C:Addr}{f:Str}(n:NoAttr K C f):PySem.W.takerIn K C f=some none:=by
 unfold PySem.W.takerIn
 rw[show PySem.W.findIn K (.ref C) f=some none from n]
 rfl
structure Meth (K:PySem.W.Frag) (C:Addr) (m:Str) (f:Addr):Prop where
 at_:PySem.W.findIn K (.ref C) m=some (some (.ref f))
 fn:PySem.W.isFn K (.ref f)=true
 kp:PySem.W.keepIn K (.ref f)=true
section
variable {X:Cx} {pz:Kp} {σ:St} {H:Hp} {s:Shared} {a C dx:Addr} {fs:List (Str×V)} {f:Str} {v:V} {A:Around} {E:Kv}
theorem jG {b:Bool}{Q:Kv}(I:Inv X pz σ H s)(e:H a=some (.ins C dx fs))(c:Cls X.K C)(n:NoAttr X.K C f)(l:fs.lookup f=some v)
  (h:∀ u s',Inv X pz σ H s'→RelV v u→Q u s'):wpAny (model X.prog X.w) A (getAttr (.ref a) f b) Q E s:=by
 obtain⟨mA,O,r,_,_,_⟩:=iU I.hok e
 obtain⟨u,hu,ru⟩:=RelO.some_of (v:=v) (o:=mA f) (by rw[← l];exact r f)
 exact wY I.kIn O (c.get f) c.hd n hu (sE ru) (h u _ (I.tok _) ru)
theorem jy {m:Str}{g:Addr}{pl:Sem Bool}{Q:Value×List Value→Shared→Prop}(I:Inv X pz σ H s)(e:H a=some (.ins C dx fs))(c:Cls X.K C)(k:Meth X.K C m g)(l:fs.lookup m=none)
  (h:Q (.ref g,[.ref a]) s):wpAny (model X.prog X.w) A (getMethod (.ref a) m pl) Q E s:=by
 obtain⟨mA,O,r,_,_,_⟩:=iU I.hok e
 have hn:mA m=none:=RelO.none_of (by rw[← l];exact r m)
 exact uC I.kIn O (c.get m) k.at_ k.fn hn h
theorem jN {y:V}{u:Value}{Q:Unit→Shared→Prop}(I:Inv X pz σ H s)(e:H a=some (.ins C dx fs))(c:Cls X.K C)(n:NoAttr X.K C f)(hl:fs.length<1000)(ry:RelV y u)
  (h:∀ s',Inv X pz σ (upd H a (.ins C dx (cu f y fs))) s'→Q () s'):wpAny (model X.prog X.w) A (setAttr (.ref a) f u) Q E s:=by
 obtain⟨mA,O,r,wi,_,ho⟩:=iU I.hok e
 have hz:(fs.map (·.1)).length≤sizeLine:=by rw[Yb,YK];omega
 refine yT I.kIn O c.sa c.po n.taker c.hd wi hz fun h' O' sb=>h _ ?_
 have hd:∃ o,h'.get? dx=some o:=let ⟨o,_,_,e',_⟩:=O'.ns;⟨o,e'⟩
 refine I.write (x:=a) (e:=dx) (by rw[e];exact True.intro) (.inr ho) (fun b q hb z=>(sb.2 b hb).trans z) hd ?_
 refine⟨by rw[ay O.ne];exact ho,?_,O.ne,O'.obj,_,O'.ns,fun g=>?_,fun g hg=>?_⟩
 ·have:=iy f y fs;omega
 ·show RelO ((cu f y fs).lookup g) (if g=f then some u else mA g)
  rw[iG]
  by_cases q:g=f
  ·rw[Yh q,Yh q];exact ry
  ·rw[Yr q,Yr q];exact r g
 ·by_cases q:g=f
  ·rw[q];exact (g9 f y fs).1
  ·refine (g9 f y fs).2 g (wi g fun z=>hg ?_)
   show (if g=f then some u else mA g)=none
   rw[Yr q];exact z
theorem Inv.made (I:Inv X pz σ H s):Inv X pz σ (upd (upd H s.heap.objs.size (.own (s.heap.objs.size+1))) (s.heap.objs.size+1) (.ins C s.heap.objs.size []))
  { s with heap:=(s.heap.push PySem.W.emptyDict).push (PySem.W.instObj C s.heap.objs.size) }:=by
 have e1:(s.heap.push PySem.W.emptyDict).get? s.heap.objs.size=some PySem.W.emptyDict:=YI s.heap rfl
 have e2:((s.heap.push PySem.W.emptyDict).push (PySem.W.instObj C s.heap.objs.size)).get? (s.heap.objs.size+1)=some (PySem.W.instObj C s.heap.objs.size):=by
  have:=YI (s.heap.push PySem.W.emptyDict) (o:=PySem.W.instObj C s.heap.objs.size) rfl
  rwa [Xq] at this
 have e3:(s.heap.push PySem.W.emptyDict).Ns s.heap.objs.size (fun _=>none):=⟨PySem.W.emptyDict,#[],_,e1,rfl,(fun e he=>absurd he (by simp)),fun _=>rfl⟩
 have I1:=I.laid (a:=s.heap.objs.size) (o:=.own (s.heap.objs.size+1)) (h':=s.heap.push PySem.W.emptyDict) (t':=s.toks) (fun b u q=>Yt _ q) (Yx _) ⟨_,e1⟩
 refine I1.laid (a:=s.heap.objs.size+1) (o:=.ins C s.heap.objs.size []) (t':=s.toks) (fun b u q=>Yt _ q) (ZM (Xq _ _)) ?_
 have ne:s.heap.objs.size≠s.heap.objs.size+1:=YL (Xu _)
 refine⟨by rw[ay ne,aw],YO _,ne,e2,fun _=>none,(Heap.Ns1.of_empty e3).at fun o q=>Yt _ q,fun _=>True.intro,fun y hy=>absurd rfl hy⟩
theorem xP {prog:Program}{w:World}{env:Env}{e:Expr}{f:Str}{pos:Pos}{s:Shared}{Q:Kv}(hb:attributeBase e f env (eval e env)=eval e env)
  (h:wpAny (model prog w) A (eval e env) (fun o s₁=>wpAny (model prog w) A (getAttr o f true) Q E s₁) E s):wpAny (model prog w) A (eval (.Attribute e f pos) env) Q E s:=
 Attribute_any_ h (by rw[arm_eval_Attribute,hb])
end
def EO (K:Kq)(ta:TE)(f:Str):TE:=fun σ H Q=>ta σ H fun x H1=>∃ a C dx fs v,x=.ref a∧H1 a=some (.ins C dx fs)∧Cls K C∧NoAttr K C f∧fs.lookup f=some v∧Q v H1
def Em (K:Kq)(ta tv:TE)(f:Str):TS:=fun D σ H=>tv σ H fun y H1=>ta σ H1 fun x H2=>∃ a C dx fs,x=.ref a∧H2 a=some (.ins C dx fs)∧Cls K C∧NoAttr K C f∧fs.length<1000 ∧
 D.nx σ (upd H2 a (.ins C dx (cu f y fs)))
def E4 (X:Cx)(op:Operator)(rd:V→V→Hp→VK→Prop):Prop:=
 ∀ (pz:Kp) (s:Shared) (σ:St) (H:Hp) (x y:V) (u v:Value) (Q:VK),Inv X pz σ H s→RelV x u→RelV y v→rd x y H Q→wpAny (model X.prog X.w) X.A (inplaceOp op u v) (EP X pz σ Q) X.xe s
def xt (K:Kq)(ta tv:TE)(rd:V→V→Hp→VK→Prop)(f:Str):TS:=fun D σ H=>ta σ H fun x H1=>∃ a C dx fs v,x=.ref a∧H1 a=some (.ins C dx fs)∧Cls K C∧NoAttr K C f∧fs.lookup f=some v ∧
 tv σ H1 fun y H2=>rd v y H2 fun z H3=>∃ dx' fs',H3 a=some (.ins C dx' fs')∧fs'.length<1000∧D.nx σ (upd H3 a (.ins C dx' (cu f z fs')))
section
variable {X:Cx} {o e value:Expr} {f:Str} {pos pos' tpos:Pos} {ta tv:TE}
theorem gh (he:PE X e ta)(hb:attributeBase e f X.env (eval e X.env)=eval e X.env):PE X (.Attribute e f pos) (EO X.K ta f):=by
 intro pz s σ H Q I h
 refine xP hb (aT (he pz s σ H _ I h) fun u s1 x H1 I1 rx hh_=>?_)
 obtain⟨a,C,dx,fs,v,ex,ea,c,n,l,q⟩:=hh_
 subst ex
 obtain rfl:u=Value.ref a:=rx
 exact jG I1 ea c n l fun u' s2 I2 ru=>⟨v,H1,I2,ru,q⟩
theorem pG (ha:PE X o ta)(hv:PE X value tv)(hs:swapsWith value (some (.Attribute o f pos')) pos.line X.env=pure false):PS X (.Assign [.Attribute o f pos'] value pos) (Em X.K ta tv f):=by
 intro pz s σ H D I h
 refine plainObj_wpAny_Assign_Attribute (aT (hv pz s σ H _ I h) fun u s1 y H1 I1 ry q=>aT (ha pz s1 σ H1 _ I1 q) fun ov s2 x H2 I2 rx hh_=>?_) hs
 obtain⟨a,C,dx,fs,ex,ea,c,n,l,q2⟩:=hh_
 subst ex
 obtain rfl:ov=Value.ref a:=rx
 exact jN I2 ea c n l ry fun s3 I3=>⟨σ,_,I3,q2⟩
theorem tm {op:Operator}{rd:V→V→Hp→VK→Prop}(ha:PE X o ta)(hv:PE X value tv)(hop:E4 X op rd):PS X (.AugAssign (.Attribute o f tpos) op value pos) (xt X.K ta tv rd f):=by
 intro pz s σ H D I h
 refine wpAny_AugAssign_AttributeAny (aT (ha pz s σ H _ I h) fun ov s1 x H1 I1 rx hh_=>?_)
 obtain⟨a,C,dx,fs,v,ex,ea,c,n,l,q⟩:=hh_
 subst ex
 obtain rfl:ov=Value.ref a:=rx
 refine jG I1 ea c n l fun u s2 I2 ru=>aT (hv pz s2 σ H1 _ I2 q) fun w3 s3 y H2 I3 ry q3=>aT (hop pz s3 σ H2 v y u w3 _ I3 ru ry q3) fun w4 s4 z H3 I4 rz hh_=>?_
 obtain⟨dx',fs',ea',l',q4⟩:=hh_
 exact jN I4 ea' c n l' rz fun s5 I5=>⟨σ,_,I5,q4⟩
end
section
variable {X:Cx} {pz:Kp} {σ:St} {H:Hp} {s:Shared} {A:Around} {E:Kv} {Q:Kv} {c:Value} {b:Bool}
inductive TyOf (K:PySem.W.Frag) (H:Hp):V→Value→Prop where
 | non:TyOf K H .non (.type "NoneType")
 | bl (x:Bool):TyOf K H (.bl x) (.type "bool")
 | int (i:Int):TyOf K H (.int i) (.type "int")
 | str (x:Str):TyOf K H (.str x) (.type "str")
 | flt (x:UInt64):TyOf K H (.flt x) (.type "float")
 | lst {a:Addr} {xs:List V} (e:H a=some (.lst xs)):TyOf K H (.ref a) (.type "list")
 | frz {a:Addr} {o:Obj} {xs:List V} (e:H a=some (.frz o (.lst xs))):TyOf K H (.ref a) (.type "list")
 | tup {a:Addr} {xs:List V} (e:H a=some (.tup xs)):TyOf K H (.ref a) (.type "tuple")
 | dK {a:Addr} {kvs:List (Key×V)} (e:H a=some (.dK kvs)):TyOf K H (.ref a) (.type "dict")
 | dT {a:Addr} {kvs:List (List Key×V)} (e:H a=some (.dT kvs)):TyOf K H (.ref a) (.type "dict")
 | ins {a C dx:Addr} {fs:List (Str×V)} (e:H a=some (.ins C dx fs)) (cl:Cls K C) (ha:PySem.W.findIn K (.ref C) "__class__"=some (some (.builtin "object.__class__")))
   (hn:PySem.W.specialIn K (.builtin "object.__class__") "__get__"=some (some (.builtin "getset_descriptor.__get__"))) (htk:PySem.W.takesIn K (.builtin "object.__class__")=some true)
   (hm:PySem.W.mroIn K C (.type "object")=some true):TyOf K H (.ref a) (.ref C)
theorem rM {x:V}{u t:Value}(I:Inv X pz σ H s)(rx:RelV x u)(ty:TyOf X.K H x t)(e:PySem.W.kitOne X.K t c=some b)(h:∀ tk,Q (.bool b) { s with toks:=tk }) :
  wpAny (model X.prog X.w) A (call (.builtin "isinstance") [u,c]) Q E s:=by
 cases ty with
 | non=>cases (show u=Value.none from rx);exact Zk PySem.W.kitx_none I.kIn True.intro e (fun z=>nomatch z) h
 | bl y=>cases (show u=Value.bool y from rx);exact Zk PySem.W.kitx_bool I.kIn True.intro e (fun z=>nomatch z) h
 | int i=>obtain⟨t,q⟩:=(show ∃ t,u=Value.int i t from rx);cases q;exact Zk PySem.W.kitx_int I.kIn True.intro e (fun z=>nomatch z) h
 | str y=>obtain⟨t,q⟩:=(show ∃ t,u=Value.str y t from rx);cases q;exact Zk PySem.W.kitx_str I.kIn True.intro e (fun z=>nomatch z) h
 | flt y=>obtain⟨t,q⟩:=(show ∃ t,u=Value.float y t from rx);cases q;exact Zk PySem.W.kitx_float I.kIn True.intro e (fun z=>nomatch z) h
 | @lst a xs ea=>
  cases (show u=Value.ref a from rx)
  obtain⟨_,_,n,_,h1⟩:=(show ObjOk X.prog X.w H s.heap a (.lst xs) from I.hok a _ ea)
  exact Zk PySem.W.kitx_list I.kIn ⟨_,h1,rfl⟩ e (fun z=>nomatch z) h
 | @frz a ob xs ea=>
  cases (show u=Value.ref a from rx)
  obtain⟨_,_,_,n,_,h1⟩:=(show ObjOk X.prog X.w H s.heap a (.frz ob (.lst xs)) from I.hok a _ ea)
  exact Zk PySem.W.kitx_list I.kIn ⟨_,h1,rfl⟩ e (fun z=>nomatch z) h
 | @tup a xs ea=>
  cases (show u=Value.ref a from rx)
  obtain⟨_,_,_,p,_⟩:=(show ObjOk X.prog X.w H s.heap a (.tup xs) from I.hok a _ ea)
  obtain⟨o,h1,h2,_⟩:=p
  exact Zk PySem.W.kitx_tuple I.kIn ⟨o,h1,h2⟩ e (fun z=>nomatch z) h
 | @dK a kvs ea=>
  cases (show u=Value.ref a from rx)
  obtain⟨_,_,vs,_,p⟩:=(show ObjOk X.prog X.w H s.heap a (.dK kvs) from I.hok a _ ea)
  obtain⟨o,es,ep,h1,h2,_⟩:=p
  exact Zk PySem.W.kitx_dict I.kIn ⟨o,h1,h2.1⟩ e (fun z=>nomatch z) h
 | @dT a kvs ea=>
  cases (show u=Value.ref a from rx)
  obtain⟨_,_,xs,_,o,es,ep,h1,h2,_⟩:=(show ObjOk X.prog X.w H s.heap a (.dT kvs) from I.hok a _ ea)
  exact Zk PySem.W.kitx_dict I.kIn ⟨o,h1,h2.1⟩ e (fun z=>nomatch z) h
 | @ins a C dx fs ea cl ha hn htk hm=>
  cases (show u=Value.ref a from rx)
  obtain⟨mA,O,_⟩:=iU I.hok ea
  obtain⟨od,J,_⟩:=O.look
  exact Zk (PySem.W.kitx_own (cl.get _) cl.hd ha hn htk hm) I.kIn J e (fun z=>nomatch z) h
end
structure Room (k:Nat) (A:Around):Prop where
 hd:A.handled=none
 dp:A.depth+3*k+5<recursionLimit
 un:A.units+16*k+200<cLine
theorem Room.mono {j k:Nat}{A:Around}(r:Room k A)(h:j≤k):Room j A:=⟨r.hd,by have:=r.dp;omega,by have:=r.un;omega⟩
theorem Room.deeper {k:Nat}{A:Around}(r:Room (k+1) A)(env:Env):Room k (A.deeper env):=
 ⟨r.hd,by have:=r.dp;show A.depth+1+3*k+5<_;omega,by have:=r.un;show A.units+3+16*k+200<_;omega⟩
theorem pN {A:Around}{C:Addr}{us:List Value}{kw:List (Str×Value)}:(A.under (.builtin "type.__call__" ⟨.ref C::us,kw⟩)).depth=A.depth+1:=by
 first | rfl | simp[Around.under,Code.weight,Code.isCreation,Code.isGuard,Code.isCaller,Code.frames,Code.isFrame,guardIds]
theorem pq {A:Around}{C:Addr}{us:List Value}{kw:List (Str×Value)}:(A.under (.builtin "type.__call__" ⟨.ref C::us,kw⟩)).units=A.units+1:=by
 first | rfl | simp[Around.under,Code.cUnits,Code.frames,Code.isFrame]
theorem Room.make {k:Nat}{A:Around}(r:Room (k+1) A)(C:Addr)(us:List Value)(kw:List (Str×Value)):Room k (A.under (.builtin "type.__call__" ⟨.ref C::us,kw⟩)):=
 ⟨r.hd,by have:=r.dp;rw[pN];omega,by have:=r.un;rw[pq];omega⟩
theorem Room.depth {k:Nat}{A:Around}(r:Room k A):A.depth<recursionLimit:=by have:=r.dp;omega
def oN:TA:=fun _ H Q=>Q [] H
def oh (ta:TE)(tr:TA):TA:=fun σ H Q=>ta σ H fun x H1=>tr σ H1 fun xs H2=>Q (x::xs) H2
section
variable {X:Cx} {e:Expr} {es:List Expr} {te:TE} {t:TA} {pos:Pos}
theorem a9:PA X [] oN:=fun _ _ _ _ H Q I h=>Calls.spliced_nil ⟨[],H,I,.nil,h⟩
theorem aH (ha:PE X e te)(hr:PA X es t)(hs:starEach (e::es) X.env=(false,eval e X.env)::starEach es X.env:=by rfl):PA X (e::es) (oh te t):=by
 intro pos pz s σ H Q I h
 rw[hs]
 show wpAny _ _ (spliced ((false,eval e X.env)::backTo pos (starEach es X.env))) _ _ s
 refine Calls.spliced_cons (aT (ha pz s σ H _ I h) fun u s1 x H1 I1 r1 q1=>?_)
 exact aT (hr pos pz s1 σ H1 _ I1 q1) fun us s2 xs H2 I2 r2 q2=>⟨x::xs,H2,I2,.cons r1 r2,q2⟩
def EE (t:TA):TE:=fun σ H Q=>t σ H fun xs H1=>xs.length≤sizeLine∧∀ p,H1 p=none→Q (.ref p) (upd H1 p (.tup xs))
def Cy (t:TA):TE:=fun σ H Q=>t σ H fun xs H1=>xs.length≤sizeLine∧∀ p,H1 p=none→Q (.ref p) (upd H1 p (.lst xs))
theorem v5 {x1}(h:PA X es t):PE X (.Tuple es x1 pos) (EE t):=by
 intro pz s σ H Q I hq
 refine wpAny_Tuple_spliced (aT (h pos pz s σ H _ I hq) fun us s1 xs H1 I1 r ⟨z,q⟩=>⟨by rw[← r.length];exact z,?_⟩)
 have hf:H1 s1.heap.objs.size=none:=I1.hok.fresh (Yx _)
 refine⟨.ref s1.heap.objs.size,upd H1 s1.heap.objs.size (.tup xs),I1.laid (t':=s1.toks) (fun b u e=>Yt _ e) (Yx _) ?_,rfl,q _ hf⟩
 exact⟨z,us,r,⟨_,YI _ rfl,rfl,_,rfl⟩,_,YI _ rfl,rfl⟩
theorem gc (h:PA X es t):PE X (.List es pos) (Cy t):=by
 intro pz s σ H Q I hq
 refine wpAny_List_spliced (aT (h pos pz s σ H _ I hq) fun us s1 xs H1 I1 r ⟨z,q⟩=>⟨by rw[← r.length];exact z,?_⟩)
 have hf:H1 s1.heap.objs.size=none:=I1.hok.fresh (Yx _)
 refine⟨.ref s1.heap.objs.size,upd H1 s1.heap.objs.size (.lst xs),I1.laid (t':=s1.toks) (fun b u e=>Yt _ e) (Yx _) ?_,rfl,q _ hf⟩
 exact⟨z,us,0,r,YI _ rfl⟩
end
abbrev Sp:=List V→Hp→VK→XK→Prop
abbrev CXT:=List Env→Hp→Shared→XK→Value→Shared→Prop
structure Env0 (P:Program) (w:World) (K:PySem.W.Frag) (mg:Str→Option Value) (base:Heap) (A:Around) (outer:List Env) (s:Shared) (H:Hp):Prop where
 frames:A.frames=some outer
 mod:Mod K mg base
 bs:∀ b o,base.get? b=some o→s.heap.get? b=some o∧H b=none
 bsz:base.objs.size≤s.heap.objs.size
 funs:s.heap.FunFrames base outer
 frf:∀ b∈frs outer,H b=none
 hok:HOk P w H s.heap
 bare:AllBare s.gens
def CE (outer:List Env)(P:Program)(w:World)(H:Hp)(s:Shared)(Q:VK)(u:Value)(s':Shared):Prop:=
 ∃ v H',s'.os=s.os∧AllBare s'.gens∧Un (frs outer) [] H H' s.heap s'.heap∧HOk P w H' s'.heap∧RelV v u∧Q v H'
def CR (CX:CXT)(outer:List Env)(P:Program)(w:World)(H:Hp)(s:Shared)(Q:VK)(E:XK)(r:Result)(s':Shared):Prop:=
 match r with
 | .ok (.ret u)=>CE outer P w H s Q u s'
 | .ok _=>False
 | .error e=>CX outer H s E e s'
structure FnOk (P:Program) (w:World) (K:PySem.W.Frag) (mg:Str→Option Value) (base:Heap) (CX:CXT) (k:Nat) (f:Addr) (fd:FuncData) (ps:List Str) (sp:Sp):Prop where
 len:∀ vs H Q E,sp vs H Q E→vs.length=ps.length
 run:∀ (A:Around) (outer:List Env) (s:Shared) (H:Hp) (args:Args) (us:List Value) (vs:List V) (Q:VK) (E:XK),Room k A→Env0 P w K mg base A outer s H→BindsTo s fd args (ps.zip us)→Vals vs us→sp vs H Q E→
  codeAny (model P w) A (.call (.ref f) args) (CR CX outer P w H s Q E) s
theorem FnOk.imp {P:Program}{w:World}{K:Kq}{mg:Ks}{base:Heap}{CX:CXT}{k:Nat}{f:Addr}{fd:FuncData}{ps:List Str}{sp sp':Sp}(F:FnOk P w K mg base CX k f fd ps sp)
  (h:∀ vs H Q E,sp' vs H Q E→sp vs H Q E):FnOk P w K mg base CX k f fd ps sp':=
 ⟨fun vs H Q E q=>F.len vs H Q E (h _ _ _ _ q),fun A outer s H args us vs Q E hr he hb hv hs=>F.run A outer s H args us vs Q E hr he hb hv (h _ _ _ _ hs)⟩
theorem Env0.make {P:Program}{w:World}{K:Kq}{mg:Ks}{base:Heap}{A:Around}{outer:List Env}{s:Shared}{H:Hp}(e:Env0 P w K mg base A outer s H)(C:Addr)(us:List Value)(kw:List (Str×Value)) :
  Env0 P w K mg base (A.under (.builtin "type.__call__" ⟨.ref C::us,kw⟩)) outer s H:=⟨by first | exact e.frames | (simpa[Around.under,Code.envs,Code.isFrame,pushEnvs] using e.frames),e.mod,e.bs,e.bsz,e.funs,e.frf,e.hok,e.bare⟩
section
variable {X:Cx} {pz:Kp} {σ:St} {H:Hp} {s s':Shared}
theorem Inv.env0 (I:Inv X pz σ H s):Env0 X.prog X.w X.K X.mg X.base X.A X.stack s H:=
 ⟨I.ok.frames,I.ok.mod,I.bs,YQ I.ok.bsz I.sz,I.stack,I.stkFree,I.hok,I.bare⟩
theorem Inv.after {Q:VK}{u:Value}(I:Inv X pz σ H s)(h:CE X.stack X.prog X.w H s Q u s'):EP X pz σ Q u s':=by
 obtain⟨v,H',os,bare,un,hok,r,q⟩:=h
 obtain⟨hh,g,d,t,os'⟩:=s'
 obtain rfl:os'=s.os:=os
 exact⟨v,H',I.call (h':=hh) (g':=g) (d':=d) (t':=t) (ch:=[]) un hok bare (fun b z=>absurd z (by simp)),r,q⟩
end
def rl (sp:Sp)(dvs:List V)(E:XK)(t:TA):TE:=fun σ H Q=>t σ H fun vs H1=>sp (vs++dvs) H1 Q E
def jt (C:Addr)(m:Str)(sp:Sp)(dvs:List V)(E:XK)(ta:TE)(t:TA):TE:=fun σ H Q=>ta σ H fun x H1=>∃ a dx fs,x=.ref a∧H1 a=some (.ins C dx fs)∧fs.lookup m=none ∧
 t σ H1 fun vs H2=>sp (x::(vs++dvs)) H2 Q E
def De (C:Addr)(sp:Sp)(dvs:List V)(E:XK)(t:TA):TE:=fun σ H Q=>t σ H fun vs H1=>∀ x dx,H1 x=none→H1 dx=none→dx≠x→
 sp (.ref x::(vs++dvs)) (upd (upd H1 dx (.own x)) x (.ins C dx [])) (fun v H2=>v=.non∧Q (.ref x) H2) E
def Binds (K:Kq)(fd:FuncData)(ps:List Str)(ds:List Value):Prop:=
 ∀ (s:Shared) (us:List Value),K.In s.heap→(us++ds).length=ps.length→BindsTo s fd ⟨us,[]⟩ (ps.zip (us++ds))
theorem Binds.all {K:Kq}{fd:FuncData}{ps:List Str}(h:∀ us:List Value,us.length=ps.length→bindArgs fd ⟨us,[]⟩=pure (ps.zip us)):Binds K fd ps []:=fun s us _ hl=>by
 rw[Yi] at hl ⊢
 exact .of_eq (h us hl)
def ga (CX:CXT)(X:Cx)(E:XK):Prop:=∀ (pz:Kp) (σ:St) (H:Hp) (s:Shared) (e:Value) (s':Shared),Inv X pz σ H s→CX X.stack H s E e s'→X.xe e s'
section
variable {X:Cx} {CX:CXT} {k:Nat} {f C:Addr} {fd:FuncData} {ps:List Str} {sp:Sp} {dvs:List V} {ds:List Value} {E:XK} {x m:Str} {p pos apos:Pos} {e o:Expr} {es:List Expr} {ta:TE} {t:TA}
theorem oS {pz:Kp}{σ:St}{H:Hp}{s:Shared}{Q:VK}{us:List Value}{vs:List V}(F:FnOk X.prog X.w X.K X.mg X.base CX k f fd ps sp)(hr:Room k X.A)(hb:Binds X.K fd ps ds)(hd:Vals dvs ds)(hx:ga CX X E)
  (I:Inv X pz σ H s) (r:Vals vs us) (h:sp (vs++dvs) H Q E):wpAny (model X.prog X.w) X.A (call (.ref f) us) (EP X pz σ Q) X.xe s:=by
 have r2:Vals (vs++dvs) (us++ds):=r.append hd
 have hl:(us++ds).length=ps.length:=by rw[← r2.length];exact F.len _ _ _ _ h
 refine wpAny_call (codeAny_mono (F.run X.A X.stack s H ⟨us,[]⟩ (us++ds) (vs++dvs) Q E hr I.env0 (hb s us I.kIn hl) r2 h) fun r s' hq=>?_)
 cases r with
 | error e=>exact hx pz σ H s e s' I hq
 | ok fl=>
  cases fl with
  | ret u=>exact I.after hq
  | next=>exact False.elim hq
  | brk=>exact False.elim hq
  | cont=>exact False.elim hq
theorem iO (F:FnOk X.prog X.w X.K X.mg X.base CX k f fd ps sp)(hr:Room k X.A)(hg:Gl X x)(hm:X.mg x=some (.ref f))(hk:PySem.W.keepIn X.K (.ref f)=true)(hb:Binds X.K fd ps ds)(hd:Vals dvs ds)(hx:ga CX X E)
  (ha:PA X (e::es) t) (hdb:(x == ("__debug__":Str))=false:=by decide) (he:starEach (e::es) X.env=(false,eval e X.env)::starEach es X.env:=by rfl) (hpl:(backTo pos (starEach es X.env)).any (·.1)=false:=by rfl) :
  PE X (.Call (.Name x p) (e::es) [] pos) (rl sp dvs E t):=by
 intro pz s σ H Q I h
 refine Xh (gE I hg hm ?_ hdb)
 refine XG (h₀:=X.base) I.ok.mod.kin hk (aT (ha pos pz s σ H _ I h) fun us s1 vs H1 I1 r q=>⟨I1.kIn,?_⟩) he hpl
 exact oS F hr hb hd hx I1 r q
theorem yD {pl:Sem Bool}(he:PE X o ta)(c:Cls X.K C)(hm:Meth X.K C m f)(F:FnOk X.prog X.w X.K X.mg X.base CX k f fd ps sp)(hr:Room k X.A)(hb:Binds X.K fd ps ds)(hd:Vals dvs ds)(hx:ga CX X E)(ha:PA X (e::es) t)
  (hst:starEach (e::es) X.env=(false,eval e X.env)::starEach es X.env:=by rfl) (hpl:(backTo pos (starEach es X.env)).any (·.1)=false:=by rfl)
  (ht:eval (.Call (.Attribute o m apos) (e::es) [] pos) X.env=(do
   let ov ← eval o X.env
   standAt apos.atName
   let (f,first) ← holding [ov] (getMethod ov m pl)
   callWith pos f first (backTo pos (starEach (e::es) X.env)) (backToKw pos (keywordEach [] X.env))):=by rfl) :
  PE X (.Call (.Attribute o m apos) (e::es) [] pos) (jt C m sp dvs E ta t):=by
 intro pz s σ H Q I h
 refine PySem.W.methodCall_KW (pl:=pl) (aT (he pz s σ H _ I h) fun u s1 x H1 I1 rx hh_=>?_) ht
 obtain⟨a,dx,fs,ex,ea,l,q⟩:=hh_
 subst ex
 obtain rfl:u=Value.ref a:=rx
 refine jy I1 ea c hm l ?_
 refine XG (first:=[.ref a]) (h₀:=X.base) I.ok.mod.kin hm.kp (aT (ha pos pz s1 σ H1 _ I1 q) fun us s2 vs H2 I2 r q2=>⟨I2.kIn,?_⟩) hst hpl
 exact oS (us:=.ref a::us) (vs:=.ref a::vs) F hr hb hd hx I2 (.cons rfl r) q2
theorem nW {pl:Sem Bool}(he:PE X o ta)(c:Cls X.K C)(hm:Meth X.K C m f)(F:FnOk X.prog X.w X.K X.mg X.base CX k f fd ps sp)(hr:Room k X.A)(hb:Binds X.K fd ps ds)(hd:Vals dvs ds)(hx:ga CX X E)
  (ht:eval (.Call (.Attribute o m apos) [] [] pos) X.env=(do
   let ov ← eval o X.env
   standAt apos.atName
   let (f,first) ← holding [ov] (getMethod ov m pl)
   callWith pos f first (backTo pos (starEach [] X.env)) (backToKw pos (keywordEach [] X.env))):=by rfl) :
  PE X (.Call (.Attribute o m apos) [] [] pos) (jt C m sp dvs E ta oN):=by
 intro pz s σ H Q I h
 refine PySem.W.methodCall_KW (pl:=pl) (aT (he pz s σ H _ I h) fun u s1 x H1 I1 rx hh_=>?_) ht
 obtain⟨a,dx,fs,ex,ea,l,q⟩:=hh_
 subst ex
 obtain rfl:u=Value.ref a:=rx
 refine jy I1 ea c hm l ?_
 exact PySem.W.callWith_K0 (first:=[.ref a]) I1.kIn hm.kp (oS (us:=[.ref a]) (vs:=[.ref a]) F hr hb hd hx I1 (.cons rfl .nil) q)
structure Mk (K:PySem.W.Frag) (C f:Addr):Prop where
 makes:PySem.W.makesIn K C=true
 init:PySem.W.findIn K (.ref C) "__init__"=some (some (.ref f))
 fn:PySem.W.isFn K (.ref f)=true
 kp:PySem.W.keepIn K (.ref C)=true
theorem ud {pz:Kp}{σ:St}{H:Hp}{s:Shared}{Q:VK}{us:List Value}{vs:List V}(M:Mk X.K C f)(F:FnOk X.prog X.w X.K X.mg X.base CX k f fd ps sp)(hr:Room (k+1) X.A)(hb:Binds X.K fd ps ds)(hd:Vals dvs ds)
  (hx:ga CX X E) (I:Inv X pz σ H s) (r:Vals vs us)
  (h:∀ x dx,H x=none→H dx=none→dx≠x→sp (.ref x::(vs++dvs)) (upd (upd H dx (.own x)) x (.ins C dx [])) (fun v H2=>v=.non∧Q (.ref x) H2) E) :
  wpAny (model X.prog X.w) X.A (call (.ref C) us) (EP X pz σ Q) X.xe s:=by
 have hq:=h (s.heap.objs.size+1) s.heap.objs.size (I.hok.fresh (Nat.le_succ _)) (I.hok.fresh (Yx _)) (YL (Xu _))
 have I2:=Inv.made (C:=C) I
 have r2:Vals (V.ref (s.heap.objs.size+1)::(vs++dvs)) (Value.ref (s.heap.objs.size+1)::(us++ds)):=.cons rfl (r.append hd)
 have hl:(Value.ref (s.heap.objs.size+1)::us++ds).length=ps.length:=by
  have e:=r2.length
  rw[F.len _ _ _ _ hq] at e
  exact e.symm
 refine wpAny_call (tJ (f:=f) I.kIn M.makes M.init (Xg.mp M.fn) (codeAny_mono (F.run _ X.stack _ _ ⟨Value.ref (s.heap.objs.size+1)::us,[]⟩ (Value.ref (s.heap.objs.size+1)::(us++ds)) _ _ E (hr.make C us [])
  (I2.env0.make C us []) (hb _ (Value.ref (s.heap.objs.size+1)::us) I2.kIn hl) r2 hq) fun r s' hq'=>?_))
 cases r with
 | error e=>exact hx pz σ _ _ e s' I2 hq'
 | ok fl=>
  cases fl with
  | ret u=>
   obtain⟨v,H',I3,rv,ev,q3⟩:=I2.after hq'
   subst ev
   exact⟨rv,⟨V.ref (s.heap.objs.size+1),H',I3,rfl,q3⟩⟩
  | next=>exact False.elim hq'
  | brk=>exact False.elim hq'
  | cont=>exact False.elim hq'
theorem qP (M:Mk X.K C f)(F:FnOk X.prog X.w X.K X.mg X.base CX k f fd ps sp)(hr:Room (k+1) X.A)(hg:Gl X x)(hm:X.mg x=some (.ref C))(hb:Binds X.K fd ps ds)(hd:Vals dvs ds)(hx:ga CX X E)
  (ha:PA X (e::es) t) (hdb:(x == ("__debug__":Str))=false:=by decide) (he:starEach (e::es) X.env=(false,eval e X.env)::starEach es X.env:=by rfl) (hpl:(backTo pos (starEach es X.env)).any (·.1)=false:=by rfl) :
  PE X (.Call (.Name x p) (e::es) [] pos) (De C sp dvs E t):=by
 intro pz s σ H Q I h
 refine Xh (gE I hg hm ?_ hdb)
 refine XG (h₀:=X.base) I.ok.mod.kin M.kp (aT (ha pos pz s σ H _ I h) fun us s1 vs H1 I1 r q=>⟨I1.kIn,?_⟩) he hpl
 exact ud M F hr hb hd hx I1 r q
end
section
variable {X:Cx} {CX:CXT} {k:Nat} {f C:Addr} {fd:FuncData} {ps ks:List Str} {sp:Sp} {E:XK} {x m:Str} {p pos apos kpos:Pos} {e o:Expr} {es:List Expr} {kws:List Keyword} {te ta:TE} {t tk:TA} {nm:Option Str}
variable {g:List Value→List Value→List Value} {gV:List V→List V→List V}
end
structure FnScope (N P:List Str) (sc:Scope):Prop where
 kind:sc.kind=.function
 co:sc.isCoroutine=false
 gen:sc.isGenerator=false
 nd:N.Nodup
 pre:N.take P.length=P
 par:∀ x∈P,sc.names.lookup x=some .local∨sc.names.lookup x=some .cell
 nofree:∀ y∈sc.names,y.2≠.free
theorem kA {kindOf:Str→Option NameKind}{x:Str}:∀ {binds:List (Str×Value)} {m:Ks},(∀ v,(x,v)∉binds)→bindL kindOf binds m x=m x
 | [],_,_=>rfl
 | (n,v)::r,m,h=>by
  unfold bindL
  rw[kA fun w hw=>h w (Yd _ hw)]
  split
  ·have:x≠n:=by rintro rfl;exact h v Yf
   simp[this]
  ·rfl
theorem kZ {kindOf:Str→Option NameKind}{x:Str}:∀ {binds:List (Str×Value)} {m:Ks},(∀ v,(x,v)∉binds)→bindC kindOf binds m x=m x
 | [],_,_=>rfl
 | (n,v)::r,m,h=>by
  unfold bindC
  rw[kZ fun w hw=>h w (Yd _ hw)]
  split
  ·rfl
  ·have:x≠n:=by rintro rfl;exact h v Yf
   simp[this]
theorem kf {kindOf:Str→Option NameKind}{x:Str}{v:Value}:∀ {P:List Str} {vs:List Value} {i:Nat} {m:Ks},P.Nodup→P[i]?=some x→vs[i]?=some v→kindOf x=some .local→
  bindL kindOf (P.zip vs) m x=some v
 | [],_,_,_,_,h,_,_=>by simp at h
 | _::_,[],_,_,_,_,h,_=>by simp at h
 | p::P,w::vs,0,m,nd,h1,h2,hk=>by
  simp at h1 h2;subst h1;subst h2
  show bindL kindOf ((p,w)::P.zip vs) m p=_
  unfold bindL
  rw[kA fun v hv=>(YD.mp nd).1 (List.of_mem_zip hv).1,Yh hk]
  simp
 | p::P,w::vs,i+1,m,nd,h1,h2,hk=>by
  show bindL kindOf ((p,w)::P.zip vs) m x=_
  unfold bindL
  exact kf (i:=i) (YD.mp nd).2 (by simpa using h1) (by simpa using h2) hk
theorem kx {kindOf:Str→Option NameKind}{x:Str}{v:Value}:∀ {P:List Str} {vs:List Value} {i:Nat} {m:Ks},P.Nodup→P[i]?=some x→vs[i]?=some v→kindOf x≠some .local→
  bindC kindOf (P.zip vs) m x=some v
 | [],_,_,_,_,h,_,_=>by simp at h
 | _::_,[],_,_,_,_,h,_=>by simp at h
 | p::P,w::vs,0,m,nd,h1,h2,hk=>by
  simp at h1 h2;subst h1;subst h2
  show bindC kindOf ((p,w)::P.zip vs) m p=_
  unfold bindC
  rw[kZ fun v hv=>(YD.mp nd).1 (List.of_mem_zip hv).1,Yr hk]
  simp
 | p::P,w::vs,i+1,m,nd,h1,h2,hk=>by
  show bindC kindOf ((p,w)::P.zip vs) m x=_
  unfold bindC
  exact kx (i:=i) (YD.mp nd).2 (by simpa using h1) (by simpa using h2) hk
def start (N:List Str)(vs:List V):St:=vs.map some++List.replicate (N.length-vs.length) none
def gG (CX:CXT)(P:Program)(w:World)(K:Kq)(mg:Ks)(base:Heap)(N:List Str)(qual:Str)(scope:Scope)(f:Addr)(cd:Value)(A:Around)(outer:List Env)(s:Shared)(H:Hp)(E:XK):Cx where
 prog:=P
 w:=w
 K:=K
 mg:=mg
 base:=base
 A:=A.deeper (envOfC qual scope s.heap.objs.size f cd)
 N:=N
 s₀:=s
 H₀:=H
 env:=envOfC qual scope s.heap.objs.size f cd
 outer:=outer
 stack:=envOfC qual scope s.heap.objs.size f cd::outer
 ex:=[]
 calm:=true
 fn:=fun _=>true
 pn:=[]
 xe:=fun e s'=>wpAny (model P w) (A.deeper (envOfC qual scope s.heap.objs.size f cd)) (leaving (envOfC qual scope s.heap.objs.size f cd) e) (fun _ s''=>CX outer H s E e s'') (fun e' s''=>CX outer H s E e' s'') s'
theorem m_ {sc:Scope}{n:Nat}{x:Str}(h:sc.names.lookup x=some .cell):∃ c,(cellsFrom n sc.names []).lookup x=some c:=by
 have q:=ZQ sc.names n [] (.inl h)
 exact ZI.mp q
theorem rJ {CX:CXT}{P:Program}{w:World}{K:Kq}{mg:Ks}{base:Heap}{N ps:List Str}{qual:Str}{scope:Scope}{f:Addr}{cd:Value}{A:Around}{outer:List Env}{s s1:Shared}{H:Hp}{E:XK}{us:List Value}{vs:List V}
  (S:FnScope N ps scope) (hd:A.handled=none) (e0:Env0 P w K mg base A outer s H) (hl:vs.length=ps.length) (r:Vals vs us)
  (x:InCallC s s.heap.objs.size (bindL (envOfC qual scope s.heap.objs.size f cd).kindOf (ps.zip us) fun _=>none) (cellsFrom (s.heap.objs.size+1) scope.names []) (bindC (envOfC qual scope s.heap.objs.size f cd).kindOf (ps.zip us) fun _=>none) s1) :
  Inv (gG CX P w K mg base N qual scope f cd A outer s H E) [] (start N vs) H s1:=by
 have hpl:ps.length≤N.length:=by have:=YN List.length S.pre;rw[List.length_take] at this;omega
 obtain⟨h1,tk,rfl,hk⟩:=x.done
 have noA:∀ b:Addr,b∉(gG CX P w K mg base N qual scope f cd A outer s H E).ex:=fun b z=>absurd (show b∈([]:List Addr) from z) (by simp)
 refine⟨⟨e0.mod,S.kind,rfl,rfl,Yx _,fun y z c h1 h2=>?_,fun y hy=>?_,fun y c _ h=>?_,fun _=>hd,Around.frames_deeper e0.frames,.inr ⟨rfl,rfl⟩,fun b z=>absurd z (noA b),e0.bs,e0.bsz,fun b _ _=>noA b,fun b z=>absurd z (noA b),e0.funs,e0.frf⟩,
  rfl,e0.bare,Un.kept hk,⟨_,x.toInCall.ns,fun i y v h1 h2 h3=>?_⟩,fun y c h=>⟨_,x.cell y c h⟩,e0.hok.fresh (Yx _),fun y c h=>?_,fun p hp=>absurd (show p∈([]:Kp) from hp) (by simp),e0.hok.kept hk,?_⟩
 ·exact name_of_addr x.apart (Zn h1) (Zn h2)
 ·have hy:scope.names.lookup y=some .cell∨scope.names.lookup y=some .free:=hy
  rcases hy with hy | hy
  ·exact m_ hy
  ·exact absurd rfl (S.nofree _ (Zn hy))
 ·exact Zv (x.above y c (Zn h))
 ·have hi:i<vs.length:=by
   unfold start at h2
   by_cases hi:i<vs.length
   ·exact hi
   ·rw[Zr (by simpa using hi)] at h2
    rw[ZN] at h2
    split at h2 <;> cases h2
  have ha:vs[i]?=some v:=by
   unfold start at h2
   rw[Zu (by simpa using hi),YH] at h2
   cases e:vs[i]? with
   | none=>rw[e] at h2;cases h2
   | some a=>rw[e] at h2;cases h2;rfl
  obtain⟨u,hu,rv⟩:=r.get ha
  have hp:ps[i]?=some y:=by
   rw[← S.pre,List.getElem?_take_of_lt (by omega)];exact h1
  have ndP:ps.Nodup:=by rw[← S.pre];exact S.nd.sublist (List.take_sublist _ _)
  refine⟨u,rv,?_⟩
  rcases S.par y (Zj hp) with k | k
  ·exact .inl ⟨k,kf ndP hp hu k⟩
  ·obtain⟨c,e⟩:=m_ (n:=s.heap.objs.size+1) k
   refine .inr ⟨.inl k,c,e,?_⟩
   have q:=x.cell y c e
   rw[kx ndP hp hu (by show scope.names.lookup y≠_;rw[k];decide)] at q
   exact q
 ·exact e0.hok.fresh (Zv (x.above y c (Zn h)))
 ·unfold start
  show _=N.length
  rw[Yc,Yb,Yw]
  omega
theorem Cc {CX:CXT}{P:Program}{w:World}{K:Kq}{mg:Ks}{base:Heap}{k:Nat}{f:Addr}{name qual:Str}{params:Arguments}{body:List Stmt}{scope:Scope}{dV kV doc pm cdv ct oc:Value}{an od:Option Addr}
  {osl:Array (Option Value)} {N ps:List Str} {sp:Sp} (lk:K.lookup f=some ⟨oc,od,.func (PySem.W.fnOf name qual params body scope dV kV doc pm an cdv ct),osl⟩) (hcd:PySem.W.codeIn K cdv qual=true) (S:FnScope N ps scope)
  (len:∀ vs H Q E,sp vs H Q E→vs.length=ps.length)
  (hbody:∀ (A:Around) (outer:List Env) (s:Shared) (H:Hp) (vs:List V) (Q:VK) (E:XK),Room k (A.deeper (envOfC qual scope s.heap.objs.size f cdv))→sp vs H Q E→
   ∃ t,PSs (gG CX P w K mg base N qual scope f cdv A outer s H E) body t∧t { nx:=fun _ H'=>Q .non H',rt:=Q } (start N vs) H) :
  FnOk P w K mg base CX (k+1) f (PySem.W.fnOf name qual params body scope dV kV doc pm an cdv ct) ps sp:=by
 refine⟨len,fun A outer s H args us vs Q E hr e0 hb r hsp=>?_⟩
 have hl:=len _ _ _ _ hsp
 have KX:K.In s.heap:=e0.mod.kin.keeps fun b o e=>(e0.bs b o e).1
 have lim:s.heap.NoLimit:=e0.mod.nolimit.keeps fun b o e=>(e0.bs b o e).1
 have hkind:∀ y∈ps.zip us,scope.names.lookup y.1=some .local∨(scope.names.lookup y.1=some .cell∧((cellsFrom (s.heap.objs.size+1) scope.names []).lookup y.1).isSome=true):=fun ⟨n,v⟩ hy=>by
  rcases S.par n (List.of_mem_zip hy).1 with q | q
  ·exact .inl q
  ·exact .inr ⟨q,ZQ _ _ _ (.inl q)⟩
 refine codeAny_call_function hr.depth (KX _ _ lk) rfl S.co S.gen rfl (PySem.W.codeRec_of KX hcd) (hb _ _ _ _ ?_)
 refine wpAny_newFunctionEnv_cells S.kind hkind fun env he s1 x=>?_
 subst he
 refine⟨lim.keeps x.toInCall.keep,codeAny_func ?_⟩
 obtain⟨t,ht,hq⟩:=hbody A outer s H vs Q E (hr.deeper _) hsp
 have I:Inv (gG CX P w K mg base N qual scope f cdv A outer s H E) [] (start N vs) H s1:=rJ S hr.hd e0 hl r x
 refine ZA (ht [] s1 (start N vs) H _ I hq) (fun fl s' hs=>?_) fun e s' hs=>hs
 have fin:∀ {σ':St} {H':Hp} {v:V} {u:Value},Inv (gG CX P w K mg base N qual scope f cdv A outer s H E) [] σ' H' s'→RelV v u→Q v H'→CE outer P w H s Q u s':=
  fun {σ' H' v u} J rv q=>⟨v,H',J.os,J.bare,J.base,J.hok,rv,q⟩
 cases fl with
 | ret u=>
  obtain⟨v,σ',H',J,rv,q⟩:=hs
  exact fin J rv q
 | next=>
  obtain⟨σ',H',J,q⟩:=hs
  exact fin (v:=V.non) (u:=Value.none) J rfl q
 | brk=>
  obtain⟨_,_,_,q⟩:=hs
  exact False.elim q
 | cont=>
  obtain⟨_,_,_,q⟩:=hs
  exact False.elim q
section
variable {X:Cx} {x:Str} {p pos:Pos} {e:Expr} {es:List Expr} {t:TA} {id T:String} {r:List V→Hp→VK→Prop}
def tCB (r:List V→Hp→VK→Prop)(t:TA):TE:=fun σ H Q=>t σ H fun vs H1=>r vs H1 Q
theorem df (hc:CallR X (.builtin id) r)(hg:Gl X x)(hm:X.mg x=none)(hv:bootBuiltins x=some (.builtin id))(ha:PA X (e::es) t)(hn:x ≠ "__name__":=by decide)(hdb:(x == ("__debug__":Str))=false:=by decide)
  (he:starEach (e::es) X.env=(false,eval e X.env)::starEach es X.env:=by rfl) (hpl:(backTo pos (starEach es X.env)).any (·.1)=false:=by rfl):PE X (.Call (.Name x p) (e::es) [] pos) (tCB r t):=by
 intro pz s σ H Q I h
 refine Xh (mr I hg hm hv ?_ hn hdb)
 exact PyProof.Rows.callWith_builtin1 (aT (ha pos pz s σ H _ I h) fun us s1 vs H1 I1 r1 q1=>hc pz s1 σ H1 vs us Q I1 r1 q1) he hpl
theorem fJ (hc:CallR X (.type T) r)(hg:Gl X x)(hm:X.mg x=none)(hv:bootBuiltins x=some (.type T))(ha:PA X (e::es) t)(hn:x ≠ "__name__":=by decide)(hdb:(x == ("__debug__":Str))=false:=by decide)
  (he:starEach (e::es) X.env=(false,eval e X.env)::starEach es X.env:=by rfl) (hpl:(backTo pos (starEach es X.env)).any (·.1)=false:=by rfl):PE X (.Call (.Name x p) (e::es) [] pos) (tCB r t):=by
 intro pz s σ H Q I h
 refine Xh (mr I hg hm hv ?_ hn hdb)
 exact PyProof.Rows.callWith_type1 (aT (ha pos pz s σ H _ I h) fun us s1 vs H1 I1 r1 q1=>hc pz s1 σ H1 vs us Q I1 r1 q1) he hpl
end
end L2
namespace HT
open PySem PyProof.Rows
theorem rcLt_int (A:Around)(s:Shared)(a:Int)(t:Tok)(c:Int)(u:Tok)(prog:Program)(w:World)(E:Value→Shared→Prop)(Q:Value→Shared→Prop)(h:Q (.bool (decide (a<c))) s) :
  wpAny (model prog w) A (richCompare .Lt (.int a t) (.int c u)) Q E s:=
 (PyProof.Rows.lt_int h:wpAny (model prog w) A (compareOp .Lt (.int a t) (.int c u)) Q E s)
section
open PySem.SeqAt
open PySem.AutoSeq1 (wpAny_loadPart')
open PySem.MeetsSeq PySem.MeetsSeq2 PySem.MeetsSeq3
end
section
variable {prog:Program} {w:World} {A:Around} {E:Value→Shared→Prop} {s:Shared}
theorem cat_tup {t b:Addr}{vs ws:List Value}{Q:Value→Shared→Prop}(ht:IsTup s.heap t vs.toArray)(hb:IsTup s.heap b ws.toArray)(hv:vs≠[])
  (h1:ws=[]→Q (.ref t) s) (h2:ws≠[]→Q (.ref s.heap.objs.size) { s with heap:=s.heap.push { cls:=.type "tuple",data:=.seq (vs++ws).toArray } })
  (hsz:vs.length+ws.length≤sizeLine):wpAny (model prog w) A (binaryOp .Add (.ref t) (.ref b)) Q E s:=by
 obtain⟨⟨cls,dd,data,sl⟩,ho,hc,n,hd⟩:=id ht
 obtain⟨⟨cls2,dd2,data2,sl2⟩,ho2,hc2,n2,hd2⟩:=id hb
 simp only at hc hd hc2 hd2
 subst hc hd hc2 hd2
 have e:vs.toArray++ws.toArray=(vs++ws).toArray:=by simp
 by_cases hw:ws=[]
 ·exact concat_meets ⟨_,ho,rfl⟩ ⟨_,ho2,rfl⟩ noFill_tuple_add seq_tuple_add PySem.F.slot_tuple_add PySem.F.entry_tuple_add (PySem.F.args_tuple_add_2 _ _)
   (tuple_addW1 t b vs.toArray ws.toArray n n2 dd dd2 sl sl2 (by simpa using hv) (by simp[hw])) ⟨ho,ho2,h1 hw⟩
 ·refine concat_meets ⟨_,ho,rfl⟩ ⟨_,ho2,rfl⟩ noFill_tuple_add seq_tuple_add PySem.F.slot_tuple_add PySem.F.entry_tuple_add (PySem.F.args_tuple_add_2 _ _)
   (tuple_addW2 t b vs.toArray ws.toArray n n2 dd dd2 sl sl2 (by simpa using hv) (by simpa using hw) (by rw[List.size_toArray,List.size_toArray];exact hsz)) ⟨ho,ho2,?_⟩
  rw[e]
  exact h2 hw
end
end HT
namespace L2
open PySem PySem.Spec PyProof.Rows
abbrev TO:=St→Hp→(Option Int→Hp→Prop)→Prop
def PO (X:Cx)(e:Option Expr)(t:TO):Prop:=
 ∀ (pz:Kp) (s:Shared) (σ:St) (H:Hp) (Q:Option Int→Hp→Prop),Inv X pz σ H s→t σ H Q→
  wpAny (model X.prog X.w) X.A (evalPart e X.env) (fun u s'=>∃ o H',Inv X pz σ H' s'∧IsPart u o∧Q o H') X.xe s
def yi:TO:=fun _ H Q=>Q none H
def CM (t:TE):TO:=fun σ H Q=>t σ H fun x H1=>∃ i,x=.int i∧Q (some i) H1
section
variable {X:Cx} {e:Expr} {te:TE} {lo hi:Option Expr} {tl th:TO} {pos p2:Pos}
theorem xK:PO X none yi:=by
 intro pz s σ H Q I h
 rw[evalPart_none]
 exact YV ⟨none,H,I,.none,h⟩
theorem yU (h:PE X e te):PO X (some e) (CM te):=by
 intro pz s σ H Q I hw
 rw[evalPart_some]
 refine aT (h pz s σ H _ I hw) fun u s1 x H1 I1 r1 q1=>?_
 obtain⟨i,rfl,q⟩:=q1
 obtain⟨t,rfl⟩:=r1
 exact⟨some i,H1,I1,.int i t,q⟩
def SlR (X:Cx)(r:V→Option Int→Option Int→Hp→VK→Prop):Prop:=
 ∀ (pz:Kp) (s:Shared) (σ:St) (H:Hp) (x:V) (v vl vu:Value) (lo hi:Option Int) (sl:Addr) (Q:VK),Inv X pz σ H s→RelV x v→s.heap.IsSliceOf sl vl vu .none→IsPart vl lo→IsPart vu hi→r x lo hi H Q→
  ∃ T id,typeLookup (.type T) "__getitem__"=pure (some (.builtin id))∧s.TypeIs v T∧wpAny (model X.prog X.w) X.A (getItem v (.ref sl)) (EP X pz σ Q) X.xe s
def tSl (r:V→Option Int→Option Int→Hp→VK→Prop)(te:TE)(tl th:TO):TE:=fun σ H Q=>te σ H fun x H1=>tl σ H1 fun l H2=>th σ H2 fun u H3=>r x l u H3 Q
theorem vb {r:V→Option Int→Option Int→Hp→VK→Prop}(hr:SlR X r)(he:PE X e te)(hl:PO X lo tl)(hu:PO X hi th):PE X (.Subscript e (.Slice lo hi none p2) pos) (tSl r te tl th):=by
 intro pz s σ H Q I h
 refine Subscript_ (aT (he pz s σ H _ I h) fun v s1 x H1 I1 r1 q1=>?_)
 refine wpAny_Slice (aT (hl pz s1 σ H1 _ I1 q1) fun vl s2 l H2 I2 pl q2=>aT (hu pz s2 σ H2 _ I2 q2) fun vu s3 u H3 I3 pu q3=>?_)
 rw[evalPart_none]
 refine YV ?_
 have I4:Inv X pz σ H3 { s3 with heap:=s3.heap.push { cls:=.type "slice",data:=.fields #[vl,vu,.none] } }:=I3.kept (t':=s3.toks) fun b ob q=>Yt _ q
 obtain⟨T,id,hT,ht,hg⟩:=hr pz { s3 with heap:=s3.heap.push { cls:=.type "slice",data:=.fields #[vl,vu,.none] } } σ H3 x v vl vu l u s3.heap.objs.size Q I4 r1 (Heap.IsSliceOf.new ..) pl pu q3
 show wpAny (model X.prog X.w) X.A (subscriptTail e (.Slice lo hi none p2) v (.ref s3.heap.objs.size)) (EP X pz σ Q) X.xe { s3 with heap:=s3.heap.push { cls:=.type "slice",data:=.fields #[vl,vu,.none] } }
 exact tail_any (ops:=[.ref s3.heap.objs.size,v]) ht hT hg (by with_unfolding_all rfl)
def Da (K:Kq):R2:=fun x y H Q=>∃ a b xs ys,x=.ref a∧y=.ref b∧SqT K H a xs∧SqT K H b ys∧xs≠[]∧xs.length+ys.length≤sizeLine ∧
 (ys=[]→Q (.ref a) H)∧(ys≠[]→∀ p,H p=none→Q (.ref p) (upd H p (.tup (xs++ys))))
theorem Vals.nil_iff {xs:List V}{us:List Value}(r:Vals xs us):us=[]↔xs=[]:=by
 cases r with
 | nil=>simp
 | cons _ _=>simp
theorem yC:OpR X (binaryOp .Add) (Da X.K):=by
 intro pz s σ H x y v u Q I rx ry h
 obtain⟨a,b,xs,ys,rfl,rfl,ha,hb,hx,hz,q1,q2⟩:=h
 cases rx
 cases ry
 obtain⟨its,r1,p1,_⟩:=I.tuple ha
 obtain⟨its2,r2,p2,_⟩:=I.tuple hb
 refine HT.cat_tup p1 p2 (fun z=>hx (r1.nil_iff.mp z)) (fun z=>⟨.ref a,H,I,rfl,q1 (r2.nil_iff.mp z)⟩) (fun z=>?_) (by rw[← r1.length,← r2.length];exact hz)
 refine⟨.ref s.heap.objs.size,_,I.laid (t':=s.toks) (o:=.tup (xs++ys)) (fun b ob q=>Yt _ q) (Yx _) ?_,rfl,q2 (fun w=>z (r2.nil_iff.mpr w)) _ (I.hok.fresh (Yx _))⟩
 exact⟨by rw[Yc];exact hz,_,r1.append r2,IsTup.new _ _,NoD.new _ _⟩
end
def ixN (n:Nat)(i:Int):Option Nat:=if 0≤i then (if i<n then some i.toNat else none) else if -(n:Int)≤i then some (i+n).toNat else none
def atI {α:Type}(xs:List α)(i:Int):Option α:=(ixN xs.length i).bind fun j=>xs[j]?
theorem qN {n:Nat}{i:Int}{j:Nat}(h:ixN n i=some j):seqIndex? i n=some j∧j<n∧-(n:Int)≤i∧i<n:=by
 unfold ixN at h
 by_cases h0:0≤i
 ·rw[Yh h0] at h
  by_cases h1:i<n
  ·rw[Yh h1] at h
   have e:i.toNat=j:=Yq h
   exact⟨by rw[seqIndex_of h0 h1,e],by omega,by omega,h1⟩
  ·rw[Yr h1] at h;cases h
 ·rw[Yr h0] at h
  by_cases h1:-(n:Int)≤i
  ·rw[Yh h1] at h
   have e:(i+n).toNat=j:=Yq h
   exact⟨by rw[seqIndex_neg (by omega) h1,e],by omega,h1,by omega⟩
  ·rw[Yr h1] at h;cases h
theorem l_ {α:Type}{xs:List α}{i:Int}{v:α}(h:atI xs i=some v):∃ j,seqIndex? i xs.length=some j∧xs[j]?=some v∧j<xs.length∧-(xs.length:Int)≤i∧i<xs.length:=by
 unfold atI at h
 cases e:ixN xs.length i with
 | none=>rw[e] at h;cases h
 | some j=>
  rw[e] at h
  obtain⟨h1,h2,h3,h4⟩:=qN e
  exact⟨j,h1,h,h2,h3,h4⟩
def mm (b:Expr):Prop:=∀ o i,subscripted b false o i=operate [o,i] (getItem o i)
def IxR (X:Cx)(r:R2):Prop:=
 ∀ (value slice:Expr) (pz:Kp) (s:Shared) (σ:St) (H:Hp) (x y:V) (v u:Value) (Q:VK),Inv X pz σ H s→RelV x v→RelV y u→r x y H Q→
  subscripted slice false v u=operate [v,u] (getItem v u)→wpAny (model X.prog X.w) X.A (subscriptTail value slice v u) (EP X pz σ Q) X.xe s
def MtR (X:Cx)(id:String)(r:V→List V→Hp→VK→Prop):Prop:=
 ∀ (pz:Kp) (s:Shared) (σ:St) (H:Hp) (x:V) (xs:List V) (v:Value) (us:List Value) (Q:VK),Inv X pz σ H s→RelV x v→Vals xs us→r x xs H Q→
  wpAny (model X.prog X.w) X.A (call (.builtin id) (v::us)) (EP X pz σ Q) X.xe s
section
variable {X:Cx} {a b:Expr} {ta tb:TE} {pos:Pos}
theorem IxR.or {r r':R2}(h:IxR X r)(h':IxR X r'):IxR X (fun x y H Q=>r x y H Q∨r' x y H Q):=by
 intro value slice pz s σ H x y v u Q I rx ry q hs
 rcases q with q | q
 ·exact h value slice pz s σ H x y v u Q I rx ry q hs
 ·exact h' value slice pz s σ H x y v u Q I rx ry q hs
theorem zu {r:R2}(hr:IxR X r)(ha:PE X a ta)(hb:PE X b tb)(hs:mm b):PE X (.Subscript a b pos) (tOp r ta tb):=by
 intro pz s σ H Q I h
 exact Subscript_ (Ae ha hb I h fun v u s2 x y H2 I2 rx ry q=>hr a b pz s2 σ H2 x y v u Q I2 rx ry q (hs _ _))
def DK (K:Kq):R2:=fun x y H Q=>∃ p xs i v,x=.ref p∧y=.int i∧SqL K H p xs∧atI xs i=some v∧Q v H
def DN (K:Kq):R2:=fun x y H Q=>∃ p xs i v,x=.ref p∧y=.int i∧SqT K H p xs∧atI xs i=some v∧Q v H
def D0:R2:=fun x y H Q=>∃ z i c,x=.str z∧y=.int i∧z.length≤sizeLine∧atI z.cps.toList i=some c∧Q (.str ⟨#[c]⟩) H
theorem xo:IxR X (DK X.K):=by
 intro value slice pz s σ H x y v u Q I rx ry h hs
 obtain⟨p,xs,i,z,rfl,rfl,hq,he,q⟩:=h
 cases rx
 obtain⟨t,rfl⟩:=ry
 obtain⟨its,r,pl,hz⟩:=I.list hq
 obtain⟨j,h1,h2,h3,h4,h5⟩:=l_ he
 obtain⟨w,ew,rw'⟩:=r.get h2
 have hl:=r.length
 have hn:=f_
 have fin:EP X pz σ Q w s:=⟨z,H,I,rw',q⟩
 by_cases h0:0≤i
 ·have hj:i.toNat=j:=by
   rw[seqIndex_of h0 h5] at h1
   exact Yq h1
  exact item_listR pl.isList h0 (by omega) (by rw[hj];simpa using ew) fin hs
 ·have hj:(i+(its.toArray.size:Int)).toNat=j:=by
   rw[seqIndex_neg (by omega) h4] at h1
   rw[Ym,← hl]
   exact Yq h1
  exact subscriptTail_builtinR (x:=w) pl.isList.typeIs slot_list_getitem.lookup
   (wpAny_getItem_list_neg (Q:=fun r s'=>r=w∧EP X pz σ Q r s') pl.isList (by omega) (by rw[Ym] <;> omega) (by omega) (by rw[hj];simpa using ew) ⟨rfl,fin⟩) hs
theorem AN:IxR X (DN X.K):=by
 intro value slice pz s σ H x y v u Q I rx ry h hs
 obtain⟨p,xs,i,z,rfl,rfl,hq,he,q⟩:=h
 cases rx
 obtain⟨t,rfl⟩:=ry
 obtain⟨its,r,pl,hz⟩:=I.tuple hq
 obtain⟨j,h1,h2,h3,h4,h5⟩:=l_ he
 obtain⟨w,ew,rw'⟩:=r.get h2
 have hl:=r.length
 have hn:=f_
 have fin:EP X pz σ Q w s:=⟨z,H,I,rw',q⟩
 exact subscriptTail_builtinR (x:=w) pl.typeIs slot_tuple_getitem.lookup
  (getItem_tuple (j:=j) (Q:=fun r s'=>r=w∧EP X pz σ Q r s') pl (by omega) (by omega) (by rw[Ym,← hl];exact h1) (by simpa using ew) ⟨rfl,fin⟩) hs
theorem BB:IxR X D0:=by
 intro value slice pz s σ H x y v u Q I rx ry h hs
 obtain⟨z,i,c,rfl,rfl,hz,he,q⟩:=h
 obtain⟨t,rfl⟩:=rx
 obtain⟨t',rfl⟩:=ry
 obtain⟨j,h1,h2,h3,h4,h5⟩:=l_ he
 have hl:z.cps.toList.length=z.length:=by simp[Str.length]
 rw[hl] at h1 h4 h5
 have hn:=f_
 exact tail_any (typeIs_str s z t) slot_str_getitem.lookup (getItem_str (c:=c) (by
  have e1:decide (i < -(2 ^ 63:Int))=false:=Yk (by omega)
  have e2:decide (i ≥ 2 ^ 63)=false:=Yk (by omega)
  rw[e1,e2,Bool.or_false]) (by rw[h1];simpa using h2) ⟨.str ⟨#[c]⟩,H,I.tok _,⟨_,rfl⟩,q⟩) hs
def rIx (K:Kq):R2:=fun x y H Q=>DK K x y H Q∨DN K x y H Q∨D0 x y H Q
theorem uk:IxR X (rIx X.K):=xo.or (AN.or BB)
theorem oR (its:List Value)(n j:Nat)(u:Value):Obj.mapSeq (·.setIfInBounds j u) { cls:=.type "list",data:=.seq its.toArray n }={ cls:=.type "list",data:=.seq (its.set j u).toArray n }:=by
 simp[Obj.mapSeq]
theorem Inv.lst {pz:Kp}{σ:St}{H:Hp}{s:Shared}{p:Addr}{xs:List V}(I:Inv X pz σ H s)(h:H p=some (.lst xs)) :
  ∃ (its:List Value) (n:Nat),Vals xs its∧s.heap.get? p=some { cls:=.type "list",data:=.seq its.toArray n }∧xs.length≤sizeLine:=by
 obtain⟨z,its,n,r,e⟩:=I.hok p _ h
 exact⟨its,n,r,e,z⟩
theorem Inv.lstUpd {pz:Kp}{σ:St}{H:Hp}{s:Shared}{p:Addr}{xs ys:List V}{its its':List Value}{n n':Nat}{f:Obj→Obj}(I:Inv X pz σ H s)(h:H p=some (.lst xs))
  (ho:s.heap.get? p=some { cls:=.type "list",data:=.seq its.toArray n }) (hf:f { cls:=.type "list",data:=.seq its.toArray n }={ cls:=.type "list",data:=.seq its'.toArray n' }) (r:Vals ys its') (hz:ys.length≤sizeLine) (t:Nat) :
  Inv X pz σ (upd H p (.lst ys)) { s with heap:=s.heap.update p f,toks:=t }:=by
 have e:(s.heap.update p f).get? p=some { cls:=.type "list",data:=.seq its'.toArray n' }:=by
  rw[Heap.get?_update_self f ho (by rw[hf] <;> rfl),hf]
 refine I.write (x:=p) (e:=p) (by rw[h];trivial) (.inl rfl) (fun b u hb q=>(Heap.get?_update_other _ _ (XJ hb)).trans q) ⟨_,e⟩ ?_
 exact⟨hz,its',n',r,e⟩
def B6:V→V→V→Hp→(Hp→Prop)→Prop:=fun o i v H Q=>∃ p xs k j,o=.ref p∧i=.int k∧H p=some (.lst xs)∧ixN xs.length k=some j∧Q (upd H p (.lst (xs.set j v)))
theorem vS:Db X B6:=by
 intro pz s σ H o i v ov iv u Q I ro ri rv h
 obtain⟨p,xs,k,j,rfl,rfl,hp,hj,q⟩:=h
 cases ro
 obtain⟨t,rfl⟩:=ri
 obtain⟨its,n,r,ho,hz⟩:=I.lst hp
 obtain⟨h1,h2,h3,h4⟩:=qN hj
 have hl:=r.length
 have hn:=f_
 have I':Inv X pz σ (upd H p (.lst (xs.set j v))) { s with heap:=s.heap.update p (Obj.mapSeq (·.setIfInBounds j u)) }:=
  I.lstUpd hp ho (oR its n j u) (r.set rv j) (by rw[YZ];exact hz) s.toks
 by_cases h0:0≤k
 ·have hk:k.toNat=j:=by
   rw[seqIndex_of h0 h4] at h1
   exact Yq h1
  exact PySem.W.ki_setAt ho h0 (by omega) (by rw[Ym,← hl];exact h4) (by rw[hk];exact⟨_,I',q⟩)
 ·have hk:(k+(its.toArray.size:Int)).toNat=j:=by
   rw[seqIndex_neg (by omega) h3] at h1
   rw[Ym,← hl]
   exact Yq h1
  exact PySem.W.ki_setBack ho (by omega) (by rw[Ym,← hl];exact h3) (by omega) (by rw[hk];exact⟨_,I',q⟩)
theorem l8:CallR X (.builtin "len") (fun xs H Q=>∃ p ys,xs=[.ref p]∧(SqL X.K H p ys∨SqT X.K H p ys)∧Q (.int ys.length) H):=by
 intro pz s σ H xs us Q I r h
 obtain⟨p,ys,rfl,hq,q⟩:=h
 obtain⟨u,rfl,rx⟩:=fU r
 cases rx
 have hn:=f_
 rcases hq with hq | hq
 ·obtain⟨its,r',pl,hz⟩:=I.list hq
  have hlen:=r'.length
  exact Calls.call_len_list pl.isList (by simp only[Ym] <;> omega) ⟨.int ys.length,H,I.tok _,⟨s.toks+1,by rw[Ym,hlen]⟩,q⟩
 ·obtain⟨its,r',pl,hz⟩:=I.tuple hq
  have hlen:=r'.length
  exact len_tuple pl (by simp only[Ym] <;> omega) ⟨.int ys.length,H,I.tok _,⟨s.toks+1,by rw[Ym,hlen]⟩,q⟩
theorem lP:CallR X (.builtin "len") (fun xs H Q=>∃ z,xs=[.str z]∧z.length≤sizeLine∧Q (.int z.length) H):=by
 intro pz s σ H xs us Q I r h
 obtain⟨z,rfl,hz,q⟩:=h
 obtain⟨u,rfl,t,rfl⟩:=fU r
 have hn:=f_
 exact len_str (by omega) ⟨.int z.length,H,I.tok _,⟨_,rfl⟩,q⟩
theorem CallR.or {f:Value}{r r':List V→Hp→VK→Prop}(h:CallR X f r)(h':CallR X f r'):CallR X f (fun xs H Q=>r xs H Q∨r' xs H Q):=by
 intro pz s σ H xs us Q I rs q
 rcases q with q | q
 ·exact h pz s σ H xs us Q I rs q
 ·exact h' pz s σ H xs us Q I rs q
theorem k6:CallR X (.type "list") (fun xs H Q=>∃ p ys,xs=[.ref p]∧(SqL X.K H p ys∨SqT X.K H p ys)∧∀ l,H l=none→Q (.ref l) (upd H l (.lst ys))):=by
 intro pz s σ H xs us Q I r h
 obtain⟨p,ys,rfl,hq,q⟩:=h
 obtain⟨u,rfl,rx⟩:=fU r
 cases rx
 have fin:∀ (its:List Value),Vals ys its→ys.length≤sizeLine→∀ (h':Heap) (c':Nat),(∀ b o',s.heap.get? b=some o'→h'.get? b=some o')→
   h'.get? s.heap.objs.size=some { cls:=.type "list",dict:=none,data:=.seq its.toArray c',slots:=#[] }→EP X pz σ Q (.ref s.heap.objs.size) { s with heap:=h' }:=fun its r' hz h' c' kp e=>
  ⟨.ref s.heap.objs.size,_,I.laid (t':=s.toks) kp (Yx _) (show ObjOk X.prog X.w _ h' _ (.lst ys) from ⟨hz,its,c',r',e⟩),rfl,q _ (I.hok.fresh (Yx _))⟩
 rcases hq with hq | hq
 ·obtain⟨its,r',pl,hz⟩:=I.list hq
  have hlen:=r'.length
  obtain⟨o,ho,hc,n,hd⟩:=pl.isList
  exact call_list_seq p (.inl rfl) ho hc hd (fun h' c' kp e=>fin its r' hz h' c' kp e) (by simp only[Ym] <;> omega)
 ·obtain⟨its,r',pl,hz⟩:=I.tuple hq
  have hlen:=r'.length
  obtain⟨o,ho,hc,n,hd⟩:=pl
  exact call_list_seq p (.inr rfl) ho hc hd (fun h' c' kp e=>fin its r' hz h' c' kp e) (by simp only[Ym] <;> omega)
theorem jW:CallR X (.type "tuple") (fun xs H Q=>∃ p ys,xs=[.ref p]∧((SqL X.K H p ys∧∀ l,H l=none→Q (.ref l) (upd H l (.tup ys)))∨(SqT X.K H p ys∧Q (.ref p) H))):=by
 intro pz s σ H xs us Q I r h
 obtain⟨p,ys,rfl,h⟩:=h
 obtain⟨u,rfl,rx⟩:=fU r
 cases rx
 rcases h with⟨hq,q⟩ | ⟨hq,q⟩
 ·obtain⟨its,r',pl,hz⟩:=I.list hq
  have hlen:=r'.length
  refine call_tuple_list pl.isList (fun h' kp=>?_) (by simp only[Ym] <;> omega)
  have I1:Inv X pz σ H { s with heap:=h' }:=I.kept (t':=s.toks) kp
  have I2:Inv X pz σ (upd H h'.objs.size (.tup ys)) { s with heap:=h'.push { cls:=.type "tuple",data:=.seq its.toArray } }:=
   I1.laid (t':=s.toks) (fun b o e=>Yt _ e) (Yx _) (show ObjOk X.prog X.w _ _ _ (.tup ys) from ⟨hz,its,r',IsTup.new _ _,NoD.new _ _⟩)
  exact⟨.ref h'.objs.size,_,I2,rfl,q _ (I1.hok.fresh (Yx _))⟩
 ·obtain⟨its,r',pl,hz⟩:=I.tuple hq
  exact call_tuple_same pl ⟨.ref p,H,I,rfl,q⟩
def tyV (K:Kq)(T:String)(x:V)(H:Hp):Prop:=match x with
 | .str _=>T = "str"
 | .int _=>T = "int"
 | .ref p=>(T = "list"∧∃ xs,SqL K H p xs)∨(T = "tuple"∧∃ o,K.lookup p=some o∧o.cls=.type "tuple"∧o.dict=none) ∨
   (T = "dict"∧((∃ kvs,H p=some (.dK kvs))∨∃ kvs,H p=some (.dT kvs)))∨(T = "set"∧∃ S n,H p=some (.set S n))
 | _=>False
theorem uR {pz:Kp}{σ:St}{H:Hp}{s:Shared}{T:String}{x:V}{v:Value}(I:Inv X pz σ H s)(r:RelV x v)(ty:tyV X.K T x H) :
  s.TypeIs v T∧∀ a,v=.ref a→∃ ob,s.heap.get? a=some ob∧ob.dict=none:=by
 cases x with
 | str z=>
  obtain⟨t,rfl⟩:=r
  cases (show T = "str" from ty)
  exact⟨typeIs_str s z t,fun _ e=>nomatch e⟩
 | int i=>
  obtain⟨t,rfl⟩:=r
  cases (show T = "int" from ty)
  exact⟨typeIs_int s i t,fun _ e=>nomatch e⟩
 | ref p=>
  cases r
  rcases ty with⟨rfl,xs,hq⟩ | ⟨rfl,o,hk,hc,hd⟩ | ⟨rfl,hk⟩ | ⟨rfl,S,n,hk⟩
  ·obtain⟨its,_,pl,_⟩:=I.list hq
   refine⟨pl.isList.typeIs,fun a e=>?_⟩
   cases e
   obtain⟨o,n,e,c,hd,_⟩:=pl
   exact⟨o,e,hd⟩
  ·refine⟨⟨o,I.kIn p o hk,hc⟩,fun a e=>?_⟩
   cases e
   exact⟨o,I.kIn _ o hk,hd⟩
  ·have z:∃ o,s.heap.get? p=some o∧o.ExactDict:=by
    rcases hk with⟨kvs,hk⟩ | ⟨kvs,hk⟩
    ·obtain⟨_,_,_,_,o,_,_,e,ex,_⟩:=I.hok p _ hk
     exact⟨o,e,ex⟩
    ·obtain⟨_,_,_,_,o,_,_,e,ex,_⟩:=I.hok p _ hk
     exact⟨o,e,ex⟩
   obtain⟨o,e,ex⟩:=z
   refine⟨⟨o,e,ex.1⟩,fun a e2=>?_⟩
   cases e2
   exact⟨o,e,ex.2.1⟩
  ·obtain⟨o,_,_,_,e,ex,_⟩:=I.hok p _ hk
   refine⟨⟨o,e,ex.1⟩,fun a e2=>?_⟩
   cases e2
   exact⟨o,e,ex.2.1⟩
 | _=>exact False.elim ty
def E7 (K:Kq)(T:String)(r:V→List V→Hp→VK→Prop)(to:TE):TE:=fun σ H Q=>to σ H fun x H1=>tyV K T x H1∧r x [] H1 Q
def tBM (K:Kq)(T:String)(r:V→List V→Hp→VK→Prop)(to:TE)(t:TA):TE:=fun σ H Q=>to σ H fun x H1=>tyV K T x H1∧t σ H1 fun xs H2=>r x xs H2 Q
variable {o e:Expr} {es:List Expr} {to:TE} {t:TA} {name:Str} {apos cpos:Pos} {T id:String} {r:V→List V→Hp→VK→Prop}
theorem o_ (pa:PlainAttrs T)(slot:Slot T name id)(hty:typeOf (.builtin id)=pure (.type "method_descriptor"))(hm:MtR X id r)(ho:PE X o to)
  (hbase:attributeBase o name X.env (eval o X.env)=eval o X.env:=by rfl) (hline:(apos.endLine == cpos.line)=true:=by rfl):PE X (.Call (.Attribute o name apos) [] [] cpos) (E7 X.K T r to):=by
 intro pz s σ H Q I h
 refine wpAny_Call_method0_late hbase hline (aT (ho pz s σ H _ I h) fun v s1 x H1 I1 r1 hh_=>?_)
 obtain⟨ty,q1⟩:=hh_
 obtain⟨h1,h2⟩:=uR I1 r1 ty
 exact⟨T,id,pa,slot,hty,h1,h2,Xk rfl (PySem.evalArgs_none (hm pz s1 σ H1 x [] v [] Q I1 r1 .nil q1))⟩
theorem iC (pa:PlainAttrs T)(slot:Slot T name id)(hty:typeOf (.builtin id)=pure (.type "method_descriptor"))(hm:MtR X id r)(ho:PE X o to)(ha:PA X (e::es) t)
  (hbase:attributeBase o name X.env (eval o X.env)=eval o X.env:=by rfl)
  (hfew:((backTo cpos (starEach (e::es) X.env)).all (fun x=>!x.1)&&(backToKw cpos (keywordEach [] X.env)).all (fun x=>x.1.isSome)
   && decide ((e::es).length+([]:List Keyword).length+(if ([]:List Keyword).isEmpty then 0 else 1)<30))=true:=by rfl)
  (hline:(apos.endLine == cpos.line)=true:=by rfl) (hs:starEach (e::es) X.env=(false,eval e X.env)::starEach es X.env:=by rfl) (hplain:(backTo cpos (starEach es X.env)).any (·.1)=false:=by rfl) :
  PE X (.Call (.Attribute o name apos) (e::es) [] cpos) (tBM X.K T r to t):=by
 intro pz s σ H Q I h
 refine wpAny_Call_method_late hbase hfew hline rfl (aT (ho pz s σ H _ I h) fun v s1 x H1 I1 r1 hh_=>?_)
 obtain⟨ty,q1⟩:=hh_
 obtain⟨h1,h2⟩:=uR I1 r1 ty
 refine⟨T,id,pa,slot,hty,h1,h2,?_⟩
 have hA:=ha cpos pz s1 σ H1 _ I1 q1
 rw[hs] at hA ⊢
 refine Xk (by show (false||(backTo cpos (starEach es X.env)).any (·.1))=false;rw[hplain] <;> rfl) (Calls.evalArgs_plain ?_)
 exact aT hA fun us s2 vs H2 I2 r2 q2=>hm pz s2 σ H2 x vs v us Q I2 r1 r2 q2
end
def MtM (X:Cx)(id:String)(r:V→List V→Hp→VK→Prop):Prop:=
 ∀ (pz:Kp) (s:Shared) (σ:St) (H:Hp) (x:V) (xs:List V) (v:Value) (us:List Value) (Q:VK),Inv X pz σ H s→RelV x v→Vals xs us→r x xs H Q→
  wpAny (model X.prog X.w) X.A (call (.builtin id) (v::us)) (EP X pz σ Q) X.xe s
theorem Vals.one {x:V}{us:List Value}(h:Vals [x] us):∃ u,us=[u]∧RelV x u:=fU h
theorem Vals.zero:∀ {us:List Value},Vals [] us→us=[]
 | _,.nil=>rfl
theorem Vals.dropLast {xs:List V}{us:List Value}(h:Vals xs us):Vals xs.dropLast us.dropLast:=by
 induction h with
 | nil=>exact .nil
 | cons r t ih=>
  cases t with
  | nil=>exact .nil
  | cons q t'=>exact .cons r ih
theorem Vals.eraseIdx:∀ {xs:List V} {us:List Value} (i:Nat),Vals xs us→Vals (xs.eraseIdx i) (us.eraseIdx i)
 | _,_,_,.nil=>.nil
 | _,_,0,.cons _ t=>t
 | _,_,i+1,.cons r t=>.cons r (Vals.eraseIdx i t)
theorem Vals.reverse {xs:List V}{us:List Value}(h:Vals xs us):Vals xs.reverse us.reverse:=by
 induction h with
 | nil=>exact .nil
 | cons r t ih=>rw[Xm,Xm];exact Vals.append ih (.cons r .nil)
theorem oY {α:Type}(l:List α):l.eraseIdx (l.length-1)=l.dropLast:=by
 induction l with
 | nil=>rfl
 | cons a r ih=>
  cases r with
  | nil=>rfl
  | cons b r=>
   have e:(a::b::r).length-1=((b::r).length-1)+1:=by
    have h1:(a::b::r).length=r.length+2:=rfl
    have h2:(b::r).length=r.length+1:=rfl
    omega
   rw[e,List.eraseIdx_cons_succ,ih]
   all_goals rfl
theorem kc {α:Type}:∀ (l:List α) (i:Nat),(l.eraseIdx i).length≤l.length
 | [],_=>Yx _
 | _::_,0=>Nat.le_succ _
 | _::r,i+1=>Xd (kc r i)
section
variable {X:Cx} {pz:Kp} {σ:St} {H:Hp} {s:Shared} {l b:Addr} {xs ys zs:List V}
theorem Inv.lset {its its':List Value}{n:Nat}{f:Array Value→Array Value}{t':Nat}(I:Inv X pz σ H s)(hH:H l=some (.lst xs))
  (e:s.heap.get? l=some { cls:=.type "list",data:=.seq its.toArray n }) (hf:f its.toArray=its'.toArray) (hv:Vals ys its') (hz:ys.length≤sizeLine) :
  Inv X pz σ (upd H l (.lst ys)) { s with heap:=s.heap.update l (Obj.mapSeq f),toks:=t' }:=by
 have q:=PySem.IsL.update e f
 rw[hf] at q
 refine I.write (x:=l) (e:=l) (by rw[hH];exact trivial) (.inl rfl) (fun b' u hb hu=>(Heap.get?_update_other s.heap (Obj.mapSeq f) (XJ hb)).trans hu) ⟨_,q⟩ ?_
 exact⟨hz,its',_,hv,q⟩
theorem Inv.lnew {its:List Value}{t':Nat}(I:Inv X pz σ H s)(hv:Vals ys its)(hz:ys.length≤sizeLine) :
  Inv X pz σ (upd H s.heap.objs.size (.lst ys)) { s with heap:=s.heap.push { cls:=.type "list",data:=.seq its.toArray },toks:=t' }:=
 I.laid (fun _ _ q=>Yt _ q) (Yx _) ⟨hz,its,0,hv,YI _ rfl⟩
theorem Inv.fresh (I:Inv X pz σ H s):H s.heap.objs.size=none:=I.hok.fresh (Yx _)
theorem Inv.lstM (I:Inv X pz σ H s)(hH:H l=some (.lst xs)):xs.length≤sizeLine∧∃ (its:List Value) (n:Nat),Vals xs its∧xs.length=its.length∧s.heap.get? l=some { cls:=.type "list",data:=.seq its.toArray n }:=by
 obtain⟨z,its,n,r,e⟩:=I.hok l _ hH
 exact⟨z,its,n,r,r.length,e⟩
theorem wv {n:Nat}(h:n≤sizeLine):Builtin.List.listTooLong n=false:=by
 unfold Builtin.List.listTooLong
 exact Yk (by omega)
end
section
variable {X:Cx}
def xI:V→List V→Hp→VK→Prop:=fun x vs H Q=>∃ l xs y,x=.ref l∧vs=[y]∧H l=some (.lst xs)∧xs.length<sizeLine∧Q .non (upd H l (.lst (xs++[y])))
theorem ee:MtM X "list.append" xI:=by
 intro pz s σ H x vs v us Q I rx rv h
 obtain⟨l,xs,y,rfl,rfl,hH,hz,q⟩:=h
 cases rx
 obtain⟨u,rfl,ru⟩:=rv.one
 obtain⟨z,its,n,r,hl,e⟩:=I.lstM hH
 refine call_meets F.slot_list_append ⟨_,e,rfl⟩ F.entry_list_append (F.args_list_append_2 _ _) (PySem.list_append l its.toArray n u (by rw[Ym];omega)) ⟨e,?_⟩
 refine⟨.non,_,I.lset (its':=its++[u]) hH e (by simp) (r.append (.cons ru .nil)) ?_,rfl,q⟩
 rw[Yc,ZD]
 omega
def ye:V→List V→Hp→VK→Prop:=fun x vs H Q=>∃ l b xs zs,x=.ref l∧vs=[.ref b]∧H l=some (.lst xs)∧H b=some (.lst zs)∧xs.length+zs.length≤sizeLine∧Q .non (upd H l (.lst (xs++zs)))
theorem tt:MtM X "list.extend" ye:=by
 intro pz s σ H x vs v us Q I rx rv h
 obtain⟨l,b,xs,zs,rfl,rfl,hH,hB,hz,q⟩:=h
 cases rx
 obtain⟨u,rfl,ru⟩:=rv.one
 cases ru
 obtain⟨z,its,n,r,hl,e⟩:=I.lstM hH
 obtain⟨z2,its2,n2,r2,hl2,e2⟩:=I.lstM hB
 have hsz:its.toArray.size+its2.toArray.size≤sizeLine:=by rw[Ym,Ym];omega
 have hlong:¬ (!its.toArray.isEmpty&&Builtin.List.listTooLong (its.toArray.size+its2.toArray.size))=true:=by
  rw[wv hsz,Bool.and_false]
  exact Yp
 refine call_meets F.slot_list_extend ⟨_,e,rfl⟩ F.entry_list_extend (F.args_list_extend_2 _ _)
  (AutoSeq1.list_extend_list_list_0 l its.toArray n b its2.toArray n2 hlong (by rw[Ym];omega) (by omega)) ⟨e,e2,?_⟩
 refine⟨.non,_,I.lset (its':=its++its2) hH e (by simp) (r.append r2) ?_,rfl,q⟩
 rw[Yc]
 omega
def EY:V→List V→Hp→VK→Prop:=fun x vs H Q=>∃ l xs y,x=.ref l∧vs=[]∧H l=some (.lst xs)∧xs[xs.length-1]?=some y∧Q y (upd H l (.lst xs.dropLast))
theorem u3:MtM X "list.pop" EY:=by
 intro pz s σ H x vs v us Q I rx rv h
 obtain⟨l,xs,y,rfl,rfl,hH,hy,q⟩:=h
 cases rx
 have hus:=rv.zero
 subst hus
 obtain⟨z,its,n,r,hl,e⟩:=I.lstM hH
 obtain⟨u,hu,ru⟩:=r.get hy
 have hy':its.toArray[its.toArray.size-1]?=some u:=by
  show its.toArray[its.length-1]?=some u
  rw[← Array.getElem?_toList,← hl]
  exact hu
 refine call_meets F.slot_list_pop ⟨_,e,rfl⟩ F.entry_list_pop (F.args_list_pop_1 _) (MeetsSeq.list_pop_last l its.toArray n u hy' (by rw[Ym];omega)) ⟨e,?_⟩
 refine⟨y,_,I.lset (its':=its.dropLast) hH e ?_ r.dropLast ?_,ru,q⟩
 ·show its.toArray.eraseIdxIfInBounds (its.toArray.size-1)=its.dropLast.toArray
  rw[Ym,Xn,oY]
 ·rw[List.length_dropLast]
  omega
def wk:V→List V→Hp→VK→Prop:=fun x vs H Q=>∃ l xs,x=.ref l∧vs=[]∧H l=some (.lst xs)∧Q .non (upd H l (.lst xs.reverse))
theorem pV:MtM X "list.reverse" wk:=by
 intro pz s σ H x vs v us Q I rx rv h
 obtain⟨l,xs,rfl,rfl,hH,q⟩:=h
 cases rx
 have hus:=rv.zero
 subst hus
 obtain⟨z,its,n,r,hl,e⟩:=I.lstM hH
 refine call_meets F.slot_list_reverse ⟨_,e,rfl⟩ F.entry_list_reverse (F.args_list_reverse_1 _) (AutoSeq1.list_reverse_list_0 l its.toArray n (by rw[Ym];omega)) ⟨e,?_⟩
 refine⟨.non,_,I.lset (its':=its.reverse) hH e (by simp) r.reverse ?_,rfl,q⟩
 rw[List.length_reverse]
 omega
end
section
variable {prog:Program} {w:World} {A:Around} {E:Kv} {s:Shared}
set_option maxRecDepth 100000 in
end
section
variable {X:Cx}
end
end L2
namespace Att
open PySem PySem.W PySem.Calls PyProof.Rows
theorem iI {P:Params}{h:Heap}:∀ (ns:List Int) (vs:List Value),WellAll P h vs (ns.map WData.int)→IntsAre vs ns:=by
 intro ns
 induction ns with
 | nil=>
  intro vs w
  rw[List.map_nil] at w
  cases w
  exact .nil
 | cons n ns ih=>
  intro vs w
  rw[List.map_cons] at w
  cases w with
  | cons a b=>
   cases a
   exact .cons _ _ (ih _ b)
theorem r9 {l:OpenLaw}{n:Nat}(hn:l.most=some n){P:Params}{h:Heap}{args:List WData}{vals:List Value}
  (hpre:l.row.toRowW.claim.pre args=true) (hwl:WellAll P h vals args) :
  ∃ a vs ns,vals=[Value.ref a]∧args=[WData.list (ns.map WData.int)]∧h.get? a=some { cls:=.type "list",data:=.seq vs.toArray }∧IntsAre vs ns∧ns.length≤n:=by
 have hsh:WShape.hasAll [] args [.list .int]=true:=(pre_splitW hpre).1
 have hc:l.pre.holds [] { args:=args }=true:=(pre_splitW hpre).2
 obtain⟨d,r,rfl,h1,h2⟩:=hasAllW_cons hsh
 obtain rfl:=hasAllW_nil h2
 obtain⟨xs,rfl,h3⟩:=hasW_list h1
 obtain⟨ns,rfl⟩:=items_int h3
 have hlen:ns.length≤n:=by
  unfold OpenLaw.pre at hc
  have h4:(WTm.not (.lt (.lit (.int (n:Int))) (.len (.arg 0)))).holds [] { args:=[.list (ns.map .int)] }=true:=by
   have h4:=(holds_andW hc).1
   rw[hn] at h4
   exact h4
  have h5:=condW_of h4 (w_not (w_lt w_lit (w_len_list (w_arg rfl))))
  rw[List.length_map] at h5
  refine Nat.le_of_not_lt fun q=>?_
  have q':(n:Int)<((ns.length:Nat):Int):=by omega
  first
   | (rw[decide_eq_true q'] at h5;exact absurd h5 (by decide))
   | (simp at h5;omega)
 cases hwl with
 | cons w1 w2=>
  cases w2
  cases w1 with
  | list ho hall=>exact⟨_,_,ns,rfl,rfl,ho,iI ns _ hall,hlen⟩
theorem sN (l:OpenLaw)(args:List WData):l.row.toRowW.claim.post args (.bool true) args=true:=
 postW_of (r:=l.row.toRowW) (X:=(true == true))
  (show WShape.has [] (.bool true) .bool=true by first | rfl | decide | simp[WShape.has,WShape.arms,WShape.armsAll])
  (show (WTm.eq .res (.lit (.bool true))).value [] { args:=args,res:=some (.bool true),after:=args }=some (.bool (true == true)) from w_eq_bool (w_res rfl) w_lit) rfl
theorem attach_call {l:OpenLaw}{n:Nat}{q:Program}{loose:List Str}{XP:(Str→Option Value)→Heap→Prop}{YP:World→Heap→Prop}{d:DefRec}
  (hn:l.most=some n) (hdf:d.params.defaults=[])
  (call:∀ (w:World) (s₀ s₁:Shared) (mg mb:Str→Option Value) (fa:Addr) (o:Obj) (pm cd doc:Value) (a:Addr) (vs:List Value) (ns:List Int),
   Ground q loose [] XP w s₀ mg mb s₁.heap→YP w s₁.heap→
   s₁.heap.get? fa=some o→o.data=.func (docDef d.name d.params d.body d.scope pm cd doc)→s₁.heap.CodeRec cd d.name→mg d.name=some (.ref fa)→
   s₁.heap.get? a=some { cls:=.type "list",data:=.seq vs.toArray }→IntsAre vs ns→ns.length≤n→s₁.gens=#[]→
   codeAny (model l.prog w) callerA (.call (.ref fa) ⟨[.ref a],[]⟩) (fun r s'=>r=.ok (.ret (.bool true))∧OldK s₁.heap s'.heap∧s'.os=s₁.os∧AllBare s'.gens) s₁) :
  WalkO q loose XP YP l.row.toRowW d [] (fun f vs=>PySem.call f vs):=by
 intro w s₀ s₁ mg mb G Y fa o pm cd doc dV kV ho hd hcd hD hmg hg args vals as hpre hlay hrd hwl hlo
 obtain rfl:dV=.none:=Dflts.none hD hdf
 obtain rfl:kV=.none:=Dflts.noKw hD
 obtain⟨a,vs,ns,rfl,rfl,hobj,hints,hlen⟩:=r9 hn hpre hwl
 refine enter_call (codeAny_mono (call w s₀ s₁ mg mb fa o pm cd doc a vs ns G Y ho (fd_plain hd) hcd hmg hobj hints hlen hg) fun r s' hq=>?_)
 obtain⟨rfl,h2,h3,h4⟩:=hq
 exact⟨.inl ⟨.bool true,.bool true,[],rfl,fun _=>rfl,.bool true,sN l _,fun _=>⟨List.Pairwise.nil,fun _ hm=>(nomatch hm)⟩⟩,h2,h3,h4⟩
section
variable {prog:Program} {w:World} {A:Around} {E:Value→Shared→Prop} {s:Shared} {K:Frag}
end
end Att
namespace L2
open PySem PySem.Spec PyProof.Rows
theorem j_:∀ {vs:List Value} {ns:List Int},IntsAre vs ns→Vals (ns.map V.int) vs
 | _,_,.nil=>.nil
 | _,_,.cons n t h=>.cons ⟨t,rfl⟩ (j_ h)
def za (H:Hp):Prop:=∀ b,H b=none∨∃ o xs,H b=some (.frz o (.lst xs))
theorem vC {P:Program}{w:World}{K:Kq}{mg mb:Ks}{CX:CXT}{k:Nat}{fa a:Addr}{fd:FuncData}{x:Str}{sp:Sp}{s₁:Shared}{vs:List Value}{ns:List Int}
  (KX:K.In s₁.heap) (hns:s₁.heap.Ns mainGlobals mg) (hb:s₁.heap.Ns builtinsNs mb) (hbb:∀ x:Str,x ≠ "__name__"→mb x=bootBuiltins x) (hlim:s₁.heap.NoLimit) (hg:s₁.gens=#[])
  (ha:s₁.heap.get? a=some { cls:=.type "list",data:=.seq vs.toArray }) (hi:IntsAre vs ns) (hl:ns.length≤sizeLine) (hr:Room k callerA)
  (F:∀ base:Heap,K.In base→base.Ns mainGlobals mg→FnOk P w K mg base CX k fa fd [x] sp) (hbind:∀ (s:Shared) (u:Value),BindsTo s fd ⟨[u],[]⟩ [(x,u)])
  (hsp:∀ H:Hp,za H→SqL K H a (ns.map V.int)→sp [.ref a] H (fun v _=>v=.bl true) fun _ _ _=>False)
  (hCX:∀ H e s',CX [] H s₁ (fun _ _ _=>False) e s'→False) :
  codeAny (model P w) callerA (.call (.ref fa) ⟨[.ref a],[]⟩) (fun r s'=>r=.ok (.ret (.bool true))∧OldK s₁.heap s'.heap∧s'.os=s₁.os∧AllBare s'.gens) s₁:=by
 have rv:=j_ hi
 have lenV:=hi.length
 -- from an abstract heap in which nothing but the script may be tracked
 have core:∀ H:Hp,za H→SqL K H a (ns.map V.int)→HOk P w H s₁.heap→(∀ b,H b≠none→b=a)→(H a≠none→K.lookup a=none)→
   codeAny (model P w) callerA (.call (.ref fa) ⟨[.ref a],[]⟩) (fun r s'=>r=.ok (.ret (.bool true))∧OldK s₁.heap s'.heap∧s'.os=s₁.os∧AllBare s'.gens) s₁:=by
  intro H hO hS hok hA hK
  have base_of:∀ {b:Addr} {o:Obj},s₁.heap.get? b=some o→H b=none→(lG s₁.heap H).get? b=some o:=fun e n=>vn e n
  have noA:∀ {b:Addr} {o:Obj} {es:Array DictEntry} {ep:Nat},s₁.heap.get? b=some o→o.data=.dict es ep→H b=none:=fun {b o es ep} e d=>by
   cases q:H b with
   | none=>rfl
   | some u=>
    have e':b=a:=hA b (by rw[q];simp)
    subst e'
    rw[ha] at e;cases e
    have d':Data.seq vs.toArray _=Data.dict es ep:=d
    cases d'
  have nsK:∀ {b:Addr} {m:Ks},s₁.heap.Ns b m→(lG s₁.heap H).Ns b m:=fun {b m} ⟨o,es,ep,e,d,r⟩=>⟨o,es,ep,base_of e (noA e d),d,r⟩
  have hKb:K.In (lG s₁.heap H):=fun b o e=>base_of (KX b o e) (by
   cases q:H b with
   | none=>rfl
   | some u=>
    have e':b=a:=hA b (by rw[q];simp)
    subst e'
    rw[hK (by rw[q];simp)] at e;cases e)
  have hM:Mod K mg (lG s₁.heap H):=⟨hKb,nsK hns,⟨mb,nsK hb,hbb⟩,let ⟨mc,h1,h2⟩:=hlim;⟨mc,nsK h1,h2⟩⟩
  have e0:Env0 P w K mg (lG s₁.heap H) callerA [] s₁ H:=⟨rfl,hM,fun b o e=>xO e,ZM (sG _ _),trivial,fun b hb=>absurd (show b∈([]:List Addr) from hb) (by simp),hok,.of_eq hg⟩
  refine codeAny_mono ((F _ hKb (nsK hns)).run callerA [] s₁ H ⟨[.ref a],[]⟩ [.ref a] [.ref a] _ _ hr e0 (hbind s₁ (.ref a)) (.cons rfl .nil) (hsp H hO hS)) fun r s' h=>?_
  cases r with
  | error e=>exact (hCX H e s' h).elim
  | ok fl=>
   cases fl with
   | next=>exact False.elim h
   | brk=>exact False.elim h
   | cont=>exact False.elim h
   | ret u=>
    obtain⟨v,H',os,bare,un,hok',r',q⟩:=h
    have q':v=.bl true:=q
    subst q'
    obtain rfl:u=Value.bool true:=r'
    refine⟨rfl,OldK.of_keep fun b o e=>?_,os,bare⟩
    cases q:H b with
    | none=>exact un.keep b o e q (by intro z;exact absurd (show b∈([]:List Addr) from z) (by simp)) (by simp)
    | some u=>
     rcases hO b with z | ⟨ob,xs,z⟩
     ·rw[q] at z;cases z
     ·have z2:=un.frzs b ob _ z
      obtain⟨e1,_⟩:=hok b _ z
      obtain⟨e2,_⟩:=hok' b _ z2
      rw[e] at e1;cases e1
      exact e2
 cases hk:K.lookup a with
 | some o=>
  -- the script is one of the module's own objects
  have e:=KX a o hk
  rw[ha] at e
  cases e
  refine core (fun _=>none) (fun _=>.inl rfl) (.inr ⟨_,vs.toArray,_,hk,rfl,rfl,rfl,by rw[Ym,lenV];exact hl,by simpa using rv⟩) (fun b u z=>by have z':(none:Option HO)=some u:=z;cases z') (fun b z=>absurd rfl z) fun z=>absurd rfl z
 | none=>
  refine core (fun b=>if b=a then some (.frz { cls:=.type "list",data:=.seq vs.toArray } (.lst (ns.map V.int))) else none) (fun b=>?_) (.inl (.inr ⟨{ cls:=.type "list",data:=.seq vs.toArray },Yh rfl⟩)) (fun b u z=>?_) (fun b z=>?_) fun _=>hk
  ·by_cases hb:b=a
   ·exact .inr ⟨_,_,Yh hb⟩
   ·exact .inl (Yr hb)
  ·by_cases hb:b=a
   ·have z':=(Yh hb).symm.trans z
    cases z'
    subst hb
    exact⟨ha,by rw[Yb];exact hl,vs,_,rv,ha⟩
   ·have z':=(Yr hb).symm.trans z
    cases z'
  ·by_cases hb:b=a
   ·exact hb
   ·exact absurd (Yr hb) z
theorem wR {l:PySem.W.OpenLaw}{n k:Nat}{q:Program}{loose:List Str}{XP:(Str→Option Value)→Heap→Prop}{YP:World→Heap→Prop}{d:DefRec}{K:Params→PySem.W.Frag}{CX:World→CXT}{sp:World→Sp}{x:Str}
  (hn:l.most=some n) (hn2:n≤sizeLine) (hdf:d.params.defaults=[]) (hr:Room k callerA)
  (hY:∀ (w:World) (h:Heap),YP w h→(K w.params).In h)
  (F:∀ (w:World) (mg:Ks) (fa:Addr) (h:Heap),(K w.params).In h→h.Ns mainGlobals mg→mg d.name=some (.ref fa)→
   ∃ fd:FuncData,(∀ (s:Shared) (u:Value),BindsTo s fd ⟨[u],[]⟩ [(x,u)]) ∧
    ∀ base:Heap,(K w.params).In base→base.Ns mainGlobals mg→FnOk l.prog w (K w.params) mg base (CX w) k fa fd [x] (sp w))
  (hsp:∀ (w:World) (H:Hp) (a:Addr) (ns:List Int),ns.length≤n→za H→SqL (K w.params) H a (ns.map V.int)→sp w [.ref a] H (fun v _=>v=.bl true) fun _ _ _=>False)
  (hCX:∀ (w:World) (H:Hp) (s:Shared) (e:Value) (s':Shared),CX w [] H s (fun _ _ _=>False) e s'→False) :
  PySem.W.WalkO q loose XP YP l.row.toRowW d [] (fun f vs=>PySem.call f vs):=by
 refine Att.attach_call hn hdf fun w s₀ s₁ mg mb fa o pm cd doc a vs ns G Y ho hd hcd hmg hobj hints hlen hg=>?_
 have KX:=hY w _ Y
 obtain⟨fd,hb,hF⟩:=F w mg fa _ KX G.T.g hmg
 exact vC KX G.T.g G.T.b G.T.builtins G.T.nolimit hg hobj hints (YQ hlen hn2) hr hF hb (fun H hO hS=>hsp w H a ns hlen hO hS) fun H e s'=>hCX w H s₁ e s'
theorem walk_ofK {l:PySem.W.OpenLaw}{n k:Nat}{q:Program}{loose:List Str}{XP:(Str→Option Value)→Heap→Prop}{YP:World→Heap→Prop}{d:DefRec}{K:Params→PySem.W.Frag}{CX:CXT}{sp:PySem.W.Frag→Sp}{x:Str}
  (hn:l.most=some n) (hn2:n≤sizeLine) (hdf:d.params.defaults=[]) (hr:Room k callerA)
  (hY:∀ (w:World) (h:Heap),YP w h→(K w.params).In h)
  (F:∀ (w:World) (mg:Ks) (fa:Addr) (h:Heap),(K w.params).In h→h.Ns mainGlobals mg→mg d.name=some (.ref fa)→
   ∃ fd:FuncData,(∀ (s:Shared) (u:Value),BindsTo s fd ⟨[u],[]⟩ [(x,u)]) ∧
    ∀ base:Heap,(K w.params).In base→base.Ns mainGlobals mg→FnOk l.prog w (K w.params) mg base CX k fa fd [x] (sp (K w.params)))
  (hsp:∀ (K:Kq) (H:Hp) (a:Addr) (ns:List Int),ns.length≤n→za H→SqL K H a (ns.map V.int)→sp K [.ref a] H (fun v _=>v=.bl true) fun _ _ _=>False)
  (hCX:∀ (H:Hp) (s:Shared) (e:Value) (s':Shared),CX [] H s (fun _ _ _=>False) e s'→False) :
  PySem.W.WalkO q loose XP YP l.row.toRowW d [] (fun f vs=>PySem.call f vs):=
 wR (K:=K) (CX:=fun _=>CX) (sp:=fun w=>sp (K w.params)) hn hn2 hdf hr hY F (fun w H a ns h1 h2 h3=>hsp (K w.params) H a ns h1 h2 h3) fun _ H s e s'=>hCX H s e s'
def xv (s:Stmt)(j:Nat):Stmt:=match s with
 | .ClassDef _ _ _ body _ _ _ _ _ _ _=>body.getD j (.Pass ⟨0,0,0,0⟩)
 | _=>.Pass ⟨0,0,0,0⟩
def defArgs (s:Stmt):Arguments:=match s with
 | .FunctionDef _ a _ _ _ _ _ _ _ _=>a
 | _=>{ posonlyargs:=[],args:=[],vararg:=none,kwonlyargs:=[],kw_defaults:=[],kwarg:=none,defaults:=[] }
def defBody (s:Stmt):List Stmt:=match s with
 | .FunctionDef _ _ b _ _ _ _ _ _ _=>b
 | _=>[]
def defScope (s:Stmt):Scope:=match s with
 | .FunctionDef _ _ _ _ _ _ sc _ _ _=>sc
 | _=>{ kind:=.function,names:=[],isGenerator:=false,isCoroutine:=false }
abbrev CX0:CXT:=fun _ _ _ _ _ _=>False
abbrev E0:XK:=fun _ _ _=>False
theorem gX {X:Cx}:ga CX0 X E0:=fun _ _ _ _ _ _ _ h=>h.elim
structure Fun (K:PySem.W.Frag) (x qual:Str) (st:Stmt) (f:Addr) (fd:FuncData):Prop where
 ex:∃ (oc:Value) (od:Option Addr) (kV doc pm:Value) (an:Option Addr) (cdv ct:Value) (osl:Array (Option Value)),
  fd=PySem.W.fnOf x qual (defArgs st) (defBody st) (defScope st) .none kV doc pm an cdv ct∧K.lookup f=some ⟨oc,od,.func fd,osl⟩∧PySem.W.codeIn K cdv qual=true
 kp:PySem.W.keepIn K (.ref f)=true
section
variable {P:Program} {w:World} {K:Kq} {mg:Ks} {base:Heap}
theorem Fun.ok {x qual:Str}{st:Stmt}{f:Addr}{fd:FuncData}{N ps:List Str}{k:Nat}{sp:Sp}(F:Fun K x qual st f fd)(S:FnScope N ps (defScope st))(len:∀ vs H Q E,sp vs H Q E→vs.length=ps.length)
  (hbody:∀ (cdv:Value) (A:Around) (outer:List Env) (s:Shared) (H:Hp) (vs:List V) (Q:VK) (E:XK),Room k (A.deeper (envOfC qual (defScope st) s.heap.objs.size f cdv))→sp vs H Q E→
   ∃ t,PSs (gG CX0 P w K mg base N qual (defScope st) f cdv A outer s H E).nox (defBody st) t∧t { nx:=fun _ H'=>Q .non H',rt:=Q } (start N vs) H):FnOk P w K mg base CX0 (k+1) f fd ps sp:=by
 obtain⟨oc,od,kV,doc,pm,an,cdv,ct,osl,rfl,lk,hcd⟩:=F.ex
 refine Cc lk hcd S len fun A outer s H vs Q E hr hsp=>?_
 obtain⟨t,h,q⟩:=hbody cdv A outer s H vs Q E hr hsp
 exact⟨t,h.nox,q⟩
theorem Aj {x qual:Str}{st:Stmt}{f:Addr}{oc:Value}{od an:Option Addr}{osl:Array (Option Value)}{kV doc pm cdv ct:Value}(l:K.lookup f=some ⟨oc,od,.func (PySem.W.fnOf x qual (defArgs st) (defBody st) (defScope st) .none kV doc pm an cdv ct),osl⟩)
  (c:PySem.W.codeIn K cdv qual=true) (k:PySem.W.keepIn K (.ref f)=true):Fun K x qual st f (PySem.W.fnOf x qual (defArgs st) (defBody st) (defScope st) .none kV doc pm an cdv ct):=⟨⟨oc,od,kV,doc,pm,an,cdv,ct,osl,rfl,l,c⟩,k⟩
end
section
variable {X:Cx}
theorem pv (i:Nat){x:Str}{pos:Pos}(hN:X.N[i]?=some x:=by rfl)(hv:Vis X.env.scope x:=by first | exact Or.inl rfl | exact Or.inr (Or.inl rfl) | exact Or.inr (Or.inr rfl))(hd:(x == ("__debug__":Str))=false:=by decide)
  (hcd:(x == ("__classdict__":Str))=false:=by decide):PE X (.Name x pos) (ce i):=z8 hN hv hd hcd
end
def Same (H H':Hp):Prop:=∀ b o,H b=some o→H' b=some o
theorem Same.refl (H:Hp):Same H H:=fun _ _ h=>h
theorem Same.trans {H H1 H2:Hp}(a:Same H H1)(b:Same H1 H2):Same H H2:=fun c o h=>b c o (a c o h)
theorem Same.free {H H':Hp}(e:Same H H'){l:Addr}(h:H' l=Option.none):H l=Option.none:=by
 cases q:H l with
 | none=>rfl
 | some o=>
  rw[e l o q] at h
  cases h
theorem Same.seq {K:Kq}{H H':Hp}{a:Addr}{xs:List V}(e:Same H H')(h:SqL K H a xs):SqL K H' a xs:=by
 rcases h with (h | ⟨o,h⟩) | h
 ·exact .inl (.inl (e _ _ h))
 ·exact .inl (.inr ⟨o,e _ _ h⟩)
 ·exact .inr h
end L2
set_option maxHeartbeats 4000000
namespace L2
open PySem PySem.Spec PyProof.Rows
def cB (cs:List (Str×Addr)):List (Str×NameKind)→List (Str×Addr)→List (Str×Addr)
 | [],acc=>acc
 | (n,k)::r,acc=>if k == .free then cB cs r ((n,(cs.lookup n).getD 0)::acc) else cB cs r acc
theorem oJ {scope:Scope}{env:Env}(h:∀ x∈scope.names,x.2=.free→∃ c,env.cells.lookup x.1=some c):closureFor scope env=pure (cB env.cells scope.names []):=by
 have key:∀ (names:List (Str×NameKind)) (acc:List (Str×Addr)) (f:Str×NameKind→List (Str×Addr)→Sem (ForInStep (List (Str×Addr)))),
   (∀ n k r,f (n,k) r=if k == .free then (cellOf env n>>=fun c=>pure (.yield ((n,c)::r))) else pure (.yield r))→
   (∀ x∈names,x.2=.free→∃ c,env.cells.lookup x.1=some c)→forIn names acc f=pure (cB env.cells names acc):=by
  intro names
  induction names with
  | nil=>intro acc f _ _;rfl
  | cons x r ih=>
   intro acc f hf hx
   obtain⟨n,k⟩:=x
   rw[List.forIn_cons,hf]
   unfold cB
   by_cases hk:(k == NameKind.free)=true
   ·rw[Yh hk,Yh hk]
    obtain⟨c,hc⟩:=hx (n,k) Yf (by simpa using hk)
    have e:cellOf env n=pure c:=by unfold cellOf;rw[hc]
    rw[e,pure_bind,pure_bind,hc]
    exact ih _ f hf fun y hy=>hx y (Yd _ hy)
   ·rw[Yr hk,Yr hk,pure_bind]
    exact ih _ f hf fun y hy=>hx y (Yd _ hy)
 unfold closureFor
 show (forIn scope.names ([]:List (Str×Addr)) _>>=fun cs=>pure cs)=_
 rw[key scope.names [] _ (fun n k r=>by
  by_cases hk:(k == NameKind.free)=true
  ·simp only[hk,if_true]
  ·simp only[hk]) h]
 rfl
theorem aK {α:Type}(y n:Str)(c:α)(l:List (Str×α)):((n,c)::l).lookup y=if y=n then some c else l.lookup y:=by
 rw[List.lookup_cons]
 by_cases h:y=n
 ·subst h;simp
 ·have:(y == n)=false:=by simpa using h
  rw[this,Yr h]
theorem cF {cs:List (Str×Addr)}:∀ (names:List (Str×NameKind)) (acc:List (Str×Addr)) (y:Str) (c:Addr),
  (∀ x∈names,x.2=.free→∃ c,cs.lookup x.1=some c)→(∀ y c,acc.lookup y=some c→cs.lookup y=some c)→(cB cs names acc).lookup y=some c→cs.lookup y=some c
 | [],acc,y,c,_,h,e=>h y c e
 | (n,k)::r,acc,y,c,hx,h,e=>by
  unfold cB at e
  have hr:∀ x∈r,x.2=.free→∃ c,cs.lookup x.1=some c:=fun x hm=>hx x (Yd _ hm)
  by_cases hk:(k == NameKind.free)=true
  ·rw[Yh hk] at e
   refine cF r _ y c hr (fun z d ez=>?_) e
   obtain⟨c',hc'⟩:=hx (n,k) Yf (by simpa using hk)
   rw[aK] at ez
   split at ez
   ·rename_i q
    subst q
    cases ez
    rw[hc']
    rfl
   ·exact h z d ez
  ·rw[Yr hk] at e
   exact cF r acc y c hr h e
theorem eJ {cs:List (Str×Addr)}:∀ (names:List (Str×NameKind)) (acc:List (Str×Addr)) (y:Str) (c:Addr),
  (cB cs names acc).lookup y=some c→(y,NameKind.free)∈names∨acc.lookup y=some c
 | [],acc,y,c,e=>.inr e
 | (n,k)::r,acc,y,c,e=>by
  unfold cB at e
  by_cases hk:(k == NameKind.free)=true
  ·rw[Yh hk] at e
   have hk':k=.free:=by simpa using hk
   rcases eJ r _ y c e with q | q
   ·exact .inl (Yd _ q)
   ·rw[aK] at q
    split at q
    ·rename_i z
     subst z
     subst hk'
     exact .inl Yf
    ·exact .inr q
  ·rw[Yr hk] at e
   rcases eJ r acc y c e with q | q
   ·exact .inl (Yd _ q)
   ·exact .inr q
theorem eV {cs:List (Str×Addr)}:∀ (names:List (Str×NameKind)) (acc:List (Str×Addr)) (y:Str),
  ((y,NameKind.free)∈names∨∃ c,acc.lookup y=some c)→∃ c,(cB cs names acc).lookup y=some c
 | [],acc,y,h=>h.elim (fun z=>by cases z) id
 | (n,k)::r,acc,y,h=>by
  unfold cB
  by_cases hk:(k == NameKind.free)=true
  ·rw[Yh hk]
   refine eV r _ y ?_
   rcases h with h | ⟨c,h⟩
   ·rcases YC.mp h with q | q
    ·cases q
     exact .inr ⟨_,by rw[aK,Yh rfl]⟩
    ·exact .inl q
   ·refine .inr ?_
    by_cases q:y=n
    ·exact⟨_,by rw[aK,Yh q]⟩
    ·exact⟨c,by rw[aK,Yr q];exact h⟩
  ·rw[Yr hk]
   refine eV r acc y ?_
   rcases h with h | h
   ·rcases YC.mp h with q | q
    ·cases q
     exact absurd rfl hk
    ·exact .inl q
   ·exact .inr h
theorem lM:∀ (names:List (Str×NameKind)) (h:Heap) (acc:List (Str×Addr)) (y:Str) (c:Addr),(cellsFrom h.objs.size names acc).lookup y=some c→
  (h.objs.size≤c∧(pushCells h names).IsCell c none∧(y,NameKind.cell)∈names)∨acc.lookup y=some c
 | [],_,_,_,_,e=>.inr e
 | (n,k)::r,h,acc,y,c,e=>by
  unfold cellsFrom at e
  unfold pushCells
  by_cases hk:(k == NameKind.cell)=true
  ·rw[Yh hk] at e ⊢
   have hk':k=.cell:=by simpa using hk
   have hz:(h.push { cls:=.type "cell",data:=.cell none }).objs.size=h.objs.size+1:=Xq ..
   rw[← hz] at e
   rcases lM r _ _ y c e with⟨q1,q2,q3⟩ | q
   ·exact .inl ⟨by rw[hz] at q1;omega,q2,Yd _ q3⟩
   ·rw[aK] at q
    split at q
    ·rename_i z
     subst z
     cases q
     subst hk'
     exact .inl ⟨Yx _,⟨_,XB r _ _ _ (YI _ rfl),rfl⟩,Yf⟩
    ·exact .inr q
  ·rw[Yr hk] at e ⊢
   rcases lM r h acc y c e with⟨q1,q2,q3⟩ | q
   ·exact .inl ⟨q1,q2,Yd _ q3⟩
   ·exact .inr q
theorem o9 {y:Str}:∀ (names:List (Str×NameKind)) (n:Nat) (acc:List (Str×Addr)),(∀ k,(y,k)∈names→k≠.cell)→(cellsFrom n names acc).lookup y=acc.lookup y
 | [],_,_,_=>rfl
 | (m,k)::r,n,acc,h=>by
  unfold cellsFrom
  have hr:∀ k,(y,k)∈r→k≠.cell:=fun k hk=>h k (Yd _ hk)
  by_cases hk:(k == NameKind.cell)=true
  ·rw[Yh hk,o9 r _ _ hr,aK,Yr]
   rintro rfl
   exact h k Yf (by simpa using hk)
  ·rw[Yr hk]
   exact o9 r n acc hr
theorem pM:∀ (names:List (Str×NameKind)) (n:Nat) (acc:List (Str×Addr)),(∀ y c,acc.lookup y=some c→c<n)→(∀ y z c,acc.lookup y=some c→acc.lookup z=some c→y=z)→
  ∀ y z c,(cellsFrom n names acc).lookup y=some c→(cellsFrom n names acc).lookup z=some c→y=z
 | [],_,_,_,h=>h
 | (m,k)::r,n,acc,hlt,h=>by
  unfold cellsFrom
  by_cases hk:(k == NameKind.cell)=true
  ·rw[Yh hk]
   refine pM r (n+1) _ (fun y c e=>?_) fun y z c e e'=>?_
   ·rw[aK] at e
    split at e
    ·cases e;exact Xu _
    ·exact ZZ (hlt y c e)
   ·rw[aK] at e e'
    split at e <;> split at e'
    ·rename_i a b;rw[a,b]
    ·cases e;exact absurd (hlt z _ e') (Zh _)
    ·cases e';exact absurd (hlt y _ e) (Zh _)
    ·exact h y z c e e'
  ·rw[Yr hk]
   exact pM r n acc hlt h
def e9 (env:Env)(scope:Scope)(C:Addr):Env:=
 { scope:=relabel scope env,locals:=C,globals:=env.globals,cells:=cellsFrom (C+1) scope.names (cB env.cells scope.names []),qual:=env.qual,func:=none,code:=env.code,frame:=env.frame,builtins:=env.builtins }
def blk (X:Cx)(scope:Scope)(N:List Str)(s:Shared)(H:Hp)(fp:List Addr)(pz:Kp):Cx where
 prog:=X.prog
 w:=X.w
 K:=X.K
 mg:=X.mg
 base:=X.base
 A:=X.A
 N:=N
 s₀:=s
 H₀:=H
 env:=e9 X.env scope s.heap.objs.size
 outer:=X.stack
 stack:=X.stack
 ex:=fp
 fn:=fun x=>scope.names.lookup x == some .local||scope.names.lookup x == some .cell
 calm:=X.calm
 pn:=X.pn++pz
 xe:=fun _ _=>False
structure BlkScope (X:Cx) (scope:Scope):Prop where
 kind:scope.kind=.function
 nd:(scope.names.map (·.1)).Nodup
 free:∀ x∈scope.names,x.2=.free→X.env.kindOf x.1=some .cell∨X.env.kindOf x.1=some .free
theorem dU {α:Type}:∀ {l:List (Str×α)} {n:Str} {c:α},(l.map (·.1)).Nodup→(n,c)∈l→l.lookup n=some c
 | [],_,_,_,h=>by cases h
 | (k,v)::r,n,c,nd,h=>by
  rw[aK]
  rcases YC.mp h with q | q
  ·cases q;rw[Yh rfl]
  ·have nd':=YD.mp nd
   rw[Yr]
   ·exact dU nd'.2 q
   ·rintro rfl
    exact nd'.1 (Yo.mpr ⟨_,q,rfl⟩)
theorem gv {env:Env}{x:Str}:∀ (names:List (Str×NameKind)),
  (names.map fun (n,k)=>if (k == NameKind.free&&env.scope.kind == .function&&env.kindOf n == some .cell) then (n,NameKind.cell) else (n,k)).lookup x =
   (names.lookup x).map fun k=>if (k == NameKind.free&&env.scope.kind == .function&&env.kindOf x == some .cell) then NameKind.cell else k
 | []=>rfl
 | (n,k)::r=>by
  show List.lookup x ((if (k == NameKind.free&&env.scope.kind == .function&&env.kindOf n == some .cell)=true then (n,NameKind.cell) else (n,k))::_)=_
  have e:(if (k == NameKind.free&&env.scope.kind == .function&&env.kindOf n == some .cell)=true then (n,NameKind.cell) else (n,k)) =
    (n,if (k == NameKind.free&&env.scope.kind == .function&&env.kindOf n == some .cell)=true then NameKind.cell else k):=by split <;> rfl
  rw[e,aK,aK]
  split
  ·rename_i q
   subst q
   rfl
  ·exact gv r
theorem jq {env:Env}{scope:Scope}{C:Addr}(x:Str):(e9 env scope C).kindOf x =
  (scope.names.lookup x).map fun k=>if (k == NameKind.free&&env.scope.kind == .function&&env.kindOf x == some .cell) then NameKind.cell else k:=gv scope.names
section
variable {X:Cx} {pz:Kp} {σ:St} {H:Hp} {s:Shared} {scope:Scope} {N:List Str} {fp:List Addr}
theorem BlkScope.cl (b:BlkScope X scope)(ok:X.Ok):∀ x∈scope.names,x.2=.free→∃ c,X.env.cells.lookup x.1=some c:=fun x hx e=>ok.has x.1 (b.free x hx e)
theorem d7 (b:BlkScope X scope)(I:Inv X pz σ H s){y:Str}{c:Addr}(e:(e9 X.env scope s.heap.objs.size).cells.lookup y=some c) :
  (s.heap.objs.size<c∧(pushCells (s.heap.push { cls:=.type "dict",data:=.dict #[] }) scope.names).IsCell c none∧(y,NameKind.cell)∈scope.names)∨(X.env.cells.lookup y=some c∧(y,NameKind.free)∈scope.names):=by
 have hz:(s.heap.push { cls:=.type "dict",data:=.dict #[] }).objs.size=s.heap.objs.size+1:=Xq ..
 have e':(cellsFrom (s.heap.push { cls:=.type "dict",data:=.dict #[] }).objs.size scope.names (cB X.env.cells scope.names [])).lookup y=some c:=by rw[hz];exact e
 rcases lM _ _ _ _ _ e' with⟨h1,h2,h3⟩ | h
 ·exact .inl ⟨by rw[hz] at h1;omega,h2,h3⟩
 ·refine .inr ⟨cF _ _ y c (b.cl I.ok) (fun _ _ z=>by cases z) h,?_⟩
  rcases eJ _ _ _ _ h with q | q
  ·exact q
  ·cases q
theorem AK (b:BlkScope X scope)(I:Inv X pz σ H s)(hf:∀ a∈fp,h8 X pz H a)(hlt:∀ a∈fp,a<s.heap.objs.size):(blk X scope N s H fp pz).Ok:=by
 have clt:∀ y c,X.env.cells.lookup y=some c→c<s.heap.objs.size:=fun y c e=>by obtain⟨v,q⟩:=I.cell y c e;exact q.lt
 refine⟨I.ok.mod,b.kind,I.ok.glob,I.ok.blt,Yx _,fun x y c e e'=>?_,fun x hx=>?_,fun x c hx e=>?_,I.ok.hd,I.ok.frames,.inl rfl,fun a ha=>⟨YL (hlt a ha),fun x c e=>?_⟩,I.bs,YQ I.ok.bsz I.sz,fun a o e ha=>?_,fun a ha=>?_,I.stack,I.stkFree⟩
 ·refine pM scope.names (s.heap.objs.size+1) _ (fun y c q=>?_) (fun y z c q q'=>?_) x y c e e'
  ·exact ZZ (clt y c (cF _ _ y c (b.cl I.ok) (fun _ _ z=>by cases z) q))
  ·exact I.ok.inj y z c (cF _ _ y c (b.cl I.ok) (fun _ _ z=>by cases z) q) (cF _ _ z c (b.cl I.ok) (fun _ _ z=>by cases z) q')
 ·have hx':(e9 X.env scope s.heap.objs.size).kindOf x=some .cell∨(e9 X.env scope s.heap.objs.size).kindOf x=some .free:=hx
  rw[jq] at hx'
  show ∃ c,(cellsFrom (s.heap.objs.size+1) scope.names (cB X.env.cells scope.names [])).lookup x=some c
  cases q:scope.names.lookup x with
  | none=>rw[q] at hx';rcases hx' with z | z <;> cases z
  | some k=>
   have hm:(x,k)∈scope.names:=Zn q
   cases k with
   | cell=>exact ZI.mp (ZQ scope.names _ _ (.inl q))
   | free=>
    obtain⟨c,hc⟩:=eV (cs:=X.env.cells) scope.names [] x (.inl hm)
    exact ZI.mp (ZQ scope.names _ _ (.inr (by rw[hc];rfl)))
   | _=>rw[q] at hx';exfalso;revert hx';simp
 ·rcases d7 b I e with⟨h1,_,_⟩ | ⟨_,h2⟩
  ·exact Zv h1
  ·exfalso
   have q:=dU b.nd h2
   have hx':(scope.names.lookup x == some .local||scope.names.lookup x == some .cell)=true:=hx
   rw[q] at hx'
   revert hx'
   decide
 ·rcases d7 b I e with⟨h1,_,_⟩ | ⟨h1,_⟩
  ·intro z
   subst z
   exact absurd (ZT (hlt _ ha) h1) (Zh _)
  ·exact (hf a ha).2.2.2.2.1 x c h1
 ·have h4:=(hf a ha).2.2.2.1
  rcases h4 with z | z
  ·exact I.ok.noex a o e z
  ·exact absurd (Yy (YE e) (YQ I.ok.bsz z)) (Zh _)
 ·intro z
  rcases YC.mp (I.stkSub a z) with q | q
  ·exact (hf a ha).2.1 q
  ·exact (hf a ha).2.2.1 q
def da (own:Nat)(ix:List Nat)(σ:St):St:=List.replicate own none++ix.map fun j=>(σ[j]?).join
theorem fM (own:Nat)(ix:List Nat)(σ:St):(da own ix σ).length=own+ix.length:=by
 unfold da;rw[Yc,Yw,Yb]
theorem kS {own:Nat}{ix:List Nat}{σ:St}{i:Nat}{v:V}(h:(da own ix σ)[i]?=some (some v)):own≤i∧∃ j,ix[i-own]?=some j∧σ[j]?=some (some v):=by
 unfold da at h
 by_cases hi:i<own
 ·rw[Zu (by rw[Yw];exact hi),ZN,Yh hi] at h
  cases h
 ·rw[Zr (by rw[Yw];omega),Yw,YH] at h
  refine⟨by omega,?_⟩
  cases q:ix[i-own]? with
  | none=>rw[q] at h;cases h
  | some j=>
   rw[q] at h
   refine⟨j,rfl,?_⟩
   cases q2:σ[j]? with
   | none=>rw[ZB,q2] at h;cases h
   | some o=>
    rw[ZB,q2] at h
    cases o with
    | none=>cases h
    | some v'=>rw[Option.join_some] at h;cases h;rfl
structure Caps (X:Cx) (scope:Scope) (N:List Str) (own:Nat) (ix:List Nat):Prop where
 len:N.length=own+ix.length
 cap:∀ (i:Nat) (j:Nat) (x:Str),N[own+i]?=some x→ix[i]?=some j→X.N[j]?=some x∧scope.names.lookup x=some .free
theorem rY {own:Nat}{ix:List Nat}(b:BlkScope X scope)(cp:Caps X scope N own ix)(I:Inv X pz σ H s)(hf:∀ a∈fp,h8 X pz H a)(hlt:∀ a∈fp,a<s.heap.objs.size) :
  Inv (blk X scope N s H fp pz) [] (da own ix σ) H { s with heap:=pushCells (s.heap.push { cls:=.type "dict",data:=.dict #[] }) scope.names }:=by
 have kp:∀ a o,s.heap.get? a=some o→(pushCells (s.heap.push { cls:=.type "dict",data:=.dict #[] }) scope.names).get? a=some o:=fun a o e=>XB _ _ a o (Yt _ e)
 refine⟨AK b I hf hlt,rfl,I.bare,Un.kept kp,⟨_,(Heap.Ns.new s.heap (.type "dict")).keeps (XB _ _),fun i x v e1 e2 e3=>?_⟩,fun y c e=>?_,I.fresh,fun y c e=>?_,fun p hp=>?_,I.hok.kept kp,?_⟩
 ·obtain⟨ho,j,ej,ev⟩:=kS e2
  have e1':N[own+(i-own)]?=some x:=by rw[show own+(i-own)=i by omega];exact e1
  obtain⟨hN,hfree⟩:=cp.cap (i-own) j x e1' ej
  obtain⟨m,hn,hl⟩:=I.loc
  have hk:X.env.kindOf x=some .cell∨X.env.kindOf x=some .free:=b.free (x,.free) (Zn hfree) rfl
  have hv:Vis X.env.scope x:=hk.elim (fun z=>.inr (.inl z)) fun z=>.inr (.inr z)
  obtain⟨u,r,lk⟩:=hl j x v hN ev hv
  refine⟨u,r,.inr ⟨?_,?_⟩⟩
  ·show (e9 X.env scope s.heap.objs.size).kindOf x=some .cell∨(e9 X.env scope s.heap.objs.size).kindOf x=some .free
   rw[jq,hfree]
   show some (if _ then NameKind.cell else NameKind.free)=some .cell∨some (if _ then NameKind.cell else NameKind.free)=some .free
   split
   ·exact .inl rfl
   ·exact .inr rfl
  ·rcases lk with⟨k,_⟩ | ⟨_,c,ec,z⟩
   ·rw[k] at hk
    rcases hk with z | z <;> cases z
   ·refine⟨c,?_,z.keeps kp⟩
    show (cellsFrom (s.heap.objs.size+1) scope.names (cB X.env.cells scope.names [])).lookup x=some c
    rw[o9]
    ·obtain⟨c',hc'⟩:=eV (cs:=X.env.cells) scope.names [] x (.inl (Zn hfree))
     have:=cF _ _ x c' (b.cl I.ok) (fun _ _ z=>by cases z) hc'
     rw[ec] at this
     cases this
     exact hc'
    ·intro k hk' z
     rw[dU b.nd hk'] at hfree
     cases hfree
     cases z
 ·rcases d7 b I e with⟨_,h2,_⟩ | ⟨h1,_⟩
  ·exact⟨_,h2⟩
  ·obtain⟨v,z⟩:=I.cell y c h1
   exact⟨v,z.keeps kp⟩
 ·rcases d7 b I e with⟨h1,_,_⟩ | ⟨h1,_⟩
  ·exact I.hok.fresh (Zv h1)
  ·exact I.freeC y c h1
 ·have hp':p∈X.pn++pz:=by
   have:p∈(X.pn++pz)++[]:=hp
   rwa [Yi] at this
  obtain⟨e,n,ne,nf,d⟩:=I.pin p hp'
  refine⟨kp _ _ e,n,YL (YE e),fun z=>?_,d⟩
  rcases YC.mp (I.stkSub p.1 z) with q | q
  ·exact ne q
  ·exact nf q
 ·rw[fM]
  exact cp.len.symm
theorem u6 {σ':St}{H':Hp}{s':Shared}{h':Heap}{pl:Kp}(I:Inv X pz σ H s)(hf:∀ a∈fp,h8 X pz H a)(J:Inv (blk X scope N s H fp pz) pl σ' H' s')(hs:Heap.SameBut s.heap.objs.size s'.heap h') :
  Inv X pz σ H' { s' with heap:=h' }:=by
 have hC:H' s.heap.objs.size=none:=J.free
 have ne:∀ a o,s.heap.get? a=some o→a≠s.heap.objs.size:=fun a o e=>YL (YE e)
 have u:Un (frs X.stack) fp H H' s.heap s'.heap:=J.base
 refine I.call' (ch:=fp) (s':={ s' with heap:=h' }) J.os ⟨fun a o e n h1 h2=>(hs.2 a (ne a o e)).trans (u.keep a o e n h1 h2),fun a o e n h1 h2=>?_,fun a o e n h2=>u.free a o e n h2,fun a o e h2=>?_,u.tups,u.frzs,u.tbls⟩ (fun a o e=>?_) J.bare fun a ha=>?_
 ·obtain⟨sl,q⟩:=u.slot a o e n h1 h2
  exact⟨sl,(hs.2 a (ne a o e)).trans q⟩
 ·obtain⟨o',q⟩:=u.there a o e h2
  exact⟨o',(hs.2 a (ne a o e)).trans q⟩
 ·refine (J.hok a o e).stay (fun c v hc q=>(hs.2 c ?_).trans q) (fun _ q=>q) fun _ _ q=>q
  rintro rfl
  rcases hc with rfl | hc
  ·rw[hC] at e;cases e
  ·rw[hC] at hc;cases hc
 ·obtain⟨_,h2,_,h4,h5,h6⟩:=hf a ha
  exact⟨h4,h2,h5,h6⟩
theorem vv {pl:Kp}{H':Hp}(b:BlkScope X scope)(I:Inv X pz σ H s)(hf:∀ a∈fp,h8 X pz H a)(hlt:∀ a∈fp,a<s.heap.objs.size)(hn:∀ a∈fp,H' a=none) :
  ∀ a∈fp,h8 (blk X scope N s H fp pz) [] H' a:=fun a ha=>by
 obtain⟨_,h2,h3,h4,h5,h6⟩:=hf a ha
 refine⟨hn a ha,YL (hlt a ha),fun z=>?_,.inl ha,fun x c e=>?_,fun p hp=>?_⟩
 ·rcases YC.mp (I.stkSub a z) with q | q
  ·exact h2 q
  ·exact h3 q
 ·rcases d7 b I e with⟨q,_,_⟩ | ⟨q,_⟩
  ·intro z
   subst z
   exact absurd (ZT (hlt _ ha) q) (Zh _)
  ·exact h5 x c q
 ·have hp':p∈X.pn++pz:=by
   have:p∈(X.pn++pz)++[]:=hp
   rwa [Yi] at this
  exact h6 p hp'
end
theorem oM {M:Model}{A:Around}{E:Kv}{s:Shared}{scope:Scope}{env:Env}{Q:Env→Shared→Prop}(cl:List (Str×Addr))
  (h:∀ cenv:Env,cenv={ scope:=scope,locals:=s.heap.objs.size,globals:=env.globals,cells:=cellsFrom (s.heap.objs.size+1) scope.names cl,qual:=env.qual,func:=none,code:=env.code,frame:=env.frame,builtins:=env.builtins }→
   Q cenv { s with heap:=pushCells (s.heap.push { cls:=.type "dict",data:=.dict #[] }) scope.names }) :
  wpAny M A (newFunctionEnv scope env.globals cl [] env.qual none .none (some env)) Q E s:=by
 simp only[newFunctionEnv,Option.isSome_some,if_true]
 refine Yu (wpAny_alloc ?_)
 refine Yu (wpAny_layCells _ (fun name kind cells=>by cases hkc:kind == NameKind.cell <;> simp[hkc]) _ _ _ _ ?_)
 rw[show ({ s with heap:=s.heap.push { cls:=.type "dict",data:=.dict #[] } }:Shared).heap.objs.size=s.heap.objs.size+1 from Xq ..]
 refine Yu ?_
 rw[List.forIn_nil]
 exact YV (YV (h _ rfl))
theorem rO {prog:Program}{w:World}{A:Around}{R:Kr}{s:Shared}{elt target iter:Expr}{ifs:List Expr}{scope:Scope}{pos:Pos}{it acc:Value}{env:Env}(I:Nat→Shared→Prop)
  (turn:∀ n s,I n s→wpAny (model prog w) A (pyNext it) (fun r s₁=>match r with
   | none=>R (.ok .next) s₁
   | some v=>wpAny (model prog w) A (letOwnedTupleGo target it v) (fun _ s₁=>wpAny (model prog w) A (assign target env v) (fun _ s₂=>
     wpAny (model prog w) A (forIn ifs true fun c r=>if r=true then do let ok ← isTrue c env (eval c env);pure (ForInStep.yield ok) else pure (ForInStep.yield r)) (fun ok s₃=>
      if ok=true then wpAny (model prog w) A (eval elt env) (fun x s₄=>
       wpAny (model prog w) A (call (.builtin "list.append") [acc,x]) (fun _ s₅=>∃ m,m<n∧I m s₅) (fun _ _=>False) s₄) (fun _ _=>False) s₃
      else ∃ m,m<n∧I m s₃) (fun _ _=>False) s₂) (fun _ _=>False) s₁) (fun _ _=>False) s₁) (fun _ _=>False) s)
  (n:Nat) (h:I n s) :
  codeAny (model prog w) A (.compLoop (.ListComp elt [⟨target,iter,ifs,0⟩] scope pos) 0 it acc env) R s:=by
 refine codeAny_loop rfl I (fun n s hI=>?_) n h
 show wpAny _ A ((compTurn (.ListComp elt [⟨target,iter,ifs,0⟩] scope pos) 0 it acc env).onRaise (fun x=>do noteFrame x env;theTreesLotGoes x)) _ _ s
 refine wpAny_noted ?_
 rw[compTurn_list]
 refine Yu (wpAny_standAt (Yu (ZA (turn n s hI) (fun r s₁ h₁=>?_) fun _ _ h'=>h'.elim)))
 cases r with
 | none=>exact YV h₁
 | some v=>
  refine Yu (ZA h₁ (fun _ s₁' h₁'=>?_) fun _ _ h'=>h'.elim)
  refine Yu (ZA h₁' (fun _ s₂ h₂=>Yu (ZA h₂ (fun ok s₃ h₃=>?_) fun _ _ h'=>h'.elim)) fun _ _ h'=>h'.elim)
  cases ok with
  | true=>
   rw[Yh rfl] at h₃
   simp only[if_true]
   exact Yu (Yu (ZA h₃ (fun x s₄ h₄=>Yu (ZA h₄ (fun _ s₅ h₅=>YV (YV ⟨rfl,h₅⟩)) fun _ _ h'=>h'.elim)) fun _ _ h'=>h'.elim))
  | false=>
   rw[Yr Yp] at h₃
   simp only[XH,if_false]
   exact YV ⟨rfl,h₃⟩
def Ey:TT:=fun _ H Q=>Q true H
def rR (X:Cx)(ifs:List Expr)(t:TT):Prop:=
 ∀ (pz:Kp) (s:Shared) (σ:St) (H:Hp) (Q:Bool→Hp→Prop),Inv X pz σ H s→t σ H Q→
  wpAny (model X.prog X.w) X.A (forIn ifs true fun c r=>if r=true then do let ok ← isTrue c X.env (eval c X.env);pure (ForInStep.yield ok) else pure (ForInStep.yield r)) (TP X pz σ Q) X.xe s
theorem uM {X:Cx}:rR X [] Ey:=fun _ _ _ H _ I h=>YV ⟨H,I,h⟩
def zB (own:Nat)(ix:List Nat)(wi:TI)(g:TG)(tc:TT)(te:TE):TE:=fun σ H Q=>wi σ H fun J H1=>∀ acc,H1 acc=none→∃ W:Nat→Nat→List V→Hp→Prop,
 (∃ m,W 0 m [] (upd H1 acc (.lst [])))∧∀ i m ys H,W i m ys H→
  (J.stop i H∧Q (.ref acc) H)∨(J.go i H∧∃ N:List V→Hp→Prop,(∀ ys' H',N ys' H'→∃ m',m' < m∧W (i+1) m' ys' H')∧∀ x H',J.yld i H x H'→g x (da own ix σ) H' fun σ2 H2=>
   (σ2.length=own+ix.length∧∀ (j:Nat) v,(da own ix σ)[j]?=some (some v)→σ2[j]?=some (some v)) ∧
   tc σ2 H2 fun ok H3=>if ok=true then te σ2 H3 fun y H4=>H4 acc=some (.lst ys)∧ys.length<sizeLine∧N (ys++[y]) (upd H4 acc (.lst (ys++[y]))) else N ys H3)
section
variable {X:Cx} {elt tg iter:Expr} {ifs:List Expr} {scope:Scope} {pos:Pos} {N:List Str} {own:Nat} {ix:List Nat} {wi:TI} {g:TG} {tc:TT} {te:TE}
theorem pO {pz:Kp}{σ:St}{s:Shared}{Q:VK}{itv:Value}{RR:Value→Addr→Result→Shared→Prop}{E:Kv}(hcalm:X.calm=true)(b:BlkScope X scope)(cp:Caps X scope N own ix)
  (hg:∀ s H fp pz,PG (blk X scope N s H fp pz) tg g) (hc:∀ s H fp pz,rR (blk X scope N s H fp pz) ifs tc) (he:∀ s H fp pz,PE (blk X scope N s H fp pz) elt te)
  (hp:PIE X pz σ tg (fun J H1=>∀ acc,H1 acc=none→∃ W:Nat→Nat→List V→Hp→Prop,
   (∃ m,W 0 m [] (upd H1 acc (.lst [])))∧∀ i m ys H,W i m ys H→
    (J.stop i H∧Q (.ref acc) H)∨(J.go i H∧∃ N:List V→Hp→Prop,(∀ ys' H',N ys' H'→∃ m',m' < m∧W (i+1) m' ys' H')∧∀ x H',J.yld i H x H'→g x (da own ix σ) H' fun σ2 H2=>
     (σ2.length=own+ix.length∧∀ (j:Nat) v,(da own ix σ)[j]?=some (some v)→σ2[j]?=some (some v)) ∧
     tc σ2 H2 fun ok H3=>if ok=true then te σ2 H3 fun y H4=>H4 acc=some (.lst ys)∧ys.length<sizeLine∧N (ys++[y]) (upd H4 acc (.lst (ys++[y]))) else N ys H3)) itv s)
  (hR:∀ (s3:Shared) (H3:Hp) (fp:List Addr) (acc:Addr) (σ':St) (H':Hp) (s':Shared),Inv X pz σ H3 s3→(∀ a∈fp,h8 X pz H3 a)→Inv (blk X scope N s3 H3 fp pz) [] σ' H' s'→Q (.ref acc) H'→RR (.ref acc) s3.heap.objs.size (.ok .next) s') :
  wpAny (model X.prog X.w) X.A (newList []) (fun acc s₃=>wpAny (model X.prog X.w) X.A (newFunctionEnv scope X.env.globals (cB X.env.cells scope.names []) [] X.env.qual none .none (some X.env)) (fun cenv s₄=>
   codeAny (model X.prog X.w) X.A (.compStart (.ListComp elt [⟨tg,iter,ifs,0⟩] scope pos) 0 itv acc { cenv with scope:=relabel scope X.env }) (RR acc cenv.locals) s₄) E s₃) E s:=by
 obtain⟨it,fp,tn,J,H1,rfl,I1,T,st1,f1,hacc⟩:=hp
 refine wpAny_newObj_type ?_
 -- the list
 have I3:Inv X pz σ (upd H1 s.heap.objs.size (.lst [])) { s with heap:=s.heap.push { cls:=.type "list",dict:=none,data:=.seq ([]:List Value).toArray } }:=I1.lnew (ys:=[]) (its:=[]) .nil (YO _)
 generalize hs3:({ s with heap:=s.heap.push { cls:=.type "list",dict:=none,data:=.seq ([]:List Value).toArray } }:Shared)=s3 at I3 ⊢
 have kp3:∀ a o,s.heap.get? a=some o→s3.heap.get? a=some o:=fun a o e=>by rw[← hs3];exact Yt _ e
 have st3:tn 0 s3.heap:=T.keep _ _ _ st1 fun a _ o e=>kp3 a o e
 have lt1:∀ a∈fp,a<s.heap.objs.size:=fun a ha=>by obtain⟨o,e,_⟩:=T.obj _ _ st1 a ha;exact YE e
 have f3:∀ a∈fp,h8 X pz (upd H1 s.heap.objs.size (.lst [])) a:=fun a ha=>⟨by rw[ay (YL (lt1 a ha))];exact (f1 a ha).1,(f1 a ha).2⟩
 have lt3:∀ a∈fp,a<s3.heap.objs.size:=fun a ha=>by obtain⟨o,e,_⟩:=T.obj _ _ st3 a ha;exact YE e
 obtain⟨W,⟨m0,w0⟩,turn⟩:=hacc s.heap.objs.size I1.fresh
 generalize hH3:upd H1 s.heap.objs.size (.lst [])=H3 at I3 f3 w0
 generalize hacc':s.heap.objs.size=acc at w0 turn ⊢
 refine oM _ fun cenv hc'=>?_
 subst hc'
 have J0:=rY (N:=N) (fp:=fp) b cp I3 f3 lt3
 have st4:tn 0 (pushCells (s3.heap.push { cls:=.type "dict",data:=.dict #[] }) scope.names):=T.keep _ _ _ st3 fun a _ o e=>XB _ _ a o (Yt _ e)
 generalize hs4:({ s3 with heap:=pushCells (s3.heap.push { cls:=.type "dict",data:=.dict #[] }) scope.names }:Shared)=s4 at J0 ⊢
 have st4':tn 0 s4.heap:=by rw[← hs4];exact st4
 -- the loop
 have loop:codeAny (model X.prog X.w) X.A (.compLoop (.ListComp elt [⟨tg,iter,ifs,0⟩] scope pos) 0 (.ref it) (.ref acc) (e9 X.env scope s3.heap.objs.size)) (RR (.ref acc) s3.heap.objs.size) s4:=by
  refine rO (fun n s'=>∃ i ys H',Inv (blk X scope N s3 H3 fp pz) [] (da own ix σ) H' s'∧tn i s'.heap∧(∀ a∈fp,H' a=none)∧W i n ys H') ?_ m0 ⟨0,[],H3,J0,st4',fun a ha=>(f3 a ha).1,w0⟩
  rintro n s5 ⟨i,ys,H5,J5,st5,fr5,w5⟩
  have fp5:=vv (pl:=[]) (N:=N) b I3 f3 lt3 fr5
  rcases turn i n ys H5 w5 with⟨stop,q⟩ | ⟨go,NN,hN,step⟩
  ·refine thn (T.done (blk X scope N s3 H3 fp pz) rfl rfl rfl hcalm i [] s5 _ H5 _ J5 fp5 st5 stop) fun r s6 ⟨hr,J6⟩=>?_
   subst hr
   exact hR s3 H3 fp acc _ H5 s6 I3 f3 J6 q
  ·refine thn (T.item (blk X scope N s3 H3 fp pz) rfl rfl rfl hcalm i [] s5 _ H5 _ J5 fp5 st5 go) fun r s6 ⟨u,hr,h6⟩=>?_
   subst hr
   refine thn h6 fun _ s7 hh_=>?_
   obtain⟨x,H7,J7,r7,y7,st7,fr7⟩:=hh_
   have fp7:=vv (pl:=[]) (N:=N) b I3 f3 lt3 fr7
   have J7':=J7.pinned fp7 (T.obj _ _ st7)
   have back:∀ {σ8:St} {H8:Hp} {s8:Shared} {zs:List V},Inv (blk X scope N s3 H3 fp pz) ([]++i7 fp s7.heap) σ8 H8 s8→(σ8.length=own+ix.length∧∀ (j:Nat) v,(da own ix σ)[j]?=some (some v)→σ8[j]?=some (some v))→NN zs H8→
     ∃ m,m<n∧∃ i ys H',Inv (blk X scope N s3 H3 fp pz) [] (da own ix σ) H' s8∧tn i s8.heap∧(∀ a∈fp,H' a=none)∧W i m ys H':=fun {σ8 H8 s8 zs} J8 hw n8=>by
    obtain⟨m',hm,w8⟩:=hN zs H8 n8
    refine⟨m',hm,i+1,zs,H8,(J8.unpinned).weak (by rw[fM,hw.1]) hw.2,T.keep _ _ _ st7 fun a ha o e=>(J8.pin (a,o) (YT _ (YT _ (eT ha e)))).1,fun a ha=>?_,w8⟩
    obtain⟨o,e,d⟩:=T.obj _ _ st7 a ha
    exact (J8.pin (a,o) (YT _ (YT _ (eT ha e)))).2.1
   refine thn (hg s3 H3 fp pz _ s7 _ H7 x u _ J7' r7 (step x H7 y7)) fun _ s8 hh_=>?_
   obtain⟨σ8,H8,J8,hw,q8⟩:=hh_
   refine thn (hc s3 H3 fp pz _ s8 σ8 H8 _ J8 q8) fun ok s9 hh_=>?_
   obtain⟨H9,J9,q9⟩:=hh_
   cases ok with
   | false=>
    rw[Yr Yp] at q9 ⊢
    exact back J9 hw q9
   | true=>
    rw[Yh rfl] at q9 ⊢
    refine thn (he s3 H3 fp pz _ s9 σ8 H9 _ J9 q9) fun y s10 hh_=>?_
    obtain⟨z,H10,J10,rz,e10,hlt,n10⟩:=hh_
    refine thn (ee (X:=blk X scope N s3 H3 fp pz) _ s10 σ8 H10 (.ref acc) [z] (.ref acc) [y] (fun v H'=>v=.non∧H'=upd H10 acc (.lst (ys++[z]))) J10 rfl (.cons rz .nil) ⟨acc,ys,z,rfl,rfl,e10,hlt,rfl,rfl⟩) fun _ s11 hh_=>?_
    obtain⟨_,H11,J11,_,_,e11⟩:=hh_
    subst e11
    exact back J11 hw n10
 subst hs4
 exact codeAny_compStart_list loop (T.self _ _ _ _ _ st4' loop)
theorem xl (hcalm:X.calm=true)(b:BlkScope X scope)(cp:Caps X scope N own ix)(hi:PI X tg iter wi)
  (hg:∀ s H fp pz,PG (blk X scope N s H fp pz) tg g) (hc:∀ s H fp pz,rR (blk X scope N s H fp pz) ifs tc) (he:∀ s H fp pz,PE (blk X scope N s H fp pz) elt te)
  (hnames:∀ y∈scope.names,y.2=.local→scope.names.lookup y.1=some .local:=by decide)
  (hs:∀ x,foldedSetIterable iter X.env x=pure x:=by intro _;rfl):PE X (.ListComp elt [⟨tg,iter,ifs,0⟩] scope pos) (zB own ix wi g tc te):=by
 intro pz s σ H Q I h
 rw[eval_ListComp]
 refine wpAny_comprehension_free (use:=none) rfl hs (oJ (b.cl I.ok)) b.kind hnames (thn (hi pz s σ H _ I h) fun v s1 h1=>thn h1 fun itv s2 h2=>?_)
 refine pO (RR:=fun acc C=>compPost (model X.prog X.w) X.A X.xe none (EP X pz σ Q) acc C) hcalm b cp hg hc he h2 ?_
 intro s3 H3 fp acc σ' H' s' I3 f3 J q
 obtain⟨m,hn,_⟩:=id J.loc
 exact⟨m,hn,fun h' hs'=>⟨.ref acc,H',u6 I3 f3 J hs',rfl,q⟩⟩
end
section
variable {κ:Type} [DecidableEq κ]
def cH (kvs:List (κ×V))(k:κ):Option V:=(kvs.find? fun kv=>decide (kv.1=k)).map (·.2)
def dJ (kvs:List (κ×V))(k:κ)(v:V):List (κ×V):=
 if (kvs.any fun kv=>decide (kv.1=k))=true then kvs.map (fun kv=>if kv.1=k then (kv.1,v) else kv) else kvs++[(k,v)]
theorem jz {p:κ×V}{r:List (κ×V)}{k:κ}(e:p.1=k):cH (p::r) k=some p.2:=by simp[cH,Zc,e]
theorem jv {p:κ×V}{r:List (κ×V)}{k:κ}(e:¬ p.1=k):cH (p::r) k=cH r k:=by simp[cH,Zc,e]
theorem nj (k:κ):∀ kvs:List (κ×V),(kvs.any fun kv=>decide (kv.1=k))=(cH kvs k).isSome
 | []=>rfl
 | p::r=>by
  rw[Xa]
  by_cases e:p.1=k
  ·simp only[jz e,YF e,Bool.true_or,Option.isSome_some]
  ·rw[jv e,Yk e,Bool.false_or];exact nj k r
theorem fm (kvs:List (κ×V))(k:κ)(v:V):(dJ kvs k v).length≤kvs.length+1:=by
 unfold dJ
 split
 ·rw[Yb];omega
 ·rw[Yc,Yg,YW];omega
theorem RelO.isSome_eq {o:Option V}{u:Option Value}(r:RelO o u):o.isSome=u.isSome:=by
 cases o with
 | none=>cases u with
  | none=>rfl
  | some _=>exact (show False from r).elim
 | some _=>cases u with
  | none=>exact (show False from r).elim
  | some _=>rfl
theorem RelO.getD {o:Option V}{u:Option Value}{d:V}{d':Value}(r:RelO o u)(rd:RelV d d'):RelV (o.getD d) (u.getD d'):=by
 cases o with
 | none=>cases u with
  | none=>exact rd
  | some _=>exact (show False from r).elim
 | some _=>cases u with
  | none=>exact (show False from r).elim
  | some _=>exact r
theorem KV.val {kvs:List (κ×V)}{vs:List (κ×Value)}(r:KV kvs vs)(k:κ):RelO (cH kvs k) (valueAt vs k):=by
 unfold KV at r
 induction r with
 | nil=>exact True.intro
 | @cons p q ps qs h t ih=>
  obtain⟨h1,h2⟩:=h
  by_cases e:p.1=k
  ·have e':q.1=k:=h1.symm.trans e
   have b:valueAt (q::qs) k=some q.2:=by simp[valueAt,Zc,e']
   rw[jz e,b];exact h2
  ·have e':¬ q.1=k:=fun z=>e (h1.trans z)
   have b:valueAt (q::qs) k=valueAt qs k:=by simp[valueAt,Zc,e']
   rw[jv e,b];exact ih
theorem KV.any {kvs:List (κ×V)}{vs:List (κ×Value)}(r:KV kvs vs)(k:κ):(kvs.any fun kv=>decide (kv.1=k))=vs.any fun kv=>decide (kv.1=k):=by
 unfold KV at r
 induction r with
 | nil=>rfl
 | cons h t ih=>rw[Xa,Xa,ih,h.1]
theorem KV.repl {kvs:List (κ×V)}{vs:List (κ×Value)}(r:KV kvs vs)(k:κ){y:V}{u:Value}(ry:RelV y u) :
  KV (kvs.map fun kv=>if kv.1=k then (kv.1,y) else kv) (vs.map fun kv=>if kv.1=k then (kv.1,u) else kv):=by
 unfold KV at r ⊢
 induction r with
 | nil=>exact .nil
 | @cons p q ps qs h t ih=>
  rw[YA,YA]
  refine .cons ?_ ih
  obtain⟨h1,h2⟩:=h
  by_cases e:p.1=k
  ·rw[Yh e,Yh (h1.symm.trans e)];exact⟨h1,ry⟩
  ·rw[Yr e,Yr (fun z=>e (h1.trans z))];exact⟨h1,h2⟩
theorem KV.put {kvs:List (κ×V)}{vs:List (κ×Value)}(r:KV kvs vs)(k:κ){y:V}{u:Value}(ry:RelV y u):KV (dJ kvs k y) (stored vs k u):=by
 unfold dJ stored
 rw[r.any k]
 by_cases e:(vs.any fun kv=>decide (kv.1=k))=true
 ·rw[Yh e,Yh e];exact r.repl k ry
 ·rw[Yr e,Yr e];exact Paired.snoc r ⟨rfl,ry⟩
theorem KV.length {kvs:List (κ×V)}{vs:List (κ×Value)}(r:KV kvs vs):kvs.length=vs.length:=Paired.length r
end
theorem jU {P:Program}{w:World}{k:Key}{u:Value}(r:RelV (kV k) u):(bp P w).is k u=true:=by
 cases k with
 | inl i=>obtain⟨t,e⟩:=(show ∃ t,u=Value.int i t from r);subst e;exact nX P w i t
 | inr x=>obtain⟨t,e⟩:=(show ∃ t,u=Value.str x t from r);subst e;exact oB P w x t
theorem kB {P:Program}{w:World}:∀ {ks:List Key} {us:List Value},Vals (ks.map kV) us→ItemsAre (bp P w) ks us
 | [],_,r=>by rw[Za] at r;cases r;exact .nil
 | k::ks,_,r=>by
  rw[YA] at r
  cases r with
  | cons h t=>exact .cons (jU h) (kB t)
abbrev KT (H:Hp):List (List Key×V)→List (List Key×Addr×Value)→Prop:=Paired fun p q=>p.1=q.1∧H q.2.1=some (.tup (p.1.map kV))∧RelV p.2 q.2.2
theorem KT.val {H:Hp}{kvs:List (List Key×V)}{xs:List (List Key×Addr×Value)}(r:KT H kvs xs)(k:List Key):RelO (cH kvs k) ((atKey xs k).map (·.2)):=by
 induction r with
 | nil=>exact True.intro
 | @cons p q ps qs h t ih=>
  obtain⟨h1,_,h2⟩:=h
  by_cases e:p.1=k
  ·have e':q.1=k:=h1.symm.trans e
   have b:atKey (q::qs) k=some q.2:=by simp[atKey,Zc,e']
   rw[jz e,b];exact h2
  ·have e':¬ q.1=k:=fun z=>e (h1.trans z)
   have b:atKey (q::qs) k=atKey qs k:=by simp[atKey,Zc,e']
   rw[jv e,b];exact ih
theorem KT.repl {H:Hp}{kvs:List (List Key×V)}{xs:List (List Key×Addr×Value)}(r:KT H kvs xs)(k:List Key){y:V}{u:Value}(ry:RelV y u) :
  KT H (kvs.map fun kv=>if kv.1=k then (kv.1,y) else kv) (xs.map (putAt k u)):=by
 induction r with
 | nil=>exact .nil
 | @cons p q ps qs h t ih=>
  rw[YA,YA]
  refine .cons ?_ ih
  obtain⟨h1,h2,h3⟩:=h
  unfold putAt
  by_cases e:p.1=k
  ·rw[Yh e,Yh (h1.symm.trans e)];exact⟨h1,h2,ry⟩
  ·rw[Yr e,Yr (fun z=>e (h1.trans z))];exact⟨h1,h2,h3⟩
theorem KT.put {H:Hp}{kvs:List (List Key×V)}{xs:List (List Key×Addr×Value)}(r:KT H kvs xs)(k:List Key){b:Addr}{y:V}{u:Value}(hb:H b=some (.tup (k.map kV)))(ry:RelV y u) :
  KT H (dJ kvs k y) (storedH xs k b u):=by
 have e:(kvs.any fun kv=>decide (kv.1=k))=(atKey xs k).isSome:=by
  rw[nj,(r.val k).isSome_eq,XM]
 unfold dJ storedH
 rw[e]
 by_cases q:(atKey xs k).isSome=true
 ·rw[Yh q,Yh q];exact r.repl k ry
 ·rw[Yr q,Yr q];exact Paired.snoc r ⟨rfl,hb,ry⟩
theorem KT.keeps {H H':Hp}{kvs:List (List Key×V)}{xs:List (List Key×Addr×Value)}(r:KT H kvs xs)(ht:∀ b ys,H b=some (.tup ys)→H' b=some (.tup ys)):KT H' kvs xs:=
 Paired.mapP r fun _ _ z=>⟨z.1,ht _ _ z.2.1,z.2.2⟩
section
variable {P:Program} {w:World} {H:Hp} {h:Heap} {a:Addr}
theorem zl {u:HO}(ok:HOk P w H h)(e:Rd H a u):ObjOk P w H h a u:=e.ok ok
theorem iA {kvs:List (Key×V)}(ok:HOk P w H h)(e:Rd H a (.dK kvs)):kvs.length≤sizeLine∧(a == sysModules)=false∧∃ vs,KV kvs vs∧h.DictOf (bp P w) a vs:=
 show ObjOk P w H h a (.dK kvs) from zl ok e
theorem zf {kvs:List (Key×V)}(ok:HOk P w H h)(e:H a=some (.dK kvs)):kvs.length≤sizeLine∧(a == sysModules)=false∧∃ vs,KV kvs vs∧h.DictOf (bp P w) a vs:=iA ok (.inl e)
theorem iq {ks:List Key}(ok:HOk P w H h)(e:H a=some (.tup (ks.map kV))):(tupleKind (bp P w)).is h ks a:=by
 obtain⟨_,its,r,⟨o,h1,h2,n,h3⟩,_⟩:=(show ObjOk P w H h a (.tup (ks.map kV)) from ok a _ e)
 exact⟨o,its.toArray,n,h1,h2,h3,by simpa using kB r⟩
theorem ja {kvs:List (List Key×V)}(ok:HOk P w H h)(e:Rd H a (.dT kvs)):kvs.length≤sizeLine∧(a == sysModules)=false ∧
  ∃ xs,KT H kvs xs∧h.DictOfH (tupleKind (bp P w)) a xs:=by
 obtain⟨z,y,xs,r,o,es,ep,h1,h2,h3,h4,h5⟩:=(show ObjOk P w H h a (.dT kvs) from zl ok e)
 refine⟨z,y,xs,r,o,es,ep,h1,h2,h3,h4,fun x hx=>?_,h5⟩
 have all:∀ {l:List (List Key×V)} {m:List (List Key×Addr×Value)},KT H l m→∀ x∈m,(tupleKind (bp P w)).is h x.1 x.2.1:=by
  intro l m q
  induction q with
  | nil=>intro x hx;exact nomatch hx
  | @cons p q ps qs hq t ih=>
   intro x hx
   rcases YC.mp hx with e | hx
   ·subst e
    exact iq ok (by rw[← hq.1];exact hq.2.1)
   ·exact ih x hx
 exact all r x hx
theorem Cf {kvs:List (List Key×V)}(ok:HOk P w H h)(e:H a=some (.dT kvs)):kvs.length≤sizeLine∧(a == sysModules)=false ∧
  ∃ xs,KT H kvs xs∧h.DictOfH (tupleKind (bp P w)) a xs:=ja ok (.inl e)
end
def DGet (H:Hp)(a:Addr)(y:V)(r:Option V):Prop:=
 (∃ kvs k,Rd H a (.dK kvs)∧y=kV k∧r=cH kvs k)∨∃ kvs k b,Rd H a (.dT kvs)∧y=.ref b∧H b=some (.tup (k.map kV))∧r=cH kvs k
def DPut (H:Hp)(a:Addr)(y v:V)(H':Hp):Prop:=
 (∃ kvs k,H a=some (.dK kvs)∧y=kV k∧kvs.length<sizeLine∧H'=upd H a (.dK (dJ kvs k v))) ∨
 ∃ kvs k b,H a=some (.dT kvs)∧y=.ref b∧H b=some (.tup (k.map kV))∧kvs.length<sizeLine∧H'=upd H a (.dT (dJ kvs k v))
theorem DGet.k {H:Hp}{a:Addr}{kvs:List (Key×V)}{k:Key}(e:H a=some (.dK kvs)):DGet H a (kV k) (cH kvs k):=.inl ⟨kvs,k,.inl e,rfl,rfl⟩
theorem DGet.t {H:Hp}{a b:Addr}{kvs:List (List Key×V)}{k:List Key}(e:H a=some (.dT kvs))(eb:H b=some (.tup (k.map kV))):DGet H a (.ref b) (cH kvs k):=.inr ⟨kvs,k,b,.inl e,rfl,eb,rfl⟩
theorem DPut.k {H:Hp}{a:Addr}{kvs:List (Key×V)}{k:Key}{v:V}(e:H a=some (.dK kvs))(hl:kvs.length<sizeLine):DPut H a (kV k) v (upd H a (.dK (dJ kvs k v))):=.inl ⟨kvs,k,e,rfl,hl,rfl⟩
theorem DPut.t {H:Hp}{a b:Addr}{kvs:List (List Key×V)}{k:List Key}{v:V}(e:H a=some (.dT kvs))(eb:H b=some (.tup (k.map kV)))(hl:kvs.length<sizeLine) :
  DPut H a (.ref b) v (upd H a (.dT (dJ kvs k v))):=.inr ⟨kvs,k,b,e,rfl,eb,hl,rfl⟩
section
variable {X:Cx} {pz:Kp} {σ:St} {H:Hp} {s:Shared} {a:Addr} {y v:V} {u r:Value} {o:Option V} {A:Around} {E:Kv}
theorem Inv.big (I:Inv X pz σ H s):sysModules<s.heap.objs.size:=by
 have h:mainGlobals<s.heap.objs.size:=(I.mod.glob.keeps I.bk).lt
 exact ZT (by decide) h
theorem sq {Q:Kv}(hu:A.units+1<cLine)(I:Inv X pz σ H s)(g:DGet H a y (some v))(ry:RelV y u)(h:∀ w' s',Inv X pz σ H s'→RelV v w'→Q w' s') :
  wpAny (model X.prog X.w) A (getItem (.ref a) u) Q E s:=by
 rcases g with⟨kvs,k,e,ey,l⟩ | ⟨kvs,k,b,e,ey,eb,l⟩
 ·subst ey
  obtain⟨z,hd,vs,rel,dd⟩:=iA I.hok e
  obtain⟨w',hw,rw'⟩:=RelO.some_of (v:=v) (o:=valueAt vs k) (by rw[l];exact rel.val k)
  exact wpAny_getItem_of (jU ry) dd.mapOf hw (h w' _ (I.tok _) rw')
 ·subst ey
  cases (show u=Value.ref b from ry)
  obtain⟨z,hd,xs,rel,dd⟩:=ja I.hok e
  obtain⟨w',hw,rw'⟩:=RelO.some_of (v:=v) (o:=(atKey xs k).map (·.2)) (by rw[l];exact rel.val k)
  obtain⟨p,hp,hp2⟩:=Option.map_eq_some_iff.mp hw
  refine wpAny_getItem_heap (ZS hu) (iq I.hok eb) dd hp ?_
  rw[hp2]
  exact h w' _ (I.tok _) rw'
theorem Fn {Q:Kv}(hu:A.units+1<cLine)(I:Inv X pz σ H s)(g:DGet H a y o)(ry:RelV y u)(h:∀ s',Inv X pz σ H s'→Q (.bool o.isSome) s') :
  wpAny (model X.prog X.w) A (compareOp .In u (.ref a)) Q E s:=by
 rcases g with⟨kvs,k,e,ey,l⟩ | ⟨kvs,k,b,e,ey,eb,l⟩
 ·subst ey
  obtain⟨z,hd,vs,rel,dd⟩:=iA I.hok e
  refine wpAny_in_of (jU ry) hd dd.mapOf ?_
  rw[← (rel.val k).isSome_eq,← l]
  exact h _ (I.tok _)
 ·subst ey
  cases (show u=Value.ref b from ry)
  obtain⟨z,hd,xs,rel,dd⟩:=ja I.hok e
  refine wpAny_in_heap (ZS hu) (iq I.hok eb) hd dd ?_
  have q:=(rel.val k).isSome_eq
  rw[XM] at q
  rw[← q,← l]
  exact h _ (I.tok _)
theorem yw {Q:Kv}(hu:A.units+1<cLine)(I:Inv X pz σ H s)(g:DGet H a y o)(ry:RelV y u)(h:∀ s',Inv X pz σ H s'→Q (.bool (!o.isSome)) s') :
  wpAny (model X.prog X.w) A (compareOp .NotIn u (.ref a)) Q E s:=by
 rcases g with⟨kvs,k,e,ey,l⟩ | ⟨kvs,k,b,e,ey,eb,l⟩
 ·subst ey
  obtain⟨z,hd,vs,rel,dd⟩:=iA I.hok e
  refine wpAny_notIn_of (jU ry) hd dd.mapOf ?_
  rw[← (rel.val k).isSome_eq,← l]
  exact h _ (I.tok _)
 ·subst ey
  cases (show u=Value.ref b from ry)
  obtain⟨z,hd,xs,rel,dd⟩:=ja I.hok e
  refine wpAny_notIn_heap (ZS hu) (iq I.hok eb) hd dd ?_
  have q:=(rel.val k).isSome_eq
  rw[XM] at q
  rw[← q,← l]
  exact h _ (I.tok _)
theorem me {h':Heap}{t':Nat}{ob:HO}(I:Inv X pz σ H s)(mu:Mut (H a))(hs:Heap.SameBut a s.heap h')(he:∃ q,h'.get? a=some q)(new:ObjOk X.prog X.w (upd H a ob) h' a ob) :
  Inv X pz σ (upd H a ob) { s with heap:=h',toks:=t' }:=
 I.write (x:=a) (e:=a) mu (.inl rfl) (fun b q hb z=>(hs.2 b hb).trans z) he new
theorem uz {P:Program}{w:World}{H':Hp}{h':Heap}{kvs:List (Key×V)}{vs:List (Key×Value)}(z:kvs.length≤sizeLine)(hd:(a == sysModules)=false)(rel:KV kvs vs)(dd:h'.DictOf (bp P w) a vs) :
  ObjOk P w H' h' a (.dK kvs):=⟨z,hd,vs,rel,dd⟩
theorem rK {H':Hp}{Q:Unit→Shared→Prop}(hu:A.units+1<cLine)(I:Inv X pz σ H s)(g:DPut H a y v H')(ry:RelV y u)(rv:RelV v r)(h:∀ s',Inv X pz σ H' s'→Q () s') :
  wpAny (model X.prog X.w) A (setItem (.ref a) u r) Q E s:=by
 rcases g with⟨kvs,k,e,ey,l,eH⟩ | ⟨kvs,k,b,e,ey,eb,l,eH⟩
 ·subst ey eH
  obtain⟨z,hd,vs,rel,dd⟩:=zf I.hok e
  have hz:vs.length≤sizeLine:=by rw[← rel.length];exact z
  have hl:(dJ kvs k v).length≤sizeLine:=by have:=fm kvs k v;omega
  refine wpAny_setItem_pairs (hsz:=hz) (jU ry) dd fun h' dd' hs=>h _ ?_
  have he:∃ q,h'.get? a=some q:=let ⟨q,_,_,hq,_⟩:=dd';⟨q,hq⟩
  exact me I (by rw[e];exact True.intro) hs he (uz hl hd (rel.put k rv) dd')
 ·subst ey eH
  cases (show u=Value.ref b from ry)
  obtain⟨z,hd,xs,rel,dd⟩:=Cf I.hok e
  have hz:xs.length≤sizeLine:=by rw[← Paired.length rel];exact z
  have hl:(dJ kvs k v).length≤sizeLine:=by have:=fm kvs k v;omega
  refine wpAny_setItem_heap (hsz:=hz) (ZS hu) (iq I.hok eb) dd fun h' dd' hs=>h _ ?_
  obtain⟨q,es,ep,hq,h2,h3,h4,_,h5⟩:=dd'
  refine me I (by rw[e];exact True.intro) hs ⟨q,hq⟩ ⟨hl,hd,_,(rel.put k eb rv).keeps fun c ys ec=>?_,q,es,ep,hq,h2,h3,h4,h5⟩
  rw[ay (DE ec e (fun z=>nomatch z))]
  exact ec
end
section
variable {X:Cx} {pz:Kp} {σ:St} {H:Hp} {s:Shared} {a:Addr} {kvs:List (Key×V)} {k:Key} {u:Value} {A:Around} {E:Kv}
theorem CU {Q:Kv}(I:Inv X pz σ H s)(e:Rd H a (.dK kvs))(h:∀ t s',Inv X pz σ H s'→Q (.int kvs.length t) s'):wpAny (model X.prog X.w) A (call (.builtin "len") [.ref a]) Q E s:=by
 obtain⟨z,hd,vs,rel,dd⟩:=iA I.hok e
 refine call_len_dict hd dd (by rw[← rel.length];rw[YK] at z;omega) ?_
 rw[← rel.length]
 exact h _ _ (I.tok _)
end
def k_ (i:Expr):Prop:=∀ ov iv,subscripted i false ov iv=operate [ov,iv] (getItem ov iv)
theorem rB {prog:Program}{w:World}{A:Around}{E:Kv}{s:Shared}{env:Env}{value slice:Expr}{pos:Pos}{T id:String}{Q:Kv}
  (hl:typeLookup (.type T) "__getitem__"=pure (some (.builtin id))) (hs:k_ slice)
  (h:wpAny (model prog w) A (eval value env) (fun o s₁=>wpAny (model prog w) A (eval slice env) (fun i s₂=>s₂.TypeIs o T∧wpAny (model prog w) A (getItem o i) Q E s₂) E s₁) E s) :
  wpAny (model prog w) A (eval (.Subscript value slice pos) env) Q E s:=by
 refine Subscript_ (ZA h (fun o s₁ h₁=>ZA h₁ (fun i s₂ h₂=>?_) fun _ _ x=>x) fun _ _ x=>x)
 obtain⟨hT,h₂⟩:=h₂
 unfold subscriptTail
 refine Yu ?_
 rw[getitemInPython_of_ne hT.not_modules]
 refine Yu (wpAny_specialOf hT hl ?_)
 have fin:wpAny (model prog w) A (subscripted slice false o i) (fun r s₃=>wpAny (model prog w) A (letTemporaryGo value o r>>=fun _=>pure r) Q E s₃) E s₂:=by
  rw[hs o i]
  exact wpAny_operating (ZA h₂ (fun r s₃ h₃=>Yu (wpAny_letTemporaryGo (YV h₃))) fun _ _ x=>x)
 first
  | exact YV (Yu fin)
  | exact Yu (YV (Yu fin))
  | exact Yu fin
theorem mY {X:Cx}{pz:Kp}{σ:St}{H:Hp}{s:Shared}{a:Addr}{y:V}{o:Option V}(I:Inv X pz σ H s)(g:DGet H a y o):s.TypeIs (.ref a) "dict":=by
 rcases g with⟨kvs,k,e,_,_⟩ | ⟨kvs,k,b,e,_,_,_⟩
 ·obtain⟨_,_,vs,_,dd⟩:=iA I.hok e
  exact dd.typeIs
 ·obtain⟨_,_,xs,_,dd⟩:=ja I.hok e
  exact dd.typeIs
def CS (td ty:TE):TE:=fun σ H Q=>td σ H fun x H1=>ty σ H1 fun y H2=>∃ a v,x=.ref a∧DGet H2 a y (some v)∧Q v H2
def EK (ty td:TE):TE:=fun σ H Q=>ty σ H fun y H1=>td σ H1 fun x H2=>∃ a o,x=.ref a∧DGet H2 a y o∧Q (.bl o.isSome) H2
def yc (ty td:TE):TE:=fun σ H Q=>ty σ H fun y H1=>td σ H1 fun x H2=>∃ a o,x=.ref a∧DGet H2 a y o∧Q (.bl (!o.isSome)) H2
def Cu (td ty tv:TE):TS:=fun D σ H=>tv σ H fun v H1=>td σ H1 fun x H2=>ty σ H2 fun y H3=>∃ a H4,x=.ref a∧DPut H3 a y v H4∧D.nx σ H4
section
variable {X:Cx} {o i e value:Expr} {pos pos' tpos:Pos} {td ty tv:TE}
theorem fK (hu:X.A.units+1<cLine)(ho:PE X o td)(hi:PE X i ty)(hs:k_ i):PE X (.Subscript o i pos) (CS td ty):=by
 intro pz s σ H Q I h
 refine rB PySem.F.slot_dict_getitem.lookup hs (aT (ho pz s σ H _ I h) fun u s1 x H1 I1 rx q1=>aT (hi pz s1 σ H1 _ I1 q1) fun iv s2 y H2 I2 ry hh_=>?_)
 obtain⟨a,v,ex,g,q2⟩:=hh_
 subst ex
 obtain rfl:u=Value.ref a:=rx
 exact⟨mY I2 g,sq hu I2 g ry fun w' s3 I3 rw'=>⟨v,H2,I3,rw',q2⟩⟩
theorem BS (hu:X.A.units+1<cLine)(hi:PE X i ty)(ho:PE X o td):PC X .In i o (EK ty td):=by
 intro pz s σ H Q I h
 refine aT (hi pz s σ H _ I h) fun iv s1 y H1 I1 ry q1=>aT (ho pz s1 σ H1 _ I1 q1) fun u s2 x H2 I2 rx hh_=>?_
 obtain⟨a,ov,ex,g,q2⟩:=hh_
 subst ex
 obtain rfl:u=Value.ref a:=rx
 exact Fn hu I2 g ry fun s3 I3=>⟨.bl ov.isSome,H2,I3,rfl,q2⟩
theorem rZ (hu:X.A.units+1<cLine)(hi:PE X i ty)(ho:PE X o td):PC X .NotIn i o (yc ty td):=by
 intro pz s σ H Q I h
 refine aT (hi pz s σ H _ I h) fun iv s1 y H1 I1 ry q1=>aT (ho pz s1 σ H1 _ I1 q1) fun u s2 x H2 I2 rx hh_=>?_
 obtain⟨a,ov,ex,g,q2⟩:=hh_
 subst ex
 obtain rfl:u=Value.ref a:=rx
 exact yw hu I2 g ry fun s3 I3=>⟨.bl (!ov.isSome),H2,I3,rfl,q2⟩
theorem iK (hu:X.A.units+1<cLine)(ho:PE X o td)(hi:PE X i ty)(hv:PE X value tv)(hs:swapsWith value (some (.Subscript o i pos')) pos.line X.env=pure false) :
  PS X (.Assign [.Subscript o i pos'] value pos) (Cu td ty tv):=by
 intro pz s σ H D I h
 refine wpAny_Assign_Subscript (aT (hv pz s σ H _ I h) fun r s1 v H1 I1 rv q1=>aT (ho pz s1 σ H1 _ I1 q1) fun u s2 x H2 I2 rx q2=>aT (hi pz s2 σ H2 _ I2 q2) fun iv s3 y H3 I3 ry hh_=>?_) hs
 obtain⟨a,H4,ex,g,q3⟩:=hh_
 subst ex
 obtain rfl:u=Value.ref a:=rx
 exact rK hu I3 g ry rv fun s4 I4=>⟨σ,H4,I4,q3⟩
end
theorem nR {P:Program}{w:World}{H:Hp}(h:Heap)(hb:sysModules<h.objs.size):ObjOk P w H (h.push { cls:=.type "dict",data:=.dict #[] }) h.objs.size (.dK []):=
 ⟨YO _,Zm.mpr (XJ (YL hb)),[],.nil,Heap.DictOf.new h⟩
theorem vD {P:Program}{w:World}{H:Hp}(h:Heap)(hb:sysModules<h.objs.size):ObjOk P w H (h.push { cls:=.type "dict",data:=.dict #[] }) h.objs.size (.dT []):=
 ⟨YO _,Zm.mpr (XJ (YL hb)),[],.nil,_,#[],0,YI _ rfl,⟨rfl,rfl,rfl⟩,rfl,rfl,XL⟩
def Bi:TE:=fun _ H Q=>∀ p,H p=none→Q (.ref p) (upd H p (.dK []))
def AR:TE:=fun _ H Q=>∀ p,H p=none→Q (.ref p) (upd H p (.dT []))
section
variable {X:Cx} {pos:Pos}
theorem uE:PE X (.Dict [] [] pos) Bi:=fun pz s σ H Q I h=>
 wpAny_Dict_empty ⟨.ref s.heap.objs.size,_,I.laid (a:=s.heap.objs.size) (o:=.dK []) (t':=s.toks) (fun _ _ q=>Yt _ q) (Yx _) (nR s.heap I.big),rfl,h _ (I.hok.fresh (Yx _))⟩
theorem v_:PE X (.Dict [] [] pos) AR:=fun pz s σ H Q I h=>
 wpAny_Dict_empty ⟨.ref s.heap.objs.size,_,I.laid (a:=s.heap.objs.size) (o:=.dT []) (t':=s.toks) (fun _ _ q=>Yt _ q) (Yx _) (vD s.heap I.big),rfl,h _ (I.hok.fresh (Yx _))⟩
end
def mS:List (TE×TE)→St→Hp→(List (V×V)→Hp→Prop)→Prop
 | [],_,H,Q=>Q [] H
 | (tk,tv)::r,σ,H,Q=>tk σ H fun x H1=>tv σ H1 fun y H2=>mS r σ H2 fun ps H3=>Q ((x,y)::ps) H3
abbrev VV:List (V×V)→List (Value×Value)→Prop:=Paired fun p q=>RelV p.1 q.1∧RelV p.2 q.2
def PPs (X:Cx)(pos:Pos)(keys:List (Option Expr))(values:List Expr)(trs:List (TE×TE)):Prop:=
 ∀ (pz:Kp) (s:Shared) (σ:St) (H:Hp) (Q:List (V×V)→Hp→Prop),Inv X pz σ H s→mS trs σ H Q→
  wpAny (model X.prog X.w) X.A (evalPairs (pairTrees keys values X.env pos)) (fun vs s'=>∃ ps H',Inv X pz σ H' s'∧VV ps vs∧Q ps H') X.xe s
theorem yB {X:Cx}{pos:Pos}:PPs X pos [] [] []:=fun pz s σ H Q I h=>pairTrees_nil_walk ⟨[],H,I,.nil,h⟩
theorem d5 {X:Cx}{pos:Pos}{k v:Expr}{ks:List (Option Expr)}{vs:List Expr}{tk tv:TE}{trs:List (TE×TE)}(hk:PE X k tk)(hv:PE X v tv)(hr:PPs X pos ks vs trs) :
  PPs X pos (some k::ks) (v::vs) ((tk,tv)::trs):=fun pz s σ H Q I h=>
 pairTrees_cons_walk (aT (hk pz s σ H _ I h) fun u s1 x H1 I1 rx q1=>aT (hv pz s1 σ H1 _ I1 q1) fun w2 s2 y H2 I2 ry q2=>
  aT (hr pz s2 σ H2 _ I2 q2) fun ws s3 ps H3 I3 rel q3=>⟨(x,y)::ps,H3,I3,.cons ⟨rx,ry⟩ rel,q3⟩)
def fD (kvs more:List (Key×V)):List (Key×V):=more.foldl (fun acc kv=>dJ acc kv.1 kv.2) kvs
theorem KV.merge:∀ {more:List (Key×V)} {rs:List (Key×Value)} {kvs:List (Key×V)} {vs:List (Key×Value)},KV more rs→KV kvs vs→KV (fD kvs more) (merged vs rs):=by
 intro more rs kvs vs r
 unfold KV at r
 induction r generalizing kvs vs with
 | nil=>intro q;exact q
 | @cons p q ps qs h t ih=>
  intro r0
  have e:KV (dJ kvs p.1 p.2) (stored vs q.1 q.2):=by
   have:=r0.put p.1 h.2
   rw[← h.1];exact this
  exact ih e
theorem fT:∀ (more kvs:List (Key×V)),(fD kvs more).length≤kvs.length+more.length
 | [],kvs=>by show kvs.length≤kvs.length+0;omega
 | p::r,kvs=>by
  have h1:=fT r (dJ kvs p.1 p.2)
  have h2:=fm kvs p.1 p.2
  show (fD (dJ kvs p.1 p.2) r).length≤_
  rw[Yg];omega
theorem i_ {P:Program}{w:World}:∀ {kvs:List (Key×V)} {ws:List (Value×Value)},VV (kvs.map fun kv=>(kV kv.1,kv.2)) ws→∃ rs,Carries (bp P w) ws rs∧KV kvs rs
 | [],_,r=>by rw[Za] at r;cases r;exact⟨[],True.intro,.nil⟩
 | p::kvs,_,r=>by
  rw[YA] at r
  cases r with
  | @cons a b as bs h t=>
   obtain⟨rs,c,q⟩:=i_ (P:=P) (w:=w) t
   obtain⟨b1,b2⟩:=b
   exact⟨(p.1,b2)::rs,⟨jU h.1,rfl,c⟩,.cons ⟨rfl,h.2⟩ q⟩
def CD (trs:List (TE×TE)):TE:=fun σ H Q=>∀ p,H p=none→mS trs σ (upd H p (.dK [])) fun ps H2=>H2 p=some (.dK [])∧∃ kvs:List (Key×V),ps=kvs.map (fun kv=>(kV kv.1,kv.2))∧kvs.length≤15∧Q (.ref p) (upd H2 p (.dK (fD [] kvs)))
theorem yQ {X:Cx}{pos:Pos}{keys:List (Option Expr)}{values:List Expr}{trs:List (TE×TE)}(h:PPs X pos keys values trs)(hall:keys.all (·.isSome)=true)(hl:keys.length=values.length)(h0:keys≠[])
  (h15:keys.length≤15):PE X (.Dict keys values pos) (CD trs):=by
 intro pz s σ H Q I q
 have hn:=I.hok.fresh (Yx s.heap.objs.size)
 have I1:=I.laid (a:=s.heap.objs.size) (o:=.dK []) (h':=s.heap.push { cls:=.type "dict",data:=.dict #[] }) (t':=s.toks) (fun _ _ q=>Yt _ q) (Yx _) (nR s.heap I.big)
 refine wpAny_Dict_walk (knd:=bp X.prog X.w) hall hl h0 h15 (aT (h pz _ σ _ _ I1 (q _ hn)) fun ws s2 ps H2 I2 rel hh_=>?_)
 obtain⟨e,kvs,ep,lk,q2⟩:=hh_
 subst ep
 obtain⟨rs,c,rk⟩:=i_ (P:=X.prog) (w:=X.w) rel
 obtain⟨z,hd,vs0,r0,dd⟩:=zf I2.hok e
 cases r0
 refine⟨rs,c,dd,fun h' dd' hs=>⟨.ref s.heap.objs.size,_,?_,rfl,q2⟩⟩
 have hz:(fD [] kvs).length≤sizeLine:=by
  have h1:=fT kvs []
  rw[YW] at h1
  rw[YK];omega
 have he:∃ q,h'.get? s.heap.objs.size=some q:=let ⟨q,_,_,hq,_⟩:=dd';⟨q,hq⟩
 exact me I2 (by rw[e];exact True.intro) hs he (uz hz hd (rk.merge .nil) dd')
structure M2 (X:Cx) (o:Expr) (m:Str) (apos:Pos) (e f:Expr) (cpos:Pos):Prop where
 base:attributeBase o m X.env (eval o X.env)=eval o X.env
 few:((backTo cpos (starEach [e,f] X.env)).all (fun x=>!x.1)&&(backToKw cpos (keywordEach [] X.env)).all (fun x=>x.1.isSome)
  && decide (([e,f]:List Expr).length+([]:List Keyword).length+(if ([]:List Keyword).isEmpty then 0 else 1)<30))=true
 line:(apos.endLine == cpos.line)=true
 trees:backTo cpos (starEach [e,f] X.env)=[(false,eval e X.env),(false,eval f X.env)]
def IsD (H:Hp)(a:Addr):Prop:=(∃ kvs,Rd H a (.dK kvs))∨∃ kvs,Rd H a (.dT kvs)
theorem A_ {X:Cx}{pz:Kp}{σ:St}{H:Hp}{s:Shared}{a:Addr}(I:Inv X pz σ H s)(d:IsD H a) :
  s.TypeIs (.ref a) "dict"∧(∀ b,Value.ref a=.ref b→∃ ob,s.heap.get? b=some ob∧ob.dict=none)∧(a == sysModules)=false:=by
 rcases d with⟨kvs,e⟩ | ⟨kvs,e⟩
 ·obtain⟨_,hd,vs,_,dd⟩:=iA I.hok e
  refine⟨dd.typeIs,fun b q=>?_,hd⟩
  cases q
  obtain⟨ob,_,_,h1,h2,_⟩:=dd
  exact⟨ob,h1,h2.2.1⟩
 ·obtain⟨_,hd,xs,_,dd⟩:=ja I.hok e
  refine⟨dd.typeIs,fun b q=>?_,hd⟩
  cases q
  obtain⟨ob,_,_,h1,h2,_⟩:=dd
  exact⟨ob,h1,h2.2.1⟩
section
variable {X:Cx} {pz:Kp} {σ:St} {H:Hp} {s:Shared} {a:Addr} {y d:V} {u r:Value} {o:Option V} {A:Around} {E:Kv}
theorem Ac {Q:Kv}(hu:A.units+1<cLine)(I:Inv X pz σ H s)(g:DGet H a y o)(ry:RelV y u)(rd:RelV d r)(h:∀ w' s',Inv X pz σ H s'→RelV (o.getD d) w'→Q w' s') :
  wpAny (model X.prog X.w) A (call (.builtin "dict.get") [.ref a,u,r]) Q E s:=by
 rcases g with⟨kvs,k,e,ey,l⟩ | ⟨kvs,k,b,e,ey,eb,l⟩
 ·subst ey
  obtain⟨z,hd,vs,rel,dd⟩:=iA I.hok e
  refine call_meetsIn Xs dd.typeIs PySem.F.entry_dict_get (PySem.F.args_dict_get_3 _ _ _) (meets_dict_get_default (bp X.prog X.w) a (jU ry) hd r) ⟨_,dd.mapOf,h _ _ (I.tok _) ?_⟩
  rw[l]
  exact (rel.val k).getD rd
 ·subst ey
  cases (show u=Value.ref b from ry)
  obtain⟨z,hd,xs,rel,dd⟩:=ja I.hok e
  refine call_meetsIn Xs dd.typeIs PySem.F.entry_dict_get (PySem.F.args_dict_get_3 _ _ _) (meetsH_dict_get_default (tupleKind (bp X.prog X.w)) a b hd r) ⟨ZS hu,k,xs,iq I.hok eb,dd,h _ _ (I.tok _) ?_⟩
  rw[l]
  exact (rel.val k).getD rd
end
def Ak (td ty tx:TE):TE:=fun σ H Q=>td σ H fun x H1=>∃ a,x=.ref a∧IsD H1 a∧ty σ H1 fun y H2=>tx σ H2 fun z H3=>∃ o,DGet H3 a y o∧Q (o.getD z) H3
section
variable {X:Cx} {o e f:Expr} {apos cpos:Pos} {td ty tx:TE}
theorem vy (hu:X.A.units+1<cLine)(ho:PE X o td)(he:PE X e ty)(hf:PE X f tx)(m:M2 X o "get" apos e f cpos):PE X (.Call (.Attribute o "get" apos) [e,f] [] cpos) (Ak td ty tx):=by
 intro pz s σ H Q I h
 refine wpAny_Call_method m.base m.few m.line PySem.F.plainAttrs_dict Xs PySem.F.type_dict_get (aT (ho pz s σ H _ I h) fun u s1 x H1 I1 rx hh_=>?_)
 obtain⟨a,ex,d,q1⟩:=hh_
 subst ex
 obtain rfl:u=Value.ref a:=rx
 obtain⟨t1,t2,_⟩:=A_ I1 d
 refine⟨t1,t2,?_⟩
 rw[m.trees]
 refine Xk rfl (Calls.evalArgs_plain (Calls.spliced_cons (aT (he pz s1 σ H1 _ I1 q1) fun iv s2 y H2 I2 ry q2=>
  Calls.spliced_cons (aT (hf pz s2 σ H2 _ I2 q2) fun fv s3 z H3 I3 rz ⟨ov,g,q3⟩=>Calls.spliced_nil ?_))))
 exact Ac hu I3 g ry rz fun w' s4 I4 rw'=>⟨_,H3,I4,rw',q3⟩
end
section
variable {X:Cx} {pz:Kp} {σ:St} {H:Hp} {s:Shared} {a:Addr} {kvs:List (Key×V)} {A:Around} {E:Kv}
end
section
variable {X:Cx} {pz:Kp} {σ:St} {H:Hp} {s:Shared} {a:Addr} {y:V} {u:Value} {A:Around} {E:Kv}
end
section
variable {κ:Type} [DecidableEq κ]
end
inductive D where
 | non | bl (b:Bool) | int (i:Int) | str (x:Str)
 | tup (xs:List D) | lst (xs:List D)
 | dT (kvs:List (List Key×D)) | dK (kvs:List (Key×D))
 | ins (C:Addr) (fs:List (Str×D))
 | fn (a:Addr) (v:V) (d:D)
mutual
inductive Rep (K:PySem.W.Frag) (H:Hp):V→D→Prop
 | non:Rep K H .non .non
 | bl {b:Bool}:Rep K H (.bl b) (.bl b)
 | int {i:Int}:Rep K H (.int i) (.int i)
 | str {x:Str}:Rep K H (.str x) (.str x)
 | tup {a:Addr} {vs:List V} {ds:List D}:H a=some (.tup vs)→Reps K H vs ds→Rep K H (.ref a) (.tup ds)
 | lst {a:Addr} {vs:List V} {ds:List D}:SqL K H a vs→Reps K H vs ds→Rep K H (.ref a) (.lst ds)
 | dT {a:Addr} {vs:List (List Key×V)} {ds:List (List Key×D)}:H a=some (.dT vs)→RepsT K H vs ds→Rep K H (.ref a) (.dT ds)
 | dK {a:Addr} {vs:List (Key×V)} {ds:List (Key×D)}:H a=some (.dK vs)→RepsK K H vs ds→Rep K H (.ref a) (.dK ds)
 | ins {a C dx:Addr} {vs:List (Str×V)} {ds:List (Str×D)}:H a=some (.ins C dx vs)→RepsF K H vs ds→Rep K H (.ref a) (.ins C ds)
 /-- a lambda at a: what it takes from without is v -/
 | fn {a:Addr} {v:V} {d:D}:Rep K H v d→Rep K H (.ref a) (.fn a v d)
inductive Reps (K:PySem.W.Frag) (H:Hp):List V→List D→Prop
 | nil:Reps K H [] []
 | cons {v:V} {d:D} {vs:List V} {ds:List D}:Rep K H v d→Reps K H vs ds→Reps K H (v::vs) (d::ds)
inductive RepsT (K:PySem.W.Frag) (H:Hp):List (List Key×V)→List (List Key×D)→Prop
 | nil:RepsT K H [] []
 | cons {k:List Key} {v:V} {d:D} {vs:List (List Key×V)} {ds:List (List Key×D)}:Rep K H v d→RepsT K H vs ds→RepsT K H ((k,v)::vs) ((k,d)::ds)
inductive RepsK (K:PySem.W.Frag) (H:Hp):List (Key×V)→List (Key×D)→Prop
 | nil:RepsK K H [] []
 | cons {k:Key} {v:V} {d:D} {vs:List (Key×V)} {ds:List (Key×D)}:Rep K H v d→RepsK K H vs ds→RepsK K H ((k,v)::vs) ((k,d)::ds)
inductive RepsF (K:PySem.W.Frag) (H:Hp):List (Str×V)→List (Str×D)→Prop
 | nil:RepsF K H [] []
 | cons {k:Str} {v:V} {d:D} {vs:List (Str×V)} {ds:List (Str×D)}:Rep K H v d→RepsF K H vs ds→RepsF K H ((k,v)::vs) ((k,d)::ds)
end
section
variable {K:Kq} {H H':Hp}
theorem Rep.same (e:Same H H'){v:V}{d:D}(h:Rep K H v d):Rep K H' v d:=
 Rep.rec (motive_1:=fun v d _=>Rep K H' v d) (motive_2:=fun v d _=>Reps K H' v d) (motive_3:=fun v d _=>RepsT K H' v d) (motive_4:=fun v d _=>RepsK K H' v d) (motive_5:=fun v d _=>RepsF K H' v d) .non .bl .int .str (fun h _ i=>.tup (e _ _ h) i) (fun h _ i=>.lst (e.seq h) i) (fun h _ i=>.dT (e _ _ h) i) (fun h _ i=>.dK (e _ _ h) i) (fun h _ i=>.ins (e _ _ h) i) (fun _ i=>.fn i) .nil (fun _ _ a b=>.cons a b) .nil (fun _ _ a b=>.cons a b) .nil (fun _ _ a b=>.cons a b) .nil (fun _ _ a b=>.cons a b) h
theorem Reps.same (e:Same H H'){v:List V}{d:List D}(h:Reps K H v d):Reps K H' v d:=
 Reps.rec (motive_1:=fun v d _=>Rep K H' v d) (motive_2:=fun v d _=>Reps K H' v d) (motive_3:=fun v d _=>RepsT K H' v d) (motive_4:=fun v d _=>RepsK K H' v d) (motive_5:=fun v d _=>RepsF K H' v d) .non .bl .int .str (fun h _ i=>.tup (e _ _ h) i) (fun h _ i=>.lst (e.seq h) i) (fun h _ i=>.dT (e _ _ h) i) (fun h _ i=>.dK (e _ _ h) i) (fun h _ i=>.ins (e _ _ h) i) (fun _ i=>.fn i) .nil (fun _ _ a b=>.cons a b) .nil (fun _ _ a b=>.cons a b) .nil (fun _ _ a b=>.cons a b) .nil (fun _ _ a b=>.cons a b) h
theorem RepsT.same (e:Same H H'){v:List (List Key×V)}{d:List (List Key×D)}(h:RepsT K H v d):RepsT K H' v d:=
 RepsT.rec (motive_1:=fun v d _=>Rep K H' v d) (motive_2:=fun v d _=>Reps K H' v d) (motive_3:=fun v d _=>RepsT K H' v d) (motive_4:=fun v d _=>RepsK K H' v d) (motive_5:=fun v d _=>RepsF K H' v d) .non .bl .int .str (fun h _ i=>.tup (e _ _ h) i) (fun h _ i=>.lst (e.seq h) i) (fun h _ i=>.dT (e _ _ h) i) (fun h _ i=>.dK (e _ _ h) i) (fun h _ i=>.ins (e _ _ h) i) (fun _ i=>.fn i) .nil (fun _ _ a b=>.cons a b) .nil (fun _ _ a b=>.cons a b) .nil (fun _ _ a b=>.cons a b) .nil (fun _ _ a b=>.cons a b) h
theorem RepsK.same (e:Same H H'){v:List (Key×V)}{d:List (Key×D)}(h:RepsK K H v d):RepsK K H' v d:=
 RepsK.rec (motive_1:=fun v d _=>Rep K H' v d) (motive_2:=fun v d _=>Reps K H' v d) (motive_3:=fun v d _=>RepsT K H' v d) (motive_4:=fun v d _=>RepsK K H' v d) (motive_5:=fun v d _=>RepsF K H' v d) .non .bl .int .str (fun h _ i=>.tup (e _ _ h) i) (fun h _ i=>.lst (e.seq h) i) (fun h _ i=>.dT (e _ _ h) i) (fun h _ i=>.dK (e _ _ h) i) (fun h _ i=>.ins (e _ _ h) i) (fun _ i=>.fn i) .nil (fun _ _ a b=>.cons a b) .nil (fun _ _ a b=>.cons a b) .nil (fun _ _ a b=>.cons a b) .nil (fun _ _ a b=>.cons a b) h
theorem RepsF.same (e:Same H H'){v:List (Str×V)}{d:List (Str×D)}(h:RepsF K H v d):RepsF K H' v d:=
 RepsF.rec (motive_1:=fun v d _=>Rep K H' v d) (motive_2:=fun v d _=>Reps K H' v d) (motive_3:=fun v d _=>RepsT K H' v d) (motive_4:=fun v d _=>RepsK K H' v d) (motive_5:=fun v d _=>RepsF K H' v d) .non .bl .int .str (fun h _ i=>.tup (e _ _ h) i) (fun h _ i=>.lst (e.seq h) i) (fun h _ i=>.dT (e _ _ h) i) (fun h _ i=>.dK (e _ _ h) i) (fun h _ i=>.ins (e _ _ h) i) (fun _ i=>.fn i) .nil (fun _ _ a b=>.cons a b) .nil (fun _ _ a b=>.cons a b) .nil (fun _ _ a b=>.cons a b) .nil (fun _ _ a b=>.cons a b) h
end
section
variable {K:Kq} {H H':Hp}
theorem Reps.ind {M:List V→List D→Prop}(n:M [] [])(c:∀ {v:V} {d:D} {vs:List V} {ds:List D},Rep K H v d→Reps K H vs ds→M vs ds→M (v::vs) (d::ds)){vs:List V}{ds:List D}(h:Reps K H vs ds):M vs ds:=
 Reps.rec (motive_1:=fun _ _ _=>True) (motive_2:=fun vs ds _=>M vs ds) (motive_3:=fun _ _ _=>True) (motive_4:=fun _ _ _=>True) (motive_5:=fun _ _ _=>True) trivial trivial trivial trivial (fun _ _ _=>trivial) (fun _ _ _=>trivial) (fun _ _ _=>trivial) (fun _ _ _=>trivial) (fun _ _ _=>trivial) (fun _ _=>trivial) n (fun h q _ ih=>c h q ih) trivial (fun _ _ _ _=>trivial) trivial (fun _ _ _ _=>trivial) trivial (fun _ _ _ _=>trivial) h
theorem RepsT.ind {M:List (List Key×V)→List (List Key×D)→Prop}(n:M [] [])(c:∀ {k:List Key} {v:V} {d:D} {vs:List (List Key×V)} {ds:List (List Key×D)},Rep K H v d→RepsT K H vs ds→M vs ds→M ((k,v)::vs) ((k,d)::ds)){vs:List (List Key×V)}{ds:List (List Key×D)}(h:RepsT K H vs ds):M vs ds:=
 RepsT.rec (motive_1:=fun _ _ _=>True) (motive_2:=fun _ _ _=>True) (motive_3:=fun vs ds _=>M vs ds) (motive_4:=fun _ _ _=>True) (motive_5:=fun _ _ _=>True) trivial trivial trivial trivial (fun _ _ _=>trivial) (fun _ _ _=>trivial) (fun _ _ _=>trivial) (fun _ _ _=>trivial) (fun _ _ _=>trivial) (fun _ _=>trivial) trivial (fun _ _ _ _=>trivial) n (fun h q _ ih=>c h q ih) trivial (fun _ _ _ _=>trivial) trivial (fun _ _ _ _=>trivial) h
theorem RepsK.ind {M:List (Key×V)→List (Key×D)→Prop}(n:M [] [])(c:∀ {k:Key} {v:V} {d:D} {vs:List (Key×V)} {ds:List (Key×D)},Rep K H v d→RepsK K H vs ds→M vs ds→M ((k,v)::vs) ((k,d)::ds)){vs:List (Key×V)}{ds:List (Key×D)}(h:RepsK K H vs ds):M vs ds:=
 RepsK.rec (motive_1:=fun _ _ _=>True) (motive_2:=fun _ _ _=>True) (motive_3:=fun _ _ _=>True) (motive_4:=fun vs ds _=>M vs ds) (motive_5:=fun _ _ _=>True) trivial trivial trivial trivial (fun _ _ _=>trivial) (fun _ _ _=>trivial) (fun _ _ _=>trivial) (fun _ _ _=>trivial) (fun _ _ _=>trivial) (fun _ _=>trivial) trivial (fun _ _ _ _=>trivial) trivial (fun _ _ _ _=>trivial) n (fun h q _ ih=>c h q ih) trivial (fun _ _ _ _=>trivial) h
theorem RepsF.ind {M:List (Str×V)→List (Str×D)→Prop}(n:M [] [])(c:∀ {k:Str} {v:V} {d:D} {vs:List (Str×V)} {ds:List (Str×D)},Rep K H v d→RepsF K H vs ds→M vs ds→M ((k,v)::vs) ((k,d)::ds)){vs:List (Str×V)}{ds:List (Str×D)}(h:RepsF K H vs ds):M vs ds:=
 RepsF.rec (motive_1:=fun _ _ _=>True) (motive_2:=fun _ _ _=>True) (motive_3:=fun _ _ _=>True) (motive_4:=fun _ _ _=>True) (motive_5:=fun vs ds _=>M vs ds) trivial trivial trivial trivial (fun _ _ _=>trivial) (fun _ _ _=>trivial) (fun _ _ _=>trivial) (fun _ _ _=>trivial) (fun _ _ _=>trivial) (fun _ _=>trivial) trivial (fun _ _ _ _=>trivial) trivial (fun _ _ _ _=>trivial) trivial (fun _ _ _ _=>trivial) n (fun h q _ ih=>c h q ih) h
theorem Reps.length {vs:List V}{ds:List D}(h:Reps K H vs ds):vs.length=ds.length:=Reps.ind (M:=fun vs ds=>vs.length=ds.length) rfl (fun _ _ ih=>YN Nat.succ ih) h
theorem Reps.get {vs:List V}{ds:List D}{i:Nat}{d:D}(h:Reps K H vs ds):ds[i]?=some d→∃ v,vs[i]?=some v∧Rep K H v d:=
 Reps.ind (M:=fun vs ds=>∀ i:Nat,ds[i]?=some d→∃ v,vs[i]?=some v∧Rep K H v d) (fun _ e=>nomatch e) (fun r _ ih i e=>by
  cases i with
  | zero=>obtain rfl:=Yq e;exact⟨_,rfl,r⟩
  | succ i=>exact ih i e) h i
theorem Reps.getV {vs:List V}{ds:List D}{i:Nat}{v:V}(h:Reps K H vs ds):vs[i]?=some v→∃ d,ds[i]?=some d∧Rep K H v d:=
 Reps.ind (M:=fun vs ds=>∀ i:Nat,vs[i]?=some v→∃ d,ds[i]?=some d∧Rep K H v d) (fun _ e=>nomatch e) (fun r _ ih i e=>by
  cases i with
  | zero=>obtain rfl:=Yq e;exact⟨_,rfl,r⟩
  | succ i=>exact ih i e) h i
theorem Reps.append {vs ws:List V}{ds es:List D}(h:Reps K H vs ds)(s:Reps K H ws es):Reps K H (vs++ws) (ds++es):=Reps.ind (M:=fun vs ds=>Reps K H (vs++ws) (ds++es)) s (fun r _ ih=>.cons r ih) h
theorem Reps.take {vs:List V}{ds:List D}(n:Nat)(h:Reps K H vs ds):Reps K H (vs.take n) (ds.take n):=Reps.ind (M:=fun vs ds=>∀ n,Reps K H (vs.take n) (ds.take n)) (fun n=>by cases n <;> exact .nil) (fun r _ ih n=>by
  cases n with
  | zero=>exact .nil
  | succ n=>exact .cons r (ih n)) h n
theorem Reps.set {v:V}{d:D}(r:Rep K H v d){vs:List V}{ds:List D}(i:Nat)(h:Reps K H vs ds):Reps K H (vs.set i v) (ds.set i d):=Reps.ind (M:=fun vs ds=>∀ i,Reps K H (vs.set i v) (ds.set i d)) (fun _=>.nil) (fun q t ih i=>by
  cases i with
  | zero=>exact .cons r t
  | succ i=>exact .cons q (ih i)) h i
theorem Reps.eraseIdx {vs:List V}{ds:List D}(i:Nat)(h:Reps K H vs ds):Reps K H (vs.eraseIdx i) (ds.eraseIdx i):=Reps.ind (M:=fun vs ds=>∀ i,Reps K H (vs.eraseIdx i) (ds.eraseIdx i)) (fun _=>.nil) (fun q t ih i=>by
  cases i with
  | zero=>exact t
  | succ i=>exact .cons q (ih i)) h i
theorem Reps.one {v:V}{d:D}(r:Rep K H v d):Reps K H [v] [d]:=.cons r .nil
end
inductive FO where
 | d (x:D) | lst (ds:List D) | dK (kvs:List (Key×D))
def FO.dat:FO→D
 | .d x=>x
 | .lst ds=>.lst ds
 | .dK kvs=>.dK kvs
inductive OD where
 | lst (ds:List D) | lst2 (dss:List (List D)) | tup2 (dss:List (List D)) | dT (kvs:List (List Key×D)) | dK (kvs:List (Key×D)) | ins (C:Addr) (fs:List (Str×D)) | obj (C:Option Addr) (fs:List (Str×FO))
def OD.d:OD→D
 | .lst ds=>.lst ds
 | .lst2 dss=>.lst (dss.map .lst)
 | .tup2 dss=>.tup (dss.map .lst)
 | .dT kvs=>.dT kvs
 | .dK kvs=>.dK kvs
 | .ins C fs=>.ins C fs
 | .obj (some C) fs=>.ins C (fs.map fun p=>(p.1,p.2.dat))
 | .obj none fs=>.dK (fs.map fun p=>(Sum.inr p.1,p.2.dat))
def OD.flat:OD→Bool
 | .obj _ _=>false
 | .lst2 _=>false
 | .tup2 _=>false
 | _=>true
inductive All2 {α β:Type} (R:α→β→Prop):List α→List β→Prop
 | nil:All2 R [] []
 | cons {a:α} {b:β} {as:List α} {bs:List β}:R a b→All2 R as bs→All2 R (a::as) (b::bs)
theorem All2.imp {α β:Type}{R S:α→β→Prop}(f:∀ a b,R a b→S a b){as:List α}{bs:List β}(h:All2 R as bs):All2 S as bs:=by
 induction h with
 | nil=>exact .nil
 | cons h _ ih=>exact .cons (f _ _ h) ih
theorem All2.length {α β:Type}{R:α→β→Prop}{as:List α}{bs:List β}(h:All2 R as bs):as.length=bs.length:=by
 induction h with
 | nil=>rfl
 | cons _ _ ih=>exact YN Nat.succ ih
def ORep1 (K:Kq)(F:Hp):OD→HO→Prop
 | .lst ds,.lst vs=>Reps K F vs ds
 | .dT ds,.dT vs=>RepsT K F vs ds
 | .dK ds,.dK vs=>RepsK K F vs ds
 | .ins C fs,.ins C' _ vs=>C=C'∧RepsF K F vs fs
 | _,_=>False
def FRep (K:Kq)(F H:Hp)(ow:Addr→Prop):FO→V→Prop
 | .d d,v=>Rep K F v d
 | .lst ds,v=>∃ b,v=.ref b∧ow b∧∃ u,H b=some u∧ORep1 K F (.lst ds) u
 | .dK ds,v=>∃ b,v=.ref b∧ow b∧∃ u,H b=some u∧ORep1 K F (.dK ds) u
def jZ:FO→V→List Addr
 | .d _,_=>[]
 | _,.ref b=>[b]
 | _,_=>[]
def bxO:Option Addr→Addr→List (Str×V)→HO
 | some C,dx,vs=>.ins C dx vs
 | none,_,vs=>.dK (vs.map fun p=>(Sum.inr p.1,p.2))
def cX (vs:List (Str×V))(fs:List (Str×FO)):List Addr:=(vs.zip fs).flatMap fun p=>jZ p.2.2 p.1.2
def ORep (K:Kq)(F H:Hp)(ow:Addr→Prop):OD→Addr→Prop
 | .lst2 dss,a=>ow a∧∃ bs,H a=some (.lst (bs.map .ref))∧(a::bs).Nodup∧All2 (fun b ds=>ow b∧∃ u,H b=some u∧ORep1 K F (.lst ds) u) bs dss
 | .tup2 dss,a=>ow a∧∃ bs,H a=some (.tup (bs.map .ref))∧(a::bs).Nodup∧All2 (fun b ds=>ow b∧∃ u,H b=some u∧ORep1 K F (.lst ds) u) bs dss
 | .obj C fs,a=>ow a∧∃ dx vs,H a=some (bxO C dx vs)∧(a::cX vs fs).Nodup∧All2 (fun (p:Str×V) (q:Str×FO)=>p.1=q.1∧FRep K F H ow q.2 p.2) vs fs
 | o,a=>ow a∧∃ u,H a=some u∧ORep1 K F o u
theorem FRep.mono {K:Kq}{F F' H H':Hp}{ow ow':Addr→Prop}(e:Same F F')(k:∀ b u,ow b→H b=some u→H' b=some u∧ow' b)(s:∀ {o:OD} {u:HO},ORep1 K F o u→ORep1 K F' o u){o:FO}{v:V}(h:FRep K F H ow o v):FRep K F' H' ow' o v:=by
 cases o with
 | d x=>exact Rep.same e h
 | lst ds=>obtain⟨b,rfl,h1,u,h2,h3⟩:=h;exact⟨b,rfl,(k b u h1 h2).2,u,(k b u h1 h2).1,s h3⟩
 | dK ds=>obtain⟨b,rfl,h1,u,h2,h3⟩:=h;exact⟨b,rfl,(k b u h1 h2).2,u,(k b u h1 h2).1,s h3⟩
theorem ORep1.same {K:Kq}{F F':Hp}(e:Same F F'){o:OD}{u:HO}(h:ORep1 K F o u):ORep1 K F' o u:=by
 cases o <;> cases u <;> first | exact h.elim | exact Reps.same e h | exact RepsT.same e h | exact RepsK.same e h | exact⟨h.1,RepsF.same e h.2⟩
theorem ORep.flat {K:Kq}{F H:Hp}{ow:Addr→Prop}{o:OD}{a:Addr}(f:o.flat=true):ORep K F H ow o a↔ow a∧∃ u,H a=some u∧ORep1 K F o u:=by
 cases o <;> first | exact Iff.rfl | cases f
theorem ORep.mono {K:Kq}{F F' H H':Hp}{ow ow':Addr→Prop}{o:OD}{a:Addr}(e:Same F F')(k:∀ b u,ow b→H b=some u→H' b=some u∧ow' b)(h:ORep K F H ow o a):ORep K F' H' ow' o a:=by
 by_cases f:o.flat=true
 ·obtain⟨h1,u,h2,h3⟩:=(ORep.flat f).mp h
  obtain⟨k1,k2⟩:=k a u h1 h2
  exact (ORep.flat f).mpr ⟨k2,u,k1,h3.same e⟩
 ·cases o with
  | lst2 dss=>
   obtain⟨h1,bs,h2,h3,h4⟩:=h
   obtain⟨k1,k2⟩:=k a _ h1 h2
   exact⟨k2,bs,k1,h3,h4.imp fun b ds ⟨q1,u,q2,q3⟩=>by obtain⟨c1,c2⟩:=k b u q1 q2;exact⟨c2,u,c1,q3.same e⟩⟩
  | tup2 dss=>
   obtain⟨h1,bs,h2,h3,h4⟩:=h
   obtain⟨k1,k2⟩:=k a _ h1 h2
   exact⟨k2,bs,k1,h3,h4.imp fun b ds ⟨q1,u,q2,q3⟩=>by obtain⟨c1,c2⟩:=k b u q1 q2;exact⟨c2,u,c1,q3.same e⟩⟩
  | obj C fs=>
   obtain⟨h1,dx,vs,h2,h3,h4⟩:=h
   obtain⟨k1,k2⟩:=k a _ h1 h2
   exact⟨k2,dx,vs,k1,h3,h4.imp fun p q z=>⟨z.1,z.2.mono e k fun x=>x.same e⟩⟩
  | _=>exact absurd rfl f
theorem FRep.rep {K:Kq}{F H G:Hp}{ow:Addr→Prop}(e:Same F G)(k:∀ b u,ow b→H b=some u→G b=some u){o:FO}{v:V}(h:FRep K F H ow o v):Rep K G v o.dat:=by
 cases o with
 | d x=>exact Rep.same e h
 | lst ds=>obtain⟨b,rfl,h1,u,h2,h3⟩:=h;cases u with | lst vs=>exact .lst (SqL.of (k b _ h1 h2)) (Reps.same e h3) | _=>exact h3.elim
 | dK ds=>obtain⟨b,rfl,h1,u,h2,h3⟩:=h;cases u with | dK vs=>exact .dK (k b _ h1 h2) (RepsK.same e h3) | _=>exact h3.elim
theorem ORep1.rep {K:Kq}{F H:Hp}{o:OD}{u:HO}{a:Addr}(f:o.flat=true)(h:ORep1 K F o u)(hH:H a=some u)(e:Same F H):Rep K H (.ref a) o.d:=by
 cases o with
 | lst ds=>cases u with | lst vs=>exact .lst (SqL.of hH) (Reps.same e h) | _=>exact h.elim
 | dT ds=>cases u with | dT vs=>exact .dT hH (RepsT.same e h) | _=>exact h.elim
 | dK ds=>cases u with | dK vs=>exact .dK hH (RepsK.same e h) | _=>exact h.elim
 | ins C fs=>cases u with | ins C' dx vs=>(obtain⟨rfl,h⟩:=h;exact .ins hH (RepsF.same e h)) | _=>exact h.elim
 | obj _ _=>cases f
 | lst2 _=>cases f
 | tup2 _=>cases f
theorem ORep.rep {K:Kq}{F H G:Hp}{ow:Addr→Prop}{o:OD}{a:Addr}(h:ORep K F H ow o a)(e:Same F G)(k:∀ b u,ow b→H b=some u→G b=some u):Rep K G (.ref a) o.d:=by
 by_cases f:o.flat=true
 ·obtain⟨h1,u,h2,h3⟩:=(ORep.flat f).mp h
  exact h3.rep f (k a u h1 h2) e
 ·cases o with
  | lst2 dss=>
   obtain⟨h1,bs,h2,h3,h4⟩:=h
   refine .lst (SqL.of (k a _ h1 h2)) ?_
   clear h2 h1 h3 f
   induction h4 with
   | nil=>exact .nil
   | cons q r ih=>
    obtain⟨q1,u,q2,q3⟩:=q
    exact .cons (q3.rep (o:=.lst _) rfl (k _ u q1 q2) e) ih
  | tup2 dss=>
   obtain⟨h1,bs,h2,h3,h4⟩:=h
   refine .tup (k a _ h1 h2) ?_
   clear h2 h1 h3 f
   induction h4 with
   | nil=>exact .nil
   | cons q r ih=>
    obtain⟨q1,u,q2,q3⟩:=q
    exact .cons (q3.rep (o:=.lst _) rfl (k _ u q1 q2) e) ih
  | obj C fs=>
   obtain⟨h1,dx,vs,h2,h3,h4⟩:=h
   cases C with
   | some C=>
    refine .ins (k a _ h1 h2) ?_
    clear h2 h1 h3 f
    induction h4 with
    | nil=>exact .nil
    | @cons p q _ _ z r ih=>
     obtain⟨q1,q2⟩:=z
     obtain⟨x,v⟩:=p
     obtain⟨y,o⟩:=q
     cases q1
     exact .cons (q2.rep e k) ih
   | none=>
    refine .dK (k a _ h1 h2) ?_
    clear h2 h1 h3 f
    induction h4 with
    | nil=>exact .nil
    | @cons p q _ _ z r ih=>
     obtain⟨q1,q2⟩:=z
     obtain⟨x,v⟩:=p
     obtain⟨y,o⟩:=q
     cases q1
     exact .cons (q2.rep e k) ih
  | _=>exact absurd rfl f
inductive DV where
 | v (d:D) | own (o:OD) (t:Option Addr) | bor (o:OD)
abbrev DF:=List (Option DV)
abbrev cI (n:Int):DF→Option D:=fun _=>some (.int n)
@[simp] theorem Fu (n:Int)(ρ:DF):cI n ρ=some (.int n):=rfl
abbrev nA:DF→Option (List DV):=fun _=>some []
@[simp] theorem Fv (ρ:DF):nA ρ=some []:=rfl
def DVRep (K:Kq)(P F H:Hp)(ow:Addr→Prop):DV→V→Prop
 | .v d,x=>Rep K F x d
 | .own o t,x=>∃ a,x=.ref a∧ORep K F H (fun b=>F b=none∧P b=none∧ow b) o a∧∀ b,t=some b→b=a
 | .bor o,x=>∃ a,x=.ref a∧ORep K F P (fun _=>True) o a
def oH:Addr→Prop:=fun _=>True
structure DHp (P F H:Hp):Prop where
 sub:Same F H
 pro:Same P H
 dis:∀ a o,P a=some o→F a=none
structure DInv (K:PySem.W.Frag) (P F H:Hp) (ρ:DF) (σ:St):Prop extends DHp P F H where
 len:ρ.length=σ.length
 rep:∃ O:Addr→Option Nat,∀ (i:Nat) (x:DV),ρ[i]?=some (some x)→∃ v,σ[i]?=some (some v)∧DVRep K P F H (fun b=>O b=some i) x v
structure Evo (P F H F' H':Hp):Prop where
 ext:Same F F'
 hp:DHp P F' H'
 keep:∀ a o,H a=some o→F a=none→H' a=some o∧F' a=none
theorem Evo.same {P F H F' H':Hp}(h:DHp P F H)(e:Evo P F H F' H'):Same H H':=fun a o q=>by
 cases c:F a with
 | none=>exact (e.keep a o q c).1
 | some u=>
  have:=h.sub a u c
  rw[q] at this
  cases this
  exact e.hp.sub a o (e.ext a o c)
theorem DVRep.evo {K:Kq}{P F H F' H':Hp}{ow:Addr→Prop}(e:Evo P F H F' H'){x:DV}{v:V}(r:DVRep K P F H ow x v):DVRep K P F' H' ow x v:=by
 cases x with
 | v d=>exact Rep.same e.ext r
 | own o t=>
  obtain⟨a,rfl,h,ht⟩:=r
  exact⟨a,rfl,h.mono e.ext fun b u ⟨q1,q2,q3⟩ hb=>by (obtain⟨k1,k2⟩:=e.keep b u hb q1;exact⟨k1,k2,q2,q3⟩),ht⟩
 | bor o=>
  obtain⟨a,rfl,h⟩:=r
  exact⟨a,rfl,h.mono e.ext fun b u q hb=>⟨hb,q⟩⟩
theorem DVRep.imp {K:Kq}{P F H:Hp}{ow ow':Addr→Prop}(f:∀ b u,F b=none→P b=none→H b=some u→ow b→ow' b){x:DV}{v:V}(r:DVRep K P F H ow x v):DVRep K P F H ow' x v:=by
 cases x with
 | v d=>exact r
 | own o t=>
  obtain⟨a,rfl,h,ht⟩:=r
  exact⟨a,rfl,h.mono (Same.refl _) fun b u ⟨q1,q2,q3⟩ hb=>⟨hb,q1,q2,f b u q1 q2 hb q3⟩,ht⟩
 | bor o=>exact r
theorem DInv.evo {K:Kq}{P F H F' H':Hp}{ρ:DF}{σ:St}(I:DInv K P F H ρ σ)(e:Evo P F H F' H'):DInv K P F' H' ρ σ:=
 ⟨e.hp,I.len,by obtain⟨O,h⟩:=I.rep;exact⟨O,fun i x hx=>by obtain⟨v,h1,h2⟩:=h i x hx;exact⟨v,h1,h2.evo e⟩⟩⟩
theorem DInv.at {K:Kq}{P F H:Hp}{ρ:DF}{σ:St}(I:DInv K P F H ρ σ){i:Nat}{x:DV}(h:ρ[i]?=some (some x)):∃ v,σ[i]?=some (some v)∧DVRep K P F H oH x v:=by
 obtain⟨O,k⟩:=I.rep
 obtain⟨v,h1,h2⟩:=k i x h
 exact⟨v,h1,h2.imp fun _ _ _ _ _ _=>trivial⟩
theorem Evo.refl {P F H:Hp}(h:DHp P F H):Evo P F H F H:=⟨Same.refl _,h,fun _ _ a b=>⟨a,b⟩⟩
theorem Evo.trans {P F H F1 H1 F2 H2:Hp}(a:Evo P F H F1 H1)(b:Evo P F1 H1 F2 H2):Evo P F H F2 H2:=
 ⟨a.ext.trans b.ext,b.hp,fun c o h n=>by obtain⟨h1,n1⟩:=a.keep c o h n;exact b.keep c o h1 n1⟩
theorem Evo.laid {P F H:Hp}(h:DHp P F H){a:Addr}{o:HO}(hn:H a=none):Evo P F H (upd F a o) (upd H a o) where
 ext:=fun b u e=>by rw[ay (fun z=>by subst z;rw[h.sub _ _ e] at hn;cases hn)];exact e
 hp:=⟨fun b u e=>by
   by_cases hb:b=a
   ·subst hb;rw[aw] at e ⊢;exact e
   ·rw[ay hb] at e ⊢;exact h.sub b u e,
  fun b u e=>by rw[ay (fun z=>by subst z;rw[h.pro _ _ e] at hn;cases hn)];exact h.pro b u e,
  fun b u e=>by rw[ay (fun z=>by subst z;rw[h.pro _ _ e] at hn;cases hn)];exact h.dis b u e⟩
 keep:=fun b u e n=>by
  have hb:b≠a:=fun z=>by subst z;rw[e] at hn;cases hn
  rw[ay hb,ay hb];exact⟨e,n⟩
theorem Evo.side {P F H:Hp}(h:DHp P F H){a:Addr}{o:HO}(hn:H a=none):Evo P F H F (upd H a o) where
 ext:=Same.refl _
 hp:=⟨fun b u e=>by rw[ay (fun z=>by subst z;rw[h.sub _ _ e] at hn;cases hn)];exact h.sub b u e,
  fun b u e=>by rw[ay (fun z=>by subst z;rw[h.pro _ _ e] at hn;cases hn)];exact h.pro b u e,h.dis⟩
 keep:=fun b u e n=>by
  have hb:b≠a:=fun z=>by subst z;rw[e] at hn;cases hn
  rw[ay hb];exact⟨e,n⟩
theorem DHp.free {P F H:Hp}(h:DHp P F H){a:Addr}(hn:H a=none):F a=none∧P a=none:=⟨h.sub.free hn,h.pro.free hn⟩
def RepS (K:Kq)(H F:Hp)(v:V)(d:D):Prop:=
 Rep K F v d∨∃ (a:Addr) (o:OD) (u:HO),v=.ref a∧F a=none∧H a=some u∧ORep1 K F o u∧o.flat=true∧d=o.d
theorem RepS.evo {K:Kq}{P F H F' H':Hp}{v:V}{d:D}(r:RepS K H F v d)(e:Evo P F H F' H'):RepS K H' F' v d:=
 r.imp (Rep.same e.ext) fun ⟨a,o,u,h1,h2,h3,h4,h5⟩=>⟨a,o,u,h1,(e.keep a u h3 h2).2,(e.keep a u h3 h2).1,h4.same e.ext,h5⟩
theorem DInv.slot {K:Kq}{P F H:Hp}{ρ:DF}{σ:St}(I:DInv K P F H ρ σ){i:Nat}{o:OD}{v:V}(hv:σ[i]?=some (some v))(h:(∃ t,ρ[i]?=some (some (.own o t)))∨ρ[i]?=some (some (.bor o))):∃ a,v=.ref a∧ORep K F H (fun b=>F b=none) o a:=by
 rcases h with⟨t,h⟩ | h
 ·obtain⟨v',h1,a,rfl,h2,_⟩:=I.at h
  rw[hv] at h1;cases h1
  exact⟨a,rfl,h2.mono (Same.refl _) fun b u q hb=>⟨hb,q.1⟩⟩
 ·obtain⟨v',h1,a,rfl,h2⟩:=I.at h
  rw[hv] at h1;cases h1
  exact⟨a,rfl,h2.mono (Same.refl _) fun b u q hb=>⟨I.pro b u hb,I.dis b u hb⟩⟩
theorem RepS.now {K:Kq}{F H:Hp}{v:V}{d:D}(I:Same F H)(r:RepS K H F v d):Rep K H v d:=by
 rcases r with r | ⟨a,o,u,rfl,_,h3,h4,hfl,rfl⟩
 ·exact r.same I
 ·exact h4.rep hfl h3 I
theorem RepS.slot {K:Kq}{P F H:Hp}{ρ:DF}{σ:St}(I:DInv K P F H ρ σ){i:Nat}{o:OD}{v:V}(hv:σ[i]?=some (some v))(h:(∃ t,ρ[i]?=some (some (.own o t)))∨ρ[i]?=some (some (.bor o)))(hfl:o.flat=true):RepS K H F v o.d:=by
 obtain⟨a,rfl,h2⟩:=I.slot hv h
 obtain⟨h3,u,h4,h5⟩:=(ORep.flat hfl).mp h2
 exact .inr ⟨a,o,u,rfl,h3,h4,h5,hfl,rfl⟩
def tD (K:Kq)(f:DF→Option D):TE:=fun σ H Q=>∃ P F ρ d,f ρ=some d∧DInv K P F H ρ σ∧∀ v F' H',Evo P F H F' H'→Rep K F' v d→Q v H'
def tR (K:Kq)(f:DF→Option D):TE:=fun σ H Q=>∃ P F ρ d,f ρ=some d∧DInv K P F H ρ σ∧∀ v F' H',Evo P F H F' H'→RepS K H' F' v d→Q v H'
def tN (K:Kq)(f:DF→Option D):TE:=fun σ H Q=>∃ P F ρ d,f ρ=some d∧DInv K P F H ρ σ∧∀ v F' H',Evo P F H F' H'→Rep K H' v d→Q v H'
def tB' (K:Kq)(f:DF→Option Bool):TT:=fun σ H Q=>∃ P F ρ b,f ρ=some b∧DInv K P F H ρ σ∧∀ F' H',Evo P F H F' H'→Q b H'
def tL (K:Kq)(f:DF→Option (List D)):TA:=fun σ H Q=>∃ P F ρ ds,f ρ=some ds∧DInv K P F H ρ σ∧∀ vs F' H',Evo P F H F' H'→Reps K F' vs ds→Q vs H'
def PDE (X:Cx)(e:Expr)(f:DF→Option D):Prop:=PE X e (tD X.K f)
def PDR (X:Cx)(e:Expr)(f:DF→Option D):Prop:=PE X e (tR X.K f)
def PDN (X:Cx)(e:Expr)(f:DF→Option D):Prop:=PE X e (tN X.K f)
def PDT (X:Cx)(e:Expr)(f:DF→Option Bool):Prop:=PT X e (tB' X.K f)
def PDA (X:Cx)(es:List Expr)(f:DF→Option (List D)):Prop:=PA X es (tL X.K f)
section
variable {X:Cx} {e a b c:Expr} {es:List Expr} {pos:Pos}
theorem PE.imp {t t':TE}(h:PE X e t)(i:∀ σ H Q,t' σ H Q→t σ H Q):PE X e t':=fun pz s σ H Q I q=>h pz s σ H Q I (i σ H Q q)
theorem PT.imp {t t':TT}(h:PT X e t)(i:∀ σ H Q,t' σ H Q→t σ H Q):PT X e t':=fun pz s σ H Q I q=>h pz s σ H Q I (i σ H Q q)
theorem PA.imp {t t':TA}(h:PA X es t)(i:∀ σ H Q,t' σ H Q→t σ H Q):PA X es t':=fun pos pz s σ H Q I q=>h pos pz s σ H Q I (i σ H Q q)
def getV (i:Nat)(ρ:DF):Option D:=match ρ[i]? with
 | some (some (.v d))=>some d
 | _=>none
def al (i:Nat)(ρ:DF):Option D:=match ρ[i]? with
 | some (some (.v d))=>some d
 | some (some (.own o _))=>if o.flat=true then some o.d else none
 | some (some (.bor o))=>if o.flat=true then some o.d else none
 | _=>none
def ao (i:Nat)(ρ:DF):Option D:=match ρ[i]? with
 | some (some (.v d))=>some d
 | some (some (.own o _))=>some o.d
 | some (some (.bor o))=>some o.d
 | _=>none
theorem yN {i:Nat}{ρ:DF}{d:D}(h:getV i ρ=some d):ρ[i]?=some (some (.v d)):=by
 unfold getV at h
 split at h
 ·rename_i q;cases h;exact q
 ·cases h
theorem A9 (i:Nat)(h:PE X e (ce i)):PDE X e (getV i):=h.imp fun σ H Q=>un7 fun P F ρ d hf I k=>by
 obtain⟨v,h1,h2⟩:=I.at (yN hf)
 exact⟨v,h1,k v F H (Evo.refl I.toDHp) h2⟩
theorem AH (i:Nat)(h:PE X e (ce i)):PDR X e (al i):=h.imp fun σ H Q=>un7 fun P F ρ d hf I k=>by
 unfold al at hf
 split at hf
 ·rename_i d' q
  cases hf
  obtain⟨v,h1,h2⟩:=I.at q
  exact⟨v,h1,k v F H (Evo.refl I.toDHp) (.inl h2)⟩
 ·rename_i o t q
  split at hf
  ·rename_i hfl
   cases hf
   obtain⟨v,h1,h2⟩:=I.at q
   exact⟨v,h1,k v F H (Evo.refl I.toDHp) (RepS.slot I h1 (.inl ⟨t,q⟩) hfl)⟩
  ·cases hf
 ·rename_i o q
  split at hf
  ·rename_i hfl
   cases hf
   obtain⟨v,h1,h2⟩:=I.at q
   exact⟨v,h1,k v F H (Evo.refl I.toDHp) (RepS.slot I h1 (.inr q) hfl)⟩
  ·cases hf
 ·cases hf
theorem Bb (i:Nat)(h:PE X e (ce i)):PDN X e (ao i):=h.imp fun σ H Q=>un7 fun P F ρ d hf I k=>by
 unfold ao at hf
 split at hf
 ·rename_i d' q
  cases hf
  obtain⟨v,h1,h2⟩:=I.at q
  exact⟨v,h1,k v F H (Evo.refl I.toDHp) (Rep.same I.sub h2)⟩
 ·rename_i o t q
  cases hf
  obtain⟨v,h1,_⟩:=I.at q
  obtain⟨a,rfl,h2⟩:=I.slot h1 (.inl ⟨t,q⟩)
  exact⟨_,h1,k _ F H (Evo.refl I.toDHp) (h2.rep I.sub fun _ _ _ q=>q)⟩
 ·rename_i o q
  cases hf
  obtain⟨v,h1,_⟩:=I.at q
  obtain⟨a,rfl,h2⟩:=I.slot h1 (.inr q)
  exact⟨_,h1,k _ F H (Evo.refl I.toDHp) (h2.rep I.sub fun _ _ _ q=>q)⟩
 ·cases hf
theorem PDE.r {f:DF→Option D}(h:PDE X e f):PDR X e f:=PE.imp h fun σ H Q=>un7 fun P F ρ d hf I k=>⟨P,F,ρ,d,hf,I,fun v F' H' ev r=>k v F' H' ev (.inl r)⟩
theorem PDR.n {f:DF→Option D}(h:PDR X e f):PDN X e f:=PE.imp h fun σ H Q=>un7 fun P F ρ d hf I k=>⟨P,F,ρ,d,hf,I,fun v F' H' ev r=>k v F' H' ev (r.now ev.hp.sub)⟩
theorem PDE.n {f:DF→Option D}(h:PDE X e f):PDN X e f:=h.r.n
theorem qC {d:D}{v:V}(h:PE X e (tC v))(r:∀ F,Rep X.K F v d):PDE X e (fun _=>some d):=h.imp fun σ H Q=>un7 fun P F ρ d' hf I k=>by
 cases hf
 exact k v F H (Evo.refl I.toDHp) (r F)
theorem af {i j p}:PDE X (.Constant (.int i) j p) (fun _=>some (.int i)):=qC vW fun _=>.int
theorem kQ {i j p}:PDE X (.Constant (.bool i) j p) (fun _=>some (.bl i)):=qC CL fun _=>.bl
theorem aN {i j p}:PDE X (.Constant (.str i) j p) (fun _=>some (.str i)):=qC cU fun _=>.str
def OpN2 (K:Kq)(r:R2)(f:D→D→Option D):Prop:=
 ∀ (P F H:Hp) (x y:V) (dx dy d:D) (Q:VK),f dx dy=some d→DHp P F H→Rep K H x dx→Rep K H y dy→(∀ v F' H',Evo P F H F' H'→Rep K F' v d→Q v H')→r x y H Q
def d2 (f:D→D→Option D)(fa fb:DF→Option D):DF→Option D:=fun ρ=>(fa ρ).bind fun x=>(fb ρ).bind fun y=>f x y
theorem pk {K:Kq}{r:R2}{f:D→D→Option D}{fa fb:DF→Option D}(ho:OpN2 K r f):∀ σ H Q,tD K (d2 f fa fb) σ H Q→tOp r (tN K fa) (tN K fb) σ H Q:=fun σ H Q=>un7 fun P F ρ d hf I k=>by
 unfold d2 at hf
 cases ha:fa ρ with
 | none=>rw[ha] at hf;cases hf
 | some dx=>
  rw[ha] at hf
  cases hb:fb ρ with
  | none=>rw[Ya,hb] at hf;cases hf
  | some dy=>
   rw[Ya,hb,Ya] at hf
   refine⟨P,F,ρ,dx,ha,I,fun x F1 H1 e1 rx=>⟨P,F1,ρ,dy,hb,I.evo e1,fun y F2 H2 e2 ry=>?_⟩⟩
   exact ho P F2 H2 x y dx dy d Q hf e2.hp (rx.same (e2.same e1.hp)) ry fun v F3 H3 e3 rv=>k v F3 H3 ((e1.trans e2).trans e3) rv
theorem v3 {op:CmpOp}{r:R2}{f:D→D→Option D}{fa fb:DF→Option D}(ho:OpR X (compareOp op) r)(hf:OpN2 X.K r f)(ha:PDN X a fa)(hb:PDN X b fb)(hm:behindInMarks op b=false):PDE X (.Compare a [op] [b] pos) (d2 f fa fb):=
 (qQ ho ha hb hm).imp (pk hf)
def je (K:Kq)(r:R2)(f:D→D→Option D):Prop:=
 ∀ (P F H:Hp) (ρ:DF) (σ:St) (x y:V) (dx dy d:D) (Q:VK),f dx dy=some d→DInv K P F H ρ σ→RepS K H F x dx→RepS K H F y dy→(∀ v F' H',Evo P F H F' H'→Rep K F' v d→Q v H')→r x y H Q
theorem mG {K:Kq}{r:R2}{f:D→D→Option D}{fa fb:DF→Option D}(ho:je K r f):∀ σ H Q,tD K (d2 f fa fb) σ H Q→tOp r (tR K fa) (tR K fb) σ H Q:=fun σ H Q=>un7 fun P F ρ d hf I k=>by
 unfold d2 at hf
 cases ha:fa ρ with
 | none=>rw[ha] at hf;cases hf
 | some dx=>
  rw[ha] at hf
  cases hb:fb ρ with
  | none=>rw[Ya,hb] at hf;cases hf
  | some dy=>
   rw[Ya,hb,Ya] at hf
   refine⟨P,F,ρ,dx,ha,I,fun x F1 H1 e1 rx=>⟨P,F1,ρ,dy,hb,I.evo e1,fun y F2 H2 e2 ry=>?_⟩⟩
   exact ho P F2 H2 ρ σ x y dx dy d Q hf ((I.evo e1).evo e2) (rx.evo e2) ry fun v F3 H3 e3 rv=>k v F3 H3 ((e1.trans e2).trans e3) rv
theorem fY {op:Operator}{r:R2}{f:D→D→Option D}{fa fb:DF→Option D}(ho:OpR X (binaryOp op) r)(hf:je X.K r f)(ha:PDR X a fa)(hb:PDR X b fb):PDE X (.BinOp a op b pos) (d2 f fa fb):=
 (ze ho ha hb).imp (mG hf)
theorem Az {op:CmpOp}{r:R2}{f:D→D→Option D}{fa fb:DF→Option D}(ho:OpR X (compareOp op) r)(hf:je X.K r f)(ha:PDR X a fa)(hb:PDR X b fb)(hm:behindInMarks op b=false):PDE X (.Compare a [op] [b] pos) (d2 f fa fb):=
 (qQ ho ha hb hm).imp (mG hf)
def asB (f:DF→Option D):DF→Option Bool:=fun ρ=>match f ρ with
 | some (.bl b)=>some b
 | _=>none
theorem ll {f:DF→Option D}{ρ:DF}{b:Bool}(h:asB f ρ=some b):f ρ=some (.bl b):=by
 unfold asB at h
 split at h
 ·rename_i q;cases h;exact q
 ·cases h
theorem gr {K:Kq}{t:TE}{f:DF→Option D}(h:∀ σ H Q,tD K f σ H Q→t σ H Q):∀ σ H Q,tB' K (asB f) σ H Q→ww t σ H Q:=fun σ H Q=>un7 fun P F ρ b hf I k=>by
 refine h σ H _ ⟨P,F,ρ,.bl b,ll hf,I,fun v F' H' ev r=>?_⟩
 cases r
 exact⟨b,rfl,k F' H' ev⟩
theorem yp {op:CmpOp}{r:R2}{f:D→D→Option D}{fa fb:DF→Option D}(ho:OpR X (compareOp op) r)(hf:je X.K r f)(ha:PDR X a fa)(hb:PDR X b fb)(hm:behindInMarks op b=false):PDT X (.Compare a [op] [b] pos) (asB (d2 f fa fb)):=
 (mK ho ha hb hm).imp (gr (mG hf))
theorem iT {op:CmpOp}{r:R2}{f:D→D→Option D}{fa fb:DF→Option D}(ho:OpR X (compareOp op) r)(hf:OpN2 X.K r f)(ha:PDN X a fa)(hb:PDN X b fb)(hm:behindInMarks op b=false):PDT X (.Compare a [op] [b] pos) (asB (d2 f fa fb)):=
 (mK ho ha hb hm).imp (gr (pk hf))
theorem b8 {f:DF→Option D}(h:PDE X e f)(he:∀ whole,isTrue e X.env whole=(do let v ← whole;standAt e.pos;holding [v] (truthy v)):=by intro _;rfl):PDT X e (asB f):=
 (Af h he).imp (gr (t:=tD X.K f) fun _ _ _ q=>q)
theorem cR {K:Kq}{H F:Hp}{x:V}{i:Int}(r:RepS K H F x (.int i)):x=.int i:=by
 rcases r with r | ⟨_,o,_,_,_,_,_,_,z⟩
 ·cases r;rfl
 ·cases o <;> first | (cases z;done) | (rename_i C _;cases C <;> cases z)
theorem gi {K:Kq}{H F:Hp}{x:V}{i:Str}(r:RepS K H F x (.str i)):x=.str i:=by
 rcases r with r | ⟨_,o,_,_,_,_,_,_,z⟩
 ·cases r;rfl
 ·cases o <;> first | (cases z;done) | (rename_i C _;cases C <;> cases z)
theorem eF {K:Kq}{P F H:Hp}{ρ:DF}{σ:St}{x:V}{ds:List D}(I:DInv K P F H ρ σ)(r:RepS K H F x (.lst ds)):∃ a vs,x=.ref a∧SqL K H a vs∧Reps K F vs ds:=by
 rcases r with r | ⟨a,o,u,rfl,_,h3,h4,hfl,z⟩
 ·cases r with | lst h q=>exact⟨_,_,rfl,I.sub.seq h,q⟩
 ·cases o with
  | lst ds'=>
   cases z
   cases u with
   | lst vs=>exact⟨a,vs,rfl,SqL.of h3,h4⟩
   | _=>exact h4.elim
  | obj _ _=>cases hfl
  | lst2 _=>cases hfl
  | tup2 _=>cases hfl
  | _=>cases z
theorem gY {K:Kq}{P F H:Hp}{ρ:DF}{σ:St}{x:V}{ds:List D}(I:DInv K P F H ρ σ)(r:RepS K H F x (.tup ds)):∃ a vs,x=.ref a∧SqT K H a vs∧Reps K F vs ds:=by
 rcases r with r | ⟨a,o,u,rfl,_,h3,h4,hfl,z⟩
 ·cases r with | tup h q=>exact⟨_,_,rfl,SqT.of (I.sub _ _ h),q⟩
 ·cases o <;> first | (cases z;done) | cases hfl
theorem v6 {K:Kq}{P F H:Hp}{ρ:DF}{σ:St}{x:V}{ds:List (List Key×D)}(I:DInv K P F H ρ σ)(r:RepS K H F x (.dT ds)):∃ a vs,x=.ref a∧H a=some (.dT vs)∧RepsT K F vs ds:=by
 rcases r with r | ⟨a,o,u,rfl,_,h3,h4,hfl,z⟩
 ·cases r with | dT h q=>exact⟨_,_,rfl,I.sub _ _ h,q⟩
 ·cases o with
  | dT ds'=>
   cases z
   cases u with
   | dT vs=>exact⟨a,vs,rfl,h3,h4⟩
   | _=>exact h4.elim
  | obj _ _=>cases hfl
  | lst2 _=>cases hfl
  | tup2 _=>cases hfl
  | _=>cases z
theorem mf {K:Kq}{P F H:Hp}{ρ:DF}{σ:St}{x:V}{C:Addr}{fs:List (Str×D)}(I:DInv K P F H ρ σ)(r:RepS K H F x (.ins C fs)):∃ a dx vs,x=.ref a∧H a=some (.ins C dx vs)∧RepsF K F vs fs:=by
 rcases r with r | ⟨a,o,u,rfl,_,h3,h4,hfl,z⟩
 ·cases r with | ins h q=>exact⟨_,_,_,rfl,I.sub _ _ h,q⟩
 ·cases o with
  | ins C' fs'=>
   cases z
   cases u with
   | ins C'' dx vs=>(obtain⟨rfl,h4⟩:=h4;exact⟨a,dx,vs,rfl,h3,h4⟩)
   | _=>exact h4.elim
  | obj _ _=>cases hfl
  | lst2 _=>cases hfl
  | tup2 _=>cases hfl
  | _=>cases z
def fI (C:Int→Int→Bool)(g:Int→Int→D):D→D→Option D
 | .int i,.int j=>if C i j=true then some (g i j) else none
 | _,_=>none
theorem jP {K:Kq}{C:Int→Int→Prop}{C':Int→Int→Bool}{g:Int→Int→V}{g':Int→Int→D}(hC:∀ i j,C' i j=true→C i j)(hg:∀ F i j,Rep K F (g i j) (g' i j)):je K (rI C g) (fI C' g'):=by
 intro P F H ρ σ x y dx dy d Q hf I rx ry k
 unfold fI at hf
 split at hf
 ·rename_i i j
  split at hf
  ·rename_i hc
   cases hf
   exact⟨i,j,cR rx,cR ry,hC i j hc,k _ F H (Evo.refl I.toDHp) (hg F i j)⟩
  ·cases hf
 ·cases hf
def fI0 (g:Int→Int→D):D→D→Option D
 | .int i,.int j=>some (g i j)
 | _,_=>none
theorem mq {K:Kq}{g:Int→Int→V}{g':Int→Int→D}(hg:∀ F i j,Rep K F (g i j) (g' i j)):je K (rI0 g) (fI0 g'):=by
 intro P F H ρ σ x y dx dy d Q hf I rx ry k
 unfold fI0 at hf
 split at hf
 ·rename_i i j
  cases hf
  exact⟨i,j,cR rx,cR ry,k _ F H (Evo.refl I.toDHp) (hg F i j)⟩
 ·cases hf
def gB:=fI0 fun i j=>.int (i-j)
def dm:=fI (fun i j=>decide ((-(2 ^ 64)<i∧i<2 ^ 64)∨(-(2 ^ 64)<j∧j<2 ^ 64))) fun i j=>.int (i*j)
def bH:=fI (fun _ j=>decide (0<j∧j<1073741824)) fun i j=>.int (i/j)
def aR:=fI (fun _ j=>decide (0<j)) fun i j=>.int (i%j)
def jY:=fI (fun i j=>decide (0≤j∧j≤1000000∧i.natAbs<2 ^ 64)) fun i j=>.int (i ^ j.toNat)
def ltI:=fI0 fun i j=>.bl (decide (i<j))
def leI:=fI0 fun i j=>.bl (decide (i≤j))
def gtI:=fI0 fun i j=>.bl (decide (j<i))
theorem im {fa fb:DF→Option D}(ha:PDR X a fa)(hb:PDR X b fb):PDE X (.BinOp a .Sub b pos) (d2 gB fa fb):=fY Ab (mq fun _ _ _=>.int) ha hb
theorem eM {fa fb:DF→Option D}(ha:PDR X a fa)(hb:PDR X b fb):PDE X (.BinOp a .Mult b pos) (d2 dm fa fb):=fY BH (jP (fun _ _ h=>by have q:=YS h;exact q) fun _ _ _=>.int) ha hb
theorem cV {fa fb:DF→Option D}(ha:PDR X a fa)(hb:PDR X b fb):PDE X (.BinOp a .FloorDiv b pos) (d2 bH fa fb):=fY wJ (jP (fun _ _ h=>by have q:=YS h;exact q) fun _ _ _=>.int) ha hb
theorem bR {fa fb:DF→Option D}(ha:PDR X a fa)(hb:PDR X b fb):PDE X (.BinOp a .Mod b pos) (d2 aR fa fb):=fY vJ (jP (fun _ _ h=>by have q:=YS h;exact q) fun _ _ _=>.int) ha hb
theorem mR {fa fb:DF→Option D}(ha:PDR X a fa)(hb:PDR X b fb):PDE X (.BinOp a .Pow b pos) (d2 jY fa fb):=fY As (jP (fun _ _ h=>by have q:=YS h;exact q) fun _ _ _=>.int) ha hb
end
def tO (K:Kq)(f:DF→Option OD):TE:=fun σ H Q=>∃ P F ρ o,f ρ=some o∧DInv K P F H ρ σ ∧
 ∀ a F' H',Evo P F H F' H'→ORep K F' H' (fun b=>H b=none∧F' b=none) o a→Q (.ref a) H'
def PDO (X:Cx)(e:Expr)(f:DF→Option OD):Prop:=PE X e (tO X.K f)
def asO (f:DF→Option OD):DF→Option D:=fun ρ=>(f ρ).map OD.d
theorem Evo.back {P F H F' H':Hp}(h:DHp P F H)(e:Evo P F H F' H'){a:Addr}(n:H' a=none):H a=none:=by
 cases q:H a with
 | none=>rfl
 | some o=>rw[e.same h a o q] at n;cases n
open Classical in
noncomputable def tY (F H:Hp)(ow:Addr→Prop):Hp:=fun b=>if ow b then H b else F b
theorem dZ {F H:Hp}{ow:Addr→Prop}{b:Addr}(h:ow b):tY F H ow b=H b:=Yh h
theorem eE {F H:Hp}{ow:Addr→Prop}{b:Addr}(h:¬ ow b):tY F H ow b=F b:=Yr h
theorem cz {F H:Hp}{ow:Addr→Prop}(h:∀ b,ow b→F b=none):Same F (tY F H ow):=fun b u e=>by
 by_cases q:ow b
 ·rw[h b q] at e;cases e
 ·rw[eE q];exact e
theorem Evo.freeze {P F H F' H':Hp}(h0:DHp P F H)(e:Evo P F H F' H')(ow:Addr→Prop)(hn:∀ b,ow b→H b=none∧F' b=none):Evo P F H (tY F' H' ow) H' where
 ext:=e.ext.trans (cz fun b q=>(hn b q).2)
 hp:=⟨fun b u h=>by
   by_cases q:ow b
   ·rw[dZ q] at h;exact h
   ·rw[eE q] at h;exact e.hp.sub b u h,e.hp.pro,fun b u h=>by
   rw[eE fun q=>by rw[(h0.pro.free (hn b q).1)] at h;cases h];exact e.hp.dis b u h⟩
 keep:=fun b u h n=>by
  obtain⟨k1,k2⟩:=e.keep b u h n
  refine⟨k1,?_⟩
  rw[eE fun q=>by rw[(hn b q).1] at h;cases h]
  exact k2
theorem de {F:Hp}{a:Addr}{o:HO}(h:F a=none):Same F (upd F a o):=fun b u e=>by rw[ay (bb e h)];exact e
section
variable {X:Cx} {e:Expr} {es:List Expr} {st:Stmt} {sts aE:List Stmt} {pos:Pos}
theorem PDO.v {f:DF→Option OD}(h:PDO X e f):PDE X e (asO f):=PE.imp h fun σ H Q=>un7 fun P F ρ d hf I k=>by
 unfold asO at hf
 cases q:f ρ with
 | none=>rw[q] at hf;cases hf
 | some o=>
  rw[q] at hf
  cases hf
  refine⟨P,F,ρ,o,q,I,fun a F' H' ev ho=>?_⟩
  have hn:∀ b,(H b=none∧F' b=none)→H b=none∧F' b=none:=fun _ q=>q
  exact k (.ref a) _ H' (ev.freeze I.toDHp (fun b=>H b=none∧F' b=none) hn) (ho.rep (cz fun b q=>q.2) fun b u q hb=>by rw[dZ q];exact hb)
def asL (f:DF→Option (List D)):DF→Option OD:=fun ρ=>(f ρ).map .lst
inductive RES where
 | nx (ρ:DF) | rt (x:DV) (ρ:DF) | bk (ρ:DF) | ct (ρ:DF)
abbrev Dd:=DF→Option D
abbrev Dw:=DF→Option RES
abbrev Dk:=DF→Option Bool
abbrev Dv:=DF→Option (List DV)
abbrev Dl:=DF→Option (List D)
abbrev Dm:=List DV→Option DV
abbrev Dq:=D→DF→Option DF
abbrev Do:=DF→Option OD
abbrev Dz:=OD→List DV→Option (OD×D)
abbrev Dy:=D→D→Option D
def EndsD (K:Kq)(P F:Hp)(E:Ends):RES→Prop
 | .nx ρ=>∀ σ F' H',Same F F'→DInv K P F' H' ρ σ→E.nx σ H'
 | .bk ρ=>∀ σ F' H',Same F F'→DInv K P F' H' ρ σ→E.bk σ H'
 | .ct ρ=>∀ σ F' H',Same F F'→DInv K P F' H' ρ σ→E.ct σ H'
 | .rt x ρ=>∀ v σ F' H',Same F F'→DInv K P F' H' ρ σ→DVRep K P F' H' oH x v→E.rt v H'
theorem EndsD.ext {K:Kq}{P F F1:Hp}{E:Ends}{r:RES}(h:EndsD K P F E r)(e:Same F F1):EndsD K P F1 E r:=by
 cases r with
 | nx ρ=>exact fun σ F' H' e' I=>h σ F' H' (e.trans e') I
 | bk ρ=>exact fun σ F' H' e' I=>h σ F' H' (e.trans e') I
 | ct ρ=>exact fun σ F' H' e' I=>h σ F' H' (e.trans e') I
 | rt x ρ=>exact fun v σ F' H' e' I r=>h v σ F' H' (e.trans e') I r
def tS (K:Kq)(g:Dw):TS:=fun E σ H=>∃ P F ρ r,g ρ=some r∧DInv K P F H ρ σ∧EndsD K P F E r
def PD1 (X:Cx)(st:Stmt)(g:Dw):Prop:=PS X st (tS X.K g)
def PDS (X:Cx)(sts:List Stmt)(g:Dw):Prop:=PSs X sts (tS X.K g)
theorem PS.imp {t t':TS}(h:PS X st t)(i:∀ E σ H,t' E σ H→t E σ H):PS X st t':=fun pz s σ H E I q=>h pz s σ H E I (i E σ H q)
theorem PSs.imp {t t':TS}(h:PSs X sts t)(i:∀ E σ H,t' E σ H→t E σ H):PSs X sts t':=fun pz s σ H E I q=>h pz s σ H E I (i E σ H q)
def dNx:DF→Option RES:=fun ρ=>some (.nx ρ)
theorem DP {K:Kq}:∀ E σ H,tS K dNx E σ H→E.nx σ H:=fun E σ H=>un7 fun P F ρ r hg I k=>by
 cases hg
 exact k σ F H (Same.refl _) I
theorem aD:PDS X [] dNx:=PSs.imp yh DP
def ai (g h:Dw):DF→Option RES:=fun ρ=>match g ρ with
 | some (.nx ρ')=>h ρ'
 | r=>r
theorem ac {g h:Dw}(h1:PD1 X st g)(h2:PDS X aE h):PDS X (st::aE) (ai g h):=PSs.imp (t5 h1 h2) fun E σ H=>un7 fun P F ρ r hg I k=>by
 unfold ai at hg
 split at hg
 ·rename_i ρ' q
  exact⟨P,F,ρ,_,q,I,fun σ' F' H' e I'=>⟨P,F',ρ',r,hg,I',k.ext e⟩⟩
 ·rename_i q
  refine⟨P,F,ρ,r,hg,I,?_⟩
  cases r with
  | nx ρ'=>exact absurd hg (q ρ')
  | bk ρ=>exact k
  | ct ρ=>exact k
  | rt x ρ=>exact k
theorem ah {g:Dw}(h1:PD1 X st g):PDS X [st] g:=PSs.imp (yX h1) fun _ _ _ q=>q
def bL (f:Dd):DF→Option RES:=fun ρ=>(f ρ).map fun d=>.rt (.v d) ρ
theorem aU {f:Dd}(h:PDE X e f):PD1 X (.Return (some e) pos) (bL f):=PS.imp (mQ h) fun E σ H=>un7 fun P F ρ r hg I k=>by
 unfold bL at hg
 cases q:f ρ with
 | none=>rw[q] at hg;cases hg
 | some d=>
  rw[q] at hg
  cases hg
  exact⟨P,F,ρ,d,q,I,fun v F' H' ev rv=>k v σ F' H' ev.ext (I.evo ev) rv⟩
def iE (f:Do):DF→Option RES:=fun ρ=>(f ρ).map fun o=>.rt (.own o none) ρ
theorem lZ {f:Do}(h:PDO X e f):PD1 X (.Return (some e) pos) (iE f):=PS.imp (mQ h) fun E σ H=>un7 fun P F ρ r hg I k=>by
 unfold iE at hg
 cases q:f ρ with
 | none=>rw[q] at hg;cases hg
 | some o=>
  rw[q] at hg
  cases hg
  exact⟨P,F,ρ,o,q,I,fun a F' H' ev ho=>k (.ref a) σ F' H' ev.ext (I.evo ev) ⟨a,rfl,ho.mono (Same.refl _) fun b u q hb=>⟨hb,q.2,I.pro.free q.1,trivial⟩,fun _ z=>nomatch z⟩⟩
def nY (i:Nat):DF→Option RES:=fun ρ=>match ρ[i]? with
 | some (some x)=>some (.rt x ρ)
 | _=>none
theorem qp (i:Nat)(h:PE X e (ce i)):PD1 X (.Return (some e) pos) (nY i):=PS.imp (mQ h) fun E σ H=>un7 fun P F ρ r hg I k=>by
 unfold nY at hg
 split at hg
 ·rename_i x q
  cases hg
  obtain⟨v,h1,h2⟩:=I.at q
  exact⟨v,h1,k v σ F H (Same.refl _) I h2⟩
 ·cases hg
theorem dN {α:Type}{l:List α}{i j:Nat}{x y:α}(h:(l.set i x)[j]?=some y):(i=j∧y=x∧i<l.length)∨(i≠j∧l[j]?=some y):=by
 by_cases hj:i=j
 ·subst hj
  have hl:i<l.length:=by have:=(YM.mp h).1;rwa [YZ] at this
  rw[ZC hl] at h
  exact .inl ⟨rfl,(Yq h).symm,hl⟩
 ·rw[Zi hj] at h
  exact .inr ⟨hj,h⟩
theorem DInv.setO {K:Kq}{P F H:Hp}{ρ:DF}{σ:St}(I:DInv K P F H ρ σ)(i:Nat){v:V}{x:DV}(nw:Addr→Prop)(hn:∀ (j:Nat) (y:DV) (w:V) (O:Addr→Option Nat),j≠i→ρ[j]?=some (some y)→DVRep K P F H (fun b=>O b=some j) y w→DVRep K P F H (fun b=>O b=some j∧¬ nw b) y w)(r:DVRep K P F H nw x v) :
  DInv K P F H (ρ.set i (some x)) (σ.set i (some v)):=by
 obtain⟨O,h⟩:=I.rep
 refine⟨I.toDHp,by rw[YZ,YZ];exact I.len,?_⟩
 classical
 refine⟨fun b=>if nw b then some i else if O b=some i then none else O b,fun j y hj=>?_⟩
 rcases dN hj with⟨rfl,e,hl⟩ | ⟨hij,hj'⟩
 ·cases e
  refine⟨v,by rw[ZC (by rw[← I.len];exact hl)],r.imp fun b u _ _ _ q=>Yh q⟩
 ·obtain⟨w,h1,h2⟩:=h j y hj'
  refine⟨w,by rw[Zi hij];exact h1,(hn j y w O (XJ hij) hj' h2).imp fun b u _ _ _ q=>?_⟩
  show (if nw b then some i else if O b=some i then none else O b)=some j
  rw[Yr q.2,Yr (by rw[q.1];intro z;exact hij (Yq z).symm),q.1]
theorem DInv.setV {K:Kq}{P F H:Hp}{ρ:DF}{σ:St}(I:DInv K P F H ρ σ)(i:Nat){v:V}{d:D}(r:Rep K F v d):DInv K P F H (ρ.set i (some (.v d))) (σ.set i (some v)):=
 I.setO i (fun _=>False) (fun j y w O _ _ q=>q.imp fun b u _ _ _ z=>⟨z,id⟩) r
theorem DInv.setN {K:Kq}{P F H F' H':Hp}{ρ:DF}{σ:St}(I:DInv K P F H ρ σ)(ev:Evo P F H F' H')(i:Nat){a:Addr}{o:OD}(ho:ORep K F' H' (fun b=>H b=none∧F' b=none) o a):DInv K P F' H' (ρ.set i (some (.own o none))) (σ.set i (some (.ref a))):=by
 obtain⟨O,h⟩:=I.rep
 refine⟨ev.hp,by rw[YZ,YZ];exact I.len,?_⟩
 classical
 refine⟨fun b=>if H b=none then some i else if O b=some i then none else O b,fun j y hj=>?_⟩
 rcases dN hj with⟨rfl,e,hl⟩ | ⟨hij,hj'⟩
 ·cases e
  refine⟨.ref a,by rw[ZC (by rw[← I.len];exact hl)],a,rfl,ho.mono (Same.refl _) fun b u q hb=>⟨hb,q.2,I.pro.free q.1,Yh q.1⟩,fun _ z=>nomatch z⟩
 ·obtain⟨w,h1,h2⟩:=h j y hj'
  refine⟨w,by rw[Zi hij];exact h1,?_⟩
  have h3:DVRep K P F H (fun b=>(if H b=none then some i else if O b=some i then none else O b)=some j) y w:=h2.imp fun b u _ _ hb q=>by
   show (if H b=none then some i else if O b=some i then none else O b)=some j
   rw[Yr (by rw[hb];simp),Yr (by rw[q];intro z;exact hij (Yq z).symm),q]
  exact h3.evo ev
def setV (i:Nat)(d:D)(ρ:DF):Option DF:=some (ρ.set i (some (.v d)))
def aZ (i:Nat)(f:Dd):DF→Option RES:=fun ρ=>(f ρ).map fun d=>.nx (ρ.set i (some (.v d)))
theorem BM {K:Kq}{i:Nat}{f:Dd}:∀ E σ H,tS K (aZ i f) E σ H→xV (tD K f) (kb i) E σ H:=fun E σ H=>un7 fun P F ρ r hg I k=>by
 unfold aZ at hg
 cases q:f ρ with
 | none=>rw[q] at hg;cases hg
 | some d=>
  rw[q] at hg
  cases hg
  exact⟨P,F,ρ,d,q,I,fun v F' H' ev rv=>k _ F' H' ev.ext ((I.evo ev).setV i rv)⟩
theorem Bx {i:Nat}{x:Str}{pos':Pos}{f:Dd}(hN:X.N.Nodup)(hi:X.N[i]?=some x)(hx:Loc X.env.scope x)(he:PDE X e f)(hs:swapsWith e (some (.Name x pos')) pos.line X.env=pure false:=by rfl)(hf:X.fn x=true∨X.env.scope.names.lookup x=some .local:=by first | exact .inl rfl | exact .inr rfl | assumption) :
  PD1 X (.Assign [.Name x pos'] e pos) (aZ i f):=PS.imp (oX hN hi hx he hs hf) BM
def dg (i:Nat)(f:Do):DF→Option RES:=fun ρ=>(f ρ).map fun o=>.nx (ρ.set i (some (.own o none)))
theorem BV {K:Kq}{i:Nat}{f:Do}:∀ E σ H,tS K (dg i f) E σ H→xV (tO K f) (kb i) E σ H:=fun E σ H=>un7 fun P F ρ r hg I k=>by
 unfold dg at hg
 cases q:f ρ with
 | none=>rw[q] at hg;cases hg
 | some o=>
  rw[q] at hg
  cases hg
  exact⟨P,F,ρ,o,q,I,fun a F' H' ev ho=>k _ F' H' ev.ext (I.setN ev i ho)⟩
theorem p7 {i:Nat}{x:Str}{pos':Pos}{f:Do}(hN:X.N.Nodup)(hi:X.N[i]?=some x)(hx:Loc X.env.scope x)(he:PDO X e f)(hs:swapsWith e (some (.Name x pos')) pos.line X.env=pure false:=by rfl)(hf:X.fn x=true∨X.env.scope.names.lookup x=some .local:=by first | exact .inl rfl | exact .inr rfl | assumption) :
  PD1 X (.Assign [.Name x pos'] e pos) (dg i f):=PS.imp (oX hN hi hx he hs hf) BV
def mX (i:Nat)(g:Dw):DF→Option RES:=fun ρ=>match ρ[i]? with
 | some (some (.own o none))=>g (ρ.set i (some (.v o.d)))
 | some (some (.v d))=>g ρ
 | _=>none
theorem DInv.frz {K:Kq}{P F H:Hp}{ρ:DF}{σ:St}(I:DInv K P F H ρ σ){i:Nat}{o:OD}{t:Option Addr}(h:ρ[i]?=some (some (.own o t))):∃ F',Same F F'∧DInv K P F' H (ρ.set i (some (.v o.d))) σ:=by
 obtain⟨O,hr⟩:=I.rep
 have hn:∀ b,(F b=none∧P b=none∧O b=some i)→F b=none:=fun b q=>q.1
 refine⟨tY F H (fun b=>F b=none∧P b=none∧O b=some i),cz hn,⟨fun b u q=>?_,I.pro,fun b u q=>?_⟩,by rw[YZ];exact I.len,O,fun j y hj=>?_⟩
 ·by_cases c:F b=none∧P b=none∧O b=some i
  ·rw[dZ (ow:=fun b=>F b=none∧P b=none∧O b=some i) c] at q;exact q
  ·rw[eE (ow:=fun b=>F b=none∧P b=none∧O b=some i) c] at q;exact I.sub b u q
 ·rw[eE (ow:=fun b=>F b=none∧P b=none∧O b=some i) fun c=>by rw[c.2.1] at q;cases q];exact I.dis b u q
 ·rcases dN hj with⟨rfl,e,hl⟩ | ⟨hij,hj'⟩
  ·cases e
   obtain⟨v,h1,a,rfl,h2,_⟩:=hr i _ h
   exact⟨_,h1,h2.rep (cz hn) fun b u q hb=>by rw[dZ (ow:=fun b=>F b=none∧P b=none∧O b=some i) q];exact hb⟩
  ·obtain⟨v,h1,h2⟩:=hr j y hj'
   refine⟨v,h1,?_⟩
   cases y with
   | v d=>exact Rep.same (cz hn) h2
   | own o' t'=>
    obtain⟨a,rfl,h3,ht⟩:=h2
    exact⟨a,rfl,h3.mono (cz hn) fun b u q hb=>⟨hb,by
     rw[eE (ow:=fun b=>F b=none∧P b=none∧O b=some i) fun c=>by rw[q.2.2] at c;exact hij (Yq c.2.2).symm];exact q.1,q.2⟩,ht⟩
   | bor o'=>
    obtain⟨a,rfl,h3⟩:=h2
    exact⟨a,rfl,h3.mono (cz hn) fun b u q hb=>⟨hb,q⟩⟩
theorem AC {K:Kq}{i:Nat}{g:Dw}:∀ E σ H,tS K (mX i g) E σ H→tS K g E σ H:=fun E σ H=>un7 fun P F ρ r hg I k=>by
 unfold mX at hg
 split at hg
 ·rename_i o q
  obtain⟨F',e,I'⟩:=I.frz q
  exact⟨P,F',_,r,hg,I',k.ext e⟩
 ·exact⟨P,F,ρ,r,hg,I,k⟩
 ·cases hg
theorem lu (i:Nat){g:Dw}(h:PD1 X st g):PD1 X st (mX i g):=PS.imp h AC
def b5:DF→Option RES:=fun _=>none
theorem bD:PD1 X st b5:=PS.imp tV fun _ _ _ ⟨_,_,_,_,h,_⟩=>by cases h
def qF (f:Dd):DF→Option RES:=fun ρ=>(f ρ).map fun _=>.nx ρ
theorem wU {f:Dd}(h:PDE X e f)(hs:swapsWith e none pos.line X.env=pure false:=by rfl):PD1 X (.Expr e pos) (qF f):=PS.imp (c_ h hs) fun E σ H=>un7 fun P F ρ r hg I k=>by
 unfold qF at hg
 cases q:f ρ with
 | none=>rw[q] at hg;cases hg
 | some d=>
  rw[q] at hg
  cases hg
  exact⟨P,F,ρ,d,q,I,fun v F' H' ev _=>k σ F' H' ev.ext (I.evo ev)⟩
def dIf (c:Dk)(g h:Dw):DF→Option RES:=fun ρ=>(c ρ).bind fun b=>if b=true then g ρ else h ρ
theorem bc {c:Expr}{a b:List Stmt}{fc:Dk}{g h:Dw}(hc:PDT X c fc)(ha:PDS X a g)(hb:PDS X b h):PD1 X (.If c a b pos) (dIf fc g h):=PS.imp (zP hc ha hb) fun E σ H=>un7 fun P F ρ r hg I k=>by
 unfold dIf at hg
 cases q:fc ρ with
 | none=>rw[q] at hg;cases hg
 | some b=>
  rw[q,Ya] at hg
  refine⟨P,F,ρ,b,q,I,fun F' H' ev=>?_⟩
  cases b with
  | true=>
   rw[Yh rfl] at hg ⊢
   exact⟨P,F',ρ,r,hg,I.evo ev,k.ext ev.ext⟩
  | false=>
   rw[Yr Yp] at hg ⊢
   exact⟨P,F',ρ,r,hg,I.evo ev,k.ext ev.ext⟩
def xa (K:Kq)(P:Hp)(J:It)(F:Hp)(ds:List D):Prop:=
 ∀ F' H',Same F F'→DHp P F' H'→∀ i:Nat,(∀ d,ds[i]?=some d→J.go i H'∧∀ x H2,J.yld i H' x H2→∃ F2,Evo P F' H' F2 H2∧Rep K F2 x d)∧(ds.length≤i→J.stop i H')
def tI (K:Kq)(f:Dl):TI:=fun σ H R=>∃ P F ρ ds,f ρ=some ds∧DInv K P F H ρ σ∧∀ (J:It) F' H',Evo P F H F' H'→xa K P J F' ds→R J H'
def PDI (X:Cx)(tg iter:Expr)(f:Dl):Prop:=PI X tg iter (tI X.K f)
theorem PI.imp {tg iter:Expr}{t t':TI}(h:PI X tg iter t)(i:∀ σ H R,t' σ H R→t σ H R):PI X tg iter t':=fun pz s σ H R I q=>h pz s σ H R I (i σ H R q)
def tG (K:Kq)(is:List Nat)(st:Dq):TG:=fun v σ H Q=>∃ P F ρ d ρ',st d ρ=some ρ'∧DInv K P F H ρ σ∧Rep K F v d∧∀ σ' F' H',Evo P F H F' H'→DInv K P F' H' ρ' σ'→σ'.length=σ.length→(∀ j,j∉is→σ'[j]?=σ[j]?)→Q σ' H'
def PDG (X:Cx)(tg:Expr)(is:List Nat)(st:Dq):Prop:=PG X tg (tG X.K is st)
theorem PG.imp {tg:Expr}{t t':TG}(h:PG X tg t)(i:∀ v σ H Q,t' v σ H Q→t v σ H Q):PG X tg t':=fun pz s σ H v u Q I r q=>h pz s σ H v u Q I r (i v σ H Q q)
theorem vA {i:Nat}{x:Str}(hN:X.N.Nodup)(hi:X.N[i]?=some x)(hx:Loc X.env.scope x)(hf:X.fn x=true∨X.env.scope.names.lookup x=some .local:=by first | exact .inl rfl | exact .inr rfl | assumption):PDG X (.Name x pos) [i] (setV i):=
 PG.imp (rb hN hi hx hf) fun v σ H Q hh_=>by
  obtain⟨P,F,ρ,d,ρ',hs,I,r,k⟩:=hh_
  cases hs
  exact k _ F H (Evo.refl I.toDHp) (I.setV i r) (YZ ..) fun j hj=>by rw[Zi (fun z=>hj (by rw[z];exact Zz _))]
def cm (st:Dq)(body:Dw):List D→DF→Option RES
 | [],ρ=>some (.nx ρ)
 | d::ds,ρ=>match st d ρ with
  | none=>none
  | some ρ1=>match body ρ1 with
   | some (.nx ρ')=>cm st body ds ρ'
   | some (.ct ρ')=>cm st body ds ρ'
   | some (.bk ρ')=>some (.nx ρ')
   | r=>r
def gj (it:Dl)(st:Dq)(body:Dw):DF→Option RES:=fun ρ=>(it ρ).bind fun ds=>cm st body ds ρ
theorem zS {tg iter:Expr}{body:List Stmt}{f:Dl}{is:List Nat}{st:Dq}{g:Dw}(hp:PassesOwn (model X.prog X.w) X.A X.env X.xe)(hc:X.calm=true)(hi:PDI X tg iter f)(hg:PDG X tg is st)(hb:PDS X body g)
  (hs:∀ x,foldedSetIterable iter X.env x=pure x:=by intro _;rfl):PD1 X (.For tg iter body [] pos) (gj f st g):=PS.imp (Ar hp hc hi hg hb hs) fun E σ H=>un7 fun P F ρ r hr I k=>by
 unfold gj at hr
 cases q:f ρ with
 | none=>rw[q] at hr;cases hr
 | some ds=>
  rw[q,Ya] at hr
  refine⟨P,F,ρ,ds,q,I,fun J F1 H1 ev ok=>?_⟩
  refine⟨fun i m σ' H'=>m=ds.length-i∧i≤ds.length∧∃ F' ρ',Same F1 F'∧DInv X.K P F' H' ρ' σ'∧cm st g (ds.drop i) ρ'=some r,⟨_,rfl,YO _,F1,ρ,Same.refl _,I.evo ev,hr⟩,?_⟩
  rintro i m σ' H' ⟨rfl,hil,F',ρ',se,I',hf⟩
  obtain⟨ok1,ok2⟩:=ok F' H' se I'.toDHp i
  by_cases hlt:i<ds.length
  ·have hd:ds[i]?=some ds[i]:=Yv hlt
   obtain⟨go,yl⟩:=ok1 _ hd
   have hdrop:ds.drop i=ds[i]::ds.drop (i+1):=List.drop_eq_getElem_cons hlt
   rw[hdrop] at hf
   unfold cm at hf
   cases hst:st ds[i] ρ' with
   | none=>rw[hst] at hf;cases hf
   | some ρ1=>
    rw[hst] at hf
    dsimp only at hf
    have hE:Same F F':=ev.ext.trans se
    refine .inr ⟨go,fun σ2 H2=>∃ F2 ρ2,Same F1 F2∧DInv X.K P F2 H2 ρ2 σ2∧cm st g (ds.drop (i+1)) ρ2=some r,fun σ2 H2 ⟨F2,ρ2,s2,I2,hf2⟩=>⟨ds.length-(i+1),by omega,rfl,hlt,F2,ρ2,s2,I2,hf2⟩,fun x H2 hy=>?_⟩
    obtain⟨F2,ev2,rx⟩:=yl x H2 hy
    refine⟨P,F2,ρ',ds[i],ρ1,hst,I'.evo ev2,rx,fun σ3 F3 H3 ev3 I3 _ _=>?_⟩
    have s13:Same F1 F3:=se.trans (ev2.ext.trans ev3.ext)
    cases hb':g ρ1 with
    | none=>rw[hb'] at hf;cases hf
    | some res=>
     rw[hb'] at hf
     refine⟨P,F3,ρ1,res,hb',I3,?_⟩
     cases res with
     | nx ρ4=>exact fun σ4 F4 H4 e4 I4=>⟨F4,ρ4,s13.trans e4,I4,hf⟩
     | ct ρ4=>exact fun σ4 F4 H4 e4 I4=>⟨F4,ρ4,s13.trans e4,I4,hf⟩
     | bk ρ4=>
      cases hf
      exact fun σ4 F4 H4 e4 I4=>k σ4 F4 H4 (ev.ext.trans (s13.trans e4)) I4
     | rt x4 ρ4=>
      cases hf
      exact fun v4 σ4 F4 H4 e4 I4 r4=>k v4 σ4 F4 H4 (ev.ext.trans (s13.trans e4)) I4 r4
  ·have hz:ds.drop i=[]:=List.drop_eq_nil_of_le (by omega)
   rw[hz] at hf
   cases hf
   exact .inl ⟨ok2 (by omega),k σ' F' H' (ev.ext.trans se) I'⟩
def a_ (c:Dk)(body:Dw):Nat→DF→Option RES
 | 0,_=>none
 | n+1,ρ=>match c ρ with
  | none=>none
  | some false=>some (.nx ρ)
  | some true=>match body ρ with
   | some (.nx ρ')=>a_ c body n ρ'
   | some (.ct ρ')=>a_ c body n ρ'
   | some (.bk ρ')=>some (.nx ρ')
   | r=>r
theorem eh (n:Nat){c:Expr}{body:List Stmt}{fc:Dk}{g:Dw}(hp:PassesOwn (model X.prog X.w) X.A X.env X.xe)(hc:PDT X c fc)(hb:PDS X body g):PD1 X (.While c body [] pos) (a_ fc g n):=PS.imp (wp hp hc hb) fun E σ H=>un7 fun P F ρ r hr I k=>by
 refine⟨fun m σ' H'=>∃ F' ρ',Same F F'∧DInv X.K P F' H' ρ' σ'∧a_ fc g m ρ'=some r,⟨n,F,ρ,Same.refl _,I,hr⟩,?_⟩
 rintro m σ' H' ⟨F',ρ',se,I',hf⟩
 cases m with
 | zero=>cases hf
 | succ m=>
  unfold a_ at hf
  cases hc':fc ρ' with
  | none=>rw[hc'] at hf;cases hf
  | some b=>
   rw[hc'] at hf
   refine⟨P,F',ρ',b,hc',I',fun F2 H2 ev2=>?_⟩
   cases b with
   | false=>
    rw[Yr Yp]
    cases hf
    exact k σ' F2 H2 (se.trans ev2.ext) (I'.evo ev2)
   | true=>
    rw[Yh rfl]
    refine⟨fun σ3 H3=>∃ F3 ρ3,Same F F3∧DInv X.K P F3 H3 ρ3 σ3∧a_ fc g m ρ3=some r,fun σ3 H3 h=>⟨m,Xu m,h⟩,?_⟩
    have s2:Same F F2:=se.trans ev2.ext
    dsimp only at hf
    cases hb':g ρ' with
    | none=>rw[hb'] at hf;cases hf
    | some res=>
     rw[hb'] at hf
     refine⟨P,F2,ρ',res,hb',I'.evo ev2,?_⟩
     cases res with
     | nx ρ4=>exact fun σ4 F4 H4 e4 I4=>⟨F4,ρ4,s2.trans e4,I4,hf⟩
     | ct ρ4=>exact fun σ4 F4 H4 e4 I4=>⟨F4,ρ4,s2.trans e4,I4,hf⟩
     | bk ρ4=>
      cases hf
      exact fun σ4 F4 H4 e4 I4=>k σ4 F4 H4 (s2.trans e4) I4
     | rt x4 ρ4=>
      cases hf
      exact fun v4 σ4 F4 H4 e4 I4 r4=>k v4 σ4 F4 H4 (s2.trans e4) I4 r4
end
def gd (F H:Hp):Hp:=fun a=>match F a with
 | none=>H a
 | some _=>none
theorem fu {F H:Hp}{a:Addr}{o:HO}:gd F H a=some o↔F a=none∧H a=some o:=by
 unfold gd
 cases q:F a with
 | none=>simp
 | some u=>simp
theorem fj {F H:Hp}(s:Same F H):DHp (gd F H) F H:=⟨s,fun a o e=>(fu.mp e).2,fun a o e=>(fu.mp e).1⟩
theorem DHp.gd {P F H F' H':Hp}(h:DHp P F H)(e:Same F F')(g:DHp (gd F H) F' H'):Evo P F H F' H' where
 ext:=e
 hp:=⟨g.sub,fun a o q=>g.pro a o (fu.mpr ⟨h.dis a o q,h.pro a o q⟩),fun a o q=>g.dis a o (fu.mpr ⟨h.dis a o q,h.pro a o q⟩)⟩
 keep:=fun a o q n=>⟨g.pro a o (fu.mpr ⟨n,q⟩),g.dis a o (fu.mpr ⟨n,q⟩)⟩
theorem Evo.change {P P1 F H F' H':Hp}(e:Evo P F H F' H')(h:DHp P1 F H):Evo P1 F H F' H':=
 ⟨e.ext,⟨e.hp.sub,fun a o q=>(e.keep a o (h.pro a o q) (h.dis a o q)).1,fun a o q=>(e.keep a o (h.pro a o q) (h.dis a o q)).2⟩,e.keep⟩
def zC:DV→Bool
 | .own _ _=>true
 | _=>false
inductive DVs (K:PySem.W.Frag) (P F H:Hp):List DV→List V→Prop
 | nil:DVs K P F H [] []
 | cons {x:DV} {v:V} {xs:List DV} {vs:List V}:zC x=false→DVRep K P F H oH x v→DVs K P F H xs vs→DVs K P F H (x::xs) (v::vs)
theorem DVs.length {K:Kq}{P F H:Hp}{xs:List DV}{vs:List V}(h:DVs K P F H xs vs):xs.length=vs.length:=by
 induction h with
 | nil=>rfl
 | cons _ _ _ ih=>exact YN Nat.succ ih
theorem DVs.get {K:Kq}{P F H:Hp}{xs:List DV}{vs:List V}{i:Nat}{x:DV}(h:DVs K P F H xs vs)(e:xs[i]?=some x):zC x=false∧∃ v,vs[i]?=some v∧DVRep K P F H oH x v:=by
 induction h generalizing i with
 | nil=>exact nomatch e
 | cons h r _ ih=>
  cases i with
  | zero=>obtain rfl:=Yq e;exact⟨h,_,rfl,r⟩
  | succ i=>exact ih e
def spD (K:Kq)(m:Dm):Sp:=fun vs H Q _=>∃ P F xs x,m xs=some x∧DHp P F H∧DVs K P F H xs vs∧∀ v F' H',Same F F'→DHp P F' H'→DVRep K P F' H' oH x v→Q v H'
def bh (n p:Nat)(xs:List DV):DF:=xs.map some++List.replicate (n-p) none
def cY:Option RES→Option DV
 | some (.rt x _)=>some x
 | some (.nx _)=>some (.v .non)
 | _=>none
def mOf (n p:Nat)(g:Dw):List DV→Option DV:=fun xs=>if xs.length=p then cY (g (bh n p xs)) else none
theorem eR {n p:Nat}{xs:List DV}{i:Nat}{x:DV}(h:(bh n p xs)[i]?=some (some x)):xs[i]?=some x:=by
 unfold bh at h
 by_cases hi:i<xs.length
 ·rw[Zu (by simpa using hi),YH] at h
  cases q:xs[i]? with
  | none=>rw[q] at h;cases h
  | some y=>rw[q] at h;cases h;rfl
 ·rw[Zr (by simpa using hi),ZN] at h
  split at h <;> cases h
theorem c7 {N:List Str}{vs:List V}{i:Nat}{v:V}(h:vs[i]?=some v):(start N vs)[i]?=some (some v):=by
 unfold start
 have hi:i<vs.length:=(YM.mp h).1
 rw[Zu (by simpa using hi),YH,h]
 rfl
theorem DInv.start {K:Kq}{P F H:Hp}{xs:List DV}{vs:List V}(N:List Str)(p:Nat)(h:DHp P F H)(r:DVs K P F H xs vs)(hp:xs.length=p):DInv K P F H (bh N.length p xs) (start N vs):=by
 refine⟨h,?_,fun _=>none,fun i x e=>?_⟩
 ·unfold bh L2.start
  rw[Yc,Yc,Yb,Yb,Yw,Yw,r.length,← r.length,hp]
 ·obtain⟨ho,v,h1,h2⟩:=r.get (eR e)
  refine⟨v,c7 h1,?_⟩
  cases x with
  | own o t=>cases ho
  | v d=>exact h2
  | bor o=>exact h2
theorem Fun.okD {P:Program}{w:World}{K:Kq}{mg:Ks}{base:Heap}{x qual:Str}{st:Stmt}{f:Addr}{fd:FuncData}{N ps:List Str}{k:Nat}{g:Dw}(F:Fun K x qual st f fd)(S:FnScope N ps (defScope st))
  (hbody:∀ (cdv:Value) (A:Around) (outer:List Env) (s:Shared) (H:Hp) (E:XK),Room k (A.deeper (envOfC qual (defScope st) s.heap.objs.size f cdv))→
   PDS (gG CX0 P w K mg base N qual (defScope st) f cdv A outer s H E).nox (defBody st) g):FnOk P w K mg base CX0 (k+1) f fd ps (spD K (mOf N.length ps.length g)):=by
 have lens:∀ vs H Q E,spD K (mOf N.length ps.length g) vs H Q E→vs.length=ps.length:=fun vs H Q E hh_=>by
  obtain⟨P',F',xs,x',hm,hp,hv,_⟩:=hh_
  unfold mOf at hm
  split at hm
  ·rename_i h;rw[← hv.length];exact h
  ·cases hm
 refine F.ok S lens fun cdv A outer s H vs Q E hr h=>?_
 refine⟨_,hbody cdv A outer s H E hr,?_⟩
 obtain⟨P',F',xs,x',hm,hp,hv,hQ⟩:=h
 unfold mOf at hm
 split at hm
 ·rename_i hl
  have I:DInv K P' F' H (bh N.length ps.length xs) (start N vs):=DInv.start N ps.length hp hv hl
  cases q:g (bh N.length ps.length xs) with
  | none=>rw[q] at hm;cases hm
  | some r=>
   rw[q] at hm
   refine⟨P',F',_,r,q,I,?_⟩
   cases r with
   | rt y ρ=>cases hm;exact fun v σ F2 H2 e h r=>hQ v F2 H2 e h.toDHp r
   | nx ρ=>cases hm;exact fun σ F2 H2 e I2=>hQ .non F2 H2 e I2.toDHp .non
   | bk ρ=>cases hm
   | ct ρ=>cases hm
 ·cases hm
inductive ArgsS (K:PySem.W.Frag) (ρ:DF) (σ:St) (F:Hp):List DV→List V→Prop
 | nil:ArgsS K ρ σ F [] []
 | v {d:D} {v:V} {xs:List DV} {vs:List V}:Rep K F v d→ArgsS K ρ σ F xs vs→ArgsS K ρ σ F (.v d::xs) (v::vs)
 | b {o:OD} {v:V} {xs:List DV} {vs:List V} (i:Nat):σ[i]?=some (some v)→((∃ t,ρ[i]?=some (some (.own o t)))∨ρ[i]?=some (some (.bor o)))→ArgsS K ρ σ F xs vs→ArgsS K ρ σ F (.bor o::xs) (v::vs)
theorem ArgsS.dvs {K:Kq}{P F H:Hp}{ρ:DF}{σ:St}(I:DInv K P F H ρ σ){xs:List DV}{vs:List V}(h:ArgsS K ρ σ F xs vs):DVs K (gd F H) F H xs vs:=by
 induction h with
 | nil=>exact .nil
 | v h _ ih=>exact .cons rfl h ih
 | b i h1 h2 _ ih=>
  obtain⟨a,rfl,h3⟩:=I.slot h1 h2
  exact .cons rfl ⟨a,rfl,h3.mono (Same.refl _) fun b u q hb=>⟨fu.mpr ⟨q,hb⟩,trivial⟩⟩ ih
def tLV (K:Kq)(f:Dv):TA:=fun σ H Q=>∃ P F ρ xs,f ρ=some xs∧DInv K P F H ρ σ∧∀ vs F' H',Evo P F H F' H'→ArgsS K ρ σ F' xs vs→Q vs H'
def gH (X:Cx)(es:List Expr)(f:Dv):Prop:=PA X es (tLV X.K f)
section
variable {X:Cx} {e:Expr} {es:List Expr} {pos:Pos}
theorem a8:gH X [] nA:=PA.imp a9 fun σ H Q=>un7 fun P F ρ xs hf I k=>by
 cases hf
 exact k [] F H (Evo.refl I.toDHp) .nil
def aV (f:Dd)(g:Dv):DF→Option (List DV):=fun ρ=>(f ρ).bind fun d=>(g ρ).map fun xs=>.v d::xs
theorem bG {f:Dd}{g:Dv}(h:PDE X e f)(hr:gH X es g)(hs:starEach (e::es) X.env=(false,eval e X.env)::starEach es X.env:=by rfl):gH X (e::es) (aV f g):=PA.imp (aH h hr hs) fun σ H Q=>un7 fun P F ρ xs hf I k=>by
 unfold aV at hf
 cases q:f ρ with
 | none=>rw[q] at hf;cases hf
 | some d=>
  rw[q,Ya] at hf
  cases q2:g ρ with
  | none=>rw[q2] at hf;cases hf
  | some ys=>
   rw[q2] at hf
   cases hf
   exact⟨P,F,ρ,d,q,I,fun v F1 H1 e1 r1=>⟨P,F1,ρ,ys,q2,I.evo e1,fun vs F2 H2 e2 r2=>k (v::vs) F2 H2 (e1.trans e2) (.v (r1.same e2.ext) r2)⟩⟩
def aB (i:Nat)(g:Dv):DF→Option (List DV):=fun ρ=>match ρ[i]? with
 | some (some (.own o _))=>(g ρ).map fun xs=>.bor o::xs
 | some (some (.bor o))=>(g ρ).map fun xs=>.bor o::xs
 | some (some (.v d))=>(g ρ).map fun xs=>.v d::xs
 | _=>none
theorem CB (i:Nat){g:Dv}(h:PE X e (ce i))(hr:gH X es g)(hs:starEach (e::es) X.env=(false,eval e X.env)::starEach es X.env:=by rfl):gH X (e::es) (aB i g):=PA.imp (aH h hr hs) fun σ H Q=>un7 fun P F ρ xs hf I k=>by
 unfold aB at hf
 split at hf
 ·rename_i o t q
  obtain⟨v,h1,h2⟩:=I.at q
  cases q2:g ρ with
  | none=>rw[q2] at hf;cases hf
  | some ys=>
   rw[q2] at hf
   cases hf
   exact⟨v,h1,P,F,ρ,ys,q2,I,fun vs F2 H2 e2 r2=>k (v::vs) F2 H2 e2 (.b i h1 (.inl ⟨t,q⟩) r2)⟩
 ·rename_i o q
  obtain⟨v,h1,h2⟩:=I.at q
  cases q2:g ρ with
  | none=>rw[q2] at hf;cases hf
  | some ys=>
   rw[q2] at hf
   cases hf
   exact⟨v,h1,P,F,ρ,ys,q2,I,fun vs F2 H2 e2 r2=>k (v::vs) F2 H2 e2 (.b i h1 (.inr q) r2)⟩
 ·rename_i d q
  obtain⟨v,h1,h2⟩:=I.at q
  cases q2:g ρ with
  | none=>rw[q2] at hf;cases hf
  | some ys=>
   rw[q2] at hf
   cases hf
   exact⟨v,h1,P,F,ρ,ys,q2,I,fun vs F2 H2 e2 r2=>k (v::vs) F2 H2 e2 (.v (Rep.same e2.ext h2) r2)⟩
 ·cases hf
def dvD:DV→Option D
 | .v d=>some d
 | .own o _=>some o.d
 | .bor _=>none
def bJ (m:Dm)(g:Dv):DF→Option D:=fun ρ=>(g ρ).bind fun xs=>(m xs).bind dvD
def dvO:DV→Option OD
 | .own o _=>some o
 | _=>none
def kF (m:Dm)(g:Dv):DF→Option OD:=fun ρ=>(g ρ).bind fun xs=>(m xs).bind dvO
theorem Bm {F H:Hp}{F':Hp}{a:Addr}(e:Same F F')(h1:F' a=none)(h2:gd F H a=none):H a=none:=by
 unfold gd at h2
 have:F a=none:=by
  cases q:F a with
  | none=>rfl
  | some o=>rw[e a o q] at h1;cases h1
 rw[this] at h2
 exact h2
theorem k9 {K:Kq}{F1 H1 F2 H2:Hp}{o:OD}{a:Addr}(e2:Same F1 F2)(h:ORep K F2 H2 (fun b=>F2 b=none∧gd F1 H1 b=none∧oH b) o a):ORep K F2 H2 (fun b=>H1 b=none∧F2 b=none) o a:=
 h.mono (Same.refl _) fun b u q hb=>⟨hb,Bm e2 q.1 q.2.1,q.1⟩
theorem xZ {K:Kq}{m:Dm}{g:Dv}{E:XK}:∀ σ H Q,tD K (bJ m g) σ H Q→rl (spD K m) [] E (tLV K g) σ H Q:=fun σ H Q=>un7 fun P F ρ d hf I k=>by
 unfold bJ at hf
 cases q:g ρ with
 | none=>rw[q] at hf;cases hf
 | some xs=>
  rw[q,Ya] at hf
  cases q2:m xs with
  | none=>rw[q2] at hf;cases hf
  | some x=>
   rw[q2,Ya] at hf
   refine⟨P,F,ρ,xs,q,I,fun vs F1 H1 e1 r1=>?_⟩
   have I1:=I.evo e1
   refine⟨gd F1 H1,F1,xs,x,q2,fj I1.sub,by rw[Yi];exact r1.dvs I1,fun v F2 H2 e2 hp2 r2=>?_⟩
   have ev:Evo P F1 H1 F2 H2:=I1.toDHp.gd e2 hp2
   cases x with
   | v d'=>cases hf;exact k v F2 H2 (e1.trans ev) r2
   | own o t=>
    cases hf
    obtain⟨a,rfl,ho,_⟩:=r2
    have ho':=k9 e2 ho
    exact k _ _ H2 (e1.trans (ev.freeze I1.toDHp (fun b=>H1 b=none∧F2 b=none) fun _ q=>q)) (ho'.rep (cz fun b q=>q.2) fun b u q hb=>by rw[dZ q];exact hb)
   | bor o=>cases hf
theorem xh {K:Kq}{m:Dm}{g:Dv}{E:XK}:∀ σ H Q,tO K (kF m g) σ H Q→rl (spD K m) [] E (tLV K g) σ H Q:=fun σ H Q=>un7 fun P F ρ d hf I k=>by
 unfold kF at hf
 cases q:g ρ with
 | none=>rw[q] at hf;cases hf
 | some xs=>
  rw[q,Ya] at hf
  cases q2:m xs with
  | none=>rw[q2] at hf;cases hf
  | some x=>
   rw[q2,Ya] at hf
   refine⟨P,F,ρ,xs,q,I,fun vs F1 H1 e1 r1=>?_⟩
   have I1:=I.evo e1
   refine⟨gd F1 H1,F1,xs,x,q2,fj I1.sub,by rw[Yi];exact r1.dvs I1,fun v F2 H2 e2 hp2 r2=>?_⟩
   have ev:Evo P F1 H1 F2 H2:=I1.toDHp.gd e2 hp2
   cases x with
   | own o t=>
    cases hf
    obtain⟨a,rfl,ho,_⟩:=r2
    exact k a F2 H2 (e1.trans ev) ((k9 e2 ho).mono (Same.refl _) fun b u q hb=>⟨hb,e1.back I.toDHp q.1,q.2⟩)
   | _=>cases hf
section
variable {k:Nat} {f:Addr} {fd:FuncData} {ps:List Str} {m:Dm} {x:Str} {p:Pos} {g:Dv}
theorem xW (F:FnOk X.prog X.w X.K X.mg X.base CX0 k f fd ps (spD X.K m))(hr:Room k X.A)(hg:Gl X x)(hm:X.mg x=some (.ref f))(hk:PySem.W.keepIn X.K (.ref f)=true)(hb:Binds X.K fd ps [])(ha:gH X (e::es) g)
  (hd:(x == ("__debug__":Str))=false:=by decide) (he:starEach (e::es) X.env=(false,eval e X.env)::starEach es X.env:=by rfl) (hpl:(backTo pos (starEach es X.env)).any (·.1)=false:=by rfl):PDE X (.Call (.Name x p) (e::es) [] pos) (bJ m g):=
 (iO F hr hg hm hk hb .nil gX ha hd he hpl).imp xZ
theorem vj (F:FnOk X.prog X.w X.K X.mg X.base CX0 k f fd ps (spD X.K m))(hr:Room k X.A)(hg:Gl X x)(hm:X.mg x=some (.ref f))(hk:PySem.W.keepIn X.K (.ref f)=true)(hb:Binds X.K fd ps [])(ha:gH X (e::es) g)
  (hd:(x == ("__debug__":Str))=false:=by decide) (he:starEach (e::es) X.env=(false,eval e X.env)::starEach es X.env:=by rfl) (hpl:(backTo pos (starEach es X.env)).any (·.1)=false:=by rfl):PDO X (.Call (.Name x p) (e::es) [] pos) (kF m g):=
 (iO F hr hg hm hk hb .nil gX ha hd he hpl).imp xh
end
end
def sf:Option DV→Option DV
 | some (.v d)=>some (.v d)
 | some (.own o _)=>some (.bor o)
 | some (.bor o)=>some (.bor o)
 | _=>none
def fR (own:Nat)(ix:List Nat)(ρ:DF):DF:=List.replicate own none++ix.map fun j=>sf (ρ[j]?).join
def dL (st:Dq)(c:Dk)(e:Dd)(ρ:DF):List D→Option (List D)
 | []=>some []
 | d::ds=>(st d ρ).bind fun ρ1=>(c ρ1).bind fun b=>if b=true then (e ρ1).bind fun y=>(dL st c e ρ ds).map fun r=>y::r else dL st c e ρ ds
def dw (own:Nat)(ix:List Nat)(it:Dl)(st:Dq)(c:Dk)(e:Dd):DF→Option (List D):=
 fun ρ=>(it ρ).bind fun ds=>if ds.length≤16777216 then dL st c e (fR own ix ρ) ds else none
def e8:DF→Option Bool:=fun _=>some true
theorem oE {own:Nat}{ix:List Nat}{ρ:DF}{i:Nat}{x:DV}(h:(fR own ix ρ)[i]?=some (some x)):own≤i∧∃ j y,ix[i-own]?=some j∧ρ[j]?=some (some y)∧sf (some y)=some x:=by
 unfold fR at h
 by_cases hi:i<own
 ·rw[Zu (by rw[Yw];exact hi),ZN,Yh hi] at h
  cases h
 ·rw[Zr (by rw[Yw];omega),Yw,YH] at h
  refine⟨by omega,?_⟩
  cases q:ix[i-own]? with
  | none=>rw[q] at h;cases h
  | some j=>
   rw[q,ZB] at h
   have h':=Yq h
   cases q2:ρ[j]? with
   | none=>rw[q2] at h';cases h'
   | some o=>
    rw[q2,Option.join_some] at h'
    cases o with
    | none=>cases h'
    | some y=>exact⟨j,y,rfl,q2,h'⟩
theorem vV {own:Nat}{ix:List Nat}{σ:St}{i j:Nat}{v:V}(hi:own≤i)(h:ix[i-own]?=some j)(hv:σ[j]?=some (some v)):(da own ix σ)[i]?=some (some v):=by
 unfold da
 rw[Zr (by rw[Yw];exact hi),Yw,YH,h,ZB,hv]
 rfl
theorem DInv.cap {K:Kq}{P F H:Hp}{ρ:DF}{σ:St}(I:DInv K P F H ρ σ)(own:Nat)(ix:List Nat):DInv K (gd F H) F H (fR own ix ρ) (da own ix σ):=by
 refine⟨fj I.sub,?_,fun _=>none,fun i x h=>?_⟩
 ·rw[fM]
  unfold fR
  rw[Yc,Yw,Yb]
 ·obtain⟨hi,j,y,h1,h2,h3⟩:=oE h
  obtain⟨v,q1,q2⟩:=I.at h2
  refine⟨v,vV hi h1 q1,?_⟩
  have bo:∀ o,((∃ t,ρ[j]?=some (some (.own o t)))∨ρ[j]?=some (some (.bor o)))→DVRep K (gd F H) F H (fun b=>none=some i) (.bor o) v:=fun o ho=>by
   obtain⟨a,rfl,h3⟩:=I.slot q1 ho
   exact⟨a,rfl,h3.mono (Same.refl _) fun b u q hb=>⟨fu.mpr ⟨q,hb⟩,trivial⟩⟩
  cases y with
  | v d=>cases h3;exact q2
  | own o t=>cases h3;exact bo o (.inl ⟨t,h2⟩)
  | bor o=>cases h3;exact bo o (.inr h2)
theorem t_ {K:Kq}{G F H F2 H2:Hp}{own:Nat}{ix:List Nat}{ρ:DF}{τ:St}(B:DInv K G F H (fR own ix ρ) τ)(e:Same F F2)(hp:DHp G F2 H2):DInv K G F2 H2 (fR own ix ρ) τ:=by
 obtain⟨O,h⟩:=B.rep
 refine⟨hp,B.len,O,fun i x hx=>?_⟩
 obtain⟨v,h1,h2⟩:=h i x hx
 refine⟨v,h1,?_⟩
 cases x with
 | v d=>exact Rep.same e h2
 | bor o=>obtain⟨a,rfl,h3⟩:=h2;exact⟨a,rfl,h3.mono e fun b u q hb=>⟨hb,q⟩⟩
 | own o t=>(obtain⟨_,j,y,_,_,h3⟩:=oE hx;cases y <;> cases h3)
section
variable {X:Cx} {elt tg iter:Expr} {ifs:List Expr} {scope:Scope} {pos:Pos} {N:List Str} {own:Nat} {ix is:List Nat} {f:Dl} {st:Dq} {c:Dk} {e:Dd}
theorem yF {K:Kq}(his:∀ j∈is,j<own):∀ σ H Q,tO K (asL (dw own ix f st c e)) σ H Q→zB own ix (tI K f) (tG K is st) (tB' K c) (tD K e) σ H Q:=fun σ H Q=>un7 fun P F ρ ob hf I k=>by
 unfold asL at hf
 cases hout:dw own ix f st c e ρ with
 | none=>rw[hout] at hf;cases hf
 | some out=>
 rw[hout] at hf
 cases hf
 have hf:=hout
 unfold dw at hf
 cases q:f ρ with
 | none=>rw[q] at hf;cases hf
 | some ds=>
  rw[q,Ya] at hf
  split at hf
  rotate_left
  ·cases hf
  rename_i hlen
  refine⟨P,F,ρ,ds,q,I,fun J F1 H1 ev ok acc hacc=>?_⟩
  have I1:=I.evo ev
  have hp1:DHp (gd F1 H1) F1 H1:=fj I1.sub
  have hg:gd F1 H1 acc=none:=by unfold gd;rw[I1.sub.free hacc];exact hacc
  have B1:DInv K (gd F1 H1) F1 H1 (fR own ix ρ) (da own ix σ):=I1.cap own ix
  have hP:∀ {F' H':Hp},Same F1 F'→DHp (gd F1 H1) F' H'→DHp P F' H':=fun s h=>(I1.toDHp.gd s h).hp
  refine⟨fun i m ys H'=>m=ds.length-i∧i≤ds.length∧∃ F',Same F1 F'∧DHp (gd F1 H1) F' H'∧F' acc=none∧H' acc=some (.lst ys)∧ys.length≤i∧∃ pre,Reps K F' ys pre∧(dL st c e (fR own ix ρ) (ds.drop i)).map (fun r=>pre++r)=some out,
   ⟨_,rfl,YO _,F1,Same.refl _,(Evo.side hp1 hacc).hp,I1.sub.free hacc,aw,Yx _,[],.nil,by rw[List.drop_zero,hf];rfl⟩,?_⟩
  rintro i m ys H' ⟨rfl,hi,F',se,hp',fa,ha,hy,pre,rp,hm⟩
  obtain⟨ok1,ok2⟩:=ok F' H' se (hP se hp') i
  by_cases hlt:i<ds.length
  ·have hd:ds[i]?=some ds[i]:=Yv hlt
   obtain⟨go,yl⟩:=ok1 _ hd
   have hdrop:ds.drop i=ds[i]::ds.drop (i+1):=List.drop_eq_getElem_cons hlt
   rw[hdrop] at hm
   unfold dL at hm
   cases hst:st ds[i] (fR own ix ρ) with
   | none=>rw[hst] at hm;cases hm
   | some ρ1=>
    rw[hst,Ya] at hm
    refine .inr ⟨go,fun ys' H2=>∃ F2,Same F1 F2∧DHp (gd F1 H1) F2 H2∧F2 acc=none∧H2 acc=some (.lst ys')∧ys'.length≤i+1∧∃ pre',Reps K F2 ys' pre'∧(dL st c e (fR own ix ρ) (ds.drop (i+1))).map (fun r=>pre'++r)=some out,
     fun ys' H2 h=>⟨ds.length-(i+1),by omega,rfl,hlt,h⟩,fun x H2 hyl=>?_⟩
    obtain⟨F2,ev2,rx⟩:=yl x H2 hyl
    have ev2':Evo (gd F1 H1) F' H' F2 H2:=ev2.change hp'
    obtain⟨a2,fa2⟩:=ev2'.keep acc _ ha fa
    have B2:DInv K (gd F1 H1) F2 H2 (fR own ix ρ) (da own ix σ):=t_ B1 (se.trans ev2.ext) ev2'.hp
    refine⟨gd F1 H1,F2,fR own ix ρ,ds[i],ρ1,hst,B2,rx,fun σ3 F3 H3 ev3 I3 hl3 hσ=>?_⟩
    refine⟨⟨?_,fun j v hj=>?_⟩,?_⟩
    ·rw[hl3,fM]
    ·rw[hσ j]
     ·exact hj
     ·intro hj'
      obtain⟨ho,_⟩:=kS hj
      have:=his j hj'
      omega
    obtain⟨a3,fa3⟩:=ev3.keep acc _ a2 fa2
    cases hc:c ρ1 with
    | none=>rw[hc] at hm;cases hm
    | some b=>
     rw[hc,Ya] at hm
     refine⟨gd F1 H1,F3,ρ1,b,hc,I3,fun F4 H4 ev4=>?_⟩
     obtain⟨a4,fa4⟩:=ev4.keep acc _ a3 fa3
     have s14:Same F' F4:=ev2.ext.trans (ev3.ext.trans ev4.ext)
     cases b with
     | false=>
      rw[Yr Yp] at hm ⊢
      exact⟨F4,se.trans s14,ev4.hp,fa4,a4,by omega,pre,rp.same s14,hm⟩
     | true=>
      rw[Yh rfl] at hm ⊢
      cases he:e ρ1 with
      | none=>rw[he] at hm;cases hm
      | some y=>
       rw[he,Ya] at hm
       refine⟨gd F1 H1,F4,ρ1,y,he,I3.evo ev4,fun v F5 H5 ev5 rv=>?_⟩
       obtain⟨a5,fa5⟩:=ev5.keep acc _ a4 fa4
       have s15:Same F' F5:=s14.trans ev5.ext
       refine⟨a5,by rw[YK];omega,F5,se.trans s15,⟨fun b u h=>by rw[ay (bb h fa5)];exact ev5.hp.sub b u h,fun b u h=>by rw[ay (bb h hg)];exact ev5.hp.pro b u h,ev5.hp.dis⟩,fa5,aw,by rw[Yc,ZD];omega,pre++[y],(rp.same s15).append (.one rv),?_⟩
       cases hmm:dL st c e (fR own ix ρ) (ds.drop (i+1)) with
       | none=>rw[hmm] at hm;cases hm
       | some r=>
        rw[hmm] at hm
        simp only[ZB] at hm ⊢
        rw[Yn]
        exact hm
  ·have hz:ds.drop i=[]:=List.drop_eq_nil_of_le (by omega)
   rw[hz] at hm
   unfold dL at hm
   rw[ZB,Yi] at hm
   cases hm
   exact .inl ⟨ok2 (by omega),k acc F' H' (ev.trans (I1.toDHp.gd se hp')) ⟨⟨ev.back I.toDHp hacc,fa⟩,_,ha,rp⟩⟩
theorem ui (hcalm:X.calm=true)(b:BlkScope X scope)(cp:Caps X scope N own ix)(his:∀ j∈is,j<own)(hi:PDI X tg iter f)
  (hg:∀ s H fp pz,PDG (blk X scope N s H fp pz) tg is st) (hc:∀ s H fp pz,rR (blk X scope N s H fp pz) ifs (tB' X.K c)) (he:∀ s H fp pz,PDE (blk X scope N s H fp pz) elt e)
  (hnames:∀ y∈scope.names,y.2=.local→scope.names.lookup y.1=some .local:=by decide)
  (hs:∀ x,foldedSetIterable iter X.env x=pure x:=by intro _;rfl):PDO X (.ListComp elt [⟨tg,iter,ifs,0⟩] scope pos) (asL (dw own ix f st c e)):=
 (xl (g:=tG X.K is st) (tc:=tB' X.K c) (te:=tD X.K e) hcalm b cp hi hg hc he hnames hs).imp (yF his)
end
section
variable {X:Cx} {e a b c:Expr} {es:List Expr} {pos:Pos}
def CN (n:Nat)(f:Dl):Prop:=∀ ρ ds,f ρ=some ds→ds.length=n
def PDL (X:Cx)(es:List Expr)(n:Nat)(f:Dl):Prop:=PDA X es f∧CN n f
def bx:DF→Option (List D):=fun _=>some []
def ak (f:Dd)(g:Dl):DF→Option (List D):=fun ρ=>(f ρ).bind fun d=>(g ρ).map fun r=>d::r
theorem aP:PDL X [] 0 bx:=⟨PA.imp a9 fun σ H Q=>un7 fun P F ρ xs hf I k=>by
 cases hf
 exact k [] F H (Evo.refl I.toDHp) .nil,fun ρ ds h=>by cases h;rfl⟩
theorem aj {f:Dd}{n:Nat}{g:Dl}(h:PDE X e f)(hr:PDL X es n g)(hs:starEach (e::es) X.env=(false,eval e X.env)::starEach es X.env:=by rfl):PDL X (e::es) (n+1) (ak f g):=
 ⟨PA.imp (aH h hr.1 hs) fun σ H Q=>un7 fun P F ρ xs hf I k=>by
  unfold ak at hf
  cases q:f ρ with
  | none=>rw[q] at hf;cases hf
  | some d=>
   rw[q,Ya] at hf
   cases q2:g ρ with
   | none=>rw[q2] at hf;cases hf
   | some ys=>
    rw[q2] at hf
    cases hf
    exact⟨P,F,ρ,d,q,I,fun v F1 H1 e1 r1=>⟨P,F1,ρ,ys,q2,I.evo e1,fun vs F2 H2 e2 r2=>k (v::vs) F2 H2 (e1.trans e2) (.cons (r1.same e2.ext) r2)⟩⟩,fun ρ ds hf=>by
  unfold ak at hf
  cases q:f ρ with
  | none=>rw[q] at hf;cases hf
  | some d=>
   rw[q,Ya] at hf
   cases q2:g ρ with
   | none=>rw[q2] at hf;cases hf
   | some ys=>
    rw[q2] at hf
    cases hf
    rw[Yg,hr.2 ρ ys q2]⟩
def asT (f:Dl):DF→Option D:=fun ρ=>(f ρ).map .tup
theorem cn {x1}{n:Nat}{f:Dl}(h:PDL X es n f)(hn:n≤16777216:=by decide):PDE X (.Tuple es x1 pos) (asT f):=(v5 h.1).imp fun σ H Q=>un7 fun P F ρ d hf I k=>by
 unfold asT at hf
 cases q:f ρ with
 | none=>rw[q] at hf;cases hf
 | some ds=>
  rw[q] at hf
  cases hf
  refine⟨P,F,ρ,ds,q,I,fun vs F1 H1 e1 r1=>⟨by rw[r1.length,h.2 ρ ds q,YK];exact hn,fun p hp=>?_⟩⟩
  exact k (.ref p) _ _ (e1.trans (Evo.laid e1.hp hp)) (.tup aw (r1.same (de (e1.hp.free hp).1)))
theorem cJ {n:Nat}{f:Dl}(h:PDL X es n f)(hn:n≤16777216:=by decide):PDO X (.List es pos) (asL f):=(gc h.1).imp fun σ H Q=>un7 fun P F ρ ob hf I k=>by
 unfold asL at hf
 cases q:f ρ with
 | none=>rw[q] at hf;cases hf
 | some ds=>
 rw[q] at hf
 cases hf
 refine⟨P,F,ρ,ds,q,I,fun vs F1 H1 e1 r1=>⟨by rw[r1.length,h.2 ρ ds q,YK];exact hn,fun p hp=>?_⟩⟩
 exact k p F1 _ (e1.trans (Evo.side e1.hp hp)) ⟨⟨e1.back I.toDHp hp,(e1.hp.free hp).1⟩,_,aw,r1⟩
theorem Reps.atI {K:Kq}{F:Hp}{vs:List V}{ds:List D}{i:Int}{d:D}(r:Reps K F vs ds)(h:atI ds i=some d):∃ v,atI vs i=some v∧Rep K F v d:=by
 unfold L2.atI at h ⊢
 rw[r.length]
 cases q:ixN ds.length i with
 | none=>rw[q] at h;cases h
 | some j=>
  rw[q,Ya] at h
  obtain⟨v,h1,h2⟩:=r.get h
  exact⟨v,h1,h2⟩
def ixD:D→D→Option D
 | .lst ds,.int i=>atI ds i
 | .tup ds,.int i=>atI ds i
 | .str z,.int i=>if z.length≤16777216 then (atI z.cps.toList i).map fun c=>.str ⟨#[c]⟩ else none
 | _,_=>none
theorem zz {K:Kq}:je K (rIx K) ixD:=by
 intro P F H ρ σ x y dx dy d Q hf I rx ry k
 unfold ixD at hf
 split at hf
 ·obtain⟨p,vs,rfl,h1,h2⟩:=eF I rx
  obtain⟨v,h3,h4⟩:=h2.atI hf
  exact .inl ⟨p,vs,_,v,rfl,cR ry,h1,h3,k v F H (Evo.refl I.toDHp) h4⟩
 ·obtain⟨p,vs,rfl,h1,h2⟩:=gY I rx
  obtain⟨v,h3,h4⟩:=h2.atI hf
  exact .inr (.inl ⟨p,vs,_,v,rfl,cR ry,h1,h3,k v F H (Evo.refl I.toDHp) h4⟩)
 ·split at hf
  ·rename_i z i hz
   cases q:atI z.cps.toList i with
   | none=>rw[q] at hf;cases hf
   | some c=>
    rw[q] at hf
    cases hf
    exact .inr (.inr ⟨z,i,c,gi rx,cR ry,by rw[YK];exact hz,q,k _ F H (Evo.refl I.toDHp) .str⟩)
  ·cases hf
 ·cases hf
theorem bj {fa fb:Dd}(ha:PDR X a fa)(hb:PDR X b fb)(hs:mm b:=by exact fun _ _=>rfl):PDE X (.Subscript a b pos) (d2 ixD fa fb):=(zu uk ha hb hs).imp (mG zz)
def Ch:R2:=fun x y H Q=>(∃ i j,x=.int i∧y=.int j∧Q (.int (i+j)) H)∨∃ i j,x=.str i∧y=.str j∧i.length+j.length≤sizeLine∧Q (.str (i++j)) H
theorem DJ {fa fb:Dd}(ha:PDR X a fa)(hb:PDR X b fb):PDE X (.Compare a [.Gt] [b] pos) (d2 gtI fa fb):=Az zM (mq fun _ _ _=>.bl) ha hb (fz _)
theorem jp {fa fb:Dd}(ha:PDR X a fa)(hb:PDR X b fb):PDT X (.Compare a [.Gt] [b] pos) (asB (d2 gtI fa fb)):=yp zM (mq fun _ _ _=>.bl) ha hb (fz _)
def dB (f g:Dk):DF→Option Bool:=fun ρ=>(f ρ).bind fun b=>if b=true then g ρ else some false
def orT (f g:Dk):DF→Option Bool:=fun ρ=>(f ρ).bind fun b=>if b=true then some true else g ρ
def dq (f:Dk):DF→Option Bool:=fun ρ=>(f ρ).map fun b=>!b
def PDW (X:Cx)(e:Expr)(f:Dk):Prop:=PW X e (tB' X.K f)
theorem PDW.t {f:Dk}(h:PDW X e f):PDT X e f:=PW.pt h
theorem PW.imp {t t':TT}(h:PW X e t)(i:∀ σ H Q,t' σ H Q→t σ H Q):PW X e t':=fun w pz s σ H Q I q=>h w pz s σ H Q I (i σ H Q q)
theorem eC {f:Dk}(h:PDT X a f):PDW X (.BoolOp .And [a] pos) f:=y6 h
theorem fH {f:Dk}(h:PDT X a f):PDW X (.BoolOp .Or [a] pos) f:=uQ h
theorem fQ {aE:List Expr}{f g:Dk}(ha:PDT X a f)(hb:PDW X (.BoolOp .And (b::aE) pos) g):PDW X (.BoolOp .And (a::b::aE) pos) (dB f g):=PW.imp (Bw ha hb) fun σ H Q=>un7 fun P F ρ r hf I k=>by
 unfold dB at hf
 cases q:f ρ with
 | none=>rw[q] at hf;cases hf
 | some x=>
  rw[q,Ya] at hf
  refine⟨P,F,ρ,x,q,I,fun F1 H1 e1=>?_⟩
  cases x with
  | true=>rw[Yh rfl] at hf ⊢;exact⟨P,F1,ρ,r,hf,I.evo e1,fun F2 H2 e2=>k F2 H2 (e1.trans e2)⟩
  | false=>rw[Yr Yp] at hf ⊢;cases hf;exact k F1 H1 e1
theorem eK {aE:List Expr}{f g:Dk}(ha:PDT X a f)(hb:PDW X (.BoolOp .Or (b::aE) pos) g):PDW X (.BoolOp .Or (a::b::aE) pos) (orT f g):=PW.imp (zv ha hb) fun σ H Q=>un7 fun P F ρ r hf I k=>by
 unfold orT at hf
 cases q:f ρ with
 | none=>rw[q] at hf;cases hf
 | some x=>
  rw[q,Ya] at hf
  refine⟨P,F,ρ,x,q,I,fun F1 H1 e1=>?_⟩
  cases x with
  | true=>rw[Yh rfl] at hf ⊢;cases hf;exact k F1 H1 e1
  | false=>rw[Yr Yp] at hf ⊢;exact⟨P,F1,ρ,r,hf,I.evo e1,fun F2 H2 e2=>k F2 H2 (e1.trans e2)⟩
theorem bU {f:Dk}(ha:PDT X a f):PDT X (.UnaryOp .Not a pos) (dq f):=(BW ha).imp fun σ H Q=>un7 fun P F ρ r hf I k=>by
 unfold dq at hf
 cases q:f ρ with
 | none=>rw[q] at hf;cases hf
 | some x=>rw[q] at hf;cases hf;exact⟨P,F,ρ,x,q,I,fun F1 H1 e1=>k F1 H1 e1⟩
def gy (f g:Dd):DF→Option D:=fun ρ=>match f ρ with
 | some (.bl true)=>g ρ
 | some (.bl false)=>some (.bl false)
 | _=>none
def orV (f g:Dd):DF→Option D:=fun ρ=>match f ρ with
 | some (.bl false)=>g ρ
 | some (.bl true)=>some (.bl true)
 | _=>none
def yb (f:Dd):DF→Option D:=fun ρ=>match f ρ with
 | some (.bl b)=>some (.bl (!b))
 | _=>none
theorem e7 {op}{f:Dd}(h:PDE X a f):PDE X (.BoolOp op [a] pos) f:=An h
theorem dW {aE:List Expr}{f g:Dd}(ha:PDE X a f)(hb:PDE X (.BoolOp .And (b::aE) pos) g):PDE X (.BoolOp .And (a::b::aE) pos) (gy f g):=(Aa ha hb).imp fun σ H Q=>un7 fun P F ρ r hf I k=>by
 unfold gy at hf
 split at hf
 ·rename_i q
  refine⟨P,F,ρ,_,q,I,fun v F1 H1 e1 r1=>?_⟩
  cases r1
  exact⟨true,rfl,by rw[Yh rfl];exact⟨P,F1,ρ,r,hf,I.evo e1,fun v F2 H2 e2 r2=>k v F2 H2 (e1.trans e2) r2⟩⟩
 ·rename_i q
  refine⟨P,F,ρ,_,q,I,fun v F1 H1 e1 r1=>?_⟩
  cases r1
  cases hf
  exact⟨false,rfl,by rw[Yr Yp];exact k _ F1 H1 e1 .bl⟩
 ·cases hf
theorem DT {aE:List Expr}{f g:Dd}(ha:PDE X a f)(hb:PDE X (.BoolOp .Or (b::aE) pos) g):PDE X (.BoolOp .Or (a::b::aE) pos) (orV f g):=(D4 ha hb).imp fun σ H Q=>un7 fun P F ρ r hf I k=>by
 unfold orV at hf
 split at hf
 ·rename_i q
  refine⟨P,F,ρ,_,q,I,fun v F1 H1 e1 r1=>?_⟩
  cases r1
  exact⟨false,rfl,by rw[Yr Yp];exact⟨P,F1,ρ,r,hf,I.evo e1,fun v F2 H2 e2 r2=>k v F2 H2 (e1.trans e2) r2⟩⟩
 ·rename_i q
  refine⟨P,F,ρ,_,q,I,fun v F1 H1 e1 r1=>?_⟩
  cases r1
  cases hf
  exact⟨true,rfl,by rw[Yh rfl];exact k _ F1 H1 e1 .bl⟩
 ·cases hf
theorem Bo {f:Dd}(ha:PDE X a f):PDE X (.UnaryOp .Not a pos) (yb f):=(AB ha).imp fun σ H Q=>un7 fun P F ρ r hf I k=>by
 unfold yb at hf
 split at hf
 ·rename_i q
  cases hf
  refine⟨P,F,ρ,_,q,I,fun v F1 H1 e1 r1=>?_⟩
  cases r1
  exact⟨_,rfl,k _ F1 H1 e1 .bl⟩
 ·cases hf
def ifV (c:Dk)(f g:Dd):DF→Option D:=fun ρ=>(c ρ).bind fun b=>if b=true then f ρ else g ρ
theorem uB {fc:Dk}{f g:Dd}(hc:PDT X c fc)(ha:PDE X a f)(hb:PDE X b g):PDE X (.IfExp c a b pos) (ifV fc f g):=(vp hc ha hb).imp fun σ H Q=>un7 fun P F ρ r hf I k=>by
 unfold ifV at hf
 cases q:fc ρ with
 | none=>rw[q] at hf;cases hf
 | some x=>
  rw[q,Ya] at hf
  refine⟨P,F,ρ,x,q,I,fun F1 H1 e1=>?_⟩
  cases x with
  | true=>rw[Yh rfl] at hf ⊢;exact⟨P,F1,ρ,r,hf,I.evo e1,fun v F2 H2 e2 r2=>k v F2 H2 (e1.trans e2) r2⟩
  | false=>rw[Yr Yp] at hf ⊢;exact⟨P,F1,ρ,r,hf,I.evo e1,fun v F2 H2 e2 r2=>k v F2 H2 (e1.trans e2) r2⟩
def CA (K:Kq)(r:List V→Hp→VK→Prop)(f:D→Option D):Prop:=
 ∀ (P F H:Hp) (ρ:DF) (σ:St) (x:V) (dx d:D) (Q:VK),f dx=some d→DInv K P F H ρ σ→RepS K H F x dx→(∀ v F' H',Evo P F H F' H'→Rep K F' v d→Q v H')→r [x] H Q
def d1 (f:D→Option D)(fa:Dd):DF→Option D:=fun ρ=>(fa ρ).bind f
theorem BI {K:Kq}{r:List V→Hp→VK→Prop}{f:D→Option D}{fa:Dd}(ho:CA K r f):∀ σ H Q,tD K (d1 f fa) σ H Q→tCB r (oh (tR K fa) oN) σ H Q:=fun σ H Q=>un7 fun P F ρ d hf I k=>by
 unfold d1 at hf
 cases ha:fa ρ with
 | none=>rw[ha] at hf;cases hf
 | some dx=>
  rw[ha,Ya] at hf
  exact⟨P,F,ρ,dx,ha,I,fun x F1 H1 e1 rx=>ho P F1 H1 ρ σ x dx d Q hf (I.evo e1) rx fun v F2 H2 e2 rv=>k v F2 H2 (e1.trans e2) rv⟩
def aM:D→Option D
 | .lst ds=>some (.int ds.length)
 | .tup ds=>some (.int ds.length)
 | .str z=>if z.length≤16777216 then some (.int z.length) else none
 | _=>none
def Cn (K:Kq):List V→Hp→VK→Prop:=fun xs H Q=>(∃ p ys,xs=[.ref p]∧(SqL K H p ys∨SqT K H p ys)∧Q (.int ys.length) H)∨∃ z,xs=[.str z]∧z.length≤sizeLine∧Q (.int z.length) H
end
mutual
def cA:D→PyData
 | .non=>.none
 | .bl b=>.bool b
 | .int i=>.int i
 | .str x=>.str x
 | .tup xs=>.tuple (cM xs)
 | .lst xs=>.list (cM xs)
 | .dT _=>.none
 | .dK _=>.none
 | .ins _ _=>.none
 | .fn _ _ _=>.none
def cM:List D→List PyData
 | []=>[]
 | d::ds=>cA d::cM ds
end
def okN:Nat→D→Bool
 | _,.non=>true
 | _,.bl _=>true
 | _,.int _=>true
 | _,.str x=>PyData.strOk x
 | n+1,.tup xs=>xs.all (okN n)
 | n+1,.lst xs=>xs.all (okN n)
 | _,_=>false
theorem bO {n:Nat}:∀ {ds:List D},ds.all (okN n)=true→∀ d∈ds,okN n d=true:=fun h d hd=>YG.mp h d hd
theorem cN:∀ (n:Nat) (d:D),okN n d=true→(cA d).canLay0=true∧(cA d).depth≤n+1:=by
 intro n
 induction n with
 | zero=>
  intro d h
  cases d with
  | non=>exact⟨rfl,by simp[cA,PyData.depth]⟩
  | bl b=>exact⟨rfl,by simp[cA,PyData.depth]⟩
  | int b=>exact⟨rfl,by simp[cA,PyData.depth]⟩
  | str b=>exact⟨h,by simp[cA,PyData.depth]⟩
  | _=>cases h
 | succ n ih=>
  have all:∀ ds:List D,ds.all (okN n)=true→PyData.canLayAll0 (cM ds)=true∧PyData.depthAll (cM ds)≤n+1:=by
   intro ds
   induction ds with
   | nil=>intro _;exact⟨rfl,by simp[cM,PyData.depthAll]⟩
   | cons x r ihr=>
    intro h
    rw[List.all_cons,Ys] at h
    obtain⟨h1,h2⟩:=ih x h.1
    obtain⟨h3,h4⟩:=ihr h.2
    refine⟨?_,?_⟩
    ·show (PyData.canLay0 (cA x)&&PyData.canLayAll0 (cM r))=true
     rw[h1,h3];rfl
    ·show PyData.depthAll (cA x::cM r)≤n+1
     simp only[PyData.depthAll]
     omega
  intro d h
  cases d with
  | non=>exact⟨rfl,by simp[cA,PyData.depth]⟩
  | bl b=>exact⟨rfl,by simp[cA,PyData.depth]⟩
  | int b=>exact⟨rfl,by simp[cA,PyData.depth]⟩
  | str b=>exact⟨h,by simp[cA,PyData.depth]⟩
  | tup xs=>
   obtain⟨h1,h2⟩:=all xs h
   exact⟨h1,by simp only[cA,PyData.depth];omega⟩
  | lst xs=>
   obtain⟨h1,h2⟩:=all xs h
   exact⟨h1,by simp only[cA,PyData.depth];omega⟩
  | _=>cases h
section
variable {X:Cx} {pz:Kp} {σ:St} {H:Hp} {s:Shared}
theorem Reps.readsOf {n:Nat}(ih:∀ {v:V} {d:D} {u:Value},Rep X.K H v d→okN n d=true→RelV v u→∃ as,Reads s.heap u (cA d) as){vs:List V}{ds:List D}(h:Reps X.K H vs ds):∀ us:List Value,(∀ d∈ds,okN n d=true)→Vals vs us→∃ as,ReadsAll s.heap us (cM ds) as:=
 Reps.ind (M:=fun vs ds=>∀ us:List Value,(∀ d∈ds,okN n d=true)→Vals vs us→∃ as,ReadsAll s.heap us (cM ds) as) (fun us _ r=>by cases r;exact⟨_,.nil⟩) (fun h _ i us ho r=>by
  cases r with
  | cons r t=>
   obtain⟨a1,r1⟩:=ih h (ho _ Yf) r
   obtain⟨a2,r2⟩:=i _ (fun d hd=>ho d (Yd _ hd)) t
   exact⟨_,.cons r1 r2⟩) h
theorem Rep.reads1 (I:Inv X pz σ H s)(n:Nat)(ih:∀ m,n=m+1→∀ {v:V} {d:D} {u:Value},Rep X.K H v d→okN m d=true→RelV v u→∃ as,Reads s.heap u (cA d) as){v:V}{d:D}{u:Value}(h:Rep X.K H v d)(ho:okN n d=true)(r:RelV v u):∃ as,Reads s.heap u (cA d) as:=by
 cases h with
 | non=>cases (show u=Value.none from r);exact⟨_,.none⟩
 | bl=>cases (show u=Value.bool _ from r);exact⟨_,.bool _⟩
 | int=>obtain⟨t,rfl⟩:=(show ∃ t,u=Value.int _ t from r);exact⟨_,.int _ _⟩
 | str=>obtain⟨t,rfl⟩:=(show ∃ t,u=Value.str _ t from r);exact⟨_,.str _ _⟩
 | tup h q=>
  cases n with
  | zero=>cases ho
  | succ m=>
   cases (show u=Value.ref _ from r)
   obtain⟨its,rv,ht,_⟩:=I.tuple (SqT.of h)
   obtain⟨as,ra⟩:=Reps.readsOf (ih m rfl) q _ (bO ho) rv
   obtain⟨o,h1,h2,m,h3⟩:=ht
   exact⟨_,.tuple h1 h2 h3 (by simpa using ra)⟩
 | lst h q=>
  cases n with
  | zero=>cases ho
  | succ m=>
   cases (show u=Value.ref _ from r)
   obtain⟨its,rv,ht,_⟩:=I.list h
   obtain⟨as,ra⟩:=Reps.readsOf (ih m rfl) q _ (bO ho) rv
   obtain⟨o,m,h1,h2,_,h3⟩:=ht
   exact⟨_,.list h1 h2 h3 (by simpa using ra)⟩
 | _=>cases n <;> cases ho
theorem Rep.reads (I:Inv X pz σ H s)(n:Nat):∀ {v:V} {d:D} {u:Value},Rep X.K H v d→okN n d=true→RelV v u→∃ as,Reads s.heap u (cA d) as:=by
 induction n with
 | zero=>exact fun h ho r=>Rep.reads1 I 0 (fun m e=>by cases e) h ho r
 | succ n ih=>exact fun h ho r=>Rep.reads1 I (n+1) (fun m e=>by cases e;exact ih) h ho r
end
def eqd (x y:D):Bool:=PyData.eqv (cA x) (cA y)
def eqD (x y:D):Option D:=if (okN 30 x&&okN 30 y)=true then some (.bl (eqd x y)) else none
def neD (x y:D):Option D:=if (okN 30 x&&okN 30 y)=true then some (.bl (!eqd x y)) else none
def yu (K:Kq)(g:Bool→Bool):R2:=fun x y H Q=>∃ dx dy,Rep K H x dx∧Rep K H y dy∧okN 30 dx=true∧okN 30 dy=true∧Q (.bl (g (eqd dx dy))) H
section
variable {X:Cx} {e a b c:Expr} {es:List Expr} {pos:Pos}
theorem pU (hu:X.A.units+64<cLine):OpR X (compareOp .Eq) (yu X.K fun b=>b):=by
 intro pz s σ H x y v u Q I rx ry h
 obtain⟨dx,dy,h1,h2,o1,o2,q⟩:=h
 obtain⟨a1,r1⟩:=h1.reads I 30 o1 rx
 obtain⟨a2,r2⟩:=h2.reads I 30 o2 ry
 obtain⟨l1,p1⟩:=cN 30 dx o1
 obtain⟨l2,p2⟩:=cN 30 dy o2
 refine PySem.SeqAt.compareEq_shaped r1 r2 ?_ ?_ hu ⟨.bl _,H,I,rfl,q⟩
 ·unfold PySem.SeqAt.shaped;rw[l1,XO,YB];omega
 ·unfold PySem.SeqAt.shaped;rw[l2,XO,YB];omega
theorem uW (hu:X.A.units+64<cLine):OpR X (compareOp .NotEq) (yu X.K fun b=>!b):=by
 intro pz s σ H x y v u Q I rx ry h
 obtain⟨dx,dy,h1,h2,o1,o2,q⟩:=h
 obtain⟨a1,r1⟩:=h1.reads I 30 o1 rx
 obtain⟨a2,r2⟩:=h2.reads I 30 o2 ry
 obtain⟨l1,p1⟩:=cN 30 dx o1
 obtain⟨l2,p2⟩:=cN 30 dy o2
 refine PySem.SeqAt.compareNe_shaped r1 r2 ?_ ?_ hu ⟨.bl _,H,I,rfl,q⟩
 ·unfold PySem.SeqAt.shaped;rw[l1,XO,YB];omega
 ·unfold PySem.SeqAt.shaped;rw[l2,XO,YB];omega
theorem o8 {K:Kq}:OpN2 K (yu K fun b=>b) eqD:=by
 intro P F H x y dx dy d Q hf hp rx ry k
 unfold eqD at hf
 split at hf
 ·rename_i h
  rw[Ys] at h
  cases hf
  exact⟨dx,dy,rx,ry,h.1,h.2,k _ F H (Evo.refl hp) .bl⟩
 ·cases hf
theorem vg {K:Kq}:OpN2 K (yu K fun b=>!b) neD:=by
 intro P F H x y dx dy d Q hf hp rx ry k
 unfold neD at hf
 split at hf
 ·rename_i h
  rw[Ys] at h
  cases hf
  exact⟨dx,dy,rx,ry,h.1,h.2,k _ F H (Evo.refl hp) .bl⟩
 ·cases hf
theorem qU {fa fb:Dd}(hu:X.A.units+64<cLine)(ha:PDN X a fa)(hb:PDN X b fb):PDE X (.Compare a [.Eq] [b] pos) (d2 eqD fa fb):=v3 (pU hu) o8 ha hb (fz _)
theorem zk {fa fb:Dd}(hu:X.A.units+64<cLine)(ha:PDN X a fa)(hb:PDN X b fb):PDE X (.Compare a [.NotEq] [b] pos) (d2 neD fa fb):=v3 (uW hu) vg ha hb (fz _)
theorem dh {fa fb:Dd}(hu:X.A.units+64<cLine)(ha:PDN X a fa)(hb:PDN X b fb):PDT X (.Compare a [.Eq] [b] pos) (asB (d2 eqD fa fb)):=iT (pU hu) o8 ha hb (fz _)
theorem tT {fa fb:Dd}(hu:X.A.units+64<cLine)(ha:PDN X a fa)(hb:PDN X b fb):PDT X (.Compare a [.NotEq] [b] pos) (asB (d2 neD fa fb)):=iT (uW hu) vg ha hb (fz _)
def dD:D→Option (List D)
 | .lst ds=>some ds
 | .tup ds=>some ds
 | _=>none
def inD (x y:D):Option D:=(dD y).bind fun ds=>if (okN 30 x&&ds.all (okN 29))=true then some (.bl (ds.any fun z=>eqd z x)) else none
def DM (K:Kq)(g:Bool→Bool):R2:=fun x y H Q=>∃ dx dy ds,Rep K H x dx∧Rep K H y dy∧dD dy=some ds∧okN 30 dx=true∧ds.all (okN 29)=true∧Q (.bl (g (ds.any fun z=>eqd z dx))) H
theorem ii (x:D):∀ ds:List D,(cM ds).any (fun y=>PyData.eqv y (cA x))=ds.any fun z=>eqd z x
 | []=>rfl
 | d::ds=>by
  show ((PyData.eqv (cA d) (cA x))||(cM ds).any _)=_
  rw[ii x ds]
  rfl
theorem AY (hu:X.A.units+64<cLine):OpR X (compareOp .In) (DM X.K fun b=>b):=by
 intro pz s σ H x y v u Q I rx ry h
 obtain⟨dx,dy,ds,h1,h2,hi,o1,o2,q⟩:=h
 obtain⟨a1,r1⟩:=h1.reads I 30 o1 rx
 obtain⟨l1,p1⟩:=cN 30 dx o1
 have hm:min (PyData.depthAll (cM ds)) (cA dx).depth≤31:=YQ (Nat.min_le_right _ _) p1
 cases dy with
 | lst xs=>
  cases hi
  obtain⟨a2,r2⟩:=h2.reads I 30 (d:=.lst ds) o2 ry
  obtain⟨l2,p2⟩:=cN 30 (.lst ds) o2
  exact PySem.SeqAt.in_list_reads r2 r1 l2 l1 (by omega) ⟨.bl _,H,I,(by show Value.bool _=Value.bool _;rw[ii]),q⟩
 | tup xs=>
  cases hi
  obtain⟨a2,r2⟩:=h2.reads I 30 (d:=.tup ds) o2 ry
  obtain⟨l2,p2⟩:=cN 30 (.tup ds) o2
  exact PySem.SeqAt.in_tuple_reads r2 r1 l2 l1 (by omega) ⟨.bl _,H,I,(by show Value.bool _=Value.bool _;rw[ii]),q⟩
 | _=>cases hi
theorem BF {K:Kq}:OpN2 K (DM K fun b=>b) inD:=by
 intro P F H x y dx dy d Q hf hp rx ry k
 unfold inD at hf
 cases q:dD dy with
 | none=>rw[q] at hf;cases hf
 | some ds=>
  rw[q,Ya] at hf
  split at hf
  ·rename_i h
   rw[Ys] at h
   cases hf
   exact⟨dx,dy,ds,rx,ry,q,h.1,h.2,k _ F H (Evo.refl hp) .bl⟩
  ·cases hf
theorem CQ {fa fb:Dd}(hu:X.A.units+64<cLine)(ha:PDN X a fa)(hb:PDN X b fb)(hm:behindInMarks .In b=false:=by with_unfolding_all rfl):PDT X (.Compare a [.In] [b] pos) (asB (d2 inD fa fb)):=iT (AY hu) BF ha hb hm
end
section
variable {X:Cx} {tg e a b l:Expr} {pos p:Pos}
def iF (f:Dd):DF→Option (List D):=fun ρ=>match f ρ with
 | some (.lst ds)=>some ds
 | _=>none
theorem t6 {f:Dd}{ρ:DF}{ds:List D}(h:iF f ρ=some ds):f ρ=some (.lst ds):=by
 unfold iF at h
 split at h
 ·rename_i q;cases h;exact q
 ·cases h
theorem kj {K:Kq}{P F:Hp}{a:Addr}{vs:List V}{ds:List D}(h:SqL K F a vs)(r:Reps K F vs ds):xa K P (Itl K a) F ds:=by
 intro F' H' e hp i
 have hv:SqL K H' a vs:=hp.sub.seq (e.seq h)
 refine⟨fun d hd=>?_,fun hl=>⟨vs,hv,by rw[r.length];exact hl⟩⟩
 obtain⟨v,h1,h2⟩:=r.get hd
 refine⟨⟨vs,v,hv,h1⟩,fun x H2 hy=>?_⟩
 obtain⟨rfl,hx⟩:=hy
 have:=hx vs hv
 rw[h1] at this
 cases this
 exact⟨F',Evo.refl hp,h2.same e⟩
theorem lw {f:Dd}(h:PDE X l f):PDI X tg l (iF f):=PI.imp (qZ h) fun σ H R=>un7 fun P F ρ ds hf I k=>by
 refine⟨P,F,ρ,_,t6 hf,I,fun v F' H' ev rv=>?_⟩
 cases rv with
 | lst h1 h2=>exact⟨_,rfl,⟨_,ev.hp.sub.seq h1⟩,k _ F' H' ev (kj h1 h2)⟩
def fE (i:Nat):DF→Option (List D):=fun ρ=>match ρ[i]? with
 | some (some (.bor (.lst ds)))=>some ds
 | some (some (.v (.lst ds)))=>some ds
 | _=>none
theorem wt {K:Kq}{P F:Hp}{a:Addr}{vs:List V}{ds:List D}(h:P a=some (.lst vs))(r:Reps K F vs ds):xa K P (Itl K a) F ds:=by
 intro F' H' e hp i
 have hv:SqL K H' a vs:=SqL.of (hp.pro _ _ h)
 refine⟨fun d hd=>?_,fun hl=>⟨vs,hv,by rw[r.length];exact hl⟩⟩
 obtain⟨v,h1,h2⟩:=r.get hd
 refine⟨⟨vs,v,hv,h1⟩,fun x H2 hy=>?_⟩
 obtain⟨rfl,hx⟩:=hy
 have:=hx vs hv
 rw[h1] at this
 cases this
 exact⟨F',Evo.refl hp,h2.same e⟩
theorem yx (i:Nat)(h:PE X l (ce i)):PDI X tg l (fE i):=PI.imp (qZ h) fun σ H R=>un7 fun P F ρ ds hf I k=>by
 unfold fE at hf
 split at hf
 ·rename_i ds' q
  cases hf
  obtain⟨v,h1,a,rfl,_,u,h3,h4⟩:=I.at q
  cases u with
  | lst vs=>exact⟨_,h1,a,rfl,⟨vs,SqL.of (I.pro _ _ h3)⟩,k _ F H (Evo.refl I.toDHp) (wt h3 h4)⟩
  | _=>exact h4.elim
 ·rename_i ds' q
  cases hf
  obtain⟨v,h1,h2⟩:=I.at q
  cases h2 with
  | lst h3 h4=>exact⟨_,h1,_,rfl,⟨_,I.sub.seq h3⟩,k _ F H (Evo.refl I.toDHp) (kj h3 h4)⟩
 ·cases hf
def eN (lo:Int)(n:Nat):List D:=(List.range n).map fun i:Nat=>.int (lo+(i:Int))
theorem o3 {lo:Int}{n i:Nat}{d:D}(h:(eN lo n)[i]?=some d):i<n∧d=.int (lo+(i:Int)):=by
 unfold eN at h
 rw[YH] at h
 by_cases hi:i<n
 ·rw[List.getElem?_range hi,ZB] at h
  cases h
  exact⟨hi,rfl⟩
 ·rw[Xt (by rw[Xo];omega)] at h
  cases h
theorem pF (lo:Int)(n:Nat):(eN lo n).length=n:=by unfold eN;rw[Yb,Xo]
theorem oP {K:Kq}{P F:Hp}(lo:Int)(n:Nat):xa K P (Itr lo n) F (eN lo n):=by
 intro F' H' e hp i
 refine⟨fun d hd=>?_,fun hl=>by rw[pF] at hl;exact hl⟩
 obtain⟨hi,rfl⟩:=o3 hd
 refine⟨hi,fun x H2 hy=>?_⟩
 obtain⟨rfl,rfl⟩:=hy
 exact⟨F',Evo.refl hp,.int⟩
def jX (f:Dd):DF→Option (List D):=fun ρ=>match f ρ with
 | some (.int j)=>if -(2 ^ 62)≤j∧j<2 ^ 62 then some (eN 0 j.toNat) else none
 | _=>none
theorem eQ {f:Dd}(hg:Gl X "range")(hm:X.mg "range"=none)(ha:PDR X a f)(hs:starEach [a] X.env=[(false,eval a X.env)]:=by rfl):PDI X tg (.Call (.Name "range" p) [a] [] pos) (jX f):=
 PI.imp (tj hg hm (aH ha a9 hs) hs) fun σ H R=>un7 fun P F ρ ds hf I k=>by
  unfold jX at hf
  split at hf
  ·rename_i j q
   split at hf
   ·rename_i hj
    cases hf
    refine⟨P,F,ρ,_,q,I,fun v F1 H1 e1 r1=>⟨j,by rw[cR r1],hj.1,hj.2,k _ F1 H1 e1 (oP 0 _)⟩⟩
   ·cases hf
  ·cases hf
def qL:List Nat→List D→DF→Option DF
 | [],[],ρ=>some ρ
 | i::is,d::ds,ρ=>qL is ds (ρ.set i (some (.v d)))
 | _,_,_=>none
def gw (is:List Nat)(d:D)(ρ:DF):Option DF:=match d with
 | .tup ds=>qL is ds ρ
 | _=>none
def pH:List Nat→TGs
 | []=>CV
 | i::is=>zp (kb i) (pH is)
theorem k4 {K:Kq}{P F H:Hp}{Q:St→Hp→Prop}:∀ (is:List Nat) (vs:List V) (ds:List D) (ρ ρ':DF) (σ:St),Reps K F vs ds→qL is ds ρ=some ρ'→DInv K P F H ρ σ→
  (∀ σ',DInv K P F H ρ' σ'→σ'.length=σ.length→(∀ j,j∉is→σ'[j]?=σ[j]?)→Q σ' H)→pH is vs σ H Q
 | [],vs,ds,ρ,ρ',σ,r,hs,I,k=>by
  cases r with
  | nil=>cases hs;exact⟨rfl,k σ I rfl fun _ _=>rfl⟩
  | cons _ _=>cases hs
 | i::is,vs,ds,ρ,ρ',σ,r,hs,I,k=>by
  cases r with
  | nil=>cases hs
  | cons h q=>
   refine⟨_,_,rfl,k4 is _ _ _ ρ' _ q hs (I.setV i h) fun σ' I' hl hj=>k σ' I' (by rw[hl,YZ]) fun j hn=>?_⟩
   rw[hj j (fun z=>hn (Yd _ z)),Zi (fun z=>hn (by rw[z];exact Yf))]
theorem kN:∀ (is:List Nat) (ds:List D) (ρ ρ':DF),qL is ds ρ=some ρ'→ds.length=is.length
 | [],[],_,_,_=>rfl
 | [],_::_,_,_,h=>by cases h
 | _::_,[],_,_,h=>by cases h
 | i::is,d::ds,ρ,ρ',h=>by rw[Yg,Yg,kN is ds _ _ h]
theorem gM {es:List Expr}{k:Nat}{is:List Nat}(hc:X.calm=true)(h:PGs X es (pH is))(hn:(assignEach es X.env).length=is.length:=by rfl)(hst:(assignEach es X.env).findIdx? (·.1)=none:=by rfl):PDG X (.Tuple es k pos) is (gw is):=
 PG.imp (Aq (n:=is.length) hc h hn hst) fun v σ H Q hh_=>by
  obtain⟨P,F,ρ,d,ρ',hs,I,r,kk⟩:=hh_
  cases d with
  | tup ds=>
   cases r with
   | tup h1 h2=>
    exact⟨_,_,rfl,SqT.of (I.sub _ _ h1),by rw[h2.length];exact kN is ds ρ ρ' hs,k4 is _ ds ρ ρ' σ h2 hs I fun σ' I' hl hj=>kk σ' F H (Evo.refl I.toDHp) I' hl hj⟩
  | _=>cases hs
def qG (is:List Nat)(f:Dd):DF→Option RES:=fun ρ=>(f ρ).bind fun d=>(gw is d ρ).map .nx
theorem wW {es:List Expr}{k:Nat}{pos':Pos}{is:List Nat}{f:Dd}(hg:PDG X (.Tuple es k pos') is (gw is))(he:PDE X e f)(hs:swapsWithSole [.Tuple es k pos'] e pos.line X.env=pure false:=by rfl)(hw:swappedStores [.Tuple es k pos'] e X.env=pure none:=by rfl)
  (h1:(assignEach [.Tuple es k pos'] X.env).map (·.2)=[assign (.Tuple es k pos') X.env]:=by rfl):PD1 X (.Assign [.Tuple es k pos'] e pos) (qG is f):=PS.imp (ve he hg hs hw h1) fun E σ H=>un7 fun P F ρ r hr I kk=>by
 unfold qG at hr
 cases q:f ρ with
 | none=>rw[q] at hr;cases hr
 | some d=>
  rw[q,Ya] at hr
  cases q2:gw is d ρ with
  | none=>rw[q2] at hr;cases hr
  | some ρ'=>
   rw[q2] at hr
   cases hr
   exact⟨P,F,ρ,d,q,I,fun v F1 H1 e1 r1=>⟨P,F1,ρ,d,ρ',q2,I.evo e1,r1,fun σ' F2 H2 e2 I2 _ _=>kk σ' F2 H2 (e1.ext.trans e2.ext) I2⟩⟩
end
theorem DInv.mut {K:Kq}{P F H:Hp}{ρ:DF}{σ:St}(I:DInv K P F H ρ σ){i:Nat}{o o':OD}{t:Option Addr}{a:Addr}{u:HO}(h:ρ[i]?=some (some (.own o t)))(hf:o.flat=true)(hf':o'.flat=true)(hs:σ[i]?=some (some (.ref a)))(hr:ORep1 K F o' u) :
  DInv K P F (upd H a u) (ρ.set i (some (.own o' t))) σ:=by
 obtain⟨O,hR⟩:=I.rep
 obtain⟨v,h1,b,rfl,h2,ht⟩:=hR i _ h
 rw[hs] at h1;cases h1
 obtain⟨⟨q1,q2,q3⟩,u',q4,_⟩:=(ORep.flat hf).mp h2
 refine⟨⟨fun c w e=>by rw[ay (bb e q1)];exact I.sub c w e,fun c w e=>by rw[ay (bb e q2)];exact I.pro c w e,I.dis⟩,by rw[YZ];exact I.len,O,fun j z hj=>?_⟩
 rcases dN hj with⟨rfl,e,hl⟩ | ⟨hij,hj'⟩
 ·cases e
  exact⟨_,hs,a,rfl,(ORep.flat hf').mpr ⟨⟨q1,q2,q3⟩,u,aw,hr⟩,ht⟩
 ·obtain⟨w,e1,e2⟩:=hR j z hj'
  refine⟨w,e1,?_⟩
  cases z with
  | v d'=>exact e2
  | own od t'=>(obtain⟨c,rfl,e3,ht'⟩:=e2;exact⟨c,rfl,e3.mono (Same.refl _) fun b w' q hb=>⟨by rw[ay (fun z=>by subst z;rw[q.2.2] at q3;exact hij (Yq q3).symm)];exact hb,q⟩,ht'⟩)
  | bor od=>exact e2
section
variable {X:Cx} {o e:Expr} {pos apos cpos:Pos}
def jn (i:Nat)(f:Dd):DF→Option RES:=fun ρ=>match ρ[i]? with
 | some (some (.own (.lst ds) t))=>(f ρ).bind fun d=>if ds.length<16777216 then some (.nx (ρ.set i (some (.own (.lst (ds++[d])) t)))) else none
 | _=>none
theorem jb {K:Kq}{P F H:Hp}{ρ:DF}{σ:St}(I:DInv K P F H ρ σ){i:Nat}{ds:List D}{t:Option Addr}(q:ρ[i]?=some (some (.own (.lst ds) t))):∃ a vs,σ[i]?=some (some (.ref a))∧F a=none∧P a=none∧H a=some (.lst vs)∧Reps K F vs ds:=by
 obtain⟨v,h1,a,rfl,⟨⟨q1,q2,_⟩,u,q3,q4⟩,_⟩:=I.at q
 cases u with
 | lst vs=>exact⟨a,vs,h1,q1,q2,q3,q4⟩
 | _=>exact q4.elim
theorem ig (i:Nat){f:Dd}(h:PE X o (ce i))(ha:PDE X e f)(hbase:attributeBase o "append" X.env (eval o X.env)=eval o X.env:=by rfl)
  (hfew:((backTo cpos (starEach [e] X.env)).all (fun x=>!x.1)&&(backToKw cpos (keywordEach [] X.env)).all (fun x=>x.1.isSome)
   && decide (([e]:List Expr).length+([]:List Keyword).length+(if ([]:List Keyword).isEmpty then 0 else 1)<30))=true:=by rfl)
  (hline:(apos.endLine == cpos.line)=true:=by rfl) (hs:starEach [e] X.env=[(false,eval e X.env)]:=by rfl) (hsw:swapsWith (.Call (.Attribute o "append" apos) [e] [] cpos) none pos.line X.env=pure false:=by rfl) :
  PD1 X (.Expr (.Call (.Attribute o "append" apos) [e] [] cpos) pos) (jn i f):=
 PS.imp (c_ (iC YX ZJ ZK ee h (aH ha a9 hs) hbase hfew hline hs rfl) hsw) fun E σ H=>un7 fun P F ρ r hr I k=>by
  unfold jn at hr
  split at hr
  ·rename_i ds t q
   cases q2:f ρ with
   | none=>rw[q2] at hr;cases hr
   | some d=>
    rw[q2,Ya] at hr
    split at hr
    ·rename_i hl
     cases hr
     obtain⟨a,vs,h1,h2,h3,h4,h5⟩:=jb I q
     refine⟨_,h1,.inl ⟨rfl,vs,SqL.of h4⟩,P,F,ρ,d,q2,I,fun v F1 H1 e1 r1=>?_⟩
     obtain⟨k1,k2⟩:=e1.keep a _ h4 h2
     have I1:=I.evo e1
     refine⟨a,vs,v,rfl,rfl,k1,by rw[YK,h5.length];exact hl,k σ F1 _ e1.ext ?_⟩
     exact I1.mut (o':=.lst _) (u:=.lst _) q rfl rfl h1 ((h5.same e1.ext).append (.one r1))
    ·cases hr
  ·cases hr
def js (i:Nat)(f g:Dd):DF→Option RES:=fun ρ=>match ρ[i]? with
 | some (some (.own (.lst ds) t))=>(g ρ).bind fun d=>(f ρ).bind fun
  | .int k=>(ixN ds.length k).map fun j=>.nx (ρ.set i (some (.own (.lst (ds.set j d)) t)))
  | _=>none
 | _=>none
theorem oG (i:Nat){ix:Expr}{f g:Dd}(h:PE X o (ce i))(hf:PDE X ix f)(hg:PDE X e g)
  (ha:∀ v,assign (.Subscript o ix apos) X.env v=(do
   let ov ← holding [v] (eval o X.env)
   let iv ← holding [v,ov] (eval ix X.env)
   standAt apos
   holding [v,ov,iv] (setItem ov iv v)
   release [v,ov,iv] []):=by intro _;rfl) (hs:swapsWithSole [.Subscript o ix apos] e pos.line X.env=pure false:=by rfl) (hw:swappedStores [.Subscript o ix apos] e X.env=pure none:=by rfl)
  (h1:(assignEach [.Subscript o ix apos] X.env).map (·.2)=[assign (.Subscript o ix apos) X.env]:=by rfl) :
  PD1 X (.Assign [.Subscript o ix apos] e pos) (js i f g):=
 PS.imp (ve hg (Bt h hf vS ha) hs hw h1) fun E σ H=>un7 fun P F ρ r hr I k=>by
  unfold js at hr
  split at hr
  ·rename_i ds t q
   cases q2:g ρ with
   | none=>rw[q2] at hr;cases hr
   | some d=>
    rw[q2,Ya] at hr
    cases q3:f ρ with
    | none=>rw[q3] at hr;cases hr
    | some dk=>
     rw[q3,Ya] at hr
     cases dk with
     | int kk=>
      dsimp only at hr
      cases q4:ixN ds.length kk with
      | none=>rw[q4] at hr;cases hr
      | some j=>
       rw[q4] at hr
       cases hr
       obtain⟨a,vs,h1,h2,h3,h4,h5⟩:=jb I q
       refine⟨P,F,ρ,d,q2,I,fun v F1 H1 e1 r1=>⟨_,h1,P,F1,ρ,_,q3,I.evo e1,fun w F2 H2 e2 r2=>?_⟩⟩
       cases r2
       have e12:=e1.trans e2
       obtain⟨k1,k2⟩:=e12.keep a _ h4 h2
       refine⟨a,vs,kk,j,rfl,rfl,k1,by rw[h5.length];exact q4,k σ F2 _ e12.ext ?_⟩
       exact (I.evo e12).mut (o':=.lst _) (u:=.lst _) q rfl rfl h1 ((h5.same e12.ext).set (r1.same e2.ext) j)
     | _=>cases hr
  ·cases hr
end
mutual
def ltD:D→D→Bool
 | .int i,.int j=>decide (i<j)
 | .bl a,.bl b=>!a&&b
 | .str x,.str y=>decide (x.cps.toList<y.cps.toList)
 | .tup xs,.tup ys=>bS xs ys
 | _,_=>false
def bS:List D→List D→Bool
 | [],[]=>false
 | [],_::_=>true
 | _::_,[]=>false
 | x::xs,y::ys=>if eqd x y=true then bS xs ys else ltD x y
end
mutual
def aq:D→D→Bool
 | .int _,.int _=>true
 | .bl _,.bl _=>true
 | .str _,.str _=>true
 | .tup xs,.tup ys=>bA xs ys
 | _,_=>false
def bA:List D→List D→Bool
 | x::xs,y::ys=>aq x y&&bA xs ys
 | _,_=>true
end
def wd (A:Around)(s:Shared)(y x:Value)(b:Bool):Prop:=
 ∀ (prog:Program) (w:World) (E:Kv) (Q:Kv),Q (.bool b) s→wpAny (model prog w) A (richCompare .Lt y x) Q E s
inductive LexOk (A:Around) (s:Shared):List Value→List Value→List D→List D→Prop
 | nl {ws:List Value} {es:List D}:ws.length=es.length→LexOk A s [] ws [] es
 | nr {vs:List Value} {ds:List D}:vs.length=ds.length→LexOk A s vs [] ds []
 | cons {v w:Value} {d e:D} {vs ws:List Value} {ds es:List D}:SeqAt.EqAt A s v w (eqd d e)→(eqd d e=false→wd A s v w (ltD d e))→LexOk A s vs ws ds es→LexOk A s (v::vs) (w::ws) (d::ds) (e::es)
theorem LexOk.len {A:Around}{s:Shared}{vs ws:List Value}{ds es:List D}(h:LexOk A s vs ws ds es):vs.length=ds.length∧ws.length=es.length:=by
 induction h with
 | nl h=>exact⟨rfl,h⟩
 | nr h=>exact⟨h,rfl⟩
 | cons _ _ _ ih=>exact⟨YN Nat.succ ih.1,YN Nat.succ ih.2⟩
section
open PySem.SeqAt
open PySem.AutoSeq1 (wpAny_loadPart')
open PySem.MeetsSeq PySem.MeetsSeq2 PySem.MeetsSeq3
theorem lQ (l b:Addr)(items dG:Array Value)(n n2:Nat)(dd dd2:Option Addr)(sl sl2:Array (Option Value))(ds es:List D) :
  Meets (Builtin.«tuple.__lt__» ⟨[.ref l,.ref b],[]⟩)
   (fun A R s=>LexOk A.in1 s items.toList dG.toList ds es∧s.heap.get? l=some { cls:=.type "tuple",dict:=dd,data:=.seq items n,slots:=sl }∧s.heap.get? b=some { cls:=.type "tuple",dict:=dd2,data:=.seq dG n2,slots:=sl2 } ∧
    R (.ok (.ret (.bool (bS ds es)))) s):=
 .of_wp fun prog w A R s h=>by
  obtain⟨hp,g,d,tk,os⟩:=s;obtain⟨hlex,hl,hb,h⟩:=h
  have f2:=AutoSeq1.sub_tuple_tuple
  have z1:items.size=ds.length:=by rw[← hlex.len.1];simp
  have z2:dG.size=es.length:=by rw[← hlex.len.2];simp
  wp_walk using ZU hl,ZU hb,wpAny_forIn_list _ (fun aE b s'=>b.1=none∧s'=⟨hp,g,d,tk,os⟩∧∃ (vs ws:List Value) (ds' es':List D),aE=vs.zip ws ∧
   LexOk A.in1 ⟨hp,g,d,tk,os⟩ vs ws ds' es'∧ds'.length+dG.size=es'.length+items.size∧R (.ok (.ret (.bool (bS ds' es')))) ⟨hp,g,d,tk,os⟩) _
  case turn=>
   rintro⟨y,x⟩ aE b s' ⟨hb',rfl,vs,ws,ds',es',hz,hx,hlen,hR⟩
   cases hx with
   | nl _=>rw[List.zip_nil_left] at hz;cases hz
   | nr _=>rw[List.zip_nil_right] at hz;cases hz
   | @cons v w' dd' ee' vs' ws' ds'' es'' he hlt hx'=>
    rw[XI] at hz
    injection hz with hyx hrest
    injection hyx with hy hxx
    subst hy hxx
    simp only[Yg] at hlen
    refine Yu (he prog w _ _ ?_)
    cases q:eqd dd' ee' with
    | true=>
     have hR':R (.ok (.ret (.bool (bS ds'' es'')))) ⟨hp,g,d,tk,os⟩:=by
      rw[bS,Yh q] at hR;exact hR
     wp_walk
     exact⟨rfl,rfl,_,_,_,_,hrest,hx',by omega,hR'⟩
    | false=>
     have hR':R (.ok (.ret (.bool (ltD dd' ee')))) ⟨hp,g,d,tk,os⟩:=by
      rw[bS,Yr (by rw[q];exact Yp)] at hR;exact hR
     have hri:=hlt q prog w
     wp_walk using hri
     exact⟨_,rfl,by simpa using hR'⟩
  case fin=>
   rintro⟨b1,b2⟩ s' ⟨hb',rfl,vs,ws,ds',es',hz,hx,hlen,hR⟩
   simp only at hb'
   subst hb'
   have hv:bS ds' es'=decide (items.size<dG.size):=by
    cases hx with
    | nl hw=>
     cases es' with
     | nil=>
      simp only[YW] at hlen
      rw[show bS [] []=false by simp[bS]]
      exact (Yk (by omega)).symm
     | cons c u=>
      simp only[YW,Yg] at hlen
      rw[show bS [] (c::u)=true by simp[bS]]
      exact (YF (by omega)).symm
    | nr hw=>
     cases ds' with
     | nil=>
      simp only[YW] at hlen
      rw[show bS [] []=false by simp[bS]]
      exact (Yk (by omega)).symm
     | cons c u=>
      simp only[YW,Yg] at hlen
      rw[show bS (c::u) []=false by simp[bS]]
      exact (Yk (by omega)).symm
    | cons _ _ _=>
     rw[XI] at hz
     cases hz
   rw[hv] at hR
   wp_walk
   exact⟨_,rfl,by simpa[Builtin.Tuple.tupleCompareSizes] using hR⟩
  case h=>
   exact⟨rfl,rfl,items.toList,dG.toList,ds,es,rfl,hlex,by omega,h⟩
end
theorem sM {A:Around}{s:Shared}{l b:Addr}{items dG:Array Value}{ds es:List D}(hl:IsTup s.heap l items)(hb:IsTup s.heap b dG)(hx:LexOk A.in1 s items.toList dG.toList ds es)(hu:A.units<cLine) :
  wd A s (.ref l) (.ref b) (bS ds es):=by
 intro prog w E Q h
 obtain⟨⟨cls,dd,data,sl⟩,ho,hc,n,hd⟩:=id hl
 obtain⟨⟨cls2,dd2,data2,sl2⟩,ho2,hc2,n2,hd2⟩:=id hb
 simp only at hc hd hc2 hd2
 subst hc hd hc2 hd2
 exact richCompare_meets_room (op:=.Lt) ⟨_,ho,rfl⟩ ⟨_,ho2,rfl⟩ PySem.F.slot_tuple_lt PySem.F.entry_tuple_lt (PySem.F.args_tuple_lt_2 _ _) (lQ l b items dG n n2 dd dd2 sl sl2 ds es)
  ⟨hx,ho,ho2,show Value.bool (bS ds es)≠Value.notImplemented∧Q (.bool (bS ds es)) s from ⟨(fun x=>nomatch x),h⟩⟩ hu
section
variable {X:Cx} {pz:Kp} {σ:St} {H:Hp} {s:Shared}
def gP:D→Bool
 | .tup _=>true
 | _=>false
theorem Rep.ltS (A:Around){x y:V}{d e:D}{u w:Value}(h1:Rep X.K H x d)(h2:Rep X.K H y e)(c:aq d e=true)(hd:gP d=false)(r1:RelV x u)(r2:RelV y w):wd A s u w (ltD d e):=by
 cases d with
 | int i=>
  cases e with
  | int j=>
   cases h1;cases h2
   obtain⟨t,rfl⟩:=(show ∃ t,u=Value.int _ t from r1)
   obtain⟨t',rfl⟩:=(show ∃ t,w=Value.int _ t from r2)
   intro prog w' E Q h
   exact HT.rcLt_int A s _ _ _ _ prog w' E Q (by rw[ltD] at h;exact h)
  | _=>exact absurd c Yp
 | bl b1=>
  cases e with
  | bl b2=>
   cases h1;cases h2
   cases (show u=Value.bool _ from r1)
   cases (show w=Value.bool _ from r2)
   intro prog w' E Q h
   exact (PyProof.Rows.lt_bool (by cases b1 <;> cases b2 <;> (rw[ltD] at h;exact h)):wpAny (model prog w') A (compareOp .Lt (.bool b1) (.bool b2)) Q E s)
  | _=>exact absurd c Yp
 | str x1=>
  cases e with
  | str x2=>
   cases h1;cases h2
   obtain⟨t,rfl⟩:=(show ∃ t,u=Value.str _ t from r1)
   obtain⟨t',rfl⟩:=(show ∃ t,w=Value.str _ t from r2)
   intro prog w' E Q h
   exact (PyProof.Rows.lt_str (by rw[ltD] at h;exact h):wpAny (model prog w') A (compareOp .Lt (.str x1 t) (.str x2 t')) Q E s)
  | _=>exact absurd c Yp
 | tup xs=>cases hd
 | _=>exact absurd c Yp
theorem Reps.lex (I:Inv X pz σ H s)(n:Nat)(A:Around)(hu:A.units+n+2<cLine)
  (ih:∀ {x y:V} {d e:D} {u w:Value},Rep X.K H x d→Rep X.K H y e→okN n d=true→okN n e=true→aq d e=true→RelV x u→RelV y w→wd A s u w (ltD d e)) :
  ∀ {xs ys:List V} {ds es:List D} {us ws:List Value},Reps X.K H xs ds→Reps X.K H ys es→(∀ d∈ds,okN n d=true)→(∀ d∈es,okN n d=true)→bA ds es=true→Vals xs us→Vals ys ws→LexOk A s us ws ds es:=by
 intro xs ys ds
 induction ds generalizing xs ys with
 | nil=>
  intro es us ws q1 q2 _ _ _ r1 r2
  cases q1;cases r1
  exact .nl (by rw[← r2.length,q2.length])
 | cons d ds ihd=>
  intro es us ws q1 q2 o1 o2 c r1 r2
  cases es with
  | nil=>
   cases q2;cases r2
   exact .nr (by rw[← r1.length,q1.length])
  | cons e es=>
   cases q1 with
   | cons h q=>
    cases q2 with
    | cons h' q'=>
     cases r1 with
     | cons r t=>
      cases r2 with
      | cons r' t'=>
       rw[bA,Ys] at c
       have a1:=o1 _ Yf
       have a2:=o2 _ Yf
       obtain⟨x1,p1⟩:=h.reads I n a1 r
       obtain⟨x2,p2⟩:=h'.reads I n a2 r'
       obtain⟨l1,m1⟩:=cN n _ a1
       obtain⟨l2,m2⟩:=cN n _ a2
       refine .cons (PySem.SeqAt.eqAt_reads _ _ A s _ _ _ _ p1 p2 l1 l2 ?_) (fun _=>ih h h' a1 a2 c.1 r r') (ihd q q' (fun d hd=>o1 d (Yd _ hd)) (fun d hd=>o2 d (Yd _ hd)) c.2 t t')
       have:min (cA d).depth (cA e).depth≤n+1:=YQ (Nat.min_le_left _ _) m1
       omega
theorem Rep.lt (I:Inv X pz σ H s):∀ (n:Nat) (A:Around),A.units+n+2<cLine→∀ {x y:V} {d e:D} {u w:Value},Rep X.K H x d→Rep X.K H y e→okN n d=true→okN n e=true→aq d e=true→RelV x u→RelV y w→wd A s u w (ltD d e):=by
 intro n
 induction n with
 | zero=>
  intro A hu x y d e u w h1 h2 o1 o2 c r1 r2
  refine h1.ltS A h2 c ?_ r1 r2
  cases d <;> first | rfl | (simp[okN] at o1)
 | succ n ihn=>
  intro A hu x y d e u w h1 h2 o1 o2 c r1 r2
  cases hd:gP d with
  | false=>exact h1.ltS A h2 c hd r1 r2
  | true=>
   cases d with
   | tup ds=>
    cases e with
    | tup es=>
     cases h1 with
     | tup h1 q1=>
      cases h2 with
      | tup h2 q2=>
       cases (show u=Value.ref _ from r1)
       cases (show w=Value.ref _ from r2)
       obtain⟨its1,rv1,ht1,_⟩:=I.tuple (SqT.of h1)
       obtain⟨its2,rv2,ht2,_⟩:=I.tuple (SqT.of h2)
       rw[ltD]
       have hu':A.in1.units+n+2<cLine:=by show A.units+1+n+2<cLine;omega
       exact sM ht1 ht2 (Reps.lex I n A.in1 hu' (ihn A.in1 hu') q1 q2 (bO o1) (bO o2) (by rw[aq] at c;exact c) rv1 rv2) (by omega)
    | _=>exact absurd c Yp
   | _=>cases hd
end
def ltd (x y:D):Option D:=if (okN 30 x&&okN 30 y&&aq x y)=true then some (.bl (ltD x y)) else none
def C2 (K:Kq):R2:=fun x y H Q=>∃ dx dy,Rep K H x dx∧Rep K H y dy∧okN 30 dx=true∧okN 30 dy=true∧aq dx dy=true∧Q (.bl (ltD dx dy)) H
section
variable {X:Cx} {a b:Expr} {pos:Pos}
theorem Bz (hu:X.A.units+64<cLine):OpR X (compareOp .Lt) (C2 X.K):=by
 intro pz s σ H x y v u Q I rx ry h
 obtain⟨dx,dy,h1,h2,o1,o2,c,q⟩:=h
 exact Rep.lt I 30 X.A (by omega) h1 h2 o1 o2 c rx ry X.prog X.w X.xe _ ⟨.bl _,H,I,rfl,q⟩
theorem AQ {K:Kq}:OpN2 K (C2 K) ltd:=by
 intro P F H x y dx dy d Q hf hp rx ry k
 unfold ltd at hf
 split at hf
 ·rename_i h
  rw[Ys,Ys] at h
  cases hf
  exact⟨dx,dy,rx,ry,h.1.1,h.1.2,h.2,k _ F H (Evo.refl hp) .bl⟩
 ·cases hf
theorem f9 {fa fb:Dd}(hu:X.A.units+64<cLine)(ha:PDN X a fa)(hb:PDN X b fb):PDT X (.Compare a [.Lt] [b] pos) (asB (d2 ltd fa fb)):=iT (Bz hu) AQ ha hb (fz _)
end
end L2
namespace L2
open PySem PySem.Spec PyProof.Rows PySem.W
def kok {α:Type}(n:Nat)(lt:Nat→Nat→Bool):KasT α→(α→Prop)→Prop
 | .ret a,Q=>Q a
 | .ask i j k,Q=>i<n∧j<n∧kok n lt (k (lt i j)) Q
theorem fF {α β:Type}{n:Nat}{lt:Nat→Nat→Bool}{f:α→KasT β}{Q:β→Prop}(t:KasT α):kok n lt t (fun a=>kok n lt (f a) Q)→kok n lt (t.bind f) Q:=by
 induction t with
 | ret a=>exact fun h=>h
 | ask i j k ih=>exact fun h=>⟨h.1,h.2.1,ih _ h.2.2⟩
theorem cS {α:Type}{n:Nat}{lt:Nat→Nat→Bool}{Q Q':α→Prop}(hq:∀ a,Q a→Q' a)(t:KasT α):kok n lt t Q→kok n lt t Q':=by
 induction t with
 | ret a=>exact hq a
 | ask i j k ih=>exact fun h=>⟨h.1,h.2.1,ih _ h.2.2⟩
theorem AX {α:Type}{n:Nat}{lt:Nat→Nat→Bool}{cmp:Nat→Nat→(Bool→Shared→Prop)→Shared→Prop}{s:Shared}{Q:α→Prop}{G:α→Shared→Prop}(hc:∀ i j C,i<n→j<n→C (lt i j) s→cmp i j C s)(hG:∀ a,Q a→G a s)(t:KasT α):kok n lt t Q→t.kasWp cmp G s:=by
 induction t with
 | ret a=>exact hG a
 | ask i j k ih=>exact fun h=>hc i j _ h.1 h.2.1 (ih _ h.2.2)
structure Ord (lt:Nat→Nat→Bool):Prop where
 asym:∀ i j,lt i j=true→lt j i=false
 trans:∀ i j k,lt j i=false→lt k j=false→lt k i=false
section
variable {n:Nat} {lt:Nat→Nat→Bool}
structure PermN (n:Nat) (p:Array Nat):Prop where
 size:p.size=n
 perm:p.toList.Perm (List.range n)
theorem PermN.bd {p:Array Nat}(h:PermN n p){i:Nat}(hi:i<n):p.getD i 0<n:=by
 have hs:i<p.size:=by rw[h.size];exact hi
 have e:p.getD i 0=p[i]:=by simp[Array.getD,hs]
 rw[e]
 have hm:p[i]∈p.toList:=by simp
 exact Zt.mp (h.perm.mem_iff.mp hm)
theorem PermN.rev {p:Array Nat}(h:PermN n p)(i j:Nat):PermN n (kas_rev p i j):=
 ⟨by unfold kas_rev;rw[mirror_size,h.size],((Array.perm_iff_toList_perm.mp (mirror_perm _ _ _ _)).trans h.perm)⟩
theorem PermN.bub {p:Array Nat}(h:PermN n p)(i j:Nat):PermN n (bubble p i j):=
 ⟨by rw[bubble_size,h.size],((Array.perm_iff_toList_perm.mp (bubble_perm _ _ _)).trans h.perm)⟩
theorem gm {p q:Array Nat}{i j:Nat}(h:p[i]?=q[j]?):p.getD i 0=q.getD j 0:=by
 simp only[ZV,h]
theorem dM {p:Array Nat}(h:PermN n p){i j:Nat}(hj:j≤n)(k:Nat):(kas_rev p i j).getD k 0=if i≤k∧k<j then p.getD (i+j-1-k) 0 else p.getD k 0:=by
 have e:=getElem?_mirror_all (xs:=p) (i:=i) (j:=j) (by rw[h.size];exact hj) k
 unfold kas_rev
 split
 ·rename_i q;rw[Yh q] at e;exact gm e
 ·rename_i q;rw[Yr q] at e;exact gm e
def Ris (lt:Nat→Nat→Bool)(p:Array Nat)(b:Nat):Prop:=∀ i j,i≤j→j<b→lt (p.getD j 0) (p.getD i 0)=false
def Fal (lt:Nat→Nat→Bool)(p:Array Nat)(b:Nat):Prop:=∀ i j,i≤j→j<b→lt (p.getD i 0) (p.getD j 0)=false
def Eqs (lt:Nat→Nat→Bool)(p:Array Nat)(a b:Nat):Prop:=∀ i j,a≤i→i<b→a≤j→j<b→lt (p.getD i 0) (p.getD j 0)=false
theorem Ord.irr (o:Ord lt)(i:Nat):lt i i=false:=by
 cases q:lt i i with
 | false=>rfl
 | true=>have:=o.asym i i q;rw[q] at this;cases this
theorem iJ {a b i:Nat}(h:a≤i∧i<b):a≤a+b-1-i∧a+b-1-i<b:=by omega
theorem uS (o:Ord lt){p:Array Nat}(hp:PermN n p):∀ (f k:Nat),1≤k→k+f≤n→Ris lt p k→kok n lt (kas_asc p f k) (fun m=>k≤m∧m≤k+f∧Ris lt p m∧(m=k+f∨lt (p.getD m 0) (p.getD (m-1) 0)=true)):=by
 intro f
 induction f with
 | zero=>exact fun k _ _ hr=>⟨Yx _,Yx _,hr,.inl rfl⟩
 | succ f ih=>
  intro k h1 hk hr
  have kn:k<n:=Yy (Xi (Nat.succ_pos f)) hk
  have k1:k-1<k:=XQ h1 Nat.one_pos
  have ek:=Ze k 1 f
  unfold kas_asc
  refine⟨hp.bd kn,hp.bd (ZT k1 kn),?_⟩
  cases c:lt (p.getD k 0) (p.getD (k-1) 0) with
  | true=>
   (try dsimp only);rw[Yh rfl]
   exact⟨Yx _,Nat.le_add_right _ _,hr,.inr c⟩
  | false=>
   (try dsimp only);rw[Yr Yp]
   refine cS (fun m h=>⟨Xp h.1,YQ h.2.1 (ZM ek),h.2.2.1,h.2.2.2.imp (fun e=>e.trans ek) id⟩) _ (ih (k+1) (Zw 1 k) (YQ (ZM ek) hk) fun i j hij hj=>?_)
   by_cases hjk:j<k
   ·exact hr i j hij hjk
   ·have:j=k:=Zf (Zo hj) (Zy hjk)
    subst this
    by_cases hik:i=j
    ·subst hik;exact o.irr _
    ·exact o.trans _ _ _ (hr i (j-1) (ZG (Zp hij hik)) k1) c
theorem rn {p:Array Nat}(hp:PermN n p){a b:Nat}(hb:b≤n)(he:Eqs lt p a b)(o:Ord lt)(hf:Fal lt p b):Fal lt (kas_rev p a b) b:=by
 intro i j hij hj
 rw[dM hp hb,dM hp hb]
 by_cases hi:a≤i∧i<b
 ·rw[Yh hi]
  have hj':a≤j∧j<b:=⟨YQ hi.1 hij,hj⟩
  rw[Yh hj']
  exact he _ _ (iJ hi).1 (iJ hi).2 (iJ hj').1 (iJ hj').2
 ·rw[Yr hi]
  have hia:i<a:=Nat.lt_of_not_le fun z=>hi ⟨z,YY hij hj⟩
  by_cases hj':a≤j∧j<b
  ·rw[Yh hj']
   exact hf _ _ (YQ (Zv hia) (iJ hj').1) (iJ hj').2
  ·rw[Yr hj']
   exact hf i j hij hj
theorem jI (o:Ord lt){p':Array Nat}{k:Nat}(h1:1≤k)(hf':Fal lt p' k)(hc:lt (p'.getD (k-1) 0) (p'.getD k 0)=false):Fal lt p' (k+1):=by
 intro i j hij hj
 by_cases hjk:j<k
 ·exact hf' i j hij hjk
 ·have:j=k:=Zf (Zo hj) (Zy hjk)
  subst this
  by_cases hik:i=j
  ·subst hik;exact o.irr _
  ·exact o.trans _ _ _ hc (hf' i (j-1) (ZG (Zp hij hik)) (XQ h1 Nat.one_pos))
theorem lr (o:Ord lt)(p':Array Nat)(k:Nat):Eqs lt p' (k+1-(0+1)) (k+1):=by
 intro i j a1 a2 a3 a4
 have e1:i=k:=Zf (Zo a2) a1
 have e2:j=k:=Zf (Zo a4) a3
 subst e1
 subst e2
 exact o.irr _
theorem ub (o:Ord lt){p:Array Nat}{k q:Nat}(hb:k-(q+1)≤k-1∧k-1<k)(he:Eqs lt p (k-(q+1)) k)(c:lt (p.getD k 0) (p.getD (k-1) 0)=false)(d:lt (p.getD (k-1) 0) (p.getD k 0)=false):Eqs lt p (k+1-(q+1+1)) (k+1):=by
 have e1:∀ i,k+1-(q+1+1)≤i→i<k+1→lt (p.getD i 0) (p.getD k 0)=false∧lt (p.getD k 0) (p.getD i 0)=false:=fun i b1 b2=>by
  rw[Nat.add_sub_add_right] at b1
  by_cases hik:i=k
  ·subst hik;exact⟨o.irr _,o.irr _⟩
  ·have il:i<k:=Zp (Zo b2) hik
   exact⟨o.trans _ _ _ d (he i (k-1) b1 il hb.1 hb.2),o.trans _ _ _ (he (k-1) i hb.1 hb.2 b1 il) c⟩
 exact fun i j a1 a2 a3 a4=>o.trans _ _ _ (e1 j a3 a4).2 (e1 i a1 a2).1
theorem xg (o:Ord lt):∀ (f:Nat) (p:Array Nat) (k q:Nat),PermN n p→1≤k→k+f≤n→q+1≤k→Fal lt p k→Eqs lt p (k-(q+1)) k→
  kok n lt (kas_desc f p k q) (fun r=>PermN n r.1∧k≤r.2.1∧r.2.1≤n∧r.2.2+1≤r.2.1∧Fal lt r.1 r.2.1∧Eqs lt r.1 (r.2.1-(r.2.2+1)) r.2.1):=by
 intro f
 induction f with
 | zero=>exact fun p k q hp h1 hk hq hf he=>⟨hp,Yx _,hk,hq,hf,he⟩
 | succ f ih=>
  intro p k q hp h1 hk hq hf he
  have kn:k<n:=Yy (Xi (Nat.succ_pos f)) hk
  have k1:k-1<k:=XQ h1 Nat.one_pos
  have hk':k+1+f≤n:=YQ (ZM (Ze k 1 f)) hk
  have hb:k-(q+1)≤k-1∧k-1<k:=⟨Nat.sub_le_sub_left (Xd (YO q)) k,k1⟩
  unfold kas_desc
  refine⟨hp.bd kn,hp.bd (ZT k1 kn),?_⟩
  cases c:lt (p.getD k 0) (p.getD (k-1) 0) with
  | true=>
   (try dsimp only);rw[Yh rfl]
   have hc:lt (p.getD (k-1) 0) (p.getD k 0)=false:=o.asym _ _ c
   by_cases hq0:q > 0
   ·rw[Yh hq0]
    have hf':=rn hp (Zv kn) he o hf
    have hc':lt ((kas_rev p (k-(q+1)) k).getD (k-1) 0) ((kas_rev p (k-(q+1)) k).getD k 0)=false:=by
     rw[dM hp (Zv kn),dM hp (Zv kn),Yh hb,Yr (fun z=>Zh _ z.2)]
     exact o.trans _ _ _ hc (he _ _ (iJ hb).1 (iJ hb).2 hb.1 hb.2)
    exact cS (fun r h=>⟨h.1,Xp h.2.1,h.2.2⟩) _ (ih _ (k+1) 0 (hp.rev _ _) (Zw 1 k) hk' (Zw 1 k) (jI o h1 hf' hc') (lr o _ k))
   ·rw[Yr hq0]
    exact cS (fun r h=>⟨h.1,Xp h.2.1,h.2.2⟩) _ (ih _ (k+1) 0 hp (Zw 1 k) hk' (Zw 1 k) (jI o h1 hf hc) (lr o _ k))
  | false=>
   (try dsimp only);rw[Yr Yp]
   refine⟨hp.bd (ZT k1 kn),hp.bd kn,?_⟩
   cases d:lt (p.getD (k-1) 0) (p.getD k 0) with
   | true=>
    (try dsimp only);rw[Yh rfl]
    exact⟨hp,Yx _,Zv kn,hq,hf,he⟩
   | false=>
    (try dsimp only);rw[Yr Yp]
    exact cS (fun r h=>⟨h.1,Xp h.2.1,h.2.2⟩) _ (ih p (k+1) (q+1) hp (Zw 1 k) hk' (Xd hq) (jI o h1 hf d) (ub o hb he c d))
theorem yI {p:Array Nat}(hp:PermN n p){b:Nat}(hb:b≤n)(hf:Fal lt p b):Ris lt (kas_rev p 0 b) b:=by
 intro i j hij hj
 have hi:0≤i∧i<b:=⟨YO _,YY hij hj⟩
 rw[dM hp hb,dM hp hb,Yh ⟨YO _,hj⟩,Yh hi]
 exact hf _ _ (Nat.sub_le_sub_left hij _) (iJ hi).2
theorem nh (o:Ord lt){p:Array Nat}(hp:PermN n p){k:Nat}(h1:1≤k)(hk:k≤n)(hf:Fal lt p k):kok n lt (kas_tail3 k n p) (fun r=>1≤r.1∧r.1≤n∧PermN n r.2∧Ris lt r.2 r.1):=by
 unfold kas_tail3
 have e:=ZM (Xe hk)
 exact fF _ (cS (fun m h=>⟨YQ h1 h.1,YQ h.2.1 e,hp.rev _ _,h.2.2.1⟩) _ (uS o (hp.rev 0 k) (n-k) k h1 e (yI hp hk hf)))
theorem iD (o:Ord lt){p:Array Nat}(hp:PermN n p){k:Nat}(h1:1≤k)(hk:k<n)(hf:Fal lt p (k+1)):kok n lt (kas_descPart k n p) (fun r=>1≤r.1∧r.1≤n∧PermN n r.2∧Ris lt r.2 r.1):=by
 unfold kas_descPart
 refine fF _ (cS ?_ _ (xg o (n-(k+1)) p (k+1) 0 hp (Zw 1 k) (ZM (Xe hk)) (Zw 1 k) hf (lr o p k)))
 intro r h
 obtain⟨a1,a2,a3,a4,a5,a6⟩:=h
 have h1':=YQ (Zw 1 k) a2
 by_cases hq:r.2.2 > 0
 ·rw[Yh hq]
  exact nh o (a1.rev _ _) h1' a3 (rn a1 a3 a6 o a5)
 ·rw[Yr hq]
  exact nh o a1 h1' a3 a5
theorem vR (o:Ord lt){p:Array Nat}(hp:PermN n p)(hn:1≤n):kok n lt (kas_count n p) (fun r=>1≤r.1∧r.1≤n∧PermN n r.2∧Ris lt r.2 r.1):=by
 unfold kas_count
 have en:=Xe hn
 refine fF _ (cS (fun k hh_=>?_) _ (uS o hp (n-1) 1 (Yx _) (ZM en) fun i j hij hj=>by
  have e2:j=0:=Nat.lt_one_iff.mp hj
  subst e2
  have e1:i=0:=Nat.le_zero.mp hij
  subst e1;exact o.irr _))
 obtain⟨a1,a2,a3,a4⟩:=hh_
 have a2:k≤n:=YQ a2 (ZM en)
 by_cases hk:(k == n)=true
 ·rw[Yh hk]
  exact⟨a1,a2,hp,a3⟩
 ·rw[Yr hk]
  have hkn:k≠n:=by simpa using hk
  have kn:k<n:=Zp a2 hkn
  have k1:k-1<k:=XQ a1 Nat.one_pos
  have hlt:lt (p.getD k 0) (p.getD (k-1) 0)=true:=by
   rcases a4 with e | e
   ·exact absurd (e.trans en) hkn
   ·exact e
  have hc:=o.asym _ _ hlt
  by_cases h1:k > 1
  ·rw[Yh h1]
   refine⟨hp.bd (Yy Nat.one_pos hn),hp.bd (ZT k1 kn),?_⟩
   cases c:lt (p.getD 0 0) (p.getD (k-1) 0) with
   | true=>
    (try dsimp only);rw[Yh rfl]
    exact⟨a1,a2,hp,a3⟩
   | false=>
    (try dsimp only);rw[Yr Yp]
    have alike:∀ i j,i<k→j<k→lt (p.getD i 0) (p.getD j 0)=false:=fun i j hi hj=>
     o.trans _ _ _ (o.trans _ _ _ (a3 j (k-1) (ZG hj) k1) c) (a3 0 i (YO _) hi)
    refine iD o (hp.rev _ _) a1 kn fun i j hij hj=>?_
    rw[dM hp a2,dM hp a2]
    by_cases hjk:j<k
    ·have hi:0≤i∧i<k:=⟨YO _,YY hij hjk⟩
     rw[Yh hi,Yh ⟨YO _,hjk⟩]
     exact alike _ _ (iJ hi).2 (iJ ⟨YO _,hjk⟩).2
    ·have ej:j=k:=Zf (Zo hj) (Zy hjk)
     subst ej
     rw[Yr (fun z:0≤j∧j<j=>Zh _ z.2)]
     by_cases hij':i<j
     ·rw[Yh ⟨YO _,hij'⟩]
      exact o.trans _ _ _ hc (alike _ _ (iJ ⟨YO _,hij'⟩).2 k1)
     ·rw[Yr fun z=>hij' z.2]
      have:i=j:=Zf hij (Zy hij')
      subst this
      exact o.irr _
  ·rw[Yr h1]
   have ek:k=1:=Zf (Zy h1) a1
   subst ek
   refine iD o hp (Yx _) kn fun i j hij hj=>?_
   by_cases hij':i=j
   ·subst hij';exact o.irr _
   ·have lj:i<j:=Zp hij hij'
    have e2:j=1:=Zf (Zo hj) (YY (YO i) lj)
    subst e2
    have e1:i=0:=Nat.lt_one_iff.mp lj
    subst e1
    exact hc
theorem gN (o:Ord lt){p:Array Nat}(hp:PermN n p){k:Nat}(hk:k<n)(hr:Ris lt p k):∀ (f l r:Nat),l≤r→r≤k→r-l≤f→(∀ i,i<l→lt (p.getD k 0) (p.getD i 0)=false)→(∀ i,r≤i→i<k→lt (p.getD k 0) (p.getD i 0)=true)→
  kok n lt (kas_place p k f l r) (fun m=>m≤k∧(∀ i,i<m→lt (p.getD k 0) (p.getD i 0)=false)∧∀ i,m≤i→i<k→lt (p.getD k 0) (p.getD i 0)=true):=by
 intro f
 induction f with
 | zero=>
  intro l r h1 h2 h3 h4 h5
  have e:l=r:=Zf h1 (Nat.le_of_sub_eq_zero (Nat.le_zero.mp h3))
  subst e
  exact⟨h2,h4,h5⟩
 | succ f ih=>
  intro l r h1 h2 h3 h4 h5
  unfold kas_place
  by_cases hlr:l ≥ r
  ·rw[Yh hlr]
   have e:l=r:=Zf h1 hlr
   subst e
   exact⟨h2,h4,h5⟩
  ·rw[Yr hlr]
   have mid:l≤(l+r)/2∧(l+r)/2<r∧(l+r)/2-l≤f∧r-((l+r)/2+1)≤f:=by
    clear h4 h5 hr hp ih h2 hk
    omega
   obtain⟨m1,m2,m3,m4⟩:=mid
   refine⟨hp.bd hk,hp.bd (ZT (Yy m2 h2) hk),?_⟩
   cases c:lt (p.getD k 0) (p.getD ((l+r)/2) 0) with
   | true=>
    (try dsimp only);rw[Yh rfl]
    refine ih l _ m1 (YQ (Zv m2) h2) m3 h4 fun i a1 a2=>?_
    cases q:lt (p.getD k 0) (p.getD i 0) with
    | true=>rfl
    | false=>
     have:=o.trans _ _ _ (hr ((l+r)/2) i a1 a2) q
     rw[c] at this
     cases this
   | false=>
    (try dsimp only);rw[Yr Yp]
    exact ih _ r m2 h2 m4 (fun i a1=>o.trans _ _ _ (hr i ((l+r)/2) (Zo a1) (Yy m2 h2)) c) h5
theorem p8 {p:Array Nat}(hp:PermN n p){k l:Nat}(hk:k<n)(hl:l≤k)(i:Nat):(bubble p k (k-l)).getD i 0=if i=l then p.getD k 0 else if l<i∧i≤k then p.getD (i-1) 0 else p.getD i 0:=by
 have e:=getElem?_bubble (xs:=p) (src:=k) (by rw[hp.size];exact hk) (k-l) (Nat.sub_le _ _) i
 rw[Nat.sub_sub_self hl] at e
 by_cases h1:i=l
 ·rw[Yh h1] at e ⊢;exact gm e
 ·rw[Yr h1] at e ⊢
  by_cases h2:l<i∧i≤k
  ·rw[Yh h2] at e ⊢;exact gm e
  ·rw[Yr h2] at e ⊢;exact gm e
theorem wS (o:Ord lt){p:Array Nat}(hp:PermN n p){k l:Nat}(kn:k<n)(hr:Ris lt p k)(a1:l≤k)(a2:∀ i,i<l→lt (p.getD k 0) (p.getD i 0)=false)(a3:∀ i,l≤i→i<k→lt (p.getD k 0) (p.getD i 0)=true):Ris lt (bubble p k (k-l)) (k+1):=by
 intro i j hij hj
 have jk:j≤k:=Zo hj
 have jl:l<j→j-1<k:=fun z=>Yy (XQ (YY (YO l) z) Nat.one_pos) jk
 rw[p8 hp kn a1,p8 hp kn a1]
 by_cases ei:i=l
 ·rw[Yh ei]
  by_cases ej:j=l
  ·rw[Yh ej];exact o.irr _
  ·have lj:l<j:=Zp (ei ▸ hij) (XJ ej)
   rw[Yr ej,Yh ⟨lj,jk⟩]
   exact o.asym _ _ (a3 (j-1) (ZG lj) (jl lj))
 ·rw[Yr ei]
  by_cases ej:j=l
  ·have il:i≤l:=ej ▸ hij
   rw[Yh ej,Yr fun z=>Zh _ (Yy z.1 il)]
   exact a2 i (Zp il ei)
  ·rw[Yr ej]
   by_cases ci:l<i∧i≤k
   ·have lj:=Yy ci.1 hij
    rw[Yh ci,Yh ⟨lj,jk⟩]
    exact hr _ _ (Nat.sub_le_sub_right hij 1) (jl lj)
   ·rw[Yr ci]
    by_cases cj:l<j∧j≤k
    ·rw[Yh cj]
     exact hr _ _ (ZG (YY (Zy fun z=>ci ⟨z,YQ hij jk⟩) cj.1)) (jl cj.1)
    ·rw[Yr cj]
     exact hr _ _ hij (Yy (Zp (Zy fun z=>cj ⟨z,jk⟩) ej) a1)
theorem AD (o:Ord lt):∀ (f:Nat) (p:Array Nat) (k:Nat),PermN n p→k+f=n→Ris lt p k→kok n lt (kas_bin f p k) (fun r=>PermN n r∧Ris lt r n):=by
 intro f
 induction f with
 | zero=>exact fun p k hp hk hr=>⟨hp,by rw[← hk];exact hr⟩
 | succ f ih=>
  intro p k hp hk hr
  have kn:k<n:=hk ▸ Xi (Nat.succ_pos f)
  unfold kas_bin
  refine fF _ (cS (fun l hh_=>?_) _ (gN o hp kn hr k 0 k (YO _) (Yx _) (Yx _) (fun i hi=>absurd hi (Nat.not_lt_zero _)) fun i h1 h2=>absurd h2 (Nat.not_lt_of_le h1)))
  obtain⟨a1,a2,a3⟩:=hh_
  exact ih _ (k+1) (hp.bub _ _) ((Ze k 1 f).trans hk) (wS o hp kn hr a1 a2 a3)
theorem jo (n:Nat):PermN n (List.toArray (List.range n)):=⟨by simp,by simp⟩
theorem nT (o:Ord lt)(hn:1≤n):kok n lt (kas_sort n) (fun r=>PermN n r∧Ris lt r n):=by
 unfold kas_sort
 refine fF _ (cS (fun r hh_=>?_) _ (vR o (jo n) hn))
 obtain⟨a1,a2,a3,a4⟩:=hh_
 by_cases hr:r.1<n
 ·rw[Yh hr]
  have e:max r.1 1=r.1:=Nat.max_eq_left a1
  rw[e]
  exact AD o _ _ _ a3 (Xe a2) a4
 ·rw[Yr hr]
  have e:r.1=n:=Zf a2 (Zy hr)
  rw[e] at a4
  exact⟨a3,a4⟩
end
section
variable {prog:Program} {w:World} {A:Around} {E:Kv} {s:Shared}
def iw (vs:List Value)(p:Array Nat):Array Value:=(p.toList.map fun i=>vs.getD i Value.none).toArray
theorem sn (vs:List Value)(h:vs.length<2):iw vs (List.toArray (List.range vs.length))=(vs.toArray.zip vs.toArray).map (·.2):=by
 cases vs with
 | nil=>simp[iw]
 | cons v r=>
  cases r with
  | nil=>simp[iw,List.range,List.range.loop]
  | cons _ _=>simp at h;omega
theorem j4 {a:Addr}{vs:List Value}{n:Nat}{P:PySem.Fin→Shared→Prop}(ho:s.heap.get? a=some (seqObj "list" vs.toArray n))(h64:vs.length<64)(κ:SortKind)(lt:Nat→Nat→Bool)(o:Ord lt)
  (hk:2≤vs.length→∀ h',(∀ b u,b≠a→s.heap.get? b=some u→h'.get? b=some u)→∀ Q:SortKind→Shared→Prop,Q κ { s with heap:=h' }→wpAny (model prog w) A (keyKind' vs.toArray) Q E { s with heap:=h' })
  (hc:∀ h',(∀ b u,b≠a→s.heap.get? b=some u→h'.get? b=some u)→∀ i j C,i<vs.length→j<vs.length→C (lt i j) { s with heap:=h' }→kas_ask prog w A κ vs i j C { s with heap:=h' })
  (h:∀ p,PermN vs.length p→Ris lt p vs.length→P (.done (.ret .none)) { s with heap:=sortedHeap s.heap a vs (iw vs p) }) :
  wpAny (model prog w) A (Builtin.«list.sort» ⟨[.ref a],[]⟩) P E s:=by
 rw[list_sort_plain]
 have ha:a<s.heap.objs.size:=YE ho
 refine Yu (listItems_at ho rfl ?_)
 refine Yu (listUpdate_at ho rfl ?_ (by rw[Ym,YK];omega) (YO _))
 obtain⟨e1,ho1⟩:∃ e1,(s.heap.update a (Obj.mapSeq fun _=>(#[]:Array Value))).get? a=some (seqObj "list" #[] e1):=⟨_,get?_update_seq ho (fun _=>#[])⟩
 refine Yu (seqEpoch_at ho1 rfl ?_)
 refine Yu (wpAny_newTuple ?_ (by show vs.length≤_;rw[YK];omega))
 refine Yu (wpAny_newList ?_ (YO _))
 refine Xx ?_
 have ho6:(((s.heap.update a (Obj.mapSeq fun _=>(#[]:Array Value))).push (seqObj "tuple" vs.toArray 0)).push (seqObj "list" #[] 0)).get? a=some (seqObj "list" #[] e1):=by
  rw[Xb _ _ _ (by rw[size_push',Xv];exact YL (ZZ ha)),Xb _ _ _ (by rw[Xv];exact YL ha)]
  exact ho1
 have kept:∀ b u,b≠a→s.heap.get? b=some u→(((s.heap.update a (Obj.mapSeq fun _=>(#[]:Array Value))).push (seqObj "tuple" vs.toArray 0)).push (seqObj "list" #[] 0)).get? b=some u:=fun b u hb e=>by
  have hlt:b<s.heap.objs.size:=YE e
  rw[Xb _ _ _ (by rw[size_push',Xv];exact YL (ZZ hlt)),Xb _ _ _ (by rw[Xv];exact YL hlt),Heap.get?_update_ne _ _ _ _ hb]
  exact e
 show wpAny (model prog w) A _ P E { s with heap:=((s.heap.update a (Obj.mapSeq fun _=>(#[]:Array Value))).push (seqObj "tuple" vs.toArray 0)).push (seqObj "list" #[] 0) }
 dsimp only
 have hsz:vs.toArray.size=vs.length:=by simp
 by_cases h2:vs.toArray.size<2
 ·rw[Yh h2,Yh h2]
  refine Yu (YV ?_)
  rw[StateT.run_pure]
  refine Yu (YV ?_)
  dsimp only
  refine Yu (seqEpoch_at ho6 rfl ?_)
  refine Yu (listUpdate_at ho6 rfl ?_ (YO _) (by rw[Array.size_map];show (pairsOf vs).size≤_;rw[pairsOf_size,YK];omega))
  simp only[bne_self_eq_false,XH,if_false]
  have q:=h (List.toArray (List.range vs.length)) (jo _) (fun i j hij hj=>by
   have e1:i=j:=by omega
   subst e1
   exact o.irr _)
  have e:iw vs (List.toArray (List.range vs.length))=(vs.toArray.zip vs.toArray).map (·.2):=by
   exact sn vs (by omega)
  rw[e] at q
  exact YV q
 ·rw[Yr h2,Yr h2]
  have h2':2≤vs.length:=by omega
  refine Yu (hk h2' _ kept _ ?_)
  refine Yu (ZA (kat_run (Q:=fun st' s'=>s'={ s with heap:=((s.heap.update a (Obj.mapSeq fun _=>(#[]:Array Value))).push (seqObj "tuple" vs.toArray 0)).push (seqObj "list" #[] 0) }∧∃ p:Array Nat,PermN vs.length p∧Ris lt p vs.length∧arrOf st'=p.map (kas_item (vs.toArray.zip vs.toArray))∧failedOf st'=none)
   (G:=fun p s'=>s'={ s with heap:=((s.heap.update a (Obj.mapSeq fun _=>(#[]:Array Value))).push (seqObj "tuple" vs.toArray 0)).push (seqObj "list" #[] 0) }∧PermN vs.length p∧Ris lt p vs.length)
   rfl h2' h64 (fun p st' s' a1 a2 a3 ⟨b1,b2,b3⟩=>⟨b1,p,b2,b3,a2,a3⟩) (AX (hc _ kept) (fun p ⟨b2,b3⟩=>⟨rfl,b2,b3⟩) _ (nT o (by omega)))) ?_ fun _ _ e=>e)
  rintro⟨⟨⟩,st'⟩ s' ⟨rfl,p,hp,hr,har,hf⟩
  dsimp only
  have hout:=kat_snds rfl har
  rw[hout]
  refine Yu (seqEpoch_at ho6 rfl ?_)
  refine Yu (listUpdate_at ho6 rfl ?_ (YO _) (by rw[Ym,Yb,Zs,hp.size,YK];omega))
  rw[hf]
  simp only[bne_self_eq_false,XH,if_false]
  exact YV (h p hp hr)
end
theorem xi {x y:Str}(h:x.cps.toList=y.cps.toList):x=y:=by
 cases x;cases y
 congr
 exact Array.toList_inj.mp h
mutual
theorem cx:∀ x y:D,aq x y=true→(eqd x y=true↔x=y)
 | .int i,.int j,_=>by simp[eqd,cA,PyData.eqv]
 | .bl a,.bl b,_=>by simp[eqd,cA,PyData.eqv]
 | .str a,.str b,_=>by simp[eqd,cA,PyData.eqv]
 | .tup xs,.tup ys,h=>by
  have:=jg xs ys (by simpa[aq] using h)
  simp only[eqd,cA,PyData.eqv,D.tup.injEq]
  exact this
 | .non,y,h=>by cases y <;> simp[aq] at h
 | .lst _,y,h=>by cases y <;> simp[aq] at h
 | .dT _,y,h=>by cases y <;> simp[aq] at h
 | .dK _,y,h=>by cases y <;> simp[aq] at h
 | .ins _ _,y,h=>by cases y <;> simp[aq] at h
 | .int _,.non,h=>by simp[aq] at h
 | .int _,.bl _,h=>by simp[aq] at h
 | .int _,.str _,h=>by simp[aq] at h
 | .int _,.tup _,h=>by simp[aq] at h
 | .int _,.lst _,h=>by simp[aq] at h
 | .int _,.dT _,h=>by simp[aq] at h
 | .int _,.dK _,h=>by simp[aq] at h
 | .int _,.ins _ _,h=>by simp[aq] at h
 | .bl _,.non,h=>by simp[aq] at h
 | .bl _,.int _,h=>by simp[aq] at h
 | .bl _,.str _,h=>by simp[aq] at h
 | .bl _,.tup _,h=>by simp[aq] at h
 | .bl _,.lst _,h=>by simp[aq] at h
 | .bl _,.dT _,h=>by simp[aq] at h
 | .bl _,.dK _,h=>by simp[aq] at h
 | .bl _,.ins _ _,h=>by simp[aq] at h
 | .str _,.non,h=>by simp[aq] at h
 | .str _,.bl _,h=>by simp[aq] at h
 | .str _,.int _,h=>by simp[aq] at h
 | .str _,.tup _,h=>by simp[aq] at h
 | .str _,.lst _,h=>by simp[aq] at h
 | .str _,.dT _,h=>by simp[aq] at h
 | .str _,.dK _,h=>by simp[aq] at h
 | .str _,.ins _ _,h=>by simp[aq] at h
 | .tup _,.non,h=>by simp[aq] at h
 | .tup _,.bl _,h=>by simp[aq] at h
 | .tup _,.int _,h=>by simp[aq] at h
 | .tup _,.str _,h=>by simp[aq] at h
 | .tup _,.lst _,h=>by simp[aq] at h
 | .tup _,.dT _,h=>by simp[aq] at h
 | .tup _,.dK _,h=>by simp[aq] at h
 | .tup _,.ins _ _,h=>by simp[aq] at h
theorem jg:∀ xs ys:List D,bA xs ys=true→(PyData.eqvAll (cM xs) (cM ys)=true↔xs=ys)
 | [],[],_=>by simp[cM,PyData.eqvAll]
 | [],_::_,_=>by simp[cM,PyData.eqvAll]
 | _::_,[],_=>by simp[cM,PyData.eqvAll]
 | x::xs,y::ys,h=>by
  rw[bA,Ys] at h
  have h1:=cx x y h.1
  have h2:=jg xs ys h.2
  simp only[cM,PyData.eqvAll,Ys,List.cons.injEq]
  rw[h2]
  unfold eqd at h1
  rw[h1]
end
structure Fc2 {α:Type} (l:α→α→Bool) (x y:α):Prop where
 as:l x y=true→l y x=false
 an:l x y=false→l y x=false→x=y
def Fc3 {α:Type}(l:α→α→Bool)(x y z:α):Prop:=l x y=true→l y z=true→l x z=true
theorem a7 {x y:D}(h:aq x y=true):(∃ i j,x=.int i∧y=.int j)∨(∃ i j,x=.bl i∧y=.bl j)∨(∃ i j,x=.str i∧y=.str j)∨∃ i j,x=.tup i∧y=.tup j∧bA i j=true:=by
 cases x with
 | int i=>
  refine .inl ?_
  cases y with
  | int j=>exact⟨_,_,rfl,rfl⟩
  | _=>exact absurd h Yp
 | bl i=>
  refine .inr (.inl ?_)
  cases y with
  | bl j=>exact⟨_,_,rfl,rfl⟩
  | _=>exact absurd h Yp
 | str i=>
  refine .inr (.inr (.inl ?_))
  cases y with
  | str j=>exact⟨_,_,rfl,rfl⟩
  | _=>exact absurd h Yp
 | tup i=>
  refine .inr (.inr (.inr ?_))
  cases y with
  | tup j=>exact⟨_,_,rfl,rfl,h⟩
  | _=>exact absurd h Yp
 | _=>exact absurd h Yp
theorem sJ {a b:List Nat}(h:a<b):¬ b<a:=fun h'=>List.lt_irrefl a (List.lt_trans h h')
theorem gF {x y:D}(h1:aq x y=true)(ht:gP x=false):Fc2 ltD x y:=by
 rcases a7 h1 with⟨i,j,rfl,rfl⟩ | ⟨i,j,rfl,rfl⟩ | ⟨i,j,rfl,rfl⟩ | ⟨i,j,rfl,rfl,_⟩
 ·refine⟨fun h=>?_,fun h h'=>?_⟩
  ·simp only[ltD,YB,Zb] at h ⊢;omega
  ·simp only[ltD,Zb] at h h';rw[show i=j by omega]
 ·refine⟨fun h=>?_,fun h h'=>?_⟩
  ·cases i <;> cases j <;> simp_all [ltD]
  ·cases i <;> cases j <;> simp_all [ltD]
 ·refine⟨fun h=>?_,fun h h'=>?_⟩
  ·simp only[ltD,YB,Zb] at h ⊢;exact sJ h
  ·simp only[ltD,Zb] at h h'
   rw[xi (List.le_antisymm h' h)]
 ·cases ht
theorem gA {x y z:D}(h1:aq x y=true)(h2:aq y z=true)(ht:gP x=false):Fc3 ltD x y z:=by
 rcases a7 h1 with⟨i,j,rfl,rfl⟩ | ⟨i,j,rfl,rfl⟩ | ⟨i,j,rfl,rfl⟩ | ⟨i,j,rfl,rfl,_⟩
 ·rcases a7 h2 with⟨j',k,e,rfl⟩ | ⟨j',k,e,rfl⟩ | ⟨j',k,e,rfl⟩ | ⟨j',k,e,rfl,_⟩ <;> cases e
  intro h h'
  simp only[ltD,YB] at h h' ⊢;omega
 ·rcases a7 h2 with⟨j',k,e,rfl⟩ | ⟨j',k,e,rfl⟩ | ⟨j',k,e,rfl⟩ | ⟨j',k,e,rfl,_⟩ <;> cases e
  intro h h'
  cases i <;> cases j <;> cases k <;> simp_all [ltD]
 ·rcases a7 h2 with⟨j',k,e,rfl⟩ | ⟨j',k,e,rfl⟩ | ⟨j',k,e,rfl⟩ | ⟨j',k,e,rfl,_⟩ <;> cases e
  intro h h'
  simp only[ltD,YB] at h h' ⊢;exact List.lt_trans h h'
 ·cases ht
theorem sF (n:Nat):∀ x y:D,okN n x=true→aq x y=true→aq y x=true:=by
 induction n with
 | zero=>
  intro x y o h
  rcases a7 h with⟨i,j,rfl,rfl⟩ | ⟨i,j,rfl,rfl⟩ | ⟨i,j,rfl,rfl⟩ | ⟨i,j,rfl,rfl,_⟩
  ·rfl
  ·rfl
  ·rfl
  ·simp[okN] at o
 | succ n ih=>
  intro x y o h
  rcases a7 h with⟨i,j,rfl,rfl⟩ | ⟨i,j,rfl,rfl⟩ | ⟨i,j,rfl,rfl⟩ | ⟨i,j,rfl,rfl,hc⟩
  ·rfl
  ·rfl
  ·rfl
  ·have key:∀ (xs ys:List D),(∀ d∈xs,okN n d=true)→bA xs ys=true→bA ys xs=true:=by
    intro xs
    induction xs with
    | nil=>intro ys _ _;cases ys <;> simp[bA]
    | cons x xs ihx=>
     intro ys ho hc
     cases ys with
     | nil=>simp[bA]
     | cons y ys=>
      rw[bA,Ys] at hc ⊢
      exact⟨ih x y (ho x Yf) hc.1,ihx ys (fun d hd=>ho d (Yd _ hd)) hc.2⟩
   rw[aq]
   exact key i j (bO o) hc
theorem xH {n:Nat}(ih:∀ x y:D,okN n x=true→okN n y=true→aq x y=true→Fc2 ltD x y) :
  ∀ (xs ys:List D),(∀ d∈xs,okN n d=true)→(∀ d∈ys,okN n d=true)→bA xs ys=true→Fc2 bS xs ys:=by
 intro xs
 induction xs with
 | nil=>
  intro ys _ _ _
  refine⟨fun h=>?_,fun h h'=>?_⟩
  ·cases ys <;> simp_all [bS]
  ·cases ys <;> simp_all [bS]
 | cons x xs ihx=>
  intro ys ox oy c1
  cases ys with
  | nil=>
   refine⟨fun h=>?_,fun h h'=>?_⟩
   ·simp[bS] at h
   ·simp[bS] at h'
  | cons y ys=>
   rw[bA,Ys] at c1
   have px:=ox x Yf
   have py:=oy y Yf
   have exy:=cx x y c1.1
   have eyx:=cx y x (sF n x y px c1.1)
   have G:=ihx ys (fun d hd=>ox d (Yd _ hd)) (fun d hd=>oy d (Yd _ hd)) c1.2
   refine⟨fun h=>?_,fun h h'=>?_⟩
   ·rw[bS] at h ⊢
    by_cases hxy:x=y
    ·rw[Yh (exy.mpr hxy)] at h
     rw[Yh (eyx.mpr hxy.symm)]
     exact G.as h
    ·rw[Yr (fun q=>hxy (exy.mp q))] at h
     rw[Yr (fun q=>hxy (eyx.mp q).symm)]
     exact (ih x y px py c1.1).as h
   ·rw[bS] at h h'
    by_cases hxy:x=y
    ·rw[Yh (exy.mpr hxy)] at h
     rw[Yh (eyx.mpr hxy.symm)] at h'
     rw[hxy,G.an h h']
    ·rw[Yr (fun q=>hxy (exy.mp q))] at h
     rw[Yr (fun q=>hxy (eyx.mp q).symm)] at h'
     exact absurd ((ih x y px py c1.1).an h h') hxy
theorem gk (n:Nat):∀ x y:D,okN n x=true→okN n y=true→aq x y=true→Fc2 ltD x y:=by
 induction n with
 | zero=>
  intro x y ox oy c1
  refine gF c1 ?_
  cases x <;> first | rfl | (simp[okN] at ox)
 | succ n ih=>
  intro x y ox oy c1
  rcases a7 c1 with⟨i,j,rfl,rfl⟩ | ⟨i,j,rfl,rfl⟩ | ⟨i,j,rfl,rfl⟩ | ⟨i,j,rfl,rfl,d1⟩
  ·exact gF c1 rfl
  ·exact gF c1 rfl
  ·exact gF c1 rfl
  ·have F:=xH ih i j (bO ox) (bO oy) d1
   refine⟨fun h=>?_,fun h h'=>?_⟩
   ·rw[ltD] at h ⊢;exact F.as h
   ·rw[ltD] at h h';rw[F.an h h']
theorem yf {n:Nat}(ih:∀ x y z:D,okN n x=true→okN n y=true→okN n z=true→aq x y=true→aq y z=true→aq x z=true→Fc3 ltD x y z) :
  ∀ (xs ys zs:List D),(∀ d∈xs,okN n d=true)→(∀ d∈ys,okN n d=true)→(∀ d∈zs,okN n d=true)→bA xs ys=true→bA ys zs=true→bA xs zs=true→Fc3 bS xs ys zs:=by
 intro xs
 induction xs with
 | nil=>
  intro ys zs _ _ _ _ _ _ h h'
  cases ys <;> cases zs <;> simp_all [bS]
 | cons x xs ihx=>
  intro ys zs ox oy oz c1 c2 c3 h h'
  cases ys with
  | nil=>simp[bS] at h
  | cons y ys=>
   rw[bA,Ys] at c1
   have px:=ox x Yf
   have py:=oy y Yf
   have exy:=cx x y c1.1
   cases zs with
   | nil=>simp[bS] at h'
   | cons z zs=>
    rw[bA,Ys] at c2 c3
    have pz:=oz z Yf
    have eyz:=cx y z c2.1
    have exz:=cx x z c3.1
    have F:=ih x y z px py pz c1.1 c2.1 c3.1
    rw[bS] at h h' ⊢
    by_cases hxy:x=y
    ·rw[Yh (exy.mpr hxy)] at h
     by_cases hyz:y=z
     ·rw[Yh (eyz.mpr hyz)] at h'
      rw[Yh (exz.mpr (hxy.trans hyz))]
      exact ihx ys zs (fun d hd=>ox d (Yd _ hd)) (fun d hd=>oy d (Yd _ hd)) (fun d hd=>oz d (Yd _ hd)) c1.2 c2.2 c3.2 h h'
     ·rw[Yr (fun q=>hyz (eyz.mp q))] at h'
      rw[Yr (fun q=>hyz (hxy.symm.trans (exz.mp q)))]
      rw[hxy];exact h'
    ·rw[Yr (fun q=>hxy (exy.mp q))] at h
     by_cases hyz:y=z
     ·rw[Yr (fun q=>hxy ((exz.mp q).trans hyz.symm))]
      rw[← hyz];exact h
     ·rw[Yr (fun q=>hyz (eyz.mp q))] at h'
      have hxz:=F h h'
      by_cases he:x=z
      ·subst he
       have:=(gk n x y px py c1.1).as h
       rw[h'] at this
       cases this
      ·rw[Yr (fun q=>he (exz.mp q))]
       exact hxz
theorem yA (n:Nat):∀ x y z:D,okN n x=true→okN n y=true→okN n z=true→aq x y=true→aq y z=true→aq x z=true→Fc3 ltD x y z:=by
 induction n with
 | zero=>
  intro x y z ox oy oz c1 c2 c3
  refine gA c1 c2 ?_
  cases x <;> first | rfl | (simp[okN] at ox)
 | succ n ih=>
  intro x y z ox oy oz c1 c2 c3
  rcases a7 c1 with⟨i,j,rfl,rfl⟩ | ⟨i,j,rfl,rfl⟩ | ⟨i,j,rfl,rfl⟩ | ⟨i,j,rfl,rfl,d1⟩
  ·exact gA c1 c2 rfl
  ·exact gA c1 c2 rfl
  ·exact gA c1 c2 rfl
  ·rcases a7 c2 with⟨j',k,e,rfl⟩ | ⟨j',k,e,rfl⟩ | ⟨j',k,e,rfl⟩ | ⟨j',k,e,rfl,d2⟩ <;> cases e
   have F:=yf ih i j k (bO ox) (bO oy) (bO oz) d1 d2 (by simpa[aq] using c3)
   intro h h'
   rw[ltD] at h h' ⊢
   exact F h h'
def sj (x:D):List D→List D
 | []=>[x]
 | y::r=>if ltD x y=true then x::y::r else y::sj x r
def dc:List D→List D
 | []=>[]
 | x::r=>sj x (dc r)
theorem ib (x:D):∀ l:List D,(sj x l).Perm (x::l)
 | []=>.refl _
 | y::r=>by
  unfold sj
  split
  ·exact .refl _
  ·exact ((ib x r).cons y).trans (.swap x y r)
theorem cZ:∀ l:List D,(dc l).Perm l
 | []=>.refl _
 | x::r=>(ib x (dc r)).trans ((cZ r).cons x)
def Cmps (n:Nat)(ds:List D):Prop:=(∀ d∈ds,okN n d=true)∧∀ x∈ds,∀ y∈ds,aq x y=true
theorem ni {n:Nat}:∀ {as bs:List D},as.Perm bs→Cmps n as→as.Pairwise (fun x y=>ltD y x=false)→bs.Pairwise (fun x y=>ltD y x=false)→as=bs:=by
 intro as
 induction as with
 | nil=>intro bs hp _ _ _;exact (List.Perm.nil_eq hp)
 | cons a as ih=>
  intro bs hp hc pa pb
  cases bs with
  | nil=>exact absurd hp.symm (List.not_perm_nil_cons _ _)
  | cons b bs=>
   have ma:a∈b::bs:=hp.mem_iff.mp Yf
   have mb:b∈a::as:=hp.mem_iff.mpr Yf
   have e:a=b:=by
    rcases YC.mp ma with h | h
    ·exact h
    ·rcases YC.mp mb with h' | h'
     ·exact h'.symm
     ·have l1:=(Zx.mp pa).1 b h'
      have l2:=(Zx.mp pb).1 a h
      exact (gk n a b (hc.1 a Yf) (hc.1 b mb) (hc.2 a Yf b mb)).an l2 l1
   subst e
   rw[ih (List.Perm.cons_inv hp) ⟨fun d hd=>hc.1 d (Yd _ hd),fun x hx y hy=>hc.2 x (Yd _ hx) y (Yd _ hy)⟩ (Zx.mp pa).2 (Zx.mp pb).2]
theorem Cmps.perm {n:Nat}{as bs:List D}(h:Cmps n as)(p:as.Perm bs):Cmps n bs:=⟨fun d hd=>h.1 d (p.mem_iff.mpr hd),fun x hx y hy=>h.2 x (p.mem_iff.mpr hx) y (p.mem_iff.mpr hy)⟩
theorem kD {n:Nat}{x y z:D}(ox:okN n x=true)(oy:okN n y=true)(oz:okN n z=true)(cxy:aq x y=true)(cyz:aq y z=true)(cxz:aq x z=true)(cyx:aq y x=true)(czy:aq z y=true)(czx:aq z x=true)
  (h1:ltD y x=false) (h2:ltD z y=false):ltD z x=false:=by
 cases q:ltD z x with
 | false=>rfl
 | true=>
  -- z<x;x≤y
  by_cases hxy:ltD x y=true
  ·have:=yA n z x y oz ox oy czx cxy czy q hxy
   rw[h2] at this;cases this
  ·have e:x=y:=(gk n x y ox oy cxy).an (by simpa using hxy) h1
   subst e
   rw[h2] at q;cases q
theorem iB {n:Nat}{x:D}:∀ {l:List D},Cmps n (x::l)→l.Pairwise (fun a b=>ltD b a=false)→(sj x l).Pairwise (fun a b=>ltD b a=false)
 | [],_,_=>List.pairwise_singleton _ _
 | y::r,hc,hp=>by
  have mx:x∈x::y::r:=Yf
  have my:y∈x::y::r:=Yd _ Yf
  obtain⟨h1,h2⟩:=Zx.mp hp
  unfold sj
  split
  ·rename_i q
   refine Zx.mpr ⟨fun z hz=>?_,hp⟩
   have hyx:ltD y x=false:=(gk n x y (hc.1 x mx) (hc.1 y my) (hc.2 x mx y my)).as q
   rcases YC.mp hz with rfl | hz
   ·exact hyx
   ·have mz:z∈x::y::r:=Yd _ (Yd _ hz)
    exact kD (hc.1 x mx) (hc.1 y my) (hc.1 z mz) (hc.2 x mx y my) (hc.2 y my z mz) (hc.2 x mx z mz) (hc.2 y my x mx) (hc.2 z mz y my) (hc.2 z mz x mx) hyx (h1 z hz)
  ·rename_i q
   refine Zx.mpr ⟨fun z hz=>?_,iB (x:=x) ⟨fun d hd=>hc.1 d ?_,fun a ha b hb=>hc.2 a ?_ b ?_⟩ h2⟩
   ·rcases YC.mp ((ib x r).mem_iff.mp hz) with rfl | hz
    ·simpa using q
    ·exact h1 z hz
   all_goals
    first
     | (
      rcases YC.mp hd with rfl | hd
      ·exact mx
      ·exact Yd _ (Yd _ hd))
     | (
      rcases YC.mp ha with rfl | ha
      ·exact mx
      ·exact Yd _ (Yd _ ha))
     | (
      rcases YC.mp hb with rfl | hb
      ·exact mx
      ·exact Yd _ (Yd _ hb))
theorem Cmps.sub {n:Nat}{as bs:List D}(h:Cmps n bs)(k:∀ x∈as,x∈bs):Cmps n as:=⟨fun d hd=>h.1 d (k d hd),fun x hx y hy=>h.2 x (k x hx) y (k y hy)⟩
theorem eX {n:Nat}:∀ {l:List D},Cmps n l→(dc l).Pairwise (fun a b=>ltD b a=false)
 | [],_=>.nil
 | x::r,hc=>iB (hc.sub fun y hy=>by
   rcases YC.mp hy with rfl | hy
   ·exact Yf
   ·exact Yd _ ((cZ r).mem_iff.mp hy)) (eX (hc.sub fun y hy=>Yd _ hy))
theorem i9 {n:Nat}{as bs:List D}(hp:as.Perm bs)(hc:Cmps n bs)(hs:as.Pairwise (fun x y=>ltD y x=false)):as=dc bs:=
 ni (hp.trans (cZ bs).symm) (hc.perm hp.symm) hs (eX hc)
theorem ph {n:Nat}{as bs:List D}(hp:as.Perm bs)(hc:Cmps n bs):dc as=dc bs:=
 i9 ((cZ as).trans hp) hc (eX (hc.perm hp.symm))
end L2
namespace L2
open PySem PySem.Spec PyProof.Rows
section
variable {X:Cx} {e a b c o:Expr} {es:List Expr} {pos p:Pos}
theorem nH {K:Kq}{H:Hp}{x:V}{i:Int}(r:Rep K H x (.int i)):x=.int i:=by cases r;rfl
theorem jC {K:Kq}{H:Hp}{x:V}{i:Str}(r:Rep K H x (.str i)):x=.str i:=by cases r;rfl
theorem qi {K:Kq}{g:Int→Int→V}{g':Int→Int→D}(hg:∀ F i j,Rep K F (g i j) (g' i j)):OpN2 K (rI0 g) (fI0 g'):=by
 intro P F H x y dx dy d Q hf hp rx ry k
 unfold fI0 at hf
 split at hf
 ·rename_i i j
  cases hf
  exact⟨i,j,nH rx,nH ry,k _ F H (Evo.refl hp) (hg F i j)⟩
 ·cases hf
theorem OpN2.or {K:Kq}{r r':R2}{f g:Dy}(h:OpN2 K r f)(h':OpN2 K r' g):OpN2 K (fun x y H Q=>r x y H Q∨r' x y H Q) (fun x y=>(f x y).or (g x y)):=by
 intro P F H x y dx dy d Q hf hp rx ry k
 dsimp only at hf
 cases q:f dx dy with
 | some d'=>rw[q] at hf;have hf:=Yq hf;subst hf;exact .inl (h P F H x y dx dy _ Q q hp rx ry k)
 | none=>rw[q] at hf;exact .inr (h' P F H x y dx dy d Q hf hp rx ry k)
def leS:D→D→Option D
 | .str x,.str y=>some (.bl (!decide (y.cps.toList<x.cps.toList)))
 | _,_=>none
def yG:R2:=fun x y H Q=>∃ i j,x=.str i∧y=.str j∧Q (.bl (!decide (j.cps.toList<i.cps.toList))) H
theorem sC:OpR X (compareOp .LtE) yG:=by
 intro pz s σ H x y v u Q I rx ry h
 obtain⟨i,j,rfl,rfl,q⟩:=h
 obtain⟨t,rfl⟩:=rx
 obtain⟨t',rfl⟩:=ry
 exact PySem.P.le_str ⟨.bl _,H,I,rfl,q⟩
theorem A7 {K:Kq}:OpN2 K yG leS:=by
 intro P F H x y dx dy d Q hf hp rx ry k
 unfold leS at hf
 split at hf
 ·cases hf
  exact⟨_,_,jC rx,jC ry,k _ F H (Evo.refl hp) .bl⟩
 ·cases hf
def leA (x y:D):Option D:=(leI x y).or (leS x y)
theorem jr:OpR X (compareOp .LtE) (fun x y H Q=>rI0 (fun i j=>.bl (decide (i≤j))) x y H Q∨yG x y H Q):=DU.or sC
theorem jw {K:Kq}:OpN2 K (fun x y H Q=>rI0 (fun i j=>.bl (decide (i≤j))) x y H Q∨yG x y H Q) leA:=(qi fun _ _ _=>.bl).or A7
def chD (f g:Dy)(fa fb fc:Dd):DF→Option D:=fun ρ=>(fa ρ).bind fun x=>(fb ρ).bind fun y=>match f x y with
 | some (.bl true)=>(fc ρ).bind fun z=>g y z
 | some (.bl false)=>some (.bl false)
 | _=>none
theorem jD {K:Kq}{r r':R2}{f g:Dy}{fa fb fc:Dd}(ho:OpN2 K r f)(ho':OpN2 K r' g):∀ σ H Q,tD K (chD f g fa fb fc) σ H Q→pd r r' (tN K fa) (tN K fb) (tN K fc) σ H Q:=fun σ H Q=>un7 fun P F ρ d hf I k=>by
 unfold chD at hf
 cases ha:fa ρ with
 | none=>rw[ha] at hf;cases hf
 | some dx=>
 cases hb:fb ρ with
 | none=>rw[ha,Ya,hb] at hf;cases hf
 | some dy=>
 rw[ha,Ya,hb,Ya] at hf
 split at hf
 ·rename_i hxy
  cases hc:fc ρ with
  | none=>rw[hc] at hf;cases hf
  | some dz=>
   rw[hc,Ya] at hf
   refine⟨P,F,ρ,dx,ha,I,fun x F1 H1 e1 rx=>⟨P,F1,ρ,dy,hb,I.evo e1,fun y F2 H2 e2 ry=>?_⟩⟩
   refine ho P F2 H2 x y dx dy _ _ hxy e2.hp (rx.same (e2.same e1.hp)) ry fun v F3 H3 e3 rv=>?_
   cases rv
   refine⟨true,rfl,?_⟩
   rw[Yh rfl]
   have e123:=(e1.trans e2).trans e3
   refine⟨P,F3,ρ,dz,hc,I.evo e123,fun z F4 H4 e4 rz=>?_⟩
   exact ho' P F4 H4 y z dy dz d Q hf e4.hp ((ry.same (e3.same e2.hp)).same (e4.same e3.hp)) rz fun v F5 H5 e5 rv=>k v F5 H5 ((e123.trans e4).trans e5) rv
 ·rename_i hxy
  cases hf
  refine⟨P,F,ρ,dx,ha,I,fun x F1 H1 e1 rx=>⟨P,F1,ρ,dy,hb,I.evo e1,fun y F2 H2 e2 ry=>?_⟩⟩
  refine ho P F2 H2 x y dx dy _ _ hxy e2.hp (rx.same (e2.same e1.hp)) ry fun v F3 H3 e3 rv=>?_
  cases rv
  refine⟨false,rfl,?_⟩
  rw[Yr Yp]
  exact k _ F3 H3 ((e1.trans e2).trans e3) .bl
 ·cases hf
theorem mB {fa fb fc:Dd}(ha:PDN X a fa)(hb:PDN X b fb)(hc:PDN X c fc)(hm:lastMarks [CmpOp.LtE,CmpOp.LtE] [b,c]=false:=by with_unfolding_all rfl):PDE X (.Compare a [.LtE,.LtE] [b,c] pos) (chD leA leA fa fb fc):=(nI jr jr ha hb hc hm).imp (jD jw jw)
theorem lY {fa fb fc:Dd}(ha:PDN X a fa)(hb:PDN X b fb)(hc:PDN X c fc)(hm:lastMarks [CmpOp.LtE,CmpOp.Lt] [b,c]=false:=by with_unfolding_all rfl):PDE X (.Compare a [.LtE,.Lt] [b,c] pos) (chD leA ltI fa fb fc):=(nI jr Cj ha hb hc hm).imp (jD jw (qi fun _ _ _=>.bl))
theorem mE {fa fb fc:Dd}(ha:PDN X a fa)(hb:PDN X b fb)(hc:PDN X c fc)(hm:lastMarks [CmpOp.LtE,CmpOp.LtE] [b,c]=false:=by with_unfolding_all rfl):PDT X (.Compare a [.LtE,.LtE] [b,c] pos) (asB (chD leA leA fa fb fc)):=(uU jr jr ha hb hc hm).imp (gr (jD jw jw))
def wL (K:Kq)(r:List V→Hp→VK→Prop)(f:D→Option D):Prop:=
 ∀ (P F H:Hp) (x:V) (dx d:D) (Q:VK),f dx=some d→DHp P F H→Rep K H x dx→(∀ v F' H',Evo P F H F' H'→Rep K F' v d→Q v H')→r [x] H Q
theorem lT {K:Kq}{r:List V→Hp→VK→Prop}{f:D→Option D}{fa:Dd}(ho:wL K r f):∀ σ H Q,tD K (d1 f fa) σ H Q→tCB r (oh (tN K fa) oN) σ H Q:=fun σ H Q=>un7 fun P F ρ d hf I k=>by
 unfold d1 at hf
 cases ha:fa ρ with
 | none=>rw[ha] at hf;cases hf
 | some dx=>
  rw[ha,Ya] at hf
  exact⟨P,F,ρ,dx,ha,I,fun x F1 H1 e1 rx=>ho P F1 H1 x dx d Q hf e1.hp rx fun v F2 H2 e2 rv=>k v F2 H2 (e1.trans e2) rv⟩
theorem zW {K:Kq}:wL K (Cn K) aM:=by
 intro P F H x dx d Q hf hp rx k
 unfold aM at hf
 split at hf
 ·cases hf
  cases rx with | lst h1 h2=>exact .inl ⟨_,_,rfl,.inl h1,by rw[h2.length];exact k _ F H (Evo.refl hp) .int⟩
 ·cases hf
  cases rx with | tup h1 h2=>exact .inl ⟨_,_,rfl,.inr (SqT.of h1),by rw[h2.length];exact k _ F H (Evo.refl hp) .int⟩
 ·split at hf
  ·rename_i h
   cases hf
   exact .inr ⟨_,by rw[jC rx],by rw[YK];exact h,k _ F H (Evo.refl hp) .int⟩
  ·cases hf
 ·cases hf
theorem bf {fa:Dd}(hg:Gl X "len")(hm:X.mg "len"=none)(ha:PDN X e fa)(hs:starEach [e] X.env=[(false,eval e X.env)]:=by rfl)(hpl:(backTo pos (starEach [] X.env)).any (·.1)=false:=by rfl) :
  PDE X (.Call (.Name "len" p) [e] [] pos) (d1 aM fa):=
 (df (l8.or lP) hg hm PySem.boot_len (aH ha a9 hs) (by decide) (by decide) hs hpl).imp (lT zW)
theorem boot_int:bootBuiltins "int"=some (.type "int"):=by rfl
theorem boot_list:bootBuiltins "list"=some (.type "list"):=by rfl
theorem boot_tuple:bootBuiltins "tuple"=some (.type "tuple"):=by rfl
theorem boot_bool:bootBuiltins "bool"=some (.type "bool"):=by rfl
theorem boot_str:bootBuiltins "str"=some (.type "str"):=by rfl
theorem eY:bootBuiltins "isinstance"=some (.builtin "isinstance"):=by rfl
theorem vw:bootBuiltins "all"=some (.builtin "all"):=by rfl
theorem wD:bootBuiltins "min"=some (.builtin "min"):=by rfl
theorem u_:bootBuiltins "max"=some (.builtin "max"):=by rfl
theorem n_:bootBuiltins "sorted"=some (.builtin "sorted"):=by rfl
def wF:D→Option D
 | .lst ds=>some (.tup ds)
 | .tup ds=>some (.tup ds)
 | _=>none
theorem Ao {K:Kq}:CA K (fun xs H Q=>∃ p ys,xs=[.ref p]∧((SqL K H p ys∧∀ l,H l=none→Q (.ref l) (upd H l (.tup ys)))∨(SqT K H p ys∧Q (.ref p) H))) wF:=by
 intro P F H ρ σ x dx d Q hf I rx k
 unfold wF at hf
 split at hf
 ·cases hf
  obtain⟨p,vs,rfl,h1,h2⟩:=eF I rx
  refine⟨p,vs,rfl,.inl ⟨h1,fun l hl=>?_⟩⟩
  exact k _ _ _ (Evo.laid I.toDHp hl) (.tup aw (h2.same (de (I.toDHp.free hl).1)))
 ·cases hf
  rcases rx with rx | ⟨_,ob,_,_,_,_,_,hfl,z⟩
  ·cases rx with | tup h1 h2=>exact⟨_,_,rfl,.inr ⟨SqT.of (I.sub _ _ h1),k _ F H (Evo.refl I.toDHp) (.tup h1 h2)⟩⟩
  ·cases ob <;> first | (cases z;done) | cases hfl
 ·cases hf
theorem um {fa:Dd}(hg:Gl X "tuple")(hm:X.mg "tuple"=none)(ha:PDR X e fa)(hs:starEach [e] X.env=[(false,eval e X.env)]:=by rfl) :
  PDE X (.Call (.Name "tuple" p) [e] [] pos) (d1 wF fa):=
 (fJ jW hg hm boot_tuple (aH ha a9 hs) (he:=hs)).imp (BI Ao)
def jE (f:Dd):DF→Option (List D):=fun ρ=>(f ρ).bind dD
theorem m6 {fa:Dd}(hg:Gl X "list")(hm:X.mg "list"=none)(ha:PDR X e fa)(hs:starEach [e] X.env=[(false,eval e X.env)]:=by rfl) :
  PDO X (.Call (.Name "list" p) [e] [] pos) (asL (jE fa)):=
 (fJ k6 hg hm boot_list (aH ha a9 hs) (he:=hs)).imp fun σ H Q=>un7 fun P F ρ ob hf I k=>by
  unfold asL jE at hf
  cases ha:fa ρ with
  | none=>rw[ha] at hf;cases hf
  | some dx=>
   rw[ha,Ya] at hf
   cases hi:dD dx with
   | none=>rw[hi] at hf;cases hf
   | some ds=>
    rw[hi] at hf
    cases hf
    refine⟨P,F,ρ,dx,ha,I,fun x F1 H1 e1 rx=>?_⟩
    have I1:=I.evo e1
    have fin:∀ vs,Reps X.K F1 vs ds→∀ l,H1 l=none→Q (.ref l) (upd H1 l (.lst vs)):=fun vs r l hl=>
     k l F1 _ (e1.trans (Evo.side e1.hp hl)) ⟨⟨e1.back I.toDHp hl,(e1.hp.free hl).1⟩,_,aw,r⟩
    cases dx with
    | lst ds'=>
     cases hi
     obtain⟨q,vs,rfl,h1,h2⟩:=eF I1 rx
     exact⟨q,vs,rfl,.inl h1,fin vs h2⟩
    | tup ds'=>
     cases hi
     obtain⟨q,vs,rfl,h1,h2⟩:=gY I1 rx
     exact⟨q,vs,rfl,.inr h1,fin vs h2⟩
    | _=>cases hi
def zw (K:Kq):R2:=fun x y H Q=>∃ l b xs zs,x=.ref l∧y=.ref b∧SqL K H l xs∧SqL K H b zs∧xs.length+zs.length≤sizeLine∧∀ p,H p=none→Q (.ref p) (upd H p (.lst (xs++zs)))
theorem p9:OpR X (binaryOp .Add) (zw X.K):=by
 intro pz s σ H x y v u Q I rx ry h
 obtain⟨l,b,xs,zs,rfl,rfl,hH,hB,hz,q⟩:=h
 cases rx
 cases ry
 obtain⟨its,r,p1,_⟩:=I.list hH
 obtain⟨its2,r2,p2,_⟩:=I.list hB
 obtain⟨⟨cls,dd,data,sl⟩,n,ho,hc,hdd,hd⟩:=p1
 obtain⟨⟨cls2,dd2,data2,sl2⟩,n2,ho2,hc2,hdd2,hd2⟩:=p2
 simp only at hc hd hc2 hd2
 subst hc hd hc2 hd2
 have e1:=r.length
 have e2:=r2.length
 refine concat_meets ⟨_,ho,rfl⟩ ⟨_,ho2,rfl⟩ PySem.noFill_list_add PySem.seq_list_add PySem.F.slot_list_add PySem.F.entry_list_add (PySem.F.args_list_add_2 _ _) (list_addW l b its.toArray its2.toArray n n2 dd dd2 sl sl2 (by rw[Ym,Ym];omega)) ⟨ho,ho2,?_⟩
 have ea:its.toArray++its2.toArray=(its++its2).toArray:=by simp
 rw[ea]
 exact⟨.ref _,_,I.lnew (t':=s.toks) (r.append r2) (by rw[Yc];omega),rfl,q _ I.fresh⟩
end
def spM (K:Kq)(f:Dz):Sp:=fun vs H Q _=>∃ P F a vs' o xs o' d,vs=.ref a::vs'∧f o xs=some (o',d)∧DHp P F H∧F a=none∧P a=none∧o.flat=true∧(∃ u,H a=some u∧ORep1 K F o u)∧DVs K P F H xs vs' ∧
 ∀ v F' H',Same F F'→DHp P F' H'→F' a=none→(∃ u',H' a=some u'∧ORep1 K F' o' u')→o'.flat=true→Rep K F' v d→Q v H'
def iz (a:Addr)(o':OD)(d:D):RES→Prop
 | .nx ρ=>ρ[0]?=some (some (.own o' (some a)))∧d=.non
 | .rt x ρ=>x=.v d∧ρ[0]?=some (some (.own o' (some a)))
 | _=>False
theorem DInv.startM {K:Kq}{P F H:Hp}{xs:List DV}{vs:List V}{a:Addr}{o:OD}(N:List Str)(p:Nat)(h:DHp P F H)(hf:F a=none)(hp:P a=none)(fl:o.flat=true)(ho:∃ u,H a=some u∧ORep1 K F o u)(r:DVs K P F H xs vs)(hl:xs.length+1=p) :
  DInv K P F H (bh N.length p (.own o (some a)::xs)) (L2.start N (.ref a::vs)):=by
 refine⟨h,?_,fun b=>if b=a then some 0 else none,fun i x e=>?_⟩
 ·unfold bh L2.start
  rw[Yc,Yc,Yb,Yb,Yw,Yw,Yg,Yg,← r.length,hl]
 ·have e':=eR e
  cases i with
  | zero=>
   cases e'
   refine⟨.ref a,c7 (i:=0) rfl,a,rfl,(ORep.flat fl).mpr ⟨⟨hf,hp,Yh rfl⟩,ho⟩,fun b z=>by cases z;rfl⟩
  | succ i=>
   obtain⟨hno,v,h1,h2⟩:=r.get (i:=i) (x:=x) e'
   refine⟨v,c7 (i:=i+1) (by simpa using h1),?_⟩
   cases x with
   | own o t=>cases hno
   | v d=>exact h2
   | bor o=>exact h2
theorem Fun.okM {P:Program}{w:World}{K:Kq}{mg:Ks}{base:Heap}{x qual:Str}{st:Stmt}{f:Addr}{fd:FuncData}{N ps:List Str}{k:Nat}{g:Dw}{m:Dz}(F:Fun K x qual st f fd)(S:FnScope N ps (defScope st))
  (hm:∀ a o xs o' d,m o xs=some (o',d)→xs.length+1=ps.length∧o'.flat=true∧∃ r,g (bh N.length ps.length (.own o (some a)::xs))=some r∧iz a o' d r)
  (hbody:∀ (cdv:Value) (A:Around) (outer:List Env) (s:Shared) (H:Hp) (E:XK),Room k (A.deeper (envOfC qual (defScope st) s.heap.objs.size f cdv))→
   PDS (gG CX0 P w K mg base N qual (defScope st) f cdv A outer s H E).nox (defBody st) g):FnOk P w K mg base CX0 (k+1) f fd ps (spM K m):=by
 refine F.ok S (fun vs H Q E hh_=>?_) fun cdv A outer s H vs Q E hr h=>?_
 ·obtain⟨P',F',a,vs',o,xs,o',d,e,h1,_,_,_,_,_,hv,_⟩:=hh_
  rw[e,Yg,← hv.length];exact (hm 0 o xs o' d h1).1
 ·refine⟨_,hbody cdv A outer s H E hr,?_⟩
  obtain⟨P',F',a,vs',o,xs,o',d,rfl,h1,hp,hf,hP,fl,ho,hv,hQ⟩:=h
  obtain⟨hl,fl',r,hg,he⟩:=hm a o xs o' d h1
  have I:=DInv.startM N ps.length hp hf hP fl ho hv hl
  refine⟨P',F',_,r,hg,I,?_⟩
  have fin:∀ (ρ:DF) (σ:St) (F2 H2:Hp) (v:V),ρ[0]?=some (some (.own o' (some a)))→Same F' F2→DInv K P' F2 H2 ρ σ→Rep K F2 v d→Q v H2:=fun ρ σ F2 H2 v h0 e I2 rv=>by
   obtain⟨v',_,a',rfl,h3,h4⟩:=I2.at h0
   have ea:=h4 a rfl
   subst ea
   obtain⟨⟨q1,q2,_⟩,u,q3,q4⟩:=(ORep.flat fl').mp h3
   exact hQ v F2 H2 e I2.toDHp q1 ⟨u,q3,q4⟩ fl' rv
  cases r with
  | nx ρ=>(obtain⟨h0,rfl⟩:=he;exact fun σ F2 H2 e I2=>fin ρ σ F2 H2 .non h0 e I2 .non)
  | rt x ρ=>(obtain⟨rfl,h0⟩:=he;exact fun v σ F2 H2 e I2 rv=>fin ρ σ F2 H2 v h0 e I2 rv)
  | bk ρ=>exact he.elim
  | ct ρ=>exact he.elim
def gdx (F H:Hp)(a:Addr):Hp:=fun b=>if b=a then none else gd F H b
theorem lm {F H:Hp}{a b:Addr}{o:HO}:gdx F H a b=some o↔b≠a∧F b=none∧H b=some o:=by
 unfold gdx
 by_cases h:b=a
 ·rw[Yh h];simp[h]
 ·rw[Yr h,fu];simp[h]
theorem Ay {F H:Hp}(s:Same F H)(a:Addr):DHp (gdx F H a) F H:=⟨s,fun b o e=>(lm.mp e).2.2,fun b o e=>(lm.mp e).2.1⟩
theorem ArgsS.dvx {K:Kq}{P F H:Hp}{ρ:DF}{σ:St}(I:DInv K P F H ρ σ){i:Nat}{o:OD}{t:Option Addr}{a:Addr}(hi:ρ[i]?=some (some (.own o t)))(hs:σ[i]?=some (some (.ref a)))(fl:o.flat=true):∀ {xs:List DV} {vs:List V},ArgsS K ρ σ F xs vs→(∀ x∈xs,∃ d,x=.v d)→DVs K (gdx F H a) F H xs vs:=by
 intro xs vs h
 induction h with
 | nil=>exact fun _=>.nil
 | v h _ ih=>exact fun hx=>.cons rfl h (ih fun x m=>hx x (Yd _ m))
 | b j h1 h2 _ ih=>
  intro hx
  obtain⟨d,e⟩:=hx _ Yf
  cases e
def li (xs:List DV):Bool:=xs.all fun x=>match x with
 | .v _=>true
 | _=>false
theorem uw {xs:List DV}(h:li xs=true):∀ x∈xs,∃ d,x=.v d:=fun x m=>by
 have:=YG.mp h x m
 cases x with
 | v d=>exact⟨d,rfl⟩
 | _=>cases this
def lF (K:Kq)(i:Nat)(m:Dz)(g:Dv):DF→Option (DF×D):=fun ρ=>match ρ[i]? with
 | some (some (.own o t))=>if o.flat=true then (g ρ).bind fun xs=>if li xs=true then (m o xs).map fun r=>(ρ.set i (some (.own r.1 t)),r.2) else none else none
 | _=>none
def fg (K:Kq)(i:Nat)(m:Dz)(g:Dv):DF→Option RES:=fun ρ=>(lF K i m g ρ).map fun r=>.nx r.1
theorem oK {K:Kq}{P F1 H1 F2 H2:Hp}{ρ:DF}{σ:St}{i:Nat}{o o':OD}{t:Option Addr}{a:Addr}(I:DInv K P F1 H1 ρ σ)(hi:ρ[i]?=some (some (.own o t)))(hs:σ[i]?=some (some (.ref a)))(fl:o.flat=true)(fl':o'.flat=true)
  (e2:Same F1 F2) (hp2:DHp (gdx F1 H1 a) F2 H2) (f2:F2 a=none) (ho:∃ u',H2 a=some u'∧ORep1 K F2 o' u'):DInv K P F2 H2 (ρ.set i (some (.own o' t))) σ:=by
 obtain⟨O,hR⟩:=I.rep
 obtain⟨v,h1,b,rfl,h2,ht⟩:=hR i _ hi
 rw[hs] at h1;cases h1
 obtain⟨⟨q1,q2,q3⟩,u,q4,_⟩:=(ORep.flat fl).mp h2
 have keep:∀ b u,b≠a→F1 b=none→H1 b=some u→H2 b=some u∧F2 b=none:=fun b u hb n q=>⟨hp2.pro b u (lm.mpr ⟨hb,n,q⟩),hp2.dis b u (lm.mpr ⟨hb,n,q⟩)⟩
 refine⟨⟨hp2.sub,fun b u q=>(keep b u (fun z=>by subst z;rw[q2] at q;cases q) (I.dis b u q) (I.pro b u q)).1,fun b u q=>(keep b u (fun z=>by subst z;rw[q2] at q;cases q) (I.dis b u q) (I.pro b u q)).2⟩,by rw[YZ];exact I.len,O,fun j z hj=>?_⟩
 rcases dN hj with⟨rfl,e,hl⟩ | ⟨hij,hj'⟩
 ·cases e
  exact⟨_,hs,a,rfl,(ORep.flat fl').mpr ⟨⟨f2,q2,q3⟩,ho⟩,ht⟩
 ·obtain⟨w,e1,e3⟩:=hR j z hj'
  refine⟨w,e1,?_⟩
  cases z with
  | v d'=>exact Rep.same e2 e3
  | own od t'=>
   obtain⟨c,rfl,e4,ht'⟩:=e3
   refine⟨c,rfl,e4.mono e2 fun b w' q hb=>?_,ht'⟩
   obtain⟨k1,k2⟩:=keep b w' (fun z=>by subst z;rw[q.2.2] at q3;exact hij (Yq q3).symm) q.1 hb
   exact⟨k1,k2,q.2⟩
  | bor od=>(obtain⟨c,rfl,e4⟩:=e3;exact⟨c,rfl,e4.mono e2 fun b u q hb=>⟨hb,q⟩⟩)
section
variable {X:Cx} {k:Nat} {f C:Addr} {fd:FuncData} {ps:List Str} {m:Dm} {mM:Dz} {x mn:Str} {p pos apos spos:Pos} {e o:Expr} {es:List Expr} {g:Dv}
theorem ol (i:Nat)(G:FnOk X.prog X.w X.K X.mg X.base CX0 k f fd ps (spM X.K mM))(hr:Room k X.A)(hg:Gl X x)(hm:X.mg x=some (.ref f))(hk:PySem.W.keepIn X.K (.ref f)=true)(hb:Binds X.K fd ps [])(h0:PE X e (ce i))(ha:gH X es g)
  (hd:(x == ("__debug__":Str))=false:=by decide) (he:starEach (e::es) X.env=(false,eval e X.env)::starEach es X.env:=by rfl) (hpl:(backTo pos (starEach es X.env)).any (·.1)=false:=by rfl) (hsw:swapsWith (.Call (.Name x p) (e::es) [] pos) none spos.line X.env=pure false:=by rfl) :
  PD1 X (.Expr (.Call (.Name x p) (e::es) [] pos) spos) (fg X.K i mM g):=
 PS.imp (c_ (iO G hr hg hm hk hb .nil gX (aH h0 ha he) hd he hpl) hsw) fun E σ H=>un7 fun P F ρ r hr I k=>by
  unfold fg lF at hr
  split at hr
  ·rename_i od t q
   split at hr
   ·rename_i fl
    cases q2:g ρ with
    | none=>rw[q2] at hr;cases hr
    | some xs=>
     rw[q2,Ya] at hr
     split at hr
     ·rename_i av
      cases q3:mM od xs with
      | none=>rw[q3] at hr;cases hr
      | some res=>
       rw[q3] at hr
       cases hr
       obtain⟨v,h1,a,rfl,h2,h3⟩:=I.at q
       obtain⟨⟨a1,a2,_⟩,u,a3,a4⟩:=(ORep.flat fl).mp h2
       refine⟨_,h1,P,F,ρ,xs,q2,I,fun vs F1 H1 e1 r1=>?_⟩
       have I1:=I.evo e1
       obtain⟨k1,k2⟩:=e1.keep a u a3 a1
       refine⟨gdx F1 H1 a,F1,a,vs,od,xs,res.1,res.2,by simp,q3,Ay I1.sub a,k2,by unfold gdx;rw[Yh rfl],fl,⟨u,k1,a4.same e1.ext⟩,r1.dvx I1 q h1 fl (uw av),fun v F2 H2 e2 hp2 f2 ho fl' rv=>?_⟩
       exact k σ F2 H2 (e1.ext.trans e2) (oK I1 q h1 fl fl' e2 hp2 f2 ho)
     ·cases hr
   ·cases hr
  ·cases hr
theorem RepsF.look {K:Kq}{H:Hp}{n:Str}{vs:List (Str×V)}{ds:List (Str×D)}{d:D}(h:RepsF K H vs ds):ds.lookup n=some d→∃ v,vs.lookup n=some v∧Rep K H v d:=
 RepsF.ind (M:=fun vs ds=>ds.lookup n=some d→∃ v,vs.lookup n=some v∧Rep K H v d) (fun e=>by cases e) (fun h _ ih e=>by
  rw[aK] at e ⊢
  split at e
  ·rename_i q;cases e;rw[Yh q];exact⟨_,rfl,h⟩
  ·rename_i q;rw[Yr q];exact ih e) h
theorem RepsF.no {K:Kq}{H:Hp}{n:Str}{vs:List (Str×V)}{ds:List (Str×D)}(h:RepsF K H vs ds):ds.lookup n=none→vs.lookup n=none:=
 RepsF.ind (M:=fun vs ds=>ds.lookup n=none→vs.lookup n=none) (fun _=>rfl) (fun _ _ ih e=>by
  rw[aK] at e ⊢
  split at e
  ·cases e
  ·rename_i q;rw[Yr q];exact ih e) h
def di (C:Addr)(n:Str):D→Option D
 | .ins C' fs=>if C'=C then fs.lookup n else none
 | _=>none
theorem eO {fa:Dd}{n:Str}(c:Cls X.K C)(hn:NoAttr X.K C n)(h:PDR X e fa)(hb:attributeBase e n X.env (eval e X.env)=eval e X.env:=by rfl):PDE X (.Attribute e n pos) (d1 (di C n) fa):=
 (gh h hb).imp fun σ H Q=>un7 fun P F ρ d hf I k=>by
  unfold d1 at hf
  cases q:fa ρ with
  | none=>rw[q] at hf;cases hf
  | some dx=>
   rw[q,Ya] at hf
   refine⟨P,F,ρ,dx,q,I,fun y F1 H1 e1 rx=>?_⟩
   cases dx with
   | ins C' fs=>
    have hf':(if C'=C then fs.lookup n else none)=some d:=hf
    split at hf'
    ·rename_i hC
     subst hC
     obtain⟨a,dx,vs,rfl,h1,h2⟩:=mf (I.evo e1) rx
     obtain⟨v,h3,h4⟩:=h2.look hf'
     exact⟨a,C',dx,vs,v,rfl,h1,c,hn,h3,k v F1 H1 e1 h4⟩
    ·cases hf'
   | _=>cases hf
def jO (f:Str)(v:D):List (Str×D)→List (Str×D)
 | []=>[(f,v)]
 | (g,x)::r=>if g=f then (g,v)::r else (g,x)::jO f v r
theorem RepsF.put {K:Kq}{H:Hp}{n:Str}{v:V}{d:D}(rv:Rep K H v d){vs:List (Str×V)}{ds:List (Str×D)}(h:RepsF K H vs ds):RepsF K H (cu n v vs) (jO n d ds):=
 RepsF.ind (M:=fun vs ds=>RepsF K H (cu n v vs) (jO n d ds)) (.cons rv .nil) (fun {k _ _ _ _} h r ih=>by
  unfold cu jO
  by_cases q:k=n
  ·rw[Yh q,Yh q];exact .cons rv r
  ·rw[Yr q,Yr q];exact .cons h ih) h
theorem RepsF.length {K:Kq}{H:Hp}{vs:List (Str×V)}{ds:List (Str×D)}(h:RepsF K H vs ds):vs.length=ds.length:=RepsF.ind (M:=fun vs ds=>vs.length=ds.length) rfl (fun _ _ ih=>YN Nat.succ ih) h
def kq (C:Addr)(i:Nat)(n:Str)(fv:Dd):DF→Option RES:=fun ρ=>match ρ[i]? with
 | some (some (.own (.ins C' fs) t))=>if C'=C then (fv ρ).bind fun d=>if fs.length<1000 then some (.nx (ρ.set i (some (.own (.ins C (jO n d fs)) t)))) else none else none
 | _=>none
theorem lB {value:Expr}{n:Str}{fv:Dd}{pos':Pos}(i:Nat)(c:Cls X.K C)(hn:NoAttr X.K C n)(ho:PE X o (ce i))(hv:PDE X value fv)(hs:swapsWith value (some (.Attribute o n pos')) pos.line X.env=pure false:=by rfl) :
  PD1 X (.Assign [.Attribute o n pos'] value pos) (kq C i n fv):=PS.imp (pG ho hv hs) fun E σ H=>un7 fun P F ρ r hr I k=>by
 unfold kq at hr
 split at hr
 ·rename_i C' fs t q
  split at hr
  ·rename_i hC
   subst hC
   cases q2:fv ρ with
   | none=>rw[q2] at hr;cases hr
   | some d=>
    rw[q2,Ya] at hr
    split at hr
    ·rename_i hl
     cases hr
     obtain⟨v,h1,a,rfl,⟨⟨a1,a2,_⟩,u,a3,a4⟩,_⟩:=I.at q
     cases u with
     | ins C'' dx vs=>
      obtain⟨rfl,a4⟩:=a4
      refine⟨P,F,ρ,d,q2,I,fun y F1 H1 e1 ry=>⟨_,h1,a,C',dx,vs,rfl,(e1.keep a _ a3 a1).1,c,hn,by rw[a4.length];exact hl,k σ F1 _ e1.ext ?_⟩⟩
      exact (I.evo e1).mut (o':=.ins C' _) (u:=.ins C' dx _) q rfl rfl h1 ⟨rfl,(RepsF.same e1.ext a4).put ry⟩
     | _=>exact a4.elim
    ·cases hr
  ·cases hr
 ·cases hr
def p5 (C:Addr):DV→Option (List (Str×D))
 | .v (.ins C' fs)=>if C'=C then some fs else none
 | .bor (.ins C' fs)=>if C'=C then some fs else none
 | .bor (.obj (some C') fs)=>if C'=C then some (fs.map fun p=>(p.1,p.2.dat)) else none
 | _=>none
def nP (C:Addr)(mn:Str):List DV→Bool
 | x::_=>match p5 C x with
  | some fs=>(fs.lookup mn).isNone
  | none=>false
 | []=>false
def dI (C:Addr)(mn:Str)(m:Dm)(g:Dv):DF→Option D:=fun ρ=>(g ρ).bind fun xs=>if nP C mn xs=true then (m xs).bind dvD else none
end
theorem DVs.heap {K:Kq}{P F H H':Hp}{xs:List DV}{vs:List V}(h:DVs K P F H xs vs):DVs K P F H' xs vs:=by
 induction h with
 | nil=>exact .nil
 | @cons x _ _ _ h r _ ih=>
  refine .cons h ?_ ih
  cases x with
  | v d=>exact r
  | bor o=>exact r
  | own o t=>cases h
def fq (i:Nat):DF→Option DV:=fun ρ=>match ρ[i]? with
 | some (some (.own o _))=>some (.bor o)
 | some (some (.bor o))=>some (.bor o)
 | some (some (.v d))=>some (.v d)
 | _=>none
def d9 (s:DF→Option DV)(g:Dv):DF→Option (List DV):=fun ρ=>(s ρ).bind fun x=>(g ρ).map fun xs=>x::xs
def g0:DF→Option (List DV):=fun _=>some []
def Self1 (K:Kq)(ρ:DF)(σ:St)(F:Hp)(x:DV)(v:V):Prop:=ArgsS K ρ σ F [x] [v]
theorem Self1.cons {K:Kq}{ρ:DF}{σ:St}{F F':Hp}{x:DV}{v:V}{xs:List DV}{vs:List V}(h:Self1 K ρ σ F x v)(e:Same F F')(r:ArgsS K ρ σ F' xs vs):ArgsS K ρ σ F' (x::xs) (v::vs):=by
 cases h with
 | v h _=>exact .v (h.same e) r
 | b i h1 h2 _=>exact .b i h1 h2 r
theorem wK {K:Kq}{F H:Hp}{ow:Addr→Prop}{n:Str}{vs:List (Str×V)}{fs:List (Str×FO)}(h:All2 (fun (p:Str×V) (q:Str×FO)=>p.1=q.1∧FRep K F H ow q.2 p.2) vs fs):(fs.map fun p=>(p.1,p.2.dat)).lookup n=none→vs.lookup n=none:=by
 induction h with
 | nil=>exact fun _=>rfl
 | @cons p q _ _ h _ ih=>
  obtain⟨x,v⟩:=p
  obtain⟨y,o⟩:=q
  obtain⟨e,r⟩:=h
  cases e
  intro e
  rw[YA,aK] at e
  rw[aK]
  split at e
  ·cases e
  ·rename_i z;rw[Yr z];exact ih e
theorem Self1.ins {K:Kq}{P F H:Hp}{ρ:DF}{σ:St}{x:DV}{v:V}{C:Addr}{fs:List (Str×D)}(I:DInv K P F H ρ σ)(h:Self1 K ρ σ F x v)(hi:p5 C x=some fs):∃ a dx vs,v=.ref a∧H a=some (.ins C dx vs)∧∀ n,fs.lookup n=none→vs.lookup n=none:=by
 cases h with
 | @v d _ _ _ h _=>
  cases d with
  | ins C' fs'=>
   have hi':(if C'=C then some fs' else none)=some fs:=hi
   split at hi'
   ·rename_i hC
    subst hC
    cases hi'
    obtain⟨a,dx,vs,h1,h2,h3⟩:=mf I (.inl h)
    exact⟨a,dx,vs,h1,h2,fun n=>h3.no⟩
   ·cases hi'
  | _=>cases hi
 | @b o _ _ _ i h1 h2 _=>
  cases o with
  | ins C' fs'=>
   have hi':(if C'=C then some fs' else none)=some fs:=hi
   split at hi'
   ·rename_i hC
    subst hC
    cases hi'
    obtain⟨a,dx,vs,h1,h2,h3⟩:=mf I (RepS.slot I h1 h2 rfl)
    exact⟨a,dx,vs,h1,h2,fun n=>h3.no⟩
   ·cases hi'
  | obj C0 fs'=>
   cases C0 with
   | none=>cases hi
   | some C'=>
   have hi':(if C'=C then some (fs'.map fun p=>(p.1,p.2.dat)) else none)=some fs:=hi
   split at hi'
   ·rename_i hC
    subst hC
    cases hi'
    obtain⟨a,rfl,_,dx,vs,q1,_,q2⟩:=I.slot h1 h2
    exact⟨a,dx,vs,rfl,q1,fun n=>wK q2⟩
   ·cases hi'
  | _=>cases hi
def vx (K:Kq)(s:DF→Option DV):TE:=fun σ H Q=>∃ P F ρ x,s ρ=some x∧DInv K P F H ρ σ∧∀ v F' H',Evo P F H F' H'→Self1 K ρ σ F' x v→Q v H'
def pS (X:Cx)(e:Expr)(s:DF→Option DV):Prop:=PE X e (vx X.K s)
section
variable {X:Cx} {k:Nat} {f C:Addr} {fd:FuncData} {ps:List Str} {m:Dm} {mM:Dz} {x mn:Str} {p pos apos spos:Pos} {e o:Expr} {es:List Expr} {g:Dv} {s:DF→Option DV}
theorem xF (i:Nat)(h:PE X e (ce i)):pS X e (fq i):=PE.imp h fun σ H Q=>un7 fun P F ρ x hf I k=>by
 unfold fq at hf
 split at hf
 ·rename_i o t q
  cases hf
  obtain⟨v,h1,_⟩:=I.at q
  exact⟨v,h1,k v F H (Evo.refl I.toDHp) (.b i h1 (.inl ⟨t,q⟩) .nil)⟩
 ·rename_i o q
  cases hf
  obtain⟨v,h1,_⟩:=I.at q
  exact⟨v,h1,k v F H (Evo.refl I.toDHp) (.b i h1 (.inr q) .nil)⟩
 ·rename_i d q
  cases hf
  obtain⟨v,h1,h2⟩:=I.at q
  exact⟨v,h1,k v F H (Evo.refl I.toDHp) (.v h2 .nil)⟩
 ·cases hf
theorem oZ {C:Addr}{mn:Str}{x:DV}{xs:List DV}(h:nP C mn (x::xs)=true):∃ fs,p5 C x=some fs∧fs.lookup mn=none:=by
 unfold nP at h
 cases q:p5 C x with
 | none=>simp[q] at h
 | some fs=>exact⟨fs,rfl,by simpa[q] using h⟩
theorem uo {K:Kq}{E:XK}{σ:St}{H:Hp}{Q:VK}{P F:Hp}{ρ:DF}{xs:List DV}{y:DV}(hg:d9 s g ρ=some xs)(hs:nP C mn xs=true)(hm:m xs=some y)(I:DInv K P F H ρ σ)
  (k:∀ v F1 H1 F2 H2,Evo P F H F1 H1→Same F1 F2→DHp (gd F1 H1) F2 H2→DVRep K (gd F1 H1) F2 H2 oH y v→Q v H2):jt C mn (spD K m) [] E (vx K s) (tLV K g) σ H Q:=by
 unfold d9 at hg
 cases q:s ρ with
 | none=>rw[q] at hg;cases hg
 | some x=>
  rw[q,Ya] at hg
  cases q2:g ρ with
  | none=>rw[q2] at hg;cases hg
  | some ys=>
   rw[q2] at hg
   cases hg
   obtain⟨fs,hi,hl⟩:=oZ hs
   refine⟨P,F,ρ,x,q,I,fun v F1 H1 e1 r1=>?_⟩
   have I1:=I.evo e1
   obtain⟨a,dx,vs,rfl,h1,h2⟩:=r1.ins I1 hi
   refine⟨a,dx,vs,rfl,h1,h2 _ hl,P,F1,ρ,ys,q2,I1,fun ws F2 H2 e2 r2=>?_⟩
   have I2:=I1.evo e2
   refine⟨gd F2 H2,F2,x::ys,y,hm,fj I2.sub,by rw[Yi];exact (r1.cons e2.ext r2).dvs I2,fun w F3 H3 e3 hp3 r3=>k w F2 H2 F3 H3 (e1.trans e2) e3 hp3 r3⟩
theorem yH {K:Kq}{E:XK}:∀ σ H Q,tD K (dI C mn m (d9 s g)) σ H Q→jt C mn (spD K m) [] E (vx K s) (tLV K g) σ H Q:=fun σ H Q=>un7 fun P F ρ d hf I k=>by
 unfold dI at hf
 cases q:d9 s g ρ with
 | none=>rw[q] at hf;cases hf
 | some xs=>
  rw[q,Ya] at hf
  split at hf
  ·rename_i hs
   cases q2:m xs with
   | none=>rw[q2] at hf;cases hf
   | some y=>
    rw[q2,Ya] at hf
    refine uo q hs q2 I fun v F1 H1 F2 H2 e1 e2 hp2 r2=>?_
    have I1:=I.evo e1
    have ev:Evo P F1 H1 F2 H2:=I1.toDHp.gd e2 hp2
    cases y with
    | v d'=>cases hf;exact k v F2 H2 (e1.trans ev) r2
    | own o t=>
     cases hf
     obtain⟨a,rfl,ho,_⟩:=r2
     have ho':=k9 e2 ho
     exact k _ _ H2 (e1.trans (ev.freeze I1.toDHp (fun b=>H1 b=none∧F2 b=none) fun _ q=>q)) (ho'.rep (cz fun b q=>q.2) fun b u q hb=>by rw[dZ q];exact hb)
    | bor o=>cases hf
  ·cases hf
theorem dF {pl:Sem Bool}(he:pS X o s)(c:Cls X.K C)(hm:Meth X.K C mn f)(G:FnOk X.prog X.w X.K X.mg X.base CX0 k f fd ps (spD X.K m))(hr:Room k X.A)(hb:Binds X.K fd ps [])
  (ht:eval (.Call (.Attribute o mn apos) [] [] pos) X.env=(do
   let ov ← eval o X.env
   standAt apos.atName
   let (f,first) ← holding [ov] (getMethod ov mn pl)
   callWith pos f first (backTo pos (starEach [] X.env)) (backToKw pos (keywordEach [] X.env))):=by rfl):PDE X (.Call (.Attribute o mn apos) [] [] pos) (dI C mn m (d9 s g0)):=
 (nW he c hm G hr hb .nil gX ht).imp fun σ H Q h=>by
  have:=yH (K:=X.K) (E:=E0) σ H Q h
  obtain⟨P,F,ρ,x,h1,h2,h3⟩:=this
  refine⟨P,F,ρ,x,h1,h2,fun v F' H' ev r=>?_⟩
  obtain⟨a,dx,fs,ex,ea,l,P2,F2,ρ2,xs,hx,I2,h4⟩:=h3 v F' H' ev r
  cases hx
  exact⟨a,dx,fs,ex,ea,l,h4 [] F2 H' (Evo.refl I2.toDHp) .nil⟩
def ko (C:Addr)(mM:Dz)(g:Dv):DF→Option OD:=fun ρ=>(g ρ).bind fun xs=>match mM (.ins C []) xs with
 | some (o',.non)=>if o'.flat=true then some o' else none
 | _=>none
theorem vi (M:Mk X.K C f)(G:FnOk X.prog X.w X.K X.mg X.base CX0 k f fd ps (spM X.K mM))(hr:Room (k+1) X.A)(hg:Gl X x)(hm:X.mg x=some (.ref C))(hb:Binds X.K fd ps [])(ha:gH X (e::es) g)
  (hdb:(x == ("__debug__":Str))=false:=by decide) (he:starEach (e::es) X.env=(false,eval e X.env)::starEach es X.env:=by rfl) (hpl:(backTo pos (starEach es X.env)).any (·.1)=false:=by rfl):PDO X (.Call (.Name x p) (e::es) [] pos) (ko C mM g):=
 (qP M G hr hg hm hb .nil gX ha hdb he hpl).imp fun σ H Q=>un7 fun P F ρ ob hf I k=>by
  unfold ko at hf
  cases q:g ρ with
  | none=>rw[q] at hf;cases hf
  | some xs=>
   rw[q,Ya] at hf
   split at hf
   ·rename_i o' q2
    split at hf
    ·rename_i fl
     cases hf
     refine⟨P,F,ρ,xs,q,I,fun vs F1 H1 e1 r1 y dx hy hdx hne=>?_⟩
     have I1:=I.evo e1
     have sm:Same H1 (upd (upd H1 dx (.own y)) y (.ins C dx [])):=fun b u z=>by rw[ay (bb z hy),ay (bb z hdx)];exact z
     refine⟨gd F1 H1,F1,y,vs,.ins C [],xs,ob,.non,by simp,q2,⟨I1.sub.trans sm,fun b u z=>sm b u ((fj I1.sub).pro b u z),(fj I1.sub).dis⟩,I1.sub.free hy,(fj I1.sub).pro.free hy,rfl,⟨_,aw,rfl,.nil⟩,(r1.dvs I1).heap,fun v F2 H2 e2 hp2 f2 ho fl' rv=>?_⟩
     cases rv
     exact⟨rfl,k y F2 H2 (e1.trans (I1.toDHp.gd e2 hp2)) ((ORep.flat fl).mpr ⟨⟨e1.back I.toDHp hy,f2⟩,ho⟩)⟩
    ·cases hf
   ·cases hf
end
section
variable {κ:Type} [DecidableEq κ]
def cy (kvs:List (κ×D))(k:κ):Option D:=(kvs.find? fun kv=>decide (kv.1=k)).map (·.2)
def e6 (kvs:List (κ×D))(k:κ)(v:D):List (κ×D):=
 if (kvs.any fun kv=>decide (kv.1=k))=true then kvs.map (fun kv=>if kv.1=k then (kv.1,v) else kv) else kvs++[(k,v)]
end
theorem sV {k k':List Key}{v:V}{vs:List (List Key×V)}:cH ((k',v)::vs) k=if k'=k then some v else cH vs k:=by
 unfold cH
 by_cases q:k'=k <;> simp[Zc,q]
theorem g7 {κ:Type}[DecidableEq κ]{k k':κ}{v:D}{vs:List (κ×D)}:cy ((k',v)::vs) k=if k'=k then some v else cy vs k:=by
 unfold cy
 by_cases q:k'=k <;> simp[Zc,q]
theorem RepsT.val {K:Kq}{H:Hp}{k:List Key}{vs:List (List Key×V)}{ds:List (List Key×D)}(h:RepsT K H vs ds):(cH vs k=none∧cy ds k=none)∨∃ v d,cH vs k=some v∧cy ds k=some d∧Rep K H v d:=
 RepsT.ind (M:=fun vs ds=>(cH vs k=none∧cy ds k=none)∨∃ v d,cH vs k=some v∧cy ds k=some d∧Rep K H v d) (.inl ⟨rfl,rfl⟩) (fun {k' v d vs ds} h _ ih=>by
  rw[sV,g7]
  by_cases q:k'=k
  ·rw[Yh q,Yh q]
   exact .inr ⟨v,d,rfl,rfl,h⟩
  ·rw[Yr q,Yr q]
   exact ih) h
theorem RepsT.any {K:Kq}{H:Hp}{k:List Key}{vs:List (List Key×V)}{ds:List (List Key×D)}(h:RepsT K H vs ds):(vs.any fun kv=>decide (kv.1=k))=ds.any fun kv=>decide (kv.1=k):=
 RepsT.ind (M:=fun vs ds=>(vs.any fun kv=>decide (kv.1=k))=ds.any fun kv=>decide (kv.1=k)) rfl (fun _ _ ih=>by rw[Xa,Xa,ih]) h
theorem RepsT.map {K:Kq}{H:Hp}{k:List Key}{v:V}{d:D}(rv:Rep K H v d){vs:List (List Key×V)}{ds:List (List Key×D)}(h:RepsT K H vs ds):RepsT K H (vs.map fun kv=>if kv.1=k then (kv.1,v) else kv) (ds.map fun kv=>if kv.1=k then (kv.1,d) else kv):=
 RepsT.ind (M:=fun vs ds=>RepsT K H (vs.map fun kv=>if kv.1=k then (kv.1,v) else kv) (ds.map fun kv=>if kv.1=k then (kv.1,d) else kv)) .nil (fun {k' v' d' vs ds} h _ ih=>by
  rw[YA,YA]
  by_cases q:k'=k
  ·rw[Yh (show (k',v').1=k from q),Yh (show (k',d').1=k from q)];exact .cons rv ih
  ·rw[Yr (show ¬ (k',v').1=k from q),Yr (show ¬ (k',d').1=k from q)];exact .cons h ih) h
theorem RepsT.snoc {K:Kq}{H:Hp}{k:List Key}{v:V}{d:D}(rv:Rep K H v d){vs:List (List Key×V)}{ds:List (List Key×D)}(h:RepsT K H vs ds):RepsT K H (vs++[(k,v)]) (ds++[(k,d)]):=
 RepsT.ind (M:=fun vs ds=>RepsT K H (vs++[(k,v)]) (ds++[(k,d)])) (.cons rv .nil) (fun h _ ih=>.cons h ih) h
theorem RepsT.put {K:Kq}{H:Hp}{k:List Key}{v:V}{d:D}{vs:List (List Key×V)}{ds:List (List Key×D)}(rv:Rep K H v d)(r:RepsT K H vs ds):RepsT K H (dJ vs k v) (e6 ds k d):=by
 unfold dJ e6
 rw[r.any (k:=k)]
 split
 ·exact r.map rv
 ·exact r.snoc rv
theorem RepsT.length {K:Kq}{H:Hp}{vs:List (List Key×V)}{ds:List (List Key×D)}(h:RepsT K H vs ds):vs.length=ds.length:=RepsT.ind (M:=fun vs ds=>vs.length=ds.length) rfl (fun _ _ ih=>YN Nat.succ ih) h
def gZ:D→Option Key
 | .int i=>some (.inl i)
 | .str x=>some (.inr x)
 | _=>none
def fX:List D→Option (List Key)
 | []=>some []
 | d::ds=>(gZ d).bind fun k=>(fX ds).map fun r=>k::r
def nV:D→Option (List Key)
 | .tup ds=>fX ds
 | _=>none
theorem Reps.keys {K:Kq}{H:Hp}{vs:List V}{ds:List D}{ks:List Key}(h:Reps K H vs ds):fX ds=some ks→vs=ks.map kV:=
 Reps.ind (M:=fun vs ds=>∀ ks:List Key,fX ds=some ks→vs=ks.map kV) (fun ks e=>by cases e;rfl) (fun {v d vs ds} h _ ih ks e=>by
  unfold fX at e
  cases q:gZ d with
  | none=>rw[q] at e;cases e
  | some k=>
   rw[q,Ya] at e
   cases q2:fX ds with
   | none=>rw[q2] at e;cases e
   | some kr=>
    rw[q2] at e
    cases e
    rw[ih _ q2,YA]
    cases d with
    | int i=>cases q;cases h;rfl
    | str i=>cases q;cases h;rfl
    | _=>cases q) h ks
theorem qO {K:Kq}{P F H:Hp}{y:V}{dy:D}{ks:List Key}(hp:DHp P F H)(r:Rep K F y dy)(h:nV dy=some ks):∃ b,y=.ref b∧H b=some (.tup (ks.map kV)):=by
 cases dy with
 | tup ds=>cases r with | tup h1 h2=>exact⟨_,rfl,by rw[hp.sub _ _ h1,h2.keys h]⟩
 | _=>cases h
section
variable {X:Cx} {a b o i e f:Expr} {pos pos' apos cpos:Pos} {fd fk fx fv:Dd}
def iQ (fd fk fx:Dd):DF→Option D:=fun ρ=>match fd ρ with
 | some (.dT kvs)=>(fk ρ).bind fun y=>(nV y).bind fun k=>(fx ρ).map fun x=>(cy kvs k).getD x
 | _=>none
theorem vY (hu:X.A.units+64<cLine)(ho:PDR X o fd)(hi:PDE X e fk)(hx:PDE X f fx)(m:M2 X o "get" apos e f cpos:=by exact⟨rfl,rfl,rfl,rfl⟩):PDE X (.Call (.Attribute o "get" apos) [e,f] [] cpos) (iQ fd fk fx):=(vy (by omega) ho hi hx m).imp fun σ H Q=>un7 fun P F ρ d hf I k=>by
 unfold iQ at hf
 split at hf
 ·rename_i kvs qa
  cases qb:fk ρ with
  | none=>rw[qb] at hf;cases hf
  | some dy=>
   rw[qb,Ya] at hf
   cases qk:nV dy with
   | none=>rw[qk] at hf;cases hf
   | some ks=>
    rw[qk,Ya] at hf
    cases qx:fx ρ with
    | none=>rw[qx] at hf;cases hf
    | some dz=>
     rw[qx] at hf
     cases hf
     refine⟨P,F,ρ,_,qa,I,fun x F1 H1 e1 rx=>?_⟩
     obtain⟨p,vs,rfl,h1,h2⟩:=v6 (I.evo e1) rx
     refine⟨p,rfl,.inr ⟨vs,.inl h1⟩,P,F1,ρ,_,qb,I.evo e1,fun y F2 H2 e2 ry=>⟨P,F2,ρ,_,qx,(I.evo e1).evo e2,fun z F3 H3 e3 rz=>?_⟩⟩
     have I3:=((I.evo e1).evo e2).evo e3
     obtain⟨p',vs',ep,h1',h2'⟩:=v6 I3 ((rx.evo e2).evo e3)
     cases ep
     obtain⟨q,rfl,h3⟩:=qO e3.hp (ry.same e3.ext) qk
     refine⟨_,DGet.t h1' h3,?_⟩
     have e123:=(e1.trans e2).trans e3
     rcases h2'.val (k:=ks) with⟨z1,z2⟩ | ⟨v,d',z1,z2,z3⟩
     ·rw[z1];exact k _ F3 H3 e123 (by show Rep X.K F3 z ((cy kvs ks).getD dz);rw[z2];exact rz)
     ·rw[z1];exact k _ F3 H3 e123 (by show Rep X.K F3 v ((cy kvs ks).getD dz);rw[z2];exact z3)
 ·cases hf
theorem rL:PDO X (.Dict [] [] pos) (fun _=>some (.dT [])):=v_.imp fun σ H Q=>un7 fun P F ρ ob hf I k=>by
 cases hf
 exact fun p hp=>k p F _ (Evo.side I.toDHp hp) ⟨⟨hp,(I.toDHp.free hp).1⟩,_,aw,.nil⟩
def qY (j:Nat)(fk fv:Dd):DF→Option RES:=fun ρ=>match ρ[j]? with
 | some (some (.own (.dT kvs) t))=>(fv ρ).bind fun v=>(fk ρ).bind fun y=>(nV y).bind fun k=>if kvs.length<16777216 then some (.nx (ρ.set j (some (.own (.dT (e6 kvs k v)) t)))) else none
 | _=>none
theorem xz (j:Nat)(hu:X.A.units+64<cLine)(ho:PE X o (ce j))(hi:PDE X i fk)(hv:PDE X e fv)(hs:swapsWith e (some (.Subscript o i pos')) pos.line X.env=pure false:=by rfl):PD1 X (.Assign [.Subscript o i pos'] e pos) (qY j fk fv):=
 PS.imp (iK (by omega) ho hi hv hs) fun E σ H=>un7 fun P F ρ r hr I k=>by
  unfold qY at hr
  split at hr
  ·rename_i kvs t q
   cases qv:fv ρ with
   | none=>rw[qv] at hr;cases hr
   | some dv=>
   rw[qv,Ya] at hr
   cases qb:fk ρ with
   | none=>rw[qb] at hr;cases hr
   | some dy=>
   rw[qb,Ya] at hr
   cases qk:nV dy with
   | none=>rw[qk] at hr;cases hr
   | some ks=>
   rw[qk,Ya] at hr
   split at hr
   ·rename_i hl
    cases hr
    obtain⟨v,h1,p,rfl,⟨⟨a1,a2,_⟩,u,a3,a4⟩,_⟩:=I.at q
    cases u with
    | dT vs=>
     have a4:RepsT X.K F vs kvs:=a4
     refine⟨P,F,ρ,_,qv,I,fun v F1 H1 e1 rv=>⟨_,h1,P,F1,ρ,_,qb,I.evo e1,fun y F2 H2 e2 ry=>?_⟩⟩
     have e12:=e1.trans e2
     obtain⟨k1,k2⟩:=e12.keep p _ a3 a1
     obtain⟨b',rfl,h3⟩:=qO e12.hp ry qk
     refine⟨p,_,rfl,DPut.t k1 h3 (by rw[YK,a4.length];exact hl),k σ F2 _ e12.ext ?_⟩
     exact (I.evo e12).mut (o':=.dT _) (u:=.dT _) q rfl rfl h1 ((RepsT.same e12.ext a4).put (rv.same e2.ext))
    | _=>exact a4.elim
   ·cases hr
  ·cases hr
end
end L2
namespace L2
open PySem PySem.Spec PyProof.Rows PySem.W
section
variable {prog:Program} {w:World} {A:Around} {E:Kv} {s:Shared}
def l9 (prog:Program)(w:World)(A:Around)(Q:Kv)(vs:List Value)(s1:Shared):Prop:=
 vs.length<64∧∃ (κ:SortKind) (lt:Nat→Nat→Bool),Ord lt ∧
  (2≤vs.length→∀ h',(∀ b u,s1.heap.get? b=some u→h'.get? b=some u)→∀ (Q:SortKind→Shared→Prop) (E:Kv),Q κ { s1 with heap:=h' }→wpAny (model prog w) A.in1.in1 (keyKind' vs.toArray) Q E { s1 with heap:=h' }) ∧
  (∀ h',(∀ b u,s1.heap.get? b=some u→h'.get? b=some u)→∀ i j C,i<vs.length→j<vs.length→C (lt i j) { s1 with heap:=h' }→kas_ask prog w A.in1.in1 κ vs i j C { s1 with heap:=h' }) ∧
  ∀ p,PermN vs.length p→Ris lt p vs.length→∀ (a:Addr) (h':Heap) (e:Nat),(∀ b u,s1.heap.get? b=some u→h'.get? b=some u)→s1.heap.objs.size≤a→h'.get? a=some (seqObj "list" (iw vs p) e)→Q (.ref a) { s1 with heap:=h' }
theorem n5 {v:Value}{Q:Kv}(hcol:wpAny (model prog w) A.in1 (collect v) (l9 prog w A Q) E s) :
  wpAny (model prog w) A (call (.builtin "sorted") [v]) Q E s:=by
 refine Calls.call_function_entry kind_sorted plain_sorted entry_sorted (args_sorted1 _) ?_
 unfold Builtin.«sorted»
 refine Yu (m:=checkCount "sorted" 1 1 _) (YV ?_)
 refine Yu (ZA hcol (fun vs s1 hh_=>?_) fun _ _ e=>e)
 obtain⟨h64,κ,lt,o,hk,hc,h⟩:=hh_
 refine Yu (wpAny_newList ?_ (by rw[YK];omega))
 have hoL:(s1.heap.push (seqObj "list" vs.toArray 0)).get? s1.heap.objs.size=some (seqObj "list" vs.toArray 0):=YI _ rfl
 have keep:∀ b u,s1.heap.get? b=some u→(s1.heap.push (seqObj "list" vs.toArray 0)).get? b=some u:=fun b u q=>Yt _ q
 show wpAny _ _ _ _ _ { s1 with heap:=s1.heap.push (seqObj "list" vs.toArray 0) }
 have lift:∀ h':Heap,(∀ b u,b≠s1.heap.objs.size→(s1.heap.push (seqObj "list" vs.toArray 0)).get? b=some u→h'.get? b=some u)→∀ b u,s1.heap.get? b=some u→h'.get? b=some u:=fun h' k b u e=>
  k b u (YL (YE e)) (keep b u e)
 refine Yu (Xx (wpAny_call_entry slot_list_sort ⟨_,hoL,rfl⟩ entry_list_sort ?body (args_list_sort _)))
 case body=>
  refine j4 hoL h64 κ lt o (fun h2 h' k Q q=>hk h2 h' (lift h' k) Q _ q) (fun h' k=>hc h' (lift h' k)) fun p hp hr=>⟨_,rfl,?_⟩
  obtain⟨e,he⟩:=sortedHeap_at (out:=iw vs p) hoL
  refine YV ⟨_,rfl,h p hp hr s1.heap.objs.size _ e (fun b u q=>?_) (Yx _) he⟩
  have hlt:b<s1.heap.objs.size:=YE q
  show (sortedHeap (s1.heap.push (seqObj "list" vs.toArray 0)) s1.heap.objs.size vs (iw vs p)).get? b=some u
  rw[sortedHeap_old (YL hlt) (by rw[size_push'];exact ZZ hlt)]
  exact keep b u q
theorem j8 {l:Addr}{vs:List Value}{Q:Kl}(hl:IsTup s.heap l vs.toArray)
  (h:Q vs { s with heap:=(s.heap.push (seqObj "list" #[] 0)).update s.heap.objs.size (Obj.mapSeq (·++vs.toArray)) }) (hsz:vs.length≤sizeLine) :
  wpAny (model prog w) A (collect (.ref l)) Q E s:=by
 obtain⟨o,ho,hc,n,hd⟩:=id hl
 unfold collect
 refine Yu (wpAny_runValue (XC entry_proto_collect' ?_))
 show wpAny _ _ (do again (.builtin "list.__iadd__" ⟨[← newList [],.ref l],[]⟩)) _ _ s
 refine Yu (wpAny_newList (YV ⟨Code.quiet_builtin _ (by decide +kernel),XC entry_list_iadd' ?_⟩))
 show wpAny _ _ (Builtin.List.listExtendWith (.ref s.heap.objs.size) (.ref l) (.ref s.heap.objs.size)) _ _ { s with heap:=s.heap.push (seqObj "list" #[] 0) }
 unfold Builtin.List.listExtendWith
 have ho':(s.heap.push (seqObj "list" #[] 0)).get? l=some o:=Yt _ ho
 refine Yu (wpAny_typeOf (T := "tuple") ⟨o,ho',hc⟩ ?_)
 have ht:(Value.type "tuple" == Value.type "tuple")=true:=by rfl
 rw[Yh (by rw[ht];simp)]
 refine Yu (listItems_at ho' hd ?_)
 refine Yu (listItems_at (xs:=#[]) (n:=0) (YI _ rfl) rfl ?_)
 rw[Yr (by simp)]
 refine Yu (listUpdate_at (xs:=#[]) (n:=0) (YI _ rfl) rfl ?_ (YO _) (by show (#[]++vs.toArray).size≤sizeLine+1;simp only[Array.size_append,Ym,YW];omega))
 refine YV ?_
 show wpAny (model prog w) A (do
   let o ← load s.heap.objs.size
   match o.data with
   | .seq xs _=>pure xs.toList
   | _=>unsupported "internal:collect") Q E { s with heap:=(s.heap.push (seqObj "list" #[] 0)).update s.heap.objs.size (Obj.mapSeq (·++vs.toArray)) }
 refine Yu (wpAny_load (get?_update_seq (YI _ rfl) _) ?_)
 show wpAny _ _ (pure ((#[]:Array Value)++vs.toArray).toList) Q E _
 rw[show ((#[]:Array Value)++vs.toArray).toList=vs by simp]
 exact YV h
theorem jM {h:Heap}{vs:List Value}{b:Addr}{u:Obj}(q:h.get? b=some u):((h.push (seqObj "list" #[] 0)).update h.objs.size (Obj.mapSeq (·++vs.toArray))).get? b=some u:=by
 have hlt:b<h.objs.size:=YE q
 rw[Heap.get?_update_ne _ _ _ _ (YL hlt),Xb _ _ _ (YL hlt)]
 exact q
end
def sk:D→Bool
 | .int _=>true
 | .str _=>true
 | .tup (_::_)=>true
 | _=>false
def fk:D→Bool
 | .int _=>true
 | .str _=>true
 | .tup _=>true
 | _=>false
def rm:D→Bool
 | .tup (d::_)=>fk d
 | _=>true
def cK (ds:List D):Bool:=decide (ds.length<64)&&ds.all (okN 28)&&(ds.all fun x=>ds.all fun y=>aq x y)&&ds.all sk&&ds.all rm
theorem fW {ds:List D}(h:cK ds=true):ds.length<64∧Cmps 28 ds∧(∀ d∈ds,sk d=true)∧∀ d∈ds,rm d=true:=by
 unfold cK at h
 simp only[Ys,YB] at h
 obtain⟨⟨⟨⟨h1,h2⟩,h3⟩,h4⟩,h5⟩:=h
 exact⟨h1,⟨fun d hd=>YG.mp h2 d hd,fun x hx y hy=>YG.mp (YG.mp h3 x hx) y hy⟩,fun d hd=>YG.mp h4 d hd,fun d hd=>YG.mp h5 d hd⟩
def dAt (ds:List D)(i:Nat):D:=ds.getD i (ds.headD (.int 0))
theorem lR {ds:List D}(h:ds≠[])(i:Nat):dAt ds i∈ds:=by
 unfold dAt
 cases ds with
 | nil=>exact absurd rfl h
 | cons d r=>
  rw[YR]
  cases q:(d::r)[i]? with
  | none=>exact Yf
  | some x=>exact Zj q
theorem lA {ds:List D}{i:Nat}(h:i<ds.length):ds[i]?=some (dAt ds i):=by
 unfold dAt
 rw[YR,Yv h]
 rfl
theorem AJ {n:Nat}{ds:List D}(hc:Cmps n ds):Ord fun i j=>ltD (dAt ds i) (dAt ds j):=by
 by_cases hn:ds=[]
 ·subst hn
  have e:∀ i,dAt [] i=.int 0:=fun i=>by simp[dAt]
  refine⟨fun i j h=>?_,fun i j k h1 h2=>?_⟩
  ·rw[e,e] at h;simp[ltD] at h
  ·rw[e,e];simp[ltD]
 ·have m:=fun i=>lR hn i
  refine⟨fun i j h=>?_,fun i j k h1 h2=>?_⟩
  ·exact (gk n _ _ (hc.1 _ (m i)) (hc.1 _ (m j)) (hc.2 _ (m i) _ (m j))).as h
  ·exact kD (hc.1 _ (m i)) (hc.1 _ (m j)) (hc.1 _ (m k)) (hc.2 _ (m i) _ (m j)) (hc.2 _ (m j) _ (m k)) (hc.2 _ (m i) _ (m k)) (hc.2 _ (m j) _ (m i)) (hc.2 _ (m k) _ (m j)) (hc.2 _ (m k) _ (m i)) h1 h2
theorem pA {n:Nat}{ds:List D}(hc:Cmps n ds){p:Array Nat}(hp:PermN ds.length p)(hr:Ris (fun i j=>ltD (dAt ds i) (dAt ds j)) p ds.length):p.toList.map (dAt ds)=dc ds:=by
 refine i9 (n:=n) ?_ hc ?_
 ·have h1:(p.toList.map (dAt ds)).Perm ((List.range ds.length).map (dAt ds)):=hp.perm.map _
  have h2:(List.range ds.length).map (dAt ds)=ds:=by
   apply List.ext_getElem?
   intro i
   rw[YH]
   by_cases h:i<ds.length
   ·rw[List.getElem?_range h,ZB,lA h]
   ·rw[Xt (by rw[Xo];omega),Xt (by omega)];rfl
  rw[h2] at h1
  exact h1
 ·rw[XN,List.pairwise_iff_getElem]
  intro i j hi hj hij
  have hs:=hp.size
  rw[Zs] at hi hj
  have:=hr i j (Zv hij) (by omega)
  have e:∀ k (h:k<p.size),p.getD k 0=p[k]:=fun k h=>by simp[Array.getD,h]
  rw[e i hi,e j hj] at this
  simpa using this
theorem Reps.perm {K:Kq}{H:Hp}{vs:List V}{ds:List D}(r:Reps K H vs ds)(hn:ds≠[]):∀ (l:List Nat),(∀ i∈l,i<ds.length)→Reps K H (l.map fun i=>vs.getD i .non) (l.map (dAt ds))
 | [],_=>.nil
 | i::l,h=>by
  obtain⟨v,h1,h2⟩:=r.get (lA (h i Yf))
  have e:vs.getD i .non=v:=by rw[YR,h1];rfl
  rw[YA,YA]
  show Reps K H (vs.getD i .non::_) _
  rw[e]
  exact .cons h2 (Reps.perm r hn l fun j hj=>h j (Yd _ hj))
theorem Vals.perm {vs:List V}{us:List Value}(r:Vals vs us):∀ (l:List Nat),(∀ i∈l,i<vs.length)→Vals (l.map fun i=>vs.getD i .non) (l.map fun i=>us.getD i Value.none)
 | [],_=>.nil
 | i::l,h=>by
  have hi:=h i Yf
  obtain⟨u,h1,h2⟩:=r.get (Yv hi)
  have e1:vs.getD i .non=vs[i]:=by rw[YR,Yv hi];rfl
  have e2:us.getD i Value.none=u:=by rw[YR,h1];rfl
  rw[YA,YA]
  show Vals (vs.getD i .non::_) (us.getD i Value.none::_)
  rw[e1,e2]
  exact .cons h2 (Vals.perm r l fun j hj=>h j (Yd _ hj))
def tyD:D→Value
 | .int _=>.type "int"
 | .str _=>.type "str"
 | _=>.type "tuple"
section
variable {X:Cx} {pz:Kp} {σ:St} {H:Hp} {s:Shared}
theorem Rep.ty (I:Inv X pz σ H s){v:V}{d:D}{u:Value}(h:Rep X.K H v d)(hk:fk d=true)(r:RelV v u)(M:Model):Looks M s.heap (typeOf u) (tyD d):=by
 cases d with
 | int i=>cases h;obtain⟨t,rfl⟩:=(show ∃ t,u=Value.int _ t from r);exact Looks.of_pure rfl
 | str i=>cases h;obtain⟨t,rfl⟩:=(show ∃ t,u=Value.str _ t from r);exact Looks.of_pure rfl
 | tup ds=>
  cases h with
  | tup h1 h2=>
   cases (show u=Value.ref _ from r)
   obtain⟨its,rv,⟨o,ho,hc,n,hd⟩,_⟩:=I.tuple (SqT.of h1)
   have:=(Looks.ld (M:=M) (part:=none) ho).andThen (f:=fun o=>pure o.cls) .now
   rw[hc] at this
   exact this
 | _=>cases hk
theorem pf {x y:D}(h:aq x y=true)(hx:fk x=true):tyD x=tyD y:=by
 rcases a7 h with⟨i,j,rfl,rfl⟩ | ⟨i,j,rfl,rfl⟩ | ⟨i,j,rfl,rfl⟩ | ⟨i,j,rfl,rfl,_⟩
 ·rfl
 ·cases hx
 ·rfl
 ·rfl
def kK:List D→SortKind
 | .tup (d::_)::_=>tuples' (tyD d != .type "tuple")
 | _=>oneType'
theorem pB (I:Inv X pz σ H s):∀ {vs:List V} {ds:List D} {us:List Value},Reps X.K H vs ds→Vals vs us→(∀ d∈ds,∃ x r,d=.tup (x::r)∧fk x=true)→∀ T:Value,(∀ x r,.tup (x::r)∈ds→tyD x=T)→
  ∃ fs:List Value,KatTups s.heap us fs∧fs.length=us.length∧∀ M,∀ v∈fs,Looks M s.heap (typeOf v) T:=by
 intro vs ds us h
 exact Reps.ind (M:=fun vs ds=>∀ us:List Value,Vals vs us→(∀ d∈ds,∃ x r,d=.tup (x::r)∧fk x=true)→∀ T:Value,(∀ x r,.tup (x::r)∈ds→tyD x=T) →     ∃ fs:List Value,KatTups s.heap us fs∧fs.length=us.length∧∀ M,∀ v∈fs,Looks M s.heap (typeOf v) T) (fun us r _ _ _=>by cases r;exact⟨[],.nil,rfl,fun _ _ h=>by cases h⟩) (fun h _ ih us r0 hd T hT=>by
  cases r0 with
  | cons r t=>
  obtain⟨x,rr,rfl,hx⟩:=hd _ Yf
  obtain⟨fs,f1,f2,f3⟩:=ih _ t (fun d m=>hd d (Yd _ m)) T fun x r m=>hT x r (Yd _ m)
  cases h with
  | tup h1 h2=>
   cases (show _=Value.ref _ from r)
   obtain⟨its,rv,⟨o,ho,hc,n,hdt⟩,_⟩:=I.tuple (SqT.of h1)
   cases h2 with
   | cons g1 g2=>
    cases rv with
    | cons k1 k2=>
     refine⟨_::fs,KatTups.cons ho hc hdt (by simp;rfl) f1,by rw[Yg,Yg,f2],fun M v hv=>?_⟩
     rcases YC.mp hv with rfl | hv
     ·rw[← hT x rr Yf]
      exact g1.ty I hx k1 M
     ·exact f3 M v hv) h us
theorem lE {d:D}(h:sk d=true)(ht:gP d=false):fk d=true:=by cases d <;> first | rfl | cases h | cases ht
theorem xp (I:Inv X pz σ H s){vs:List V}{ds:List D}{us:List Value}(r:Reps X.K H vs ds)(rv:Vals vs us)(ok:cK ds=true)(h2:2≤us.length){A:Around}{M:Model}{Q:SortKind→Shared→Prop}{E:Kv}(hQ:Q (kK ds) s) :
  wpAny M A (keyKind' us.toArray) Q E s:=by
 obtain⟨hl,hc,hs,hf⟩:=fW ok
 have l1:=r.length
 have l2:=rv.length
 cases ds with
 | nil=>rw[YW] at l1;omega
 | cons d dr=>
  have md:d∈d::dr:=Yf
  cases ht:gP d with
  | true=>
   cases d with
   | tup xs=>
    cases xs with
    | nil=>have:=hs _ md;cases this
    | cons x rr=>
     have hx:fk x=true:=hf _ md
     have all:∀ d'∈(D.tup (x::rr)::dr),∃ y r',d'=.tup (y::r')∧fk y=true∧tyD y=tyD x:=fun d' m=>by
      have hcm:=hc.2 _ md _ m
      rcases a7 hcm with⟨i,j,e,_⟩ | ⟨i,j,e,_⟩ | ⟨i,j,e,_⟩ | ⟨i,j,e,e2,hcs⟩
      ·cases e
      ·cases e
      ·cases e
      ·cases e
       subst e2
       cases j with
       | nil=>have:=hs _ m;cases this
       | cons y r'=>
        rw[bA,Ys] at hcs
        exact⟨y,r',rfl,hf _ m,(pf hcs.1 hx).symm⟩
     obtain⟨fs,f1,f2,f3⟩:=pB I r rv (fun d' m=>by obtain⟨y,r',e,h,_⟩:=all d' m;exact⟨y,r',e,h⟩) (tyD x) fun y r' m=>by
      obtain⟨y',r'',e,_,h⟩:=all _ m
      cases e
      exact h
     exact kat_kind f1 (by omega) (f3 M) (by cases x <;> rfl) hQ
   | _=>cases ht
  | false=>
   have hd:fk d=true:=lE (hs d md) ht
   have e:kK (d::dr)=oneType':=by cases d <;> first | rfl | cases ht
   rw[e] at hQ
   have hT:∀ u∈us,Looks M s.heap (typeOf u) (tyD d):=fun u hu=>by
    obtain⟨i,hi,eu⟩:=XD hu
    have hiv:i<vs.length:=by omega
    obtain⟨u',e1,e2⟩:=rv.get (Yv hiv)
    rw[Yv hi,eu] at e1
    cases e1
    obtain⟨d',e3,e4⟩:=r.getV (Yv hiv)
    have m:=Zj e3
    have hcm:=hc.2 _ md _ m
    rw[pf hcm hd]
    refine e4.ty I ?_ e2 M
    refine lE (hs d' m) ?_
    rcases a7 hcm with⟨i,j,rfl,rfl⟩ | ⟨i,j,rfl,rfl⟩ | ⟨i,j,rfl,rfl⟩ | ⟨i,j,rfl,rfl,_⟩
    ·rfl
    ·rfl
    ·rfl
    ·cases ht
   refine kas_kind h2 hT ?_ ?_ hQ
   ·cases d <;> first | rfl | (simp[fk] at hd;done) | (simp[gP] at ht;done)
   ·cases d <;> rfl
theorem wP {A:Around}{prog:Program}{w:World}{b:Bool}{Q:Kb}{n1 n2:Nat}:∀ {us ws:List Value} {ds es:List D} (i:Nat),LexOk A s us ws ds es→(b=true→i=0→∀ u w' d e ur wr dr er,us=u::ur→ws=w'::wr→ds=d::dr→es=e::er→∀ (Q:Kb) (E:Kv),Q (ltD d e) s→wpAny (model prog w) A (oneLt' true u w') Q E s)→
  us.length+n2=ws.length+n1→Q (bS ds es) s→KatLex prog w A b (decide (n1<n2)) Q (us.zip ws) i s:=by
 intro us ws ds es i h
 induction h generalizing i with
 | @nl ws es hl=>
  intro _ hn hQ
  rw[List.zip_nil_left]
  refine kat_nil ?_
  rw[YW] at hn
  cases es with
  | nil=>
   rw[YW] at hl
   rw[show bS [] []=false by simp[bS]] at hQ
   rw[Yk (by omega)];exact hQ
  | cons c r=>
   rw[Yg] at hl
   rw[show bS [] (c::r)=true by simp[bS]] at hQ
   rw[YF (by omega)];exact hQ
 | @nr vs ds hl=>
  intro _ hn hQ
  rw[List.zip_nil_right]
  refine kat_nil ?_
  rw[YW] at hn
  cases ds with
  | nil=>
   rw[YW] at hl
   rw[show bS [] []=false by simp[bS]] at hQ
   rw[Yk (by omega)];exact hQ
  | cons c r=>
   rw[Yg] at hl
   rw[show bS (c::r) []=false by simp[bS]] at hQ
   rw[Yk (by omega)];exact hQ
 | @cons v w' d e _ _ _ _ he hlt hx ih=>
  intro h1 hn hQ
  rw[XI]
  rw[Yg,Yg] at hn
  refine kat_cons (he prog w _ _ ?_)
  cases q:eqd d e with
  | true=>
   rw[bS,Yh q] at hQ
   exact kat_yes (ih (i+1) (fun _ z=>by omega) (by omega) hQ)
  | false=>
   rw[bS,Yr (by rw[q];exact Yp)] at hQ
   refine kat_no ?_
   cases hb:(b&&i == 0) with
   | true=>
    rw[Ys] at hb
    exact h1 hb.1 (by simpa using hb.2) _ _ _ _ _ _ _ _ rfl rfl rfl rfl _ _ hQ
   | false=>exact kat_one _ _ (hlt q prog w _ _ hQ)
theorem uP {A:Around}{prog:Program}{w:World}{x y:V}{d e:D}{u v:Value}(h1:Rep X.K H x d)(h2:Rep X.K H y e)(c:aq d e=true)(hd:fk d=true)(ht:gP d=false)(r1:RelV x u)(r2:RelV y v){Q:Kb}{E:Kv}(hQ:Q (ltD d e) s) :
  wpAny (model prog w) A (oneLt' true u v) Q E s:=by
 rcases a7 c with⟨i,j,rfl,rfl⟩ | ⟨i,j,rfl,rfl⟩ | ⟨i,j,rfl,rfl⟩ | ⟨i,j,rfl,rfl,_⟩
 ·cases h1;cases h2
  obtain⟨t,rfl⟩:=(show ∃ t,u=Value.int _ t from r1)
  obtain⟨t',rfl⟩:=(show ∃ t,v=Value.int _ t from r2)
  exact oneLt_int (by rw[ltD] at hQ;exact hQ)
 ·cases hd
 ·cases h1;cases h2
  obtain⟨t,rfl⟩:=(show ∃ t,u=Value.str _ t from r1)
  obtain⟨t',rfl⟩:=(show ∃ t,v=Value.str _ t from r2)
  exact oneLt_str (by rw[ltD] at hQ;exact hQ)
 ·cases ht
theorem Bg (I:Inv X pz σ H s){vs:List V}{ds:List D}{us:List Value}(r:Reps X.K H vs ds)(rv:Vals vs us)(ok:cK ds=true){A:Around}(hu:A.units+60<cLine){prog:Program}{w:World}{i j:Nat}{C:Kb}(hi:i<us.length)(hj:j<us.length)(hQ:C (ltD (dAt ds i) (dAt ds j)) s) :
  kas_ask prog w A (kK ds) us i j C s:=by
 obtain⟨hl,hc,hs,hf⟩:=fW ok
 have l1:=r.length
 have l2:=rv.length
 obtain⟨v,e1,r1⟩:=r.get (lA (show i<ds.length by omega))
 obtain⟨v',e2,r2⟩:=r.get (lA (show j<ds.length by omega))
 obtain⟨u,e3,k1⟩:=rv.get e1
 obtain⟨u',e4,k2⟩:=rv.get e2
 have hn:ds≠[]:=fun z=>by rw[z,YW] at l1;omega
 have mi:=lR hn i
 have mj:=lR hn j
 have hcm:=hc.2 _ mi _ mj
 unfold kas_ask
 have g1:us.getD i Value.none=u:=by rw[YR,e3];rfl
 have g2:us.getD j Value.none=u':=by rw[YR,e4];rfl
 rw[g1,g2]
 generalize hx:dAt ds i=x at *
 generalize hy:dAt ds j=y at *
 cases ht:gP x with
 | false=>
  have e:kK ds=oneType':=by
   cases ds with
   | nil=>exact absurd rfl hn
   | cons d dr=>
    have:=hc.2 _ mi d Yf
    rcases a7 this with⟨i,j,rfl,rfl⟩ | ⟨i,j,rfl,rfl⟩ | ⟨i,j,rfl,rfl⟩ | ⟨i,j,rfl,rfl,_⟩
    ·rfl
    ·rfl
    ·rfl
    ·cases ht
  rw[e,keyLt'_oneType]
  exact uP r1 r2 hcm (lE (hs _ mi) ht) ht k1 k2 hQ
 | true=>
  cases x with
  | tup xs=>
   cases xs with
   | nil=>have:=hs _ mi;cases this
   | cons x0 xr=>
    rcases a7 hcm with⟨_,_,e,_⟩ | ⟨_,_,e,_⟩ | ⟨_,_,e,_⟩ | ⟨xs',ys,e,rfl,hcs⟩
    ·cases e
    ·cases e
    ·cases e
    ·cases e
     have ek:kK ds=tuples' (tyD x0 != .type "tuple"):=by
      cases ds with
      | nil=>exact absurd rfl hn
      | cons d dr=>
       have:=hc.2 _ mi d Yf
       rcases a7 this with⟨_,_,e,_⟩ | ⟨_,_,e,_⟩ | ⟨_,_,e,_⟩ | ⟨_,zs,e,rfl,hz⟩
       ·cases e
       ·cases e
       ·cases e
       ·cases e
        cases zs with
        | nil=>have:=hs (.tup []) Yf;cases this
        | cons z0 zr=>
         rw[bA,Ys] at hz
         show tuples' (tyD z0 != _)=_
         rw[pf hz.1 (hf _ mi)]
     rw[ek]
     cases r1 with
     | tup a1 a2=>
      cases r2 with
      | tup b1 b2=>
       cases (show u=Value.ref _ from k1)
       cases (show u'=Value.ref _ from k2)
       obtain⟨its1,rv1,⟨o1,ho1,hc1,n1,hd1⟩,_⟩:=I.tuple (SqT.of a1)
       obtain⟨its2,rv2,⟨o2,ho2,hc2,n2,hd2⟩,_⟩:=I.tuple (SqT.of b1)
       have oi:okN 28 (.tup (x0::xr))=true:=hc.1 _ mi
       have oj:okN 28 (.tup ys)=true:=hc.1 _ mj
       have hlex:=Reps.lex I 27 A (by omega) (Rep.lt I 27 A (by omega)) a2 b2 (bO oi) (bO oj) hcs rv1 rv2
       refine kat_lt ho1 hd1 ho2 hd2 ?_
       simp only[Ym]
       refine wP 0 hlex (fun hb _ u0 w0 d0 e0 ur wr dr er q1 q2 q3 q4 Q E hq=>?_) (by omega) (by rw[ltD] at hQ;exact hQ)
       subst q1 q2 q4
       cases q3
       cases a2 with
       | cons a3 a4=>
        cases b2 with
        | cons b3 b4=>
         cases rv1 with
         | cons c1 c2=>
          cases rv2 with
          | cons c3 c4=>
           rw[bA,Ys] at hcs
           refine uP a3 b3 hcs.1 (hf _ mi) ?_ c1 c3 hq
           cases x0 <;> first | rfl | (simp[tyD] at hb)
  | _=>cases ht
theorem vX (I:Inv X pz σ H s){vs:List V}{ds:List D}{us:List Value}(r:Reps X.K H vs ds)(rv:Vals vs us)(ok:cK ds=true)(hu:X.A.units+64<cLine){Q:Kv}
  (hQ:∀ (a:Addr) (p:List Nat) (s':Shared),H a=none→(∀ i∈p,i<ds.length)→p.length=ds.length→p.map (dAt ds)=dc ds→Inv X pz σ (upd H a (.lst (p.map fun i=>vs.getD i .non))) s'→Q (.ref a) s'):l9 X.prog X.w X.A Q us s:=by
 obtain⟨hl,hc,_,_⟩:=fW ok
 have l1:=r.length
 have l2:=rv.length
 refine⟨by omega,kK ds,_,AJ hc,fun h2 h' k Q E q=>xp (I.kept (t':=s.toks) k) r rv ok h2 q,fun h' k i j C hi hj hq=>?_,fun p hp hr a h' e k hsz hget=>?_⟩
 ·have hu':X.A.in1.in1.units+60<cLine:=by show X.A.units+1+1+60<cLine;omega
  exact Bg (I.kept (t':=s.toks) k) r rv ok hu' hi hj hq
 ·have hp':PermN ds.length p:=by rw[← l1,l2];exact hp
  have hr':Ris (fun i j=>ltD (dAt ds i) (dAt ds j)) p ds.length:=by rw[← l1,l2];exact hr
  have eo:=pA hc hp' hr'
  have bd:∀ i∈p.toList,i<ds.length:=fun i hi=>Zt.mp (hp'.perm.mem_iff.mp hi)
  have hna:H a=none:=I.hok.fresh hsz
  have lenp:p.toList.length=ds.length:=by rw[Zs];exact hp'.size
  refine hQ a p.toList _ hna bd lenp eo (I.laid (t':=s.toks) k hsz ⟨?_,p.toList.map fun i=>us.getD i Value.none,e,Vals.perm rv p.toList fun i hi=>by rw[l1];exact bd i hi,?_⟩)
  ·rw[Yb,lenp,YK];omega
  ·exact hget
end
section
variable {X:Cx} {e:Expr} {p pos:Pos} {fa:Dd}
theorem nJ (hu:X.A.units+64<cLine):CallR X (.builtin "sorted") (fun xs H Q=>∃ a vs ds,xs=[.ref a]∧(SqL X.K H a vs∨SqT X.K H a vs)∧Reps X.K H vs ds∧cK ds=true∧∀ l (p:List Nat),H l=none→(∀ i∈p,i<ds.length)→p.length=ds.length→p.map (dAt ds)=dc ds→Q (.ref l) (upd H l (.lst (p.map fun i=>vs.getD i .non)))):=by
 intro pz s σ H xs us Q I r h
 obtain⟨a,vs,ds,rfl,hq,hr,ok,q⟩:=h
 obtain⟨u,rfl,ru⟩:=fU r
 cases ru
 refine n5 ?_
 have fin:∀ its:List Value,Vals vs its→l9 X.prog X.w X.A (EP X pz σ Q) its { s with heap:=(s.heap.push (seqObj "list" #[] 0)).update s.heap.objs.size (Obj.mapSeq (·++its.toArray)) }:=fun its rv=>
  vX (I.kept (t':=s.toks) fun b u e=>jM e) hr rv ok hu fun l p s' hl b1 b2 b3 I'=>⟨.ref l,_,I',rfl,q l p hl b1 b2 b3⟩
 rcases hq with hq | hq
 ·obtain⟨its,rv,pl,hz⟩:=I.list hq
  exact collect_list pl.isList (fin its rv) (by rw[← rv.length];exact hz)
 ·obtain⟨its,rv,pl,hz⟩:=I.tuple hq
  exact j8 pl (fin its rv) (by rw[← rv.length];exact hz)
def kT (fa:Dd):DF→Option (List D):=fun ρ=>(fa ρ).bind fun d=>(dD d).bind fun ds=>if cK ds=true then some (dc ds) else none
theorem gf (hu:X.A.units+64<cLine)(hg:Gl X "sorted")(hm:X.mg "sorted"=none)(ha:PDR X e fa)(hs:starEach [e] X.env=[(false,eval e X.env)]:=by rfl)(hpl:(backTo pos (starEach [] X.env)).any (·.1)=false:=by rfl) :
  PDO X (.Call (.Name "sorted" p) [e] [] pos) (asL (kT fa)):=
 (df (nJ hu) hg hm n_ (aH ha a9 hs) (by decide) (by decide) hs hpl).imp fun σ H Q=>un7 fun P F ρ ob hf I k=>by
  unfold asL kT at hf
  cases ha:fa ρ with
  | none=>rw[ha] at hf;cases hf
  | some dx=>
  rw[ha,Ya] at hf
  cases hi:dD dx with
  | none=>rw[hi] at hf;cases hf
  | some ds=>
  rw[hi,Ya] at hf
  split at hf
  ·rename_i ok
   cases hf
   refine⟨P,F,ρ,dx,ha,I,fun x F1 H1 e1 rx=>?_⟩
   have I1:=I.evo e1
   have fin:∀ (vs:List V),Reps X.K F1 vs ds→∀ l (p:List Nat),H1 l=none→(∀ i∈p,i<ds.length)→p.length=ds.length→p.map (dAt ds)=dc ds→Q (.ref l) (upd H1 l (.lst (p.map fun i=>vs.getD i .non))):=fun vs r l p hl b1 b2 b3=>by
    refine k l F1 _ (e1.trans (Evo.side e1.hp hl)) ⟨⟨e1.back I.toDHp hl,(e1.hp.free hl).1⟩,_,aw,?_⟩
    show Reps X.K F1 _ (dc ds)
    by_cases hn:ds=[]
    ·subst hn
     have:p=[]:=ZO.mp b2
     rw[this]
     exact .nil
    ·rw[← b3]
     exact r.perm hn p b1
   cases dx with
   | lst ds'=>
    cases hi
    obtain⟨q,vs,rfl,h1,h2⟩:=eF I1 rx
    exact⟨q,vs,ds,rfl,.inl h1,h2.same I1.sub,ok,fin vs h2⟩
   | tup ds'=>
    cases hi
    obtain⟨q,vs,rfl,h1,h2⟩:=gY I1 rx
    exact⟨q,vs,ds,rfl,.inr h1,h2.same I1.sub,ok,fin vs h2⟩
   | _=>cases hi
  ·cases hf
end
end L2
namespace L2
open PySem PySem.Spec PyProof.Rows
def tOI (K:Kq)(f:DF→Option (Option Int)):TO:=fun σ H Q=>∃ P F ρ b,f ρ=some b∧DInv K P F H ρ σ∧∀ F' H',Evo P F H F' H'→Q b H'
def PDB (X:Cx)(e:Option Expr)(f:DF→Option (Option Int)):Prop:=PO X e (tOI X.K f)
def bNo:DF→Option (Option Int):=fun _=>some none
def bI (f:Dd):DF→Option (Option Int):=fun ρ=>match f ρ with
 | some (.int i)=>some (some i)
 | _=>none
section
variable {X:Cx} {e a b c o:Expr} {es:List Expr} {pos p p2:Pos} {lo hi:Option Expr} {fe fa fb:Dd} {fl fh:DF→Option (Option Int)}
theorem PO.imp {t t':TO}{e:Option Expr}(h:PO X e t)(i:∀ σ H Q,t' σ H Q→t σ H Q):PO X e t':=fun pz s σ H Q I q=>h pz s σ H Q I (i σ H Q q)
theorem o4:PDB X none bNo:=PO.imp xK fun σ H Q=>un7 fun P F ρ b hf I k=>by
 cases hf
 exact k F H (Evo.refl I.toDHp)
theorem jB {f:Dd}(h:PDE X e f):PDB X (some e) (bI f):=PO.imp (yU h) fun σ H Q=>un7 fun P F ρ b hf I k=>by
 unfold bI at hf
 split at hf
 ·rename_i i q
  cases hf
  refine⟨P,F,ρ,_,q,I,fun v F' H' ev r=>?_⟩
  cases r
  exact⟨i,rfl,k F' H' ev⟩
 ·cases hf
def Fd:V→Option Int→Option Int→Hp→VK→Prop:=fun x lo hi H Q=>∃ z,x=.str z∧z.length≤sizeLine∧Q (.str (Txt.slice z lo hi)) H
theorem rD {v:Value}{o:Option Int}(h:IsPart v o):∃ l:Option (Int×Tok),v=partValue l∧l.map (·.1)=o:=by
 cases h with
 | none=>exact⟨none,rfl,rfl⟩
 | int i t=>exact⟨some (i,t),rfl,rfl⟩
theorem Ai:SlR X Fd:=by
 intro pz s σ H x v vl vu lo hi sl Q I rx hs pl pu h
 obtain⟨z,rfl,hz,q⟩:=h
 have hle:=Txt.slice_le z lo hi
 obtain⟨t,rfl⟩:=rx
 obtain⟨l,rfl,e1⟩:=rD pl
 obtain⟨u,rfl,e2⟩:=rD pu
 refine⟨"str",_,PySem.F.slot_str_getitem.lookup,typeIs_str s z t,wpAny_getItem_str_slice (st:=none) hs rfl ?_⟩
 have e:slicePicked z l u none=Builtin.Str.strSliceIndices lo hi 1 z.length:=by unfold slicePicked;rw[e1,e2];rfl
 unfold sliceMade
 rw[e]
 unfold Txt.slice at q hle
 show (if ((1:Int) == 1&&(Builtin.Str.strSliceIndices lo hi 1 z.length).length == z.length)=true then Made.val (.str z t) else Made.str ⟨((Builtin.Str.strSliceIndices lo hi 1 z.length).filterMap (z.cps[·]?)).toArray⟩).post _ _
 split
 ·rename_i c
  rw[Yh c] at q
  exact⟨.str z,H,I,⟨t,rfl⟩,q⟩
 ·rename_i c
  rw[Yr c] at q hle
  exact⟨YQ hle hz,⟨.str _,H,I.tok _,⟨_,rfl⟩,q⟩⟩
def slS (fe:Dd)(fl fh:DF→Option (Option Int)):DF→Option D:=fun ρ=>match fe ρ with
 | some (.str x)=>if x.length≤16777216 then (fl ρ).bind fun l=>(fh ρ).map fun h=>.str (Txt.slice x l h) else none
 | _=>none
theorem d6 (he:PDR X e fe)(hl:PDB X lo fl)(hh:PDB X hi fh):PDE X (.Subscript e (.Slice lo hi none p2) pos) (slS fe fl fh):=(vb Ai he hl hh).imp fun σ H Q=>un7 fun P F ρ d q I k=>by
 unfold slS at q
 split at q
 ·rename_i x q1
  split at q
  rotate_left
  ·cases q
  rename_i hz
  cases q2:fl ρ with
  | none=>rw[q2] at q;cases q
  | some l=>
  rw[q2,Ya] at q
  cases q3:fh ρ with
  | none=>rw[q3] at q;cases q
  | some h=>
  rw[q3] at q
  cases q
  refine⟨P,F,ρ,_,q1,I,fun y F1 H1 e1 rx=>⟨P,F1,ρ,l,q2,I.evo e1,fun F2 H2 e2=>⟨P,F2,ρ,h,q3,(I.evo e1).evo e2,fun F3 H3 e3=>?_⟩⟩⟩
  exact⟨x,gi rx,by rw[YK];exact hz,k _ F3 H3 ((e1.trans e2).trans e3) .str⟩
 ·cases q
def ut (K:Kq):R2:=fun x y H Q=>∃ a b xs ys,x=.ref a∧y=.ref b∧SqT K H a xs∧SqT K H b ys∧xs.length+ys.length≤sizeLine ∧
 (xs=[]→Q (.ref b) H)∧(xs≠[]→ys=[]→Q (.ref a) H)∧(xs≠[]→ys≠[]→∀ p,H p=none→Q (.ref p) (upd H p (.tup (xs++ys))))
theorem m8:OpR X (binaryOp .Add) (ut X.K):=by
 intro pz s σ H x y v u Q I rx ry h
 obtain⟨a,b,xs,ys,rfl,rfl,ha,hb,hz,q0,q1,q2⟩:=h
 by_cases hx:xs=[]
 ·cases rx
  cases ry
  obtain⟨its,r1,p1,_⟩:=I.tuple ha
  obtain⟨its2,r2,p2,_⟩:=I.tuple hb
  have hi:its=[]:=r1.nil_iff.mpr hx
  obtain⟨⟨cls,dd,data,sl⟩,ho,hc,n,hd⟩:=id p1
  obtain⟨⟨cls2,dd2,data2,sl2⟩,ho2,hc2,n2,hd2⟩:=id p2
  simp only at hc hd hc2 hd2
  subst hc hd hc2 hd2
  exact concat_meets ⟨_,ho,rfl⟩ ⟨_,ho2,rfl⟩ noFill_tuple_add seq_tuple_add PySem.F.slot_tuple_add PySem.F.entry_tuple_add (PySem.F.args_tuple_add_2 _ _)
   (tuple_addW0 a b its.toArray its2.toArray n n2 dd dd2 sl sl2 (by simp[hi])) ⟨ho,ho2,⟨.ref b,H,I,rfl,q0 hx⟩⟩
 ·exact yC pz s σ H _ _ v u Q I rx ry ⟨a,b,xs,ys,rfl,rfl,ha,hb,hx,hz,q1 hx,q2 hx⟩
def az:D→D→Option D
 | .int i,.int j=>some (.int (i+j))
 | .str x,.str y=>if x.length+y.length≤16777216 then some (.str (x++y)) else none
 | .lst xs,.lst ys=>if xs.length+ys.length≤16777216 then some (.lst (xs++ys)) else none
 | .tup xs,.tup ys=>if xs.length+ys.length≤16777216 then some (.tup (xs++ys)) else none
 | _,_=>none
theorem Reps.nil_iff {K:Kq}{H:Hp}{vs:List V}{ds:List D}(r:Reps K H vs ds):vs=[]↔ds=[]:=by
 cases r with
 | nil=>simp
 | cons _ _=>simp
theorem pZ {K:Kq}:je K (fun x y H Q=>Ch x y H Q∨(zw K x y H Q∨ut K x y H Q)) az:=by
 intro P F H ρ σ x y dx dy d Q hf I rx ry k
 unfold az at hf
 split at hf
 ·cases hf
  exact .inl (.inl ⟨_,_,cR rx,cR ry,k _ F H (Evo.refl I.toDHp) .int⟩)
 ·split at hf
  ·rename_i h
   cases hf
   exact .inl (.inr ⟨_,_,gi rx,gi ry,by rw[YK];exact h,k _ F H (Evo.refl I.toDHp) .str⟩)
  ·cases hf
 ·split at hf
  ·rename_i hz
   cases hf
   obtain⟨l,vs,rfl,h1,h2⟩:=eF I rx
   obtain⟨l2,vs2,rfl,h3,h4⟩:=eF I ry
   exact .inr (.inl ⟨l,l2,vs,vs2,rfl,rfl,h1,h3,by rw[h2.length,h4.length,YK];exact hz,fun p hp=>k _ _ _ (Evo.laid I.toDHp hp) (.lst (SqL.of aw) ((h2.append h4).same (de (I.toDHp.free hp).1)))⟩)
  ·cases hf
 ·split at hf
  ·rename_i xs ys hz
   cases hf
   obtain⟨l,vs,rfl,h1,h2⟩:=gY I rx
   obtain⟨l2,vs2,rfl,h3,h4⟩:=gY I ry
   have tr:∀ {y:V} {ds:List D},RepS K H F y (.tup ds)→Rep K F y (.tup ds):=fun h=>by
    rcases h with h | ⟨_,ob,_,_,_,_,_,hfl,z⟩
    ·exact h
    ·cases ob <;> first | (cases z;done) | cases hfl
   refine .inr (.inr ⟨l,l2,vs,vs2,rfl,rfl,h1,h3,by rw[h2.length,h4.length,YK];exact hz,fun z=>?_,fun _ z=>?_,fun _ _ p hp=>?_⟩)
   ·have:xs=[]:=h2.nil_iff.mp z
    subst this
    exact k _ F H (Evo.refl I.toDHp) (tr ry)
   ·have:ys=[]:=h4.nil_iff.mp z
    subst this
    rw[Yi] at k
    exact k _ F H (Evo.refl I.toDHp) (tr rx)
   ·exact k _ _ _ (Evo.laid I.toDHp hp) (.tup aw ((h2.append h4).same (de (I.toDHp.free hp).1)))
  ·cases hf
 ·cases hf
theorem aO (ha:PDR X a fa)(hb:PDR X b fb):PDE X (.BinOp a .Add b pos) (d2 az fa fb):=fY ((uV.or jQ).or (p9.or m8)) pZ ha hb
def isT:String→D→Option Bool
 | "int",.int _=>some true
 | "bool",.int _=>some false
 | "bool",.bl _=>some true
 | "str",.str _=>some true
 | "list",.lst _=>some true
 | "tuple",.tup _=>some true
 | _,_=>none
def Fa (K:Kq):List V→Hp→VK→Prop:=fun xs H Q=>∃ x T d b,xs=[x,.ty T]∧Rep K H x d∧isT T d=some b∧Q (.bl b) H
theorem vB:CallR X (.builtin "isinstance") (Fa X.K):=by
 intro pz s σ H xs us Q I r h
 obtain⟨x,T,d,b,rfl,hr,ht,q⟩:=h
 obtain⟨u,w',rfl,r1,r2⟩:=rf r
 cases (show w'=Value.type T from r2)
 have f1:EP X pz σ Q (.bool b) s:=⟨.bl b,H,I,rfl,q⟩
 have f2:EP X pz σ Q (.bool b) { s with toks:=s.toks+1 }:=⟨.bl b,H,I.tok _,rfl,q⟩
 unfold isT at ht
 split at ht <;> cases ht <;> cases hr
 ·obtain⟨t,rfl⟩:=(show ∃ t,u=Value.int _ t from r1);exact PySem.IsiPair.int_int f1
 ·obtain⟨t,rfl⟩:=(show ∃ t,u=Value.int _ t from r1);exact PySem.IsiPair.int_bool f2
 ·cases (show u=Value.bool _ from r1);exact PySem.IsiPair.bool_bool f1
 ·obtain⟨t,rfl⟩:=(show ∃ t,u=Value.str _ t from r1);exact PySem.IsiPair.str_str f1
 ·cases (show u=Value.ref _ from r1);rename_i hs _;obtain⟨_,_,⟨o,n,e,c,_⟩,_⟩:=I.list hs;exact PySem.IsiPair.list_list e c f1
 ·cases (show u=Value.ref _ from r1);rename_i hs _;obtain⟨_,_,⟨o,e,c,_⟩,_⟩:=I.tuple (SqT.of hs);exact PySem.IsiPair.tuple_tuple e c f1
def gW (T:String)(d:D):Option D:=(isT T d).map .bl
theorem ge {x:Str}{T:String}{p1:Pos}(hg:Gl X "isinstance")(hm:X.mg "isinstance"=none)(hgt:Gl X x)(hmt:X.mg x=none)(hv:bootBuiltins x=some (.type T))(ha:PDN X a fa)(hn:x ≠ "__name__":=by decide)(hd:(x == ("__debug__":Str))=false:=by decide)
  (hs:starEach [a,.Name x p1] X.env=[(false,eval a X.env),(false,eval (.Name x p1) X.env)]:=by rfl) (hs2:starEach [.Name x p1] X.env=[(false,eval (.Name x p1) X.env)]:=by rfl) (hpl:(backTo pos (starEach [.Name x p1] X.env)).any (·.1)=false:=by rfl) :
  PDE X (.Call (.Name "isinstance" p) [a,.Name x p1] [] pos) (d1 (gW T) fa):=
 (df vB hg hm eY (aH ha (aH (yJ (v:=.ty T) hgt hmt hv rfl hn hd) a9 hs2) (by rw[hs,hs2])) (by decide) (by decide) (by rw[hs,hs2]) hpl).imp fun σ H Q=>un7 fun P F ρ d hf I k=>by
  unfold d1 gW at hf
  cases q:fa ρ with
  | none=>rw[q] at hf;cases hf
  | some dx=>
   rw[q,Ya] at hf
   cases q2:isT T dx with
   | none=>rw[q2] at hf;cases hf
   | some b=>
    rw[q2] at hf
    cases hf
    exact⟨P,F,ρ,dx,q,I,fun y F1 H1 e1 r1=>⟨y,T,dx,b,rfl,r1,q2,k _ F1 H1 e1 .bl⟩⟩
end
section
variable {X:Cx} {pz:Kp} {σ:St} {H:Hp} {s:Shared}
theorem nE (I:Inv X pz σ H s){a:Addr}{xs ys:List V}(h1:SqT X.K H a xs)(h2:SqL X.K H a ys):False:=by
 obtain⟨_,_,⟨o,e,c,_⟩,_⟩:=I.tuple h1
 obtain⟨_,_,⟨o',n,e',c',_⟩,_⟩:=I.list h2
 rw[e] at e'
 cases e'
 rw[c] at c'
 injection c' with z
 exact absurd z (by decide)
theorem Reps.detOf {n:Nat}(ih:∀ {v:V} {d d':D},okN n d=true→okN n d'=true→Rep X.K H v d→Rep X.K H v d'→d=d'){vs:List V}{ds:List D}(h:Reps X.K H vs ds):∀ ds':List D,(∀ d∈ds,okN n d=true)→(∀ d∈ds',okN n d=true)→Reps X.K H vs ds'→ds=ds':=
 Reps.ind (M:=fun vs ds=>∀ ds':List D,(∀ d∈ds,okN n d=true)→(∀ d∈ds',okN n d=true)→Reps X.K H vs ds'→ds=ds') (fun ds' _ _ r=>by cases r;rfl) (fun a _ i ds' h h' r=>by
  cases r with
  | cons a' r'=>rw[ih (h _ Yf) (h' _ Yf) a a',i _ (fun d m=>h d (Yd _ m)) (fun d m=>h' d (Yd _ m)) r']) h
theorem Rep.det1 (I:Inv X pz σ H s)(n:Nat)(ih:∀ m,n=m+1→∀ {v:V} {d d':D},okN m d=true→okN m d'=true→Rep X.K H v d→Rep X.K H v d'→d=d'){v:V}{d d':D}(h:okN n d=true)(h':okN n d'=true)(q:Rep X.K H v d)(r:Rep X.K H v d'):d=d':=by
 cases q with
 | non=>cases r;rfl
 | bl=>cases r;rfl
 | int=>cases r;rfl
 | str=>cases r;rfl
 | tup a1 a2=>
  cases r with
  | tup b1 b2=>
   rw[a1] at b1
   cases b1
   cases n with
   | zero=>cases h
   | succ n=>rw[Reps.detOf (ih n rfl) a2 _ (bO h) (bO h') b2]
  | lst b1 b2=>exact (nE I (SqT.of a1) b1).elim
  | dT b1 b2=>rw[a1] at b1;cases b1
  | dK b1 b2=>rw[a1] at b1;cases b1
  | ins b1 b2=>rw[a1] at b1;cases b1
  | fn b=>cases n <;> cases h'
 | lst a1 a2=>
  cases r with
  | tup b1 b2=>exact (nE I (SqT.of b1) a1).elim
  | lst b1 b2=>
   have e:=I.list_inj a1 b1
   subst e
   cases n with
   | zero=>cases h
   | succ n=>rw[Reps.detOf (ih n rfl) a2 _ (bO h) (bO h') b2]
  | _=>cases n <;> cases h'
 | _=>cases n <;> cases h
theorem Rep.det (I:Inv X pz σ H s)(n:Nat):∀ {v:V} {d d':D},okN n d=true→okN n d'=true→Rep X.K H v d→Rep X.K H v d'→d=d':=by
 induction n with
 | zero=>exact fun h h' q r=>Rep.det1 I 0 (fun m e=>by cases e) h h' q r
 | succ n ih=>exact fun h h' q r=>Rep.det1 I (n+1) (fun m e=>by cases e;exact ih) h h' q r
theorem tF {v v':V}{u:Value}(h:RelV v u)(h':RelV v' u):v=v':=RelV.inj h h'
open Classical in
noncomputable def uA (us:List Value)(ds:List D)(dy:D)(u:Value):Bool:=decide (∃ (i:Nat) (d:D),us[i]?=some u∧ds[i]?=some d∧eqd d dy=true)
open Classical in
theorem qj (I:Inv X pz σ H s){n:Nat}{vs:List V}{ds:List D}{us:List Value}{dy:D}(r:Reps X.K H vs ds)(rv:Vals vs us)(ok:∀ d∈ds,okN n d=true){i:Nat}{u:Value}{d:D}(hu:us[i]?=some u)(hd:ds[i]?=some d):uA us ds dy u=eqd d dy:=by
 unfold uA
 cases q:eqd d dy with
 | true=>exact YF ⟨i,d,hu,hd,q⟩
 | false=>
  refine Yk ?_
  rintro⟨j,d',h1,h2,h3⟩
  obtain⟨v,a1,a2⟩:=r.get hd
  obtain⟨v',b1,b2⟩:=r.get h2
  obtain⟨u1,c1,c2⟩:=rv.get a1
  obtain⟨u2,c3,c4⟩:=rv.get b1
  rw[hu] at c1;cases c1
  rw[h1] at c3;cases c3
  have e:=tF c2 c4
  subst e
  have:=a2.det I n (ok d (Zj hd)) (ok d' (Zj h2)) b2
  rw[this,h3] at q
  cases q
theorem vt (I:Inv X pz σ H s){vs:List V}{ds:List D}{us:List Value}{y:V}{dy:D}{uy:Value}(r:Reps X.K H vs ds)(rv:Vals vs us)(ok:∀ d∈ds,okN 29 d=true)(ry:Rep X.K H y dy)(oy:okN 30 dy=true)(ky:RelV y uy){A:Around}(hu:A.units+60<cLine) :
  ∀ u∈us,SeqAt.EqAt A s u uy (uA us ds dy u):=fun u hu'=>by
 obtain⟨i,hi,eu⟩:=XD hu'
 have l1:=r.length
 have l2:=rv.length
 have hiv:i<vs.length:=by omega
 obtain⟨u',e1,k1⟩:=rv.get (Yv hiv)
 rw[Yv hi,eu] at e1
 cases e1
 obtain⟨d,e2,r2⟩:=r.getV (Yv hiv)
 rw[qj I r rv ok (by rw[Yv hi,eu]) e2]
 have od:=ok d (Zj e2)
 obtain⟨a1,p1⟩:=r2.reads I 29 od k1
 obtain⟨a2,p2⟩:=ry.reads I 30 oy ky
 obtain⟨l1',m1⟩:=cN 29 d od
 obtain⟨l2',m2⟩:=cN 30 dy oy
 refine PySem.SeqAt.eqAt_reads _ _ A s _ _ _ _ p1 p2 l1' l2' ?_
 have:min (cA d).depth (cA dy).depth≤30:=YQ (Nat.min_le_left _ _) m1
 omega
end
def lK (dy:D):List D→Option Nat
 | []=>none
 | d::r=>if eqd d dy=true then some 0 else (lK dy r).map (· + 1)
theorem ka {dy:D}:∀ {ds:List D} {j:Nat},lK dy ds=some j→(∃ d,ds[j]?=some d∧eqd d dy=true)∧∀ m,m<j→∃ d,ds[m]?=some d∧eqd d dy=false
 | [],_,h=>by cases h
 | d::r,j,h=>by
  unfold lK at h
  split at h
  ·rename_i q
   cases h
   exact⟨⟨d,rfl,q⟩,fun m hm=>by omega⟩
  ·rename_i q
   cases q2:lK dy r with
   | none=>rw[q2] at h;cases h
   | some k=>
    rw[q2] at h
    have h:=Yq h
    have h:k+1=j:=h
    subst h
    obtain⟨h1,h2⟩:=ka q2
    refine⟨by simpa using h1,fun m hm=>?_⟩
    cases m with
    | zero=>exact⟨d,rfl,by simpa using q⟩
    | succ m=>simpa using h2 m (by omega)
section
variable {X:Cx} {e a b c o:Expr} {es:List Expr} {pos p apos cpos:Pos} {fe fa fb:Dd}
end
section
variable {X:Cx} {tg e a b c o l:Expr} {es:List Expr} {pos p apos cpos spos:Pos} {fe fa fb fc:Dd}
theorem gT {x:Str}{i:Int}{t:Tok}(hg:Gl X x)(hm:X.mg x=some (.int i t))(hd:(x == ("__debug__":Str))=false:=by decide):PDE X (.Name x pos) (fun _=>some (.int i)):=qC (qX hg hm (v:=.int i) ⟨t,rfl⟩ hd) fun _=>.int
def si:D→D→Option D
 | .int i,.int j=>some (.int (if j > i then j else i))
 | _,_=>none
def tf:D→D→Option D
 | .int i,.int j=>some (.int (if j<i then j else i))
 | _,_=>none
theorem vK {K:Kq}{r:List V→Hp→VK→Prop}{f:Dy}(ho:OpN2 K (fun x y=>r [x,y]) f):∀ σ H Q,tD K (d2 f fa fb) σ H Q→tCB r (oh (tN K fa) (oh (tN K fb) oN)) σ H Q:=fun σ H Q h=>pk ho σ H Q h
theorem Ba {K:Kq}:OpN2 K (fun x y H Q=>∃ i j,[x,y]=[V.int i,.int j]∧Q (.int (if j > i then j else i)) H) si:=by
 intro P F H x y dx dy d Q hf hp rx ry k
 unfold si at hf
 split at hf
 ·cases hf;cases rx;cases ry;exact⟨_,_,rfl,k _ F H (Evo.refl hp) .int⟩
 ·cases hf
theorem AI {K:Kq}:OpN2 K (fun x y H Q=>∃ i j,[x,y]=[V.int i,.int j]∧Q (.int (if j<i then j else i)) H) tf:=by
 intro P F H x y dx dy d Q hf hp rx ry k
 unfold tf at hf
 split at hf
 ·cases hf;cases rx;cases ry;exact⟨_,_,rfl,k _ F H (Evo.refl hp) .int⟩
 ·cases hf
theorem zc (hc:X.calm=true)(hg:Gl X "max")(hm:X.mg "max"=none)(ha:PDN X a fa)(hb:PDN X b fb)(hs:starEach [a,b] X.env=[(false,eval a X.env),(false,eval b X.env)]:=by rfl)(hs2:starEach [b] X.env=[(false,eval b X.env)]:=by rfl)(hpl:(backTo pos (starEach [b] X.env)).any (·.1)=false:=by rfl) :
  PDE X (.Call (.Name "max" p) [a,b] [] pos) (d2 si fa fb):=
 (df (sW hc) hg hm u_ (aH ha (aH hb a9 hs2) (by rw[hs,hs2])) (by decide) (by decide) (by rw[hs,hs2]) hpl).imp (vK Ba)
theorem xf (hc:X.calm=true)(hg:Gl X "min")(hm:X.mg "min"=none)(ha:PDN X a fa)(hb:PDN X b fb)(hs:starEach [a,b] X.env=[(false,eval a X.env),(false,eval b X.env)]:=by rfl)(hs2:starEach [b] X.env=[(false,eval b X.env)]:=by rfl)(hpl:(backTo pos (starEach [b] X.env)).any (·.1)=false:=by rfl) :
  PDE X (.Call (.Name "min" p) [a,b] [] pos) (d2 tf fa fb):=
 (df (sK hc) hg hm wD (aH ha (aH hb a9 hs2) (by rw[hs,hs2])) (by decide) (by decide) (by rw[hs,hs2]) hpl).imp (vK AI)
def mv:D→Bool
 | .bl _=>true
 | _=>false
def trD:D→Bool
 | .bl b=>b
 | _=>false
def sv:D→Option D
 | .lst ds=>if ds.all mv=true then some (.bl (ds.all trD)) else none
 | _=>none
def Fo (K:Kq):List V→Hp→VK→Prop:=fun xs H Q=>∃ l vs ds,xs=[.ref l]∧SqL K H l vs∧Reps K H vs ds∧ds.all mv=true∧Q (.bl (ds.all trD)) H
theorem sw {ds:List D}:(List.range ds.length).all (fun i=>trD (ds.getD i .non))=ds.all trD:=by
 rw[Bool.eq_iff_iff,YG,YG]
 constructor
 ·intro h d hd
  obtain⟨i,hi,e⟩:=XD hd
  have:=h i (Zt.mpr hi)
  rw[YR,Yv hi,e] at this
  exact this
 ·intro h i hi
  have hi:=Zt.mp hi
  rw[YR,Yv hi]
  exact h _ (List.getElem_mem hi)
theorem sH (hc:X.calm=true):CallR X (.builtin "all") (Fo X.K):=by
 intro pz s σ H xs us Q I r h
 obtain⟨l,vs,ds,rfl,hq,hr,hb,q⟩:=h
 obtain⟨u,rfl,ru⟩:=fU r
 cases ru
 obtain⟨its,rv,pl,hz⟩:=I.list hq
 have ho:=pl.isList
 have l1:=hr.length
 have l2:=rv.length
 refine call_all_walk (wpAny_pyIter_list ho ?_)
 have hlt:l<s.heap.objs.size:=by obtain⟨o,e,_⟩:=ho;exact YE e
 refine⟨s.heap.objs.size,[s.heap.objs.size,l],[s.heap.objs.size],its.toArray.size,_,_,fun i=>trD (ds.getD i .non),rfl,Walks.list (by show X.A.in1.handled=none;exact I.ok.hd hc) s.heap.objs.size l (YL hlt) its.toArray,⟨⟨_,YI _ rfl,rfl,rfl⟩,ho.at fun o e=>Yt _ e⟩,fun i v s' Q' E' hv hq'=>?_,fun h' tk k=>?_⟩
 ·have hv:its[i]?=some v:=by simpa using hv
  have hi:i<its.length:=(YM.mp hv).1
  have hid:i<ds.length:=by omega
  obtain⟨w',a1,a2⟩:=hr.get (Yv hid)
  obtain⟨u',a3,a4⟩:=rv.get a1
  rw[hv] at a3
  cases a3
  have hbd:=YG.mp hb _ (List.getElem_mem hid)
  have eg:ds.getD i .non=ds[i]:=by rw[YR,Yv hid];rfl
  have hq':Q' (trD (ds.getD i .non)) s':=hq'
  rw[eg] at hq'
  generalize ds[i]=d at *
  cases d with
  | bl b=>cases a2;cases (show v=Value.bool _ from a4);exact Zd hq'
  | _=>cases hbd
 ·have e:its.toArray.size=ds.length:=by rw[Ym];omega
  rw[e,sw]
  refine⟨.bl _,H,I.kept (t':=tk) fun b o e=>k b o (fun z=>?_) (Yt _ e),rfl,q⟩
  have z:b=s.heap.objs.size:=by simpa using z
  rw[z] at e
  exact absurd (YE e) (Zh _)
theorem pI (hc:X.calm=true)(hg:Gl X "all")(hm:X.mg "all"=none)(ha:PDN X e fa)(hs:starEach [e] X.env=[(false,eval e X.env)]:=by rfl)(hpl:(backTo pos (starEach [] X.env)).any (·.1)=false:=by rfl) :
  PDE X (.Call (.Name "all" p) [e] [] pos) (d1 sv fa):=
 (df (sH hc) hg hm vw (aH ha a9 hs) (by decide) (by decide) hs hpl).imp (lT fun P F H x dx d Q hf hp rx k=>by
  cases dx with
  | lst ds=>
   have hf:(if ds.all mv=true then some (D.bl (ds.all trD)) else none)=some d:=hf
   split at hf
   ·rename_i hb
    cases hf
    cases rx with | lst h1 h2=>exact⟨_,_,ds,rfl,h1,h2,hb,k _ F H (Evo.refl hp) .bl⟩
   ·cases hf
  | _=>cases hf)
def Its (x:Str):It:=⟨fun i _=>i<x.cps.size,fun i H v H'=>H'=H∧v=.str ⟨#[x.cps.getD i 0]⟩,fun i _=>x.cps.size≤i⟩
theorem tU {P:Program}{w:World}{K:Kq}{tg:Expr}(it:Addr)(x:Str)(t:Tok)(ty:String)(hty:["enumerate", "zip", "dict_itemiterator", "dict_reverseitemiterator", "odict_iterator", "itertools.zip_longest", "itertools.pairwise"].contains ty=false)(W:∀ A:Around,A.handled=none→Walks P w A it [it] [it] x.cps.size (SignAt x) (fun i h=>h.IsStrIter it ty x t i))
  (hself:∀ (A:Around) (i:Nat) (s:Shared) (Q:Kv) (E:Kv),s.heap.IsStrIter it ty x t i→Q (.ref it) s→wpAny (model P w) A (pyIter (.ref it)) Q E s):Turn P w K tg (Its x) [it] it (fun i h=>h.IsStrIter it ty x t i∧i≤x.cps.size) where
 mem:=by simp
 obj:=fun i h st b hb=>by
  have e:b=it:=by simpa using hb
  subst e
  obtain⟨⟨o,e,c,d⟩,_⟩:=st
  exact⟨o,e,fun v z=>by rw[d] at z;cases z⟩
 keep:=fun i h h' st k=>by obtain⟨⟨o,e,r⟩,hl⟩:=st;exact⟨⟨o,k it (by simp) o e,r⟩,hl⟩
 item:=by
  intro X hP hw hK hc i pz s σ H E I hf st hg
  subst hP hw hK
  obtain⟨f0,f1,f2,f3,f4,f5⟩:=hf it (by simp)
  have hg:i<x.cps.size:=hg
  refine (W X.A (I.ok.hd hc)).item i s _ _ hg st.1 fun v h' tk hv st' kk=>?_
  obtain⟨c,u,hcs,rfl⟩:=hv
  have I1:Inv X pz σ H { s with heap:=h',toks:=tk }:=I.turned (fun b o hb e=>kk b o (by simpa using hb) e) f0 f1 f3 f4 f5
  obtain⟨o,ho,hoc,hod⟩:=id st'
  have ec:x.cps.getD i 0=c:=by simp[ZV,hcs]
  refine⟨_,rfl,wy (s:={ s with heap:=h',toks:=tk }) (n:=ty) ho hoc hod hty ⟨.str ⟨#[c]⟩,H,I1,⟨u,rfl⟩,⟨rfl,by rw[ec]⟩,⟨st',hg⟩,fun b hb=>(hf b hb).1⟩⟩
 done:=by
  intro X hP hw hK hc i pz s σ H E I hf st hg
  subst hP hw hK
  obtain⟨f0,f1,f2,f3,f4,f5⟩:=hf it (by simp)
  have hg:x.cps.size≤i:=hg
  have hi:i=x.cps.size:=Zf st.2 hg
  subst hi
  exact (W X.A (I.ok.hd hc)).done s _ _ st.1 fun h' tk kk=>⟨rfl,I.turned (fun b o hb e=>kk b o (by simpa using hb) e) f0 f1 f3 f4 f5⟩
 self:=fun A i s Q E st h=>hself A i s Q E st.1 h
def E8 (tl:TE):TI:=fun σ H R=>tl σ H fun x H1=>∃ z,x=.str z∧R (Its z) H1
theorem Bl {tl:TE}(hl:PE X l tl):PI X tg l (E8 tl):=by
 intro pz s σ H R I h
 refine aT (hl pz s σ H _ I h) fun v s1 x H1 I1 r1 hh_=>?_
 obtain⟨z,e,q⟩:=hh_
 subst e
 obtain⟨t,rfl⟩:=r1
 have fin:∀ (ob:Obj) (ty:String),["enumerate", "zip", "dict_itemiterator", "dict_reverseitemiterator", "odict_iterator", "itertools.zip_longest", "itertools.pairwise"].contains ty=false→(∀ A:Around,A.handled=none→Walks X.prog X.w A s1.heap.objs.size [s1.heap.objs.size] [s1.heap.objs.size] z.cps.size (SignAt z) (fun i h=>h.IsStrIter s1.heap.objs.size ty z t i))→
   (∀ (A:Around) (i:Nat) (s:Shared) (Q:Kv) (E:Kv),s.heap.IsStrIter s1.heap.objs.size ty z t i→Q (.ref s1.heap.objs.size) s→wpAny (model X.prog X.w) A (pyIter (.ref s1.heap.objs.size)) Q E s)→
   (s1.heap.push ob).IsStrIter s1.heap.objs.size ty z t 0→PIE X pz σ tg R (.ref s1.heap.objs.size) { s1 with heap:=s1.heap.push ob }:=fun ob ty h1 h2 h3 h4=>by
  refine⟨s1.heap.objs.size,[s1.heap.objs.size],_,_,H1,rfl,I1.kept (t':=s1.toks) fun b o e=>Yt _ e,tU _ z t ty h1 h2 h3,⟨h4,YO _⟩,fun b hb=>?_,q⟩
  have e:b=s1.heap.objs.size:=by simpa using hb
  subst e
  exact I1.fpOk (Yx _) (I1.hok.fresh (Yx _))
 cases ha:z.cps.all (· < 128)
 ·exact wpAny_pyIter_wide ha (fin _ "str_iterator" (by decide) (fun A' hA=>Walks.strWide hA _ z t) (fun A i s Q E st h=>wpAny_pyIter_striter_wide st h) ⟨_,YI _ rfl,rfl,rfl⟩)
 ·exact wpAny_pyIter_ascii ha (fin _ "str_ascii_iterator" (by decide) (fun A' hA=>Walks.strAscii hA _ z t) (fun A i s Q E st h=>wpAny_pyIter_striter_ascii st h) ⟨_,YI _ rfl,rfl,rfl⟩)
def signs (x:Str):List D:=x.cps.toList.map fun c=>.str ⟨#[c]⟩
def nM (f:Dd):DF→Option (List D):=fun ρ=>match f ρ with
 | some (.str x)=>some (signs x)
 | _=>none
theorem yj (h:PDE X l fa):PDI X tg l (nM fa):=PI.imp (Bl h) fun σ H R=>un7 fun P F ρ ds hf I k=>by
 unfold nM at hf
 split at hf
 ·rename_i x q
  cases hf
  refine⟨P,F,ρ,_,q,I,fun v F1 H1 e1 r1=>?_⟩
  cases r1
  refine⟨x,rfl,k _ F1 H1 e1 fun F' H' e hp i=>⟨fun d hd=>?_,fun hl=>?_⟩⟩
  ·unfold signs at hd
   rw[YH] at hd
   cases qc:x.cps.toList[i]? with
   | none=>rw[qc] at hd;cases hd
   | some c=>
    rw[qc] at hd
    cases hd
    have hi:i<x.cps.size:=by have:=(YM.mp qc).1;simpa using this
    refine⟨hi,fun y H2 hy=>?_⟩
    obtain⟨rfl,rfl⟩:=hy
    have ec:x.cps.getD i 0=c:=by
     have:x.cps[i]?=some c:=by rw[← Array.getElem?_toList];exact qc
     simp[ZV,this]
    rw[ec]
    exact⟨F',Evo.refl hp,.str⟩
  ·unfold signs at hl
   rw[Yb,Zs] at hl
   exact hl
 ·cases hf
def wz:D→Bool
 | .str _=>true
 | _=>false
def txt:D→Str
 | .str x=>x
 | _=>⟨#[]⟩
def e_ (x:Str)(ds:List D):Bool:=ds.all wz&&decide (((ds.map txt).map (·.length)).sum+(ds.map txt).length*x.length≤16777216)
def jR:D→D→Option D
 | .str x,.lst ds=>if e_ x ds=true then some (.str (Txt.join x (ds.map txt))) else none
 | _,_=>none
def CF (K:Kq):V→List V→Hp→VK→Prop:=fun x vs H Q=>∃ z l xs ds,x=.str z∧vs=[.ref l]∧SqL K H l xs∧Reps K H xs ds∧e_ z ds=true∧Q (.str (Txt.join z (ds.map txt))) H
theorem vm {K:Kq}{H:Hp}{vs:List V}{ds:List D}{us:List Value}(h:Reps K H vs ds):Vals vs us→ds.all wz=true→StrsAre us (ds.map txt):=
 Reps.ind (M:=fun vs ds=>∀ us:List Value,Vals vs us→ds.all wz=true→StrsAre us (ds.map txt)) (fun us r _=>by cases r;exact .nil) (fun {v d vs ds} h _ ih us r0 ha=>by
  cases r0 with
  | cons r t=>
   rw[List.all_cons,Ys] at ha
   cases d with
   | str x=>
    cases h
    obtain⟨tk,rfl⟩:=(show ∃ t,_=Value.str _ t from r)
    exact .cons _ _ (ih _ t ha.2)
   | _=>cases ha.1) h us
theorem yW:MtR X "str.join" (CF X.K):=by
 intro pz s σ H x vs v us Q I rx rvv h
 obtain⟨z,l,xs,ds,rfl,rfl,hq,r,ok,q⟩:=h
 obtain⟨t,rfl⟩:=rx
 obtain⟨u,rfl,ru⟩:=rvv.one
 cases ru
 obtain⟨its,rv,pl,hz⟩:=I.list hq
 unfold e_ at ok
 rw[Ys,YB] at ok
 exact join_list pl.isList (vm r (by simpa using rv) ok.1) ok.2 fun t' k=>⟨.str _,H,I.tok _,⟨_,rfl⟩,q⟩
theorem qV (ho:PDN X o fa)(ha:PDN X e fb)(hbase:attributeBase o "join" X.env (eval o X.env)=eval o X.env:=by rfl)
  (hfew:((backTo cpos (starEach [e] X.env)).all (fun x=>!x.1)&&(backToKw cpos (keywordEach [] X.env)).all (fun x=>x.1.isSome)
   && decide (([e]:List Expr).length+([]:List Keyword).length+(if ([]:List Keyword).isEmpty then 0 else 1)<30))=true:=by rfl)
  (hline:(apos.endLine == cpos.line)=true:=by rfl) (hs:starEach [e] X.env=[(false,eval e X.env)]:=by rfl) :
  PDE X (.Call (.Attribute o "join" apos) [e] [] cpos) (d2 jR fa fb):=
 (iC PySem.F.plainAttrs_str PySem.F.slot_str_join PySem.F.type_str_join yW ho (aH ha a9 hs) hbase hfew hline hs rfl).imp fun σ H Q=>un7 fun P F ρ d hf I k=>by
  unfold d2 at hf
  cases ha:fa ρ with
  | none=>rw[ha] at hf;cases hf
  | some dx=>
   cases hb:fb ρ with
   | none=>rw[ha,Ya,hb] at hf;cases hf
   | some dy=>
    rw[ha,Ya,hb,Ya] at hf
    cases dx with
    | str x=>
     cases dy with
     | lst ds=>
      have hf:(if e_ x ds=true then some (D.str (Txt.join x (ds.map txt))) else none)=some d:=hf
      split at hf
      ·rename_i ok
       cases hf
       refine⟨P,F,ρ,_,ha,I,fun v F1 H1 e1 rx=>?_⟩
       cases rx
       refine⟨rfl,P,F1,ρ,_,hb,I.evo e1,fun y F2 H2 e2 ry=>?_⟩
       cases ry with
       | lst h1 h2=>exact⟨x,_,_,ds,rfl,rfl,h1,h2,ok,k _ F2 H2 (e1.trans e2) .str⟩
      ·cases hf
     | _=>cases hf
    | _=>cases hf
end
section
variable {X:Cx} {tg e a b c o l r:Expr} {es:List Expr} {pos p p' apos cpos spos apos' cpos':Pos} {f fe fa fb fc:Dd}
end
theorem sr {k k':Key}{v:V}{vs:List (Key×V)}:cH ((k',v)::vs) k=if k'=k then some v else cH vs k:=by
 unfold cH
 by_cases q:k'=k <;> simp[Zc,q]
theorem RepsK.val {K:Kq}{H:Hp}{k:Key}{vs:List (Key×V)}{ds:List (Key×D)}(h:RepsK K H vs ds):(cH vs k=none∧cy ds k=none)∨∃ v d,cH vs k=some v∧cy ds k=some d∧Rep K H v d:=
 RepsK.ind (M:=fun vs ds=>(cH vs k=none∧cy ds k=none)∨∃ v d,cH vs k=some v∧cy ds k=some d∧Rep K H v d) (.inl ⟨rfl,rfl⟩) (fun {k' v d vs ds} h _ ih=>by
  rw[sr,g7]
  by_cases q:k'=k
  ·rw[Yh q,Yh q]
   exact .inr ⟨v,d,rfl,rfl,h⟩
  ·rw[Yr q,Yr q]
   exact ih) h
theorem RepsK.any {K:Kq}{H:Hp}{k:Key}{vs:List (Key×V)}{ds:List (Key×D)}(h:RepsK K H vs ds):(vs.any fun kv=>decide (kv.1=k))=ds.any fun kv=>decide (kv.1=k):=
 RepsK.ind (M:=fun vs ds=>(vs.any fun kv=>decide (kv.1=k))=ds.any fun kv=>decide (kv.1=k)) rfl (fun _ _ ih=>by rw[Xa,Xa,ih]) h
theorem RepsK.map {K:Kq}{H:Hp}{k:Key}{v:V}{d:D}(rv:Rep K H v d){vs:List (Key×V)}{ds:List (Key×D)}(h:RepsK K H vs ds):RepsK K H (vs.map fun kv=>if kv.1=k then (kv.1,v) else kv) (ds.map fun kv=>if kv.1=k then (kv.1,d) else kv):=
 RepsK.ind (M:=fun vs ds=>RepsK K H (vs.map fun kv=>if kv.1=k then (kv.1,v) else kv) (ds.map fun kv=>if kv.1=k then (kv.1,d) else kv)) .nil (fun {k' v' d' vs ds} h _ ih=>by
  rw[YA,YA]
  by_cases q:k'=k
  ·rw[Yh (show (k',v').1=k from q),Yh (show (k',d').1=k from q)];exact .cons rv ih
  ·rw[Yr (show ¬ (k',v').1=k from q),Yr (show ¬ (k',d').1=k from q)];exact .cons h ih) h
theorem RepsK.snoc {K:Kq}{H:Hp}{k:Key}{v:V}{d:D}(rv:Rep K H v d){vs:List (Key×V)}{ds:List (Key×D)}(h:RepsK K H vs ds):RepsK K H (vs++[(k,v)]) (ds++[(k,d)]):=
 RepsK.ind (M:=fun vs ds=>RepsK K H (vs++[(k,v)]) (ds++[(k,d)])) (.cons rv .nil) (fun h _ ih=>.cons h ih) h
theorem RepsK.put {K:Kq}{H:Hp}{k:Key}{v:V}{d:D}{vs:List (Key×V)}{ds:List (Key×D)}(rv:Rep K H v d)(r:RepsK K H vs ds):RepsK K H (dJ vs k v) (e6 ds k d):=by
 unfold dJ e6
 rw[r.any (k:=k)]
 split
 ·exact r.map rv
 ·exact r.snoc rv
theorem RepsK.length {K:Kq}{H:Hp}{vs:List (Key×V)}{ds:List (Key×D)}(h:RepsK K H vs ds):vs.length=ds.length:=RepsK.ind (M:=fun vs ds=>vs.length=ds.length) rfl (fun _ _ ih=>YN Nat.succ ih) h
theorem qK {K:Kq}{F:Hp}{y:V}{dy:D}{k:Key}(r:Rep K F y dy)(h:gZ dy=some k):y=kV k:=by
 cases dy with
 | int i=>cases h;cases r;rfl
 | str i=>cases h;cases r;rfl
 | _=>cases h
theorem mL {K:Kq}{P F H:Hp}{ρ:DF}{σ:St}{x:V}{ds:List (Key×D)}(I:DInv K P F H ρ σ)(r:RepS K H F x (.dK ds)):∃ a vs,x=.ref a∧H a=some (.dK vs)∧RepsK K F vs ds:=by
 rcases r with r | ⟨a,o,u,rfl,_,h3,h4,hfl,z⟩
 ·cases r with | dK h q=>exact⟨_,_,rfl,I.sub _ _ h,q⟩
 ·cases o with
  | dK ds'=>
   cases z
   cases u with
   | dK vs=>exact⟨a,vs,rfl,h3,h4⟩
   | _=>exact h4.elim
  | lst2 _=>cases hfl
  | tup2 _=>cases hfl
  | obj _ _=>cases hfl
  | _=>cases z
section
variable {X:Cx} {tg a b c o i e f:Expr} {pos pos' apos cpos p:Pos} {fd fk fx fv fa fb fc:Dd}
def dE:D→D→Option D
 | .dK kvs,y=>(gZ y).bind fun k=>cy kvs k
 | _,_=>none
theorem eB (hu:X.A.units+64<cLine)(ho:PDR X o fd)(hi:PDE X i fk)(hs:k_ i:=by exact fun _ _=>rfl):PDE X (.Subscript o i pos) (d2 dE fd fk):=(fK (by omega) ho hi hs).imp fun σ H Q=>un7 fun P F ρ d hf I k=>by
 unfold d2 at hf
 cases qa:fd ρ with
 | none=>rw[qa] at hf;cases hf
 | some dx=>
 cases qb:fk ρ with
 | none=>rw[qa,Ya,qb] at hf;cases hf
 | some dy=>
 rw[qa,Ya,qb,Ya] at hf
 cases dx with
 | dK kvs=>
  have hf':((gZ dy).bind fun k=>cy kvs k)=some d:=hf
  cases qk:gZ dy with
  | none=>rw[qk] at hf';cases hf'
  | some ks=>
   rw[qk,Ya] at hf'
   refine⟨P,F,ρ,_,qa,I,fun x F1 H1 e1 rx=>⟨P,F1,ρ,_,qb,I.evo e1,fun y F2 H2 e2 ry=>?_⟩⟩
   obtain⟨q,vs,rfl,h1,h2⟩:=mL ((I.evo e1).evo e2) (rx.evo e2)
   have ey:=qK ry qk
   subst ey
   rcases h2.val (k:=ks) with⟨_,z⟩ | ⟨v,d',z1,z2,z3⟩
   ·rw[z] at hf';cases hf'
   ·rw[z2] at hf'
    cases hf'
    exact⟨q,v,rfl,by have:=DGet.k (k:=ks) h1;rw[z1] at this;exact this,k v F2 H2 (e1.trans e2) z3⟩
 | _=>cases hf
theorem kX:PDO X (.Dict [] [] pos) (fun _=>some (.dK [])):=uE.imp fun σ H Q=>un7 fun P F ρ ob hf I k=>by
 cases hf
 exact fun p hp=>k p F _ (Evo.side I.toDHp hp) ⟨⟨hp,(I.toDHp.free hp).1⟩,_,aw,.nil⟩
end
theorem Room.h64 {k:Nat}{A:Around}(r:Room k A):A.units+64<cLine:=by have:=r.un;omega
def yz (sc0 scope:Scope):Bool:=scope.kind == .function&&(scope.names.map (·.1)).Nodup&&(scope.names.all fun x=>x.2 != .free||(sc0.names.lookup x.1 == some .cell||sc0.names.lookup x.1 == some .free))
theorem Cd {X:Cx}{scope:Scope}(sc0:Scope)(e:X.env.scope=sc0)(h:yz sc0 scope=true):BlkScope X scope:=by
 unfold yz at h
 simp only[Ys,YB] at h
 obtain⟨⟨h1,h2⟩,h3⟩:=h
 refine⟨by simpa using h1,h2,fun x hx hk=>?_⟩
 have:=YG.mp h3 x hx
 rw[hk] at this
 have e2:X.env.kindOf x.1=sc0.names.lookup x.1:=by show X.env.scope.names.lookup x.1=_;rw[e]
 rw[e2]
 simpa using this
def xQ (N0:List Str)(scope:Scope)(N:List Str)(own:Nat)(ix:List Nat):Bool:=
 decide (N.length=own+ix.length)&&(List.range ix.length).all fun i=>match N[own+i]?,ix[i]? with
  | some x,some j=>N0[j]? == some x&&scope.names.lookup x == some .free
  | _,_=>true
theorem DH {X:Cx}{scope:Scope}{N:List Str}{own:Nat}{ix:List Nat}(N0:List Str)(e:X.N=N0)(h:xQ N0 scope N own ix=true):Caps X scope N own ix:=by
 unfold xQ at h
 rw[Ys,YB] at h
 refine⟨h.1,fun i j x h1 h2=>?_⟩
 have hi:i<ix.length:=(YM.mp h2).1
 have:=YG.mp h.2 i (Zt.mpr hi)
 rw[h1,h2] at this
 simp only[Ys,Xg] at this
 rw[e]
 exact this
section
variable {X:Cx}
theorem kU:rR X [] (tB' X.K e8):=fun pz s σ H Q I hh_=>by
 obtain⟨P,F,ρ,b,hf,J,k⟩:=hh_
 cases hf
 exact uM pz s σ H Q I (k F H (Evo.refl J.toDHp))
end
theorem AS {is:List Nat}{own:Nat}(h:(is.all fun j=>decide (j<own))=true):∀ j∈is,j<own:=fun j m=>YS (YG.mp h j m)
section
variable {X:Cx} {tg iter elt:Expr} {ifs:List Expr} {scope:Scope} {pos:Pos} {N:List Str} {own:Nat} {ix is:List Nat} {f:Dl} {st:Dq} {c:Dk} {e:Dd}
end
def Dr (n p:Nat)(g:Dw)(o:OD)(xs:List DV)(q:OD×D):Prop:=xs.length+1=p∧q.1.flat=true∧∀ a,∃ r,g (bh n p (.own o (some a)::xs))=some r∧iz a q.1 q.2 r
noncomputable def oI (n p:Nat)(g:Dw)(o:OD)(xs:List DV):Option (OD×D):=
 open Classical in if h:∃ q,Dr n p g o xs q then some h.choose else none
theorem x_ {n p:Nat}{g:Dw}:∀ a o xs o' d,oI n p g o xs=some (o',d)→xs.length+1=p∧o'.flat=true∧∃ r,g (bh n p (.own o (some a)::xs))=some r∧iz a o' d r:=by
 intro a o xs o' d h
 unfold oI at h
 split at h
 ·rename_i hq
  obtain⟨h1,h2,h3⟩:=hq.choose_spec
  rw[Yq h] at h2 h3
  exact⟨h1,h2,h3 a⟩
 ·cases h
theorem kh {a:Addr}{o o':OD}{d d':D}{r:RES}(h:iz a o d r)(h':iz a o' d' r):(o,d)=(o',d'):=by
 cases r with
 | nx ρ=>obtain⟨h1,h2⟩:=h;obtain⟨h3,h4⟩:=h';rw[h1] at h3;cases h3;rw[h2,h4]
 | rt x ρ=>obtain⟨h1,h2⟩:=h;obtain⟨h3,h4⟩:=h';rw[h2] at h4;cases h4;rw[h1] at h3;cases h3;rfl
 | bk ρ=>cases h
 | ct ρ=>cases h
theorem qR {n p:Nat}{g:Dw}{o:OD}{xs:List DV}{o':OD}{d:D}(hl:xs.length+1=p)(hf:o'.flat=true)(h:∀ a,∃ r,g (bh n p (.own o (some a)::xs))=some r∧iz a o' d r):oI n p g o xs=some (o',d):=by
 have hq:∃ q,Dr n p g o xs q:=⟨(o',d),hl,hf,h⟩
 unfold oI
 rw[dif_pos hq]
 obtain⟨_,_,h3⟩:=hq.choose_spec
 obtain⟨r,e,q⟩:=h3 0
 obtain⟨r',e',q'⟩:=h 0
 rw[e'] at e
 cases e
 exact YN some (kh q q')
section
variable {X:Cx} {e:Expr} {pos:Pos}
end
end L2
namespace L2
open PySem PySem.Spec PySem.Calls PySem.W PyProof.Rows Builtin Builtin.ObjectAttr Builtin.Getset_descriptor
section
variable {K:Kq} {e C:Addr} {prog:Program} {w:World} {A:Around} {E:Kv} {s:Shared}
end
end L2
namespace L2
open PySem PySem.Spec PySem.Calls PySem.W PyProof.Rows
section
variable {P:Program} {w:World} {K:Kq} {mg:Ks} {base:Heap} {N:List Str} {qual:Str} {scope:Scope} {f C:Addr} {cd:Value} {A:Around} {outer:List Env} {s:Shared} {H:Hp} {E:XK}
end
section
variable {X:Cx} {a C:Addr} {ob:Obj} {pz:Kp} {σ:St} {H:Hp} {s:Shared}
end
section
variable {X:Cx} {a C:Addr} {ob:Obj} {pos p p1 p2 p3 p4:Pos}
end
section
variable {P:Program} {w:World} {K:Kq} {mg:Ks} {base:Heap} {N:List Str} {qual:Str} {scope:Scope} {f:Addr} {cl:Nat→Addr} {cd:Value} {A:Around} {outer:List Env} {s:Shared} {H:Hp} {E:XK}
end
section
variable {X:Cx} {cl:Nat→Addr} {E:XK} {st:Stmt} {aE sts:List Stmt} {pos:Pos}
end
end L2
namespace L2
open PySem PySem.Spec PyProof.Rows
section
variable {X:Cx} {e:Expr} {pos:Pos}
end
end L2
namespace L2
open PySem PySem.Spec PySem.Calls PySem.W PyProof.Rows PySem.Builtin PySem.Builtin.Str
section
variable {X:Cx} {pos:Pos}
end
end L2
namespace L2
open PySem PySem.Spec PySem.Calls PySem.W PyProof.Rows
section
variable {X:Cx} {e e':Expr} {k0 k1:_} {p0 p1 s0 s1:Pos}
end
section
variable {X:Cx} {k:Nat} {f C:Addr} {fd:FuncData} {ps:List Str} {mM:Dz} {x:Str} {p pos:Pos} {e0 e1:Expr}
end
section
variable {X:Cx} {a C A1 A2 A3:Addr} {ob:Obj} {pos:Pos} {ie it io:Nat} {er tn on c1 c2 c3:Str} {b1 b2 b3:Bool}
end
end L2
namespace L2
open PySem PySem.Spec PyProof.Rows
section
variable {X:Cx} {a b:Expr} {pos:Pos}
end
end L2
namespace L2
open PySem PySem.Spec PySem.Calls PySem.W PyProof.Rows
section
variable {X:Cx} {a b:Expr} {pos:Pos}
end
section
variable {X:Cx} {a C A1 A2:Addr} {ob:Obj} {pos:Pos} {ie it io:Nat} {er tn on c1 c2:Str} {b1 b2:Bool} {t t0 t1 t2 t3:Str}
end
end L2
namespace L2
open PySem PySem.Spec PyProof.Rows
def isI:D→Bool
 | .int _=>true
 | _=>false
def toI:D→Int
 | .int i=>i
 | _=>0
theorem hV {K:Kq}{F:Hp}:∀ {vs:List V} {ds:List D},Reps K F vs ds→ds.all isI=true→vs=(ds.map toI).map V.int:=by
 intro vs ds h
 refine Reps.ind (M:=fun vs ds=>ds.all isI=true→vs=(ds.map toI).map V.int) (fun _=>rfl) (fun {v d vs ds} r _ ih q=>?_) h
 rw[List.all_cons,Ys] at q
 cases d with
 | int i=>
  cases r
  rw[ih q.2]
  rfl
 | _=>cases q.1
section
variable {X:Cx} {e:Expr} {pos pos2 p p2:Pos}
end
def du:Stmt→Str
 | .FunctionDef n _ _ _ _ _ _ _ _ _=>n
 | _=>Str.empty
def bY (s:Stmt):List Str:=(defArgs s).args.map (·.arg)
def A8 {α:Type}:Nat→(List α→Prop)→Prop
 | 0,P=>P []
 | n+1,P=>∀ a,A8 n fun l=>P (a::l)
theorem wx {α:Type}:∀ {n:Nat} {P:List α→Prop},A8 n P→∀ us,us.length=n→P us
 | 0,_,h,us,e=>by rw[ZO.mp e];exact h
 | n+1,_,h,us,e=>by
  cases us with
  | nil=>cases e
  | cons a l=>exact wx (h a) l (Nat.succ.inj e)
def fnD (q:Str)(st:Stmt)(pm:Value)(c:Addr):FuncData:=PySem.W.fnOf (du st) q (defArgs st) (defBody st) (defScope st) .none .none .none pm none (.ref c) .none
def fO (q:Str)(st:Stmt)(pm:Value)(c:Addr):Obj:=⟨.type "function",none,.func (fnD q st pm c),#[]⟩
def DL (q:Str)(st:Stmt)(pm:Value)(c:Addr):Prop:=A8 (bY st).length fun us=>bindArgs (fnD q st pm c) ⟨us,[]⟩=pure ((bY st).zip us)
structure Df (K:PySem.W.Frag) (q:Str) (st:Stmt) (f:Addr) (d:FuncData):Prop where
 fn:Fun K (du st) q st f d
 bd:Binds K d (bY st) []
theorem CO {K:Kq}{q:Str}{st:Stmt}{pm:Value}{c f:Addr}(l:K.lookup f=some (fO q st pm c))(h:PySem.W.codeIn K (.ref c) q=true)(k:PySem.W.keepIn K (.ref f)=true)(b:DL q st pm c):Df K q st f (fnD q st pm c):=
 ⟨Aj l h k,.all (wx b)⟩
def sR (N P:List Str)(sc:Scope):Bool:=decide (sc.kind=.function)&&!sc.isCoroutine&&!sc.isGenerator&&decide N.Nodup&&decide (N.take P.length=P)&&(P.all fun x=>sc.names.lookup x == some .local||sc.names.lookup x == some .cell)&&sc.names.all fun y=>y.2 != .free
theorem scI (N:List Str){P:List Str}{sc:Scope}(h:sR N P sc=true:=by kernel_rfl):FnScope N P sc:=by
 unfold sR at h
 simp only[Ys,YB,Bool.not_eq_true',YG,Bool.or_eq_true,Xg,bne_iff_ne] at h
 obtain⟨⟨⟨⟨⟨⟨h1,h2⟩,h3⟩,h4⟩,h5⟩,h6⟩,h7⟩:=h
 exact⟨h1,h2,h3,h4,h5,h6,h7⟩
section
variable {P:Program} {w:World} {K:Kq} {mg:Ks} {base:Heap} {q:Str} {st:Stmt} {f:Addr} {fd:FuncData} {k:Nat} {g:Dw}
theorem Df.okI (F:Df K q st f fd) (N:List Str) (hb:∀ {cdv:Value} {A:Around} {outer:List Env} {s:Shared} {H:Hp} {E:XK},Room k (A.deeper (envOfC q (defScope st) s.heap.objs.size f cdv))→
      PDS (gG CX0 P w K mg base N q (defScope st) f cdv A outer s H E).nox (defBody st) g) (h:sR N (bY st) (defScope st)=true:=by kernel_rfl):FnOk P w K mg base CX0 (k+1) f fd (bY st) (spD K (mOf N.length (bY st).length g)):=
  F.fn.okD (scI N h) fun _ _ _ _ _ _ hr=>hb hr
theorem Df.okJ (F:Df K q st f fd) (N:List Str) (hb:∀ {cdv:Value} {A:Around} {outer:List Env} {s:Shared} {H:Hp} {E:XK},Room k (A.deeper (envOfC q (defScope st) s.heap.objs.size f cdv))→
      PDS (gG CX0 P w K mg base N q (defScope st) f cdv A outer s H E).nox (defBody st) g) (h:sR N (bY st) (defScope st)=true:=by kernel_rfl):FnOk P w K mg base CX0 (k+1) f fd (bY st) (spM K (oI N.length (bY st).length g)):=
  F.fn.okM (scI N h) x_ fun _ _ _ _ _ _ hr=>hb hr
end
section
variable {X:Cx} {x:Str} {pos:Pos} (i:Nat)
theorem ndI {N:List Str}(h:decide N.Nodup=true:=by kernel_rfl):N.Nodup:=YS h
section
variable (hN:X.N[i]?=some x:=by rfl) (hv:Vis X.env.scope x:=by first | exact Or.inl rfl | exact Or.inr (Or.inl rfl) | exact Or.inr (Or.inr rfl)) (hd:(x == ("__debug__":Str))=false:=by decide) (hcd:(x == ("__classdict__":Str))=false:=by decide)
include hN hv hd hcd
theorem ap:PDE X (.Name x pos) (getV i):=A9 i (pv i hN hv hd hcd)
theorem aF:PDR X (.Name x pos) (al i):=AH i (pv i hN hv hd hcd)
theorem bw:PDN X (.Name x pos) (ao i):=Bb i (pv i hN hv hd hcd)
theorem oQ:pS X (.Name x pos) (fq i):=xF i (pv i hN hv hd hcd)
theorem pL {tg:Expr}:PDI X tg (.Name x pos) (fE i):=yx i (pv i hN hv hd hcd)
end
theorem oW {es:List Expr}{g:Dv}(hr:gH X es g)(hN:X.N[i]?=some x:=by rfl)(hv:Vis X.env.scope x:=by first | exact Or.inl rfl | exact Or.inr (Or.inl rfl) | exact Or.inr (Or.inr rfl))(hd:(x == ("__debug__":Str))=false:=by decide)(hcd:(x == ("__classdict__":Str))=false:=by decide)
  (hs:starEach (.Name x pos::es) X.env=(false,eval (.Name x pos) X.env)::starEach es X.env:=by rfl):gH X (.Name x pos::es) (aB i g):=CB i (pv i hN hv hd hcd) hr hs
section
variable {e:Expr} {pos':Pos} {f:Dd} {fo:Do}
theorem cG (he:PDE X e f)(hi:X.N[i]?=some x:=by rfl)(hx:Loc X.env.scope x:=by first | exact .inl rfl | exact .inr rfl)(hs:swapsWith e (some (.Name x pos')) pos.line X.env=pure false:=by rfl)(hf:X.fn x=true∨X.env.scope.names.lookup x=some .local:=by first | exact .inl rfl | exact .inr rfl | assumption)(hN:decide X.N.Nodup=true:=by kernel_rfl) :
  PD1 X (.Assign [.Name x pos'] e pos) (aZ i f):=Bx (ndI hN) hi hx he hs hf
theorem sS (he:PDO X e fo)(hi:X.N[i]?=some x:=by rfl)(hx:Loc X.env.scope x:=by first | exact .inl rfl | exact .inr rfl)(hs:swapsWith e (some (.Name x pos')) pos.line X.env=pure false:=by rfl)(hf:X.fn x=true∨X.env.scope.names.lookup x=some .local:=by first | exact .inl rfl | exact .inr rfl | assumption)(hN:decide X.N.Nodup=true:=by kernel_rfl) :
  PD1 X (.Assign [.Name x pos'] e pos) (dg i fo):=p7 (ndI hN) hi hx he hs hf
end
theorem jL (hi:X.N[i]?=some x:=by rfl)(hx:Loc X.env.scope x:=by first | exact .inl rfl | exact .inr rfl)(hf:X.fn x=true∨X.env.scope.names.lookup x=some .local:=by first | exact .inl rfl | exact .inr rfl | assumption)(hN:decide X.N.Nodup=true:=by kernel_rfl):PDG X (.Name x pos) [i] (setV i):=vA (ndI hN) hi hx hf
theorem pgI (hi:X.N[i]?=some x:=by rfl)(hx:Loc X.env.scope x:=by first | exact .inl rfl | exact .inr rfl)(hf:X.fn x=true∨X.env.scope.names.lookup x=some .local:=by first | exact .inl rfl | exact .inr rfl | assumption)(hN:decide X.N.Nodup=true:=by kernel_rfl):PG X (.Name x pos) (kb i):=rb (ndI hN) hi hx hf
end
section
variable {X:Cx} {elt tg iter:Expr} {ifs:List Expr} {scope:Scope} {pos:Pos} {f:Dl} {st:Dq} {c:Dk} {e:Dd} {y:Str} {py spos:Pos} (i:Nat) (N:List Str) (own:Nat) (ix is:List Nat) (hi:PDI X tg iter f)
  (hg:∀ {s H fp pz},PDG (blk X scope N s H fp pz) tg is st) (hc:∀ {s H fp pz},rR (blk X scope N s H fp pz) ifs (tB' X.K c)) (he:∀ {s H fp pz},PDE (blk X scope N s H fp pz) elt e)
section
variable (hcalm:X.calm=true:=by rfl) (b:yz X.env.scope scope=true:=by kernel_rfl) (cp:xQ X.N scope N own ix=true:=by kernel_rfl) (his:(is.all fun j=>decide (j < own))=true:=by kernel_rfl) (hnames:decide (∀ y∈scope.names,y.2=.local→scope.names.lookup y.1=some .local)=true:=by kernel_rfl)
  (hs:∀ x,foldedSetIterable iter X.env x=pure x:=by intro _;rfl)
include hi hg hc he hcalm b cp his hnames hs
theorem tu:PDO X (.ListComp elt [⟨tg,iter,ifs,0⟩] scope pos) (asL (dw own ix f st c e)):=
 ui hcalm (Cd _ rfl b) (DH _ rfl cp) (AS his) hi (fun _ _ _ _=>hg) (fun _ _ _ _=>hc) (fun _ _ _ _=>he) (YS hnames) hs
end
section
variable (hiN:X.N[i]?=some y:=by rfl) (hx:Loc X.env.scope y:=by first | exact .inl rfl | exact .inr rfl) (hN:decide X.N.Nodup=true:=by kernel_rfl) (hcalm:X.calm=true:=by rfl) (b:yz X.env.scope scope=true:=by kernel_rfl) (cp:xQ X.N scope N own ix=true:=by kernel_rfl) (his:(is.all fun j=>decide (j < own))=true:=by kernel_rfl) (hnames:decide (∀ y∈scope.names,y.2=.local→scope.names.lookup y.1=some .local)=true:=by kernel_rfl)
  (hsw:swapsWith (.ListComp elt [⟨tg,iter,ifs,0⟩] scope pos) (some (.Name y py)) spos.line X.env=pure true:=by rfl)
  (hs:∀ x,foldedSetIterable iter X.env x=pure x:=by intro _;rfl) (hf:X.fn y=true∨X.env.scope.names.lookup y=some .local:=by first | exact .inl rfl | exact .inr rfl | assumption)
include hf hiN hx hN hi hg hc he hcalm b cp his hnames hs hsw
end
end
section
variable {X:Cx} {k k':Nat} {f:Addr} {fd:FuncData} {q:Str} {sd:Stmt} {m:Dm} {g:Dv} {x:Str} {p pos:Pos} {e:Expr} {es:List Expr}
theorem pcI (G:FnOk X.prog X.w X.K X.mg X.base CX0 k f fd (bY sd) (spD X.K m))(D:Df X.K q sd f fd∧X.mg (du sd)=some (.ref f))(hr:Room k' X.A)(ha:gH X (e::es) g)(hx:du sd=x:=by rfl)(hk:k≤k':=by decide)(hg:Gl X x:=by rfl)
  (hd:(x == ("__debug__":Str))=false:=by decide) (he:starEach (e::es) X.env=(false,eval e X.env)::starEach es X.env:=by rfl) (hpl:(backTo pos (starEach es X.env)).any (·.1)=false:=by rfl):PDE X (.Call (.Name x p) (e::es) [] pos) (bJ m g):=
 xW G (hr.mono hk) hg (hx ▸ D.2) D.1.fn.kp D.1.bd ha hd he hpl
theorem poI (G:FnOk X.prog X.w X.K X.mg X.base CX0 k f fd (bY sd) (spD X.K m))(D:Df X.K q sd f fd∧X.mg (du sd)=some (.ref f))(hr:Room k' X.A)(ha:gH X (e::es) g)(hx:du sd=x:=by rfl)(hk:k≤k':=by decide)(hg:Gl X x:=by rfl)
  (hd:(x == ("__debug__":Str))=false:=by decide) (he:starEach (e::es) X.env=(false,eval e X.env)::starEach es X.env:=by rfl) (hpl:(backTo pos (starEach es X.env)).any (·.1)=false:=by rfl):PDO X (.Call (.Name x p) (e::es) [] pos) (kF m g):=
 vj G (hr.mono hk) hg (hx ▸ D.2) D.1.fn.kp D.1.bd ha hd he hpl
end
theorem pfI {X:Cx}{tg iter:Expr}{pos:Pos}{body:List Stmt}{f:Dl}{is:List Nat}{st:Dq}{g:Dw}(hi:PDI X tg iter f)(hg:PDG X tg is st)(hb:PDS X body g)(hp:PassesOwn (model X.prog X.w) X.A X.env X.xe:=by exact ZL)(hc:X.calm=true:=by rfl)
  (hs:∀ x,foldedSetIterable iter X.env x=pure x:=by intro _;rfl):PD1 X (.For tg iter body [] pos) (gj f st g):=zS hp hc hi hg hb hs
structure Rw where
 (i a m t h c:Nat)
def lno:Stmt→Int
 | .FunctionDef _ _ _ _ _ _ _ _ _ p=>p.line
 | _=>0
def kE (P:Params)(x:Str)(t:Nat)(v:Value):DictEntry:=⟨PyData.keyHash P x,.str x t,v⟩
def cO (n q:Str)(t:Nat)(l a:Int)(r:Nat)(c:Bool)(h:Nat)(f:Int):Obj:={ cls:=.type "code",data:=.fields #[.str n t,.str q (t+1),.str "/claim/cut.py" (t+2),.int l 0,.int a 0,.int 0 0,.int 0 0,.int 3 0,.ref r,.bool true,.int f 0,.ref (r+1),.none,if c then .ref (r+2) else .none,if c then .ref (r+3) else .none,.ref (if c then r+4 else r+2),.int h 0,.int l 0,.str "/claim/cut.py" (h+1)] }
abbrev DX:=DF→Option (D×DF)
def tX (K:Kq)(f:DX):TE:=fun σ H Q=>∃ P F ρ r,f ρ=some r∧DInv K P F H ρ σ∧∀ v F' H',Same F F'→DInv K P F' H' r.2 σ→Rep K F' v r.1→Q v H'
def PX (X:Cx)(e:Expr)(f:DX):Prop:=PE X e (tX X.K f)
def ag (f:Dd):DX:=fun ρ=>(f ρ).map (·,ρ)
theorem ax {α β:Type}{o:Option α}{f:α→β}{b:β}(h:o.map f=some b):∃ a,o=some a∧b=f a:=by
 obtain⟨a,h1,h2⟩:=Option.map_eq_some_iff.mp h
 exact⟨a,h1,h2.symm⟩
section
variable {X:Cx} {e:Expr} {pos:Pos} {f:DX}
theorem am {g:Dd}(h:PDE X e g):PX X e (ag g):=PE.imp h fun σ H Q=>un7 fun P F ρ r hr I k=>by
 obtain⟨d,q,rfl⟩:=ax hr
 exact⟨P,F,ρ,d,q,I,fun v F' H' ev rv=>k v F' H' ev.ext (I.evo ev) rv⟩
def aS (i:Nat)(f:DX):DF→Option RES:=fun ρ=>(f ρ).map fun r=>.nx (r.2.set i (some (.v r.1)))
theorem em (i:Nat){x:Str}{pos':Pos}(he:PX X e f)(hi:X.N[i]?=some x:=by rfl)(hx:Loc X.env.scope x:=by first | exact .inl rfl | exact .inr rfl)(hs:swapsWith e (some (.Name x pos')) pos.line X.env=pure false:=by rfl)(hf:X.fn x=true∨X.env.scope.names.lookup x=some .local:=by first | exact .inl rfl | exact .inr rfl | assumption)(hN:decide X.N.Nodup=true:=by kernel_rfl) :
  PD1 X (.Assign [.Name x pos'] e pos) (aS i f):=PS.imp (oX (ndI hN) hi hx he hs hf) fun E σ H=>un7 fun P F ρ r hg I k=>by
 obtain⟨d,q,rfl⟩:=ax hg
 exact⟨P,F,ρ,d,q,I,fun v F' H' ev I' rv=>k _ F' H' ev (I'.setV i rv)⟩
def dC (f:DX):DF→Option RES:=fun ρ=>(f ρ).map fun r=>.rt (.v r.1) r.2
theorem gu (h:PX X e f):PD1 X (.Return (some e) pos) (dC f):=PS.imp (mQ h) fun E σ H=>un7 fun P F ρ r hg I k=>by
 obtain⟨d,q,rfl⟩:=ax hg
 exact⟨P,F,ρ,d,q,I,fun v F' H' ev I' rv=>k v σ F' H' ev I' rv⟩
def bB (f:DX):DF→Option RES:=fun ρ=>(f ρ).map fun r=>.nx r.2
theorem cT (h:PX X e f)(hs:swapsWith e none pos.line X.env=pure false:=by rfl):PD1 X (.Expr e pos) (bB f):=PS.imp (c_ h hs) fun E σ H=>un7 fun P F ρ r hg I k=>by
 obtain⟨d,q,rfl⟩:=ax hg
 exact⟨P,F,ρ,d,q,I,fun v F' H' ev I' _=>k σ F' H' ev I'⟩
end
def spO (K:Kq)(f:Dz):Sp:=fun vs H Q _=>∃ P F a vs' o xs o' d,vs=.ref a::vs'∧f o xs=some (o',d)∧DHp P F H∧ORep K F H (fun b=>F b=none∧P b=none) o a∧DVs K P F H xs vs' ∧
 ∀ v F' H',Same F F'→DHp P F' H'→ORep K F' H' (fun b=>F' b=none∧P b=none) o' a→Rep K F' v d→Q v H'
def Bd (n p:Nat)(g:Dw)(o:OD)(xs:List DV)(q:OD×D):Prop:=xs.length+1=p∧∀ a,∃ r,g (bh n p (.own o (some a)::xs))=some r∧iz a q.1 q.2 r
noncomputable def eW (n p:Nat)(g:Dw)(o:OD)(xs:List DV):Option (OD×D):=
 open Classical in if h:∃ q,Bd n p g o xs q then some h.choose else none
theorem qD {n p:Nat}{g:Dw}{o:OD}{xs:List DV}{q:OD×D}(h:eW n p g o xs=some q):Bd n p g o xs q:=by
 unfold eW at h
 split at h
 ·rename_i hq
  rw[← Yq h]
  exact hq.choose_spec
 ·cases h
theorem bT {n p:Nat}{g:Dw}{o o':OD}{xs:List DV}{d:D}(hl:xs.length+1=p)(h:∀ a,∃ r,g (bh n p (.own o (some a)::xs))=some r∧iz a o' d r):eW n p g o xs=some (o',d):=by
 have hq:∃ q,Bd n p g o xs q:=⟨(o',d),hl,h⟩
 unfold eW
 rw[dif_pos hq]
 obtain⟨_,h3⟩:=hq.choose_spec
 obtain⟨r,e,q⟩:=h3 0
 obtain⟨r',e',q'⟩:=h 0
 rw[e'] at e
 cases e
 exact YN some (kh q q')
theorem DInv.startO {K:Kq}{P F H:Hp}{xs:List DV}{vs:List V}{a:Addr}{o:OD}(N:List Str)(p:Nat)(h:DHp P F H)(ho:ORep K F H (fun b=>F b=none∧P b=none) o a)(r:DVs K P F H xs vs)(hl:xs.length+1=p) :
  DInv K P F H (bh N.length p (.own o (some a)::xs)) (L2.start N (.ref a::vs)):=by
 refine⟨h,?_,fun _=>some 0,fun i x e=>?_⟩
 ·unfold bh L2.start
  rw[Yc,Yc,Yb,Yb,Yw,Yw,Yg,Yg,← r.length,hl]
 ·have e':=eR e
  cases i with
  | zero=>
   cases e'
   exact⟨.ref a,c7 (i:=0) rfl,a,rfl,ho.mono (Same.refl _) fun b u q hb=>⟨hb,q.1,q.2,rfl⟩,fun b z=>by cases z;rfl⟩
  | succ i=>
   obtain⟨hno,v,h1,h2⟩:=r.get (i:=i) (x:=x) e'
   refine⟨v,c7 (i:=i+1) (by simpa using h1),?_⟩
   cases x with
   | own o t=>cases hno
   | v d=>exact h2
   | bor o=>exact h2
theorem Fun.okO {P:Program}{w:World}{K:Kq}{mg:Ks}{base:Heap}{x qual:Str}{st:Stmt}{f:Addr}{fd:FuncData}{N ps:List Str}{k:Nat}{g:Dw}(F:Fun K x qual st f fd)(S:FnScope N ps (defScope st))
  (hbody:∀ {cdv:Value} {A:Around} {outer:List Env} {s:Shared} {H:Hp} {E:XK},Room k (A.deeper (envOfC qual (defScope st) s.heap.objs.size f cdv))→
   PDS (gG CX0 P w K mg base N qual (defScope st) f cdv A outer s H E).nox (defBody st) g):FnOk P w K mg base CX0 (k+1) f fd ps (spO K (eW N.length ps.length g)):=by
 refine F.ok S (fun vs H Q E hh_=>?_) fun cdv A outer s H vs Q E hr h=>?_
 ·obtain⟨P',F',a,vs',o,xs,o',d,e,h1,_,_,hv,_⟩:=hh_
  rw[e,Yg,← hv.length];exact (qD h1).1
 ·refine⟨_,hbody hr,?_⟩
  obtain⟨P',F',a,vs',o,xs,o',d,rfl,h1,hp,ho,hv,hQ⟩:=h
  obtain⟨hl,hq⟩:=qD h1
  obtain⟨r,hg,he⟩:=hq a
  have I:=DInv.startO N ps.length hp ho hv hl
  refine⟨P',F',_,r,hg,I,?_⟩
  have fin:∀ (ρ:DF) (σ:St) (F2 H2:Hp) (v:V),ρ[0]?=some (some (.own o' (some a)))→Same F' F2→DInv K P' F2 H2 ρ σ→Rep K F2 v d→Q v H2:=fun ρ σ F2 H2 v h0 e I2 rv=>by
   obtain⟨v',_,a',rfl,h3,h4⟩:=I2.at h0
   have ea:=h4 a rfl
   subst ea
   exact hQ v F2 H2 e I2.toDHp (h3.mono (Same.refl _) fun b u q hb=>⟨hb,q.1,q.2.1⟩) rv
  cases r with
  | nx ρ=>(obtain⟨h0,rfl⟩:=he;exact fun σ F2 H2 e I2=>fin ρ σ F2 H2 .non h0 e I2 .non)
  | rt x ρ=>(obtain⟨rfl,h0⟩:=he;exact fun v σ F2 H2 e I2 rv=>fin ρ σ F2 H2 v h0 e I2 rv)
  | bk ρ=>exact he.elim
  | ct ρ=>exact he.elim
theorem Df.okO {P:Program} {w:World} {K:Kq} {mg:Ks} {base:Heap} {q:Str} {st:Stmt} {f:Addr} {fd:FuncData} {k:Nat} {g:Dw} (F:Df K q st f fd) (N:List Str) (hb:∀ {cdv:Value} {A:Around} {outer:List Env} {s:Shared} {H:Hp} {E:XK},Room k (A.deeper (envOfC q (defScope st) s.heap.objs.size f cdv))→
      PDS (gG CX0 P w K mg base N q (defScope st) f cdv A outer s H E).nox (defBody st) g) (h:sR N (bY st) (defScope st)=true:=by kernel_rfl):FnOk P w K mg base CX0 (k+1) f fd (bY st) (spO K (eW N.length (bY st).length g)):=
  F.fn.okO (scI N h) hb
noncomputable def gdS (F H:Hp)(S:Addr→Prop):Hp:=fun b=>open Classical in if S b then none else gd F H b
theorem fG {F H:Hp}{S:Addr→Prop}{b:Addr}{o:HO}:gdS F H S b=some o↔¬ S b∧F b=none∧H b=some o:=by
 unfold gdS
 by_cases h:S b
 ·rw[Yh h];simp[h]
 ·rw[Yr h,fu];simp[h]
theorem uF {F H:Hp}(s:Same F H)(S:Addr→Prop):DHp (gdS F H S) F H:=⟨s,fun b o e=>(fG.mp e).2.2,fun b o e=>(fG.mp e).2.1⟩
theorem DInv.hand {K:Kq}{P F H:Hp}{ρ:DF}{σ:St}{i:Nat}{o:OD}{t:Option Addr}(I:DInv K P F H ρ σ)(hi:ρ[i]?=some (some (.own o t))) :
  ∃ (a:Addr) (S:Addr→Prop),σ[i]?=some (some (.ref a))∧ORep K F H (fun b=>F b=none∧gdS F H S b=none) o a∧DHp (gdS F H S) F H ∧
   ∀ {F2 H2:Hp} {o':OD},Same F F2→DHp (gdS F H S) F2 H2→ORep K F2 H2 (fun b=>F2 b=none∧gdS F H S b=none) o' a→DInv K P F2 H2 (ρ.set i (some (.own o' t))) σ:=by
 obtain⟨O,hR⟩:=I.rep
 obtain⟨v,h1,a,rfl,h2,ht⟩:=hR i _ hi
 refine⟨a,fun b=>O b=some i∧P b=none,h1,h2.mono (Same.refl _) fun b u q hb=>⟨hb,q.1,?_⟩,uF I.sub _,fun {F2 H2 o'} e2 hp2 ho=>?_⟩
 ·unfold gdS
  exact Yh ⟨q.2.2,q.2.1⟩
 ·have keep:∀ b u,¬ (O b=some i∧P b=none)→F b=none→H b=some u→H2 b=some u∧F2 b=none:=fun b u hb n q=>⟨hp2.pro b u (fG.mpr ⟨hb,n,q⟩),hp2.dis b u (fG.mpr ⟨hb,n,q⟩)⟩
  have kp:∀ b u,P b=some u→H2 b=some u∧F2 b=none:=fun b u q=>keep b u (fun z=>by rw[z.2] at q;cases q) (I.dis b u q) (I.pro b u q)
  refine⟨⟨hp2.sub,fun b u q=>(kp b u q).1,fun b u q=>(kp b u q).2⟩,by rw[YZ];exact I.len,fun b=>open Classical in if H b=none then some i else O b,fun j z hj=>?_⟩
  rcases dN hj with⟨rfl,e,hl⟩ | ⟨hij,hj'⟩
  ·cases e
   refine⟨_,h1,a,rfl,ho.mono (Same.refl _) fun b u q hb=>⟨hb,q.1,?_⟩,ht⟩
   have n:F b=none:=by
    cases c:F b with
    | none=>rfl
    | some w=>have:=e2 b w c;rw[q.1] at this;cases this
   cases c:H b with
   | none=>exact⟨I.pro.free c,Yh c⟩
   | some w=>
    by_cases s:O b=some i∧P b=none
    ·exact⟨s.2,(Yr (by rw[c];simp)).trans s.1⟩
    ·have:=(fG (S:=fun b=>O b=some i∧P b=none)).mpr ⟨s,n,c⟩
     rw[q.2] at this
     cases this
  ·obtain⟨w,e1,e3⟩:=hR j z hj'
   refine⟨w,e1,?_⟩
   cases z with
   | v d'=>exact Rep.same e2 e3
   | own od t'=>
    obtain⟨c,rfl,e4,ht'⟩:=e3
    refine⟨c,rfl,e4.mono e2 fun b w' q hb=>?_,ht'⟩
    obtain⟨k1,k2⟩:=keep b w' (fun z=>by rw[q.2.2] at z;exact hij (Yq z.1).symm) q.1 hb
    exact⟨k1,k2,q.2.1,(Yr (by rw[hb];simp)).trans q.2.2⟩
   | bor od=>(obtain⟨c,rfl,e4⟩:=e3;exact⟨c,rfl,e4.mono e2 fun b u q hb=>⟨hb,q⟩⟩)
def cC (C:Addr)(mn:Str)(i:Nat)(m:Dz)(g:Dv):DX:=fun ρ=>match ρ[i]? with
 | some (some (.own (.obj (some C') fs) t))=>if C'=C∧fs.lookup mn=none then (g ρ).bind fun xs=>if li xs=true then (m (.obj (some C') fs) xs).map fun r=>(r.2,ρ.set i (some (.own r.1 t))) else none else none
 | _=>none
theorem Bs {K:Kq}{F H:Hp}{ow:Addr→Prop}{C a:Addr}{fs:List (Str×FO)}(h:ORep K F H ow (.obj (some C) fs) a):∃ dx vs,H a=some (.ins C dx vs)∧All2 (fun (p:Str×V) (q:Str×FO)=>p.1=q.1∧FRep K F H ow q.2 p.2) vs fs:=by
 obtain⟨_,dx,vs,h2,_,h4⟩:=h
 exact⟨dx,vs,h2,h4⟩
theorem cD {K:Kq}{F H:Hp}{ow:Addr→Prop}{n:Str}{vs:List (Str×V)}{fs:List (Str×FO)}(h:All2 (fun (p:Str×V) (q:Str×FO)=>p.1=q.1∧FRep K F H ow q.2 p.2) vs fs):(fs.lookup n=none→vs.lookup n=none)∧∀ o,fs.lookup n=some o→∃ v,vs.lookup n=some v∧FRep K F H ow o v:=by
 induction h with
 | nil=>exact⟨fun _=>rfl,fun _ e=>by cases e⟩
 | @cons p q _ _ h _ ih=>
  obtain⟨x,v⟩:=p
  obtain⟨y,o⟩:=q
  obtain⟨e,r⟩:=h
  cases e
  simp only[aK]
  by_cases e:n=x
  ·rw[Yh e,Yh e];exact⟨fun z=>by (cases z),fun o' z=>by (cases z;exact⟨v,rfl,r⟩)⟩
  ·rw[Yr e,Yr e];exact ih
theorem ArgsS.vals {K:Kq}{P' F H:Hp}{ρ:DF}{σ:St}:∀ {xs:List DV} {vs:List V},ArgsS K ρ σ F xs vs→(∀ x∈xs,∃ d,x=.v d)→DVs K P' F H xs vs:=by
 intro xs vs h
 induction h with
 | nil=>exact fun _=>.nil
 | v h _ ih=>exact fun hx=>.cons rfl h (ih fun x m=>hx x (Yd _ m))
 | b j h1 h2 _ ih=>
  intro hx
  obtain⟨d,e⟩:=hx _ Yf
  cases e
section
variable {X:Cx} {k k':Nat} {f C:Addr} {fd:FuncData} {ps:List Str} {mM:Dz} {x mn:Str} {p pos apos:Pos} {e o:Expr} {es:List Expr} {g:Dv}
theorem wI {K:Kq}{i:Nat}{E:XK}:∀ σ H Q,tX K (cC C mn i mM g) σ H Q→jt C mn (spO K mM) [] E (ce i) (tLV K g) σ H Q:=fun σ H Q=>un7 fun P F ρ r hf I k=>by
 unfold cC at hf
 split at hf
 ·rename_i C' fs t q
  split at hf
  ·rename_i hC
   obtain⟨rfl,hn⟩:=hC
   obtain⟨xs,q2,hf⟩:=Ye.mp hf
   split at hf
   ·rename_i av
    obtain⟨res,q3,rfl⟩:=ax hf
    obtain⟨a,S,h1,h2,hp,back⟩:=I.hand q
    obtain⟨dx,vs,h3,h4⟩:=Bs h2
    refine⟨_,h1,a,dx,vs,rfl,h3,(cD h4).1 hn,P,F,ρ,xs,q2,I,fun us F1 H1 e1 r1=>?_⟩
    obtain⟨a1,S1,g1,g2,gp,back1⟩:=(I.evo e1).hand q
    rw[h1] at g1
    cases g1
    refine⟨gdS F1 H1 S1,F1,a,us,.obj (some C') fs,xs,res.1,res.2,by simp,q3,gp,g2,r1.vals (uw av),fun v F2 H2 e2 hp2 ho rv=>?_⟩
    exact k v F2 H2 (e1.ext.trans e2) (back1 e2 hp2 ho) rv
   ·cases hf
  ·cases hf
 ·cases hf
theorem vO {K:Kq}{i:Nat}{E:XK}:∀ σ H Q,tX K (cC C mn i mM g0) σ H Q→jt C mn (spO K mM) [] E (ce i) oN σ H Q:=fun σ H Q h=>by
 obtain⟨v,h1,a,dx,fs,rfl,h3,h4,P,F,ρ,xs,q2,I,h5⟩:=wI (E:=E) σ H Q h
 cases q2
 exact⟨_,h1,a,dx,fs,rfl,h3,h4,h5 [] F H (Evo.refl I.toDHp) .nil⟩
theorem og (i:Nat){pl:Sem Bool}(c:Cls X.K C)(hm:Meth X.K C mn f)(G:FnOk X.prog X.w X.K X.mg X.base CX0 k f fd ps (spO X.K mM))(hr:Room k' X.A)(hb:Binds X.K fd ps [])(he:PE X o (ce i))(hk:k≤k':=by decide)
  (ht:eval (.Call (.Attribute o mn apos) [] [] pos) X.env=(do
   let ov ← eval o X.env
   standAt apos.atName
   let (f,first) ← holding [ov] (getMethod ov mn pl)
   callWith pos f first (backTo pos (starEach [] X.env)) (backToKw pos (keywordEach [] X.env))):=by rfl):PX X (.Call (.Attribute o mn apos) [] [] pos) (cC C mn i mM g0):=
 (nW he c hm G (hr.mono hk) hb .nil gX ht).imp vO
end
def dH (n:Str)(o:FO):List (Str×FO)→List (Str×FO)
 | []=>[(n,o)]
 | (m,x)::r=>if m=n then (m,o)::r else (m,x)::dH n o r
abbrev Kids (K:Kq)(F H:Hp)(ow:Addr→Prop)(vs:List (Str×V))(fs:List (Str×FO)):Prop:=All2 (fun (p:Str×V) (q:Str×FO)=>p.1=q.1∧FRep K F H ow q.2 p.2) vs fs
def FO.own:FO→Bool
 | .d _=>false
 | _=>true
section
variable {K:Kq} {F H H':Hp} {ow:Addr→Prop} {n:Str} {vs:List (Str×V)} {fs:List (Str×FO)} {o o':FO} {v:V} {b:Addr} {u:HO}
theorem FRep.keep (h:FRep K F H ow o v)(k:∀ c∈jZ o v,H' c=H c):FRep K F H' ow o v:=by
 cases o with
 | d x=>exact h
 | lst ds=>obtain⟨c,rfl,h1,w,h2,h3⟩:=h;exact⟨c,rfl,h1,w,(k c (Zz c)).trans h2,h3⟩
 | dK ds=>obtain⟨c,rfl,h1,w,h2,h3⟩:=h;exact⟨c,rfl,h1,w,(k c (Zz c)).trans h2,h3⟩
theorem bE (p:Str×V)(q:Str×FO)(vs:List (Str×V))(fs:List (Str×FO)):cX (p::vs) (q::fs)=jZ q.2 p.2++cX vs fs:=rfl
theorem Kids.keep (h:Kids K F H ow vs fs):(∀ c∈cX vs fs,H' c=H c)→Kids K F H' ow vs fs:=by
 induction h with
 | nil=>exact fun _=>.nil
 | cons r _ ih=>
  intro k
  rw[bE] at k
  exact .cons ⟨r.1,r.2.keep fun c m=>k c (Xc _ m)⟩ (ih fun c m=>k c (YT _ m))
theorem Kids.mem (h:Kids K F H ow vs fs):fs.lookup n=some o→vs.lookup n=some v→∀ c∈jZ o v,c∈cX vs fs:=by
 induction h with
 | nil=>exact fun e=>by cases e
 | @cons p q _ _ r _ ih=>
  obtain⟨x,w⟩:=p
  obtain⟨y,z⟩:=q
  obtain⟨e,r⟩:=r
  cases e
  intro h1 h2 c m
  rw[aK] at h1 h2
  rw[bE]
  by_cases e:n=x
  ·rw[Yh e] at h1 h2;cases h1;cases h2;exact Xc _ m
  ·rw[Yr e] at h1 h2;exact YT _ (ih h1 h2 c m)
theorem Kids.upd (h:Kids K F H ow vs fs):(cX vs fs).Nodup→fs.lookup n=some o→o.own=true→vs.lookup n=some (.ref b)→FRep K F (upd H b u) ow o' (.ref b)→o'.own=true→Kids K F (L2.upd H b u) ow vs (dH n o' fs)∧cX vs (dH n o' fs)=cX vs fs:=by
 have ad:∀ {o:FO},o.own=true→jZ o (.ref b)=[b]:=fun {o} z=>by cases o <;> first | rfl | cases z
 induction h with
 | nil=>exact fun _ e=>by cases e
 | @cons p q vs fs r t ih=>
  obtain⟨x,w⟩:=p
  obtain⟨y,z⟩:=q
  obtain⟨e,r⟩:=r
  cases e
  intro nd h1 ho h2 hn hw
  rw[aK] at h1 h2
  rw[bE] at nd ⊢
  unfold dH
  by_cases e:n=x
  ·rw[Yh e] at h1 h2;cases h1;cases h2
   rw[Yh e.symm,bE]
   rw[ad ho] at nd ⊢
   rw[ad hw]
   exact⟨.cons ⟨rfl,hn⟩ (Kids.keep t fun c m=>ay fun z=>by subst z;exact (YD.mp nd).1 m),rfl⟩
  ·rw[Yr e] at h1 h2
   rw[Yr fun z=>e z.symm,bE]
   obtain⟨k1,k2⟩:=ih (YJ.mp nd).2.1 h1 ho h2 hn hw
   have m:=Kids.mem t h1 h2 b (by rw[ad ho];exact Zz b)
   exact⟨.cons ⟨rfl,r.keep fun c m'=>ay fun z=>by subst z;exact (YJ.mp nd).2.2 _ m' _ m rfl⟩ k1,by rw[k2]⟩
theorem Kids.put {d d':D}{v':V}(h:Kids K F H ow vs fs):fs.lookup n=some (.d d)→Rep K F v' d'→Kids K F H ow (cu n v' vs) (dH n (.d d') fs)∧cX (cu n v' vs) (dH n (.d d') fs)=cX vs fs:=by
 induction h with
 | nil=>exact fun e=>by cases e
 | @cons p q vs fs r t ih=>
  obtain⟨x,w⟩:=p
  obtain⟨y,z⟩:=q
  obtain⟨e,r⟩:=r
  cases e
  intro h1 rv
  rw[aK] at h1
  unfold cu dH
  by_cases e:n=x
  ·rw[Yh e] at h1;cases h1
   rw[Yh e.symm,Yh e.symm]
   exact⟨.cons ⟨rfl,rv⟩ t,rfl⟩
  ·rw[Yr e] at h1
   rw[Yr fun z=>e z.symm,Yr fun z=>e z.symm,bE,bE]
   obtain⟨k1,k2⟩:=ih h1 rv
   exact⟨.cons ⟨rfl,r⟩ k1,by rw[k2]⟩
end
section
variable {K:Kq} {P F H:Hp} {ρ:DF} {σ:St} {i:Nat} {C:Option Addr} {fs:List (Str×FO)} {t:Option Addr} {n:Str}
theorem DInv.one (I:DInv K P F H ρ σ){b:Addr}{u:HO}{o o':OD}(hi:ρ[i]?=some (some (.own o t)))(O:Addr→Option Nat)(hR:∀ (j:Nat) (x:DV),ρ[j]?=some (some x)→∃ v,σ[j]?=some (some v)∧DVRep K P F H (fun c=>O c=some j) x v)
  (hf:F b=none) (hp:P b=none) (hO:O b=some i) {a:Addr} (ha:σ[i]?=some (some (.ref a))) (ho:ORep K F (upd H b u) (fun c=>F c=none∧P c=none∧O c=some i) o' a):DInv K P F (upd H b u) (ρ.set i (some (.own o' t))) σ:=by
 refine⟨⟨fun c w q=>?_,fun c w q=>?_,I.dis⟩,by rw[YZ];exact I.len,O,fun j z hj=>?_⟩
 ·rw[ay fun z=>by subst z;rw[hf] at q;cases q];exact I.sub c w q
 ·rw[ay fun z=>by subst z;rw[hp] at q;cases q];exact I.pro c w q
 ·rcases dN hj with⟨rfl,e,hl⟩ | ⟨hij,hj'⟩
  ·cases e
   obtain⟨v,h1,a',rfl,h2,ht⟩:=hR i _ hi
   rw[ha] at h1;cases h1
   exact⟨_,ha,a,rfl,ho,ht⟩
  ·obtain⟨w,e1,e3⟩:=hR j z hj'
   refine⟨w,e1,?_⟩
   cases z with
   | v d=>exact e3
   | own od t'=>
    obtain⟨c,rfl,e4,ht'⟩:=e3
    exact⟨c,rfl,e4.mono (Same.refl _) fun c' w' q hb=>⟨by rw[ay fun z=>by subst z;rw[q.2.2] at hO;exact hij (Yq hO).symm];exact hb,q⟩,ht'⟩
   | bor od=>exact e3
theorem DInv.kid (I:DInv K P F H ρ σ)(hi:ρ[i]?=some (some (.own (.obj C fs) t))){o:FO}(ho:o.own=true)(hn:fs.lookup n=some o) :
  ∃ a dx vs b,σ[i]?=some (some (.ref a))∧H a=some (bxO C dx vs)∧F a=none∧vs.lookup n=some (.ref b)∧F b=none∧FRep K F H (fun _=>True) o (.ref b) ∧
   ∀ u (o':FO),o'.own=true→(∀ ow,ow b→FRep K F (upd H b u) ow o' (.ref b))→DInv K P F (upd H b u) (ρ.set i (some (.own (.obj C (dH n o' fs)) t))) σ:=by
 obtain⟨O,hR⟩:=I.rep
 obtain⟨v,h1,a,rfl,⟨oa,dx,vs,h2,nd,kids⟩,ht⟩:=hR i _ hi
 obtain⟨w,l1,fr⟩:=(cD kids).2 o hn
 have hb:∃ b,w=.ref b∧(F b=none∧P b=none∧O b=some i):=by
  cases o with
  | d x=>cases ho
  | lst ds=>obtain⟨b,e,q,_⟩:=fr;exact⟨b,e,q⟩
  | dK ds=>obtain⟨b,e,q,_⟩:=fr;exact⟨b,e,q⟩
 obtain⟨b,rfl,ob⟩:=hb
 have ad:jZ o (.ref b)=[b]:=by cases o <;> first | rfl | cases ho
 have ne:b≠a:=fun z=>(YD.mp nd).1 (z ▸ Kids.mem kids hn l1 b (by rw[ad];exact Zz b))
 refine⟨a,dx,vs,b,h1,h2,oa.1,l1,ob.1,?_,fun u o' ho' new=>?_⟩
 ·cases o with
  | d x=>cases ho
  | lst ds=>obtain⟨c,e,_,q⟩:=fr;exact⟨c,e,trivial,q⟩
  | dK ds=>obtain⟨c,e,_,q⟩:=fr;exact⟨c,e,trivial,q⟩
 ·obtain⟨k1,k2⟩:=Kids.upd kids (YD.mp nd).2 hn ho l1 (new _ ob) ho'
  exact I.one hi O hR ob.1 ob.2.1 ob.2.2 h1 ⟨oa,dx,vs,by rw[ay fun z=>ne z.symm];exact h2,by rw[k2];exact nd,k1⟩
theorem DInv.fld (I:DInv K P F H ρ σ)(hi:ρ[i]?=some (some (.own (.obj C fs) t))){d:D}(hn:fs.lookup n=some (.d d)) :
  ∃ a dx vs v,σ[i]?=some (some (.ref a))∧H a=some (bxO C dx vs)∧F a=none∧vs.lookup n=some v∧Rep K F v d∧vs.length=fs.length ∧
   ∀ v' d',Rep K F v' d'→DInv K P F (upd H a (bxO C dx (cu n v' vs))) (ρ.set i (some (.own (.obj C (dH n (.d d') fs)) t))) σ:=by
 obtain⟨O,hR⟩:=I.rep
 obtain⟨v,h1,a,rfl,⟨oa,dx,vs,h2,nd,kids⟩,ht⟩:=hR i _ hi
 obtain⟨w,l1,fr⟩:=(cD kids).2 _ hn
 refine⟨a,dx,vs,w,h1,h2,oa.1,l1,fr,kids.length,fun v' d' rv=>?_⟩
 have kids':Kids K F (upd H a (bxO C dx (cu n v' vs))) (fun c=>F c=none∧P c=none∧O c=some i) vs fs:=Kids.keep kids fun c m=>ay fun z=>by subst z;exact (YD.mp nd).1 m
 obtain⟨k1,k2⟩:=Kids.put kids' hn rv
 exact I.one hi O hR oa.1 oa.2.1 oa.2.2 h1 ⟨oa,dx,cu n v' vs,aw,by rw[k2];exact nd,k1⟩
end
def gC (C:Option Addr)(i:Nat)(ρ:DF):Option (List (Str×FO)):=match ρ[i]? with
 | some (some (.own (.obj C' fs) _))=>if C'=C then some fs else none
 | some (some (.bor (.obj C' fs)))=>if C'=C then some fs else none
 | _=>none
theorem uI {C:Option Addr}{i:Nat}{ρ:DF}{fs:List (Str×FO)}(h:gC C i ρ=some fs):(∃ t,ρ[i]?=some (some (.own (.obj C fs) t)))∨ρ[i]?=some (some (.bor (.obj C fs))):=by
 unfold gC at h
 split at h
 ·rename_i C' fs' t q
  split at h
  ·rename_i e;subst e;cases h;exact .inl ⟨t,q⟩
  ·cases h
 ·rename_i C' fs' q
  split at h
  ·rename_i e;subst e;cases h;exact .inr q
  ·cases h
 ·cases h
def cL (C:Option Addr)(i:Nat)(n:Str):DF→Option D:=fun ρ=>(gC C i ρ).bind fun fs=>match fs.lookup n with
 | some (.d d)=>some d
 | _=>none
def aL (C:Option Addr)(i:Nat)(n:Str):DF→Option D:=fun ρ=>(gC C i ρ).bind fun fs=>match fs.lookup n with
 | some (.lst ds)=>some (.lst ds)
 | some (.dK ds)=>some (.dK ds)
 | _=>none
theorem DInv.obj {K:Kq}{P F H:Hp}{ρ:DF}{σ:St}{i:Nat}{C:Option Addr}{fs:List (Str×FO)}(I:DInv K P F H ρ σ)(h:gC C i ρ=some fs):∃ a dx vs,σ[i]?=some (some (.ref a))∧H a=some (bxO C dx vs)∧F a=none∧Kids K F H (fun b=>F b=none) vs fs:=by
 have hs:=uI h
 have hv:∃ v,σ[i]?=some (some v):=by
  rcases hs with⟨t,q⟩ | q
  ·obtain⟨v,h1,_⟩:=I.at q;exact⟨v,h1⟩
  ·obtain⟨v,h1,_⟩:=I.at q;exact⟨v,h1⟩
 obtain⟨v,hv⟩:=hv
 obtain⟨a,rfl,oa,dx,vs,h2,_,h4⟩:=I.slot hv hs
 exact⟨a,dx,vs,hv,h2,oa,h4⟩
section
variable {X:Cx} {C:Addr} {n:Str} {e o:Expr} {pos apos cpos pos' tpos:Pos}
theorem pfB (i:Nat)(c:Cls X.K C)(hn:NoAttr X.K C n)(h:PE X e (ce i))(hb:attributeBase e n X.env (eval e X.env)=eval e X.env:=by rfl):PDE X (.Attribute e n pos) (cL (some C) i n):=
 (gh h hb).imp fun σ H Q=>un7 fun P F ρ d hf I k=>by
  obtain⟨fs,q,hf⟩:=Ye.mp hf
  split at hf
  ·rename_i d' q2
   cases hf
   obtain⟨a,dx,vs,h1,h2,_,h4⟩:=I.obj q
   obtain⟨w,l1,fr⟩:=(cD h4).2 _ q2
   exact⟨_,h1,a,C,dx,vs,w,rfl,h2,c,hn,l1,k w F H (Evo.refl I.toDHp) fr⟩
  ·cases hf
theorem prB (i:Nat)(c:Cls X.K C)(hn:NoAttr X.K C n)(h:PE X e (ce i))(hb:attributeBase e n X.env (eval e X.env)=eval e X.env:=by rfl):PDR X (.Attribute e n pos) (aL (some C) i n):=
 (gh h hb).imp fun σ H Q=>un7 fun P F ρ d hf I k=>by
  obtain⟨fs,q,hf⟩:=Ye.mp hf
  obtain⟨a,dx,vs,h1,h2,_,h4⟩:=I.obj q
  split at hf
  ·rename_i ds q2
   cases hf
   obtain⟨w,l1,b,rfl,fb,u,u1,u2⟩:=(cD h4).2 _ q2
   exact⟨_,h1,a,C,dx,vs,_,rfl,h2,c,hn,l1,k _ F H (Evo.refl I.toDHp) (.inr ⟨b,.lst ds,u,rfl,fb,u1,u2,rfl,rfl⟩)⟩
  ·rename_i ds q2
   cases hf
   obtain⟨w,l1,b,rfl,fb,u,u1,u2⟩:=(cD h4).2 _ q2
   exact⟨_,h1,a,C,dx,vs,_,rfl,h2,c,hn,l1,k _ F H (Evo.refl I.toDHp) (.inr ⟨b,.dK ds,u,rfl,fb,u1,u2,rfl,rfl⟩)⟩
  ·cases hf
def cW (C:Option Addr)(i:Nat)(n:Str)(k:FO→Option FO):DF→Option DF:=fun ρ=>match ρ[i]? with
 | some (some (.own (.obj C' fs) t))=>if C'=C∧fs.length<1000 then (fs.lookup n).bind fun o=>(k o).map fun o'=>ρ.set i (some (.own (.obj C (dH n o' fs)) t)) else none
 | _=>none
theorem c5 {C:Option Addr}{i:Nat}{k:FO→Option FO}{ρ ρ':DF}(h:cW C i n k ρ=some ρ'):∃ fs t o o',ρ[i]?=some (some (.own (.obj C fs) t))∧fs.lookup n=some o∧k o=some o'∧fs.length<1000∧ρ'=ρ.set i (some (.own (.obj C (dH n o' fs)) t)):=by
 unfold cW at h
 split at h
 ·rename_i C' fs t q
  split at h
  ·rename_i e
   obtain⟨rfl,hl⟩:=e
   obtain⟨o,q1,h⟩:=Ye.mp h
   obtain⟨o',q2,rfl⟩:=ax h
   exact⟨fs,t,o,o',q,q1,q2,hl,rfl⟩
  ·cases h
 ·cases h
def gU (C:Option Addr)(i:Nat)(n:Str)(fe:Dd):DF→Option RES:=fun ρ=>(fe ρ).bind fun y=>(cW C i n (fun o=>match o,y with | .d (.int a),.int b=>some (.d (.int (a+b))) | _,_=>none) ρ).map .nx
theorem iN (i:Nat){fe:Dd}(c:Cls X.K C)(hn:NoAttr X.K C n)(h:PE X o (ce i))(he:PDE X e fe):PD1 X (.AugAssign (.Attribute o n tpos) .Add e pos) (gU (some C) i n fe):=
 PS.imp (tm h he z6) fun E σ H=>un7 fun P F ρ r hr I k=>by
  obtain⟨y,qy,hr⟩:=Ye.mp hr
  obtain⟨ρ',q,rfl⟩:=ax hr
  obtain⟨fs,t,o1,o2,q1,q2,q3,hlt,rfl⟩:=c5 q
  split at q3
  ·rename_i a b
   cases q3
   obtain⟨p,dx,vs,v,h1,h2,h3,h4,h5,hl,_⟩:=I.fld q1 q2
   cases h5
   refine⟨_,h1,p,C,dx,vs,_,rfl,h2,c,hn,h4,P,F,ρ,_,qy,I,fun y F1 H1 ev ry=>?_⟩
   cases ry
   obtain⟨p',dx',vs',v',g1,g2,g3,g4,g5,gl,back⟩:=(I.evo ev).fld q1 q2
   rw[h1] at g1
   cases g1
   have k1:=(ev.keep p _ h2 h3).1
   rw[k1] at g2
   cases g2
   exact⟨a,b,rfl,rfl,dx,vs,k1,by rw[hl];exact hlt,k σ F1 _ ev.ext (back _ _ .int)⟩
  ·cases q3
theorem mw {C:Option Addr}{dx dx':Addr}{vs vs':List (Str×V)}(h:bxO C dx vs=bxO C dx' vs'):vs=vs':=by
 cases C with
 | some C=>injection h
 | none=>
  injection h with h
  exact (List.map_inj_right (fun a b e=>by obtain⟨_,_⟩:=a;obtain⟨_,_⟩:=b;cases e;rfl)).mp h
theorem DInv.kid2 {C:Option Addr}{K:Kq}{P F H:Hp}{ρ:DF}{σ:St}{i:Nat}{fs:List (Str×FO)}{t:Option Addr}(I:DInv K P F H ρ σ)(hi:ρ[i]?=some (some (.own (.obj C fs) t))){o:FO}(ho:o.own=true)(hn:fs.lookup n=some o) :
  ∃ a dx vs b,σ[i]?=some (some (.ref a))∧H a=some (bxO C dx vs)∧vs.lookup n=some (.ref b)∧F b=none∧FRep K F H (fun _=>True) o (.ref b)∧(∀ {F1 H1:Hp},Evo P F H F1 H1→FRep K F1 H1 (fun _=>True) o (.ref b) ∧
   ∀ u (o':FO),o'.own=true→(∀ ow,ow b→FRep K F1 (upd H1 b u) ow o' (.ref b))→DInv K P F1 (upd H1 b u) (ρ.set i (some (.own (.obj C (dH n o' fs)) t))) σ):=by
 obtain⟨a,dx,vs,b,h1,h2,h3,h4,h5,h6,_⟩:=I.kid hi ho hn
 refine⟨a,dx,vs,b,h1,h2,h4,h5,h6,fun {F1 H1} ev=>?_⟩
 obtain⟨a',dx',vs',b',g1,g2,_,g4,_,g6,back⟩:=(I.evo ev).kid hi ho hn
 rw[h1] at g1
 cases g1
 rw[(ev.keep a _ h2 h3).1] at g2
 cases mw (Yq g2)
 rw[h4] at g4
 cases g4
 exact⟨g6,back⟩
def j5 (d:D):FO→Option FO
 | .lst ds=>if ds.length<16777216 then some (.lst (ds++[d])) else none
 | _=>none
def bK (C:Option Addr)(i:Nat)(n:Str)(f:Dd):DF→Option RES:=fun ρ=>(f ρ).bind fun d=>(cW C i n (j5 d) ρ).map .nx
theorem p_ (i:Nat){f:Dd}(c:Cls X.K C)(hn:NoAttr X.K C n)(h:PE X o (ce i))(ha:PDE X e f)(hb:attributeBase o n X.env (eval o X.env)=eval o X.env:=by rfl)(hbase:attributeBase (.Attribute o n pos') "append" X.env (eval (.Attribute o n pos') X.env)=eval (.Attribute o n pos') X.env:=by rfl)
  (hfew:((backTo cpos (starEach [e] X.env)).all (fun x=>!x.1)&&(backToKw cpos (keywordEach [] X.env)).all (fun x=>x.1.isSome)
   && decide (([e]:List Expr).length+([]:List Keyword).length+(if ([]:List Keyword).isEmpty then 0 else 1)<30))=true:=by rfl)
  (hline:(apos.endLine == cpos.line)=true:=by rfl) (hs:starEach [e] X.env=[(false,eval e X.env)]:=by rfl) (hsw:swapsWith (.Call (.Attribute (.Attribute o n pos') "append" apos) [e] [] cpos) none pos.line X.env=pure false:=by rfl) :
  PD1 X (.Expr (.Call (.Attribute (.Attribute o n pos') "append" apos) [e] [] cpos) pos) (bK (some C) i n f):=
 PS.imp (c_ (iC YX ZJ ZK ee (gh h hb) (aH ha a9 hs) hbase hfew hline hs rfl) hsw) fun E σ H=>un7 fun P F ρ r hr I k=>by
  obtain⟨d,qd,hr⟩:=Ye.mp hr
  obtain⟨ρ',q,rfl⟩:=ax hr
  obtain⟨fs,t,o1,o2,q1,q2,q3,_,rfl⟩:=c5 q
  unfold j5 at q3
  split at q3
  ·rename_i ds
   split at q3
   ·rename_i hl
    cases q3
    obtain⟨a,dx,vs,b,h1,h2,h4,h5,⟨_,e0,_,u,h6,h7⟩,nxt⟩:=I.kid2 q1 (o:=.lst ds) rfl q2
    cases e0
    cases u with
    | lst us=>
     refine⟨_,h1,a,C,dx,vs,_,rfl,h2,c,hn,h4,.inl ⟨rfl,us,SqL.of h6⟩,P,F,ρ,d,qd,I,fun v F1 H1 e1 r1=>?_⟩
     obtain⟨_,back⟩:=nxt e1
     have h7:Reps X.K F us ds:=h7
     refine⟨b,us,v,rfl,rfl,(e1.keep b _ h6 h5).1,by rw[YK,h7.length];exact hl,k σ F1 _ e1.ext ?_⟩
     exact back _ (.lst (ds++[d])) rfl fun ow ob=>⟨b,rfl,ob,_,aw,(h7.same e1.ext).append (.one r1)⟩
    | _=>exact h7.elim
   ·cases q3
  ·cases q3
def AM (es:List D):FO→Option FO
 | .lst ds=>if ds.length+es.length≤16777216 then some (.lst (ds++es)) else none
 | _=>none
def om (C:Option Addr)(i:Nat)(n:Str)(g:Dl):DF→Option RES:=fun ρ=>(g ρ).bind fun es=>(cW C i n (AM es) ρ).map .nx
theorem xw (i:Nat){g:Dl}(c:Cls X.K C)(hn:NoAttr X.K C n)(h:PE X o (ce i))(ha:PDO X e (asL g))(hb:attributeBase o n X.env (eval o X.env)=eval o X.env:=by rfl)(hbase:attributeBase (.Attribute o n pos') "extend" X.env (eval (.Attribute o n pos') X.env)=eval (.Attribute o n pos') X.env:=by rfl)
  (hfew:((backTo cpos (starEach [e] X.env)).all (fun x=>!x.1)&&(backToKw cpos (keywordEach [] X.env)).all (fun x=>x.1.isSome)
   && decide (([e]:List Expr).length+([]:List Keyword).length+(if ([]:List Keyword).isEmpty then 0 else 1)<30))=true:=by rfl)
  (hline:(apos.endLine == cpos.line)=true:=by rfl) (hs:starEach [e] X.env=[(false,eval e X.env)]:=by rfl) (hsw:swapsWith (.Call (.Attribute (.Attribute o n pos') "extend" apos) [e] [] cpos) none pos.line X.env=pure false:=by rfl) :
  PD1 X (.Expr (.Call (.Attribute (.Attribute o n pos') "extend" apos) [e] [] cpos) pos) (om (some C) i n g):=
 PS.imp (c_ (iC YX PySem.F.slot_list_extend PySem.F.type_list_extend tt (gh h hb) (aH ha a9 hs) hbase hfew hline hs rfl) hsw) fun E σ H=>un7 fun P F ρ r hr I k=>by
  obtain⟨es,qd,hr⟩:=Ye.mp hr
  obtain⟨ρ',q,rfl⟩:=ax hr
  obtain⟨fs,t,o1,o2,q1,q2,q3,_,rfl⟩:=c5 q
  unfold AM at q3
  split at q3
  ·rename_i ds
   split at q3
   ·rename_i hl
    cases q3
    obtain⟨a,dx,vs,b,h1,h2,h4,h5,⟨_,e0,_,u,h6,h7⟩,nxt⟩:=I.kid2 q1 (o:=.lst ds) rfl q2
    cases e0
    cases u with
    | lst us=>
     refine⟨_,h1,a,C,dx,vs,_,rfl,h2,c,hn,h4,.inl ⟨rfl,us,SqL.of h6⟩,P,F,ρ,.lst es,by unfold asL;rw[qd];rfl,I,fun b' F1 H1 e1 ho=>?_⟩
     obtain⟨⟨n1,n2⟩,w,w1,w2⟩:=ho
     obtain⟨_,back⟩:=nxt e1
     have h7:Reps X.K F us ds:=h7
     cases w with
     | lst ws=>
      have w2:Reps X.K F1 ws es:=w2
      refine⟨b,b',us,ws,rfl,rfl,(e1.keep b _ h6 h5).1,w1,by rw[YK,h7.length,w2.length];exact hl,k σ F1 _ e1.ext ?_⟩
      exact back _ (.lst (ds++es)) rfl fun ow ob=>⟨b,rfl,ob,_,aw,(h7.same e1.ext).append w2⟩
     | _=>exact w2.elim
    | _=>exact h7.elim
   ·cases q3
  ·cases q3
theorem wn {C:Option Addr}{i:Nat}{ρ:DF}{fs:List (Str×FO)}{t:Option Addr}{ds:List D}(h:aL C i n ρ=some (.lst ds))(hi:ρ[i]?=some (some (.own (.obj C fs) t))):fs.lookup n=some (.lst ds):=by
 obtain⟨fs',q,hf⟩:=Ye.mp h
 have:fs'=fs:=by
  unfold gC at q
  rw[hi] at q
  have q':(if C=C then some fs else none)=some fs':=q
  rw[Yh rfl] at q'
  exact (Yq q').symm
 subst this
 split at hf
 ·rename_i x q2;cases hf;exact q2
 ·cases hf
 ·cases hf
def qJ (y v:D):FO→Option FO
 | .dK kvs=>(gZ y).bind fun ks=>if kvs.length<16777216 then some (.dK (e6 kvs ks v)) else none
 | _=>none
def jh (C:Option Addr)(i:Nat)(n:Str)(fk fv:Dd):DF→Option RES:=fun ρ=>(fv ρ).bind fun v=>(fk ρ).bind fun y=>(cW C i n (qJ y v) ρ).map .nx
theorem qg (j:Nat){fk fv:Dd}{i:Expr}(c:Cls X.K C)(hn:NoAttr X.K C n)(hu:X.A.units+64<cLine)(ho:PE X o (ce j))(hi:PDE X i fk)(hv:PDE X e fv)(hb:attributeBase o n X.env (eval o X.env)=eval o X.env:=by rfl)(hs:swapsWith e (some (.Subscript (.Attribute o n apos) i pos')) pos.line X.env=pure false:=by rfl) :
  PD1 X (.Assign [.Subscript (.Attribute o n apos) i pos'] e pos) (jh (some C) j n fk fv):=
 PS.imp (iK (by omega) (gh ho hb) hi hv hs) fun E σ H=>un7 fun P F ρ r hr I k=>by
  obtain⟨dv,qv,hr⟩:=Ye.mp hr
  obtain⟨dy,qy,hr⟩:=Ye.mp hr
  obtain⟨ρ',q,rfl⟩:=ax hr
  obtain⟨fs,t,o1,o2,q1,q2,q3,_,rfl⟩:=c5 q
  unfold qJ at q3
  split at q3
  ·rename_i kvs
   obtain⟨ks,qk,q3⟩:=Ye.mp q3
   split at q3
   ·rename_i hl
    cases q3
    refine⟨P,F,ρ,_,qv,I,fun v F1 H1 e1 rv=>?_⟩
    obtain⟨a,dx,vs,b,h1,h2,h4,h5,⟨_,e0,_,u,h6,h7⟩,nxt⟩:=(I.evo e1).kid2 q1 (o:=.dK kvs) rfl q2
    cases e0
    cases u with
    | dK ws=>
     have h7:RepsK X.K F1 ws kvs:=h7
     refine⟨_,h1,a,C,dx,vs,_,rfl,h2,c,hn,h4,P,F1,ρ,_,qy,I.evo e1,fun y F2 H2 e2 ry=>?_⟩
     obtain⟨_,back⟩:=nxt e2
     have ey:=qK ry qk
     subst ey
     refine⟨b,_,rfl,DPut.k (e2.keep b _ h6 h5).1 (by rw[YK,h7.length];exact hl),k σ F2 _ (e1.ext.trans e2.ext) ?_⟩
     exact back _ (.dK (e6 kvs ks dv)) rfl fun ow ob=>⟨b,rfl,ob,_,aw,(RepsK.same e2.ext h7).put (rv.same e2.ext)⟩
    | _=>exact h7.elim
   ·cases q3
  ·cases q3
end
theorem Kids.add {K:Kq}{F H:Hp}{ow:Addr→Prop}{n:Str}{vs:List (Str×V)}{fs:List (Str×FO)}{o:FO}{v:V}(h:Kids K F H ow vs fs):fs.lookup n=none→FRep K F H ow o v→Kids K F H ow (cu n v vs) (dH n o fs)∧cX (cu n v vs) (dH n o fs)=cX vs fs++jZ o v:=by
 induction h with
 | nil=>exact fun _ r=>⟨.cons ⟨rfl,r⟩ .nil,by show jZ o v++[]=[]++jZ o v;simp⟩
 | @cons p q vs fs r t ih=>
  obtain⟨x,w⟩:=p
  obtain⟨y,z⟩:=q
  obtain⟨e,r⟩:=r
  cases e
  intro h1 rv
  rw[aK] at h1
  unfold cu dH
  by_cases e:n=x
  ·rw[Yh e] at h1;cases h1
  ·rw[Yr e] at h1
   rw[Yr fun z=>e z.symm,Yr fun z=>e z.symm,bE,bE]
   obtain⟨k1,k2⟩:=ih h1 rv
   exact⟨.cons ⟨rfl,r⟩ k1,by rw[k2,Yn]⟩
theorem Kids.mono {K:Kq}{F F' H H':Hp}{ow ow':Addr→Prop}{vs:List (Str×V)}{fs:List (Str×FO)}(e:Same F F')(k:∀ b u,ow b→H b=some u→H' b=some u∧ow' b)(h:Kids K F H ow vs fs):Kids K F' H' ow' vs fs:=h.imp fun p q z=>⟨z.1,z.2.mono e k fun x=>x.same e⟩
theorem Kids.adr {K:Kq}{F H:Hp}{ow:Addr→Prop}{vs:List (Str×V)}{fs:List (Str×FO)}(h:Kids K F H ow vs fs):∀ b∈cX vs fs,H b≠none:=by
 induction h with
 | nil=>exact fun _ m=>nomatch m
 | @cons p q _ _ r _ ih=>
  intro b m
  rw[bE] at m
  rcases Yj.mp m with m | m
  ·obtain⟨x,v⟩:=p
   obtain⟨y,o⟩:=q
   cases o with
   | d x=>cases m
   | lst ds=>obtain⟨_,c,rfl,_,u,u1,_⟩:=r;cases Yl.mp m;rw[u1];simp
   | dK ds=>obtain⟨_,c,rfl,_,u,u1,_⟩:=r;cases Yl.mp m;rw[u1];simp
  ·exact ih b m
theorem DInv.addF {K:Kq}{P F H F1 H1:Hp}{ρ:DF}{σ:St}{i:Nat}{C:Option Addr}{fs:List (Str×FO)}{t:Option Addr}{n:Str}{o:FO}{v:V}(I:DInv K P F H ρ σ)(ev:Evo P F H F1 H1)(hi:ρ[i]?=some (some (.own (.obj C fs) t)))(hn:fs.lookup n=none)(hv:FRep K F1 H1 (fun b=>H b=none∧F1 b=none) o v) :
  ∃ a dx vs,σ[i]?=some (some (.ref a))∧H1 a=some (bxO C dx vs)∧vs.length=fs.length∧DInv K P F1 (upd H1 a (bxO C dx (cu n v vs))) (ρ.set i (some (.own (.obj C (dH n o fs)) t))) σ:=by
 obtain⟨O,hR⟩:=I.rep
 obtain⟨w,h1,a,rfl,⟨oa,dx,vs,h2,nd,kids⟩,ht⟩:=hR i _ hi
 obtain⟨k1,k2⟩:=ev.keep a _ h2 oa.1
 refine⟨a,dx,vs,h1,k1,kids.length,?_⟩
 have I1:=I.evo ev
 let O':Addr→Option Nat:=fun b=>open Classical in if H b=none then some i else O b
 have hR':∀ (j:Nat) (x:DV),ρ[j]?=some (some x)→∃ v,σ[j]?=some (some v)∧DVRep K P F1 H1 (fun c=>O' c=some j) x v:=fun j x hx=>by
  obtain⟨v,e1,e2⟩:=hR j x hx
  exact⟨v,e1,(e2.imp fun b u _ _ hb q=>(Yr (by rw[hb];simp)).trans q).evo ev⟩
 have na:O' a=some i:=(Yr (by rw[h2];simp)).trans oa.2.2
 have kids1:Kids K F1 H1 (fun c=>F1 c=none∧P c=none∧O' c=some i) vs fs:=Kids.mono ev.ext (fun b u q hb=>⟨(ev.keep b u hb q.1).1,(ev.keep b u hb q.1).2,q.2.1,(Yr (by rw[hb];simp)).trans q.2.2⟩) kids
 have hv1:FRep K F1 H1 (fun c=>F1 c=none∧P c=none∧O' c=some i) o v:=FRep.mono (Same.refl _) (fun b u q hb=>⟨hb,q.2,I.pro.free q.1,Yh q.1⟩) (fun x=>x) hv
 have new:∀ b∈jZ o v,H b=none:=fun b m=>by
  cases o with
  | d x=>cases m
  | lst ds=>obtain⟨c,rfl,q,_⟩:=hv;cases Yl.mp m;exact q.1
  | dK ds=>obtain⟨c,rfl,q,_⟩:=hv;cases Yl.mp m;exact q.1
 obtain⟨g1,g2⟩:=Kids.add kids1 hn hv1
 have nd2:(a::cX (cu n v vs) (dH n o fs)).Nodup:=by
  rw[g2,← List.cons_append]
  refine YJ.mpr ⟨nd,?_,fun x m y m'=>?_⟩
  ·cases o with
   | d x=>exact XL
   | lst ds=>obtain⟨c,rfl,_⟩:=hv;exact YD.mpr ⟨nofun,.nil⟩
   | dK ds=>obtain⟨c,rfl,_⟩:=hv;exact YD.mpr ⟨nofun,.nil⟩
  ·rintro rfl
   have z:=new _ m'
   rcases YC.mp m with rfl | m
   ·rw[h2] at z;cases z
   ·exact Kids.adr kids _ m z
 exact I1.one hi O' hR' k2 oa.2.1 na h1 ⟨⟨k2,oa.2.1,na⟩,dx,_,aw,nd2,Kids.keep g1 fun c m=>ay fun z=>by subst z;exact (YD.mp nd2).1 m⟩
def Fj:OD→Option FO
 | .lst ds=>some (.lst ds)
 | .dK kvs=>some (.dK kvs)
 | _=>none
def addF (C:Option Addr)(i:Nat)(n:Str)(o:FO):DF→Option RES:=fun ρ=>match ρ[i]? with
 | some (some (.own (.obj C' fs) t))=>if C'=C∧fs.lookup n=none∧fs.length<1000 then some (.nx (ρ.set i (some (.own (.obj C (dH n o fs)) t)))) else none
 | _=>none
theorem rq {C:Option Addr}{i:Nat}{n:Str}{o:FO}{ρ:DF}{r:RES}(h:addF C i n o ρ=some r):∃ fs t,ρ[i]?=some (some (.own (.obj C fs) t))∧fs.lookup n=none∧fs.length<1000∧r=.nx (ρ.set i (some (.own (.obj C (dH n o fs)) t))):=by
 unfold addF at h
 split at h
 ·rename_i C' fs t q
  split at h
  ·rename_i e
   obtain⟨rfl,h1,h2⟩:=e
   cases h
   exact⟨fs,t,q,h1,h2,rfl⟩
  ·cases h
 ·cases h
section
variable {X:Cx} {C:Addr} {n:Str} {e o value:Expr} {pos apos cpos pos' tpos:Pos}
def u8 (C:Addr)(i:Nat)(n:Str)(f:Dd):DF→Option RES:=fun ρ=>(f ρ).bind fun d=>addF (some C) i n (.d d) ρ
theorem qA (i:Nat){f:Dd}(c:Cls X.K C)(hn:NoAttr X.K C n)(ho:PE X o (ce i))(hv:PDE X value f)(hs:swapsWith value (some (.Attribute o n pos')) pos.line X.env=pure false:=by rfl) :
  PD1 X (.Assign [.Attribute o n pos'] value pos) (u8 C i n f):=PS.imp (pG ho hv hs) fun E σ H=>un7 fun P F ρ r hr I k=>by
 obtain⟨d,q,hr⟩:=Ye.mp hr
 obtain⟨fs,t,q1,q2,q3,rfl⟩:=rq hr
 refine⟨P,F,ρ,d,q,I,fun v F1 H1 ev rv=>?_⟩
 obtain⟨a,dx,vs,h1,h2,h3,J⟩:=I.addF ev q1 q2 (o:=.d d) (v:=v) rv
 exact⟨_,h1,a,C,dx,vs,rfl,h2,c,hn,by rw[h3];exact q3,k σ F1 _ ev.ext J⟩
def ir (C:Addr)(i:Nat)(n:Str)(f:Do):DF→Option RES:=fun ρ=>(f ρ).bind fun od=>(Fj od).bind fun x=>addF (some C) i n x ρ
theorem ff (i:Nat){f:Do}(c:Cls X.K C)(hn:NoAttr X.K C n)(ho:PE X o (ce i))(hv:PDO X value f)(hs:swapsWith value (some (.Attribute o n pos')) pos.line X.env=pure false:=by rfl) :
  PD1 X (.Assign [.Attribute o n pos'] value pos) (ir C i n f):=PS.imp (pG ho hv hs) fun E σ H=>un7 fun P F ρ r hr I k=>by
 obtain⟨od,q,hr⟩:=Ye.mp hr
 obtain⟨x,qx,hr⟩:=Ye.mp hr
 obtain⟨fs,t,q1,q2,q3,rfl⟩:=rq hr
 refine⟨P,F,ρ,od,q,I,fun b F1 H1 ev hb=>?_⟩
 have fr:FRep X.K F1 H1 (fun b=>H b=none∧F1 b=none) x (.ref b):=by
  cases od with
  | lst ds=>cases qx;exact⟨b,rfl,hb.1,hb.2⟩
  | dK ds=>cases qx;exact⟨b,rfl,hb.1,hb.2⟩
  | _=>cases qx
 obtain⟨a,dx,vs,h1,h2,h3,J⟩:=I.addF ev q1 q2 fr
 exact⟨_,h1,a,C,dx,vs,rfl,h2,c,hn,by rw[h3];exact q3,k σ F1 _ ev.ext J⟩
end
def tZ (C:Addr)(m:Dz)(g:Dv):DF→Option OD:=fun ρ=>(g ρ).bind fun xs=>match m (.obj (some C) []) xs with
 | some (o',.non)=>some o'
 | _=>none
section
variable {X:Cx} {k k':Nat} {f C:Addr} {fd:FuncData} {ps:List Str} {mM:Dz} {x:Str} {p pos:Pos} {e:Expr} {es:List Expr} {g:Dv}
theorem r8 (M:Mk X.K C f)(G:FnOk X.prog X.w X.K X.mg X.base CX0 k f fd ps (spO X.K mM))(hr:Room (k+1) X.A)(hg:Gl X x)(hm:X.mg x=some (.ref C))(hb:Binds X.K fd ps [])(ha:gH X (e::es) g)
  (hdb:(x == ("__debug__":Str))=false:=by decide) (he:starEach (e::es) X.env=(false,eval e X.env)::starEach es X.env:=by rfl) (hpl:(backTo pos (starEach es X.env)).any (·.1)=false:=by rfl):PDO X (.Call (.Name x p) (e::es) [] pos) (tZ C mM g):=
 (qP M G hr hg hm hb .nil gX ha hdb he hpl).imp fun σ H Q=>un7 fun P F ρ ob hf I k=>by
  obtain⟨xs,q,hf⟩:=Ye.mp hf
  split at hf
  ·rename_i o' q2
   cases hf
   refine⟨P,F,ρ,xs,q,I,fun vs F1 H1 e1 r1 y dx hy hdx hne=>?_⟩
   have I1:=I.evo e1
   have sm:Same H1 (upd (upd H1 dx (.own y)) y (.ins C dx [])):=fun b u z=>by rw[ay (bb z hy),ay (bb z hdx)];exact z
   refine⟨gd F1 H1,F1,y,vs,.obj (some C) [],xs,ob,.non,by simp,q2,⟨I1.sub.trans sm,fun b u z=>sm b u ((fj I1.sub).pro b u z),(fj I1.sub).dis⟩,⟨⟨I1.sub.free hy,(fj I1.sub).pro.free hy⟩,dx,[],aw,YD.mpr ⟨nofun,.nil⟩,.nil⟩,(r1.dvs I1).heap,fun v F2 H2 e2 hp2 ho rv=>?_⟩
   cases rv
   refine⟨rfl,k y F2 H2 (e1.trans (I1.toDHp.gd e2 hp2)) (ho.mono (Same.refl _) fun b u q hb=>⟨hb,?_,q.1⟩)⟩
   cases c:H1 b with
   | none=>exact e1.back I.toDHp c
   | some w=>
    have n:F1 b=none:=by
     cases d:F1 b with
     | none=>rfl
     | some z=>have:=e2 b z d;rw[q.1] at this;cases this
    have:=fu.mpr ⟨n,c⟩
    rw[q.2] at this
    cases this
  ·cases hf
end
abbrev DXs:=DF→Option (List D×DF)
def tLX (K:Kq)(g:DXs):TA:=fun σ H Q=>∃ P F ρ r,g ρ=some r∧DInv K P F H ρ σ∧∀ vs F' H',Same F F'→DInv K P F' H' r.2 σ→Reps K F' vs r.1→Q vs H'
def PAX (X:Cx)(es:List Expr)(g:DXs):Prop:=PA X es (tLX X.K g)
def dj:DXs:=fun ρ=>some ([],ρ)
def aW (f:DX)(g:DXs):DXs:=fun ρ=>(f ρ).bind fun a=>(g a.2).map fun b=>(a.1::b.1,b.2)
section
variable {X:Cx} {e o:Expr} {es:List Expr} {pos apos cpos:Pos} {f:DX} {g:DXs} {C:Addr} {mn:Str}
theorem b9:PAX X [] dj:=a9.imp fun σ H Q=>un7 fun P F ρ r hr I k=>by
 cases hr
 exact k [] F H (Same.refl _) I .nil
theorem aG (h:PX X e f)(t:PAX X es g)(hs:starEach (e::es) X.env=(false,eval e X.env)::starEach es X.env:=by rfl):PAX X (e::es) (aW f g):=PA.imp (aH h t hs) fun σ H Q=>un7 fun P F ρ r hr I k=>by
 obtain⟨a,q1,hr⟩:=Ye.mp hr
 obtain⟨b,q2,rfl⟩:=ax hr
 exact⟨P,F,ρ,a,q1,I,fun v F1 H1 e1 I1 r1=>⟨P,F1,a.2,b,q2,I1,fun vs F2 H2 e2 I2 r2=>k (v::vs) F2 H2 (e1.trans e2) I2 (.cons (r1.same e2) r2)⟩⟩
theorem Reps.dvs {K:Kq}{P F H:Hp}{vs:List V}{ds:List D}(h:Reps K F vs ds):DVs K P F H (ds.map .v) vs:=Reps.ind (M:=fun vs ds=>DVs K P F H (ds.map .v) vs) .nil (fun r _ ih=>.cons rfl r ih) h
def bM (C:Addr)(mn:Str)(i:Nat)(m:Dz)(g:DXs):DX:=fun ρ=>(gC (some C) i ρ).bind fun fs=>if fs.lookup mn=none then (g ρ).bind fun a=>match a.2[i]? with
  | some (some (.own o t))=>(m o (a.1.map .v)).map fun r=>(r.2,a.2.set i (some (.own r.1 t)))
  | _=>none else none
variable {k k':Nat} {f':Addr} {fd:FuncData} {ps:List Str} {mM:Dz}
theorem uu {K:Kq}{i:Nat}{E:XK}:∀ σ H Q,tX K (bM C mn i mM g) σ H Q→jt C mn (spO K mM) [] E (ce i) (tLX K g) σ H Q:=fun σ H Q=>un7 fun P F ρ r hf I k=>by
 obtain⟨fs,q,hf⟩:=Ye.mp hf
 split at hf
 ·rename_i hn
  obtain⟨a,q1,hf⟩:=Ye.mp hf
  split at hf
  ·rename_i od t q2
   obtain⟨res,q3,rfl⟩:=ax hf
   obtain⟨p,dx,vs,h1,h2,_,h4⟩:=I.obj q
   refine⟨_,h1,p,dx,vs,rfl,h2,(cD h4).1 hn,P,F,ρ,a,q1,I,fun us F1 H1 e1 I1 r1=>?_⟩
   obtain⟨p',S,g1,g2,gp,back⟩:=I1.hand q2
   rw[h1] at g1
   cases g1
   refine⟨gdS F1 H1 S,F1,p,us,od,a.1.map .v,res.1,res.2,by simp,q3,gp,g2,r1.dvs,fun v F2 H2 e2 hp2 ho rv=>?_⟩
   exact k v F2 H2 (e1.trans e2) (back e2 hp2 ho) rv
  ·cases hf
 ·cases hf
theorem ia (i:Nat){pl:Sem Bool}(c:Cls X.K C)(hm:Meth X.K C mn f')(G:FnOk X.prog X.w X.K X.mg X.base CX0 k f' fd ps (spO X.K mM))(hr:Room k' X.A)(hb:Binds X.K fd ps [])(he:PE X o (ce i))(ha:PAX X (e::es) g)(hk:k≤k':=by decide)
  (hst:starEach (e::es) X.env=(false,eval e X.env)::starEach es X.env:=by rfl) (hpl:(backTo pos (starEach es X.env)).any (·.1)=false:=by rfl)
  (ht:eval (.Call (.Attribute o mn apos) (e::es) [] pos) X.env=(do
   let ov ← eval o X.env
   standAt apos.atName
   let (f,first) ← holding [ov] (getMethod ov mn pl)
   callWith pos f first (backTo pos (starEach (e::es) X.env)) (backToKw pos (keywordEach [] X.env))):=by rfl):PX X (.Call (.Attribute o mn apos) (e::es) [] pos) (bM C mn i mM g):=
 (yD he c hm G (hr.mono hk) hb .nil gX ha hst hpl ht).imp uu
def jS (j:Nat)(f:DX):DF→Option RES:=fun ρ=>match ρ[j]? with
 | some (some (.own (.lst _) _))=>(f ρ).bind fun a=>match a.2[j]? with
  | some (some (.own (.lst ds) t))=>if ds.length<16777216 then some (.nx (a.2.set j (some (.own (.lst (ds++[a.1])) t)))) else none
  | _=>none
 | _=>none
theorem rC (j:Nat)(h:PE X o (ce j))(ha:PX X e f)(hbase:attributeBase o "append" X.env (eval o X.env)=eval o X.env:=by rfl)
  (hfew:((backTo cpos (starEach [e] X.env)).all (fun x=>!x.1)&&(backToKw cpos (keywordEach [] X.env)).all (fun x=>x.1.isSome)
   && decide (([e]:List Expr).length+([]:List Keyword).length+(if ([]:List Keyword).isEmpty then 0 else 1)<30))=true:=by rfl)
  (hline:(apos.endLine == cpos.line)=true:=by rfl) (hs:starEach [e] X.env=[(false,eval e X.env)]:=by rfl) (hsw:swapsWith (.Call (.Attribute o "append" apos) [e] [] cpos) none pos.line X.env=pure false:=by rfl) :
  PD1 X (.Expr (.Call (.Attribute o "append" apos) [e] [] cpos) pos) (jS j f):=
 PS.imp (c_ (iC YX ZJ ZK ee h (aH ha a9 hs) hbase hfew hline hs rfl) hsw) fun E σ H=>un7 fun P F ρ r hr I k=>by
  unfold jS at hr
  split at hr
  ·rename_i ds0 t0 q0
   obtain⟨a,qa,hr⟩:=Ye.mp hr
   split at hr
   ·rename_i ds t q
    split at hr
    ·rename_i hl
     cases hr
     obtain⟨p,vs,h1,h2,h3,h4,h5⟩:=jb I q0
     refine⟨_,h1,.inl ⟨rfl,vs,SqL.of h4⟩,P,F,ρ,a,qa,I,fun v F1 H1 e1 I1 r1=>?_⟩
     obtain⟨p',vs',g1,g2,g3,g4,g5⟩:=jb I1 q
     rw[h1] at g1
     cases g1
     refine⟨p,vs',v,rfl,rfl,g4,by rw[YK,g5.length];exact hl,k σ F1 _ e1 ?_⟩
     exact I1.mut (o':=.lst _) (u:=.lst _) q rfl rfl h1 (g5.append (.one r1))
    ·cases hr
   ·cases hr
  ·cases hr
end
section
variable {X:Cx} {a b e:Expr} {pos:Pos}
end
section
variable {X:Cx} {pz:Kp} {σ:List (Option V)} {H:Hp} {s:Shared} {h':Heap}
end
section
variable {X:Cx} {l:Expr} {elts:List Expr} {kk:Nat} {tpos pos p:Pos}
end
section
variable {prog:Program} {w:World} {A:Around} {E:Kv} {s:Shared}
end
section
variable {prog:Program} {w:World} {A:Around} {E:Kv} {s:Shared}
end
section
variable {prog:Program} {w:World} {A:Around} {E:Kv} {s:Shared}
end
section
variable {X:Cx} {e1 e2:Expr} {elts:List Expr} {kk:Nat} {tpos pos p:Pos}
end
section
variable {prog:Program} {w:World} {A:Around} {s:Shared} {R:Kr}
variable {I:Addr} {fp wr:List Addr} {n:Nat} {P:Nat→Value→Prop} {St:Nat→Heap→Prop} {T:String}
end
section
variable {prog:Program} {w:World} {A:Around} {E:Kv} {s:Shared}
variable {I:Addr} {fp wr:List Addr} {n:Nat} {P:Nat→Value→Prop} {St:Nat→Heap→Prop} {T:String}
end
section
variable {prog:Program} {w:World} {A:Around} {E:Kv} {s:Shared}
end
section
variable {X:Cx} {e a:Expr} {p p' p2 pos cpos rpos:Pos} {t:TA}
variable {fa:Dd}
theorem Reps.app {K:Kq}{F:Hp}:∀ {as bs:List V} {cs es:List D},Reps K F as cs→Reps K F bs es→Reps K F (as++bs) (cs++es)
 | _,_,_,_,.nil,h=>h
 | _,_,_,_,.cons r q,h=>.cons r (Reps.app q h)
theorem Reps.rev {K:Kq}{F:Hp}:∀ {vs:List V} {ds:List D},Reps K F vs ds→Reps K F vs.reverse ds.reverse
 | _,_,.nil=>.nil
 | _,_,.cons r q=>by
  rw[Xm,Xm]
  exact Reps.app (Reps.rev q) (.cons r .nil)
end
section
variable {X:Cx} {a b e:Expr} {pos:Pos}
end
end L2
namespace L2
open PySem PySem.Spec PySem.W PyProof.Rows
section
variable {X:Cx} {k:Nat} {f:Addr} {fd:FuncData} {ps:List Str} {mM:Dz} {x:Str} {p pos spos:Pos} {e0 e1 e2 e3 e4:Expr} {f0 f1 f2 f4:Dd}
end
section
variable {X:Cx} {k:Nat} {f:Addr} {fd:FuncData} {ps:List Str} {m:List (List D)→List D→List DV→Option (List (List D))} {x:Str} {p pos spos:Pos} {e0 e1 e2 e3 e4:Expr} {f0 f1 f4:Dd}
end
section
variable {X:Cx} {e o y:Expr} {pos apos cpos p2:Pos}
end
structure LamS where
 qual:Str
 params:Arguments
 body:Expr
 scope:Scope
 p:Str
 x:Str
 cell:Bool:=false
section
variable {X:Cx} {L:LamS} {f c' c:Addr} {uc:Value}
end
structure LamW where
 L:LamS
 t:Addr
 pos:Pos
section
variable {X:Cx} {W:LamW} {c0 c:Addr} {pz:Kp} {σ:St} {H:Hp} {s:Shared} {Q:Kv}
end
section
variable {K:Kq} {W:LamW} {P F H F' H' c:Hp} {ρ:DF} {σ:St}
end
section
variable {X:Cx} {W:LamW} {st:Stmt} {aE sts:List Stmt} {g h:Dw} {pos:Pos}
end
section
variable {X:Cx} {W:LamW} {k n j:Nat} {f0 c0 c:Addr} {fd:FuncData} {ps:List Str} {gR:Addr→V→D→DF→Option RES} {x:Str} {p pos:Pos} {e:Expr} {te:TE}
end
section
variable {X:Cx} {W:LamW} {k n i j:Nat} {f0 c0 c:Addr} {fd:FuncData} {ps:List Str} {gR:Addr→V→D→DF→Option RES} {x y:Str} {p p1 pos pos1 pos2 pos':Pos} {e:Expr} {fe:Dd}
end
section
variable {X:Cx} {W:LamW} {k i:Nat} {f:Addr} {fd:FuncData} {ps:List Str} {m:Dm} {x y:Str} {p pos pos' pos2:Pos} {e:Expr} {es:List Expr} {g:Dv} {f0:Dd}
end
end L2
namespace L2
open PySem PySem.Spec PyProof.Rows
section
variable {prog:Program} {w:World} {A:Around} {E:Kv} {s:Shared}
variable {I:Addr} {fp wr:List Addr} {G:Array GenState→Array GenState→Prop} {n:Nat} {P:Nat→Value→Prop} {St:Nat→Shared→Prop} {R:Kr}
end
section
variable {prog:Program} {w:World} {A:Around} {E:Kv} {s:Shared}
end
section
variable {prog:Program} {w:World} {A:Around} {E:Kv} {s:Shared}
end
section
variable {X:Cx}
end
end L2
namespace L2
open PySem PySem.Spec PySem.W PyProof.Rows
theorem oF {K:Kq}{F:Hp}{v:V}{d:D}{k:Key}(r:Rep K F v d)(h:gZ d=some k):v=kV k:=by
 cases d with
 | int i=>cases h;cases r;rfl
 | str x=>cases h;cases r;rfl
 | _=>cases h
section
variable {X:Cx} {e i o:Expr} {pos p:Pos} {fk fd fe:Dd}
def pQ:D→D→Option D
 | y,.dK kvs=>(gZ y).map fun k=>.bl (!(cy kvs k).isSome)
 | _,_=>none
theorem u5 (hu:X.A.units+64<cLine)(hi:PDE X i fk)(ho:PDR X o fd)(h1:behindInMarks .NotIn o=false:=by first | exact gO _ (by decide) (by decide) | rfl):PDT X (.Compare i [.NotIn] [o] pos) (asB (d2 pQ fk fd)):=(pw (rZ (by omega) hi ho) h1).imp fun σ H Q=>un7 fun P F ρ b hf I k=>by
 have hf:=ll hf
 unfold d2 at hf
 cases qb:fk ρ with
 | none=>rw[qb] at hf;cases hf
 | some dy=>
 cases qa:fd ρ with
 | none=>rw[qb,Ya,qa] at hf;cases hf
 | some dx=>
 rw[qb,Ya,qa,Ya] at hf
 cases dx with
 | dK kvs=>
  have hf':((gZ dy).map fun k=>D.bl (!(cy kvs k).isSome))=some (.bl b):=hf
  cases qk:gZ dy with
  | none=>rw[qk] at hf';cases hf'
  | some ks=>
   rw[qk] at hf'
   cases hf'
   refine⟨P,F,ρ,_,qb,I,fun y F1 H1 e1 ry=>⟨P,F1,ρ,_,qa,I.evo e1,fun x F2 H2 e2 rx=>?_⟩⟩
   obtain⟨p,vs,rfl,h1,h2⟩:=mL ((I.evo e1).evo e2) rx
   have ek:=oF (ry.same e2.ext) qk
   subst ek
   refine⟨p,_,rfl,DGet.k h1,_,rfl,?_⟩
   have:(cH vs ks).isSome=(cy kvs ks).isSome:=by
    rcases h2.val (k:=ks) with⟨z1,z2⟩ | ⟨v,d',z1,z2,z3⟩
    ·rw[z1,z2];rfl
    ·rw[z1,z2];rfl
   rw[this]
   exact k F2 H2 (e1.trans e2)
 | _=>cases hf
end
end L2
namespace L2
open PySem PySem.Spec PyProof.Rows
variable {X:Cx}
theorem tp:CallR X (.builtin "len") (fun xs H Q=>∃ a kvs,xs=[V.ref a]∧H a=some (.dK kvs)∧Q (.int kvs.length) H):=by
 intro pz s σ H xs us Q I r h
 obtain⟨a,kvs,rfl,ha,q⟩:=h
 obtain⟨u,rfl,ru⟩:=fU r
 cases ru
 exact CU I (.inl ha) fun t s' I'=>⟨.int kvs.length,H,I',⟨t,rfl⟩,q⟩
section
variable {X:Cx} {e o i:Expr} {es:List Expr} {p pos apos cpos:Pos} {f:DX} {g:DXs} {fd fk:Dd}
def kL (g:DXs):DX:=fun ρ=>(g ρ).bind fun r=>if r.1.length≤16777216 then some (.tup r.1,r.2) else none
theorem DInv.laid {K:Kq}{P F H:Hp}{ρ:DF}{σ:St}(I:DInv K P F H ρ σ){a:Addr}{o:HO}(hn:H a=none):DInv K P (upd F a o) (upd H a o) ρ σ:=I.evo (Evo.laid I.toDHp hn)
theorem BU {x1}(h:PAX X es g):PX X (.Tuple es x1 pos) (kL g):=(v5 h).imp fun σ H Q=>un7 fun P F ρ d hf I k=>by
 obtain⟨r,q,hf⟩:=Ye.mp hf
 split at hf
 ·rename_i hl
  cases hf
  refine⟨P,F,ρ,r,q,I,fun vs F1 H1 e1 I1 r1=>⟨by rw[r1.length,YK];exact hl,fun p hp=>?_⟩⟩
  have hF:=(I1.toDHp.free hp).1
  exact k (.ref p) _ _ (e1.trans (de hF)) (I1.laid hp) (.tup aw (r1.same (de hF)))
 ·cases hf
def ny:D→D→Option D
 | y,.dK kvs=>(gZ y).map fun k=>.bl (cy kvs k).isSome
 | _,_=>none
theorem qo (hu:X.A.units+64<cLine)(hi:PDE X i fk)(ho:PDR X o fd)(h1:behindInMarks .In o=false:=by first | exact gO _ (by decide) (by decide) | rfl):PDT X (.Compare i [.In] [o] pos) (asB (d2 ny fk fd)):=(pw (BS (by omega) hi ho) h1).imp fun σ H Q=>un7 fun P F ρ b hf I k=>by
 have hf:=ll hf
 obtain⟨dy,qb,hf⟩:=Ye.mp hf
 obtain⟨dx,qa,hf⟩:=Ye.mp hf
 cases dx with
 | dK kvs=>
  obtain⟨ks,qk,hf⟩:=ax hf
  cases hf
  refine⟨P,F,ρ,_,qb,I,fun y F1 H1 e1 ry=>⟨P,F1,ρ,_,qa,I.evo e1,fun x F2 H2 e2 rx=>?_⟩⟩
  obtain⟨p,vs,rfl,h1,h2⟩:=mL ((I.evo e1).evo e2) rx
  have ek:=oF (ry.same e2.ext) qk
  subst ek
  refine⟨p,_,rfl,DGet.k h1,_,rfl,?_⟩
  have:(cH vs ks).isSome=(cy kvs ks).isSome:=by
   rcases h2.val (k:=ks) with⟨z1,z2⟩ | ⟨v,d',z1,z2,z3⟩
   ·rw[z1,z2];rfl
   ·rw[z1,z2];rfl
  rw[this]
  exact k F2 H2 (e1.trans e2)
 | _=>cases hf
def wa:D→Option D
 | .dK kvs=>some (.int kvs.length)
 | _=>none
theorem qM (hg:Gl X "len")(hm:X.mg "len"=none)(ha:PDR X e fd)(hs:starEach [e] X.env=[(false,eval e X.env)]:=by rfl)(hpl:(backTo pos (starEach [] X.env)).any (·.1)=false:=by rfl) :
  PDE X (.Call (.Name "len" p) [e] [] pos) (d1 wa fd):=
 (df tp hg hm PySem.boot_len (aH ha a9 hs) (by decide) (by decide) hs hpl).imp fun σ H Q=>un7 fun P F ρ d hf I k=>by
  obtain⟨dx,q1,hf⟩:=Ye.mp hf
  cases dx with
  | dK kvs=>
   cases hf
   refine⟨P,F,ρ,_,q1,I,fun x F1 H1 e1 rx=>?_⟩
   obtain⟨a,vs,rfl,h1,h2⟩:=mL (I.evo e1) rx
   exact⟨a,vs,rfl,h1,k _ F1 H1 e1 (by rw[h2.length];exact .int)⟩
  | _=>cases hf
end
abbrev GL:=List (Str×Nat×Int×Nat)
def glE (P:Params)(p:Str×Nat×Int×Nat):DictEntry:=⟨PyData.keyHash P p.1,.str p.1 p.2.1,.int p.2.2.1 p.2.2.2⟩
structure KD (K:PySem.W.Frag) (P:Params) (d:Addr) (L:GL) (ep:Nat):Prop where
 look:K.lookup d=some { cls:=.type "dict",data:=.dict (L.map (glE P)).toArray ep }
 nd:(L.map (·.1)).Nodup
 ns:(d == sysModules)=false
def glV (L:GL):List (Key×Value):=L.map fun p=>(Sum.inr p.1,.int p.2.2.1 p.2.2.2)
def glN (L:GL)(x:Str):Option Int:=(L.find? (·.1 == x)).map (·.2.2.1)
theorem KD.dict {prog:Program}{w:World}{K:Kq}{d:Addr}{L:GL}{ep:Nat}{h:Heap}(k:KD K w.params d L ep)(X:K.In h):h.DictOf (bp prog w) d (glV L):=by
 refine⟨_,_,ep,X _ _ k.look,⟨rfl,rfl,rfl⟩,rfl,fun e m=>?_,?_,?_⟩
 ·obtain⟨p,_,rfl⟩:=Yo.mp (Array.mem_toList_iff.mpr m)
  exact⟨.inr p.1,d_ p.1 p.2.1,rfl⟩
 ·have z:∀ L:GL,Pairs (bp prog w) (L.map (glE w.params)) (glV L):=fun L=>by
   induction L with
   | nil=>exact .nil
   | cons p r ih=>exact .cons (d_ p.1 p.2.1) rfl ih
  simpa using z L
 ·have e:(glV L).map (·.1)=(L.map (·.1)).map Sum.inr:=by unfold glV;rw[Zg,Zg];rfl
  rw[e]
  exact List.Pairwise.map _ (fun a b n z=>n (Sum.inr.inj z)) k.nd
theorem wc (L:GL)(x:Str):(∃ n t,glN L x=some n∧valueAt (glV L) (.inr x)=some (.int n t))∨(glN L x=none∧valueAt (glV L) (.inr x)=none):=by
 induction L with
 | nil=>exact .inr ⟨rfl,rfl⟩
 | cons p r ih=>
  unfold glN glV valueAt at ih ⊢
  rw[YA,Zc,Zc]
  by_cases e:p.1=x
  ·rw[show (p.1 == x)=true from Xg.mpr e,show decide ((Sum.inr p.1:Key)=Sum.inr x)=true from by rw[e];simp]
   exact .inl ⟨_,_,rfl,rfl⟩
  ·rw[show (p.1 == x)=false from Zm.mpr e,show decide ((Sum.inr p.1:Key)=Sum.inr x)=false from by rw[pC,Yk e]]
   exact ih
def inG (L:GL):D→Option D
 | .str x=>some (.bl (glN L x).isSome)
 | _=>none
def xx (L:GL):D→Option D
 | .str x=>(glN L x).map .int
 | _=>none
section
variable {X:Cx} {i:Expr} {p pos:Pos} {f:Dd} {x:Str} {d:Addr} {L:GL} {ep:Nat}
theorem ug (hg:Gl X x)(hm:X.mg x=some (.ref d))(k:KD X.K X.w.params d L ep)(hi:PDE X i f)(hd:(x == ("__debug__":Str))=false:=by decide)(h1:behindInMarks .In (.Name x p)=false:=by first | exact gO _ (by decide) (by decide) | rfl):PDT X (.Compare i [.In] [.Name x p] pos) (asB (d1 (inG L) f)):=by
 have pc:PC X .In i (.Name x p) (fun σ H Q=>tD X.K f σ H fun y H1=>∃ t,y=.str t∧Q (.bl (glN L t).isSome) H1):=by
  intro pz s σ H Q I h
  refine aT (hi pz s σ H _ I h) fun iv s1 y H1 I1 ry q1=>gE I1 hg hm ?_ hd
  obtain⟨t,rfl,q⟩:=q1
  obtain⟨tk,rfl⟩:=ry
  refine wpAny_in_of (k:=(Sum.inr t:Key)) (d_ t tk) k.ns (k.dict I1.kIn).mapOf ⟨_,H1,I1.tok _,?_,q⟩
  rcases wc L t with⟨n,u,e1,e2⟩ | ⟨e1,e2⟩
  ·rw[e1,e2];rfl
  ·rw[e1,e2];rfl
 refine PT.imp (pw pc h1) fun σ H Q=>un7 fun P F ρ b hf I kk=>?_
 have hf:=ll hf
 obtain⟨dy,qb,hf⟩:=Ye.mp hf
 cases dy with
 | str t=>
  cases hf
  refine⟨P,F,ρ,_,qb,I,fun y F1 H1 e1 ry=>?_⟩
  cases ry
  exact⟨t,rfl,_,rfl,kk F1 H1 e1⟩
 | _=>cases hf
theorem wQ (hg:Gl X x)(hm:X.mg x=some (.ref d))(k:KD X.K X.w.params d L ep)(hi:PDE X i f)(hd:(x == ("__debug__":Str))=false:=by decide)(hs:k_ i:=by exact fun _ _=>rfl):PDE X (.Subscript (.Name x p) i pos) (d1 (xx L) f):=by
 have pe:PE X (.Subscript (.Name x p) i pos) (fun σ H Q=>tD X.K f σ H fun y H1=>∃ t n,y=.str t∧glN L t=some n∧Q (.int n) H1):=by
  intro pz s σ H Q I h
  refine rB PySem.F.slot_dict_getitem.lookup hs (gE I hg hm (aT (hi pz s σ H _ I h) fun iv s2 y H2 I2 ry hh_=>?_) hd)
  obtain⟨t,n,rfl,en,q⟩:=hh_
  obtain⟨tk,rfl⟩:=ry
  refine⟨(k.dict (prog:=X.prog) I2.kIn).typeIs,?_⟩
  rcases wc L t with⟨n',u,e1,e2⟩ | ⟨e1,e2⟩
  ·rw[en] at e1
   cases e1
   exact wpAny_getItem_of (k:=(Sum.inr t:Key)) (d_ t tk) (k.dict I2.kIn).mapOf e2 ⟨.int n,H2,I2.tok _,⟨u,rfl⟩,q⟩
  ·rw[en] at e1;cases e1
 refine pe.imp fun σ H Q=>un7 fun P F ρ b hf I kk=>?_
 obtain⟨dy,qb,hf⟩:=Ye.mp hf
 cases dy with
 | str t=>
  obtain⟨n,e,rfl⟩:=ax hf
  refine⟨P,F,ρ,_,qb,I,fun y F1 H1 e1 ry=>?_⟩
  cases ry
  exact⟨t,n,rfl,e,kk _ F1 H1 e1 .int⟩
 | _=>cases hf
end
section
variable {X:Cx} {e o:Expr} {p pos apos cpos:Pos} {fa fb:Dd}
def yn:D→Option D
 | .str x=>if x.length≤640 then (intText? x).map .int else none
 | _=>none
theorem sZ:CallR X (.type "int") (fun xs H Q=>∃ x n,xs=[.str x]∧intText? x=some n∧x.length≤640∧Q (.int n) H):=by
 intro pz s σ H xs us Q I r h
 obtain⟨x,n,rfl,h1,h2,q⟩:=h
 obtain⟨u,rfl,t,rfl⟩:=fU r
 exact PySem.W.KIN.call_text h1 h2 ⟨.int n,H,I.tok _,⟨_,rfl⟩,q⟩
theorem wX (hg:Gl X "int")(hm:X.mg "int"=none)(ha:PDN X e fa)(hs:starEach [e] X.env=[(false,eval e X.env)]:=by rfl) :
  PDE X (.Call (.Name "int" p) [e] [] pos) (d1 yn fa):=
 (fJ sZ hg hm boot_int (aH ha a9 hs) (he:=hs)).imp (lT (show wL X.K _ yn from by
  intro P F H x dx d Q hf hp rx k
  unfold yn at hf
  split at hf
  ·split at hf
   ·rename_i x hl
    obtain⟨n,h1,rfl⟩:=ax hf
    cases rx
    exact⟨_,n,rfl,h1,hl,k _ F H (Evo.refl hp) .int⟩
   ·cases hf
  ·cases hf))
def fB:D→Option D
 | .int n=>if n.natAbs.log2<1920 then some (.str (toString n)) else none
 | _=>none
theorem rW:CallR X (.type "str") (fun xs H Q=>∃ n,xs=[.int n]∧n.natAbs.log2<1920∧Q (.str (toString n)) H):=by
 intro pz s σ H xs us Q I r h
 obtain⟨n,rfl,h1,q⟩:=h
 obtain⟨u,rfl,t,rfl⟩:=fU r
 exact PySem.P.str_of_int h1 ⟨.str (toString n),H,I.tok _,⟨_,rfl⟩,q⟩
theorem lX (hg:Gl X "str")(hm:X.mg "str"=none)(ha:PDN X e fa)(hs:starEach [e] X.env=[(false,eval e X.env)]:=by rfl) :
  PDE X (.Call (.Name "str" p) [e] [] pos) (d1 fB fa):=
 (fJ rW hg hm boot_str (aH ha a9 hs) (he:=hs)).imp (lT (show wL X.K _ fB from by
  intro P F H x dx d Q hf hp rx k
  unfold fB at hf
  split at hf
  ·split at hf
   ·rename_i n hl
    cases hf
    cases rx
    exact⟨_,rfl,hl,k _ F H (Evo.refl hp) .str⟩
   ·cases hf
  ·cases hf))
def qu (x y:Str):Int:=match Builtin.Str.occurrences x y 0 x.length 1 with | i::_=>(i:Int) | []=>-1
def qz:D→D→Option D
 | .str x,.str y=>some (.int (qu x y))
 | _,_=>none
theorem yo:MtR X "str.find" (fun x vs H Q=>∃ a b,x=.str a∧vs=[.str b]∧Q (.int (qu a b)) H):=by
 intro pz s σ H x vs v us Q I rx rvv h
 obtain⟨a,b,rfl,rfl,q⟩:=h
 obtain⟨t,rfl⟩:=rx
 obtain⟨u,rfl,t2,rfl⟩:=rvv.one
 exact call_gives PySem.F.slot_str_find rfl PySem.F.entry_str_find (PySem.F.args_str_find_2 _ _) (gives_str_find a b t t2) ⟨.int (qu a b),H,I.tok _,⟨_,rfl⟩,q⟩
theorem xS (ho:PDN X o fa)(ha:PDN X e fb)(hbase:attributeBase o "find" X.env (eval o X.env)=eval o X.env:=by rfl)
  (hfew:((backTo cpos (starEach [e] X.env)).all (fun x=>!x.1)&&(backToKw cpos (keywordEach [] X.env)).all (fun x=>x.1.isSome)
   && decide (([e]:List Expr).length+([]:List Keyword).length+(if ([]:List Keyword).isEmpty then 0 else 1)<30))=true:=by rfl)
  (hline:(apos.endLine == cpos.line)=true:=by rfl) (hs:starEach [e] X.env=[(false,eval e X.env)]:=by rfl) :
  PDE X (.Call (.Attribute o "find" apos) [e] [] cpos) (d2 qz fa fb):=
 (iC PySem.F.plainAttrs_str PySem.F.slot_str_find PySem.F.type_str_find yo ho (aH ha a9 hs) hbase hfew hline hs rfl).imp fun σ H Q=>un7 fun P F ρ d hf I k=>by
  obtain⟨dx,qa,hf⟩:=Ye.mp hf
  obtain⟨dy,qb,hf⟩:=Ye.mp hf
  unfold qz at hf
  split at hf
  ·cases hf
   refine⟨P,F,ρ,_,qa,I,fun x F1 H1 e1 rx=>?_⟩
   cases rx
   refine⟨rfl,P,F1,ρ,_,qb,I.evo e1,fun y F2 H2 e2 ry=>?_⟩
   cases ry
   exact⟨_,_,rfl,rfl,k _ F2 H2 (e1.trans e2) .int⟩
  ·cases hf
end
abbrev AW:=Nat ⊕ D
def awX (ρ:DF):List AW→Option (List DV)
 | []=>some []
 | .inl i::r=>match ρ[i]? with
  | some (some (.own o _))=>(awX ρ r).map (.own o none::·)
  | _=>none
 | .inr d::r=>(awX ρ r).map (.v d::·)
def awS:List AW→List Nat
 | []=>[]
 | .inl i::r=>i::awS r
 | .inr _::r=>awS r
def awB (ρ:DF):List AW→List DV→Option DF
 | [],[]=>some ρ
 | .inl i::r,.own o _::xs=>match ρ[i]? with
  | some (some (.own _ t))=>awB (ρ.set i (some (.own o t))) r xs
  | _=>none
 | .inr _::r,_::xs=>awB ρ r xs
 | _,_=>none
inductive ArgsW (K:PySem.W.Frag) (F:Hp) (σ:St):List AW→List V→Prop
 | nil:ArgsW K F σ [] []
 | slot {i:Nat} {v:V} {L:List AW} {vs:List V}:σ[i]?=some (some v)→ArgsW K F σ L vs→ArgsW K F σ (.inl i::L) (v::vs)
 | val {d:D} {v:V} {L:List AW} {vs:List V}:Rep K F v d→ArgsW K F σ L vs→ArgsW K F σ (.inr d::L) (v::vs)
theorem fL:∀ {L:List AW} {k i:Nat},L[k]?=some (.inl i)→i∈awS L
 | [],k,i,h=>by cases k <;> cases h
 | .inl j::r,0,i,h=>by cases h;exact Yf
 | .inl j::r,k+1,i,h=>Yd _ (fL (L:=r) (k:=k) h)
 | .inr d::r,0,i,h=>by cases h
 | .inr d::r,k+1,i,h=>fL (L:=r) (k:=k) h
theorem mC:∀ {L:List AW} {k k' i:Nat},(awS L).Nodup→L[k]?=some (.inl i)→L[k']?=some (.inl i)→k=k'
 | [],k,k',i,_,h,_=>by cases k <;> cases h
 | .inl j::r,0,0,i,_,_,_=>rfl
 | .inl j::r,0,k' + 1,i,nd,h,h'=>by cases h;exact absurd (fL (L:=r) (k:=k') h') (YD.mp nd).1
 | .inl j::r,k+1,0,i,nd,h,h'=>by cases h';exact absurd (fL (L:=r) (k:=k) h) (YD.mp nd).1
 | .inl j::r,k+1,k' + 1,i,nd,h,h'=>YN Nat.succ (mC (L:=r) (YD.mp nd).2 h h')
 | .inr d::r,0,_,i,_,h,_=>by cases h
 | .inr d::r,k+1,0,i,_,_,h'=>by cases h'
 | .inr d::r,k+1,k' + 1,i,nd,h,h'=>YN Nat.succ (mC (L:=r) nd h h')
theorem yP {K:Kq}{F:Hp}{σ:St}{ρ:DF}{L:List AW}{vs:List V}(A:ArgsW K F σ L vs):∀ {xs:List DV},awX ρ L=some xs→xs.length=vs.length∧∀ (k:Nat) (x:DV),xs[k]?=some x→
  (∃ i o t v,L[k]?=some (.inl i)∧ρ[i]?=some (some (.own o t))∧x=.own o none∧vs[k]?=some v∧σ[i]?=some (some v))∨∃ d v,L[k]?=some (.inr d)∧x=.v d∧vs[k]?=some v∧Rep K F v d:=by
 induction A with
 | nil=>intro xs h;cases h;exact⟨rfl,fun k x h=>by cases k <;> cases h⟩
 | @slot i v L vs hs A ih=>
  intro xs h
  unfold awX at h
  split at h
  ·rename_i o t q
   obtain⟨ys,hy,rfl⟩:=ax h
   obtain⟨l,ih⟩:=ih hy
   refine⟨YN Nat.succ l,fun k x hx=>?_⟩
   cases k with
   | zero=>cases hx;exact .inl ⟨i,o,t,v,rfl,q,rfl,rfl,hs⟩
   | succ k=>exact ih k x hx
  ·cases h
 | @val d v L vs r A ih=>
  intro xs h
  obtain⟨ys,hy,rfl⟩:=ax h
  obtain⟨l,ih⟩:=ih hy
  refine⟨YN Nat.succ l,fun k x hx=>?_⟩
  cases k with
  | zero=>cases hx;exact .inr ⟨d,v,rfl,rfl,rfl,r⟩
  | succ k=>exact ih k x hx
theorem lJ:∀ {L:List AW} {ρ ρ':DF} {xs:List DV},(awS L).Nodup→awB ρ L xs=some ρ'→ρ'.length=ρ.length∧∀ (j:Nat) (x:DV),ρ'[j]?=some (some x)→
  (∃ (k:Nat) (o o0:OD) (t t':Option Addr),L[k]?=some (Sum.inl j)∧xs[k]?=some (DV.own o t')∧ρ[j]?=some (some (DV.own o0 t))∧x=DV.own o t)∨(j∉awS L∧ρ[j]?=some (some x))
 | [],ρ,ρ',xs,_,h=>by
  cases xs with
  | nil=>cases h;exact⟨rfl,fun j x hx=>.inr ⟨nofun,hx⟩⟩
  | cons _ _=>cases h
 | .inl i::r,ρ,ρ',xs,nd,h=>by
  cases xs with
  | nil=>cases h
  | cons y xs=>
   cases y with
   | own o t0=>
    have h:(match ρ[i]? with | some (some (.own _ t))=>awB (ρ.set i (some (.own o t))) r xs | _=>none)=some ρ':=h
    split at h
    ·rename_i o0 t q
     obtain⟨l,ih⟩:=lJ (L:=r) (YD.mp nd).2 h
     refine⟨by rw[l,YZ],fun j x hx=>?_⟩
     rcases ih j x hx with⟨k,o1,o2,t1,t2,h1,h2,h3,h4⟩ | ⟨h1,h2⟩
     ·have hj:i≠j:=fun z=>(YD.mp nd).1 (z ▸ fL h1)
      rw[Zi hj] at h3
      exact .inl ⟨k+1,o1,o2,t1,t2,h1,h2,h3,h4⟩
     ·rcases dN h2 with⟨rfl,e,_⟩ | ⟨hij,h3⟩
      ·cases e;exact .inl ⟨0,o,o0,t,t0,rfl,rfl,q,rfl⟩
      ·exact .inr ⟨fun m=>(YC.mp m).elim (fun z=>hij z.symm) h1,h3⟩
    ·cases h
   | v d=>cases h
   | bor o=>cases h
 | .inr d::r,ρ,ρ',xs,nd,h=>by
  cases xs with
  | nil=>cases h
  | cons y xs=>
   have h:awB ρ r xs=some ρ':=by cases y <;> exact h
   obtain⟨l,ih⟩:=lJ (L:=r) nd h
   refine⟨l,fun j x hx=>?_⟩
   rcases ih j x hx with⟨k,o1,o2,t1,t2,h1,h2,h3⟩ | h
   ·exact .inl ⟨k+1,o1,o2,t1,t2,h1,h2,h3⟩
   ·exact .inr h
theorem DInv.handW {K:Kq}{P F H:Hp}{ρ:DF}{σ:St}{L:List AW}{vs:List V}{xs:List DV}(I:DInv K P F H ρ σ)(A:ArgsW K F σ L vs)(hx:awX ρ L=some xs)(nd:(awS L).Nodup) :
  ∃ S:Addr→Prop,DInv K (gdS F H S) F H (xs.map some) (vs.map some)∧∀ {F2 H2:Hp} {xs':List DV} {ρ':DF},Same F F2→DInv K (gdS F H S) F2 H2 (xs'.map some) (vs.map some)→awB ρ L xs'=some ρ'→DInv K P F2 H2 ρ' σ:=by
 obtain⟨O,hR⟩:=I.rep
 obtain⟨hl,hg⟩:=yP A hx
 refine⟨fun b=>∃ i∈awS L,O b=some i∧P b=none,⟨uF I.sub _,by rw[Yb,Yb,hl],fun b=>open Classical in if h:∃ k i,L[k]?=some (Sum.inl i)∧O b=some i then some h.choose else none,fun k x hk=>?_⟩,fun {F2 H2 xs' ρ'} e2 J hb=>?_⟩
 ·rw[YH] at hk
  obtain⟨x',hx',e⟩:=ax hk
  cases e
  rcases hg k _ hx' with⟨i,o,t,v,h1,h2,rfl,h3,h4⟩ | ⟨d,v,_,rfl,h3,h4⟩
  ·obtain⟨v',g1,a,rfl,g2,_⟩:=hR i _ h2
   rw[h4] at g1
   cases g1
   refine⟨_,by rw[YH,h3];rfl,a,rfl,g2.mono (Same.refl _) fun b u q hb=>⟨hb,q.1,?_,?_⟩,fun _ z=>by cases z⟩
   ·unfold gdS
    exact Yh ⟨i,fL h1,q.2.2,q.2.1⟩
   ·have ex:∃ k i,L[k]?=some (Sum.inl i)∧O b=some i:=⟨k,i,h1,q.2.2⟩
    refine (dif_pos ex).trans ?_
    obtain⟨i',c1,c2⟩:=ex.choose_spec
    rw[q.2.2] at c2
    cases c2
    exact YN some (mC nd c1 h1)
  ·exact⟨v,by rw[YH,h3];rfl,h4⟩
 ·obtain⟨l',hb⟩:=lJ nd hb
  obtain⟨O2,hJ⟩:=J.rep
  have keep:∀ b u,(¬ ∃ i∈awS L,O b=some i∧P b=none)→F b=none→H b=some u→H2 b=some u∧F2 b=none:=fun b u hb n q=>⟨J.pro b u (fG.mpr ⟨hb,n,q⟩),J.dis b u (fG.mpr ⟨hb,n,q⟩)⟩
  have kp:∀ b u,P b=some u→H2 b=some u∧F2 b=none:=fun b u q=>keep b u (fun ⟨_,_,_,z⟩=>by rw[z] at q;cases q) (I.dis b u q) (I.pro b u q)
  refine⟨⟨J.sub,fun b u q=>(kp b u q).1,fun b u q=>(kp b u q).2⟩,by rw[l'];exact I.len,fun b=>open Classical in if H b=none∨∃ i∈awS L,O b=some i∧P b=none then (O2 b).bind fun k=>match L[k]? with | some (.inl i)=>some i | _=>none else O b,fun j z hj=>?_⟩
  rcases hb j z hj with⟨k,o,o0,t,t',h1,h2,h3,rfl⟩ | ⟨h1,h2⟩
  ·obtain⟨v,g1,a,rfl,g2,gt⟩:=hR j _ h3
   obtain⟨w,e1,a',rfl,e2',_⟩:=hJ k (.own o t') (by rw[YH,h2];rfl)
   have hv:vs[k]?=some (.ref a):=by
    have:∃ x,xs[k]?=some x:=by
     have:k<xs.length:=by
      rw[YH] at e1
      obtain⟨y,hy,_⟩:=ax e1
      rw[hl]
      exact (YM.mp hy).1
     exact⟨_,Yv this⟩
    obtain⟨x,hx'⟩:=this
    rcases hg k x hx' with⟨i,o1,t1,v,c1,c2,_,c3,c4⟩ | ⟨d,v,c1,_⟩
    ·rw[h1] at c1
     cases c1
     rw[g1] at c4
     cases c4
     exact c3
    ·rw[h1] at c1;cases c1
   rw[YH,hv] at e1
   cases e1
   refine⟨_,g1,a,rfl,e2'.mono (Same.refl _) fun b u q hb=>⟨hb,q.1,?_⟩,gt⟩
   have n:F b=none:=by
    cases c:F b with
    | none=>rfl
    | some w=>have:=e2 b w c;rw[q.1] at this;cases this
   have s:H b=none∨∃ i∈awS L,O b=some i∧P b=none:=by
    cases c:H b with
    | none=>exact .inl rfl
    | some w=>
     refine .inr (Classical.byContradiction fun s=>?_)
     have:=(fG (S:=fun b=>∃ i∈awS L,O b=some i∧P b=none)).mpr ⟨s,n,c⟩
     rw[q.2.1] at this
     cases this
   refine⟨s.elim (fun c=>I.pro.free c) fun ⟨_,_,_,z⟩=>z,(Yh s).trans ?_⟩
   rw[q.2.2,Ya,h1]
  ·obtain⟨w,e1,e3⟩:=hR j z h2
   refine⟨w,e1,?_⟩
   cases z with
   | v d'=>exact Rep.same e2 e3
   | own od t'=>
    obtain⟨c,rfl,e4,ht'⟩:=e3
    refine⟨c,rfl,e4.mono e2 fun b w' q hb=>?_,ht'⟩
    have s:¬ ∃ i∈awS L,O b=some i∧P b=none:=fun ⟨i,m,z,_⟩=>by rw[q.2.2] at z;cases z;exact h1 m
    obtain⟨k1,k2⟩:=keep b w' s q.1 hb
    exact⟨k1,k2,q.2.1,(Yr (fun z=>z.elim (fun c=>by rw[hb] at c;cases c) s)).trans q.2.2⟩
   | bor od=>(obtain⟨c,rfl,e4⟩:=e3;exact⟨c,rfl,e4.mono e2 fun b u q hb=>⟨hb,q⟩⟩)
abbrev MW:=List DV→Option (List DV×D)
def spW (K:Kq)(f:MW):Sp:=fun vs H Q _=>∃ P F xs r,f xs=some r∧DInv K P F H (xs.map some) (vs.map some)∧∀ v F' H',Same F F'→DInv K P F' H' (r.1.map some) (vs.map some)→Rep K F' v r.2→Q v H'
def oV (as:Nat→Addr):Nat→List DV→List DV
 | _,[]=>[]
 | k,.own o _::r=>.own o (some (as k))::oV as (k+1) r
 | k,x::r=>x::oV as (k+1) r
def fw (as:Nat→Addr)(ρ:DF):Nat→List DV→Option (List DV)
 | _,[]=>some []
 | k,.own _ _::r=>match ρ[k]? with
  | some (some (.own o t))=>if t=some (as k) then (fw as ρ (k+1) r).map (.own o none::·) else none
  | _=>none
 | k,x::r=>(fw as ρ (k+1) r).map (x::·)
theorem nz (as:Nat→Addr):∀ (n:Nat) (xs:List DV),(oV as n xs).length=xs.length
 | _,[]=>rfl
 | n,x::r=>by cases x <;> exact YN Nat.succ (nz as (n+1) r)
theorem gx (as:Nat→Addr):∀ (n:Nat) (xs:List DV) (k:Nat) (x:DV),(oV as n xs)[k]?=some x→(∃ o t,xs[k]?=some (.own o t)∧x=.own o (some (as (n+k))))∨((∀ o t,x≠.own o t)∧xs[k]?=some x)
 | n,[],k,x,h=>by cases k <;> cases h
 | n,.own o t::r,0,x,h=>by cases h;exact .inl ⟨o,t,rfl,rfl⟩
 | n,.v d::r,0,x,h=>by cases h;exact .inr ⟨nofun,rfl⟩
 | n,.bor o::r,0,x,h=>by cases h;exact .inr ⟨nofun,rfl⟩
 | n,.own o t::r,k+1,x,h=>by have:=gx as (n+1) r k x h;rw[Ze,ZE] at this;exact this
 | n,.v d::r,k+1,x,h=>by have:=gx as (n+1) r k x h;rw[Ze,ZE] at this;exact this
 | n,.bor o::r,k+1,x,h=>by have:=gx as (n+1) r k x h;rw[Ze,ZE] at this;exact this
theorem fP {as:Nat→Addr}{ρ:DF}:∀ {n:Nat} {xs ys:List DV},fw as ρ n xs=some ys→ys.length=xs.length∧∀ (k:Nat) (y:DV),ys[k]?=some y→(∃ o o0 t0,xs[k]?=some (.own o0 t0)∧ρ[n+k]?=some (some (.own o (some (as (n+k)))))∧y=.own o none)∨((∀ o t,y≠.own o t)∧xs[k]?=some y)
 | n,[],ys,h=>by cases h;exact⟨rfl,fun k y h=>by cases k <;> cases h⟩
 | n,.own o0 t0::r,ys,h=>by
  have h:(match ρ[n]? with | some (some (.own o t))=>if t=some (as n) then (fw as ρ (n+1) r).map (.own o none::·) else none | _=>none)=some ys:=h
  split at h
  ·rename_i o t q
   split at h
   ·rename_i e
    obtain⟨zs,hz,rfl⟩:=ax h
    obtain⟨l,ih⟩:=fP hz
    refine⟨YN Nat.succ l,fun k y hy=>?_⟩
    cases k with
    | zero=>cases hy;exact .inl ⟨o,o0,t0,rfl,by rw[Nat.add_zero,q,e],rfl⟩
    | succ k=>have:=ih k y hy;rw[Ze,ZE] at this;exact this
   ·cases h
  ·cases h
 | n,.v d::r,ys,h=>by
  obtain⟨zs,hz,rfl⟩:=ax h
  obtain⟨l,ih⟩:=fP hz
  refine⟨YN Nat.succ l,fun k y hy=>?_⟩
  cases k with
  | zero=>cases hy;exact .inr ⟨nofun,rfl⟩
  | succ k=>have:=ih k y hy;rw[Ze,ZE] at this;exact this
 | n,.bor o::r,ys,h=>by
  obtain⟨zs,hz,rfl⟩:=ax h
  obtain⟨l,ih⟩:=fP hz
  refine⟨YN Nat.succ l,fun k y hy=>?_⟩
  cases k with
  | zero=>cases hy;exact .inr ⟨nofun,rfl⟩
  | succ k=>have:=ih k y hy;rw[Ze,ZE] at this;exact this
def nn (as:Nat→Addr)(xs:List DV):RES→Option (List DV×D)
 | .nx ρ=>(fw as ρ 0 xs).map (·,.non)
 | .rt (.v d) ρ=>(fw as ρ 0 xs).map (·,d)
 | _=>none
def zZ (n p:Nat)(g:Dw)(xs:List DV)(q:List DV×D):Prop:=xs.length=p∧∀ as,(g (bh n p (oV as 0 xs))).bind (nn as xs)=some q
noncomputable def iH (n p:Nat)(g:Dw):MW:=fun xs=>open Classical in if h:∃ q,zZ n p g xs q then some h.choose else none
theorem rA {n p:Nat}{g:Dw}{xs:List DV}{q:List DV×D}(h:iH n p g xs=some q):zZ n p g xs q:=by
 unfold iH at h
 split at h
 ·rename_i hq
  rw[← Yq h]
  exact hq.choose_spec
 ·cases h
theorem fN {n p:Nat}{g:Dw}{xs:List DV}{q:List DV×D}(hl:xs.length=p)(h:∀ as,(g (bh n p (oV as 0 xs))).bind (nn as xs)=some q):iH n p g xs=some q:=by
 have hq:∃ q,zZ n p g xs q:=⟨q,hl,h⟩
 unfold iH
 rw[dif_pos hq]
 have h1:=hq.choose_spec.2 fun _=>0
 rw[h fun _=>0] at h1
 exact h1.symm
theorem Fun.okW {P:Program}{w:World}{K:Kq}{mg:Ks}{base:Heap}{x qual:Str}{st:Stmt}{f:Addr}{fd:FuncData}{N ps:List Str}{k:Nat}{g:Dw}(F:Fun K x qual st f fd)(S:FnScope N ps (defScope st))
  (hbody:∀ {cdv:Value} {A:Around} {outer:List Env} {s:Shared} {H:Hp} {E:XK},Room k (A.deeper (envOfC qual (defScope st) s.heap.objs.size f cdv))→
   PDS (gG CX0 P w K mg base N qual (defScope st) f cdv A outer s H E).nox (defBody st) g):FnOk P w K mg base CX0 (k+1) f fd ps (spW K (iH N.length ps.length g)):=by
 refine F.ok S (fun vs H Q E hh_=>?_) fun cdv A outer s H vs Q E hr h=>?_
 ·obtain⟨P',F',xs,r,h1,J,_⟩:=hh_
  have l:=J.len
  rw[Yb,Yb] at l
  rw[← l]
  exact (rA h1).1
 ·refine⟨_,hbody hr,?_⟩
  obtain⟨P',F',xs,q,h1,J,hQ⟩:=h
  obtain⟨hl,hq⟩:=rA h1
  obtain⟨O,hR⟩:=J.rep
  have lv:xs.length=vs.length:=by have l:=J.len;rw[Yb,Yb] at l;exact l
  let as:Nat→Addr:=fun k=>match vs[k]? with | some (.ref a)=>a | _=>0
  have hRx:∀ (j:Nat) (x:DV),xs[j]?=some x→∃ v,vs[j]?=some v∧DVRep K P' F' H (fun b=>O b=some j) x v:=fun j x hx=>by
   obtain⟨v,e1,e2⟩:=hR j x (by rw[YH,hx];rfl)
   rw[YH] at e1
   obtain⟨v',hv,e⟩:=ax e1
   cases e
   exact⟨_,hv,e2⟩
  have asv:∀ j a,vs[j]?=some (.ref a)→as j=a:=fun j a e=>by show (match vs[j]? with | some (.ref a)=>a | _=>0)=a;rw[e]
  obtain⟨r,hg,he⟩:=Ye.mp (hq as)
  have I:DInv K P' F' H (bh N.length ps.length (oV as 0 xs)) (L2.start N vs):=by
   refine⟨J.toDHp,?_,O,fun i y e=>?_⟩
   ·unfold bh L2.start
    rw[Yc,Yc,Yb,Yb,Yw,Yw,nz,lv,← hl,lv]
   ·have e':=eR e
    rcases gx as 0 xs i y e' with⟨o,t,c1,rfl⟩ | ⟨_,c1⟩
    ·obtain⟨v,d1,a,rfl,d2,d3⟩:=hRx i _ c1
     exact⟨_,c7 d1,a,rfl,d2,fun b z=>by rw[Nat.zero_add,asv i a d1] at z;exact (Yq z).symm⟩
    ·obtain⟨v,d1,d2⟩:=hRx i _ c1
     exact⟨v,c7 d1,d2⟩
  refine⟨P',F',_,r,hg,I,?_⟩
  have fin:∀ (ρ:DF) (σ:St) (F2 H2:Hp) (ys:List DV),fw as ρ 0 xs=some ys→Same F' F2→DInv K P' F2 H2 ρ σ→DInv K P' F2 H2 (ys.map some) (vs.map some):=fun ρ σ F2 H2 ys hb e I2=>by
   obtain⟨l,hb⟩:=fP hb
   obtain⟨O2,hI⟩:=I2.rep
   refine⟨I2.toDHp,by rw[Yb,Yb,l,lv],O2,fun j z hj=>?_⟩
   rw[YH] at hj
   obtain⟨z',hz,ez⟩:=ax hj
   cases ez
   rcases hb j _ hz with⟨o,o0,t0,c1,c2,rfl⟩ | ⟨no,c1⟩
   ·obtain⟨v,d1,a,rfl,_,_⟩:=hRx j _ c1
    rw[Nat.zero_add] at c2
    obtain⟨v',_,a',rfl,d2,d3⟩:=hI j _ c2
    have ea:=d3 _ rfl
    rw[asv j a d1] at ea
    subst ea
    exact⟨_,by rw[YH,d1];rfl,a,rfl,d2,fun _ z=>by cases z⟩
   ·obtain⟨v,d1,d2⟩:=hRx j _ c1
    refine⟨v,by rw[YH,d1];rfl,?_⟩
    cases z with
    | v d=>exact Rep.same e d2
    | own o t=>exact absurd rfl (no o t)
    | bor o=>obtain⟨a,rfl,d3⟩:=d2;exact⟨a,rfl,d3.mono e fun b u q hb=>⟨hb,q⟩⟩
  cases r with
  | nx ρ=>
   obtain⟨ys,hb,rfl⟩:=ax he
   exact fun σ F2 H2 e I2=>hQ .non F2 H2 e (fin ρ σ F2 H2 ys hb e I2) .non
  | rt x ρ=>
   cases x with
   | v d=>
    obtain⟨ys,hb,rfl⟩:=ax he
    exact fun v σ F2 H2 e I2 rv=>hQ v F2 H2 e (fin ρ σ F2 H2 ys hb e I2) rv
   | own o t=>cases he
   | bor o=>cases he
  | bk ρ=>cases he
  | ct ρ=>cases he
theorem Df.okW {P:Program} {w:World} {K:Kq} {mg:Ks} {base:Heap} {q:Str} {st:Stmt} {f:Addr} {fd:FuncData} {k:Nat} {g:Dw} (F:Df K q st f fd) (N:List Str) (hb:∀ {cdv:Value} {A:Around} {outer:List Env} {s:Shared} {H:Hp} {E:XK},Room k (A.deeper (envOfC q (defScope st) s.heap.objs.size f cdv))→
      PDS (gG CX0 P w K mg base N q (defScope st) f cdv A outer s H E).nox (defBody st) g) (h:sR N (bY st) (defScope st)=true:=by kernel_rfl):FnOk P w K mg base CX0 (k+1) f fd (bY st) (spW K (iH N.length (bY st).length g)):=
  F.fn.okW (scI N h) hb
abbrev DWs:=DF→Option (List AW×DF)
def tLW (K:Kq)(g:DWs):TA:=fun σ H Q=>∃ P F ρ r,g ρ=some r∧DInv K P F H ρ σ∧∀ vs F' H',Same F F'→DInv K P F' H' r.2 σ→ArgsW K F' σ r.1 vs→Q vs H'
def PAW (X:Cx)(es:List Expr)(g:DWs):Prop:=PA X es (tLW X.K g)
def bv:DWs:=fun ρ=>some ([],ρ)
def aC (i:Nat)(g:DWs):DWs:=fun ρ=>match ρ[i]? with
 | some (some (.own _ _))=>(g ρ).map fun r=>(.inl i::r.1,r.2)
 | _=>none
def aJ (f:DX)(g:DWs):DWs:=fun ρ=>(f ρ).bind fun a=>(g a.2).map fun b=>(.inr a.1::b.1,b.2)
def aA (m:MW)(g:DWs):DX:=fun ρ=>(g ρ).bind fun a=>if (awS a.1).Nodup then (awX a.2 a.1).bind fun xs=>(m xs).bind fun r=>(awB a.2 a.1 r.1).map fun ρ'=>(r.2,ρ') else none
section
variable {X:Cx} {e:Expr} {es:List Expr} {g:DWs} {f:DX}
theorem bz:PAW X [] bv:=a9.imp fun σ H Q=>un7 fun P F ρ r hr I k=>by
 cases hr
 exact k [] F H (Same.refl _) I .nil
theorem aI (i:Nat)(h:PE X e (ce i))(t:PAW X es g)(hs:starEach (e::es) X.env=(false,eval e X.env)::starEach es X.env:=by rfl):PAW X (e::es) (aC i g):=PA.imp (aH h t hs) fun σ H Q=>un7 fun P F ρ r hr I k=>by
 unfold aC at hr
 split at hr
 ·rename_i o t q
  obtain⟨b,q2,rfl⟩:=ax hr
  obtain⟨v,h1,_⟩:=I.at q
  exact⟨v,h1,P,F,ρ,b,q2,I,fun vs F2 H2 e2 I2 r2=>k (v::vs) F2 H2 e2 I2 (.slot h1 r2)⟩
 ·cases hr
theorem aY (h:PX X e f)(t:PAW X es g)(hs:starEach (e::es) X.env=(false,eval e X.env)::starEach es X.env:=by rfl):PAW X (e::es) (aJ f g):=PA.imp (aH h t hs) fun σ H Q=>un7 fun P F ρ r hr I k=>by
 obtain⟨a,q1,hr⟩:=Ye.mp hr
 obtain⟨b,q2,rfl⟩:=ax hr
 exact⟨P,F,ρ,a,q1,I,fun v F1 H1 e1 I1 r1=>⟨P,F1,a.2,b,q2,I1,fun vs F2 H2 e2 I2 r2=>k (v::vs) F2 H2 (e1.trans e2) I2 (.val (r1.same e2) r2)⟩⟩
variable {k k':Nat} {f':Addr} {fd:FuncData} {q:Str} {sd:Stmt} {m:MW} {x:Str} {p pos:Pos}
theorem yv {K:Kq}{E:XK}:∀ σ H Q,tX K (aA m g) σ H Q→rl (spW K m) [] E (tLW K g) σ H Q:=fun σ H Q=>un7 fun P F ρ r hf I kk=>by
 obtain⟨a,q1,hf⟩:=Ye.mp hf
 split at hf
 ·rename_i nd
  obtain⟨xs,q2,hf⟩:=Ye.mp hf
  obtain⟨res,q3,hf⟩:=Ye.mp hf
  obtain⟨ρ',q4,rfl⟩:=ax hf
  refine⟨P,F,ρ,a,q1,I,fun vs F1 H1 e1 I1 A=>?_⟩
  obtain⟨S,J,back⟩:=I1.handW A q2 nd
  rw[Yi]
  exact⟨_,F1,xs,res,q3,J,fun v F2 H2 e2 J2 rv=>kk v F2 H2 (e1.trans e2) (back e2 J2 q4) rv⟩
 ·cases hf
theorem pxc (G:FnOk X.prog X.w X.K X.mg X.base CX0 k f' fd (bY sd) (spW X.K m))(D:Df X.K q sd f' fd∧X.mg (du sd)=some (.ref f'))(hr:Room k' X.A)(ha:PAW X (e::es) g)(hx:du sd=x:=by rfl)(hk:k≤k':=by decide)(hg:Gl X x:=by rfl)
  (hd:(x == ("__debug__":Str))=false:=by decide) (he:starEach (e::es) X.env=(false,eval e X.env)::starEach es X.env:=by rfl) (hpl:(backTo pos (starEach es X.env)).any (·.1)=false:=by rfl):PX X (.Call (.Name x p) (e::es) [] pos) (aA m g):=
 (iO G (hr.mono hk) hg (hx ▸ D.2) D.1.fn.kp D.1.bd .nil gX ha hd he hpl).imp yv
end
def x2 (f:Dy)(fa fb:DX):DX:=fun ρ=>(fa ρ).bind fun a=>(fb a.2).bind fun b=>(f a.1 b.1).map (·,b.2)
theorem ua {K:Kq}{r:R2}{f:Dy}{fa fb:DX}(ho:je K r f):∀ σ H Q,tX K (x2 f fa fb) σ H Q→tOp r (tX K fa) (tX K fb) σ H Q:=fun σ H Q=>un7 fun P F ρ d hf I k=>by
 obtain⟨a,qa,hf⟩:=Ye.mp hf
 obtain⟨b,qb,hf⟩:=Ye.mp hf
 obtain⟨c,qc,rfl⟩:=ax hf
 exact⟨P,F,ρ,a,qa,I,fun x F1 H1 e1 I1 rx=>⟨P,F1,a.2,b,qb,I1,fun y F2 H2 e2 I2 ry=>ho P F2 H2 b.2 σ x y _ _ c Q qc I2 (.inl (rx.same e2)) (.inl ry) fun v F3 H3 e3 rv=>k v F3 H3 ((e1.trans e2).trans e3.ext) (I2.evo e3) rv⟩⟩
section
variable {X:Cx} {a b:Expr} {pos:Pos} {fa fb:DX} {op:Operator} {r:R2} {f:Dy}
theorem uv (o:OpR X (binaryOp op) r)(h:je X.K r f)(ha:PX X a fa)(hb:PX X b fb):PX X (.BinOp a op b pos) (x2 f fa fb):=(ze o ha hb).imp (ua h)
theorem eI (ha:PX X a fa)(hb:PX X b fb):PX X (.BinOp a .Add b pos) (x2 az fa fb):=uv ((uV.or jQ).or (p9.or m8)) pZ ha hb
theorem jx (ha:PX X a fa)(hb:PX X b fb):PX X (.BinOp a .Mod b pos) (x2 aR fa fb):=uv vJ (jP (fun _ _ h=>by have q:=YS h;exact q) fun _ _ _=>.int) ha hb
theorem Ct (ha:PX X a fa)(hb:PX X b fb)(hs:mm b:=by exact fun _ _=>rfl):PX X (.Subscript a b pos) (x2 ixD fa fb):=(zu uk ha hb hs).imp (ua zz)
end
abbrev kM (vs:List (Str×V)):List (Key×V):=vs.map fun p=>(Sum.inr p.1,p.2)
theorem gK (x:Str)(v:V)(r:List (Str×V)):kM ((x,v)::r)=(Sum.inr x,v)::kM r:=rfl
theorem d8 (vs:List (Str×V))(n:Str):cH (kM vs) (Sum.inr n)=vs.lookup n:=by
 induction vs with
 | nil=>rfl
 | cons p r ih=>
  obtain⟨x,v⟩:=p
  rw[aK]
  unfold cH at ih ⊢
  rw[gK,Zc]
  by_cases e:n=x
  ·rw[Yh e,show decide ((Sum.inr x:Key)=Sum.inr n)=true from by rw[e];simp];rfl
  ·rw[Yr e,show decide ((Sum.inr x:Key)=Sum.inr n)=false from by rw[pC,Yk fun z=>e z.symm]];exact ih
theorem lH {n:Str}{v:V}:∀ {vs:List (Str×V)},n∉vs.map (·.1)→cu n v vs=vs++[(n,v)]
 | [],_=>rfl
 | (x,w)::r,h=>by
  unfold cu
  rw[Yr fun z=>h (by rw[z];exact Yf),lH fun m=>h (Yd _ m)]
  rfl
theorem zN {n:Str}{v:V}:∀ {vs:List (Str×V)},n∉vs.map (·.1)→(kM vs).map (fun kv=>if kv.1=Sum.inr n then (kv.1,v) else kv)=kM vs
 | [],_=>rfl
 | (x,w)::r,h=>by
  rw[gK,YA,zN fun m=>h (Yd _ m),Yr fun z=>h (by cases z;exact Yf)]
theorem wu {n:Str}{v:V}:∀ {vs:List (Str×V)},(vs.map (·.1)).Nodup→n∈vs.map (·.1)→(kM vs).map (fun kv=>if kv.1=Sum.inr n then (kv.1,v) else kv)=kM (cu n v vs)
 | [],_,m=>nomatch m
 | (x,w)::r,nd,m=>by
  unfold cu
  by_cases e:x=n
  ·subst e
   rw[Yh rfl,gK,YA,zN (YD.mp nd).1,Yh rfl]
   rfl
  ·rw[Yr e,gK,YA,gK,wu (YD.mp nd).2 ((YC.mp m).elim (fun z=>absurd z.symm e) id),Yr fun z=>e (Sum.inr.inj z)]
theorem iu {n:Str}{v:V}{vs:List (Str×V)}(nd:(vs.map (·.1)).Nodup):dJ (kM vs) (Sum.inr n) v=kM (cu n v vs):=by
 unfold dJ
 have e:(kM vs).any (fun kv=>decide (kv.1=Sum.inr n))=true↔n∈vs.map (·.1):=by
  rw[List.any_eq_true]
  constructor
  ·rintro⟨kv,m,z⟩
   obtain⟨p,hp,rfl⟩:=Yo.mp m
   cases YS z
   exact List.mem_map_of_mem hp
  ·intro m
   obtain⟨p,hp,rfl⟩:=Yo.mp m
   exact⟨_,List.mem_map_of_mem hp,by simp⟩
 by_cases m:n∈vs.map (·.1)
 ·rw[Yh (e.mpr m)];exact wu nd m
 ·rw[Yr (fun z=>m (e.mp z)),lH m];simp
theorem Kids.keys {K:Kq}{F H:Hp}{ow:Addr→Prop}{vs:List (Str×V)}{fs:List (Str×FO)}(h:Kids K F H ow vs fs):vs.map (·.1)=fs.map (·.1):=by
 induction h with
 | nil=>rfl
 | cons r _ ih=>rw[YA,YA,ih,r.1]
section
variable {X:Cx} {n:Str} {e o:Expr} {pos apos cpos pos' spos:Pos}
theorem pfD {j kp}(i:Nat)(hu:X.A.units+64<cLine)(h:PE X o (ce i))(hs:k_ (.Constant (.str n) j kp):=by exact fun _ _=>rfl):PDE X (.Subscript o (.Constant (.str n) j kp) pos) (cL none i n):=
 (fK (by omega) h cU hs).imp fun σ H Q=>un7 fun P F ρ d hf I k=>by
  obtain⟨fs,q,hf⟩:=Ye.mp hf
  split at hf
  ·rename_i d' q2
   cases hf
   obtain⟨a,dx,vs,h1,h2,_,h4⟩:=I.obj q
   obtain⟨w,l1,fr⟩:=(cD h4).2 _ q2
   exact⟨_,h1,a,w,rfl,by have:=DGet.k (k:=Sum.inr n) h2;rw[d8,l1] at this;exact this,k w F H (Evo.refl I.toDHp) fr⟩
  ·cases hf
theorem prD {j kp}(i:Nat)(hu:X.A.units+64<cLine)(h:PE X o (ce i))(hs:k_ (.Constant (.str n) j kp):=by exact fun _ _=>rfl):PDR X (.Subscript o (.Constant (.str n) j kp) pos) (aL none i n):=
 (fK (by omega) h cU hs).imp fun σ H Q=>un7 fun P F ρ d hf I k=>by
  obtain⟨fs,q,hf⟩:=Ye.mp hf
  obtain⟨a,dx,vs,h1,h2,_,h4⟩:=I.obj q
  have g:∀ w,vs.lookup n=some w→DGet H a (.str n) (some w):=fun w l=>by have:=DGet.k (k:=Sum.inr n) h2;rw[d8,l] at this;exact this
  split at hf
  ·rename_i ds q2
   cases hf
   obtain⟨w,l1,b,rfl,fb,u,u1,u2⟩:=(cD h4).2 _ q2
   exact⟨_,h1,a,_,rfl,g _ l1,k _ F H (Evo.refl I.toDHp) (.inr ⟨b,.lst ds,u,rfl,fb,u1,u2,rfl,rfl⟩)⟩
  ·rename_i ds q2
   cases hf
   obtain⟨w,l1,b,rfl,fb,u,u1,u2⟩:=(cD h4).2 _ q2
   exact⟨_,h1,a,_,rfl,g _ l1,k _ F H (Evo.refl I.toDHp) (.inr ⟨b,.dK ds,u,rfl,fb,u1,u2,rfl,rfl⟩)⟩
  ·cases hf
theorem gz {f:Dd}{j kp}(i:Nat)(hu:X.A.units+64<cLine)(h:PE X o (ce i))(ha:PDE X e f)(hsl:k_ (.Constant (.str n) j kp):=by exact fun _ _=>rfl)(hbase:attributeBase (.Subscript o (.Constant (.str n) j kp) pos') "append" X.env (eval (.Subscript o (.Constant (.str n) j kp) pos') X.env)=eval (.Subscript o (.Constant (.str n) j kp) pos') X.env:=by rfl)
  (hfew:((backTo cpos (starEach [e] X.env)).all (fun x=>!x.1)&&(backToKw cpos (keywordEach [] X.env)).all (fun x=>x.1.isSome)
   && decide (([e]:List Expr).length+([]:List Keyword).length+(if ([]:List Keyword).isEmpty then 0 else 1)<30))=true:=by rfl)
  (hline:(apos.endLine == cpos.line)=true:=by rfl) (hs:starEach [e] X.env=[(false,eval e X.env)]:=by rfl) (hsw:swapsWith (.Call (.Attribute (.Subscript o (.Constant (.str n) j kp) pos') "append" apos) [e] [] cpos) none pos.line X.env=pure false:=by rfl) :
  PD1 X (.Expr (.Call (.Attribute (.Subscript o (.Constant (.str n) j kp) pos') "append" apos) [e] [] cpos) pos) (bK none i n f):=
 PS.imp (c_ (iC YX ZJ ZK ee (fK (by omega) h cU hsl) (aH ha a9 hs) hbase hfew hline hs rfl) hsw) fun E σ H=>un7 fun P F ρ r hr I k=>by
  obtain⟨d,qd,hr⟩:=Ye.mp hr
  obtain⟨ρ',q,rfl⟩:=ax hr
  obtain⟨fs,t,o1,o2,q1,q2,q3,_,rfl⟩:=c5 q
  unfold j5 at q3
  split at q3
  ·rename_i ds
   split at q3
   ·rename_i hl
    cases q3
    obtain⟨a,dx,vs,b,h1,h2,h4,h5,⟨_,e0,_,u,h6,h7⟩,nxt⟩:=I.kid2 q1 (o:=.lst ds) rfl q2
    cases e0
    cases u with
    | lst us=>
     refine⟨_,h1,a,.ref b,rfl,by have:=DGet.k (k:=Sum.inr n) h2;rw[d8,h4] at this;exact this,.inl ⟨rfl,us,SqL.of h6⟩,P,F,ρ,d,qd,I,fun v F1 H1 e1 r1=>?_⟩
     obtain⟨_,back⟩:=nxt e1
     have h7:Reps X.K F us ds:=h7
     refine⟨b,us,v,rfl,rfl,(e1.keep b _ h6 h5).1,by rw[YK,h7.length];exact hl,k σ F1 _ e1.ext ?_⟩
     exact back _ (.lst (ds++[d])) rfl fun ow ob=>⟨b,rfl,ob,_,aw,(h7.same e1.ext).append (.one r1)⟩
    | _=>exact h7.elim
   ·cases q3
  ·cases q3
def fV (i:Nat)(n:Str)(f:DX):DF→Option RES:=fun ρ=>(f ρ).bind fun a=>match a.2[i]? with
 | some (some (.own (.obj none fs) t))=>if (fs.map (·.1)).Nodup∧fs.length<16777216 then (match fs.lookup n with
  | some (.d _)=>some (.nx (a.2.set i (some (.own (.obj none (dH n (.d a.1) fs)) t))))
  | _=>none) else none
 | _=>none
theorem mF {f:DX}{j kp}(i:Nat)(hu:X.A.units+64<cLine)(ho:PE X o (ce i))(hv:PX X e f)(hs:swapsWith e (some (.Subscript o (.Constant (.str n) j kp) pos')) pos.line X.env=pure false:=by rfl) :
  PD1 X (.Assign [.Subscript o (.Constant (.str n) j kp) pos'] e pos) (fV i n f):=PS.imp (iK (by omega) ho cU hv hs) fun E σ H=>un7 fun P F ρ r hr I k=>by
 obtain⟨a,q,hr⟩:=Ye.mp hr
 split at hr
 ·rename_i fs t q1
  split at hr
  ·rename_i hn
   split at hr
   ·rename_i d0 q2
    cases hr
    refine⟨P,F,ρ,a,q,I,fun v F1 H1 e1 I1 rv=>?_⟩
    obtain⟨p,dx,vs,w,h1,h2,h3,h4,h5,hl,back⟩:=I1.fld q1 q2
    obtain⟨p',dx',vs',g1,g2,_,g4⟩:=I1.obj (C:=none) (i:=i) (fs:=fs) (by unfold gC;rw[q1];exact Yh rfl)
    rw[h1] at g1
    cases g1
    rw[h2] at g2
    cases mw (Yq g2)
    have nd:(vs.map (·.1)).Nodup:=by rw[Kids.keys g4];exact hn.1
    have hp:=DPut.k (k:=Sum.inr n) (v:=v) h2 (by show (vs.map _).length<_;rw[Yb,hl,YK];exact hn.2)
    rw[iu nd] at hp
    exact⟨_,h1,p,_,rfl,hp,k σ F1 _ e1 (back v a.1 rv)⟩
   ·cases hr
  ·cases hr
 ·cases hr
end
abbrev DB:=DF→Option (Bool×DF)
def tBX (K:Kq)(f:DB):TT:=fun σ H Q=>∃ P F ρ r,f ρ=some r∧DInv K P F H ρ σ∧∀ F' H',Same F F'→DInv K P F' H' r.2 σ→Q r.1 H'
def PTX (X:Cx)(e:Expr)(f:DB):Prop:=PT X e (tBX X.K f)
def PWX (X:Cx)(e:Expr)(f:DB):Prop:=PW X e (tBX X.K f)
theorem PWX.t {X:Cx}{e:Expr}{f:DB}(h:PWX X e f):PTX X e f:=PW.pt h
def jf (f:Dk):DB:=fun ρ=>(f ρ).map (·,ρ)
def nQ (f:Dy)(fa fb:DX):DB:=fun ρ=>(x2 f fa fb ρ).bind fun r=>match r.1 with
 | .bl b=>some (b,r.2)
 | _=>none
def bOr (f g:DB):DB:=fun ρ=>(f ρ).bind fun r=>if r.1=true then some (true,r.2) else g r.2
def sy (c:DB)(g h:Dw):DF→Option RES:=fun ρ=>(c ρ).bind fun r=>if r.1=true then g r.2 else h r.2
section
variable {X:Cx} {a b c e:Expr} {aE:List Expr} {pos:Pos} {fa fb:DX} {f g:DB}
theorem AL {f:Dk}(h:PDT X e f):PTX X e (jf f):=PT.imp h fun σ H Q=>un7 fun P F ρ r hr I k=>by
 obtain⟨d,q,rfl⟩:=ax hr
 exact⟨P,F,ρ,d,q,I,fun F' H' ev=>k F' H' ev.ext (I.evo ev)⟩
theorem yV {op:CmpOp}{r:R2}{f:Dy}(ho:OpR X (compareOp op) r)(hf:OpN2 X.K r f)(ha:PX X a fa)(hb:PX X b fb)(hm:behindInMarks op b=false):PTX X (.Compare a [op] [b] pos) (nQ f fa fb):=
 PT.imp (mK ho ha hb hm) fun σ H Q=>un7 fun P F ρ r hr I k=>by
  obtain⟨x,q,hr⟩:=Ye.mp hr
  obtain⟨u,qa,q⟩:=Ye.mp q
  obtain⟨v,qb,q⟩:=Ye.mp q
  obtain⟨d,qc,rfl⟩:=ax q
  cases d with
  | bl z=>
   cases hr
   refine⟨P,F,ρ,u,qa,I,fun x F1 H1 e1 I1 rx=>⟨P,F1,u.2,v,qb,I1,fun y F2 H2 e2 I2 ry=>?_⟩⟩
   refine hf P F2 H2 x y _ _ _ _ qc I2.toDHp ((rx.same e2).same I2.sub) (ry.same I2.sub) fun w F3 H3 e3 rw'=>?_
   cases rw'
   exact⟨z,rfl,k F3 H3 ((e1.trans e2).trans e3.ext) (I2.evo e3)⟩
  | _=>cases hr
theorem Ag (hu:X.A.units+64<cLine)(ha:PX X a fa)(hb:PX X b fb):PTX X (.Compare a [.Eq] [b] pos) (nQ eqD fa fb):=yV (pU hu) o8 ha hb (fz _)
theorem yR (h:PTX X a f):PWX X (.BoolOp .Or [a] pos) f:=uQ h
theorem BG (ha:PTX X a f)(hb:PWX X (.BoolOp .Or (b::aE) pos) g):PWX X (.BoolOp .Or (a::b::aE) pos) (bOr f g):=PW.imp (zv ha hb) fun σ H Q=>un7 fun P F ρ r hf I k=>by
 obtain⟨x,q,hf⟩:=Ye.mp hf
 refine⟨P,F,ρ,x,q,I,fun F1 H1 e1 I1=>?_⟩
 obtain⟨x,ρ1⟩:=x
 cases x with
 | true=>cases hf;exact k F1 H1 e1 I1
 | false=>exact⟨P,F1,ρ1,r,hf,I1,fun F2 H2 e2 I2=>k F2 H2 (e1.trans e2) I2⟩
theorem zT {as bs:List Stmt}{g h:Dw}(hc:PTX X c f)(ha:PDS X as g)(hb:PDS X bs h):PD1 X (.If c as bs pos) (sy f g h):=PS.imp (zP hc ha hb) fun E σ H=>un7 fun P F ρ r hg I k=>by
 obtain⟨x,q,hg⟩:=Ye.mp hg
 refine⟨P,F,ρ,x,q,I,fun F1 H1 e1 I1=>?_⟩
 obtain⟨x,ρ1⟩:=x
 cases x with
 | true=>
  rw[Yh rfl] at hg ⊢
  exact⟨P,F1,ρ1,r,hg,I1,k.ext e1⟩
 | false=>
  rw[Yr Yp] at hg ⊢
  exact⟨P,F1,ρ1,r,hg,I1,k.ext e1⟩
def wV (g:DXs):DX:=fun ρ=>(g ρ).bind fun r=>if r.1.length≤16777216 then some (.lst r.1,r.2) else none
theorem zV {es:List Expr}{g:DXs}(h:PAX X es g):PX X (.List es pos) (wV g):=(gc h).imp fun σ H Q=>un7 fun P F ρ d hf I k=>by
 obtain⟨r,q,hf⟩:=Ye.mp hf
 split at hf
 ·rename_i hl
  cases hf
  refine⟨P,F,ρ,r,q,I,fun vs F1 H1 e1 I1 r1=>⟨by rw[r1.length,YK];exact hl,fun p hp=>?_⟩⟩
  have hF:=(I1.toDHp.free hp).1
  exact k (.ref p) _ _ (e1.trans (de hF)) (I1.laid hp) (.lst (SqL.of aw) (r1.same (de hF)))
 ·cases hf
end
end L2
namespace L2
open PySem PySem.Spec PyProof.Rows PySem.MeetsSeq PySem.SeqAt
open AutoSeq1 (wpAny_loadPart')
theorem j7 (l:Addr)(items:Array Value)(n:Nat)(x:Value)(e:Value→Bool)(j:Nat)(hj:j<items.size)(hit:e items[j]=true)(k:Nat)(hs1:items.size≤sizeLine) :
  ∀ i:Nat,j-i=k→i≤j→(∀ m (hm:m<items.size),i≤m→m<j→e items[m]=false)→Meets (Builtin.«list.remove.loop» ⟨[.ref l,x,rawInt i],[]⟩)
   (fun A R s=>s.heap.get? l=some { cls:=.type "list",dict:=none,data:=.seq items n,slots:=#[] }∧(∀ y,y∈items→EqAt A.in1 s y x (e y))∧R (.ok (.ret .none)) { s with heap:=s.heap.update l (Obj.mapSeq fun xs=>xs.eraseIdxIfInBounds j) }):=by
 induction k with
 | zero=>
  intro i hk hij hno prog w A R s h
  obtain⟨hp,g,d,tk,os⟩:=s;obtain⟨hl,he,h⟩:=h
  have hij':i=j:=by omega
  subst hij'
  wp_walk using ZU hl
  have hi:items[((i:Nat):Int).toNat]?=some items[i]:=by simp[hj]
  rw[hi]
  refine Yu (he _ (Array.getElem_mem hj) prog w _ _ ?_)
  rw[hit]
  have hz':(items.eraseIdxIfInBounds i).size≤sizeLine+1:=YQ (size_erased items _) (Nat.le_succ_of_le hs1)
  wp_walk using (wpAny_updateSeq hl rfl (hz:=hs1) (_hz':=hz')),ZU hl
  simpa using h
 | succ k ih=>
  intro i hk hij hno prog w A R s h
  obtain⟨hp,g,d,tk,os⟩:=s;obtain⟨hl,he,h⟩:=h
  have hlt:i<items.size:=by omega
  wp_walk using ZU hl
  have hi:items[((i:Nat):Int).toNat]?=some items[i]:=by simp[hlt]
  have hc:((i:Int)+1)=((i+1:Nat):Int):=by push_cast;rfl
  rw[hi]
  refine Yu (he _ (Array.getElem_mem hlt) prog w _ _ ?_)
  rw[hno i hlt (Yx _) (by omega)]
  wp_walk
  rw[hc]
  exact⟨plainId_quiet plain_remove_loop _,XC entry_remove_loop (by
   rw[Around.under_plainId plain_remove_loop _]
   exact ih (i+1) (by omega) (by omega) (fun m hm h1 h2=>hno m hm (by omega) h2) prog w A R _ ⟨hl,he,h⟩)⟩
theorem j6 (l:Addr)(items:Array Value)(n:Nat)(x:Value)(e:Value→Bool)(j:Nat)(hj:j<items.size)(hit:e items[j]=true)(hno:∀ m (hm:m<items.size),m<j→e items[m]=false)(hs1:items.size≤sizeLine) :
  Meets (Builtin.«list.remove» ⟨[.ref l,x],[]⟩)
   (fun A R s=>s.heap.get? l=some { cls:=.type "list",dict:=none,data:=.seq items n,slots:=#[] }∧(∀ y,y∈items→EqAt A.in1 s y x (e y))∧R (.ok (.ret .none)) { s with heap:=s.heap.update l (Obj.mapSeq fun xs=>xs.eraseIdxIfInBounds j) }):=by
 intro prog w A R s h
 obtain⟨hp,g,d,tk,os⟩:=s;obtain⟨hl,he,h⟩:=h
 wp_walk using ZU hl
 exact⟨plainId_quiet plain_remove_loop _,XC entry_remove_loop (by
  rw[Around.under_plainId plain_remove_loop _]
  exact j7 l items n x e j hj hit _ hs1 0 rfl (YO _) (fun m hm _ h2=>hno m hm h2) prog w A R _ ⟨hl,he,h⟩)⟩
section
variable {X:Cx} {o e:Expr} {f:Dd} {pos apos cpos:Pos}
theorem tq (hu:X.A.units+64<cLine):MtM X "list.remove" (fun x vs H Q=>∃ l xs ds y dy j,x=.ref l∧vs=[y]∧H l=some (.lst xs)∧Reps X.K H xs ds∧Rep X.K H y dy∧ds.all (okN 29)=true∧okN 30 dy=true∧lK dy ds=some j∧Q .non (upd H l (.lst (xs.eraseIdx j)))):=by
 intro pz s σ H x vs v us Q I rx rvv h
 obtain⟨l,xs,ds,y,dy,j,rfl,rfl,hH,r,ry,ok,oy,hj,q⟩:=h
 cases rx
 obtain⟨u,rfl,ru⟩:=rvv.one
 obtain⟨z,its,n,rv,hl,ho⟩:=I.lstM hH
 obtain⟨⟨d0,j1,j2⟩,j3⟩:=ka hj
 have l1:=r.length
 have l2:=rv.length
 have hjl:j<ds.length:=(YM.mp j1).1
 have hlt:j<its.toArray.size:=by rw[Ym];omega
 have ok':=bO ok
 have at':∀ (m:Nat) (hm:m<its.toArray.size) d,ds[m]?=some d→uA its ds dy its.toArray[m]=eqd d dy:=fun m hm d hd=>qj I r rv ok' (by simp) hd
 refine call_meets PySem.F.slot_list_remove ⟨_,ho,rfl⟩ PySem.F.entry_list_remove (PySem.F.args_list_remove_2 _ _)
  (j6 l its.toArray n u (uA its ds dy) j hlt (by rw[at' j hlt d0 j1];exact j2) (fun m hm hmj=>?_) (by rw[Ym];omega)) ⟨ho,fun z hz=>vt I r rv ok' ry oy ru (A:=X.A.in1) (by show X.A.units+1+60<cLine;omega) z (by simpa using hz),?_⟩
 ·obtain⟨d,e1,e2⟩:=j3 m hmj
  rw[at' m hm d e1]
  exact e2
 ·refine⟨.non,_,I.lset (its':=its.eraseIdx j) hH ho ?_ (rv.eraseIdx j) ?_,rfl,q⟩
  ·show its.toArray.eraseIdxIfInBounds j=(its.eraseIdx j).toArray
   rw[Xn]
  ·have:=kc xs j
   omega
end
end L2
namespace L2
open PySem PySem.Spec PyProof.Rows
def i8 (C:Option Addr)(i:Nat)(n:Str):DX:=fun ρ=>(aL C i n ρ).bind fun x=>match x with
 | .lst ds=>(ds[ds.length-1]?).bind fun d=>(cW C i n (fun _=>some (.lst ds.dropLast)) ρ).map fun ρ'=>(d,ρ')
 | _=>none
theorem DInv.popK {K:Kq}{P F H:Hp}{ρ:DF}{σ:St}{C:Option Addr}{i:Nat}{n:Str}{r:D×DF}(I:DInv K P F H ρ σ)(h:i8 C i n ρ=some r) :
  ∃ a dx vs b us y,σ[i]?=some (some (.ref a))∧H a=some (bxO C dx vs)∧vs.lookup n=some (.ref b)∧H b=some (.lst us)∧us[us.length-1]?=some y∧Rep K F y r.1∧DInv K P F (upd H b (.lst us.dropLast)) r.2 σ:=by
 obtain⟨x,q0,h⟩:=Ye.mp h
 cases x with
 | lst ds=>
  obtain⟨d,qd,h⟩:=Ye.mp h
  obtain⟨ρ',q,rfl⟩:=ax h
  obtain⟨fs,t,o1,o2,q1,q2,q3,_,rfl⟩:=c5 q
  cases q3
  have q2:=wn q0 q1
  obtain⟨a,dx,vs,b,h1,h2,h3,h4,h5,⟨_,e0,_,u,h6,h7⟩,back⟩:=I.kid q1 (o:=.lst ds) rfl q2
  cases e0
  cases u with
  | lst us=>
   have h7:Reps K F us ds:=h7
   obtain⟨y,y1,y2⟩:=h7.get qd
   refine⟨a,dx,vs,b,us,y,h1,h2,h4,h6,by rw[h7.length];exact y1,y2,back _ (.lst ds.dropLast) rfl fun ow ob=>⟨b,rfl,ob,.lst us.dropLast,aw,?_⟩⟩
   show Reps K F us.dropLast ds.dropLast
   have z:=h7.take (n:=us.length-1)
   rw[List.dropLast_eq_take,List.dropLast_eq_take,← h7.length]
   exact z
  | _=>exact h7.elim
 | _=>cases h
section
variable {X:Cx} {n:Str} {C:Addr} {o:Expr} {pos' apos cpos:Pos}
theorem xu (i:Nat)(c:Cls X.K C)(hn:NoAttr X.K C n)(h:PE X o (ce i))(hb:attributeBase o n X.env (eval o X.env)=eval o X.env:=by rfl)(hbase:attributeBase (.Attribute o n pos') "pop" X.env (eval (.Attribute o n pos') X.env)=eval (.Attribute o n pos') X.env:=by rfl)(hline:(apos.endLine == cpos.line)=true:=by rfl) :
  PX X (.Call (.Attribute (.Attribute o n pos') "pop" apos) [] [] cpos) (i8 (some C) i n):=
 (o_ YX PySem.F.slot_list_pop PySem.F.type_list_pop u3 (gh h hb) hbase hline).imp fun σ H Q=>un7 fun P F ρ r hr I k=>by
  obtain⟨a,dx,vs,b,us,y,h1,h2,h3,h4,h5,h6,J⟩:=I.popK hr
  exact⟨_,h1,a,C,dx,vs,_,rfl,h2,c,hn,h3,.inl ⟨rfl,us,SqL.of h4⟩,b,us,y,rfl,rfl,h4,h5,k y F _ (Same.refl _) J h6⟩
theorem wH {j kp}(i:Nat)(hu:X.A.units+64<cLine)(h:PE X o (ce i))(hsl:k_ (.Constant (.str n) j kp):=by exact fun _ _=>rfl)(hbase:attributeBase (.Subscript o (.Constant (.str n) j kp) pos') "pop" X.env (eval (.Subscript o (.Constant (.str n) j kp) pos') X.env)=eval (.Subscript o (.Constant (.str n) j kp) pos') X.env:=by rfl)(hline:(apos.endLine == cpos.line)=true:=by rfl) :
  PX X (.Call (.Attribute (.Subscript o (.Constant (.str n) j kp) pos') "pop" apos) [] [] cpos) (i8 none i n):=
 (o_ YX PySem.F.slot_list_pop PySem.F.type_list_pop u3 (fK (by omega) h cU hsl) hbase hline).imp fun σ H Q=>un7 fun P F ρ r hr I k=>by
  obtain⟨a,dx,vs,b,us,y,h1,h2,h3,h4,h5,h6,J⟩:=I.popK hr
  exact⟨_,h1,a,.ref b,rfl,by have:=DGet.k (k:=Sum.inr n) h2;rw[d8,h3] at this;exact this,.inl ⟨rfl,us,SqL.of h4⟩,b,us,y,rfl,rfl,h4,h5,k y F _ (Same.refl _) J h6⟩
def nq (i:Nat)(n:Str)(f:DX):DF→Option RES:=fun ρ=>(f ρ).bind fun a=>match a.2[i]? with
 | some (some (.own (.obj none fs) t))=>if (fs.map (·.1)).Nodup∧fs.length<1000∧fs.lookup n=none then some (.nx (a.2.set i (some (.own (.obj none (dH n (.d a.1) fs)) t)))) else none
 | _=>none
theorem qh {e:Expr}{pos:Pos}{f:DX}{j kp}(i:Nat)(hu:X.A.units+64<cLine)(ho:PE X o (ce i))(hv:PX X e f)(hs:swapsWith e (some (.Subscript o (.Constant (.str n) j kp) pos')) pos.line X.env=pure false:=by rfl) :
  PD1 X (.Assign [.Subscript o (.Constant (.str n) j kp) pos'] e pos) (nq i n f):=PS.imp (iK (by omega) ho cU hv hs) fun E σ H=>un7 fun P F ρ r hr I k=>by
 obtain⟨a,q,hr⟩:=Ye.mp hr
 split at hr
 ·rename_i fs t q1
  split at hr
  ·rename_i hn
   cases hr
   refine⟨P,F,ρ,a,q,I,fun v F1 H1 e1 I1 rv=>?_⟩
   obtain⟨p,dx,vs,h1,h2,hl,J⟩:=I1.addF (Evo.refl I1.toDHp) q1 hn.2.2 (o:=.d a.1) (v:=v) rv
   obtain⟨p',dx',vs',g1,g2,_,g4⟩:=I1.obj (C:=none) (i:=i) (fs:=fs) (by unfold gC;rw[q1];exact Yh rfl)
   rw[h1] at g1
   cases g1
   rw[h2] at g2
   cases mw (Yq g2)
   have nd:(vs.map (·.1)).Nodup:=by rw[Kids.keys g4];exact hn.1
   have hp:=DPut.k (k:=Sum.inr n) (v:=v) h2 (by show (vs.map _).length<_;rw[Yb,hl,YK];omega)
   rw[iu nd] at hp
   exact⟨_,h1,p,_,rfl,hp,k σ F1 _ e1 J⟩
  ·cases hr
 ·cases hr
end
def uG (y:D):FO→Option FO
 | .lst ds=>if (ds.all (okN 29)&&okN 30 y)=true then (lK y ds).map fun j=>.lst (ds.eraseIdx j) else none
 | _=>none
def kC (i:Nat)(n:Str)(f:Dd):DF→Option RES:=fun ρ=>(f ρ).bind fun d=>(cW none i n (uG d) ρ).map .nx
section
variable {X:Cx} {n:Str} {e o:Expr} {pos apos cpos pos':Pos}
theorem yS {f:Dd}{j kp}(i:Nat)(hu:X.A.units+64<cLine)(h:PE X o (ce i))(ha:PDE X e f)(hsl:k_ (.Constant (.str n) j kp):=by exact fun _ _=>rfl)(hbase:attributeBase (.Subscript o (.Constant (.str n) j kp) pos') "remove" X.env (eval (.Subscript o (.Constant (.str n) j kp) pos') X.env)=eval (.Subscript o (.Constant (.str n) j kp) pos') X.env:=by rfl)
  (hfew:((backTo cpos (starEach [e] X.env)).all (fun x=>!x.1)&&(backToKw cpos (keywordEach [] X.env)).all (fun x=>x.1.isSome)
   && decide (([e]:List Expr).length+([]:List Keyword).length+(if ([]:List Keyword).isEmpty then 0 else 1)<30))=true:=by rfl)
  (hline:(apos.endLine == cpos.line)=true:=by rfl) (hs:starEach [e] X.env=[(false,eval e X.env)]:=by rfl) (hsw:swapsWith (.Call (.Attribute (.Subscript o (.Constant (.str n) j kp) pos') "remove" apos) [e] [] cpos) none pos.line X.env=pure false:=by rfl) :
  PD1 X (.Expr (.Call (.Attribute (.Subscript o (.Constant (.str n) j kp) pos') "remove" apos) [e] [] cpos) pos) (kC i n f):=
 PS.imp (c_ (iC YX PySem.F.slot_list_remove PySem.F.type_list_remove (tq hu) (fK (by omega) h cU hsl) (aH ha a9 hs) hbase hfew hline hs rfl) hsw) fun E σ H=>un7 fun P F ρ r hr I k=>by
  obtain⟨d,qd,hr⟩:=Ye.mp hr
  obtain⟨ρ',q,rfl⟩:=ax hr
  obtain⟨fs,t,o1,o2,q1,q2,q3,_,rfl⟩:=c5 q
  unfold uG at q3
  split at q3
  ·rename_i ds
   split at q3
   ·rename_i hc
    rw[Ys] at hc
    obtain⟨m,qm,rfl⟩:=ax q3
    obtain⟨a,dx,vs,b,h1,h2,h4,h5,⟨_,e0,_,u,h6,h7⟩,nxt⟩:=I.kid2 q1 (o:=.lst ds) rfl q2
    cases e0
    cases u with
    | lst us=>
     refine⟨_,h1,a,.ref b,rfl,by have:=DGet.k (k:=Sum.inr n) h2;rw[d8,h4] at this;exact this,.inl ⟨rfl,us,SqL.of h6⟩,P,F,ρ,d,qd,I,fun v F1 H1 e1 r1=>?_⟩
     obtain⟨_,back⟩:=nxt e1
     have r5:Reps X.K F1 us ds:=Reps.same e1.ext h7
     refine⟨b,us,ds,v,d,m,rfl,rfl,(e1.keep b _ h6 h5).1,r5.same e1.hp.sub,Rep.same e1.hp.sub r1,hc.1,hc.2,qm,k σ F1 _ e1.ext ?_⟩
     exact back _ (.lst (ds.eraseIdx m)) rfl fun ow ob=>⟨b,rfl,ob,_,aw,r5.eraseIdx m⟩
    | _=>exact h7.elim
   ·cases q3
  ·cases q3
end
end L2
namespace L2
open PySem PySem.Spec PySem.W PyProof.Rows
section
variable {X:Cx} {o e:Expr} {pos apos cpos:Pos}
end
section
variable {X:Cx} {W:LamW} {pos:Pos} {e a b:Expr}
end
section
variable {K:Kq} {x qual:Str} {st:Stmt} {f:Addr} {oc:Value} {od an:Option Addr} {osl:Array (Option Value)} {kV doc pm cdv ct:Value}
end
section
variable {X:Cx} {W:LamW} {k n j j2:Nat} {f0 c0 c:Addr} {fd:FuncData} {ps:List Str} {gR:Addr→V→D→DF→Option RES} {x x2:Str} {p p2 pos pos2:Pos} {e:Expr} {te:TE}
theorem bs {α β:Type}{o:Option α}{f:α→Option β}{y:β}(h:o.bind f=some y):∃ a,o=some a∧f a=some y:=by
 cases o with
 | none=>cases h
 | some a=>exact⟨a,rfl,h⟩
end
section
variable {X:Cx} {pz:Kp} {σ:St} {H:Hp} {s:Shared} {a b:Addr} {v:V} {r:Value} {A:Around} {E:Kv}
end
section
variable {X:Cx} {ek ev i o e:Expr} {pos p pos' apos cpos:Pos} {fk fv fd:Dd} {tk tv:TE}
theorem Evo.setNew {P F H F' H':Hp}(h:DHp P F H)(e:Evo P F H F' H'){p:Addr}{u:HO}(hp:H p=none)(hf:F' p=none):Evo P F H F' (upd H' p u):=by
 have ne:∀ {b:Addr} {o:HO} {G:Hp},G b=some o→G p=none→b≠p:=fun h1 h2 z=>by subst z;rw[h1] at h2;cases h2
 have pp:P p=none:=by cases z:P p with | none=>rfl | some o=>rw[h.pro p o z] at hp;cases hp
 exact⟨e.ext,⟨fun b o q=>by rw[ay (ne q hf)];exact e.hp.sub b o q,fun b o q=>by rw[ay (ne q pp)];exact e.hp.pro b o q,e.hp.dis⟩,fun b o q1 q2=>by rw[ay (ne q1 hp)];exact e.keep b o q1 q2⟩
def CC:D→Option D
 | .dT kvs=>some (.int kvs.length)
 | _=>none
end
end L2
namespace L2
open PySem PySem.Spec PyProof.Rows
abbrev DSP:=List (Str×Option Int)
def lO (L:DSP):List (Str×FO):=L.map fun p=>(p.1,match p.2 with | none=>.lst [] | some n=>.d (.int n))
def yZ:DSP→List (TE×TE)
 | []=>[]
 | (k,none)::r=>(tC (.str k),Cy oN)::yZ r
 | (k,some n)::r=>(tC (.str k),tC (.int n))::yZ r
theorem Kids.own {K:Kq}{F H:Hp}{ow:Addr→Prop}{vs:List (Str×V)}{fs:List (Str×FO)}(h:Kids K F H ow vs fs):∀ b∈cX vs fs,ow b:=by
 induction h with
 | nil=>exact fun _ m=>nomatch m
 | @cons p q _ _ r _ ih=>
  intro b m
  rw[bE] at m
  rcases Yj.mp m with m | m
  ·obtain⟨x,v⟩:=p
   obtain⟨y,o⟩:=q
   cases o with
   | d x=>cases m
   | lst ds=>obtain⟨_,c,rfl,z,_⟩:=r;cases Yl.mp m;exact z
   | dK ds=>obtain⟨_,c,rfl,z,_⟩:=r;cases Yl.mp m;exact z
  ·exact ih b m
theorem mJ {K:Kq}{P F H:Hp}{σ:St}{p:Addr}:∀ (L:DSP) {H1:Hp} (hE:Evo P F H F H1) (hp:H1 p=some (.dK [])) (R:List (V×V)→Hp→Prop),
  (∀ vs H2,Evo P F H F H2→(∀ c,H1 c≠none→H2 c=H1 c)→Kids K F H2 (fun b=>H1 b=none∧F b=none) vs (lO L)→(cX vs (lO L)).Nodup→R (vs.map fun q=>(.str q.1,q.2)) H2)→mS (yZ L) σ H1 R
 | [],H1,hE,hp,R,k=>k [] H1 hE (fun _ _=>rfl) .nil .nil
 | (n,some i)::r,H1,hE,hp,R,k=>mJ (K:=K) r hE hp _ fun vs H2 e2 kp kids nd=>k ((n,.int i)::vs) H2 e2 kp (.cons ⟨rfl,.int⟩ kids) nd
 | (n,none)::r,H1,hE,hp,R,k=>by
  refine⟨by simp,fun l hl=>mJ (K:=K) (p:=p) r (hE.trans (Evo.side hE.hp hl)) ((ay (fun z=>by subst z;rw[hl] at hp;cases hp)).trans hp) _ fun vs H2 e2 kp kids nd=>?_⟩
  have hl2:H2 l=some (.lst []):=(kp l (by rw[aw];simp)).trans aw
  have up:∀ b,upd H1 l (.lst []) b=none→H1 b=none:=fun b z=>by
   by_cases e:b=l
   ·subst e;exact hl
   ·rw[ay e] at z;exact z
  refine k ((n,.ref l)::vs) H2 e2 (fun c hc=>(kp c (by rw[ay fun z=>by subst z;exact hc hl];exact hc)).trans (ay fun z=>by subst z;exact hc hl)) (.cons ⟨rfl,l,rfl,⟨hl,(hE.hp.free hl).1⟩,_,hl2,.nil⟩ (Kids.mono (Same.refl _) (fun b u q hb=>⟨hb,up b q.1,q.2⟩) kids)) ?_
  show ([l]++cX vs (lO r)).Nodup
  refine YD.mpr ⟨fun m=>?_,nd⟩
  have:=(Kids.own kids l m).1
  rw[aw] at this
  cases this
theorem jK:∀ (vs:List (Str×V)) (acc:List (Str×V)),((acc++vs).map (·.1)).Nodup→fD (kM acc) (kM vs)=kM (acc++vs)
 | [],acc,_=>by rw[Yi];rfl
 | (x,v)::r,acc,nd=>by
  have hx:x∉acc.map (·.1):=fun m=>by
   rw[Yz] at nd
   exact (YJ.mp nd).2.2 _ m _ Yf rfl
  have na:(acc.map (·.1)).Nodup:=by rw[Yz] at nd;exact (YJ.mp nd).1
  show fD (dJ (kM acc) (Sum.inr x) v) (kM r)=_
  rw[iu na,lH hx,jK r (acc++[(x,v)]) (by rw[Yn];exact nd),Yn]
  rfl
theorem sA (L:DSP):(lO L).map (·.1)=L.map (·.1):=by unfold lO;rw[Zg];rfl
structure PDOw (X:Cx) (e:Expr) (fo:DF→Option OD):Prop where
 h:PDO X e fo
section
variable {X:Cx} {pos:Pos} {keys:List (Option Expr)} {values:List Expr}
theorem uN (L:DSP){trs:List (TE×TE)}(h:PPs X pos keys values trs)(hT:trs=yZ L:=by kernel_rfl)(hnd0:decide (L.map (·.1)).Nodup=true:=by kernel_rfl)(h15:decide (L.length≤15)=true:=by kernel_rfl)(hall:keys.all (·.isSome)=true:=by kernel_rfl)(hl:keys.length=values.length:=by kernel_rfl)(h0:keys.isEmpty=false:=by kernel_rfl)
  (hk:decide (keys.length≤15)=true:=by kernel_rfl):PDOw X (.Dict keys values pos) (fun _=>some (.obj none (lO L))):=.mk <| (yQ h hall hl (fun z=>by subst z;cases h0) (YS hk)).imp fun σ H Q=>un7 fun P F ρ ob hf I k=>by
 subst hT
 have h15:=YS h15
 cases hf
 intro p hp
 have e0:Evo P F H F (upd H p (.dK [])):=Evo.side I.toDHp hp
 have fp:F p=none:=(I.toDHp.free hp).1
 refine mJ (K:=X.K) L e0 aw _ fun vs H2 e2 kp kids nd=>?_
 have hp2:H2 p=some (.dK []):=(kp p (by rw[aw];simp)).trans aw
 have kn:=Kids.keys kids
 rw[sA] at kn
 refine⟨hp2,kM vs,by rw[Zg];rfl,by rw[Yb,← Yb (f:=(·.1)),kn,Yb];exact h15,?_⟩
 rw[show fD [] (kM vs)=kM vs from jK vs [] (by rw[Zq,kn];exact YS hnd0)]
 have up:∀ b,upd H p (.dK []) b=none→H b=none∧b≠p:=fun b z=>by
  by_cases e:b=p
  ·subst e;rw[aw] at z;cases z
  ·rw[ay e] at z;exact⟨z,e⟩
 have np:p∉cX vs (lO L):=fun m=>(up p (Kids.own kids p m).1).2 rfl
 have k2:F p=none:=fp
 refine k p F _ (e2.setNew I.toDHp hp k2) ⟨⟨hp,fp⟩,0,vs,aw,YD.mpr ⟨np,nd⟩,?_⟩
 refine Kids.keep (Kids.mono (Same.refl _) (fun b u q hb=>⟨hb,(up b q.1).1,q.2⟩) kids) fun c m=>ay fun z=>by subst z;exact np m
structure PD1w (X:Cx) (s:Stmt) (g:DF→Option RES):Prop where
 h:PD1 X s g
structure PDSw (X:Cx) (ss:List Stmt) (g:DF→Option RES):Prop where
 h:PDS X ss g
theorem sD {s:Stmt}{ss:List Stmt}{g gs:Dw}(h:PD1w X s g)(r:PDS X ss gs):PDSw X (s::ss) (ai g gs):=⟨ac h.h r⟩
theorem r_ {s:Stmt}{ss:List Stmt}{g gs:Dw}(h:PD1 X s g)(r:PDSw X ss gs):PDS X (s::ss) (ai g gs):=ac h r.h
theorem Ft (i:Nat){x:Str}{e:Expr}{pos':Pos}{fo:Do}(he:PDOw X e fo)(hi:X.N[i]?=some x:=by rfl)(hx:Loc X.env.scope x:=by first | exact .inl rfl | exact .inr rfl)(hs:swapsWith e (some (.Name x pos')) pos.line X.env=pure false:=by rfl)(hf:X.fn x=true∨X.env.scope.names.lookup x=some .local:=by first | exact .inl rfl | exact .inr rfl | assumption)(hN:decide X.N.Nodup=true:=by kernel_rfl) :
  PD1w X (.Assign [.Name x pos'] e pos) (dg i fo):=⟨p7 (ndI hN) hi hx he.h hs hf⟩
end
section
variable {X:Cx} {e:Expr} {pos p:Pos}
def j0 (f:Dd):DF→Option Bool:=fun ρ=>match f ρ with
 | some (.lst ds)=>some (!ds.isEmpty)
 | _=>none
theorem iL {fa:Dd}(ha:PDR X e fa)(he:∀ whole,isTrue e X.env whole=(do let v ← whole;standAt e.pos;holding [v] (truthy v)):=by intro _;rfl):PDT X e (j0 fa):=
 (uD ha he).imp fun σ H Q=>un7 fun P F ρ d hf I k=>by
  unfold j0 at hf
  cases ha:fa ρ with
  | none=>rw[ha] at hf;cases hf
  | some dx=>
  rw[ha] at hf
  cases dx with
  | lst ds=>
   cases hf
   refine⟨P,F,ρ,_,ha,I,fun x F1 H1 e1 rx=>?_⟩
   have I1:=I.evo e1
   obtain⟨l,vs,rfl,h1,h2⟩:=eF I1 rx
   refine⟨!ds.isEmpty,.inl ⟨vs,h1,?_⟩,k F1 H1 e1⟩
   have:=h2.length
   cases vs <;> cases ds <;> first | rfl | cases this
  | _=>cases hf
end
structure IsC (K:PySem.W.Frag) (C:Addr):Prop where
 ha:PySem.W.findIn K (.ref C) "__class__"=some (some (.builtin "object.__class__"))
 hn:PySem.W.specialIn K (.builtin "object.__class__") "__get__"=some (some (.builtin "getset_descriptor.__get__"))
 htk:PySem.W.takesIn K (.builtin "object.__class__")=some true
 hm:PySem.W.mroIn K C (.type "object")=some true
 one:PySem.W.kitOne K (.ref C) (.ref C)=some true
def Ad (C:Addr):D→Option D
 | .ins C' _=>if C'=C then some (.bl true) else none
 | _=>none
section
variable {X:Cx} {a:Expr} {pos p:Pos} {fa:Dd}
theorem t8 {C:Addr}(cl:Cls X.K C)(ic:IsC X.K C):CallR X (.builtin "isinstance") (fun xs H Q=>∃ l dx fs,xs=[.ref l,.ref C]∧H l=some (.ins C dx fs)∧Q (.bl true) H):=by
 intro pz s σ H xs us Q I r h
 obtain⟨l,dx,fs,rfl,hl,q⟩:=h
 obtain⟨u,w',rfl,r1,r2⟩:=rf r
 cases (show w'=Value.ref C from r2)
 exact rM I r1 (.ins hl cl ic.ha ic.hn ic.htk ic.hm) ic.one fun tk=>⟨.bl true,H,I.tok _,rfl,q⟩
theorem Bc {x:Str}{C:Addr}{p1:Pos}(cl:Cls X.K C)(ic:IsC X.K C)(hg:Gl X "isinstance")(hm:X.mg "isinstance"=none)(hgt:Gl X x)(hmt:X.mg x=some (.ref C))(ha:PDN X a fa)(hd:(x == ("__debug__":Str))=false:=by decide)
  (hs:starEach [a,.Name x p1] X.env=[(false,eval a X.env),(false,eval (.Name x p1) X.env)]:=by rfl) (hs2:starEach [.Name x p1] X.env=[(false,eval (.Name x p1) X.env)]:=by rfl) (hpl:(backTo pos (starEach [.Name x p1] X.env)).any (·.1)=false:=by rfl) :
  PDE X (.Call (.Name "isinstance" p) [a,.Name x p1] [] pos) (d1 (Ad C) fa):=
 (df (t8 cl ic) hg hm eY (aH ha (aH (qX (v:=.ref C) hgt hmt rfl hd) a9 hs2) (by rw[hs,hs2])) (by decide) (by decide) (by rw[hs,hs2]) hpl).imp fun σ H Q=>un7 fun P F ρ d hf I k=>by
  unfold d1 at hf
  cases q:fa ρ with
  | none=>rw[q] at hf;cases hf
  | some dx=>
   rw[q,Ya] at hf
   cases dx with
   | ins C' fs=>
    have hf':(if C'=C then some (D.bl true) else none)=some d:=hf
    split at hf'
    ·rename_i hC
     subst hC
     cases hf'
     refine⟨P,F,ρ,_,q,I,fun y F1 H1 e1 r1=>?_⟩
     cases r1 with
     | ins h1 h2=>exact⟨_,_,_,rfl,h1,k _ F1 H1 e1 .bl⟩
    ·cases hf'
   | _=>cases hf
end
end L2
namespace L2
open PySem PySem.Spec PySem.W PyProof.Rows
section
variable {prog:Program} {w:World} {A:Around} {I:Addr} {fp wr:List Addr} {G:Array GenState→Array GenState→Prop} {P:Nat→Value→Prop} {St:Nat→Shared→Prop} {R:Kr}
end
section
variable {X:Cx} {e:Expr} {pos p:Pos}
end
section
variable {X:Cx} {elt tg iter:Expr} {ifs:List Expr} {scope:Scope} {pos:Pos} {N:List Str} {own:Nat} {ix is:List Nat} {f:Dl} {st:Dq} {c:Dk} {e:Dl}
end
section
variable {X:Cx} {c e1:Expr} {st1:Stmt} {aE body:List Stmt} {fc fc2:Dk} {w:Bool} {pos ipos rpos p zpos tpos:Pos} {elts:List Expr} {kk:Nat} {is:List Nat} {st:Dq}
end
end L2
namespace L2
open PySem PySem.Spec PySem.Calls PySem.W PyProof.Rows
section
variable {X:Cx} {a C:Addr} {ob:Obj} {pz:Kp} {σ:St} {H:Hp} {s:Shared}
end
section
variable {X:Cx} {a C:Addr} {ob:Obj}
end
end L2
namespace L2
open PySem PySem.SetTable
def Fh (mask:Nat)(p:Probe):Probe:=
 if p.more > 0 then { p with j:=p.j+1,more:=p.more-1 } else
 let (i,perturb):=leap mask p.i p.perturb
 { p with j:=i,more:=runEnd mask i-i,i,perturb }
def startM (mask:Nat)(h:Int):Probe:=
 let i:=bits h%(mask+1)
 { j:=i,more:=runEnd mask i-i,i,perturb:=bits h,dummy:=none }
def zi (mask:Nat)(p:Probe):Nat→Probe
 | 0=>p
 | n+1=>Fh mask (zi mask p n)
def at_ (mask:Nat)(h:Int)(n:Nat):Nat:=(zi mask (startM mask h) n).j
def own (owner:Array (Option Nat))(j:Nat):Option Nat:=owner.getD j (some 0)
def ow (owner:Array (Option Nat))(j:Nat):Option Nat:=owner.getD j none
end L2
namespace L2
open PySem PySem.Spec PyProof.Rows PySem.SetTable
section
variable {prog:Program} {w:World} {A:Around} {E:Kv} {s:Shared}
variable {S I:Addr} {es:Ka} {ep:Nat} {t:SetTable}
end
section
variable {prog:Program} {w:World} {A:Around} {E:Kv} {s:Shared}
variable {S I:Addr} {es:Ka} {ep:Nat} {t:SetTable}
end
end L2
namespace L2
open PySem PySem.Spec PyProof.Rows
section
variable {X:Cx} {o:Expr} {pos apos cpos:Pos}
def ya (i:Nat):DF→Option RES:=fun ρ=>match ρ[i]? with
 | some (some (.own (.lst ds) t))=>some (.nx (ρ.set i (some (.own (.lst ds.reverse) t))))
 | _=>none
theorem BJ (i:Nat)(h:PE X o (ce i))(hbase:attributeBase o "reverse" X.env (eval o X.env)=eval o X.env:=by rfl)(hline:(apos.endLine == cpos.line)=true:=by rfl)(hsw:swapsWith (.Call (.Attribute o "reverse" apos) [] [] cpos) none pos.line X.env=pure false:=by rfl) :
  PD1 X (.Expr (.Call (.Attribute o "reverse" apos) [] [] cpos) pos) (ya i):=
 PS.imp (c_ (o_ YX PySem.F.slot_list_reverse PySem.F.type_list_reverse pV h hbase hline) hsw) fun E σ H=>un7 fun P F ρ r hr I k=>by
  unfold ya at hr
  split at hr
  ·rename_i ds t q
   cases hr
   obtain⟨a,vs,h1,h2,h3,h4,h5⟩:=jb I q
   exact⟨_,h1,.inl ⟨rfl,vs,SqL.of h4⟩,a,vs,rfl,rfl,h4,k σ F _ (Same.refl _) (I.mut (o':=.lst _) (u:=.lst _) q rfl rfl h1 h5.rev)⟩
  ·cases hr
end
section
variable {prog:Program} {w:World} {A:Around} {E:Kv} {s:Shared} {r:Addr} {a b c:Int} {t u v:Tok} {n:Nat}
end
section
variable {X:Cx} {a:Expr} {fa:Dd} {pos p p' cpos:Pos}
end
def rP (x:Str)(n:Int):Str:=if n<1 then Str.empty else if (n == 1||x.length == 0)=true then x else ⟨(List.replicate n.toNat x.cps).foldl (·++·) #[]⟩
def s_:D→D→Option D
 | .str x,.int n=>if -(2 ^ 62)≤n∧n<1000∧x.length≤1000 then some (.str (rP x n)) else none
 | _,_=>none
def zF:R2:=fun x y H Q=>∃ z n,x=.str z∧y=.int n∧(-(2 ^ 62)≤n∧n<1000∧z.length≤1000)∧Q (.str (rP z n)) H
theorem nO (c:Array Nat):∀ (k:Nat) (acc:Array Nat),((List.replicate k c).foldl (·++·) acc).size=acc.size+k*c.size
 | 0,acc=>by simp
 | k+1,acc=>by
  rw[Xf,List.foldl_cons,nO c k,Array.size_append,Nat.succ_mul]
  omega
section
variable {X:Cx} {a b:Expr} {pos:Pos} {fa fb:Dd}
theorem xR:OpR X (binaryOp .Mult) zF:=by
 intro pz s σ H x y v u Q I rx ry h
 obtain⟨z,n,rfl,rfl,⟨b1,b2,b3⟩,q⟩:=h
 obtain⟨t,rfl⟩:=rx
 obtain⟨t',rfl⟩:=ry
 refine PySem.P.mul_str (by rw[Yk (show ¬ n < -(2 ^ 63:Int) by omega),Yk (show ¬ n ≥ 2 ^ 63 by omega)];rfl) (fun h1 _=>?_) (fun h1 _=>?_) ?_
 ·have h3:1000≤(2 ^ 63-1:Int)/n:=Int.le_ediv_of_mul_le (by omega) (by omega)
  have h4:(z.length:Int)≤1000:=Int.ofNat_le.mpr b3
  omega
 ·have h3:z.length*n.toNat≤1000*1000:=Nat.mul_le_mul b3 (by omega)
  show decide (z.length*n.toNat > sizeLine)=false
  rw[Zb,YK]
  omega
 ·unfold rP at q
  split
  ·rename_i h1
   rw[Yh h1] at q
   exact⟨by decide,⟨.str Str.empty,H,I.tok _,⟨_,rfl⟩,q⟩⟩
  ·rename_i h1
   rw[Yr h1] at q
   split
   ·rename_i h2
    rw[Yh h2] at q
    exact⟨.str z,H,I,⟨_,rfl⟩,q⟩
   ·rename_i h2
    rw[Yr h2] at q
    refine⟨?_,⟨.str _,H,I.tok _,⟨_,rfl⟩,q⟩⟩
    show ((List.replicate n.toNat z.cps).foldl (·++·) #[]).size≤sizeLine
    rw[nO,YK]
    have h3:n.toNat*z.cps.size≤1000*1000:=Nat.mul_le_mul (by omega) b3
    show 0+n.toNat*z.cps.size≤_
    omega
theorem xb {K:Kq}:je K zF s_:=by
 intro P F H ρ σ x y dx dy d Q hf I rx ry k
 unfold s_ at hf
 split at hf
 ·rename_i z n
  split at hf
  ·rename_i hb
   cases hf
   exact⟨z,n,gi rx,cR ry,hb,k _ F H (Evo.refl I.toDHp) .str⟩
  ·cases hf
 ·cases hf
theorem y0 (ha:PDR X a fa)(hb:PDR X b fb):PDE X (.BinOp a .Mult b pos) (d2 s_ fa fb):=fY xR xb ha hb
end
end L2
namespace My
open PySem PySem.Spec PyProof.Rows L2
noncomputable section
def Cw (i:Nat):Stmt:=PySem.Challenge.pw_tieword_k21_texts_read.main.body.getD i (.Pass ⟨0,0,0,0⟩)
def top (i:Nat):Stmt:=if i<1000 then Cw i else xv (Cw (i/1000)) (i%1000)
def rT:List Rw:=[⟨11,86,0,286,289,0⟩,⟨12,93,0,292,296,1⟩,⟨13,100,0,299,305,1⟩,⟨14,107,0,308,315,1⟩,⟨15,114,0,318,322,1⟩,⟨16,121,0,325,331,1⟩,⟨17,128,0,334,343,1⟩,⟨18000,140,0,358,361,0⟩,⟨23,176,1,415,419,1⟩,⟨24,183,1,422,429,1⟩,⟨25000,197,1,444,449,1⟩,⟨25001,204,1,452,456,1⟩,⟨25002,211,1,459,464,1⟩,⟨25003,218,1,467,474,1⟩,⟨25004,225,1,477,482,1⟩,⟨25005,232,1,485,491,1⟩,⟨25006,237,1,494,497,0⟩,⟨25007,244,1,500,506,1⟩,⟨25008,251,1,509,516,1⟩,⟨25009,258,1,519,525,1⟩,⟨25010,265,1,528,534,1⟩,⟨25011,272,1,537,544,1⟩,⟨25012,279,1,547,553,1⟩,⟨25013,286,1,556,561,1⟩,⟨26,300,1,579,584,1⟩,⟨28,307,2,589,595,1⟩,⟨29,314,2,598,604,1⟩,⟨30,321,2,607,613,1⟩,⟨31,326,2,616,619,0⟩,⟨32,333,2,622,637,1⟩,⟨33,340,2,640,654,1⟩,⟨34,347,2,657,667,1⟩,⟨35,354,2,670,678,1⟩,⟨36,361,2,681,690,1⟩,⟨37,368,2,693,697,1⟩,⟨38,375,2,700,705,1⟩,⟨39,380,2,708,711,0⟩,⟨40,387,2,714,720,1⟩]
def row (i:Nat):Option Rw:=rT.find? (·.i == i)
def qn (i:Nat):Str:=(([(18000, "Web.__init__"),(25000, "Reader.__init__"),(25001, "Reader.sign"),(25002, "Reader.skip"),(25003, "Reader.taken"),(25004, "Reader.number"),(25005, "Reader.marks"),(25006, "Reader.join_by"),(25007, "Reader.begin_ring"),(25008, "Reader.close_ring"),(25009, "Reader.ring_sign"),(25010, "Reader.place"),(25011, "Reader.follow"),(25012, "Reader.go_on"),(25013, "Reader.read_all")]:List (Nat×Str)).lookup i).getD (du (top i))
def mdl (m:Nat):Value:=match m with
 | 0=>.str "tieword.webs" 278
 | 1=>.str "tieword.reading" 399
 | _=>.str "law_tieword_k21_texts_read" 587
def fA (i:Nat):Addr:=((row i).map (·.a+1)).getD 0
def dA (i:Nat):FuncData:=((row i).map fun r=>fnD (qn i) (top i) (mdl r.m) r.a).getD (fnD "" (top 0) .none 0)
def aa:Addr:=290
set_option genInjectivity false
set_option genSizeOf false
set_option genSizeOfSpec false
def ba:GL:=[("~",405,0,406),(">",407,1,408),("<",409,2,410)]
structure Adr where
 w:World
 C:Addr
 tk_MOST_PLACES:Tok
 tk_MOST_TIES:Tok
 tk_MOST_LETTERS:Tok
 tk_MOST_FIGURES:Tok
 tk_MOST_RING:Tok
structure Txt (K:PySem.W.Frag) (mg:Str→Option Value) (t:Adr):Prop where
 dd:∀ i,(row i).isSome=true→Df K (qn i) (top i) (fA i) (dA i)∧(i<1000→mg (du (top i))=some (.ref (fA i)))
 cl:Cls K t.C
 mkC:Mk K t.C (fA 18000)
 mgC:mg "Web"=some (.ref t.C)
 na_joins:NoAttr K t.C "joins"
 na_kinds:NoAttr K t.C "kinds"
 na_ties:NoAttr K t.C "ties"
 naR_at:NoAttr K aa "at"
 naR_begun:NoAttr K aa "begun"
 naR_closed:NoAttr K aa "closed"
 naR_hung:NoAttr K aa "hung"
 naR_kinds:NoAttr K aa "kinds"
 naR_text:NoAttr K aa "text"
 naR_ties:NoAttr K aa "ties"
 cl_Reader:Cls K aa
 mk_Reader:Mk K aa (fA 25000)
 mg_Reader:mg "Reader"=some (.ref aa)
 ic_Reader:IsC K aa
 mt_q11:Meth K aa "sign" (fA 25001)
 mt_q13:Meth K aa "taken" (fA 25003)
 mt_q12:Meth K aa "skip" (fA 25002)
 mt_q7:Meth K aa "number" (fA 25004)
 mt_q5:Meth K aa "join_by" (fA 25006)
 mt_q2:Meth K aa "close_ring" (fA 25008)
 mt_q6:Meth K aa "marks" (fA 25005)
 mt_q1:Meth K aa "begin_ring" (fA 25007)
 mt_q10:Meth K aa "ring_sign" (fA 25009)
 mt_q8:Meth K aa "place" (fA 25010)
 mt_q3:Meth K aa "follow" (fA 25011)
 mt_q4:Meth K aa "go_on" (fA 25012)
 mt_q9:Meth K aa "read_all" (fA 25013)
 b_all:mg "all"=none
 b_bool:mg "bool"=none
 b_int:mg "int"=none
 b_isinstance:mg "isinstance"=none
 b_len:mg "len"=none
 b_list:mg "list"=none
 b_max:mg "max"=none
 b_min:mg "min"=none
 b_range:mg "range"=none
 b_sorted:mg "sorted"=none
 b_str:mg "str"=none
 b_tuple:mg "tuple"=none
 c_MOST_PLACES:mg "MOST_PLACES"=some (.int 7 t.tk_MOST_PLACES)
 c_MOST_TIES:mg "MOST_TIES"=some (.int 12 t.tk_MOST_TIES)
 c_MOST_LETTERS:mg "MOST_LETTERS"=some (.int 3 t.tk_MOST_LETTERS)
 c_MOST_FIGURES:mg "MOST_FIGURES"=some (.int 30 t.tk_MOST_FIGURES)
 c_MOST_RING:mg "MOST_RING"=some (.int 99 t.tk_MOST_RING)
 icC:IsC K t.C
 g_LEADS:mg "LEADS"=some (.ref (nat_lit 170))
 kd_LEADS:KD K t.w.params (nat_lit 170) ba 3
theorem Txt.F {K:Kq}{mg:Ks}{t:Adr}(T:Txt K mg t)(i:Nat)(h:(row i).isSome=true:=by kernel_rfl):Df K (qn i) (top i) (fA i) (dA i):=(T.dd i h).1
theorem Txt.G {K:Kq}{mg:Ks}{t:Adr}(T:Txt K mg t)(i:Nat)(h:(row i).isSome=true:=by kernel_rfl)(h2:decide (i<1000)=true:=by kernel_rfl):Df K (qn i) (top i) (fA i) (dA i)∧mg (du (top i))=some (.ref (fA i)):=⟨(T.dd i h).1,(T.dd i h).2 (YS h2)⟩
variable {P:Program} {K:Kq} {mg:Ks} {base:Heap} {t:Adr}
abbrev K0:PySem.W.Frag:=[]
abbrev Ok (P:Program)(w:World)(K:Kq)(mg:Ks)(base:Heap)(t:Adr)(i k:Nat)(m:Addr→List DV→Option DV):Prop:=FnOk P w K mg base CX0 k (fA i) (dA i) (bY (top i)) (spD K (m t.C))
abbrev CY:List Str:=["_law_script", "_law_number", "_law_cell"]
def vq (C:Addr):DF→Option RES:=
  (ai (aZ 1 (cI 7))
  (ai (gj (fE 0) (setV 2) (aZ 1 (d2 aR (d2 az (d2 az (d2 dm (al 1) (cI 69621)) (d2 aR (al 2) (cI 2147483647))) (cI 11)) (cI 2147483647))))
  (iE (asL (ak (cI 0) (ak (getV 1) bx))))))
def qf (C:Addr):List DV→Option DV:=mOf 3 1 (vq C)
theorem AV (T:Txt K mg t):Ok P t.w K mg base t 28 1 qf:=
 (T.F 28).okI CY fun hr=>(ac (cG 1 af) (ac (pfI (pL 0) (jL 2) (ah (cG 1 (bR (PDE.r (aO (PDE.r (aO (PDE.r (eM (aF 1) (PDE.r af))) (PDE.r (bR (aF 2) (PDE.r af))))) (PDE.r af))) (PDE.r af))))) (ah (lZ (cJ (aj af (aj (ap 1) aP)))))))
abbrev Cm:List Str:=["_law_script", "_law_at", "_law_cell"]
def qW (C:Addr):DF→Option RES:=
  (ai (js 1 (cI 0) (d2 az (d2 ixD (al 1) (cI 0)) (cI 1)))
  (ai (aZ 2 (cI 0))
  (ai (dIf (asB (d2 gtI (d1 aM (ao 0)) (cI 0))) (aZ 2 (d2 ixD (al 0) (d2 aR (d2 ixD (al 1) (cI 0)) (d1 aM (ao 0))))) dNx)
  (ai (js 1 (cI 1) (d2 aR (d2 dm (d2 az (d2 az (d2 ixD (al 1) (cI 1)) (d2 aR (al 2) (cI 2147483647))) (d2 dm (d2 ixD (al 1) (cI 0)) (d2 ixD (al 1) (cI 0)))) (cI 48271)) (cI 2147483629)))
  (bL (d2 bH (d2 ixD (al 1) (cI 1)) (cI 3)))))))
def au (C:Addr):MW:=iH 3 2 (qW C)
theorem eU (T:Txt K mg t):FnOk P t.w K mg base CX0 1 (fA 29) (dA 29) (bY (top 29)) (spW K (au t.C)):=
 (T.F 29).okW Cm fun hr=>(ac (oG 1 (pv 1) af (aO (PDE.r (bj (aF 1) (PDE.r af))) (PDE.r af))) (ac (cG 2 af) (ac (bc (jp (PDE.r (bf rfl T.b_len (bw 0))) (PDE.r af)) (ah (cG 2 (bj (aF 0) (PDE.r (bR (PDE.r (bj (aF 1) (PDE.r af))) (PDE.r (bf rfl T.b_len (bw 0)))))))) aD) (ac (oG 1 (pv 1) af (bR (PDE.r (eM (PDE.r (aO (PDE.r (aO (PDE.r (bj (aF 1) (PDE.r af))) (PDE.r (bR (aF 2) (PDE.r af))))) (PDE.r (eM (PDE.r (bj (aF 1) (PDE.r af))) (PDE.r (bj (aF 1) (PDE.r af))))))) (PDE.r af))) (PDE.r af))) (ah (aU (cV (PDE.r (bj (aF 1) (PDE.r af))) (PDE.r af))))))))
abbrev B0:List Str:=["_law_script", "_law_at", "_law_letters", "_law_n", "_law_size", "_law_base", "_law_spot", "_law_step_here", "_law_other", "_law_last"]
def ux (C:Addr):DF→Option RES:=
  (ai (aZ 2 (fun _=>some (.str "abcdefghijklmnopqrstuvwxyz")))
  (ai (aS 3 (aA (au C) (aJ (ag (getV 0)) (aC 1 bv))))
  (ai (aZ 4 (d2 az (cI 1) (d2 aR (al 3) (cI 3))))
  (ai (aZ 5 (d2 jR (fun _=>some (.str "")) (asO (asL (dw 1 [2,3] (jX (al 4)) (setV 0) e8 (d2 ixD (al 1) (d2 aR (d2 az (d2 bH (al 2) (cI 3)) (d2 dm (al 0) (d2 bH (al 2) (cI 7)))) (cI 26))))))))
  (ai (aZ 6 (d2 aR (d2 bH (al 3) (cI 11)) (al 4)))
  (ai (aZ 7 (d2 az (d2 az (d2 qz (ao 2) (d2 ixD (al 5) (al 6))) (cI 1)) (d2 aR (d2 bH (al 3) (cI 13)) (cI 25))))
  (ai (aZ 8 (d2 az (d2 az (slS (al 5) bNo (bI (getV 6))) (d2 ixD (al 2) (d2 aR (al 7) (cI 26)))) (slS (al 5) (bI (d2 az (al 6) (cI 1))) bNo)))
  (ai (aZ 9 (slS (al 5) bNo (bI (cI 2))))
  (ai (dIf (asB (d2 ltd (ao 4) (cI 3))) (aZ 9 (d2 az (al 5) (d2 ixD (al 2) (d2 aR (d2 bH (al 3) (cI 17)) (cI 26))))) dNx)
  (bL (asO (asL (ak (getV 5) (ak (getV 8) (ak (getV 9) bx)))))))))))))))
def fy (C:Addr):MW:=iH 10 2 (ux C)
theorem z_ (T:Txt K mg t):FnOk P t.w K mg base CX0 2 (fA 31) (dA 31) (bY (top 31)) (spW K (fy t.C)):=
 (T.F 31).okW B0 fun hr=>(ac (cG 2 aN) (ac (em 3 (pxc (eU T) (T.G 29) hr (aY (am (ap 0)) (aI 1 (pv 1) bz)))) (ac (cG 4 (aO (PDE.r af) (PDE.r (bR (aF 3) (PDE.r af))))) (ac (cG 5 (qV (PDE.n aN) (PDE.n (PDO.v (tu ["_law_k", "_law_letters", "_law_n"] 1 [2,3] [0] (eQ rfl T.b_range (aF 4)) (jL 0) kU (bj (aF 1) (PDE.r (bR (PDE.r (aO (PDE.r (cV (aF 2) (PDE.r af))) (PDE.r (eM (aF 0) (PDE.r (cV (aF 2) (PDE.r af))))))) (PDE.r af))))))))) (ac (cG 6 (bR (PDE.r (cV (aF 3) (PDE.r af))) (aF 4))) (ac (cG 7 (aO (PDE.r (aO (PDE.r (xS (bw 2) (PDE.n (bj (aF 5) (aF 6))))) (PDE.r af))) (PDE.r (bR (PDE.r (cV (aF 3) (PDE.r af))) (PDE.r af))))) (ac (cG 8 (aO (PDE.r (aO (PDE.r (d6 (aF 5) o4 (jB (ap 6)))) (PDE.r (bj (aF 2) (PDE.r (bR (aF 7) (PDE.r af))))))) (PDE.r (d6 (aF 5) (jB (aO (aF 6) (PDE.r af))) o4)))) (ac (cG 9 (d6 (aF 5) o4 (jB af))) (ac (bc (f9 hr.h64 (bw 4) (PDE.n af)) (ah (cG 9 (aO (aF 5) (PDE.r (bj (aF 2) (PDE.r (bR (PDE.r (cV (aF 3) (PDE.r af))) (PDE.r af)))))))) aD) (ah (aU (PDO.v (cJ (aj (ap 5) (aj (ap 8) (aj (ap 9) aP))))))))))))))))
abbrev Dg:List Str:=["_law_script", "_law_at", "_law_number"]
def q_ (C:Addr):DF→Option RES:=
  (ai (aS 2 (aA (au C) (aJ (ag (getV 0)) (aC 1 bv))))
  (ai (dIf (asB (d2 eqD (d2 aR (al 2) (cI 9)) (cI 0))) (bL (cI 0)) dNx)
  (ai (dIf (asB (d2 eqD (d2 aR (al 2) (cI 9)) (cI 1))) (bL (d2 gB (d2 jY (cI 10) (cI 30)) (cI 1))) dNx)
  (bL (d2 aR (d2 dm (d2 dm (d2 dm (d2 dm (al 2) (al 2)) (al 2)) (al 2)) (cI 7919)) (d2 ixD (asO (asL (ak (cI 10) (ak (d2 jY (cI 10) (cI 6)) (ak (d2 jY (cI 10) (cI 30)) bx))))) (d2 aR (al 2) (cI 3))))))))
def b6 (C:Addr):MW:=iH 3 2 (q_ C)
theorem t9 (T:Txt K mg t):FnOk P t.w K mg base CX0 2 (fA 30) (dA 30) (bY (top 30)) (spW K (b6 t.C)):=
 (T.F 30).okW Dg fun hr=>(ac (em 2 (pxc (eU T) (T.G 29) hr (aY (am (ap 0)) (aI 1 (pv 1) bz)))) (ac (bc (dh hr.h64 (PDE.n (bR (aF 2) (PDE.r af))) (PDE.n af)) (ah (aU af)) aD) (ac (bc (dh hr.h64 (PDE.n (bR (aF 2) (PDE.r af))) (PDE.n af)) (ah (aU (im (PDE.r (mR (PDE.r af) (PDE.r af))) (PDE.r af)))) aD) (ah (aU (bR (PDE.r (eM (PDE.r (eM (PDE.r (eM (PDE.r (eM (aF 2) (aF 2))) (aF 2))) (aF 2))) (PDE.r af))) (PDE.r (bj (PDE.r (PDO.v (cJ (aj af (aj (mR (PDE.r af) (PDE.r af)) (aj (mR (PDE.r af) (PDE.r af)) aP)))))) (PDE.r (bR (aF 2) (PDE.r af)))))))))))
abbrev Du:List Str:=["_law_script", "_law_at", "_law_state", "_law_one", "_law_other", "_law_room", "_law_text_here", "_law_n", "_law_k", "_law_kind", "_law_lead", "_law_ends"]
def pY (C:Addr):DF→Option RES:=
  (ai (aZ 6 (fun _=>some (.str "")))
  (ai (aS 7 (aA (au C) (aJ (ag (getV 0)) (aC 1 bv))))
  (ai (gj (jX (d2 si (cI 1) (d2 tf (d2 az (cI 1) (d2 dm (d2 bH (d2 aR (d2 bH (al 7) (cI 4)) (cI 3)) (cI 2)) (d2 aR (d2 bH (al 7) (cI 12)) (cI 3)))) (ao 5)))) (setV 8) (ai (aS 9 (x2 ixD (ag (cL none 2 "some")) (x2 aR (aA (au C) (aJ (ag (getV 0)) (aC 1 bv))) (ag (cI 3)))))
  (ai (aS 10 (x2 aR (aA (au C) (aJ (ag (getV 0)) (aC 1 bv))) (ag (cI 3))))
  (ai (aZ 6 (d2 az (d2 az (al 6) (d2 ixD (fun _=>some (.str "~><")) (al 10))) (d1 fB (ao 9))))
  (ai (aZ 11 (d2 ixD (asO (asL (ak (asT (ak (getV 3) (ak (getV 4) bx))) (ak (asT (ak (getV 3) (ak (getV 4) bx))) (ak (asT (ak (getV 4) (ak (getV 3) bx))) bx))))) (al 10)))
  (bK none 2 "ties" (asT (ak (d2 ixD (al 11) (cI 0)) (ak (d2 ixD (al 11) (cI 1)) (ak (getV 9) (ak (d2 gtI (al 10) (cI 0)) bx)))))))))))
  (bL (getV 6)))))
def aX (C:Addr):MW:=iH 12 6 (pY C)
theorem vM (T:Txt K mg t):FnOk P t.w K mg base CX0 2 (fA 32) (dA 32) (bY (top 32)) (spW K (aX t.C)):=
 (T.F 32).okW Du fun hr=>(ac (cG 6 aN) (ac (em 7 (pxc (eU T) (T.G 29) hr (aY (am (ap 0)) (aI 1 (pv 1) bz)))) (ac (pfI (eQ rfl T.b_range (PDE.r (zc rfl rfl T.b_max (PDE.n af) (PDE.n (xf rfl rfl T.b_min (PDE.n (aO (PDE.r af) (PDE.r (eM (PDE.r (cV (PDE.r (bR (PDE.r (cV (aF 7) (PDE.r af))) (PDE.r af))) (PDE.r af))) (PDE.r (bR (PDE.r (cV (aF 7) (PDE.r af))) (PDE.r af))))))) (bw 5)))))) (jL 8) (ac (em 9 (Ct (am (pfD 2 hr.h64 (pv 2))) (jx (pxc (eU T) (T.G 29) hr (aY (am (ap 0)) (aI 1 (pv 1) bz))) (am af)))) (ac (em 10 (jx (pxc (eU T) (T.G 29) hr (aY (am (ap 0)) (aI 1 (pv 1) bz))) (am af))) (ac (cG 6 (aO (PDE.r (aO (aF 6) (PDE.r (bj (PDE.r aN) (aF 10))))) (PDE.r (lX rfl T.b_str (bw 9))))) (ac (cG 11 (bj (PDE.r (PDO.v (cJ (aj (cn (aj (ap 3) (aj (ap 4) aP))) (aj (cn (aj (ap 3) (aj (ap 4) aP))) (aj (cn (aj (ap 4) (aj (ap 3) aP))) aP)))))) (aF 10))) (ah (gz 2 hr.h64 (pv 2) (cn (aj (bj (aF 11) (PDE.r af)) (aj (bj (aF 11) (PDE.r af)) (aj (ap 9) (aj (DJ (aF 10) (PDE.r af)) aP)))))))))))) (ah (aU (ap 6))))))
abbrev Ci:List Str:=["_law_script", "_law_at", "_law_state", "_law_here", "_law_n", "_law_kind", "_law_signs", "_law_number", "_law_place_here", "_law_room", "_law_k"]
def rH (C:Addr):DF→Option RES:=
  (ai (aZ 3 (d1 aM (aL none 2 "kinds")))
  (ai (aS 4 (aA (au C) (aJ (ag (getV 0)) (aC 1 bv))))
  (ai (aZ 5 (d2 ixD (cL none 2 "pool") (d2 aR (al 4) (cI 3))))
  (ai (bK none 2 "kinds" (getV 5))
  (ai (dg 6 (asL bx))
  (ai (gj (iF (asO (asL (jE (aL none 2 "open"))))) (gw [7,8]) (sy (bOr (jf (asB (d2 eqD (ao 3) (cI 6)))) (nQ eqD (x2 aR (aA (au C) (aJ (ag (getV 0)) (aC 1 bv))) (ag (cI 3))) (ag (cI 0)))) (ai (kC 2 "open" (asT (ak (getV 7) (ak (getV 8) bx))))
  (ai (aZ 9 (d2 gB (d2 gB (cI 12) (d1 aM (aL none 2 "ties"))) (d1 aM (aL none 2 "open"))))
  (jS 6 (x2 az (x2 az (ag (d2 az (d2 az (fun _=>some (.str "{")) (d1 fB (ao 7))) (fun _=>some (.str ":")))) (aA (aX C) (aJ (ag (getV 0)) (aC 1 (aC 2 (aJ (ag (getV 8)) (aJ (ag (getV 3)) (aJ (ag (getV 9)) bv)))))))) (ag (fun _=>some (.str "}"))))))) dNx))
  (ai (gj (jX (d2 gB (d2 aR (d2 bH (al 4) (cI 3)) (cI 6)) (cI 2))) (setV 10) (dIf (dB (asB (d2 ltd (ao 3) (cI 6))) (asB (d2 ltd (d2 az (d1 aM (aL none 2 "ties")) (d1 aM (aL none 2 "open"))) (cI 12)))) (ai (aS 7 (x2 az (ag (cI 1)) (x2 aR (aA (au C) (aJ (ag (getV 0)) (aC 1 bv))) (ag (cI 99)))))
  (ai (a_ (asB (d2 inD (ao 7) (aL none 2 "used"))) (aZ 7 (d2 az (d2 aR (al 7) (cI 99)) (cI 1))) 100)
  (ai (bK none 2 "used" (getV 7))
  (ai (bK none 2 "open" (asT (ak (getV 7) (ak (getV 3) bx))))
  (jn 6 (d2 az (d2 az (fun _=>some (.str "{")) (d1 fB (ao 7))) (fun _=>some (.str "}")))))))) dNx))
  (ai (dIf (asB (d2 eqD (d2 aR (d2 bH (al 4) (cI 18)) (cI 2)) (cI 1))) (ya 6) dNx)
  (bL (d2 az (al 5) (d2 jR (fun _=>some (.str "")) (ao 6))))))))))))
def aQ (C:Addr):MW:=iH 11 3 (rH C)
theorem lL (T:Txt K mg t):FnOk P t.w K mg base CX0 3 (fA 33) (dA 33) (bY (top 33)) (spW K (aQ t.C)):=
 (T.F 33).okW Ci fun hr=>(ac (cG 3 (bf rfl T.b_len (PDR.n (prD 2 hr.h64 (pv 2))))) (ac (em 4 (pxc (eU T) (T.G 29) hr (aY (am (ap 0)) (aI 1 (pv 1) bz)))) (ac (cG 5 (bj (PDE.r (pfD 2 hr.h64 (pv 2))) (PDE.r (bR (aF 4) (PDE.r af))))) (ac (gz 2 hr.h64 (pv 2) (ap 5)) (ac (sS 6 (cJ aP)) (ac (pfI (lw (PDO.v (m6 rfl T.b_list (prD 2 hr.h64 (pv 2))))) (gM (is:=[7,8]) rfl (bP (pgI 7) (bP (pgI 8) gL))) (ah (zT (PWX.t (BG (AL (dh hr.h64 (bw 3) (PDE.n af))) (yR (Ag hr.h64 (jx (pxc (eU T) (T.G 29) hr (aY (am (ap 0)) (aI 1 (pv 1) bz))) (am af)) (am af))))) (ac (yS 2 hr.h64 (pv 2) (cn (aj (ap 7) (aj (ap 8) aP)))) (ac (cG 9 (im (PDE.r (im (PDE.r af) (PDE.r (bf rfl T.b_len (PDR.n (prD 2 hr.h64 (pv 2))))))) (PDE.r (bf rfl T.b_len (PDR.n (prD 2 hr.h64 (pv 2))))))) (ah (rC 6 (pv 6) (eI (eI (am (aO (PDE.r (aO (PDE.r aN) (PDE.r (lX rfl T.b_str (bw 7))))) (PDE.r aN))) (pxc (vM T) (T.G 32) hr (aY (am (ap 0)) (aI 1 (pv 1) (aI 2 (pv 2) (aY (am (ap 8)) (aY (am (ap 3)) (aY (am (ap 9)) bz)))))))) (am aN)))))) aD))) (ac (pfI (eQ rfl T.b_range (PDE.r (im (PDE.r (bR (PDE.r (cV (aF 4) (PDE.r af))) (PDE.r af))) (PDE.r af)))) (jL 10) (ah (bc (PDW.t (fQ (f9 hr.h64 (bw 3) (PDE.n af)) (eC (f9 hr.h64 (PDE.n (aO (PDE.r (bf rfl T.b_len (PDR.n (prD 2 hr.h64 (pv 2))))) (PDE.r (bf rfl T.b_len (PDR.n (prD 2 hr.h64 (pv 2))))))) (PDE.n af))))) (ac (em 7 (eI (am af) (jx (pxc (eU T) (T.G 29) hr (aY (am (ap 0)) (aI 1 (pv 1) bz))) (am af)))) (ac (eh 100 ZL (CQ hr.h64 (bw 7) (PDR.n (prD 2 hr.h64 (pv 2)))) (ah (cG 7 (aO (PDE.r (bR (aF 7) (PDE.r af))) (PDE.r af))))) (ac (gz 2 hr.h64 (pv 2) (ap 7)) (ac (gz 2 hr.h64 (pv 2) (cn (aj (ap 7) (aj (ap 3) aP)))) (ah (ig 6 (pv 6) (aO (PDE.r (aO (PDE.r aN) (PDE.r (lX rfl T.b_str (bw 7))))) (PDE.r aN)))))))) aD))) (ac (bc (dh hr.h64 (PDE.n (bR (PDE.r (cV (aF 4) (PDE.r af))) (PDE.r af))) (PDE.n af)) (ah (BJ 6 (pv 6))) aD) (ah (aU (aO (aF 5) (PDE.r (qV (PDE.n aN) (bw 6))))))))))))))
abbrev Cg:List Str:=["_law_script", "_law_at", "_law_state", "_law_way", "_law_room", "_law_one", "_law_text_here"]
def vE (C:Addr):DF→Option RES:=
  (ai (aS 3 (x2 aR (aA (au C) (aJ (ag (getV 0)) (aC 1 bv))) (ag (cI 7))))
  (ai (aZ 4 (d2 gB (d2 gB (cI 12) (d1 aM (aL none 2 "ties"))) (d1 aM (aL none 2 "open"))))
  (ai (dIf (dB (asB (d2 eqD (ao 3) (cI 0))) (asB (d2 gtI (d1 aM (aL none 2 "boughs")) (cI 0)))) (ai (fV 2 "here" (i8 none 2 "boughs"))
  (bL (fun _=>some (.str ")")))) dNx)
  (ai (dIf (asB (d2 gtI (d1 aM (aL none 2 "kinds")) (cI 6))) (bL (fun _=>some (.str ""))) dNx)
  (ai (dIf (dB (asB (d2 eqD (ao 3) (cI 1))) (asB (d2 eqD (d1 aM (aL none 2 "boughs")) (cI 0)))) (ai (fV 2 "here" (ag (d1 aM (aL none 2 "kinds"))))
  (dC (x2 az (ag (fun _=>some (.str "."))) (aA (aQ C) (aJ (ag (getV 0)) (aC 1 (aC 2 bv))))))) dNx)
  (ai (dIf (orT (asB (d2 eqD (ao 3) (cI 0))) (orT (asB (d2 eqD (ao 3) (cI 1))) (asB (d2 ltd (ao 4) (cI 1))))) (bL (fun _=>some (.str ""))) dNx)
  (ai (aZ 5 (cL none 2 "here"))
  (ai (fV 2 "here" (ag (d1 aM (aL none 2 "kinds"))))
  (ai (aS 6 (aA (aX C) (aJ (ag (getV 0)) (aC 1 (aC 2 (aJ (ag (getV 5)) (aJ (ag (cL none 2 "here")) (aJ (ag (getV 4)) bv))))))))
  (ai (aS 6 (x2 az (ag (getV 6)) (aA (aQ C) (aJ (ag (getV 0)) (aC 1 (aC 2 bv))))))
  (ai (dIf (asB (d2 gtI (al 3) (cI 4))) (ai (bK none 2 "boughs" (getV 5))
  (aZ 6 (d2 az (fun _=>some (.str "(")) (al 6)))) dNx)
  (bL (getV 6)))))))))))))
def dS (C:Addr):MW:=iH 7 3 (vE C)
theorem Al (T:Txt K mg t):FnOk P t.w K mg base CX0 4 (fA 34) (dA 34) (bY (top 34)) (spW K (dS t.C)):=
 (T.F 34).okW Cg fun hr=>(ac (em 3 (jx (pxc (eU T) (T.G 29) hr (aY (am (ap 0)) (aI 1 (pv 1) bz))) (am af))) (ac (cG 4 (im (PDE.r (im (PDE.r af) (PDE.r (bf rfl T.b_len (PDR.n (prD 2 hr.h64 (pv 2))))))) (PDE.r (bf rfl T.b_len (PDR.n (prD 2 hr.h64 (pv 2))))))) (ac (bc (PDW.t (fQ (dh hr.h64 (bw 3) (PDE.n af)) (eC (jp (PDE.r (bf rfl T.b_len (PDR.n (prD 2 hr.h64 (pv 2))))) (PDE.r af))))) (ac (mF 2 hr.h64 (pv 2) (wH 2 hr.h64 (pv 2))) (ah (aU aN))) aD) (ac (bc (jp (PDE.r (bf rfl T.b_len (PDR.n (prD 2 hr.h64 (pv 2))))) (PDE.r af)) (ah (aU aN)) aD) (ac (bc (PDW.t (fQ (dh hr.h64 (bw 3) (PDE.n af)) (eC (dh hr.h64 (PDE.n (bf rfl T.b_len (PDR.n (prD 2 hr.h64 (pv 2))))) (PDE.n af))))) (ac (mF 2 hr.h64 (pv 2) (am (bf rfl T.b_len (PDR.n (prD 2 hr.h64 (pv 2)))))) (ah (gu (eI (am aN) (pxc (lL T) (T.G 33) hr (aY (am (ap 0)) (aI 1 (pv 1) (aI 2 (pv 2) bz)))))))) aD) (ac (bc (PDW.t (eK (dh hr.h64 (bw 3) (PDE.n af)) (eK (dh hr.h64 (bw 3) (PDE.n af)) (fH (f9 hr.h64 (bw 4) (PDE.n af)))))) (ah (aU aN)) aD) (ac (cG 5 (pfD 2 hr.h64 (pv 2))) (ac (mF 2 hr.h64 (pv 2) (am (bf rfl T.b_len (PDR.n (prD 2 hr.h64 (pv 2)))))) (ac (em 6 (pxc (vM T) (T.G 32) hr (aY (am (ap 0)) (aI 1 (pv 1) (aI 2 (pv 2) (aY (am (ap 5)) (aY (am (pfD 2 hr.h64 (pv 2))) (aY (am (ap 4)) bz)))))))) (ac (em 6 (eI (am (ap 6)) (pxc (lL T) (T.G 33) hr (aY (am (ap 0)) (aI 1 (pv 1) (aI 2 (pv 2) bz)))))) (ac (bc (jp (aF 3) (PDE.r af)) (ac (gz 2 hr.h64 (pv 2) (ap 5)) (ah (cG 6 (aO (PDE.r aN) (aF 6))))) aD) (ah (aU (ap 6))))))))))))))
abbrev DA:List Str:=["_law_script", "_law_at", "_law_state", "_law_text_here", "_law_cell"]
def vP (C:Addr):DF→Option RES:=
  (ai (dg 1 (kF (qf C) (aB 0 nA)))
  (ai (dg 2 (fun _=>some (.obj none (lO [("kinds",none),("ties",none),("open",none),("boughs",none),("used",none),("here",some 0)]))))
  (ai (nq 2 "pool" (aA (fy C) (aJ (ag (getV 0)) (aC 1 bv))))
  (ai (nq 2 "some" (wV (aW (aA (b6 C) (aJ (ag (getV 0)) (aC 1 bv))) (aW (aA (b6 C) (aJ (ag (getV 0)) (aC 1 bv))) (aW (ag (cI 5)) dj)))))
  (ai (aS 3 (aA (aQ C) (aJ (ag (getV 0)) (aC 1 (aC 2 bv)))))
  (ai (gj (iF (d2 az (al 0) (asO (asL (ak (cI 1) (ak (cI 1) (ak (cI 1) bx))))))) (setV 4) (aS 3 (x2 az (ag (getV 3)) (aA (dS C) (aJ (ag (getV 0)) (aC 1 (aC 2 bv)))))))
  (ai (aZ 3 (d2 az (al 3) (d2 s_ (fun _=>some (.str ")")) (d1 aM (aL none 2 "boughs")))))
  (ai (a_ (asB (d2 gtI (d1 aM (aL none 2 "open")) (cI 0))) (aS 3 (x2 az (ag (d2 az (al 3) (fun _=>some (.str ".")))) (aA (aQ C) (aJ (ag (getV 0)) (aC 1 (aC 2 bv)))))) 100)
  (mX 2 (bL (asT (ak (getV 3) (ak (getV 2) bx)))))))))))))
def pX (C:Addr):List DV→Option DV:=mOf 5 1 (vP C)
theorem Br (T:Txt K mg t):Ok P t.w K mg base t 35 5 pX:=
 (T.F 35).okI DA fun hr=>(r_ (sS 1 (poI (AV T) (T.G 28) hr (oW 0 a8))) (sD (Ft 2 (by with_reducible exact uN [("kinds",none),("ties",none),("open",none),("boughs",none),("used",none),("here",some 0)] (d5 cU (gc a9) (d5 cU (gc a9) (d5 cU (gc a9) (d5 cU (gc a9) (d5 cU (gc a9) (d5 cU vW yB)))))))) (ac (qh 2 hr.h64 (pv 2) (pxc (z_ T) (T.G 31) hr (aY (am (ap 0)) (aI 1 (pv 1) bz)))) (ac (qh 2 hr.h64 (pv 2) (zV (aG (pxc (t9 T) (T.G 30) hr (aY (am (ap 0)) (aI 1 (pv 1) bz))) (aG (pxc (t9 T) (T.G 30) hr (aY (am (ap 0)) (aI 1 (pv 1) bz))) (aG (am af) b9))))) (ac (em 3 (pxc (lL T) (T.G 33) hr (aY (am (ap 0)) (aI 1 (pv 1) (aI 2 (pv 2) bz))))) (ac (pfI (lw (aO (aF 0) (PDE.r (PDO.v (cJ (aj af (aj af (aj af aP)))))))) (jL 4) (ah (em 3 (eI (am (ap 3)) (pxc (Al T) (T.G 34) hr (aY (am (ap 0)) (aI 1 (pv 1) (aI 2 (pv 2) bz)))))))) (ac (cG 3 (aO (aF 3) (PDE.r (y0 (PDE.r aN) (PDE.r (bf rfl T.b_len (PDR.n (prD 2 hr.h64 (pv 2))))))))) (ac (eh 100 ZL (jp (PDE.r (bf rfl T.b_len (PDR.n (prD 2 hr.h64 (pv 2))))) (PDE.r af)) (ah (em 3 (eI (am (aO (aF 3) (PDE.r aN))) (pxc (lL T) (T.G 33) hr (aY (am (ap 0)) (aI 1 (pv 1) (aI 2 (pv 2) bz)))))))) (ah (lu 2 (aU (cn (aj (ap 3) (aj (ap 2) aP))))))))))))))
abbrev CH:List Str:=["_law_ties", "_law_found", "_law_one", "_law_other", "_law_kind", "_law_oneway"]
def u4 (C:Addr):DF→Option RES:=
  (ai (dg 1 (asL bx))
  (ai (gj (fE 0) (gw [2,3,4,5]) (dIf (dB (dq (asB (getV 5))) (asB (d2 gtI (al 2) (al 3)))) (jn 1 (asT (ak (getV 3) (ak (getV 2) (ak (getV 4) (ak (getV 5) bx)))))) (jn 1 (asT (ak (getV 2) (ak (getV 3) (ak (getV 4) (ak (getV 5) bx))))))))
  (iE (asL (kT (al 1))))))
def mW (C:Addr):List DV→Option DV:=mOf 6 1 (u4 C)
theorem AA (T:Txt K mg t):Ok P t.w K mg base t 36 1 mW:=
 (T.F 36).okI CH fun hr=>(ac (sS 1 (cJ aP)) (ac (pfI (pL 0) (gM (is:=[2,3,4,5]) rfl (bP (pgI 2) (bP (pgI 3) (bP (pgI 4) (bP (pgI 5) gL))))) (ah (bc (PDW.t (fQ (bU (b8 (ap 5))) (eC (jp (aF 2) (aF 3))))) (ah (ig 1 (pv 1) (cn (aj (ap 3) (aj (ap 2) (aj (ap 4) (aj (ap 5) aP))))))) (ah (ig 1 (pv 1) (cn (aj (ap 2) (aj (ap 3) (aj (ap 4) (aj (ap 5) aP)))))))))) (ah (lZ (gf hr.h64 rfl T.b_sorted (aF 1))))))
abbrev C_:List Str:=["_law_found"]
def Dn (C:Addr):DF→Option RES:=
  (bL (gy (d1 (gW "int") (ao 0)) (yb (d1 (gW "bool") (ao 0)))))
def ku (C:Addr):List DV→Option DV:=mOf 1 1 (Dn C)
theorem pK (T:Txt K mg t):Ok P t.w K mg base t 37 1 ku:=
 (T.F 37).okI C_ fun hr=>(ah (aU (dW (ge rfl T.b_isinstance rfl T.b_int L2.boot_int (bw 0)) (e7 (Bo (ge rfl T.b_isinstance rfl T.b_bool L2.boot_bool (bw 0)))))))
abbrev Dc:List Str:=["_law_found", "_law_due"]
def zo (C:Addr):DF→Option RES:=
  (ai (dIf (orT (dq (asB (d1 (gW "tuple") (ao 0)))) (orT (asB (d2 neD (d1 aM (ao 0)) (cI 4))) (dq (asB (d1 (gW "bool") (d2 ixD (al 0) (cI 3))))))) (bL (fun _=>some (.bl false))) dNx)
  (bL (gy (bJ (ku C) (aV (d2 ixD (al 0) (cI 0)) nA)) (gy (bJ (ku C) (aV (d2 ixD (al 0) (cI 1)) nA)) (gy (bJ (ku C) (aV (d2 ixD (al 0) (cI 2)) nA)) (d2 eqD (ao 0) (ao 1)))))))
def i6 (C:Addr):List DV→Option DV:=mOf 2 2 (zo C)
theorem BN (T:Txt K mg t):Ok P t.w K mg base t 38 2 i6:=
 (T.F 38).okI Dc fun hr=>(ac (bc (PDW.t (eK (bU (b8 (ge rfl T.b_isinstance rfl T.b_tuple L2.boot_tuple (bw 0)))) (eK (tT hr.h64 (PDE.n (bf rfl T.b_len (bw 0))) (PDE.n af)) (fH (bU (b8 (ge rfl T.b_isinstance rfl T.b_bool L2.boot_bool (PDE.n (bj (aF 0) (PDE.r af)))))))))) (ah (aU kQ)) aD) (ah (aU (dW (pcI (pK T) (T.G 37) hr (bG (bj (aF 0) (PDE.r af)) a8)) (dW (pcI (pK T) (T.G 37) hr (bG (bj (aF 0) (PDE.r af)) a8)) (dW (pcI (pK T) (T.G 37) hr (bG (bj (aF 0) (PDE.r af)) a8)) (e7 (qU hr.h64 (bw 0) (bw 1)))))))))
abbrev DG:List Str:=["_law_web", "_law_kinds", "_law_ties", "_law_due"]
def zy (C:Addr):DF→Option RES:=
  (ai (dIf (orT (dq (asB (d1 (Ad C) (ao 0)))) (orT (dq (asB (d1 (gW "list") (d1 (di C "kinds") (al 0))))) (dq (asB (d1 (gW "list") (d1 (di C "ties") (al 0))))))) (bL (fun _=>some (.bl false))) dNx)
  (ai (dIf (orT (asB (d2 neD (d1 (di C "kinds") (al 0)) (ao 1))) (dq (asB (d1 sv (asO (asL (dw 1 [] (iF (d1 (di C "kinds") (al 0))) (setV 0) e8 (d1 (gW "str") (ao 0))))))))) (bL (fun _=>some (.bl false))) dNx)
  (ai (aZ 3 (bJ (mW C) (aB 2 nA)))
  (bL (gy (d2 eqD (d1 aM (d1 (di C "ties") (al 0))) (d1 aM (ao 3))) (d1 sv (asO (asL (dw 1 [0,3] (jX (d1 aM (ao 3))) (setV 0) e8 (bJ (i6 C) (aV (d2 ixD (d1 (di C "ties") (al 1)) (al 0)) (aV (d2 ixD (al 2) (al 0)) nA))))))))))))
def km (C:Addr):List DV→Option DV:=mOf 4 3 (zy C)
theorem vz (T:Txt K mg t):Ok P t.w K mg base t 39 3 km:=
 (T.F 39).okI DG fun hr=>(ac (bc (PDW.t (eK (bU (b8 (Bc T.cl T.icC rfl T.b_isinstance rfl T.mgC (bw 0)))) (eK (bU (b8 (ge rfl T.b_isinstance rfl T.b_list L2.boot_list (PDE.n (eO T.cl T.na_kinds (aF 0)))))) (fH (bU (b8 (ge rfl T.b_isinstance rfl T.b_list L2.boot_list (PDE.n (eO T.cl T.na_ties (aF 0)))))))))) (ah (aU kQ)) aD) (ac (bc (PDW.t (eK (tT hr.h64 (PDE.n (eO T.cl T.na_kinds (aF 0))) (bw 1)) (fH (bU (b8 (pI rfl rfl T.b_all (PDE.n (PDO.v (tu ["_law_kind"] 1 [] [0] (lw (eO T.cl T.na_kinds (aF 0))) (jL 0) kU (ge rfl T.b_isinstance rfl T.b_str L2.boot_str (bw 0))))))))))) (ah (aU kQ)) aD) (ac (cG 3 (pcI (AA T) (T.G 36) hr (oW 2 a8))) (ah (aU (dW (qU hr.h64 (PDE.n (bf rfl T.b_len (PDE.n (eO T.cl T.na_ties (aF 0))))) (PDE.n (bf rfl T.b_len (bw 3)))) (e7 (pI rfl rfl T.b_all (PDE.n (PDO.v (tu ["_law_k", "_law_web", "_law_due"] 1 [0,3] [0] (eQ rfl T.b_range (PDE.r (bf rfl T.b_len (bw 3)))) (jL 0) kU (pcI (BN T) (T.G 38) hr (bG (bj (PDE.r (eO T.cl T.na_ties (aF 1))) (aF 0)) (bG (bj (aF 2) (aF 0)) a8))))))))))))))
abbrev ED:List Str:=["self", "text"]
def EZ (C:Addr):DF→Option RES:=
  (ai (u8 aa 0 "text" (getV 1))
  (ai (u8 aa 0 "at" (cI 0))
  (ai (ir aa 0 "kinds" (asL bx))
  (ai (ir aa 0 "ties" (asL bx))
  (ai (ir aa 0 "hung" (asL bx))
  (ai (ir aa 0 "begun" (fun _=>some (.dK [])))
  (ir aa 0 "closed" (fun _=>some (.dK [])))))))))
def b_ (C:Addr):OD→List DV→Option (OD×D):=eW 2 2 (EZ C)
theorem CW (T:Txt K mg t):FnOk P t.w K mg base CX0 1 (fA 25000) (dA 25000) (bY (top 25000)) (spO K (b_ t.C)):=
 (T.F 25000).okO ED fun hr=>(ac (qA 0 T.cl_Reader T.naR_text (pv 0) (ap 1)) (ac (qA 0 T.cl_Reader T.naR_at (pv 0) af) (ac (ff 0 T.cl_Reader T.naR_kinds (pv 0) (cJ aP)) (ac (ff 0 T.cl_Reader T.naR_ties (pv 0) (cJ aP)) (ac (ff 0 T.cl_Reader T.naR_hung (pv 0) (cJ aP)) (ac (ff 0 T.cl_Reader T.naR_begun (pv 0) kX) (ah (ff 0 T.cl_Reader T.naR_closed (pv 0) kX))))))))
abbrev CG:List Str:=["self"]
def Ce (C:Addr):DF→Option RES:=
  (bL (slS (cL (some aa) 0 "text") (bI (cL (some aa) 0 "at")) (bI (d2 az (cL (some aa) 0 "at") (cI 1)))))
def fi (C:Addr):List DV→Option DV:=mOf 1 1 (Ce C)
theorem f8 (T:Txt K mg t):Ok P t.w K mg base t 25001 1 fi:=
 (T.F 25001).okI CG fun hr=>(ah (aU (d6 (PDE.r (pfB 0 T.cl_Reader T.naR_text (pv 0))) (jB (pfB 0 T.cl_Reader T.naR_at (pv 0))) (jB (aO (PDE.r (pfB 0 T.cl_Reader T.naR_at (pv 0))) (PDE.r af))))))
abbrev B5:List Str:=["self", "low", "high", "start"]
def CI (C:Addr):DF→Option RES:=
  (ai (aZ 3 (cL (some aa) 0 "at"))
  (ai (a_ (asB (chD leA leA (ao 1) (dI aa "sign" (fi C) (d9 (fq 0) g0)) (ao 2))) (gU (some aa) 0 "at" (cI 1)) 5000)
  (bL (slS (cL (some aa) 0 "text") (bI (getV 3)) (bI (cL (some aa) 0 "at"))))))
def bN (C:Addr):OD→List DV→Option (OD×D):=eW 4 3 (CI C)
theorem uL (T:Txt K mg t):FnOk P t.w K mg base CX0 2 (fA 25003) (dA 25003) (bY (top 25003)) (spO K (bN t.C)):=
 (T.F 25003).okO B5 fun hr=>(ac (cG 3 (pfB 0 T.cl_Reader T.naR_at (pv 0))) (ac (eh 5000 ZL (mE (bw 1) (PDE.n (dF (oQ 0) T.cl_Reader T.mt_q11 (f8 T) (hr.mono (by decide)) (T.F 25001).bd)) (bw 2)) (ah (iN 0 T.cl_Reader T.naR_at (pv 0) af))) (ah (aU (d6 (PDE.r (pfB 0 T.cl_Reader T.naR_text (pv 0))) (jB (ap 3)) (jB (pfB 0 T.cl_Reader T.naR_at (pv 0))))))))
abbrev Cb:List Str:=["kind", "letters_fit"]
def zn (C:Addr):DF→Option RES:=
  (ai (aZ 1 (d1 sv (asO (asL (dw 1 [] (nM (getV 0)) (setV 0) e8 (chD leA leA (fun _=>some (.str "a")) (ao 0) (fun _=>some (.str "z"))))))))
  (bL (gy (getV 1) (chD leA leA (cI 1) (d1 aM (ao 0)) (cI 3)))))
def jj (C:Addr):List DV→Option DV:=mOf 2 1 (zn C)
theorem vG (T:Txt K mg t):Ok P t.w K mg base t 11 1 jj:=
 (T.F 11).okI Cb fun hr=>(ac (cG 1 (pI rfl rfl T.b_all (PDE.n (PDO.v (tu ["letter"] 1 [] [0] (yj (ap 0)) (jL 0) kU (mB (PDE.n aN) (bw 0) (PDE.n aN))))))) (ah (aU (dW (ap 1) (e7 (mB (PDE.n af) (PDE.n (bf rfl T.b_len (bw 0))) (PDE.n (gT rfl T.c_MOST_LETTERS))))))))
abbrev D1:List Str:=["self", "sign"]
def Dh (C:Addr):DF→Option RES:=
  (ai (dIf (asB (d2 neD (dI aa "sign" (fi C) (d9 (fq 0) g0)) (ao 1))) b5 dNx)
  (gU (some aa) 0 "at" (cI 1)))
def bW (C:Addr):OD→List DV→Option (OD×D):=eW 2 2 (Dh C)
theorem o5 (T:Txt K mg t):FnOk P t.w K mg base CX0 2 (fA 25002) (dA 25002) (bY (top 25002)) (spO K (bW t.C)):=
 (T.F 25002).okO D1 fun hr=>(ac (bc (tT hr.h64 (PDE.n (dF (oQ 0) T.cl_Reader T.mt_q11 (f8 T) (hr.mono (by decide)) (T.F 25001).bd)) (bw 1)) (ah bD) aD) (ah (iN 0 T.cl_Reader T.naR_at (pv 0) af)))
abbrev C4:List Str:=["figures"]
def B_ (C:Addr):DF→Option RES:=
  (bL (gy (chD leA leA (cI 1) (d1 aM (ao 0)) (cI 30)) (orV (d2 eqD (ao 0) (fun _=>some (.str "0"))) (d2 neD (d2 ixD (al 0) (cI 0)) (fun _=>some (.str "0"))))))
def rj (C:Addr):List DV→Option DV:=mOf 1 1 (B_ C)
theorem AO (T:Txt K mg t):Ok P t.w K mg base t 23 1 rj:=
 (T.F 23).okI C4 fun hr=>(ah (aU (dW (mB (PDE.n af) (PDE.n (bf rfl T.b_len (bw 0))) (PDE.n (gT rfl T.c_MOST_FIGURES))) (e7 (DT (qU hr.h64 (bw 0) (PDE.n aN)) (e7 (zk hr.h64 (PDE.n (bj (aF 0) (PDE.r af))) (PDE.n aN))))))))
abbrev E5:List Str:=["self", "figures"]
def Eu (C:Addr):DF→Option RES:=
  (ai (aS 1 (bM aa "taken" 0 (bN C) (aW (ag (fun _=>some (.str "0"))) (aW (ag (fun _=>some (.str "9"))) dj))))
  (ai (dIf (dq (asB (bJ (rj C) (aB 1 nA)))) b5 dNx)
  (bL (d1 yn (ao 1)))))
def bi (C:Addr):OD→List DV→Option (OD×D):=eW 2 1 (Eu C)
theorem zL (T:Txt K mg t):FnOk P t.w K mg base CX0 3 (fA 25004) (dA 25004) (bY (top 25004)) (spO K (bi t.C)):=
 (T.F 25004).okO E5 fun hr=>(ac (em 1 (ia 0 T.cl_Reader T.mt_q13 (uL T) hr (T.F 25003).bd (pv 0) (aG (am aN) (aG (am aN) b9)))) (ac (bc (bU (b8 (pcI (AO T) (T.G 23) hr (oW 1 a8)))) (ah bD) aD) (ah (aU (wX rfl T.b_int (bw 1))))))
abbrev B3:List Str:=["ahead", "behind", "kind", "lead"]
def B4 (C:Addr):DF→Option RES:=
  (ai (dIf (asB (d2 eqD (ao 3) (cI 2))) (bL (asT (ak (getV 1) (ak (getV 0) (ak (getV 2) (ak (fun _=>some (.bl true)) bx)))))) dNx)
  (bL (asT (ak (getV 0) (ak (getV 1) (ak (getV 2) (ak (d2 eqD (ao 3) (cI 1)) bx)))))))
def rc (C:Addr):List DV→Option DV:=mOf 4 4 (B4 C)
theorem zY (T:Txt K mg t):Ok P t.w K mg base t 24 1 rc:=
 (T.F 24).okI B3 fun hr=>(ac (bc (dh hr.h64 (bw 3) (PDE.n af)) (ah (aU (cn (aj (ap 1) (aj (ap 0) (aj (ap 2) (aj kQ aP))))))) aD) (ah (aU (cn (aj (ap 0) (aj (ap 1) (aj (ap 2) (aj (qU hr.h64 (bw 3) (PDE.n af)) aP))))))))
abbrev E6:List Str:=["self", "marks", "ahead", "behind"]
def EI (C:Addr):DF→Option RES:=
  (om (some aa) 0 "ties" (dw 2 [2,3] (fE 1) (gw [0,1]) e8 (bJ (rc C) (aV (getV 2) (aV (getV 3) (aV (getV 0) (aB 1 nA)))))))
def cq (C:Addr):OD→List DV→Option (OD×D):=eW 4 4 (EI C)
theorem zE (T:Txt K mg t):FnOk P t.w K mg base CX0 2 (fA 25006) (dA 25006) (bY (top 25006)) (spO K (cq t.C)):=
 (T.F 25006).okO E6 fun hr=>(ah (xw 0 T.cl_Reader T.naR_ties (pv 0) (tu ["kind", "lead", "ahead", "behind"] 2 [2,3] [0,1] (pL 1) (gM (is:=[0,1]) rfl (bP (pgI 0) (bP (pgI 1) gL))) kU (pcI (zY T) (T.G 24) hr (bG (ap 2) (bG (ap 3) (bG (ap 0) (oW 1 a8))))))))
abbrev Fk:List Str:=["self", "number", "place", "marks"]
def Fi (C:Addr):DF→Option RES:=
  (ai (dIf (orT (asB (d2 pQ (getV 1) (aL (some aa) 0 "begun"))) (asB (d2 ny (getV 1) (aL (some aa) 0 "closed")))) b5 dNx)
  (ai (dIf (asB (d2 eqD (d2 dE (aL (some aa) 0 "begun") (getV 1)) (ao 2))) b5 dNx)
  (ai (jh (some aa) 0 "closed" (getV 1) (fun _=>some (.bl true)))
  (bB (bM aa "join_by" 0 (cq C) (aW (ag (getV 3)) (aW (ag (d2 dE (aL (some aa) 0 "begun") (getV 1))) (aW (ag (getV 2)) dj))))))))
def cv (C:Addr):OD→List DV→Option (OD×D):=eW 4 4 (Fi C)
theorem Cr (T:Txt K mg t):FnOk P t.w K mg base CX0 3 (fA 25008) (dA 25008) (bY (top 25008)) (spO K (cv t.C)):=
 (T.F 25008).okO Fk fun hr=>(ac (bc (PDW.t (eK (u5 hr.h64 (ap 1) (prB 0 T.cl_Reader T.naR_begun (pv 0))) (fH (qo hr.h64 (ap 1) (prB 0 T.cl_Reader T.naR_closed (pv 0)))))) (ah bD) aD) (ac (bc (dh hr.h64 (PDE.n (eB hr.h64 (prB 0 T.cl_Reader T.naR_begun (pv 0)) (ap 1))) (bw 2)) (ah bD) aD) (ac (qg 0 T.cl_Reader T.naR_closed hr.h64 (pv 0) (ap 1) kQ) (ah (cT (ia 0 T.cl_Reader T.mt_q5 (zE T) hr (T.F 25006).bd (pv 0) (aG (am (ap 3)) (aG (am (eB hr.h64 (prB 0 T.cl_Reader T.naR_begun (pv 0)) (ap 1))) (aG (am (ap 2)) b9)))))))))
abbrev EN:List Str:=["self", "found", "lead"]
def En (C:Addr):DF→Option RES:=
  (ai (dg 1 (asL bx))
  (ai (a_ (asB (d1 (inG ba) (dI aa "sign" (fi C) (d9 (fq 0) g0)))) (ai (aZ 2 (d1 (xx ba) (dI aa "sign" (fi C) (d9 (fq 0) g0))))
  (ai (gU (some aa) 0 "at" (cI 1))
  (jS 1 (kL (aW (cC aa "number" 0 (bi C) g0) (aW (ag (getV 2)) dj)))))) 200)
  (ai (mX 1 (dIf (dq (j0 (getV 1))) b5 dNx))
  (nY 1))))
def cb (C:Addr):OD→List DV→Option (OD×D):=eW 3 1 (En C)
theorem zQ (T:Txt K mg t):FnOk P t.w K mg base CX0 4 (fA 25005) (dA 25005) (bY (top 25005)) (spO K (cb t.C)):=
 (T.F 25005).okO EN fun hr=>(ac (sS 1 (cJ aP)) (ac (eh 200 ZL (ug rfl T.g_LEADS T.kd_LEADS (dF (oQ 0) T.cl_Reader T.mt_q11 (f8 T) (hr.mono (by decide)) (T.F 25001).bd)) (ac (cG 2 (wQ rfl T.g_LEADS T.kd_LEADS (dF (oQ 0) T.cl_Reader T.mt_q11 (f8 T) (hr.mono (by decide)) (T.F 25001).bd))) (ac (iN 0 T.cl_Reader T.naR_at (pv 0) af) (ah (rC 1 (pv 1) (BU (aG (og 0 T.cl_Reader T.mt_q7 (zL T) hr (T.F 25004).bd (pv 0)) (aG (am (ap 2)) b9)))))))) (ac (lu 1 (bc (bU (iL (PDE.r (ap 1)))) (ah bD) aD)) (ah (qp 1 (pv 1))))))
abbrev E2:List Str:=["self", "number", "place"]
def Ez (C:Addr):DF→Option RES:=
  (ai (dIf (asB (d2 ny (getV 1) (aL (some aa) 0 "begun"))) b5 dNx)
  (jh (some aa) 0 "begun" (getV 1) (getV 2)))
def cw (C:Addr):OD→List DV→Option (OD×D):=eW 3 3 (Ez C)
theorem DR (T:Txt K mg t):FnOk P t.w K mg base CX0 1 (fA 25007) (dA 25007) (bY (top 25007)) (spO K (cw t.C)):=
 (T.F 25007).okO E2 fun hr=>(ac (bc (qo hr.h64 (ap 1) (prB 0 T.cl_Reader T.naR_begun (pv 0))) (ah bD) aD) (ah (qg 0 T.cl_Reader T.naR_begun hr.h64 (pv 0) (ap 1) (ap 2))))
abbrev Dj:List Str:=["self", "place", "number"]
def Cp (C:Addr):DF→Option RES:=
  (ai (bB (bM aa "skip" 0 (bW C) (aW (ag (fun _=>some (.str "{"))) dj)))
  (ai (aS 2 (cC aa "number" 0 (bi C) g0))
  (ai (dIf (dq (asB (chD leA leA (cI 1) (ao 2) (cI 99)))) b5 dNx)
  (ai (dIf (asB (d2 eqD (dI aa "sign" (fi C) (d9 (fq 0) g0)) (fun _=>some (.str ":")))) (ai (bB (bM aa "skip" 0 (bW C) (aW (ag (fun _=>some (.str ":"))) dj)))
  (bB (bM aa "close_ring" 0 (cv C) (aW (ag (getV 2)) (aW (ag (getV 1)) (aW (cC aa "marks" 0 (cb C) g0) dj)))))) (bB (bM aa "begin_ring" 0 (cw C) (aW (ag (getV 2)) (aW (ag (getV 1)) dj)))))
  (bB (bM aa "skip" 0 (bW C) (aW (ag (fun _=>some (.str "}"))) dj)))))))
def bV (C:Addr):OD→List DV→Option (OD×D):=eW 3 2 (Cp C)
theorem Bk (T:Txt K mg t):FnOk P t.w K mg base CX0 5 (fA 25009) (dA 25009) (bY (top 25009)) (spO K (bV t.C)):=
 (T.F 25009).okO Dj fun hr=>(ac (cT (ia 0 T.cl_Reader T.mt_q12 (o5 T) hr (T.F 25002).bd (pv 0) (aG (am aN) b9))) (ac (em 2 (og 0 T.cl_Reader T.mt_q7 (zL T) hr (T.F 25004).bd (pv 0))) (ac (bc (bU (mE (PDE.n af) (bw 2) (PDE.n (gT rfl T.c_MOST_RING)))) (ah bD) aD) (ac (bc (dh hr.h64 (PDE.n (dF (oQ 0) T.cl_Reader T.mt_q11 (f8 T) (hr.mono (by decide)) (T.F 25001).bd)) (PDE.n aN)) (ac (cT (ia 0 T.cl_Reader T.mt_q12 (o5 T) hr (T.F 25002).bd (pv 0) (aG (am aN) b9))) (ah (cT (ia 0 T.cl_Reader T.mt_q2 (Cr T) hr (T.F 25008).bd (pv 0) (aG (am (ap 2)) (aG (am (ap 1)) (aG (og 0 T.cl_Reader T.mt_q6 (zQ T) hr (T.F 25005).bd (pv 0)) b9))))))) (ah (cT (ia 0 T.cl_Reader T.mt_q1 (DR T) hr (T.F 25007).bd (pv 0) (aG (am (ap 2)) (aG (am (ap 1)) b9)))))) (ah (cT (ia 0 T.cl_Reader T.mt_q12 (o5 T) hr (T.F 25002).bd (pv 0) (aG (am aN) b9))))))))
abbrev Fe:List Str:=["self", "kind", "place"]
def Er (C:Addr):DF→Option RES:=
  (ai (aS 1 (bM aa "taken" 0 (bN C) (aW (ag (fun _=>some (.str "a"))) (aW (ag (fun _=>some (.str "z"))) dj))))
  (ai (dIf (dq (asB (bJ (jj C) (aV (getV 1) nA)))) b5 dNx)
  (ai (aZ 2 (d1 aM (aL (some aa) 0 "kinds")))
  (ai (bK (some aa) 0 "kinds" (getV 1))
  (ai (a_ (asB (d2 eqD (dI aa "sign" (fi C) (d9 (fq 0) g0)) (fun _=>some (.str "{")))) (bB (bM aa "ring_sign" 0 (bV C) (aW (ag (getV 2)) dj))) 200)
  (bL (getV 2)))))))
def br (C:Addr):OD→List DV→Option (OD×D):=eW 3 1 (Er C)
theorem vL (T:Txt K mg t):FnOk P t.w K mg base CX0 6 (fA 25010) (dA 25010) (bY (top 25010)) (spO K (br t.C)):=
 (T.F 25010).okO Fe fun hr=>(ac (em 1 (ia 0 T.cl_Reader T.mt_q13 (uL T) hr (T.F 25003).bd (pv 0) (aG (am aN) (aG (am aN) b9)))) (ac (bc (bU (b8 (pcI (vG T) (T.G 11) hr (bG (ap 1) a8)))) (ah bD) aD) (ac (cG 2 (bf rfl T.b_len (PDR.n (prB 0 T.cl_Reader T.naR_kinds (pv 0))))) (ac (p_ 0 T.cl_Reader T.naR_kinds (pv 0) (ap 1)) (ac (eh 200 ZL (dh hr.h64 (PDE.n (dF (oQ 0) T.cl_Reader T.mt_q11 (f8 T) (hr.mono (by decide)) (T.F 25001).bd)) (PDE.n aN)) (ah (cT (ia 0 T.cl_Reader T.mt_q10 (Bk T) hr (T.F 25009).bd (pv 0) (aG (am (ap 2)) b9))))) (ah (aU (ap 2))))))))
abbrev E1:List Str:=["self", "ahead", "marks", "behind"]
def E_ (C:Addr):DF→Option RES:=
  (ai (aS 2 (cC aa "marks" 0 (cb C) g0))
  (ai (aS 3 (cC aa "place" 0 (br C) g0))
  (ai (bB (bM aa "join_by" 0 (cq C) (aW (ag (getV 2)) (aW (ag (getV 1)) (aW (ag (getV 3)) dj)))))
  (bL (getV 3)))))
def bC (C:Addr):OD→List DV→Option (OD×D):=eW 4 2 (E_ C)
theorem zm (T:Txt K mg t):FnOk P t.w K mg base CX0 7 (fA 25011) (dA 25011) (bY (top 25011)) (spO K (bC t.C)):=
 (T.F 25011).okO E1 fun hr=>(ac (em 2 (og 0 T.cl_Reader T.mt_q6 (zQ T) hr (T.F 25005).bd (pv 0))) (ac (em 3 (og 0 T.cl_Reader T.mt_q8 (vL T) hr (T.F 25010).bd (pv 0))) (ac (cT (ia 0 T.cl_Reader T.mt_q5 (zE T) hr (T.F 25006).bd (pv 0) (aG (am (ap 2)) (aG (am (ap 1)) (aG (am (ap 3)) b9))))) (ah (aU (ap 3))))))
abbrev Ew:List Str:=["self", "here", "sign"]
def E9 (C:Addr):DF→Option RES:=
  (ai (aZ 2 (dI aa "sign" (fi C) (d9 (fq 0) g0)))
  (ai (dIf (asB (d1 (inG ba) (getV 2))) (dC (bM aa "follow" 0 (bC C) (aW (ag (getV 1)) dj))) dNx)
  (ai (gU (some aa) 0 "at" (cI 1))
  (ai (dIf (asB (d2 eqD (ao 2) (fun _=>some (.str "(")))) (ai (bK (some aa) 0 "hung" (getV 1))
  (dC (bM aa "follow" 0 (bC C) (aW (ag (getV 1)) dj)))) dNx)
  (ai (dIf (dB (asB (d2 eqD (ao 2) (fun _=>some (.str ")")))) (j0 (aL (some aa) 0 "hung"))) (dC (i8 (some aa) 0 "hung")) dNx)
  (ai (dIf (dB (asB (d2 eqD (ao 2) (fun _=>some (.str ".")))) (dq (j0 (aL (some aa) 0 "hung")))) (dC (cC aa "place" 0 (br C) g0)) dNx)
  b5))))))
def cg (C:Addr):OD→List DV→Option (OD×D):=eW 3 2 (E9 C)
theorem Cv (T:Txt K mg t):FnOk P t.w K mg base CX0 8 (fA 25012) (dA 25012) (bY (top 25012)) (spO K (cg t.C)):=
 (T.F 25012).okO Ew fun hr=>(ac (cG 2 (dF (oQ 0) T.cl_Reader T.mt_q11 (f8 T) (hr.mono (by decide)) (T.F 25001).bd)) (ac (bc (ug rfl T.g_LEADS T.kd_LEADS (ap 2)) (ah (gu (ia 0 T.cl_Reader T.mt_q3 (zm T) hr (T.F 25011).bd (pv 0) (aG (am (ap 1)) b9)))) aD) (ac (iN 0 T.cl_Reader T.naR_at (pv 0) af) (ac (bc (dh hr.h64 (bw 2) (PDE.n aN)) (ac (p_ 0 T.cl_Reader T.naR_hung (pv 0) (ap 1)) (ah (gu (ia 0 T.cl_Reader T.mt_q3 (zm T) hr (T.F 25011).bd (pv 0) (aG (am (ap 1)) b9))))) aD) (ac (bc (PDW.t (fQ (dh hr.h64 (bw 2) (PDE.n aN)) (eC (iL (prB 0 T.cl_Reader T.naR_hung (pv 0)))))) (ah (gu (xu 0 T.cl_Reader T.naR_hung (pv 0)))) aD) (ac (bc (PDW.t (fQ (dh hr.h64 (bw 2) (PDE.n aN)) (eC (bU (iL (prB 0 T.cl_Reader T.naR_hung (pv 0))))))) (ah (gu (og 0 T.cl_Reader T.mt_q8 (vL T) hr (T.F 25010).bd (pv 0)))) aD) (ah bD)))))))
abbrev Ej:List Str:=["self", "here"]
def EA (C:Addr):DF→Option RES:=
  (ai (aS 1 (cC aa "place" 0 (br C) g0))
  (ai (a_ (asB (d2 ltd (cL (some aa) 0 "at") (d1 aM (cL (some aa) 0 "text")))) (aS 1 (bM aa "go_on" 0 (cg C) (aW (ag (getV 1)) dj))) 1000)
  (ai (dIf (j0 (aL (some aa) 0 "hung")) b5 dNx)
  (dIf (asB (d2 ltd (d1 wa (aL (some aa) 0 "closed")) (d1 wa (aL (some aa) 0 "begun")))) b5 dNx))))
def b7 (C:Addr):OD→List DV→Option (OD×D):=eW 2 1 (EA C)
theorem Co (T:Txt K mg t):FnOk P t.w K mg base CX0 9 (fA 25013) (dA 25013) (bY (top 25013)) (spO K (b7 t.C)):=
 (T.F 25013).okO Ej fun hr=>(ac (em 1 (og 0 T.cl_Reader T.mt_q8 (vL T) hr (T.F 25010).bd (pv 0))) (ac (eh 1000 ZL (f9 hr.h64 (PDE.n (pfB 0 T.cl_Reader T.naR_at (pv 0))) (PDE.n (bf rfl T.b_len (PDE.n (pfB 0 T.cl_Reader T.naR_text (pv 0)))))) (ah (em 1 (ia 0 T.cl_Reader T.mt_q4 (Cv T) hr (T.F 25012).bd (pv 0) (aG (am (ap 1)) b9))))) (ac (bc (iL (prB 0 T.cl_Reader T.naR_hung (pv 0))) (ah bD) aD) (ah (bc (f9 hr.h64 (PDE.n (qM rfl T.b_len (prB 0 T.cl_Reader T.naR_closed (pv 0)))) (PDE.n (qM rfl T.b_len (prB 0 T.cl_Reader T.naR_begun (pv 0))))) (ah bD) aD)))))
abbrev Ck:List Str:=["kind"]
def zg (C:Addr):DF→Option RES:=
  (bL (chD leA ltI (cI 0) (ao 0) (d2 jY (cI 10) (cI 30))))
def mU (C:Addr):List DV→Option DV:=mOf 1 1 (zg C)
theorem Bh (T:Txt K mg t):Ok P t.w K mg base t 12 1 mU:=
 (T.F 12).okI Ck fun hr=>(ah (aU (lY (PDE.n af) (bw 0) (PDE.n (mR (PDE.r af) (PDE.r af))))))
abbrev DO:List Str:=["tie", "size", "places_fit"]
def zJ (C:Addr):DF→Option RES:=
  (ai (aZ 2 (gy (chD leA ltI (cI 0) (d2 ixD (al 0) (cI 0)) (ao 1)) (chD leA ltI (cI 0) (d2 ixD (al 0) (cI 1)) (ao 1))))
  (bL (gy (getV 2) (gy (d2 neD (d2 ixD (al 0) (cI 0)) (d2 ixD (al 0) (cI 1))) (bJ (mU C) (aV (d2 ixD (al 0) (cI 2)) nA))))))
def kO (C:Addr):List DV→Option DV:=mOf 3 2 (zJ C)
theorem z7 (T:Txt K mg t):Ok P t.w K mg base t 13 2 kO:=
 (T.F 13).okI DO fun hr=>(ac (cG 2 (dW (lY (PDE.n af) (PDE.n (bj (aF 0) (PDE.r af))) (bw 1)) (e7 (lY (PDE.n af) (PDE.n (bj (aF 0) (PDE.r af))) (bw 1))))) (ah (aU (dW (ap 2) (dW (zk hr.h64 (PDE.n (bj (aF 0) (PDE.r af))) (PDE.n (bj (aF 0) (PDE.r af)))) (e7 (pcI (Bh T) (T.G 12) hr (bG (bj (aF 0) (PDE.r af)) a8))))))))
abbrev CT:List Str:=["kinds", "ties", "kind", "tie"]
def zh (C:Addr):DF→Option RES:=
  (ai (dIf (dq (asB (chD leA leA (cI 1) (d1 aM (ao 0)) (cI 7)))) b5 dNx)
  (ai (dIf (asB (d2 gtI (d1 aM (ao 1)) (cI 12))) b5 dNx)
  (ai (gj (fE 0) (setV 2) (dIf (dq (asB (bJ (jj C) (aV (getV 2) nA)))) b5 dNx))
  (gj (fE 1) (setV 3) (dIf (dq (asB (bJ (kO C) (aB 3 (aV (d1 aM (ao 0)) nA))))) b5 dNx)))))
def n4 (C:Addr):List DV→Option DV:=mOf 4 2 (zh C)
theorem Ap (T:Txt K mg t):Ok P t.w K mg base t 14 3 n4:=
 (T.F 14).okI CT fun hr=>(ac (bc (bU (mE (PDE.n af) (PDE.n (bf rfl T.b_len (bw 0))) (PDE.n (gT rfl T.c_MOST_PLACES)))) (ah bD) aD) (ac (bc (jp (PDE.r (bf rfl T.b_len (bw 1))) (PDE.r (gT rfl T.c_MOST_TIES))) (ah bD) aD) (ac (pfI (pL 0) (jL 2) (ah (bc (bU (b8 (pcI (vG T) (T.G 11) hr (bG (ap 2) a8)))) (ah bD) aD))) (ah (pfI (pL 1) (jL 3) (ah (bc (bU (b8 (pcI (z7 T) (T.G 13) hr (oW 3 (bG (bf rfl T.b_len (bw 0)) a8))))) (ah bD) aD)))))))
abbrev DC:List Str:=["tie"]
def zO (C:Addr):DF→Option RES:=
  (ai (dIf (orT (asB (d2 ixD (al 0) (cI 3))) (asB (d2 ltd (d2 ixD (al 0) (cI 0)) (d2 ixD (al 0) (cI 1))))) (bL (getV 0)) dNx)
  (bL (asT (ak (d2 ixD (al 0) (cI 1)) (ak (d2 ixD (al 0) (cI 0)) (ak (d2 ixD (al 0) (cI 2)) (ak (d2 ixD (al 0) (cI 3)) bx)))))))
def mV (C:Addr):List DV→Option DV:=mOf 1 1 (zO C)
theorem Bf (T:Txt K mg t):Ok P t.w K mg base t 15 1 mV:=
 (T.F 15).okI DC fun hr=>(ac (bc (PDW.t (eK (b8 (bj (aF 0) (PDE.r af))) (fH (f9 hr.h64 (PDE.n (bj (aF 0) (PDE.r af))) (PDE.n (bj (aF 0) (PDE.r af))))))) (ah (aU (ap 0))) aD) (ah (aU (cn (aj (bj (aF 0) (PDE.r af)) (aj (bj (aF 0) (PDE.r af)) (aj (bj (aF 0) (PDE.r af)) (aj (bj (aF 0) (PDE.r af)) aP))))))))
abbrev DZ:List Str:=["joins", "ends", "pair"]
def zH (C:Addr):DF→Option RES:=
  (qY 0 (getV 1) (d1 wF (asO (asL (kT (d2 az (iQ (al 0) (getV 1) (asT bx)) (asT (ak (getV 2) bx))))))))
def g_ (C:Addr):OD→List DV→Option (OD×D):=oI 3 3 (zH C)
theorem wj (T:Txt K mg t):FnOk P t.w K mg base CX0 1 (fA 16) (dA 16) (bY (top 16)) (spM K (g_ t.C)):=
 (T.F 16).okJ DZ fun hr=>(ah (xz 0 hr.h64 (pv 0) (ap 1) (um rfl T.b_tuple (PDE.r (PDO.v (gf hr.h64 rfl T.b_sorted (PDE.r (aO (PDE.r (vY hr.h64 (aF 0) (ap 1) (cn aP))) (PDE.r (cn (aj (ap 2) aP)))))))))))
abbrev CJ:List Str:=["ties", "joins", "one", "other", "kind", "oneway"]
def zj (C:Addr):DF→Option RES:=
  (ai (dg 1 (fun _=>some (.dT [])))
  (ai (gj (fE 0) (gw [2,3,4,5]) (ai (fg K0 1 (g_ C) (aV (asT (ak (getV 2) (ak (getV 3) bx))) (aV (asT (ak (getV 4) (ak (ifV (asB (getV 5)) (cI 1) (cI 0)) bx))) nA)))
  (fg K0 1 (g_ C) (aV (asT (ak (getV 3) (ak (getV 2) bx))) (aV (asT (ak (getV 4) (ak (ifV (asB (getV 5)) (cI 2) (cI 0)) bx))) nA)))))
  (nY 1)))
def nF (C:Addr):List DV→Option DV:=mOf 6 1 (zj C)
theorem AU (T:Txt K mg t):Ok P t.w K mg base t 17 2 nF:=
 (T.F 17).okI CJ fun hr=>(ac (sS 1 rL) (ac (pfI (pL 0) (gM (is:=[2,3,4,5]) rfl (bP (pgI 2) (bP (pgI 3) (bP (pgI 4) (bP (pgI 5) gL))))) (ac (ol 1 (wj T) (hr.mono (by decide)) rfl (T.G 16).2 (T.F 16).fn.kp (T.F 16).bd (pv 1) (bG (cn (aj (ap 2) (aj (ap 3) aP))) (bG (cn (aj (ap 4) (aj (uB (b8 (ap 5)) af af) aP))) a8))) (ah (ol 1 (wj T) (hr.mono (by decide)) rfl (T.G 16).2 (T.F 16).fn.kp (T.F 16).bd (pv 1) (bG (cn (aj (ap 3) (aj (ap 2) aP))) (bG (cn (aj (ap 4) (aj (uB (b8 (ap 5)) af af) aP))) a8)))))) (ah (qp 1 (pv 1)))))
abbrev Di:List Str:=["self", "kinds", "ties"]
def zt (C:Addr):DF→Option RES:=
  (ai (qF (bJ (n4 C) (aB 1 (aB 2 nA))))
  (ai (kq C 0 "kinds" (asO (asL (jE (al 1)))))
  (ai (kq C 0 "ties" (asO (asL (kT (asO (asL (dw 1 [] (fE 2) (setV 0) e8 (bJ (mV C) (aV (getV 0) nA)))))))))
  (kq C 0 "joins" (bJ (nF C) (aV (d1 (di C "ties") (al 0)) nA))))))
def jT (C:Addr):OD→List DV→Option (OD×D):=oI 3 3 (zt C)
theorem BA (T:Txt K mg t):FnOk P t.w K mg base CX0 4 (fA 18000) (dA 18000) (bY (top 18000)) (spM K (jT t.C)):=
 (T.F 18000).okJ Di fun hr=>(ac (wU (pcI (Ap T) (T.G 14) hr (oW 1 (oW 2 a8)))) (ac (lB 0 T.cl T.na_kinds (pv 0) (PDO.v (m6 rfl T.b_list (aF 1)))) (ac (lB 0 T.cl T.na_ties (pv 0) (PDO.v (gf hr.h64 rfl T.b_sorted (PDE.r (PDO.v (tu ["tie"] 1 [] [0] (pL 2) (jL 0) kU (pcI (Bf T) (T.G 15) hr (bG (ap 0) a8)))))))) (ah (lB 0 T.cl T.na_joins (pv 0) (pcI (AU T) (T.G 17) hr (bG (eO T.cl T.na_ties (aF 0)) a8)))))))
abbrev DY:List Str:=["text", "reader"]
def D2 (C:Addr):DF→Option RES:=
  (ai (dg 1 (tZ aa (b_ C) (aV (getV 0) nA)))
  (ai (bB (cC aa "read_all" 1 (b7 C) g0))
  (mX 1 (iE (ko C (jT C) (aV (d1 (di aa "kinds") (getV 1)) (aV (d1 (di aa "ties") (getV 1)) nA)))))))
def oq (C:Addr):List DV→Option DV:=mOf 2 1 (D2 C)
theorem wg (T:Txt K mg t):Ok P t.w K mg base t 26 10 oq:=
 (T.F 26).okI DY fun hr=>(ac (sS 1 (r8 T.mk_Reader (CW T) (hr.mono (by decide)) rfl T.mg_Reader (T.F 25000).bd (bG (ap 0) a8))) (ac (cT (og 1 T.cl_Reader T.mt_q9 (Co T) hr (T.F 25013).bd (pv 1))) (ah (lu 1 (lZ (vi T.mkC (BA T) (hr.mono (by decide)) rfl T.mgC (T.F 18000).bd (bG (eO T.cl_Reader T.naR_kinds (PDE.r (ap 1))) (bG (eO T.cl_Reader T.naR_ties (PDE.r (ap 1))) a8))))))))
abbrev C3:List Str:=["_law_script", "_law_text_here", "_law_state"]
def uO (C:Addr):DF→Option RES:=
  (ai (qG [1,2] (bJ (pX C) (aV (getV 0) nA)))
  (ai (dIf (dq (asB (bJ (km C) (aV (bJ (oq C) (aV (getV 1) nA)) (aV (d2 dE (al 2) (fun _=>some (.str "kinds"))) (aV (d2 dE (al 2) (fun _=>some (.str "ties"))) nA)))))) (bL (fun _=>some (.bl false))) dNx)
  (bL (bJ (km C) (aV (bJ (oq C) (aV (getV 1) nA)) (aV (d2 dE (al 2) (fun _=>some (.str "kinds"))) (aV (d2 dE (al 2) (fun _=>some (.str "ties"))) nA)))))))
def zK (C:Addr):List DV→Option DV:=mOf 3 1 (uO C)
theorem BX (T:Txt K mg t):Ok P t.w K mg base t 40 11 zK:=
 (T.F 40).okI C3 fun hr=>(ac (wW (gM (is:=[1,2]) rfl (bP (pgI 1) (bP (pgI 2) gL))) (pcI (Br T) (T.G 35) hr (bG (ap 0) a8))) (ac (bc (bU (b8 (pcI (vz T) (T.G 39) hr (bG (pcI (wg T) (T.G 26) hr (bG (ap 1) a8)) (bG (eB hr.h64 (aF 2) aN) (bG (eB hr.h64 (aF 2) aN) a8)))))) (ah (aU kQ)) aD) (ah (aU (pcI (vz T) (T.G 39) hr (bG (pcI (wg T) (T.G 26) hr (bG (ap 1) a8)) (bG (eB hr.h64 (aF 2) aN) (bG (eB hr.h64 (aF 2) aN) a8))))))))
end
theorem mI {st:Dq}{body:Dw}(I:Nat→DF→Prop):∀ (ds:List D) (k:Nat) (ρ:DF),I k ρ→
  (∀ j d ρ,ds[j]?=some d→I (k+j) ρ→∃ ρ1,st d ρ=some ρ1∧∃ ρ',body ρ1=some (.nx ρ')∧I (k+j+1) ρ')→∃ ρ',cm st body ds ρ=some (.nx ρ')∧I (k+ds.length) ρ'
 | [],k,ρ,h,_=>⟨ρ,rfl,h⟩
 | d::ds,k,ρ,h,hs=>by
  obtain⟨ρ1,e1,ρ',e2,h'⟩:=hs 0 d ρ rfl h
  obtain⟨ρ2,e3,h3⟩:=mI I ds (k+1) ρ' h' fun j d' ρ0 hj hI=>by
   have:=hs (j+1) d' ρ0 (by simpa using hj) (by rw[← ZE,Ze];exact hI)
   rwa [show k+(j+1)+1=k+1+j+1 by omega] at this
  refine⟨ρ2,?_,by rw[Yg,show k+(ds.length+1)=k+1+ds.length by omega];exact h3⟩
  unfold cm
  rw[e1]
  simp only[e2]
  exact e3
theorem nL {st:Dq}{body:Dw}(I:DF→Prop){ds:List D}{ρ:DF}(h:I ρ)
  (hs:∀ d∈ds,∀ ρ,I ρ→∃ ρ1,st d ρ=some ρ1∧∃ ρ',body ρ1=some (.nx ρ')∧I ρ'):∃ ρ',cm st body ds ρ=some (.nx ρ')∧I ρ':=
 mI (fun _=>I) ds 0 ρ h fun j d ρ hj hI=>hs d (Zj hj) ρ hI
theorem eD {st:Dq}{c:Dk}{e:Dd}{ρ:DF}{α:Type}(f:α→D)(F:α→D):∀ xs:List α,(∀ x∈xs,∃ ρ1,st (f x) ρ=some ρ1∧c ρ1=some true∧e ρ1=some (F x))→dL st c e ρ (xs.map f)=some (xs.map F)
 | [],_=>rfl
 | x::xs,h=>by
  obtain⟨ρ1,h1,h2,h3⟩:=h x Yf
  rw[YA]
  unfold dL
  rw[h1,Ya,h2,Ya,Yh rfl,h3,Ya,eD f F xs fun y hy=>h y (Yd _ hy)]
  rfl
theorem ki {st:Dq}{c:Dk}{e:Dd}{ρ:DF}{α:Type}(f:α→D)(G:α→Prop):∀ ds:List D,(∀ d∈ds,∃ ρ1,st d ρ=some ρ1∧c ρ1=some true∧∃ y,e ρ1=some (f y)∧G y)→∃ ys:List α,dL st c e ρ ds=some (ys.map f)∧ys.length=ds.length∧∀ y∈ys,G y
 | [],_=>⟨[],rfl,rfl,fun _ h=>by cases h⟩
 | x::xs,h=>by
  obtain⟨ρ1,h1,h2,y,h3,h4⟩:=h x Yf
  obtain⟨ys,q1,q2,q3⟩:=ki f G xs fun y hy=>h y (Yd _ hy)
  refine⟨y::ys,?_,by simp[q2],fun z hz=>?_⟩
  ·unfold dL
   rw[h1,Ya,h2,Ya,Yh rfl,h3,Ya,q1]
   rfl
  ·rcases YC.mp hz with rfl | hz
   ·exact h4
   ·exact q3 z hz
theorem i4 (i j:Int):eqd (.int i) (.int j)=decide (i=j):=by
 have h:=cx (.int i) (.int j) rfl
 by_cases e:i=j
 ·rw[YF e,h,e]
 ·rw[Yk e]
  cases q:eqd (.int i) (.int j) with
  | false=>rfl
  | true=>exact absurd (by simpa using h.mp q) e
theorem BQ (i j:Bool):eqd (.bl i) (.bl j)=decide (i=j):=by
 have h:=cx (.bl i) (.bl j) rfl
 by_cases e:i=j
 ·rw[YF e,h,e]
 ·rw[Yk e]
  cases q:eqd (.bl i) (.bl j) with
  | false=>rfl
  | true=>exact absurd (by simpa using h.mp q) e
@[simp] theorem dO (i j:Int):eqD (.int i) (.int j)=some (.bl (decide (i=j))):=by
 unfold eqD
 rw[i4]
 rfl
@[simp] theorem Fc (i j:Bool):eqD (.bl i) (.bl j)=some (.bl (decide (i=j))):=by
 unfold eqD
 rw[BQ]
 rfl
@[simp] theorem Ec (i j:Int):neD (.int i) (.int j)=some (.bl (!decide (i=j))):=by
 unfold neD
 rw[i4]
 rfl
@[simp] theorem Ed (i j:Int):ltd (.int i) (.int j)=some (.bl (decide (i<j))):=rfl
@[simp] theorem D_ (i j:Int):gtI (.int i) (.int j)=some (.bl (decide (j<i))):=rfl
@[simp] theorem xG (i j:Int):leA (.int i) (.int j)=some (.bl (decide (i≤j))):=rfl
@[simp] theorem Ef (i j:Int):ltI (.int i) (.int j)=some (.bl (decide (i<j))):=rfl
@[simp] theorem n9 (i j:Int):az (.int i) (.int j)=some (.int (i+j)):=rfl
@[simp] theorem C6 (i j:Int):gB (.int i) (.int j)=some (.int (i-j)):=rfl
theorem eA (i j:Int)(h:(-(2 ^ 64)<i∧i<2 ^ 64)∨(-(2 ^ 64)<j∧j<2 ^ 64)):dm (.int i) (.int j)=some (.int (i*j)):=Yh (YF h)
theorem bm (i j:Int)(h:0<j):aR (.int i) (.int j)=some (.int (i%j)):=Yh (YF h)
theorem bZ (i j:Int)(h:0<j∧j<1073741824):bH (.int i) (.int j)=some (.int (i/j)):=Yh (YF h)
@[simp] theorem D8:jY (.int 10) (.int 30)=some (.int 1000000000000000000000000000000):=rfl
section
variable {f fa fb fc:Dd} {fo:Do} {fl:Dl} {fv:Dv} {c c':Dk} {g h:Dw} {ρ:DF} {i j:Nat} {m:Dm}
@[simp] theorem lD:ai g h ρ=match g ρ with | some (.nx ρ')=>h ρ' | r=>r:=rfl
@[simp] theorem bn:aZ i f ρ=(f ρ).map fun d=>.nx (ρ.set i (some (.v d))):=rfl
@[simp] theorem nG:dg i fo ρ=(fo ρ).map fun o=>.nx (ρ.set i (some (.own o none))):=rfl
@[simp] theorem gQ:bL f ρ=(f ρ).map fun d=>.rt (.v d) ρ:=rfl
@[simp] theorem m7:iE fo ρ=(fo ρ).map fun o=>.rt (.own o none) ρ:=rfl
@[simp] theorem C9:nY i ρ=match ρ[i]? with | some (some x)=>some (.rt x ρ) | _=>none:=rfl
@[simp] theorem bX:dIf c g h ρ=(c ρ).bind fun b=>if b=true then g ρ else h ρ:=rfl
@[simp] theorem Fs:dNx ρ=some (.nx ρ):=rfl
@[simp] theorem Ds:qF f ρ=(f ρ).map fun _=>.nx ρ:=rfl
@[simp] theorem cc {F:D→Option D}:d1 F fa ρ=(fa ρ).bind F:=rfl
@[simp] theorem ar {F:Dy}:d2 F fa fb ρ=(fa ρ).bind fun x=>(fb ρ).bind fun y=>F x y:=rfl
@[simp] theorem D6:getV i ρ=match ρ[i]? with | some (some (.v d))=>some d | _=>none:=rfl
@[simp] theorem rh:al i ρ=match ρ[i]? with | some (some (.v d))=>some d | some (some (.own o _))=>if o.flat=true then some o.d else none | some (some (.bor o))=>if o.flat=true then some o.d else none | _=>none:=rfl
@[simp] theorem qB:ao i ρ=match ρ[i]? with | some (some (.v d))=>some d | some (some (.own o _))=>some o.d | some (some (.bor o))=>some o.d | _=>none:=rfl
@[simp] theorem C5:aB i fv ρ=match ρ[i]? with | some (some (.own o _))=>(fv ρ).map fun xs=>.bor o::xs | some (some (.bor o))=>(fv ρ).map fun xs=>.bor o::xs | some (some (.v d))=>(fv ρ).map fun xs=>.v d::xs | _=>none:=rfl
@[simp] theorem tP:aV f fv ρ=(f ρ).bind fun d=>(fv ρ).map fun xs=>.v d::xs:=rfl
@[simp] theorem vf:bJ m fv ρ=(fv ρ).bind fun xs=>(m xs).bind dvD:=rfl
@[simp] theorem uf:kF m fv ρ=(fv ρ).bind fun xs=>(m xs).bind dvO:=rfl
@[simp] theorem bt:asB f ρ=match f ρ with | some (.bl b)=>some b | _=>none:=rfl
@[simp] theorem pE:asL fl ρ=(fl ρ).map .lst:=rfl
@[simp] theorem tH:asO fo ρ=(fo ρ).map OD.d:=rfl
@[simp] theorem EW:asT fl ρ=(fl ρ).map .tup:=rfl
@[simp] theorem Dx:ak f fl ρ=(f ρ).bind fun d=>(fl ρ).map fun r=>d::r:=rfl
@[simp] theorem D7:bx ρ=some []:=rfl
@[simp] theorem yK:dq c ρ=(c ρ).map fun b=>!b:=rfl
@[simp] theorem Ea:e8 ρ=some true:=rfl
@[simp] theorem D9 {d:D}:setV i d ρ=some (ρ.set i (some (.v d))):=rfl
@[simp] theorem EQ:ifV c f fa ρ=(c ρ).bind fun b=>if b=true then f ρ else fa ρ:=rfl
@[simp] theorem tw:jE f ρ=(f ρ).bind dD:=rfl
theorem jc:kT f ρ=(f ρ).bind fun d=>(dD d).bind fun ds=>if cK ds=true then some (dc ds) else none:=rfl
theorem eG {it:Dl}{st:Dq}:gj it st g ρ=(it ρ).bind fun ds=>cm st g ds ρ:=rfl
@[simp] theorem Ee:mX i g ρ=match ρ[i]? with | some (some (.own o none))=>g (ρ.set i (some (.v o.d))) | some (some (.v d))=>g ρ | _=>none:=rfl
theorem dY {own:Nat}{ix:List Nat}{it:Dl}{st:Dq}{e:Dd}:dw own ix it st c e ρ=(it ρ).bind fun ds=>if ds.length≤16777216 then dL st c e (fR own ix ρ) ds else none:=rfl
@[simp] theorem gI:dB c c' ρ=(c ρ).bind fun b=>if b=true then c' ρ else some false:=rfl
@[simp] theorem vd:orT c c' ρ=(c ρ).bind fun b=>if b=true then some true else c' ρ:=rfl
@[simp] theorem xD:gy f fa ρ=match f ρ with | some (.bl true)=>fa ρ | some (.bl false)=>some (.bl false) | _=>none:=rfl
@[simp] theorem Ax:orV f fa ρ=match f ρ with | some (.bl false)=>fa ρ | some (.bl true)=>some (.bl true) | _=>none:=rfl
@[simp] theorem Eg:yb f ρ=match f ρ with | some (.bl b)=>some (.bl (!b)) | _=>none:=rfl
@[simp] theorem wq {F G:Dy}:chD F G fa fb fc ρ=(fa ρ).bind fun x=>(fb ρ).bind fun y=>match F x y with | some (.bl true)=>(fc ρ).bind fun z=>G y z | some (.bl false)=>some (.bl false) | _=>none:=rfl
@[simp] theorem jm:iF f ρ=match f ρ with | some (.lst ds)=>some ds | _=>none:=rfl
@[simp] theorem Cz:fE i ρ=match ρ[i]? with | some (some (.bor (.lst ds)))=>some ds | some (some (.v (.lst ds)))=>some ds | _=>none:=rfl
theorem qt:jX f ρ=match f ρ with | some (.int j)=>if -(2 ^ 62)≤j∧j<2 ^ 62 then some (eN 0 j.toNat) else none | _=>none:=rfl
@[simp] theorem lC {b b':DF→Option (Option Int)}:slS f b b' ρ=match f ρ with | some (.str x)=>if x.length≤16777216 then (b ρ).bind fun l=>(b' ρ).map fun h=>.str (Txt.slice x l h) else none | _=>none:=rfl
@[simp] theorem Eb:jn i f ρ=match ρ[i]? with | some (some (.own (.lst ds) t))=>(f ρ).bind fun d=>if ds.length<16777216 then some (.nx (ρ.set i (some (.own (.lst (ds++[d])) t)))) else none | _=>none:=rfl
@[simp] theorem uh {is:List Nat}:qG is f ρ=(f ρ).bind fun d=>(gw is d ρ).map .nx:=rfl
@[simp] theorem kW:bI f ρ=match f ρ with | some (.int i)=>some (some i) | _=>none:=rfl
@[simp] theorem Ei:bNo ρ=some none:=rfl
end
@[simp] theorem Fw {ds:List D}:(OD.lst ds).d=.lst ds:=rfl
@[simp] theorem Fx {ds:List (List Key×D)}:(OD.dT ds).d=.dT ds:=rfl
@[simp] theorem Fz {ds:List (Key×D)}:(OD.dK ds).d=.dK ds:=rfl
@[simp] theorem FK {C:Addr}{ds:List (Str×D)}:(OD.ins C ds).d=.ins C ds:=rfl
@[simp] theorem FI {ds:List D}:(OD.lst ds).flat=true:=rfl
@[simp] theorem FD {ds:List (List Key×D)}:(OD.dT ds).flat=true:=rfl
@[simp] theorem FN {ds:List (Key×D)}:(OD.dK ds).flat=true:=rfl
@[simp] theorem FF {C:Addr}{ds:List (Str×D)}:(OD.ins C ds).flat=true:=rfl
@[simp] theorem FA {d:D}:dvD (.v d)=some d:=rfl
@[simp] theorem FE {o:OD}{t:Option Addr}:dvD (.own o t)=some o.d:=rfl
@[simp] theorem FC {o:OD}{t:Option Addr}:dvO (.own o t)=some o:=rfl
@[simp] theorem FM {x:DV}{ρ:DF}:cY (some (.rt x ρ))=some x:=rfl
@[simp] theorem FB {ρ:DF}:cY (some (.nx ρ))=some (.v .non):=rfl
@[simp] theorem FG {d:D}:sf (some (.v d))=some (.v d):=rfl
@[simp] theorem FJ {o:OD}{t:Option Addr}:sf (some (.own o t))=some (.bor o):=rfl
@[simp] theorem FH {o:OD}:sf (some (.bor o))=some (.bor o):=rfl
@[simp] theorem Eh {own:Nat}{ix:List Nat}{ρ:DF}:fR own ix ρ=List.replicate own none++ix.map fun j=>sf (ρ[j]?).join:=rfl
@[simp] theorem Eo {ds:List D}:dD (.lst ds)=some ds:=rfl
@[simp] theorem dG {ds:List D}:dD (.tup ds)=some ds:=rfl
@[simp] theorem FL {ds:List D}:aM (.lst ds)=some (.int ds.length):=rfl
@[simp] theorem Fy {ds:List D}:aM (.tup ds)=some (.int ds.length):=rfl
theorem ix1 {ds:List D}{i:Int}:ixD (.lst ds) (.int i)=atI ds i:=rfl
theorem ix2 {ds:List D}{i:Int}:ixD (.tup ds) (.int i)=atI ds i:=rfl
@[simp] theorem EV {n p:Nat}{g:Dw}{xs:List DV}:mOf n p g xs=if xs.length=p then cY (g (bh n p xs)) else none:=rfl
@[simp] theorem BY {n p:Nat}{xs:List DV}:bh n p xs=xs.map some++List.replicate (n-p) none:=rfl
theorem Fq {x:Int}(h:0≤x∧x<3):x=0∨x=1∨x=2:=by
 obtain⟨m,rfl⟩:=Int.eq_ofNat_of_zero_le h.1
 have key:∀ m:Fin 3,((m:Nat):Int)=0∨((m:Nat):Int)=1∨((m:Nat):Int)=2:=by decide
 exact key ⟨m,Int.ofNat_lt.mp h.2⟩
theorem yL (s:Int):s%3=0∨s%3=1∨s%3=2:=Fq ⟨ZW s (by decide),ZF s (by decide)⟩
def okW (x:Str):Prop:=1≤x.cps.size∧x.cps.size≤3∧∀ c∈x.cps.toList,97≤c∧c≤122
abbrev abc:Str := "abcdefghijklmnopqrstuvwxyz"
theorem pT (i:Int):∃ c:Nat,ixD (.str abc) (.int (i%26))=some (.str ⟨#[c]⟩)∧97≤c∧c≤122:=by
 have h:∀ j:Fin 26,∃ c:Fin 123,ixD (.str abc) (.int (j:Nat))=some (.str ⟨#[(c:Nat)]⟩)∧97≤(c:Nat):=by
  intro j
  refine⟨⟨97+j,by omega⟩,?_,by simp⟩
  revert j
  have:∀ j:Fin 26,(atI abc.cps.toList ((j:Nat):Int))=some (97+(j:Nat)):=by decide +kernel
  intro j
  show (if abc.length≤16777216 then (atI abc.cps.toList ((j:Nat):Int)).map fun c=>D.str ⟨#[c]⟩ else none)=_
  rw[this j]
  rfl
 have h0:0≤i%26:=ZW _ (by decide)
 have h1:i%26<26:=ZF _ (by decide)
 obtain⟨c,hc,hl⟩:=h ⟨(i%26).toNat,by omega⟩
 refine⟨c,?_,hl,by omega⟩
 rw[← hc]
 congr 2
 simp only
 omega
def dX (n:Int):List Int:=(List.range n.toNat).map fun i:Nat=>(i:Int)
theorem db (n:Int):(dX n).length=n.toNat:=by simp[dX]
theorem kY (n:Int):eN 0 n.toNat=(dX n).map D.int:=by
 unfold eN dX
 simp
def dP (p:Int×Int):D:=.tup [.int p.1,.int p.2]
theorem Dt {n:Nat}{g:Dw}{a:DV}:mOf n 1 g [a]=cY (g (bh n 1 [a])):=rfl
theorem B9 {n:Nat}{g:Dw}{a b:DV}:mOf n 2 g [a,b]=cY (g (bh n 2 [a,b])):=rfl
abbrev T4:=Int×Int×Int×Bool
def dT4 (t:T4):D:=.tup [.int t.1,.int t.2.1,.int t.2.2.1,.bl t.2.2.2]
def okT (n:Int)(t:T4):Prop:=0≤t.1∧t.1<n∧0≤t.2.1∧t.2.1<n∧t.1≠t.2.1∧0≤t.2.2.1∧t.2.2.1<1000000000000000000000000000000
theorem wb {α:Type}{l:List α}{i:Int}(h0:0≤i)(h1:i<l.length):atI l i=l[i.toNat]?:=by
 unfold atI ixN
 rw[Yh h0,Yh h1]
 rfl
theorem qq {α β:Type}{l:List α}(f:α→β){i:Int}(h0:0≤i)(h1:i<l.length):∃ x,l[i.toNat]?=some x∧atI (l.map f) i=some (f x):=by
 have h:i.toNat<l.length:=by omega
 refine⟨l[i.toNat],Yv h,?_⟩
 rw[wb h0 (by rw[Yb];exact h1),YH,Yv h]
 rfl
theorem lV {f:Dd}{ρ:DF}{n:Int}(h:f ρ=some (.int n))(hn:0≤n∧n≤1000):jX f ρ=some ((dX n).map .int):=by
 have hb:-(2 ^ 62)≤n∧n<2 ^ 62:=by omega
 rw[qt,h]
 simp only
 rw[Yh hb,kY]
theorem ae {g h:Dw}{ρ ρ':DF}(e:g ρ=some (.nx ρ')):ai g h ρ=h ρ':=by rw[lD,e]
theorem dQ {g h:Dw}{ρ ρ':DF}{x:DV}(e:g ρ=some (.rt x ρ')):ai g h ρ=some (.rt x ρ'):=by rw[lD,e]
def lf (t:T4):T4:=if t.2.2.2=true∨t.1<t.2.1 then t else (t.2.1,t.1,t.2.2.1,t.2.2.2)
theorem kt (ts:List T4)(h:ts.length<64):cK (ts.map dT4)=true:=by
 unfold cK
 simp only[Ys,YB,YG,Yb]
 refine⟨⟨⟨⟨h,?_⟩,?_⟩,?_⟩,?_⟩
 ·intro x hx;obtain⟨t,_,rfl⟩:=Yo.mp hx;rfl
 ·intro x hx y hy;obtain⟨t,_,rfl⟩:=Yo.mp hx;obtain⟨u,_,rfl⟩:=Yo.mp hy;rfl
 ·intro x hx;obtain⟨t,_,rfl⟩:=Yo.mp hx;rfl
 ·intro x hx;obtain⟨t,_,rfl⟩:=Yo.mp hx;rfl
theorem xE (ts:List T4):Cmps 28 (ts.map dT4):=
 ⟨fun x hx=>by obtain⟨t,_,rfl⟩:=Yo.mp hx;rfl,fun x hx y hy=>by obtain⟨t,_,rfl⟩:=Yo.mp hx;obtain⟨u,_,rfl⟩:=Yo.mp hy;rfl⟩
theorem gq {α:Type}(f:α→D)(g:D→α)(hg:∀ a,g (f a)=a){l:List D}{ts:List α}(h:l.Perm (ts.map f)):∃ us:List α,l=us.map f∧us.Perm ts:=by
 refine⟨l.map g,?_,?_⟩
 ·rw[Zg]
  conv=>lhs;rw[← List.map_id l]
  refine List.map_congr_left fun x hx=>?_
  obtain⟨t,_,rfl⟩:=Yo.mp (h.mem_iff.mp hx)
  show _=f (g (f t))
  rw[hg]
  rfl
 ·have:=h.map g
  rw[Zg,show g ∘ f=id from funext hg,List.map_id] at this
  exact this
def ET:D→T4
 | .tup [.int a,.int b,.int k,.bl o]=>(a,b,k,o)
 | _=>(0,0,0,false)
theorem k5 (ts:List T4):∃ us:List T4,dc (ts.map dT4)=us.map dT4∧us.Perm ts:=gq dT4 ET (fun _=>rfl) (cZ _)
theorem ue {κ:Type}[DecidableEq κ](k:κ)(v:D)(kvs:List (κ×D)):(e6 kvs k v).length≤kvs.length+1:=by
 unfold e6
 split
 ·simp
 ·simp
def okK (n:Int)(ks:List Str):Prop:=(ks.length:Int)=n∧∀ k∈ks,okW k
def okS (n:Int)(ts:List T4):Prop:=ts.length≤12∧∀ t∈ts,okT n t
theorem sL {i:Nat}{f g:Dd}{ρ:DF}:js i f g ρ=match ρ[i]? with
 | some (some (.own (.lst ds) t))=>(g ρ).bind fun d=>(f ρ).bind fun
  | .int k=>(ixN ds.length k).map fun j=>.nx (ρ.set i (some (.own (.lst (ds.set j d)) t)))
  | _=>none
 | _=>none:=rfl
theorem mD {it:Dl}{st:Dq}{g:Dw}{ρ:DF}{ds:List D}{r:RES}(h:it ρ=some ds)(e:cm st g ds ρ=some r):gj it st g ρ=some r:=by
 rw[eG,h]
 exact e
theorem gN (C:Addr)(x:Str)(h:okW x):jj C [.v (.str x)]=some (.v (.bl true)):=by
 obtain⟨h1,h3,hc⟩:=h
 have e1:dL (setV 0) e8 (chD leA leA (fun _=>some (.str "a")) (ao 0) (fun _=>some (.str "z"))) [none] (L2.signs x)=some (x.cps.toList.map fun _=>D.bl true):=by
  unfold L2.signs
  refine eD (fun c=>D.str ⟨#[c]⟩) (fun _=>D.bl true) _ fun c hm=>?_
  obtain⟨c1,c2⟩:=hc c hm
  refine⟨[some (.v (.str ⟨#[c]⟩))],rfl,rfl,?_⟩
  have l1:leA (.str "a") (.str ⟨#[c]⟩)=some (.bl true):=by
   show some (D.bl (!decide ([c] < [97])))=_
   have:¬ ([c] < [97]):=fun h=>by rcases List.cons_lt_cons_iff.mp h with h | ⟨_,h⟩;omega;exact absurd h (List.not_lt_nil _)
   rw[Yk this];rfl
  have l2:leA (.str ⟨#[c]⟩) (.str "z")=some (.bl true):=by
   show some (D.bl (!decide ([122] < [c])))=_
   have:¬ ([122] < [c]):=fun h=>by rcases List.cons_lt_cons_iff.mp h with h | ⟨_,h⟩;omega;exact absurd h (List.not_lt_nil _)
   rw[Yk this];rfl
  simp[l1,l2]
 have hsz:(L2.signs x).length≤16777216:=by unfold L2.signs;rw[Yb,Zs];omega
 have e2:sv (.lst (x.cps.toList.map fun _=>D.bl true))=some (.bl true):=by
  have a1:((x.cps.toList.map fun _=>D.bl true).all mv)=true:=by simp[mv]
  have a2:((x.cps.toList.map fun _=>D.bl true).all trD)=true:=by simp[trD]
  show (if ((x.cps.toList.map fun _=>D.bl true).all mv)=true then some (D.bl ((x.cps.toList.map fun _=>D.bl true).all trD)) else none)=_
  rw[Yh a1,a2]
 have e3:aM (.str x)=some (.int (x.cps.size:Int)):=Yh (show x.cps.size≤16777216 by omega)
 have d1':dw 1 [] (nM (getV 0)) (setV 0) e8 (chD leA leA (fun _=>some (.str "a")) (ao 0) (fun _=>some (.str "z"))) [some (.v (.str x)),none]=some (x.cps.toList.map fun _=>D.bl true):=by
  have:nM (getV 0) [some (.v (.str x)),none]=some (L2.signs x):=rfl
  rw[dY,this,Ya,Yh hsz]
  exact e1
 unfold jj zn
 have g1:(1:Int)≤(x.cps.size:Int):=by omega
 have g2:(x.cps.size:Int)≤3:=by omega
 generalize (chD leA leA (fun _=>some (.str "a")) (ao 0) (fun _=>some (.str "z")))=E' at d1' ⊢
 generalize (x.cps.toList.map fun _=>D.bl true)=L at *
 simp[d1',e2,e3,g1,g2]
theorem By (C:Addr)(t:T4)(n:Int)(h:okT n t):kO C [.v (dT4 t),.v (.int n)]=some (.v (.bl true)):=by
 obtain⟨a,b,k,o⟩:=t
 obtain⟨a0,a1,b0,b1,ab,k0,k1⟩:=h
 simp only at a0 a1 b0 b1 ab k0 k1
 have ea:atI [D.int a,.int b,.int k,.bl o] 0=some (.int a):=rfl
 have eb:atI [D.int a,.int b,.int k,.bl o] 1=some (.int b):=rfl
 have ek:atI [D.int a,.int b,.int k,.bl o] 2=some (.int k):=rfl
 have hk:mU C [.v (.int k)]=some (.v (.bl true)):=by
  simp[mU,zg,k0,k1]
 unfold kO zJ
 generalize mU C=M at hk ⊢
 simp[dT4,ix2,ea,eb,ek,a0,a1,b0,b1,ab,hk]
theorem sX (C:Addr)(ks:List Str)(ts:List T4)(n:Int)(hn:1≤n∧n≤7)(hk:okK n ks)(hs:okS n ts):n4 C [.v (.lst (ks.map .str)),.v (.lst (ts.map dT4))]=some (.v .non):=by
 have hP:=gN C
 have hT:∀ t,okT n t→kO C [.v (dT4 t),.v (.int n)]=some (.v (.bl true)):=fun t h=>By C t n h
 unfold n4 zh
 generalize jj C=P at hP ⊢
 generalize kO C=T at hT ⊢
 have hkl:(ks.length:Int)=n:=hk.1
 have g1:1≤n:=hn.1
 have g2:n≤7:=hn.2
 have g3:¬ (12:Int)<(ts.length:Int):=by have:=hs.1;omega
 have q1:∀ G,(ai (dIf (dq (asB (chD leA leA (cI 1) (d1 aM (ao 0)) (cI 7)))) b5 dNx) (ai (dIf (asB (d2 gtI (d1 aM (ao 1)) (cI 12))) b5 dNx) G)) (bh 4 2 [.v (.lst (ks.map .str)),.v (.lst (ts.map dT4))])=G [some (.v (.lst (ks.map .str))),some (.v (.lst (ts.map dT4))),none,none]:=by
  intro G
  simp[hkl,g1,g2,g3]
 obtain⟨z1,e1,y2,rfl⟩:=nL (st:=setV 2) (body:=(dIf (dq (asB (bJ P (aV (getV 2) nA)))) b5 dNx)) (fun ρ=>∃ x2,ρ=[some (.v (.lst (ks.map .str))),some (.v (.lst (ts.map dT4))),x2,none]) (ds:=ks.map .str) (ρ:=[some (.v (.lst (ks.map .str))),some (.v (.lst (ts.map dT4))),none,none]) ⟨_,rfl⟩ (by
  rintro d hd _ ⟨x2,rfl⟩
  obtain⟨k,hk',rfl⟩:=Yo.mp hd
  have:=hP k (hk.2 k hk')
  refine⟨[some (.v (.lst (ks.map .str))),some (.v (.lst (ts.map dT4))),some (.v (.str k)),none],rfl,[some (.v (.lst (ks.map .str))),some (.v (.lst (ts.map dT4))),some (.v (.str k)),none],?_,_,rfl⟩
  simp[this])
 obtain⟨z2,e2,y3,rfl⟩:=nL (st:=setV 3) (body:=(dIf (dq (asB (bJ T (aB 3 (aV (d1 aM (ao 0)) nA))))) b5 dNx)) (fun ρ=>∃ x3,ρ=[some (.v (.lst (ks.map .str))),some (.v (.lst (ts.map dT4))),y2,x3]) (ds:=ts.map dT4) (ρ:=[some (.v (.lst (ks.map .str))),some (.v (.lst (ts.map dT4))),y2,none]) ⟨_,rfl⟩ (by
  rintro d hd _ ⟨x2,rfl⟩
  obtain⟨k,hk',rfl⟩:=Yo.mp hd
  have:=hT k (hs.2 k hk')
  refine⟨[some (.v (.lst (ks.map .str))),some (.v (.lst (ts.map dT4))),y2,some (.v (dT4 k))],rfl,[some (.v (.lst (ks.map .str))),some (.v (.lst (ts.map dT4))),y2,some (.v (dT4 k))],?_,_,rfl⟩
  simp[hkl,this])
 rw[B9,q1,ae (mD (ds:=ks.map D.str) rfl e1),mD (ds:=ts.map dT4) rfl e2]
 rfl
theorem su (C:Addr)(t:T4):mV C [.v (dT4 t)]=some (.v (dT4 (lf t))):=by
 obtain⟨a,b,k,o⟩:=t
 have ea:atI [D.int a,.int b,.int k,.bl o] 0=some (.int a):=rfl
 have eb:atI [D.int a,.int b,.int k,.bl o] 1=some (.int b):=rfl
 have ek:atI [D.int a,.int b,.int k,.bl o] 2=some (.int k):=rfl
 have eo:atI [D.int a,.int b,.int k,.bl o] 3=some (.bl o):=rfl
 unfold mV zO
 cases o with
 | true=>simp[dT4,ix2,ea,eb,ek,eo,lf]
 | false=>
  by_cases h:a<b
  ·simp[dT4,ix2,ea,eb,ek,eo,lf,h]
  ·simp[dT4,ix2,ea,eb,ek,eo,lf,h]
def okJ (m:Nat)(kvs:List (List Key×D)):Prop:=kvs.length≤m∧∀ kv∈kvs,∃ ps:List (Int×Int),kv.2=.tup (ps.map dP)∧ps.length≤m
theorem wo (ts:List (Int×Int))(h:ts.length<64):cK (ts.map dP)=true:=by
 unfold cK
 simp only[Ys,YB,YG,Yb]
 refine⟨⟨⟨⟨h,?_⟩,?_⟩,?_⟩,?_⟩
 ·intro x hx;obtain⟨t,_,rfl⟩:=Yo.mp hx;rfl
 ·intro x hx y hy;obtain⟨t,_,rfl⟩:=Yo.mp hx;obtain⟨u,_,rfl⟩:=Yo.mp hy;rfl
 ·intro x hx;obtain⟨t,_,rfl⟩:=Yo.mp hx;rfl
 ·intro x hx;obtain⟨t,_,rfl⟩:=Yo.mp hx;rfl
def unP:D→Int×Int
 | .tup [.int a,.int b]=>(a,b)
 | _=>(0,0)
theorem v7 {κ:Type}[DecidableEq κ]{kvs:List (κ×D)}{k:κ}{d:D}(h:cy kvs k=some d):∃ kv∈kvs,kv.2=d:=by
 unfold cy at h
 cases q:kvs.find? fun kv=>decide (kv.1=k) with
 | none=>rw[q] at h;cases h
 | some kv=>rw[q] at h;cases h;exact⟨kv,List.mem_of_find?_eq_some q,rfl⟩
theorem w_ {m:Nat}{kvs:List (List Key×D)}(h:okJ m kvs)(k:List Key)(us:List (Int×Int))(hu:us.length≤m+1):okJ (m+1) (e6 kvs k (.tup (us.map dP))):=by
 refine⟨YQ (ue ..) (Xd h.1),fun kv hkv=>?_⟩
 unfold e6 at hkv
 split at hkv
 ·obtain⟨kv',h1,rfl⟩:=Yo.mp hkv
  split
  ·exact⟨us,rfl,hu⟩
  ·obtain⟨ps,e,l⟩:=h.2 kv' h1
   exact⟨ps,e,by omega⟩
 ·rcases Yj.mp hkv with h1 | h1
  ·obtain⟨ps,e,l⟩:=h.2 kv h1
   exact⟨ps,e,by omega⟩
  ·rw[Yl.mp h1]
   exact⟨us,rfl,hu⟩
theorem uY {j:Nat}{fk fv:Dd}{ρ:DF}:qY j fk fv ρ=match ρ[j]? with
 | some (some (.own (.dT kvs) t))=>(fv ρ).bind fun v=>(fk ρ).bind fun y=>(nV y).bind fun k=>if kvs.length<16777216 then some (.nx (ρ.set j (some (.own (.dT (e6 kvs k v)) t)))) else none
 | _=>none:=rfl
theorem pD {fd fk fx:Dd}{ρ:DF}:iQ fd fk fx ρ=match fd ρ with
 | some (.dT kvs)=>(fk ρ).bind fun y=>(nV y).bind fun k=>(fx ρ).map fun x=>(cy kvs k).getD x
 | _=>none:=rfl
theorem Bv (C:Addr)(m:Nat)(kvs:List (List Key×D))(a b k f:Int)(hm:m≤50)(h:okJ m kvs):∃ kvs',g_ C (.dT kvs) [.v (.tup [.int a,.int b]),.v (.tup [.int k,.int f])]=some (.dT kvs',.non)∧okJ (m+1) kvs':=by
 have hv:∃ ps:List (Int×Int),(cy kvs [.inl a,.inl b]).getD (.tup [])=.tup (ps.map dP)∧ps.length≤m:=by
  cases q:cy kvs [.inl a,.inl b] with
  | none=>exact⟨[],rfl,YO _⟩
  | some d=>
   obtain⟨kv,hkv,e⟩:=v7 q
   obtain⟨ps,e',l⟩:=h.2 kv hkv
   exact⟨ps,e.symm.trans e',l⟩
 obtain⟨ps,hg,pl⟩:=hv
 obtain⟨us,eu,up⟩:=gq dP unP (fun _=>rfl) (cZ ((ps++[(k,f)]).map dP))
 have ha:az (.tup (ps.map dP)) (.tup [.tup [.int k,.int f]])=some (.tup ((ps++[(k,f)]).map dP)):=by
  rw[Yz]
  exact Yh (by rw[Yb];show ps.length+1≤_;omega)
 have hso:=wo (ps++[(k,f)]) (by rw[Yc,ZD];omega)
 refine⟨e6 kvs [.inl a,.inl b] (.tup (us.map dP)),qR rfl rfl fun ad=>⟨.nx [some (.own (.dT (e6 kvs [.inl a,.inl b] (.tup (us.map dP)))) (some ad)),some (.v (.tup [.int a,.int b])),some (.v (.tup [.int k,.int f]))],?_,rfl,rfl⟩,w_ h _ us (by rw[up.length_eq,Yc,ZD];omega)⟩
 have hkl:kvs.length<16777216:=by have:=h.1;omega
 generalize (ps++[(k,f)]).map dP=L at *
 generalize ps.map dP=L0 at *
 unfold zH
 simp[uY,pD,nV,fX,gZ,hg,ha,jc,hso,eu,wF,hkl]
theorem tW (C:Addr)(ts:List T4)(hl:ts.length≤12):∃ kvs,nF C [.v (.lst (ts.map dT4))]=some (.own (.dT kvs) none):=by
 have hM:∀ (m:Nat) (kvs:List (List Key×D)) (a b k f:Int),m≤50→okJ m kvs→∃ kvs',g_ C (.dT kvs) [.v (.tup [.int a,.int b]),.v (.tup [.int k,.int f])]=some (.dT kvs',.non)∧okJ (m+1) kvs':=Bv C
 unfold nF zj
 generalize g_ C=M at hM ⊢
 obtain⟨z,e,kvs,y2,y3,y4,y5,rfl,hk⟩:=mI (st:=gw [2,3,4,5]) (body:=(ai (fg K0 1 M (aV (asT (ak (getV 2) (ak (getV 3) bx))) (aV (asT (ak (getV 4) (ak (ifV (asB (getV 5)) (cI 1) (cI 0)) bx))) nA)))
  (fg K0 1 M (aV (asT (ak (getV 3) (ak (getV 2) bx))) (aV (asT (ak (getV 4) (ak (ifV (asB (getV 5)) (cI 2) (cI 0)) bx))) nA)))))
  (fun j ρ=>∃ (kvs:List (List Key×D)) (x2 x3 x4 x5:Option DV),ρ=[some (.v (.lst (ts.map dT4))),some (.own (.dT kvs) none),x2,x3,x4,x5]∧okJ (2*j) kvs) (ts.map dT4) 0
  [some (.v (.lst (ts.map dT4))),some (.own (.dT []) none),none,none,none,none] ⟨[],_,_,_,_,rfl,Yx _,fun _ h=>by cases h⟩ (by
   rintro j d _ hj ⟨kvs,x2,x3,x4,x5,rfl,hk⟩
   have hlt:j<ts.length:=by have:=(YM.mp hj).1;rwa [Yb] at this
   obtain⟨⟨a,b,k,o⟩,_,rfl⟩:=Yo.mp (Zj hj)
   obtain⟨kvs1,e1,h1⟩:=hM (2*(0+j)) kvs a b k (if o=true then 1 else 0) (by omega) hk
   obtain⟨kvs2,e2,h2⟩:=hM (2*(0+j)+1) kvs1 b a k (if o=true then 2 else 0) (by omega) h1
   refine⟨[some (.v (.lst (ts.map dT4))),some (.own (.dT kvs) none),some (.v (.int a)),some (.v (.int b)),some (.v (.int k)),some (.v (.bl o))],rfl,[some (.v (.lst (ts.map dT4))),some (.own (.dT kvs2) none),some (.v (.int a)),some (.v (.int b)),some (.v (.int k)),some (.v (.bl o))],?_,kvs2,_,_,_,_,rfl,by rwa [show 2*(0+j+1)=2*(0+j)+1+1 by omega]⟩
   cases o with
   | true=>
    simp only[if_true] at e1 e2
    simp[fg,lF,li,e1,e2]
   | false=>
    simp at e1 e2
    simp[fg,lF,li,e1,e2])
 refine⟨kvs,?_⟩
 rw[Dt]
 have s0:dg 1 (fun _=>some (.dT [])) (bh 6 1 [.v (.lst (ts.map dT4))])=some (.nx [some (.v (.lst (ts.map dT4))),some (.own (.dT []) none),none,none,none,none]):=rfl
 rw[ae s0,ae (mD (ds:=ts.map dT4) rfl e)]
 rfl
def wFs (ks:List Str)(T J:D):List (Str×D):=[("kinds",.lst (ks.map .str)),("ties",T),("joins",J)]
theorem n1:¬ (("kinds":Str) = "ties"):=by decide +kernel
theorem n2:¬ (("kinds":Str) = "joins"):=by decide +kernel
theorem n3:¬ (("ties":Str) = "joins"):=by decide +kernel
theorem b1:(("ties":Str) == "kinds")=false:=by decide +kernel
theorem b2:(("size":Str) == "kinds")=false:=by decide +kernel
theorem b3:(("size":Str) == "ties")=false:=by decide +kernel
theorem b4:(("size":Str) == "joins")=false:=by decide +kernel
theorem lW {C:Addr}{fs:List (Str×D)}{n:Str}:di C n (.ins C fs)=fs.lookup n:=Yh rfl
theorem sB (C:Addr)(ks:List Str)(T J:D):di C "kinds" (.ins C (wFs ks T J))=some (.lst (ks.map .str)):=by
 rw[lW]
 unfold wFs
 simp
theorem uK (C:Addr)(ks:List Str)(T J:D):di C "ties" (.ins C (wFs ks T J))=some T:=by
 rw[lW]
 unfold wFs
 simp[List.lookup,b1]
theorem tQ {C:Addr}{i:Nat}{n:Str}{fv:Dd}{ρ:DF}:kq C i n fv ρ=match ρ[i]? with
 | some (some (.own (.ins C' fs) t))=>if C'=C then (fv ρ).bind fun d=>if fs.length<1000 then some (.nx (ρ.set i (some (.own (.ins C (jO n d fs)) t)))) else none else none
 | _=>none:=rfl
def srt (ts:List T4):List D:=dc ((ts.map lf).map dT4)
theorem wZ (C:Addr)(ks:List Str)(ts:List T4)(n:Int)(hn:1≤n∧n≤7)(hk:okK n ks)(hs:okS n ts):∃ J,jT C (.ins C []) [.v (.lst (ks.map .str)),.v (.lst (ts.map dT4))]=some (.ins C (wFs ks (.lst (srt ts)) J),.non):=by
 have hR:=sX C ks ts n hn hk hs
 have hL:=su C
 obtain⟨us,eu,up⟩:=k5 (ts.map lf)
 obtain⟨kvs,hJ⟩:=tW C us (by rw[up.length_eq,Yb];exact hs.1)
 have hso:=kt (ts.map lf) (by rw[Yb];have:=hs.1;omega)
 refine⟨.dT kvs,qR rfl rfl fun ad=>⟨.nx [some (.own (.ins C (wFs ks (.lst (srt ts)) (.dT kvs))) (some ad)),some (.v (.lst (ks.map .str))),some (.v (.lst (ts.map dT4)))],?_,rfl,rfl⟩⟩
 unfold zt
 generalize n4 C=R at hR ⊢
 generalize mV C=L at hL ⊢
 generalize nF C=J at hJ ⊢
 have hsr:srt ts=us.map dT4:=eu
 rw[hsr]
 have c1:dL (setV 0) e8 (bJ L (aV (getV 0) nA)) [none] (ts.map dT4)=some ((ts.map lf).map dT4):=by
  rw[Zg]
  refine eD dT4 _ ts fun t _=>⟨[some (.v (dT4 t))],rfl,rfl,?_⟩
  simp[hL]
 have tl:ts.length≤16777216:=by have:=hs.1;omega
 generalize (bJ L (aV (getV 0) nA))=E at c1 ⊢
 generalize (ts.map lf).map dT4=X at *
 have hf:∀ fs:List (Str×D),di C "ties" (.ins C [("kinds",.lst (ks.map .str)),("ties",.lst (us.map dT4))])=some (.lst (us.map dT4)):=by
  intro _
  rw[lW]
  simp[List.lookup,b1]
 have hf':=hf []
 generalize us.map dT4=Y at *
 generalize hX:ts.map dT4=Z at *
 have hZ:Z.length≤16777216:=by rw[← hX,Yb];exact tl
 simp[hR,tQ,jO,jc,dY,hZ,c1,hso,eu,hf',hJ,n1,n2,n3,wFs]
theorem xL (C:Addr)(ks:List Str)(ts:List T4)(n:Int)(hn:1≤n∧n≤7)(hk:okK n ks)(hs:okS n ts):∃ J,∀ (g:Dv) (ρ:DF),g ρ=some [.v (.lst (ks.map .str)),.v (.lst (ts.map dT4))]→ko C (jT C) g ρ=some (.ins C (wFs ks (.lst (srt ts)) J)):=by
 obtain⟨J,e⟩:=wZ C ks ts n hn hk hs
 refine⟨J,fun g ρ h=>?_⟩
 unfold ko
 rw[h,Ya,e]
 rfl
theorem ju {α:Type}(f:α→D)(h:∀ x y,aq (f x) (f y)=true):∀ a b:List α,bA (a.map f) (b.map f)=true
 | [],_=>rfl
 | _::_,[]=>rfl
 | x::a,y::b=>by
  rw[YA,YA]
  show (aq (f x) (f y)&&bA (a.map f) (b.map f))=true
  rw[ju f h a b,h]
  rfl
theorem vF {α:Type}(f:α→D)(h:∀ x y,aq (f x) (f y)=true)(a:List α):eqd (.lst (a.map f)) (.lst (a.map f))=true:=(jg _ _ (ju f h a a)).mpr rfl
theorem zq {n:Int}{ks:List Str}(h:okK n ks):okN 30 (.lst (ks.map .str))=true:=by
 show (ks.map D.str).all (okN 29)=true
 rw[YG]
 intro x hx
 obtain⟨k,hk,rfl⟩:=Yo.mp hx
 show PyData.strOk k=true
 unfold PyData.strOk
 rw[← Array.all_toList,YG]
 intro c hc
 have:=(h.2 k hk).2.2 c hc
 exact YF (by omega)
theorem uj {x y:D}(hx:okN 30 x=true)(hy:okN 30 y=true):eqD x y=some (.bl (eqd x y)):=Yh (by rw[hx,hy];rfl)
theorem vh {x y:D}(hx:okN 30 x=true)(hy:okN 30 y=true):neD x y=some (.bl (!eqd x y)):=Yh (by rw[hx,hy];rfl)
theorem vN (C:Addr)(i:Int):ku C [.v (.int i)]=some (.v (.bl true)):=rfl
theorem zx (t:T4):okN 30 (dT4 t)=true:=rfl
theorem D3 (t:T4):eqD (dT4 t) (dT4 t)=some (.bl true):=by
 rw[uj (zx t) (zx t)]
 have h:eqd (dT4 t) (dT4 t)=true:=(cx _ _ rfl).mpr rfl
 rw[h]
theorem yy (ts:List T4):(srt ts).length=ts.length:=by
 unfold srt
 obtain⟨us,e,p⟩:=k5 (ts.map lf)
 rw[e,Yb,p.length_eq,Yb]
theorem AT (ts:List T4):∃ us:List T4,srt ts=us.map dT4∧us.Perm (ts.map lf):=k5 (ts.map lf)
theorem rF {κ:Type}[DecidableEq κ]{a:List (κ×D)}{k:κ}{v:D}(h:∀ p∈a,p.1≠k):e6 a k v=a++[(k,v)]:=by
 unfold e6
 rw[Yr]
 intro z
 obtain⟨p,hp,e⟩:=List.any_eq_true.mp z
 exact h p hp (YS e)
theorem kI {α β:Type}(f:α→β):∀ (l:List α) (j:Nat),(l.eraseIdx j).map f=(l.map f).eraseIdx j
 | [],_=>rfl
 | _::_,0=>rfl
 | a::l,j+1=>YN (f a::·) (kI f l j)
theorem vI (ts us:List T4)(p:(us.map lf).Perm (ts.map lf)):srt us=srt ts:=by
 unfold srt
 exact ph (p.map dT4) (xE _)
end My
namespace My
open PySem PySem.Spec PyProof.Rows L2 Builtin Builtin.Str
def sT (l:List Nat):Str:=⟨l.toArray⟩
theorem oU (a b:List Nat):sT a++sT b=sT (a++b):=by
 show Str.append _ _=_
 unfold Str.append sT
 rw[List.append_toArray]
theorem cP (a:List Nat):(sT a).length=a.length:=Ym
theorem CP (x:Str):sT x.cps.toList=x:=rfl
theorem fZ (a:List Nat):(sT a).cps.toList=a:=rfl
theorem xc (a b n:Nat)(h:a≤n):strSliceIndices (some (a:Int)) (some (b:Int)) 1 n=strSliceIndices (some (a:Int)) (some ((min b n:Nat):Int)) 1 n:=by
 have h2:¬ ((b:Int)<0):=by omega
 have h3:¬ (((min b n:Nat):Int)<0):=by omega
 have e2:max (0:Int) (min ((min b n:Nat):Int) (n:Int))=max (0:Int) (min (b:Int) (n:Int)):=by omega
 simp only[strSliceIndices,h2,h3,if_false,e2,show ((1:Int) > 0)=True from by simp,if_true]
theorem kR (l:List Nat)(a b:Nat)(hab:a≤b)(ha:a≤l.length):Txt.slice (sT l) (some (a:Int)) (some (b:Int))=sT ((l.drop a).take (b-a)):=by
 have hm:a≤min b l.length:=by omega
 have hb:min b l.length≤(sT l).length:=by rw[cP];omega
 have e:=StrLaws.sliced_plain (sT l) hm hb
 have e1:=StrLaws.strSliceIndices_plain hm hb
 have e0:=xc a b l.length ha
 have ht:(l.drop a).take (min b l.length-a)=(l.drop a).take (b-a):=by
  by_cases h:b≤l.length
  ·rw[Nat.min_eq_left h]
  ·rw[Nat.min_eq_right (by omega),Xl (by simp),Xl (by simp;omega)]
 unfold Txt.slice
 rw[cP] at e e1 ⊢
 rw[e0]
 split
 ·rename_i hc
  rw[e1] at hc
  simp at hc
  have:a=0:=by omega
  subst this
  rw[List.drop_zero,Xl (by omega)]
 ·rw[e,fZ,ht];rfl
theorem uq (x y:Str):leA (.str x) (.str y)=some (.bl (!decide (y.cps.toList<x.cps.toList))):=rfl
theorem Ex (a c:Nat):leA (.str (sT [a])) (.str (sT [c]))=some (.bl (decide (a≤c))):=by
 rw[uq,fZ,fZ,StrLaws.lt_cons_cons]
 refine YN (fun b=>some (D.bl b)) ?_
 by_cases h:a≤c
 ·rw[Yk (show ¬ c<a by omega),StrLaws.lt_nil_nil,YF h,Bool.and_false];rfl
 ·rw[YF (show c<a by omega),Yk h];rfl
theorem EU (a:Nat):leA (.str (sT [a])) (.str (sT []))=some (.bl false):=by
 rw[uq,fZ,fZ,StrLaws.lt_nil_cons];rfl
theorem qE (x y:Str):eqd (.str x) (.str y)=decide (x=y):=by
 by_cases h:x=y
 ·rw[YF h,h];exact (cx _ _ rfl).mpr rfl
 ·rw[Yk h]
  cases e:eqd (.str x) (.str y) with
  | false=>rfl
  | true=>exact absurd (D.str.inj ((cx _ _ rfl).mp e)) h
def dig (m:Nat):List Nat:=(Nat.toDigits 10 m).map Char.toNat
theorem yr (m:Nat):(Str.ofString (toString ((m:Nat):Int)))=sT (dig m):=by
 rw[← CP (Str.ofString _),PySem.W.KIN.signs_num];rfl
theorem h_ {m:Nat}(h:m<10):dig m=[m+48]:=by
 unfold dig
 rw[Nat.toDigits_of_lt_base h]
 have:∀ d:Nat,d<10→[(Nat.digitChar d).toNat]=[d+48]:=by decide
 exact this m h
theorem lI {m:Nat}(h:10≤m):dig m=dig (m/10)++[m%10+48]:=by
 have hm:m%10<10:=Nat.mod_lt m (by decide)
 have t:Nat.toDigits 10 (m/10)++Nat.toDigits 10 (m%10)=Nat.toDigits 10 (10*(m/10)+m%10):=Nat.toDigits_append_toDigits (by decide) (by omega) hm
 rw[Nat.div_add_mod] at t
 rw[← h_ hm]
 unfold dig
 rw[← Yz,t]
theorem iM {P:Nat→Prop}(h0:∀ m,m<10→P m)(h1:∀ m,10≤m→P (m/10)→P m)(m:Nat):P m:=by
 induction m using Nat.strongRecOn with
 | _ m ih=>
  by_cases h:m<10
  ·exact h0 m h
  ·exact h1 m (by omega) (ih (m/10) (by omega))
theorem l5 (m:Nat):∀ c∈dig m,48≤c∧c≤57:=iM (P:=fun m=>∀ c∈dig m,48≤c∧c≤57) (fun m h c hc=>by
 rw[h_ h,Yl] at hc;omega) (fun m h ih c hc=>by
 rw[lI h,Yj,Yl] at hc
 rcases hc with hc | hc
 ·exact ih c hc
 ·omega) m
theorem pj (m:Nat):dig m≠[]:=iM (P:=fun m=>dig m≠[]) (fun m h=>by rw[h_ h];simp) (fun m h _=>by rw[lI h];simp) m
theorem xy (m:Nat):PySem.NumText.digitsVal (dig m)=m:=PySem.W.KIN.val_back m
theorem dR (m:Nat):∀ k,1≤k→m<10 ^ k→(dig m).length≤k:=iM (P:=fun m=>∀ k,1≤k→m<10 ^ k→(dig m).length≤k) (fun m h k hk _=>by rw[h_ h];exact hk) (fun m h ih k hk hm=>by
 rw[lI h,Yc]
 obtain⟨j,rfl⟩:∃ j,k=j+1:=⟨k-1,by omega⟩
 have hj:1≤j:=by
  rcases Nat.eq_zero_or_pos j with rfl | hj
  ·simp at hm;omega
  ·exact hj
 have:=ih j hj (by rw[Nat.pow_succ] at hm;omega)
 exact Xd this) m
theorem v8 (m:Nat):m=0∨(dig m).head?≠some 48:=iM (P:=fun m=>m=0∨(dig m).head?≠some 48) (fun m h=>by
 rw[h_ h]
 by_cases e:m=0
 ·exact .inl e
 ·exact .inr (by simp;omega)) (fun m h ih=>by
 rw[lI h]
 refine .inr ?_
 rcases ih with ih | ih
 ·omega
 ·have:=pj (m/10)
  rw[List.head?_append,show (dig (m/10)).head?.or [m%10+48].head?=(dig (m/10)).head? from by cases hh:dig (m/10) with | nil=>exact absurd hh this | cons x r=>rfl]
  exact ih) m
theorem xB (m:Nat)(h:m<10 ^ 30):intText? (sT (dig m))=some (m:Int):=by
 have hl:=dR m 30 (by decide) h
 have:=PySem.intText_digits (x:=sT (dig m)) (l5 m) (pj m) (by rw[cP];omega)
 rw[fZ,xy] at this
 exact this
end My
namespace My
open PySem PySem.Spec PyProof.Rows L2
def rdF (l:List Nat)(a:Nat)(K T G:List D)(B Q:List (Key×D)):List (Str×FO):=[("text",.d (.str (sT l))),("at",.d (.int (a:Int))),("kinds",.lst K),("ties",.lst T),("hung",.lst G),("begun",.dK B),("closed",.dK Q)]
def rd (l:List Nat)(a:Nat)(K T G:List D)(B Q:List (Key×D)):OD:=.obj (some aa) (rdF l a K T G B Q)
abbrev sgn (C:Addr):DF→Option D:=dI aa "sign" (fi C) (d9 (fq 0) g0)
section
variable {l:List Nat} {a:Nat} {K T G:List D} {B Q:List (Key×D)} {t:Option Addr} {σ:DF}
theorem qw:cL (some aa) 0 "text" (some (.own (rd l a K T G B Q) t)::σ)=some (.str (sT l)):=by kernel_rfl
theorem vU:cL (some aa) 0 "at" (some (.own (rd l a K T G B Q) t)::σ)=some (.int (a:Int)):=by kernel_rfl
theorem uT:cL (some aa) 0 "text" (some (.bor (rd l a K T G B Q))::σ)=some (.str (sT l)):=by kernel_rfl
theorem uJ:cL (some aa) 0 "at" (some (.bor (rd l a K T G B Q))::σ)=some (.int (a:Int)):=by kernel_rfl
theorem t7:aL (some aa) 0 "kinds" (some (.own (rd l a K T G B Q) t)::σ)=some (.lst K):=by kernel_rfl
theorem iR:aL (some aa) 0 "hung" (some (.own (rd l a K T G B Q) t)::σ)=some (.lst G):=by kernel_rfl
theorem fC:aL (some aa) 0 "begun" (some (.own (rd l a K T G B Q) t)::σ)=some (.dK B):=by kernel_rfl
theorem kJ:aL (some aa) 0 "closed" (some (.own (rd l a K T G B Q) t)::σ)=some (.dK Q):=by kernel_rfl
theorem l0:gU (some aa) 0 "at" (cI 1) (some (.own (rd l a K T G B Q) t)::σ)=some (.nx (some (.own (rd l (a+1) K T G B Q) t)::σ)):=by kernel_rfl
theorem g8 {C:Option Addr}{fs:List (Str×FO)}{n:Str}{k:FO→Option FO}{o o':FO}(h1:fs.lookup n=some o)(h2:k o=some o')(h3:fs.length<1000):cW C 0 n k (some (.own (.obj C fs) t)::σ)=some (some (.own (.obj C (dH n o' fs)) t)::σ):=by
 unfold cW
 show (if C=C∧fs.length<1000 then _ else _)=_
 rw[Yh ⟨rfl,h3⟩,h1,Ya,h2]
 rfl
theorem ym {f:Dd}{d:D}(hf:f (some (.own (rd l a K T G B Q) t)::σ)=some d)(hl:K.length<16777216):bK (some aa) 0 "kinds" f (some (.own (rd l a K T G B Q) t)::σ)=some (.nx (some (.own (rd l a (K++[d]) T G B Q) t)::σ)):=by
 unfold bK
 rw[hf,Ya]
 refine (YN (Option.map RES.nx) (g8 (C:=some aa) (t:=t) (σ:=σ) (fs:=rdF l a K T G B Q) (n := "kinds") (k:=j5 d) (o:=.lst K) (o':=.lst (K++[d])) (by kernel_rfl) (Yh hl) (by show 7<1000;decide))).trans ?_
 kernel_rfl
theorem xm {f:Dd}{d:D}(hf:f (some (.own (rd l a K T G B Q) t)::σ)=some d)(hl:G.length<16777216):bK (some aa) 0 "hung" f (some (.own (rd l a K T G B Q) t)::σ)=some (.nx (some (.own (rd l a K T (G++[d]) B Q) t)::σ)):=by
 unfold bK
 rw[hf,Ya]
 refine (YN (Option.map RES.nx) (g8 (C:=some aa) (t:=t) (σ:=σ) (fs:=rdF l a K T G B Q) (n := "hung") (k:=j5 d) (o:=.lst G) (o':=.lst (G++[d])) (by kernel_rfl) (Yh hl) (by show 7<1000;decide))).trans ?_
 kernel_rfl
theorem Au {f:Dl}{ds:List D}(hf:f (some (.own (rd l a K T G B Q) t)::σ)=some ds)(hl:T.length+ds.length≤16777216):om (some aa) 0 "ties" f (some (.own (rd l a K T G B Q) t)::σ)=some (.nx (some (.own (rd l a K (T++ds) G B Q) t)::σ)):=by
 unfold om
 rw[hf,Ya]
 refine (YN (Option.map RES.nx) (g8 (C:=some aa) (t:=t) (σ:=σ) (fs:=rdF l a K T G B Q) (n := "ties") (k:=AM ds) (o:=.lst T) (o':=.lst (T++ds)) (by kernel_rfl) (Yh hl) (by show 7<1000;decide))).trans ?_
 kernel_rfl
theorem xY {f g:Dd}{n:Int}{d:D}(hf:f (some (.own (rd l a K T G B Q) t)::σ)=some (.int n))(hg:g (some (.own (rd l a K T G B Q) t)::σ)=some d)(hl:B.length<16777216)(hn:∀ p∈B,p.1≠.inl n):jh (some aa) 0 "begun" f g (some (.own (rd l a K T G B Q) t)::σ)=some (.nx (some (.own (rd l a K T G (B++[(.inl n,d)]) Q) t)::σ)):=by
 unfold jh
 rw[hg,Ya,hf,Ya,← rF hn]
 refine (YN (Option.map RES.nx) (g8 (C:=some aa) (t:=t) (σ:=σ) (fs:=rdF l a K T G B Q) (n := "begun") (k:=qJ (.int n) d) (o:=.dK B) (o':=.dK (e6 B (.inl n) d)) (by kernel_rfl) (Yh hl) (by show 7<1000;decide))).trans ?_
 kernel_rfl
theorem xT {f g:Dd}{n:Int}{d:D}(hf:f (some (.own (rd l a K T G B Q) t)::σ)=some (.int n))(hg:g (some (.own (rd l a K T G B Q) t)::σ)=some d)(hl:Q.length<16777216)(hn:∀ p∈Q,p.1≠.inl n):jh (some aa) 0 "closed" f g (some (.own (rd l a K T G B Q) t)::σ)=some (.nx (some (.own (rd l a K T G B (Q++[(.inl n,d)])) t)::σ)):=by
 unfold jh
 rw[hg,Ya,hf,Ya,← rF hn]
 refine (YN (Option.map RES.nx) (g8 (C:=some aa) (t:=t) (σ:=σ) (fs:=rdF l a K T G B Q) (n := "closed") (k:=qJ (.int n) d) (o:=.dK Q) (o':=.dK (e6 Q (.inl n) d)) (by kernel_rfl) (Yh hl) (by show 7<1000;decide))).trans ?_
 kernel_rfl
theorem jA {mn:Str}{m:Dz}{o':OD}{d:D}(hn:(rdF l a K T G B Q).lookup mn=none)(h:m (rd l a K T G B Q) []=some (o',d)) :
  cC aa mn 0 m g0 (some (.own (rd l a K T G B Q) t)::σ)=some (d,some (.own o' t)::σ):=by
 show (if aa=aa∧List.lookup mn _=none then (g0 _).bind fun xs=>if li xs=true then (m (rd l a K T G B Q) xs).map _ else none else none)=_
 rw[Yh ⟨rfl,hn⟩]
 show (if li []=true then (m (rd l a K T G B Q) []).map _ else none)=_
 rw[h]
 rfl
theorem c8 {mn:Str}{m:Dz}{o o':OD}{d:D}{g:DXs}{ds:List D}{σ':DF}(hn:(rdF l a K T G B Q).lookup mn=none)
  (hg:g (some (.own (rd l a K T G B Q) t)::σ)=some (ds,some (.own o t)::σ')) (h:m o (ds.map .v)=some (o',d)):bM aa mn 0 m g (some (.own (rd l a K T G B Q) t)::σ)=some (d,some (.own o' t)::σ'):=by
 unfold bM
 show (if List.lookup mn _=none then _ else _)=_
 rw[Yh hn,hg,Ya]
 show (m o (ds.map .v)).map _=_
 rw[h]
 rfl
theorem ik (C:Addr){r:List Nat}(hd:l.drop a=r)(ha:a≤l.length)(hl:l.length≤16777216):sgn C (some (.own (rd l a K T G B Q) t)::σ)=some (.str (sT (r.take 1))):=by
 have e:fi C [.bor (rd l a K T G B Q)]=some (.v (.str (sT (r.take 1)))):=by
  show cY (bL _ [some (.bor (rd l a K T G B Q))])=_
  rw[gQ,lC,uT]
  show cY (Option.map _ (if (sT l).length≤16777216 then _ else none))=_
  rw[cP,Yh hl,kW,uJ,kW,ar,uJ]
  show some (DV.v (.str (Txt.slice (sT l) (some (a:Int)) (some ((a+1:Nat):Int)))))=_
  rw[kR l a (a+1) (by omega) ha,hd,Nat.add_sub_cancel_left]
 show (if nP aa "sign" [.bor (rd l a K T G B Q)]=true then (fi C [.bor (rd l a K T G B Q)]).bind dvD else none)=_
 rw[Yh (by kernel_rfl),e]
 rfl
end
theorem c9 {c:Dk}{body:Dw}{k:Nat}{ρ:DF}(h:c ρ=some false):a_ c body (k+1) ρ=some (.nx ρ):=by
 unfold a_
 rw[h]
theorem dt {c:Dk}{body:Dw}{k:Nat}{ρ ρ':DF}(h:c ρ=some true)(hb:body ρ=some (.nx ρ')):a_ c body (k+1) ρ=a_ c body k ρ':=by
 conv=>lhs;unfold a_
 rw[h,hb]
def TOk (l:List Nat):Prop:=l.length≤16777216∧∀ c∈l,c<128
theorem iY {l:List Nat}(h:∀ c∈l,c<128):PyData.strOk (sT l)=true:=by
 unfold PyData.strOk
 rw[← Array.all_toList,YG]
 intro c hc
 have:=h c hc
 exact YF (by omega)
theorem oO {a b:List Nat}:sT a=sT b↔a=b:=⟨fun h=>by have:=YN (fun x:Str=>x.cps.toList) h;exact this,fun h=>h ▸ rfl⟩
theorem Aw {a b:List Nat}(ha:∀ c∈a,c<128)(hb:∀ c∈b,c<128):eqD (.str (sT a)) (.str (sT b))=some (.bl (decide (a=b))):=by
 rw[uj (x:=.str (sT a)) (y:=.str (sT b)) (iY ha) (iY hb),qE]
 simp[oO]
theorem B8 {a b:List Nat}(ha:∀ c∈a,c<128)(hb:∀ c∈b,c<128):neD (.str (sT a)) (.str (sT b))=some (.bl (!decide (a=b))):=by
 rw[vh (x:=.str (sT a)) (y:=.str (sT b)) (iY ha) (iY hb),qE]
 simp[oO]
def inR (lo hi:Nat):List Nat→Bool
 | c::_=>decide (lo≤c)&&decide (c≤hi)
 | []=>false
def brk (lo hi:Nat)(r:List Nat):Prop:=∀ c∈r.head?,¬ (lo≤c∧c≤hi)
section
variable {l r:List Nat} {a:Nat} {K T G:List D} {B Q:List (Key×D)} {t:Option Addr} {σ:DF}
theorem ca {w:List Nat}(h:l.drop a=w++r):l.drop (a+w.length)=r:=by rw[← List.drop_drop,h,List.drop_left]
theorem cE {w:List Nat}(h:l.drop a=w++r)(ha:a≤l.length):a+w.length≤l.length:=by
 have:=YN List.length h
 rw[List.length_drop,Yc] at this
 omega
theorem TOk.sub (h:TOk l)(hd:l.drop a=r):∀ c∈r,c<128:=fun c hc=>h.2 c (List.mem_of_mem_drop (hd ▸ hc))
theorem TOk.one (h:TOk l)(hd:l.drop a=r):∀ c∈r.take 1,c<128:=fun c hc=>h.sub hd c (List.mem_of_mem_take hc)
theorem DS (C:Addr){lo hi:Nat}(hl:TOk l)(ha:a≤l.length)(hd:l.drop a=r):asB (chD leA leA (ao 1) (sgn C) (ao 2)) (some (.own (rd l a K T G B Q) t)::some (.v (.str (sT [lo])))::some (.v (.str (sT [hi])))::σ)=some (inR lo hi r):=by
 rw[bt,wq,ik C hd ha hl.1]
 simp only[qB,Xj,ZP,Ya]
 cases r with
 | nil=>simp only[List.take_nil,EU];rfl
 | cons c r=>
  simp only[List.take_succ_cons,List.take_zero,Ex]
  show _=some (decide (lo≤c)&&decide (c≤hi))
  by_cases h:lo≤c
  ·rw[YF h];rfl
  ·rw[Yk h];rfl
theorem sx (C:Addr){lo hi:Nat}(hl:TOk l)(hr:brk lo hi r):∀ (w:List Nat) (a n:Nat),a≤l.length→l.drop a=w++r→(∀ c∈w,lo≤c∧c≤hi)→w.length<n→
  a_ (asB (chD leA leA (ao 1) (sgn C) (ao 2))) (gU (some aa) 0 "at" (cI 1)) n (some (.own (rd l a K T G B Q) t)::some (.v (.str (sT [lo])))::some (.v (.str (sT [hi])))::σ)=some (.nx (some (.own (rd l (a+w.length) K T G B Q) t)::some (.v (.str (sT [lo])))::some (.v (.str (sT [hi])))::σ)):=by
 intro w
 induction w with
 | nil=>
  intro a n ha hd _ hn
  obtain⟨n,rfl⟩:∃ m,n=m+1:=⟨n-1,by simp at hn;omega⟩
  refine c9 ((DS C hl ha hd).trans ?_)
  cases r with
  | nil=>rfl
  | cons c r=>
   have:=hr c rfl
   show some (decide (lo≤c)&&decide (c≤hi))=_
   rw[← Bool.decide_and,Yk this]
 | cons c w ih=>
  intro a n ha hd hw hn
  obtain⟨n,rfl⟩:∃ m,n=m+1:=⟨n-1,by simp at hn;omega⟩
  have hc:=hw c Yf
  have h1:l.drop (a+1)=w++r:=ca (w:=[c]) hd
  have h2:a+1≤l.length:=cE (w:=[c]) hd ha
  rw[dt ((DS C hl ha hd).trans (by show some (decide (lo≤c)&&decide (c≤hi))=some true;rw[← Bool.decide_and,YF hc])) l0,ih (a+1) n h2 h1 (fun x hx=>hw x (Yd _ hx)) (by simp at hn;omega)]
  rw[Yg,show a+1+w.length=a+(w.length+1) by omega]
theorem nN (C:Addr){lo hi:Nat}{w:List Nat}(hl:TOk l)(ha:a≤l.length)(hd:l.drop a=w++r)(hr:brk lo hi r)(hw:∀ c∈w,lo≤c∧c≤hi)(hn:w.length<5000) :
  bN C (rd l a K T G B Q) [.v (.str (sT [lo])),.v (.str (sT [hi]))]=some (rd l (a+w.length) K T G B Q,.str (sT w)):=bT rfl fun b=>by
 refine⟨.rt (.v (.str (sT w))) [some (.own (rd l (a+w.length) K T G B Q) (some b)),some (.v (.str (sT [lo]))),some (.v (.str (sT [hi]))),some (.v (.int (a:Int)))],?_,rfl,rfl⟩
 show ai (aZ 3 _) (ai (a_ _ _ 5000) _) [some (.own (rd l a K T G B Q) (some b)),some (.v (.str (sT [lo]))),some (.v (.str (sT [hi]))),none]=_
 rw[ae (ρ':=[some (.own (rd l a K T G B Q) (some b)),some (.v (.str (sT [lo]))),some (.v (.str (sT [hi]))),some (.v (.int (a:Int)))]) (by rw[bn,vU];rfl),ae (sx C hl hr w a 5000 ha hd hw hn),gQ,lC,qw]
 show Option.map _ (if (sT l).length≤16777216 then _ else none)=_
 rw[cP,Yh hl.1,kW,kW,vU]
 show some (RES.rt (.v (.str (Txt.slice (sT l) (some (a:Int)) (some ((a+w.length:Nat):Int))))) _)=_
 rw[kR l a (a+w.length) (by omega) ha,hd,Nat.add_sub_cancel_left,List.take_left]
theorem i5 (m:Nat):∀ c∈dig m,c<128:=fun c hc=>by have:=l5 m c hc;omega
theorem s_0:("0":Str)=sT [48]:=by kernel_rfl
theorem s_9:("9":Str)=sT [57]:=by kernel_rfl
theorem vc (C:Addr)(m:Nat)(hm:m<10 ^ 30):rj C [.v (.str (sT (dig m)))]=some (.v (.bl true)):=by
 have hl:=dR m 30 (by decide) hm
 have hne:=pj m
 have h1:1≤(dig m).length:=XE.mpr hne
 have eL:aM (.str (sT (dig m)))=some (.int ((dig m).length:Int)):=by
  show (if (sT (dig m)).length≤16777216 then some (D.int (sT (dig m)).length) else none)=_
  rw[cP,Yh (by omega)]
 have eq:eqD (.str (sT (dig m))) (.str "0")=some (.bl (decide (dig m=[48]))):=by rw[s_0,Aw (i5 m) (by decide)]
 obtain⟨c,w,hw⟩:∃ c w,dig m=c::w:=by
  cases e:dig m with
  | nil=>exact absurd e hne
  | cons c w=>exact⟨c,w,rfl⟩
 have ix:ixD (.str (sT (dig m))) (.int 0)=some (.str (sT [c])):=by
  show (if (sT (dig m)).length≤16777216 then (atI (sT (dig m)).cps.toList 0).map (fun c=>D.str ⟨#[c]⟩) else none)=_
  rw[cP,Yh (by omega),fZ,hw,wb (by decide) (by simp)];rfl
 have ne:neD (.str (sT [c])) (.str "0")=some (.bl (!decide (c=48))):=by
  rw[s_0,B8 (by intro x hx;exact i5 m x (by rw[hw];rw[Yl] at hx;subst hx;exact Yf)) (by decide)]
  simp
 show cY (bL (gy (chD leA leA (cI 1) (d1 aM (ao 0)) (cI 30)) (orV (d2 eqD (ao 0) (fun _=>some (.str "0"))) (d2 neD (d2 ixD (al 0) (cI 0)) (fun _=>some (.str "0"))))) [some (.v (.str (sT (dig m))))])=_
 have i1:(1:Int)≤((dig m).length:Int):=by omega
 have i2:((dig m).length:Int)≤30:=by omega
 have hh:dig m=[48]∨¬ c=48:=by
  rcases v8 m with h | h
  ·subst h;exact .inl (h_ (by decide))
  ·exact .inr (fun z=>h (by rw[hw,z];rfl))
 generalize sT (dig m)=X at *
 simp only[gQ,xD,wq,cc,qB,ZP,Ya,eL,xG,i1,i2,decide_true,Ax,ar,rh,eq,ix,ne]
 rcases hh with h | h
 ·simp[h]
 ·by_cases q:dig m=[48]
  ·simp[q]
  ·simp[q,h]
theorem kP (C:Addr){m:Nat}(hm:m<10 ^ 30)(hl:TOk l)(ha:a≤l.length)(hd:l.drop a=dig m++r)(hr:brk 48 57 r):bi C (rd l a K T G B Q) []=some (rd l (a+(dig m).length) K T G B Q,.int (m:Int)):=bT rfl fun b=>by
 have hn:=dR m 30 (by decide) hm
 refine⟨.rt (.v (.int (m:Int))) [some (.own (rd l (a+(dig m).length) K T G B Q) (some b)),some (.v (.str (sT (dig m))))],?_,rfl,rfl⟩
 show ai (aS 1 _) (ai (dIf _ b5 dNx) _) [some (.own (rd l a K T G B Q) (some b)),none]=_
 rw[ae (ρ':=[some (.own (rd l (a+(dig m).length) K T G B Q) (some b)),some (.v (.str (sT (dig m))))]) (by
  unfold aS
  rw[c8 (by kernel_rfl) (by rfl) (by
   show bN C _ [.v (.str "0"),.v (.str "9")]=_
   rw[s_0,s_9]
   exact nN C hl ha hd hr (l5 m) (by omega))]
  rfl)]
 rw[ae (ρ':=[some (.own (rd l (a+(dig m).length) K T G B Q) (some b)),some (.v (.str (sT (dig m))))]) (by
  have h:=vc C m hm
  generalize rj C=M at h ⊢
  simp[h])]
 rw[gQ,cc]
 show Option.map _ (if (sT (dig m)).length≤640 then (intText? (sT (dig m))).map D.int else none)=_
 rw[cP,Yh (by omega),xB m hm]
 rfl
end
def ldN:Nat→Nat
 | 0=>126
 | 1=>62
 | _=>60
abbrev Mk:=Nat×Nat
def mkT (q:Mk):List Nat:=ldN q.2::dig q.1
def mtx (ms:List Mk):List Nat:=ms.flatMap mkT
def dMk (q:Mk):D:=.tup [.int (q.1:Int),.int (q.2:Int)]
def okM (q:Mk):Prop:=q.1<10 ^ 30∧q.2<3
theorem gJ (q:Mk)(ms:List Mk):mtx (q::ms)=ldN q.2::(dig q.1++mtx ms):=rfl
def gl3 (c:Nat):Option Int:=if c=126 then some 0 else if c=62 then some 1 else if c=60 then some 2 else none
theorem t4 (c:Nat):glN ba (sT [c])=gl3 c:=by
 unfold glN ba gl3
 have e:∀ a:Nat,(sT [a] == sT [c])=decide (c=a):=fun a=>by
  rw[show (sT [a] == sT [c])=decide (sT [a]=sT [c]) from rfl]
  simp[oO,eq_comm]
 rw[show ("~":Str)=sT [126] by kernel_rfl,show (">":Str)=sT [62] by kernel_rfl,show ("<":Str)=sT [60] by kernel_rfl]
 simp only[Zc,e,List.find?_nil]
 by_cases h1:c=126
 ·subst h1;rfl
 ·by_cases h2:c=62
  ·subst h2;rfl
  ·by_cases h3:c=60
   ·subst h3;rfl
   ·simp[h1,h2,h3]
theorem AE:glN ba (sT [])=none:=by kernel_rfl
theorem zA {j:Nat}(h:j<3):gl3 (ldN j)=some (j:Int):=by
 have:∀ j:Fin 3,gl3 (ldN j.val)=some (j.val:Int):=by decide
 exact this ⟨j,h⟩
def glR:List Nat→Option Int
 | c::_=>gl3 c
 | []=>none
def brkM (r:List Nat):Prop:=∀ c∈r.head?,97≤c∧c≤125
theorem brkM.no {r:List Nat}(h:brkM r):glR r=none:=by
 cases r with
 | nil=>rfl
 | cons c r=>
  have:=h c rfl
  show gl3 c=none
  unfold gl3
  rw[Yr (by omega),Yr (by omega),Yr (by omega)]
theorem brkM.dig {r:List Nat}(h:brkM r):brk 48 57 r:=fun c hc=>by have:=h c hc;omega
section
variable {l r:List Nat} {a:Nat} {K T G:List D} {B Q:List (Key×D)} {t:Option Addr} {σ:DF}
theorem Cq (C:Addr)(hl:TOk l)(ha:a≤l.length)(hd:l.drop a=r):d1 (inG ba) (sgn C) (some (.own (rd l a K T G B Q) t)::σ)=some (.bl (glR r).isSome):=by
 rw[cc,ik C hd ha hl.1]
 show some (D.bl (glN ba (sT (r.take 1))).isSome)=_
 cases r with
 | nil=>rw[List.take_nil,AE];rfl
 | cons c r=>rw[show (c::r).take 1=[c] from rfl,t4];rfl
theorem Ek (C:Addr){j:Int}(hl:TOk l)(ha:a≤l.length)(hd:l.drop a=r)(hj:glR r=some j):d1 (xx ba) (sgn C) (some (.own (rd l a K T G B Q) t)::σ)=some (.int j):=by
 rw[cc,ik C hd ha hl.1]
 show (glN ba (sT (r.take 1))).map D.int=_
 cases r with
 | nil=>cases hj
 | cons c r=>rw[show (c::r).take 1=[c] from rfl,t4,show gl3 c=some j from hj];rfl
theorem oT (C:Addr)(hl:TOk l)(hr:brkM r):∀ (ms:List Mk) (fs:List D) (a n:Nat) (y:Option DV),a≤l.length→l.drop a=mtx ms++r→(∀ q∈ms,okM q)→ms.length<n→fs.length+ms.length<16777216→∃ y',
  a_ (asB (d1 (inG ba) (sgn C))) (ai (aZ 2 (d1 (xx ba) (sgn C))) (ai (gU (some aa) 0 "at" (cI 1)) (jS 1 (kL (aW (cC aa "number" 0 (bi C) g0) (aW (ag (getV 2)) dj)))))) n [some (.own (rd l a K T G B Q) t),some (.own (.lst fs) none),y]
   = some (.nx [some (.own (rd l (a+(mtx ms).length) K T G B Q) t),some (.own (.lst (fs++ms.map dMk)) none),y']):=by
 intro ms
 induction ms with
 | nil=>
  intro fs a n y ha hd _ hn _
  obtain⟨n,rfl⟩:∃ m,n=m+1:=⟨n-1,by simp at hn;omega⟩
  refine⟨y,?_⟩
  rw[c9 (by rw[bt,Cq C hl ha hd,show mtx []++r=r from rfl,hr.no];rfl),Za,Yi]
  rfl
 | cons q ms ih=>
  intro fs a n y ha hd hq hn hf
  obtain⟨n,rfl⟩:∃ m,n=m+1:=⟨n-1,by simp at hn;omega⟩
  have ok:=hq q Yf
  have hd':l.drop a=[ldN q.2]++(dig q.1++(mtx ms++r)):=by rw[hd,gJ];simp
  have g0:glR (mtx (q::ms)++r)=some (q.2:Int):=zA ok.2
  have h1:l.drop (a+1)=dig q.1++(mtx ms++r):=ca hd'
  have l1:a+1≤l.length:=cE hd' ha
  have bk:brk 48 57 (mtx ms++r):=by
   cases ms with
   | nil=>exact hr.dig
   | cons q2 ms=>
    intro c hc
    have:c=ldN q2.2:=by rw[gJ] at hc;exact (Yq hc).symm
    subst this
    have:∀ j:Nat,¬ (48≤ldN j∧ldN j≤57):=fun j=>by unfold ldN;split <;> decide
    exact this _
  have h2:=ca h1
  have l2:=cE h1 l1
  have hN:=kP C (K:=K) (T:=T) (G:=G) (B:=B) (Q:=Q) ok.1 hl l1 h1 bk
  obtain⟨y',hi⟩:=ih (fs++[dMk q]) (a+1+(dig q.1).length) n (some (.v (.int (q.2:Int)))) l2 h2 (fun x hx=>hq x (Yd _ hx)) (by simp at hn;omega) (by simp at hf ⊢;omega)
  refine⟨y',?_⟩
  rw[dt (ρ':=[some (.own (rd l (a+1+(dig q.1).length) K T G B Q) t),some (.own (.lst (fs++[dMk q])) none),some (.v (.int (q.2:Int)))]) (by rw[bt,Cq C hl ha hd,g0];rfl) (by
   rw[ae (ρ':=[some (.own (rd l a K T G B Q) t),some (.own (.lst fs) none),some (.v (.int (q.2:Int)))]) (by rw[bn,Ek C hl ha hd g0];rfl),ae l0]
   show (Option.bind (kL _ _) _)=_
   have e:kL (aW (cC aa "number" 0 (bi C) L2.g0) (aW (ag (getV 2)) dj)) [some (.own (rd l (a+1) K T G B Q) t),some (.own (.lst fs) none),some (.v (.int (q.2:Int)))]=some (dMk q,[some (.own (rd l (a+1+(dig q.1).length) K T G B Q) t),some (.own (.lst fs) none),some (.v (.int (q.2:Int)))]):=by
    unfold kL aW
    rw[jA (by kernel_rfl) hN]
    rfl
   rw[e,Ya]
   show (if fs.length<16777216 then _ else _)=_
   rw[Yh (by simp at hf;omega)]
   rfl),hi]
  rw[Yn]
  have:a+1+(dig q.1).length+(mtx ms).length=a+(mtx (q::ms)).length:=by rw[gJ];simp;omega
  rw[this]
  rfl
theorem oC (C:Addr){ms:List Mk}(hl:TOk l)(ha:a≤l.length)(hd:l.drop a=mtx ms++r)(hr:brkM r)(hm:∀ q∈ms,okM q)(h0:ms≠[])(h1:ms.length<200):cb C (rd l a K T G B Q) []=some (rd l (a+(mtx ms).length) K T G B Q,.lst (ms.map dMk)):=bT rfl fun b=>by
 obtain⟨y',hL⟩:=oT C (K:=K) (T:=T) (G:=G) (B:=B) (Q:=Q) (t:=some b) hl hr ms [] a 200 none ha hd hm h1 (by simp;omega)
 refine⟨.rt (.v (.lst (ms.map dMk))) [some (.own (rd l (a+(mtx ms).length) K T G B Q) (some b)),some (.v (.lst (ms.map dMk))),y'],?_,rfl,rfl⟩
 show ai (dg 1 (asL bx)) (ai (a_ _ _ 200) _) [some (.own (rd l a K T G B Q) (some b)),none,none]=_
 rw[ae (ρ':=[some (.own (rd l a K T G B Q) (some b)),some (.own (.lst []) none),none]) rfl,ae hL]
 rw[ae (ρ':=[some (.own (rd l (a+(mtx ms).length) K T G B Q) (some b)),some (.v (.lst (ms.map dMk))),y'])]
 ·rfl
 ·cases ms with
  | nil=>exact absurd rfl h0
  | cons q ms=>rfl
def bu (a b:Int)(q:Mk):T4:=if q.2=2 then (b,a,(q.1:Int),true) else (a,b,(q.1:Int),decide (q.2=1))
theorem wl (C:Addr)(a b:Int)(q:Mk):rc C [.v (.int a),.v (.int b),.v (.int (q.1:Int)),.v (.int (q.2:Int))]=some (.v (dT4 (bu a b q))):=by
 show cY (ai (dIf (asB (d2 eqD (ao 3) (cI 2))) _ dNx) _ [some (.v (.int a)),some (.v (.int b)),some (.v (.int (q.1:Int))),some (.v (.int (q.2:Int)))])=_
 unfold bu
 by_cases h:q.2=2
 ·rw[h];rfl
 ·have h':¬ ((q.2:Int)=2):=by omega
  have e:decide ((q.2:Int)=1)=decide (q.2=1):=by simp;omega
  rw[Yr h]
  simp[h',dT4,e]
theorem qe (C:Addr){ms:List Mk}{p q:Int}(hT:T.length+ms.length≤16777216):cq C (rd l a K T G B Q) [.v (.lst (ms.map dMk)),.v (.int p),.v (.int q)]=some (rd l a K (T++(ms.map (bu p q)).map dT4) G B Q,.non):=bT rfl fun b=>by
 refine⟨.nx [some (.own (rd l a K (T++(ms.map (bu p q)).map dT4) G B Q) (some b)),some (.v (.lst (ms.map dMk))),some (.v (.int p)),some (.v (.int q))],?_,rfl,rfl⟩
 show om (some aa) 0 "ties" _ [some (.own (rd l a K T G B Q) (some b)),some (.v (.lst (ms.map dMk))),some (.v (.int p)),some (.v (.int q))]=_
 refine Au ?_ (by simpa using hT)
 rw[dY]
 show (if (ms.map dMk).length≤16777216 then dL _ _ _ _ (ms.map dMk) else none)=_
 rw[Yh (by simp;omega),Zg]
 refine eD dMk (dT4 ∘ bu p q) ms fun m hm=>?_
 have e:=wl C p q m
 generalize rc C=M at e ⊢
 refine⟨[some (.v (.int (m.1:Int))),some (.v (.int (m.2:Int))),some (.v (.int p)),some (.v (.int q))],rfl,rfl,?_⟩
 simp[e]
end
def bgD (bg:List (Int×Int)):List (Key×D):=bg.map fun q=>(.inl q.1,.int q.2)
def clD (cl:List Int):List (Key×D):=cl.map fun n=>(.inl n,.bl true)
theorem vo {bg:List (Int×Int)}{n:Int}(h:n∉bg.map (·.1)):∀ p∈bgD bg,p.1≠.inl n:=fun p hp e=>by
 obtain⟨q,hq,rfl⟩:=Yo.mp hp
 exact h (Yo.mpr ⟨q,hq,Sum.inl.inj e⟩)
theorem u7 {cl:List Int}{n:Int}(h:n∉cl):∀ p∈clD cl,p.1≠.inl n:=fun p hp e=>by
 obtain⟨q,hq,rfl⟩:=Yo.mp hp
 cases e
 exact h hq
theorem uX {B:List (Key×D)}{k:Key}(h:∀ p∈B,p.1≠k):cy B k=none:=by
 unfold cy
 rw[List.find?_eq_none.mpr fun p hp=>by simpa using h p hp];rfl
theorem tK:∀ {bg:List (Int×Int)} {n p:Int},(bg.map (·.1)).Nodup→(n,p)∈bg→cy (bgD bg) (.inl n)=some (.int p)
 | [],_,_,_,h=>nomatch h
 | q::bg,n,p,nd,h=>by
  show cy ((.inl q.1,.int q.2)::bgD bg) _=_
  rw[g7]
  rcases YC.mp h with e | h
  ·rw[← e,Yh rfl]
  ·rw[Yr fun e=>(YD.mp nd).1 (Yo.mpr ⟨_,h,(Sum.inl.inj e).symm⟩)]
   exact tK (YD.mp nd).2 h
abbrev Ev:=Nat×Option (Int×List Mk)
def evR:Option (Int×List Mk)→List Nat
 | none=>[125]
 | some m=>58::(mtx m.2++[125])
def evT (e:Ev):List Nat:=123::(dig e.1++evR e.2)
def evB (p:Int)(e:Ev):List (Int×Int):=match e.2 with | none=>[((e.1:Int),p)] | some _=>[]
def evC (e:Ev):List Int:=match e.2 with | none=>[] | some _=>[(e.1:Int)]
def evS (p:Int)(e:Ev):List T4:=match e.2 with | none=>[] | some m=>m.2.map (bu m.1 p)
def okE (p:Int)(bg:List (Int×Int))(cl:List Int)(e:Ev):Prop:=(1≤e.1∧e.1≤99)∧match e.2 with | none=>(e.1:Int)∉bg.map (·.1) | some m=>((e.1:Int),m.1)∈bg∧m.1≠p∧(e.1:Int)∉cl∧m.2≠[]∧m.2.length<200∧∀ q∈m.2,okM q
section
variable {l r:List Nat} {a:Nat} {K T G:List D} {B Q:List (Key×D)} {t:Option Addr} {σ:DF}
theorem iS (C:Addr){c:Nat}(hl:TOk l)(ha:a≤l.length)(hd:l.drop a=c::r):bW C (rd l a K T G B Q) [.v (.str (sT [c]))]=some (rd l (a+1) K T G B Q,.non):=bT rfl fun b=>by
 refine⟨.nx [some (.own (rd l (a+1) K T G B Q) (some b)),some (.v (.str (sT [c])))],?_,rfl,rfl⟩
 show ai (dIf (asB (d2 neD (sgn C) (ao 1))) b5 dNx) _ [some (.own (rd l a K T G B Q) (some b)),some (.v (.str (sT [c])))]=_
 have h:∀ x∈[c],x<128:=hl.one hd
 rw[ae (ρ':=[some (.own (rd l a K T G B Q) (some b)),some (.v (.str (sT [c])))]) (by
  rw[bX,bt,ar,ik C hd ha hl.1]
  show (match neD (.str (sT [c])) (.str (sT [c])) with | some (.bl b)=>some b | _=>none:Option Bool).bind _=_
  rw[B8 h h,YF rfl]
  rfl)]
 exact l0
theorem vk (C:Addr){bg:List (Int×Int)}{n p:Int}(hn:n∉bg.map (·.1))(hb:bg.length<16777216):cw C (rd l a K T G (bgD bg) Q) [.v (.int n),.v (.int p)]=some (rd l a K T G (bgD (bg++[(n,p)])) Q,.non):=bT rfl fun b=>by
 refine⟨.nx [some (.own (rd l a K T G (bgD (bg++[(n,p)])) Q) (some b)),some (.v (.int n)),some (.v (.int p))],?_,rfl,rfl⟩
 show ai (dIf (asB (d2 ny (getV 1) (aL (some aa) 0 "begun"))) b5 dNx) _ [some (.own (rd l a K T G (bgD bg) Q) (some b)),some (.v (.int n)),some (.v (.int p))]=_
 rw[ae (ρ':=[some (.own (rd l a K T G (bgD bg) Q) (some b)),some (.v (.int n)),some (.v (.int p))]) (by
  rw[bX,bt,ar,fC]
  show (match some (D.bl (cy (bgD bg) (.inl n)).isSome) with | some (.bl b)=>some b | _=>none:Option Bool).bind _=_
  rw[uX (vo hn)]
  rfl)]
 rw[xY (n:=n) (d:=.int p) rfl rfl (by unfold bgD;simpa using hb) (vo hn)]
 unfold bgD
 rw[Yz]
 rfl
theorem tM (C:Addr){bg:List (Int×Int)}{cl:List Int}{n p p0:Int}{ms:List Mk}(nd:(bg.map (·.1)).Nodup)(hn:(n,p0)∈bg)(hp:p0≠p)(hc:n∉cl)(hb:cl.length<16777216)(hT:T.length+ms.length≤16777216) :
  cv C (rd l a K T G (bgD bg) (clD cl)) [.v (.int n),.v (.int p),.v (.lst (ms.map dMk))]=some (rd l a K (T++(ms.map (bu p0 p)).map dT4) G (bgD bg) (clD (cl++[n])),.non):=bT rfl fun b=>by
 have hv:=tK nd hn
 refine⟨.nx [some (.own (rd l a K (T++(ms.map (bu p0 p)).map dT4) G (bgD bg) (clD (cl++[n]))) (some b)),some (.v (.int n)),some (.v (.int p)),some (.v (.lst (ms.map dMk)))],?_,rfl,rfl⟩
 show ai (dIf (orT (asB (d2 pQ (getV 1) (aL (some aa) 0 "begun"))) (asB (d2 ny (getV 1) (aL (some aa) 0 "closed")))) b5 dNx) _ [some (.own (rd l a K T G (bgD bg) (clD cl)) (some b)),some (.v (.int n)),some (.v (.int p)),some (.v (.lst (ms.map dMk)))]=_
 rw[ae (ρ':=[some (.own (rd l a K T G (bgD bg) (clD cl)) (some b)),some (.v (.int n)),some (.v (.int p)),some (.v (.lst (ms.map dMk)))]) (by
  rw[bX,vd,bt,ar,fC,bt,ar,kJ]
  show ((match some (D.bl (!(cy (bgD bg) (.inl n)).isSome)) with | some (.bl b)=>some b | _=>none:Option Bool).bind fun b=>if b=true then some true else (match some (D.bl (cy (clD cl) (.inl n)).isSome) with | some (.bl b)=>some b | _=>none:Option Bool)).bind _=_
  rw[hv,uX (u7 hc)]
  rfl)]
 rw[ae (ρ':=[some (.own (rd l a K T G (bgD bg) (clD cl)) (some b)),some (.v (.int n)),some (.v (.int p)),some (.v (.lst (ms.map dMk)))]) (by
  rw[bX,bt,ar,ar,fC]
  show (match (cy (bgD bg) (.inl n)).bind fun x=>eqD x (.int p) with | some (.bl b)=>some b | _=>none:Option Bool).bind _=_
  rw[hv,Ya,dO,Yk hp]
  rfl)]
 rw[ae (xT (n:=n) (d:=.bl true) rfl rfl (by unfold clD;simpa using hb) (u7 hc))]
 have eq:clD cl++[(.inl n,.bl true)]=clD (cl++[n]):=by unfold clD;rw[Yz];rfl
 rw[eq]
 have eg:d2 dE (aL (some aa) 0 "begun") (getV 1) [some (.own (rd l a K T G (bgD bg) (clD (cl++[n]))) (some b)),some (.v (.int n)),some (.v (.int p)),some (.v (.lst (ms.map dMk)))]=some (.int p0):=by
  rw[ar,fC]
  exact hv
 unfold bB
 rw[c8 (ds:=[.lst (ms.map dMk),.int p0,.int p]) (o:=rd l a K T G (bgD bg) (clD (cl++[n]))) (by kernel_rfl) (by
  unfold aW ag
  show Option.map _ ((Option.map _ (d2 dE (aL (some aa) 0 "begun") (getV 1) [some (.own (rd l a K T G (bgD bg) (clD (cl++[n]))) (some b)),some (.v (.int n)),some (.v (.int p)),some (.v (.lst (ms.map dMk)))])).bind _)=_
  rw[eg]
  rfl) (qe C hT)]
 rfl
theorem s_o:("{":Str)=sT [123]:=by kernel_rfl
theorem s_c:("}":Str)=sT [125]:=by kernel_rfl
theorem s_p:(":":Str)=sT [58]:=by kernel_rfl
theorem qr (C:Addr){c:Nat}(hc:c<128)(hl:TOk l)(ha:a≤l.length)(hd:l.drop a=r):asB (d2 eqD (sgn C) (fun _=>some (.str (sT [c])))) (some (.own (rd l a K T G B Q) t)::σ)=some (decide (r.take 1=[c])):=by
 rw[bt,ar,ik C hd ha hl.1]
 show (match eqD (.str (sT (r.take 1))) (.str (sT [c])) with | some (.bl b)=>some b | _=>none:Option Bool)=_
 rw[Aw (hl.one hd) (by intro x hx;rw[Yl] at hx;omega)]
theorem yE (C:Addr){bg:List (Int×Int)}{cl:List Int}{p:Int}{e:Ev}(hl:TOk l)(ha:a≤l.length)(hd:l.drop a=evT e++r)(nd:(bg.map (·.1)).Nodup)(he:okE p bg cl e)(hb:bg.length<16777216)(hc:cl.length<16777216)(hT:T.length+(evS p e).length≤16777216) :
  bV C (rd l a K T G (bgD bg) (clD cl)) [.v (.int p)]=some (rd l (a+(evT e).length) K (T++(evS p e).map dT4) G (bgD (bg++evB p e)) (clD (cl++evC e)),.non):=bT rfl fun b=>by
 refine⟨.nx [some (.own (rd l (a+(evT e).length) K (T++(evS p e).map dT4) G (bgD (bg++evB p e)) (clD (cl++evC e))) (some b)),some (.v (.int p)),some (.v (.int (e.1:Int)))],?_,rfl,rfl⟩
 obtain⟨n,m⟩:=e
 obtain⟨hn,he⟩:=he
 have hm:n<10 ^ 30:=YY hn.2 (by decide)
 show ai (bB (bM aa "skip" 0 (bW C) (aW (ag (fun _=>some (.str "{"))) dj))) (ai (aS 2 (cC aa "number" 0 (bi C) g0)) _) [some (.own (rd l a K T G (bgD bg) (clD cl)) (some b)),some (.v (.int p)),none]=_
 rw[s_o,s_c,s_p]
 have hd1:l.drop a=[123]++(dig n++(evR m++r)):=by rw[hd];unfold evT;simp
 have d1:l.drop (a+1)=dig n++(evR m++r):=ca hd1
 have l1:a+1≤l.length:=cE hd1 ha
 have d2':=ca d1
 have l2:=cE d1 l1
 have bk:brk 48 57 (evR m++r):=by
  cases m <;> (intro c hc;cases hc;decide)
 rw[ae (ρ':=[some (.own (rd l (a+1) K T G (bgD bg) (clD cl)) (some b)),some (.v (.int p)),none]) (by
  unfold bB
  rw[c8 (by kernel_rfl) (by rfl) (iS C hl ha hd1)]
  rfl)]
 rw[ae (ρ':=[some (.own (rd l (a+1+(dig n).length) K T G (bgD bg) (clD cl)) (some b)),some (.v (.int p)),some (.v (.int (n:Int)))]) (by
  unfold aS
  rw[jA (by kernel_rfl) (kP C hm hl l1 d1 bk)]
  rfl)]
 rw[ae (ρ':=[some (.own (rd l (a+1+(dig n).length) K T G (bgD bg) (clD cl)) (some b)),some (.v (.int p)),some (.v (.int (n:Int)))]) (by
  have i1:(1:Int)≤(n:Int):=by omega
  have i2:(n:Int)≤99:=by omega
  simp[i1,i2])]
 generalize hA:a+1+(dig n).length=A at *
 cases m with
 | none=>
  have e1:l.drop A=[125]++r:=d2'
  rw[ae (ρ':=[some (.own (rd l A K T G (bgD (bg++[((n:Int),p)])) (clD cl)) (some b)),some (.v (.int p)),some (.v (.int (n:Int)))]) (by
   rw[bX,qr C (by decide) hl l2 e1]
   show bB _ _=_
   unfold bB
   rw[c8 (ds:=[.int (n:Int),.int p]) (o:=rd l A K T G (bgD bg) (clD cl)) (by kernel_rfl) (by rfl) (vk C he hb)]
   rfl)]
  unfold bB
  rw[c8 (by kernel_rfl) (by rfl) (iS C hl l2 e1)]
  have:a+(evT (n,none)).length=A+1:=by unfold evT evR;simp;omega
  rw[this]
  show _=some (RES.nx [some (.own (rd l (A+1) K (T++[]) G (bgD (bg++[((n:Int),p)])) (clD (cl++[]))) (some b)),_,_])
  rw[Yi,Yi]
  rfl
 | some m=>
  obtain⟨p0,ms⟩:=m
  obtain⟨he1,he2,he3,he4,he5,he6⟩:=he
  have e1:l.drop A=[58]++(mtx ms++(125::r)):=by rw[d2'];simp[evR]
  have e2:l.drop (A+1)=mtx ms++(125::r):=ca e1
  have l3:A+1≤l.length:=cE e1 l2
  have e3:l.drop (A+1+(mtx ms).length)=[125]++r:=ca e2
  have l4:=cE e2 l3
  have hM:=oC C (K:=K) (T:=T) (G:=G) (B:=bgD bg) (Q:=clD cl) hl l3 e2 (by intro c hc;cases hc;decide) he6 he4 he5
  rw[ae (ρ':=[some (.own (rd l (A+1+(mtx ms).length) K (T++(ms.map (bu p0 p)).map dT4) G (bgD bg) (clD (cl++[(n:Int)]))) (some b)),some (.v (.int p)),some (.v (.int (n:Int)))]) (by
   rw[bX,qr C (by decide) hl l2 e1]
   show ai _ _ _=_
   rw[ae (ρ':=[some (.own (rd l (A+1) K T G (bgD bg) (clD cl)) (some b)),some (.v (.int p)),some (.v (.int (n:Int)))]) (by
    unfold bB
    rw[c8 (by kernel_rfl) (by rfl) (iS C hl l2 e1)]
    rfl)]
   unfold bB
   rw[c8 (ds:=[.int (n:Int),.int p,.lst (ms.map dMk)]) (o:=rd l (A+1+(mtx ms).length) K T G (bgD bg) (clD cl)) (by kernel_rfl) (by
    unfold aW
    show Option.map _ ((Option.map _ ((cC aa "marks" 0 (cb C) g0 _).bind _)))=_
    rw[jA (by kernel_rfl) hM]
    rfl) (tM C nd he1 he2 he3 hc (by simpa[evS] using hT))]
   rfl)]
  unfold bB
  rw[c8 (by kernel_rfl) (by rfl) (iS C hl l4 e3)]
  have:a+(evT (n,some (p0,ms))).length=A+1+(mtx ms).length+1:=by unfold evT evR;simp;omega
  rw[this]
  show _=some (RES.nx [some (.own (rd l (A+1+(mtx ms).length+1) K (T++(ms.map (bu p0 p)).map dT4) G (bgD (bg++[])) (clD (cl++[(n:Int)]))) (some b)),_,_])
  rw[Yi]
  rfl
end
def ng (r:List Nat):Prop:=∀ c∈r.head?,¬ (97≤c∧c≤123)
theorem uZ {p:Int}{bg:List (Int×Int)}{cl:List Int}{e e2:Ev}(h:okE p bg cl e2)(hn:e.1≠e2.1):okE p (bg++evB p e) (cl++evC e) e2:=by
 obtain⟨n,m⟩:=e
 obtain⟨n2,m2⟩:=e2
 refine⟨h.1,?_⟩
 have h2:=h.2
 have nB:(n2:Int)∉(evB p (n,m)).map (·.1):=by
  cases m with
  | none=>intro z;have:(n2:Int)=(n:Int):=Yl.mp z;exact hn (by show n=n2;omega)
  | some m=>exact fun z=>nomatch z
 have nC:(n2:Int)∉evC (n,m):=by
  cases m with
  | none=>exact fun z=>nomatch z
  | some m=>intro z;have:(n2:Int)=(n:Int):=Yl.mp z;exact hn (by show n=n2;omega)
 cases m2 with
 | none=>
  show (n2:Int)∉(bg++evB p (n,m)).map (·.1)
  rw[Yz,Yj]
  rintro (z | z)
  ·exact h2 z
  ·exact nB z
 | some m2=>
  obtain⟨h3,h4,h5,h6⟩:=h2
  refine⟨Yj.mpr (.inl h3),h4,?_,h6⟩
  rw[Yj]
  rintro (z | z)
  ·exact h5 z
  ·exact nC z
theorem sP {p:Int}{bg:List (Int×Int)}{cl:List Int}{e:Ev}(h:okE p bg cl e)(nd:(bg.map (·.1)).Nodup):((bg++evB p e).map (·.1)).Nodup:=by
 obtain⟨n,m⟩:=e
 cases m with
 | none=>
  show ((bg++[((n:Int),p)]).map (·.1)).Nodup
  rw[Yz]
  refine YJ.mpr ⟨nd,by simp,fun x hx y hy=>?_⟩
  have:y=(n:Int):=Yl.mp hy
  subst this
  exact fun z=>h.2 (z ▸ hx)
 | some m=>show ((bg++([]:List (Int×Int))).map (·.1)).Nodup;rw[Yi];exact nd
theorem yO (p:Int)(e:Ev):(evB p e).length≤1:=by
 obtain⟨n,m⟩:=e
 cases m <;> simp[evB]
theorem wO (e:Ev):(evC e).length≤1:=by
 obtain⟨n,m⟩:=e
 cases m <;> simp[evC]
section
variable {l r:List Nat} {K G:List D} {t:Option Addr}
theorem pP (C:Addr)(hl:TOk l)(hr:ng r)(p:Int)(y:Option DV):∀ (evs:List Ev) (a n:Nat) (T:List D) (bg:List (Int×Int)) (cl:List Int),a≤l.length→l.drop a=evs.flatMap evT++r→(bg.map (·.1)).Nodup→(∀ e∈evs,okE p bg cl e)→(evs.map (·.1)).Nodup→evs.length<n→bg.length+evs.length<16777216→cl.length+evs.length<16777216→T.length+(evs.flatMap (evS p)).length≤16777216→
  a_ (asB (d2 eqD (sgn C) (fun _=>some (.str (sT [123]))))) (bB (bM aa "ring_sign" 0 (bV C) (aW (ag (getV 2)) dj))) n [some (.own (rd l a K T G (bgD bg) (clD cl)) t),y,some (.v (.int p))]
   = some (.nx [some (.own (rd l (a+(evs.flatMap evT).length) K (T++(evs.flatMap (evS p)).map dT4) G (bgD (bg++evs.flatMap (evB p))) (clD (cl++evs.flatMap evC))) t),y,some (.v (.int p))]):=by
 intro evs
 induction evs with
 | nil=>
  intro a n T bg cl ha hd _ _ _ hn _ _ _
  obtain⟨n,rfl⟩:∃ m,n=m+1:=⟨n-1,by simp at hn;omega⟩
  have hd:l.drop a=r:=hd
  rw[c9 (by
   rw[qr C (by decide) hl ha hd,Yk]
   cases r with
   | nil=>exact fun z=>nomatch z
   | cons c r=>intro z;have:=List.head_eq_of_cons_eq z;exact hr c rfl (by omega))]
  show _=some (RES.nx [some (.own (rd l a K (T++[]) G (bgD (bg++[])) (clD (cl++[]))) t),_,_])
  rw[Yi,Yi,Yi]
 | cons e evs ih=>
  intro a n T bg cl ha hd nd he en hn h1 h2 h3
  obtain⟨n,rfl⟩:∃ m,n=m+1:=⟨n-1,by simp at hn;omega⟩
  rw[Yg] at h1 h2 hn
  rw[List.flatMap_cons] at hd h3
  rw[Yc] at h3
  rw[Yn] at hd
  have oe:=he e Yf
  have hE:=yE C (K:=K) (T:=T) (G:=G) hl ha hd nd oe (by omega) (by omega) (by omega)
  have ne:=YD.mp (YA ▸ en)
  have b1:=yO p e
  have c1:=wO e
  have hi:=ih (a+(evT e).length) n (T++(evS p e).map dT4) (bg++evB p e) (cl++evC e) (cE hd ha) (ca hd) (sP oe nd) (fun e2 h=>uZ (he e2 (Yd _ h)) fun z=>ne.1 (z ▸ Yo.mpr ⟨e2,h,rfl⟩)) ne.2 (by omega) (by rw[Yc];omega) (by rw[Yc];omega) (by rw[Yc,Yb];omega)
  rw[dt (ρ':=[some (.own (rd l (a+(evT e).length) K (T++(evS p e).map dT4) G (bgD (bg++evB p e)) (clD (cl++evC e))) t),y,some (.v (.int p))]) (by
   rw[qr C (by decide) hl ha hd,YF]
   rfl) (by
   unfold bB
   rw[c8 (ds:=[.int p]) (o:=rd l a K T G (bgD bg) (clD cl)) (by kernel_rfl) (by rfl) hE]
   rfl),hi]
  simp only[List.flatMap_cons,Yc,Yz,Yn,ZE]
def plT (kd:List Nat)(evs:List Ev):List Nat:=kd++evs.flatMap evT
structure OkP (p:Int) (bg:List (Int×Int)) (cl:List Int) (kd:List Nat) (evs:List Ev):Prop where
 kd:okW (sT kd)
 ev:∀ e∈evs,okE p bg cl e
 nd:(evs.map (·.1)).Nodup
 nb:(bg.map (·.1)).Nodup
 le:evs.length<200
 lb:bg.length<1000
 lc:cl.length<1000
 ls:(evs.flatMap (evS p)).length<1000
theorem s_a:("a":Str)=sT [97]:=by kernel_rfl
theorem s_z:("z":Str)=sT [122]:=by kernel_rfl
theorem xq {kd:List Nat}(h:okW (sT kd)):∃ c k,kd=c::k∧97≤c∧c≤122:=by
 cases kd with
 | nil=>exact absurd h.1 (by decide)
 | cons c k=>exact⟨c,k,rfl,h.2.2 c Yf⟩
theorem wT {evs:List Ev}(hr:ng r):brk 97 122 (evs.flatMap evT++r):=by
 cases evs with
 | nil=>intro c hc;have:=hr c hc;omega
 | cons e evs=>intro c hc;have:c=123:=(Yq hc).symm;omega
variable {a:Nat} {T:List D} {bg:List (Int×Int)} {cl:List Int} {kd:List Nat} {evs:List Ev}
theorem ij (C:Addr){p:Int}(hl:TOk l)(ha:a≤l.length)(hd:l.drop a=plT kd evs++r)(hr:ng r)(hp:(K.length:Int)=p)(h:OkP p bg cl kd evs)(hK:K.length<1000)(hT:T.length<1000) :
  br C (rd l a K T G (bgD bg) (clD cl)) []=some (rd l (a+(plT kd evs).length) (K++[.str (sT kd)]) (T++(evs.flatMap (evS p)).map dT4) G (bgD (bg++evs.flatMap (evB p))) (clD (cl++evs.flatMap evC)),.int p):=bT rfl fun b=>by
 refine⟨.rt (.v (.int p)) [some (.own (rd l (a+(plT kd evs).length) (K++[.str (sT kd)]) (T++(evs.flatMap (evS p)).map dT4) G (bgD (bg++evs.flatMap (evB p))) (clD (cl++evs.flatMap evC))) (some b)),some (.v (.str (sT kd))),some (.v (.int p))],?_,rfl,rfl⟩
 have hd1:l.drop a=kd++(evs.flatMap evT++r):=by rw[hd,plT,Yn]
 have hk:=h.kd
 have k3:kd.length≤3:=hk.2.1
 show ai (aS 1 _) (ai (dIf _ b5 dNx) (ai (aZ 2 _) (ai _ (ai (a_ _ _ 200) _)))) [some (.own (rd l a K T G (bgD bg) (clD cl)) (some b)),none,none]=_
 rw[s_o]
 rw[ae (ρ':=[some (.own (rd l (a+kd.length) K T G (bgD bg) (clD cl)) (some b)),some (.v (.str (sT kd))),none]) (by
  unfold aS
  rw[c8 (by kernel_rfl) (by rfl) (by
   show bN C _ [.v (.str "a"),.v (.str "z")]=_
   rw[s_a,s_z]
   exact nN C hl ha hd1 (wT hr) hk.2.2 (by omega))]
  rfl)]
 rw[ae (ρ':=[some (.own (rd l (a+kd.length) K T G (bgD bg) (clD cl)) (some b)),some (.v (.str (sT kd))),none]) (by
  have e:=gN C _ hk
  generalize jj C=M at e ⊢
  simp[e])]
 rw[ae (ρ':=[some (.own (rd l (a+kd.length) K T G (bgD bg) (clD cl)) (some b)),some (.v (.str (sT kd))),some (.v (.int p))]) (by
  rw[bn,cc,t7,← hp];rfl)]
 rw[ae (ym (d:=.str (sT kd)) rfl (by omega))]
 have hL:=pP C (K:=K++[.str (sT kd)]) (G:=G) (t:=some b) hl hr p (some (.v (.str (sT kd)))) evs (a+kd.length) 200 T bg cl (cE hd1 ha) (ca hd1) h.nb h.ev h.nd h.le (by have:=h.lb;have:=h.le;omega) (by have:=h.lc;have:=h.le;omega) (by have:=h.ls;omega)
 rw[ae hL,show a+(plT kd evs).length=a+kd.length+(evs.flatMap evT).length by rw[plT,Yc];omega]
 rfl
theorem jF (C:Addr){p h0:Int}{ms:List Mk}(hl:TOk l)(ha:a≤l.length)(hd:l.drop a=(mtx ms++plT kd evs)++r)(hr:ng r)(hp:(K.length:Int)=p)(h:OkP p bg cl kd evs)(hK:K.length<1000)(hT:T.length<1000)(hm:∀ q∈ms,okM q)(m0:ms≠[])(m1:ms.length<200) :
  bC C (rd l a K T G (bgD bg) (clD cl)) [.v (.int h0)]=some (rd l (a+(mtx ms++plT kd evs).length) (K++[.str (sT kd)]) (T++(evs.flatMap (evS p)++ms.map (bu h0 p)).map dT4) G (bgD (bg++evs.flatMap (evB p))) (clD (cl++evs.flatMap evC)),.int p):=bT rfl fun b=>by
 refine⟨.rt (.v (.int p)) [some (.own (rd l (a+(mtx ms++plT kd evs).length) (K++[.str (sT kd)]) (T++(evs.flatMap (evS p)++ms.map (bu h0 p)).map dT4) G (bgD (bg++evs.flatMap (evB p))) (clD (cl++evs.flatMap evC))) (some b)),some (.v (.int h0)),some (.v (.lst (ms.map dMk))),some (.v (.int p))],?_,rfl,rfl⟩
 rw[Yn] at hd
 obtain⟨c,k,ek,hc⟩:=xq h.kd
 have hM:=oC C (K:=K) (T:=T) (G:=G) (B:=bgD bg) (Q:=clD cl) hl ha hd (by intro x hx;rw[plT,ek] at hx;have:x=c:=(Yq hx).symm;omega) hm m0 m1
 have hP:=ij C (G:=G) (T:=T) hl (cE hd ha) (ca hd) hr hp h hK hT
 show ai (aS 2 _) (ai (aS 3 _) _) [some (.own (rd l a K T G (bgD bg) (clD cl)) (some b)),some (.v (.int h0)),none,none]=_
 rw[ae (ρ':=[some (.own (rd l (a+(mtx ms).length) K T G (bgD bg) (clD cl)) (some b)),some (.v (.int h0)),some (.v (.lst (ms.map dMk))),none]) (by
  unfold aS
  rw[jA (by kernel_rfl) hM]
  rfl)]
 rw[ae (ρ':=[some (.own (rd l (a+(mtx ms).length+(plT kd evs).length) (K++[.str (sT kd)]) (T++(evs.flatMap (evS p)).map dT4) G (bgD (bg++evs.flatMap (evB p))) (clD (cl++evs.flatMap evC))) (some b)),some (.v (.int h0)),some (.v (.lst (ms.map dMk))),some (.v (.int p))]) (by
  unfold aS
  rw[jA (by kernel_rfl) hP]
  rfl)]
 rw[ae (ρ':=[some (.own (rd l (a+(mtx ms++plT kd evs).length) (K++[.str (sT kd)]) (T++(evs.flatMap (evS p)++ms.map (bu h0 p)).map dT4) G (bgD (bg++evs.flatMap (evB p))) (clD (cl++evs.flatMap evC))) (some b)),some (.v (.int h0)),some (.v (.lst (ms.map dMk))),some (.v (.int p))]) (by
  unfold bB
  rw[c8 (ds:=[.lst (ms.map dMk),.int h0,.int p]) (o:=rd l (a+(mtx ms).length+(plT kd evs).length) (K++[.str (sT kd)]) (T++(evs.flatMap (evS p)).map dT4) G (bgD (bg++evs.flatMap (evB p))) (clD (cl++evs.flatMap evC))) (by kernel_rfl) (by rfl) (qe C (by have:=h.ls;rw[Yc,Yb];omega))]
  rw[Yc,Yz,Yn,ZE]
  rfl)]
 rfl
end
end My
set_option maxHeartbeats 400000
namespace My
open PySem PySem.Spec PyProof.Rows L2
structure RS where
 K:List Str
 T:List T4
 G:List Int
 bg:List (Int×Int)
 cl:List Int
def rdS (l:List Nat)(a:Nat)(S:RS):OD:=rd l a (S.K.map .str) (S.T.map dT4) (S.G.map .int) (bgD S.bg) (clD S.cl)
def plS (S:RS)(kd:List Nat)(evs:List Ev)(X:List T4)(G:List Int):RS:=⟨S.K++[sT kd],S.T++(evs.flatMap (evS (S.K.length:Int))++X),G,S.bg++evs.flatMap (evB (S.K.length:Int)),S.cl++evs.flatMap evC⟩
theorem l6 {l:List Nat}{a:Nat}{S:RS}{kd:List Nat}{evs:List Ev}{X:List T4}{G:List Int}:rdS l a (plS S kd evs X G)=rd l a (S.K.map .str++[.str (sT kd)]) (S.T.map dT4++(evs.flatMap (evS (S.K.length:Int))++X).map dT4) (G.map .int) (bgD (S.bg++evs.flatMap (evB (S.K.length:Int)))) (clD (S.cl++evs.flatMap evC)):=by
 unfold rdS plS
 simp only[Yz,YA,Za]
structure OkR (S:RS) (kd:List Nat) (evs:List Ev):Prop where
 p:OkP (S.K.length:Int) S.bg S.cl kd evs
 k:S.K.length<1000
 t:S.T.length<1000
theorem Be {l:List Nat}{a:Nat}{K T G:List D}{B Q:List (Key×D)}{t:Option Addr}{σ:DF}{d:D}:i8 (some aa) 0 "hung" (some (.own (rd l a K T (G++[d]) B Q) t)::σ)=some (d,some (.own (rd l a K T G B Q) t)::σ):=by
 unfold i8
 rw[iR,Ya]
 show ((G++[d])[(G++[d]).length-1]?).bind (fun e=>(cW (some aa) 0 "hung" (fun _=>some (.lst (G++[d]).dropLast)) _).map fun ρ'=>(e,ρ'))=_
 rw[show (G++[d])[(G++[d]).length-1]?=some d by simp,Ya,List.dropLast_concat]
 refine (YN (Option.map fun ρ'=>(d,ρ')) (g8 (C:=some aa) (t:=t) (σ:=σ) (fs:=rdF l a K T (G++[d]) B Q) (n := "hung") (k:=fun _=>some (.lst G)) (o:=.lst (G++[d])) (o':=.lst G) (by kernel_rfl) rfl (by show 7<1000;decide))).trans ?_
 kernel_rfl
theorem mH {l:List Nat}{a:Nat}{S:RS}{t:Option Addr}{σ:DF}:gU (some aa) 0 "at" (cI 1) (some (.own (rdS l a S) t)::σ)=some (.nx (some (.own (rdS l (a+1) S) t)::σ)):=l0
def GO (C:Addr)(h:Int)(w:List Nat)(S:RS)(h2:Int)(S2:RS):Prop:=(ng w∧w≠[])∧∀ (l:List Nat) (a:Nat) (r:List Nat),TOk l→a≤l.length→l.drop a=w++r→ng r→cg C (rdS l a S) [.v (.int h)]=some (rdS l (a+w.length) S2,.int h2)
theorem xJ:("(":Str)=sT [40]:=by kernel_rfl
theorem yd:(")":Str)=sT [41]:=by kernel_rfl
theorem Bu:(".":Str)=sT [46]:=by kernel_rfl
section
variable {l r:List Nat} {a:Nat} {S:RS} {t:Option Addr} {h:Int} {C:Addr}
theorem iP {c:Nat}(hl:TOk l)(ha:a≤l.length)(hd:l.drop a=c::r)(K:Dw)(b:Option Addr):ai (aZ 2 (sgn C)) K [some (.own (rdS l a S) b),some (.v (.int h)),none]=K [some (.own (rdS l a S) b),some (.v (.int h)),some (.v (.str (sT [c])))]:=by
 refine ae ?_
 rw[bn]
 unfold rdS
 rw[ik C hd ha hl.1]
 rfl
theorem qS {c:Nat}{ρ:DF}{g:Dw}(h2:getV 2 ρ=some (.str (sT [c]))):dIf (asB (d1 (inG ba) (getV 2))) g dNx ρ=if (gl3 c).isSome=true then g ρ else some (.nx ρ):=by
 rw[bX,bt,cc,h2]
 show (some ((glN ba (sT [c])).isSome)).bind _=_
 rw[t4]
 rfl
theorem ke {c d:Nat}{ρ:DF}(h2:ao 2 ρ=some (.str (sT [c])))(hc:c<128)(hd:d<128):asB (d2 eqD (ao 2) (fun _=>some (.str (sT [d])))) ρ=some (decide (c=d)):=by
 rw[bt,ar,h2]
 show (match eqD (.str (sT [c])) (.str (sT [d])) with | some (.bl b)=>some b | _=>none:Option Bool)=_
 rw[Aw (by simpa using hc) (by simpa using hd)]
 simp
theorem vT {ms:List Mk}(hm:∀ q∈ms,okM q)(m0:ms≠[]):∃ c k,mtx ms=c::k∧(gl3 c).isSome=true∧(c=126∨c=62∨c=60):=by
 cases ms with
 | nil=>exact absurd rfl m0
 | cons q ms=>
  refine⟨ldN q.2,_,gJ q ms,by rw[zA (hm q Yf).2];rfl,?_⟩
  have:∀ j:Nat,ldN j=126∨ldN j=62∨ldN j=60:=fun j=>by unfold ldN;split <;> simp
  exact this _
theorem vQ {K T G:List D}{B Q:List (Key×D)}{h0:Int}{y:Option DV}{o':OD}{d:D}(h:bC C (rd l a K T G B Q) [.v (.int h0)]=some (o',d)):dC (bM aa "follow" 0 (bC C) (aW (ag (getV 1)) dj)) [some (.own (rd l a K T G B Q) t),some (.v (.int h0)),y]=some (.rt (.v d) [some (.own o' t),some (.v (.int h0)),y]):=by
 unfold dC
 rw[c8 (ds:=[.int h0]) (o:=rd l a K T G B Q) (σ':=[some (.v (.int h0)),y]) (by kernel_rfl) (by rfl) h]
 rfl
theorem xA {kd:List Nat}{evs:List Ev}{ms:List Mk}(o:OkR S kd evs)(hm:∀ q∈ms,okM q)(m0:ms≠[])(m1:ms.length<200):GO C h (mtx ms++plT kd evs) S (S.K.length:Int) (plS S kd evs (ms.map (bu h (S.K.length:Int))) S.G):=by
 obtain⟨c,k,ek,g3,hc⟩:=vT hm m0
 refine⟨⟨fun x hx=>?_,by rw[ek];exact fun z=>nomatch z⟩,fun l a r hl ha hd hr=>bT rfl fun b=>?_⟩
 ·rw[ek] at hx;have:x=c:=(Yq hx).symm;omega
 ·have hF:=jF C (h0:=h) (K:=S.K.map .str) (T:=S.T.map dT4) (G:=S.G.map .int) hl ha hd hr (by rw[Yb]) o.p (by rw[Yb];exact o.k) (by rw[Yb];exact o.t) hm m0 m1
  refine⟨.rt (.v (.int (S.K.length:Int))) [some (.own (rdS l (a+(mtx ms++plT kd evs).length) (plS S kd evs (ms.map (bu h (S.K.length:Int))) S.G)) (some b)),some (.v (.int h)),some (.v (.str (sT [c])))],?_,rfl,rfl⟩
  show ai (aZ 2 (sgn C)) (ai (dIf (asB (d1 (inG ba) (getV 2))) _ dNx) _) [some (.own (rdS l a S) (some b)),some (.v (.int h)),none]=_
  rw[iP (c:=c) hl ha (by rw[hd,ek];rfl),dQ]
  rw[qS (c:=c) rfl,Yh g3]
  rw[l6]
  exact vQ hF
theorem vH {kd:List Nat}{evs:List Ev}{ms:List Mk}(o:OkR S kd evs)(hG:S.G.length<1000)(hm:∀ q∈ms,okM q)(m0:ms≠[])(m1:ms.length<200):GO C h (40::(mtx ms++plT kd evs)) S (S.K.length:Int) (plS S kd evs (ms.map (bu h (S.K.length:Int))) (S.G++[h])):=by
 refine⟨⟨fun x hx=>?_,fun z=>nomatch z⟩,fun l a r hl ha hd hr=>bT rfl fun b=>?_⟩
 ·have:x=40:=(Yq hx).symm;omega
 ·have hd1:l.drop a=[40]++((mtx ms++plT kd evs)++r):=hd
  have hF:=jF C (a:=a+1) (h0:=h) (K:=S.K.map .str) (T:=S.T.map dT4) (G:=S.G.map .int++[.int h]) hl (cE hd1 ha) (ca hd1) hr (by rw[Yb]) o.p (by rw[Yb];exact o.k) (by rw[Yb];exact o.t) hm m0 m1
  refine⟨.rt (.v (.int (S.K.length:Int))) [some (.own (rdS l (a+(40::(mtx ms++plT kd evs)).length) (plS S kd evs (ms.map (bu h (S.K.length:Int))) (S.G++[h]))) (some b)),some (.v (.int h)),some (.v (.str (sT [40])))],?_,rfl,rfl⟩
  show ai (aZ 2 (sgn C)) (ai (dIf (asB (d1 (inG ba) (getV 2))) _ dNx) (ai _ (ai (dIf (asB (d2 eqD (ao 2) (fun _=>some (.str "(")))) _ dNx) _))) [some (.own (rdS l a S) (some b)),some (.v (.int h)),none]=_
  rw[xJ,iP (c:=40) hl ha hd,ae (by rw[qS (c:=40) rfl,Yr (by decide)])]
  rw[ae mH,dQ]
  rw[bX,ke (c:=40) rfl (by decide) (by decide)]
  show ai _ _ _=_
  rw[ae (show bK (some aa) 0 "hung" (getV 1) [some (.own (rdS l (a+1) S) (some b)),some (.v (.int h)),some (.v (.str (sT [40])))]=some (RES.nx [some (.own (rd l (a+1) (S.K.map .str) (S.T.map dT4) (S.G.map .int++[.int h]) (bgD S.bg) (clD S.cl)) (some b)),some (.v (.int h)),some (.v (.str (sT [40])))]) from xm rfl (by rw[Yb];omega))]
  rw[l6,vQ hF,show (S.G++[h]).map D.int=S.G.map D.int++[D.int h] from Yz,show a+1+(mtx ms++plT kd evs).length=a+(40::(mtx ms++plT kd evs)).length by rw[Yg];omega]
theorem wm {G:List Int}{h2:Int}(hG:S.G=G++[h2]):GO C h [41] S h2 { S with G:=G }:=by
 refine⟨⟨fun x hx=>?_,fun z=>nomatch z⟩,fun l a r hl ha hd hr=>bT rfl fun b=>?_⟩
 ·have:x=41:=(Yq hx).symm;omega
 ·refine⟨.rt (.v (.int h2)) [some (.own (rdS l (a+1) { S with G:=G }) (some b)),some (.v (.int h)),some (.v (.str (sT [41])))],?_,rfl,rfl⟩
  show ai (aZ 2 (sgn C)) (ai (dIf (asB (d1 (inG ba) (getV 2))) _ dNx) (ai _ (ai (dIf (asB (d2 eqD (ao 2) (fun _=>some (.str "(")))) _ dNx) (ai (dIf (dB (asB (d2 eqD (ao 2) (fun _=>some (.str ")")))) _) _ dNx) _)))) [some (.own (rdS l a S) (some b)),some (.v (.int h)),none]=_
  rw[xJ,yd,iP (c:=41) hl ha hd,ae (by rw[qS (c:=41) rfl,Yr (by decide)])]
  rw[ae mH]
  rw[ae (by rw[bX,ke (c:=41) rfl (by decide) (by decide)];rfl),dQ]
  rw[bX,gI,ke (c:=41) rfl (by decide) (by decide),show decide (41=41)=true from rfl,Ya,Yh rfl]
  have e:rdS l (a+1) S=rd l (a+1) (S.K.map .str) (S.T.map dT4) (G.map .int++[.int h2]) (bgD S.bg) (clD S.cl):=by unfold rdS;rw[hG,Yz];rfl
  rw[e]
  unfold j0
  rw[iR]
  show (some (!(G.map D.int++[D.int h2]).isEmpty)).bind _=_
  rw[show (G.map D.int++[D.int h2]).isEmpty=false by simp]
  show dC _ _=_
  unfold dC
  rw[Be]
  rfl
theorem tE {kd:List Nat}{evs:List Ev}(o:OkR S kd evs)(hG:S.G=[]):GO C h (46::plT kd evs) S (S.K.length:Int) (plS S kd evs [] S.G):=by
 refine⟨⟨fun x hx=>?_,fun z=>nomatch z⟩,fun l a r hl ha hd hr=>bT rfl fun b=>?_⟩
 ·have:x=46:=(Yq hx).symm;omega
 ·have hd1:l.drop a=[46]++(plT kd evs++r):=hd
  have hF:=ij C (a:=a+1) (K:=S.K.map .str) (T:=S.T.map dT4) (G:=S.G.map .int) hl (cE hd1 ha) (ca hd1) hr (by rw[Yb]) o.p (by rw[Yb];exact o.k) (by rw[Yb];exact o.t)
  refine⟨.rt (.v (.int (S.K.length:Int))) [some (.own (rdS l (a+(46::plT kd evs).length) (plS S kd evs [] S.G)) (some b)),some (.v (.int h)),some (.v (.str (sT [46])))],?_,rfl,rfl⟩
  show ai (aZ 2 (sgn C)) (ai (dIf (asB (d1 (inG ba) (getV 2))) _ dNx) (ai _ (ai (dIf (asB (d2 eqD (ao 2) (fun _=>some (.str "(")))) _ dNx) (ai (dIf (dB (asB (d2 eqD (ao 2) (fun _=>some (.str ")")))) _) _ dNx) (ai (dIf (dB (asB (d2 eqD (ao 2) (fun _=>some (.str ".")))) _) _ dNx) _))))) [some (.own (rdS l a S) (some b)),some (.v (.int h)),none]=_
  rw[xJ,yd,Bu,iP (c:=46) hl ha hd,ae (by rw[qS (c:=46) rfl,Yr (by decide)])]
  rw[ae mH]
  rw[ae (by rw[bX,ke (c:=46) rfl (by decide) (by decide)];rfl)]
  rw[ae (by rw[bX,gI,ke (c:=46) rfl (by decide) (by decide)];rfl),dQ]
  rw[bX,gI,ke (c:=46) rfl (by decide) (by decide),show decide (46=46)=true from rfl,Ya,Yh rfl]
  rw[yK]
  unfold j0 rdS
  rw[iR,hG]
  show dC _ _=_
  unfold dC
  rw[hG] at hF
  rw[jA (by kernel_rfl) hF]
  rw[show a+1+(plT kd evs).length=a+(46::plT kd evs).length by rw[Yg];omega]
  have:=l6 (l:=l) (a:=a+(46::plT kd evs).length) (S:=S) (kd:=kd) (evs:=evs) (X:=[]) (G:=[])
  unfold rdS at this
  rw[this,Yi]
  rfl
end
abbrev kG:DF→Option Bool:=asB (d2 ltd (cL (some aa) 0 "at") (d1 aM (cL (some aa) 0 "text")))
noncomputable abbrev pW (C:Addr):DF→Option RES:=aS 1 (bM aa "go_on" 0 (cg C) (aW (ag (getV 1)) dj))
noncomputable abbrev rpl (C:Addr):DF→Option RES:=aS 1 (cC aa "place" 0 (br C) g0)
def S0:RS:=⟨[],[],[],[],[]⟩
def Reads (C:Addr)(w:List Nat)(h:Int)(S:RS)(k:Nat):Prop:=∀ (l r:List Nat) (b:Option Addr),TOk l→l=w++r→ng r→∃ ρ1,rpl C [some (.own (rd l 0 [] [] [] [] []) b),none]=some (.nx ρ1)∧∀ n,a_ kG (pW C) (n+k) ρ1=a_ kG (pW C) n [some (.own (rdS l w.length S) b),some (.v (.int h))]
theorem xk {C:Addr}{kd:List Nat}{evs:List Ev}(o:OkP 0 [] [] kd evs):Reads C (plT kd evs) 0 (plS S0 kd evs [] []) 0:=fun l r b hl e hr=>by
 have h:=ij C (a:=0) (K:=[]) (T:=[]) (G:=[]) (p:=0) hl (YO _) (by rw[List.drop_zero,e]) hr rfl o (by decide) (by decide)
 refine⟨[some (.own (rdS l (plT kd evs).length (plS S0 kd evs [] [])) b),some (.v (.int 0))],?_,fun n=>rfl⟩
 have e2:=l6 (l:=l) (a:=(plT kd evs).length) (S:=S0) (kd:=kd) (evs:=evs) (X:=[]) (G:=[])
 rw[e2]
 show Option.map _ (cC aa "place" 0 (br C) g0 (some (.own (rd l 0 [] [] [] (bgD []) (clD [])) b)::[none]))=_
 rw[jA (by kernel_rfl) h,Nat.zero_add,Yi]
 rfl
theorem ot {l:List Nat}{a:Nat}{S:RS}{b:Option Addr}{σ:DF}(hl:TOk l):kG (some (.own (rdS l a S) b)::σ)=some (decide ((a:Int)<(l.length:Int))):=by
 unfold kG rdS
 rw[bt,ar,cc,vU,qw]
 show (match (if (sT l).length≤16777216 then some (D.int (sT l).length) else none).bind fun y=>ltd (.int (a:Int)) y with | some (.bl b)=>some b | _=>none:Option Bool)=_
 rw[cP,Yh hl.1]
 rfl
theorem Reads.go {C:Addr}{w w2:List Nat}{h h2:Int}{S S2:RS}{k:Nat}(hR:Reads C w h S k)(g:GO C h w2 S h2 S2):Reads C (w++w2) h2 S2 (k+1):=fun l r b hl e hr=>by
 obtain⟨⟨gb,gn⟩,gg⟩:=g
 obtain⟨c,w3,ew⟩:∃ c w3,w2=c::w3:=by
  cases w2 with
  | nil=>exact absurd rfl gn
  | cons c w3=>exact⟨c,w3,rfl⟩
 have bk:ng (w2++r):=by subst ew;exact gb
 rw[Yn] at e
 obtain⟨ρ1,e1,e2⟩:=hR l (w2++r) b hl e bk
 have hd:l.drop w.length=w2++r:=by rw[e,List.drop_left]
 have hw:w.length≤l.length:=by rw[e,Yc];omega
 have hG:=gg l w.length r hl hw hd hr
 refine⟨ρ1,e1,fun n=>?_⟩
 rw[show n+(k+1)=(n+1)+k by omega,e2,dt (ρ':=[some (.own (rdS l (w++w2).length S2) b),some (.v (.int h2))])]
 ·rw[ot hl,YF]
  rw[e,Yc,ew,Yc,Yg];omega
 ·show Option.map _ (bM aa "go_on" 0 (cg C) (aW (ag (getV 1)) dj) _)=_
  unfold rdS at hG ⊢
  rw[c8 (ds:=[.int h]) (σ':=[some (.v (.int h))]) (by kernel_rfl) (by rfl) hG,Yc]
  rfl
theorem nv {C:Addr}{w:List Nat}{h:Int}{S:RS}{k:Nat}(hl:TOk w)(hR:Reads C w h S k)(hG:S.G=[])(hc:S.bg.length≤S.cl.length)(hk:k<1000):b7 C (rd w 0 [] [] [] [] []) []=some (rdS w w.length S,.non):=bT rfl fun b=>by
 obtain⟨ρ1,e1,e2⟩:=hR w [] (some b) hl (by rw[Yi]) (fun c hc=>nomatch hc)
 refine⟨.nx [some (.own (rdS w w.length S) (some b)),some (.v (.int h))],?_,rfl,rfl⟩
 show ai (rpl C) (ai (a_ kG (pW C) 1000) (ai (dIf (j0 (aL (some aa) 0 "hung")) b5 dNx) (dIf (asB (d2 ltd (d1 wa (aL (some aa) 0 "closed")) (d1 wa (aL (some aa) 0 "begun")))) b5 dNx))) [some (.own (rd w 0 [] [] [] [] []) (some b)),none]=_
 rw[ae e1]
 have e3:=e2 (1000-k)
 rw[show 1000-k+k=1000 by omega] at e3
 obtain⟨m,hm⟩:∃ m,1000-k=m+1:=⟨1000-k-1,by omega⟩
 have e4:=c9 (k:=m) (body:=pW C) (show kG [some (.own (rdS w w.length S) (some b)),some (.v (.int h))]=some false by rw[ot hl,Yk];omega)
 rw[hm,e4] at e3
 rw[ae e3]
 rw[ae (ρ':=[some (.own (rdS w w.length S) (some b)),some (.v (.int h))]) (by
  rw[bX]
  unfold j0 rdS
  rw[iR,hG]
  rfl)]
 rw[bX,bt,ar,cc,cc]
 unfold rdS
 rw[kJ,fC]
 show (some (decide (((clD S.cl).length:Int)<((bgD S.bg).length:Int)))).bind _=_
 rw[Yk (by unfold clD bgD;rw[Yb,Yb];omega)]
 rfl
theorem BC (C:Addr)(w:List Nat):b_ C (.obj (some aa) []) [.v (.str (sT w))]=some (rd w 0 [] [] [] [] [],.non):=bT rfl fun b=>⟨.nx [some (.own (rd w 0 [] [] [] [] []) (some b)),some (.v (.str (sT w)))],by kernel_rfl,rfl,rfl⟩
theorem Bp {l:List Nat}{a:Nat}{K T G:List D}{B Q:List (Key×D)}{t:Option Addr}{x:Option DV}{mn:Str}{m:Dz}{o':OD}{d:D}(hn:(rdF l a K T G B Q).lookup mn=none)(h:m (rd l a K T G B Q) []=some (o',d)) :
  cC aa mn 1 m g0 [x,some (.own (rd l a K T G B Q) t)]=some (d,[x,some (.own o' t)]):=by
 show (if aa=aa∧List.lookup mn _=none then (g0 _).bind fun xs=>if li xs=true then (m (rd l a K T G B Q) xs).map _ else none else none)=_
 rw[Yh ⟨rfl,hn⟩]
 show (if li []=true then (m (rd l a K T G B Q) []).map _ else none)=_
 rw[h]
 rfl
theorem E3 {l:List Nat}{a:Nat}{K T G:List D}{B Q:List (Key×D)}:di aa "kinds" (rd l a K T G B Q).d=some (.lst K):=by kernel_rfl
theorem Fb {l:List Nat}{a:Nat}{K T G:List D}{B Q:List (Key×D)}:di aa "ties" (rd l a K T G B Q).d=some (.lst T):=by kernel_rfl
theorem nD {C:Addr}{w:List Nat}{h:Int}{S:RS}{k:Nat}{n:Int}(hl:TOk w)(hR:Reads C w h S k)(hG:S.G=[])(hc:S.bg.length≤S.cl.length)(hk:k<1000)(hn:1≤n∧n≤7)(hK:okK n S.K)(hT:okS n S.T):∃ J,oq C [.v (.str (sT w))]=some (.own (.ins C (wFs S.K (.lst (srt S.T)) J)) none):=by
 obtain⟨J,hJ⟩:=xL C S.K S.T n hn hK hT
 refine⟨J,?_⟩
 have hA:=nv hl hR hG hc hk
 show cY (ai (dg 1 (tZ aa (b_ C) (aV (getV 0) nA))) (ai (bB (cC aa "read_all" 1 (b7 C) g0)) (mX 1 (iE (ko C (jT C) (aV (d1 (di aa "kinds") (getV 1)) (aV (d1 (di aa "ties") (getV 1)) nA)))))) [some (.v (.str (sT w))),none])=_
 rw[ae (ρ':=[some (.v (.str (sT w))),some (.own (rd w 0 [] [] [] [] []) none)]) (by
  rw[nG]
  show Option.map _ (match b_ C (.obj (some aa) []) [.v (.str (sT w))] with | some (o',.non)=>some o' | _=>none:Option OD)=_
  rw[BC]
  rfl)]
 rw[ae (ρ':=[some (.v (.str (sT w))),some (.own (rdS w w.length S) none)]) (by
  unfold bB
  rw[Bp (by kernel_rfl) hA]
  rfl)]
 show cY (iE _ [some (.v (.str (sT w))),some (.v (rdS w w.length S).d)])=_
 rw[m7,hJ]
 ·rfl
 ·rw[tP,tP,cc,cc]
  show (di aa "kinds" (rdS w w.length S).d).bind (fun d=>(((di aa "ties" (rdS w w.length S).d).bind fun d=>some [DV.v d]).map fun xs=>DV.v d::xs))=_
  unfold rdS
  rw[E3,Fb]
  rfl
def At (A:OD)(b:Nat):Prop:=∃ i x:Int,A=.lst [.int i,.int x]∧0≤i∧i≤(b:Int)
theorem At.mono {A:OD}{b c:Nat}(h:At A b)(hb:b≤c):At A c:=by
 obtain⟨i,x,e,h0,h1⟩:=h
 exact⟨i,x,e,h0,by omega⟩
abbrev SC (ns:List Int):DV:=.v (.lst (ns.map .int))
theorem v9 {f:Dd}{ρ:DF}{n:Int}(h:f ρ=some (.int n))(hn:-1000≤n∧n≤1000):jX f ρ=some ((dX n).map .int):=by
 have hb:-(2 ^ 62)≤n∧n<2 ^ 62:=by omega
 rw[qt,h]
 simp only
 rw[Yh hb,kY]
theorem va {as:Nat→Addr}{x d:D}{A A':OD}{t:Option Addr}{σ:DF}:nn as [.v x,.own A t] (.rt (.v d) (some (.v x)::some (.own A' (some (as 1)))::σ))=some ([.v x,.own A' none],d):=by
 simp[nn,fw]
theorem dn (C:Addr)(ns:List Int)(hl:ns.length≤100){A:OD}{b:Nat}(h:At A b)(hb:b≤1000000000):∃ (v:Int) (A':OD),At A' (b+1)∧0≤v∧v<1000000000∧au C [SC ns,.own A none]=some ([SC ns,.own A' none],.int v):=by
 obtain⟨i,x,rfl,h0,h1⟩:=h
 have hc:∃ c:Int,∀ as:Option Addr,ai (aZ 2 (cI 0)) (ai (dIf (asB (d2 gtI (d1 aM (ao 0)) (cI 0))) (aZ 2 (d2 ixD (al 0) (d2 aR (d2 ixD (al 1) (cI 0)) (d1 aM (ao 0))))) dNx) (fun ρ=>some (.nx ρ))) [some (SC ns),some (.own (.lst [.int (i+1),.int x]) as),none]=some (.nx [some (SC ns),some (.own (.lst [.int (i+1),.int x]) as),some (.v (.int c))]):=by
  by_cases hz:(0:Int)<(ns.length:Int)
  ·have m0:=ZW (i+1) (show (ns.length:Int)≠0 by omega)
   have m1:=ZF (i+1) hz
   obtain⟨c,hc1,hc2⟩:=qq (l:=ns) D.int m0 m1
   refine⟨c,fun as=>?_⟩
   have hm:=bm (i+1) (ns.length:Int) hz
   have e0:atI [D.int (i+1),D.int x] 0=some (.int (i+1)):=rfl
   have hz':0<ns.length:=by omega
   simp[hz',hm,ix1,hc2,e0]
  ·refine⟨0,fun as=>?_⟩
   have hz':¬ 0<ns.length:=by omega
   simp[hz']
 obtain⟨c,hc⟩:=hc
 have hm1:=eA (i+1) (i+1) (.inl (by omega))
 have hm2:∀ y:Int,dm (.int y) (.int 48271)=some (.int (y*48271)):=fun y=>eA y 48271 (.inr (by decide))
 have hd1:∀ y:Int,aR (.int y) (.int 2147483647)=some (.int (y%2147483647)):=fun y=>bm y _ (by decide)
 have hd2:∀ y:Int,aR (.int y) (.int 2147483629)=some (.int (y%2147483629)):=fun y=>bm y _ (by decide)
 have hf:∀ y:Int,bH (.int y) (.int 3)=some (.int (y/3)):=fun y=>bZ y _ (by decide)
 let w:=(x+c%2147483647+(i+1)*(i+1))*48271%2147483629
 have w0:0≤w:=ZW _ (by decide)
 have w1:w<2147483629:=ZF _ (by decide)
 refine⟨w/3,.lst [.int (i+1),.int w],⟨i+1,w,rfl,by omega,by omega⟩,by omega,by omega,fN rfl fun as=>?_⟩
 have e:qW C [some (SC ns),some (.own (.lst [.int i,.int x]) (some (as 1))),none]=some (.rt (.v (.int (w/3))) [some (SC ns),some (.own (.lst [.int (i+1),.int w]) (some (as 1))),some (.v (.int c))]):=by
  unfold qW
  rw[ae (ρ':=[some (SC ns),some (.own (.lst [.int (i+1),.int x]) (some (as 1))),none]) rfl]
  have hs:∀ K,ai (aZ 2 (cI 0)) (ai (dIf (asB (d2 gtI (d1 aM (ao 0)) (cI 0))) (aZ 2 (d2 ixD (al 0) (d2 aR (d2 ixD (al 1) (cI 0)) (d1 aM (ao 0))))) dNx) K) [some (SC ns),some (.own (.lst [.int (i+1),.int x]) (some (as 1))),none]=K [some (SC ns),some (.own (.lst [.int (i+1),.int x]) (some (as 1))),some (.v (.int c))]:=fun K=>by
   have h:=hc (some (as 1))
   rw[ae (ρ':=[some (SC ns),some (.own (.lst [.int (i+1),.int x]) (some (as 1))),some (.v (.int 0))]) rfl] at h ⊢
   generalize hX:dIf (asB (d2 gtI (d1 aM (ao 0)) (cI 0))) (aZ 2 (d2 ixD (al 0) (d2 aR (d2 ixD (al 1) (cI 0)) (d1 aM (ao 0))))) dNx=X at h ⊢
   rw[lD] at h ⊢
   cases hq:X [some (SC ns),some (.own (.lst [.int (i+1),.int x]) (some (as 1))),some (.v (.int 0))] with
   | none=>rw[hq] at h;cases h
   | some r=>
    rw[hq] at h
    cases r with
    | nx ρ=>cases h;rfl
    | rt x ρ=>cases h
    | bk ρ=>cases h
    | ct ρ=>cases h
  rw[hs]
  have e0:atI [D.int (i+1),D.int x] 0=some (.int (i+1)):=rfl
  have e1:atI [D.int (i+1),D.int x] 1=some (.int x):=rfl
  rw[ae (ρ':=[some (SC ns),some (.own (.lst [.int (i+1),.int w]) (some (as 1))),some (.v (.int c))]) (by
   have ev:d2 aR (d2 dm (d2 az (d2 az (d2 ixD (al 1) (cI 1)) (d2 aR (al 2) (cI 2147483647))) (d2 dm (d2 ixD (al 1) (cI 0)) (d2 ixD (al 1) (cI 0)))) (cI 48271)) (cI 2147483629) [some (SC ns),some (.own (.lst [.int (i+1),.int x]) (some (as 1))),some (.v (.int c))]=some (.int w):=by
    simp[ix1,e0,e1,hm1,hm2,hd1,hd2,w]
   rw[sL]
   simp only[Xj,ZP]
   rw[ev]
   rfl)]
  have e2:atI [D.int (i+1),D.int w] 1=some (.int w):=rfl
  simp[ix1,e2,hf]
 show (qW C [some (SC ns),some (.own (.lst [.int i,.int x]) (some (as 1))),none]).bind _=_
 rw[e]
 exact va
theorem gD {C:Addr}{S:DV}{A A':OD}{d:D}{t:Option Addr}{σ:DF}(hS:∃ x,S=.v x)(h:au C [S,.own A none]=some ([S,.own A' none],d)):aA (au C) (aJ (ag (getV 0)) (aC 1 bv)) (some S::some (.own A t)::σ)=some (d,some S::some (.own A' t)::σ):=by
 obtain⟨x,rfl⟩:=hS
 unfold aA
 show (if ([1]:List Nat).Nodup then (some [DV.v x,.own A none]).bind (fun xs=>(au C xs).bind _) else none)=_
 rw[Yh (by decide),Ya,h]
 rfl
theorem nS (C:Addr)(ns:List Int)(hl:ns.length≤100){A:OD}{b:Nat}(h:At A b)(hb:b≤1000000000):∃ (k:Nat) (A':OD),At A' (b+1)∧k<10 ^ 30∧b6 C [SC ns,.own A none]=some ([SC ns,.own A' none],.int (k:Int)):=by
  obtain⟨v,A',hA,v0,v1,hv⟩:=dn C ns hl h hb
  have key:∃ k:Int,0≤k∧k<1000000000000000000000000000000∧∀ as:Option Addr,q_ C [some (SC ns),some (.own A as),none]=some (.rt (.v (.int k)) [some (SC ns),some (.own A' as),some (.v (.int v))]):=by
    unfold q_
    have m9:=bm v 9 (by decide)
    have m3:=bm v 3 (by decide)
    have s1:∀ as:Option Addr,aS 2 (aA (au C) (aJ (ag (getV 0)) (aC 1 bv))) [some (SC ns),some (.own A as),none]=some (.nx [some (SC ns),some (.own A' as),some (.v (.int v))]):=fun as=>by
      unfold aS
      rw[gD ⟨_,rfl⟩ hv]
      rfl
    by_cases h0:v%9=0
    · refine⟨0,by decide,by decide,fun as=>?_⟩
      rw[ae (s1 as)]
      simp[m9,h0]
    · by_cases h1:v%9=1
      · refine⟨999999999999999999999999999999,by decide,by decide,fun as=>?_⟩
        rw[ae (s1 as)]
        simp[m9,h1]
      · have ml:∀ y z:Int,-(2 ^ 64)<z∧z<2 ^ 64→dm (.int y) (.int z)=some (.int (y*z)):=fun y z hz=>eA y z (.inr hz)
        have q:∀ m:Int,0<m→aR (.int (v*v*v*v*7919)) (.int m)=some (.int (v*v*v*v*7919%m)):=fun m hm=>bm _ m hm
        have p6:jY (.int 10) (.int 6)=some (.int 1000000):=rfl
        have hv2:-(2 ^ 64)<v∧v<2 ^ 64:=by omega
        have a0:atI [D.int 10,D.int 1000000,D.int 1000000000000000000000000000000] 0=some (.int 10):=rfl
        have a1:atI [D.int 10,D.int 1000000,D.int 1000000000000000000000000000000] 1=some (.int 1000000):=rfl
        have a2:atI [D.int 10,D.int 1000000,D.int 1000000000000000000000000000000] 2=some (.int 1000000000000000000000000000000):=rfl
        have go:∀ m:Int,0<m→m≤1000000000000000000000000000000→atI [D.int 10,D.int 1000000,D.int 1000000000000000000000000000000] (v%3)=some (.int m)→∃ k:Int,0≤k∧k<1000000000000000000000000000000∧∀ as:Option Addr,(ai (aS 2 (aA (au C) (aJ (ag (getV 0)) (aC 1 bv))))
    (ai (dIf (asB (d2 eqD (d2 aR (al 2) (cI 9)) (cI 0))) (bL (cI 0)) dNx)
    (ai (dIf (asB (d2 eqD (d2 aR (al 2) (cI 9)) (cI 1))) (bL (d2 gB (d2 jY (cI 10) (cI 30)) (cI 1))) dNx)
    (bL (d2 aR (d2 dm (d2 dm (d2 dm (d2 dm (al 2) (al 2)) (al 2)) (al 2)) (cI 7919)) (d2 ixD (asO (asL (ak (cI 10) (ak (d2 jY (cI 10) (cI 6)) (ak (d2 jY (cI 10) (cI 30)) bx))))) (d2 aR (al 2) (cI 3)))))))) [some (SC ns),some (.own A as),none]=some (.rt (.v (.int k)) [some (SC ns),some (.own A' as),some (.v (.int v))]):=fun m hm hm2 hat=>by
          refine⟨v*v*v*v*7919%m,ZW _ (by omega),Int.lt_of_lt_of_le (ZF _ hm) hm2,fun as=>?_⟩
          rw[ae (s1 as)]
          simp[m9,m3,h0,h1,ml _ v hv2,ml _ 7919 (by decide),p6,ix1,hat,q m hm]
        rcases yL v with h3 | h3 | h3
        · exact go 10 (by decide) (by decide) (by rw[h3];exact a0)
        · exact go 1000000 (by decide) (by decide) (by rw[h3];exact a1)
        · exact go 1000000000000000000000000000000 (by decide) (by decide) (by rw[h3];exact a2)
  obtain⟨k,k0,k1,hk⟩:=key
  have hk10:k.toNat<10 ^ 30:=by omega
  refine⟨k.toNat,A',hA,hk10,fN rfl fun as=>?_⟩
  show (q_ C [some (SC ns),some (.own A (some (as 1))),none]).bind _=_
  rw[hk (some (as 1))]
  rw[show ((k.toNat:Nat):Int)=k by omega]
  exact va
def stF (K T O G U:List D)(h p s:D):List (Str×FO):=[("kinds",.lst K),("ties",.lst T),("open",.lst O),("boughs",.lst G),("used",.lst U),("here",.d h),("pool",.d p),("some",.d s)]
def stO (K T O G U:List D)(h p s:D):OD:=.obj none (stF K T O G U h p s)
section
variable {K T O G U:List D} {h p s:D} {t:Option Addr} {σ:DF} {x0 x1:Option DV}
theorem mZ:aL none 2 "kinds" (x0::x1::some (.own (stO K T O G U h p s) t)::σ)=some (.lst K):=by kernel_rfl
theorem mP:aL none 2 "ties" (x0::x1::some (.own (stO K T O G U h p s) t)::σ)=some (.lst T):=by kernel_rfl
theorem iZ:aL none 2 "open" (x0::x1::some (.own (stO K T O G U h p s) t)::σ)=some (.lst O):=by kernel_rfl
theorem kg:aL none 2 "boughs" (x0::x1::some (.own (stO K T O G U h p s) t)::σ)=some (.lst G):=by kernel_rfl
theorem yt:aL none 2 "used" (x0::x1::some (.own (stO K T O G U h p s) t)::σ)=some (.lst U):=by kernel_rfl
theorem qH:cL none 2 "here" (x0::x1::some (.own (stO K T O G U h p s) t)::σ)=some h:=by kernel_rfl
theorem zd:cL none 2 "pool" (x0::x1::some (.own (stO K T O G U h p s) t)::σ)=some p:=by kernel_rfl
theorem xM:cL none 2 "some" (x0::x1::some (.own (stO K T O G U h p s) t)::σ)=some s:=by kernel_rfl
theorem eS {C:Option Addr}{fs:List (Str×FO)}{n:Str}{k:FO→Option FO}{o o':FO}(h1:fs.lookup n=some o)(h2:k o=some o')(h3:fs.length<1000):cW C 2 n k (x0::x1::some (.own (.obj C fs) t)::σ)=some (x0::x1::some (.own (.obj C (dH n o' fs)) t)::σ):=by
 unfold cW
 show (if C=C∧fs.length<1000 then _ else _)=_
 rw[Yh ⟨rfl,h3⟩,h1,Ya,h2]
 rfl
theorem xX {f:Dd}{d:D}(hf:f (x0::x1::some (.own (stO K T O G U h p s) t)::σ)=some d)(hl:K.length<16777216):bK none 2 "kinds" f (x0::x1::some (.own (stO K T O G U h p s) t)::σ)=some (.nx (x0::x1::some (.own (stO (K++[d]) T O G U h p s) t)::σ)):=by
 unfold bK
 rw[hf,Ya]
 refine (YN (Option.map RES.nx) (eS (C:=none) (x0:=x0) (x1:=x1) (t:=t) (σ:=σ) (fs:=stF K T O G U h p s) (n := "kinds") (k:=j5 d) (o:=.lst K) (o':=.lst (K++[d])) (by kernel_rfl) (Yh hl) (by show 8<1000;decide))).trans ?_
 kernel_rfl
theorem wG {f:Dd}{d:D}(hf:f (x0::x1::some (.own (stO K T O G U h p s) t)::σ)=some d)(hl:T.length<16777216):bK none 2 "ties" f (x0::x1::some (.own (stO K T O G U h p s) t)::σ)=some (.nx (x0::x1::some (.own (stO K (T++[d]) O G U h p s) t)::σ)):=by
 unfold bK
 rw[hf,Ya]
 refine (YN (Option.map RES.nx) (eS (C:=none) (x0:=x0) (x1:=x1) (t:=t) (σ:=σ) (fs:=stF K T O G U h p s) (n := "ties") (k:=j5 d) (o:=.lst T) (o':=.lst (T++[d])) (by kernel_rfl) (Yh hl) (by show 8<1000;decide))).trans ?_
 kernel_rfl
theorem w6 {f:Dd}{d:D}(hf:f (x0::x1::some (.own (stO K T O G U h p s) t)::σ)=some d)(hl:O.length<16777216):bK none 2 "open" f (x0::x1::some (.own (stO K T O G U h p s) t)::σ)=some (.nx (x0::x1::some (.own (stO K T (O++[d]) G U h p s) t)::σ)):=by
 unfold bK
 rw[hf,Ya]
 refine (YN (Option.map RES.nx) (eS (C:=none) (x0:=x0) (x1:=x1) (t:=t) (σ:=σ) (fs:=stF K T O G U h p s) (n := "open") (k:=j5 d) (o:=.lst O) (o':=.lst (O++[d])) (by kernel_rfl) (Yh hl) (by show 8<1000;decide))).trans ?_
 kernel_rfl
theorem yq {f:Dd}{d:D}(hf:f (x0::x1::some (.own (stO K T O G U h p s) t)::σ)=some d)(hl:G.length<16777216):bK none 2 "boughs" f (x0::x1::some (.own (stO K T O G U h p s) t)::σ)=some (.nx (x0::x1::some (.own (stO K T O (G++[d]) U h p s) t)::σ)):=by
 unfold bK
 rw[hf,Ya]
 refine (YN (Option.map RES.nx) (eS (C:=none) (x0:=x0) (x1:=x1) (t:=t) (σ:=σ) (fs:=stF K T O G U h p s) (n := "boughs") (k:=j5 d) (o:=.lst G) (o':=.lst (G++[d])) (by kernel_rfl) (Yh hl) (by show 8<1000;decide))).trans ?_
 kernel_rfl
theorem y_ {f:Dd}{d:D}(hf:f (x0::x1::some (.own (stO K T O G U h p s) t)::σ)=some d)(hl:U.length<16777216):bK none 2 "used" f (x0::x1::some (.own (stO K T O G U h p s) t)::σ)=some (.nx (x0::x1::some (.own (stO K T O G (U++[d]) h p s) t)::σ)):=by
 unfold bK
 rw[hf,Ya]
 refine (YN (Option.map RES.nx) (eS (C:=none) (x0:=x0) (x1:=x1) (t:=t) (σ:=σ) (fs:=stF K T O G U h p s) (n := "used") (k:=j5 d) (o:=.lst U) (o':=.lst (U++[d])) (by kernel_rfl) (Yh hl) (by show 8<1000;decide))).trans ?_
 kernel_rfl
theorem BK {f:Dd}{d:D}{O':List D}(hf:f (x0::x1::some (.own (stO K T O G U h p s) t)::σ)=some d)(hr:uG d (.lst O)=some (.lst O')):kC 2 "open" f (x0::x1::some (.own (stO K T O G U h p s) t)::σ)=some (.nx (x0::x1::some (.own (stO K T O' G U h p s) t)::σ)):=by
 unfold kC
 rw[hf,Ya]
 refine (YN (Option.map RES.nx) (eS (C:=none) (x0:=x0) (x1:=x1) (t:=t) (σ:=σ) (fs:=stF K T O G U h p s) (n := "open") (k:=uG d) (o:=.lst O) (o':=.lst O') (by kernel_rfl) hr (by show 8<1000;decide))).trans ?_
 kernel_rfl
end
theorem fS {f:Dy}{fa fb:DX}{ρ ρ1 ρ2:DF}{a b c:D}(ha:fa ρ=some (a,ρ1))(hb:fb ρ1=some (b,ρ2))(hf:f a b=some c):x2 f fa fb ρ=some (c,ρ2):=by
 unfold x2
 rw[ha,Ya,hb,Ya,hf]
 rfl
theorem bF {f:Dd}{ρ:DF}{d:D}(h:f ρ=some d):ag f ρ=some (d,ρ):=by
 unfold ag
 rw[h]
 rfl
theorem cf {i:Nat}{f:DX}{ρ ρ':DF}{d:D}(h:f ρ=some (d,ρ')):aS i f ρ=some (.nx (ρ'.set i (some (.v d)))):=by
 unfold aS
 rw[h]
 rfl
theorem ji {C:Addr}{ns:List Int}{A A':OD}{v m:Int}{t:Option Addr}{σ:DF}(hm:0<m)(h:au C [SC ns,.own A none]=some ([SC ns,.own A' none],.int v)):x2 aR (aA (au C) (aJ (ag (getV 0)) (aC 1 bv))) (ag (fun _=>some (.int m))) (some (SC ns)::some (.own A t)::σ)=some (.int (v%m),some (SC ns)::some (.own A' t)::σ):=
 fS (gD ⟨_,rfl⟩ h) (bF rfl) (bm v m hm)
theorem BP {n:Nat}(h:n<10 ^ 30):((n:Int)).natAbs.log2<1920:=by
 rw[Int.natAbs_natCast]
 by_cases h0:n=0
 ·subst h0;decide
 ·have h1:n<2 ^ 100:=Yy h (by decide)
  exact Yy ((Nat.log2_lt h0).mpr h1) (by decide)
theorem k8 {n:Nat}(h:n<10 ^ 30):fB (.int (n:Int))=some (.str (sT (dig n))):=by
 show (if _ then _ else _)=_
 rw[Yh (BP h),yr]
theorem cQ {a b:List Nat}(h:a.length+b.length≤16777216):az (.str (sT a)) (.str (sT b))=some (.str (sT (a++b))):=by
 show (if (sT a).length+(sT b).length≤16777216 then some (D.str (sT a++sT b)) else none)=_
 rw[cP,cP,Yh h,oU]
theorem C8 (j:Int)(h:j=0∨j=1∨j=2):ixD (.str "~><") (.int j)=some (.str (sT [ldN j.toNat])):=by
 rcases h with rfl | rfl | rfl <;> kernel_rfl
theorem qI {q:Mk}(h:okM q):(mkT q).length≤31:=by
 have:=dR q.1 30 (by decide) h.1
 unfold mkT
 rw[Yg]
 omega
theorem iW:∀ {ms:List Mk},(∀ q∈ms,okM q)→(mtx ms).length≤31*ms.length
 | [],_=>Yx _
 | q::ms,h=>by
  have h1:=qI (h q Yf)
  have h2:=iW (ms:=ms) fun x hx=>h x (Yd _ hx)
  show (mkT q++mtx ms).length≤_
  rw[Yc,Yg]
  omega
def okSm (s:D):Prop:=∃ k0 k1:Nat,k0<10 ^ 30∧k1<10 ^ 30∧s=.lst [.int (k0:Int),.int (k1:Int),.int 5]
theorem okSm.at {s:D}(h:okSm s)(v:Int):∃ k:Nat,k<10 ^ 30∧ixD s (.int (v%3))=some (.int (k:Int)):=by
 obtain⟨k0,k1,h0,h1,rfl⟩:=h
 rcases yL v with e | e | e
 ·exact⟨k0,h0,by rw[e];rfl⟩
 ·exact⟨k1,h1,by rw[e];rfl⟩
 ·exact⟨5,by decide,by rw[e];rfl⟩
section
variable {C:Addr} {ns:List Int} {K T O G U:List D} {h p s:D} {one oth:Int} {room n0:DV}
abbrev mkF (ns:List Int)(A:OD)(t1:Option Addr)(st:OD)(t2:Option Addr)(one oth:Int)(room:DV)(w:List Nat)(n:DV)(x8 x9 x10 x11:Option DV):DF:=
 [some (SC ns),some (.own A t1),some (.own st t2),some (.v (.int one)),some (.v (.int oth)),some room,some (.v (.str (sT w))),some n,x8,x9,x10,x11]
noncomputable abbrev mkB (C:Addr):DF→Option RES:=(ai (aS 9 (x2 ixD (ag (cL none 2 "some")) (x2 aR (aA (au C) (aJ (ag (getV 0)) (aC 1 bv))) (ag (cI 3)))))
  (ai (aS 10 (x2 aR (aA (au C) (aJ (ag (getV 0)) (aC 1 bv))) (ag (cI 3))))
  (ai (aZ 6 (d2 az (d2 az (al 6) (d2 ixD (fun _=>some (.str "~><")) (al 10))) (d1 fB (ao 9))))
  (ai (aZ 11 (d2 ixD (asO (asL (ak (asT (ak (getV 3) (ak (getV 4) bx))) (ak (asT (ak (getV 3) (ak (getV 4) bx))) (ak (asT (ak (getV 4) (ak (getV 3) bx))) bx))))) (al 10)))
  (bK none 2 "ties" (asT (ak (d2 ixD (al 11) (cI 0)) (ak (d2 ixD (al 11) (cI 1)) (ak (getV 9) (ak (d2 gtI (al 10) (cI 0)) bx)))))))))) 
theorem yg (hl:ns.length≤100)(hs:okSm s){A:OD}{b:Nat}(hA:At A b)(hb:b+2≤1000000000){w:List Nat}(hw:w.length≤100000)(hT:T.length<1000):∃ (A':OD) (q:Mk) (y9 y10 y11:Option DV),At A' (b+2)∧okM q∧∀ (t1 t2:Option Addr) (x8 x9 x10 x11:Option DV),
  mkB C (mkF ns A t1 (stO K T O G U h p s) t2 one oth room w n0 x8 x9 x10 x11)=some (.nx (mkF ns A' t1 (stO K (T++[dT4 (bu one oth q)]) O G U h p s) t2 one oth room (w++mkT q) n0 x8 y9 y10 y11)):=by
 obtain⟨v,A1,hA1,_,_,hv⟩:=dn C ns hl hA (by omega)
 obtain⟨v2,A2,hA2,_,_,hv2⟩:=dn C ns hl hA1 (by omega)
 obtain⟨k,hk,hat⟩:=hs.at v
 have hj:=yL v2
 generalize hjj:v2%3=j at hj
 have ej:((j.toNat:Nat):Int)=j:=by omega
 have hdl:=dR k 30 (by decide) hk
 refine⟨A2,(k,j.toNat),some (.v (.int (k:Int))),some (.v (.int j)),some (.v (if j=2 then .tup [.int oth,.int one] else .tup [.int one,.int oth])),hA2,⟨hk,by show j.toNat<3;omega⟩,fun t1 t2 x8 x9 x10 x11=>?_⟩
 unfold mkB
 rw[ae (ρ':=mkF ns A1 t1 (stO K T O G U h p s) t2 one oth room w n0 x8 (some (.v (.int (k:Int)))) x10 x11) (by
  exact cf (fS (bF xM) (ji (by decide) hv) hat))]
 rw[ae (ρ':=mkF ns A2 t1 (stO K T O G U h p s) t2 one oth room w n0 x8 (some (.v (.int (k:Int)))) (some (.v (.int j))) x11) (by
  rw[← hjj]
  exact cf (ji (by decide) hv2))]
 rw[ae (ρ':=mkF ns A2 t1 (stO K T O G U h p s) t2 one oth room (w++mkT (k,j.toNat)) n0 x8 (some (.v (.int (k:Int)))) (some (.v (.int j))) x11) (by
  rw[bn,ar,ar,cc]
  show Option.map _ (((ixD (.str "~><") (.int j)).bind fun y=>az (.str (sT w)) y).bind fun x=>(fB (.int (k:Int))).bind fun y=>az x y)=_
  rw[C8 j hj,k8 hk,Ya,cQ (by simp;omega),Ya,Ya,cQ (by simp;omega),Yn]
  rfl)]
 rw[ae (ρ':=mkF ns A2 t1 (stO K T O G U h p s) t2 one oth room (w++mkT (k,j.toNat)) n0 x8 (some (.v (.int (k:Int)))) (some (.v (.int j))) (some (.v (if j=2 then .tup [.int oth,.int one] else .tup [.int one,.int oth])))) (by
  rcases hj with rfl | rfl | rfl <;> rfl)]
 refine (wG (d:=dT4 (bu one oth (k,j.toNat))) ?_ (by omega)).trans rfl
 rcases hj with rfl | rfl | rfl <;> rfl
end
section
variable {C:Addr} {ns:List Int} {K T O G U:List D} {h p s:D} {t1 t2:Option Addr} {one oth:Int}
theorem BE (v room:Int)(hr:1≤room):∃ c:Int,1≤c∧c≤3∧c≤room∧∀ ρ:DF,al 7 ρ=some (.int v)→ao 5 ρ=some (.int room)→
  (d2 si (cI 1) (d2 tf (d2 az (cI 1) (d2 dm (d2 bH (d2 aR (d2 bH (al 7) (cI 4)) (cI 3)) (cI 2)) (d2 aR (d2 bH (al 7) (cI 12)) (cI 3)))) (ao 5))) ρ=some (.int c):=by
 have f4:=bZ v 4 (by decide)
 have f12:=bZ v 12 (by decide)
 have m3:∀ y:Int,aR (.int y) (.int 3)=some (.int (y%3)):=fun y=>bm y 3 (by decide)
 have f2:∀ y:Int,bH (.int y) (.int 2)=some (.int (y/2)):=fun y=>bZ y 2 (by decide)
 have ha:v/4%3/2=0∨v/4%3/2=1:=by omega
 have hb:0≤v/12%3∧v/12%3≤2:=by omega
 have hm:=eA (v/4%3/2) (v/12%3) (.inr (by omega))
 generalize hz:v/4%3/2*(v/12%3)=z at hm
 have hz2:0≤z∧z≤2:=by
  rcases ha with e | e
  ·rw[e,Int.zero_mul] at hz;omega
  ·rw[e,Int.one_mul] at hz;omega
 have hmin:tf (.int (1+z)) (.int room)=some (.int (if room<1+z then room else 1+z)):=rfl
 have hmax:∀ y:Int,si (.int 1) (.int y)=some (.int (if y > 1 then y else 1)):=fun y=>rfl
 refine⟨if (if room<1+z then room else 1+z) > 1 then (if room<1+z then room else 1+z) else 1,?_,?_,?_,fun ρ h7 h5=>?_⟩
 ·split <;> split <;> omega
 ·split <;> split <;> omega
 ·split <;> split <;> omega
 ·simp only[ar,h7,h5,Ya,f4,m3,f2,f12,hm,n9,hmin,hmax]
theorem j9 (hl:ns.length≤100)(hs:okSm s){A:OD}{b:Nat}(hA:At A b)(hb:b+10≤1000000000)(hT:T.length<900){room:Int}(hr:1≤room):∃ (A':OD) (ms:List Mk),At A' (b+7)∧(∀ q∈ms,okM q)∧ms≠[]∧ms.length≤3∧(ms.length:Int)≤room ∧
  aX C [SC ns,.own A none,.own (stO K T O G U h p s) none,.v (.int one),.v (.int oth),.v (.int room)]=some ([SC ns,.own A' none,.own (stO K (T++(ms.map (bu one oth)).map dT4) O G U h p s) none,.v (.int one),.v (.int oth),.v (.int room)],.str (sT (mtx ms))):=by
 obtain⟨v,A1,hA1,_,_,hv⟩:=dn C ns hl hA (by omega)
 obtain⟨c,c1,c3,cr,hc⟩:=BE v room hr
 have key:∃ (A':OD) (ms:List Mk),At A' (b+7)∧(∀ q∈ms,okM q)∧ms.length=c.toNat∧∀ t1 t2:Option Addr,∃ x8 x9 x10 x11,cm (setV 8) (mkB C) ((dX c).map .int) (mkF ns A1 t1 (stO K T O G U h p s) t2 one oth (.v (.int room)) [] (.v (.int v)) none none none none)=some (.nx (mkF ns A' t1 (stO K (T++(ms.map (bu one oth)).map dT4) O G U h p s) t2 one oth (.v (.int room)) (mtx ms) (.v (.int v)) x8 x9 x10 x11)):=by
  have go:∀ (n:List Int) (A:OD) (b:Nat) (T:List D) (w:List Nat),n.length≤3→At A b→b+2*n.length≤1000000000→w.length≤100*(4-n.length)→T.length+n.length<1000→∃ (A':OD) (ms:List Mk),At A' (b+2*n.length)∧(∀ q∈ms,okM q)∧ms.length=n.length∧∀ (t1 t2:Option Addr) (x8 x9 x10 x11:Option DV),∃ y8 y9 y10 y11,cm (setV 8) (mkB C) (n.map .int) (mkF ns A t1 (stO K T O G U h p s) t2 one oth (.v (.int room)) w (.v (.int v)) x8 x9 x10 x11)=some (.nx (mkF ns A' t1 (stO K (T++(ms.map (bu one oth)).map dT4) O G U h p s) t2 one oth (.v (.int room)) (w++mtx ms) (.v (.int v)) y8 y9 y10 y11)):=by
   intro n
   induction n with
   | nil=>
    intro A b T w _ hA _ _ _
    refine⟨A,[],hA,by simp,rfl,fun t1 t2 x8 x9 x10 x11=>⟨x8,x9,x10,x11,?_⟩⟩
    rw[Za,Za,Za,Yi,show mtx []=[] from rfl,Yi]
    rfl
   | cons i n ih=>
    intro A b T w h3 hA hb hw hT
    rw[Yg] at h3 hb hw hT
    obtain⟨A1,q,z9,z10,z11,hA1,hq,e1⟩:=yg (C:=C) (K:=K) (T:=T) (O:=O) (G:=G) (U:=U) (h:=h) (p:=p) (one:=one) (oth:=oth) (room:=.v (.int room)) (n0:=.v (.int v)) hl hs hA (by omega) (w:=w) (by omega) (by omega)
    have ql:=qI hq
    obtain⟨A2,ms,hA2,hm,ml,e2⟩:=ih A1 (b+2) (T++[dT4 (bu one oth q)]) (w++mkT q) (by omega) hA1 (by omega) (by rw[Yc];omega) (by rw[Yc,ZD];omega)
    refine⟨A2,q::ms,hA2.mono (by rw[Yg];omega),fun x hx=>?_,by rw[Yg,Yg,ml],fun t1 t2 x8 x9 x10 x11=>?_⟩
    ·rcases YC.mp hx with rfl | hx
     ·exact hq
     ·exact hm x hx
    ·obtain⟨y8,y9,y10,y11,e3⟩:=e2 t1 t2 (some (.v (.int i))) z9 z10 z11
     refine⟨y8,y9,y10,y11,?_⟩
     rw[YA]
     unfold cm
     show (match mkB C (mkF ns A t1 (stO K T O G U h p s) t2 one oth (.v (.int room)) w (.v (.int v)) (some (.v (.int i))) x9 x10 x11) with | some (.nx ρ)=>cm (setV 8) (mkB C) (n.map .int) ρ | some (.ct ρ)=>cm (setV 8) (mkB C) (n.map .int) ρ | some (.bk ρ)=>some (.nx ρ) | r=>r)=_
     rw[e1]
     simp only
     rw[e3,Yn,Yn]
     rfl
  obtain⟨A',ms,h1,h2,h3,h4⟩:=go (dX c) A1 (b+1) T [] (by rw[db];omega) hA1 (by rw[db];omega) (by simp) (by rw[db];omega)
  rw[db] at h1 h3
  exact⟨A',ms,h1.mono (by omega),h2,h3,fun t1 t2=>h4 t1 t2 none none none none⟩
 obtain⟨A',ms,h1,h2,h3,h4⟩:=key
 refine⟨A',ms,h1,h2,fun z=>?_,by omega,by omega,fN rfl fun as=>?_⟩
 ·rw[z,YW] at h3;omega
 ·obtain⟨x8,x9,x10,x11,e⟩:=h4 (some (as 1)) (some (as 2))
  have e0:pY C [some (SC ns),some (.own A (some (as 1))),some (.own (stO K T O G U h p s) (some (as 2))),some (.v (.int one)),some (.v (.int oth)),some (.v (.int room)),none,none,none,none,none,none]=some (.rt (.v (.str (sT (mtx ms)))) (mkF ns A' (some (as 1)) (stO K (T++(ms.map (bu one oth)).map dT4) O G U h p s) (some (as 2)) one oth (.v (.int room)) (mtx ms) (.v (.int v)) x8 x9 x10 x11)):=by
   unfold pY
   rw[show ("":Str)=sT [] by kernel_rfl]
   rw[ae (ρ':=[some (SC ns),some (.own A (some (as 1))),some (.own (stO K T O G U h p s) (some (as 2))),some (.v (.int one)),some (.v (.int oth)),some (.v (.int room)),some (.v (.str (sT []))),none,none,none,none,none]) rfl]
   rw[ae (cf (gD ⟨_,rfl⟩ hv))]
   have ef:=lV (hc (mkF ns A1 (some (as 1)) (stO K T O G U h p s) (some (as 2)) one oth (.v (.int room)) [] (.v (.int v)) none none none none) rfl rfl) ⟨by omega,by omega⟩
   rw[ae (ρ':=mkF ns A' (some (as 1)) (stO K (T++(ms.map (bu one oth)).map dT4) O G U h p s) (some (as 2)) one oth (.v (.int room)) (mtx ms) (.v (.int v)) x8 x9 x10 x11) (by
    rw[eG]
    refine (YN (fun z=>Option.bind z _) ef).trans ?_
    exact e)]
   rfl
  show (pY C [some (SC ns),some (.own A (some (as 1))),some (.own (stO K T O G U h p s) (some (as 2))),some (.v (.int one)),some (.v (.int oth)),some (.v (.int room)),none,none,none,none,none,none]).bind _=_
  rw[e0]
  simp[nn,fw]
theorem mh {f:DX}{g:DWs}{ρ ρ1 ρ2:DF}{d:D}{L:List AW}(hf:f ρ=some (d,ρ1))(hg:g ρ1=some (L,ρ2)):aJ f g ρ=some (.inr d::L,ρ2):=by
 unfold aJ
 rw[hf,Ya,hg]
 rfl
theorem rg {S:DV}{A A' st st':OD}{d d1 d2 d3:D}{σ:DF}{f1 f2 f3:Dd}(hS:∃ x,S=.v x)(h1:f1 (some S::some (.own A t1)::some (.own st t2)::σ)=some d1)(h2:f2 (some S::some (.own A t1)::some (.own st t2)::σ)=some d2)(h3:f3 (some S::some (.own A t1)::some (.own st t2)::σ)=some d3)
  (hm:aX C [S,.own A none,.own st none,.v d1,.v d2,.v d3]=some ([S,.own A' none,.own st' none,.v d1,.v d2,.v d3],d)):aA (aX C) (aJ (ag (getV 0)) (aC 1 (aC 2 (aJ (ag f1) (aJ (ag f2) (aJ (ag f3) bv)))))) (some S::some (.own A t1)::some (.own st t2)::σ)=some (d,some S::some (.own A' t1)::some (.own st' t2)::σ):=by
 obtain⟨x,rfl⟩:=hS
 have e:aJ (ag (getV 0)) (aC 1 (aC 2 (aJ (ag f1) (aJ (ag f2) (aJ (ag f3) bv))))) (some (.v x)::some (.own A t1)::some (.own st t2)::σ)=some ([.inr x,.inl 1,.inl 2,.inr d1,.inr d2,.inr d3],some (.v x)::some (.own A t1)::some (.own st t2)::σ):=by
  have e1:=mh (bF h1) (mh (bF h2) (mh (g:=bv) (bF h3) rfl))
  show Option.map _ (Option.map _ (Option.map _ (aJ (ag f1) (aJ (ag f2) (aJ (ag f3) bv)) _)))=_
  rw[e1]
  rfl
 unfold aA
 rw[e,Ya]
 show (if ([1,2]:List Nat).Nodup then (some [DV.v x,.own A none,.own st none,.v d1,.v d2,.v d3]).bind (fun xs=>(aX C xs).bind _) else none)=_
 rw[Yh (by decide),Ya,hm]
 rfl
end
abbrev Op:=Nat×Int
def dOp (o:Op):D:=.tup [.int (o.1:Int),.int o.2]
theorem wC (a b:Op):eqd (dOp a) (dOp b)=decide (a=b):=by
 by_cases h:a=b
 ·rw[YF h,h];exact (cx _ _ rfl).mpr rfl
 ·rw[Yk h]
  cases e:eqd (dOp a) (dOp b) with
  | false=>rfl
  | true=>
   have:=(cx _ _ rfl).mp e
   obtain⟨a1,a2⟩:=a
   obtain⟨b1,b2⟩:=b
   injection this with this
   injection this with h1 h2
   injection h2 with h2 _
   injection h1 with h1
   injection h2 with h2
   exact absurd (Prod.ext (by show a1=b1;omega) h2) h
theorem we {x:Op}{aE:List Op}:∀ {kept:List Op},x∉kept→lK (dOp x) ((kept++x::aE).map dOp)=some kept.length
 | [],_=>by
  rw[Zq,YA]
  unfold lK
  rw[wC,YF rfl]
  rfl
 | y::kept,h=>by
  rw[List.cons_append,YA]
  unfold lK
  have hy:¬ y=x:=fun z=>h (by rw[z];exact Yf)
  rw[wC,Yk hy,we fun z=>h (Yd _ z)]
  rfl
theorem BL {x:Op}{kept aE:List Op}(h:x∉kept):uG (dOp x) (.lst ((kept++x::aE).map dOp))=some (.lst ((kept++aE).map dOp)):=by
 show (if _ then _ else _)=_
 rw[Yh,we h]
 ·show some (FO.lst (((kept++x::aE).map dOp).eraseIdx kept.length))=_
  rw[← kI,List.eraseIdx_append_of_length_le (Yx _),Nat.sub_self]
  rfl
 ·rw[Ys,YG]
  exact⟨fun d hd=>by obtain⟨o,_,rfl⟩:=Yo.mp hd;rfl,rfl⟩
def sgD (e:Ev):D:=.str (sT (evT e))
def evO (e:Ev):List Op:=match e.2 with | none=>[] | some m=>[(e.1,m.1)]
def pr (ms:List Mk):Prop:=(∀ q∈ms,okM q)∧ms≠[]∧ms.length≤3
def sY (e:Ev):Prop:=match e.2 with | none=>False | some m=>pr m.2
noncomputable abbrev clB (C:Addr):DF→Option RES:=(sy (bOr (jf (asB (d2 eqD (ao 3) (cI 6)))) (nQ eqD (x2 aR (aA (au C) (aJ (ag (getV 0)) (aC 1 bv))) (ag (cI 3))) (ag (cI 0)))) (ai (kC 2 "open" (asT (ak (getV 7) (ak (getV 8) bx))))
  (ai (aZ 9 (d2 gB (d2 gB (cI 12) (d1 aM (aL none 2 "ties"))) (d1 aM (aL none 2 "open"))))
  (jS 6 (x2 az (x2 az (ag (d2 az (d2 az (fun _=>some (.str "{")) (d1 fB (ao 7))) (fun _=>some (.str ":")))) (aA (aX C) (aJ (ag (getV 0)) (aC 1 (aC 2 (aJ (ag (getV 8)) (aJ (ag (getV 3)) (aJ (ag (getV 9)) bv)))))))) (ag (fun _=>some (.str "}"))))))) dNx)
abbrev plF (ns:List Int)(A:OD)(t1:Option Addr)(st:OD)(t2:Option Addr)(here:Int)(n k:D)(sg:List D)(x7 x8 x9 x10:Option DV):DF:=
 [some (SC ns),some (.own A t1),some (.own st t2),some (.v (.int here)),some (.v n),some (.v k),some (.own (.lst sg) none),x7,x8,x9,x10]
section
variable {C:Addr} {ns:List Int} {K T G U:List D} {h p s n k:D} {here:Int}
theorem zD (hl:ns.length≤100)(hs:okSm s){op:Op}{kept aE:List Op}{A:OD}{b:Nat}{sg:List D}(hA:At A b)(hb:b+10≤1000000000)(hop:op.1≤99)(hk:op∉kept)(hT:T.length+(kept++op::aE).length≤12)(hsg:sg.length<1000):∃ (A':OD) (ms:List Mk),At A' (b+7)∧pr ms∧T.length+ms.length+(kept++aE).length≤12∧∀ (t1 t2:Option Addr) (x9 x10:Option DV),∃ x9',
  (ai (kC 2 "open" (asT (ak (getV 7) (ak (getV 8) bx))))
  (ai (aZ 9 (d2 gB (d2 gB (cI 12) (d1 aM (aL none 2 "ties"))) (d1 aM (aL none 2 "open"))))
  (jS 6 (x2 az (x2 az (ag (d2 az (d2 az (fun _=>some (.str "{")) (d1 fB (ao 7))) (fun _=>some (.str ":")))) (aA (aX C) (aJ (ag (getV 0)) (aC 1 (aC 2 (aJ (ag (getV 8)) (aJ (ag (getV 3)) (aJ (ag (getV 9)) bv)))))))) (ag (fun _=>some (.str "}"))))))) (plF ns A t1 (stO K T ((kept++op::aE).map dOp) G U h p s) t2 here n k sg (some (.v (.int (op.1:Int)))) (some (.v (.int op.2))) x9 x10)
   = some (.nx (plF ns A' t1 (stO K (T++(ms.map (bu op.2 here)).map dT4) ((kept++aE).map dOp) G U h p s) t2 here n k (sg++[sgD (op.1,some (op.2,ms))]) (some (.v (.int (op.1:Int)))) (some (.v (.int op.2))) x9' x10)):=by
 have hlen:(kept++op::aE).length=(kept++aE).length+1:=by simp;omega
 have hr:(1:Int)≤12-(T.length:Int)-(((kept++aE).map dOp).length:Int):=by rw[Yb];omega
 obtain⟨A',ms,h1,h2,h3,h4,h5,h6⟩:=j9 (C:=C) (K:=K) (T:=T) (O:=(kept++aE).map dOp) (G:=G) (U:=U) (h:=h) (p:=p) (one:=op.2) (oth:=here) hl hs hA hb (by omega) hr
 rw[Yb] at h5 h6
 refine⟨A',ms,h1,⟨h2,h3,h4⟩,by omega,fun t1 t2 x9 x10=>⟨some (.v (.int (12-(T.length:Int)-((kept++aE).length:Int)))),?_⟩⟩
 rw[ae (BK (d:=dOp op) rfl (BL hk))]
 rw[ae (ρ':=plF ns A t1 (stO K T ((kept++aE).map dOp) G U h p s) t2 here n k sg (some (.v (.int (op.1:Int)))) (some (.v (.int op.2))) (some (.v (.int (12-(T.length:Int)-((kept++aE).length:Int))))) x10) (by
  rw[bn,ar,ar,cc,cc,mP,iZ]
  show some (RES.nx _)=_
  rw[Yb]
  rfl)]
 have hdl:=dR op.1 30 (by decide) (YY hop (by decide))
 have hml:=iW h2
 have ex:x2 az (x2 az (ag (d2 az (d2 az (fun _=>some (.str "{")) (d1 fB (ao 7))) (fun _=>some (.str ":")))) (aA (aX C) (aJ (ag (getV 0)) (aC 1 (aC 2 (aJ (ag (getV 8)) (aJ (ag (getV 3)) (aJ (ag (getV 9)) bv)))))))) (ag (fun _=>some (.str "}"))) (plF ns A t1 (stO K T ((kept++aE).map dOp) G U h p s) t2 here n k sg (some (.v (.int (op.1:Int)))) (some (.v (.int op.2))) (some (.v (.int (12-(T.length:Int)-((kept++aE).length:Int))))) x10)=some (sgD (op.1,some (op.2,ms)),plF ns A' t1 (stO K (T++(ms.map (bu op.2 here)).map dT4) ((kept++aE).map dOp) G U h p s) t2 here n k sg (some (.v (.int (op.1:Int)))) (some (.v (.int op.2))) (some (.v (.int (12-(T.length:Int)-((kept++aE).length:Int))))) x10):=by
  refine fS (a:=.str (sT (123::(dig op.1++58::mtx ms)))) (b:=.str (sT [125])) (fS (a:=.str (sT (123::(dig op.1++[58])))) (bF ?_) (rg ⟨_,rfl⟩ rfl rfl rfl h6) ?_) (bF (by rw[← s_c])) ?_
  ·rw[ar,ar,cc,s_o,s_p]
   show (((fB (.int (op.1:Int))).bind fun y=>az (.str (sT [123])) y).bind fun x=>az x (.str (sT [58])))=_
   rw[k8 (YY hop (by decide)),Ya,cQ (by simp;omega),Ya,cQ (by simp;omega)]
   rfl
  ·rw[cQ (by simp;omega)]
   simp
  ·rw[cQ (by simp;omega)]
   unfold sgD evT evR
   simp
 show (Option.bind (x2 az _ _ _) _)=_
 rw[ex,Ya]
 show (if sg.length<16777216 then _ else none)=_
 rw[Yh (by omega)]
 rfl
theorem zb (hl:ns.length≤100)(hs:okSm s){op:Op}{kept aE:List Op}{A:OD}{b:Nat}{sg:List D}(hA:At A b)(hb:b+11≤1000000000)(hop:op.1≤99)(hk:op∉kept)(hT:T.length+(kept++op::aE).length≤12)(hsg:sg.length<1000):∃ (A':OD) (evs:List Ev) (kept':List Op),At A' (b+8)∧((evs=[]∧kept'=kept++[op]∧here≠6)∨(kept'=kept∧∃ ms,evs=[(op.1,some (op.2,ms))]∧pr ms∧T.length+ms.length+(kept++aE).length≤12))∧∀ (t1 t2:Option Addr) (x9 x10:Option DV),∃ x9',
  clB C (plF ns A t1 (stO K T ((kept++op::aE).map dOp) G U h p s) t2 here n k sg (some (.v (.int (op.1:Int)))) (some (.v (.int op.2))) x9 x10)
   = some (.nx (plF ns A' t1 (stO K (T++(evs.flatMap (evS here)).map dT4) ((kept'++aE).map dOp) G U h p s) t2 here n k (sg++evs.map sgD) (some (.v (.int (op.1:Int)))) (some (.v (.int op.2))) x9' x10)):=by
 unfold clB
 by_cases h6:here=6
 ·obtain⟨A',ms,h1,h2,h3,h4⟩:=zD (C:=C) (K:=K) (T:=T) (G:=G) (U:=U) (h:=h) (p:=p) (n:=n) (k:=k) (here:=here) hl hs hA (by omega) hop hk hT hsg
  refine⟨A',[(op.1,some (op.2,ms))],kept,h1.mono (by omega),.inr ⟨rfl,ms,rfl,h2,h3⟩,fun t1 t2 x9 x10=>?_⟩
  obtain⟨x9',e⟩:=h4 t1 t2 x9 x10
  refine⟨x9',?_⟩
  have ec:(bOr (jf (asB (d2 eqD (ao 3) (cI 6)))) (nQ eqD (x2 aR (aA (au C) (aJ (ag (getV 0)) (aC 1 bv))) (ag (cI 3))) (ag (cI 0)))) (plF ns A t1 (stO K T ((kept++op::aE).map dOp) G U h p s) t2 here n k sg (some (.v (.int (op.1:Int)))) (some (.v (.int op.2))) x9 x10)=some (true,plF ns A t1 (stO K T ((kept++op::aE).map dOp) G U h p s) t2 here n k sg (some (.v (.int (op.1:Int)))) (some (.v (.int op.2))) x9 x10):=by
   unfold bOr jf
   rw[bt,ar]
   show (Option.map _ (match eqD (.int here) (.int 6) with | some (.bl b)=>some b | _=>none:Option Bool)).bind _=_
   rw[dO,YF h6]
   rfl
  unfold sy
  rw[ec]
  refine Eq.trans e ?_
  rw[show ([(op.1,some (op.2,ms))]:List Ev).flatMap (evS here)=ms.map (bu op.2 here) from by simp[evS]]
  rfl
 ·obtain⟨v,A1,hA1,_,_,hv⟩:=dn C ns hl hA (by omega)
  have ec:∀ (t1 t2:Option Addr) (x9 x10:Option DV),(bOr (jf (asB (d2 eqD (ao 3) (cI 6)))) (nQ eqD (x2 aR (aA (au C) (aJ (ag (getV 0)) (aC 1 bv))) (ag (cI 3))) (ag (cI 0)))) (plF ns A t1 (stO K T ((kept++op::aE).map dOp) G U h p s) t2 here n k sg (some (.v (.int (op.1:Int)))) (some (.v (.int op.2))) x9 x10)=some (decide (v%3=0),plF ns A1 t1 (stO K T ((kept++op::aE).map dOp) G U h p s) t2 here n k sg (some (.v (.int (op.1:Int)))) (some (.v (.int op.2))) x9 x10):=fun t1 t2 x9 x10=>by
   unfold bOr jf
   rw[bt,ar]
   show (Option.map _ (match eqD (.int here) (.int 6) with | some (.bl b)=>some b | _=>none:Option Bool)).bind _=_
   rw[dO,Yk h6]
   show nQ _ _ _ _=_
   unfold nQ
   rw[fS (ji (by decide) hv) (bF rfl) (dO _ _)]
   rfl
  by_cases hz:v%3=0
  ·obtain⟨A',ms,h1,h2,h3,h4⟩:=zD (C:=C) (K:=K) (T:=T) (G:=G) (U:=U) (h:=h) (p:=p) (n:=n) (k:=k) (here:=here) hl hs hA1 (by omega) hop hk hT hsg
   refine⟨A',[(op.1,some (op.2,ms))],kept,h1.mono (by omega),.inr ⟨rfl,ms,rfl,h2,h3⟩,fun t1 t2 x9 x10=>?_⟩
   obtain⟨x9',e⟩:=h4 t1 t2 x9 x10
   refine⟨x9',?_⟩
   unfold sy
   rw[ec,YF hz]
   refine Eq.trans e ?_
   rw[show ([(op.1,some (op.2,ms))]:List Ev).flatMap (evS here)=ms.map (bu op.2 here) from by simp[evS]]
   rfl
  ·refine⟨A1,[],kept++[op],hA1.mono (by omega),.inl ⟨rfl,rfl,h6⟩,fun t1 t2 x9 x10=>⟨x9,?_⟩⟩
   unfold sy
   rw[ec,Yk hz]
   show some (RES.nx _)=_
   rw[show ([]:List Ev).flatMap (evS here)=[] from rfl,Za,Za,Yi,Yi,Yn]
   rfl
end
section
variable {C:Addr} {ns:List Int} {K G U:List D} {h p s n k:D} {here:Int}
theorem wN (hl:ns.length≤100)(hs:okSm s):∀ (aE kept:List Op) (A:OD) (b:Nat) (T sg:List D),At A b→b+8*aE.length+11≤1000000000→(∀ o∈aE,o.1≤99)→(kept++aE).Nodup→T.length+(kept++aE).length≤12→sg.length+aE.length<1000→
  ∃ (A':OD) (evs:List Ev) (kept':List Op),At A' (b+8*aE.length)∧(kept'++evs.flatMap evO).Perm (kept++aE)∧(∀ e∈evs,sY e)∧T.length+(evs.flatMap (evS here)).length+kept'.length≤12∧(here=6→kept'=kept)∧evs.length≤aE.length∧∀ (t1 t2:Option Addr) (x7 x8 x9 x10:Option DV),∃ x7' x8' x9',
   cm (gw [7,8]) (clB C) (aE.map dOp) (plF ns A t1 (stO K T ((kept++aE).map dOp) G U h p s) t2 here n k sg x7 x8 x9 x10)=some (.nx (plF ns A' t1 (stO K (T++(evs.flatMap (evS here)).map dT4) (kept'.map dOp) G U h p s) t2 here n k (sg++evs.map sgD) x7' x8' x9' x10)):=by
 intro aE
 induction aE with
 | nil=>
  intro kept A b T sg hA _ _ _ hT _
  refine⟨A,[],kept,hA,?_,(fun e he=>nomatch he),?_,fun _=>rfl,Yx _,fun t1 t2 x7 x8 x9 x10=>⟨x7,x8,x9,?_⟩⟩
  ·rw[Yi];exact List.Perm.of_eq (by simp)
  ·rw[Yi] at hT;simpa using hT
  ·rw[Yi,show ([]:List Ev).flatMap (evS here)=[] from rfl,Za,Za,Za,Yi,Yi]
   rfl
 | cons op aE ih=>
  intro kept A b T sg hA hb h99 nd hT hsg
  rw[Yg] at hb hsg
  have ndp:op∉kept:=fun z=>by
   have:=(YJ.mp nd).2.2 op z op Yf
   exact this rfl
  obtain⟨A1,e1,k1,hA1,hc,hstep⟩:=zb (C:=C) (K:=K) (T:=T) (G:=G) (U:=U) (h:=h) (p:=p) (n:=n) (k:=k) (here:=here) (sg:=sg) hl hs hA (by omega) (h99 op Yf) ndp hT (by omega)
  have hlen:(kept++op::aE).length=(kept++aE).length+1:=by simp;omega
  have facts:(k1++aE).Nodup∧(T++(e1.flatMap (evS here)).map dT4).length+(k1++aE).length≤12∧(k1++e1.flatMap evO).Perm (kept++[op])∧(∀ e∈e1,sY e)∧(here=6→k1=kept)∧e1.length≤1∧(sg++e1.map sgD).length+aE.length<1000:=by
   rcases hc with⟨rfl,rfl,h6⟩ | ⟨rfl,ms,rfl,hm,hT2⟩
   ·refine⟨by rw[Yn];exact nd,?_,List.Perm.of_eq (by simp),(fun e he=>nomatch he),fun z=>absurd z h6,by simp,?_⟩
    ·rw[Yn];simpa using hT
    ·simp;omega
   ·refine⟨?_,?_,List.Perm.of_eq (by simp[evO]),fun e he=>?_,fun _=>rfl,by simp,?_⟩
    ·exact (List.Perm.nodup_iff List.perm_middle).mp nd |> fun z=>(YD.mp z).2
    ·simp[evS] at hT2 ⊢;omega
    ·rw[Yl] at he;subst he;exact hm
    ·simp;omega
  obtain⟨f1,f2,f3,f4,f5,f7,f6⟩:=facts
  obtain⟨A2,e2,k2,hA2,p2,c2,t2',s2,n2,l2⟩:=ih k1 A1 (b+8) (T++(e1.flatMap (evS here)).map dT4) (sg++e1.map sgD) hA1 (by omega) (fun o ho=>h99 o (Yd _ ho)) f1 f2 f6
  refine⟨A2,e1++e2,k2,hA2.mono (by rw[Yg];omega),?_,fun e he=>?_,?_,fun z=>(s2 z).trans (f5 z),by rw[Yc,Yg];omega,fun t1 t2 x7 x8 x9 x10=>?_⟩
  ·rw[YU]
   have q1:(k2++(e1.flatMap evO++e2.flatMap evO)).Perm ((k2++e2.flatMap evO)++e1.flatMap evO):=by
    rw[Yn];exact ZX _ ZY
   refine q1.trans ((ZR _ p2).trans ?_)
   have q2:(k1++aE++e1.flatMap evO).Perm ((k1++e1.flatMap evO)++aE):=by
    rw[Yn,Yn];exact ZX _ ZY
   refine q2.trans ((ZR _ f3).trans ?_)
   rw[Yn];exact Xr _
  ·rcases Yj.mp he with he | he
   ·exact f4 e he
   ·exact c2 e he
  ·rw[YU,Yc]
   rw[Yc,Yb] at t2'
   omega
  ·obtain⟨x9',es⟩:=hstep t1 t2 x9 x10
   obtain⟨y7,y8,y9,el⟩:=l2 t1 t2 (some (.v (.int (op.1:Int)))) (some (.v (.int op.2))) x9' x10
   refine⟨y7,y8,y9,?_⟩
   rw[YA]
   unfold cm
   show (match clB C (plF ns A t1 (stO K T ((kept++op::aE).map dOp) G U h p s) t2 here n k sg (some (.v (.int (op.1:Int)))) (some (.v (.int op.2))) x9 x10) with | some (.nx ρ)=>cm (gw [7,8]) (clB C) (aE.map dOp) ρ | some (.ct ρ)=>cm (gw [7,8]) (clB C) (aE.map dOp) ρ | some (.bk ρ)=>some (.nx ρ) | r=>r)=_
   rw[es]
   simp only
   rw[el,YU,Yz,Yz,Yn,Yn]
end
theorem nZ {α:Type}[DecidableEq α]:∀ (l U:List α),l.Nodup→(∀ x∈l,x∈U)→l.length≤U.length
 | [],_,_,_=>YO _
 | x::l,U,nd,h=>by
  have hx:=h x Yf
  have:=nZ l (U.erase x) (YD.mp nd).2 fun y hy=>(List.mem_erase_of_ne fun z=>(YD.mp nd).1 (by rw[← z];exact hy)).mpr (h y (Yd _ hy))
  rw[List.length_erase_of_mem hx] at this
  have hp:0<U.length:=List.length_pos_of_mem hx
  rw[Yg]
  omega
theorem nK (P:Nat→Bool):∀ N,(∀ i,i<N→P i=true)∨∃ j,j<N∧P j=false∧∀ i,i<j→P i=true
 | 0=>.inl fun i h=>absurd h (by omega)
 | N+1=>by
  rcases nK P N with h | ⟨j,hj,h1,h2⟩
  ·cases hp:P N with
   | true=>
    refine .inl fun i hi=>?_
    rcases Nat.lt_or_ge i N with q | q
    ·exact h i q
    ·rw[show i=N by omega];exact hp
   | false=>exact .inr ⟨N,by omega,hp,h⟩
  ·exact .inr ⟨j,by omega,h1,h2⟩
def cyc (x i:Nat):Nat:=(x-1+i)%99+1
theorem xU (U:List Nat)(hU:U.length<99)(x:Nat):∃ j,j<99∧cyc x j∉U∧∀ i,i<j→cyc x i∈U:=by
 rcases nK (fun i=>decide (cyc x i∈U)) 99 with h | ⟨j,hj,h1,h2⟩
 ·have nd:((List.range 99).map (cyc x)).Nodup:=by
   refine XN.mpr (List.Pairwise.imp_of_mem ?_ (List.nodup_range (n:=99)))
   intro a b ha hb ne e
   rw[Zt] at ha hb
   unfold cyc at e
   exact ne (by omega)
  have:=nZ _ U nd fun y hy=>by
   obtain⟨i,hi,rfl⟩:=Yo.mp hy
   exact YS (h i (Zt.mp hi))
  rw[Yb,Xo] at this
  omega
 ·exact⟨j,hj,of_decide_eq_false h1,fun i hi=>YS (h2 i hi)⟩
def dUs (U:List Nat):List D:=U.map fun n:Nat=>D.int (n:Int)
theorem Et (x:Nat)(U:List Nat):inD (.int (x:Int)) (.lst (dUs U))=some (.bl (decide (x∈U))):=by
 have ho:(dUs U).all (okN 29)=true:=by
  rw[YG]
  intro d hd
  obtain⟨n,_,rfl⟩:=Yo.mp hd
  rfl
 show (if (okN 30 (.int (x:Int))&&(dUs U).all (okN 29))=true then some (D.bl ((dUs U).any fun z=>eqd z (.int (x:Int)))) else none)=_
 rw[ho,Yh (show (okN 30 (D.int (x:Int))&&true)=true from rfl)]
 refine YN (fun b=>some (D.bl b)) ?_
 rw[Bool.eq_iff_iff,List.any_eq_true,YB]
 constructor
 ·rintro⟨d,hd,e⟩
  obtain⟨n,hn,rfl⟩:=Yo.mp hd
  rw[i4,YB] at e
  rw[show x=n by omega]
  exact hn
 ·intro hx
  exact⟨_,Yo.mpr ⟨x,hx,rfl⟩,by rw[i4];simp⟩
noncomputable abbrev opB (C:Addr):DF→Option RES:=(dIf (dB (asB (d2 ltd (ao 3) (cI 6))) (asB (d2 ltd (d2 az (d1 aM (aL none 2 "ties")) (d1 aM (aL none 2 "open"))) (cI 12)))) (ai (aS 7 (x2 az (ag (cI 1)) (x2 aR (aA (au C) (aJ (ag (getV 0)) (aC 1 bv))) (ag (cI 99)))))
  (ai (a_ (asB (d2 inD (ao 7) (aL none 2 "used"))) (aZ 7 (d2 az (d2 aR (al 7) (cI 99)) (cI 1))) 100)
  (ai (bK none 2 "used" (getV 7))
  (ai (bK none 2 "open" (asT (ak (getV 7) (ak (getV 3) bx))))
  (jn 6 (d2 az (d2 az (fun _=>some (.str "{")) (d1 fB (ao 7))) (fun _=>some (.str "}")))))))) dNx)
section
variable {C:Addr} {ns:List Int} {K T G:List D} {h p s n k:D} {here:Int}
theorem A0 (x i:Nat):1≤cyc x i∧cyc x i≤99:=by unfold cyc;omega
theorem xC {U:List Nat}{x j:Nat}{A:OD}{t1 t2:Option Addr}{O sg:List D}{x8 x9 x10:Option DV}(hj:cyc x j∉U)(hi:∀ i,i<j→cyc x i∈U):∀ (d i f:Nat),i+d=j→d<f→
  a_ (asB (d2 inD (ao 7) (aL none 2 "used"))) (aZ 7 (d2 az (d2 aR (al 7) (cI 99)) (cI 1))) f (plF ns A t1 (stO K T O G (dUs U) h p s) t2 here n k sg (some (.v (.int (cyc x i:Int)))) x8 x9 x10)=some (.nx (plF ns A t1 (stO K T O G (dUs U) h p s) t2 here n k sg (some (.v (.int (cyc x j:Int)))) x8 x9 x10)):=by
 have hc:∀ i,asB (d2 inD (ao 7) (aL none 2 "used")) (plF ns A t1 (stO K T O G (dUs U) h p s) t2 here n k sg (some (.v (.int (cyc x i:Int)))) x8 x9 x10)=some (decide (cyc x i∈U)):=fun i=>by
  rw[bt,ar,yt]
  show (match inD (.int (cyc x i:Int)) (.lst (dUs U)) with | some (.bl b)=>some b | _=>none:Option Bool)=_
  rw[Et]
 intro d
 induction d with
 | zero=>
  intro i f e hf
  obtain⟨f,rfl⟩:∃ m,f=m+1:=⟨f-1,by omega⟩
  rw[show i=j by omega]
  exact c9 ((hc j).trans (by rw[Yk hj]))
 | succ d ih=>
  intro i f e hf
  obtain⟨f,rfl⟩:∃ m,f=m+1:=⟨f-1,by omega⟩
  rw[dt (ρ':=plF ns A t1 (stO K T O G (dUs U) h p s) t2 here n k sg (some (.v (.int (cyc x (i+1):Int)))) x8 x9 x10) ((hc i).trans (by rw[YF (hi i (by omega))])) (by
   rw[bn,ar,ar]
   show Option.map _ ((aR (.int (cyc x i:Int)) (.int 99)).bind fun y=>az y (.int 1))=_
   rw[bm _ 99 (by decide)]
   have:(cyc x i:Int)%99+1=(cyc x (i+1):Int):=by unfold cyc;omega
   show some (RES.nx (List.set _ 7 (some (.v (.int ((cyc x i:Int)%99+1))))))=_
   rw[this]
   rfl)]
  exact ih (i+1) f (by omega) (by omega)
def evN (here:Int)(e:Ev):List Op:=match e.2 with | none=>[(e.1,here)] | some _=>[]
def evU (e:Ev):List Nat:=match e.2 with | none=>[e.1] | some _=>[]
def sQ (e:Ev):Prop:=e.2=none∧1≤e.1∧e.1≤99
theorem xN (hl:ns.length≤100){O:List Op}{U:List Nat}{A:OD}{b:Nat}{sg:List D}(hA:At A b)(hb:b+10≤1000000000)(hT:T.length+O.length≤12)(hU:U.length<99)(hsg:sg.length<1000):∃ (A':OD) (evs:List Ev),At A' (b+1)∧evs.length≤1∧(∀ e∈evs,sQ e∧here<6∧e.1∉U)∧T.length+(O++evs.flatMap (evN here)).length≤12∧∀ (t1 t2:Option Addr) (x7 x8 x9 x10:Option DV),∃ x7',
  opB C (plF ns A t1 (stO K T (O.map dOp) G (dUs U) h p s) t2 here n k sg x7 x8 x9 x10)=some (.nx (plF ns A' t1 (stO K T ((O++evs.flatMap (evN here)).map dOp) G (dUs (U++evs.flatMap evU)) h p s) t2 here n k (sg++evs.map sgD) x7' x8 x9 x10)):=by
 have ec:∀ (t1 t2:Option Addr) (x7 x8 x9 x10:Option DV),(dB (asB (d2 ltd (ao 3) (cI 6))) (asB (d2 ltd (d2 az (d1 aM (aL none 2 "ties")) (d1 aM (aL none 2 "open"))) (cI 12)))) (plF ns A t1 (stO K T (O.map dOp) G (dUs U) h p s) t2 here n k sg x7 x8 x9 x10)=some (decide (here<6)&&decide ((T.length:Int)+(O.length:Int)<12)):=fun t1 t2 x7 x8 x9 x10=>by
  rw[gI,bt,bt,ar,ar,ar,cc,cc,mP,iZ]
  show (some (decide (here<6))).bind (fun b=>if b=true then some (decide ((T.length:Int)+((O.map dOp).length:Int)<12)) else some false)=_
  rw[Yb]
  cases decide (here<6) <;> rfl
 by_cases hc:(decide (here<6)&&decide ((T.length:Int)+(O.length:Int)<12))=true
 ·have hc2:=hc
  rw[Ys,YB,YB] at hc2
  obtain⟨v,A1,hA1,v0,_,hv⟩:=dn C ns hl hA (by omega)
  let x:=(1+v%99).toNat
  have hx:((x:Nat):Int)=1+v%99:=by show (((1+v%99).toNat:Nat):Int)=_;omega
  obtain⟨j,hj,h1,h2⟩:=xU U hU x
  have hc0:cyc x 0=x:=by
   have:1≤x∧x≤99:=by omega
   unfold cyc;omega
  have hc1:=A0 x j
  generalize hm:cyc x j=m at *
  have hdl:=dR m 30 (by decide) (YY hc1.2 (by decide))
  refine⟨A1,[(m,none)],hA1,by simp,fun e he=>?_,?_,fun t1 t2 x7 x8 x9 x10=>⟨some (.v (.int (m:Int))),?_⟩⟩
  ·rw[Yl] at he;subst he;exact⟨⟨rfl,hc1⟩,hc2.1,h1⟩
  ·rw[Yc];show T.length+(O.length+1)≤12;omega
  ·unfold opB
   rw[bX,ec,Ya,Yh hc]
   rw[ae (ρ':=plF ns A1 t1 (stO K T (O.map dOp) G (dUs U) h p s) t2 here n k sg (some (.v (.int (cyc x 0:Int)))) x8 x9 x10) (by
    rw[hc0,hx]
    exact cf (fS (bF rfl) (ji (by decide) hv) rfl))]
   rw[ae (xC (x:=x) (j:=j) (by rw[hm];exact h1) h2 j 0 100 (by omega) (by omega)),hm]
   have hU2:(dUs U).length=U.length:=Yb ..
   rw[ae (y_ (d:=.int (m:Int)) rfl (by omega))]
   rw[ae (w6 (d:=dOp (m,here)) rfl (by rw[Yb];omega))]
   have ed:(d2 az (d2 az (fun _=>some (.str "{")) (d1 fB (ao 7))) (fun _=>some (.str "}"))) (plF ns A1 t1 (stO K T (O.map dOp++[dOp (m,here)]) G (dUs U++[.int (m:Int)]) h p s) t2 here n k sg (some (.v (.int (m:Int)))) x8 x9 x10)=some (sgD (m,none)):=by
    rw[ar,ar,cc,s_o,s_c]
    show (((fB (.int (m:Int))).bind fun y=>az (.str (sT [123])) y).bind fun x=>az x (.str (sT [125])))=_
    rw[k8 (YY hc1.2 (by decide)),Ya,cQ (by simp;omega),Ya,cQ (by simp;omega)]
    rfl
   show (Option.bind ((d2 az (d2 az (fun _=>some (.str "{")) (d1 fB (ao 7))) (fun _=>some (.str "}"))) (plF ns A1 t1 (stO K T (O.map dOp++[dOp (m,here)]) G (dUs U++[.int (m:Int)]) h p s) t2 here n k sg (some (.v (.int (m:Int)))) x8 x9 x10)) _)=_
   rw[ed,Ya]
   show (if sg.length<16777216 then _ else none)=_
   rw[Yh (by omega)]
   have e1:O.map dOp++[dOp (m,here)]=(O++([(m,none)]:List Ev).flatMap (evN here)).map dOp:=by rw[Yz];rfl
   have e2:dUs U++[.int (m:Int)]=dUs (U++([(m,none)]:List Ev).flatMap evU):=by unfold dUs;rw[Yz];rfl
   rw[e1,e2]
   rfl
 ·refine⟨A,[],hA.mono (by omega),by simp,(fun e he=>nomatch he),by simpa using hT,fun t1 t2 x7 x8 x9 x10=>⟨x7,?_⟩⟩
  unfold opB
  rw[bX,ec,Ya,Yr hc]
  show some (RES.nx _)=_
  rw[show ([]:List Ev).flatMap (evN here)=[] from rfl,show ([]:List Ev).flatMap evU=[] from rfl,Za,Yi,Yi,Yi]
theorem wM (hl:ns.length≤100):∀ (is:List Int) (O:List Op) (U:List Nat) (A:OD) (b:Nat) (sg:List D),At A b→b+is.length+10≤1000000000→T.length+O.length≤12→U.length+is.length<99→U.Nodup→sg.length+is.length<1000→
  ∃ (A':OD) (evs:List Ev),At A' (b+is.length)∧evs.length≤is.length∧(∀ e∈evs,sQ e∧here<6)∧(U++evs.flatMap evU).Nodup∧T.length+(O++evs.flatMap (evN here)).length≤12∧∀ (t1 t2:Option Addr) (x7 x8 x9 x10:Option DV),∃ x7' x10',
   cm (setV 10) (opB C) (is.map .int) (plF ns A t1 (stO K T (O.map dOp) G (dUs U) h p s) t2 here n k sg x7 x8 x9 x10)=some (.nx (plF ns A' t1 (stO K T ((O++evs.flatMap (evN here)).map dOp) G (dUs (U++evs.flatMap evU)) h p s) t2 here n k (sg++evs.map sgD) x7' x8 x9 x10')):=by
 intro is
 induction is with
 | nil=>
  intro O U A b sg hA _ hT _ nd _
  refine⟨A,[],hA,by simp,(fun e he=>nomatch he),?_,by simpa using hT,fun t1 t2 x7 x8 x9 x10=>⟨x7,x10,?_⟩⟩
  ·rw[show ([]:List Ev).flatMap evU=[] from rfl,Yi];exact nd
  ·rw[show ([]:List Ev).flatMap (evN here)=[] from rfl,show ([]:List Ev).flatMap evU=[] from rfl,Za,Za,Yi,Yi,Yi]
   rfl
 | cons i is ih=>
  intro O U A b sg hA hb hT hU nd hsg
  rw[Yg] at hb hU hsg
  obtain⟨A1,e1,hA1,n1,o1,t1',st⟩:=xN (C:=C) (K:=K) (T:=T) (G:=G) (h:=h) (p:=p) (s:=s) (n:=n) (k:=k) (here:=here) (O:=O) (U:=U) (sg:=sg) hl hA (by omega) hT (by omega) (by omega)
  have u1:(e1.flatMap evU).length≤1∧(U++e1.flatMap evU).Nodup:=by
   cases e1 with
   | nil=>exact⟨by simp,by simpa using nd⟩
   | cons e r=>
    cases r with
    | cons e' r=>simp at n1
    | nil=>
     have:=o1 e Yf
     obtain⟨m,q⟩:=e
     have q0:q=none:=this.1.1
     subst q0
     refine⟨by simp[evU],?_⟩
     show (U++[m]).Nodup
     refine YJ.mpr ⟨nd,by simp,fun a ha c hc z=>?_⟩
     rw[Yl] at hc
     exact this.2.2 (by rw[← hc,← z];exact ha)
  obtain⟨A2,e2,hA2,n2,o2,d2',t2',lp⟩:=ih (O++e1.flatMap (evN here)) (U++e1.flatMap evU) A1 (b+1) (sg++e1.map sgD) hA1 (by omega) t1' (by rw[Yc];omega) u1.2 (by rw[Yc,Yb];omega)
  refine⟨A2,e1++e2,hA2.mono (by rw[Yg];omega),by rw[Yc,Yg];omega,fun e he=>?_,?_,?_,fun t1 t2 x7 x8 x9 x10=>?_⟩
  ·rcases Yj.mp he with he | he
   ·exact⟨(o1 e he).1,(o1 e he).2.1⟩
   ·exact o2 e he
  ·rw[YU,← Yn];exact d2'
  ·rw[YU,← Yn];exact t2'
  ·obtain⟨x7',es⟩:=st t1 t2 x7 x8 x9 (some (.v (.int i)))
   obtain⟨y7,y10,el⟩:=lp t1 t2 x7' x8 x9 (some (.v (.int i)))
   refine⟨y7,y10,?_⟩
   rw[YA]
   unfold cm
   show (match opB C (plF ns A t1 (stO K T (O.map dOp) G (dUs U) h p s) t2 here n k sg x7 x8 x9 (some (.v (.int i)))) with | some (.nx ρ)=>cm (setV 10) (opB C) (is.map .int) ρ | some (.ct ρ)=>cm (setV 10) (opB C) (is.map .int) ρ | some (.bk ρ)=>some (.nx ρ) | r=>r)=_
   rw[es]
   simp only
   rw[el,YU,YU,Yz (l₁:=e1),← Yn,← Yn,← Yn]
end
theorem jV {α β:Type}{f:α→List β}{l:List α}(h:∀ e∈l,f e=[]):l.flatMap f=[]:=List.flatMap_eq_nil_iff.mpr h
theorem o6:∀ L:List (List Nat),Str.join (sT []) (L.map sT)=sT L.flatten
 | []=>rfl
 | [x]=>by rw[List.flatten_cons,List.flatten_nil,Yi];rfl
 | x::y::r=>by
  have ih:=o6 (y::r)
  show sT x++sT []++Str.join (sT []) ((y::r).map sT)=_
  rw[ih,oU,oU,Yi]
  rfl
theorem w9 {e:Ev}(h:sY e∨sQ e)(h9:e.1≤99):(evT e).length≤200:=by
 obtain⟨n,m⟩:=e
 have hd:=dR n 30 (by decide) (YY h9 (by decide))
 cases m with
 | none=>unfold evT evR;simp;omega
 | some m=>
  rcases h with h | h
  ·have h:pr m.2:=h
   have:=iW h.1
   have:=h.2.2
   unfold evT evR;simp;omega
  ·cases h.1
theorem lU:∀ {L:List Nat} {c:Nat},(∀ x∈L,x≤c)→L.sum≤c*L.length
 | [],_,_=>by simp
 | x::L,c,h=>by
  have h1:=h x Yf
  have h2:=lU (L:=L) fun y hy=>h y (Yd _ hy)
  rw[List.sum_cons,Yg,Nat.mul_succ]
  omega
theorem wE {evs:List Ev}(h:∀ e∈evs,(evT e).length≤200)(hl:evs.length≤100):jR (.str (sT [])) (.lst (evs.map sgD))=some (.str (sT (evs.flatMap evT))):=by
 have et:(evs.map sgD).map txt=(evs.map evT).map sT:=by rw[Zg,Zg];rfl
 show (if e_ (sT []) (evs.map sgD)=true then some (D.str (Txt.join (sT []) ((evs.map sgD).map txt))) else none)=_
 rw[Yh,et]
 ·show some (D.str (Builtin.Str.glued (sT []) _))=_
  rw[StrLaws.glued_eq_join,o6,List.flatMap_def]
 ·unfold e_
  rw[Ys,YG,YB,et]
  refine⟨fun d hd=>by obtain⟨e,_,rfl⟩:=Yo.mp hd;rfl,?_⟩
  have:=lU (L:=((evs.map evT).map sT).map (·.length)) (c:=200) fun x hx=>by
   rw[Zg,Zg] at hx
   obtain⟨e,he,rfl⟩:=Yo.mp hx
   show (sT (evT e)).length≤200
   rw[cP]
   exact h e he
  rw[Yb,Yb,Yb] at this
  rw[Yb,Yb,show (sT []).length=0 from rfl,Nat.mul_zero]
  omega
def okPl (p:D):Prop:=∃ a b c:List Nat,okW (sT a)∧okW (sT b)∧okW (sT c)∧p=.lst [.str (sT a),.str (sT b),.str (sT c)]
theorem okPl.at {p:D}(h:okPl p)(v:Int):∃ k:List Nat,okW (sT k)∧ixD p (.int (v%3))=some (.str (sT k)):=by
 obtain⟨a,b,c,h0,h1,h2,rfl⟩:=h
 rcases yL v with e | e | e
 ·exact⟨a,h0,by rw[e];rfl⟩
 ·exact⟨b,h1,by rw[e];rfl⟩
 ·exact⟨c,h2,by rw[e];rfl⟩
def lst (K:List Str)(T:List T4)(O:List Op)(G:List Int)(U:List Nat)(h p s:D):OD:=stO (K.map .str) (T.map dT4) (O.map dOp) (G.map .int) (dUs U) h p s
structure LS where
 K:List Str
 T:List T4
 O:List Op
 G:List Int
 U:List Nat
 h:Int
structure PlOk (L:LS) (kd:List Nat) (evs0 evs:List Ev) (O':List Op):Prop where
 kd:okW (sT kd)
 pm:evs.Perm evs0
 ok:∀ e∈evs0,sY e∨sQ e
 io:∀ e∈evs0,∀ m,e.2=some m→(e.1,m.1)∈L.O
 op:(O'++evs0.flatMap evO).Perm (L.O++evs0.flatMap (evN (L.K.length:Int)))
 nu:(L.U++evs0.flatMap evU).Nodup
 le:L.T.length+(evs0.flatMap (evS (L.K.length:Int))).length+O'.length≤12
 six:L.K.length=6→O'=[]
 n15:evs0.length≤15
 sg:(evs.flatMap evT).length≤3000
theorem sI {C:Addr}{ns:List Int}{h p s:D}(hl:ns.length≤100)(hs:okSm s)(hp:okPl p){A:OD}{b:Nat}(hA:At A b)(hb:b+200≤1000000000){K:List Str}{T:List T4}{O:List Op}{G:List Int}{U:List Nat}(hK:K.length≤7)(hO:O.Nodup)(h99:∀ o∈O,o.1≤99)(hT:T.length+O.length≤12)(hU:U.length<90)(nU:U.Nodup) :
  ∃ (A':OD) (kd:List Nat) (evs0 evs:List Ev) (O':List Op),At A' (b+200)∧(∀ h:Int,PlOk ⟨K,T,O,G,U,h⟩ kd evs0 evs O') ∧
  aQ C [SC ns,.own A none,.own (lst K T O G U h p s) none]=some ([SC ns,.own A' none,.own (lst (K++[sT kd]) (T++evs0.flatMap (evS (K.length:Int))) O' G (U++evs0.flatMap evU) h p s) none],.str (sT (plT kd evs))):=by
 obtain⟨v,A1,hA1,v0,_,hv⟩:=dn C ns hl hA (by omega)
 obtain⟨kd,hkd,hat⟩:=hp.at v
 have hO12:O.length≤12:=by omega
 obtain⟨A2,ec,kp,hA2,pc,oc,tc,c6,lc,eL⟩:=wN (C:=C) (K:=(K++[sT kd]).map .str) (G:=G.map .int) (U:=dUs U) (h:=h) (p:=p) (n:=.int v) (k:=.str (sT kd)) (here:=(K.length:Int)) hl hs O [] A1 (b+1) (T.map dT4) [] hA1 (by omega) h99 (by simpa using hO) (by simpa using hT) (by simp;omega)
 rw[Zq] at pc
 rw[Yb] at tc
 have hm:-2≤v/3%6-2∧v/3%6-2≤3:=by omega
 have hrl:=db (v/3%6-2)
 obtain⟨A3,eo,hA3,lo,oo,nu,to,eL2⟩:=wM (C:=C) (K:=(K++[sT kd]).map .str) (T:=(T++ec.flatMap (evS (K.length:Int))).map dT4) (G:=G.map .int) (h:=h) (p:=p) (s:=s) (n:=.int v) (k:=.str (sT kd)) (here:=(K.length:Int)) hl (dX (v/3%6-2)) kp U A2 (b+1+8*O.length) ([]++ec.map sgD) hA2 (by omega) (by rw[Yb,Yc];omega) (by omega) nU (by simp;omega)
 rw[Yb,Yc] at to
 have z1:eo.flatMap evO=[]:=jV fun e he=>by obtain⟨n,m⟩:=e;have q:m=none:=(oo _ he).1.1;subst q;rfl
 have z2:eo.flatMap (evS (K.length:Int))=[]:=jV fun e he=>by obtain⟨n,m⟩:=e;have q:m=none:=(oo _ he).1.1;subst q;rfl
 have z3:ec.flatMap (evN (K.length:Int))=[]:=jV fun e he=>by
  obtain⟨n,m⟩:=e
  cases m with
  | none=>exact absurd (oc _ he) id
  | some m=>rfl
 have z4:ec.flatMap evU=[]:=jV fun e he=>by
  obtain⟨n,m⟩:=e
  cases m with
  | none=>exact absurd (oc _ he) id
  | some m=>rfl
 have hev:∃ evs:List Ev,evs.Perm (ec++eo)∧∀ (t1 t2:Option Addr) (st:OD) (x7 x8 x9 x10:Option DV),dIf (asB (d2 eqD (d2 aR (d2 bH (al 4) (cI 18)) (cI 2)) (cI 1))) (ya 6) dNx (plF ns A3 t1 st t2 (K.length:Int) (.int v) (.str (sT kd)) ((ec++eo).map sgD) x7 x8 x9 x10)=some (.nx (plF ns A3 t1 st t2 (K.length:Int) (.int v) (.str (sT kd)) (evs.map sgD) x7 x8 x9 x10)):=by
  have f18:=bZ v 18 (by decide)
  have m2:=bm (v/18) 2 (by decide)
  by_cases q:v/18%2=1
  ·refine⟨(ec++eo).reverse,List.reverse_perm _,fun t1 t2 st x7 x8 x9 x10=>?_⟩
   rw[bX,bt,ar,ar,ar]
   show (match ((bH (.int v) (.int 18)).bind fun x=>aR x (.int 2)).bind fun x=>eqD x (.int 1) with | some (.bl b)=>some b | _=>none:Option Bool).bind _=_
   rw[f18,Ya,m2,Ya,dO,YF q,List.map_reverse]
   rfl
  ·refine⟨ec++eo,Xr _,fun t1 t2 st x7 x8 x9 x10=>?_⟩
   rw[bX,bt,ar,ar,ar]
   show (match ((bH (.int v) (.int 18)).bind fun x=>aR x (.int 2)).bind fun x=>eqD x (.int 1) with | some (.bl b)=>some b | _=>none:Option Bool).bind _=_
   rw[f18,Ya,m2,Ya,dO,Yk q]
   rfl
 obtain⟨evs,hpe,hrev⟩:=hev
 have all0:∀ e∈ec++eo,sY e∨sQ e:=fun e he=>by
  rcases Yj.mp he with he | he
  ·exact .inl (oc e he)
  ·exact .inr (oo e he).1
 have le99:∀ e∈ec++eo,e.1≤99:=fun e he=>by
  rcases Yj.mp he with he | he
  ·obtain⟨n,m⟩:=e
   cases m with
   | none=>exact absurd (oc _ he) id
   | some m=>
    have:(n,m.1)∈kp++ec.flatMap evO:=Yj.mpr (.inr (Zl.mpr ⟨_,he,by simp[evO]⟩))
    exact h99 _ (pc.mem_iff.mp this)
  ·exact (oo e he).1.2.2
 have e200:∀ e∈evs,(evT e).length≤200:=fun e he=>w9 (all0 e (hpe.mem_iff.mp he)) (le99 e (hpe.mem_iff.mp he))
 have elen:evs.length≤15:=by rw[hpe.length_eq,Yc];omega
 have hfl:(evs.flatMap evT).length≤3000:=by
  rw[List.length_flatMap]
  have:=lU (L:=evs.map fun a=>(evT a).length) (c:=200) fun x hx=>by obtain⟨e,he,rfl⟩:=Yo.mp hx;exact e200 e he
  rw[Yb] at this
  omega
 refine⟨A3,kd,ec++eo,evs,kp++eo.flatMap (evN (K.length:Int)),hA3.mono (by omega),fun h=>⟨hkd,hpe,all0,fun e he m hm=>?_,?_,?_,?_,fun z=>?_,by rw[Yc];omega,hfl⟩,fN rfl fun as=>?_⟩
 ·rcases Yj.mp he with he | he
  ·exact pc.mem_iff.mp (Yj.mpr (.inr (Zl.mpr ⟨_,he,by unfold evO;rw[hm];simp⟩)))
  ·rw[(oo e he).1.1] at hm;cases hm
 ·show (kp++eo.flatMap (evN (K.length:Int))++(ec++eo).flatMap evO).Perm (O++(ec++eo).flatMap (evN (K.length:Int)))
  rw[YU,YU,z1,z3,Yi,Zq]
  have q:(kp++eo.flatMap (evN (K.length:Int))++ec.flatMap evO).Perm ((kp++ec.flatMap evO)++eo.flatMap (evN (K.length:Int))):=by
   rw[Yn,Yn];exact ZX _ ZY
  exact q.trans (ZR _ pc)
 ·show (U++(ec++eo).flatMap evU).Nodup
  rw[YU,z4,Zq];exact nu
 ·show T.length+((ec++eo).flatMap (evS (K.length:Int))).length+(kp++eo.flatMap (evN (K.length:Int))).length≤12
  rw[YU,z2,Yi];omega
 ·have z:K.length=6:=z
  rw[c6 (by omega),Zq]
  exact jV fun e he=>by have:=(oo e he).2;omega
 ·obtain⟨y7,y8,y9,f1⟩:=eL (some (as 1)) (some (as 2)) none none none none
  obtain⟨w7,w10,f2⟩:=eL2 (some (as 1)) (some (as 2)) y7 y8 y9 none
  have hk3:kd.length≤3:=hkd.2.1
  have e0:rH C [some (SC ns),some (.own A (some (as 1))),some (.own (lst K T O G U h p s) (some (as 2))),none,none,none,none,none,none,none,none]=some (.rt (.v (.str (sT (plT kd evs)))) (plF ns A3 (some (as 1)) (lst (K++[sT kd]) (T++(ec++eo).flatMap (evS (K.length:Int))) (kp++eo.flatMap (evN (K.length:Int))) G (U++(ec++eo).flatMap evU) h p s) (some (as 2)) (K.length:Int) (.int v) (.str (sT kd)) (evs.map sgD) w7 y8 y9 w10)):=by
   unfold rH lst
   rw[ae (ρ':=[some (SC ns),some (.own A (some (as 1))),some (.own (lst K T O G U h p s) (some (as 2))),some (.v (.int (K.length:Int))),none,none,none,none,none,none,none]) (by
    rw[bn,cc,mZ]
    show some (RES.nx _)=_
    rw[Yb]
    rfl)]
   rw[ae (cf (gD ⟨_,rfl⟩ hv))]
   rw[ae (ρ':=[some (SC ns),some (.own A1 (some (as 1))),some (.own (lst K T O G U h p s) (some (as 2))),some (.v (.int (K.length:Int))),some (.v (.int v)),some (.v (.str (sT kd))),none,none,none,none,none]) (by
    rw[bn,ar,ar]
    show Option.map _ ((cL none 2 "pool" (some (SC ns)::some (.own A1 (some (as 1)))::some (.own (stO (K.map .str) (T.map dT4) (O.map dOp) (G.map .int) (dUs U) h p s) (some (as 2)))::_)).bind fun x=>(aR (.int v) (.int 3)).bind fun y=>ixD x y)=_
    rw[zd,bm v 3 (by decide),Ya,Ya,hat]
    rfl)]
   rw[ae (show bK none 2 "kinds" (getV 5) [some (SC ns),some (.own A1 (some (as 1))),some (.own (lst K T O G U h p s) (some (as 2))),some (.v (.int (K.length:Int))),some (.v (.int v)),some (.v (.str (sT kd))),none,none,none,none,none]=some (RES.nx [some (SC ns),some (.own A1 (some (as 1))),some (.own (stO (K.map .str++[.str (sT kd)]) (T.map dT4) (O.map dOp) (G.map .int) (dUs U) h p s) (some (as 2))),some (.v (.int (K.length:Int))),some (.v (.int v)),some (.v (.str (sT kd))),none,none,none,none,none]) from xX rfl (by rw[Yb];omega))]
   rw[show K.map D.str++[.str (sT kd)]=(K++[sT kd]).map D.str by rw[Yz];rfl]
   rw[ae (ρ':=plF ns A1 (some (as 1)) (stO ((K++[sT kd]).map .str) (T.map dT4) (O.map dOp) (G.map .int) (dUs U) h p s) (some (as 2)) (K.length:Int) (.int v) (.str (sT kd)) [] none none none none) rfl]
   rw[ae (ρ':=plF ns A2 (some (as 1)) (stO ((K++[sT kd]).map .str) (T.map dT4++(ec.flatMap (evS (K.length:Int))).map dT4) (kp.map dOp) (G.map .int) (dUs U) h p s) (some (as 2)) (K.length:Int) (.int v) (.str (sT kd)) ([]++ec.map sgD) y7 y8 y9 none) (by
    rw[eG,jm,tH,pE,tw,iZ]
    exact f1)]
   rw[← Yz]
   rw[ae (ρ':=plF ns A3 (some (as 1)) (stO ((K++[sT kd]).map .str) ((T++ec.flatMap (evS (K.length:Int))).map dT4) ((kp++eo.flatMap (evN (K.length:Int))).map dOp) (G.map .int) (dUs (U++eo.flatMap evU)) h p s) (some (as 2)) (K.length:Int) (.int v) (.str (sT kd)) ([]++ec.map sgD++eo.map sgD) w7 y8 y9 w10) (by
    rw[eG]
    refine (YN (fun z=>Option.bind z _) (v9 (n:=v/3%6-2) ?_ ⟨by omega,by omega⟩)).trans f2
    rw[ar,ar,ar]
    show (((bH (.int v) (.int 3)).bind fun x=>aR x (.int 6)).bind fun x=>gB x (.int 2))=_
    rw[bZ v 3 (by decide),Ya,bm _ 6 (by decide)]
    rfl)]
   rw[Zq,← Yz (l₁:=ec)]
   rw[ae (hrev _ _ _ _ _ _ _)]
   rw[YU,z2,Yi,YU,z4,Zq,show ("":Str)=sT [] by kernel_rfl,gQ,ar,ar]
   show Option.map _ ((jR (.str (sT [])) (.lst (evs.map sgD))).bind fun y=>az (.str (sT kd)) y)=_
   rw[wE e200 (by omega),Ya,cQ (by omega)]
   rfl
  show (rH C [some (SC ns),some (.own A (some (as 1))),some (.own (lst K T O G U h p s) (some (as 2))),none,none,none,none,none,none,none,none]).bind _=_
  rw[e0]
  simp[nn,fw]
structure LOk (L:LS):Prop where
 kw:∀ k∈L.K,okW k
 k7:L.K.length≤7
 o7:L.K.length=7→L.O=[]
 le:L.T.length+L.O.length≤12
 on:(L.O.map (·.1)).Nodup
 ou:∀ o∈L.O,o.1∈L.U
 op:∀ o∈L.O,0≤o.2∧o.2<(L.K.length:Int)
 un:L.U.Nodup
 u9:∀ n∈L.U,1≤n∧n≤99
 ul:L.U.length≤L.T.length+L.O.length
structure Rel (L:LS) (R:RS) (X:List T4):Prop where
 k:R.K=L.K
 t:(R.T++X).Perm L.T
 b:(R.bg.map (·.1)).Perm (L.U.map fun n:Nat=>(n:Int))
 o:∀ o∈L.O,((o.1:Int),o.2)∈R.bg∧(o.1:Int)∉R.cl
 c:∀ n∈R.cl,n∈R.bg.map (·.1)
 n:R.cl.length+L.O.length=R.bg.length
def plL (L:LS)(kd:List Nat)(evs0:List Ev)(O':List Op):LS:=⟨L.K++[sT kd],L.T++evs0.flatMap (evS (L.K.length:Int)),O',L.G,L.U++evs0.flatMap evU,L.h⟩
theorem pR {n:Int}{t:T4}(h:okT n t):okT (n+1) t:=by
 unfold okT at h ⊢
 omega
theorem qT {a b n:Int}{q:Mk}(ha:0≤a∧a<n)(hb:0≤b∧b<n)(hab:a≠b)(hq:okM q):okT n (bu a b q):=by
 have h1:(q.1:Int)<1000000000000000000000000000000:=by
  have:=hq.1
  have e:(10:Nat) ^ 30=1000000000000000000000000000000:=by decide
  omega
 unfold bu okT
 split <;> simp only <;> omega
theorem ip:∀ l:List Ev,(l.map (·.1)).Perm ((l.flatMap evO).map (·.1)++l.flatMap evU)
 | []=>Xr _
 | (n,none)::l=>by
  show (n::l.map (·.1)).Perm ((l.flatMap evO).map (·.1)++n::l.flatMap evU)
  exact (List.Perm.cons _ (ip l)).trans List.perm_middle.symm
 | (n,some m)::l=>by
  show (n::l.map (·.1)).Perm (n::(l.flatMap evO).map (·.1)++l.flatMap evU)
  exact List.Perm.cons _ (ip l)
theorem d4 (p:Int):∀ l:List Ev,(l.flatMap (evN p)).map (·.1)=l.flatMap evU
 | []=>rfl
 | (n,none)::l=>YN (n::·) (d4 p l)
 | (n,some m)::l=>d4 p l
theorem jJ (p:Int):∀ l:List Ev,(l.flatMap (evB p)).map (·.1)=(l.flatMap evU).map fun n:Nat=>(n:Int)
 | []=>rfl
 | (n,none)::l=>YN ((n:Int)::·) (jJ p l)
 | (n,some m)::l=>jJ p l
theorem iV (p:Int):∀ l:List Ev,l.flatMap (evB p)=(l.flatMap (evN p)).map fun o:Op=>((o.1:Int),o.2)
 | []=>rfl
 | (n,none)::l=>YN (((n:Int),p)::·) (iV p l)
 | (n,some m)::l=>iV p l
theorem iX:∀ l:List Ev,l.flatMap evC=(l.flatMap evO).map fun o:Op=>(o.1:Int)
 | []=>rfl
 | (n,none)::l=>iX l
 | (n,some m)::l=>YN ((n:Int)::·) (iX l)
theorem lq (p:Int):∀ l:List Ev,(∀ e∈l,sY e∨sQ e)→(l.flatMap evO).length≤(l.flatMap (evS p)).length
 | [],_=>Yx _
 | (n,none)::l,h=>lq p l fun e he=>h e (Yd _ he)
 | (n,some m)::l,h=>by
  have ih:=lq p l fun e he=>h e (Yd _ he)
  have h1:pr m.2:=by
   rcases h _ Yf with h | h
   ·exact h
   ·cases h.1
  have:0<m.2.length:=XE.mpr h1.2.1
  show ((n,m.1)::l.flatMap evO).length≤(m.2.map (bu m.1 p)++l.flatMap (evS p)).length
  rw[Yg,Yc,Yb]
  omega
theorem Perm.flat {α β:Type}{f:α→List β}{a b:List α}(h:a.Perm b):(a.flatMap f).Perm (b.flatMap f):=List.Perm.flatMap_right f h
section
variable {L:LS} {R:RS} {X:List T4} {kd:List Nat} {evs0 evs:List Ev} {O':List Op}
theorem mT (hL:LOk L)(hP:PlOk L kd evs0 evs O'):((O'++evs0.flatMap evO).map (·.1)).Nodup:=by
 have h1:=(hP.op.map (·.1))
 rw[Yz (l₁:=L.O),d4] at h1
 refine (h1.nodup_iff).mpr (YJ.mpr ⟨hL.on,(YJ.mp hP.nu).2.1,fun a ha b hb z=>?_⟩)
 obtain⟨o,ho,rfl⟩:=Yo.mp ha
 exact (YJ.mp hP.nu).2.2 _ (hL.ou o ho) b hb z
theorem ER (hL:LOk L)(hP:PlOk L kd evs0 evs O')(h6:L.K.length≤6):LOk (plL L kd evs0 O'):=by
 have nd:=mT hL hP
 rw[Yz] at nd
 have len:=hP.op.length_eq
 rw[Yc,Yc] at len
 have lN:(evs0.flatMap (evN (L.K.length:Int))).length=(evs0.flatMap evU).length:=by rw[← d4 (L.K.length:Int),Yb]
 have lS:=lq (L.K.length:Int) evs0 hP.ok
 have mem:∀ o∈O',o∈L.O∨o∈evs0.flatMap (evN (L.K.length:Int)):=fun o ho=>Yj.mp (hP.op.mem_iff.mp (Yj.mpr (.inl ho)))
 have kl:(plL L kd evs0 O').K.length=L.K.length+1:=by show (L.K++[sT kd]).length=_;rw[Yc];rfl
 refine⟨fun k hk=>?_,by rw[kl];omega,fun z=>hP.six (by rw[kl] at z;omega),?_,(YJ.mp nd).1,fun o ho=>?_,fun o ho=>?_,hP.nu,fun n hn=>?_,?_⟩
 ·rcases Yj.mp hk with hk | hk
  ·exact hL.kw k hk
  ·rw[Yl] at hk;subst hk;exact hP.kd
 ·have:=hP.le
  show (L.T++_).length+O'.length≤12
  rw[Yc];exact this
 ·show o.1∈L.U++evs0.flatMap evU
  rcases mem o ho with h | h
  ·exact Yj.mpr (.inl (hL.ou o h))
  ·refine Yj.mpr (.inr ?_)
   rw[← d4 (L.K.length:Int)]
   exact Yo.mpr ⟨o,h,rfl⟩
 ·rw[kl]
  rcases mem o ho with h | h
  ·have:=hL.op o h;omega
  ·obtain⟨e,_,he⟩:=Zl.mp h
   obtain⟨n,m⟩:=e
   cases m with
   | none=>have:=Yl.mp he;subst this;show 0≤(L.K.length:Int)∧_;simp only;omega
   | some m=>cases he
 ·rcases Yj.mp hn with h | h
  ·exact hL.u9 n h
  ·obtain⟨e,h1,he⟩:=Zl.mp h
   obtain⟨n',m⟩:=e
   cases m with
   | none=>
    have:=Yl.mp he
    subst this
    rcases hP.ok _ h1 with q | q
    ·exact absurd q id
    ·exact q.2
   | some m=>cases he
 ·have:=hL.ul
  show (L.U++evs0.flatMap evU).length≤(L.T++_).length+O'.length
  rw[Yc,Yc]
  omega
theorem EM (hL:LOk L)(hP:PlOk L kd evs0 evs O')(hT:∀ t∈L.T,okT ((L.K.length:Int)+1) t):∀ t∈(plL L kd evs0 O').T,okT ((L.K.length:Int)+1) t:=fun t ht=>by
 rcases Yj.mp ht with h | h
 ·exact hT t h
 ·obtain⟨e,h1,he⟩:=Zl.mp h
  obtain⟨n,m⟩:=e
  cases m with
  | none=>cases he
  | some m=>
   obtain⟨q,hq,rfl⟩:=Yo.mp he
   have ho:=hL.op _ (hP.io _ h1 m rfl)
   have hm:pr m.2:=by
    rcases hP.ok _ h1 with z | z
    ·exact z
    ·cases z.1
   exact qT ⟨ho.1,by have:=ho.2;simp only at this;omega⟩ ⟨by omega,by omega⟩ (by have:=ho.2;simp only at this;omega) (hm.1 q hq)
theorem EG (hL:LOk L)(hR:Rel L R X)(hP:PlOk L kd evs0 evs O'):Rel (plL L kd evs0 O') (plS R kd evs X G') []:=by
 have nd:=mT hL hP
 rw[Yz] at nd
 have hk:R.K.length=L.K.length:=by rw[hR.k]
 have len:=hP.op.length_eq
 rw[Yc,Yc] at len
 refine⟨?_,?_,?_,fun o ho=>?_,fun n hn=>?_,?_⟩
 ·show R.K++[sT kd]=L.K++[sT kd];rw[hR.k]
 ·show (R.T++(evs.flatMap (evS (R.K.length:Int))++X)++[]).Perm (L.T++evs0.flatMap (evS (L.K.length:Int)))
  rw[Yi,hk]
  have q1:(R.T++(evs.flatMap (evS (L.K.length:Int))++X)).Perm ((R.T++X)++evs.flatMap (evS (L.K.length:Int))):=by
   rw[Yn];exact ZX _ ZY
  exact q1.trans (List.Perm.append hR.t (Perm.flat hP.pm))
 ·show ((R.bg++evs.flatMap (evB (R.K.length:Int))).map (·.1)).Perm ((L.U++evs0.flatMap evU).map fun n:Nat=>(n:Int))
  rw[Yz,Yz,jJ]
  exact List.Perm.append hR.b ((Perm.flat hP.pm).map _)
 ·have mem:=Yj.mp (hP.op.mem_iff.mp (Yj.mpr (.inl ho)))
  have nc:(o.1:Int)∉evs.flatMap evC:=by
   rw[iX]
   intro z
   obtain⟨o2,h2,e⟩:=Yo.mp z
   have h3:o2∈evs0.flatMap evO:=(Perm.flat hP.pm).mem_iff.mp h2
   exact (YJ.mp nd).2.2 _ (Yo.mpr ⟨o,ho,rfl⟩) _ (Yo.mpr ⟨o2,h3,rfl⟩) (by omega)
  show ((o.1:Int),o.2)∈R.bg++evs.flatMap (evB (R.K.length:Int))∧(o.1:Int)∉R.cl++evs.flatMap evC
  rw[Yj,Yj]
  rcases mem with h | h
  ·have:=hR.o o h
   exact⟨.inl this.1,fun z=>z.elim this.2 nc⟩
  ·refine⟨.inr ?_,fun z=>z.elim (fun z=>?_) nc⟩
   ·rw[iV,hk]
    exact Yo.mpr ⟨o,(Perm.flat hP.pm).mem_iff.mpr h,rfl⟩
   ·have h1:=hR.b.mem_iff.mp (hR.c _ z)
    obtain⟨n,hn,e⟩:=Yo.mp h1
    have h2:o.1∈evs0.flatMap evU:=by rw[← d4 (L.K.length:Int)];exact Yo.mpr ⟨o,h,rfl⟩
    exact (YJ.mp hP.nu).2.2 n hn _ h2 (by omega)
 ·show n∈(R.bg++evs.flatMap (evB (R.K.length:Int))).map (·.1)
  rw[Yz,Yj]
  rcases Yj.mp hn with h | h
  ·exact .inl (hR.c n h)
  ·obtain⟨e,h1,he⟩:=Zl.mp h
   obtain⟨m,q⟩:=e
   cases q with
   | none=>cases he
   | some q=>
    have:=Yl.mp he
    subst this
    have h2:=hP.io _ (hP.pm.mem_iff.mp h1) q rfl
    exact .inl (Yo.mpr ⟨_,(hR.o _ h2).1,rfl⟩)
 ·have e1:(evs.flatMap evC).length=(evs0.flatMap evO).length:=by rw[iX,Yb];exact (Perm.flat hP.pm).length_eq
  have e2:(evs.flatMap (evB (R.K.length:Int))).length=(evs0.flatMap (evN (L.K.length:Int))).length:=by rw[iV,Yb,hk];exact (Perm.flat hP.pm).length_eq
  have:=hR.n
  show (R.cl++evs.flatMap evC).length+O'.length=(R.bg++evs.flatMap (evB (R.K.length:Int))).length
  rw[Yc,Yc,e1,e2]
  omega
theorem EJ (hL:LOk L)(hR:Rel L R X)(hP:PlOk L kd evs0 evs O'):OkR R kd evs:=by
 have nd:=mT hL hP
 rw[Yz] at nd
 have hk:R.K.length=L.K.length:=by rw[hR.k]
 have bl:R.bg.length=L.U.length:=by have:=hR.b.length_eq;rwa [Yb,Yb] at this
 have tl:R.T.length+X.length=L.T.length:=by have:=hR.t.length_eq;rwa [Yc] at this
 have:=hL.ul
 have:=hL.le
 have:=hL.k7
 have:=hR.n
 refine⟨⟨hP.kd,fun e he=>?_,?_,?_,?_,by omega,by omega,?_⟩,by omega,by omega⟩
 ·have h0:=hP.pm.mem_iff.mp he
  obtain⟨n,m⟩:=e
  cases m with
  | none=>
   rcases hP.ok _ h0 with q | q
   ·exact absurd q id
   ·refine⟨q.2,?_⟩
    show (n:Int)∉R.bg.map (·.1)
    intro z
    obtain⟨n2,h2,e⟩:=Yo.mp (hR.b.mem_iff.mp z)
    exact (YJ.mp hP.nu).2.2 n2 h2 n (Zl.mpr ⟨_,h0,by simp[evU]⟩) (by omega)
  | some m=>
   have hO:=hP.io _ h0 m rfl
   have hm:pr m.2:=by
    rcases hP.ok _ h0 with z | z
    ·exact z
    ·cases z.1
   have hp:=hL.op _ hO
   refine⟨hL.u9 _ (hL.ou _ hO),(hR.o _ hO).1,?_,(hR.o _ hO).2,hm.2.1,by have:=hm.2.2;omega,hm.1⟩
   have:=hp.2
   simp only at this
   rw[hk]
   omega
 ·have p1:=(hP.pm.map (·.1)).trans (ip evs0)
  refine p1.nodup_iff.mpr (YJ.mpr ⟨(YJ.mp nd).2.1,(YJ.mp hP.nu).2.1,fun a ha b hb z=>?_⟩)
  obtain⟨o,ho,rfl⟩:=Yo.mp ha
  obtain⟨e,h1,he⟩:=Zl.mp ho
  obtain⟨n,m⟩:=e
  cases m with
  | none=>cases he
  | some m=>
   have:=Yl.mp he
   subst this
   exact (YJ.mp hP.nu).2.2 _ (hL.ou _ (hP.io _ h1 m rfl)) b hb z
 ·refine hR.b.nodup_iff.mpr (XN.mpr (hL.un.imp fun h z=>h (by omega)))
 ·have:=hP.n15;have:=hP.pm.length_eq;omega
 ·have e:(evs.flatMap (evS (R.K.length:Int))).length=(evs0.flatMap (evS (L.K.length:Int))).length:=by rw[hk];exact (Perm.flat hP.pm).length_eq
  have:=hP.le
  omega
end
section
variable {K T O G U:List D} {h p s d:D} {t:Option Addr} {σ:DF} {x0 x1:Option DV}
theorem Dp:((stF K T O G U h p s).map (·.1)).Nodup:=by
 show (["kinds", "ties", "open", "boughs", "used", "here", "pool", "some"]:List Str).Nodup
 decide +kernel
theorem mN {f:DX}{ρ:DF}(hf:f ρ=some (d,x0::x1::some (.own (stO K T O G U h p s) t)::σ)):fV 2 "here" f ρ=some (.nx (x0::x1::some (.own (stO K T O G U d p s) t)::σ)):=by
 unfold fV
 rw[hf,Ya]
 show (if ((stF K T O G U h p s).map (·.1)).Nodup∧(stF K T O G U h p s).length<16777216 then _ else _)=_
 rw[Yh ⟨Dp,by show 8<16777216;decide⟩]
 kernel_rfl
theorem Bq:i8 none 2 "boughs" (x0::x1::some (.own (stO K T O (G++[d]) U h p s) t)::σ)=some (d,x0::x1::some (.own (stO K T O G U h p s) t)::σ):=by
 unfold i8
 rw[kg,Ya]
 show ((G++[d])[(G++[d]).length-1]?).bind (fun e=>(cW none 2 "boughs" (fun _=>some (.lst (G++[d]).dropLast)) _).map fun ρ'=>(e,ρ'))=_
 rw[show (G++[d])[(G++[d]).length-1]?=some d by simp,Ya,List.dropLast_concat]
 refine (YN (Option.map fun ρ'=>(d,ρ')) (eS (C:=none) (x0:=x0) (x1:=x1) (t:=t) (σ:=σ) (fs:=stF K T O (G++[d]) U h p s) (n := "boughs") (k:=fun _=>some (.lst G)) (o:=.lst (G++[d])) (o':=.lst G) (by kernel_rfl) rfl (by show 8<1000;decide))).trans ?_
 kernel_rfl
theorem rG {C:Addr}{S:DV}{A A' st st':OD}{d:D}{t1 t2:Option Addr}(hS:∃ x,S=.v x)(hm:aQ C [S,.own A none,.own st none]=some ([S,.own A' none,.own st' none],d)):aA (aQ C) (aJ (ag (getV 0)) (aC 1 (aC 2 bv))) (some S::some (.own A t1)::some (.own st t2)::σ)=some (d,some S::some (.own A' t1)::some (.own st' t2)::σ):=by
 obtain⟨x,rfl⟩:=hS
 unfold aA
 show (if ([1,2]:List Nat).Nodup then (some [DV.v x,.own A none,.own st none]).bind (fun xs=>(aQ C xs).bind _) else none)=_
 rw[Yh (by decide),Ya,hm]
 rfl
end
def bq (L:LS)(p s:D):OD:=lst L.K L.T L.O L.G L.U (.int L.h) p s
structure Inv (C:Addr) (L:LS) (w:List Nat) (k:Nat):Prop where
 l:LOk L
 n:1≤L.K.length
 t:∀ t∈L.T,okT (L.K.length:Int) t
 h:0≤L.h∧L.h<(L.K.length:Int)
 g:∀ g∈L.G,0≤g∧g<(L.K.length:Int)
 gl:L.G.length≤L.K.length
 a:∀ c∈w,c<128
 r:∃ R,Rel L R []∧R.G=L.G∧Reads C w L.h R k
theorem re {ms:List Mk}:∀ c∈mtx ms,c<128:=fun c hc=>by
 obtain⟨q,_,h⟩:=Zl.mp hc
 rcases YC.mp h with rfl | h
 ·have:∀ j:Nat,ldN j<128:=fun j=>by unfold ldN;split <;> decide
  exact this _
 ·exact i5 _ c h
theorem zX {e:Ev}:∀ c∈evT e,c<128:=fun c hc=>by
 obtain⟨n,m⟩:=e
 rcases YC.mp hc with rfl | hc
 ·decide
 ·rcases Yj.mp hc with h | h
  ·exact i5 _ c h
  ·cases m with
   | none=>rw[Yl.mp h];decide
   | some m=>
    rcases YC.mp h with rfl | h
    ·decide
    ·rcases Yj.mp h with h | h
     ·exact re c h
     ·rw[Yl.mp h];decide
theorem mo {kd:List Nat}{evs:List Ev}(h:okW (sT kd)):∀ c∈plT kd evs,c<128:=fun c hc=>by
 rcases Yj.mp hc with hc | hc
 ·have:=h.2.2 c hc;omega
 ·obtain⟨e,_,he⟩:=Zl.mp hc
  exact zX c he
section
variable {C:Addr} {ns:List Int} {p s:D}
theorem eP (hl:ns.length≤100)(hs:okSm s)(hp:okPl p){L:LS}{R:RS}{X:List T4}{A:OD}{b:Nat}(hA:At A b)(hb:b+200≤1000000000)(hL:LOk L)(hR:Rel L R X)(h6:L.K.length≤6)(hT:∀ t∈L.T,okT ((L.K.length:Int)+1) t) :
  ∃ (A':OD) (kd:List Nat) (evs:List Ev) (L':LS),At A' (b+200)∧OkR R kd evs∧LOk L'∧L'.K.length=L.K.length+1∧L'.G=L.G∧L'.h=L.h∧(∀ t∈L'.T,okT (L'.K.length:Int) t)∧(∀ G',Rel L' (plS R kd evs X G') [])∧(plT kd evs).length≤3003∧aQ C [SC ns,.own A none,.own (bq L p s) none]=some ([SC ns,.own A' none,.own (bq L' p s) none],.str (sT (plT kd evs))):=by
 have hul:=hL.ul
 have hle:=hL.le
 obtain⟨A',kd,evs0,evs,O',h1,h2,h3⟩:=sI (C:=C) (h:=.int L.h) (G:=L.G) hl hs hp hA hb (K:=L.K) (T:=L.T) (O:=L.O) (U:=L.U) hL.k7 (List.Pairwise.of_map (·.1) (fun a b h e=>h (e ▸ rfl)) hL.on) (fun o ho=>(hL.u9 _ (hL.ou o ho)).2) hle (by omega) hL.un
 have hP:=h2 L.h
 have kl:(plL L kd evs0 O').K.length=L.K.length+1:=by show (L.K++[sT kd]).length=_;rw[Yc];rfl
 refine⟨A',kd,evs,plL L kd evs0 O',h1,EJ hL hR hP,ER hL hP h6,kl,rfl,rfl,fun t ht=>?_,fun G'=>EG hL hR hP,?_,h3⟩
 ·have:=EM hL hP hT t ht
  rw[kl]
  rw[show (((L.K.length+1:Nat)):Int)=(L.K.length:Int)+1 by omega]
  exact this
 ·have:=hP.sg
  have:=hP.kd.2.1
  unfold plT
  rw[Yc]
  have:kd.length≤3:=this
  omega
end
theorem C7 {as:Nat→Addr}{x d:D}{A A' st st':OD}{σ:DF}:nn as [.v x,.own A none,.own st none] (.rt (.v d) (some (.v x)::some (.own A' (some (as 1)))::some (.own st' (some (as 2)))::σ))=some ([.v x,.own A' none,.own st' none],d):=by
 simp[nn,fw]
theorem wA {f:DX}{ρ ρ':DF}{d:D}(h:f ρ=some (d,ρ')):dC f ρ=some (.rt (.v d) ρ'):=by
 unfold dC
 rw[h]
 rfl
theorem eZ {c:Dk}{g h:Dw}{ρ:DF}{b:Bool}(e:c ρ=some b):dIf c g h ρ=if b=true then g ρ else h ρ:=by
 rw[bX,e];rfl
theorem eqN {i:Nat}{ρ:DF}{v m:Int}(h:ao i ρ=some (.int v)):asB (d2 eqD (ao i) (fun _=>some (.int m))) ρ=some (decide (v=m)):=by
 rw[bt,ar,h]
 show (match eqD (.int v) (.int m) with | some (.bl b)=>some b | _=>none:Option Bool)=_
 rw[dO]
theorem uH {c d:Dk}{ρ:DF}{a b:Bool}(h1:c ρ=some a)(h2:d ρ=some b):dB c d ρ=some (a&&b):=by
 rw[gI,h1,h2]
 cases a <;> rfl
theorem zR {c d:Dk}{ρ:DF}{a b:Bool}(h1:c ρ=some a)(h2:d ρ=some b):orT c d ρ=some (a||b):=by
 rw[vd,h1,h2]
 cases a <;> rfl
section
variable {C:Addr} {ns:List Int} {p s:D}
abbrev spF (ns:List Int)(A:OD)(t1:Option Addr)(st:OD)(t2:Option Addr)(way room:Int)(x5 x6:Option DV):DF:=[some (SC ns),some (.own A t1),some (.own st t2),some (.v (.int way)),some (.v (.int room)),x5,x6]
theorem Bn {K T O G U:List D}{h p s:D}{A:OD}{t1 t2:Option Addr}{σ:DF}{x:Option DV}:d1 aM (aL none 2 "boughs") (x::some (.own A t1)::some (.own (stO K T O G U h p s) t2)::σ)=some (.int (G.length:Int)):=by
 rw[cc,kg];rfl
theorem vZ {K T O G U:List D}{h p s:D}{A:OD}{t1 t2:Option Addr}{σ:DF}{x:Option DV}:d1 aM (aL none 2 "kinds") (x::some (.own A t1)::some (.own (stO K T O G U h p s) t2)::σ)=some (.int (K.length:Int)):=by
 rw[cc,mZ];rfl
theorem CC {K T O G U:List D}{h p s:D}{A:OD}{t1 t2:Option Addr}{σ:DF}{x:Option DV}:d1 aM (aL none 2 "ties") (x::some (.own A t1)::some (.own (stO K T O G U h p s) t2)::σ)=some (.int (T.length:Int)):=by
 rw[cc,mP];rfl
theorem Cs {K T O G U:List D}{h p s:D}{A:OD}{t1 t2:Option Addr}{σ:DF}{x:Option DV}:d1 aM (aL none 2 "open") (x::some (.own A t1)::some (.own (stO K T O G U h p s) t2)::σ)=some (.int (O.length:Int)):=by
 rw[cc,iZ];rfl
theorem wB (hl:ns.length≤100)(hs:okSm s)(hp:okPl p){L:LS}{w:List Nat}{k:Nat}(hI:Inv C L w k){A:OD}{b:Nat}(hA:At A b)(hb:b+300≤1000000000):∃ (A':OD) (w2:List Nat) (L':LS) (k':Nat),At A' (b+300)∧w2.length≤4000∧Inv C L' (w++w2) k'∧k'≤k+1 ∧
  dS C [SC ns,.own A none,.own (bq L p s) none]=some ([SC ns,.own A' none,.own (bq L' p s) none],.str (sT w2)):=by
 obtain⟨v,A1,hA1,v0,_,hv⟩:=dn C ns hl hA (by omega)
 obtain⟨lok,ln,lt,lh,lg,lgl,la,R,hRel,hRG,hRd⟩:=hI
 have hw7:0≤v%7∧v%7<7:=by omega
 generalize hway:v%7=way at hw7
 have lle:=lok.le
 have lk7:=lok.k7
 let room:Int:=12-(L.T.length:Int)-(L.O.length:Int)
 have hroom:room=12-(L.T.length:Int)-(L.O.length:Int):=rfl
 have key:∃ (A':OD) (w2:List Nat) (L':LS) (k':Nat),At A' (b+300)∧w2.length≤4000∧Inv C L' (w++w2) k'∧k'≤k+1∧∀ t1 t2:Option Addr,∃ σ',(ai (dIf (dB (asB (d2 eqD (ao 3) (cI 0))) (asB (d2 gtI (d1 aM (aL none 2 "boughs")) (cI 0)))) (ai (fV 2 "here" (i8 none 2 "boughs"))
  (bL (fun _=>some (.str ")")))) dNx)
  (ai (dIf (asB (d2 gtI (d1 aM (aL none 2 "kinds")) (cI 6))) (bL (fun _=>some (.str ""))) dNx)
  (ai (dIf (dB (asB (d2 eqD (ao 3) (cI 1))) (asB (d2 eqD (d1 aM (aL none 2 "boughs")) (cI 0)))) (ai (fV 2 "here" (ag (d1 aM (aL none 2 "kinds"))))
  (dC (x2 az (ag (fun _=>some (.str "."))) (aA (aQ C) (aJ (ag (getV 0)) (aC 1 (aC 2 bv))))))) dNx)
  (ai (dIf (orT (asB (d2 eqD (ao 3) (cI 0))) (orT (asB (d2 eqD (ao 3) (cI 1))) (asB (d2 ltd (ao 4) (cI 1))))) (bL (fun _=>some (.str ""))) dNx)
  (ai (aZ 5 (cL none 2 "here"))
  (ai (fV 2 "here" (ag (d1 aM (aL none 2 "kinds"))))
  (ai (aS 6 (aA (aX C) (aJ (ag (getV 0)) (aC 1 (aC 2 (aJ (ag (getV 5)) (aJ (ag (cL none 2 "here")) (aJ (ag (getV 4)) bv))))))))
  (ai (aS 6 (x2 az (ag (getV 6)) (aA (aQ C) (aJ (ag (getV 0)) (aC 1 (aC 2 bv))))))
  (ai (dIf (asB (d2 gtI (al 3) (cI 4))) (ai (bK none 2 "boughs" (getV 5))
  (aZ 6 (d2 az (fun _=>some (.str "(")) (al 6)))) dNx)
  (bL (getV 6))))))))))) (spF ns A1 t1 (bq L p s) t2 way room none none)=some (.rt (.v (.str (sT w2))) (some (SC ns)::some (.own A' t1)::some (.own (bq L' p s) t2)::σ')):=by
  have c0:∀ t1 t2:Option Addr,(dB (asB (d2 eqD (ao 3) (cI 0))) (asB (d2 gtI (d1 aM (aL none 2 "boughs")) (cI 0)))) (spF ns A1 t1 (bq L p s) t2 way room none none)=some (decide (way=0)&&decide ((0:Int)<(L.G.length:Int))):=fun t1 t2=>uH (eqN rfl) (by
   rw[bt,ar]
   unfold bq lst
   rw[Bn,Yb]
   rfl)
  by_cases q0:(decide (way=0)&&decide ((0:Int)<(L.G.length:Int)))=true
  ·-- a bough ends
   have q1:=q0
   rw[Ys,YB,YB] at q1
   obtain⟨G1,g,hG⟩:∃ G1 g,L.G=G1++[g]:=by
    refine⟨L.G.dropLast,L.G.getLast (fun z=>by rw[z] at q1;simp at q1),?_⟩
    rw[List.dropLast_concat_getLast]
   have hg:=lg g (by rw[hG];simp)
   refine⟨A1,[41],{ L with G:=G1,h:=g },k+1,hA1.mono (by omega),by simp,⟨⟨lok.kw,lok.k7,lok.o7,lok.le,lok.on,lok.ou,lok.op,lok.un,lok.u9,lok.ul⟩,ln,lt,hg,fun x hx=>lg x (by rw[hG];exact Yj.mpr (.inl hx)),?_,fun c hc=>?_,{ R with G:=G1 },⟨hRel.k,hRel.t,hRel.b,hRel.o,hRel.c,hRel.n⟩,rfl,?_⟩,by omega,fun t1 t2=>⟨[some (.v (.int way)),some (.v (.int room)),none,none],?_⟩⟩
   ·rw[hG,Yc] at lgl;show G1.length≤L.K.length;omega
   ·rcases Yj.mp hc with hc | hc
    ·exact la c hc
    ·rw[Yl.mp hc];decide
   ·exact hRd.go (wm (by rw[hRG];exact hG))
   ·rw[dQ]
    rw[eZ (c0 t1 t2),Yh q0,yd]
    unfold bq lst
    rw[hG,show (G1++[g]).map D.int=G1.map D.int++[D.int g] from Yz]
    rw[ae (ρ':=spF ns A1 t1 (stO (L.K.map .str) (L.T.map dT4) (L.O.map dOp) (G1.map .int) (dUs L.U) (.int g) p s) t2 way room none none) (mN (f:=i8 none 2 "boughs") Bq)]
    rfl
  rw[Xw] at q0
  have n0:∀ (t1 t2:Option Addr) (g K:Dw),ai (dIf (dB (asB (d2 eqD (ao 3) (cI 0))) (asB (d2 gtI (d1 aM (aL none 2 "boughs")) (cI 0)))) g dNx) K (spF ns A1 t1 (bq L p s) t2 way room none none)=K (spF ns A1 t1 (bq L p s) t2 way room none none):=fun t1 t2 g K=>ae (by rw[eZ (c0 t1 t2),q0];rfl)
  have ck:∀ t1 t2:Option Addr,asB (d2 gtI (d1 aM (aL none 2 "kinds")) (cI 6)) (spF ns A1 t1 (bq L p s) t2 way room none none)=some (decide ((6:Int)<(L.K.length:Int))):=fun t1 t2=>by
   rw[bt,ar]
   unfold bq lst
   rw[vZ,Yb]
   rfl
  have nothing:Inv C L (w++[]) k:=by rw[Yi];exact⟨lok,ln,lt,lh,lg,lgl,la,R,hRel,hRG,hRd⟩
  by_cases q6:(6:Int)<(L.K.length:Int)
  ·refine⟨A1,[],L,k,hA1.mono (by omega),by simp,nothing,by omega,fun t1 t2=>⟨[some (.v (.int way)),some (.v (.int room)),none,none],?_⟩⟩
   rw[n0,dQ]
   rw[eZ (ck t1 t2),YF q6,show ("":Str)=sT [] by kernel_rfl]
   rfl
  have n6:∀ (t1 t2:Option Addr) (g K:Dw),ai (dIf (asB (d2 gtI (d1 aM (aL none 2 "kinds")) (cI 6))) g dNx) K (spF ns A1 t1 (bq L p s) t2 way room none none)=K (spF ns A1 t1 (bq L p s) t2 way room none none):=fun t1 t2 g K=>ae (by rw[eZ (ck t1 t2),Yk q6];rfl)
  have h6:L.K.length≤6:=by omega
  have c1:∀ t1 t2:Option Addr,(dB (asB (d2 eqD (ao 3) (cI 1))) (asB (d2 eqD (d1 aM (aL none 2 "boughs")) (cI 0)))) (spF ns A1 t1 (bq L p s) t2 way room none none)=some (decide (way=1)&&decide ((L.G.length:Int)=0)):=fun t1 t2=>uH (eqN rfl) (by
   rw[bt,ar]
   unfold bq lst
   rw[Bn,Yb]
   show (match eqD (.int (L.G.length:Int)) (.int 0) with | some (.bl b)=>some b | _=>none:Option Bool)=_
   rw[dO])
  by_cases q1:(decide (way=1)&&decide ((L.G.length:Int)=0))=true
  ·-- a new run
   have q2:=q1
   rw[Ys,YB,YB] at q2
   have hG:L.G=[]:=ZO.mp (by omega)
   obtain⟨A2,kd,evs,L2,hA2,hO,hL2,kl2,g2,h2,t2',rel2,pl2,hm⟩:=eP (C:=C) hl hs hp hA1 (by omega) (L:={ L with h:=(L.K.length:Int) }) (R:=R) (X:=[]) ⟨lok.kw,lok.k7,lok.o7,lok.le,lok.on,lok.ou,lok.op,lok.un,lok.u9,lok.ul⟩ ⟨hRel.k,hRel.t,hRel.b,hRel.o,hRel.c,hRel.n⟩ h6 (fun t ht=>pR (lt t ht))
   have kl2:L2.K.length=L.K.length+1:=kl2
   have g2:L2.G=L.G:=g2
   have h2:L2.h=(L.K.length:Int):=h2
   have hk:R.K.length=L.K.length:=by rw[hRel.k]
   refine⟨A2,46::plT kd evs,L2,k+1,hA2.mono (by omega),by rw[Yg];omega,⟨hL2,by omega,t2',by rw[h2,kl2];omega,(fun x hx=>by rw[g2,hG] at hx;exact (nomatch hx)),by rw[g2,hG];exact YO _,fun c hc=>?_,plS R kd evs [] R.G,rel2 R.G,by rw[g2];exact hRG,?_⟩,by omega,fun t1 t2=>⟨[some (.v (.int way)),some (.v (.int room)),none,none],?_⟩⟩
   ·rcases Yj.mp hc with hc | hc
    ·exact la c hc
    ·rcases YC.mp hc with rfl | hc
     ·decide
     ·exact mo hO.p.kd c hc
   ·rw[h2,← hk]
    exact hRd.go (tE hO (by rw[hRG];exact hG))
   ·rw[n0,n6,dQ]
    rw[eZ (c1 t1 t2),Yh q1,Bu]
    rw[ae (ρ':=spF ns A1 t1 (bq { L with h:=(L.K.length:Int) } p s) t2 way room none none) (by
     refine (mN (f:=ag (d1 aM (aL none 2 "kinds"))) (K:=L.K.map .str) (T:=L.T.map dT4) (O:=L.O.map dOp) (G:=L.G.map .int) (U:=dUs L.U) (h:=.int L.h) (bF vZ)).trans ?_
     rw[Yb]
     rfl)]
    have hx:=fS (f:=az) (bF (f:=fun _=>some (D.str (sT [46]))) rfl) (rG (C:=C) (t1:=t1) (t2:=t2) (σ:=[some (.v (.int way)),some (.v (.int room)),none,none]) ⟨_,rfl⟩ hm) (cQ (a:=[46]) (by simp;omega))
    exact wA hx
  rw[Xw] at q1
  have n1:∀ (t1 t2:Option Addr) (g K:Dw),ai (dIf (dB (asB (d2 eqD (ao 3) (cI 1))) (asB (d2 eqD (d1 aM (aL none 2 "boughs")) (cI 0)))) g dNx) K (spF ns A1 t1 (bq L p s) t2 way room none none)=K (spF ns A1 t1 (bq L p s) t2 way room none none):=fun t1 t2 g K=>ae (by rw[eZ (c1 t1 t2),q1];rfl)
  have c3:∀ t1 t2:Option Addr,(orT (asB (d2 eqD (ao 3) (cI 0))) (orT (asB (d2 eqD (ao 3) (cI 1))) (asB (d2 ltd (ao 4) (cI 1))))) (spF ns A1 t1 (bq L p s) t2 way room none none)=some (decide (way=0)||(decide (way=1)||decide (room<1))):=fun t1 t2=>zR (eqN rfl) (zR (eqN rfl) rfl)
  by_cases q3:(decide (way=0)||(decide (way=1)||decide (room<1)))=true
  ·refine⟨A1,[],L,k,hA1.mono (by omega),by simp,nothing,by omega,fun t1 t2=>⟨[some (.v (.int way)),some (.v (.int room)),none,none],?_⟩⟩
   rw[n0,n6,n1,dQ]
   rw[eZ (c3 t1 t2),q3,show ("":Str)=sT [] by kernel_rfl]
   rfl
  -- marks and a place
  have q4:=q3
  rw[Xw,Bool.or_eq_false_iff,Bool.or_eq_false_iff,Zb,Zb,Zb] at q4
  rw[Xw] at q3
  have n3:∀ (t1 t2:Option Addr) (g K:Dw),ai (dIf (orT (asB (d2 eqD (ao 3) (cI 0))) (orT (asB (d2 eqD (ao 3) (cI 1))) (asB (d2 ltd (ao 4) (cI 1))))) g dNx) K (spF ns A1 t1 (bq L p s) t2 way room none none)=K (spF ns A1 t1 (bq L p s) t2 way room none none):=fun t1 t2 g K=>ae (by rw[eZ (c3 t1 t2),q3];rfl)
  obtain⟨Am,ms,hAm,m1,m2,m3,m4,hmk⟩:=j9 (C:=C) (K:=L.K.map .str) (T:=L.T.map dT4) (O:=L.O.map dOp) (G:=L.G.map .int) (U:=dUs L.U) (h:=.int (L.K.length:Int)) (p:=p) (one:=L.h) (oth:=(L.K.length:Int)) hl hs hA1 (by omega) (by rw[Yb];omega) (room:=room) (by omega)
  let X:=ms.map (bu L.h (L.K.length:Int))
  have hX:X.length=ms.length:=Yb ..
  let L1:LS:={ L with T:=L.T++X,h:=(L.K.length:Int) }
  have hL1:LOk L1:=⟨lok.kw,lok.k7,lok.o7,by show (L.T++X).length+L.O.length≤12;rw[Yc];omega,lok.on,lok.ou,lok.op,lok.un,lok.u9,by have:=lok.ul;show L.U.length≤(L.T++X).length+L.O.length;rw[Yc];omega⟩
  have hRel1:Rel L1 R X:=⟨hRel.k,by have:=hRel.t;rw[Yi] at this;exact ZR X this,hRel.b,hRel.o,hRel.c,hRel.n⟩
  obtain⟨A2,kd,evs,L2,hA2,hO,hL2,kl2,g2,h2,t2',rel2,pl2,hm⟩:=eP (C:=C) hl hs hp hAm (by omega) (L:=L1) (R:=R) (X:=X) hL1 hRel1 h6 (fun t ht=>by
   rcases Yj.mp ht with ht | ht
   ·exact pR (lt t ht)
   ·obtain⟨q,hq,rfl⟩:=Yo.mp ht
    exact qT ⟨lh.1,by show L.h<(L.K.length:Int)+1;omega⟩ ⟨by show (0:Int)≤(L.K.length:Int);omega,by show (L.K.length:Int)<(L.K.length:Int)+1;omega⟩ (by omega) (m1 q hq))
  have kl2:L2.K.length=L.K.length+1:=kl2
  have g2:L2.G=L.G:=g2
  have h2:L2.h=(L.K.length:Int):=h2
  have hk:R.K.length=L.K.length:=by rw[hRel.k]
  have mtl:=iW m1
  have fr:∀ t1 t2:Option Addr,∀ Kk:DF→Option RES,(ai (aZ 5 (cL none 2 "here"))
  (ai (fV 2 "here" (ag (d1 aM (aL none 2 "kinds"))))
  (ai (aS 6 (aA (aX C) (aJ (ag (getV 0)) (aC 1 (aC 2 (aJ (ag (getV 5)) (aJ (ag (cL none 2 "here")) (aJ (ag (getV 4)) bv))))))))
  (ai (aS 6 (x2 az (ag (getV 6)) (aA (aQ C) (aJ (ag (getV 0)) (aC 1 (aC 2 bv)))))) Kk)))) (spF ns A1 t1 (bq L p s) t2 way room none none)=Kk (spF ns A2 t1 (bq L2 p s) t2 way room (some (.v (.int L.h))) (some (.v (.str (sT (mtx ms++plT kd evs)))))):=fun t1 t2 Kk=>by
   unfold bq lst
   rw[ae (ρ':=spF ns A1 t1 (stO (L.K.map .str) (L.T.map dT4) (L.O.map dOp) (L.G.map .int) (dUs L.U) (.int L.h) p s) t2 way room (some (.v (.int L.h))) none) (by rw[bn,qH];rfl)]
   rw[ae (ρ':=spF ns A1 t1 (stO (L.K.map .str) (L.T.map dT4) (L.O.map dOp) (L.G.map .int) (dUs L.U) (.int (L.K.length:Int)) p s) t2 way room (some (.v (.int L.h))) none) (by
     refine (mN (f:=ag (d1 aM (aL none 2 "kinds"))) (bF vZ)).trans ?_
     rw[Yb])]
   rw[ae (cf (rg (C:=C) (d1:=.int L.h) (d2:=.int (L.K.length:Int)) (d3:=.int room) ⟨_,rfl⟩ rfl qH rfl hmk))]
   have hx:=fS (f:=az) (bF (f:=getV 6) (d:=.str (sT (mtx ms))) (ρ:=spF ns Am t1 (bq L1 p s) t2 way room (some (.v (.int L.h))) (some (.v (.str (sT (mtx ms)))))) rfl) (rG (C:=C) ⟨_,rfl⟩ hm) (cQ (by omega))
   have hst:stO (L.K.map .str) (L.T.map dT4++X.map dT4) (L.O.map dOp) (L.G.map .int) (dUs L.U) (.int (L.K.length:Int)) p s=bq L1 p s:=by
    show _=stO (L.K.map .str) ((L.T++X).map dT4) _ _ _ _ _ _
    rw[Yz]
   show ai _ Kk (spF ns Am t1 (stO (L.K.map .str) (L.T.map dT4++X.map dT4) (L.O.map dOp) (L.G.map .int) (dUs L.U) (.int (L.K.length:Int)) p s) t2 way room (some (.v (.int L.h))) (some (.v (.str (sT (mtx ms))))))=_
   rw[hst,ae (cf hx)]
   rfl
  have ascw:∀ c∈mtx ms++plT kd evs,c<128:=fun c hc=>by
   rcases Yj.mp hc with hc | hc
   ·exact re c hc
   ·exact mo hO.p.kd c hc
  by_cases q5:(4:Int)<way
  ·refine⟨A2,40::(mtx ms++plT kd evs),{ L2 with G:=L2.G++[L.h] },k+1,hA2.mono (by omega),by rw[Yg,Yc];omega,⟨⟨hL2.kw,hL2.k7,hL2.o7,hL2.le,hL2.on,hL2.ou,hL2.op,hL2.un,hL2.u9,hL2.ul⟩,by show 1≤L2.K.length;omega,t2',by show 0≤L2.h∧L2.h<(L2.K.length:Int);rw[h2,kl2];omega,fun x hx=>?_,?_,fun c hc=>?_,plS R kd evs X (R.G++[L.h]),?_,by show R.G++[L.h]=L2.G++[L.h];rw[g2,hRG],?_⟩,by omega,fun t1 t2=>⟨[some (.v (.int way)),some (.v (.int room)),some (.v (.int L.h)),some (.v (.str (sT (40::(mtx ms++plT kd evs)))))],?_⟩⟩
   ·show 0≤x∧x<(L2.K.length:Int)
    rw[kl2]
    rcases Yj.mp hx with hx | hx
    ·rw[g2] at hx;have:=lg x hx;omega
    ·rw[Yl.mp hx];omega
   ·show (L2.G++[L.h]).length≤L2.K.length
    rw[Yc,g2,kl2];show L.G.length+1≤_;omega
   ·rcases Yj.mp hc with hc | hc
    ·exact la c hc
    ·rcases YC.mp hc with rfl | hc
     ·decide
     ·exact ascw c hc
   ·have:=rel2 (R.G++[L.h])
    exact⟨this.k,this.t,this.b,this.o,this.c,this.n⟩
   ·show Reads C _ L2.h _ _
    rw[h2,← hk]
    have:=vH (C:=C) (h:=L.h) hO (by rw[hRG];omega) m1 m2 (by omega)
    rw[hk] at this ⊢
    exact hRd.go this
   ·rw[n0,n6,n1,n3,fr]
    rw[ae (ρ':=spF ns A2 t1 (bq { L2 with G:=L2.G++[L.h] } p s) t2 way room (some (.v (.int L.h))) (some (.v (.str (sT (40::(mtx ms++plT kd evs))))))) (by
     rw[eZ (show asB (d2 gtI (al 3) (cI 4)) (spF ns A2 t1 (bq L2 p s) t2 way room (some (.v (.int L.h))) (some (.v (.str (sT (mtx ms++plT kd evs))))))=some (decide ((4:Int)<way)) from rfl),YF q5,Yh rfl]
     rw[ae (show bK none 2 "boughs" (getV 5) (spF ns A2 t1 (bq L2 p s) t2 way room (some (.v (.int L.h))) (some (.v (.str (sT (mtx ms++plT kd evs))))))=some (.nx (spF ns A2 t1 (stO (L2.K.map .str) (L2.T.map dT4) (L2.O.map dOp) (L2.G.map .int++[.int L.h]) (dUs L2.U) (.int L2.h) p s) t2 way room (some (.v (.int L.h))) (some (.v (.str (sT (mtx ms++plT kd evs))))))) from yq rfl (by rw[Yb,g2];omega))]
     rw[bn,ar,xJ]
     show Option.map _ (az (.str (sT [40])) (.str (sT (mtx ms++plT kd evs))))=_
     rw[cQ (by rw[Yc];simp;omega)]
     show some (RES.nx _)=some (RES.nx (spF ns A2 t1 (stO (L2.K.map .str) (L2.T.map dT4) (L2.O.map dOp) ((L2.G++[L.h]).map .int) (dUs L2.U) (.int L2.h) p s) t2 way room _ _))
     rw[Yz (l₁:=L2.G)]
     rfl)]
    rfl
  ·refine⟨A2,mtx ms++plT kd evs,L2,k+1,hA2.mono (by omega),by rw[Yc];omega,⟨hL2,by omega,t2',by rw[h2,kl2];omega,fun x hx=>?_,by rw[g2,kl2];omega,fun c hc=>?_,plS R kd evs X R.G,rel2 R.G,by show R.G=L2.G;rw[g2,hRG],?_⟩,by omega,fun t1 t2=>⟨[some (.v (.int way)),some (.v (.int room)),some (.v (.int L.h)),some (.v (.str (sT (mtx ms++plT kd evs))))],?_⟩⟩
   ·rw[g2] at hx;have:=lg x hx;rw[kl2];omega
   ·rcases Yj.mp hc with hc | hc
    ·exact la c hc
    ·exact ascw c hc
   ·rw[h2]
    have:=xA (C:=C) (h:=L.h) hO m1 m2 (by omega)
    rw[hk] at this
    exact hRd.go this
   ·rw[n0,n6,n1,n3,fr]
    rw[ae (by
     rw[eZ (show asB (d2 gtI (al 3) (cI 4)) (spF ns A2 t1 (bq L2 p s) t2 way room (some (.v (.int L.h))) (some (.v (.str (sT (mtx ms++plT kd evs))))))=some (decide ((4:Int)<way)) from rfl),Yk q5]
     rfl)]
    rfl
 obtain⟨A',w2,L',k',h1,h2,h3,h4,h5⟩:=key
 refine⟨A',w2,L',k',h1,h2,h3,h4,fN rfl fun as=>?_⟩
 obtain⟨σ',e⟩:=h5 (some (as 1)) (some (as 2))
 show (vE C [some (SC ns),some (.own A (some (as 1))),some (.own (bq L p s) (some (as 2))),none,none,none,none]).bind _=_
 unfold vE
 rw[ae (cf (ji (by decide) hv)),hway]
 rw[ae (ρ':=spF ns A1 (some (as 1)) (bq L p s) (some (as 2)) way room none none) (by
  show aZ 4 _ [some (SC ns),some (.own A1 (some (as 1))),some (.own (stO (L.K.map .str) (L.T.map dT4) (L.O.map dOp) (L.G.map .int) (dUs L.U) (.int L.h) p s) (some (as 2))),some (.v (.int way)),none,none,none]=_
  rw[bn,ar,ar,CC,Cs,Yb,Yb]
  rfl)]
 rw[e]
 exact C7
end
def ltr (l:List Nat):Prop:=∀ c∈l,97≤c∧c≤122
theorem rE {l:List Nat}(h1:1≤l.length)(h3:l.length≤3)(h:ltr l):okW (sT l):=⟨by rw[show (sT l).cps.size=l.length from Ym];exact h1,by rw[show (sT l).cps.size=l.length from Ym];exact h3,h⟩
theorem zU {cs:List Nat}(h1:1≤cs.length)(h3:cs.length≤3)(h:ltr cs){z:Int}(hz:0≤z∧z<(cs.length:Int)):∃ x y:List Nat,Txt.slice (sT cs) none (some z)=sT x∧Txt.slice (sT cs) (some (z+1)) none=sT y∧x.length+1+y.length=cs.length∧ltr x∧ltr y∧∃ c,ixD (.str (sT cs)) (.int z)=some (.str (sT [c])):=by
 match cs,h1,h3,h,hz with
 | [a],_,_,h,hz=>
  have:z=0:=by simp at hz;omega
  subst this
  exact⟨[],[],by kernel_rfl,by kernel_rfl,rfl,(fun c hc=>nomatch hc),(fun c hc=>nomatch hc),a,rfl⟩
 | [a,b],_,_,h,hz=>
  have:z=0∨z=1:=by simp at hz;omega
  rcases this with rfl | rfl
  ·exact⟨[],[b],by kernel_rfl,by kernel_rfl,rfl,(fun c hc=>nomatch hc),fun c hc=>h c (Yd _ hc),a,rfl⟩
  ·exact⟨[a],[],by kernel_rfl,by kernel_rfl,rfl,fun c hc=>h c (by rw[Yl.mp hc];exact Yf),(fun c hc=>nomatch hc),b,rfl⟩
 | [a,b,c],_,_,h,hz=>
  have:z=0∨z=1∨z=2:=by simp at hz;omega
  rcases this with rfl | rfl | rfl
  ·exact⟨[],[b,c],by kernel_rfl,by kernel_rfl,rfl,(fun c hc=>nomatch hc),fun x hx=>h x (Yd _ hx),a,rfl⟩
  ·exact⟨[a],[c],by kernel_rfl,by kernel_rfl,rfl,fun x hx=>h x (by rw[Yl.mp hx];exact Yf),fun x hx=>h x (by rw[Yl.mp hx];simp),b,rfl⟩
  ·exact⟨[a,b],[],by kernel_rfl,by kernel_rfl,rfl,fun x hx=>h x (by rcases YC.mp hx with rfl | hx;simp;rw[Yl.mp hx];simp),(fun c hc=>nomatch hc),c,rfl⟩
theorem yk {cs:List Nat}(h1:1≤cs.length)(h3:cs.length≤3)(h:ltr cs):∃ x:List Nat,Txt.slice (sT cs) none (some 2)=sT x∧1≤x.length∧x.length≤3∧ltr x:=by
 match cs,h1,h3,h with
 | [a],_,_,h=>exact⟨[a],by kernel_rfl,by simp,by simp,h⟩
 | [a,b],_,_,h=>exact⟨[a,b],by kernel_rfl,by simp,by simp,h⟩
 | [a,b,c],_,_,h=>exact⟨[a,b],by kernel_rfl,by simp,by simp,fun x hx=>h x (by rcases YC.mp hx with rfl | hx;simp;rw[Yl.mp hx];simp)⟩
theorem AG (cs:List Nat)(h:cs.length≤100):jR (.str (sT [])) (.lst (cs.map fun c=>.str (sT [c])))=some (.str (sT cs)):=by
 have et:(cs.map fun c=>D.str (sT [c])).map txt=(cs.map fun c=>[c]).map sT:=by rw[Zg,Zg];rfl
 show (if e_ (sT []) _=true then some (D.str (Txt.join (sT []) ((cs.map fun c=>D.str (sT [c])).map txt))) else none)=_
 rw[Yh,et]
 ·show some (D.str (Builtin.Str.glued (sT []) _))=_
  rw[StrLaws.glued_eq_join,o6]
  have:∀ l:List Nat,(l.map fun c=>[c]).flatten=l:=fun l=>by induction l with | nil=>rfl | cons a l ih=>rw[YA,List.flatten_cons,ih];rfl
  rw[this]
 ·unfold e_
  rw[Ys,YG,YB,et]
  refine⟨fun d hd=>by obtain⟨e,_,rfl⟩:=Yo.mp hd;rfl,?_⟩
  have:=lU (L:=((cs.map fun c=>[c]).map sT).map (·.length)) (c:=1) fun x hx=>by
   rw[Zg,Zg] at hx
   obtain⟨e,he,rfl⟩:=Yo.mp hx
   exact Yx _
  rw[Yb,Yb,Yb] at this
  rw[Yb,Yb,show (sT []).length=0 from rfl,Nat.mul_zero]
  omega
theorem zG {f:Dd}{g:Dd}{ρ:DF}{l:List Nat}{z:Int}{x:List Nat}(hf:f ρ=some (.str (sT l)))(hl:l.length≤100)(hg:g ρ=some (.int z))(hx:Txt.slice (sT l) none (some z)=sT x):slS f bNo (bI g) ρ=some (.str (sT x)):=by
 rw[lC,hf]
 show (if (sT l).length≤16777216 then _ else none)=_
 rw[cP,Yh (by omega),kW,hg,← hx]
 rfl
theorem CZ {f:Dd}{g:Dd}{ρ:DF}{l:List Nat}{z:Int}{x:List Nat}(hf:f ρ=some (.str (sT l)))(hl:l.length≤100)(hg:g ρ=some (.int z))(hx:Txt.slice (sT l) (some z) none=sT x):slS f (bI g) bNo ρ=some (.str (sT x)):=by
 rw[lC,hf]
 show (if (sT l).length≤16777216 then _ else none)=_
 rw[cP,Yh (by omega),kW,hg,← hx]
 rfl
theorem xn (C:Addr)(ns:List Int)(hl:ns.length≤100){A:OD}{b:Nat}(hA:At A b)(hb:b≤1000000000):∃ (A':OD) (p:D),At A' (b+1)∧okPl p∧fy C [SC ns,.own A none]=some ([SC ns,.own A' none],p):=by
 obtain⟨v,A1,hA1,v0,v1,hv⟩:=dn C ns hl hA hb
 have f3:=bZ v 3 (by decide)
 have f7:=bZ v 7 (by decide)
 have f11:=bZ v 11 (by decide)
 have f13:=bZ v 13 (by decide)
 have f17:=bZ v 17 (by decide)
 have m26:∀ y:Int,aR (.int y) (.int 26)=some (.int (y%26)):=fun y=>bm y 26 (by decide)
 have hsz:1≤1+v%3∧1+v%3≤3:=by omega
 generalize hZ:1+v%3=Z at hsz
 have hcomp:∃ cs:List Nat,(cs.length:Int)=Z∧ltr cs∧dL (setV 0) e8 (d2 ixD (al 1) (d2 aR (d2 az (d2 bH (al 2) (cI 3)) (d2 dm (al 0) (d2 bH (al 2) (cI 7)))) (cI 26))) [none,some (.v (.str abc)),some (.v (.int v))] ((dX Z).map .int)=some (cs.map fun c=>.str (sT [c])):=by
  obtain⟨xs,h1,h2,h3⟩:=ki (st:=setV 0) (c:=e8) (e:=d2 ixD (al 1) (d2 aR (d2 az (d2 bH (al 2) (cI 3)) (d2 dm (al 0) (d2 bH (al 2) (cI 7)))) (cI 26))) (ρ:=[none,some (.v (.str abc)),some (.v (.int v))]) (fun c:Nat=>D.str (sT [c])) (fun c=>97≤c∧c≤122) ((dX Z).map .int) (fun d hd=>by
   obtain⟨i,hi,rfl⟩:=Yo.mp hd
   have hi2:0≤i∧i<1000:=by
    unfold dX at hi
    obtain⟨n,hn,rfl⟩:=Yo.mp hi
    rw[Zt] at hn
    omega
   obtain⟨c,hc,c1,c2⟩:=pT (v/3+i*(v/7))
   refine⟨[some (.v (.int i)),some (.v (.str abc)),some (.v (.int v))],rfl,rfl,c,?_,c1,c2⟩
   have hm:=eA i (v/7) (.inl (by omega))
   simp only[ar,rh,ZP,Xj,Ya,f3,f7,hm,n9,m26]
   exact hc)
  refine⟨xs,?_,h3,h1⟩
  rw[h2,Yb,db]
  omega
 obtain⟨cs,csl,cl,hmap⟩:=hcomp
 have cs1:1≤cs.length:=by omega
 have cs3:cs.length≤3:=by omega
 have hsp:0≤v/11%Z∧v/11%Z<(cs.length:Int):=⟨ZW _ (by omega),by rw[csl];exact ZF _ (by omega)⟩
 generalize hS:v/11%Z=sp at hsp
 obtain⟨x,y,hx,hy,hxy,lx,ly,c0,hc0⟩:=zU cs1 cs3 cl hsp
 obtain⟨z2,hz2,z21,z23,lz⟩:=yk cs1 cs3 cl
 let fnd:Int:=qu abc (sT [c0])
 obtain⟨o,ho,o1,o2⟩:=pT (fnd+1+v/13%25)
 obtain⟨q,hq,q1,q2⟩:=pT (v/17)
 have hlast:∃ lst:List Nat,okW (sT lst)∧∀ (t:Option Addr) (x6 x7 x8:Option DV),(dIf (asB (d2 ltd (ao 4) (cI 3))) (aZ 9 (d2 az (al 5) (d2 ixD (al 2) (d2 aR (d2 bH (al 3) (cI 17)) (cI 26))))) dNx) [some (SC ns),some (.own A1 t),some (.v (.str abc)),some (.v (.int v)),some (.v (.int Z)),some (.v (.str (sT cs))),x6,x7,x8,some (.v (.str (sT z2)))]=some (.nx [some (SC ns),some (.own A1 t),some (.v (.str abc)),some (.v (.int v)),some (.v (.int Z)),some (.v (.str (sT cs))),x6,x7,x8,some (.v (.str (sT lst)))]):=by
  by_cases hz3:Z<3
  ·refine⟨cs++[q],rE (by simp) (by rw[Yc];show cs.length+1≤3;omega) fun c hc=>?_,fun t x6 x7 x8=>?_⟩
   ·rcases Yj.mp hc with hc | hc
    ·exact cl c hc
    ·rw[Yl.mp hc];exact⟨q1,q2⟩
   ·rw[eZ (show asB (d2 ltd (ao 4) (cI 3)) [some (SC ns),some (.own A1 t),some (.v (.str abc)),some (.v (.int v)),some (.v (.int Z)),some (.v (.str (sT cs))),x6,x7,x8,some (.v (.str (sT z2)))]=some (decide (Z<3)) from rfl),YF hz3,Yh rfl]
    rw[bn,ar,ar,ar,ar]
    show Option.map _ ((((bH (.int v) (.int 17)).bind fun x=>aR x (.int 26)).bind fun y=>ixD (.str abc) y).bind fun y=>az (.str (sT cs)) y)=_
    rw[f17,Ya,m26,Ya,hq,Ya,show (⟨#[q]⟩:Str)=sT [q] from rfl,cQ (by simp;omega)]
    rfl
  ·refine⟨z2,rE z21 z23 lz,fun t x6 x7 x8=>?_⟩
   rw[eZ (show asB (d2 ltd (ao 4) (cI 3)) [some (SC ns),some (.own A1 t),some (.v (.str abc)),some (.v (.int v)),some (.v (.int Z)),some (.v (.str (sT cs))),x6,x7,x8,some (.v (.str (sT z2)))]=some (decide (Z<3)) from rfl),Yk hz3]
   rfl
 obtain⟨lst,hlo,hle⟩:=hlast
 refine⟨A1,.lst [.str (sT cs),.str (sT (x++[o]++y)),.str (sT lst)],hA1,⟨cs,x++[o]++y,lst,rE cs1 cs3 cl,rE (by simp;omega) (by simp;omega) fun c hc=>?_,hlo,rfl⟩,fN rfl fun as=>?_⟩
 ·rcases Yj.mp hc with hc | hc
  ·rcases Yj.mp hc with hc | hc
   ·exact lx c hc
   ·rw[Yl.mp hc];exact⟨o1,o2⟩
  ·exact ly c hc
 ·show (ux C [some (SC ns),some (.own A (some (as 1))),none,none,none,none,none,none,none,none]).bind _=_
  unfold ux
  rw[show ("":Str)=sT [] by kernel_rfl]
  rw[ae (ρ':=[some (SC ns),some (.own A (some (as 1))),some (.v (.str abc)),none,none,none,none,none,none,none]) rfl]
  rw[ae (cf (gD ⟨_,rfl⟩ hv))]
  rw[ae (ρ':=[some (SC ns),some (.own A1 (some (as 1))),some (.v (.str abc)),some (.v (.int v)),some (.v (.int Z)),none,none,none,none,none]) (by
   rw[bn,ar,ar]
   show Option.map _ ((aR (.int v) (.int 3)).bind fun y=>az (.int 1) y)=_
   rw[bm v 3 (by decide),← hZ]
   rfl)]
  rw[ae (ρ':=[some (SC ns),some (.own A1 (some (as 1))),some (.v (.str abc)),some (.v (.int v)),some (.v (.int Z)),some (.v (.str (sT cs))),none,none,none,none]) (by
   rw[bn,ar,tH,pE,dY,lV (n:=Z) rfl ⟨by omega,by omega⟩]
   show Option.map _ ((Option.map _ (Option.map _ (if ((dX Z).map D.int).length≤16777216 then dL _ _ _ [none,some (.v (.str abc)),some (.v (.int v))] ((dX Z).map D.int) else none))).bind _)=_
   rw[Yh (by rw[Yb,db];omega),hmap]
   show Option.map _ (jR (.str (sT [])) (.lst (cs.map fun c=>.str (sT [c]))))=_
   rw[AG cs (by omega)]
   rfl)]
  rw[ae (ρ':=[some (SC ns),some (.own A1 (some (as 1))),some (.v (.str abc)),some (.v (.int v)),some (.v (.int Z)),some (.v (.str (sT cs))),some (.v (.int sp)),none,none,none]) (by
   rw[bn,ar,ar]
   show Option.map _ ((bH (.int v) (.int 11)).bind fun x=>aR x (.int Z))=_
   rw[f11,Ya,bm _ Z (by omega),hS]
   rfl)]
  rw[ae (ρ':=[some (SC ns),some (.own A1 (some (as 1))),some (.v (.str abc)),some (.v (.int v)),some (.v (.int Z)),some (.v (.str (sT cs))),some (.v (.int sp)),some (.v (.int (fnd+1+v/13%25))),none,none]) (by
   rw[bn,ar,ar,ar,ar,ar,ar]
   show Option.map _ ((((ixD (.str (sT cs)) (.int sp)).bind fun y=>qz (.str abc) y).bind fun x=>az x (.int 1)).bind fun x=>((bH (.int v) (.int 13)).bind fun x=>aR x (.int 25)).bind fun y=>az x y)=_
   rw[hc0,f13,Ya,Ya,bm _ 25 (by decide)]
   rfl)]
  rw[ae (ρ':=[some (SC ns),some (.own A1 (some (as 1))),some (.v (.str abc)),some (.v (.int v)),some (.v (.int Z)),some (.v (.str (sT cs))),some (.v (.int sp)),some (.v (.int (fnd+1+v/13%25))),some (.v (.str (sT (x++[o]++y)))),none]) (by
   rw[bn,ar,ar,ar,ar,zG (f:=al 5) (g:=getV 6) rfl (by omega) rfl hx,CZ (f:=al 5) rfl (by omega) rfl hy]
   show Option.map _ ((((aR (.int (fnd+1+v/13%25)) (.int 26)).bind fun y=>ixD (.str abc) y).bind fun y=>az (.str (sT x)) y).bind fun z=>az z (.str (sT y)))=_
   rw[m26,Ya,ho,Ya,show (⟨#[o]⟩:Str)=sT [o] from rfl,cQ (by simp;omega),Ya,cQ (by simp;omega)]
   rfl)]
  rw[ae (ρ':=[some (SC ns),some (.own A1 (some (as 1))),some (.v (.str abc)),some (.v (.int v)),some (.v (.int Z)),some (.v (.str (sT cs))),some (.v (.int sp)),some (.v (.int (fnd+1+v/13%25))),some (.v (.str (sT (x++[o]++y)))),some (.v (.str (sT z2)))]) (by
   rw[bn,zG (f:=al 5) rfl (by omega) rfl hz2]
   rfl)]
  rw[ae (hle _ _ _ _)]
  exact va
theorem sO (C:Addr)(ns:List Int):∃ x:Int,qf C [SC ns]=some (.own (.lst [.int 0,.int x]) none):=by
 have go:∀ (l:List Int) (n:Int) (y:Option DV),∃ (x:Int) (y':Option DV),cm (setV 2) (aZ 1 (d2 aR (d2 az (d2 az (d2 dm (al 1) (cI 69621)) (d2 aR (al 2) (cI 2147483647))) (cI 11)) (cI 2147483647))) (l.map .int) [some (SC ns),some (.v (.int n)),y]=some (.nx [some (SC ns),some (.v (.int x)),y']):=by
  intro l
  induction l with
  | nil=>exact fun n y=>⟨n,y,rfl⟩
  | cons c l ih=>
   intro n y
   obtain⟨x,y',e⟩:=ih ((n*69621+c%2147483647+11)%2147483647) (some (.v (.int c)))
   refine⟨x,y',?_⟩
   rw[YA]
   unfold cm
   have hb:aZ 1 (d2 aR (d2 az (d2 az (d2 dm (al 1) (cI 69621)) (d2 aR (al 2) (cI 2147483647))) (cI 11)) (cI 2147483647)) [some (SC ns),some (.v (.int n)),some (.v (.int c))]=some (.nx [some (SC ns),some (.v (.int ((n*69621+c%2147483647+11)%2147483647))),some (.v (.int c))]):=by
    have h1:=eA n 69621 (.inr (by decide))
    have h2:∀ z:Int,aR (.int z) (.int 2147483647)=some (.int (z%2147483647)):=fun z=>bm z _ (by decide)
    simp[h1,h2]
   show (match aZ 1 _ [some (SC ns),some (.v (.int n)),some (.v (.int c))] with | some (.nx ρ)=>cm _ _ (l.map .int) ρ | some (.ct ρ)=>cm _ _ (l.map .int) ρ | some (.bk ρ)=>some (.nx ρ) | r=>r)=_
   rw[hb]
   exact e
 obtain⟨x,y,e⟩:=go ns 7 none
 refine⟨x,?_⟩
 show cY (vq C [some (SC ns),none,none])=_
 unfold vq
 rw[ae (ρ':=[some (SC ns),some (.v (.int 7)),none]) rfl,ae (ρ':=[some (SC ns),some (.v (.int x)),y]) (by rw[eG];exact e)]
 rfl
theorem jH {C:Addr}{m:MW}{S:DV}{A A':OD}{d:D}{t:Option Addr}{σ:DF}(hS:∃ x,S=.v x)(h:m [S,.own A none]=some ([S,.own A' none],d)):aA m (aJ (ag (getV 0)) (aC 1 bv)) (some S::some (.own A t)::σ)=some (d,some S::some (.own A' t)::σ):=by
 obtain⟨x,rfl⟩:=hS
 unfold aA
 show (if ([1]:List Nat).Nodup then (some [DV.v x,.own A none]).bind (fun xs=>(m xs).bind _) else none)=_
 rw[Yh (by decide),Ya,h]
 rfl
theorem mO {m:MW}{S:DV}{A A' st st':OD}{d:D}{t1 t2:Option Addr}{σ:DF}(hS:∃ x,S=.v x)(hm:m [S,.own A none,.own st none]=some ([S,.own A' none,.own st' none],d)):aA m (aJ (ag (getV 0)) (aC 1 (aC 2 bv))) (some S::some (.own A t1)::some (.own st t2)::σ)=some (d,some S::some (.own A' t1)::some (.own st' t2)::σ):=by
 obtain⟨x,rfl⟩:=hS
 unfold aA
 show (if ([1,2]:List Nat).Nodup then (some [DV.v x,.own A none,.own st none]).bind (fun xs=>(m xs).bind _) else none)=_
 rw[Yh (by decide),Ya,hm]
 rfl
abbrev txF (ns:List Int)(A st:OD)(w:List Nat)(x:Option DV):DF:=[some (SC ns),some (.own A none),some (.own st none),some (.v (.str (sT w))),x]
section
variable {C:Addr} {ns:List Int} {p s:D}
theorem sU (hl:ns.length≤100)(hs:okSm s)(hp:okPl p):∀ (is:List Int) (L:LS) (w:List Nat) (k:Nat) (A:OD) (b:Nat) (x:Option DV),Inv C L w k→At A b→b+300*is.length≤1000000000→w.length+4000*is.length≤10000000→∃ (L':LS) (w':List Nat) (k':Nat) (A':OD) (x':Option DV),Inv C L' w' k'∧At A' (b+300*is.length)∧k'≤k+is.length∧w'.length≤w.length+4000*is.length ∧
  cm (setV 4) (aS 3 (x2 az (ag (getV 3)) (aA (dS C) (aJ (ag (getV 0)) (aC 1 (aC 2 bv)))))) (is.map .int) (txF ns A (bq L p s) w x)=some (.nx (txF ns A' (bq L' p s) w' x')):=by
 intro is
 induction is with
 | nil=>exact fun L w k A b x hI hA _ _=>⟨L,w,k,A,x,hI,hA,by simp,by simp,rfl⟩
 | cons i is ih=>
  intro L w k A b x hI hA hb hw
  rw[Yg] at hb hw
  obtain⟨A1,w2,L1,k1,hA1,hw2,hI1,hk1,hm⟩:=wB hl hs hp hI hA (by omega)
  obtain⟨L',w',k',A',x',h1,h2,h3,h4,e⟩:=ih L1 (w++w2) k1 A1 (b+300) (some (.v (.int i))) hI1 hA1 (by omega) (by rw[Yc];omega)
  rw[Yc] at h4
  refine⟨L',w',k',A',x',h1,h2.mono (by rw[Yg];omega),by rw[Yg];omega,by rw[Yg];omega,?_⟩
  rw[YA]
  unfold cm
  have hx:=fS (f:=az) (bF (f:=getV 3) (d:=.str (sT w)) (ρ:=txF ns A (bq L p s) w (some (.v (.int i)))) rfl) (mO ⟨_,rfl⟩ hm) (cQ (by omega))
  show (match aS 3 _ (txF ns A (bq L p s) w (some (.v (.int i)))) with | some (.nx ρ)=>cm _ _ (is.map .int) ρ | some (.ct ρ)=>cm _ _ (is.map .int) ρ | some (.bk ρ)=>some (.nx ρ) | r=>r)=_
  rw[cf hx]
  exact e
theorem m5:∀ (n:Nat) (R:RS) (h:Int) (w:List Nat) (k:Nat),R.G.length=n→Reads C w h R k→∃ h':Int,Reads C (w++List.replicate n 41) h' { R with G:=[] } (k+n)
 | 0,R,h,w,k,hn,hr=>by
  have:R.G=[]:=ZO.mp hn
  refine⟨h,?_⟩
  rw[XF,Yi,← this]
  exact hr
 | n+1,R,h,w,k,hn,hr=>by
  have hne:R.G≠[]:=fun z=>by rw[z] at hn;cases hn
  have e:R.G=R.G.dropLast++[R.G.getLast hne]:=(List.dropLast_concat_getLast hne).symm
  have h1:=hr.go (wm e)
  obtain⟨h',h2⟩:=m5 n { R with G:=R.G.dropLast } _ _ _ (by show R.G.dropLast.length=n;rw[List.length_dropLast];omega) h1
  refine⟨h',?_⟩
  rw[Yn] at h2
  rw[Xf,show k+(n+1)=k+1+n by omega]
  exact h2
structure Inv2 (C:Addr) (L:LS) (w:List Nat) (k:Nat):Prop where
 l:LOk L
 n:1≤L.K.length
 t:∀ t∈L.T,okT (L.K.length:Int) t
 a:∀ c∈w,c<128
 r:∃ R h,Rel L R []∧R.G=[]∧Reads C w h R k
theorem rS (hl:ns.length≤100)(hs:okSm s)(hp:okPl p)(x:Option DV):∀ (m:Nat) (L:LS) (w:List Nat) (k:Nat) (A:OD) (b f:Nat),7≤L.K.length+m→m<f→Inv2 C L w k→At A b→b+200*m≤1000000000→w.length+4000*m≤15000000→∃ (L':LS) (w':List Nat) (k':Nat) (A':OD),Inv2 C L' w' k'∧L'.O=[]∧k'≤k+m∧w'.length≤w.length+4000*m ∧
  a_ (asB (d2 gtI (d1 aM (aL none 2 "open")) (cI 0))) (aS 3 (x2 az (ag (d2 az (al 3) (fun _=>some (.str (sT [46]))))) (aA (aQ C) (aJ (ag (getV 0)) (aC 1 (aC 2 bv)))))) f (txF ns A (bq L p s) w x)=some (.nx (txF ns A' (bq L' p s) w' x)):=by
 have hc:∀ (L:LS) (w:List Nat) (A:OD),asB (d2 gtI (d1 aM (aL none 2 "open")) (cI 0)) (txF ns A (bq L p s) w x)=some (decide ((0:Int)<(L.O.length:Int))):=fun L w A=>by
  rw[bt,ar]
  unfold bq lst
  rw[Cs,Yb]
  rfl
 intro m
 induction m with
 | zero=>
  intro L w k A b f hm hf hI hA _ _
  obtain⟨f,rfl⟩:∃ n,f=n+1:=⟨f-1,by omega⟩
  have h7:L.O=[]:=hI.l.o7 (by have:=hI.l.k7;omega)
  refine⟨L,w,k,A,hI,h7,by omega,by omega,c9 ((hc L w A).trans ?_)⟩
  rw[h7]
  rfl
 | succ m ih=>
  intro L w k A b f hm hf hI hA hb hw
  obtain⟨f,rfl⟩:∃ n,f=n+1:=⟨f-1,by omega⟩
  by_cases hO:L.O=[]
  ·refine⟨L,w,k,A,hI,hO,by omega,by omega,c9 ((hc L w A).trans ?_)⟩
   rw[hO]
   rfl
  ·have hpos:(0:Int)<(L.O.length:Int):=by have:=XE.mpr hO;omega
   have h6:L.K.length≤6:=by
    have:=hI.l.k7
    have h7:L.K.length≠7:=fun z=>hO (hI.l.o7 z)
    omega
   obtain⟨lok,ln,lt,la,R,h,hRel,hRG,hRd⟩:=hI
   obtain⟨A2,kd,evs,L2,hA2,hOk,hL2,kl2,g2,h2,t2',rel2,pl2,hmm⟩:=eP (C:=C) hl hs hp hA (by omega) (L:=L) (R:=R) (X:=[]) lok hRel h6 (fun t ht=>pR (lt t ht))
   have hI2:Inv2 C L2 (w++46::plT kd evs) (k+1):=⟨hL2,by omega,t2',fun c hc=>by
    rcases Yj.mp hc with hc | hc
    ·exact la c hc
    ·rcases YC.mp hc with rfl | hc
     ·decide
     ·exact mo hOk.p.kd c hc,plS R kd evs [] R.G,_,rel2 R.G,hRG,hRd.go (tE hOk hRG)⟩
   obtain⟨L',w',k',A',q1,q2,q3,q4,e⟩:=ih L2 (w++46::plT kd evs) (k+1) A2 (b+200) f (by omega) (by omega) hI2 hA2 (by omega) (by rw[Yc,Yg];omega)
   rw[Yc,Yg] at q4
   refine⟨L',w',k',A',q1,q2,by omega,by omega,?_⟩
   have e46:d2 az (al 3) (fun _=>some (.str (sT [46]))) (txF ns A (bq L p s) w x)=some (.str (sT (w++[46]))):=by
    rw[ar]
    exact cQ (by simp;omega)
   have hx:=fS (f:=az) (bF e46) (mO (σ:=[some (.v (.str (sT w))),x]) ⟨_,rfl⟩ hmm) (cQ (by simp;omega))
   rw[Yn] at hx
   rw[dt ((hc L w A).trans (by rw[YF hpos])) (cf hx)]
   exact e
end
theorem DW (n:Nat):rP (sT [41]) (n:Int)=sT (List.replicate n 41):=by
 unfold rP
 by_cases h0:(n:Int)<1
 ·have:n=0:=by omega
  subst this
  rfl
 ·rw[Yr h0]
  by_cases h1:n=1
  ·subst h1;rfl
  ·rw[Yr]
   ·have e:∀ (m:Nat) (acc:List Nat),(List.replicate m (#[41]:Array Nat)).foldl (·++·) acc.toArray=(acc++List.replicate m 41).toArray:=by
     intro m
     induction m with
     | zero=>intro acc;rw[XF,XF,Yi];rfl
     | succ m ih=>
      intro acc
      rw[Xf,List.foldl_cons,show acc.toArray++#[41]=(acc++[41]).toArray by simp,ih,Yn,Xf]
      rfl
    show Str.mk ((List.replicate ((n:Int)).toNat (#[41]:Array Nat)).foldl (·++·) #[])=_
    rw[Int.toNat_natCast]
    have:=e n []
    rw[Zq] at this
    exact YN Str.mk this
   ·have:((n:Int) == 1)=false:=by
     rw[Zm]
     omega
    rw[this]
    exact fun z=>nomatch z
theorem yM (C:Addr)(ns:List Int)(hl:ns.length≤63):∃ (L:LS) (w:List Nat) (k:Nat) (p s:D),Inv2 C L w k∧L.O=[]∧k<1000∧w.length≤16000000∧pX C [SC ns]=some (.v (.tup [.str (sT w),(bq L p s).d])):=by
 obtain⟨x,hb⟩:=sO C ns
 have hA0:At (.lst [.int 0,.int x]) 0:=⟨0,x,rfl,by decide,by decide⟩
 obtain⟨A1,p,hA1,hp,hpm⟩:=xn C ns (by omega) hA0 (by decide)
 obtain⟨k0,A2,hA2,hk0,hg0⟩:=nS C ns (by omega) hA1 (by decide)
 obtain⟨k1,A3,hA3,hk1,hg1⟩:=nS C ns (by omega) hA2 (by decide)
 let s:D:=.lst [.int (k0:Int),.int (k1:Int),.int 5]
 have hs:okSm s:=⟨k0,k1,hk0,hk1,rfl⟩
 let L0:LS:=⟨[],[],[],[],[],0⟩
 have hL0:LOk L0:=⟨(fun _ h=>nomatch h),by decide,fun _=>rfl,by decide,XL,(fun _ h=>nomatch h),(fun _ h=>nomatch h),XL,(fun _ h=>nomatch h),by decide⟩
 have hR0:Rel L0 S0 []:=⟨rfl,Xr _,Xr _,(fun _ h=>nomatch h),(fun _ h=>nomatch h),rfl⟩
 obtain⟨A4,kd,evs,L1,hA4,hOk,hL1,kl1,g1,h1,t1',rel1,pl1,hm1⟩:=eP (C:=C) (ns:=ns) (p:=p) (by omega) hs hp hA3 (by decide) (L:=L0) (R:=S0) (X:=[]) hL0 hR0 (by decide) (fun _ h=>nomatch h)
 have kl1:L1.K.length=1:=kl1
 have g1:L1.G=[]:=g1
 have h1:L1.h=0:=h1
 have hI1:Inv C L1 (plT kd evs) 0:=⟨hL1,by omega,t1',by rw[h1,kl1];decide,(fun y hy=>by rw[g1] at hy;exact (nomatch hy)),by rw[g1];exact YO _,mo hOk.p.kd,plS S0 kd evs [] [],rel1 [],by rw[g1];rfl,by rw[h1];exact xk hOk.p⟩
 obtain⟨L2,w2,k2,A5,x5,hI2,hA5,hk2,hw2,e2⟩:=sU (C:=C) (ns:=ns) (by omega) hs hp (ns++[1,1,1]) L1 (plT kd evs) 0 A4 _ none hI1 hA4 (by rw[Yc];show _+300*(ns.length+3)≤_;omega) (by rw[Yc];show _+4000*(ns.length+3)≤_;omega)
 rw[Yc] at hk2 hw2 hA5
 have hk2:k2≤0+(ns.length+3):=hk2
 have hw2:w2.length≤(plT kd evs).length+4000*(ns.length+3):=hw2
 obtain⟨lok,ln,lt,lh,lg,lgl,la,R,hRel,hRG,hRd⟩:=hI2
 have l7:=lok.k7
 obtain⟨h',hR2⟩:=m5 (C:=C) L2.G.length R L2.h w2 k2 (by rw[hRG]) hRd
 have hI3:Inv2 C L2 (w2++List.replicate L2.G.length 41) (k2+L2.G.length):=⟨lok,ln,lt,fun c hc=>by
  rcases Yj.mp hc with hc | hc
  ·exact la c hc
  ·rw[List.eq_of_mem_replicate hc];decide,{ R with G:=[] },h',⟨hRel.k,hRel.t,hRel.b,hRel.o,hRel.c,hRel.n⟩,rfl,hR2⟩
 obtain⟨L3,w3,k3,A6,hI4,hO3,hk3,hw3,e3⟩:=rS (C:=C) (ns:=ns) (by omega) hs hp x5 7 L2 (w2++List.replicate L2.G.length 41) (k2+L2.G.length) A5 _ 100 (by omega) (by decide) hI3 hA5 (by show _+300*(ns.length+3)+1400≤_;omega) (by rw[Yc,Yw];omega)
 rw[Yc,Yw] at hw3
 refine⟨L3,w3,k3,p,s,hI4,hO3,by omega,by omega,?_⟩
 show cY (vP C [some (SC ns),none,none,none,none])=_
 unfold vP
 rw[Bu,yd]
 rw[ae (ρ':=[some (SC ns),some (.own (.lst [.int 0,.int x]) none),none,none,none]) (by
  rw[nG,uf,C5]
  show Option.map _ ((qf C [SC ns]).bind dvO)=_
  rw[hb]
  rfl)]
 rw[ae (ρ':=[some (SC ns),some (.own (.lst [.int 0,.int x]) none),some (.own (.obj none (lO [("kinds",none),("ties",none),("open",none),("boughs",none),("used",none),("here",some 0)])) none),none,none]) rfl]
 rw[ae (ρ':=[some (SC ns),some (.own A1 none),some (.own (.obj none [("kinds",.lst []),("ties",.lst []),("open",.lst []),("boughs",.lst []),("used",.lst []),("here",.d (.int 0)),("pool",.d p)]) none),none,none]) (by
  unfold nq
  rw[jH (C:=C) ⟨_,rfl⟩ hpm]
  kernel_rfl)]
 rw[ae (ρ':=[some (SC ns),some (.own A3 none),some (.own (bq L0 p s) none),none,none]) (by
  have e:wV (aW (aA (b6 C) (aJ (ag (getV 0)) (aC 1 bv))) (aW (aA (b6 C) (aJ (ag (getV 0)) (aC 1 bv))) (aW (ag (cI 5)) dj))) [some (SC ns),some (.own A1 none),some (.own (.obj none [("kinds",.lst []),("ties",.lst []),("open",.lst []),("boughs",.lst []),("used",.lst []),("here",.d (.int 0)),("pool",.d p)]) none),none,none]=some (s,[some (SC ns),some (.own A3 none),some (.own (.obj none [("kinds",.lst []),("ties",.lst []),("open",.lst []),("boughs",.lst []),("used",.lst []),("here",.d (.int 0)),("pool",.d p)]) none),none,none]):=by
   unfold wV aW
   rw[jH (C:=C) ⟨_,rfl⟩ hg0,Ya]
   show (Option.map _ ((aA (b6 C) (aJ (ag (getV 0)) (aC 1 bv)) [some (SC ns),some (.own A2 none),some (.own (.obj none [("kinds",.lst []),("ties",.lst []),("open",.lst []),("boughs",.lst []),("used",.lst []),("here",.d (.int 0)),("pool",.d p)]) none),none,none]).bind _)).bind _=_
   rw[jH (C:=C) ⟨_,rfl⟩ hg1]
   rfl
  unfold nq
  rw[e]
  kernel_rfl)]
 rw[ae (cf (mO ⟨_,rfl⟩ hm1))]
 rw[ae (ρ':=txF ns A5 (bq L2 p s) w2 x5) (by
  rw[eG,jm,ar]
  show (match (if (ns.map D.int).length+3≤16777216 then some (D.lst (ns.map D.int++[.int 1,.int 1,.int 1])) else none) with | some (.lst ds)=>some ds | _=>none:Option (List D)).bind _=_
  rw[Yh (by rw[Yb];omega),show ns.map D.int++[D.int 1,.int 1,.int 1]=(ns++[1,1,1]).map D.int by rw[Yz];rfl]
  exact e2)]
 rw[ae (ρ':=txF ns A5 (bq L2 p s) (w2++List.replicate L2.G.length 41) x5) (by
  rw[bn,ar,ar]
  unfold bq lst
  rw[Bn,Yb]
  show Option.map _ ((s_ (.str (sT [41])) (.int (L2.G.length:Int))).bind fun y=>az (.str (sT w2)) y)=_
  rw[show s_ (.str (sT [41])) (.int (L2.G.length:Int))=some (.str (rP (sT [41]) (L2.G.length:Int))) from Yh ⟨by omega,by omega,by decide⟩,DW,Ya,cQ (by rw[Yw];omega)]
  rfl)]
 rw[ae e3]
 rfl
theorem tz (C:Addr)(t:T4):i6 C [.v (dT4 t),.v (dT4 t)]=some (.v (.bl true)):=by
 have e:=D3 t
 have hw:=vN C
 unfold i6 zo
 generalize ku C=W at hw ⊢
 have i0:ixD (dT4 t) (.int 0)=some (.int t.1):=rfl
 have i1:ixD (dT4 t) (.int 1)=some (.int t.2.1):=rfl
 have i2:ixD (dT4 t) (.int 2)=some (.int t.2.2.1):=rfl
 have i3:ixD (dT4 t) (.int 3)=some (.bl t.2.2.2):=rfl
 have hl:aM (dT4 t)=some (.int 4):=rfl
 have ht:gW "tuple" (dT4 t)=some (.bl true):=rfl
 have hb:∀ b,gW "bool" (.bl b)=some (.bl true):=fun _=>rfl
 generalize dT4 t=d at *
 simp[i0,i1,i2,i3,hl,ht,hb,hw,e]
theorem yY (C:Addr)(ts:List T4)(hl:ts.length≤12):mW C [.v (.lst (ts.map dT4))]=some (.own (.lst (srt ts)) none):=by
 have go:∀ (l:List T4) (acc:List D) (y2 y3 y4 y5:Option DV),acc.length+l.length<1000→∃ z2 z3 z4 z5,cm (gw [2,3,4,5]) (dIf (dB (dq (asB (getV 5))) (asB (d2 gtI (al 2) (al 3)))) (jn 1 (asT (ak (getV 3) (ak (getV 2) (ak (getV 4) (ak (getV 5) bx)))))) (jn 1 (asT (ak (getV 2) (ak (getV 3) (ak (getV 4) (ak (getV 5) bx))))))) (l.map dT4) [some (.v (.lst (ts.map dT4))),some (.own (.lst acc) none),y2,y3,y4,y5]=some (.nx [some (.v (.lst (ts.map dT4))),some (.own (.lst (acc++(l.map lf).map dT4)) none),z2,z3,z4,z5]):=by
  intro l
  induction l with
  | nil=>exact fun acc y2 y3 y4 y5 _=>⟨y2,y3,y4,y5,by rw[Za,Za,Za,Yi];rfl⟩
  | cons t l ih=>
   intro acc y2 y3 y4 y5 hn
   obtain⟨a,b,k,o⟩:=t
   rw[Yg] at hn
   obtain⟨z2,z3,z4,z5,e⟩:=ih (acc++[dT4 (lf (a,b,k,o))]) (some (.v (.int a))) (some (.v (.int b))) (some (.v (.int k))) (some (.v (.bl o))) (by rw[Yc];show acc.length+1+l.length<1000;omega)
   refine⟨z2,z3,z4,z5,?_⟩
   have hacc:acc.length<16777216:=by omega
   have hb:(dIf (dB (dq (asB (getV 5))) (asB (d2 gtI (al 2) (al 3)))) (jn 1 (asT (ak (getV 3) (ak (getV 2) (ak (getV 4) (ak (getV 5) bx)))))) (jn 1 (asT (ak (getV 2) (ak (getV 3) (ak (getV 4) (ak (getV 5) bx))))))) [some (.v (.lst (ts.map dT4))),some (.own (.lst acc) none),some (.v (.int a)),some (.v (.int b)),some (.v (.int k)),some (.v (.bl o))]=some (.nx [some (.v (.lst (ts.map dT4))),some (.own (.lst (acc++[dT4 (lf (a,b,k,o))])) none),some (.v (.int a)),some (.v (.int b)),some (.v (.int k)),some (.v (.bl o))]):=by
    unfold lf
    cases o with
    | true=>simp[hacc,dT4]
    | false=>
     by_cases h:b<a
     ·have h':¬ a<b:=by omega
      simp[hacc,h,h',dT4]
     ·by_cases h2:a<b
      ·simp[hacc,h,h2,dT4]
      ·have:a=b:=by omega
       subst this
       simp[hacc,dT4]
   rw[YA]
   unfold cm
   show (match (dIf _ _ _:Dw) [some (.v (.lst (ts.map dT4))),some (.own (.lst acc) none),some (.v (.int a)),some (.v (.int b)),some (.v (.int k)),some (.v (.bl o))] with | some (.nx ρ)=>cm _ _ (l.map dT4) ρ | some (.ct ρ)=>cm _ _ (l.map dT4) ρ | some (.bk ρ)=>some (.nx ρ) | r=>r)=_
   rw[hb]
   show cm _ _ (l.map dT4) _=_
   rw[e,Yn]
   rfl
 obtain⟨z2,z3,z4,z5,e⟩:=go ts [] none none none none (by show 0+ts.length<1000;omega)
 rw[Zq] at e
 show cY (u4 C [some (.v (.lst (ts.map dT4))),none,none,none,none,none])=_
 unfold u4
 rw[ae (ρ':=[some (.v (.lst (ts.map dT4))),some (.own (.lst []) none),none,none,none,none]) rfl]
 rw[ae (ρ':=[some (.v (.lst (ts.map dT4))),some (.own (.lst ((ts.map lf).map dT4)) none),z2,z3,z4,z5]) (by rw[eG];exact e)]
 have hso:cK ((ts.map lf).map dT4)=true:=kt (ts.map lf) (by rw[Yb];omega)
 rw[m7,pE,jc]
 show cY (Option.map _ (Option.map _ (if cK ((ts.map lf).map dT4)=true then some (dc ((ts.map lf).map dT4)) else none)))=_
 rw[Yh hso]
 rfl
theorem zI {α:Type}(l:List α):sv (.lst (l.map fun _=>D.bl true))=some (.bl true):=by
 have a1:((l.map fun _=>D.bl true).all mv)=true:=by simp[mv]
 have a2:((l.map fun _=>D.bl true).all trD)=true:=by rw[List.all_map,YG];exact fun _ _=>rfl
 show (if ((l.map fun _=>D.bl true).all mv)=true then some (D.bl ((l.map fun _=>D.bl true).all trD)) else none)=_
 rw[Yh a1,a2]
theorem rU (C:Addr)(ks:List Str)(ts us:List T4)(J:D)(n:Int)(hk:okK n ks)(kl:ks.length≤7)(hu:us.length≤12)(he:srt us=srt ts) :
  km C [.v (.ins C (wFs ks (.lst (srt ts)) J)),.v (.lst (ks.map .str)),.v (.lst (us.map dT4))]=some (.v (.bl true)):=by
 have hT:=tz C
 have hp:mW C [.v (.lst (us.map dT4))]=some (.own (.lst (srt ts)) none):=by rw[← he];exact yY C us hu
 have fk:=sB C ks (.lst (srt ts)) J
 have ft:=uK C ks (.lst (srt ts)) J
 have l1:(srt ts).length=us.length:=by rw[← he,yy]
 obtain⟨vs,ev,_⟩:=AT ts
 have nk:neD (.lst (ks.map D.str)) (.lst (ks.map D.str))=some (.bl false):=by rw[vh (zq hk) (zq hk),vF D.str (fun _ _=>rfl)];rfl
 have hI:Ad C (.ins C (wFs ks (.lst (srt ts)) J))=some (.bl true):=Yh rfl
 have hL:∀ l,gW "list" (.lst l)=some (.bl true):=fun _=>rfl
 have hall:dL (setV 0) e8 (d1 (gW "str") (ao 0)) [none] (ks.map D.str)=some (ks.map fun _=>D.bl true):=eD D.str (fun _=>D.bl true) ks fun x _=>⟨[some (.v (.str x))],rfl,rfl,rfl⟩
 have vl:vs.length=us.length:=by rw[← l1,ev,Yb]
 have hall2:dL (setV 0) e8 (bJ (i6 C) (aV (d2 ixD (d1 (di C "ties") (al 1)) (al 0)) (aV (d2 ixD (al 2) (al 0)) nA))) [none,some (.v (.ins C (wFs ks (.lst (srt ts)) J))),some (.v (.lst (srt ts)))] ((dX (vs.length:Int)).map .int)=some ((dX (vs.length:Int)).map fun _=>D.bl true):=eD D.int (fun _=>D.bl true) _ fun i hi=>by
  refine⟨[some (.v (.int i)),some (.v (.ins C (wFs ks (.lst (srt ts)) J))),some (.v (.lst (srt ts)))],rfl,rfl,?_⟩
  have hi2:0≤i∧i<(vs.length:Int):=by
   unfold dX at hi
   obtain⟨m,hm,rfl⟩:=Yo.mp hi
   rw[Zt] at hm
   omega
  obtain⟨t,ht1,ht2⟩:=qq (l:=vs) dT4 hi2.1 hi2.2
  rw[← ev] at ht2
  have hTt:=hT t
  generalize i6 C=Ti at *
  generalize wFs ks (.lst (srt ts)) J=F at *
  generalize srt ts=S at *
  simp[ft,ix1,ht2,hTt]
 have al1:=zI ks
 have al2:=zI (dX (vs.length:Int))
 unfold km zy
 show cY (ai _ (ai _ (ai _ _)) [some (.v (.ins C (wFs ks (.lst (srt ts)) J))),some (.v (.lst (ks.map D.str))),some (.v (.lst (us.map dT4))),none])=_
 generalize hTi:i6 C=Ti at *
 generalize mW C=Pl at *
 generalize hF:wFs ks (.lst (srt ts)) J=F at *
 rw[ae (ρ':=[some (.v (.ins C F)),some (.v (.lst (ks.map D.str))),some (.v (.lst (us.map dT4))),none]) (by simp[hI,fk,ft,hL])]
 rw[ae (ρ':=[some (.v (.ins C F)),some (.v (.lst (ks.map D.str))),some (.v (.lst (us.map dT4))),none]) (by
  have hc:dw 1 [] (iF (d1 (di C "kinds") (al 0))) (setV 0) e8 (d1 (gW "str") (ao 0)) [some (.v (.ins C F)),some (.v (.lst (ks.map D.str))),some (.v (.lst (us.map dT4))),none]=some (ks.map fun _=>D.bl true):=by
   rw[dY,jm,cc]
   show (match di C "kinds" (.ins C F) with | some (.lst ds)=>some ds | _=>none:Option (List D)).bind _=_
   rw[fk]
   show (if (ks.map D.str).length≤16777216 then dL _ _ _ [none] (ks.map D.str) else none)=_
   rw[Yh (by rw[Yb];omega)]
   exact hall
  simp[fk,nk,hc,al1])]
 rw[ae (ρ':=[some (.v (.ins C F)),some (.v (.lst (ks.map D.str))),some (.v (.lst (us.map dT4))),some (.v (.lst (srt ts)))]) (by
  generalize us.map dT4=A2 at *
  simp[hp])]
 have hc:dw 1 [0,3] (jX (d1 aM (ao 3))) (setV 0) e8 (bJ Ti (aV (d2 ixD (d1 (di C "ties") (al 1)) (al 0)) (aV (d2 ixD (al 2) (al 0)) nA))) [some (.v (.ins C F)),some (.v (.lst (ks.map D.str))),some (.v (.lst (us.map dT4))),some (.v (.lst (srt ts)))]=some ((dX (vs.length:Int)).map fun _=>D.bl true):=by
  rw[dY,lV (n:=(vs.length:Int)) (by rw[cc];show some (D.int ((srt ts).length:Int))=_;rw[l1,← vl]) ⟨by omega,by omega⟩]
  show (if ((dX (vs.length:Int)).map D.int).length≤16777216 then dL _ _ _ [none,some (.v (.ins C F)),some (.v (.lst (srt ts)))] ((dX (vs.length:Int)).map D.int) else none)=_
  rw[Yh (by rw[Yb,db];omega)]
  exact hall2
 generalize srt ts=S at *
 simp[ft,hc,al2]
theorem law_true (C:Addr)(ns:List Int)(hl:ns.length≤63):zK C [.v (.lst (ns.map L2.D.int))]=some (.v (.bl true)):=by
 obtain⟨L,w,k,p,s,⟨lok,ln,lt,la,R,h,hRel,hRG,hRd⟩,hO,hk,hw,hm⟩:=yM C ns hl
 have hTp:R.T.Perm L.T:=by have:=hRel.t;rwa [Yi] at this
 have hK:okK (L.K.length:Int) R.K:=⟨by rw[hRel.k],fun x hx=>lok.kw x (by rw[← hRel.k];exact hx)⟩
 have hle:=lok.le
 have hS:okS (L.K.length:Int) R.T:=⟨by rw[hTp.length_eq];omega,fun t ht=>lt t (hTp.mem_iff.mp ht)⟩
 have k7:=lok.k7
 obtain⟨J,hJ⟩:=nD (C:=C) (n:=(L.K.length:Int)) ⟨by omega,la⟩ hRd hRG (by have:=hRel.n;rw[hO,YW] at this;omega) hk ⟨by omega,by omega⟩ hK hS
 have hsrt:srt L.T=srt R.T:=vI _ _ (hTp.symm.map lf)
 have hW:=rU C L.K R.T L.T J (L.K.length:Int) ⟨rfl,lok.kw⟩ lok.k7 (by omega) hsrt
 rw[hRel.k] at hJ
 have d1':dE (bq L p s).d (.str "kinds")=some (.lst (L.K.map .str)):=by kernel_rfl
 have d2':dE (bq L p s).d (.str "ties")=some (.lst (L.T.map dT4)):=by kernel_rfl
 show cY (uO C [some (SC ns),none,none])=_
 unfold uO
 generalize pX C=Tx at *
 generalize oq C=Rw at *
 generalize km C=Iw at *
 generalize hD:(bq L p s).d=DD at *
 generalize hX:D.str (sT w)=XX at *
 rw[ae (ρ':=[some (SC ns),some (.v XX),some (.v DD)]) (by
  rw[uh,vf,tP]
  show Option.bind (Option.bind (Tx [SC ns]) dvD) _=_
  rw[hm]
  rfl)]
 simp[hJ,d1',d2',hW]
def spLaw (K:Kq):Sp:=fun vs H Q _=>∃ (a:Addr) (ns:List Int),vs=[.ref a]∧SqL K H a (ns.map V.int)∧ns.length≤63∧∀ H',Q (.bl true) H'
theorem hV {K:Kq}{H:Hp}:∀ ns:List Int,Reps K H (ns.map V.int) (ns.map D.int)
 | []=>.nil
 | _::ns=>.cons .int (hV ns)
theorem rN {K:Kq}{m:Dm}(hm:∀ ns:List Int,ns.length≤63→m [.v (.lst (ns.map D.int))]=some (.v (.bl true))):∀ vs H Q E,spLaw K vs H Q E→spD K m vs H Q E:=by
 rintro vs H Q E ⟨a,ns,rfl,hS,hl,hQ⟩
 refine⟨fun _=>none,H,_,_,hm ns hl,⟨fun _ _ e=>e,fun _ _ e=>(by cases e),fun _ _ e=>(by cases e)⟩,.cons rfl (show Rep K H _ _ from .lst hS (hV ns)) .nil,fun v F' H' _ _ r=>?_⟩
 cases r
 exact hQ H'
def gS (P:Params)(a n:Nat):List DictEntry:=(((rT.filter (·.i<1000)).drop a).take n).map fun r=>kE P (du (top r.i)) (r.h+2) (.ref (r.a+1))
def kz:Str := "__doc__"
def KK:Params→PySem.W.Frag:=fun P=>(fun (_:kz = "__doc__")=>[(nat_lit 3,{ cls:=.type "dict",data:=.dict ([kE P "__name__" 165 (.str "law_tieword_k21_texts_read" 587),kE P "__doc__" 166 (.none),kE P "__package__" 167 (.none),kE P "__loader__" 168 (.builtin "__main__.__loader__#opaque"),kE P "__spec__" 169 (.none),kE P "__annotations__" 170 (.ref 6),kE P "__builtins__" 171 (.ref 4),kE P "__file__" 173 (.str "/claim/cut.py" 172),kE P "__cached__" 174 (.none),kE P "_wall" 193 (.ref 21),kE P "WebError" 213 (.ref 31),kE P "TooGreat" 229 (.ref 44),kE P "BadPlace" 245 (.ref 56),kE P "BadTie" 261 (.ref 68),kE P "BadText" 277 (.ref 80),kE P "MOST_PLACES" 281 (.int 7 280),kE P "MOST_TIES" 283 (.int 12 282),kE P "MOST_LETTERS" 285 (.int 3 284)]++gS P 0 7++[kE P "Web" 398 (.ref 165),kE P "MOST_FIGURES" 402 (.int 30 401),kE P "MOST_RING" 404 (.int 99 403),kE P "LEADS" 414 (.ref 170)]++gS P 7 2++[kE P "Reader" 578 (.ref 290)]++gS P 9 14).toArray 46 }),
(nat_lit 164,{ cls:=.type "dict",data:=.dict #[kE P "__module__" 353 (.str "tieword.webs" 278),kE P "__firstlineno__" 357 (.int 50 356),kE P "__init__" 363 (.ref 141),kE P "size" 370 (.ref 148),kE P "between" 379 (.ref 155),kE P "near" 387 (.ref 162),kE P "__static_attributes__" 391 (.ref 163),kE P "__dict__" 393 (.ref 166),kE P "__weakref__" 395 (.ref 167),kE P "__doc__" 396 (.none)] 4 }),
(nat_lit 165,{ cls:=.type "type",data:=.cls { name := "Web",bases:=[.type "object"],mro:=[.ref 165,.type "object"],ns:=164,qualname := "Web" },slots:=#[none,none,some (.str "Web" 346),some (.str "Web" 354),some (.builtin "object.__new__"),some (.bool true)] }),
(nat_lit 170,{ cls:=.type "dict",data:=.dict #[kE P "~" 405 (.int 0 406),kE P ">" 407 (.int 1 408),kE P "<" 409 (.int 2 410)] 3 }),
(nat_lit 289,{ cls:=.type "dict",data:=.dict #[kE P "__module__" 439 (.str "tieword.reading" 399),kE P "__firstlineno__" 443 (.int 76 442),kE P "__init__" 451 (.ref 198),kE P "sign" 458 (.ref 205),kE P "skip" 466 (.ref 212),kE P "taken" 476 (.ref 219),kE P "number" 484 (.ref 226),kE P "marks" 493 (.ref 233),kE P "join_by" 499 (.ref 238),kE P "begin_ring" 508 (.ref 245),kE P "close_ring" 518 (.ref 252),kE P "ring_sign" 527 (.ref 259),kE P "place" 536 (.ref 266),kE P "follow" 546 (.ref 273),kE P "go_on" 555 (.ref 280),kE P "read_all" 563 (.ref 287),kE P "__static_attributes__" 571 (.ref 288),kE P "__dict__" 573 (.ref 291),kE P "__weakref__" 575 (.ref 292),kE P "__doc__" 576 (.none)] 4 }),
(nat_lit 290,{ cls:=.type "type",data:=.cls { name := "Reader",bases:=[.type "object"],mro:=[.ref 290,.type "object"],ns:=289,qualname := "Reader" },slots:=#[none,none,some (.str "Reader" 432),some (.str "Reader" 440),some (.builtin "object.__new__"),some (.bool true)] })]++rT.flatMap fun r=>[(r.a,cO (du (top r.i)) (qn r.i) r.t (lno (top r.i)) (bY (top r.i)).length (if r.c == 1 then r.a-5 else r.a-3) (r.c == 1) r.h 181),(r.a+1,fO (qn r.i) (top r.i) (mdl r.m) r.a)]) rfl
theorem lkA (P:Params):rT.map (fun r=>((KK P).lookup (r.a+1),PySem.W.codeIn (KK P) (.ref r.a) (qn r.i),PySem.W.keepIn (KK P) (.ref (r.a+1))))=rT.map fun r=>(some (fO (qn r.i) (top r.i) (mdl r.m) r.a),true,true):=by kernel_rfl
theorem glA (P:Params):rT.map (fun r=>if r.i<1000 then PySem.W.nsIn (KK P) mainGlobals (du (top r.i)) else none)=rT.map fun r=>if r.i<1000 then some (some (.ref (r.a+1))) else none:=by kernel_rfl
theorem bdA:∀ r∈rT,DL (qn r.i) (top r.i) (mdl r.m) r.a:=by
 unfold rT
 repeat' refine List.forall_mem_cons.2 ⟨?_,?_⟩
 all_goals first | exact List.forall_mem_nil _ | ((repeat intro _);show _=_;kernel_rfl)
theorem dfA {P:Params}{h:Heap}{mg:Ks}(X:(KK P).In h)(G:h.Ns mainGlobals mg)(i:Nat)(hi:(row i).isSome=true):Df (KK P) (qn i) (top i) (fA i) (dA i)∧(i<1000→mg (du (top i))=some (.ref (fA i))):=by
 obtain⟨r,e⟩:=ZI.mp hi
 have m:=List.mem_of_find?_eq_some e
 have q:r.i=i:=Xg.mp (List.find?_some (p:=fun x:Rw=>x.i == i) (l:=rT) e)
 subst q
 have a:=List.map_inj_left.mp (lkA P) r m
 have b:=List.map_inj_left.mp (glA P) r m
 simp only[Prod.mk.injEq] at a
 unfold fA dA
 rw[e]
 refine⟨CO a.1 a.2.1 a.2.2 (bdA r m),fun z=>?_⟩
 rw[Yh z,Yh z] at b
 exact PySem.W.mg_of X G b
theorem all_mk {l:PySem.W.OpenLaw}{w:World}{h:Heap}{mg:Ks}{fa:Addr}(X:(KK w.params).In h)(G:h.Ns mainGlobals mg)(hfa:mg "law"=some (.ref fa)) :
  ∃ fd:FuncData,(∀ (s:Shared) (v:Value),BindsTo s fd ⟨[v],[]⟩ [("_law_script",v)])∧∀ base:Heap,(KK w.params).In base→base.Ns mainGlobals mg→FnOk l.prog w (KK w.params) mg base CX0 11 fa fd ["_law_script"] (spLaw (KK w.params)):=by
 have e:=hfa.symm.trans ((dfA X G 40 rfl).2 (by decide))
 cases e
 have T:Txt (KK w.params) mg ⟨w,165,280,282,284,401,403⟩:=by
  constructor
  ·exact dfA X G
  all_goals first
   | exact PySem.W.mg_none_of X G (by kernel_rfl)
   | exact PySem.W.mg_of X G (by kernel_rfl)
   | (delta NoAttr;kernel_rfl)
   | exact KD.mk (by kernel_rfl) (by decide) (by kernel_rfl)
   | (constructor <;> kernel_rfl)
   | kernel_rfl
   | (intro k;cases k <;> constructor <;> kernel_rfl)
   | (intro k;cases k <;> first | exact Eq.trans (b:=some true) (by kernel_rfl) (by simp) | exact Eq.trans (b:=some false) (by kernel_rfl) (by simp) | kernel_rfl)
 exact⟨_,fun s v=>.of_eq rfl,fun base _ _=>(BX T).imp (rN (law_true _))⟩
end My
structure PySem.W.Fast:Prop where
 (tw15895517224706201301 tw18317985835385212096 tw14592973700597278912 tw12126335356333554144 tw2488115871278713344 tw16166584366491709088 tw5689567530897145504 tw6218126790898173632 tw1527279031598008096 tw15033288037613684544 tw11002723178237685600 tw12945968037570420704 tw3318320897649461505 tw13569808806601191777 tw11515412847546472865 tw16598466526730520097 tw15676396633300803169 tw17123913665167051393 tw750998211829765793 tw15135638570465825505 tw14266379803326196481 tw12462404666521798593 tw11037272149817164962 tw13088604675091699042 tw9320259230236205442 tw9550363910953206242 tw17267708575499812482 tw5118107171222538882 tw12849283837202087586 tw3257156242673317538 tw5816862679000993474 tw4806544082179332898 tw11378664245293987650 tw1604995727371632450 tw5175517812862001058 tw6907740421242543074 tw3865637639904794723 tw12588011044951011491 tw11072638370109019331 tw13066207554142562531 tw6852032610517721411 tw17394975871967488419 tw4353832521219512835 tw13664283476324333123 tw15699697656911698563 tw10868673679643792035 tw12835136591713099491 tw17980604350860009187 tw1246728603945350915 tw16229629073825738563 tw7859880688581064643 tw2578554692729632707 tw6229069109199427684 tw342533827168923844 tw9084462463608586532 tw17593557376970466596 tw12473633121629865316 tw12002009977937711620 tw6821361640368281124 tw9482170884070516292 tw18319611085801164516 tw13166136235213183716 tw10538688075121678180 tw1605455093237591012 tw8429633840581319652 tw1868112191769263141 tw1239260140968756261 tw8087426369342898245 tw787086413615077509 tw8428427529043704229 tw10848556588999916005 tw16315339846497812037 tw1686823794847250053 tw14391233223809223301 tw10900645497260230565 tw10679322805012649925 tw6248203167989909445 tw7092170328876699750 tw9757917661809432710 tw13727944935257829542 tw4746943146353490182 tw6263362727381828902 tw9698859133226340710 tw12572413454444726662 tw9085271082120576390 tw1187116467202497958 tw4522477575744587366 tw2569234462654109318 tw13779693301013027494 tw14777423534171727590 tw8626520588568778534 tw5439663985507652422 tw9561071852926098374 tw4260803058439798791 tw228196354891128839 tw4949506198428575847 tw1354451367181686919 tw1641497581344666759 tw9374379288675081383 tw6725144550278762663 tw2163985036928289095 tw607133143446454599 tw423561574822186471 tw11554166284629319175 tw5855676009692963335 tw16779334998616845831 tw7487102988395794983 tw9351813627056787047 tw1684447929088132775 tw9960764020643529447 tw5979389559615556616 tw3839226977542075432 tw14723703505327964360 tw8385195841873164488 tw4802814080913372456 tw13769747623222327688 tw4097593896171307592 tw18012045097857017512 tw1827235827164834504 tw17835340665895262984 tw15494495742411388680 tw5708595330927440680 tw12139374353438693192 tw8048418440368924520 tw10859400968902508424 tw10138918249634340840 tw12473092829588449481 tw861293097521775977 tw1243784917350161801 tw488101652709844457 tw10240482439701192329 tw4591952274481387305 tw9698535018920690505 tw660164245976530889 tw6518335755690730441 tw332094941316730857 tw4796101603882260554 tw10596734269565768842 tw626757710529001706 tw18390537888978634058 tw4461290130643785130 tw3815475361030643146 tw6039953714560528906 tw11375257332201024106 tw12509992716538341034 tw654868411886978762 tw15368400585643123434 tw9880519630744636202 tw1318257914261954442 tw16215076954604102699 tw11581720457985226827 tw6028766470699326539 tw11469721770793571467 tw12060683303542457675 tw6969170400740578635 tw14127734693591302699 tw15795405707911076587 tw18148358770927422251 tw12449534100533582635 tw4384850451403320203 tw15429990533989652588 tw4694285824057782572 tw16815248666969735596 tw14655293648218397164 tw13970840447902948844 tw17498485152114630124 tw8301864034194036236 tw8296495597614662220 tw11421095908932535980 tw13622729640165889740 tw462642971465123596 tw2729705118430234412 tw16690690150781096748 tw13433622893370669004 tw8665474369725341709 tw7677893184381480205 tw11423503107976527149 tw3204953485834431789 tw10988737098938979693 tw5658834567696359821 tw5483684480702824877 tw7990911946303001133 tw5218108353304361549 tw17792543830178869901 tw840852981171746477 tw1737524462383535853 tw1289091570099408685 tw4445126623772255085 tw14536293184725561197 tw15991992225564627949 tw5980965898260860942 tw3105074006278743086 tw12623974813523471470 tw10609041575189177582 tw11449430466827204910 tw10220999782107121038 tw6493272044520405486 tw14806651689932787246 tw1784940233487867534 tw8607718966066203374 tw11921772113699684302 tw11725927981754807278 tw5765498237826490415 tw17142663503761216879 tw6119927438418376047 tw17439022788141619663 tw6753755625662248495 tw9124877376802408111 tw7868546130108618479 tw6890853998144805615 tw15052495751358450415 tw11665828541763604239 tw1924579007571320655 tw16027251570076349391 tw1330811602074007824 tw16697793731472557456 tw12448391514713084304 tw5066647368037797328 tw3007579160262728176 tw9987378326635393584 tw15218224620412344976 tw4452874620849151696 tw9117715625420028752 tw284609431655421872 tw18179987563787074544 tw17160582167718507504 tw13323173934583651441 tw7038481574772020369 tw13903464295395381393 tw7004860235760399729 tw16753218538269996433 tw9882806843253751377 tw8280539962886744817 tw3069274716586352433 tw10668088172063982642 tw12529116651485172818 tw8699405122970583186 tw5303134290002468018 tw15650986169610239250 tw4554681344426786130 tw15827462349369383314 tw6757939279863397970 tw6700498467140707122 tw5718451949649367890 tw13309290961430213458 tw5566532590851260435 tw15965917356531742771 tw16447642192665546835 tw5918002192035571859 tw8852850415585074387 tw12958616189848769875 tw6038311893226024307 tw1586227377498663283 tw4885838813510324787 tw14823507624853062195 tw2510374315157096051 tw12954251859477504659 tw9164318253256496883 tw14600659029304314643 tw12308907483988928275 tw1829516608085191603 tw3277585831582038100 tw9958602468584513748 tw8792898848804230356 tw8347100393188878580 tw940865327943193940 tw12637008113590659476 tw14522676615361866324 tw9423676729367824084 tw14367980985300628212 tw6063353132462640980 tw8975327390025855828 tw11813591574147871829 tw13997851713606134901 tw16756760370634949877 tw2720437073508654421 tw17259683088876876181 tw1748376273273090581 tw4579963057663427349 tw18369923810860435285 tw15268778024135754806 tw7371482416816542774 tw17060477341134540854 tw15568968826007685302 tw1289055228581828886 tw16859573995705064726 tw4937927615873410518 tw4069146487880628726 tw9781102082410530326 tw10752141492621429302 tw15842154948341890646 tw4207576729410664150 tw4490497276109695798 tw14761989379519167350 tw14156555016595197878 tw13689387035904604503 tw13992207955049718167 tw3777424356060557847 tw4700977362513859127 tw14166377258250915575 tw12603022912452614999 tw8379734460101465240 tw7023249694623729944 tw2250738671882552760 tw258184915769721464 tw7957418467548544664 tw2132866342812917528 tw10780053280031413112 tw1981673545611495352 tw7031029213265119160 tw5643071018084771929 tw12381101485982881913 tw11925462209894143481 tw14914879151722201593 tw9467516515054285369 tw11740738749995690649 tw9407917966992111321 tw10723614264131504921 tw13761313748010011481 tw10577178178223913849 tw18242266926797370297 tw10045485513012297657 tw15426189842926980057 tw531426281486002330 tw14209527792003083450 tw12071366029579848954 tw2917494147571132730 tw16231037375072030010 tw17151911048080113050 tw16534741859017558458 tw4478640584102858202 tw6159756021001354810 tw14654886008552063706 tw7841170250589945658 tw10374735126713583418 tw11383840078622750554 tw2830606213230279610 tw444905888979633082 tw7364130665417955355 tw2093279623702139003 tw16092265817548935387 tw13712488896414899419 tw4923164239255990491 tw16861851063116542363 tw11264246507658651067 tw12657388866791162523 tw8373123861715082939 tw18088229745551398587 tw6565209957619591867 tw12139471680133120763 tw496257730779304731 tw15946326544687223579 tw15916289148656588603 tw16300010638538661787 tw9028892022891628539 tw13378424335487212636 tw7286549200050371740 tw14728985258151743900 tw3388398588766351900 tw8089381437926474364 tw1519127704716973852 tw107163139957383100 tw12383371558154522781 tw16649065599110856925 tw18190085084408671613 tw11143821756762920349 tw12047111208491090365 tw2531755398587337309 tw963309065368220285 tw15901314431461432989 tw3854849019298716317 tw13318624822442709757 tw1073949300651537181 tw11662998399042373662 tw4313485655787501630 tw6767544152520845726 tw3209021961465676222 tw8506276955771543998 tw7580339834549719710 tw14282697519899334302 tw11497191649115170590 tw16429900416143265630 tw6906876329956682622 tw11275754144380828606 tw8595974027557503934 tw7557112805520343038 tw149639699748797471 tw5461377269508989087 tw14443040066598217087 tw1247514961156074143 tw12378943569351734143 tw13908095903948423071:True)
open PySem PySem.W PyProof.Rows
set_option maxRecDepth 100000 in
set_option maxHeartbeats 0 in
theorem PySem.Challenge.cw_tieword_k21_texts_read_holds : PySem.Challenge.rw_tieword_k21_texts_read.Holds := by
  w_on; o_law; o_head (PySem.W.kHook My.KK [3,164,165,170,289,290,86,87,93,94,100,101,107,108,114,115,121,122,128,129,140,141,176,177,183,184,197,198,204,205,211,212,218,219,225,226,232,233,237,238,244,245,251,252,258,259,265,266,272,273,279,280,286,287,300,301,307,308,314,315,321,322,326,327,333,334,340,341,347,348,354,355,361,362,368,369,375,376,380,381,387,388] (fun _=>by kernel_rfl)); (case hw=>w_witness2)
  k_fill
  refine L2.walk_ofK (l:=PySem.Challenge.rw_tieword_k21_texts_read) (n:=63) (k:=11) (x := "_law_script") (CX:=L2.CX0) (sp:=My.spLaw) rfl (by decide) rfl ⟨rfl,by decide,by decide⟩ (fun w h Y=>PySem.W.kIn_of Y) ?F (fun K H a ns hl _ hS=>⟨a,ns,rfl,hS,hl,fun _=>rfl⟩) fun _ _ _ _ z=>z
  case F=>
    intro w mg fa h KX G hmg
    exact My.all_mk KX G hmg
