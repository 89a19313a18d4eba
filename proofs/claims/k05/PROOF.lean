import PyProof.Rows.All
import Wide.All
import OpenK.AllK
import Wide.FinOn
import Lean
import PyProof.EqAt
import PyProof.EqKinds
import PyProof.TupleCall
import PyProof.Rows.SetFrom
import PyProof.EnumFor
import PyProof.EnumMake
import PyProof.ZipIter
import KE.KRevIter
import PyProof.ListRange
import PyProof.FactsAll.range_iterator_1
import PySem.Challenge.RW_tieword_k05_parts
set_option Elab.async false
set_option linter.all false
set_option maxRecDepth 100000
set_option compiler.extract_closed false
set_option bootstrap.genMatcherCode false
set_option genSizeOf false
set_option genSizeOfSpec false
namespace L2
def Ya:=@Option.bind_some
def Yb:=@List.mem_cons_of_mem
def Yc:=@List.mem_cons_self
def Yd:=@PySem.Heap.get?_push_of_some
def Ye:=@List.length_map
def Yf:=@if_pos
def Yg:=@Bool.false_ne_true
def Yh:=@if_neg
def Yi:=@Nat.le_refl
def Yj:=@List.length_cons
def Yk:=@Nat.lt_of_lt_of_le
def Yl:=@List.size_toArray
def Ym:=@List.length_append
def Yn:=@List.getElem?_eq_some_iff
def Yo:=@PySem.Heap.get?_push_size
def Yp:=@PySem.Heap.lt_size
def Yq:=@Bool.and_eq_true
def Yr:=@PySem.wpAny_bind
def Ys:=@List.mem_map
def Yt:=@Option.some.inj
def Yu:=@List.getElem?_eq_getElem
def Yv:=@List.map_cons
def Yw:=@Nat.ne_of_lt
def Yx:=@decide_eq_false
def Yy:=@List.mem_cons
def Yz:=@List.all_eq_true
def YA:=@Nat.le_trans
def YB:=@List.length_replicate
def YC:=@decide_eq_true_eq
def YD:=@PySem.wpAny_pure
def YE:=@PySem.W.mg_of
def YF:=@List.getElem?_map
def YG:=@List.getD_eq_getElem?_getD
def YH:=@PySem.sizeLine_eq
def YI:=@Nat.zero_le
def YJ:=@List.mem_singleton
def YK:=@List.length_set
def YL:=@List.mem_of_getElem?
def YM:=@List.mem_append_right
def YN:=@List.length_nil
def YO:=@PySem.PassesOwn.never
def YQ:=@Nat.lt_irrefl
def YR:=@List.getElem?_set_ne
def YS:=@List.mem_filter
def YT:=@List.append_nil
def YU:=@decide_eq_true
def YV:=@Int.emod_lt_of_pos
def YW:=@PySem.W.mg_none_of
def YX:=@List.length_singleton
def YY:=@PySem.mem_of_lookup
def YZ:=@PySem.F.plainAttrs_list
def Za:=@Nat.le_antisymm
def Zb:=@List.getElem?_append_right
def Zc:=@List.getElem?_set_self
def Zd:=@List.getElem?_append_left
def Ze:=@Option.map_some
def Zf:=@Int.emod_nonneg
def Zg:=@PySem.wpAny_truthy_bool
def Zh:=@Nat.le_of_lt_succ
def Zi:=@Nat.lt_of_le_of_ne
def Zj:=@decide_eq_false_iff_not
def Zk:=@List.pairwise_cons
def Zl:=@Nat.le_of_lt
def Zm:=@beq_eq_false_iff_ne
def Zn:=@Array.length_toList
def Zo:=@List.nodup_cons
def Zp:=@List.find?_cons
def Zq:=@Nat.le_add_left
def Zr:=@PySem.F.slot_list_append
def Zs:=@PySem.F.type_list_append
def Zt:=@Nat.lt_of_le_of_lt
def Zu:=@Nat.le_of_not_lt
def Zv:=@PySem.wpAny_mono
def Zw:=@of_decide_eq_true
def Zx:=@List.append_assoc
def Zy:=@PyProof.Rows.callWith_type1
def Zz:=@List.map_append
def ZA:=@congrArg
def ZB:=@PySem.wpAny_Call_Name_kw
def ZC:=@Nat.lt_trans
def ZD:=@List.mem_range
def ZE:=@Nat.le_sub_one_of_lt
def ZF:=@List.mem_append
def ZG:=@PySem.wpAny_passesOwn
def ZH:=@Option.isSome_iff_exists
def ZI:=@List.length_range
def ZJ:=@Nat.le_of_eq
def ZK:=@List.map_map
def ZL:=@List.getElem?_replicate
def ZM:=@List.any_cons
def ZN:=@Int.eq_ofNat_of_zero_le
def ZO:=@List.length_take
def ZP:=@PySem.W.cellsFrom_some
def ZQ:=@List.drop_eq_nil_of_le
def ZR:=@PySem.Calls.spliced_cons
def ZS:=@List.getElem?_eq_none
def ZT:=@Array.getD_eq_getD_getElem?
def ZU:=@Nat.lt_succ_of_lt
def ZV:=@PySem.Heap.get?_push_ne
def ZW:=@List.drop_eq_getElem_cons
def ZX:=@List.lookup_cons
def ZY:=@Nat.add_sub_cancel'
def ZZ:=@Nat.ne_of_gt
def Xa:=@PySem.codeAny_mono
def Xb:=@PySem.F.slot_list_getattribute
def Xc:=@PySem.tupleKind_room_in1
def Xd:=@Nat.lt_add_of_pos_right
def Xe:=@Nat.add_right_comm
def Xf:=@PySem.codeAny_builtin
def Xg:=@List.length_eq_zero_iff
def Xh:=@List.eraseIdx_cons_succ
def Xi:=@Ne.symm
def Xj:=@Nat.le_of_succ_le
def Xk:=@List.pairwise_map
def Xl:=@PySem.Heap.size_push
def Xm:=@Array.getElem?_toList
def Xn:=@PySem.F.slot_dict_get
def Xo:=@Nat.zero_add
def Xp:=@List.length_filter_le
def Xq:=@Nat.lt_succ_self
def Xr:=@PySem.Heap.size_update
def Xs:=@List.take_length
def Xt:=@List.any_eq_true
def Xu:=@List.mem_append_left
def Xv:=@List.filterMap_cons
def Xw:=@PySem.wpAny_execs_nil
def Xx:=@PySem.W.plainGet_of
def Xy:=@List.of_mem_zip
def Xz:=@PySem.pushCells_keeps
def XA:=@List.getElem?_range
def XB:=@List.map_id
def XC:=@PySem.W.callWith_K
def XD:=@Bool.false_eq_true
def XE:=@List.zip_cons_cons
def XF:=@beq_iff_eq
def XG:=@Option.isSome_map
def XH:=@List.nodup_append
def XI:=@Bool.not_eq_true'
def XJ:=@Sum.inl.inj
def XL:=@Bool.true_and
def XM:=@Nat.sub_lt
def XN:=@if_true
end L2
namespace L2
open PySem PySem.Spec PyProof.Rows
abbrev Kq:=PySem.W.Frag
abbrev Kv:=Value→Shared→Prop
abbrev Kp:=List (Addr×Obj)
abbrev Ks:=Str→Option Value
abbrev Ka:=Array (Int×Value)
abbrev Kb:=Bool→Shared→Prop
abbrev Ko:=Option Value→Shared→Prop
abbrev Kl:=List Value→Shared→Prop
abbrev Kr:=Result→Shared→Prop
abbrev Key:=Sum Int Str
def jx:Key→Value→Bool
 | .inl k,v=>Value.isInt k v
 | .inr x,v=>Value.isStrOf x v
def AC (w:World):Key→Int
 | .inl k=>hashInt k
 | .inr x=>hashStr w x
theorem a_:∀ {k:Key} {v:Value},jx k v=true→(∃ i t,k=Sum.inl i∧v=Value.int i t)∨(∃ x t,k=Sum.inr x∧v=Value.str x t)
 | .inl i,v,h=>by
  obtain⟨t,e⟩:=Value.isInt_shape (k:=i) (v:=v) h
  exact .inl ⟨i,t,rfl,e⟩
 | .inr x,v,h=>by
  obtain⟨t,e⟩:=Value.isStrOf_shape (x:=x) (v:=v) h
  exact .inr ⟨x,t,rfl,e⟩
theorem oW (i:Int)(t:Tok):jx (.inl i) (.int i t)=true:=by simp[jx,Value.isInt]
theorem o9 (x:Str)(t:Tok):jx (.inr x) (.str x t)=true:=by simp[jx,Value.isStrOf]
theorem wn (a b:Int):decide ((Sum.inl a:Key)=Sum.inl b)=(a == b):=by
 by_cases e:a=b
 ·subst e;simp
 ·have h:¬ (Sum.inl a:Key)=Sum.inl b:=fun q=>e (XJ q)
  rw[Yx h]
  exact (Zm.mpr e).symm
theorem xI (a b:Str):decide ((Sum.inr a:Key)=Sum.inr b)=decide (a=b):=by
 by_cases e:a=b
 ·subst e;simp
 ·have h:¬ (Sum.inr a:Key)=Sum.inr b:=fun q=>e (Sum.inr.inj q)
  rw[Yx h,Yx e]
theorem xD (a:Int)(b:Str):decide ((Sum.inl a:Key)=Sum.inr b)=false:=Yx (fun q=>nomatch q)
theorem w9 (a:Str)(b:Int):decide ((Sum.inr a:Key)=Sum.inl b)=false:=Yx (fun q=>nomatch q)
def aK (prog:Program)(w:World):PySem.KeyKind prog w Key where
 is:=jx
 hash:=AC w
 inj:=fun v a b ha hb=>by
  rcases a_ ha with⟨i,t,rfl,rfl⟩ | ⟨x,t,rfl,rfl⟩
  ·rcases a_ hb with⟨j,u,rfl,e⟩ | ⟨y,u,rfl,e⟩
   ·injection e with e1 _;rw[e1]
   ·exact nomatch e
  ·rcases a_ hb with⟨j,u,rfl,e⟩ | ⟨y,u,rfl,e⟩
   ·exact nomatch e
   ·injection e with e1 _;rw[e1]
 byValue:=fun k v h=>by
  rcases a_ h with⟨i,t,rfl,rfl⟩ | ⟨x,t,rfl,rfl⟩ <;> rfl
 pyHash:=fun hv h=>by
  rcases a_ hv with⟨i,t,rfl,rfl⟩ | ⟨x,t,rfl,rfl⟩
  ·exact wpAny_pyHash_int h
  ·exact wpAny_pyHash_str h
 eqBool:=fun hu hv h=>by
  rcases a_ hu with⟨i,t,rfl,rfl⟩ | ⟨x,t,rfl,rfl⟩
  ·rcases a_ hv with⟨j,u,rfl,rfl⟩ | ⟨y,u,rfl,rfl⟩
   ·rw[wn] at h;exact wpAny_eqBool_int h
   ·rw[xD] at h;exact SeqAt.EqAt.int_str i t y u _ _ _ _ h
  ·rcases a_ hv with⟨j,u,rfl,rfl⟩ | ⟨y,u,rfl,rfl⟩
   ·rw[w9] at h;exact SeqAt.EqAt.str_int x t j u _ _ _ _ h
   ·rw[xI] at h;exact wpAny_eqBool_str h
 «strs»:=fun k x t v h=>by
  rcases a_ h with⟨i,u,rfl,e⟩ | ⟨y,u,rfl,e⟩
  ·exact nomatch e
  ·injection e with e1 _
   subst e1
   cases v <;> rfl
theorem lJ (prog:Program)(w:World)(i:Int)(t:Tok):(aK prog w).is (.inl i) (.int i t)=true:=oW i t
theorem kU (prog:Program)(w:World)(x:Str)(t:Tok):(aK prog w).is (.inr x) (.str x t)=true:=o9 x t
inductive V where
 | non | bl (b:Bool) | int (i:Int) | str (x:Str) | byt (b:Array UInt8) | flt (b:UInt64) | ref (a:Addr) | ty (n:String)
def RelV:V→Value→Prop
 | .non,u=>u=Value.none
 | .bl b,u=>u=Value.bool b
 | .int i,u=>∃ t,u=Value.int i t
 | .str x,u=>∃ t,u=Value.str x t
 | .byt b,u=>∃ t,u=Value.bytes b t
 | .flt b,u=>∃ t,u=Value.float b t
 | .ref a,u=>u=Value.ref a
 | .ty n,u=>u=Value.type n
abbrev Vals:List V→List Value→Prop:=Paired RelV
theorem Vals.length {xs:List V}{us:List Value}(r:Vals xs us):xs.length=us.length:=Paired.length r
theorem Vals.get:∀ {xs:List V} {us:List Value} {i:Nat} {x:V},Vals xs us→xs[i]?=some x→∃ u,us[i]?=some u∧RelV x u
 | _,_,_,_,.nil,e=>by simp at e
 | _,_,0,_,.cons r _,e=>by simp at e;subst e;exact⟨_,rfl,r⟩
 | _,_,i+1,x,.cons _ t,e=>by
  obtain⟨u,h1,h2⟩:=Vals.get (i:=i) (x:=x) t (by simpa using e)
  exact⟨u,by simpa using h1,h2⟩
theorem Vals.append {xs ys:List V}{us ws:List Value}(h:Vals xs us)(s:Vals ys ws):Vals (xs++ys) (us++ws):=by
 induction h with
 | nil=>exact s
 | cons r _ ih=>exact .cons r ih
theorem Vals.take:∀ {xs:List V} {us:List Value} (n:Nat),Vals xs us→Vals (xs.take n) (us.take n)
 | _,_,0,_=>.nil
 | _,_,_+1,.nil=>.nil
 | _,_,n+1,.cons r t=>.cons r (Vals.take n t)
theorem Vals.drop:∀ {xs:List V} {us:List Value} (n:Nat),Vals xs us→Vals (xs.drop n) (us.drop n)
 | _,_,0,r=>r
 | _,_,_+1,.nil=>.nil
 | _,_,n+1,.cons _ t=>Vals.drop n t
def RelO:Option V→Option Value→Prop
 | some v,some u=>RelV v u
 | none,none=>True
 | _,_=>False
def KV {κ:Type}:List (κ×V)→List (κ×Value)→Prop:=Paired fun (p:κ×V) (q:κ×Value)=>p.1=q.1∧RelV p.2 q.2
def kV:Key→V
 | .inl i=>.int i
 | .inr x=>.str x
inductive HO where
 /-- a list -/
 | lst (xs:List V)
 /-- a tuple (never changes) -/
 | tup (xs:List V)
 /-- a dict whose keys are ints and texts;one whose keys are tuples of ints and texts (the empty one is both) -/
 | dK (kvs:List (Key×V)) | dT (kvs:List (List Key×V))
 /-- a set of ints: its members,its size -/
 | set (S:Int→Bool) (n:Nat)
 /-- an instance of the class at C,its dict at dx,its attributes -/
 | ins (C dx:Addr) (fs:List (Str×V))
 /-- the dict of the instance at x -/
 | own (x:Addr)
 /-- the dict of an exception -/
 | xd (fs:List (Str×V))
 /-- a bound method,f of x -/
 | met (f x:Addr)
 /-- a range object lo,lo+1,.. below hi -/
 | rng (lo hi:Int)
 /-- a thing that is known to the object (the script;a dict while a loop walks it): read,never written while it is so -/
 | frz (o:Obj) (u:HO)
 /-- a code object's table -/
 | tbl (ps:Array Value)
 /-- any other thing,by what is true of its one object (a def of one's own: SetO a S n:=HO.ext fun h=>..) -/
 | ext (φ:Heap→Prop)
abbrev Hp:=Addr→Option HO
def upd (H:Hp)(a:Addr)(o:HO):Hp:=fun b=>if b=a then some o else H b
theorem aq {H:Hp}{a:Addr}{o:HO}:upd H a o a=some o:=by unfold upd;rw[Yf rfl]
theorem ap {H:Hp}{a b:Addr}{o:HO}(h:b≠a):upd H a o b=H b:=by unfold upd;rw[Yh h]
theorem zS {H:Hp}{a b:Addr}{o u:HO}(h:H a=some o)(h':H b=some u)(d:o≠u):a≠b:=by
 intro e;subst e;rw[h] at h';exact d (Yt h')
theorem aD {H:Hp}{a b:Addr}{o:HO}(h:H a=some o)(h':H b=none):a≠b:=by
 intro e;subst e;rw[h] at h';cases h'
def NoD (h:Heap)(a:Addr):Prop:=∃ o,h.get? a=some o∧o.dict=none
theorem NoD.new (h:Heap)(items:Array Value):NoD (h.push { cls:=.type "tuple",data:=.seq items }) h.objs.size:=⟨_,Yo _ rfl,rfl⟩
section
variable (P:Program) (w:World)
def ObjOk (H:Hp)(h:Heap)(a:Addr):HO→Prop
 | .lst xs=>xs.length≤sizeLine∧∃ (its:List Value) (n:Nat),Vals xs its∧h.get? a=some { cls:=.type "list",data:=.seq its.toArray n }
 | .tup xs=>xs.length≤sizeLine∧∃ its:List Value,Vals xs its∧IsTup h a its.toArray∧NoD h a
 | .dK kvs=>kvs.length≤sizeLine∧(a == sysModules)=false∧∃ vs,KV kvs vs∧h.DictOf (aK P w) a vs
 | .dT kvs=>kvs.length≤sizeLine∧(a == sysModules)=false∧∃ xs:List (List Key×Addr×Value),
   Paired (fun (p:List Key×V) (q:List Key×Addr×Value)=>p.1=q.1∧H q.2.1=some (.tup (p.1.map kV))∧RelV p.2 q.2.2) kvs xs ∧
   ∃ o es ep,h.get? a=some o∧o.ExactDict∧o.data=.dict es ep∧es.toList=xs.map (entryOfKey (tupleKind (aK P w)))∧(xs.map (·.1)).Nodup
 | .set S n=>h.SetOf (intKind P w) a S n
 | .ins C dx fs=>H dx=some (.own a)∧fs.length≤1000∧dx≠a∧h.get? a=some (PySem.W.instObj C dx) ∧
   ∃ mA,h.Ns1 dx mA∧(∀ f,RelO (fs.lookup f) (mA f))∧PySem.Within mA (fs.map (·.1))
 | .own _=>∃ o,h.get? a=some o
 | .xd fs=>∃ mA,h.Ns1 a mA∧∀ f,RelO (fs.lookup f) (mA f)
 | .rng lo hi=>∃ t u v,h.get? a=some { cls:=.type "range",data:=.fields #[.int lo t,.int hi u,.int 1 v] }
 | .frz o u=>h.get? a=some o∧ObjOk H h a u
 | .tbl ps=>h.get? a=some { cls:=.none,data:=.fields ps }
 | .met f x=>h.get? a=some (PySem.W.methodObj (.ref f) (.ref x))
 | .ext φ=>φ h∧(∃ o,h.get? a=some o)∧∀ h1 h2:Heap,φ h1→(∀ o,h1.get? a=some o→h2.get? a=some o)→φ h2
def HOk (H:Hp)(h:Heap):Prop:=∀ a o,H a=some o→ObjOk P w H h a o
end
section
variable {P:Program} {w:World} {H H':Hp} {h h':Heap} {a:Addr} {o:HO}
theorem ObjOk.lt (x:ObjOk P w H h a o):a<h.objs.size:=by
 cases o with
 | lst xs=>obtain⟨_,_,_,_,e⟩:=x;exact Yp e
 | tup xs=>obtain⟨_,_,_,p,_⟩:=x;exact p.lt
 | dK kvs=>obtain⟨_,_,_,_,o,_,_,e,_⟩:=x;exact Yp e
 | dT kvs=>obtain⟨_,_,_,_,o,_,_,e,_⟩:=x;exact Yp e
 | set S n=>obtain⟨o,_,_,_,e,_⟩:=x;exact Yp e
 | ins C dx fs=>obtain⟨_,_,_,e,_⟩:=x;exact Yp e
 | own y=>obtain⟨_,e⟩:=x;exact Yp e
 | xd fs=>obtain⟨_,⟨_,_,_,e,_⟩,_⟩:=x;exact Yp e
 | rng lo hi=>obtain⟨_,_,_,e⟩:=x;exact Yp e
 | frz ob u=>obtain⟨e,_⟩:=x;exact Yp e
 | tbl ps=>exact Yp (show h.get? a=some _ from x)
 | met f y=>exact Yp (show h.get? a=some _ from x)
 | ext φ=>obtain⟨_,⟨_,e⟩,_⟩:=x;exact Yp e
theorem Paired.mapP {α β:Type}{F G:α→β→Prop}{l₁:List α}{l₂:List β}(h:Paired F l₁ l₂)(f:∀ a b,F a b→G a b):Paired G l₁ l₂:=by
 induction h with
 | nil=>exact .nil
 | cons r _ ih=>exact .cons (f _ _ r) ih
theorem ObjOk.stay (x:ObjOk P w H h a o)(k:∀ b u,(b=a∨H b=some (.own a))→h.get? b=some u→h'.get? b=some u)
  (ho:∀ b,H b=some (.own a)→H' b=some (.own a)) (ht:∀ b xs,H b=some (.tup xs)→H' b=some (.tup xs)):ObjOk P w H' h' a o:=by
 induction o with
 | lst xs=>obtain⟨z,its,n,r,e⟩:=x;exact⟨z,its,n,r,k _ _ (.inl rfl) e⟩
 | tup xs=>obtain⟨z,its,r,⟨ob,e,c⟩,ob2,e2,c2⟩:=x;exact⟨z,its,r,⟨ob,k _ _ (.inl rfl) e,c⟩,ob2,k _ _ (.inl rfl) e2,c2⟩
 | dK kvs=>obtain⟨z,y,vs,r,ob,es,ep,e,c⟩:=x;exact⟨z,y,vs,r,ob,es,ep,k _ _ (.inl rfl) e,c⟩
 | dT kvs=>
  obtain⟨z,y,xs,r,ob,es,ep,e,c⟩:=x
  exact⟨z,y,xs,Paired.mapP r fun p q z=>⟨z.1,ht _ _ z.2.1,z.2.2⟩,ob,es,ep,k _ _ (.inl rfl) e,c⟩
 | set S n=>obtain⟨ob,es,ep,t,e,c⟩:=x;exact⟨ob,es,ep,t,k _ _ (.inl rfl) e,c⟩
 | ins C dx fs=>
  obtain⟨d,z,ne,e,mA,⟨od,es,ep,e2,c⟩,r⟩:=x
  exact⟨ho _ d,z,ne,k _ _ (.inl rfl) e,mA,⟨od,es,ep,k _ _ (.inr d) e2,c⟩,r⟩
 | own y=>obtain⟨ob,e⟩:=x;exact⟨ob,k _ _ (.inl rfl) e⟩
 | xd fs=>obtain⟨mA,⟨od,es,ep,e,c⟩,r⟩:=x;exact⟨mA,⟨od,es,ep,k _ _ (.inl rfl) e,c⟩,r⟩
 | rng lo hi=>obtain⟨t,u,v,e⟩:=x;exact⟨t,u,v,k _ _ (.inl rfl) e⟩
 | frz ob u ih=>obtain⟨e,q⟩:=x;exact⟨k _ _ (.inl rfl) e,ih q⟩
 | tbl ps=>
  have e:h.get? a=some { cls:=.none,data:=.fields ps }:=x
  show h'.get? a=some { cls:=.none,data:=.fields ps }
  exact k a _ (.inl rfl) e
 | met f y=>
  have e:h.get? a=some (PySem.W.methodObj (.ref f) (.ref y)):=x
  show h'.get? a=some (PySem.W.methodObj (.ref f) (.ref y))
  exact k a _ (.inl rfl) e
 | ext φ=>obtain⟨p,⟨o,e⟩,st⟩:=x;exact⟨st _ _ p fun o q=>k _ _ (.inl rfl) q,⟨o,k _ _ (.inl rfl) e⟩,st⟩
theorem HOk.lt (x:HOk P w H h)(e:H a=some o):a<h.objs.size:=(x a o e).lt
theorem HOk.fresh (x:HOk P w H h)(e:h.objs.size≤a):H a=none:=by
 cases q:H a with
 | none=>rfl
 | some u=>exact absurd (Yk (x.lt q) e) (YQ _)
theorem HOk.kept (x:HOk P w H h)(k:∀ b u,h.get? b=some u→h'.get? b=some u):HOk P w H h':=fun a o e=>
 (x a o e).stay (fun b u _ q=>k b u q) (fun _ q=>q) fun _ _ q=>q
theorem HOk.laid (x:HOk P w H h)(k:∀ b u,h.get? b=some u→h'.get? b=some u)(hp:h.objs.size≤a)(new:ObjOk P w (upd H a o) h' a o):HOk P w (upd H a o) h':=fun b u e=>by
 have hn:=x.fresh hp
 by_cases hb:b=a
 ·subst hb;rw[aq] at e;cases e;exact new
 ·rw[ap hb] at e
  exact (x b u e).stay (fun c v _ q=>k c v q) (fun c q=>by rw[ap (aD q hn)];exact q) fun c xs q=>by rw[ap (aD q hn)];exact q
end
def Rd (H:Hp)(a:Addr)(u:HO):Prop:=H a=some u∨∃ o,H a=some (.frz o u)
theorem Rd.ok {P:Program}{w:World}{H:Hp}{h:Heap}{a:Addr}{u:HO}(r:Rd H a u)(x:HOk P w H h):ObjOk P w H h a u:=by
 rcases r with r | ⟨o,r⟩
 ·exact x a u r
 ·obtain⟨_,q⟩:=x a _ r
  exact q
def Mut:Option HO→Prop
 | some (.lst _)=>True
 | some (.dK _)=>True
 | some (.dT _)=>True
 | some (.set _ _)=>True
 | some (.ins _ _ _)=>True
 | some (.ext _)=>True
 | _=>False
section
variable {P:Program} {w:World} {H:Hp} {h h':Heap} {x e:Addr} {o':HO}
theorem HOk.write (ok:HOk P w H h)(mu:Mut (H x))(he:e=x∨H e=some (.own x))(k:∀ b u,b≠e→h.get? b=some u→h'.get? b=some u)(heo:∃ u,h'.get? e=some u)
  (new:ObjOk P w (upd H x o') h' x o'):HOk P w (upd H x o') h':=fun b u q=>by
 have nown:∀ c y,H c=some (.own y)→c≠x:=fun c y r z=>by subst z;rw[r] at mu;exact mu
 have ntup:∀ c xs,H c=some (.tup xs)→c≠x:=fun c xs r z=>by subst z;rw[r] at mu;exact mu
 by_cases hb:b=x
 ·subst hb;rw[aq] at q;cases q;exact new
 ·rw[ap hb] at q
  by_cases hbe:b=e
  ·have q':H b=some (.own x):=by
    rcases he with z | z
    ·exact absurd (hbe.trans z) hb
    ·rw[hbe];exact z
   rw[q] at q';cases q'
   obtain⟨v,hv⟩:=heo
   exact⟨v,by rw[hbe];exact hv⟩
  ·refine (ok b u q).stay (fun c v hc r=>k c v ?_ r) (fun c r=>by rw[ap (nown c b r)];exact r) fun c xs r=>by rw[ap (ntup c xs r)];exact r
   rcases hc with rfl | hc
   ·exact hbe
   ·rintro rfl
    rcases he with z | z
    ·exact nown c b hc z
    ·rw[hc] at z;cases z;exact hb rfl
end
structure Un (fs ex:List Addr) (H H':Hp) (h h':Heap):Prop where
 keep:∀ b o,h.get? b=some o→H b=none→b∉fs→b∉ex→h'.get? b=some o
 slot:∀ b o,h.get? b=some o→H b=none→b∈fs→b∉ex→∃ sl,h'.get? b=some { o with slots:=sl }
 free:∀ b o,h.get? b=some o→H b=none→b∉ex→H' b=none
 there:∀ b o,h.get? b=some o→b∉ex→∃ o',h'.get? b=some o'
 tups:∀ b xs,H b=some (.tup xs)→H' b=some (.tup xs)
 frzs:∀ b o u,H b=some (.frz o u)→H' b=some (.frz o u)
 tbls:∀ b ps,H b=some (.tbl ps)→∃ more,H' b=some (.tbl (ps++more))
section
variable {fs fs' ex ex':List Addr} {H H1 H2:Hp} {h h1 h2 h':Heap} {a x e:Addr} {o:HO}
theorem Un.any (u:Un fs ex H H1 h h1){b:Addr}{ob:Obj}(q:h.get? b=some ob)(n:H b=none)(hx:b∉ex):∃ sl,h1.get? b=some { ob with slots:=sl }:=by
 by_cases hb:b∈fs
 ·exact u.slot b ob q n hb hx
 ·exact⟨ob.slots,u.keep b ob q n hb hx⟩
theorem Un.kept (k:∀ b u,h.get? b=some u→h'.get? b=some u):Un fs ex H H h h':=
 ⟨fun b ob q _ _ _=>k b ob q,fun b ob q _ _ _=>⟨ob.slots,k b ob q⟩,fun _ _ _ n _=>n,fun b ob q _=>⟨ob,k b ob q⟩,fun _ _ q=>q,fun _ _ _ q=>q,fun _ ps q=>⟨#[],by rw[q];simp⟩⟩
theorem Un.refl:Un fs ex H H h h:=Un.kept fun _ _ q=>q
theorem Un.laid (k:∀ b u,h.get? b=some u→h'.get? b=some u)(hp:h.objs.size≤a)(hn:H a=none):Un fs ex H (upd H a o) h h' where
 keep:=fun b u q _ _ _=>k b u q
 slot:=fun b u q _ _ _=>⟨u.slots,k b u q⟩
 free:=fun b u q n _=>by rw[ap (Yw (Yk (Yp q) hp))];exact n
 there:=fun b u q _=>⟨u,k b u q⟩
 tups:=fun b xs q=>by rw[ap (aD q hn)];exact q
 frzs:=fun b u xs q=>by rw[ap (aD q hn)];exact q
 tbls:=fun b ps q=>⟨#[],by rw[ap (aD q hn),q];simp⟩
theorem Un.write (mu:Mut (H x))(he:e=x∨H e=some (.own x))(k:∀ b u,b≠e→h.get? b=some u→h'.get? b=some u)(heo:∃ u,h'.get? e=some u):Un fs ex H (upd H x o) h h':=by
 have hx:∀ b,H b=none→b≠x:=fun b n z=>by subst z;rw[n] at mu;exact mu
 have hb:∀ b,H b=none→b≠e:=fun b n z=>by
  subst z
  rcases he with r | r
  ·exact hx b n r
  ·rw[n] at r;cases r
 have hm:∀ b u,H b=some u→¬ Mut (some u)→b≠x:=fun b u q nm z=>by subst z;rw[q] at mu;exact nm mu
 refine⟨fun b u q n _ _=>k b u (hb b n) q,fun b u q n _ _=>⟨u.slots,k b u (hb b n) q⟩,fun b u q n _=>by rw[ap (hx b n)];exact n,fun b u q _=>?_,
  fun b xs q=>by rw[ap (hm b _ q fun z=>z)];exact q,fun b u xs q=>by rw[ap (hm b _ q fun z=>z)];exact q,fun b ps q=>⟨#[],by rw[ap (hm b _ q fun z=>z),q];simp⟩⟩
 by_cases hbe:b=e
 ·subst hbe;exact heo
 ·exact⟨u,k b u hbe q⟩
end
def trk (h:Heap)(H:Hp):List Addr:=(List.range h.objs.size).filter fun a=>(H a).isSome
def iY (h:Heap)(H:Hp):Heap:=PySem.W.hideAll h (trk h H)
theorem oH (h:Heap)(H:Hp):(iY h H).objs.size=h.objs.size:=PySem.W.hideAll_size _ _
theorem sT {h:Heap}{H:Hp}{b:Addr}{o:Obj}(e:h.get? b=some o)(n:H b=none):(iY h H).get? b=some o:=
 PySem.W.hideAll_get _ e fun hm=>by
  have q:(H b).isSome=true:=(YS.mp hm).2
  rw[n] at q;simp at q
theorem vq {h:Heap}{H:Hp}{b:Addr}{o:Obj}(e:(iY h H).get? b=some o):h.get? b=some o∧H b=none:=by
 have e':h.get? b=some o:=PySem.W.of_hideAll (trk h H) e
 refine⟨e',?_⟩
 cases q:H b with
 | none=>rfl
 | some x=>
  have hm:b∈trk h H:=YS.mpr ⟨ZD.mpr (Yp e'),by simp[q]⟩
  have z:(iY h H).get? b=none:=PySem.W.hideAll_none (trk h H) hm
  rw[z] at e;cases e
def uD (g h:Heap)(L:Addr):List (Addr×Obj):=(List.range h.objs.size).filterMap fun a=>if a=L∨(g.get? a).isSome=true then none else (h.get? a).map fun o=>(a,o)
def bn (g h:Heap)(L d:Addr):List (Addr×Obj):=(uD g h L).filter fun p=>decide (p.1≠d)
structure Mod (K:PySem.W.Frag) (mg:Str→Option Value) (base:Heap):Prop where
 kin:K.In base
 glob:base.Ns mainGlobals mg
 blt:∃ mb,base.Ns builtinsNs mb∧∀ x:Str,x ≠ "__name__"→mb x=bootBuiltins x
 nolimit:base.NoLimit
structure Cx where
 prog:Program
 w:World
 K:PySem.W.Frag
 mg:Str→Option Value
 base:Heap
 A:Around
 N:List Str
 s₀:Shared
 H₀:Hp
 env:Env
 outer:List Env
 stack:List Env
 ex:List Addr
 fn:Str→Bool
 calm:Bool
 pn:List (Addr×Obj)
 xe:Value→Shared→Prop
def frs (l:List Env):List Addr:=l.filterMap (·.frame)
abbrev Cx.fs (X:Cx):List Addr:=frs X.outer
def Vis (sc:Scope)(x:Str):Prop:=sc.names.lookup x=some .local∨sc.names.lookup x=some .cell∨sc.names.lookup x=some .free
def Loc (sc:Scope)(x:Str):Prop:=sc.names.lookup x=some .local∨sc.names.lookup x=some .cell
def Au (env:Env)(h:Heap)(m:Ks)(x:Str)(u:Value):Prop:=
 (env.kindOf x=some .local∧m x=some u)∨((env.kindOf x=some .cell∨env.kindOf x=some .free)∧∃ c,env.cells.lookup x=some c∧h.IsCell c (some u))
structure Cx.Ok (X:Cx):Prop where
 mod:Mod X.K X.mg X.base
 kind:X.env.scope.kind=.function
 glob:X.env.globals=mainGlobals
 blt:X.env.builtins=builtinsNs
 above:X.s₀.heap.objs.size≤X.env.locals
 inj:∀ x y c,X.env.cells.lookup x=some c→X.env.cells.lookup y=some c→x=y
 has:∀ x,(X.env.kindOf x=some .cell∨X.env.kindOf x=some .free)→∃ c,X.env.cells.lookup x=some c
 cab:∀ x c,X.fn x=true→X.env.cells.lookup x=some c→X.s₀.heap.objs.size≤c
 hd:X.calm=true→X.A.handled=none
 frames:X.A.frames=some X.stack
 stk:X.stack=X.outer∨(X.stack=X.env::X.outer∧X.env.frame=some X.env.locals)
 exf:∀ b∈X.ex,b≠X.env.locals∧∀ x c,X.env.cells.lookup x=some c→c≠b
 bs:∀ b o,X.base.get? b=some o→X.s₀.heap.get? b=some o∧X.H₀ b=none
 bsz:X.base.objs.size≤X.s₀.heap.objs.size
 noex:∀ b o,X.base.get? b=some o→b∉X.ex
 exfs:∀ b∈X.ex,b∉X.fs
 funs:X.s₀.heap.FunFrames X.base X.outer
 frf:∀ b∈X.fs,X.H₀ b=none
structure Inv (X:Cx) (pz:List (Addr×Obj)) (σ:List (Option V)) (H:Hp) (s:Shared):Prop where
 ok:X.Ok
 os:s.os=X.s₀.os
 bare:AllBare s.gens
 base:Un X.fs X.ex X.H₀ H X.s₀.heap s.heap
 loc:∃ m,s.heap.Ns X.env.locals m∧∀ (i:Nat) (x:Str) (v:V),X.N[i]?=some x→σ[i]?=some (some v)→Vis X.env.scope x→∃ u,RelV v u∧Au X.env s.heap m x u
 cell:∀ x c,X.env.cells.lookup x=some c→∃ v,s.heap.IsCell c v
 free:H X.env.locals=none
 freeC:∀ x c,X.env.cells.lookup x=some c→H c=none
 pin:∀ p∈X.pn++pz,s.heap.get? p.1=some p.2∧H p.1=none∧p.1≠X.env.locals∧p.1∉X.fs∧∀ v,p.2.data≠.cell v
 hok:HOk X.prog X.w H s.heap
 len:σ.length=X.N.length
section
variable {X:Cx} {pz:Kp} {σ:List (Option V)} {H H':Hp} {s:Shared} {h':Heap}
theorem Cx.Ok.nofr (ok:X.Ok){b:Addr}{o:Obj}(e:X.base.get? b=some o):b∉X.fs:=fun hb=>by
 have:=(ok.funs.mem hb).1
 rw[e] at this;cases this
theorem Inv.bs (I:Inv X pz σ H s):∀ b o,X.base.get? b=some o→s.heap.get? b=some o∧H b=none:=fun b o e=>
 ⟨I.base.keep b o (I.ok.bs b o e).1 (I.ok.bs b o e).2 (I.ok.nofr e) (I.ok.noex b o e),I.base.free b o (I.ok.bs b o e).1 (I.ok.bs b o e).2 (I.ok.noex b o e)⟩
theorem Inv.bk (I:Inv X pz σ H s):∀ b o,X.base.get? b=some o→s.heap.get? b=some o:=fun b o e=>(I.bs b o e).1
theorem Inv.mod (I:Inv X pz σ H s):Mod X.K X.mg X.base:=I.ok.mod
theorem Inv.kIn (I:Inv X pz σ H s):X.K.In s.heap:=I.ok.mod.kin.keeps I.bk
theorem Inv.lt (I:Inv X pz σ H s):X.env.locals<s.heap.objs.size:=let ⟨_,hn,_⟩:=I.loc;hn.lt
theorem Inv.sz (I:Inv X pz σ H s):X.s₀.heap.objs.size≤s.heap.objs.size:=YA I.ok.above (Zl I.lt)
theorem Inv.nofs (I:Inv X pz σ H s){a:Addr}(h:s.heap.objs.size≤a):a∉X.fs:=fun hb=>by
 obtain⟨_,o,ho,_⟩:=I.ok.funs.mem hb
 exact absurd (Yk (Yp ho) (YA I.sz h)) (YQ _)
theorem Inv.cne (I:Inv X pz σ H s):∀ x c,X.env.cells.lookup x=some c→c≠X.env.locals:=fun x c e z=>by
 obtain⟨v,o,ho,hd⟩:=I.cell x c e
 obtain⟨m,⟨o',es,ep,ho',hd',_⟩,_⟩:=I.loc
 rw[z,ho'] at ho;cases ho;rw[hd'] at hd;cases hd
theorem Inv.funs (I:Inv X pz σ H s):s.heap.FunFrames X.base X.outer:=by
 have all:∀ (l:List Env),(∀ b∈frs l,b∈X.fs)→X.s₀.heap.FunFrames X.base l→s.heap.FunFrames X.base l:=by
  intro l
  induction l with
  | nil=>intro _ _;trivial
  | cons env r ih=>
   intro hs hl
   obtain⟨hk,⟨L,o,hf,hn,ho,hd⟩,hr⟩:=hl
   have hL:L∈X.fs:=hs L (by unfold frs;rw[Xv,hf];exact Yc)
   obtain⟨sl,e⟩:=I.base.slot L o ho (I.ok.frf L hL) hL fun z=>I.ok.exfs L z hL
   exact⟨hk,⟨L,_,hf,hn,e,hd⟩,ih (fun b hb=>hs b (by unfold frs;rw[Xv,hf];exact Yb _ hb)) hr⟩
 exact all X.outer (fun _ hb=>hb) I.ok.funs
theorem Inv.stack (I:Inv X pz σ H s):s.heap.FunFrames X.base X.stack:=by
 rcases I.ok.stk with e | ⟨e,hf⟩
 ·rw[e];exact I.funs
 ·rw[e]
  obtain⟨m,hn,_⟩:=I.loc
  refine .cons (by rw[I.ok.kind];decide) hf hn ?_ I.funs
  exact Heap.get?_none_of_le (YA I.ok.bsz I.ok.above)
theorem Inv.stkSub (I:Inv X pz σ H s):∀ b∈frs X.stack,b∈X.env.locals::X.fs:=fun b hb=>by
 rcases I.ok.stk with e | ⟨e,hf⟩
 ·rw[e] at hb;exact Yb _ hb
 ·rw[e] at hb
  unfold frs at hb
  rw[Xv,hf] at hb
  exact hb
theorem Inv.stkFree (I:Inv X pz σ H s):∀ b∈frs X.stack,H b=none:=fun b hb=>by
 rcases Yy.mp (I.stkSub b hb) with e | hb
 ·rw[e];exact I.free
 ·obtain⟨_,o,ho,_⟩:=I.ok.funs.mem hb
  exact I.base.free b o ho (I.ok.frf b hb) fun z=>I.ok.exfs b z hb
theorem Inv.step {g':Array GenState}{t':Nat}{d':Drawn}{ch:List Addr}(I:Inv X pz σ H s)
  (hch:∀ b∈ch,(b∈X.ex∨X.s₀.heap.objs.size≤b)∧b≠X.env.locals∧(∀ x c,X.env.cells.lookup x=some c→c≠b)∧∀ p∈X.pn++pz,p.1≠b)
  (keep:∀ b o,b≠X.env.locals→b∉X.fs→b∉ch→s.heap.get? b=some o→H b=none→h'.get? b=some o)
  (slot:∀ b o,b≠X.env.locals→b∈X.fs→b∉ch→s.heap.get? b=some o→H b=none→∃ sl,h'.get? b=some { o with slots:=sl }) (free:∀ b o,b∉ch→s.heap.get? b=some o→H b=none→H' b=none)
  (there:∀ b o,b∉ch→s.heap.get? b=some o→∃ o',h'.get? b=some o')
  (tups:∀ b xs,H b=some (.tup xs)→H' b=some (.tup xs)) (frzs:∀ b o u,H b=some (.frz o u)→H' b=some (.frz o u)) (tbls:∀ b ps,H b=some (.tbl ps)→∃ more,H' b=some (.tbl (ps++more)))
  (ns:∀ m,s.heap.Ns X.env.locals m→h'.Ns X.env.locals m) (hok:HOk X.prog X.w H' h') (hg:AllBare g') :
  Inv X pz σ H' { s with heap:=h',gens:=g',drawn:=d',toks:=t' }:=by
 have neL:∀ b o,X.s₀.heap.get? b=some o→b≠X.env.locals:=fun b o e=>Yw (Yk (Yp e) I.ok.above)
 have neC:∀ b o,X.s₀.heap.get? b=some o→b∉X.ex→b∉ch:=fun b o e hx hb=>by
  rcases (hch b hb).1 with z | z
  ·exact hx z
  ·exact absurd (Yk (Yp e) z) (YQ _)
 have cellK:∀ x c,X.env.cells.lookup x=some c→∀ v,s.heap.IsCell c v→h'.IsCell c v:=fun x c e v hh_=>by
  obtain⟨o,ho,hd⟩:=hh_
  have nch:c∉ch:=fun z=>(hch c z).2.2.1 x c e rfl
  by_cases hc:c∈X.fs
  ·obtain⟨sl,q⟩:=slot c o (I.cne x c e) hc nch ho (I.freeC x c e)
   exact⟨_,q,hd⟩
  ·exact⟨o,keep c o (I.cne x c e) hc nch ho (I.freeC x c e),hd⟩
 refine⟨I.ok,I.os,hg,⟨fun b o e n hb hx=>?_,fun b o e n hb hx=>?_,fun b o e n hx=>?_,fun b o e hx=>?_,fun b xs e=>tups b xs (I.base.tups b xs e),fun b o xs e=>frzs b o xs (I.base.frzs b o xs e),fun b ps e=>?_⟩,?_,fun x c e=>?_,?_,fun x c e=>?_,fun p hp=>?_,hok,I.len⟩
 ·exact keep b o (neL b o e) hb (neC b o e hx) (I.base.keep b o e n hb hx) (I.base.free b o e n hx)
 ·obtain⟨sl,e1⟩:=I.base.slot b o e n hb hx
  obtain⟨sl',e2⟩:=slot b _ (neL b o e) hb (neC b o e hx) e1 (I.base.free b o e n hx)
  exact⟨sl',e2⟩
 ·obtain⟨o',e1⟩:=I.base.there b o e hx
  exact free b o' (neC b o e hx) e1 (I.base.free b o e n hx)
 ·obtain⟨o',e1⟩:=I.base.there b o e hx
  exact there b o' (neC b o e hx) e1
 ·obtain⟨m1,e1⟩:=I.base.tbls b ps e
  obtain⟨m2,e2⟩:=tbls b _ e1
  exact⟨m1++m2,by rw[e2,Array.append_assoc]⟩
 ·obtain⟨m,hn,hl⟩:=I.loc
  refine⟨m,ns m hn,fun i x v e1 e2 e3=>?_⟩
  obtain⟨u,r,l⟩:=hl i x v e1 e2 e3
  refine⟨u,r,?_⟩
  rcases l with l | ⟨k,c,e,z⟩
  ·exact .inl l
  ·exact .inr ⟨k,c,e,cellK x c e _ z⟩
 ·obtain⟨v,z⟩:=I.cell x c e
  exact⟨v,cellK x c e v z⟩
 ·obtain⟨m,⟨o,_,_,ho,_⟩,_⟩:=I.loc
  exact free _ o (fun z=>(hch _ z).2.1 rfl) ho I.free
 ·obtain⟨v,o,ho,hd⟩:=I.cell x c e
  exact free c o (fun z=>(hch c z).2.2.1 x c e rfl) ho (I.freeC x c e)
 ·obtain⟨e,n,ne,nf,d⟩:=I.pin p hp
  have nch:p.1∉ch:=fun z=>(hch p.1 z).2.2.2 p hp rfl
  exact⟨keep p.1 p.2 ne nf nch e n,free p.1 p.2 nch e n,ne,nf,d⟩
theorem Inv.un {t':Nat}(I:Inv X pz σ H s)(u:Un X.fs [] H H' s.heap h')(hok:HOk X.prog X.w H' h'):Inv X pz σ H' { s with heap:=h',toks:=t' }:=by
 obtain⟨m,⟨o,es,ep,ho,r⟩,_⟩:=id I.loc
 obtain⟨sl,hL⟩:=u.any ho I.free (by simp)
 exact I.step (g':=s.gens) (d':=s.drawn) (ch:=[]) (fun _ z=>nomatch z) (fun b o _ hb _ e n=>u.keep b o e n hb (by simp)) (fun b o _ hb _ e n=>u.slot b o e n hb (by simp)) (fun b o _ e n=>u.free b o e n (by simp)) (fun b o _ e=>u.there b o e (by simp)) u.tups u.frzs u.tbls (fun m' hm=>by
  obtain⟨o',es',ep',ho',r'⟩:=hm
  rw[ho] at ho';cases ho'
  exact⟨_,es',ep',hL,r'⟩) hok I.bare
theorem Inv.call {g':Array GenState}{t':Nat}{d':Drawn}{ch:List Addr}(I:Inv X pz σ H s)(u:Un (frs X.stack) ch H H' s.heap h')(hok:HOk X.prog X.w H' h')(hg:AllBare g')
  (hch:∀ b∈ch,(b∈X.ex∨X.s₀.heap.objs.size≤b)∧b≠X.env.locals∧(∀ x c,X.env.cells.lookup x=some c→c≠b)∧∀ p∈X.pn++pz,p.1≠b) :
  Inv X pz σ H' { s with heap:=h',gens:=g',drawn:=d',toks:=t' }:=by
 obtain⟨m,⟨o,es,ep,ho,r⟩,_⟩:=id I.loc
 obtain⟨sl,hL⟩:=u.any ho I.free fun z=>(hch _ z).2.1 rfl
 exact I.step (ch:=ch) hch (fun b o hL hb hc e n=>u.keep b o e n (fun z=>(Yy.mp (I.stkSub b z)).elim hL hb) hc) (fun b o _ _ hc e n=>u.any e n hc) (fun b o hc e n=>u.free b o e n hc) (fun b o hc e=>u.there b o e hc) u.tups u.frzs u.tbls (fun m' hm=>by
  obtain⟨o',es',ep',ho',r'⟩:=hm
  rw[ho] at ho';cases ho'
  exact⟨_,es',ep',hL,r'⟩) hok hg
theorem Inv.turned {t':Nat}{it:Addr}(I:Inv X pz σ H s)(k:∀ b o,b≠it→s.heap.get? b=some o→h'.get? b=some o)(hn:H it=none)(hL:it≠X.env.locals)
  (h1:it∈X.ex∨X.s₀.heap.objs.size≤it) (h2:∀ x c,X.env.cells.lookup x=some c→c≠it) (h3:∀ p∈X.pn++pz,p.1≠it):Inv X pz σ H { s with heap:=h',toks:=t' }:=by
 have nit:∀ b u,H b=some u→b≠it:=fun b u e z=>by rw[z,hn] at e;cases e
 refine I.step (g':=s.gens) (d':=s.drawn) (ch:=[it]) (fun b hb=>?_) (fun b o _ _ hc e _=>k b o (fun z=>hc (by simp[z])) e) (fun b o _ _ hc e _=>⟨o.slots,k b o (fun z=>hc (by simp[z])) e⟩) (fun _ _ _ _ n=>n)
  (fun b o hc e=>⟨o,k b o (fun z=>hc (by simp[z])) e⟩) (fun _ _ e=>e) (fun _ _ _ e=>e) (fun b ps e=>⟨#[],by rw[e];simp⟩) (fun m hm=>?_) (fun b u e=>?_) I.bare
 ·have e:b=it:=by simpa using hb
  subst e
  exact⟨h1,hL,h2,h3⟩
 ·obtain⟨o,es,ep,ho,r⟩:=hm
  exact⟨o,es,ep,k _ o (Xi hL) ho,r⟩
 ·refine (I.hok b u e).stay (fun c v hc q=>k c v ?_ q) (fun _ q=>q) fun _ _ q=>q
  rcases hc with z | z
  ·rw[z];exact nit b u e
  ·exact nit c _ z
theorem Inv.tok (I:Inv X pz σ H s)(t:Nat):Inv X pz σ H { s with toks:=t }:=I.un (h':=s.heap) (t':=t) Un.refl I.hok
theorem Inv.kept {t':Nat}(I:Inv X pz σ H s)(k:∀ b u,s.heap.get? b=some u→h'.get? b=some u):Inv X pz σ H { s with heap:=h',toks:=t' }:=I.un (Un.kept k) (I.hok.kept k)
theorem Inv.laid {a:Addr}{o:HO}{t':Nat}(I:Inv X pz σ H s)(k:∀ b u,s.heap.get? b=some u→h'.get? b=some u)(hp:s.heap.objs.size≤a)(new:ObjOk X.prog X.w (upd H a o) h' a o) :
  Inv X pz σ (upd H a o) { s with heap:=h',toks:=t' }:=I.un (Un.laid k hp (I.hok.fresh hp)) (I.hok.laid k hp new)
theorem Inv.write {x e:Addr}{o:HO}{t':Nat}(I:Inv X pz σ H s)(mu:Mut (H x))(he:e=x∨H e=some (.own x))(k:∀ b u,b≠e→s.heap.get? b=some u→h'.get? b=some u)(heo:∃ u,h'.get? e=some u)
  (new:ObjOk X.prog X.w (upd H x o) h' x o):Inv X pz σ (upd H x o) { s with heap:=h',toks:=t' }:=I.un (Un.write mu he k heo) (I.hok.write mu he k heo new)
theorem Inv.weak {σ':List (Option V)}(I:Inv X pz σ H s)(hl:σ'.length=σ.length)(w:∀ (i:Nat) v,σ'[i]?=some (some v)→σ[i]?=some (some v)):Inv X pz σ' H s:=
 ⟨I.ok,I.os,I.bare,I.base,let ⟨m,hn,hl'⟩:=I.loc;⟨m,hn,fun i x v e1 e2 e3=>hl' i x v e1 (w i v e2) e3⟩,I.cell,I.free,I.freeC,I.pin,I.hok,hl.trans I.len⟩
theorem Inv.pins_of {pz':Kp}(I:Inv X pz σ H s)(h:∀ p∈pz',s.heap.get? p.1=some p.2∧H p.1=none∧p.1≠X.env.locals∧p.1∉X.fs∧∀ v,p.2.data≠.cell v):Inv X pz' σ H s:=
 ⟨I.ok,I.os,I.bare,I.base,I.loc,I.cell,I.free,I.freeC,fun p hp=>(ZF.mp hp).elim (fun z=>I.pin p (Xu _ z)) (h p),I.hok,I.len⟩
theorem lH {N:List Str}(hN:N.Nodup){i j:Nat}{x:Str}(a:N[i]?=some x)(b:N[j]?=some x):i=j:=by
 obtain⟨h1,e1⟩:=Yn.mp a
 obtain⟨h2,e2⟩:=Yn.mp b
 exact (List.getElem_inj hN).mp (e1.trans e2.symm)
theorem jA {M:Model}{A:Around}{E:Kv}{i:Nat}{x:Str}{v:V}{u:Value}{Q:Unit→Shared→Prop}(I:Inv X pz σ H s)(hN:X.N.Nodup)(hi:X.N[i]?=some x)(hx:Loc X.env.scope x)(r:RelV v u)
  (h:∀ s',Inv X pz (σ.set i (some v)) H s'→(∃ a,Heap.SameBut a s.heap s'.heap∧(a=X.env.locals∨X.env.cells.lookup x=some a))→Q () s') (hf:X.fn x=true∨X.env.scope.names.lookup x=some .local:=by first | exact .inl rfl | exact .inr rfl | assumption):wpAny M A (storeName X.env x u) Q E s:=by
 obtain⟨m,hn,hl⟩:=id I.loc
 have hcls:(X.env.scope.kind == .class||(X.env.scope.kind == .module&&X.env.locals != X.env.globals))=false:=by rw[I.ok.kind];rfl
 have hiσ:i<σ.length:=by rw[I.len];exact (Yn.mp hi).1
 have cne:=I.cne
 have tracked:∀ {a:Addr} {h':Heap},(∃ o,s.heap.get? a=some o∧H a=none)→Heap.SameBut a s.heap h'→HOk X.prog X.w H h':=fun {a h'} ha hs b ob e=>by
  obtain⟨_,_,hfree⟩:=ha
  refine (I.hok b ob e).stay (fun c w' hc q=>(hs.2 c ?_).trans q) (fun _ q=>q) fun _ _ q=>q
  rintro rfl
  rcases hc with rfl | hc
  ·rw[hfree] at e;cases e
  ·rw[hfree] at hc;cases hc
 rcases hx with hk | hk
 ·refine wpAny_storeName_local hk hn (fun h' hn' hs=>?_) hcls
  obtain⟨oL,_,_,hoL,_⟩:=id hn
  refine h _ ⟨I.ok,I.os,I.bare,⟨fun b o e n hb hx=>?_,fun b o e n hb hx=>?_,I.base.free,fun b o e hx=>?_,I.base.tups,I.base.frzs,I.base.tbls⟩,⟨_,hn',fun j y v' e1 e2 e3=>?_⟩,fun y c e=>?_,I.free,I.freeC,fun p hp=>?_,tracked ⟨oL,hoL,I.free⟩ hs,by simpa using I.len⟩ ⟨_,hs,.inl rfl⟩
  ·exact (hs.2 b (Yw (Yk (Yp e) I.ok.above))).trans (I.base.keep b o e n hb hx)
  ·obtain⟨sl,e1⟩:=I.base.slot b o e n hb hx
   exact⟨sl,(hs.2 b (Yw (Yk (Yp e) I.ok.above))).trans e1⟩
  ·obtain⟨o',e1⟩:=I.base.there b o e hx
   exact⟨o',(hs.2 b (Yw (Yk (Yp e) I.ok.above))).trans e1⟩
  ·by_cases hj:j=i
   ·subst hj
    rw[hi] at e1;cases e1
    rw[Zc hiσ] at e2
    cases e2
    exact⟨u,r,.inl ⟨hk,by simp⟩⟩
   ·rw[YR (Xi hj)] at e2
    obtain⟨u',r',q⟩:=hl j y v' e1 e2 e3
    refine⟨u',r',?_⟩
    rcases q with⟨k,e⟩ | ⟨k,c,e,z⟩
    ·refine .inl ⟨k,?_⟩
     have:y≠x:=fun e=>hj (lH hN e1 (e ▸ hi))
     simp[this,e]
    ·exact .inr ⟨k,c,e,z.sameBut hs (cne y c e)⟩
  ·obtain⟨w',z⟩:=I.cell y c e
   exact⟨w',z.sameBut hs (cne y c e)⟩
  ·obtain⟨e,n,ne,nf,d⟩:=I.pin p hp
   exact⟨(hs.2 p.1 ne).trans e,n,ne,nf,d⟩
 ·have hfn:X.fn x=true:=by
   rcases hf with z | z
   ·exact z
   ·rw[z] at hk;cases hk
  obtain⟨c,hc⟩:=I.ok.has x (.inl hk)
  obtain⟨w',z⟩:=I.cell x c hc
  refine wpAny_storeName_cell I.ok.kind hk hc z (fun h' hc' hs=>?_)
  obtain⟨oc,hoc,hocd⟩:=id z
  refine h { s with heap:=h' } ⟨I.ok,I.os,I.bare,⟨fun b o e n hb hx=>?_,fun b o e n hb hx=>?_,I.base.free,fun b o e hx=>?_,I.base.tups,I.base.frzs,I.base.tbls⟩,⟨m,hn.sameBut hs (Xi (cne x c hc)),fun j y v' e1 e2 e3=>?_⟩,fun y c' e=>?_,I.free,I.freeC,fun p hp=>?_,tracked ⟨oc,hoc,I.freeC x c hc⟩ hs,by simpa using I.len⟩ ⟨c,hs,.inr hc⟩
  ·exact (hs.2 b (Yw (Yk (Yp e) (I.ok.cab x c hfn hc)))).trans (I.base.keep b o e n hb hx)
  ·obtain⟨sl,e1⟩:=I.base.slot b o e n hb hx
   exact⟨sl,(hs.2 b (Yw (Yk (Yp e) (I.ok.cab x c hfn hc)))).trans e1⟩
  ·obtain⟨o',e1⟩:=I.base.there b o e hx
   exact⟨o',(hs.2 b (Yw (Yk (Yp e) (I.ok.cab x c hfn hc)))).trans e1⟩
  ·by_cases hj:j=i
   ·subst hj
    rw[hi] at e1;cases e1
    rw[Zc hiσ] at e2
    cases e2
    exact⟨u,r,.inr ⟨.inl hk,c,hc,hc'⟩⟩
   ·rw[YR (Xi hj)] at e2
    obtain⟨u',r',q⟩:=hl j y v' e1 e2 e3
    refine⟨u',r',?_⟩
    rcases q with q | ⟨k,c',e,z'⟩
    ·exact .inl q
    ·refine .inr ⟨k,c',e,z'.sameBut hs ?_⟩
     rintro rfl
     exact hj (lH hN e1 (I.ok.inj _ _ _ e hc ▸ hi))
  ·by_cases hcc:c'=c
   ·subst hcc;exact⟨_,hc'⟩
   ·obtain⟨w2,z2⟩:=I.cell y c' e
    exact⟨w2,z2.sameBut hs hcc⟩
  ·obtain⟨e,n,ne,nf,d⟩:=I.pin p hp
   refine⟨(hs.2 p.1 ?_).trans e,n,ne,nf,d⟩
   intro q
   rw[q,hoc] at e
   have q':oc=p.2:=Yt e
   exact d w' (by rw[← q'];exact hocd)
theorem ie {M:Model}{A:Around}{E:Kv}{i:Nat}{x:Str}{v:V}{u:Value}{Q:Unit→Shared→Prop}(I:Inv X pz σ H s)(hN:X.N.Nodup)(hi:X.N[i]?=some x)(hx:Loc X.env.scope x)(r:RelV v u)
  (h:∀ s',Inv X pz (σ.set i (some v)) H s'→Q () s') (hf:X.fn x=true∨X.env.scope.names.lookup x=some .local:=by first | exact .inl rfl | exact .inr rfl | assumption):wpAny M A (storeName X.env x u) Q E s:=
 jA I hN hi hx r (fun s' I' _=>h s' I') hf
theorem Inv.call' {s':Shared}{ch:List Addr}(I:Inv X pz σ H s)(ho:s'.os=s.os)(u:Un (frs X.stack) ch H H' s.heap s'.heap)(hok:HOk X.prog X.w H' s'.heap)(hg:AllBare s'.gens)
  (hch:∀ b∈ch,(b∈X.ex∨X.s₀.heap.objs.size≤b)∧b≠X.env.locals∧(∀ x c,X.env.cells.lookup x=some c→c≠b)∧∀ p∈X.pn++pz,p.1≠b):Inv X pz σ H' s':=by
 obtain⟨h',g',d',t',o'⟩:=s'
 have e:o'=s.os:=ho
 subst e
 exact I.call (g':=g') (t':=t') (d':=d') u hok hg hch
end
abbrev XK:=Value→Option Addr→Hp→Prop
abbrev St:=List (Option V)
abbrev VK:=V→Hp→Prop
abbrev TE:=St→Hp→VK→Prop
abbrev TT:=St→Hp→(Bool→Hp→Prop)→Prop
abbrev TA:=St→Hp→(List V→Hp→Prop)→Prop
structure Ends where
 nx:St→Hp→Prop
 rt:VK
 bk:St→Hp→Prop:=fun _ _=>False
 ct:St→Hp→Prop:=fun _ _=>False
abbrev TS:=Ends→St→Hp→Prop
def EP (X:Cx)(pz:Kp)(σ:St)(Q:VK)(u:Value)(s':Shared):Prop:=∃ v H',Inv X pz σ H' s'∧RelV v u∧Q v H'
def TP (X:Cx)(pz:Kp)(σ:St)(Q:Bool→Hp→Prop)(b:Bool)(s':Shared):Prop:=∃ H',Inv X pz σ H' s'∧Q b H'
def AP (X:Cx)(pz:Kp)(σ:St)(Q:List V→Hp→Prop)(us:List Value)(s':Shared):Prop:=∃ vs H',Inv X pz σ H' s'∧Vals vs us∧Q vs H'
def SP (X:Cx)(pz:Kp)(D:Ends)(f:Flow)(s':Shared):Prop:=
 match f with
 | .next=>∃ σ' H',Inv X pz σ' H' s'∧D.nx σ' H'
 | .brk=>∃ σ' H',Inv X pz σ' H' s'∧D.bk σ' H'
 | .cont=>∃ σ' H',Inv X pz σ' H' s'∧D.ct σ' H'
 | .ret u=>∃ v σ' H',Inv X pz σ' H' s'∧RelV v u∧D.rt v H'
def PE (X:Cx)(e:Expr)(t:TE):Prop:=
 ∀ (pz:Kp) (s:Shared) (σ:St) (H:Hp) (Q:VK),Inv X pz σ H s→t σ H Q→wpAny (model X.prog X.w) X.A (eval e X.env) (EP X pz σ Q) X.xe s
def PT (X:Cx)(e:Expr)(t:TT):Prop:=
 ∀ (pz:Kp) (s:Shared) (σ:St) (H:Hp) (Q:Bool→Hp→Prop),Inv X pz σ H s→t σ H Q→wpAny (model X.prog X.w) X.A (isTrue e X.env (eval e X.env)) (TP X pz σ Q) X.xe s
def PW (X:Cx)(e:Expr)(t:TT):Prop:=
 ∀ (whole:Sem Value) (pz:Kp) (s:Shared) (σ:St) (H:Hp) (Q:Bool→Hp→Prop),Inv X pz σ H s→t σ H Q→wpAny (model X.prog X.w) X.A (isTrue e X.env whole) (TP X pz σ Q) X.xe s
theorem PW.pt {X:Cx}{e:Expr}{t:TT}(h:PW X e t):PT X e t:=h _
def PA (X:Cx)(es:List Expr)(t:TA):Prop:=
 ∀ (pos:Pos) (pz:Kp) (s:Shared) (σ:St) (H:Hp) (Q:List V→Hp→Prop),Inv X pz σ H s→t σ H Q→wpAny (model X.prog X.w) X.A (spliced (backTo pos (starEach es X.env))) (AP X pz σ Q) X.xe s
def PS (X:Cx)(st:Stmt)(t:TS):Prop:=
 ∀ (pz:Kp) (s:Shared) (σ:St) (H:Hp) (D:Ends),Inv X pz σ H s→t D σ H→wpAny (model X.prog X.w) X.A (exec st X.env) (SP X pz D) X.xe s
def PSs (X:Cx)(st:List Stmt)(t:TS):Prop:=
 ∀ (pz:Kp) (s:Shared) (σ:St) (H:Hp) (D:Ends),Inv X pz σ H s→t D σ H→wpAny (model X.prog X.w) X.A (execs st X.env) (SP X pz D) X.xe s
theorem thn {α:Type}{t:Sem α}{Q Q':α→Shared→Prop}{M:Model}{A:Around}{E:Kv}{s:Shared}(h:wpAny M A t Q E s)(hQ:∀ a s,Q a s→Q' a s):wpAny M A t Q' E s:=Zv h hQ fun _ _ x=>x
theorem aG {α β:Type}{X:Cx}{pz:Kp}{σ:St}{t:Sem β}{R:α→β→Prop}{Q:α→Hp→Prop}{T:β→Shared→Prop}{M:Model}{A:Around}{E:Kv}{s:Shared}
  (h:wpAny M A t (fun u s1=>∃ x H1,Inv X pz σ H1 s1∧R x u∧Q x H1) E s) (k:∀ u s1 x H1,Inv X pz σ H1 s1→R x u→Q x H1→T u s1):wpAny M A t T E s:=
 thn h fun u s1 z=>by obtain⟨x,H1,a,b,c⟩:=z;exact k u s1 x H1 a b c
theorem un7 {β γ δ α:Type}{B A Z:β→γ→δ→α→Prop}{C:Prop}(k:∀ P F ρ d,B P F ρ d→A P F ρ d→Z P F ρ d→C)(h:∃ P F ρ d,B P F ρ d∧A P F ρ d∧Z P F ρ d):C:=by
 obtain⟨P,F,ρ,d,a,b,c⟩:=h;exact k P F ρ d a b c
section
variable {X:Cx}
def cA (i:Nat):TE:=fun σ H Q=>∃ v,σ[i]?=some (some v)∧Q v H
def tC (v:V):TE:=fun _ H Q=>Q v H
theorem rH {i:Nat}{x:Str}{pos:Pos}(hN:X.N[i]?=some x)(hv:Vis X.env.scope x)(hd:(x == ("__debug__":Str))=false:=by decide)(hcd:(x == ("__classdict__":Str))=false:=by decide):PE X (.Name x pos) (cA i):=by
 intro pz s σ H Q I h
 obtain⟨v,e,h⟩:=h
 obtain⟨m,hn,hl⟩:=I.loc
 obtain⟨u,r,l⟩:=hl i x v hN e hv
 have fin:EP X pz σ Q u s:=⟨v,H,I,r,h⟩
 rcases l with⟨hk,hm⟩ | ⟨hk,c,hc,hcell⟩
 ·exact wpAny_Name (wpAny_loadName_local I.ok.kind hk hn hm fin) hd
 ·rcases hk with hk | hk
  ·exact wpAny_Name (wpAny_loadName_cell I.ok.kind hk hc hcell fin) hd
  ·exact wpAny_Name (wpAny_loadName_free I.ok.kind hk hc hcell fin hcd) hd
theorem qE {i j pos}:PE X (.Constant (.int i) j pos) (tC (.int i)):=fun _ _ _ H _ I h=>wpAny_Constant_int ⟨.int i,H,I.tok _,⟨_,rfl⟩,h⟩
theorem zC {b j pos}:PE X (.Constant (.bool b) j pos) (tC (.bl b)):=fun _ _ _ H _ I h=>Constant_bool ⟨.bl b,H,I,rfl,h⟩
theorem vZ {x j pos}:PE X (.Constant (.str x) j pos) (tC (.str x)):=fun _ _ _ H _ I h=>Calls.Constant_str ⟨.str x,H,I.tok _,⟨_,rfl⟩,h⟩
def Gl (X:Cx)(x:Str):Prop:=X.env.kindOf x=some .globalImplicit
theorem gH {E:Kv}{pz:Kp}{s:Shared}{σ:St}{H:Hp}{x:Str}{u:Value}{pos:Pos}{Q:Kv}(I:Inv X pz σ H s)(hg:Gl X x)(hm:X.mg x=some u)(h:Q u s)
  (hd:(x == ("__debug__":Str))=false:=by decide):wpAny (model X.prog X.w) X.A (eval (.Name x pos) X.env) Q E s:=
 Calls.Name_function_global I.ok.kind hg (Calls.loadGlobal_global (by rw[I.ok.glob];exact I.mod.glob.keeps I.bk) hm h) hd
theorem fW {E:Kv}{pz:Kp}{s:Shared}{σ:St}{H:Hp}{x:Str}{u:Value}{pos:Pos}{Q:Kv}(I:Inv X pz σ H s)(hg:Gl X x)(hm:X.mg x=none)(hv:bootBuiltins x=some u)(h:Q u s)
  (hn:x ≠ "__name__":=by decide) (hd:(x == ("__debug__":Str))=false:=by decide):wpAny (model X.prog X.w) X.A (eval (.Name x pos) X.env) Q E s:=by
 obtain⟨mb,h1,h2⟩:=I.mod.blt
 exact Calls.Name_function_global I.ok.kind hg (Calls.loadGlobal_builtin (by rw[I.ok.glob];exact I.mod.glob.keeps I.bk) hm (by rw[I.ok.blt];exact h1.keeps I.bk) ((h2 x hn).trans hv) h) hd
theorem vp {x:Str}{v:V}{u:Value}{pos:Pos}(hg:Gl X x)(hm:X.mg x=some u)(r:RelV v u)(hd:(x == ("__debug__":Str))=false:=by decide):PE X (.Name x pos) (tC v):=
 fun _ _ _ H _ I h=>gH I hg hm ⟨v,H,I,r,h⟩ hd
theorem vb {x:Str}{v:V}{u:Value}{pos:Pos}(hg:Gl X x)(hm:X.mg x=none)(hv:bootBuiltins x=some u)(r:RelV v u)(hn:x ≠ "__name__":=by decide)(hd:(x == ("__debug__":Str))=false:=by decide):PE X (.Name x pos) (tC v):=
 fun _ _ _ H _ I h=>fW I hg hm hv ⟨v,H,I,r,h⟩ hn hd
variable {a b:Expr} {ta tb:TE} {pos:Pos}
def PC (X:Cx)(op:CmpOp)(a b:Expr)(t:TE):Prop:=
 ∀ (pz:Kp) (s:Shared) (σ:St) (H:Hp) (Q:VK),Inv X pz σ H s→t σ H Q→
  wpAny (model X.prog X.w) X.A (eval a X.env) (fun v s₁=>wpAny (model X.prog X.w) X.A (eval b X.env) (fun u s₂=>wpAny (model X.prog X.w) X.A (compareOp op v u) (EP X pz σ Q) X.xe s₂) X.xe s₁) X.xe s
theorem iM (b:Expr){op:CmpOp}(h:op≠.In)(h2:op≠.NotIn):behindInMarks op b=false:=by
 have e1:(op == CmpOp.In)=false:=by cases op <;> first | rfl | exact absurd rfl h
 have e2:(op == CmpOp.NotIn)=false:=by cases op <;> first | rfl | exact absurd rfl h2
 cases b <;> simp[behindInMarks,e1,e2]
instance (x:V):Decidable (x=.non):=by cases x <;> first | exact .isTrue rfl | exact .isFalse nofun
def AX (ta:TE):TE:=fun σ H Q=>ta σ H fun x H1=>Q (.bl (decide (x=.non))) H1
theorem RelV.none_iff {x:V}{v:Value}(r:RelV x v):(v == Value.none)=decide (x=.non):=by
 cases x with
 | non=>cases r;rfl
 | bl _=>cases r;rfl
 | int _=>obtain⟨t,rfl⟩:=r;rfl
 | str _=>obtain⟨t,rfl⟩:=r;rfl
 | byt _=>obtain⟨t,rfl⟩:=r;rfl
 | flt _=>obtain⟨t,rfl⟩:=r;rfl
 | ref _=>cases r;rfl
 | ty _=>cases r;rfl
theorem wX {j pos'}(ha:PE X a ta):PC X .Is a (.Constant .none j pos') (AX ta):=by
 intro pz s σ H Q I h
 refine aG (ha pz s σ H _ I h) fun v s1 x H1 I1 r1 q1=>?_
 exact Constant_none (is_none_gen ⟨.bl _,H1,I1,by rw[r1.none_iff];rfl,q1⟩)
def tB (t:TE):TT:=fun σ H Q=>t σ H fun x H1=>∃ c,x=.bl c∧Q c H1
theorem mO {op:CmpOp}{t:TE}(h:PC X op a b t)(h1:behindInMarks op b=false:=by first | exact iM _ (by decide) (by decide) | rfl):PT X (.Compare a [op] [b] pos) (tB t):=by
 intro pz s σ H Q I hw
 refine wpAny_isTrue_Compare1 (thn (h pz s σ H _ I hw) fun v s1 h1=>thn h1 fun u s2 h2=>thn h2 fun c s3 hh_=>?_) h1
 obtain⟨x,H1,I1,r1,q1⟩:=hh_
 obtain⟨d,rfl,q⟩:=q1
 cases r1
 exact Zg ⟨H1,I1,q⟩
theorem sI {e:Expr}{t:TE}(h:PE X e t)(he:∀ whole,isTrue e X.env whole=(do let v ← whole;standAt e.pos;holding [v] (truthy v)):=by intro _;rfl):PT X e (tB t):=by
 intro pz s σ H Q I hw
 refine isTrue_plain (aG (h pz s σ H _ I hw) fun v s1 x H1 I1 r1 q1=>?_) (he _)
 obtain⟨d,rfl,q⟩:=q1
 cases r1
 exact Zg ⟨H1,I1,q⟩
variable {tA tB':TT} {bn:List Expr}
def A6 (t u:TT):TT:=fun σ H Q=>t σ H fun c H1=>if c=true then u σ H1 Q else Q false H1
def tOr (t u:TT):TT:=fun σ H Q=>t σ H fun c H1=>if c=true then Q true H1 else u σ H1 Q
def Be (t:TT):TT:=fun σ H Q=>t σ H fun c H1=>Q (!c) H1
theorem uP (ha:PT X a tA):PW X (.BoolOp .And [a] pos) tA:=by
 intro wh pz s σ H Q I h
 refine isTrue_and (thn (ha pz s σ H Q I h) fun c s1 e=>?_)
 cases c with
 | true=>exact isTrue_and_nil e
 | false=>exact e
theorem xx (ha:PT X a tA):PW X (.BoolOp .Or [a] pos) tA:=by
 intro wh pz s σ H Q I h
 refine isTrue_or (thn (ha pz s σ H Q I h) fun c s1 e=>?_)
 cases c with
 | false=>exact isTrue_or_nil e
 | true=>exact e
theorem wN (ha:PT X a tA)(hb:PW X (.BoolOp .And (b::bn) pos) tB'):PW X (.BoolOp .And (a::b::bn) pos) (A6 tA tB'):=by
 intro wh pz s σ H Q I h
 refine isTrue_and (thn (ha pz s σ H _ I h) fun c s1 hh_=>?_)
 obtain⟨H1,I1,q1⟩:=hh_
 cases c with
 | true=>exact hb wh pz s1 σ H1 Q I1 q1
 | false=>exact⟨H1,I1,q1⟩
theorem yE (ha:PT X a tA)(hb:PW X (.BoolOp .Or (b::bn) pos) tB'):PW X (.BoolOp .Or (a::b::bn) pos) (tOr tA tB'):=by
 intro wh pz s σ H Q I h
 refine isTrue_or (thn (ha pz s σ H _ I h) fun c s1 hh_=>?_)
 obtain⟨H1,I1,q1⟩:=hh_
 cases c with
 | true=>exact⟨H1,I1,q1⟩
 | false=>exact hb wh pz s1 σ H1 Q I1 q1
theorem qD (ha:PT X a tA):PT X (.UnaryOp .Not a pos) (Be tA):=by
 intro pz s σ H Q I h
 exact isTrue_not (ha pz s σ H (fun c H1=>Q (!c) H1) I h)
def yL (ta tb:TE):TE:=fun σ H Q=>ta σ H fun x H1=>∃ c,x=.bl c∧if c=true then tb σ H1 Q else Q (.bl false) H1
def yM (ta:TE):TE:=fun σ H Q=>ta σ H fun x H1=>∃ c,x=.bl c∧Q (.bl (!c)) H1
theorem wS {op}{t:TE}(h:PE X a t):PE X (.BoolOp op [a] pos) t:=fun pz s σ H Q I hw=>BoolOp_one (h pz s σ H Q I hw)
theorem xH (ha:PE X a ta)(hb:PE X (.BoolOp .And (b::bn) pos) tb):PE X (.BoolOp .And (a::b::bn) pos) (yL ta tb):=by
 intro pz s σ H Q I h
 refine BoolOp_and (aG (ha pz s σ H _ I h) fun v s1 x H1 I1 r1 q1=>?_)
 obtain⟨c,rfl,q1⟩:=q1
 cases r1
 refine Zg ?_
 cases c with
 | true=>exact hb pz s1 σ H1 Q I1 q1
 | false=>exact⟨.bl false,H1,I1,rfl,q1⟩
theorem wc (ha:PE X a ta):PE X (.UnaryOp .Not a pos) (yM ta):=by
 intro pz s σ H Q I h
 refine UnaryOp_ (aG (ha pz s σ H _ I h) fun v s1 x H1 I1 r1 q1=>?_)
 obtain⟨c,rfl,q1⟩:=q1
 cases r1
 exact not_of (Zg ⟨.bl (!c),H1,I1,rfl,q1⟩)
def tIf (t:TT)(ta tb:TE):TE:=fun σ H Q=>t σ H fun c H1=>if c=true then ta σ H1 Q else tb σ H1 Q
theorem rJ {c:Expr}(hc:PT X c tA)(ha:PE X a ta)(hb:PE X b tb):PE X (.IfExp c a b pos) (tIf tA ta tb):=by
 intro pz s σ H Q I h
 refine wpAny_IfExp (thn (hc pz s σ H _ I h) fun d s1 hh_=>?_)
 obtain⟨H1,I1,q1⟩:=hh_
 cases d with
 | true=>exact ha pz s1 σ H1 Q I1 q1
 | false=>exact hb pz s1 σ H1 Q I1 q1
end
def SqL (K:Kq)(H:Hp)(a:Addr)(xs:List V):Prop:=
 Rd H a (.lst xs) ∨
  ∃ (o:Obj) (its:Array Value) (n:Nat),K.lookup a=some o∧o.cls=.type "list"∧o.dict=none∧o.data=.seq its n∧its.size≤sizeLine∧Vals xs its.toList
def SqT (K:Kq)(H:Hp)(a:Addr)(xs:List V):Prop:=
 Rd H a (.tup xs) ∨
  ∃ (o:Obj) (its:Array Value) (n:Nat),K.lookup a=some o∧o.cls=.type "tuple"∧o.data=.seq its n∧its.size≤sizeLine∧Vals xs its.toList
def Av:Value→Option V
 | .none=>some .non
 | .bool b=>some (.bl b)
 | .int i _=>some (.int i)
 | .str x _=>some (.str x)
 | .bytes b _=>some (.byt b)
 | .float b _=>some (.flt b)
 | .ref a=>some (.ref a)
 | .type n=>some (.ty n)
 | _=>none
theorem RelV.abs {x:V}{u:Value}(r:RelV x u):Av u=some x:=by
 cases x with
 | non=>cases r;rfl
 | bl _=>cases r;rfl
 | int _=>obtain⟨t,rfl⟩:=r;rfl
 | str _=>obtain⟨t,rfl⟩:=r;rfl
 | byt _=>obtain⟨t,rfl⟩:=r;rfl
 | flt _=>obtain⟨t,rfl⟩:=r;rfl
 | ref _=>cases r;rfl
 | ty _=>cases r;rfl
theorem RelV.inj {x y:V}{u:Value}(r:RelV x u)(q:RelV y u):x=y:=Yt (r.abs.symm.trans q.abs)
theorem Vals.inj {xs ys:List V}{us:List Value}(h:Vals xs us):Vals ys us→xs=ys:=by
 induction h generalizing ys with
 | nil=>intro q;cases q;rfl
 | cons r _ ih=>
  intro q
  cases q with
  | cons r' t'=>rw[r.inj r',ih t']
section
variable {X:Cx} {pz:Kp} {σ:St} {H:Hp} {s:Shared} {a:Addr} {xs ys:List V}
theorem SqL.of {K:Kq}(h:H a=some (.lst xs)):SqL K H a xs:=.inl (.inl h)
theorem SqT.of {K:Kq}(h:H a=some (.tup xs)):SqT K H a xs:=.inl (.inl h)
theorem Inv.list (I:Inv X pz σ H s)(h:SqL X.K H a xs):∃ its:List Value,Vals xs its∧PlainL s.heap a its.toArray∧xs.length≤sizeLine:=by
 rcases h with h | ⟨o,its,n,hk,hc,hd,hs,hz,r⟩
 ·obtain⟨z,its,n,r,e⟩:=h.ok I.hok
  exact⟨its,r,⟨_,n,e,rfl,rfl,rfl⟩,z⟩
 ·refine⟨its.toList,r,⟨o,n,I.kIn a o hk,hc,hd,by simpa using hs⟩,?_⟩
  have e:=r.length
  simp only[Zn] at e
  omega
theorem Inv.tuple (I:Inv X pz σ H s)(h:SqT X.K H a xs):∃ its:List Value,Vals xs its∧IsTup s.heap a its.toArray∧xs.length≤sizeLine:=by
 rcases h with h | ⟨o,its,n,hk,hc,hs,hz,r⟩
 ·obtain⟨z,its,r,p,_⟩:=h.ok I.hok
  exact⟨its,r,p,z⟩
 ·refine⟨its.toList,r,⟨o,I.kIn a o hk,hc,n,by simpa using hs⟩,?_⟩
  have e:=r.length
  simp only[Zn] at e
  omega
theorem Inv.list_inj (I:Inv X pz σ H s)(h:SqL X.K H a xs)(h':SqL X.K H a ys):xs=ys:=by
 obtain⟨its,r,⟨o,n,e,_,_,d⟩,_⟩:=I.list h
 obtain⟨its',r',⟨o',n',e',_,_,d'⟩,_⟩:=I.list h'
 rw[e] at e';cases e'
 rw[d] at d'
 injection d' with d1 _
 have:its=its':=by simpa using ZA Array.toList d1
 subst this
 exact r.inj r'
end
abbrev Cx.wish (X:Cx)(E:Kv):Cx:={ X with xe:=E }
abbrev Cx.nox (X:Cx):Cx:=X.wish fun _ _=>False
theorem Cx.Ok.wish {X:Cx}(ok:X.Ok)(E:Kv):(X.wish E).Ok:=
 ⟨ok.mod,ok.kind,ok.glob,ok.blt,ok.above,ok.inj,ok.has,ok.cab,ok.hd,ok.frames,ok.stk,ok.exf,ok.bs,ok.bsz,ok.noex,ok.exfs,ok.funs,ok.frf⟩
theorem Cx.Ok.unwish {X:Cx}{E:Kv}(ok:(X.wish E).Ok):X.Ok:=
 ⟨ok.mod,ok.kind,ok.glob,ok.blt,ok.above,ok.inj,ok.has,ok.cab,ok.hd,ok.frames,ok.stk,ok.exf,ok.bs,ok.bsz,ok.noex,ok.exfs,ok.funs,ok.frf⟩
section
variable {X:Cx} {pz:Kp} {σ:St} {H:Hp} {s:Shared} {E:Kv}
theorem Inv.wish (I:Inv X pz σ H s)(E:Kv):Inv (X.wish E) pz σ H s:=⟨I.ok.wish E,I.os,I.bare,I.base,I.loc,I.cell,I.free,I.freeC,I.pin,I.hok,I.len⟩
theorem Inv.unwish (I:Inv (X.wish E) pz σ H s):Inv X pz σ H s:=⟨I.ok.unwish,I.os,I.bare,I.base,I.loc,I.cell,I.free,I.freeC,I.pin,I.hok,I.len⟩
theorem SP.unwish {D:Ends}{f:Flow}{s':Shared}(h:SP (X.wish E) pz D f s'):SP X pz D f s':=by
 cases f with
 | next=>obtain⟨σ',H',I,q⟩:=h;exact⟨σ',H',I.unwish,q⟩
 | brk=>obtain⟨σ',H',I,q⟩:=h;exact⟨σ',H',I.unwish,q⟩
 | cont=>obtain⟨σ',H',I,q⟩:=h;exact⟨σ',H',I.unwish,q⟩
 | ret u=>obtain⟨v,σ',H',I,r,q⟩:=h;exact⟨v,σ',H',I.unwish,r,q⟩
theorem PSs.nox {st:List Stmt}{t:TS}(h:PSs X.nox st t):PSs X st t:=fun pz s σ H D I hw=>
 Zv (h pz s σ H D (I.wish _) hw) (fun _ _ q=>q.unwish) fun _ _ z=>False.elim z
end
section
variable {X:Cx} {st:Stmt} {bn:List Stmt} {t u:TS} {e:Expr} {te:TE} {pos:Pos}
def yZ:TS:=fun D σ H=>D.nx σ H
def AH (t u:TS):TS:=fun D σ H=>t { D with nx:=u D } σ H
theorem uH:PSs X [] yZ:=fun _ _ σ H _ I h=>Xw ⟨σ,H,I,h⟩
theorem lb (h1:PS X st t)(h2:PSs X bn u):PSs X (st::bn) (AH t u):=by
 intro pz s σ H D I h
 refine wpAny_execs_cons (thn (h1 pz s σ H { D with nx:=u D } I h) fun f s1 q=>?_)
 cases f with
 | next=>
  obtain⟨σ',H',I',q⟩:=q
  exact h2 pz s1 σ' H' D I' q
 | ret v=>exact q
 | brk=>exact q
 | cont=>exact q
theorem nM (h1:PS X st t):PSs X [st] t:=by
 intro pz s σ H D I h
 refine wpAny_execs_cons (thn (h1 pz s σ H D I h) fun f s1 q=>?_)
 cases f with
 | next=>exact Xw q
 | ret v=>exact q
 | brk=>exact q
 | cont=>exact q
theorem Inv.quiet {pz:Kp}{σ:St}{H:Hp}{s:Shared}(I:Inv X pz σ H s):interactive X.env=false:=by simp[interactive,I.ok.kind]
def yf (te:TE):TS:=fun D σ H=>te σ H fun _ H1=>D.nx σ H1
theorem cz (he:PE X e te)(hs:swapsWith e none pos.line X.env=pure false:=by rfl):PS X (.Expr e pos) (yf te):=by
 intro pz s σ H D I h
 exact wpAny_Expr_any (aG (he pz s σ H _ I h) fun v s1 x H1 I1 r1 q1=>⟨σ,H1,I1,q1⟩) I.quiet hs
def AK (te:TE):TS:=fun D σ H=>te σ H D.rt
theorem nq (he:PE X e te):PS X (.Return (some e) pos) (AK te):=by
 intro pz s σ H D I h
 exact wpAny_Return_some (aG (he pz s σ H _ I h) fun v s1 x H1 I1 r1 q1=>⟨x,σ,H1,I1,r1,q1⟩)
def AS (c:TT)(t u:TS):TS:=fun D σ H=>c σ H fun b H1=>if b=true then t D σ H1 else u D σ H1
theorem vO {c:Expr}{a b:List Stmt}{tc:TT}(hc:PT X c tc)(ha:PSs X a t)(hb:PSs X b u):PS X (.If c a b pos) (AS tc t u):=by
 intro pz s σ H D I h
 refine wpAny_If (thn (hc pz s σ H _ I h) fun d s1 hh_=>?_)
 obtain⟨H1,I1,q1⟩:=hh_
 cases d with
 | true=>exact ha pz s1 σ H1 D I1 q1
 | false=>exact hb pz s1 σ H1 D I1 q1
def xz:TS:=fun _ _ _=>False
theorem sO:PS X st xz:=fun _ _ _ _ _ _ h=>h.elim
end
abbrev TG:=V→St→Hp→(St→Hp→Prop)→Prop
abbrev TGs:=List V→St→Hp→(St→Hp→Prop)→Prop
def PG (X:Cx)(target:Expr)(t:TG):Prop:=
 ∀ (pz:Kp) (s:Shared) (σ:St) (H:Hp) (v:V) (u:Value) (Q:St→Hp→Prop),Inv X pz σ H s→RelV v u→t v σ H Q→
  wpAny (model X.prog X.w) X.A (assign target X.env u) (fun _ s'=>∃ σ' H',Inv X pz σ' H' s'∧Q σ' H') X.xe s
def PGs (X:Cx)(ts:List Expr)(t:TGs):Prop:=
 ∀ (pz:Kp) (s:Shared) (σ:St) (H:Hp) (vs:List V) (us:List Value) (Q:St→Hp→Prop),Inv X pz σ H s→Vals vs us→t vs σ H Q→
  wpAny (model X.prog X.w) X.A (assignInOrder ((assignEach ts X.env).map (·.2)) us) (fun _ s'=>∃ σ' H',Inv X pz σ' H' s'∧Q σ' H') X.xe s
abbrev TIp:=V→V→Hp→VK→Prop
def PIp (X:Cx)(op:Operator)(t:TIp):Prop:=
 ∀ (pz:Kp) (s:Shared) (σ:St) (H:Hp) (x y:V) (v u:Value) (Q:VK),Inv X pz σ H s→RelV x v→RelV y u→t x y H Q→
  wpAny (model X.prog X.w) X.A (inplaceOp op v u) (EP X pz σ Q) X.xe s
section
variable {X:Cx} {pos:Pos}
def ii (i:Nat):TG:=fun v σ H Q=>Q (σ.set i (some v)) H
theorem bB {i:Nat}{x:Str}(hN:X.N.Nodup)(hi:X.N[i]?=some x)(hx:Loc X.env.scope x)(hf:X.fn x=true∨X.env.scope.names.lookup x=some .local:=by first | exact .inl rfl | exact .inr rfl | assumption):PG X (.Name x pos) (ii i):=by
 intro pz s σ H v u Q I r h
 exact wpAny_assign_Name (ie I hN hi hx r (fun s' I'=>⟨_,H,I',h⟩) hf)
def zc:TGs:=fun vs σ H Q=>vs=[]∧Q σ H
def vD (t:TG)(u:TGs):TGs:=fun vs σ H Q=>∃ v r,vs=v::r∧t v σ H fun σ' H'=>u r σ' H' Q
theorem gG:PGs X [] zc:=by
 intro pz s σ H vs us Q I r h
 obtain⟨e,h⟩:=h
 subst e
 cases r
 exact assignInOrder_nil ⟨σ,H,I,h⟩
theorem bp {e:Expr}{es:List Expr}{t:TG}{u:TGs}(h1:PG X e t)(h2:PGs X es u)
  (hs:(assignEach (e::es) X.env).map (·.2)=assign e X.env::(assignEach es X.env).map (·.2):=by rfl):PGs X (e::es) (vD t u):=by
 intro pz s σ H vs us Q I r h
 obtain⟨v,vr,e1,h⟩:=h
 subst e1
 cases r with
 | cons r rr=>
  rw[hs]
  refine assignInOrder_cons (thn (h1 pz s σ H _ _ _ I r h) fun _ s1 hh_=>?_)
  obtain⟨σ1,H1,I1,q1⟩:=hh_
  exact h2 pz s1 σ1 H1 _ _ Q I1 rr q1
def AD (K:Kq)(n:Nat)(t:TGs):TG:=fun v σ H Q=>∃ a xs,v=.ref a∧SqT K H a xs∧xs.length=n∧t xs σ H Q
theorem xc {es:List Expr}{k:Nat}{t:TGs}{n:Nat}(hc:X.calm=true)(h:PGs X es t)
  (hn:(assignEach es X.env).length=n:=by rfl) (hst:(assignEach es X.env).findIdx? (·.1)=none:=by rfl):PG X (.Tuple es k pos) (AD X.K n t):=by
 intro pz s σ H v u Q I r hw
 obtain⟨a,xs,e1,hq,hl,hw⟩:=hw
 subst e1
 cases r
 obtain⟨its,rv,ht,hz⟩:=I.tuple hq
 refine assign_Tuple_tuple (I.ok.hd hc) ht (by simp[hn,← hl,rv.length]) hst fun h' hx=>?_
 have I1:Inv X pz σ H { s with heap:=h' }:=I.kept (t':=s.toks) fun b o e=>hx b o (Yw (Yp e)) e
 exact h pz _ σ H xs _ Q I1 (by simpa using rv) hw
def re (te:TE)(g:TG):TS:=fun D σ H=>te σ H fun x H1=>g x σ H1 D.nx
theorem wW {tg e:Expr}{te:TE}{g:TG}(he:PE X e te)(hg:PG X tg g)(hs:swapsWithSole [tg] e pos.line X.env=pure false:=by rfl)(hw:swappedStores [tg] e X.env=pure none:=by rfl)
  (h1:(assignEach [tg] X.env).map (·.2)=[assign tg X.env]:=by rfl):PS X (.Assign [tg] e pos) (re te g):=by
 intro pz s σ H D I h
 refine wpAny_Assign_stores (aG (he pz s σ H _ I h) fun v s1 x H1 I1 r1 q1=>?_) hs hw
 rw[h1]
 exact thn (hg pz s1 σ H1 x v _ I1 r1 q1) fun _ s2 q=>q
theorem j4 {i:Nat}{x:Str}{e:Expr}{te:TE}{pos':Pos}(hN:X.N.Nodup)(hi:X.N[i]?=some x)(hx:Loc X.env.scope x)(he:PE X e te)(hs:swapsWith e (some (.Name x pos')) pos.line X.env=pure false:=by rfl)(hf:X.fn x=true∨X.env.scope.names.lookup x=some .local:=by first | exact .inl rfl | exact .inr rfl | assumption) :
  PS X (.Assign [.Name x pos'] e pos) (re te (ii i)):=by
 intro pz s σ H D I h
 refine wpAny_Assign_Name (aG (he pz s σ H _ I h) fun v s1 y H1 I1 r1 q1=>?_) hs
 exact ie I1 hN hi hx r1 (fun s2 I2=>⟨_,H1,I2,q1⟩) hf
def Bf (i:Nat)(te:TE)(ti:TIp):TS:=fun D σ H=>∃ x,σ[i]?=some (some x)∧te σ H fun y H1=>ti x y H1 fun z H2=>D.nx (σ.set i (some z)) H2
theorem vV {i:Nat}{x:Str}{e:Expr}{te:TE}{op:Operator}{ti:TIp}{pos':Pos}(hN:X.N.Nodup)(hi:X.N[i]?=some x)(hx:Loc X.env.scope x)(he:PE X e te)(ho:PIp X op ti)(hf:X.fn x=true∨X.env.scope.names.lookup x=some .local:=by first | exact .inl rfl | exact .inr rfl | assumption) :
  PS X (.AugAssign (.Name x pos') op e pos) (Bf i te ti):=by
 intro pz s σ H D I h
 obtain⟨v,e1,h⟩:=h
 obtain⟨m,hn,hl⟩:=I.loc
 have vis:Vis X.env.scope x:=by rcases hx with k | k;exact .inl k;exact .inr (.inl k)
 obtain⟨u,r,l⟩:=hl i x v hi e1 vis
 refine wpAny_AugAssign_Name ?_
 have go:wpAny (model X.prog X.w) X.A (eval e X.env) (fun w s₂=>wpAny (model X.prog X.w) X.A (inplaceOp op u w) (fun r s₃=>wpAny (model X.prog X.w) X.A (storeName X.env x r) (fun _=>SP X pz D .next) X.xe s₃) X.xe s₂) X.xe s:=by
  refine aG (he pz s σ H _ I h) fun w s1 y H1 I1 r1 q1=>?_
  refine aG (ho pz s1 σ H1 v y u w _ I1 r r1 q1) fun z s2 zv H2 I2 r2 q2=>?_
  exact ie I2 hN hi hx r2 (fun s3 I3=>⟨_,H2,I3,q2⟩) hf
 rcases l with⟨hk,hm⟩ | ⟨hk,c,hc,hcell⟩
 ·exact wpAny_loadName_local I.ok.kind hk hn hm go
 ·rcases hk with hk | hk
  ·exact wpAny_loadName_cell I.ok.kind hk hc hcell go
  ·rcases hx with k | k
   ·have:X.env.scope.names.lookup x=some .free:=hk
    rw[k] at this;cases this
   ·have:X.env.scope.names.lookup x=some .free:=hk
    rw[k] at this;cases this
def ipI (f:Int→Int→Int):TIp:=fun x y H Q=>∃ i j,x=.int i∧y=.int j∧Q (.int (f i j)) H
theorem xL:PIp X .Add (ipI fun i j=>i+j):=by
 intro pz s σ H x y v u Q I r1 r2 h
 obtain⟨i,j,e1,e2,q⟩:=h
 subst e1;subst e2
 obtain⟨t,rfl⟩:=r1
 obtain⟨t',rfl⟩:=r2
 exact iadd_int ⟨.int _,H,I.tok _,⟨_,rfl⟩,q⟩
end
section
variable {X:Cx} {pos:Pos}
def wF (c:TT)(tb:TS):TS:=fun D σ H=>∃ W:Nat→St→Hp→Prop,(∃ m,W m σ H)∧∀ m σ H,W m σ H→
 c σ H fun b H1=>if b=true then ∃ N:St→Hp→Prop,(∀ σ' H',N σ' H'→∃ m',m' < m∧W m' σ' H')∧tb { D with nx:=N,ct:=N,bk:=D.nx } σ H1 else D.nx σ H1
theorem sM {c:Expr}{body:List Stmt}{tc:TT}{tb:TS}(hp:PassesOwn (model X.prog X.w) X.A X.env X.xe)(hc:PT X c tc)(hb:PSs X body tb):PS X (.While c body [] pos) (wF tc tb):=by
 intro pz s σ H D I h
 obtain⟨W,⟨m0,w0⟩,turn⟩:=h
 refine wpAny_While (codeAny_whileLoop (fun n s'=>∃ σ' H',Inv X pz σ' H' s'∧W n σ' H') ?_ m0 ⟨σ,H,I,w0⟩)
 rintro n s1 ⟨σ1,H1,I1,w1⟩
 refine ZG hp (thn (hc pz s1 σ1 H1 _ I1 (turn n σ1 H1 w1)) fun b s2 hh_=>?_)
 obtain⟨H2,I2,q2⟩:=hh_
 cases b with
 | true=>
  obtain⟨N,hN,q2⟩:=q2
  rw[Yf rfl]
  refine ZG hp (thn (hb pz s2 σ1 H2 _ I2 q2) fun f s3 q3=>?_)
  cases f with
  | next=>
   obtain⟨σ3,H3,I3,n3⟩:=q3
   obtain⟨m',hm,w3⟩:=hN σ3 H3 n3
   exact⟨m',hm,σ3,H3,I3,w3⟩
  | cont=>
   obtain⟨σ3,H3,I3,n3⟩:=q3
   obtain⟨m',hm,w3⟩:=hN σ3 H3 n3
   exact⟨m',hm,σ3,H3,I3,w3⟩
  | brk=>exact q3
  | ret v=>exact q3
 | false=>
  rw[Yh Yg]
  exact Xw ⟨σ1,H2,I2,q2⟩
end
structure It where
 go:Nat→Hp→Prop
 yld:Nat→Hp→V→Hp→Prop
 stop:Nat→Hp→Prop
def fS (X:Cx)(pz:Kp)(H:Hp)(b:Addr):Prop:=
 H b=none∧b≠X.env.locals∧b∉X.fs∧(b∈X.ex∨X.s₀.heap.objs.size≤b)∧(∀ x c,X.env.cells.lookup x=some c→c≠b)∧∀ p∈X.pn++pz,p.1≠b
theorem Inv.fpOk {X:Cx}{pz:Kp}{σ:St}{H H':Hp}{s:Shared}{b:Addr}(I:Inv X pz σ H s)(hb:s.heap.objs.size≤b)(hn:H' b=none):fS X pz H' b:=by
 refine⟨hn,ZZ (Yk I.lt hb),I.nofs hb,.inr (YA I.sz hb),fun x c e z=>?_,fun p hp z=>?_⟩
 ·obtain⟨v,q⟩:=I.cell x c e
  exact absurd (Yk q.lt (by rw[z];exact hb)) (YQ _)
 ·exact absurd (Yk (Yp (I.pin p hp).1) (by rw[z];exact hb)) (YQ _)
structure Turn (P:Program) (w:World) (K:PySem.W.Frag) (tg:Expr) (J:It) (fp:List Addr) (it:Addr) (tn:Nat→Heap→Prop):Prop where
 mem:it∈fp
 obj:∀ i h,tn i h→∀ b∈fp,∃ o,h.get? b=some o∧∀ v,o.data≠.cell v
 keep:∀ i h h',tn i h→(∀ b∈fp,∀ o,h.get? b=some o→h'.get? b=some o)→tn i h'
 item:∀ (X:Cx),X.prog=P→X.w=w→X.K=K→X.calm=true→∀ (i:Nat) (pz:Kp) (s:Shared) (σ:St) (H:Hp) (E:Kv),Inv X pz σ H s→(∀ b∈fp,fS X pz H b)→tn i s.heap→J.go i H→
  wpAny (model P w) X.A (pyNext (.ref it)) (fun r s1=>∃ u,r=some u ∧
   wpAny (model P w) X.A (letOwnedTupleGo tg (.ref it) u) (fun _ s2=>∃ x H',Inv X pz σ H' s2∧RelV x u∧J.yld i H x H'∧tn (i+1) s2.heap∧∀ b∈fp,H' b=none) E s1) E s
 done:∀ (X:Cx),X.prog=P→X.w=w→X.K=K→X.calm=true→∀ (i:Nat) (pz:Kp) (s:Shared) (σ:St) (H:Hp) (E:Kv),Inv X pz σ H s→(∀ b∈fp,fS X pz H b)→tn i s.heap→J.stop i H→
  wpAny (model P w) X.A (pyNext (.ref it)) (fun r s1=>r=none∧Inv X pz σ H s1) E s
 self:∀ (A:Around) (i:Nat) (s:Shared) (Q:Kv) (E:Kv),tn i s.heap→Q (.ref it) s→wpAny (model P w) A (pyIter (.ref it)) Q E s
abbrev TI:=St→Hp→(It→Hp→Prop)→Prop
def PIE (X:Cx)(pz:Kp)(σ:St)(tg:Expr)(R:It→Hp→Prop)(itv:Value)(s2:Shared):Prop:=
 ∃ (it:Addr) (fp:List Addr) (tn:Nat→Heap→Prop) (J:It) (H':Hp),itv=.ref it∧Inv X pz σ H' s2∧Turn X.prog X.w X.K tg J fp it tn∧tn 0 s2.heap∧(∀ b∈fp,fS X pz H' b)∧R J H'
def PI (X:Cx)(tg iter:Expr)(wi:TI):Prop:=
 ∀ (pz:Kp) (s:Shared) (σ:St) (H:Hp) (R:It→Hp→Prop),Inv X pz σ H s→wi σ H R→
  wpAny (model X.prog X.w) X.A (eval iter X.env) (fun v s1=>wpAny (model X.prog X.w) X.A (pyIter v) (PIE X pz σ tg R) X.xe s1) X.xe s
theorem oE {M:Model}{A:Around}{E:Kv}{s:Shared}{tg:Expr}{it:Addr}{u:Value}{o:Obj}{n:String}{vs:Array Value}{Q:Unit→Shared→Prop}(ho:s.heap.get? it=some o)(hc:o.cls=.type n)(hd:o.data=.fields vs)
  (hn:["enumerate", "zip", "dict_itemiterator", "dict_reverseitemiterator", "odict_iterator", "itertools.zip_longest", "itertools.pairwise"].contains n=false) (hQ:Q () s):wpAny M A (letOwnedTupleGo tg (.ref it) u) Q E s:=by
 unfold letOwnedTupleGo
 cases tg <;> first
  | exact YD hQ
  | (cases u <;> first
    | exact YD hQ
    | (
     refine Yr (wpAny_load ho ?_)
     rw[hc,hd]
     show wpAny M A (if (["enumerate", "zip", "dict_itemiterator", "dict_reverseitemiterator", "odict_iterator", "itertools.zip_longest", "itertools.pairwise"].contains n&&vs[0]? == some (rawInt _))=true then _ else _) Q E s
     rw[Yh (by intro h;rw[hn,Bool.false_and] at h;cases h)]
     exact YD hQ))
def Itl (K:Kq)(a:Addr):It:=
 ⟨fun i H=>∃ xs x,SqL K H a xs∧xs[i]?=some x,fun i H x H'=>H'=H∧∀ xs,SqL K H a xs→xs[i]?=some x,fun i H=>∃ xs,SqL K H a xs∧xs.length≤i⟩
def Itr (lo:Int)(n:Nat):It:=⟨fun i _=>i<n,fun i H x H'=>H'=H∧x=.int (lo+i),fun i _=>n≤i⟩
theorem pT {P:Program}{w:World}{K:Kq}{tg:Expr}(a it:Addr):Turn P w K tg (Itl K a) [it] it (fun i h=>h.IsListIter it a i) where
 mem:=by simp
 obj:=fun i h st b hb=>by
  have e:b=it:=by simpa using hb
  subst e
  obtain⟨o,e,c,d⟩:=st
  exact⟨o,e,fun v z=>by rw[d] at z;cases z⟩
 keep:=fun i h h' st k=>st.at fun o e=>k it (by simp) o e
 item:=by
  intro X hP hw hK hc i pz s σ H E I hf st hg
  subst hP hw hK
  obtain⟨xs,x,hq,hx⟩:=hg
  obtain⟨its,rv,p,hz⟩:=I.list hq
  obtain⟨u,hu,ru⟩:=rv.get hx
  obtain⟨f0,f1,f2,f3,f4,f5⟩:=hf it (by simp)
  refine wpAny_pyNext_list_item st p.isList (x:=u) (by simpa using hu) fun h' st' sb=>?_
  have I1:Inv X pz σ H { s with heap:=h' }:=I.turned (t':=s.toks) (fun b o hb e=>(sb.2 b hb).trans e) f0 f1 f3 f4 f5
  obtain⟨o,e,c,d⟩:=id st'
  exact⟨u,rfl,oE (s:={ s with heap:=h' }) e c d (by decide) ⟨x,H,I1,ru,⟨rfl,fun ys hy=>by rw[I.list_inj hy hq];exact hx⟩,st',fun b hb=>(hf b hb).1⟩⟩
 done:=by
  intro X hP hw hK hc i pz s σ H E I hf st hg
  subst hP hw hK
  obtain⟨xs,hq,hx⟩:=hg
  obtain⟨its,rv,p,hz⟩:=I.list hq
  obtain⟨f0,f1,f2,f3,f4,f5⟩:=hf it (by simp)
  have hl:=rv.length
  exact wpAny_pyNext_list_end (I.ok.hd hc) st p.isList (by simp;omega) fun h' eb=>⟨rfl,I.turned (t':=s.toks) (fun b o hb e=>eb b o hb e) f0 f1 f3 f4 f5⟩
 self:=fun _ _ _ _ _ st h=>wpAny_pyIter_listiter st h
theorem mY {P:Program}{w:World}{K:Kq}{tg:Expr}(it:Addr)(lo:Int)(n:Nat):Turn P w K tg (Itr lo n) [it] it (fun i h=>IsRangeIter h it (lo+(i:Nat)*1) ((n:Int)-(i:Nat)) 1) where
 mem:=by simp
 obj:=fun i h st b hb=>by
  have e:b=it:=by simpa using hb
  subst e
  exact⟨_,st,fun v z=>by
   have z':Data.fields _=Data.cell v:=z
   cases z'⟩
 keep:=fun i h h' st k=>k it (by simp) _ st
 item:=by
  intro X hP hw hK hc i pz s σ H E I hf st hg
  subst hP hw hK
  obtain⟨f0,f1,f2,f3,f4,f5⟩:=hf it (by simp)
  have W:=Walks.range (prog:=X.prog) (w:=X.w) (I.ok.hd hc) it lo 1 n
  refine W.item i s _ _ hg st fun v h' tk hv st' kk=>?_
  obtain⟨t,rfl⟩:=hv
  have I1:Inv X pz σ H { s with heap:=h',toks:=tk }:=I.turned (fun b o hb e=>kk b o (by simpa using hb) e) f0 f1 f3 f4 f5
  refine⟨_,rfl,oE (s:={ s with heap:=h',toks:=tk }) (n := "range_iterator") st' rfl rfl (by decide) ⟨.int (lo+i),H,I1,⟨t,?_⟩,⟨rfl,rfl⟩,st',fun b hb=>(hf b hb).1⟩⟩
  rw[Int.mul_one]
 done:=by
  intro X hP hw hK hc i pz s σ H E I hf st hg
  subst hP hw hK
  obtain⟨f0,f1,f2,f3,f4,f5⟩:=hf it (by simp)
  exact wpAny_pyNext_range_end (I.ok.hd hc) st (by have:n≤i:=hg;omega) fun h' eb=>⟨rfl,I.turned (t':=s.toks) (fun b o hb e=>eb b o hb e) f0 f1 f3 f4 f5⟩
 self:=fun _ _ _ _ _ st h=>wpAny_pyIter_rangeiter st h
section
variable {X:Cx} {tg:Expr}
def zD (K:Kq)(tl:TE):TI:=fun σ H R=>tl σ H fun x H1=>∃ a,x=.ref a∧(∃ xs,SqL K H1 a xs)∧R (Itl K a) H1
theorem nJ {l:Expr}{tl:TE}(hl:PE X l tl):PI X tg l (zD X.K tl):=by
 intro pz s σ H R I h
 refine aG (hl pz s σ H _ I h) fun v s1 x H1 I1 r1 q1=>?_
 obtain⟨a,e,⟨xs,hq⟩,q⟩:=q1
 subst e
 cases r1
 obtain⟨its,rv,p,hz⟩:=I1.list hq
 refine wpAny_pyIter_list p.isList ?_
 refine⟨s1.heap.objs.size,[s1.heap.objs.size],_,_,H1,rfl,I1.kept (t':=s1.toks) fun b o e=>Yd _ e,pT a _,⟨_,Yo _ rfl,rfl,rfl⟩,fun b hb=>?_,q⟩
 have e:b=s1.heap.objs.size:=by simpa using hb
 subst e
 exact I1.fpOk (Yi _) (I1.hok.fresh (Yi _))
theorem k_ {pz:Kp}{σ:St}{H:Hp}{s:Shared}{R:It→Hp→Prop}{E:Kv}{lo hi:Int}{t u v:Tok}{tk:Nat}(I:Inv X pz σ H s)(h1:-(2 ^ 62)≤lo)(h2:lo<2 ^ 62)(h3:-(2 ^ 62)≤hi)(h4:hi<2 ^ 62)
  (q:R (Itr lo (hi-lo).toNat) H):wpAny (model X.prog X.w) X.A (pyIter (.ref s.heap.objs.size)) (PIE X pz σ tg R) E { s with heap:=s.heap.push { cls:=.type "range",data:=.fields #[.int lo t,.int hi u,.int 1 v] },toks:=tk }:=by
 refine wpAny_pyIter_range (IsRange.new ..) (small_one h1 h2 h3 h4) ?_
 have I1:Inv X pz σ H { s with heap:=s.heap.push { cls:=.type "range",data:=.fields #[.int lo t,.int hi u,.int 1 v] },toks:=tk }:=I.kept fun b o e=>Yd _ e
 refine⟨(s.heap.push { cls:=.type "range",data:=.fields #[.int lo t,.int hi u,.int 1 v] }).objs.size,[(s.heap.push { cls:=.type "range",data:=.fields #[.int lo t,.int hi u,.int 1 v] }).objs.size],_,_,H,rfl,
  I1.kept (t':=tk) fun b o e=>Yd _ e,mY _ lo (hi-lo).toNat,?_,fun b hb=>?_,q⟩
 ·have e1:lo+((0:Nat):Int)*1=lo:=by simp
  have e2:(((hi-lo).toNat:Nat):Int)-((0:Nat):Int)=Builtin.Range.rangeSize lo hi 1:=by rw[rangeSize_one];split <;> omega
  show IsRangeIter _ _ (lo+((0:Nat):Int)*1) ((((hi-lo).toNat:Nat):Int)-((0:Nat):Int)) 1
  rw[e1,e2]
  exact Yo _ rfl
 ·have e:b=(s.heap.push { cls:=.type "range",data:=.fields #[.int lo t,.int hi u,.int 1 v] }).objs.size:=by simpa using hb
  subst e
  exact I1.fpOk (Yi _) (I1.hok.fresh (Yi _))
def yz (ta:TA):TI:=fun σ H R=>ta σ H fun vs H1=>∃ j:Int,vs=[.int j]∧-(2 ^ 62)≤j∧j<2 ^ 62∧R (Itr 0 j.toNat) H1
def zk (ta:TA):TI:=fun σ H R=>ta σ H fun vs H1=>∃ i j:Int,vs=[.int i,.int j]∧(-(2 ^ 62)≤i∧i<2 ^ 62∧-(2 ^ 62)≤j∧j<2 ^ 62)∧R (Itr i (j-i).toNat) H1
theorem pd {a:Expr}{ta:TA}{p pos:Pos}(hg:Gl X "range")(hm:X.mg "range"=none)(ha:PA X [a] ta)(hs:starEach [a] X.env=[(false,eval a X.env)]:=by rfl):PI X tg (.Call (.Name "range" p) [a] [] pos) (yz ta):=by
 intro pz s σ H R I h
 refine Call_ (fW I hg hm boot_range (Zy (aG (ha pos pz s σ H _ I h) fun us s1 vs H1 I1 r1 q1=>?_) hs rfl))
 obtain⟨j,e,q1,q2,q⟩:=q1
 subst e
 cases r1 with
 | cons r rr=>
  cases rr
  obtain⟨t,rfl⟩:=r
  exact call_range_1 (k_ I1 (by omega) (by omega) q1 q2 (by simpa using q))
theorem pE {a b:Expr}{ta:TA}{p pos:Pos}(hg:Gl X "range")(hm:X.mg "range"=none)(ha:PA X [a,b] ta)(hs:starEach [a,b] X.env=[(false,eval a X.env),(false,eval b X.env)]:=by rfl)(hs2:starEach [b] X.env=[(false,eval b X.env)]:=by rfl) :
  PI X tg (.Call (.Name "range" p) [a,b] [] pos) (zk ta):=by
 intro pz s σ H R I h
 refine Call_ (fW I hg hm boot_range (Zy (aG (ha pos pz s σ H _ I h) fun us s1 vs H1 I1 r1 q1=>?_) (by rw[hs,hs2]) (by rw[hs2];rfl)))
 obtain⟨i,j,e,⟨q1,q2,q3,q4⟩,q⟩:=q1
 subst e
 cases r1 with
 | cons r rr=>
  cases rr with
  | cons r' rr=>
   cases rr
   obtain⟨t,rfl⟩:=r
   obtain⟨t',rfl⟩:=r'
   exact call_range_2 (k_ I1 q1 q2 q3 q4 q)
def AN (wi:TI)(g:TG)(tb:TS):TS:=fun D σ H=>wi σ H fun J H1=>∃ W:Nat→Nat→St→Hp→Prop,(∃ m,W 0 m σ H1)∧∀ i m σ H,W i m σ H→
 (J.stop i H∧D.nx σ H)∨(J.go i H∧∃ N:St→Hp→Prop,(∀ σ' H',N σ' H'→∃ m',m' < m∧W (i+1) m' σ' H')∧∀ x H',J.yld i H x H'→g x σ H' fun σ2 H2=>tb { D with nx:=N,ct:=N,bk:=D.nx } σ2 H2)
def gU (fp:List Addr)(h:Heap):List (Addr×Obj):=fp.filterMap fun b=>(h.get? b).map fun o=>(b,o)
theorem dn {fp:List Addr}{h:Heap}{b:Addr}{o:Obj}(hb:b∈fp)(e:h.get? b=some o):(b,o)∈gU fp h:=List.mem_filterMap.mpr ⟨b,hb,by rw[e];rfl⟩
theorem oN {fp:List Addr}{h:Heap}{p:Addr×Obj}(hp:p∈gU fp h):p.1∈fp∧h.get? p.1=some p.2:=by
 obtain⟨b,hb,e⟩:=List.mem_filterMap.mp hp
 cases q:h.get? b with
 | none=>rw[q] at e;cases e
 | some o=>
  rw[q] at e
  have e':(b,o)=p:=Yt e
  subst e'
  exact⟨hb,q⟩
theorem Inv.pinned {pz:Kp}{σ:St}{H:Hp}{s:Shared}{fp:List Addr}(I:Inv X pz σ H s)(hf:∀ b∈fp,fS X pz H b)(ho:∀ b∈fp,∃ o,s.heap.get? b=some o∧∀ v,o.data≠.cell v):Inv X (pz++gU fp s.heap) σ H s:=
 I.pins_of fun p hp=>(ZF.mp hp).elim (fun z=>I.pin p (YM _ z)) fun z=>by
  obtain⟨hb,e⟩:=oN z
  obtain⟨f0,f1,f2,_⟩:=hf p.1 hb
  obtain⟨o,e',d⟩:=ho p.1 hb
  rw[e] at e';cases e'
  exact⟨e,f0,f1,f2,d⟩
theorem Inv.unpinned {pz pl:Kp}{σ:St}{H:Hp}{s:Shared}(I:Inv X (pz++pl) σ H s):Inv X pz σ H s:=I.pins_of fun p hp=>I.pin p (YM _ (Xu _ hp))
theorem sg {iter:Expr}{body:List Stmt}{wi:TI}{g:TG}{tb:TS}{pos:Pos}(hp:PassesOwn (model X.prog X.w) X.A X.env X.xe)(hc:X.calm=true)(hi:PI X tg iter wi)(hg:PG X tg g)(hb:PSs X body tb)
  (hs:∀ x,foldedSetIterable iter X.env x=pure x:=by intro _;rfl):PS X (.For tg iter body [] pos) (AN wi g tb):=by
 intro pz s σ H D I h
 refine wpAny_For (thn (hi pz s σ H _ I h) fun v s1 h1=>thn h1 fun itv s2 h2=>?_) hs
 obtain⟨it,fp,tn,J,H2,e,I2,T,st2,f2,W,⟨m0,w0⟩,turn⟩:=h2
 subst e
 -- what stays true of the iterator's objects through the loop
 have stat:∀ {H':Hp},(∀ b∈fp,H' b=none)→∀ b∈fp,fS X pz H' b:=fun hn b hb=>⟨hn b hb,(f2 b hb).2⟩
 refine codeAny_forLoop_any (fun n s'=>∃ i σ' H',Inv X pz σ' H' s'∧tn i s'.heap∧(∀ b∈fp,H' b=none)∧W i n σ' H') ?_ m0 ⟨0,σ,H2,I2,st2,fun b hb=>(f2 b hb).1,w0⟩
 rintro n s3 ⟨i,σ3,H3,I3,st3,fr3,w3⟩
 rcases turn i n σ3 H3 w3 with⟨stop,qn⟩ | ⟨go,N,hN,step⟩
 ·refine ZG hp (thn (T.done X rfl rfl rfl hc i pz s3 σ3 H3 X.xe I3 (stat fr3) st3 stop) fun r s4 ⟨hr,I4⟩=>?_)
  subst hr
  exact Xw ⟨σ3,H3,I4,qn⟩
 ·refine ZG hp (thn (T.item X rfl rfl rfl hc i pz s3 σ3 H3 X.xe I3 (stat fr3) st3 go) fun r s4 ⟨u,hr,h4⟩=>?_)
  subst hr
  refine ZG hp (thn h4 fun _ s5 hh_=>?_)
  obtain⟨x,H5,I5,r5,y5,st5,fr5⟩:=hh_
  have I5':=I5.pinned (stat fr5) (T.obj _ _ st5)
  refine ZG hp (thn (hg _ s5 σ3 H5 x u _ I5' r5 (step x H5 y5)) fun _ s6 hh_=>?_)
  obtain⟨σ6,H6,I6,q6⟩:=hh_
  refine ZG hp (thn (hb _ s6 σ6 H6 _ I6 q6) fun f s7 q7=>?_)
  have again:∀ {σ7:St} {H7:Hp},Inv X (pz++gU fp s5.heap) σ7 H7 s7→N σ7 H7→∃ m,m<n∧∃ i σ' H',Inv X pz σ' H' s7∧tn i s7.heap∧(∀ b∈fp,H' b=none)∧W i m σ' H':=fun {σ7 H7} I7 n7=>by
   obtain⟨m',hm,w7⟩:=hN σ7 H7 n7
   refine⟨m',hm,i+1,σ7,H7,I7.unpinned,T.keep _ _ _ st5 fun b hb o e=>(I7.pin (b,o) (YM _ (YM _ (dn hb e)))).1,fun b hb=>?_,w7⟩
   obtain⟨o,e,d⟩:=T.obj _ _ st5 b hb
   exact (I7.pin (b,o) (YM _ (YM _ (dn hb e)))).2.1
  cases f with
  | next=>obtain⟨σ7,H7,I7,n7⟩:=q7;exact again I7 n7
  | cont=>obtain⟨σ7,H7,I7,n7⟩:=q7;exact again I7 n7
  | brk=>obtain⟨σ7,H7,I7,q7⟩:=q7;exact⟨σ7,H7,I7.unpinned,q7⟩
  | ret v=>obtain⟨x7,σ7,H7,I7,r7,q7⟩:=q7;exact⟨x7,σ7,H7,I7.unpinned,r7,q7⟩
end
abbrev R2:=V→V→Hp→VK→Prop
def OpR (X:Cx)(f:Value→Value→Sem Value)(r:R2):Prop:=
 ∀ (pz:Kp) (s:Shared) (σ:St) (H:Hp) (x y:V) (v u:Value) (Q:VK),Inv X pz σ H s→RelV x v→RelV y u→r x y H Q→
  wpAny (model X.prog X.w) X.A (f v u) (EP X pz σ Q) X.xe s
def UnR (X:Cx)(f:Value→Sem Value)(r:V→Hp→VK→Prop):Prop:=
 ∀ (pz:Kp) (s:Shared) (σ:St) (H:Hp) (x:V) (v:Value) (Q:VK),Inv X pz σ H s→RelV x v→r x H Q→
  wpAny (model X.prog X.w) X.A (f v) (EP X pz σ Q) X.xe s
def CallR (X:Cx)(f:Value)(r:List V→Hp→VK→Prop):Prop:=
 ∀ (pz:Kp) (s:Shared) (σ:St) (H:Hp) (xs:List V) (us:List Value) (Q:VK),Inv X pz σ H s→Vals xs us→r xs H Q→
  wpAny (model X.prog X.w) X.A (call f us) (EP X pz σ Q) X.xe s
def tOp (r:R2)(ta tb:TE):TE:=fun σ H Q=>ta σ H fun x H1=>tb σ H1 fun y H2=>r x y H2 Q
def tUn (r:V→Hp→VK→Prop)(ta:TE):TE:=fun σ H Q=>ta σ H fun x H1=>r x H1 Q
def rI (C:Int→Int→Prop)(g:Int→Int→V):R2:=fun x y H Q=>∃ i j,x=.int i∧y=.int j∧C i j∧Q (g i j) H
def rI0 (g:Int→Int→V):R2:=fun x y H Q=>∃ i j,x=.int i∧y=.int j∧Q (g i j) H
def rU (g:Int→V):V→Hp→VK→Prop:=fun x H Q=>∃ i,x=.int i∧Q (g i) H
section
variable {X:Cx} {a b c:Expr} {ta tb tc:TE} {pos:Pos}
theorem xo (ha:PE X a ta)(hb:PE X b tb){pz:Kp}{s:Shared}{σ:St}{H:Hp}{R:V→V→Hp→Prop}(I:Inv X pz σ H s)
  (h:ta σ H fun x H1=>tb σ H1 fun y H2=>R x y H2) {Q:Kv} {f:Value→Value→Sem Value}
  (hf:∀ v u s2 x y H2,Inv X pz σ H2 s2→RelV x v→RelV y u→R x y H2→wpAny (model X.prog X.w) X.A (f v u) Q X.xe s2) :
  wpAny (model X.prog X.w) X.A (eval a X.env) (fun v s₁=>wpAny (model X.prog X.w) X.A (eval b X.env) (fun u s₂=>wpAny (model X.prog X.w) X.A (f v u) Q X.xe s₂) X.xe s₁) X.xe s:=by
 refine aG (ha pz s σ H _ I h) fun v s1 x H1 I1 r1 q1=>?_
 refine aG (hb pz s1 σ H1 _ I1 q1) fun u s2 y H2 I2 r2 q2=>?_
 exact hf v u s2 x y H2 I2 r1 r2 q2
theorem vH {op:Operator}{r:R2}(ho:OpR X (binaryOp op) r)(ha:PE X a ta)(hb:PE X b tb):PE X (.BinOp a op b pos) (tOp r ta tb):=by
 intro pz s σ H Q I h
 exact wpAny_BinOp (xo ha hb I h fun v u s2 x y H2 I2 rx ry q=>ho pz s2 σ H2 x y v u Q I2 rx ry q)
theorem ya {op:UnaryOp}{r:V→Hp→VK→Prop}(ho:UnR X (unaryOp op) r)(ha:PE X a ta):PE X (.UnaryOp op a pos) (tUn r ta):=by
 intro pz s σ H Q I h
 exact UnaryOp_ (aG (ha pz s σ H _ I h) fun v s1 x H1 I1 r1 q1=>ho pz s1 σ H1 x v Q I1 r1 q1)
theorem opI {f:Value→Value→Sem Value}{C:Int→Int→Prop}{g:Int→Int→Int}
  (rule:∀ (i j:Int) (t u:Tok) (s:Shared) (Q:Kv) (E:Kv),C i j→Q (.int (g i j) s.toks) { s with toks:=s.toks+1 }→wpAny (model X.prog X.w) X.A (f (.int i t) (.int j u)) Q E s) :
  OpR X f (rI C fun i j=>.int (g i j)):=by
 intro pz s σ H x y v u Q I rx ry h
 obtain⟨i,j,rfl,rfl,hc,q⟩:=h
 obtain⟨t,rfl⟩:=rx
 obtain⟨t',rfl⟩:=ry
 exact rule i j t t' s _ _ hc ⟨.int (g i j),H,I.tok _,⟨_,rfl⟩,q⟩
theorem yy {f:Value→Value→Sem Value}{g:Int→Int→Int}
  (rule:∀ (i j:Int) (t u:Tok) (s:Shared) (Q:Kv) (E:Kv),Q (.int (g i j) s.toks) { s with toks:=s.toks+1 }→wpAny (model X.prog X.w) X.A (f (.int i t) (.int j u)) Q E s) :
  OpR X f (rI0 fun i j=>.int (g i j)):=by
 intro pz s σ H x y v u Q I rx ry h
 obtain⟨i,j,rfl,rfl,q⟩:=h
 obtain⟨t,rfl⟩:=rx
 obtain⟨t',rfl⟩:=ry
 exact rule i j t t' s _ _ ⟨.int (g i j),H,I.tok _,⟨_,rfl⟩,q⟩
theorem xa {f:Value→Value→Sem Value}{g:Int→Int→Bool}
  (rule:∀ (i j:Int) (t u:Tok) (s:Shared) (Q:Kv) (E:Kv),Q (.bool (g i j)) s→wpAny (model X.prog X.w) X.A (f (.int i t) (.int j u)) Q E s) :
  OpR X f (rI0 fun i j=>.bl (g i j)):=by
 intro pz s σ H x y v u Q I rx ry h
 obtain⟨i,j,rfl,rfl,q⟩:=h
 obtain⟨t,rfl⟩:=rx
 obtain⟨t',rfl⟩:=ry
 exact rule i j t t' s _ _ ⟨.bl (g i j),H,I,rfl,q⟩
def Ax (i j:Int):Prop:=0<j∧j<1073741824
def Ay (i j:Int):Prop:=0≤j∧j≤1000000∧i.natAbs<2 ^ 64
def CMul (i j:Int):Prop:=(-(2 ^ 64)<i∧i<2 ^ 64)∨(-(2 ^ 64)<j∧j<2 ^ 64)
theorem CMul.ok {i j:Int}(h:CMul i j):IntMulOk i j:=by
 rcases h with⟨h1,h2⟩ | ⟨h1,h2⟩
 ·exact .of_left (intBits_le_64 h1 h2)
 ·exact .of_right (intBits_le_64 h1 h2)
theorem wj:OpR X (binaryOp .Add) (rI0 fun i j=>.int (i+j)):=yy fun _ _ _ _ _ _ _ q=>add_int q
theorem v9:OpR X (binaryOp .Sub) (rI0 fun i j=>.int (i-j)):=yy fun _ _ _ _ _ _ _ q=>sub_int q
theorem wm:OpR X (binaryOp .Mult) (rI CMul fun i j=>.int (i*j)):=opI fun _ _ _ _ _ _ _ hc q=>mul_int q hc.ok
theorem t_:OpR X (binaryOp .FloorDiv) (rI Ax fun i j=>.int (i/j)):=opI fun i j _ _ _ _ _ hc q=>by
 have h1:(0:Int)<j:=hc.1
 have h2:j<1073741824:=hc.2
 exact floordiv_int (by omega) (by rw[Int.fdiv_eq_ediv_of_nonneg i (by omega)];exact q) (.inl (PyProof.noPylong_small (by omega)))
theorem xU:OpR X (binaryOp .Mod) (rI (fun _ j=>0<j) fun i j=>.int (i%j)):=opI fun i j _ _ _ _ _ hc q=>by
 have h1:(0:Int)<j:=hc
 exact mod_int' (by omega) (by rw[Int.fmod_eq_emod_of_nonneg i (by omega)];exact q)
theorem xi:OpR X (binaryOp .Pow) (rI Ay fun i j=>.int (i ^ j.toNat)):=opI fun _ _ _ _ _ _ _ hc q=>pow_int_small hc.1 hc.2.1 hc.2.2 q
theorem unI {f:Value→Sem Value}{g:Int→Int}
  (rule:∀ (i:Int) (t:Tok) (s:Shared) (Q:Kv) (E:Kv),Q (.int (g i) s.toks) { s with toks:=s.toks+1 }→wpAny (model X.prog X.w) X.A (f (.int i t)) Q E s) :
  UnR X f (rU fun i=>.int (g i)):=by
 intro pz s σ H x v Q I rx h
 obtain⟨i,rfl,q⟩:=h
 obtain⟨t,rfl⟩:=rx
 exact rule i t s _ _ ⟨.int (g i),H,I.tok _,⟨_,rfl⟩,q⟩
theorem wA:UnR X (unaryOp .USub) (rU fun i=>.int (-i)):=unI fun _ _ _ _ _ q=>neg_int q
end
section
variable {X:Cx} {a b c:Expr} {ta tb tc:TE} {pos:Pos}
theorem vy:OpR X (compareOp .Lt) (rI0 fun i j=>.bl (decide (i<j))):=xa fun _ _ _ _ _ _ _ q=>lt_int q
theorem vM:OpR X (compareOp .LtE) (rI0 fun i j=>.bl (decide (i≤j))):=xa fun _ _ _ _ _ _ _ q=>le_int q
theorem zB:OpR X (compareOp .Gt) (rI0 fun i j=>.bl (decide (j<i))):=xa fun _ _ _ _ _ _ _ q=>gt_int q
theorem OpR.or {f:Value→Value→Sem Value}{r r':R2}(h:OpR X f r)(h':OpR X f r'):OpR X f (fun x y H Q=>r x y H Q∨r' x y H Q):=by
 intro pz s σ H x y v u Q I rx ry q
 rcases q with q | q
 ·exact h pz s σ H x y v u Q I rx ry q
 ·exact h' pz s σ H x y v u Q I rx ry q
theorem eJ (b:Expr){op:CmpOp}(h:op≠.In:=by decide)(h2:op≠.NotIn:=by decide):behindInMarks op b=false:=by
 have e1:(op == CmpOp.In)=false:=by cases op <;> first | rfl | exact absurd rfl h
 have e2:(op == CmpOp.NotIn)=false:=by cases op <;> first | rfl | exact absurd rfl h2
 cases b <;> simp[behindInMarks,e1,e2]
theorem tJ {op:CmpOp}{r:R2}(ho:OpR X (compareOp op) r)(ha:PE X a ta)(hb:PE X b tb)(hm:behindInMarks op b=false):PE X (.Compare a [op] [b] pos) (tOp r ta tb):=by
 intro pz s σ H Q I h
 exact wpAny_Compare1 (xo ha hb I h fun v u s2 x y H2 I2 rx ry q=>ho pz s2 σ H2 x y v u Q I2 rx ry q) hm
def sd (t:TE):TT:=fun σ H Q=>t σ H fun x H'=>∃ k,x=.bl k∧Q k H'
theorem oB {op:CmpOp}{r:R2}(ho:OpR X (compareOp op) r)(ha:PE X a ta)(hb:PE X b tb)(hm:behindInMarks op b=false):PT X (.Compare a [op] [b] pos) (sd (tOp r ta tb)):=by
 intro pz s σ H Q I h
 refine wpAny_isTrue_Compare1 (aG (ha pz s σ H _ I h) fun v s1 x H1 I1 r1 q1=>aG (hb pz s1 σ H1 _ I1 q1) fun u s2 y H2 I2 r2 q2=>
  aG (ho pz s2 σ H2 x y v u _ I2 r1 r2 q2) fun c s3 z H3 I3 r3 ⟨k,e,q3⟩=>?_) hm
 subst e
 cases r3
 exact Zg ⟨H3,I3,q3⟩
def mw (r r':R2)(ta tb tc:TE):TE:=fun σ H Q=>ta σ H fun x H1=>tb σ H1 fun y H2=>r x y H2 fun z H3=>∃ k,z=.bl k ∧
 (if k=true then tc σ H3 fun w' H4=>r' y w' H4 Q else Q (.bl false) H3)
theorem lL {op op':CmpOp}{r r':R2}(ho:OpR X (compareOp op) r)(ho':OpR X (compareOp op') r')(ha:PE X a ta)(hb:PE X b tb)(hc:PE X c tc)
  (hm:lastMarks [op,op'] [b,c]=false:=by with_unfolding_all rfl):PE X (.Compare a [op,op'] [b,c] pos) (mw r r' ta tb tc):=by
 intro pz s σ H Q I h
 refine Compare_chain (aG (ha pz s σ H _ I h) fun v s1 x H1 I1 r1 q1=>chain_link (aG (hb pz s1 σ H1 _ I1 q1) fun u s2 y H2 I2 r2 q2=>
  aG (ho pz s2 σ H2 x y v u _ I2 r1 r2 q2) fun d s3 z H3 I3 r3 ⟨k,e,q3⟩=>?_)) hm
 subst e
 cases r3
 refine Zg ?_
 cases k with
 | false=>exact ite_ff ⟨.bl false,H3,I3,rfl,q3⟩
 | true=>exact ite_tt (chain_last (aG (hc pz s3 σ H3 _ I3 q3) fun w' s4 z' H4 I4 r4 q4=>ho' pz s4 σ H4 y z' u w' Q I4 r2 r4 q4))
theorem lm {op op':CmpOp}{r r':R2}(ho:OpR X (compareOp op) r)(ho':OpR X (compareOp op') r')(ha:PE X a ta)(hb:PE X b tb)(hc:PE X c tc)
  (hm:lastMarks [op,op'] [b,c]=false:=by with_unfolding_all rfl):PT X (.Compare a [op,op'] [b,c] pos) (sd (mw r r' ta tb tc)):=by
 intro pz s σ H Q I h
 refine isTrue_chain (aG (ha pz s σ H _ I h) fun v s1 x H1 I1 r1 q1=>test_link (aG (hb pz s1 σ H1 _ I1 q1) fun u s2 y H2 I2 r2 q2=>
  aG (ho pz s2 σ H2 x y v u _ I2 r1 r2 q2) fun d s3 z H3 I3 r3 ⟨k,e,q3⟩=>?_)) hm
 subst e
 cases r3
 refine Zg ?_
 cases k with
 | false=>
  obtain⟨k',e',q'⟩:=q3
  cases e'
  exact ite_ff ⟨H3,I3,q'⟩
 | true=>
  refine ite_tt (test_last (aG (hc pz s3 σ H3 _ I3 q3) fun w' s4 z' H4 I4 r4 q4=>aG (ho' pz s4 σ H4 y z' u w' _ I4 r2 r4 q4) fun d' s5 z2 H5 I5 r5 hh_=>?_))
  obtain⟨k2,e2,q5⟩:=hh_
  subst e2
  cases r5
  exact Zg ⟨H5,I5,q5⟩
theorem gY:(sizeLine:Nat)<2 ^ 63:=by rw[YH];decide
theorem mX:OpR X (binaryOp .Add) (fun x y H Q=>∃ i j,x=.str i∧y=.str j∧i.length+j.length≤sizeLine∧Q (.str (i++j)) H):=by
 intro pz s σ H x y v u Q I rx ry h
 obtain⟨i,j,rfl,rfl,hz,q⟩:=h
 obtain⟨t,rfl⟩:=rx
 obtain⟨t',rfl⟩:=ry
 exact add_str (fun t' tk=>⟨.str (i++j),H,I.tok _,⟨_,rfl⟩,q⟩) hz
theorem dC {x:V}{us:List Value}(r:Vals [x] us):∃ u,us=[u]∧RelV x u:=by
 cases r with
 | cons r1 r2=>cases r2;exact⟨_,rfl,r1⟩
theorem rN {x y:V}{us:List Value}(r:Vals [x,y] us):∃ u w',us=[u,w']∧RelV x u∧RelV y w':=by
 cases r with
 | cons r1 r2=>
  cases r2 with
  | cons r3 r4=>cases r4;exact⟨_,_,rfl,r1,r3⟩
theorem pe (hc:X.calm=true):CallR X (.builtin "max") (fun xs H Q=>∃ i j,xs=[.int i,.int j]∧Q (.int (if j > i then j else i)) H):=by
 intro pz s σ H xs us Q I r h
 obtain⟨i,j,rfl,q⟩:=h
 obtain⟨u,w',rfl,⟨t,rfl⟩,⟨t',rfl⟩⟩:=rN r
 refine max_two_ints (I.ok.hd hc) fun h' tk k=>⟨_,H,I.kept k,?_,q⟩
 by_cases hj:j > i
 ·rw[Yf hj,Yf hj];exact⟨_,rfl⟩
 ·rw[Yh hj,Yh hj];exact⟨_,rfl⟩
theorem pC:CallR X (.type "int") (fun xs H Q=>(∃ i,xs=[.int i]∧Q (.int i) H)∨∃ k,xs=[.bl k]∧Q (.int (if k then 1 else 0)) H):=by
 intro pz s σ H xs us Q I r h
 rcases h with⟨i,rfl,q⟩ | ⟨k,rfl,q⟩
 ·obtain⟨u,rfl,t,rfl⟩:=dC r
  exact call_int_int ⟨.int i,H,I,⟨_,rfl⟩,q⟩
 ·obtain⟨u,rfl,r1⟩:=dC r
  cases r1
  exact call_int_bool ⟨.int (if k then 1 else 0),H,I.tok _,⟨_,rfl⟩,q⟩
end
structure ObjM (h:Heap) (x dx C:Addr) (mA:Str→Option Value):Prop where
 obj:h.get? x=some (PySem.W.instObj C dx)
 ns:h.Ns1 dx mA
 ne:dx≠x
theorem pK {h:Heap}{dx:Addr}{mA:Ks}(n:h.Ns1 dx mA):∃ od,h.get? dx=some od∧∀ name,PySem.W.lookIn name od=some (mA name):=by
 obtain⟨o,es,ep,ho,hd,hk,_,hm⟩:=n
 refine⟨o,ho,fun name=>?_⟩
 have e:=hm name
 unfold nsFind findBy at e
 rw[← Array.find?_toList] at e
 unfold PySem.W.lookIn
 rw[hd]
 dsimp only
 split
 ·rename_i y q
  rw[q] at e
  exact ZA some e
 ·rename_i q
  rw[q] at e
  have a:es.toList.any (·.refKey)=false:=by
   rw[List.any_eq_false]
   intro y hy
   obtain⟨z,t,hkey⟩:=hk y (Array.mem_toList_iff.mp hy)
   simp[DictEntry.refKey,hkey]
  have a':¬ es.toList.any (·.refKey)=true:=by rw[a];exact Yg
  rw[Yh a']
  exact ZA some e
theorem ObjM.look {h:Heap}{x dx C:Addr}{mA:Ks}(I:ObjM h x dx C mA):∃ od,PySem.W.InstAt h x (PySem.W.instObj C dx) C (some od)∧∀ name,PySem.W.lookIn name od=some (mA name):=
 let ⟨od,ho,hl⟩:=pK I.ns
 ⟨od,⟨I.obj,rfl,rfl,ho⟩,hl⟩
section
variable {prog:Program} {w:World} {A:Around} {E:Kv} {s:Shared} {K:Kq} {x dx C f:Addr} {mA:Ks} {name:Str} {v:Value}
theorem uK {expr:Bool}{Q:Kv}(X:K.In s.heap)(I:ObjM s.heap x dx C mA)(hg:PySem.W.plainGet K C name=true)(hh:PySem.W.hasDictIn K C=true)
  (ha:PySem.W.findIn K (.ref C) name=some none) (hv:mA name=some v) (hv':PySem.W.handedIn v=true) (h:Q v { s with toks:=s.toks+1 }) :
  wpAny (model prog w) A (getAttr (.ref x) name expr) Q E s:=by
 obtain⟨od,J,hl⟩:=I.look
 exact PySem.W.get_value X J (Xx hg).1 (PySem.W.findObj_own hh ha rfl (by rw[hl,hv])) hv' h
theorem sY {pl:Sem Bool}{Q:Value×List Value→Shared→Prop}(X:K.In s.heap)(I:ObjM s.heap x dx C mA)(hg:PySem.W.plainGet K C name=true)
  (hf:PySem.W.findIn K (.ref C) name=some (some (.ref f))) (ht:PySem.W.isFn K (.ref f)=true) (hv:mA name=none) (h:Q (.ref f,[.ref x]) s) :
  wpAny (model prog w) A (getMethod (.ref x) name pl) Q E s:=by
 obtain⟨od,J,hl⟩:=I.look
 exact PySem.W.method_fn X J (Xx hg).1 (Xx hg).2 hf (XF.mp ht) (by show (PySem.W.lookIn name od).map (·.isSome)=some false;rw[hl,hv];rfl) h
theorem um {ns:List Str}{Q:Unit→Shared→Prop}(X:K.In s.heap)(I:ObjM s.heap x dx C mA)
  (hs:PySem.W.findIn K (.ref C) "__setattr__"=some (some (.builtin "object.__setattr__"))) (hp:PySem.W.plainOver K C=true) (ht:PySem.W.takerIn K C name=some none) (hh:PySem.W.hasDictIn K C=true)
  (hw:PySem.Within mA ns) (hsz:ns.length≤sizeLine)
  (h:∀ h',ObjM h' x dx C (fun y=>if y=name then some v else mA y)→Heap.SameBut dx s.heap h'→Q () { s with heap:=h',toks:=s.toks+2 }) :
  wpAny (model prog w) A (setAttr (.ref x) name v) Q E s:=by
 obtain⟨od,J,hl⟩:=I.look
 refine PySem.W.set_plain X J hs (PySem.W.osa_open (s:={ s with toks:=s.toks+1 }) (r:=none) X J hp ht fun b=>?_)
 obtain⟨cd,hc,hd'⟩:=PySem.W.any_some hh
 have hx:s.heap.get? x=some ⟨.ref C,some dx,.plain,#[]⟩:=I.obj
 refine Yr (YD (Yr (Yr (wpAny_loadPart hx (Yr (PySem.W.Looks.here (s:={ s with toks:=s.toks+1 }) (PySem.W.looks_clsIn X hc) ?_))))))
 rw[hd']
 refine YD (a:=some dx) (Yr (YD (Yr ?_)))
 refine wpAny_nsSet1 (s:={ s with toks:=s.toks+1 }) I.ns fun h' hn2 hs2=>?_
 obtain⟨oD,esD,epD,hoD,hdD,hcD⟩:=hn2.count (PySem.Within.cons name v hw)
 refine Yr (wpAny_lookBehind hoD (by rw[hdD];exact pastItsLine_dict (YA hcD (by rw[Yj];omega))) ?_)
 exact YD (h _ ⟨(hs2.2 _ (Xi I.ne)).trans I.obj,hn2,I.ne⟩ hs2)
theorem rE {R:Kr}{vs:List Value}{kw:List (Str×Value)}(X:K.In s.heap)(hm:PySem.W.makesIn K C=true)
  (hi:PySem.W.findIn K (.ref C) "__init__"=some (some (.ref f))) (hf:PySem.W.typeIn K (.ref f)=some (.type "function"))
  (h:codeAny (model prog w) (A.under (.builtin "type.__call__" ⟨.ref C::vs,kw⟩)) (.call (.ref f) ⟨.ref (s.heap.objs.size+1)::vs,kw⟩) (PySem.W.InitBack (s.heap.objs.size+1) R)
   { s with heap:=(s.heap.push PySem.W.emptyDict).push (PySem.W.instObj C s.heap.objs.size) }) :
  codeAny (model prog w) A (.call (.ref C) ⟨vs,kw⟩) R s:=by
 obtain⟨hh,g,d,t,os⟩:=s
 exact PySem.W.make_core (PySem.W.makes_of X hm) (PySem.W.looks_findIn X hi) (fun self=>PySem.W.bind_fn X self hf) (.inl rfl) h
end
def c_ (f:Str)(v:V):List (Str×V)→List (Str×V)
 | []=>[(f,v)]
 | (g,x)::r=>if g=f then (g,v)::r else (g,x)::c_ f v r
theorem gp (f g:Str)(v:V):∀ fs:List (Str×V),(c_ f v fs).lookup g=if g=f then some v else fs.lookup g
 | []=>by
  show List.lookup g [(f,v)]=_
  by_cases h:g=f
  ·have hb:(g == f)=true:=XF.mpr h
   simp only[List.lookup,hb,Yf h]
  ·have hb:(g == f)=false:=Zm.mpr h
   simp only[List.lookup,hb,Yh h]
 | (k,x)::r=>by
  have ih:=gp f g v r
  rw[show c_ f v ((k,x)::r)=(if k=f then (k,v)::r else (k,x)::c_ f v r) from rfl]
  by_cases hk:k=f
  ·rw[Yf hk]
   by_cases h:g=k
   ·have hb:(g == k)=true:=XF.mpr h
    simp only[List.lookup,hb,Yf (h.trans hk)]
   ·have hb:(g == k)=false:=Zm.mpr h
    simp only[List.lookup,hb,Yh (fun e:g=f=>h (e.trans hk.symm))]
  ·rw[Yh hk]
   by_cases h:g=k
   ·have hb:(g == k)=true:=XF.mpr h
    simp only[List.lookup,hb,Yh (fun e:g=f=>hk (h.symm.trans e))]
   ·have hb:(g == k)=false:=Zm.mpr h
    simp only[List.lookup,hb]
    exact ih
theorem fJ (f:Str)(v:V):∀ fs:List (Str×V),f∈(c_ f v fs).map (·.1)∧∀ g,g∈fs.map (·.1)→g∈(c_ f v fs).map (·.1)
 | []=>⟨by simp[c_],fun g h=>by simp at h⟩
 | (k,x)::r=>by
  obtain⟨i1,i2⟩:=fJ f v r
  rw[show c_ f v ((k,x)::r)=(if k=f then (k,v)::r else (k,x)::c_ f v r) from rfl]
  by_cases hk:k=f
  ·rw[Yf hk]
   subst hk
   exact⟨by simp,fun g h=>by simpa using h⟩
  ·rw[Yh hk]
   refine⟨?_,fun g h=>?_⟩
   ·rw[Yv]
    exact Yb _ i1
   ·rw[Yv] at h ⊢
    rcases Yy.mp h with e | e
    ·exact Yy.mpr (.inl e)
    ·exact Yb _ (i2 g e)
theorem gi (f:Str)(v:V):∀ fs:List (Str×V),(c_ f v fs).length≤fs.length+1
 | []=>by simp[c_]
 | (k,x)::r=>by
  have ih:=gi f v r
  rw[show c_ f v ((k,x)::r)=(if k=f then (k,v)::r else (k,x)::c_ f v r) from rfl]
  by_cases hk:k=f
  ·rw[Yf hk,Yj,Yj];omega
  ·rw[Yh hk,Yj,Yj];omega
theorem RelO.some_of {v:V}{o:Option Value}(r:RelO (some v) o):∃ u,o=some u∧RelV v u:=by
 cases o with
 | none=>exact (show False from r).elim
 | some u=>exact⟨u,rfl,r⟩
theorem RelO.none_of {o:Option Value}(r:RelO none o):o=none:=by
 cases o with
 | none=>rfl
 | some u=>exact (show False from r).elim
theorem o7 {v:V}{u:Value}(r:RelV v u):PySem.W.handedIn u=true:=by
 cases v with
 | non=>cases (show u=Value.none from r);rfl
 | bl b=>cases (show u=Value.bool b from r);rfl
 | int i=>obtain⟨t,e⟩:=(show ∃ t,u=Value.int i t from r);cases e;rfl
 | str x=>obtain⟨t,e⟩:=(show ∃ t,u=Value.str x t from r);cases e;rfl
 | byt b=>obtain⟨t,e⟩:=(show ∃ t,u=Value.bytes b t from r);cases e;rfl
 | flt b=>obtain⟨t,e⟩:=(show ∃ t,u=Value.float b t from r);cases e;rfl
 | ref a=>cases (show u=Value.ref a from r);rfl
 | ty n=>cases (show u=Value.type n from r);rfl
section
variable {P:Program} {w:World} {H H':Hp} {h h':Heap} {a C dx:Addr} {fs fs':List (Str×V)}
theorem jZ (hok:HOk P w H h)(e:H a=some (.ins C dx fs)):∃ mA,ObjM h a dx C mA∧(∀ f,RelO (fs.lookup f) (mA f))∧PySem.Within mA (fs.map (·.1))∧fs.length≤1000∧H dx=some (.own a):=by
 obtain⟨d,z,ne,ob,mA,n,r,q⟩:=(show ObjOk P w H h a (.ins C dx fs) from hok a _ e)
 exact⟨mA,⟨ob,n,ne⟩,r,q,z,d⟩
end
structure Cls (K:PySem.W.Frag) (C:Addr):Prop where
 pg:PySem.W.plainGet K C Str.empty=true
 hd:PySem.W.hasDictIn K C=true
 po:PySem.W.plainOver K C=true
 sa:PySem.W.findIn K (.ref C) "__setattr__"=some (some (.builtin "object.__setattr__"))
theorem Cls.get {K:Kq}{C:Addr}(c:Cls K C)(f:Str):PySem.W.plainGet K C f=true:=c.pg
def NoAttr (K:Kq)(C:Addr)(f:Str):Prop:=PySem.W.findIn K (.ref C) f=some none
theorem NoAttr.taker {K:Kq}{C:Addr}{f:Str}(n:NoAttr K C f):PySem.W.takerIn K C f=some none:=by
 unfold PySem.W.takerIn
 rw[show PySem.W.findIn K (.ref C) f=some none from n]
 rfl
structure Meth (K:PySem.W.Frag) (C:Addr) (m:Str) (f:Addr):Prop where
 at_:PySem.W.findIn K (.ref C) m=some (some (.ref f))
 fn:PySem.W.isFn K (.ref f)=true
 kp:PySem.W.keepIn K (.ref f)=true
section
variable {X:Cx} {pz:Kp} {σ:St} {H:Hp} {s:Shared} {a C dx:Addr} {fs:List (Str×V)} {f:Str} {v:V} {A:Around} {E:Kv}
theorem nB {b:Bool}{Q:Kv}(I:Inv X pz σ H s)(e:H a=some (.ins C dx fs))(c:Cls X.K C)(n:NoAttr X.K C f)(l:fs.lookup f=some v)
  (h:∀ u s',Inv X pz σ H s'→RelV v u→Q u s'):wpAny (model X.prog X.w) A (getAttr (.ref a) f b) Q E s:=by
 obtain⟨mA,O,r,_,_,_⟩:=jZ I.hok e
 obtain⟨u,hu,ru⟩:=RelO.some_of (v:=v) (o:=mA f) (by rw[← l];exact r f)
 exact uK I.kIn O (c.get f) c.hd n hu (o7 ru) (h u _ (I.tok _) ru)
theorem h_ {m:Str}{g:Addr}{pl:Sem Bool}{Q:Value×List Value→Shared→Prop}(I:Inv X pz σ H s)(e:H a=some (.ins C dx fs))(c:Cls X.K C)(k:Meth X.K C m g)(l:fs.lookup m=none)
  (h:Q (.ref g,[.ref a]) s):wpAny (model X.prog X.w) A (getMethod (.ref a) m pl) Q E s:=by
 obtain⟨mA,O,r,_,_,_⟩:=jZ I.hok e
 have hn:mA m=none:=RelO.none_of (by rw[← l];exact r m)
 exact sY I.kIn O (c.get m) k.at_ k.fn hn h
theorem mT {y:V}{u:Value}{Q:Unit→Shared→Prop}(I:Inv X pz σ H s)(e:H a=some (.ins C dx fs))(c:Cls X.K C)(n:NoAttr X.K C f)(hl:fs.length<1000)(ry:RelV y u)
  (h:∀ s',Inv X pz σ (upd H a (.ins C dx (c_ f y fs))) s'→Q () s'):wpAny (model X.prog X.w) A (setAttr (.ref a) f u) Q E s:=by
 obtain⟨mA,O,r,wi,_,ho⟩:=jZ I.hok e
 have hz:(fs.map (·.1)).length≤sizeLine:=by rw[Ye,YH];omega
 refine um I.kIn O c.sa c.po n.taker c.hd wi hz fun h' O' sb=>h _ ?_
 have hd:∃ o,h'.get? dx=some o:=let ⟨o,_,_,e',_⟩:=O'.ns;⟨o,e'⟩
 refine I.write (x:=a) (e:=dx) (by rw[e];exact True.intro) (.inr ho) (fun b q hb z=>(sb.2 b hb).trans z) hd ?_
 refine⟨by rw[ap O.ne];exact ho,?_,O.ne,O'.obj,_,O'.ns,fun g=>?_,fun g hg=>?_⟩
 ·have:=gi f y fs;omega
 ·show RelO ((c_ f y fs).lookup g) (if g=f then some u else mA g)
  rw[gp]
  by_cases q:g=f
  ·rw[Yf q,Yf q];exact ry
  ·rw[Yh q,Yh q];exact r g
 ·by_cases q:g=f
  ·rw[q];exact (fJ f y fs).1
  ·refine (fJ f y fs).2 g (wi g fun z=>hg ?_)
   show (if g=f then some u else mA g)=none
   rw[Yh q];exact z
theorem Inv.made (I:Inv X pz σ H s):Inv X pz σ (upd (upd H s.heap.objs.size (.own (s.heap.objs.size+1))) (s.heap.objs.size+1) (.ins C s.heap.objs.size []))
  { s with heap:=(s.heap.push PySem.W.emptyDict).push (PySem.W.instObj C s.heap.objs.size) }:=by
 have e1:(s.heap.push PySem.W.emptyDict).get? s.heap.objs.size=some PySem.W.emptyDict:=Yo s.heap rfl
 have e2:((s.heap.push PySem.W.emptyDict).push (PySem.W.instObj C s.heap.objs.size)).get? (s.heap.objs.size+1)=some (PySem.W.instObj C s.heap.objs.size):=by
  have:=Yo (s.heap.push PySem.W.emptyDict) (o:=PySem.W.instObj C s.heap.objs.size) rfl
  rwa [Xl] at this
 have e3:(s.heap.push PySem.W.emptyDict).Ns s.heap.objs.size (fun _=>none):=⟨PySem.W.emptyDict,#[],_,e1,rfl,(fun e he=>absurd he (by simp)),fun _=>rfl⟩
 have I1:=I.laid (a:=s.heap.objs.size) (o:=.own (s.heap.objs.size+1)) (h':=s.heap.push PySem.W.emptyDict) (t':=s.toks) (fun b u q=>Yd _ q) (Yi _) ⟨_,e1⟩
 refine I1.laid (a:=s.heap.objs.size+1) (o:=.ins C s.heap.objs.size []) (t':=s.toks) (fun b u q=>Yd _ q) (ZJ (Xl _ _)) ?_
 have ne:s.heap.objs.size≠s.heap.objs.size+1:=Yw (Xq _)
 refine⟨by rw[ap ne,aq],YI _,ne,e2,fun _=>none,(Heap.Ns1.of_empty e3).at fun o q=>Yd _ q,fun _=>True.intro,fun y hy=>absurd rfl hy⟩
theorem uX {prog:Program}{w:World}{env:Env}{e:Expr}{f:Str}{pos:Pos}{s:Shared}{Q:Kv}(hb:attributeBase e f env (eval e env)=eval e env)
  (h:wpAny (model prog w) A (eval e env) (fun o s₁=>wpAny (model prog w) A (getAttr o f true) Q E s₁) E s):wpAny (model prog w) A (eval (.Attribute e f pos) env) Q E s:=
 Attribute_any_ h (by rw[arm_eval_Attribute,hb])
end
def AQ (K:Kq)(ta:TE)(f:Str):TE:=fun σ H Q=>ta σ H fun x H1=>∃ a C dx fs v,x=.ref a∧H1 a=some (.ins C dx fs)∧Cls K C∧NoAttr K C f∧fs.lookup f=some v∧Q v H1
def Bb (K:Kq)(ta tv:TE)(f:Str):TS:=fun D σ H=>tv σ H fun y H1=>ta σ H1 fun x H2=>∃ a C dx fs,x=.ref a∧H2 a=some (.ins C dx fs)∧Cls K C∧NoAttr K C f∧fs.length<1000 ∧
 D.nx σ (upd H2 a (.ins C dx (c_ f y fs)))
section
variable {X:Cx} {o e value:Expr} {f:Str} {pos pos' tpos:Pos} {ta tv:TE}
theorem wk (he:PE X e ta)(hb:attributeBase e f X.env (eval e X.env)=eval e X.env):PE X (.Attribute e f pos) (AQ X.K ta f):=by
 intro pz s σ H Q I h
 refine uX hb (aG (he pz s σ H _ I h) fun u s1 x H1 I1 rx hh_=>?_)
 obtain⟨a,C,dx,fs,v,ex,ea,c,n,l,q⟩:=hh_
 subst ex
 obtain rfl:u=Value.ref a:=rx
 exact nB I1 ea c n l fun u' s2 I2 ru=>⟨v,H1,I2,ru,q⟩
theorem wv (ha:PE X o ta)(hv:PE X value tv)(hs:swapsWith value (some (.Attribute o f pos')) pos.line X.env=pure false):PS X (.Assign [.Attribute o f pos'] value pos) (Bb X.K ta tv f):=by
 intro pz s σ H D I h
 refine plainObj_wpAny_Assign_Attribute (aG (hv pz s σ H _ I h) fun u s1 y H1 I1 ry q=>aG (ha pz s1 σ H1 _ I1 q) fun ov s2 x H2 I2 rx hh_=>?_) hs
 obtain⟨a,C,dx,fs,ex,ea,c,n,l,q2⟩:=hh_
 subst ex
 obtain rfl:ov=Value.ref a:=rx
 exact mT I2 ea c n l ry fun s3 I3=>⟨σ,_,I3,q2⟩
end
section
variable {X:Cx} {pz:Kp} {σ:St} {H:Hp} {s:Shared} {A:Around} {E:Kv} {Q:Kv} {c:Value} {b:Bool}
end
structure Room (k:Nat) (A:Around):Prop where
 hd:A.handled=none
 dp:A.depth+3*k+5<recursionLimit
 un:A.units+16*k+200<cLine
theorem Room.mono {j k:Nat}{A:Around}(r:Room k A)(h:j≤k):Room j A:=⟨r.hd,by have:=r.dp;omega,by have:=r.un;omega⟩
theorem Room.deeper {k:Nat}{A:Around}(r:Room (k+1) A)(env:Env):Room k (A.deeper env):=
 ⟨r.hd,by have:=r.dp;show A.depth+1+3*k+5<_;omega,by have:=r.un;show A.units+3+16*k+200<_;omega⟩
theorem ni {A:Around}{C:Addr}{us:List Value}{kw:List (Str×Value)}:(A.under (.builtin "type.__call__" ⟨.ref C::us,kw⟩)).depth=A.depth+1:=by
 first | rfl | simp[Around.under,Code.weight,Code.isCreation,Code.isGuard,Code.isCaller,Code.frames,Code.isFrame,guardIds]
theorem mE {A:Around}{C:Addr}{us:List Value}{kw:List (Str×Value)}:(A.under (.builtin "type.__call__" ⟨.ref C::us,kw⟩)).units=A.units+1:=by
 first | rfl | simp[Around.under,Code.cUnits,Code.frames,Code.isFrame]
theorem Room.make {k:Nat}{A:Around}(r:Room (k+1) A)(C:Addr)(us:List Value)(kw:List (Str×Value)):Room k (A.under (.builtin "type.__call__" ⟨.ref C::us,kw⟩)):=
 ⟨r.hd,by have:=r.dp;rw[ni];omega,by have:=r.un;rw[mE];omega⟩
theorem Room.depth {k:Nat}{A:Around}(r:Room k A):A.depth<recursionLimit:=by have:=r.dp;omega
def lw:TA:=fun _ H Q=>Q [] H
def gl (ta:TE)(tr:TA):TA:=fun σ H Q=>ta σ H fun x H1=>tr σ H1 fun xs H2=>Q (x::xs) H2
section
variable {X:Cx} {e:Expr} {es:List Expr} {te:TE} {t:TA} {pos:Pos}
theorem aQ:PA X [] lw:=fun _ _ _ _ H Q I h=>Calls.spliced_nil ⟨[],H,I,.nil,h⟩
theorem ar (ha:PE X e te)(hr:PA X es t)(hs:starEach (e::es) X.env=(false,eval e X.env)::starEach es X.env:=by rfl):PA X (e::es) (gl te t):=by
 intro pos pz s σ H Q I h
 rw[hs]
 show wpAny _ _ (spliced ((false,eval e X.env)::backTo pos (starEach es X.env))) _ _ s
 refine ZR (aG (ha pz s σ H _ I h) fun u s1 x H1 I1 r1 q1=>?_)
 exact aG (hr pos pz s1 σ H1 _ I1 q1) fun us s2 xs H2 I2 r2 q2=>⟨x::xs,H2,I2,.cons r1 r2,q2⟩
def Ao (t:TA):TE:=fun σ H Q=>t σ H fun xs H1=>xs.length≤sizeLine∧∀ p,H1 p=none→Q (.ref p) (upd H1 p (.tup xs))
def A5 (t:TA):TE:=fun σ H Q=>t σ H fun xs H1=>xs.length≤sizeLine∧∀ p,H1 p=none→Q (.ref p) (upd H1 p (.lst xs))
theorem xS {x1}(h:PA X es t):PE X (.Tuple es x1 pos) (Ao t):=by
 intro pz s σ H Q I hq
 refine wpAny_Tuple_spliced (aG (h pos pz s σ H _ I hq) fun us s1 xs H1 I1 r ⟨z,q⟩=>⟨by rw[← r.length];exact z,?_⟩)
 have hf:H1 s1.heap.objs.size=none:=I1.hok.fresh (Yi _)
 refine⟨.ref s1.heap.objs.size,upd H1 s1.heap.objs.size (.tup xs),I1.laid (t':=s1.toks) (fun b u e=>Yd _ e) (Yi _) ?_,rfl,q _ hf⟩
 exact⟨z,us,r,⟨_,Yo _ rfl,rfl,_,rfl⟩,_,Yo _ rfl,rfl⟩
theorem wZ (h:PA X es t):PE X (.List es pos) (A5 t):=by
 intro pz s σ H Q I hq
 refine wpAny_List_spliced (aG (h pos pz s σ H _ I hq) fun us s1 xs H1 I1 r ⟨z,q⟩=>⟨by rw[← r.length];exact z,?_⟩)
 have hf:H1 s1.heap.objs.size=none:=I1.hok.fresh (Yi _)
 refine⟨.ref s1.heap.objs.size,upd H1 s1.heap.objs.size (.lst xs),I1.laid (t':=s1.toks) (fun b u e=>Yd _ e) (Yi _) ?_,rfl,q _ hf⟩
 exact⟨z,us,0,r,Yo _ rfl⟩
end
abbrev Sp:=List V→Hp→VK→XK→Prop
abbrev CXT:=List Env→Hp→Shared→XK→Value→Shared→Prop
structure Env0 (P:Program) (w:World) (K:PySem.W.Frag) (mg:Str→Option Value) (base:Heap) (A:Around) (outer:List Env) (s:Shared) (H:Hp):Prop where
 frames:A.frames=some outer
 mod:Mod K mg base
 bs:∀ b o,base.get? b=some o→s.heap.get? b=some o∧H b=none
 bsz:base.objs.size≤s.heap.objs.size
 funs:s.heap.FunFrames base outer
 frf:∀ b∈frs outer,H b=none
 hok:HOk P w H s.heap
 bare:AllBare s.gens
def CE (outer:List Env)(P:Program)(w:World)(H:Hp)(s:Shared)(Q:VK)(u:Value)(s':Shared):Prop:=
 ∃ v H',s'.os=s.os∧AllBare s'.gens∧Un (frs outer) [] H H' s.heap s'.heap∧HOk P w H' s'.heap∧RelV v u∧Q v H'
def CR (CX:CXT)(outer:List Env)(P:Program)(w:World)(H:Hp)(s:Shared)(Q:VK)(E:XK)(r:Result)(s':Shared):Prop:=
 match r with
 | .ok (.ret u)=>CE outer P w H s Q u s'
 | .ok _=>False
 | .error e=>CX outer H s E e s'
structure FnOk (P:Program) (w:World) (K:PySem.W.Frag) (mg:Str→Option Value) (base:Heap) (CX:CXT) (k:Nat) (f:Addr) (fd:FuncData) (ps:List Str) (sp:Sp):Prop where
 len:∀ vs H Q E,sp vs H Q E→vs.length=ps.length
 run:∀ (A:Around) (outer:List Env) (s:Shared) (H:Hp) (args:Args) (us:List Value) (vs:List V) (Q:VK) (E:XK),Room k A→Env0 P w K mg base A outer s H→BindsTo s fd args (ps.zip us)→Vals vs us→sp vs H Q E→
  codeAny (model P w) A (.call (.ref f) args) (CR CX outer P w H s Q E) s
theorem FnOk.imp {P:Program}{w:World}{K:Kq}{mg:Ks}{base:Heap}{CX:CXT}{k:Nat}{f:Addr}{fd:FuncData}{ps:List Str}{sp sp':Sp}(F:FnOk P w K mg base CX k f fd ps sp)
  (h:∀ vs H Q E,sp' vs H Q E→sp vs H Q E):FnOk P w K mg base CX k f fd ps sp':=
 ⟨fun vs H Q E q=>F.len vs H Q E (h _ _ _ _ q),fun A outer s H args us vs Q E hr he hb hv hs=>F.run A outer s H args us vs Q E hr he hb hv (h _ _ _ _ hs)⟩
theorem Env0.make {P:Program}{w:World}{K:Kq}{mg:Ks}{base:Heap}{A:Around}{outer:List Env}{s:Shared}{H:Hp}(e:Env0 P w K mg base A outer s H)(C:Addr)(us:List Value)(kw:List (Str×Value)) :
  Env0 P w K mg base (A.under (.builtin "type.__call__" ⟨.ref C::us,kw⟩)) outer s H:=⟨by first | exact e.frames | (simpa[Around.under,Code.envs,Code.isFrame,pushEnvs] using e.frames),e.mod,e.bs,e.bsz,e.funs,e.frf,e.hok,e.bare⟩
section
variable {X:Cx} {pz:Kp} {σ:St} {H:Hp} {s s':Shared}
theorem Inv.env0 (I:Inv X pz σ H s):Env0 X.prog X.w X.K X.mg X.base X.A X.stack s H:=
 ⟨I.ok.frames,I.ok.mod,I.bs,YA I.ok.bsz I.sz,I.stack,I.stkFree,I.hok,I.bare⟩
theorem Inv.after {Q:VK}{u:Value}(I:Inv X pz σ H s)(h:CE X.stack X.prog X.w H s Q u s'):EP X pz σ Q u s':=by
 obtain⟨v,H',os,bare,un,hok,r,q⟩:=h
 obtain⟨hh,g,d,t,os'⟩:=s'
 obtain rfl:os'=s.os:=os
 exact⟨v,H',I.call (h':=hh) (g':=g) (d':=d) (t':=t) (ch:=[]) un hok bare (fun b z=>absurd z (by simp)),r,q⟩
end
def vz (sp:Sp)(dvs:List V)(E:XK)(t:TA):TE:=fun σ H Q=>t σ H fun vs H1=>sp (vs++dvs) H1 Q E
def nK (C:Addr)(m:Str)(sp:Sp)(dvs:List V)(E:XK)(ta:TE)(t:TA):TE:=fun σ H Q=>ta σ H fun x H1=>∃ a dx fs,x=.ref a∧H1 a=some (.ins C dx fs)∧fs.lookup m=none ∧
 t σ H1 fun vs H2=>sp (x::(vs++dvs)) H2 Q E
def x_ (C:Addr)(sp:Sp)(dvs:List V)(E:XK)(t:TA):TE:=fun σ H Q=>t σ H fun vs H1=>∀ x dx,H1 x=none→H1 dx=none→dx≠x→
 sp (.ref x::(vs++dvs)) (upd (upd H1 dx (.own x)) x (.ins C dx [])) (fun v H2=>v=.non∧Q (.ref x) H2) E
def Binds (K:Kq)(fd:FuncData)(ps:List Str)(ds:List Value):Prop:=
 ∀ (s:Shared) (us:List Value),K.In s.heap→(us++ds).length=ps.length→BindsTo s fd ⟨us,[]⟩ (ps.zip (us++ds))
theorem Binds.all {K:Kq}{fd:FuncData}{ps:List Str}(h:∀ us:List Value,us.length=ps.length→bindArgs fd ⟨us,[]⟩=pure (ps.zip us)):Binds K fd ps []:=fun s us _ hl=>by
 rw[YT] at hl ⊢
 exact .of_eq (h us hl)
def eF (CX:CXT)(X:Cx)(E:XK):Prop:=∀ (pz:Kp) (σ:St) (H:Hp) (s:Shared) (e:Value) (s':Shared),Inv X pz σ H s→CX X.stack H s E e s'→X.xe e s'
section
variable {X:Cx} {CX:CXT} {k:Nat} {f C:Addr} {fd:FuncData} {ps:List Str} {sp:Sp} {dvs:List V} {ds:List Value} {E:XK} {x m:Str} {p pos apos:Pos} {e o:Expr} {es:List Expr} {ta:TE} {t:TA}
theorem m_ {pz:Kp}{σ:St}{H:Hp}{s:Shared}{Q:VK}{us:List Value}{vs:List V}(F:FnOk X.prog X.w X.K X.mg X.base CX k f fd ps sp)(hr:Room k X.A)(hb:Binds X.K fd ps ds)(hd:Vals dvs ds)(hx:eF CX X E)
  (I:Inv X pz σ H s) (r:Vals vs us) (h:sp (vs++dvs) H Q E):wpAny (model X.prog X.w) X.A (call (.ref f) us) (EP X pz σ Q) X.xe s:=by
 have r2:Vals (vs++dvs) (us++ds):=r.append hd
 have hl:(us++ds).length=ps.length:=by rw[← r2.length];exact F.len _ _ _ _ h
 refine wpAny_call (Xa (F.run X.A X.stack s H ⟨us,[]⟩ (us++ds) (vs++dvs) Q E hr I.env0 (hb s us I.kIn hl) r2 h) fun r s' hq=>?_)
 cases r with
 | error e=>exact hx pz σ H s e s' I hq
 | ok fl=>
  cases fl with
  | ret u=>exact I.after hq
  | next=>exact False.elim hq
  | brk=>exact False.elim hq
  | cont=>exact False.elim hq
theorem eY (F:FnOk X.prog X.w X.K X.mg X.base CX k f fd ps sp)(hr:Room k X.A)(hg:Gl X x)(hm:X.mg x=some (.ref f))(hk:PySem.W.keepIn X.K (.ref f)=true)(hb:Binds X.K fd ps ds)(hd:Vals dvs ds)(hx:eF CX X E)
  (ha:PA X (e::es) t) (hdb:(x == ("__debug__":Str))=false:=by decide) (he:starEach (e::es) X.env=(false,eval e X.env)::starEach es X.env:=by rfl) (hpl:(backTo pos (starEach es X.env)).any (·.1)=false:=by rfl) :
  PE X (.Call (.Name x p) (e::es) [] pos) (vz sp dvs E t):=by
 intro pz s σ H Q I h
 refine ZB (gH I hg hm ?_ hdb)
 refine XC (h₀:=X.base) I.ok.mod.kin hk (aG (ha pos pz s σ H _ I h) fun us s1 vs H1 I1 r q=>⟨I1.kIn,?_⟩) he hpl
 exact m_ F hr hb hd hx I1 r q
theorem u8 {pl:Sem Bool}(he:PE X o ta)(c:Cls X.K C)(hm:Meth X.K C m f)(F:FnOk X.prog X.w X.K X.mg X.base CX k f fd ps sp)(hr:Room k X.A)(hb:Binds X.K fd ps ds)(hd:Vals dvs ds)(hx:eF CX X E)(ha:PA X (e::es) t)
  (hst:starEach (e::es) X.env=(false,eval e X.env)::starEach es X.env:=by rfl) (hpl:(backTo pos (starEach es X.env)).any (·.1)=false:=by rfl)
  (ht:eval (.Call (.Attribute o m apos) (e::es) [] pos) X.env=(do
   let ov ← eval o X.env
   standAt apos.atName
   let (f,first) ← holding [ov] (getMethod ov m pl)
   callWith pos f first (backTo pos (starEach (e::es) X.env)) (backToKw pos (keywordEach [] X.env))):=by rfl) :
  PE X (.Call (.Attribute o m apos) (e::es) [] pos) (nK C m sp dvs E ta t):=by
 intro pz s σ H Q I h
 refine PySem.W.methodCall_KW (pl:=pl) (aG (he pz s σ H _ I h) fun u s1 x H1 I1 rx hh_=>?_) ht
 obtain⟨a,dx,fs,ex,ea,l,q⟩:=hh_
 subst ex
 obtain rfl:u=Value.ref a:=rx
 refine h_ I1 ea c hm l ?_
 refine XC (first:=[.ref a]) (h₀:=X.base) I.ok.mod.kin hm.kp (aG (ha pos pz s1 σ H1 _ I1 q) fun us s2 vs H2 I2 r q2=>⟨I2.kIn,?_⟩) hst hpl
 exact m_ (us:=.ref a::us) (vs:=.ref a::vs) F hr hb hd hx I2 (.cons rfl r) q2
theorem qt {pl:Sem Bool}(he:PE X o ta)(c:Cls X.K C)(hm:Meth X.K C m f)(F:FnOk X.prog X.w X.K X.mg X.base CX k f fd ps sp)(hr:Room k X.A)(hb:Binds X.K fd ps ds)(hd:Vals dvs ds)(hx:eF CX X E)
  (ht:eval (.Call (.Attribute o m apos) [] [] pos) X.env=(do
   let ov ← eval o X.env
   standAt apos.atName
   let (f,first) ← holding [ov] (getMethod ov m pl)
   callWith pos f first (backTo pos (starEach [] X.env)) (backToKw pos (keywordEach [] X.env))):=by rfl) :
  PE X (.Call (.Attribute o m apos) [] [] pos) (nK C m sp dvs E ta lw):=by
 intro pz s σ H Q I h
 refine PySem.W.methodCall_KW (pl:=pl) (aG (he pz s σ H _ I h) fun u s1 x H1 I1 rx hh_=>?_) ht
 obtain⟨a,dx,fs,ex,ea,l,q⟩:=hh_
 subst ex
 obtain rfl:u=Value.ref a:=rx
 refine h_ I1 ea c hm l ?_
 exact PySem.W.callWith_K0 (first:=[.ref a]) I1.kIn hm.kp (m_ (us:=[.ref a]) (vs:=[.ref a]) F hr hb hd hx I1 (.cons rfl .nil) q)
structure Mk (K:PySem.W.Frag) (C f:Addr):Prop where
 makes:PySem.W.makesIn K C=true
 init:PySem.W.findIn K (.ref C) "__init__"=some (some (.ref f))
 fn:PySem.W.isFn K (.ref f)=true
 kp:PySem.W.keepIn K (.ref C)=true
theorem rA {pz:Kp}{σ:St}{H:Hp}{s:Shared}{Q:VK}{us:List Value}{vs:List V}(M:Mk X.K C f)(F:FnOk X.prog X.w X.K X.mg X.base CX k f fd ps sp)(hr:Room (k+1) X.A)(hb:Binds X.K fd ps ds)(hd:Vals dvs ds)
  (hx:eF CX X E) (I:Inv X pz σ H s) (r:Vals vs us)
  (h:∀ x dx,H x=none→H dx=none→dx≠x→sp (.ref x::(vs++dvs)) (upd (upd H dx (.own x)) x (.ins C dx [])) (fun v H2=>v=.non∧Q (.ref x) H2) E) :
  wpAny (model X.prog X.w) X.A (call (.ref C) us) (EP X pz σ Q) X.xe s:=by
 have hq:=h (s.heap.objs.size+1) s.heap.objs.size (I.hok.fresh (Nat.le_succ _)) (I.hok.fresh (Yi _)) (Yw (Xq _))
 have I2:=Inv.made (C:=C) I
 have r2:Vals (V.ref (s.heap.objs.size+1)::(vs++dvs)) (Value.ref (s.heap.objs.size+1)::(us++ds)):=.cons rfl (r.append hd)
 have hl:(Value.ref (s.heap.objs.size+1)::us++ds).length=ps.length:=by
  have e:=r2.length
  rw[F.len _ _ _ _ hq] at e
  exact e.symm
 refine wpAny_call (rE (f:=f) I.kIn M.makes M.init (XF.mp M.fn) (Xa (F.run _ X.stack _ _ ⟨Value.ref (s.heap.objs.size+1)::us,[]⟩ (Value.ref (s.heap.objs.size+1)::(us++ds)) _ _ E (hr.make C us [])
  (I2.env0.make C us []) (hb _ (Value.ref (s.heap.objs.size+1)::us) I2.kIn hl) r2 hq) fun r s' hq'=>?_))
 cases r with
 | error e=>exact hx pz σ _ _ e s' I2 hq'
 | ok fl=>
  cases fl with
  | ret u=>
   obtain⟨v,H',I3,rv,ev,q3⟩:=I2.after hq'
   subst ev
   exact⟨rv,⟨V.ref (s.heap.objs.size+1),H',I3,rfl,q3⟩⟩
  | next=>exact False.elim hq'
  | brk=>exact False.elim hq'
  | cont=>exact False.elim hq'
theorem u3 (M:Mk X.K C f)(F:FnOk X.prog X.w X.K X.mg X.base CX k f fd ps sp)(hr:Room (k+1) X.A)(hg:Gl X x)(hm:X.mg x=some (.ref C))(hb:Binds X.K fd ps ds)(hd:Vals dvs ds)(hx:eF CX X E)
  (ha:PA X (e::es) t) (hdb:(x == ("__debug__":Str))=false:=by decide) (he:starEach (e::es) X.env=(false,eval e X.env)::starEach es X.env:=by rfl) (hpl:(backTo pos (starEach es X.env)).any (·.1)=false:=by rfl) :
  PE X (.Call (.Name x p) (e::es) [] pos) (x_ C sp dvs E t):=by
 intro pz s σ H Q I h
 refine ZB (gH I hg hm ?_ hdb)
 refine XC (h₀:=X.base) I.ok.mod.kin M.kp (aG (ha pos pz s σ H _ I h) fun us s1 vs H1 I1 r q=>⟨I1.kIn,?_⟩) he hpl
 exact rA M F hr hb hd hx I1 r q
end
section
variable {X:Cx} {CX:CXT} {k:Nat} {f C:Addr} {fd:FuncData} {ps ks:List Str} {sp:Sp} {E:XK} {x m:Str} {p pos apos kpos:Pos} {e o:Expr} {es:List Expr} {kws:List Keyword} {te ta:TE} {t tk:TA} {nm:Option Str}
variable {g:List Value→List Value→List Value} {gV:List V→List V→List V}
end
structure FnScope (N P:List Str) (sc:Scope):Prop where
 kind:sc.kind=.function
 co:sc.isCoroutine=false
 gen:sc.isGenerator=false
 nd:N.Nodup
 pre:N.take P.length=P
 par:∀ x∈P,sc.names.lookup x=some .local∨sc.names.lookup x=some .cell
 nofree:∀ y∈sc.names,y.2≠.free
theorem jn {kindOf:Str→Option NameKind}{x:Str}:∀ {binds:List (Str×Value)} {m:Ks},(∀ v,(x,v)∉binds)→bindL kindOf binds m x=m x
 | [],_,_=>rfl
 | (n,v)::r,m,h=>by
  unfold bindL
  rw[jn fun w hw=>h w (Yb _ hw)]
  split
  ·have:x≠n:=by rintro rfl;exact h v Yc
   simp[this]
  ·rfl
theorem jh {kindOf:Str→Option NameKind}{x:Str}:∀ {binds:List (Str×Value)} {m:Ks},(∀ v,(x,v)∉binds)→bindC kindOf binds m x=m x
 | [],_,_=>rfl
 | (n,v)::r,m,h=>by
  unfold bindC
  rw[jh fun w hw=>h w (Yb _ hw)]
  split
  ·rfl
  ·have:x≠n:=by rintro rfl;exact h v Yc
   simp[this]
theorem i_ {kindOf:Str→Option NameKind}{x:Str}{v:Value}:∀ {P:List Str} {vs:List Value} {i:Nat} {m:Ks},P.Nodup→P[i]?=some x→vs[i]?=some v→kindOf x=some .local→
  bindL kindOf (P.zip vs) m x=some v
 | [],_,_,_,_,h,_,_=>by simp at h
 | _::_,[],_,_,_,_,h,_=>by simp at h
 | p::P,w::vs,0,m,nd,h1,h2,hk=>by
  simp at h1 h2;subst h1;subst h2
  show bindL kindOf ((p,w)::P.zip vs) m p=_
  unfold bindL
  rw[jn fun v hv=>(Zo.mp nd).1 (Xy hv).1,Yf hk]
  simp
 | p::P,w::vs,i+1,m,nd,h1,h2,hk=>by
  show bindL kindOf ((p,w)::P.zip vs) m x=_
  unfold bindL
  exact i_ (i:=i) (Zo.mp nd).2 (by simpa using h1) (by simpa using h2) hk
theorem jv {kindOf:Str→Option NameKind}{x:Str}{v:Value}:∀ {P:List Str} {vs:List Value} {i:Nat} {m:Ks},P.Nodup→P[i]?=some x→vs[i]?=some v→kindOf x≠some .local→
  bindC kindOf (P.zip vs) m x=some v
 | [],_,_,_,_,h,_,_=>by simp at h
 | _::_,[],_,_,_,_,h,_=>by simp at h
 | p::P,w::vs,0,m,nd,h1,h2,hk=>by
  simp at h1 h2;subst h1;subst h2
  show bindC kindOf ((p,w)::P.zip vs) m p=_
  unfold bindC
  rw[jh fun v hv=>(Zo.mp nd).1 (Xy hv).1,Yh hk]
  simp
 | p::P,w::vs,i+1,m,nd,h1,h2,hk=>by
  show bindC kindOf ((p,w)::P.zip vs) m x=_
  unfold bindC
  exact jv (i:=i) (Zo.mp nd).2 (by simpa using h1) (by simpa using h2) hk
def start (N:List Str)(vs:List V):St:=vs.map some++List.replicate (N.length-vs.length) none
def eh (CX:CXT)(P:Program)(w:World)(K:Kq)(mg:Ks)(base:Heap)(N:List Str)(qual:Str)(scope:Scope)(f:Addr)(cd:Value)(A:Around)(outer:List Env)(s:Shared)(H:Hp)(E:XK):Cx where
 prog:=P
 w:=w
 K:=K
 mg:=mg
 base:=base
 A:=A.deeper (envOfC qual scope s.heap.objs.size f cd)
 N:=N
 s₀:=s
 H₀:=H
 env:=envOfC qual scope s.heap.objs.size f cd
 outer:=outer
 stack:=envOfC qual scope s.heap.objs.size f cd::outer
 ex:=[]
 calm:=true
 fn:=fun _=>true
 pn:=[]
 xe:=fun e s'=>wpAny (model P w) (A.deeper (envOfC qual scope s.heap.objs.size f cd)) (leaving (envOfC qual scope s.heap.objs.size f cd) e) (fun _ s''=>CX outer H s E e s'') (fun e' s''=>CX outer H s E e' s'') s'
theorem k8 {sc:Scope}{n:Nat}{x:Str}(h:sc.names.lookup x=some .cell):∃ c,(cellsFrom n sc.names []).lookup x=some c:=by
 have q:=ZP sc.names n [] (.inl h)
 exact ZH.mp q
theorem ja {CX:CXT}{P:Program}{w:World}{K:Kq}{mg:Ks}{base:Heap}{N ps:List Str}{qual:Str}{scope:Scope}{f:Addr}{cd:Value}{A:Around}{outer:List Env}{s s1:Shared}{H:Hp}{E:XK}{us:List Value}{vs:List V}
  (S:FnScope N ps scope) (hd:A.handled=none) (e0:Env0 P w K mg base A outer s H) (hl:vs.length=ps.length) (r:Vals vs us)
  (x:InCallC s s.heap.objs.size (bindL (envOfC qual scope s.heap.objs.size f cd).kindOf (ps.zip us) fun _=>none) (cellsFrom (s.heap.objs.size+1) scope.names []) (bindC (envOfC qual scope s.heap.objs.size f cd).kindOf (ps.zip us) fun _=>none) s1) :
  Inv (eh CX P w K mg base N qual scope f cd A outer s H E) [] (start N vs) H s1:=by
 have hpl:ps.length≤N.length:=by have:=ZA List.length S.pre;rw[ZO] at this;omega
 obtain⟨h1,tk,rfl,hk⟩:=x.done
 have noA:∀ b:Addr,b∉(eh CX P w K mg base N qual scope f cd A outer s H E).ex:=fun b z=>absurd (show b∈([]:List Addr) from z) (by simp)
 refine⟨⟨e0.mod,S.kind,rfl,rfl,Yi _,fun y z c h1 h2=>?_,fun y hy=>?_,fun y c _ h=>?_,fun _=>hd,Around.frames_deeper e0.frames,.inr ⟨rfl,rfl⟩,fun b z=>absurd z (noA b),e0.bs,e0.bsz,fun b _ _=>noA b,fun b z=>absurd z (noA b),e0.funs,e0.frf⟩,
  rfl,e0.bare,Un.kept hk,⟨_,x.toInCall.ns,fun i y v h1 h2 h3=>?_⟩,fun y c h=>⟨_,x.cell y c h⟩,e0.hok.fresh (Yi _),fun y c h=>?_,fun p hp=>absurd (show p∈([]:Kp) from hp) (by simp),e0.hok.kept hk,?_⟩
 ·exact name_of_addr x.apart (YY h1) (YY h2)
 ·have hy:scope.names.lookup y=some .cell∨scope.names.lookup y=some .free:=hy
  rcases hy with hy | hy
  ·exact k8 hy
  ·exact absurd rfl (S.nofree _ (YY hy))
 ·exact Zl (x.above y c (YY h))
 ·have hi:i<vs.length:=by
   unfold start at h2
   by_cases hi:i<vs.length
   ·exact hi
   ·rw[Zb (by simpa using hi)] at h2
    rw[ZL] at h2
    split at h2 <;> cases h2
  have ha:vs[i]?=some v:=by
   unfold start at h2
   rw[Zd (by simpa using hi),YF] at h2
   cases e:vs[i]? with
   | none=>rw[e] at h2;cases h2
   | some a=>rw[e] at h2;cases h2;rfl
  obtain⟨u,hu,rv⟩:=r.get ha
  have hp:ps[i]?=some y:=by
   rw[← S.pre,List.getElem?_take_of_lt (by omega)];exact h1
  have ndP:ps.Nodup:=by rw[← S.pre];exact S.nd.sublist (List.take_sublist _ _)
  refine⟨u,rv,?_⟩
  rcases S.par y (YL hp) with k | k
  ·exact .inl ⟨k,i_ ndP hp hu k⟩
  ·obtain⟨c,e⟩:=k8 (n:=s.heap.objs.size+1) k
   refine .inr ⟨.inl k,c,e,?_⟩
   have q:=x.cell y c e
   rw[jv ndP hp hu (by show scope.names.lookup y≠_;rw[k];decide)] at q
   exact q
 ·exact e0.hok.fresh (Zl (x.above y c (YY h)))
 ·unfold start
  show _=N.length
  rw[Ym,Ye,YB]
  omega
theorem vE {CX:CXT}{P:Program}{w:World}{K:Kq}{mg:Ks}{base:Heap}{k:Nat}{f:Addr}{name qual:Str}{params:Arguments}{body:List Stmt}{scope:Scope}{dV kV doc pm cdv ct oc:Value}{an od:Option Addr}
  {osl:Array (Option Value)} {N ps:List Str} {sp:Sp} (lk:K.lookup f=some ⟨oc,od,.func (PySem.W.fnOf name qual params body scope dV kV doc pm an cdv ct),osl⟩) (hcd:PySem.W.codeIn K cdv qual=true) (S:FnScope N ps scope)
  (len:∀ vs H Q E,sp vs H Q E→vs.length=ps.length)
  (hbody:∀ (A:Around) (outer:List Env) (s:Shared) (H:Hp) (vs:List V) (Q:VK) (E:XK),Room k (A.deeper (envOfC qual scope s.heap.objs.size f cdv))→sp vs H Q E→
   ∃ t,PSs (eh CX P w K mg base N qual scope f cdv A outer s H E) body t∧t { nx:=fun _ H'=>Q .non H',rt:=Q } (start N vs) H) :
  FnOk P w K mg base CX (k+1) f (PySem.W.fnOf name qual params body scope dV kV doc pm an cdv ct) ps sp:=by
 refine⟨len,fun A outer s H args us vs Q E hr e0 hb r hsp=>?_⟩
 have hl:=len _ _ _ _ hsp
 have KX:K.In s.heap:=e0.mod.kin.keeps fun b o e=>(e0.bs b o e).1
 have lim:s.heap.NoLimit:=e0.mod.nolimit.keeps fun b o e=>(e0.bs b o e).1
 have hkind:∀ y∈ps.zip us,scope.names.lookup y.1=some .local∨(scope.names.lookup y.1=some .cell∧((cellsFrom (s.heap.objs.size+1) scope.names []).lookup y.1).isSome=true):=fun ⟨n,v⟩ hy=>by
  rcases S.par n (Xy hy).1 with q | q
  ·exact .inl q
  ·exact .inr ⟨q,ZP _ _ _ (.inl q)⟩
 refine codeAny_call_function hr.depth (KX _ _ lk) rfl S.co S.gen rfl (PySem.W.codeRec_of KX hcd) (hb _ _ _ _ ?_)
 refine wpAny_newFunctionEnv_cells S.kind hkind fun env he s1 x=>?_
 subst he
 refine⟨lim.keeps x.toInCall.keep,codeAny_func ?_⟩
 obtain⟨t,ht,hq⟩:=hbody A outer s H vs Q E (hr.deeper _) hsp
 have I:Inv (eh CX P w K mg base N qual scope f cdv A outer s H E) [] (start N vs) H s1:=ja S hr.hd e0 hl r x
 refine Zv (ht [] s1 (start N vs) H _ I hq) (fun fl s' hs=>?_) fun e s' hs=>hs
 have fin:∀ {σ':St} {H':Hp} {v:V} {u:Value},Inv (eh CX P w K mg base N qual scope f cdv A outer s H E) [] σ' H' s'→RelV v u→Q v H'→CE outer P w H s Q u s':=
  fun {σ' H' v u} J rv q=>⟨v,H',J.os,J.bare,J.base,J.hok,rv,q⟩
 cases fl with
 | ret u=>
  obtain⟨v,σ',H',J,rv,q⟩:=hs
  exact fin J rv q
 | next=>
  obtain⟨σ',H',J,q⟩:=hs
  exact fin (v:=V.non) (u:=Value.none) J rfl q
 | brk=>
  obtain⟨_,_,_,q⟩:=hs
  exact False.elim q
 | cont=>
  obtain⟨_,_,_,q⟩:=hs
  exact False.elim q
section
variable {X:Cx} {x:Str} {p pos:Pos} {e:Expr} {es:List Expr} {t:TA} {id T:String} {r:List V→Hp→VK→Prop}
def tCB (r:List V→Hp→VK→Prop)(t:TA):TE:=fun σ H Q=>t σ H fun vs H1=>r vs H1 Q
theorem c7 (hc:CallR X (.builtin id) r)(hg:Gl X x)(hm:X.mg x=none)(hv:bootBuiltins x=some (.builtin id))(ha:PA X (e::es) t)(hn:x ≠ "__name__":=by decide)(hdb:(x == ("__debug__":Str))=false:=by decide)
  (he:starEach (e::es) X.env=(false,eval e X.env)::starEach es X.env:=by rfl) (hpl:(backTo pos (starEach es X.env)).any (·.1)=false:=by rfl):PE X (.Call (.Name x p) (e::es) [] pos) (tCB r t):=by
 intro pz s σ H Q I h
 refine ZB (fW I hg hm hv ?_ hn hdb)
 exact PyProof.Rows.callWith_builtin1 (aG (ha pos pz s σ H _ I h) fun us s1 vs H1 I1 r1 q1=>hc pz s1 σ H1 vs us Q I1 r1 q1) he hpl
theorem cB (hc:CallR X (.type T) r)(hg:Gl X x)(hm:X.mg x=none)(hv:bootBuiltins x=some (.type T))(ha:PA X (e::es) t)(hn:x ≠ "__name__":=by decide)(hdb:(x == ("__debug__":Str))=false:=by decide)
  (he:starEach (e::es) X.env=(false,eval e X.env)::starEach es X.env:=by rfl) (hpl:(backTo pos (starEach es X.env)).any (·.1)=false:=by rfl):PE X (.Call (.Name x p) (e::es) [] pos) (tCB r t):=by
 intro pz s σ H Q I h
 refine ZB (fW I hg hm hv ?_ hn hdb)
 exact Zy (aG (ha pos pz s σ H _ I h) fun us s1 vs H1 I1 r1 q1=>hc pz s1 σ H1 vs us Q I1 r1 q1) he hpl
end
end L2
namespace HT
open PySem PyProof.Rows
theorem rcLt_int (A:Around)(s:Shared)(a:Int)(t:Tok)(c:Int)(u:Tok)(prog:Program)(w:World)(E:Value→Shared→Prop)(Q:Value→Shared→Prop)(h:Q (.bool (decide (a<c))) s) :
  wpAny (model prog w) A (richCompare .Lt (.int a t) (.int c u)) Q E s:=
 (PyProof.Rows.lt_int h:wpAny (model prog w) A (compareOp .Lt (.int a t) (.int c u)) Q E s)
section
open PySem.SeqAt
open PySem.AutoSeq1 (wpAny_loadPart')
open PySem.MeetsSeq PySem.MeetsSeq2 PySem.MeetsSeq3
end
section
variable {prog:Program} {w:World} {A:Around} {E:Value→Shared→Prop} {s:Shared}
theorem cat_tup {t b:Addr}{vs ws:List Value}{Q:Value→Shared→Prop}(ht:IsTup s.heap t vs.toArray)(hb:IsTup s.heap b ws.toArray)(hv:vs≠[])
  (h1:ws=[]→Q (.ref t) s) (h2:ws≠[]→Q (.ref s.heap.objs.size) { s with heap:=s.heap.push { cls:=.type "tuple",data:=.seq (vs++ws).toArray } })
  (hsz:vs.length+ws.length≤sizeLine):wpAny (model prog w) A (binaryOp .Add (.ref t) (.ref b)) Q E s:=by
 obtain⟨⟨cls,dd,data,sl⟩,ho,hc,n,hd⟩:=id ht
 obtain⟨⟨cls2,dd2,data2,sl2⟩,ho2,hc2,n2,hd2⟩:=id hb
 simp only at hc hd hc2 hd2
 subst hc hd hc2 hd2
 have e:vs.toArray++ws.toArray=(vs++ws).toArray:=by simp
 by_cases hw:ws=[]
 ·exact concat_meets ⟨_,ho,rfl⟩ ⟨_,ho2,rfl⟩ noFill_tuple_add seq_tuple_add PySem.F.slot_tuple_add PySem.F.entry_tuple_add (PySem.F.args_tuple_add_2 _ _)
   (tuple_addW1 t b vs.toArray ws.toArray n n2 dd dd2 sl sl2 (by simpa using hv) (by simp[hw])) ⟨ho,ho2,h1 hw⟩
 ·refine concat_meets ⟨_,ho,rfl⟩ ⟨_,ho2,rfl⟩ noFill_tuple_add seq_tuple_add PySem.F.slot_tuple_add PySem.F.entry_tuple_add (PySem.F.args_tuple_add_2 _ _)
   (tuple_addW2 t b vs.toArray ws.toArray n n2 dd dd2 sl sl2 (by simpa using hv) (by simpa using hw) (by rw[List.size_toArray,List.size_toArray];exact hsz)) ⟨ho,ho2,?_⟩
  rw[e]
  exact h2 hw
def sIx (n d:Nat):Option Int→Nat
 | none=>d
 | some v=>if v<0 then (v+(n:Int)).toNat else min v.toNat n
end
end HT
namespace L2
open PySem PySem.Spec PyProof.Rows
abbrev TO:=St→Hp→(Option Int→Hp→Prop)→Prop
def PO (X:Cx)(e:Option Expr)(t:TO):Prop:=
 ∀ (pz:Kp) (s:Shared) (σ:St) (H:Hp) (Q:Option Int→Hp→Prop),Inv X pz σ H s→t σ H Q→
  wpAny (model X.prog X.w) X.A (evalPart e X.env) (fun u s'=>∃ o H',Inv X pz σ H' s'∧IsPart u o∧Q o H') X.xe s
def t6:TO:=fun _ H Q=>Q none H
def zJ (t:TE):TO:=fun σ H Q=>t σ H fun x H1=>∃ i,x=.int i∧Q (some i) H1
section
variable {X:Cx} {e:Expr} {te:TE} {lo hi:Option Expr} {tl th:TO} {pos p2:Pos}
theorem uO:PO X none t6:=by
 intro pz s σ H Q I h
 rw[evalPart_none]
 exact YD ⟨none,H,I,.none,h⟩
theorem uR (h:PE X e te):PO X (some e) (zJ te):=by
 intro pz s σ H Q I hw
 rw[evalPart_some]
 refine aG (h pz s σ H _ I hw) fun u s1 x H1 I1 r1 q1=>?_
 obtain⟨i,rfl,q⟩:=q1
 obtain⟨t,rfl⟩:=r1
 exact⟨some i,H1,I1,.int i t,q⟩
def SlR (X:Cx)(r:V→Option Int→Option Int→Hp→VK→Prop):Prop:=
 ∀ (pz:Kp) (s:Shared) (σ:St) (H:Hp) (x:V) (v vl vu:Value) (lo hi:Option Int) (sl:Addr) (Q:VK),Inv X pz σ H s→RelV x v→s.heap.IsSliceOf sl vl vu .none→IsPart vl lo→IsPart vu hi→r x lo hi H Q→
  ∃ T id,typeLookup (.type T) "__getitem__"=pure (some (.builtin id))∧s.TypeIs v T∧wpAny (model X.prog X.w) X.A (getItem v (.ref sl)) (EP X pz σ Q) X.xe s
def tSl (r:V→Option Int→Option Int→Hp→VK→Prop)(te:TE)(tl th:TO):TE:=fun σ H Q=>te σ H fun x H1=>tl σ H1 fun l H2=>th σ H2 fun u H3=>r x l u H3 Q
theorem kO {r:V→Option Int→Option Int→Hp→VK→Prop}(hr:SlR X r)(he:PE X e te)(hl:PO X lo tl)(hu:PO X hi th):PE X (.Subscript e (.Slice lo hi none p2) pos) (tSl r te tl th):=by
 intro pz s σ H Q I h
 refine Subscript_ (aG (he pz s σ H _ I h) fun v s1 x H1 I1 r1 q1=>?_)
 refine wpAny_Slice (aG (hl pz s1 σ H1 _ I1 q1) fun vl s2 l H2 I2 pl q2=>aG (hu pz s2 σ H2 _ I2 q2) fun vu s3 u H3 I3 pu q3=>?_)
 rw[evalPart_none]
 refine YD ?_
 have I4:Inv X pz σ H3 { s3 with heap:=s3.heap.push { cls:=.type "slice",data:=.fields #[vl,vu,.none] } }:=I3.kept (t':=s3.toks) fun b ob q=>Yd _ q
 obtain⟨T,id,hT,ht,hg⟩:=hr pz { s3 with heap:=s3.heap.push { cls:=.type "slice",data:=.fields #[vl,vu,.none] } } σ H3 x v vl vu l u s3.heap.objs.size Q I4 r1 (Heap.IsSliceOf.new ..) pl pu q3
 show wpAny (model X.prog X.w) X.A (subscriptTail e (.Slice lo hi none p2) v (.ref s3.heap.objs.size)) (EP X pz σ Q) X.xe { s3 with heap:=s3.heap.push { cls:=.type "slice",data:=.fields #[vl,vu,.none] } }
 exact tail_any (ops:=[.ref s3.heap.objs.size,v]) ht hT hg (by with_unfolding_all rfl)
def p9 (xs:List V)(lo hi:Option Int):List V:=(xs.drop (HT.sIx xs.length 0 lo)).take (HT.sIx xs.length xs.length hi-HT.sIx xs.length 0 lo)
theorem kJ (xs:List V)(lo hi:Option Int):(p9 xs lo hi).length≤xs.length:=by
 unfold p9
 rw[ZO,List.length_drop]
 omega
def yi (K:Kq):R2:=fun x y H Q=>∃ a b xs ys,x=.ref a∧y=.ref b∧SqT K H a xs∧SqT K H b ys∧xs≠[]∧xs.length+ys.length≤sizeLine ∧
 (ys=[]→Q (.ref a) H)∧(ys≠[]→∀ p,H p=none→Q (.ref p) (upd H p (.tup (xs++ys))))
theorem Vals.nil_iff {xs:List V}{us:List Value}(r:Vals xs us):us=[]↔xs=[]:=by
 cases r with
 | nil=>simp
 | cons _ _=>simp
theorem vf:OpR X (binaryOp .Add) (yi X.K):=by
 intro pz s σ H x y v u Q I rx ry h
 obtain⟨a,b,xs,ys,rfl,rfl,ha,hb,hx,hz,q1,q2⟩:=h
 cases rx
 cases ry
 obtain⟨its,r1,p1,_⟩:=I.tuple ha
 obtain⟨its2,r2,p2,_⟩:=I.tuple hb
 refine HT.cat_tup p1 p2 (fun z=>hx (r1.nil_iff.mp z)) (fun z=>⟨.ref a,H,I,rfl,q1 (r2.nil_iff.mp z)⟩) (fun z=>?_) (by rw[← r1.length,← r2.length];exact hz)
 refine⟨.ref s.heap.objs.size,_,I.laid (t':=s.toks) (o:=.tup (xs++ys)) (fun b ob q=>Yd _ q) (Yi _) ?_,rfl,q2 (fun w=>z (r2.nil_iff.mpr w)) _ (I.hok.fresh (Yi _))⟩
 exact⟨by rw[Ym];exact hz,_,r1.append r2,IsTup.new _ _,NoD.new _ _⟩
end
def ixN (n:Nat)(i:Int):Option Nat:=if 0≤i then (if i<n then some i.toNat else none) else if -(n:Int)≤i then some (i+n).toNat else none
def atI {α:Type}(xs:List α)(i:Int):Option α:=(ixN xs.length i).bind fun j=>xs[j]?
theorem vw {n:Nat}{i:Int}{j:Nat}(h:ixN n i=some j):seqIndex? i n=some j∧j<n∧-(n:Int)≤i∧i<n:=by
 unfold ixN at h
 by_cases h0:0≤i
 ·rw[Yf h0] at h
  by_cases h1:i<n
  ·rw[Yf h1] at h
   have e:i.toNat=j:=Yt h
   exact⟨by rw[seqIndex_of h0 h1,e],by omega,by omega,h1⟩
  ·rw[Yh h1] at h;cases h
 ·rw[Yh h0] at h
  by_cases h1:-(n:Int)≤i
  ·rw[Yf h1] at h
   have e:(i+n).toNat=j:=Yt h
   exact⟨by rw[seqIndex_neg (by omega) h1,e],by omega,h1,by omega⟩
  ·rw[Yh h1] at h;cases h
theorem kB {α:Type}{xs:List α}{i:Int}{v:α}(h:atI xs i=some v):∃ j,seqIndex? i xs.length=some j∧xs[j]?=some v∧j<xs.length∧-(xs.length:Int)≤i∧i<xs.length:=by
 unfold atI at h
 cases e:ixN xs.length i with
 | none=>rw[e] at h;cases h
 | some j=>
  rw[e] at h
  obtain⟨h1,h2,h3,h4⟩:=vw e
  exact⟨j,h1,h,h2,h3,h4⟩
theorem gN {α:Type}{xs:List α}{j:Nat}{v:α}(h:xs[j]?=some v):atI xs (j:Int)=some v:=by
 have hj:j<xs.length:=(Yn.mp h).1
 have e:ixN xs.length (j:Int)=some j:=by
  unfold ixN
  rw[Yf (by omega),Yf (by omega)];simp
 unfold atI;rw[e];exact h
theorem lx {α:Type}(xs:List α)(v:α):atI (xs++[v]) (-1)=some v:=by
 have hl:(xs++[v]).length=xs.length+1:=by simp
 have e:ixN (xs++[v]).length (-1)=some xs.length:=by
  unfold ixN
  rw[hl,Yh (by decide),Yf (by omega)]
  congr 1
  omega
 unfold atI
 rw[e]
 show (xs++[v])[xs.length]?=some v
 simp
def jP (b:Expr):Prop:=∀ o i,subscripted b false o i=operate [o,i] (getItem o i)
def IxR (X:Cx)(r:R2):Prop:=
 ∀ (value slice:Expr) (pz:Kp) (s:Shared) (σ:St) (H:Hp) (x y:V) (v u:Value) (Q:VK),Inv X pz σ H s→RelV x v→RelV y u→r x y H Q→
  subscripted slice false v u=operate [v,u] (getItem v u)→wpAny (model X.prog X.w) X.A (subscriptTail value slice v u) (EP X pz σ Q) X.xe s
def MtR (X:Cx)(id:String)(r:V→List V→Hp→VK→Prop):Prop:=
 ∀ (pz:Kp) (s:Shared) (σ:St) (H:Hp) (x:V) (xs:List V) (v:Value) (us:List Value) (Q:VK),Inv X pz σ H s→RelV x v→Vals xs us→r x xs H Q→
  wpAny (model X.prog X.w) X.A (call (.builtin id) (v::us)) (EP X pz σ Q) X.xe s
section
variable {X:Cx} {a b:Expr} {ta tb:TE} {pos:Pos}
theorem IxR.or {r r':R2}(h:IxR X r)(h':IxR X r'):IxR X (fun x y H Q=>r x y H Q∨r' x y H Q):=by
 intro value slice pz s σ H x y v u Q I rx ry q hs
 rcases q with q | q
 ·exact h value slice pz s σ H x y v u Q I rx ry q hs
 ·exact h' value slice pz s σ H x y v u Q I rx ry q hs
theorem vN {r:R2}(hr:IxR X r)(ha:PE X a ta)(hb:PE X b tb)(hs:jP b):PE X (.Subscript a b pos) (tOp r ta tb):=by
 intro pz s σ H Q I h
 exact Subscript_ (xo ha hb I h fun v u s2 x y H2 I2 rx ry q=>hr a b pz s2 σ H2 x y v u Q I2 rx ry q (hs _ _))
def yc (K:Kq):R2:=fun x y H Q=>∃ p xs i v,x=.ref p∧y=.int i∧SqL K H p xs∧atI xs i=some v∧Q v H
def zH (K:Kq):R2:=fun x y H Q=>∃ p xs i v,x=.ref p∧y=.int i∧SqT K H p xs∧atI xs i=some v∧Q v H
def zu:R2:=fun x y H Q=>∃ z i c,x=.str z∧y=.int i∧z.length≤sizeLine∧atI z.cps.toList i=some c∧Q (.str ⟨#[c]⟩) H
theorem uf:IxR X (yc X.K):=by
 intro value slice pz s σ H x y v u Q I rx ry h hs
 obtain⟨p,xs,i,z,rfl,rfl,hq,he,q⟩:=h
 cases rx
 obtain⟨t,rfl⟩:=ry
 obtain⟨its,r,pl,hz⟩:=I.list hq
 obtain⟨j,h1,h2,h3,h4,h5⟩:=kB he
 obtain⟨w,ew,rw'⟩:=r.get h2
 have hl:=r.length
 have hn:=gY
 have fin:EP X pz σ Q w s:=⟨z,H,I,rw',q⟩
 by_cases h0:0≤i
 ·have hj:i.toNat=j:=by
   rw[seqIndex_of h0 h5] at h1
   exact Yt h1
  exact item_listR pl.isList h0 (by omega) (by rw[hj];simpa using ew) fin hs
 ·have hj:(i+(its.toArray.size:Int)).toNat=j:=by
   rw[seqIndex_neg (by omega) h4] at h1
   rw[Yl,← hl]
   exact Yt h1
  exact subscriptTail_builtinR (x:=w) pl.isList.typeIs slot_list_getitem.lookup
   (wpAny_getItem_list_neg (Q:=fun r s'=>r=w∧EP X pz σ Q r s') pl.isList (by omega) (by rw[Yl] <;> omega) (by omega) (by rw[hj];simpa using ew) ⟨rfl,fin⟩) hs
theorem w6:IxR X (zH X.K):=by
 intro value slice pz s σ H x y v u Q I rx ry h hs
 obtain⟨p,xs,i,z,rfl,rfl,hq,he,q⟩:=h
 cases rx
 obtain⟨t,rfl⟩:=ry
 obtain⟨its,r,pl,hz⟩:=I.tuple hq
 obtain⟨j,h1,h2,h3,h4,h5⟩:=kB he
 obtain⟨w,ew,rw'⟩:=r.get h2
 have hl:=r.length
 have hn:=gY
 have fin:EP X pz σ Q w s:=⟨z,H,I,rw',q⟩
 exact subscriptTail_builtinR (x:=w) pl.typeIs slot_tuple_getitem.lookup
  (getItem_tuple (j:=j) (Q:=fun r s'=>r=w∧EP X pz σ Q r s') pl (by omega) (by omega) (by rw[Yl,← hl];exact h1) (by simpa using ew) ⟨rfl,fin⟩) hs
theorem v8:IxR X zu:=by
 intro value slice pz s σ H x y v u Q I rx ry h hs
 obtain⟨z,i,c,rfl,rfl,hz,he,q⟩:=h
 obtain⟨t,rfl⟩:=rx
 obtain⟨t',rfl⟩:=ry
 obtain⟨j,h1,h2,h3,h4,h5⟩:=kB he
 have hl:z.cps.toList.length=z.length:=by simp[Str.length]
 rw[hl] at h1 h4 h5
 have hn:=gY
 exact tail_any (typeIs_str s z t) slot_str_getitem.lookup (getItem_str (c:=c) (by
  have e1:decide (i < -(2 ^ 63:Int))=false:=Yx (by omega)
  have e2:decide (i ≥ 2 ^ 63)=false:=Yx (by omega)
  rw[e1,e2,Bool.or_false]) (by rw[h1];simpa using h2) ⟨.str ⟨#[c]⟩,H,I.tok _,⟨_,rfl⟩,q⟩) hs
def rIx (K:Kq):R2:=fun x y H Q=>yc K x y H Q∨zH K x y H Q∨zu x y H Q
theorem qW:IxR X (rIx X.K):=uf.or (w6.or v8)
theorem jN (lo hi:Option Int)(n:Nat):(sliceBounds lo hi none n).1=((HT.sIx n 0 lo:Nat):Int)∧(sliceBounds lo hi none n).2.1=((HT.sIx n n hi:Nat):Int)∧(sliceBounds lo hi none n).2.2=1:=by
 refine⟨?_,?_,rfl⟩
 ·cases lo with
  | none=>simp[sliceBounds,HT.sIx]
  | some i=>
   simp only[sliceBounds,HT.sIx,Option.getD_none,show (1:Int) > 0 by decide,XN]
   by_cases h:i<0
   ·simp only[h,XN] <;> omega
   ·simp only[h,if_false] <;> omega
 ·cases hi with
  | none=>simp[sliceBounds,HT.sIx]
  | some i=>
   simp only[sliceBounds,HT.sIx,Option.getD_none,show (1:Int) > 0 by decide,XN]
   by_cases h:i<0
   ·simp only[h,XN] <;> omega
   ·simp only[h,if_false] <;> omega
theorem iV (its:List Value)(lo hi:Option Int):slicePick its.toArray lo hi none=((its.drop (HT.sIx its.length 0 lo)).take (HT.sIx its.length its.length hi-HT.sIx its.length 0 lo)).toArray:=by
 obtain⟨h1,h2,h3⟩:=jN lo hi its.toArray.size
 unfold slicePick
 rw[h1,h2,h3]
 simp only[sliceRange_one,pick_run,Yl] <;> rfl
def AU (K:Kq):V→Option Int→Option Int→Hp→VK→Prop:=fun x lo hi H Q=>∃ a xs,x=.ref a∧SqL K H a xs∧∀ p,H p=none→Q (.ref p) (upd H p (.lst (p9 xs lo hi)))
theorem tE:SlR X (AU X.K):=by
 intro pz s σ H x v vl vu lo hi sl Q I rx hs pl pu h
 obtain⟨a,xs,rfl,hx,q⟩:=h
 cases rx
 obtain⟨its,r,ht,hz⟩:=I.list hx
 have hlen:=r.length
 refine⟨"list",_,slot_list_getitem.lookup,ht.isList.typeIs,?_⟩
 refine wpAny_getItem_list_slice ht.isList hs pl pu .none (by simp) ?_ (by rw[Yl] <;> omega)
 rw[iV,← hlen]
 refine⟨.ref s.heap.objs.size,_,I.laid (t':=s.toks) (o:=.lst (p9 xs lo hi)) (fun b ob q=>Yd _ q) (Yi _) ?_,rfl,q _ (I.hok.fresh (Yi _))⟩
 exact⟨YA (kJ xs lo hi) hz,_,0,(r.drop (HT.sIx xs.length 0 lo)).take (HT.sIx xs.length xs.length hi-HT.sIx xs.length 0 lo),Yo _ rfl⟩
theorem kH:CallR X (.builtin "len") (fun xs H Q=>∃ p ys,xs=[.ref p]∧(SqL X.K H p ys∨SqT X.K H p ys)∧Q (.int ys.length) H):=by
 intro pz s σ H xs us Q I r h
 obtain⟨p,ys,rfl,hq,q⟩:=h
 obtain⟨u,rfl,rx⟩:=dC r
 cases rx
 have hn:=gY
 rcases hq with hq | hq
 ·obtain⟨its,r',pl,hz⟩:=I.list hq
  have hlen:=r'.length
  exact Calls.call_len_list pl.isList (by simp only[Yl] <;> omega) ⟨.int ys.length,H,I.tok _,⟨s.toks+1,by rw[Yl,hlen]⟩,q⟩
 ·obtain⟨its,r',pl,hz⟩:=I.tuple hq
  have hlen:=r'.length
  exact len_tuple pl (by simp only[Yl] <;> omega) ⟨.int ys.length,H,I.tok _,⟨s.toks+1,by rw[Yl,hlen]⟩,q⟩
theorem jO:CallR X (.builtin "len") (fun xs H Q=>∃ z,xs=[.str z]∧z.length≤sizeLine∧Q (.int z.length) H):=by
 intro pz s σ H xs us Q I r h
 obtain⟨z,rfl,hz,q⟩:=h
 obtain⟨u,rfl,t,rfl⟩:=dC r
 have hn:=gY
 exact len_str (by omega) ⟨.int z.length,H,I.tok _,⟨_,rfl⟩,q⟩
theorem CallR.or {f:Value}{r r':List V→Hp→VK→Prop}(h:CallR X f r)(h':CallR X f r'):CallR X f (fun xs H Q=>r xs H Q∨r' xs H Q):=by
 intro pz s σ H xs us Q I rs q
 rcases q with q | q
 ·exact h pz s σ H xs us Q I rs q
 ·exact h' pz s σ H xs us Q I rs q
theorem j9:CallR X (.type "list") (fun xs H Q=>∃ p ys,xs=[.ref p]∧(SqL X.K H p ys∨SqT X.K H p ys)∧∀ l,H l=none→Q (.ref l) (upd H l (.lst ys))):=by
 intro pz s σ H xs us Q I r h
 obtain⟨p,ys,rfl,hq,q⟩:=h
 obtain⟨u,rfl,rx⟩:=dC r
 cases rx
 have fin:∀ (its:List Value),Vals ys its→ys.length≤sizeLine→∀ (h':Heap) (c':Nat),(∀ b o',s.heap.get? b=some o'→h'.get? b=some o')→
   h'.get? s.heap.objs.size=some { cls:=.type "list",dict:=none,data:=.seq its.toArray c',slots:=#[] }→EP X pz σ Q (.ref s.heap.objs.size) { s with heap:=h' }:=fun its r' hz h' c' kp e=>
  ⟨.ref s.heap.objs.size,_,I.laid (t':=s.toks) kp (Yi _) (show ObjOk X.prog X.w _ h' _ (.lst ys) from ⟨hz,its,c',r',e⟩),rfl,q _ (I.hok.fresh (Yi _))⟩
 rcases hq with hq | hq
 ·obtain⟨its,r',pl,hz⟩:=I.list hq
  have hlen:=r'.length
  obtain⟨o,ho,hc,n,hd⟩:=pl.isList
  exact call_list_seq p (.inl rfl) ho hc hd (fun h' c' kp e=>fin its r' hz h' c' kp e) (by simp only[Yl] <;> omega)
 ·obtain⟨its,r',pl,hz⟩:=I.tuple hq
  have hlen:=r'.length
  obtain⟨o,ho,hc,n,hd⟩:=pl
  exact call_list_seq p (.inr rfl) ho hc hd (fun h' c' kp e=>fin its r' hz h' c' kp e) (by simp only[Yl] <;> omega)
theorem iX:CallR X (.type "tuple") (fun xs H Q=>∃ p ys,xs=[.ref p]∧((SqL X.K H p ys∧∀ l,H l=none→Q (.ref l) (upd H l (.tup ys)))∨(SqT X.K H p ys∧Q (.ref p) H))):=by
 intro pz s σ H xs us Q I r h
 obtain⟨p,ys,rfl,h⟩:=h
 obtain⟨u,rfl,rx⟩:=dC r
 cases rx
 rcases h with⟨hq,q⟩ | ⟨hq,q⟩
 ·obtain⟨its,r',pl,hz⟩:=I.list hq
  have hlen:=r'.length
  refine call_tuple_list pl.isList (fun h' kp=>?_) (by simp only[Yl] <;> omega)
  have I1:Inv X pz σ H { s with heap:=h' }:=I.kept (t':=s.toks) kp
  have I2:Inv X pz σ (upd H h'.objs.size (.tup ys)) { s with heap:=h'.push { cls:=.type "tuple",data:=.seq its.toArray } }:=
   I1.laid (t':=s.toks) (fun b o e=>Yd _ e) (Yi _) (show ObjOk X.prog X.w _ _ _ (.tup ys) from ⟨hz,its,r',IsTup.new _ _,NoD.new _ _⟩)
  exact⟨.ref h'.objs.size,_,I2,rfl,q _ (I1.hok.fresh (Yi _))⟩
 ·obtain⟨its,r',pl,hz⟩:=I.tuple hq
  exact call_tuple_same pl ⟨.ref p,H,I,rfl,q⟩
def tyV (K:Kq)(T:String)(x:V)(H:Hp):Prop:=match x with
 | .str _=>T = "str"
 | .int _=>T = "int"
 | .ref p=>(T = "list"∧∃ xs,SqL K H p xs)∨(T = "tuple"∧∃ o,K.lookup p=some o∧o.cls=.type "tuple"∧o.dict=none) ∨
   (T = "dict"∧((∃ kvs,H p=some (.dK kvs))∨∃ kvs,H p=some (.dT kvs)))∨(T = "set"∧∃ S n,H p=some (.set S n))
 | _=>False
theorem xf {pz:Kp}{σ:St}{H:Hp}{s:Shared}{T:String}{x:V}{v:Value}(I:Inv X pz σ H s)(r:RelV x v)(ty:tyV X.K T x H) :
  s.TypeIs v T∧∀ a,v=.ref a→∃ ob,s.heap.get? a=some ob∧ob.dict=none:=by
 cases x with
 | str z=>
  obtain⟨t,rfl⟩:=r
  cases (show T = "str" from ty)
  exact⟨typeIs_str s z t,fun _ e=>nomatch e⟩
 | int i=>
  obtain⟨t,rfl⟩:=r
  cases (show T = "int" from ty)
  exact⟨typeIs_int s i t,fun _ e=>nomatch e⟩
 | ref p=>
  cases r
  rcases ty with⟨rfl,xs,hq⟩ | ⟨rfl,o,hk,hc,hd⟩ | ⟨rfl,hk⟩ | ⟨rfl,S,n,hk⟩
  ·obtain⟨its,_,pl,_⟩:=I.list hq
   refine⟨pl.isList.typeIs,fun a e=>?_⟩
   cases e
   obtain⟨o,n,e,c,hd,_⟩:=pl
   exact⟨o,e,hd⟩
  ·refine⟨⟨o,I.kIn p o hk,hc⟩,fun a e=>?_⟩
   cases e
   exact⟨o,I.kIn _ o hk,hd⟩
  ·have z:∃ o,s.heap.get? p=some o∧o.ExactDict:=by
    rcases hk with⟨kvs,hk⟩ | ⟨kvs,hk⟩
    ·obtain⟨_,_,_,_,o,_,_,e,ex,_⟩:=I.hok p _ hk
     exact⟨o,e,ex⟩
    ·obtain⟨_,_,_,_,o,_,_,e,ex,_⟩:=I.hok p _ hk
     exact⟨o,e,ex⟩
   obtain⟨o,e,ex⟩:=z
   refine⟨⟨o,e,ex.1⟩,fun a e2=>?_⟩
   cases e2
   exact⟨o,e,ex.2.1⟩
  ·obtain⟨o,_,_,_,e,ex,_⟩:=I.hok p _ hk
   refine⟨⟨o,e,ex.1⟩,fun a e2=>?_⟩
   cases e2
   exact⟨o,e,ex.2.1⟩
 | _=>exact False.elim ty
def tBM (K:Kq)(T:String)(r:V→List V→Hp→VK→Prop)(to:TE)(t:TA):TE:=fun σ H Q=>to σ H fun x H1=>tyV K T x H1∧t σ H1 fun xs H2=>r x xs H2 Q
variable {o e:Expr} {es:List Expr} {to:TE} {t:TA} {name:Str} {apos cpos:Pos} {T id:String} {r:V→List V→Hp→VK→Prop}
theorem eO (pa:PlainAttrs T)(slot:Slot T name id)(hty:typeOf (.builtin id)=pure (.type "method_descriptor"))(hm:MtR X id r)(ho:PE X o to)(ha:PA X (e::es) t)
  (hbase:attributeBase o name X.env (eval o X.env)=eval o X.env:=by rfl)
  (hfew:((backTo cpos (starEach (e::es) X.env)).all (fun x=>!x.1)&&(backToKw cpos (keywordEach [] X.env)).all (fun x=>x.1.isSome)
   && decide ((e::es).length+([]:List Keyword).length+(if ([]:List Keyword).isEmpty then 0 else 1)<30))=true:=by rfl)
  (hline:(apos.endLine == cpos.line)=true:=by rfl) (hs:starEach (e::es) X.env=(false,eval e X.env)::starEach es X.env:=by rfl) (hplain:(backTo cpos (starEach es X.env)).any (·.1)=false:=by rfl) :
  PE X (.Call (.Attribute o name apos) (e::es) [] cpos) (tBM X.K T r to t):=by
 intro pz s σ H Q I h
 refine wpAny_Call_method_late hbase hfew hline rfl (aG (ho pz s σ H _ I h) fun v s1 x H1 I1 r1 hh_=>?_)
 obtain⟨ty,q1⟩:=hh_
 obtain⟨h1,h2⟩:=xf I1 r1 ty
 refine⟨T,id,pa,slot,hty,h1,h2,?_⟩
 have hA:=ha cpos pz s1 σ H1 _ I1 q1
 rw[hs] at hA ⊢
 refine Calls.callWith_builtin (by show (false||(backTo cpos (starEach es X.env)).any (·.1))=false;rw[hplain] <;> rfl) (Calls.evalArgs_plain ?_)
 exact aG hA fun us s2 vs H2 I2 r2 q2=>hm pz s2 σ H2 x vs v us Q I2 r1 r2 q2
end
def MtM (X:Cx)(id:String)(r:V→List V→Hp→VK→Prop):Prop:=
 ∀ (pz:Kp) (s:Shared) (σ:St) (H:Hp) (x:V) (xs:List V) (v:Value) (us:List Value) (Q:VK),Inv X pz σ H s→RelV x v→Vals xs us→r x xs H Q→
  wpAny (model X.prog X.w) X.A (call (.builtin id) (v::us)) (EP X pz σ Q) X.xe s
theorem Vals.one {x:V}{us:List Value}(h:Vals [x] us):∃ u,us=[u]∧RelV x u:=dC h
theorem Vals.two {x y:V}{us:List Value}(h:Vals [x,y] us):∃ u v,us=[u,v]∧RelV x u∧RelV y v:=rN h
theorem Vals.eraseIdx:∀ {xs:List V} {us:List Value} (i:Nat),Vals xs us→Vals (xs.eraseIdx i) (us.eraseIdx i)
 | _,_,_,.nil=>.nil
 | _,_,0,.cons _ t=>t
 | _,_,i+1,.cons r t=>.cons r (Vals.eraseIdx i t)
theorem ji {α:Type}:∀ (l:List α) (i:Nat),(l.eraseIdx i).length≤l.length
 | [],_=>Yi _
 | _::_,0=>Nat.le_succ _
 | _::r,i+1=>Nat.succ_le_succ (ji r i)
section
variable {X:Cx} {pz:Kp} {σ:St} {H:Hp} {s:Shared} {l b:Addr} {xs ys zs:List V}
theorem Inv.lset {its its':List Value}{n:Nat}{f:Array Value→Array Value}{t':Nat}(I:Inv X pz σ H s)(hH:H l=some (.lst xs))
  (e:s.heap.get? l=some { cls:=.type "list",data:=.seq its.toArray n }) (hf:f its.toArray=its'.toArray) (hv:Vals ys its') (hz:ys.length≤sizeLine) :
  Inv X pz σ (upd H l (.lst ys)) { s with heap:=s.heap.update l (Obj.mapSeq f),toks:=t' }:=by
 have q:=PySem.IsL.update e f
 rw[hf] at q
 refine I.write (x:=l) (e:=l) (by rw[hH];exact trivial) (.inl rfl) (fun b' u hb hu=>(Heap.get?_update_other s.heap (Obj.mapSeq f) (Xi hb)).trans hu) ⟨_,q⟩ ?_
 exact⟨hz,its',_,hv,q⟩
theorem Inv.lnew {its:List Value}{t':Nat}(I:Inv X pz σ H s)(hv:Vals ys its)(hz:ys.length≤sizeLine) :
  Inv X pz σ (upd H s.heap.objs.size (.lst ys)) { s with heap:=s.heap.push { cls:=.type "list",data:=.seq its.toArray },toks:=t' }:=
 I.laid (fun _ _ q=>Yd _ q) (Yi _) ⟨hz,its,0,hv,Yo _ rfl⟩
theorem Inv.fresh (I:Inv X pz σ H s):H s.heap.objs.size=none:=I.hok.fresh (Yi _)
theorem Inv.lstM (I:Inv X pz σ H s)(hH:H l=some (.lst xs)):xs.length≤sizeLine∧∃ (its:List Value) (n:Nat),Vals xs its∧xs.length=its.length∧s.heap.get? l=some { cls:=.type "list",data:=.seq its.toArray n }:=by
 obtain⟨z,its,n,r,e⟩:=I.hok l _ hH
 exact⟨z,its,n,r,r.length,e⟩
theorem ls {n:Nat}(h:n≤sizeLine):Builtin.List.listTooLong n=false:=by
 unfold Builtin.List.listTooLong
 exact Yx (by omega)
end
section
variable {X:Cx}
def u4:V→List V→Hp→VK→Prop:=fun x vs H Q=>∃ l xs y,x=.ref l∧vs=[y]∧H l=some (.lst xs)∧xs.length<sizeLine∧Q .non (upd H l (.lst (xs++[y])))
theorem cC:MtM X "list.append" u4:=by
 intro pz s σ H x vs v us Q I rx rv h
 obtain⟨l,xs,y,rfl,rfl,hH,hz,q⟩:=h
 cases rx
 obtain⟨u,rfl,ru⟩:=rv.one
 obtain⟨z,its,n,r,hl,e⟩:=I.lstM hH
 refine call_meets F.slot_list_append ⟨_,e,rfl⟩ F.entry_list_append (F.args_list_append_2 _ _) (PySem.list_append l its.toArray n u (by rw[Yl];omega)) ⟨e,?_⟩
 refine⟨.non,_,I.lset (its':=its++[u]) hH e (by simp) (r.append (.cons ru .nil)) ?_,rfl,q⟩
 rw[Ym,YX]
 omega
def tV:V→List V→Hp→VK→Prop:=fun x vs H Q=>∃ l b xs zs,x=.ref l∧vs=[.ref b]∧H l=some (.lst xs)∧H b=some (.lst zs)∧xs.length+zs.length≤sizeLine∧Q .non (upd H l (.lst (xs++zs)))
theorem pS:MtM X "list.extend" tV:=by
 intro pz s σ H x vs v us Q I rx rv h
 obtain⟨l,b,xs,zs,rfl,rfl,hH,hB,hz,q⟩:=h
 cases rx
 obtain⟨u,rfl,ru⟩:=rv.one
 cases ru
 obtain⟨z,its,n,r,hl,e⟩:=I.lstM hH
 obtain⟨z2,its2,n2,r2,hl2,e2⟩:=I.lstM hB
 have hsz:its.toArray.size+its2.toArray.size≤sizeLine:=by rw[Yl,Yl];omega
 have hlong:¬ (!its.toArray.isEmpty&&Builtin.List.listTooLong (its.toArray.size+its2.toArray.size))=true:=by
  rw[ls hsz,Bool.and_false]
  exact Yg
 refine call_meets F.slot_list_extend ⟨_,e,rfl⟩ F.entry_list_extend (F.args_list_extend_2 _ _)
  (AutoSeq1.list_extend_list_list_0 l its.toArray n b its2.toArray n2 hlong (by rw[Yl];omega) (by omega)) ⟨e,e2,?_⟩
 refine⟨.non,_,I.lset (its':=its++its2) hH e (by simp) (r.append r2) ?_,rfl,q⟩
 rw[Ym]
 omega
def rD:V→List V→Hp→VK→Prop:=fun x vs H Q=>∃ l xs i k y,x=.ref l∧vs=[.int i]∧H l=some (.lst xs)∧-(2 ^ 63)≤i∧i<2 ^ 63∧seqIndex? i xs.length=some k∧xs[k]?=some y∧Q y (upd H l (.lst (xs.eraseIdx k)))
theorem qw:MtM X "list.pop" rD:=by
 intro pz s σ H x vs v us Q I rx rv h
 obtain⟨l,xs,i,k,y,rfl,rfl,hH,h1,h2,hk,hy,q⟩:=h
 cases rx
 obtain⟨u,rfl,ru⟩:=rv.one
 obtain⟨t,rfl⟩:=ru
 obtain⟨z,its,n,r,hl,e⟩:=I.lstM hH
 obtain⟨w,hw,rw'⟩:=r.get hy
 refine call_meets F.slot_list_pop ⟨_,e,rfl⟩ F.entry_list_pop (F.args_list_pop_2 _ _)
  (MeetsSeq.list_pop_at l its.toArray n i t k w (fitsIndex_both h1 h2) (by rw[Yl,← hl];exact hk) (by rw[← Xm];exact hw) (by rw[Yl];omega)) ⟨e,?_⟩
 refine⟨y,_,I.lset (its':=its.eraseIdx k) hH e ?_ (r.eraseIdx k) ?_,rw',q⟩
 ·show its.toArray.eraseIdxIfInBounds k=(its.eraseIdx k).toArray
  rw[List.eraseIdxIfInBounds_toArray]
 ·have:=ji xs k
  omega
end
section
variable {prog:Program} {w:World} {A:Around} {E:Kv} {s:Shared}
set_option maxRecDepth 100000 in
end
section
variable {X:Cx}
end
end L2
namespace Att
open PySem PySem.W PySem.Calls PyProof.Rows
theorem gx {P:Params}{h:Heap}:∀ (ns:List Int) (vs:List Value),WellAll P h vs (ns.map WData.int)→IntsAre vs ns:=by
 intro ns
 induction ns with
 | nil=>
  intro vs w
  rw[List.map_nil] at w
  cases w
  exact .nil
 | cons n ns ih=>
  intro vs w
  rw[List.map_cons] at w
  cases w with
  | cons a b=>
   cases a
   exact .cons _ _ (ih _ b)
theorem pi {l:OpenLaw}{n:Nat}(hn:l.most=some n){P:Params}{h:Heap}{args:List WData}{vals:List Value}
  (hpre:l.row.toRowW.claim.pre args=true) (hwl:WellAll P h vals args) :
  ∃ a vs ns,vals=[Value.ref a]∧args=[WData.list (ns.map WData.int)]∧h.get? a=some { cls:=.type "list",data:=.seq vs.toArray }∧IntsAre vs ns∧ns.length≤n:=by
 have hsh:WShape.hasAll [] args [.list .int]=true:=(pre_splitW hpre).1
 have hc:l.pre.holds [] { args:=args }=true:=(pre_splitW hpre).2
 obtain⟨d,r,rfl,h1,h2⟩:=hasAllW_cons hsh
 obtain rfl:=hasAllW_nil h2
 obtain⟨xs,rfl,h3⟩:=hasW_list h1
 obtain⟨ns,rfl⟩:=items_int h3
 have hlen:ns.length≤n:=by
  unfold OpenLaw.pre at hc
  have h4:(WTm.not (.lt (.lit (.int (n:Int))) (.len (.arg 0)))).holds [] { args:=[.list (ns.map .int)] }=true:=by
   have h4:=(holds_andW hc).1
   rw[hn] at h4
   exact h4
  have h5:=condW_of h4 (w_not (w_lt w_lit (w_len_list (w_arg rfl))))
  rw[List.length_map] at h5
  refine Nat.le_of_not_lt fun q=>?_
  have q':(n:Int)<((ns.length:Nat):Int):=by omega
  first
   | (rw[decide_eq_true q'] at h5;exact absurd h5 (by decide))
   | (simp at h5;omega)
 cases hwl with
 | cons w1 w2=>
  cases w2
  cases w1 with
  | list ho hall=>exact⟨_,_,ns,rfl,rfl,ho,gx ns _ hall,hlen⟩
theorem pY (l:OpenLaw)(args:List WData):l.row.toRowW.claim.post args (.bool true) args=true:=
 postW_of (r:=l.row.toRowW) (X:=(true == true))
  (show WShape.has [] (.bool true) .bool=true by first | rfl | decide | simp[WShape.has,WShape.arms,WShape.armsAll])
  (show (WTm.eq .res (.lit (.bool true))).value [] { args:=args,res:=some (.bool true),after:=args }=some (.bool (true == true)) from w_eq_bool (w_res rfl) w_lit) rfl
theorem attach_call {l:OpenLaw}{n:Nat}{q:Program}{loose:List Str}{XP:(Str→Option Value)→Heap→Prop}{YP:World→Heap→Prop}{d:DefRec}
  (hn:l.most=some n) (hdf:d.params.defaults=[])
  (call:∀ (w:World) (s₀ s₁:Shared) (mg mb:Str→Option Value) (fa:Addr) (o:Obj) (pm cd doc:Value) (a:Addr) (vs:List Value) (ns:List Int),
   Ground q loose [] XP w s₀ mg mb s₁.heap→YP w s₁.heap→
   s₁.heap.get? fa=some o→o.data=.func (docDef d.name d.params d.body d.scope pm cd doc)→s₁.heap.CodeRec cd d.name→mg d.name=some (.ref fa)→
   s₁.heap.get? a=some { cls:=.type "list",data:=.seq vs.toArray }→IntsAre vs ns→ns.length≤n→s₁.gens=#[]→
   codeAny (model l.prog w) callerA (.call (.ref fa) ⟨[.ref a],[]⟩) (fun r s'=>r=.ok (.ret (.bool true))∧OldK s₁.heap s'.heap∧s'.os=s₁.os∧AllBare s'.gens) s₁) :
  WalkO q loose XP YP l.row.toRowW d [] (fun f vs=>PySem.call f vs):=by
 intro w s₀ s₁ mg mb G Y fa o pm cd doc dV kV ho hd hcd hD hmg hg args vals as hpre hlay hrd hwl hlo
 obtain rfl:dV=.none:=Dflts.none hD hdf
 obtain rfl:kV=.none:=Dflts.noKw hD
 obtain⟨a,vs,ns,rfl,rfl,hobj,hints,hlen⟩:=pi hn hpre hwl
 refine enter_call (codeAny_mono (call w s₀ s₁ mg mb fa o pm cd doc a vs ns G Y ho (fd_plain hd) hcd hmg hobj hints hlen hg) fun r s' hq=>?_)
 obtain⟨rfl,h2,h3,h4⟩:=hq
 exact⟨.inl ⟨.bool true,.bool true,[],rfl,fun _=>rfl,.bool true,pY l _,fun _=>⟨List.Pairwise.nil,fun _ hm=>(nomatch hm)⟩⟩,h2,h3,h4⟩
section
variable {prog:Program} {w:World} {A:Around} {E:Value→Shared→Prop} {s:Shared} {K:Frag}
end
end Att
namespace L2
open PySem PySem.Spec PyProof.Rows
theorem i8:∀ {vs:List Value} {ns:List Int},IntsAre vs ns→Vals (ns.map V.int) vs
 | _,_,.nil=>.nil
 | _,_,.cons n t h=>.cons ⟨t,rfl⟩ (i8 h)
def kD (s:Stmt)(j:Nat):Stmt:=match s with
 | .ClassDef _ _ _ body _ _ _ _ _ _ _=>body.getD j (.Pass ⟨0,0,0,0⟩)
 | _=>.Pass ⟨0,0,0,0⟩
def defArgs (s:Stmt):Arguments:=match s with
 | .FunctionDef _ a _ _ _ _ _ _ _ _=>a
 | _=>{ posonlyargs:=[],args:=[],vararg:=none,kwonlyargs:=[],kw_defaults:=[],kwarg:=none,defaults:=[] }
def defBody (s:Stmt):List Stmt:=match s with
 | .FunctionDef _ _ b _ _ _ _ _ _ _=>b
 | _=>[]
def defScope (s:Stmt):Scope:=match s with
 | .FunctionDef _ _ _ _ _ _ sc _ _ _=>sc
 | _=>{ kind:=.function,names:=[],isGenerator:=false,isCoroutine:=false }
abbrev CX0:CXT:=fun _ _ _ _ _ _=>False
abbrev E0:XK:=fun _ _ _=>False
theorem gq {X:Cx}:eF CX0 X E0:=fun _ _ _ _ _ _ _ h=>h.elim
structure Fun (K:PySem.W.Frag) (x qual:Str) (st:Stmt) (f:Addr) (fd:FuncData):Prop where
 ex:∃ (oc:Value) (od:Option Addr) (kV doc pm:Value) (an:Option Addr) (cdv ct:Value) (osl:Array (Option Value)),
  fd=PySem.W.fnOf x qual (defArgs st) (defBody st) (defScope st) .none kV doc pm an cdv ct∧K.lookup f=some ⟨oc,od,.func fd,osl⟩∧PySem.W.codeIn K cdv qual=true
 kp:PySem.W.keepIn K (.ref f)=true
section
variable {P:Program} {w:World} {K:Kq} {mg:Ks} {base:Heap}
theorem Fun.ok {x qual:Str}{st:Stmt}{f:Addr}{fd:FuncData}{N ps:List Str}{k:Nat}{sp:Sp}(F:Fun K x qual st f fd)(S:FnScope N ps (defScope st))(len:∀ vs H Q E,sp vs H Q E→vs.length=ps.length)
  (hbody:∀ (cdv:Value) (A:Around) (outer:List Env) (s:Shared) (H:Hp) (vs:List V) (Q:VK) (E:XK),Room k (A.deeper (envOfC qual (defScope st) s.heap.objs.size f cdv))→sp vs H Q E→
   ∃ t,PSs (eh CX0 P w K mg base N qual (defScope st) f cdv A outer s H E).nox (defBody st) t∧t { nx:=fun _ H'=>Q .non H',rt:=Q } (start N vs) H):FnOk P w K mg base CX0 (k+1) f fd ps sp:=by
 obtain⟨oc,od,kV,doc,pm,an,cdv,ct,osl,rfl,lk,hcd⟩:=F.ex
 refine vE lk hcd S len fun A outer s H vs Q E hr hsp=>?_
 obtain⟨t,h,q⟩:=hbody cdv A outer s H vs Q E hr hsp
 exact⟨t,h.nox,q⟩
theorem Fun.binds {x qual:Str}{st:Stmt}{f:Addr}{fd:FuncData}{ps:List Str}(F:Fun K x qual st f fd)
  (h:∀ (kV doc pm:Value) (an:Option Addr) (cdv ct:Value) (us:List Value),us.length=ps.length→bindArgs (PySem.W.fnOf x qual (defArgs st) (defBody st) (defScope st) .none kV doc pm an cdv ct) ⟨us,[]⟩=pure (ps.zip us)):Binds K fd ps []:=by
 obtain⟨oc,od,kV,doc,pm,an,cdv,ct,osl,rfl,lk,hcd⟩:=F.ex
 exact .all (h kV doc pm an cdv ct)
theorem ba {x qual:Str}{st:Stmt}{f:Addr}{oc:Value}{od an:Option Addr}{osl:Array (Option Value)}{kV doc pm cdv ct:Value}(l:K.lookup f=some ⟨oc,od,.func (PySem.W.fnOf x qual (defArgs st) (defBody st) (defScope st) .none kV doc pm an cdv ct),osl⟩)
  (c:PySem.W.codeIn K cdv qual=true) (k:PySem.W.keepIn K (.ref f)=true):Fun K x qual st f (PySem.W.fnOf x qual (defArgs st) (defBody st) (defScope st) .none kV doc pm an cdv ct):=⟨⟨oc,od,kV,doc,pm,an,cdv,ct,osl,rfl,l,c⟩,k⟩
end
section
variable {X:Cx}
theorem pv (i:Nat){x:Str}{pos:Pos}(hN:X.N[i]?=some x:=by rfl)(hv:Vis X.env.scope x:=by first | exact Or.inl rfl | exact Or.inr (Or.inl rfl) | exact Or.inr (Or.inr rfl))(hd:(x == ("__debug__":Str))=false:=by decide)
  (hcd:(x == ("__classdict__":Str))=false:=by decide):PE X (.Name x pos) (cA i):=rH hN hv hd hcd
end
def Same (H H':Hp):Prop:=∀ b o,H b=some o→H' b=some o
theorem Same.refl (H:Hp):Same H H:=fun _ _ h=>h
theorem Same.trans {H H1 H2:Hp}(a:Same H H1)(b:Same H1 H2):Same H H2:=fun c o h=>b c o (a c o h)
theorem Same.free {H H':Hp}(e:Same H H'){l:Addr}(h:H' l=Option.none):H l=Option.none:=by
 cases q:H l with
 | none=>rfl
 | some o=>
  rw[e l o q] at h
  cases h
theorem Same.seq {K:Kq}{H H':Hp}{a:Addr}{xs:List V}(e:Same H H')(h:SqL K H a xs):SqL K H' a xs:=by
 rcases h with (h | ⟨o,h⟩) | h
 ·exact .inl (.inl (e _ _ h))
 ·exact .inl (.inr ⟨o,e _ _ h⟩)
 ·exact .inr h
end L2
set_option maxHeartbeats 4000000
namespace L2
open PySem PySem.Spec PyProof.Rows
def bE (cs:List (Str×Addr)):List (Str×NameKind)→List (Str×Addr)→List (Str×Addr)
 | [],acc=>acc
 | (n,k)::r,acc=>if k == .free then bE cs r ((n,(cs.lookup n).getD 0)::acc) else bE cs r acc
theorem ic {scope:Scope}{env:Env}(h:∀ x∈scope.names,x.2=.free→∃ c,env.cells.lookup x.1=some c):closureFor scope env=pure (bE env.cells scope.names []):=by
 have key:∀ (names:List (Str×NameKind)) (acc:List (Str×Addr)) (f:Str×NameKind→List (Str×Addr)→Sem (ForInStep (List (Str×Addr)))),
   (∀ n k r,f (n,k) r=if k == .free then (cellOf env n>>=fun c=>pure (.yield ((n,c)::r))) else pure (.yield r))→
   (∀ x∈names,x.2=.free→∃ c,env.cells.lookup x.1=some c)→forIn names acc f=pure (bE env.cells names acc):=by
  intro names
  induction names with
  | nil=>intro acc f _ _;rfl
  | cons x r ih=>
   intro acc f hf hx
   obtain⟨n,k⟩:=x
   rw[List.forIn_cons,hf]
   unfold bE
   by_cases hk:(k == NameKind.free)=true
   ·rw[Yf hk,Yf hk]
    obtain⟨c,hc⟩:=hx (n,k) Yc (by simpa using hk)
    have e:cellOf env n=pure c:=by unfold cellOf;rw[hc]
    rw[e,pure_bind,pure_bind,hc]
    exact ih _ f hf fun y hy=>hx y (Yb _ hy)
   ·rw[Yh hk,Yh hk,pure_bind]
    exact ih _ f hf fun y hy=>hx y (Yb _ hy)
 unfold closureFor
 show (forIn scope.names ([]:List (Str×Addr)) _>>=fun cs=>pure cs)=_
 rw[key scope.names [] _ (fun n k r=>by
  by_cases hk:(k == NameKind.free)=true
  ·simp only[hk,XN]
  ·simp only[hk]) h]
 rfl
theorem aX {α:Type}(y n:Str)(c:α)(l:List (Str×α)):((n,c)::l).lookup y=if y=n then some c else l.lookup y:=by
 rw[ZX]
 by_cases h:y=n
 ·subst h;simp
 ·have:(y == n)=false:=by simpa using h
  rw[this,Yh h]
theorem bP {cs:List (Str×Addr)}:∀ (names:List (Str×NameKind)) (acc:List (Str×Addr)) (y:Str) (c:Addr),
  (∀ x∈names,x.2=.free→∃ c,cs.lookup x.1=some c)→(∀ y c,acc.lookup y=some c→cs.lookup y=some c)→(bE cs names acc).lookup y=some c→cs.lookup y=some c
 | [],acc,y,c,_,h,e=>h y c e
 | (n,k)::r,acc,y,c,hx,h,e=>by
  unfold bE at e
  have hr:∀ x∈r,x.2=.free→∃ c,cs.lookup x.1=some c:=fun x hm=>hx x (Yb _ hm)
  by_cases hk:(k == NameKind.free)=true
  ·rw[Yf hk] at e
   refine bP r _ y c hr (fun z d ez=>?_) e
   obtain⟨c',hc'⟩:=hx (n,k) Yc (by simpa using hk)
   rw[aX] at ez
   split at ez
   ·rename_i q
    subst q
    cases ez
    rw[hc']
    rfl
   ·exact h z d ez
  ·rw[Yh hk] at e
   exact bP r acc y c hr h e
theorem db {cs:List (Str×Addr)}:∀ (names:List (Str×NameKind)) (acc:List (Str×Addr)) (y:Str) (c:Addr),
  (bE cs names acc).lookup y=some c→(y,NameKind.free)∈names∨acc.lookup y=some c
 | [],acc,y,c,e=>.inr e
 | (n,k)::r,acc,y,c,e=>by
  unfold bE at e
  by_cases hk:(k == NameKind.free)=true
  ·rw[Yf hk] at e
   have hk':k=.free:=by simpa using hk
   rcases db r _ y c e with q | q
   ·exact .inl (Yb _ q)
   ·rw[aX] at q
    split at q
    ·rename_i z
     subst z
     subst hk'
     exact .inl Yc
    ·exact .inr q
  ·rw[Yh hk] at e
   rcases db r acc y c e with q | q
   ·exact .inl (Yb _ q)
   ·exact .inr q
theorem dm {cs:List (Str×Addr)}:∀ (names:List (Str×NameKind)) (acc:List (Str×Addr)) (y:Str),
  ((y,NameKind.free)∈names∨∃ c,acc.lookup y=some c)→∃ c,(bE cs names acc).lookup y=some c
 | [],acc,y,h=>h.elim (fun z=>by cases z) id
 | (n,k)::r,acc,y,h=>by
  unfold bE
  by_cases hk:(k == NameKind.free)=true
  ·rw[Yf hk]
   refine dm r _ y ?_
   rcases h with h | ⟨c,h⟩
   ·rcases Yy.mp h with q | q
    ·cases q
     exact .inr ⟨_,by rw[aX,Yf rfl]⟩
    ·exact .inl q
   ·refine .inr ?_
    by_cases q:y=n
    ·exact⟨_,by rw[aX,Yf q]⟩
    ·exact⟨c,by rw[aX,Yh q];exact h⟩
  ·rw[Yh hk]
   refine dm r acc y ?_
   rcases h with h | h
   ·rcases Yy.mp h with q | q
    ·cases q
     exact absurd rfl hk
    ·exact .inl q
   ·exact .inr h
theorem jY:∀ (names:List (Str×NameKind)) (h:Heap) (acc:List (Str×Addr)) (y:Str) (c:Addr),(cellsFrom h.objs.size names acc).lookup y=some c→
  (h.objs.size≤c∧(pushCells h names).IsCell c none∧(y,NameKind.cell)∈names)∨acc.lookup y=some c
 | [],_,_,_,_,e=>.inr e
 | (n,k)::r,h,acc,y,c,e=>by
  unfold cellsFrom at e
  unfold pushCells
  by_cases hk:(k == NameKind.cell)=true
  ·rw[Yf hk] at e ⊢
   have hk':k=.cell:=by simpa using hk
   have hz:(h.push { cls:=.type "cell",data:=.cell none }).objs.size=h.objs.size+1:=Xl ..
   rw[← hz] at e
   rcases jY r _ _ y c e with⟨q1,q2,q3⟩ | q
   ·exact .inl ⟨by rw[hz] at q1;omega,q2,Yb _ q3⟩
   ·rw[aX] at q
    split at q
    ·rename_i z
     subst z
     cases q
     subst hk'
     exact .inl ⟨Yi _,⟨_,Xz r _ _ _ (Yo _ rfl),rfl⟩,Yc⟩
    ·exact .inr q
  ·rw[Yh hk] at e ⊢
   rcases jY r h acc y c e with⟨q1,q2,q3⟩ | q
   ·exact .inl ⟨q1,q2,Yb _ q3⟩
   ·exact .inr q
theorem l8 {y:Str}:∀ (names:List (Str×NameKind)) (n:Nat) (acc:List (Str×Addr)),(∀ k,(y,k)∈names→k≠.cell)→(cellsFrom n names acc).lookup y=acc.lookup y
 | [],_,_,_=>rfl
 | (m,k)::r,n,acc,h=>by
  unfold cellsFrom
  have hr:∀ k,(y,k)∈r→k≠.cell:=fun k hk=>h k (Yb _ hk)
  by_cases hk:(k == NameKind.cell)=true
  ·rw[Yf hk,l8 r _ _ hr,aX,Yh]
   rintro rfl
   exact h k Yc (by simpa using hk)
  ·rw[Yh hk]
   exact l8 r n acc hr
theorem np:∀ (names:List (Str×NameKind)) (n:Nat) (acc:List (Str×Addr)),(∀ y c,acc.lookup y=some c→c<n)→(∀ y z c,acc.lookup y=some c→acc.lookup z=some c→y=z)→
  ∀ y z c,(cellsFrom n names acc).lookup y=some c→(cellsFrom n names acc).lookup z=some c→y=z
 | [],_,_,_,h=>h
 | (m,k)::r,n,acc,hlt,h=>by
  unfold cellsFrom
  by_cases hk:(k == NameKind.cell)=true
  ·rw[Yf hk]
   refine np r (n+1) _ (fun y c e=>?_) fun y z c e e'=>?_
   ·rw[aX] at e
    split at e
    ·cases e;exact Xq _
    ·exact ZU (hlt y c e)
   ·rw[aX] at e e'
    split at e <;> split at e'
    ·rename_i a b;rw[a,b]
    ·cases e;exact absurd (hlt z _ e') (YQ _)
    ·cases e';exact absurd (hlt y _ e) (YQ _)
    ·exact h y z c e e'
  ·rw[Yh hk]
   exact np r n acc hlt h
def dU (env:Env)(scope:Scope)(C:Addr):Env:=
 { scope:=relabel scope env,locals:=C,globals:=env.globals,cells:=cellsFrom (C+1) scope.names (bE env.cells scope.names []),qual:=env.qual,func:=none,code:=env.code,frame:=env.frame,builtins:=env.builtins }
def blk (X:Cx)(scope:Scope)(N:List Str)(s:Shared)(H:Hp)(fp:List Addr)(pz:Kp):Cx where
 prog:=X.prog
 w:=X.w
 K:=X.K
 mg:=X.mg
 base:=X.base
 A:=X.A
 N:=N
 s₀:=s
 H₀:=H
 env:=dU X.env scope s.heap.objs.size
 outer:=X.stack
 stack:=X.stack
 ex:=fp
 fn:=fun x=>scope.names.lookup x == some .local||scope.names.lookup x == some .cell
 calm:=X.calm
 pn:=X.pn++pz
 xe:=fun _ _=>False
structure BlkScope (X:Cx) (scope:Scope):Prop where
 kind:scope.kind=.function
 nd:(scope.names.map (·.1)).Nodup
 free:∀ x∈scope.names,x.2=.free→X.env.kindOf x.1=some .cell∨X.env.kindOf x.1=some .free
theorem cR {α:Type}:∀ {l:List (Str×α)} {n:Str} {c:α},(l.map (·.1)).Nodup→(n,c)∈l→l.lookup n=some c
 | [],_,_,_,h=>by cases h
 | (k,v)::r,n,c,nd,h=>by
  rw[aX]
  rcases Yy.mp h with q | q
  ·cases q;rw[Yf rfl]
  ·have nd':=Zo.mp nd
   rw[Yh]
   ·exact cR nd'.2 q
   ·rintro rfl
    exact nd'.1 (Ys.mpr ⟨_,q,rfl⟩)
theorem eV {env:Env}{x:Str}:∀ (names:List (Str×NameKind)),
  (names.map fun (n,k)=>if (k == NameKind.free&&env.scope.kind == .function&&env.kindOf n == some .cell) then (n,NameKind.cell) else (n,k)).lookup x =
   (names.lookup x).map fun k=>if (k == NameKind.free&&env.scope.kind == .function&&env.kindOf x == some .cell) then NameKind.cell else k
 | []=>rfl
 | (n,k)::r=>by
  show List.lookup x ((if (k == NameKind.free&&env.scope.kind == .function&&env.kindOf n == some .cell)=true then (n,NameKind.cell) else (n,k))::_)=_
  have e:(if (k == NameKind.free&&env.scope.kind == .function&&env.kindOf n == some .cell)=true then (n,NameKind.cell) else (n,k)) =
    (n,if (k == NameKind.free&&env.scope.kind == .function&&env.kindOf n == some .cell)=true then NameKind.cell else k):=by split <;> rfl
  rw[e,aX,aX]
  split
  ·rename_i q
   subst q
   rfl
  ·exact eV r
theorem ik {env:Env}{scope:Scope}{C:Addr}(x:Str):(dU env scope C).kindOf x =
  (scope.names.lookup x).map fun k=>if (k == NameKind.free&&env.scope.kind == .function&&env.kindOf x == some .cell) then NameKind.cell else k:=eV scope.names
section
variable {X:Cx} {pz:Kp} {σ:St} {H:Hp} {s:Shared} {scope:Scope} {N:List Str} {fp:List Addr}
theorem BlkScope.cl (b:BlkScope X scope)(ok:X.Ok):∀ x∈scope.names,x.2=.free→∃ c,X.env.cells.lookup x.1=some c:=fun x hx e=>ok.has x.1 (b.free x hx e)
theorem cX (b:BlkScope X scope)(I:Inv X pz σ H s){y:Str}{c:Addr}(e:(dU X.env scope s.heap.objs.size).cells.lookup y=some c) :
  (s.heap.objs.size<c∧(pushCells (s.heap.push { cls:=.type "dict",data:=.dict #[] }) scope.names).IsCell c none∧(y,NameKind.cell)∈scope.names)∨(X.env.cells.lookup y=some c∧(y,NameKind.free)∈scope.names):=by
 have hz:(s.heap.push { cls:=.type "dict",data:=.dict #[] }).objs.size=s.heap.objs.size+1:=Xl ..
 have e':(cellsFrom (s.heap.push { cls:=.type "dict",data:=.dict #[] }).objs.size scope.names (bE X.env.cells scope.names [])).lookup y=some c:=by rw[hz];exact e
 rcases jY _ _ _ _ _ e' with⟨h1,h2,h3⟩ | h
 ·exact .inl ⟨by rw[hz] at h1;omega,h2,h3⟩
 ·refine .inr ⟨bP _ _ y c (b.cl I.ok) (fun _ _ z=>by cases z) h,?_⟩
  rcases db _ _ _ _ h with q | q
  ·exact q
  ·cases q
theorem xq (b:BlkScope X scope)(I:Inv X pz σ H s)(hf:∀ a∈fp,fS X pz H a)(hlt:∀ a∈fp,a<s.heap.objs.size):(blk X scope N s H fp pz).Ok:=by
 have clt:∀ y c,X.env.cells.lookup y=some c→c<s.heap.objs.size:=fun y c e=>by obtain⟨v,q⟩:=I.cell y c e;exact q.lt
 refine⟨I.ok.mod,b.kind,I.ok.glob,I.ok.blt,Yi _,fun x y c e e'=>?_,fun x hx=>?_,fun x c hx e=>?_,I.ok.hd,I.ok.frames,.inl rfl,fun a ha=>⟨Yw (hlt a ha),fun x c e=>?_⟩,I.bs,YA I.ok.bsz I.sz,fun a o e ha=>?_,fun a ha=>?_,I.stack,I.stkFree⟩
 ·refine np scope.names (s.heap.objs.size+1) _ (fun y c q=>?_) (fun y z c q q'=>?_) x y c e e'
  ·exact ZU (clt y c (bP _ _ y c (b.cl I.ok) (fun _ _ z=>by cases z) q))
  ·exact I.ok.inj y z c (bP _ _ y c (b.cl I.ok) (fun _ _ z=>by cases z) q) (bP _ _ z c (b.cl I.ok) (fun _ _ z=>by cases z) q')
 ·have hx':(dU X.env scope s.heap.objs.size).kindOf x=some .cell∨(dU X.env scope s.heap.objs.size).kindOf x=some .free:=hx
  rw[ik] at hx'
  show ∃ c,(cellsFrom (s.heap.objs.size+1) scope.names (bE X.env.cells scope.names [])).lookup x=some c
  cases q:scope.names.lookup x with
  | none=>rw[q] at hx';rcases hx' with z | z <;> cases z
  | some k=>
   have hm:(x,k)∈scope.names:=YY q
   cases k with
   | cell=>exact ZH.mp (ZP scope.names _ _ (.inl q))
   | free=>
    obtain⟨c,hc⟩:=dm (cs:=X.env.cells) scope.names [] x (.inl hm)
    exact ZH.mp (ZP scope.names _ _ (.inr (by rw[hc];rfl)))
   | _=>rw[q] at hx';exfalso;revert hx';simp
 ·rcases cX b I e with⟨h1,_,_⟩ | ⟨_,h2⟩
  ·exact Zl h1
  ·exfalso
   have q:=cR b.nd h2
   have hx':(scope.names.lookup x == some .local||scope.names.lookup x == some .cell)=true:=hx
   rw[q] at hx'
   revert hx'
   decide
 ·rcases cX b I e with⟨h1,_,_⟩ | ⟨h1,_⟩
  ·intro z
   subst z
   exact absurd (ZC (hlt _ ha) h1) (YQ _)
  ·exact (hf a ha).2.2.2.2.1 x c h1
 ·have h4:=(hf a ha).2.2.2.1
  rcases h4 with z | z
  ·exact I.ok.noex a o e z
  ·exact absurd (Yk (Yp e) (YA I.ok.bsz z)) (YQ _)
 ·intro z
  rcases Yy.mp (I.stkSub a z) with q | q
  ·exact (hf a ha).2.1 q
  ·exact (hf a ha).2.2.1 q
def cn (own:Nat)(ix:List Nat)(σ:St):St:=List.replicate own none++ix.map fun j=>(σ[j]?).join
theorem d3 (own:Nat)(ix:List Nat)(σ:St):(cn own ix σ).length=own+ix.length:=by
 unfold cn;rw[Ym,YB,Ye]
theorem jq {own:Nat}{ix:List Nat}{σ:St}{i:Nat}{v:V}(h:(cn own ix σ)[i]?=some (some v)):own≤i∧∃ j,ix[i-own]?=some j∧σ[j]?=some (some v):=by
 unfold cn at h
 by_cases hi:i<own
 ·rw[Zd (by rw[YB];exact hi),ZL,Yf hi] at h
  cases h
 ·rw[Zb (by rw[YB];omega),YB,YF] at h
  refine⟨by omega,?_⟩
  cases q:ix[i-own]? with
  | none=>rw[q] at h;cases h
  | some j=>
   rw[q] at h
   refine⟨j,rfl,?_⟩
   cases q2:σ[j]? with
   | none=>rw[Ze,q2] at h;cases h
   | some o=>
    rw[Ze,q2] at h
    cases o with
    | none=>cases h
    | some v'=>rw[Option.join_some] at h;cases h;rfl
structure Caps (X:Cx) (scope:Scope) (N:List Str) (own:Nat) (ix:List Nat):Prop where
 len:N.length=own+ix.length
 cap:∀ (i:Nat) (j:Nat) (x:Str),N[own+i]?=some x→ix[i]?=some j→X.N[j]?=some x∧scope.names.lookup x=some .free
theorem oS {own:Nat}{ix:List Nat}(b:BlkScope X scope)(cp:Caps X scope N own ix)(I:Inv X pz σ H s)(hf:∀ a∈fp,fS X pz H a)(hlt:∀ a∈fp,a<s.heap.objs.size) :
  Inv (blk X scope N s H fp pz) [] (cn own ix σ) H { s with heap:=pushCells (s.heap.push { cls:=.type "dict",data:=.dict #[] }) scope.names }:=by
 have kp:∀ a o,s.heap.get? a=some o→(pushCells (s.heap.push { cls:=.type "dict",data:=.dict #[] }) scope.names).get? a=some o:=fun a o e=>Xz _ _ a o (Yd _ e)
 refine⟨xq b I hf hlt,rfl,I.bare,Un.kept kp,⟨_,(Heap.Ns.new s.heap (.type "dict")).keeps (Xz _ _),fun i x v e1 e2 e3=>?_⟩,fun y c e=>?_,I.fresh,fun y c e=>?_,fun p hp=>?_,I.hok.kept kp,?_⟩
 ·obtain⟨ho,j,ej,ev⟩:=jq e2
  have e1':N[own+(i-own)]?=some x:=by rw[show own+(i-own)=i by omega];exact e1
  obtain⟨hN,hfree⟩:=cp.cap (i-own) j x e1' ej
  obtain⟨m,hn,hl⟩:=I.loc
  have hk:X.env.kindOf x=some .cell∨X.env.kindOf x=some .free:=b.free (x,.free) (YY hfree) rfl
  have hv:Vis X.env.scope x:=hk.elim (fun z=>.inr (.inl z)) fun z=>.inr (.inr z)
  obtain⟨u,r,lk⟩:=hl j x v hN ev hv
  refine⟨u,r,.inr ⟨?_,?_⟩⟩
  ·show (dU X.env scope s.heap.objs.size).kindOf x=some .cell∨(dU X.env scope s.heap.objs.size).kindOf x=some .free
   rw[ik,hfree]
   show some (if _ then NameKind.cell else NameKind.free)=some .cell∨some (if _ then NameKind.cell else NameKind.free)=some .free
   split
   ·exact .inl rfl
   ·exact .inr rfl
  ·rcases lk with⟨k,_⟩ | ⟨_,c,ec,z⟩
   ·rw[k] at hk
    rcases hk with z | z <;> cases z
   ·refine⟨c,?_,z.keeps kp⟩
    show (cellsFrom (s.heap.objs.size+1) scope.names (bE X.env.cells scope.names [])).lookup x=some c
    rw[l8]
    ·obtain⟨c',hc'⟩:=dm (cs:=X.env.cells) scope.names [] x (.inl (YY hfree))
     have:=bP _ _ x c' (b.cl I.ok) (fun _ _ z=>by cases z) hc'
     rw[ec] at this
     cases this
     exact hc'
    ·intro k hk' z
     rw[cR b.nd hk'] at hfree
     cases hfree
     cases z
 ·rcases cX b I e with⟨_,h2,_⟩ | ⟨h1,_⟩
  ·exact⟨_,h2⟩
  ·obtain⟨v,z⟩:=I.cell y c h1
   exact⟨v,z.keeps kp⟩
 ·rcases cX b I e with⟨h1,_,_⟩ | ⟨h1,_⟩
  ·exact I.hok.fresh (Zl h1)
  ·exact I.freeC y c h1
 ·have hp':p∈X.pn++pz:=by
   have:p∈(X.pn++pz)++[]:=hp
   rwa [YT] at this
  obtain⟨e,n,ne,nf,d⟩:=I.pin p hp'
  refine⟨kp _ _ e,n,Yw (Yp e),fun z=>?_,d⟩
  rcases Yy.mp (I.stkSub p.1 z) with q | q
  ·exact ne q
  ·exact nf q
 ·rw[d3]
  exact cp.len.symm
theorem kQ {σ':St}{H':Hp}{s':Shared}{h':Heap}{pl:Kp}(I:Inv X pz σ H s)(hf:∀ a∈fp,fS X pz H a)(J:Inv (blk X scope N s H fp pz) pl σ' H' s')(hs:Heap.SameBut s.heap.objs.size s'.heap h') :
  Inv X pz σ H' { s' with heap:=h' }:=by
 have hC:H' s.heap.objs.size=none:=J.free
 have ne:∀ a o,s.heap.get? a=some o→a≠s.heap.objs.size:=fun a o e=>Yw (Yp e)
 have u:Un (frs X.stack) fp H H' s.heap s'.heap:=J.base
 refine I.call' (ch:=fp) (s':={ s' with heap:=h' }) J.os ⟨fun a o e n h1 h2=>(hs.2 a (ne a o e)).trans (u.keep a o e n h1 h2),fun a o e n h1 h2=>?_,fun a o e n h2=>u.free a o e n h2,fun a o e h2=>?_,u.tups,u.frzs,u.tbls⟩ (fun a o e=>?_) J.bare fun a ha=>?_
 ·obtain⟨sl,q⟩:=u.slot a o e n h1 h2
  exact⟨sl,(hs.2 a (ne a o e)).trans q⟩
 ·obtain⟨o',q⟩:=u.there a o e h2
  exact⟨o',(hs.2 a (ne a o e)).trans q⟩
 ·refine (J.hok a o e).stay (fun c v hc q=>(hs.2 c ?_).trans q) (fun _ q=>q) fun _ _ q=>q
  rintro rfl
  rcases hc with rfl | hc
  ·rw[hC] at e;cases e
  ·rw[hC] at hc;cases hc
 ·obtain⟨_,h2,_,h4,h5,h6⟩:=hf a ha
  exact⟨h4,h2,h5,h6⟩
theorem rT {pl:Kp}{H':Hp}(b:BlkScope X scope)(I:Inv X pz σ H s)(hf:∀ a∈fp,fS X pz H a)(hlt:∀ a∈fp,a<s.heap.objs.size)(hn:∀ a∈fp,H' a=none) :
  ∀ a∈fp,fS (blk X scope N s H fp pz) [] H' a:=fun a ha=>by
 obtain⟨_,h2,h3,h4,h5,h6⟩:=hf a ha
 refine⟨hn a ha,Yw (hlt a ha),fun z=>?_,.inl ha,fun x c e=>?_,fun p hp=>?_⟩
 ·rcases Yy.mp (I.stkSub a z) with q | q
  ·exact h2 q
  ·exact h3 q
 ·rcases cX b I e with⟨q,_,_⟩ | ⟨q,_⟩
  ·intro z
   subst z
   exact absurd (ZC (hlt _ ha) q) (YQ _)
  ·exact h5 x c q
 ·have hp':p∈X.pn++pz:=by
   have:p∈(X.pn++pz)++[]:=hp
   rwa [YT] at this
  exact h6 p hp'
end
theorem mV {M:Model}{A:Around}{E:Kv}{s:Shared}{scope:Scope}{env:Env}{Q:Env→Shared→Prop}(cl:List (Str×Addr))
  (h:∀ cenv:Env,cenv={ scope:=scope,locals:=s.heap.objs.size,globals:=env.globals,cells:=cellsFrom (s.heap.objs.size+1) scope.names cl,qual:=env.qual,func:=none,code:=env.code,frame:=env.frame,builtins:=env.builtins }→
   Q cenv { s with heap:=pushCells (s.heap.push { cls:=.type "dict",data:=.dict #[] }) scope.names }) :
  wpAny M A (newFunctionEnv scope env.globals cl [] env.qual none .none (some env)) Q E s:=by
 simp only[newFunctionEnv,Option.isSome_some,XN]
 refine Yr (wpAny_alloc ?_)
 refine Yr (wpAny_layCells _ (fun name kind cells=>by cases hkc:kind == NameKind.cell <;> simp[hkc]) _ _ _ _ ?_)
 rw[show ({ s with heap:=s.heap.push { cls:=.type "dict",data:=.dict #[] } }:Shared).heap.objs.size=s.heap.objs.size+1 from Xl ..]
 refine Yr ?_
 rw[List.forIn_nil]
 exact YD (YD (h _ rfl))
theorem pM {prog:Program}{w:World}{A:Around}{R:Kr}{s:Shared}{elt target iter:Expr}{ifs:List Expr}{scope:Scope}{pos:Pos}{it acc:Value}{env:Env}(I:Nat→Shared→Prop)
  (turn:∀ n s,I n s→wpAny (model prog w) A (pyNext it) (fun r s₁=>match r with
   | none=>R (.ok .next) s₁
   | some v=>wpAny (model prog w) A (letOwnedTupleGo target it v) (fun _ s₁=>wpAny (model prog w) A (assign target env v) (fun _ s₂=>
     wpAny (model prog w) A (forIn ifs true fun c r=>if r=true then do let ok ← isTrue c env (eval c env);pure (ForInStep.yield ok) else pure (ForInStep.yield r)) (fun ok s₃=>
      if ok=true then wpAny (model prog w) A (eval elt env) (fun x s₄=>
       wpAny (model prog w) A (call (.builtin "list.append") [acc,x]) (fun _ s₅=>∃ m,m<n∧I m s₅) (fun _ _=>False) s₄) (fun _ _=>False) s₃
      else ∃ m,m<n∧I m s₃) (fun _ _=>False) s₂) (fun _ _=>False) s₁) (fun _ _=>False) s₁) (fun _ _=>False) s)
  (n:Nat) (h:I n s) :
  codeAny (model prog w) A (.compLoop (.ListComp elt [⟨target,iter,ifs,0⟩] scope pos) 0 it acc env) R s:=by
 refine codeAny_loop rfl I (fun n s hI=>?_) n h
 show wpAny _ A ((compTurn (.ListComp elt [⟨target,iter,ifs,0⟩] scope pos) 0 it acc env).onRaise (fun x=>do noteFrame x env;theTreesLotGoes x)) _ _ s
 refine wpAny_noted ?_
 rw[compTurn_list]
 refine Yr (wpAny_standAt (Yr (Zv (turn n s hI) (fun r s₁ h₁=>?_) fun _ _ h'=>h'.elim)))
 cases r with
 | none=>exact YD h₁
 | some v=>
  refine Yr (Zv h₁ (fun _ s₁' h₁'=>?_) fun _ _ h'=>h'.elim)
  refine Yr (Zv h₁' (fun _ s₂ h₂=>Yr (Zv h₂ (fun ok s₃ h₃=>?_) fun _ _ h'=>h'.elim)) fun _ _ h'=>h'.elim)
  cases ok with
  | true=>
   rw[Yf rfl] at h₃
   simp only[XN]
   exact Yr (Yr (Zv h₃ (fun x s₄ h₄=>Yr (Zv h₄ (fun _ s₅ h₅=>YD (YD ⟨rfl,h₅⟩)) fun _ _ h'=>h'.elim)) fun _ _ h'=>h'.elim))
  | false=>
   rw[Yh Yg] at h₃
   simp only[XD,if_false]
   exact YD ⟨rfl,h₃⟩
def AA:TT:=fun _ H Q=>Q true H
def ko (X:Cx)(ifs:List Expr)(t:TT):Prop:=
 ∀ (pz:Kp) (s:Shared) (σ:St) (H:Hp) (Q:Bool→Hp→Prop),Inv X pz σ H s→t σ H Q→
  wpAny (model X.prog X.w) X.A (forIn ifs true fun c r=>if r=true then do let ok ← isTrue c X.env (eval c X.env);pure (ForInStep.yield ok) else pure (ForInStep.yield r)) (TP X pz σ Q) X.xe s
theorem rB {X:Cx}:ko X [] AA:=fun _ _ _ H _ I h=>YD ⟨H,I,h⟩
theorem qI {X:Cx}{c:Expr}{t:TT}(h:PT X c t):ko X [c] t:=fun pz s σ H Q I q=>wpAny_tests_one (h pz s σ H Q I q)
def rQ (own:Nat)(ix:List Nat)(wi:TI)(g:TG)(tc:TT)(te:TE):TE:=fun σ H Q=>wi σ H fun J H1=>∀ acc,H1 acc=none→∃ W:Nat→Nat→List V→Hp→Prop,
 (∃ m,W 0 m [] (upd H1 acc (.lst [])))∧∀ i m ys H,W i m ys H→
  (J.stop i H∧Q (.ref acc) H)∨(J.go i H∧∃ N:List V→Hp→Prop,(∀ ys' H',N ys' H'→∃ m',m' < m∧W (i+1) m' ys' H')∧∀ x H',J.yld i H x H'→g x (cn own ix σ) H' fun σ2 H2=>
   (σ2.length=own+ix.length∧∀ (j:Nat) v,(cn own ix σ)[j]?=some (some v)→σ2[j]?=some (some v)) ∧
   tc σ2 H2 fun ok H3=>if ok=true then te σ2 H3 fun y H4=>H4 acc=some (.lst ys)∧ys.length<sizeLine∧N (ys++[y]) (upd H4 acc (.lst (ys++[y]))) else N ys H3)
section
variable {X:Cx} {elt tg iter:Expr} {ifs:List Expr} {scope:Scope} {pos:Pos} {N:List Str} {own:Nat} {ix:List Nat} {wi:TI} {g:TG} {tc:TT} {te:TE}
theorem gO {pz:Kp}{σ:St}{s:Shared}{Q:VK}{itv:Value}{RR:Value→Addr→Result→Shared→Prop}{E:Kv}(hcalm:X.calm=true)(b:BlkScope X scope)(cp:Caps X scope N own ix)
  (hg:∀ s H fp pz,PG (blk X scope N s H fp pz) tg g) (hc:∀ s H fp pz,ko (blk X scope N s H fp pz) ifs tc) (he:∀ s H fp pz,PE (blk X scope N s H fp pz) elt te)
  (hp:PIE X pz σ tg (fun J H1=>∀ acc,H1 acc=none→∃ W:Nat→Nat→List V→Hp→Prop,
   (∃ m,W 0 m [] (upd H1 acc (.lst [])))∧∀ i m ys H,W i m ys H→
    (J.stop i H∧Q (.ref acc) H)∨(J.go i H∧∃ N:List V→Hp→Prop,(∀ ys' H',N ys' H'→∃ m',m' < m∧W (i+1) m' ys' H')∧∀ x H',J.yld i H x H'→g x (cn own ix σ) H' fun σ2 H2=>
     (σ2.length=own+ix.length∧∀ (j:Nat) v,(cn own ix σ)[j]?=some (some v)→σ2[j]?=some (some v)) ∧
     tc σ2 H2 fun ok H3=>if ok=true then te σ2 H3 fun y H4=>H4 acc=some (.lst ys)∧ys.length<sizeLine∧N (ys++[y]) (upd H4 acc (.lst (ys++[y]))) else N ys H3)) itv s)
  (hR:∀ (s3:Shared) (H3:Hp) (fp:List Addr) (acc:Addr) (σ':St) (H':Hp) (s':Shared),Inv X pz σ H3 s3→(∀ a∈fp,fS X pz H3 a)→Inv (blk X scope N s3 H3 fp pz) [] σ' H' s'→Q (.ref acc) H'→RR (.ref acc) s3.heap.objs.size (.ok .next) s') :
  wpAny (model X.prog X.w) X.A (newList []) (fun acc s₃=>wpAny (model X.prog X.w) X.A (newFunctionEnv scope X.env.globals (bE X.env.cells scope.names []) [] X.env.qual none .none (some X.env)) (fun cenv s₄=>
   codeAny (model X.prog X.w) X.A (.compStart (.ListComp elt [⟨tg,iter,ifs,0⟩] scope pos) 0 itv acc { cenv with scope:=relabel scope X.env }) (RR acc cenv.locals) s₄) E s₃) E s:=by
 obtain⟨it,fp,tn,J,H1,rfl,I1,T,st1,f1,hacc⟩:=hp
 refine wpAny_newObj_type ?_
 -- the list
 have I3:Inv X pz σ (upd H1 s.heap.objs.size (.lst [])) { s with heap:=s.heap.push { cls:=.type "list",dict:=none,data:=.seq ([]:List Value).toArray } }:=I1.lnew (ys:=[]) (its:=[]) .nil (YI _)
 generalize hs3:({ s with heap:=s.heap.push { cls:=.type "list",dict:=none,data:=.seq ([]:List Value).toArray } }:Shared)=s3 at I3 ⊢
 have kp3:∀ a o,s.heap.get? a=some o→s3.heap.get? a=some o:=fun a o e=>by rw[← hs3];exact Yd _ e
 have st3:tn 0 s3.heap:=T.keep _ _ _ st1 fun a _ o e=>kp3 a o e
 have lt1:∀ a∈fp,a<s.heap.objs.size:=fun a ha=>by obtain⟨o,e,_⟩:=T.obj _ _ st1 a ha;exact Yp e
 have f3:∀ a∈fp,fS X pz (upd H1 s.heap.objs.size (.lst [])) a:=fun a ha=>⟨by rw[ap (Yw (lt1 a ha))];exact (f1 a ha).1,(f1 a ha).2⟩
 have lt3:∀ a∈fp,a<s3.heap.objs.size:=fun a ha=>by obtain⟨o,e,_⟩:=T.obj _ _ st3 a ha;exact Yp e
 obtain⟨W,⟨m0,w0⟩,turn⟩:=hacc s.heap.objs.size I1.fresh
 generalize hH3:upd H1 s.heap.objs.size (.lst [])=H3 at I3 f3 w0
 generalize hacc':s.heap.objs.size=acc at w0 turn ⊢
 refine mV _ fun cenv hc'=>?_
 subst hc'
 have J0:=oS (N:=N) (fp:=fp) b cp I3 f3 lt3
 have st4:tn 0 (pushCells (s3.heap.push { cls:=.type "dict",data:=.dict #[] }) scope.names):=T.keep _ _ _ st3 fun a _ o e=>Xz _ _ a o (Yd _ e)
 generalize hs4:({ s3 with heap:=pushCells (s3.heap.push { cls:=.type "dict",data:=.dict #[] }) scope.names }:Shared)=s4 at J0 ⊢
 have st4':tn 0 s4.heap:=by rw[← hs4];exact st4
 -- the loop
 have loop:codeAny (model X.prog X.w) X.A (.compLoop (.ListComp elt [⟨tg,iter,ifs,0⟩] scope pos) 0 (.ref it) (.ref acc) (dU X.env scope s3.heap.objs.size)) (RR (.ref acc) s3.heap.objs.size) s4:=by
  refine pM (fun n s'=>∃ i ys H',Inv (blk X scope N s3 H3 fp pz) [] (cn own ix σ) H' s'∧tn i s'.heap∧(∀ a∈fp,H' a=none)∧W i n ys H') ?_ m0 ⟨0,[],H3,J0,st4',fun a ha=>(f3 a ha).1,w0⟩
  rintro n s5 ⟨i,ys,H5,J5,st5,fr5,w5⟩
  have fp5:=rT (pl:=[]) (N:=N) b I3 f3 lt3 fr5
  rcases turn i n ys H5 w5 with⟨stop,q⟩ | ⟨go,NN,hN,step⟩
  ·refine thn (T.done (blk X scope N s3 H3 fp pz) rfl rfl rfl hcalm i [] s5 _ H5 _ J5 fp5 st5 stop) fun r s6 ⟨hr,J6⟩=>?_
   subst hr
   exact hR s3 H3 fp acc _ H5 s6 I3 f3 J6 q
  ·refine thn (T.item (blk X scope N s3 H3 fp pz) rfl rfl rfl hcalm i [] s5 _ H5 _ J5 fp5 st5 go) fun r s6 ⟨u,hr,h6⟩=>?_
   subst hr
   refine thn h6 fun _ s7 hh_=>?_
   obtain⟨x,H7,J7,r7,y7,st7,fr7⟩:=hh_
   have fp7:=rT (pl:=[]) (N:=N) b I3 f3 lt3 fr7
   have J7':=J7.pinned fp7 (T.obj _ _ st7)
   have back:∀ {σ8:St} {H8:Hp} {s8:Shared} {zs:List V},Inv (blk X scope N s3 H3 fp pz) ([]++gU fp s7.heap) σ8 H8 s8→(σ8.length=own+ix.length∧∀ (j:Nat) v,(cn own ix σ)[j]?=some (some v)→σ8[j]?=some (some v))→NN zs H8→
     ∃ m,m<n∧∃ i ys H',Inv (blk X scope N s3 H3 fp pz) [] (cn own ix σ) H' s8∧tn i s8.heap∧(∀ a∈fp,H' a=none)∧W i m ys H':=fun {σ8 H8 s8 zs} J8 hw n8=>by
    obtain⟨m',hm,w8⟩:=hN zs H8 n8
    refine⟨m',hm,i+1,zs,H8,(J8.unpinned).weak (by rw[d3,hw.1]) hw.2,T.keep _ _ _ st7 fun a ha o e=>(J8.pin (a,o) (YM _ (YM _ (dn ha e)))).1,fun a ha=>?_,w8⟩
    obtain⟨o,e,d⟩:=T.obj _ _ st7 a ha
    exact (J8.pin (a,o) (YM _ (YM _ (dn ha e)))).2.1
   refine thn (hg s3 H3 fp pz _ s7 _ H7 x u _ J7' r7 (step x H7 y7)) fun _ s8 hh_=>?_
   obtain⟨σ8,H8,J8,hw,q8⟩:=hh_
   refine thn (hc s3 H3 fp pz _ s8 σ8 H8 _ J8 q8) fun ok s9 hh_=>?_
   obtain⟨H9,J9,q9⟩:=hh_
   cases ok with
   | false=>
    rw[Yh Yg] at q9 ⊢
    exact back J9 hw q9
   | true=>
    rw[Yf rfl] at q9 ⊢
    refine thn (he s3 H3 fp pz _ s9 σ8 H9 _ J9 q9) fun y s10 hh_=>?_
    obtain⟨z,H10,J10,rz,e10,hlt,n10⟩:=hh_
    refine thn (cC (X:=blk X scope N s3 H3 fp pz) _ s10 σ8 H10 (.ref acc) [z] (.ref acc) [y] (fun v H'=>v=.non∧H'=upd H10 acc (.lst (ys++[z]))) J10 rfl (.cons rz .nil) ⟨acc,ys,z,rfl,rfl,e10,hlt,rfl,rfl⟩) fun _ s11 hh_=>?_
    obtain⟨_,H11,J11,_,_,e11⟩:=hh_
    subst e11
    exact back J11 hw n10
 subst hs4
 exact codeAny_compStart_list loop (T.self _ _ _ _ _ st4' loop)
theorem tM (hcalm:X.calm=true)(b:BlkScope X scope)(cp:Caps X scope N own ix)(hi:PI X tg iter wi)
  (hg:∀ s H fp pz,PG (blk X scope N s H fp pz) tg g) (hc:∀ s H fp pz,ko (blk X scope N s H fp pz) ifs tc) (he:∀ s H fp pz,PE (blk X scope N s H fp pz) elt te)
  (hnames:∀ y∈scope.names,y.2=.local→scope.names.lookup y.1=some .local:=by decide)
  (hs:∀ x,foldedSetIterable iter X.env x=pure x:=by intro _;rfl):PE X (.ListComp elt [⟨tg,iter,ifs,0⟩] scope pos) (rQ own ix wi g tc te):=by
 intro pz s σ H Q I h
 rw[eval_ListComp]
 refine wpAny_comprehension_free (use:=none) rfl hs (ic (b.cl I.ok)) b.kind hnames (thn (hi pz s σ H _ I h) fun v s1 h1=>thn h1 fun itv s2 h2=>?_)
 refine gO (RR:=fun acc C=>compPost (model X.prog X.w) X.A X.xe none (EP X pz σ Q) acc C) hcalm b cp hg hc he h2 ?_
 intro s3 H3 fp acc σ' H' s' I3 f3 J q
 obtain⟨m,hn,_⟩:=id J.loc
 exact⟨m,hn,fun h' hs'=>⟨.ref acc,H',kQ I3 f3 J hs',rfl,q⟩⟩
theorem nn {i:Nat}{y:Str}{py spos:Pos}(hcalm:X.calm=true)(hN:X.N.Nodup)(hiN:X.N[i]?=some y)(hx:Loc X.env.scope y)(b:BlkScope X scope)(cp:Caps X scope N own ix)(hi:PI X tg iter wi)
  (hg:∀ s H fp pz,PG (blk X scope N s H fp pz) tg g) (hc:∀ s H fp pz,ko (blk X scope N s H fp pz) ifs tc) (he:∀ s H fp pz,PE (blk X scope N s H fp pz) elt te)
  (hsw:swapsWith (.ListComp elt [⟨tg,iter,ifs,0⟩] scope pos) (some (.Name y py)) spos.line X.env=pure true:=by rfl)
  (hnames:∀ y∈scope.names,y.2=.local→scope.names.lookup y.1=some .local:=by decide)
  (hs:∀ x,foldedSetIterable iter X.env x=pure x:=by intro _;rfl)
  (hf:X.fn y=true∨X.env.scope.names.lookup y=some .local:=by first | exact .inl rfl | exact .inr rfl | assumption) :
  PS X (.Assign [.Name y py] (.ListComp elt [⟨tg,iter,ifs,0⟩] scope pos) spos) (re (rQ own ix wi g tc te) (ii i)):=by
 intro pz s σ H D I h
 rw[exec_Assign_Name_used _ _ _ _ hsw]
 refine Yr (wpAny_standAt (Yr ?_))
 show wpAny _ X.A (do let _ ← comprehension (.ListComp elt [⟨tg,iter,ifs,0⟩] scope pos) scope X.env _ (newList []) false (eval iter X.env) (some (assign (.Name y py) X.env))) _ _ s
 refine Yr (Zv (wpAny_comprehension_free (use:=some (assign (.Name y py) X.env)) (Q:=fun _ s'=>SP X pz D .next s') rfl hs (ic (b.cl I.ok)) b.kind hnames
  (thn (hi pz s σ H _ I h) fun v s1 h1=>thn h1 fun itv s2 h2=>?_)) (fun _ s' hq=>YD (YD hq)) fun _ _ e=>e)
 refine gO (Q:=fun x H1=>ii i x σ H1 D.nx) (RR:=fun acc C=>compPost (model X.prog X.w) X.A X.xe (some (assign (.Name y py) X.env)) (fun _ s'=>SP X pz D .next s') acc C) hcalm b cp hg hc he h2 ?_
 intro s3 H3 fp acc σ' H' s' I3 f3 J q
 obtain⟨m,hn,_⟩:=id J.loc
 have hn:s'.heap.Ns s3.heap.objs.size m:=hn
 have I':Inv X pz σ H' s':=kQ I3 f3 J (Heap.SameBut.refl ..)
 show wpAny _ X.A (assign (.Name y py) X.env (.ref acc)) _ _ s'
 refine wpAny_assign_Name (jA (v:=.ref acc) I' hN hiN hx rfl (fun s'' I'' hh_=>?_) hf)
 obtain⟨a,hsb,ha⟩:=hh_
 have hne:s3.heap.objs.size≠a:=by
  rcases ha with ha | ha
  ·rw[ha];exact ZZ I3.lt
  ·obtain⟨v,z⟩:=I3.cell y a ha
   exact ZZ z.lt
 refine⟨m,hn.sameBut hsb hne,fun h' hs'=>?_⟩
 refine⟨σ.set i (some (.ref acc)),H',?_,q⟩
 exact I''.turned (h':=h') (t':=s''.toks) (it:=s3.heap.objs.size) (fun c o hc e=>(hs'.2 c hc).trans e) J.free (ZZ I3.lt) (.inr I3.sz) (fun x c e=>by obtain⟨v,z⟩:=I3.cell x c e;exact Yw z.lt) fun p hp=>Yw (Yp (I3.pin p hp).1)
end
section
variable {κ:Type} [DecidableEq κ]
def bZ (kvs:List (κ×V))(k:κ):Option V:=(kvs.find? fun kv=>decide (kv.1=k)).map (·.2)
def da (kvs:List (κ×V))(k:κ)(v:V):List (κ×V):=
 if (kvs.any fun kv=>decide (kv.1=k))=true then kvs.map (fun kv=>if kv.1=k then (kv.1,v) else kv) else kvs++[(k,v)]
theorem iu {p:κ×V}{r:List (κ×V)}{k:κ}(e:p.1=k):bZ (p::r) k=some p.2:=by simp[bZ,Zp,e]
theorem iQ {p:κ×V}{r:List (κ×V)}{k:κ}(e:¬ p.1=k):bZ (p::r) k=bZ r k:=by simp[bZ,Zp,e]
theorem lD (k:κ):∀ kvs:List (κ×V),(kvs.any fun kv=>decide (kv.1=k))=(bZ kvs k).isSome
 | []=>rfl
 | p::r=>by
  rw[ZM]
  by_cases e:p.1=k
  ·simp only[iu e,YU e,Bool.true_or,Option.isSome_some]
  ·rw[iQ e,Yx e,Bool.false_or];exact lD k r
theorem dX (kvs:List (κ×V))(k:κ)(v:V):(da kvs k v).length≤kvs.length+1:=by
 unfold da
 split
 ·rw[Ye];omega
 ·rw[Ym,Yj,YN];omega
theorem RelO.isSome_eq {o:Option V}{u:Option Value}(r:RelO o u):o.isSome=u.isSome:=by
 cases o with
 | none=>cases u with
  | none=>rfl
  | some _=>exact (show False from r).elim
 | some _=>cases u with
  | none=>exact (show False from r).elim
  | some _=>rfl
theorem RelO.getD {o:Option V}{u:Option Value}{d:V}{d':Value}(r:RelO o u)(rd:RelV d d'):RelV (o.getD d) (u.getD d'):=by
 cases o with
 | none=>cases u with
  | none=>exact rd
  | some _=>exact (show False from r).elim
 | some _=>cases u with
  | none=>exact (show False from r).elim
  | some _=>exact r
theorem KV.val {kvs:List (κ×V)}{vs:List (κ×Value)}(r:KV kvs vs)(k:κ):RelO (bZ kvs k) (valueAt vs k):=by
 unfold KV at r
 induction r with
 | nil=>exact True.intro
 | @cons p q ps qs h t ih=>
  obtain⟨h1,h2⟩:=h
  by_cases e:p.1=k
  ·have e':q.1=k:=h1.symm.trans e
   have b:valueAt (q::qs) k=some q.2:=by simp[valueAt,Zp,e']
   rw[iu e,b];exact h2
  ·have e':¬ q.1=k:=fun z=>e (h1.trans z)
   have b:valueAt (q::qs) k=valueAt qs k:=by simp[valueAt,Zp,e']
   rw[iQ e,b];exact ih
theorem KV.any {kvs:List (κ×V)}{vs:List (κ×Value)}(r:KV kvs vs)(k:κ):(kvs.any fun kv=>decide (kv.1=k))=vs.any fun kv=>decide (kv.1=k):=by
 unfold KV at r
 induction r with
 | nil=>rfl
 | cons h t ih=>rw[ZM,ZM,ih,h.1]
theorem KV.repl {kvs:List (κ×V)}{vs:List (κ×Value)}(r:KV kvs vs)(k:κ){y:V}{u:Value}(ry:RelV y u) :
  KV (kvs.map fun kv=>if kv.1=k then (kv.1,y) else kv) (vs.map fun kv=>if kv.1=k then (kv.1,u) else kv):=by
 unfold KV at r ⊢
 induction r with
 | nil=>exact .nil
 | @cons p q ps qs h t ih=>
  rw[Yv,Yv]
  refine .cons ?_ ih
  obtain⟨h1,h2⟩:=h
  by_cases e:p.1=k
  ·rw[Yf e,Yf (h1.symm.trans e)];exact⟨h1,ry⟩
  ·rw[Yh e,Yh (fun z=>e (h1.trans z))];exact⟨h1,h2⟩
theorem KV.put {kvs:List (κ×V)}{vs:List (κ×Value)}(r:KV kvs vs)(k:κ){y:V}{u:Value}(ry:RelV y u):KV (da kvs k y) (stored vs k u):=by
 unfold da stored
 rw[r.any k]
 by_cases e:(vs.any fun kv=>decide (kv.1=k))=true
 ·rw[Yf e,Yf e];exact r.repl k ry
 ·rw[Yh e,Yh e];exact Paired.snoc r ⟨rfl,ry⟩
theorem KV.length {kvs:List (κ×V)}{vs:List (κ×Value)}(r:KV kvs vs):kvs.length=vs.length:=Paired.length r
end
theorem je {P:Program}{w:World}{k:Key}{u:Value}(r:RelV (kV k) u):(aK P w).is k u=true:=by
 cases k with
 | inl i=>obtain⟨t,e⟩:=(show ∃ t,u=Value.int i t from r);subst e;exact lJ P w i t
 | inr x=>obtain⟨t,e⟩:=(show ∃ t,u=Value.str x t from r);subst e;exact kU P w x t
theorem i7 {P:Program}{w:World}:∀ {ks:List Key} {us:List Value},Vals (ks.map kV) us→ItemsAre (aK P w) ks us
 | [],_,r=>by rw[List.map_nil] at r;cases r;exact .nil
 | k::ks,_,r=>by
  rw[Yv] at r
  cases r with
  | cons h t=>exact .cons (je h) (i7 t)
abbrev KT (H:Hp):List (List Key×V)→List (List Key×Addr×Value)→Prop:=Paired fun p q=>p.1=q.1∧H q.2.1=some (.tup (p.1.map kV))∧RelV p.2 q.2.2
theorem KT.val {H:Hp}{kvs:List (List Key×V)}{xs:List (List Key×Addr×Value)}(r:KT H kvs xs)(k:List Key):RelO (bZ kvs k) ((atKey xs k).map (·.2)):=by
 induction r with
 | nil=>exact True.intro
 | @cons p q ps qs h t ih=>
  obtain⟨h1,_,h2⟩:=h
  by_cases e:p.1=k
  ·have e':q.1=k:=h1.symm.trans e
   have b:atKey (q::qs) k=some q.2:=by simp[atKey,Zp,e']
   rw[iu e,b];exact h2
  ·have e':¬ q.1=k:=fun z=>e (h1.trans z)
   have b:atKey (q::qs) k=atKey qs k:=by simp[atKey,Zp,e']
   rw[iQ e,b];exact ih
theorem KT.repl {H:Hp}{kvs:List (List Key×V)}{xs:List (List Key×Addr×Value)}(r:KT H kvs xs)(k:List Key){y:V}{u:Value}(ry:RelV y u) :
  KT H (kvs.map fun kv=>if kv.1=k then (kv.1,y) else kv) (xs.map (putAt k u)):=by
 induction r with
 | nil=>exact .nil
 | @cons p q ps qs h t ih=>
  rw[Yv,Yv]
  refine .cons ?_ ih
  obtain⟨h1,h2,h3⟩:=h
  unfold putAt
  by_cases e:p.1=k
  ·rw[Yf e,Yf (h1.symm.trans e)];exact⟨h1,h2,ry⟩
  ·rw[Yh e,Yh (fun z=>e (h1.trans z))];exact⟨h1,h2,h3⟩
theorem KT.put {H:Hp}{kvs:List (List Key×V)}{xs:List (List Key×Addr×Value)}(r:KT H kvs xs)(k:List Key){b:Addr}{y:V}{u:Value}(hb:H b=some (.tup (k.map kV)))(ry:RelV y u) :
  KT H (da kvs k y) (storedH xs k b u):=by
 have e:(kvs.any fun kv=>decide (kv.1=k))=(atKey xs k).isSome:=by
  rw[lD,(r.val k).isSome_eq,XG]
 unfold da storedH
 rw[e]
 by_cases q:(atKey xs k).isSome=true
 ·rw[Yf q,Yf q];exact r.repl k ry
 ·rw[Yh q,Yh q];exact Paired.snoc r ⟨rfl,hb,ry⟩
theorem KT.keeps {H H':Hp}{kvs:List (List Key×V)}{xs:List (List Key×Addr×Value)}(r:KT H kvs xs)(ht:∀ b ys,H b=some (.tup ys)→H' b=some (.tup ys)):KT H' kvs xs:=
 Paired.mapP r fun _ _ z=>⟨z.1,ht _ _ z.2.1,z.2.2⟩
section
variable {P:Program} {w:World} {H:Hp} {h:Heap} {a:Addr}
theorem vG {u:HO}(ok:HOk P w H h)(e:Rd H a u):ObjOk P w H h a u:=e.ok ok
theorem lP {kvs:List (Key×V)}(ok:HOk P w H h)(e:Rd H a (.dK kvs)):kvs.length≤sizeLine∧(a == sysModules)=false∧∃ vs,KV kvs vs∧h.DictOf (aK P w) a vs:=
 show ObjOk P w H h a (.dK kvs) from vG ok e
theorem za {kvs:List (Key×V)}(ok:HOk P w H h)(e:H a=some (.dK kvs)):kvs.length≤sizeLine∧(a == sysModules)=false∧∃ vs,KV kvs vs∧h.DictOf (aK P w) a vs:=lP ok (.inl e)
theorem ig {ks:List Key}(ok:HOk P w H h)(e:H a=some (.tup (ks.map kV))):(tupleKind (aK P w)).is h ks a:=by
 obtain⟨_,its,r,⟨o,h1,h2,n,h3⟩,_⟩:=(show ObjOk P w H h a (.tup (ks.map kV)) from ok a _ e)
 exact⟨o,its.toArray,n,h1,h2,h3,by simpa using i7 r⟩
theorem kS {kvs:List (List Key×V)}(ok:HOk P w H h)(e:Rd H a (.dT kvs)):kvs.length≤sizeLine∧(a == sysModules)=false ∧
  ∃ xs,KT H kvs xs∧h.DictOfH (tupleKind (aK P w)) a xs:=by
 obtain⟨z,y,xs,r,o,es,ep,h1,h2,h3,h4,h5⟩:=(show ObjOk P w H h a (.dT kvs) from vG ok e)
 refine⟨z,y,xs,r,o,es,ep,h1,h2,h3,h4,fun x hx=>?_,h5⟩
 have all:∀ {l:List (List Key×V)} {m:List (List Key×Addr×Value)},KT H l m→∀ x∈m,(tupleKind (aK P w)).is h x.1 x.2.1:=by
  intro l m q
  induction q with
  | nil=>intro x hx;exact nomatch hx
  | @cons p q ps qs hq t ih=>
   intro x hx
   rcases Yy.mp hx with e | hx
   ·subst e
    exact ig ok (by rw[← hq.1];exact hq.2.1)
   ·exact ih x hx
 exact all r x hx
theorem zE {kvs:List (List Key×V)}(ok:HOk P w H h)(e:H a=some (.dT kvs)):kvs.length≤sizeLine∧(a == sysModules)=false ∧
  ∃ xs,KT H kvs xs∧h.DictOfH (tupleKind (aK P w)) a xs:=kS ok (.inl e)
end
def DGet (H:Hp)(a:Addr)(y:V)(r:Option V):Prop:=
 (∃ kvs k,Rd H a (.dK kvs)∧y=kV k∧r=bZ kvs k)∨∃ kvs k b,Rd H a (.dT kvs)∧y=.ref b∧H b=some (.tup (k.map kV))∧r=bZ kvs k
def DPut (H:Hp)(a:Addr)(y v:V)(H':Hp):Prop:=
 (∃ kvs k,H a=some (.dK kvs)∧y=kV k∧kvs.length<sizeLine∧H'=upd H a (.dK (da kvs k v))) ∨
 ∃ kvs k b,H a=some (.dT kvs)∧y=.ref b∧H b=some (.tup (k.map kV))∧kvs.length<sizeLine∧H'=upd H a (.dT (da kvs k v))
theorem DGet.k {H:Hp}{a:Addr}{kvs:List (Key×V)}{k:Key}(e:H a=some (.dK kvs)):DGet H a (kV k) (bZ kvs k):=.inl ⟨kvs,k,.inl e,rfl,rfl⟩
theorem DGet.t {H:Hp}{a b:Addr}{kvs:List (List Key×V)}{k:List Key}(e:H a=some (.dT kvs))(eb:H b=some (.tup (k.map kV))):DGet H a (.ref b) (bZ kvs k):=.inr ⟨kvs,k,b,.inl e,rfl,eb,rfl⟩
theorem DPut.k {H:Hp}{a:Addr}{kvs:List (Key×V)}{k:Key}{v:V}(e:H a=some (.dK kvs))(hl:kvs.length<sizeLine):DPut H a (kV k) v (upd H a (.dK (da kvs k v))):=.inl ⟨kvs,k,e,rfl,hl,rfl⟩
theorem DPut.t {H:Hp}{a b:Addr}{kvs:List (List Key×V)}{k:List Key}{v:V}(e:H a=some (.dT kvs))(eb:H b=some (.tup (k.map kV)))(hl:kvs.length<sizeLine) :
  DPut H a (.ref b) v (upd H a (.dT (da kvs k v))):=.inr ⟨kvs,k,b,e,rfl,eb,hl,rfl⟩
section
variable {X:Cx} {pz:Kp} {σ:St} {H:Hp} {s:Shared} {a:Addr} {y v:V} {u r:Value} {o:Option V} {A:Around} {E:Kv}
theorem Inv.big (I:Inv X pz σ H s):sysModules<s.heap.objs.size:=by
 have h:mainGlobals<s.heap.objs.size:=(I.mod.glob.keeps I.bk).lt
 exact ZC (by decide) h
theorem A0 {Q:Kv}(hu:A.units+1<cLine)(I:Inv X pz σ H s)(g:DGet H a y o)(ry:RelV y u)(h:∀ s',Inv X pz σ H s'→Q (.bool o.isSome) s') :
  wpAny (model X.prog X.w) A (compareOp .In u (.ref a)) Q E s:=by
 rcases g with⟨kvs,k,e,ey,l⟩ | ⟨kvs,k,b,e,ey,eb,l⟩
 ·subst ey
  obtain⟨z,hd,vs,rel,dd⟩:=lP I.hok e
  refine wpAny_in_of (je ry) hd dd.mapOf ?_
  rw[← (rel.val k).isSome_eq,← l]
  exact h _ (I.tok _)
 ·subst ey
  cases (show u=Value.ref b from ry)
  obtain⟨z,hd,xs,rel,dd⟩:=kS I.hok e
  refine wpAny_in_heap (Xc hu) (ig I.hok eb) hd dd ?_
  have q:=(rel.val k).isSome_eq
  rw[XG] at q
  rw[← q,← l]
  exact h _ (I.tok _)
theorem u6 {Q:Kv}(hu:A.units+1<cLine)(I:Inv X pz σ H s)(g:DGet H a y o)(ry:RelV y u)(h:∀ s',Inv X pz σ H s'→Q (.bool (!o.isSome)) s') :
  wpAny (model X.prog X.w) A (compareOp .NotIn u (.ref a)) Q E s:=by
 rcases g with⟨kvs,k,e,ey,l⟩ | ⟨kvs,k,b,e,ey,eb,l⟩
 ·subst ey
  obtain⟨z,hd,vs,rel,dd⟩:=lP I.hok e
  refine wpAny_notIn_of (je ry) hd dd.mapOf ?_
  rw[← (rel.val k).isSome_eq,← l]
  exact h _ (I.tok _)
 ·subst ey
  cases (show u=Value.ref b from ry)
  obtain⟨z,hd,xs,rel,dd⟩:=kS I.hok e
  refine wpAny_notIn_heap (Xc hu) (ig I.hok eb) hd dd ?_
  have q:=(rel.val k).isSome_eq
  rw[XG] at q
  rw[← q,← l]
  exact h _ (I.tok _)
theorem oC {h':Heap}{t':Nat}{ob:HO}(I:Inv X pz σ H s)(mu:Mut (H a))(hs:Heap.SameBut a s.heap h')(he:∃ q,h'.get? a=some q)(new:ObjOk X.prog X.w (upd H a ob) h' a ob) :
  Inv X pz σ (upd H a ob) { s with heap:=h',toks:=t' }:=
 I.write (x:=a) (e:=a) mu (.inl rfl) (fun b q hb z=>(hs.2 b hb).trans z) he new
theorem qN {P:Program}{w:World}{H':Hp}{h':Heap}{kvs:List (Key×V)}{vs:List (Key×Value)}(z:kvs.length≤sizeLine)(hd:(a == sysModules)=false)(rel:KV kvs vs)(dd:h'.DictOf (aK P w) a vs) :
  ObjOk P w H' h' a (.dK kvs):=⟨z,hd,vs,rel,dd⟩
theorem pN {H':Hp}{Q:Unit→Shared→Prop}(hu:A.units+1<cLine)(I:Inv X pz σ H s)(g:DPut H a y v H')(ry:RelV y u)(rv:RelV v r)(h:∀ s',Inv X pz σ H' s'→Q () s') :
  wpAny (model X.prog X.w) A (setItem (.ref a) u r) Q E s:=by
 rcases g with⟨kvs,k,e,ey,l,eH⟩ | ⟨kvs,k,b,e,ey,eb,l,eH⟩
 ·subst ey eH
  obtain⟨z,hd,vs,rel,dd⟩:=za I.hok e
  have hz:vs.length≤sizeLine:=by rw[← rel.length];exact z
  have hl:(da kvs k v).length≤sizeLine:=by have:=dX kvs k v;omega
  refine wpAny_setItem_pairs (hsz:=hz) (je ry) dd fun h' dd' hs=>h _ ?_
  have he:∃ q,h'.get? a=some q:=let ⟨q,_,_,hq,_⟩:=dd';⟨q,hq⟩
  exact oC I (by rw[e];exact True.intro) hs he (qN hl hd (rel.put k rv) dd')
 ·subst ey eH
  cases (show u=Value.ref b from ry)
  obtain⟨z,hd,xs,rel,dd⟩:=zE I.hok e
  have hz:xs.length≤sizeLine:=by rw[← Paired.length rel];exact z
  have hl:(da kvs k v).length≤sizeLine:=by have:=dX kvs k v;omega
  refine wpAny_setItem_heap (hsz:=hz) (Xc hu) (ig I.hok eb) dd fun h' dd' hs=>h _ ?_
  obtain⟨q,es,ep,hq,h2,h3,h4,_,h5⟩:=dd'
  refine oC I (by rw[e];exact True.intro) hs ⟨q,hq⟩ ⟨hl,hd,_,(rel.put k eb rv).keeps fun c ys ec=>?_,q,es,ep,hq,h2,h3,h4,h5⟩
  rw[ap (zS ec e (fun z=>nomatch z))]
  exact ec
end
section
variable {X:Cx} {pz:Kp} {σ:St} {H:Hp} {s:Shared} {a:Addr} {kvs:List (Key×V)} {k:Key} {u:Value} {A:Around} {E:Kv}
end
def A3 (ty td:TE):TE:=fun σ H Q=>ty σ H fun y H1=>td σ H1 fun x H2=>∃ a o,x=.ref a∧DGet H2 a y o∧Q (.bl o.isSome) H2
def uE (ty td:TE):TE:=fun σ H Q=>ty σ H fun y H1=>td σ H1 fun x H2=>∃ a o,x=.ref a∧DGet H2 a y o∧Q (.bl (!o.isSome)) H2
def zR (td ty tv:TE):TS:=fun D σ H=>tv σ H fun v H1=>td σ H1 fun x H2=>ty σ H2 fun y H3=>∃ a H4,x=.ref a∧DPut H3 a y v H4∧D.nx σ H4
section
variable {X:Cx} {o i e value:Expr} {pos pos' tpos:Pos} {td ty tv:TE}
theorem xj (hu:X.A.units+1<cLine)(hi:PE X i ty)(ho:PE X o td):PC X .In i o (A3 ty td):=by
 intro pz s σ H Q I h
 refine aG (hi pz s σ H _ I h) fun iv s1 y H1 I1 ry q1=>aG (ho pz s1 σ H1 _ I1 q1) fun u s2 x H2 I2 rx hh_=>?_
 obtain⟨a,ov,ex,g,q2⟩:=hh_
 subst ex
 obtain rfl:u=Value.ref a:=rx
 exact A0 hu I2 g ry fun s3 I3=>⟨.bl ov.isSome,H2,I3,rfl,q2⟩
theorem pJ (hu:X.A.units+1<cLine)(hi:PE X i ty)(ho:PE X o td):PC X .NotIn i o (uE ty td):=by
 intro pz s σ H Q I h
 refine aG (hi pz s σ H _ I h) fun iv s1 y H1 I1 ry q1=>aG (ho pz s1 σ H1 _ I1 q1) fun u s2 x H2 I2 rx hh_=>?_
 obtain⟨a,ov,ex,g,q2⟩:=hh_
 subst ex
 obtain rfl:u=Value.ref a:=rx
 exact u6 hu I2 g ry fun s3 I3=>⟨.bl (!ov.isSome),H2,I3,rfl,q2⟩
theorem nW (hu:X.A.units+1<cLine)(ho:PE X o td)(hi:PE X i ty)(hv:PE X value tv)(hs:swapsWith value (some (.Subscript o i pos')) pos.line X.env=pure false) :
  PS X (.Assign [.Subscript o i pos'] value pos) (zR td ty tv):=by
 intro pz s σ H D I h
 refine wpAny_Assign_Subscript (aG (hv pz s σ H _ I h) fun r s1 v H1 I1 rv q1=>aG (ho pz s1 σ H1 _ I1 q1) fun u s2 x H2 I2 rx q2=>aG (hi pz s2 σ H2 _ I2 q2) fun iv s3 y H3 I3 ry hh_=>?_) hs
 obtain⟨a,H4,ex,g,q3⟩:=hh_
 subst ex
 obtain rfl:u=Value.ref a:=rx
 exact pN hu I3 g ry rv fun s4 I4=>⟨σ,H4,I4,q3⟩
end
theorem sP {P:Program}{w:World}{H:Hp}(h:Heap)(hb:sysModules<h.objs.size):ObjOk P w H (h.push { cls:=.type "dict",data:=.dict #[] }) h.objs.size (.dK []):=
 ⟨YI _,Zm.mpr (Xi (Yw hb)),[],.nil,Heap.DictOf.new h⟩
theorem sv {P:Program}{w:World}{H:Hp}(h:Heap)(hb:sysModules<h.objs.size):ObjOk P w H (h.push { cls:=.type "dict",data:=.dict #[] }) h.objs.size (.dT []):=
 ⟨YI _,Zm.mpr (Xi (Yw hb)),[],.nil,_,#[],0,Yo _ rfl,⟨rfl,rfl,rfl⟩,rfl,rfl,List.nodup_nil⟩
def xM:TE:=fun _ H Q=>∀ p,H p=none→Q (.ref p) (upd H p (.dT []))
section
variable {X:Cx} {pos:Pos}
theorem rR:PE X (.Dict [] [] pos) xM:=fun pz s σ H Q I h=>
 wpAny_Dict_empty ⟨.ref s.heap.objs.size,_,I.laid (a:=s.heap.objs.size) (o:=.dT []) (t':=s.toks) (fun _ _ q=>Yd _ q) (Yi _) (sv s.heap I.big),rfl,h _ (I.hok.fresh (Yi _))⟩
end
def dj (kvs more:List (Key×V)):List (Key×V):=more.foldl (fun acc kv=>da acc kv.1 kv.2) kvs
structure M2 (X:Cx) (o:Expr) (m:Str) (apos:Pos) (e f:Expr) (cpos:Pos):Prop where
 base:attributeBase o m X.env (eval o X.env)=eval o X.env
 few:((backTo cpos (starEach [e,f] X.env)).all (fun x=>!x.1)&&(backToKw cpos (keywordEach [] X.env)).all (fun x=>x.1.isSome)
  && decide (([e,f]:List Expr).length+([]:List Keyword).length+(if ([]:List Keyword).isEmpty then 0 else 1)<30))=true
 line:(apos.endLine == cpos.line)=true
 trees:backTo cpos (starEach [e,f] X.env)=[(false,eval e X.env),(false,eval f X.env)]
def IsD (H:Hp)(a:Addr):Prop:=(∃ kvs,Rd H a (.dK kvs))∨∃ kvs,Rd H a (.dT kvs)
theorem wt {X:Cx}{pz:Kp}{σ:St}{H:Hp}{s:Shared}{a:Addr}(I:Inv X pz σ H s)(d:IsD H a) :
  s.TypeIs (.ref a) "dict"∧(∀ b,Value.ref a=.ref b→∃ ob,s.heap.get? b=some ob∧ob.dict=none)∧(a == sysModules)=false:=by
 rcases d with⟨kvs,e⟩ | ⟨kvs,e⟩
 ·obtain⟨_,hd,vs,_,dd⟩:=lP I.hok e
  refine⟨dd.typeIs,fun b q=>?_,hd⟩
  cases q
  obtain⟨ob,_,_,h1,h2,_⟩:=dd
  exact⟨ob,h1,h2.2.1⟩
 ·obtain⟨_,hd,xs,_,dd⟩:=kS I.hok e
  refine⟨dd.typeIs,fun b q=>?_,hd⟩
  cases q
  obtain⟨ob,_,_,h1,h2,_⟩:=dd
  exact⟨ob,h1,h2.2.1⟩
section
variable {X:Cx} {pz:Kp} {σ:St} {H:Hp} {s:Shared} {a:Addr} {y d:V} {u r:Value} {o:Option V} {A:Around} {E:Kv}
theorem wV {Q:Kv}(hu:A.units+1<cLine)(I:Inv X pz σ H s)(g:DGet H a y o)(ry:RelV y u)(rd:RelV d r)(h:∀ w' s',Inv X pz σ H s'→RelV (o.getD d) w'→Q w' s') :
  wpAny (model X.prog X.w) A (call (.builtin "dict.get") [.ref a,u,r]) Q E s:=by
 rcases g with⟨kvs,k,e,ey,l⟩ | ⟨kvs,k,b,e,ey,eb,l⟩
 ·subst ey
  obtain⟨z,hd,vs,rel,dd⟩:=lP I.hok e
  refine call_meetsIn Xn dd.typeIs PySem.F.entry_dict_get (PySem.F.args_dict_get_3 _ _ _) (meets_dict_get_default (aK X.prog X.w) a (je ry) hd r) ⟨_,dd.mapOf,h _ _ (I.tok _) ?_⟩
  rw[l]
  exact (rel.val k).getD rd
 ·subst ey
  cases (show u=Value.ref b from ry)
  obtain⟨z,hd,xs,rel,dd⟩:=kS I.hok e
  refine call_meetsIn Xn dd.typeIs PySem.F.entry_dict_get (PySem.F.args_dict_get_3 _ _ _) (meetsH_dict_get_default (tupleKind (aK X.prog X.w)) a b hd r) ⟨Xc hu,k,xs,ig I.hok eb,dd,h _ _ (I.tok _) ?_⟩
  rw[l]
  exact (rel.val k).getD rd
end
def wT (td ty tx:TE):TE:=fun σ H Q=>td σ H fun x H1=>∃ a,x=.ref a∧IsD H1 a∧ty σ H1 fun y H2=>tx σ H2 fun z H3=>∃ o,DGet H3 a y o∧Q (o.getD z) H3
section
variable {X:Cx} {o e f:Expr} {apos cpos:Pos} {td ty tx:TE}
theorem ri (hu:X.A.units+1<cLine)(ho:PE X o td)(he:PE X e ty)(hf:PE X f tx)(m:M2 X o "get" apos e f cpos):PE X (.Call (.Attribute o "get" apos) [e,f] [] cpos) (wT td ty tx):=by
 intro pz s σ H Q I h
 refine wpAny_Call_method m.base m.few m.line PySem.F.plainAttrs_dict Xn PySem.F.type_dict_get (aG (ho pz s σ H _ I h) fun u s1 x H1 I1 rx hh_=>?_)
 obtain⟨a,ex,d,q1⟩:=hh_
 subst ex
 obtain rfl:u=Value.ref a:=rx
 obtain⟨t1,t2,_⟩:=wt I1 d
 refine⟨t1,t2,?_⟩
 rw[m.trees]
 refine Calls.callWith_builtin rfl (Calls.evalArgs_plain (ZR (aG (he pz s1 σ H1 _ I1 q1) fun iv s2 y H2 I2 ry q2=>
  ZR (aG (hf pz s2 σ H2 _ I2 q2) fun fv s3 z H3 I3 rz ⟨ov,g,q3⟩=>Calls.spliced_nil ?_))))
 exact wV hu I3 g ry rz fun w' s4 I4 rw'=>⟨_,H3,I4,rw',q3⟩
end
section
variable {X:Cx} {pz:Kp} {σ:St} {H:Hp} {s:Shared} {a:Addr} {kvs:List (Key×V)} {A:Around} {E:Kv}
end
section
variable {X:Cx} {pz:Kp} {σ:St} {H:Hp} {s:Shared} {a:Addr} {y:V} {u:Value} {A:Around} {E:Kv}
end
section
variable {κ:Type} [DecidableEq κ]
end
inductive D where
 | non | bl (b:Bool) | int (i:Int) | str (x:Str)
 | tup (xs:List D) | lst (xs:List D)
 | dT (kvs:List (List Key×D)) | dK (kvs:List (Key×D))
 | ins (C:Addr) (fs:List (Str×D))
 | fn (a:Addr) (v:V) (d:D)
mutual
inductive Rep (K:PySem.W.Frag) (H:Hp):V→D→Prop
 | non:Rep K H .non .non
 | bl {b:Bool}:Rep K H (.bl b) (.bl b)
 | int {i:Int}:Rep K H (.int i) (.int i)
 | str {x:Str}:Rep K H (.str x) (.str x)
 | tup {a:Addr} {vs:List V} {ds:List D}:H a=some (.tup vs)→Reps K H vs ds→Rep K H (.ref a) (.tup ds)
 | lst {a:Addr} {vs:List V} {ds:List D}:SqL K H a vs→Reps K H vs ds→Rep K H (.ref a) (.lst ds)
 | dT {a:Addr} {vs:List (List Key×V)} {ds:List (List Key×D)}:H a=some (.dT vs)→RepsT K H vs ds→Rep K H (.ref a) (.dT ds)
 | dK {a:Addr} {vs:List (Key×V)} {ds:List (Key×D)}:H a=some (.dK vs)→RepsK K H vs ds→Rep K H (.ref a) (.dK ds)
 | ins {a C dx:Addr} {vs:List (Str×V)} {ds:List (Str×D)}:H a=some (.ins C dx vs)→RepsF K H vs ds→Rep K H (.ref a) (.ins C ds)
 /-- a lambda at a: what it takes from without is v -/
 | fn {a:Addr} {v:V} {d:D}:Rep K H v d→Rep K H (.ref a) (.fn a v d)
inductive Reps (K:PySem.W.Frag) (H:Hp):List V→List D→Prop
 | nil:Reps K H [] []
 | cons {v:V} {d:D} {vs:List V} {ds:List D}:Rep K H v d→Reps K H vs ds→Reps K H (v::vs) (d::ds)
inductive RepsT (K:PySem.W.Frag) (H:Hp):List (List Key×V)→List (List Key×D)→Prop
 | nil:RepsT K H [] []
 | cons {k:List Key} {v:V} {d:D} {vs:List (List Key×V)} {ds:List (List Key×D)}:Rep K H v d→RepsT K H vs ds→RepsT K H ((k,v)::vs) ((k,d)::ds)
inductive RepsK (K:PySem.W.Frag) (H:Hp):List (Key×V)→List (Key×D)→Prop
 | nil:RepsK K H [] []
 | cons {k:Key} {v:V} {d:D} {vs:List (Key×V)} {ds:List (Key×D)}:Rep K H v d→RepsK K H vs ds→RepsK K H ((k,v)::vs) ((k,d)::ds)
inductive RepsF (K:PySem.W.Frag) (H:Hp):List (Str×V)→List (Str×D)→Prop
 | nil:RepsF K H [] []
 | cons {k:Str} {v:V} {d:D} {vs:List (Str×V)} {ds:List (Str×D)}:Rep K H v d→RepsF K H vs ds→RepsF K H ((k,v)::vs) ((k,d)::ds)
end
section
variable {K:Kq} {H H':Hp}
theorem Rep.same (e:Same H H'){v:V}{d:D}(h:Rep K H v d):Rep K H' v d:=
 Rep.rec (motive_1:=fun v d _=>Rep K H' v d) (motive_2:=fun v d _=>Reps K H' v d) (motive_3:=fun v d _=>RepsT K H' v d) (motive_4:=fun v d _=>RepsK K H' v d) (motive_5:=fun v d _=>RepsF K H' v d) .non .bl .int .str (fun h _ i=>.tup (e _ _ h) i) (fun h _ i=>.lst (e.seq h) i) (fun h _ i=>.dT (e _ _ h) i) (fun h _ i=>.dK (e _ _ h) i) (fun h _ i=>.ins (e _ _ h) i) (fun _ i=>.fn i) .nil (fun _ _ a b=>.cons a b) .nil (fun _ _ a b=>.cons a b) .nil (fun _ _ a b=>.cons a b) .nil (fun _ _ a b=>.cons a b) h
theorem Reps.same (e:Same H H'){v:List V}{d:List D}(h:Reps K H v d):Reps K H' v d:=
 Reps.rec (motive_1:=fun v d _=>Rep K H' v d) (motive_2:=fun v d _=>Reps K H' v d) (motive_3:=fun v d _=>RepsT K H' v d) (motive_4:=fun v d _=>RepsK K H' v d) (motive_5:=fun v d _=>RepsF K H' v d) .non .bl .int .str (fun h _ i=>.tup (e _ _ h) i) (fun h _ i=>.lst (e.seq h) i) (fun h _ i=>.dT (e _ _ h) i) (fun h _ i=>.dK (e _ _ h) i) (fun h _ i=>.ins (e _ _ h) i) (fun _ i=>.fn i) .nil (fun _ _ a b=>.cons a b) .nil (fun _ _ a b=>.cons a b) .nil (fun _ _ a b=>.cons a b) .nil (fun _ _ a b=>.cons a b) h
theorem RepsT.same (e:Same H H'){v:List (List Key×V)}{d:List (List Key×D)}(h:RepsT K H v d):RepsT K H' v d:=
 RepsT.rec (motive_1:=fun v d _=>Rep K H' v d) (motive_2:=fun v d _=>Reps K H' v d) (motive_3:=fun v d _=>RepsT K H' v d) (motive_4:=fun v d _=>RepsK K H' v d) (motive_5:=fun v d _=>RepsF K H' v d) .non .bl .int .str (fun h _ i=>.tup (e _ _ h) i) (fun h _ i=>.lst (e.seq h) i) (fun h _ i=>.dT (e _ _ h) i) (fun h _ i=>.dK (e _ _ h) i) (fun h _ i=>.ins (e _ _ h) i) (fun _ i=>.fn i) .nil (fun _ _ a b=>.cons a b) .nil (fun _ _ a b=>.cons a b) .nil (fun _ _ a b=>.cons a b) .nil (fun _ _ a b=>.cons a b) h
theorem RepsK.same (e:Same H H'){v:List (Key×V)}{d:List (Key×D)}(h:RepsK K H v d):RepsK K H' v d:=
 RepsK.rec (motive_1:=fun v d _=>Rep K H' v d) (motive_2:=fun v d _=>Reps K H' v d) (motive_3:=fun v d _=>RepsT K H' v d) (motive_4:=fun v d _=>RepsK K H' v d) (motive_5:=fun v d _=>RepsF K H' v d) .non .bl .int .str (fun h _ i=>.tup (e _ _ h) i) (fun h _ i=>.lst (e.seq h) i) (fun h _ i=>.dT (e _ _ h) i) (fun h _ i=>.dK (e _ _ h) i) (fun h _ i=>.ins (e _ _ h) i) (fun _ i=>.fn i) .nil (fun _ _ a b=>.cons a b) .nil (fun _ _ a b=>.cons a b) .nil (fun _ _ a b=>.cons a b) .nil (fun _ _ a b=>.cons a b) h
theorem RepsF.same (e:Same H H'){v:List (Str×V)}{d:List (Str×D)}(h:RepsF K H v d):RepsF K H' v d:=
 RepsF.rec (motive_1:=fun v d _=>Rep K H' v d) (motive_2:=fun v d _=>Reps K H' v d) (motive_3:=fun v d _=>RepsT K H' v d) (motive_4:=fun v d _=>RepsK K H' v d) (motive_5:=fun v d _=>RepsF K H' v d) .non .bl .int .str (fun h _ i=>.tup (e _ _ h) i) (fun h _ i=>.lst (e.seq h) i) (fun h _ i=>.dT (e _ _ h) i) (fun h _ i=>.dK (e _ _ h) i) (fun h _ i=>.ins (e _ _ h) i) (fun _ i=>.fn i) .nil (fun _ _ a b=>.cons a b) .nil (fun _ _ a b=>.cons a b) .nil (fun _ _ a b=>.cons a b) .nil (fun _ _ a b=>.cons a b) h
end
section
variable {K:Kq} {H H':Hp}
theorem Reps.ind {M:List V→List D→Prop}(n:M [] [])(c:∀ {v:V} {d:D} {vs:List V} {ds:List D},Rep K H v d→Reps K H vs ds→M vs ds→M (v::vs) (d::ds)){vs:List V}{ds:List D}(h:Reps K H vs ds):M vs ds:=
 Reps.rec (motive_1:=fun _ _ _=>True) (motive_2:=fun vs ds _=>M vs ds) (motive_3:=fun _ _ _=>True) (motive_4:=fun _ _ _=>True) (motive_5:=fun _ _ _=>True) trivial trivial trivial trivial (fun _ _ _=>trivial) (fun _ _ _=>trivial) (fun _ _ _=>trivial) (fun _ _ _=>trivial) (fun _ _ _=>trivial) (fun _ _=>trivial) n (fun h q _ ih=>c h q ih) trivial (fun _ _ _ _=>trivial) trivial (fun _ _ _ _=>trivial) trivial (fun _ _ _ _=>trivial) h
theorem RepsT.ind {M:List (List Key×V)→List (List Key×D)→Prop}(n:M [] [])(c:∀ {k:List Key} {v:V} {d:D} {vs:List (List Key×V)} {ds:List (List Key×D)},Rep K H v d→RepsT K H vs ds→M vs ds→M ((k,v)::vs) ((k,d)::ds)){vs:List (List Key×V)}{ds:List (List Key×D)}(h:RepsT K H vs ds):M vs ds:=
 RepsT.rec (motive_1:=fun _ _ _=>True) (motive_2:=fun _ _ _=>True) (motive_3:=fun vs ds _=>M vs ds) (motive_4:=fun _ _ _=>True) (motive_5:=fun _ _ _=>True) trivial trivial trivial trivial (fun _ _ _=>trivial) (fun _ _ _=>trivial) (fun _ _ _=>trivial) (fun _ _ _=>trivial) (fun _ _ _=>trivial) (fun _ _=>trivial) trivial (fun _ _ _ _=>trivial) n (fun h q _ ih=>c h q ih) trivial (fun _ _ _ _=>trivial) trivial (fun _ _ _ _=>trivial) h
theorem RepsK.ind {M:List (Key×V)→List (Key×D)→Prop}(n:M [] [])(c:∀ {k:Key} {v:V} {d:D} {vs:List (Key×V)} {ds:List (Key×D)},Rep K H v d→RepsK K H vs ds→M vs ds→M ((k,v)::vs) ((k,d)::ds)){vs:List (Key×V)}{ds:List (Key×D)}(h:RepsK K H vs ds):M vs ds:=
 RepsK.rec (motive_1:=fun _ _ _=>True) (motive_2:=fun _ _ _=>True) (motive_3:=fun _ _ _=>True) (motive_4:=fun vs ds _=>M vs ds) (motive_5:=fun _ _ _=>True) trivial trivial trivial trivial (fun _ _ _=>trivial) (fun _ _ _=>trivial) (fun _ _ _=>trivial) (fun _ _ _=>trivial) (fun _ _ _=>trivial) (fun _ _=>trivial) trivial (fun _ _ _ _=>trivial) trivial (fun _ _ _ _=>trivial) n (fun h q _ ih=>c h q ih) trivial (fun _ _ _ _=>trivial) h
theorem RepsF.ind {M:List (Str×V)→List (Str×D)→Prop}(n:M [] [])(c:∀ {k:Str} {v:V} {d:D} {vs:List (Str×V)} {ds:List (Str×D)},Rep K H v d→RepsF K H vs ds→M vs ds→M ((k,v)::vs) ((k,d)::ds)){vs:List (Str×V)}{ds:List (Str×D)}(h:RepsF K H vs ds):M vs ds:=
 RepsF.rec (motive_1:=fun _ _ _=>True) (motive_2:=fun _ _ _=>True) (motive_3:=fun _ _ _=>True) (motive_4:=fun _ _ _=>True) (motive_5:=fun vs ds _=>M vs ds) trivial trivial trivial trivial (fun _ _ _=>trivial) (fun _ _ _=>trivial) (fun _ _ _=>trivial) (fun _ _ _=>trivial) (fun _ _ _=>trivial) (fun _ _=>trivial) trivial (fun _ _ _ _=>trivial) trivial (fun _ _ _ _=>trivial) trivial (fun _ _ _ _=>trivial) n (fun h q _ ih=>c h q ih) h
theorem Reps.length {vs:List V}{ds:List D}(h:Reps K H vs ds):vs.length=ds.length:=Reps.ind (M:=fun vs ds=>vs.length=ds.length) rfl (fun _ _ ih=>ZA Nat.succ ih) h
theorem Reps.get {vs:List V}{ds:List D}{i:Nat}{d:D}(h:Reps K H vs ds):ds[i]?=some d→∃ v,vs[i]?=some v∧Rep K H v d:=
 Reps.ind (M:=fun vs ds=>∀ i:Nat,ds[i]?=some d→∃ v,vs[i]?=some v∧Rep K H v d) (fun _ e=>nomatch e) (fun r _ ih i e=>by
  cases i with
  | zero=>obtain rfl:=Yt e;exact⟨_,rfl,r⟩
  | succ i=>exact ih i e) h i
theorem Reps.getV {vs:List V}{ds:List D}{i:Nat}{v:V}(h:Reps K H vs ds):vs[i]?=some v→∃ d,ds[i]?=some d∧Rep K H v d:=
 Reps.ind (M:=fun vs ds=>∀ i:Nat,vs[i]?=some v→∃ d,ds[i]?=some d∧Rep K H v d) (fun _ e=>nomatch e) (fun r _ ih i e=>by
  cases i with
  | zero=>obtain rfl:=Yt e;exact⟨_,rfl,r⟩
  | succ i=>exact ih i e) h i
theorem Reps.append {vs ws:List V}{ds es:List D}(h:Reps K H vs ds)(s:Reps K H ws es):Reps K H (vs++ws) (ds++es):=Reps.ind (M:=fun vs ds=>Reps K H (vs++ws) (ds++es)) s (fun r _ ih=>.cons r ih) h
theorem Reps.take {vs:List V}{ds:List D}(n:Nat)(h:Reps K H vs ds):Reps K H (vs.take n) (ds.take n):=Reps.ind (M:=fun vs ds=>∀ n,Reps K H (vs.take n) (ds.take n)) (fun n=>by cases n <;> exact .nil) (fun r _ ih n=>by
  cases n with
  | zero=>exact .nil
  | succ n=>exact .cons r (ih n)) h n
theorem Reps.drop {vs:List V}{ds:List D}(n:Nat)(h:Reps K H vs ds):Reps K H (vs.drop n) (ds.drop n):=Reps.ind (M:=fun vs ds=>∀ n,Reps K H (vs.drop n) (ds.drop n)) (fun n=>by cases n <;> exact .nil) (fun r q ih n=>by
  cases n with
  | zero=>exact .cons r q
  | succ n=>exact ih n) h n
theorem Reps.eraseIdx {vs:List V}{ds:List D}(i:Nat)(h:Reps K H vs ds):Reps K H (vs.eraseIdx i) (ds.eraseIdx i):=Reps.ind (M:=fun vs ds=>∀ i,Reps K H (vs.eraseIdx i) (ds.eraseIdx i)) (fun _=>.nil) (fun q t ih i=>by
  cases i with
  | zero=>exact t
  | succ i=>exact .cons q (ih i)) h i
theorem Reps.one {v:V}{d:D}(r:Rep K H v d):Reps K H [v] [d]:=.cons r .nil
theorem Reps.ints:∀ (ns:List Int),Reps K H (ns.map V.int) (ns.map D.int)
 | []=>.nil
 | _::r=>.cons .int (Reps.ints r)
end
inductive OD where
 | lst (ds:List D) | lst2 (dss:List (List D)) | tup2 (dss:List (List D)) | dT (kvs:List (List Key×D)) | dK (kvs:List (Key×D)) | ins (C:Addr) (fs:List (Str×D))
def OD.d:OD→D
 | .lst ds=>.lst ds
 | .lst2 dss=>.lst (dss.map .lst)
 | .tup2 dss=>.tup (dss.map .lst)
 | .dT kvs=>.dT kvs
 | .dK kvs=>.dK kvs
 | .ins C fs=>.ins C fs
def OD.flat:OD→Bool
 | .lst2 _=>false
 | .tup2 _=>false
 | _=>true
inductive All2 {α β:Type} (R:α→β→Prop):List α→List β→Prop
 | nil:All2 R [] []
 | cons {a:α} {b:β} {as:List α} {bs:List β}:R a b→All2 R as bs→All2 R (a::as) (b::bs)
theorem All2.imp {α β:Type}{R S:α→β→Prop}(f:∀ a b,R a b→S a b){as:List α}{bs:List β}(h:All2 R as bs):All2 S as bs:=by
 induction h with
 | nil=>exact .nil
 | cons h _ ih=>exact .cons (f _ _ h) ih
theorem All2.length {α β:Type}{R:α→β→Prop}{as:List α}{bs:List β}(h:All2 R as bs):as.length=bs.length:=by
 induction h with
 | nil=>rfl
 | cons _ _ ih=>exact ZA Nat.succ ih
def ORep1 (K:Kq)(F:Hp):OD→HO→Prop
 | .lst ds,.lst vs=>Reps K F vs ds
 | .dT ds,.dT vs=>RepsT K F vs ds
 | .dK ds,.dK vs=>RepsK K F vs ds
 | .ins C fs,.ins C' _ vs=>C=C'∧RepsF K F vs fs
 | _,_=>False
def ORep (K:Kq)(F H:Hp)(ow:Addr→Prop):OD→Addr→Prop
 | .lst2 dss,a=>ow a∧∃ bs,H a=some (.lst (bs.map .ref))∧(a::bs).Nodup∧All2 (fun b ds=>ow b∧∃ u,H b=some u∧ORep1 K F (.lst ds) u) bs dss
 | .tup2 dss,a=>ow a∧∃ bs,H a=some (.tup (bs.map .ref))∧(a::bs).Nodup∧All2 (fun b ds=>ow b∧∃ u,H b=some u∧ORep1 K F (.lst ds) u) bs dss
 | o,a=>ow a∧∃ u,H a=some u∧ORep1 K F o u
theorem ORep1.same {K:Kq}{F F':Hp}(e:Same F F'){o:OD}{u:HO}(h:ORep1 K F o u):ORep1 K F' o u:=by
 cases o <;> cases u <;> first | exact h.elim | exact Reps.same e h | exact RepsT.same e h | exact RepsK.same e h | exact⟨h.1,RepsF.same e h.2⟩
theorem ORep.flat {K:Kq}{F H:Hp}{ow:Addr→Prop}{o:OD}{a:Addr}(f:o.flat=true):ORep K F H ow o a↔ow a∧∃ u,H a=some u∧ORep1 K F o u:=by
 cases o <;> first | exact Iff.rfl | cases f
theorem ORep.mono {K:Kq}{F F' H H':Hp}{ow ow':Addr→Prop}{o:OD}{a:Addr}(e:Same F F')(k:∀ b u,ow b→H b=some u→H' b=some u∧ow' b)(h:ORep K F H ow o a):ORep K F' H' ow' o a:=by
 by_cases f:o.flat=true
 ·obtain⟨h1,u,h2,h3⟩:=(ORep.flat f).mp h
  obtain⟨k1,k2⟩:=k a u h1 h2
  exact (ORep.flat f).mpr ⟨k2,u,k1,h3.same e⟩
 ·cases o with
  | lst2 dss=>
   obtain⟨h1,bs,h2,h3,h4⟩:=h
   obtain⟨k1,k2⟩:=k a _ h1 h2
   exact⟨k2,bs,k1,h3,h4.imp fun b ds ⟨q1,u,q2,q3⟩=>by obtain⟨c1,c2⟩:=k b u q1 q2;exact⟨c2,u,c1,q3.same e⟩⟩
  | tup2 dss=>
   obtain⟨h1,bs,h2,h3,h4⟩:=h
   obtain⟨k1,k2⟩:=k a _ h1 h2
   exact⟨k2,bs,k1,h3,h4.imp fun b ds ⟨q1,u,q2,q3⟩=>by obtain⟨c1,c2⟩:=k b u q1 q2;exact⟨c2,u,c1,q3.same e⟩⟩
  | _=>exact absurd rfl f
theorem ORep1.rep {K:Kq}{F H:Hp}{o:OD}{u:HO}{a:Addr}(f:o.flat=true)(h:ORep1 K F o u)(hH:H a=some u)(e:Same F H):Rep K H (.ref a) o.d:=by
 cases o with
 | lst ds=>cases u with | lst vs=>exact .lst (SqL.of hH) (Reps.same e h) | _=>exact h.elim
 | dT ds=>cases u with | dT vs=>exact .dT hH (RepsT.same e h) | _=>exact h.elim
 | dK ds=>cases u with | dK vs=>exact .dK hH (RepsK.same e h) | _=>exact h.elim
 | ins C fs=>cases u with | ins C' dx vs=>(obtain⟨rfl,h⟩:=h;exact .ins hH (RepsF.same e h)) | _=>exact h.elim
 | lst2 _=>cases f
 | tup2 _=>cases f
theorem ORep.rep {K:Kq}{F H G:Hp}{ow:Addr→Prop}{o:OD}{a:Addr}(h:ORep K F H ow o a)(e:Same F G)(k:∀ b u,ow b→H b=some u→G b=some u):Rep K G (.ref a) o.d:=by
 by_cases f:o.flat=true
 ·obtain⟨h1,u,h2,h3⟩:=(ORep.flat f).mp h
  exact h3.rep f (k a u h1 h2) e
 ·cases o with
  | lst2 dss=>
   obtain⟨h1,bs,h2,h3,h4⟩:=h
   refine .lst (SqL.of (k a _ h1 h2)) ?_
   clear h2 h1 h3 f
   induction h4 with
   | nil=>exact .nil
   | cons q r ih=>
    obtain⟨q1,u,q2,q3⟩:=q
    exact .cons (q3.rep (o:=.lst _) rfl (k _ u q1 q2) e) ih
  | tup2 dss=>
   obtain⟨h1,bs,h2,h3,h4⟩:=h
   refine .tup (k a _ h1 h2) ?_
   clear h2 h1 h3 f
   induction h4 with
   | nil=>exact .nil
   | cons q r ih=>
    obtain⟨q1,u,q2,q3⟩:=q
    exact .cons (q3.rep (o:=.lst _) rfl (k _ u q1 q2) e) ih
  | _=>exact absurd rfl f
inductive DV where
 | v (d:D) | own (o:OD) (t:Option Addr) | bor (o:OD)
abbrev DF:=List (Option DV)
def DVRep (K:Kq)(P F H:Hp)(ow:Addr→Prop):DV→V→Prop
 | .v d,x=>Rep K F x d
 | .own o t,x=>∃ a,x=.ref a∧ORep K F H (fun b=>F b=none∧P b=none∧ow b) o a∧∀ b,t=some b→b=a
 | .bor o,x=>∃ a,x=.ref a∧ORep K F P (fun _=>True) o a
def ia:Addr→Prop:=fun _=>True
structure DHp (P F H:Hp):Prop where
 sub:Same F H
 pro:Same P H
 dis:∀ a o,P a=some o→F a=none
structure DInv (K:PySem.W.Frag) (P F H:Hp) (ρ:DF) (σ:St):Prop extends DHp P F H where
 len:ρ.length=σ.length
 rep:∃ O:Addr→Option Nat,∀ (i:Nat) (x:DV),ρ[i]?=some (some x)→∃ v,σ[i]?=some (some v)∧DVRep K P F H (fun b=>O b=some i) x v
structure Evo (P F H F' H':Hp):Prop where
 ext:Same F F'
 hp:DHp P F' H'
 keep:∀ a o,H a=some o→F a=none→H' a=some o∧F' a=none
theorem Evo.same {P F H F' H':Hp}(h:DHp P F H)(e:Evo P F H F' H'):Same H H':=fun a o q=>by
 cases c:F a with
 | none=>exact (e.keep a o q c).1
 | some u=>
  have:=h.sub a u c
  rw[q] at this
  cases this
  exact e.hp.sub a o (e.ext a o c)
theorem DVRep.evo {K:Kq}{P F H F' H':Hp}{ow:Addr→Prop}(e:Evo P F H F' H'){x:DV}{v:V}(r:DVRep K P F H ow x v):DVRep K P F' H' ow x v:=by
 cases x with
 | v d=>exact Rep.same e.ext r
 | own o t=>
  obtain⟨a,rfl,h,ht⟩:=r
  exact⟨a,rfl,h.mono e.ext fun b u ⟨q1,q2,q3⟩ hb=>by (obtain⟨k1,k2⟩:=e.keep b u hb q1;exact⟨k1,k2,q2,q3⟩),ht⟩
 | bor o=>
  obtain⟨a,rfl,h⟩:=r
  exact⟨a,rfl,h.mono e.ext fun b u q hb=>⟨hb,q⟩⟩
theorem DVRep.imp {K:Kq}{P F H:Hp}{ow ow':Addr→Prop}(f:∀ b u,F b=none→P b=none→H b=some u→ow b→ow' b){x:DV}{v:V}(r:DVRep K P F H ow x v):DVRep K P F H ow' x v:=by
 cases x with
 | v d=>exact r
 | own o t=>
  obtain⟨a,rfl,h,ht⟩:=r
  exact⟨a,rfl,h.mono (Same.refl _) fun b u ⟨q1,q2,q3⟩ hb=>⟨hb,q1,q2,f b u q1 q2 hb q3⟩,ht⟩
 | bor o=>exact r
theorem DInv.evo {K:Kq}{P F H F' H':Hp}{ρ:DF}{σ:St}(I:DInv K P F H ρ σ)(e:Evo P F H F' H'):DInv K P F' H' ρ σ:=
 ⟨e.hp,I.len,by obtain⟨O,h⟩:=I.rep;exact⟨O,fun i x hx=>by obtain⟨v,h1,h2⟩:=h i x hx;exact⟨v,h1,h2.evo e⟩⟩⟩
theorem DInv.at {K:Kq}{P F H:Hp}{ρ:DF}{σ:St}(I:DInv K P F H ρ σ){i:Nat}{x:DV}(h:ρ[i]?=some (some x)):∃ v,σ[i]?=some (some v)∧DVRep K P F H ia x v:=by
 obtain⟨O,k⟩:=I.rep
 obtain⟨v,h1,h2⟩:=k i x h
 exact⟨v,h1,h2.imp fun _ _ _ _ _ _=>trivial⟩
theorem Evo.refl {P F H:Hp}(h:DHp P F H):Evo P F H F H:=⟨Same.refl _,h,fun _ _ a b=>⟨a,b⟩⟩
theorem Evo.trans {P F H F1 H1 F2 H2:Hp}(a:Evo P F H F1 H1)(b:Evo P F1 H1 F2 H2):Evo P F H F2 H2:=
 ⟨a.ext.trans b.ext,b.hp,fun c o h n=>by obtain⟨h1,n1⟩:=a.keep c o h n;exact b.keep c o h1 n1⟩
theorem Evo.laid {P F H:Hp}(h:DHp P F H){a:Addr}{o:HO}(hn:H a=none):Evo P F H (upd F a o) (upd H a o) where
 ext:=fun b u e=>by rw[ap (fun z=>by subst z;rw[h.sub _ _ e] at hn;cases hn)];exact e
 hp:=⟨fun b u e=>by
   by_cases hb:b=a
   ·subst hb;rw[aq] at e ⊢;exact e
   ·rw[ap hb] at e ⊢;exact h.sub b u e,
  fun b u e=>by rw[ap (fun z=>by subst z;rw[h.pro _ _ e] at hn;cases hn)];exact h.pro b u e,
  fun b u e=>by rw[ap (fun z=>by subst z;rw[h.pro _ _ e] at hn;cases hn)];exact h.dis b u e⟩
 keep:=fun b u e n=>by
  have hb:b≠a:=fun z=>by subst z;rw[e] at hn;cases hn
  rw[ap hb,ap hb];exact⟨e,n⟩
theorem Evo.side {P F H:Hp}(h:DHp P F H){a:Addr}{o:HO}(hn:H a=none):Evo P F H F (upd H a o) where
 ext:=Same.refl _
 hp:=⟨fun b u e=>by rw[ap (fun z=>by subst z;rw[h.sub _ _ e] at hn;cases hn)];exact h.sub b u e,
  fun b u e=>by rw[ap (fun z=>by subst z;rw[h.pro _ _ e] at hn;cases hn)];exact h.pro b u e,h.dis⟩
 keep:=fun b u e n=>by
  have hb:b≠a:=fun z=>by subst z;rw[e] at hn;cases hn
  rw[ap hb];exact⟨e,n⟩
theorem DHp.free {P F H:Hp}(h:DHp P F H){a:Addr}(hn:H a=none):F a=none∧P a=none:=⟨h.sub.free hn,h.pro.free hn⟩
def RepS (K:Kq)(H F:Hp)(v:V)(d:D):Prop:=
 Rep K F v d∨∃ (a:Addr) (o:OD) (u:HO),v=.ref a∧F a=none∧H a=some u∧ORep1 K F o u∧o.flat=true∧d=o.d
theorem RepS.evo {K:Kq}{P F H F' H':Hp}{v:V}{d:D}(r:RepS K H F v d)(e:Evo P F H F' H'):RepS K H' F' v d:=
 r.imp (Rep.same e.ext) fun ⟨a,o,u,h1,h2,h3,h4,h5⟩=>⟨a,o,u,h1,(e.keep a u h3 h2).2,(e.keep a u h3 h2).1,h4.same e.ext,h5⟩
theorem DInv.slot {K:Kq}{P F H:Hp}{ρ:DF}{σ:St}(I:DInv K P F H ρ σ){i:Nat}{o:OD}{v:V}(hv:σ[i]?=some (some v))(h:(∃ t,ρ[i]?=some (some (.own o t)))∨ρ[i]?=some (some (.bor o))):∃ a,v=.ref a∧ORep K F H (fun b=>F b=none) o a:=by
 rcases h with⟨t,h⟩ | h
 ·obtain⟨v',h1,a,rfl,h2,_⟩:=I.at h
  rw[hv] at h1;cases h1
  exact⟨a,rfl,h2.mono (Same.refl _) fun b u q hb=>⟨hb,q.1⟩⟩
 ·obtain⟨v',h1,a,rfl,h2⟩:=I.at h
  rw[hv] at h1;cases h1
  exact⟨a,rfl,h2.mono (Same.refl _) fun b u q hb=>⟨I.pro b u hb,I.dis b u hb⟩⟩
theorem RepS.now {K:Kq}{F H:Hp}{v:V}{d:D}(I:Same F H)(r:RepS K H F v d):Rep K H v d:=by
 rcases r with r | ⟨a,o,u,rfl,_,h3,h4,hfl,rfl⟩
 ·exact r.same I
 ·exact h4.rep hfl h3 I
theorem RepS.slot {K:Kq}{P F H:Hp}{ρ:DF}{σ:St}(I:DInv K P F H ρ σ){i:Nat}{o:OD}{v:V}(hv:σ[i]?=some (some v))(h:(∃ t,ρ[i]?=some (some (.own o t)))∨ρ[i]?=some (some (.bor o)))(hfl:o.flat=true):RepS K H F v o.d:=by
 obtain⟨a,rfl,h2⟩:=I.slot hv h
 obtain⟨h3,u,h4,h5⟩:=(ORep.flat hfl).mp h2
 exact .inr ⟨a,o,u,rfl,h3,h4,h5,hfl,rfl⟩
def tD (K:Kq)(f:DF→Option D):TE:=fun σ H Q=>∃ P F ρ d,f ρ=some d∧DInv K P F H ρ σ∧∀ v F' H',Evo P F H F' H'→Rep K F' v d→Q v H'
def tR (K:Kq)(f:DF→Option D):TE:=fun σ H Q=>∃ P F ρ d,f ρ=some d∧DInv K P F H ρ σ∧∀ v F' H',Evo P F H F' H'→RepS K H' F' v d→Q v H'
def tN (K:Kq)(f:DF→Option D):TE:=fun σ H Q=>∃ P F ρ d,f ρ=some d∧DInv K P F H ρ σ∧∀ v F' H',Evo P F H F' H'→Rep K H' v d→Q v H'
def tB' (K:Kq)(f:DF→Option Bool):TT:=fun σ H Q=>∃ P F ρ b,f ρ=some b∧DInv K P F H ρ σ∧∀ F' H',Evo P F H F' H'→Q b H'
def tL (K:Kq)(f:DF→Option (List D)):TA:=fun σ H Q=>∃ P F ρ ds,f ρ=some ds∧DInv K P F H ρ σ∧∀ vs F' H',Evo P F H F' H'→Reps K F' vs ds→Q vs H'
def PDE (X:Cx)(e:Expr)(f:DF→Option D):Prop:=PE X e (tD X.K f)
def PDR (X:Cx)(e:Expr)(f:DF→Option D):Prop:=PE X e (tR X.K f)
def PDN (X:Cx)(e:Expr)(f:DF→Option D):Prop:=PE X e (tN X.K f)
def PDT (X:Cx)(e:Expr)(f:DF→Option Bool):Prop:=PT X e (tB' X.K f)
def PDA (X:Cx)(es:List Expr)(f:DF→Option (List D)):Prop:=PA X es (tL X.K f)
section
variable {X:Cx} {e a b c:Expr} {es:List Expr} {pos:Pos}
theorem PE.imp {t t':TE}(h:PE X e t)(i:∀ σ H Q,t' σ H Q→t σ H Q):PE X e t':=fun pz s σ H Q I q=>h pz s σ H Q I (i σ H Q q)
theorem PT.imp {t t':TT}(h:PT X e t)(i:∀ σ H Q,t' σ H Q→t σ H Q):PT X e t':=fun pz s σ H Q I q=>h pz s σ H Q I (i σ H Q q)
theorem PA.imp {t t':TA}(h:PA X es t)(i:∀ σ H Q,t' σ H Q→t σ H Q):PA X es t':=fun pos pz s σ H Q I q=>h pos pz s σ H Q I (i σ H Q q)
def getV (i:Nat)(ρ:DF):Option D:=match ρ[i]? with
 | some (some (.v d))=>some d
 | _=>none
def ag (i:Nat)(ρ:DF):Option D:=match ρ[i]? with
 | some (some (.v d))=>some d
 | some (some (.own o _))=>if o.flat=true then some o.d else none
 | some (some (.bor o))=>if o.flat=true then some o.d else none
 | _=>none
def ak (i:Nat)(ρ:DF):Option D:=match ρ[i]? with
 | some (some (.v d))=>some d
 | some (some (.own o _))=>some o.d
 | some (some (.bor o))=>some o.d
 | _=>none
theorem oh {i:Nat}{ρ:DF}{d:D}(h:getV i ρ=some d):ρ[i]?=some (some (.v d)):=by
 unfold getV at h
 split at h
 ·rename_i q;cases h;exact q
 ·cases h
theorem ao (i:Nat)(h:PE X e (cA i)):PDE X e (getV i):=h.imp fun σ H Q=>un7 fun P F ρ d hf I k=>by
 obtain⟨v,h1,h2⟩:=I.at (oh hf)
 exact⟨v,h1,k v F H (Evo.refl I.toDHp) h2⟩
theorem ac (i:Nat)(h:PE X e (cA i)):PDR X e (ag i):=h.imp fun σ H Q=>un7 fun P F ρ d hf I k=>by
 unfold ag at hf
 split at hf
 ·rename_i d' q
  cases hf
  obtain⟨v,h1,h2⟩:=I.at q
  exact⟨v,h1,k v F H (Evo.refl I.toDHp) (.inl h2)⟩
 ·rename_i o t q
  split at hf
  ·rename_i hfl
   cases hf
   obtain⟨v,h1,h2⟩:=I.at q
   exact⟨v,h1,k v F H (Evo.refl I.toDHp) (RepS.slot I h1 (.inl ⟨t,q⟩) hfl)⟩
  ·cases hf
 ·rename_i o q
  split at hf
  ·rename_i hfl
   cases hf
   obtain⟨v,h1,h2⟩:=I.at q
   exact⟨v,h1,k v F H (Evo.refl I.toDHp) (RepS.slot I h1 (.inr q) hfl)⟩
  ·cases hf
 ·cases hf
theorem au (i:Nat)(h:PE X e (cA i)):PDN X e (ak i):=h.imp fun σ H Q=>un7 fun P F ρ d hf I k=>by
 unfold ak at hf
 split at hf
 ·rename_i d' q
  cases hf
  obtain⟨v,h1,h2⟩:=I.at q
  exact⟨v,h1,k v F H (Evo.refl I.toDHp) (Rep.same I.sub h2)⟩
 ·rename_i o t q
  cases hf
  obtain⟨v,h1,_⟩:=I.at q
  obtain⟨a,rfl,h2⟩:=I.slot h1 (.inl ⟨t,q⟩)
  exact⟨_,h1,k _ F H (Evo.refl I.toDHp) (h2.rep I.sub fun _ _ _ q=>q)⟩
 ·rename_i o q
  cases hf
  obtain⟨v,h1,_⟩:=I.at q
  obtain⟨a,rfl,h2⟩:=I.slot h1 (.inr q)
  exact⟨_,h1,k _ F H (Evo.refl I.toDHp) (h2.rep I.sub fun _ _ _ q=>q)⟩
 ·cases hf
theorem PDE.r {f:DF→Option D}(h:PDE X e f):PDR X e f:=PE.imp h fun σ H Q=>un7 fun P F ρ d hf I k=>⟨P,F,ρ,d,hf,I,fun v F' H' ev r=>k v F' H' ev (.inl r)⟩
theorem PDR.n {f:DF→Option D}(h:PDR X e f):PDN X e f:=PE.imp h fun σ H Q=>un7 fun P F ρ d hf I k=>⟨P,F,ρ,d,hf,I,fun v F' H' ev r=>k v F' H' ev (r.now ev.hp.sub)⟩
theorem PDE.n {f:DF→Option D}(h:PDE X e f):PDN X e f:=h.r.n
theorem nQ {d:D}{v:V}(h:PE X e (tC v))(r:∀ F,Rep X.K F v d):PDE X e (fun _=>some d):=h.imp fun σ H Q=>un7 fun P F ρ d' hf I k=>by
 cases hf
 exact k v F H (Evo.refl I.toDHp) (r F)
theorem aa {i j p}:PDE X (.Constant (.int i) j p) (fun _=>some (.int i)):=nQ qE fun _=>.int
theorem dA {i j p}:PDE X (.Constant (.bool i) j p) (fun _=>some (.bl i)):=nQ zC fun _=>.bl
theorem kd {i j p}:PDE X (.Constant (.str i) j p) (fun _=>some (.str i)):=nQ vZ fun _=>.str
def OpN2 (K:Kq)(r:R2)(f:D→D→Option D):Prop:=
 ∀ (P F H:Hp) (x y:V) (dx dy d:D) (Q:VK),f dx dy=some d→DHp P F H→Rep K H x dx→Rep K H y dy→(∀ v F' H',Evo P F H F' H'→Rep K F' v d→Q v H')→r x y H Q
def d2 (f:D→D→Option D)(fa fb:DF→Option D):DF→Option D:=fun ρ=>(fa ρ).bind fun x=>(fb ρ).bind fun y=>f x y
theorem mm {K:Kq}{r:R2}{f:D→D→Option D}{fa fb:DF→Option D}(ho:OpN2 K r f):∀ σ H Q,tD K (d2 f fa fb) σ H Q→tOp r (tN K fa) (tN K fb) σ H Q:=fun σ H Q=>un7 fun P F ρ d hf I k=>by
 unfold d2 at hf
 cases ha:fa ρ with
 | none=>rw[ha] at hf;cases hf
 | some dx=>
  rw[ha] at hf
  cases hb:fb ρ with
  | none=>rw[Ya,hb] at hf;cases hf
  | some dy=>
   rw[Ya,hb,Ya] at hf
   refine⟨P,F,ρ,dx,ha,I,fun x F1 H1 e1 rx=>⟨P,F1,ρ,dy,hb,I.evo e1,fun y F2 H2 e2 ry=>?_⟩⟩
   exact ho P F2 H2 x y dx dy d Q hf e2.hp (rx.same (e2.same e1.hp)) ry fun v F3 H3 e3 rv=>k v F3 H3 ((e1.trans e2).trans e3) rv
theorem mZ {op:CmpOp}{r:R2}{f:D→D→Option D}{fa fb:DF→Option D}(ho:OpR X (compareOp op) r)(hf:OpN2 X.K r f)(ha:PDN X a fa)(hb:PDN X b fb)(hm:behindInMarks op b=false):PDE X (.Compare a [op] [b] pos) (d2 f fa fb):=
 (tJ ho ha hb hm).imp (mm hf)
def nz (K:Kq)(r:R2)(f:D→D→Option D):Prop:=
 ∀ (P F H:Hp) (ρ:DF) (σ:St) (x y:V) (dx dy d:D) (Q:VK),f dx dy=some d→DInv K P F H ρ σ→RepS K H F x dx→RepS K H F y dy→(∀ v F' H',Evo P F H F' H'→Rep K F' v d→Q v H')→r x y H Q
theorem mD {K:Kq}{r:R2}{f:D→D→Option D}{fa fb:DF→Option D}(ho:nz K r f):∀ σ H Q,tD K (d2 f fa fb) σ H Q→tOp r (tR K fa) (tR K fb) σ H Q:=fun σ H Q=>un7 fun P F ρ d hf I k=>by
 unfold d2 at hf
 cases ha:fa ρ with
 | none=>rw[ha] at hf;cases hf
 | some dx=>
  rw[ha] at hf
  cases hb:fb ρ with
  | none=>rw[Ya,hb] at hf;cases hf
  | some dy=>
   rw[Ya,hb,Ya] at hf
   refine⟨P,F,ρ,dx,ha,I,fun x F1 H1 e1 rx=>⟨P,F1,ρ,dy,hb,I.evo e1,fun y F2 H2 e2 ry=>?_⟩⟩
   exact ho P F2 H2 ρ σ x y dx dy d Q hf ((I.evo e1).evo e2) (rx.evo e2) ry fun v F3 H3 e3 rv=>k v F3 H3 ((e1.trans e2).trans e3) rv
theorem fY {op:Operator}{r:R2}{f:D→D→Option D}{fa fb:DF→Option D}(ho:OpR X (binaryOp op) r)(hf:nz X.K r f)(ha:PDR X a fa)(hb:PDR X b fb):PDE X (.BinOp a op b pos) (d2 f fa fb):=
 (vH ho ha hb).imp (mD hf)
def asB (f:DF→Option D):DF→Option Bool:=fun ρ=>match f ρ with
 | some (.bl b)=>some b
 | _=>none
theorem nA {f:DF→Option D}{ρ:DF}{b:Bool}(h:asB f ρ=some b):f ρ=some (.bl b):=by
 unfold asB at h
 split at h
 ·rename_i q;cases h;exact q
 ·cases h
theorem dW {K:Kq}{t:TE}{f:DF→Option D}(h:∀ σ H Q,tD K f σ H Q→t σ H Q):∀ σ H Q,tB' K (asB f) σ H Q→sd t σ H Q:=fun σ H Q=>un7 fun P F ρ b hf I k=>by
 refine h σ H _ ⟨P,F,ρ,.bl b,nA hf,I,fun v F' H' ev r=>?_⟩
 cases r
 exact⟨b,rfl,k F' H' ev⟩
theorem nG {op:CmpOp}{r:R2}{f:D→D→Option D}{fa fb:DF→Option D}(ho:OpR X (compareOp op) r)(hf:nz X.K r f)(ha:PDR X a fa)(hb:PDR X b fb)(hm:behindInMarks op b=false):PDT X (.Compare a [op] [b] pos) (asB (d2 f fa fb)):=
 (oB ho ha hb hm).imp (dW (mD hf))
theorem gz {op:CmpOp}{r:R2}{f:D→D→Option D}{fa fb:DF→Option D}(ho:OpR X (compareOp op) r)(hf:OpN2 X.K r f)(ha:PDN X a fa)(hb:PDN X b fb)(hm:behindInMarks op b=false):PDT X (.Compare a [op] [b] pos) (asB (d2 f fa fb)):=
 (oB ho ha hb hm).imp (dW (mm hf))
theorem cg {f:DF→Option D}(h:PDE X e f)(he:∀ whole,isTrue e X.env whole=(do let v ← whole;standAt e.pos;holding [v] (truthy v)):=by intro _;rfl):PDT X e (asB f):=
 (sI h he).imp (dW (t:=tD X.K f) fun _ _ _ q=>q)
theorem bK {K:Kq}{H F:Hp}{x:V}{i:Int}(r:RepS K H F x (.int i)):x=.int i:=by
 rcases r with r | ⟨_,o,_,_,_,_,_,_,z⟩
 ·cases r;rfl
 ·cases o <;> cases z
theorem gA {K:Kq}{H F:Hp}{x:V}{i:Str}(r:RepS K H F x (.str i)):x=.str i:=by
 rcases r with r | ⟨_,o,_,_,_,_,_,_,z⟩
 ·cases r;rfl
 ·cases o <;> cases z
theorem cb {K:Kq}{P F H:Hp}{ρ:DF}{σ:St}{x:V}{ds:List D}(I:DInv K P F H ρ σ)(r:RepS K H F x (.lst ds)):∃ a vs,x=.ref a∧SqL K H a vs∧Reps K F vs ds:=by
 rcases r with r | ⟨a,o,u,rfl,_,h3,h4,hfl,z⟩
 ·cases r with | lst h q=>exact⟨_,_,rfl,I.sub.seq h,q⟩
 ·cases o with
  | lst ds'=>
   cases z
   cases u with
   | lst vs=>exact⟨a,vs,rfl,SqL.of h3,h4⟩
   | _=>exact h4.elim
  | lst2 _=>cases hfl
  | tup2 _=>cases hfl
  | _=>cases z
theorem fj {K:Kq}{P F H:Hp}{ρ:DF}{σ:St}{x:V}{ds:List D}(I:DInv K P F H ρ σ)(r:RepS K H F x (.tup ds)):∃ a vs,x=.ref a∧SqT K H a vs∧Reps K F vs ds:=by
 rcases r with r | ⟨a,o,u,rfl,_,h3,h4,hfl,z⟩
 ·cases r with | tup h q=>exact⟨_,_,rfl,SqT.of (I.sub _ _ h),q⟩
 ·cases o <;> first | (cases z;done) | cases hfl
theorem ml {K:Kq}{P F H:Hp}{ρ:DF}{σ:St}{x:V}{ds:List (List Key×D)}(I:DInv K P F H ρ σ)(r:RepS K H F x (.dT ds)):∃ a vs,x=.ref a∧H a=some (.dT vs)∧RepsT K F vs ds:=by
 rcases r with r | ⟨a,o,u,rfl,_,h3,h4,hfl,z⟩
 ·cases r with | dT h q=>exact⟨_,_,rfl,I.sub _ _ h,q⟩
 ·cases o with
  | dT ds'=>
   cases z
   cases u with
   | dT vs=>exact⟨a,vs,rfl,h3,h4⟩
   | _=>exact h4.elim
  | lst2 _=>cases hfl
  | tup2 _=>cases hfl
  | _=>cases z
theorem jV {K:Kq}{P F H:Hp}{ρ:DF}{σ:St}{x:V}{C:Addr}{fs:List (Str×D)}(I:DInv K P F H ρ σ)(r:RepS K H F x (.ins C fs)):∃ a dx vs,x=.ref a∧H a=some (.ins C dx vs)∧RepsF K F vs fs:=by
 rcases r with r | ⟨a,o,u,rfl,_,h3,h4,hfl,z⟩
 ·cases r with | ins h q=>exact⟨_,_,_,rfl,I.sub _ _ h,q⟩
 ·cases o with
  | ins C' fs'=>
   cases z
   cases u with
   | ins C'' dx vs=>(obtain⟨rfl,h4⟩:=h4;exact⟨a,dx,vs,rfl,h3,h4⟩)
   | _=>exact h4.elim
  | lst2 _=>cases hfl
  | tup2 _=>cases hfl
  | _=>cases z
def fI (C:Int→Int→Bool)(g:Int→Int→D):D→D→Option D
 | .int i,.int j=>if C i j=true then some (g i j) else none
 | _,_=>none
theorem jU {K:Kq}{C:Int→Int→Prop}{C':Int→Int→Bool}{g:Int→Int→V}{g':Int→Int→D}(hC:∀ i j,C' i j=true→C i j)(hg:∀ F i j,Rep K F (g i j) (g' i j)):nz K (rI C g) (fI C' g'):=by
 intro P F H ρ σ x y dx dy d Q hf I rx ry k
 unfold fI at hf
 split at hf
 ·rename_i i j
  split at hf
  ·rename_i hc
   cases hf
   exact⟨i,j,bK rx,bK ry,hC i j hc,k _ F H (Evo.refl I.toDHp) (hg F i j)⟩
  ·cases hf
 ·cases hf
def fI0 (g:Int→Int→D):D→D→Option D
 | .int i,.int j=>some (g i j)
 | _,_=>none
theorem jS {K:Kq}{g:Int→Int→V}{g':Int→Int→D}(hg:∀ F i j,Rep K F (g i j) (g' i j)):nz K (rI0 g) (fI0 g'):=by
 intro P F H ρ σ x y dx dy d Q hf I rx ry k
 unfold fI0 at hf
 split at hf
 ·rename_i i j
  cases hf
  exact⟨i,j,bK rx,bK ry,k _ F H (Evo.refl I.toDHp) (hg F i j)⟩
 ·cases hf
def ki:=fI0 fun i j=>.int (i-j)
def cV:=fI (fun i j=>decide ((-(2 ^ 64)<i∧i<2 ^ 64)∨(-(2 ^ 64)<j∧j<2 ^ 64))) fun i j=>.int (i*j)
def br:=fI (fun _ j=>decide (0<j∧j<1073741824)) fun i j=>.int (i/j)
def aP:=fI (fun _ j=>decide (0<j)) fun i j=>.int (i%j)
def ly:=fI (fun i j=>decide (0≤j∧j≤1000000∧i.natAbs<2 ^ 64)) fun i j=>.int (i ^ j.toNat)
def ltI:=fI0 fun i j=>.bl (decide (i<j))
def leI:=fI0 fun i j=>.bl (decide (i≤j))
def gtI:=fI0 fun i j=>.bl (decide (j<i))
theorem ms {fa fb:DF→Option D}(ha:PDR X a fa)(hb:PDR X b fb):PDE X (.BinOp a .Sub b pos) (d2 ki fa fb):=fY v9 (jS fun _ _ _=>.int) ha hb
theorem dq {fa fb:DF→Option D}(ha:PDR X a fa)(hb:PDR X b fb):PDE X (.BinOp a .Mult b pos) (d2 cV fa fb):=fY wm (jU (fun _ _ h=>by have q:=Zw h;exact q) fun _ _ _=>.int) ha hb
theorem bU {fa fb:DF→Option D}(ha:PDR X a fa)(hb:PDR X b fb):PDE X (.BinOp a .FloorDiv b pos) (d2 br fa fb):=fY t_ (jU (fun _ _ h=>by have q:=Zw h;exact q) fun _ _ _=>.int) ha hb
theorem aN {fa fb:DF→Option D}(ha:PDR X a fa)(hb:PDR X b fb):PDE X (.BinOp a .Mod b pos) (d2 aP fa fb):=fY xU (jU (fun _ _ h=>by have q:=Zw h;exact q) fun _ _ _=>.int) ha hb
theorem iP {fa fb:DF→Option D}(ha:PDR X a fa)(hb:PDR X b fb):PDE X (.BinOp a .Pow b pos) (d2 ly fa fb):=fY xi (jU (fun _ _ h=>by have q:=Zw h;exact q) fun _ _ _=>.int) ha hb
end
def tO (K:Kq)(f:DF→Option OD):TE:=fun σ H Q=>∃ P F ρ o,f ρ=some o∧DInv K P F H ρ σ ∧
 ∀ a F' H',Evo P F H F' H'→ORep K F' H' (fun b=>H b=none∧F' b=none) o a→Q (.ref a) H'
def PDO (X:Cx)(e:Expr)(f:DF→Option OD):Prop:=PE X e (tO X.K f)
def asO (f:DF→Option OD):DF→Option D:=fun ρ=>(f ρ).map OD.d
theorem Evo.back {P F H F' H':Hp}(h:DHp P F H)(e:Evo P F H F' H'){a:Addr}(n:H' a=none):H a=none:=by
 cases q:H a with
 | none=>rfl
 | some o=>rw[e.same h a o q] at n;cases n
open Classical in
noncomputable def pA (F H:Hp)(ow:Addr→Prop):Hp:=fun b=>if ow b then H b else F b
theorem bX {F H:Hp}{ow:Addr→Prop}{b:Addr}(h:ow b):pA F H ow b=H b:=Yf h
theorem cy {F H:Hp}{ow:Addr→Prop}{b:Addr}(h:¬ ow b):pA F H ow b=F b:=Yh h
theorem a9 {F H:Hp}{ow:Addr→Prop}(h:∀ b,ow b→F b=none):Same F (pA F H ow):=fun b u e=>by
 by_cases q:ow b
 ·rw[h b q] at e;cases e
 ·rw[cy q];exact e
theorem Evo.freeze {P F H F' H':Hp}(h0:DHp P F H)(e:Evo P F H F' H')(ow:Addr→Prop)(hn:∀ b,ow b→H b=none∧F' b=none):Evo P F H (pA F' H' ow) H' where
 ext:=e.ext.trans (a9 fun b q=>(hn b q).2)
 hp:=⟨fun b u h=>by
   by_cases q:ow b
   ·rw[bX q] at h;exact h
   ·rw[cy q] at h;exact e.hp.sub b u h,e.hp.pro,fun b u h=>by
   rw[cy fun q=>by rw[(h0.pro.free (hn b q).1)] at h;cases h];exact e.hp.dis b u h⟩
 keep:=fun b u h n=>by
  obtain⟨k1,k2⟩:=e.keep b u h n
  refine⟨k1,?_⟩
  rw[cy fun q=>by rw[(hn b q).1] at h;cases h]
  exact k2
theorem eS {F:Hp}{a:Addr}{o:HO}(h:F a=none):Same F (upd F a o):=fun b u e=>by rw[ap (aD e h)];exact e
section
variable {X:Cx} {e:Expr} {es:List Expr} {st:Stmt} {sts bn:List Stmt} {pos:Pos}
theorem PDO.v {f:DF→Option OD}(h:PDO X e f):PDE X e (asO f):=PE.imp h fun σ H Q=>un7 fun P F ρ d hf I k=>by
 unfold asO at hf
 cases q:f ρ with
 | none=>rw[q] at hf;cases hf
 | some o=>
  rw[q] at hf
  cases hf
  refine⟨P,F,ρ,o,q,I,fun a F' H' ev ho=>?_⟩
  have hn:∀ b,(H b=none∧F' b=none)→H b=none∧F' b=none:=fun _ q=>q
  exact k (.ref a) _ H' (ev.freeze I.toDHp (fun b=>H b=none∧F' b=none) hn) (ho.rep (a9 fun b q=>q.2) fun b u q hb=>by rw[bX q];exact hb)
def asL (f:DF→Option (List D)):DF→Option OD:=fun ρ=>(f ρ).map .lst
inductive RES where
 | nx (ρ:DF) | rt (x:DV) (ρ:DF) | bk (ρ:DF) | ct (ρ:DF)
abbrev Dd:=DF→Option D
abbrev Dw:=DF→Option RES
abbrev Dk:=DF→Option Bool
abbrev Dv:=DF→Option (List DV)
abbrev Dl:=DF→Option (List D)
abbrev Dm:=List DV→Option DV
abbrev Dq:=D→DF→Option DF
abbrev Do:=DF→Option OD
abbrev Dz:=OD→List DV→Option (OD×D)
abbrev Dy:=D→D→Option D
def EndsD (K:Kq)(P F:Hp)(E:Ends):RES→Prop
 | .nx ρ=>∀ σ F' H',Same F F'→DInv K P F' H' ρ σ→E.nx σ H'
 | .bk ρ=>∀ σ F' H',Same F F'→DInv K P F' H' ρ σ→E.bk σ H'
 | .ct ρ=>∀ σ F' H',Same F F'→DInv K P F' H' ρ σ→E.ct σ H'
 | .rt x ρ=>∀ v σ F' H',Same F F'→DInv K P F' H' ρ σ→DVRep K P F' H' ia x v→E.rt v H'
theorem EndsD.ext {K:Kq}{P F F1:Hp}{E:Ends}{r:RES}(h:EndsD K P F E r)(e:Same F F1):EndsD K P F1 E r:=by
 cases r with
 | nx ρ=>exact fun σ F' H' e' I=>h σ F' H' (e.trans e') I
 | bk ρ=>exact fun σ F' H' e' I=>h σ F' H' (e.trans e') I
 | ct ρ=>exact fun σ F' H' e' I=>h σ F' H' (e.trans e') I
 | rt x ρ=>exact fun v σ F' H' e' I r=>h v σ F' H' (e.trans e') I r
def tS (K:Kq)(g:Dw):TS:=fun E σ H=>∃ P F ρ r,g ρ=some r∧DInv K P F H ρ σ∧EndsD K P F E r
def PD1 (X:Cx)(st:Stmt)(g:Dw):Prop:=PS X st (tS X.K g)
def PDS (X:Cx)(sts:List Stmt)(g:Dw):Prop:=PSs X sts (tS X.K g)
theorem PS.imp {t t':TS}(h:PS X st t)(i:∀ E σ H,t' E σ H→t E σ H):PS X st t':=fun pz s σ H E I q=>h pz s σ H E I (i E σ H q)
theorem PSs.imp {t t':TS}(h:PSs X sts t)(i:∀ E σ H,t' E σ H→t E σ H):PSs X sts t':=fun pz s σ H E I q=>h pz s σ H E I (i E σ H q)
def dNx:DF→Option RES:=fun ρ=>some (.nx ρ)
theorem zw {K:Kq}:∀ E σ H,tS K dNx E σ H→E.nx σ H:=fun E σ H=>un7 fun P F ρ r hg I k=>by
 cases hg
 exact k σ F H (Same.refl _) I
theorem aL:PDS X [] dNx:=PSs.imp uH zw
def ai (g h:Dw):DF→Option RES:=fun ρ=>match g ρ with
 | some (.nx ρ')=>h ρ'
 | r=>r
theorem ae {g h:Dw}(h1:PD1 X st g)(h2:PDS X bn h):PDS X (st::bn) (ai g h):=PSs.imp (lb h1 h2) fun E σ H=>un7 fun P F ρ r hg I k=>by
 unfold ai at hg
 split at hg
 ·rename_i ρ' q
  exact⟨P,F,ρ,_,q,I,fun σ' F' H' e I'=>⟨P,F',ρ',r,hg,I',k.ext e⟩⟩
 ·rename_i q
  refine⟨P,F,ρ,r,hg,I,?_⟩
  cases r with
  | nx ρ'=>exact absurd hg (q ρ')
  | bk ρ=>exact k
  | ct ρ=>exact k
  | rt x ρ=>exact k
theorem aj {g:Dw}(h1:PD1 X st g):PDS X [st] g:=PSs.imp (nM h1) fun _ _ _ q=>q
def bj (f:Dd):DF→Option RES:=fun ρ=>(f ρ).map fun d=>.rt (.v d) ρ
theorem bb {f:Dd}(h:PDE X e f):PD1 X (.Return (some e) pos) (bj f):=PS.imp (nq h) fun E σ H=>un7 fun P F ρ r hg I k=>by
 unfold bj at hg
 cases q:f ρ with
 | none=>rw[q] at hg;cases hg
 | some d=>
  rw[q] at hg
  cases hg
  exact⟨P,F,ρ,d,q,I,fun v F' H' ev rv=>k v σ F' H' ev.ext (I.evo ev) rv⟩
def c8 (f:Do):DF→Option RES:=fun ρ=>(f ρ).map fun o=>.rt (.own o none) ρ
theorem dY {f:Do}(h:PDO X e f):PD1 X (.Return (some e) pos) (c8 f):=PS.imp (nq h) fun E σ H=>un7 fun P F ρ r hg I k=>by
 unfold c8 at hg
 cases q:f ρ with
 | none=>rw[q] at hg;cases hg
 | some o=>
  rw[q] at hg
  cases hg
  exact⟨P,F,ρ,o,q,I,fun a F' H' ev ho=>k (.ref a) σ F' H' ev.ext (I.evo ev) ⟨a,rfl,ho.mono (Same.refl _) fun b u q hb=>⟨hb,q.2,I.pro.free q.1,trivial⟩,fun _ z=>nomatch z⟩⟩
def fB (i:Nat):DF→Option RES:=fun ρ=>match ρ[i]? with
 | some (some x)=>some (.rt x ρ)
 | _=>none
theorem eQ (i:Nat)(h:PE X e (cA i)):PD1 X (.Return (some e) pos) (fB i):=PS.imp (nq h) fun E σ H=>un7 fun P F ρ r hg I k=>by
 unfold fB at hg
 split at hg
 ·rename_i x q
  cases hg
  obtain⟨v,h1,h2⟩:=I.at q
  exact⟨v,h1,k v σ F H (Same.refl _) I h2⟩
 ·cases hg
theorem ck {α:Type}{l:List α}{i j:Nat}{x y:α}(h:(l.set i x)[j]?=some y):(i=j∧y=x∧i<l.length)∨(i≠j∧l[j]?=some y):=by
 by_cases hj:i=j
 ·subst hj
  have hl:i<l.length:=by have:=(Yn.mp h).1;rwa [YK] at this
  rw[Zc hl] at h
  exact .inl ⟨rfl,(Yt h).symm,hl⟩
 ·rw[YR hj] at h
  exact .inr ⟨hj,h⟩
theorem DInv.setO {K:Kq}{P F H:Hp}{ρ:DF}{σ:St}(I:DInv K P F H ρ σ)(i:Nat){v:V}{x:DV}(nw:Addr→Prop)(hn:∀ (j:Nat) (y:DV) (w:V) (O:Addr→Option Nat),j≠i→ρ[j]?=some (some y)→DVRep K P F H (fun b=>O b=some j) y w→DVRep K P F H (fun b=>O b=some j∧¬ nw b) y w)(r:DVRep K P F H nw x v) :
  DInv K P F H (ρ.set i (some x)) (σ.set i (some v)):=by
 obtain⟨O,h⟩:=I.rep
 refine⟨I.toDHp,by rw[YK,YK];exact I.len,?_⟩
 classical
 refine⟨fun b=>if nw b then some i else if O b=some i then none else O b,fun j y hj=>?_⟩
 rcases ck hj with⟨rfl,e,hl⟩ | ⟨hij,hj'⟩
 ·cases e
  refine⟨v,by rw[Zc (by rw[← I.len];exact hl)],r.imp fun b u _ _ _ q=>Yf q⟩
 ·obtain⟨w,h1,h2⟩:=h j y hj'
  refine⟨w,by rw[YR hij];exact h1,(hn j y w O (Xi hij) hj' h2).imp fun b u _ _ _ q=>?_⟩
  show (if nw b then some i else if O b=some i then none else O b)=some j
  rw[Yh q.2,Yh (by rw[q.1];intro z;exact hij (Yt z).symm),q.1]
theorem DInv.setV {K:Kq}{P F H:Hp}{ρ:DF}{σ:St}(I:DInv K P F H ρ σ)(i:Nat){v:V}{d:D}(r:Rep K F v d):DInv K P F H (ρ.set i (some (.v d))) (σ.set i (some v)):=
 I.setO i (fun _=>False) (fun j y w O _ _ q=>q.imp fun b u _ _ _ z=>⟨z,id⟩) r
theorem DInv.setN {K:Kq}{P F H F' H':Hp}{ρ:DF}{σ:St}(I:DInv K P F H ρ σ)(ev:Evo P F H F' H')(i:Nat){a:Addr}{o:OD}(ho:ORep K F' H' (fun b=>H b=none∧F' b=none) o a):DInv K P F' H' (ρ.set i (some (.own o none))) (σ.set i (some (.ref a))):=by
 obtain⟨O,h⟩:=I.rep
 refine⟨ev.hp,by rw[YK,YK];exact I.len,?_⟩
 classical
 refine⟨fun b=>if H b=none then some i else if O b=some i then none else O b,fun j y hj=>?_⟩
 rcases ck hj with⟨rfl,e,hl⟩ | ⟨hij,hj'⟩
 ·cases e
  refine⟨.ref a,by rw[Zc (by rw[← I.len];exact hl)],a,rfl,ho.mono (Same.refl _) fun b u q hb=>⟨hb,q.2,I.pro.free q.1,Yf q.1⟩,fun _ z=>nomatch z⟩
 ·obtain⟨w,h1,h2⟩:=h j y hj'
  refine⟨w,by rw[YR hij];exact h1,?_⟩
  have h3:DVRep K P F H (fun b=>(if H b=none then some i else if O b=some i then none else O b)=some j) y w:=h2.imp fun b u _ _ hb q=>by
   show (if H b=none then some i else if O b=some i then none else O b)=some j
   rw[Yh (by rw[hb];simp),Yh (by rw[q];intro z;exact hij (Yt z).symm),q]
  exact h3.evo ev
def setV (i:Nat)(d:D)(ρ:DF):Option DF:=some (ρ.set i (some (.v d)))
def aS (i:Nat)(f:Dd):DF→Option RES:=fun ρ=>(f ρ).map fun d=>.nx (ρ.set i (some (.v d)))
theorem wK {K:Kq}{i:Nat}{f:Dd}:∀ E σ H,tS K (aS i f) E σ H→re (tD K f) (ii i) E σ H:=fun E σ H=>un7 fun P F ρ r hg I k=>by
 unfold aS at hg
 cases q:f ρ with
 | none=>rw[q] at hg;cases hg
 | some d=>
  rw[q] at hg
  cases hg
  exact⟨P,F,ρ,d,q,I,fun v F' H' ev rv=>k _ F' H' ev.ext ((I.evo ev).setV i rv)⟩
theorem aU {i:Nat}{x:Str}{pos':Pos}{f:Dd}(hN:X.N.Nodup)(hi:X.N[i]?=some x)(hx:Loc X.env.scope x)(he:PDE X e f)(hs:swapsWith e (some (.Name x pos')) pos.line X.env=pure false:=by rfl)(hf:X.fn x=true∨X.env.scope.names.lookup x=some .local:=by first | exact .inl rfl | exact .inr rfl | assumption) :
  PD1 X (.Assign [.Name x pos'] e pos) (aS i f):=PS.imp (j4 hN hi hx he hs hf) wK
def bf (i:Nat)(f:Do):DF→Option RES:=fun ρ=>(f ρ).map fun o=>.nx (ρ.set i (some (.own o none)))
theorem rh {K:Kq}{i:Nat}{f:Do}:∀ E σ H,tS K (bf i f) E σ H→re (tO K f) (ii i) E σ H:=fun E σ H=>un7 fun P F ρ r hg I k=>by
 unfold bf at hg
 cases q:f ρ with
 | none=>rw[q] at hg;cases hg
 | some o=>
  rw[q] at hg
  cases hg
  exact⟨P,F,ρ,o,q,I,fun a F' H' ev ho=>k _ F' H' ev.ext (I.setN ev i ho)⟩
theorem bT {i:Nat}{x:Str}{pos':Pos}{f:Do}(hN:X.N.Nodup)(hi:X.N[i]?=some x)(hx:Loc X.env.scope x)(he:PDO X e f)(hs:swapsWith e (some (.Name x pos')) pos.line X.env=pure false:=by rfl)(hf:X.fn x=true∨X.env.scope.names.lookup x=some .local:=by first | exact .inl rfl | exact .inr rfl | assumption) :
  PD1 X (.Assign [.Name x pos'] e pos) (bf i f):=PS.imp (j4 hN hi hx he hs hf) rh
def oV (i:Nat)(g:Dw):DF→Option RES:=fun ρ=>match ρ[i]? with
 | some (some (.own o none))=>g (ρ.set i (some (.v o.d)))
 | some (some (.v d))=>g ρ
 | _=>none
theorem DInv.frz {K:Kq}{P F H:Hp}{ρ:DF}{σ:St}(I:DInv K P F H ρ σ){i:Nat}{o:OD}{t:Option Addr}(h:ρ[i]?=some (some (.own o t))):∃ F',Same F F'∧DInv K P F' H (ρ.set i (some (.v o.d))) σ:=by
 obtain⟨O,hr⟩:=I.rep
 have hn:∀ b,(F b=none∧P b=none∧O b=some i)→F b=none:=fun b q=>q.1
 refine⟨pA F H (fun b=>F b=none∧P b=none∧O b=some i),a9 hn,⟨fun b u q=>?_,I.pro,fun b u q=>?_⟩,by rw[YK];exact I.len,O,fun j y hj=>?_⟩
 ·by_cases c:F b=none∧P b=none∧O b=some i
  ·rw[bX (ow:=fun b=>F b=none∧P b=none∧O b=some i) c] at q;exact q
  ·rw[cy (ow:=fun b=>F b=none∧P b=none∧O b=some i) c] at q;exact I.sub b u q
 ·rw[cy (ow:=fun b=>F b=none∧P b=none∧O b=some i) fun c=>by rw[c.2.1] at q;cases q];exact I.dis b u q
 ·rcases ck hj with⟨rfl,e,hl⟩ | ⟨hij,hj'⟩
  ·cases e
   obtain⟨v,h1,a,rfl,h2,_⟩:=hr i _ h
   exact⟨_,h1,h2.rep (a9 hn) fun b u q hb=>by rw[bX (ow:=fun b=>F b=none∧P b=none∧O b=some i) q];exact hb⟩
  ·obtain⟨v,h1,h2⟩:=hr j y hj'
   refine⟨v,h1,?_⟩
   cases y with
   | v d=>exact Rep.same (a9 hn) h2
   | own o' t'=>
    obtain⟨a,rfl,h3,ht⟩:=h2
    exact⟨a,rfl,h3.mono (a9 hn) fun b u q hb=>⟨hb,by
     rw[cy (ow:=fun b=>F b=none∧P b=none∧O b=some i) fun c=>by rw[q.2.2] at c;exact hij (Yt c.2.2).symm];exact q.1,q.2⟩,ht⟩
   | bor o'=>
    obtain⟨a,rfl,h3⟩:=h2
    exact⟨a,rfl,h3.mono (a9 hn) fun b u q hb=>⟨hb,q⟩⟩
theorem xh {K:Kq}{i:Nat}{g:Dw}:∀ E σ H,tS K (oV i g) E σ H→tS K g E σ H:=fun E σ H=>un7 fun P F ρ r hg I k=>by
 unfold oV at hg
 split at hg
 ·rename_i o q
  obtain⟨F',e,I'⟩:=I.frz q
  exact⟨P,F',_,r,hg,I',k.ext e⟩
 ·exact⟨P,F,ρ,r,hg,I,k⟩
 ·cases hg
theorem n5 (i:Nat){g:Dw}(h:PD1 X st g):PD1 X st (oV i g):=PS.imp h xh
def eN:DF→Option RES:=fun _=>none
theorem eZ:PD1 X st eN:=PS.imp sO fun _ _ _ ⟨_,_,_,_,h,_⟩=>by cases h
def ol (f:Dd):DF→Option RES:=fun ρ=>(f ρ).map fun _=>.nx ρ
theorem uM {f:Dd}(h:PDE X e f)(hs:swapsWith e none pos.line X.env=pure false:=by rfl):PD1 X (.Expr e pos) (ol f):=PS.imp (cz h hs) fun E σ H=>un7 fun P F ρ r hg I k=>by
 unfold ol at hg
 cases q:f ρ with
 | none=>rw[q] at hg;cases hg
 | some d=>
  rw[q] at hg
  cases hg
  exact⟨P,F,ρ,d,q,I,fun v F' H' ev _=>k σ F' H' ev.ext (I.evo ev)⟩
def dIf (c:Dk)(g h:Dw):DF→Option RES:=fun ρ=>(c ρ).bind fun b=>if b=true then g ρ else h ρ
theorem bD {c:Expr}{a b:List Stmt}{fc:Dk}{g h:Dw}(hc:PDT X c fc)(ha:PDS X a g)(hb:PDS X b h):PD1 X (.If c a b pos) (dIf fc g h):=PS.imp (vO hc ha hb) fun E σ H=>un7 fun P F ρ r hg I k=>by
 unfold dIf at hg
 cases q:fc ρ with
 | none=>rw[q] at hg;cases hg
 | some b=>
  rw[q,Ya] at hg
  refine⟨P,F,ρ,b,q,I,fun F' H' ev=>?_⟩
  cases b with
  | true=>
   rw[Yf rfl] at hg ⊢
   exact⟨P,F',ρ,r,hg,I.evo ev,k.ext ev.ext⟩
  | false=>
   rw[Yh Yg] at hg ⊢
   exact⟨P,F',ρ,r,hg,I.evo ev,k.ext ev.ext⟩
def vg (K:Kq)(P:Hp)(J:It)(F:Hp)(ds:List D):Prop:=
 ∀ F' H',Same F F'→DHp P F' H'→∀ i:Nat,(∀ d,ds[i]?=some d→J.go i H'∧∀ x H2,J.yld i H' x H2→∃ F2,Evo P F' H' F2 H2∧Rep K F2 x d)∧(ds.length≤i→J.stop i H')
def tI (K:Kq)(f:Dl):TI:=fun σ H R=>∃ P F ρ ds,f ρ=some ds∧DInv K P F H ρ σ∧∀ (J:It) F' H',Evo P F H F' H'→vg K P J F' ds→R J H'
def PDI (X:Cx)(tg iter:Expr)(f:Dl):Prop:=PI X tg iter (tI X.K f)
theorem PI.imp {tg iter:Expr}{t t':TI}(h:PI X tg iter t)(i:∀ σ H R,t' σ H R→t σ H R):PI X tg iter t':=fun pz s σ H R I q=>h pz s σ H R I (i σ H R q)
def tG (K:Kq)(is:List Nat)(st:Dq):TG:=fun v σ H Q=>∃ P F ρ d ρ',st d ρ=some ρ'∧DInv K P F H ρ σ∧Rep K F v d∧∀ σ' F' H',Evo P F H F' H'→DInv K P F' H' ρ' σ'→σ'.length=σ.length→(∀ j,j∉is→σ'[j]?=σ[j]?)→Q σ' H'
def PDG (X:Cx)(tg:Expr)(is:List Nat)(st:Dq):Prop:=PG X tg (tG X.K is st)
theorem PG.imp {tg:Expr}{t t':TG}(h:PG X tg t)(i:∀ v σ H Q,t' v σ H Q→t v σ H Q):PG X tg t':=fun pz s σ H v u Q I r q=>h pz s σ H v u Q I r (i v σ H Q q)
theorem aI {i:Nat}{x:Str}(hN:X.N.Nodup)(hi:X.N[i]?=some x)(hx:Loc X.env.scope x)(hf:X.fn x=true∨X.env.scope.names.lookup x=some .local:=by first | exact .inl rfl | exact .inr rfl | assumption):PDG X (.Name x pos) [i] (setV i):=
 PG.imp (bB hN hi hx hf) fun v σ H Q hh_=>by
  obtain⟨P,F,ρ,d,ρ',hs,I,r,k⟩:=hh_
  cases hs
  exact k _ F H (Evo.refl I.toDHp) (I.setV i r) (YK ..) fun j hj=>by rw[YR (fun z=>hj (by rw[z];exact List.mem_singleton_self _))]
def cW (st:Dq)(body:Dw):List D→DF→Option RES
 | [],ρ=>some (.nx ρ)
 | d::ds,ρ=>match st d ρ with
  | none=>none
  | some ρ1=>match body ρ1 with
   | some (.nx ρ')=>cW st body ds ρ'
   | some (.ct ρ')=>cW st body ds ρ'
   | some (.bk ρ')=>some (.nx ρ')
   | r=>r
def bQ (it:Dl)(st:Dq)(body:Dw):DF→Option RES:=fun ρ=>(it ρ).bind fun ds=>cW st body ds ρ
theorem cS {tg iter:Expr}{body:List Stmt}{f:Dl}{is:List Nat}{st:Dq}{g:Dw}(hp:PassesOwn (model X.prog X.w) X.A X.env X.xe)(hc:X.calm=true)(hi:PDI X tg iter f)(hg:PDG X tg is st)(hb:PDS X body g)
  (hs:∀ x,foldedSetIterable iter X.env x=pure x:=by intro _;rfl):PD1 X (.For tg iter body [] pos) (bQ f st g):=PS.imp (sg hp hc hi hg hb hs) fun E σ H=>un7 fun P F ρ r hr I k=>by
 unfold bQ at hr
 cases q:f ρ with
 | none=>rw[q] at hr;cases hr
 | some ds=>
  rw[q,Ya] at hr
  refine⟨P,F,ρ,ds,q,I,fun J F1 H1 ev ok=>?_⟩
  refine⟨fun i m σ' H'=>m=ds.length-i∧i≤ds.length∧∃ F' ρ',Same F1 F'∧DInv X.K P F' H' ρ' σ'∧cW st g (ds.drop i) ρ'=some r,⟨_,rfl,YI _,F1,ρ,Same.refl _,I.evo ev,hr⟩,?_⟩
  rintro i m σ' H' ⟨rfl,hil,F',ρ',se,I',hf⟩
  obtain⟨ok1,ok2⟩:=ok F' H' se I'.toDHp i
  by_cases hlt:i<ds.length
  ·have hd:ds[i]?=some ds[i]:=Yu hlt
   obtain⟨go,yl⟩:=ok1 _ hd
   have hdrop:ds.drop i=ds[i]::ds.drop (i+1):=ZW hlt
   rw[hdrop] at hf
   unfold cW at hf
   cases hst:st ds[i] ρ' with
   | none=>rw[hst] at hf;cases hf
   | some ρ1=>
    rw[hst] at hf
    dsimp only at hf
    have hE:Same F F':=ev.ext.trans se
    refine .inr ⟨go,fun σ2 H2=>∃ F2 ρ2,Same F1 F2∧DInv X.K P F2 H2 ρ2 σ2∧cW st g (ds.drop (i+1)) ρ2=some r,fun σ2 H2 ⟨F2,ρ2,s2,I2,hf2⟩=>⟨ds.length-(i+1),by omega,rfl,hlt,F2,ρ2,s2,I2,hf2⟩,fun x H2 hy=>?_⟩
    obtain⟨F2,ev2,rx⟩:=yl x H2 hy
    refine⟨P,F2,ρ',ds[i],ρ1,hst,I'.evo ev2,rx,fun σ3 F3 H3 ev3 I3 _ _=>?_⟩
    have s13:Same F1 F3:=se.trans (ev2.ext.trans ev3.ext)
    cases hb':g ρ1 with
    | none=>rw[hb'] at hf;cases hf
    | some res=>
     rw[hb'] at hf
     refine⟨P,F3,ρ1,res,hb',I3,?_⟩
     cases res with
     | nx ρ4=>exact fun σ4 F4 H4 e4 I4=>⟨F4,ρ4,s13.trans e4,I4,hf⟩
     | ct ρ4=>exact fun σ4 F4 H4 e4 I4=>⟨F4,ρ4,s13.trans e4,I4,hf⟩
     | bk ρ4=>
      cases hf
      exact fun σ4 F4 H4 e4 I4=>k σ4 F4 H4 (ev.ext.trans (s13.trans e4)) I4
     | rt x4 ρ4=>
      cases hf
      exact fun v4 σ4 F4 H4 e4 I4 r4=>k v4 σ4 F4 H4 (ev.ext.trans (s13.trans e4)) I4 r4
  ·have hz:ds.drop i=[]:=ZQ (by omega)
   rw[hz] at hf
   cases hf
   exact .inl ⟨ok2 (by omega),k σ' F' H' (ev.ext.trans se) I'⟩
def bi (c:Dk)(body:Dw):Nat→DF→Option RES
 | 0,_=>none
 | n+1,ρ=>match c ρ with
  | none=>none
  | some false=>some (.nx ρ)
  | some true=>match body ρ with
   | some (.nx ρ')=>bi c body n ρ'
   | some (.ct ρ')=>bi c body n ρ'
   | some (.bk ρ')=>some (.nx ρ')
   | r=>r
theorem iJ (n:Nat){c:Expr}{body:List Stmt}{fc:Dk}{g:Dw}(hp:PassesOwn (model X.prog X.w) X.A X.env X.xe)(hc:PDT X c fc)(hb:PDS X body g):PD1 X (.While c body [] pos) (bi fc g n):=PS.imp (sM hp hc hb) fun E σ H=>un7 fun P F ρ r hr I k=>by
 refine⟨fun m σ' H'=>∃ F' ρ',Same F F'∧DInv X.K P F' H' ρ' σ'∧bi fc g m ρ'=some r,⟨n,F,ρ,Same.refl _,I,hr⟩,?_⟩
 rintro m σ' H' ⟨F',ρ',se,I',hf⟩
 cases m with
 | zero=>cases hf
 | succ m=>
  unfold bi at hf
  cases hc':fc ρ' with
  | none=>rw[hc'] at hf;cases hf
  | some b=>
   rw[hc'] at hf
   refine⟨P,F',ρ',b,hc',I',fun F2 H2 ev2=>?_⟩
   cases b with
   | false=>
    rw[Yh Yg]
    cases hf
    exact k σ' F2 H2 (se.trans ev2.ext) (I'.evo ev2)
   | true=>
    rw[Yf rfl]
    refine⟨fun σ3 H3=>∃ F3 ρ3,Same F F3∧DInv X.K P F3 H3 ρ3 σ3∧bi fc g m ρ3=some r,fun σ3 H3 h=>⟨m,Xq m,h⟩,?_⟩
    have s2:Same F F2:=se.trans ev2.ext
    dsimp only at hf
    cases hb':g ρ' with
    | none=>rw[hb'] at hf;cases hf
    | some res=>
     rw[hb'] at hf
     refine⟨P,F2,ρ',res,hb',I'.evo ev2,?_⟩
     cases res with
     | nx ρ4=>exact fun σ4 F4 H4 e4 I4=>⟨F4,ρ4,s2.trans e4,I4,hf⟩
     | ct ρ4=>exact fun σ4 F4 H4 e4 I4=>⟨F4,ρ4,s2.trans e4,I4,hf⟩
     | bk ρ4=>
      cases hf
      exact fun σ4 F4 H4 e4 I4=>k σ4 F4 H4 (s2.trans e4) I4
     | rt x4 ρ4=>
      cases hf
      exact fun v4 σ4 F4 H4 e4 I4 r4=>k v4 σ4 F4 H4 (s2.trans e4) I4 r4
end
def gd (F H:Hp):Hp:=fun a=>match F a with
 | none=>H a
 | some _=>none
theorem cN {F H:Hp}{a:Addr}{o:HO}:gd F H a=some o↔F a=none∧H a=some o:=by
 unfold gd
 cases q:F a with
 | none=>simp
 | some u=>simp
theorem dw {F H:Hp}(s:Same F H):DHp (gd F H) F H:=⟨s,fun a o e=>(cN.mp e).2,fun a o e=>(cN.mp e).1⟩
theorem DHp.gd {P F H F' H':Hp}(h:DHp P F H)(e:Same F F')(g:DHp (gd F H) F' H'):Evo P F H F' H' where
 ext:=e
 hp:=⟨g.sub,fun a o q=>g.pro a o (cN.mpr ⟨h.dis a o q,h.pro a o q⟩),fun a o q=>g.dis a o (cN.mpr ⟨h.dis a o q,h.pro a o q⟩)⟩
 keep:=fun a o q n=>⟨g.pro a o (cN.mpr ⟨n,q⟩),g.dis a o (cN.mpr ⟨n,q⟩)⟩
theorem Evo.change {P P1 F H F' H':Hp}(e:Evo P F H F' H')(h:DHp P1 F H):Evo P1 F H F' H':=
 ⟨e.ext,⟨e.hp.sub,fun a o q=>(e.keep a o (h.pro a o q) (h.dis a o q)).1,fun a o q=>(e.keep a o (h.pro a o q) (h.dis a o q)).2⟩,e.keep⟩
def vT:DV→Bool
 | .own _ _=>true
 | _=>false
inductive DVs (K:PySem.W.Frag) (P F H:Hp):List DV→List V→Prop
 | nil:DVs K P F H [] []
 | cons {x:DV} {v:V} {xs:List DV} {vs:List V}:vT x=false→DVRep K P F H ia x v→DVs K P F H xs vs→DVs K P F H (x::xs) (v::vs)
theorem DVs.length {K:Kq}{P F H:Hp}{xs:List DV}{vs:List V}(h:DVs K P F H xs vs):xs.length=vs.length:=by
 induction h with
 | nil=>rfl
 | cons _ _ _ ih=>exact ZA Nat.succ ih
theorem DVs.get {K:Kq}{P F H:Hp}{xs:List DV}{vs:List V}{i:Nat}{x:DV}(h:DVs K P F H xs vs)(e:xs[i]?=some x):vT x=false∧∃ v,vs[i]?=some v∧DVRep K P F H ia x v:=by
 induction h generalizing i with
 | nil=>exact nomatch e
 | cons h r _ ih=>
  cases i with
  | zero=>obtain rfl:=Yt e;exact⟨h,_,rfl,r⟩
  | succ i=>exact ih e
def spD (K:Kq)(m:Dm):Sp:=fun vs H Q _=>∃ P F xs x,m xs=some x∧DHp P F H∧DVs K P F H xs vs∧∀ v F' H',Same F F'→DHp P F' H'→DVRep K P F' H' ia x v→Q v H'
def aE (n p:Nat)(xs:List DV):DF:=xs.map some++List.replicate (n-p) none
def bV:Option RES→Option DV
 | some (.rt x _)=>some x
 | some (.nx _)=>some (.v .non)
 | _=>none
def mOf (n p:Nat)(g:Dw):List DV→Option DV:=fun xs=>if xs.length=p then bV (g (aE n p xs)) else none
theorem ir {n p:Nat}{xs:List DV}{i:Nat}{x:DV}(h:(aE n p xs)[i]?=some (some x)):xs[i]?=some x:=by
 unfold aE at h
 by_cases hi:i<xs.length
 ·rw[Zd (by simpa using hi),YF] at h
  cases q:xs[i]? with
  | none=>rw[q] at h;cases h
  | some y=>rw[q] at h;cases h;rfl
 ·rw[Zb (by simpa using hi),ZL] at h
  split at h <;> cases h
theorem fK {N:List Str}{vs:List V}{i:Nat}{v:V}(h:vs[i]?=some v):(start N vs)[i]?=some (some v):=by
 unfold start
 have hi:i<vs.length:=(Yn.mp h).1
 rw[Zd (by simpa using hi),YF,h]
 rfl
theorem DInv.start {K:Kq}{P F H:Hp}{xs:List DV}{vs:List V}(N:List Str)(p:Nat)(h:DHp P F H)(r:DVs K P F H xs vs)(hp:xs.length=p):DInv K P F H (aE N.length p xs) (start N vs):=by
 refine⟨h,?_,fun _=>none,fun i x e=>?_⟩
 ·unfold aE L2.start
  rw[Ym,Ym,Ye,Ye,YB,YB,r.length,← r.length,hp]
 ·obtain⟨ho,v,h1,h2⟩:=r.get (ir e)
  refine⟨v,fK h1,?_⟩
  cases x with
  | own o t=>cases ho
  | v d=>exact h2
  | bor o=>exact h2
theorem Fun.okD {P:Program}{w:World}{K:Kq}{mg:Ks}{base:Heap}{x qual:Str}{st:Stmt}{f:Addr}{fd:FuncData}{N ps:List Str}{k:Nat}{g:Dw}(F:Fun K x qual st f fd)(S:FnScope N ps (defScope st))
  (hbody:∀ (cdv:Value) (A:Around) (outer:List Env) (s:Shared) (H:Hp) (E:XK),Room k (A.deeper (envOfC qual (defScope st) s.heap.objs.size f cdv))→
   PDS (eh CX0 P w K mg base N qual (defScope st) f cdv A outer s H E).nox (defBody st) g):FnOk P w K mg base CX0 (k+1) f fd ps (spD K (mOf N.length ps.length g)):=by
 have lens:∀ vs H Q E,spD K (mOf N.length ps.length g) vs H Q E→vs.length=ps.length:=fun vs H Q E hh_=>by
  obtain⟨P',F',xs,x',hm,hp,hv,_⟩:=hh_
  unfold mOf at hm
  split at hm
  ·rename_i h;rw[← hv.length];exact h
  ·cases hm
 refine F.ok S lens fun cdv A outer s H vs Q E hr h=>?_
 refine⟨_,hbody cdv A outer s H E hr,?_⟩
 obtain⟨P',F',xs,x',hm,hp,hv,hQ⟩:=h
 unfold mOf at hm
 split at hm
 ·rename_i hl
  have I:DInv K P' F' H (aE N.length ps.length xs) (start N vs):=DInv.start N ps.length hp hv hl
  cases q:g (aE N.length ps.length xs) with
  | none=>rw[q] at hm;cases hm
  | some r=>
   rw[q] at hm
   refine⟨P',F',_,r,q,I,?_⟩
   cases r with
   | rt y ρ=>cases hm;exact fun v σ F2 H2 e h r=>hQ v F2 H2 e h.toDHp r
   | nx ρ=>cases hm;exact fun σ F2 H2 e I2=>hQ .non F2 H2 e I2.toDHp .non
   | bk ρ=>cases hm
   | ct ρ=>cases hm
 ·cases hm
inductive ArgsS (K:PySem.W.Frag) (ρ:DF) (σ:St) (F:Hp):List DV→List V→Prop
 | nil:ArgsS K ρ σ F [] []
 | v {d:D} {v:V} {xs:List DV} {vs:List V}:Rep K F v d→ArgsS K ρ σ F xs vs→ArgsS K ρ σ F (.v d::xs) (v::vs)
 | b {o:OD} {v:V} {xs:List DV} {vs:List V} (i:Nat):σ[i]?=some (some v)→((∃ t,ρ[i]?=some (some (.own o t)))∨ρ[i]?=some (some (.bor o)))→ArgsS K ρ σ F xs vs→ArgsS K ρ σ F (.bor o::xs) (v::vs)
theorem ArgsS.dvs {K:Kq}{P F H:Hp}{ρ:DF}{σ:St}(I:DInv K P F H ρ σ){xs:List DV}{vs:List V}(h:ArgsS K ρ σ F xs vs):DVs K (gd F H) F H xs vs:=by
 induction h with
 | nil=>exact .nil
 | v h _ ih=>exact .cons rfl h ih
 | b i h1 h2 _ ih=>
  obtain⟨a,rfl,h3⟩:=I.slot h1 h2
  exact .cons rfl ⟨a,rfl,h3.mono (Same.refl _) fun b u q hb=>⟨cN.mpr ⟨q,hb⟩,trivial⟩⟩ ih
def tLV (K:Kq)(f:Dv):TA:=fun σ H Q=>∃ P F ρ xs,f ρ=some xs∧DInv K P F H ρ σ∧∀ vs F' H',Evo P F H F' H'→ArgsS K ρ σ F' xs vs→Q vs H'
def gv (X:Cx)(es:List Expr)(f:Dv):Prop:=PA X es (tLV X.K f)
section
variable {X:Cx} {e:Expr} {es:List Expr} {pos:Pos}
theorem ay:gv X [] (fun _=>some []):=PA.imp aQ fun σ H Q=>un7 fun P F ρ xs hf I k=>by
 cases hf
 exact k [] F H (Evo.refl I.toDHp) .nil
def aV (f:Dd)(g:Dv):DF→Option (List DV):=fun ρ=>(f ρ).bind fun d=>(g ρ).map fun xs=>.v d::xs
theorem a7 {f:Dd}{g:Dv}(h:PDE X e f)(hr:gv X es g)(hs:starEach (e::es) X.env=(false,eval e X.env)::starEach es X.env:=by rfl):gv X (e::es) (aV f g):=PA.imp (ar h hr hs) fun σ H Q=>un7 fun P F ρ xs hf I k=>by
 unfold aV at hf
 cases q:f ρ with
 | none=>rw[q] at hf;cases hf
 | some d=>
  rw[q,Ya] at hf
  cases q2:g ρ with
  | none=>rw[q2] at hf;cases hf
  | some ys=>
   rw[q2] at hf
   cases hf
   exact⟨P,F,ρ,d,q,I,fun v F1 H1 e1 r1=>⟨P,F1,ρ,ys,q2,I.evo e1,fun vs F2 H2 e2 r2=>k (v::vs) F2 H2 (e1.trans e2) (.v (r1.same e2.ext) r2)⟩⟩
def aB (i:Nat)(g:Dv):DF→Option (List DV):=fun ρ=>match ρ[i]? with
 | some (some (.own o _))=>(g ρ).map fun xs=>.bor o::xs
 | some (some (.bor o))=>(g ρ).map fun xs=>.bor o::xs
 | some (some (.v d))=>(g ρ).map fun xs=>.v d::xs
 | _=>none
theorem bG (i:Nat){g:Dv}(h:PE X e (cA i))(hr:gv X es g)(hs:starEach (e::es) X.env=(false,eval e X.env)::starEach es X.env:=by rfl):gv X (e::es) (aB i g):=PA.imp (ar h hr hs) fun σ H Q=>un7 fun P F ρ xs hf I k=>by
 unfold aB at hf
 split at hf
 ·rename_i o t q
  obtain⟨v,h1,h2⟩:=I.at q
  cases q2:g ρ with
  | none=>rw[q2] at hf;cases hf
  | some ys=>
   rw[q2] at hf
   cases hf
   exact⟨v,h1,P,F,ρ,ys,q2,I,fun vs F2 H2 e2 r2=>k (v::vs) F2 H2 e2 (.b i h1 (.inl ⟨t,q⟩) r2)⟩
 ·rename_i o q
  obtain⟨v,h1,h2⟩:=I.at q
  cases q2:g ρ with
  | none=>rw[q2] at hf;cases hf
  | some ys=>
   rw[q2] at hf
   cases hf
   exact⟨v,h1,P,F,ρ,ys,q2,I,fun vs F2 H2 e2 r2=>k (v::vs) F2 H2 e2 (.b i h1 (.inr q) r2)⟩
 ·rename_i d q
  obtain⟨v,h1,h2⟩:=I.at q
  cases q2:g ρ with
  | none=>rw[q2] at hf;cases hf
  | some ys=>
   rw[q2] at hf
   cases hf
   exact⟨v,h1,P,F,ρ,ys,q2,I,fun vs F2 H2 e2 r2=>k (v::vs) F2 H2 e2 (.v (Rep.same e2.ext h2) r2)⟩
 ·cases hf
def dvD:DV→Option D
 | .v d=>some d
 | .own o _=>some o.d
 | .bor _=>none
def am (m:Dm)(g:Dv):DF→Option D:=fun ρ=>(g ρ).bind fun xs=>(m xs).bind dvD
def dvO:DV→Option OD
 | .own o _=>some o
 | _=>none
def iw (m:Dm)(g:Dv):DF→Option OD:=fun ρ=>(g ρ).bind fun xs=>(m xs).bind dvO
theorem xp {F H:Hp}{F':Hp}{a:Addr}(e:Same F F')(h1:F' a=none)(h2:gd F H a=none):H a=none:=by
 unfold gd at h2
 have:F a=none:=by
  cases q:F a with
  | none=>rfl
  | some o=>rw[e a o q] at h1;cases h1
 rw[this] at h2
 exact h2
theorem kF {K:Kq}{F1 H1 F2 H2:Hp}{o:OD}{a:Addr}(e2:Same F1 F2)(h:ORep K F2 H2 (fun b=>F2 b=none∧gd F1 H1 b=none∧ia b) o a):ORep K F2 H2 (fun b=>H1 b=none∧F2 b=none) o a:=
 h.mono (Same.refl _) fun b u q hb=>⟨hb,xp e2 q.1 q.2.1,q.1⟩
theorem uu {K:Kq}{m:Dm}{g:Dv}{E:XK}:∀ σ H Q,tD K (am m g) σ H Q→vz (spD K m) [] E (tLV K g) σ H Q:=fun σ H Q=>un7 fun P F ρ d hf I k=>by
 unfold am at hf
 cases q:g ρ with
 | none=>rw[q] at hf;cases hf
 | some xs=>
  rw[q,Ya] at hf
  cases q2:m xs with
  | none=>rw[q2] at hf;cases hf
  | some x=>
   rw[q2,Ya] at hf
   refine⟨P,F,ρ,xs,q,I,fun vs F1 H1 e1 r1=>?_⟩
   have I1:=I.evo e1
   refine⟨gd F1 H1,F1,xs,x,q2,dw I1.sub,by rw[YT];exact r1.dvs I1,fun v F2 H2 e2 hp2 r2=>?_⟩
   have ev:Evo P F1 H1 F2 H2:=I1.toDHp.gd e2 hp2
   cases x with
   | v d'=>cases hf;exact k v F2 H2 (e1.trans ev) r2
   | own o t=>
    cases hf
    obtain⟨a,rfl,ho,_⟩:=r2
    have ho':=kF e2 ho
    exact k _ _ H2 (e1.trans (ev.freeze I1.toDHp (fun b=>H1 b=none∧F2 b=none) fun _ q=>q)) (ho'.rep (a9 fun b q=>q.2) fun b u q hb=>by rw[bX q];exact hb)
   | bor o=>cases hf
section
variable {k:Nat} {f:Addr} {fd:FuncData} {ps:List Str} {m:Dm} {x:Str} {p:Pos} {g:Dv}
theorem aR (F:FnOk X.prog X.w X.K X.mg X.base CX0 k f fd ps (spD X.K m))(hr:Room k X.A)(hg:Gl X x)(hm:X.mg x=some (.ref f))(hk:PySem.W.keepIn X.K (.ref f)=true)(hb:Binds X.K fd ps [])(ha:gv X (e::es) g)
  (hd:(x == ("__debug__":Str))=false:=by decide) (he:starEach (e::es) X.env=(false,eval e X.env)::starEach es X.env:=by rfl) (hpl:(backTo pos (starEach es X.env)).any (·.1)=false:=by rfl):PDE X (.Call (.Name x p) (e::es) [] pos) (am m g):=
 (eY F hr hg hm hk hb .nil gq ha hd he hpl).imp uu
end
end
def p0:Option DV→Option DV
 | some (.v d)=>some (.v d)
 | some (.own o _)=>some (.bor o)
 | some (.bor o)=>some (.bor o)
 | _=>none
def ee (own:Nat)(ix:List Nat)(ρ:DF):DF:=List.replicate own none++ix.map fun j=>p0 (ρ[j]?).join
def di (st:Dq)(c:Dk)(e:Dd)(ρ:DF):List D→Option (List D)
 | []=>some []
 | d::ds=>(st d ρ).bind fun ρ1=>(c ρ1).bind fun b=>if b=true then (e ρ1).bind fun y=>(di st c e ρ ds).map fun r=>y::r else di st c e ρ ds
def bh (own:Nat)(ix:List Nat)(it:Dl)(st:Dq)(c:Dk)(e:Dd):DF→Option (List D):=
 fun ρ=>(it ρ).bind fun ds=>if ds.length≤16777216 then di st c e (ee own ix ρ) ds else none
def cJ:DF→Option Bool:=fun _=>some true
theorem lS {own:Nat}{ix:List Nat}{ρ:DF}{i:Nat}{x:DV}(h:(ee own ix ρ)[i]?=some (some x)):own≤i∧∃ j y,ix[i-own]?=some j∧ρ[j]?=some (some y)∧p0 (some y)=some x:=by
 unfold ee at h
 by_cases hi:i<own
 ·rw[Zd (by rw[YB];exact hi),ZL,Yf hi] at h
  cases h
 ·rw[Zb (by rw[YB];omega),YB,YF] at h
  refine⟨by omega,?_⟩
  cases q:ix[i-own]? with
  | none=>rw[q] at h;cases h
  | some j=>
   rw[q,Ze] at h
   have h':=Yt h
   cases q2:ρ[j]? with
   | none=>rw[q2] at h';cases h'
   | some o=>
    rw[q2,Option.join_some] at h'
    cases o with
    | none=>cases h'
    | some y=>exact⟨j,y,rfl,q2,h'⟩
theorem sn {own:Nat}{ix:List Nat}{σ:St}{i j:Nat}{v:V}(hi:own≤i)(h:ix[i-own]?=some j)(hv:σ[j]?=some (some v)):(cn own ix σ)[i]?=some (some v):=by
 unfold cn
 rw[Zb (by rw[YB];exact hi),YB,YF,h,Ze,hv]
 rfl
theorem DInv.cap {K:Kq}{P F H:Hp}{ρ:DF}{σ:St}(I:DInv K P F H ρ σ)(own:Nat)(ix:List Nat):DInv K (gd F H) F H (ee own ix ρ) (cn own ix σ):=by
 refine⟨dw I.sub,?_,fun _=>none,fun i x h=>?_⟩
 ·rw[d3]
  unfold ee
  rw[Ym,YB,Ye]
 ·obtain⟨hi,j,y,h1,h2,h3⟩:=lS h
  obtain⟨v,q1,q2⟩:=I.at h2
  refine⟨v,sn hi h1 q1,?_⟩
  have bo:∀ o,((∃ t,ρ[j]?=some (some (.own o t)))∨ρ[j]?=some (some (.bor o)))→DVRep K (gd F H) F H (fun b=>none=some i) (.bor o) v:=fun o ho=>by
   obtain⟨a,rfl,h3⟩:=I.slot q1 ho
   exact⟨a,rfl,h3.mono (Same.refl _) fun b u q hb=>⟨cN.mpr ⟨q,hb⟩,trivial⟩⟩
  cases y with
  | v d=>cases h3;exact q2
  | own o t=>cases h3;exact bo o (.inl ⟨t,h2⟩)
  | bor o=>cases h3;exact bo o (.inr h2)
theorem qL {K:Kq}{G F H F2 H2:Hp}{own:Nat}{ix:List Nat}{ρ:DF}{τ:St}(B:DInv K G F H (ee own ix ρ) τ)(e:Same F F2)(hp:DHp G F2 H2):DInv K G F2 H2 (ee own ix ρ) τ:=by
 obtain⟨O,h⟩:=B.rep
 refine⟨hp,B.len,O,fun i x hx=>?_⟩
 obtain⟨v,h1,h2⟩:=h i x hx
 refine⟨v,h1,?_⟩
 cases x with
 | v d=>exact Rep.same e h2
 | bor o=>obtain⟨a,rfl,h3⟩:=h2;exact⟨a,rfl,h3.mono e fun b u q hb=>⟨hb,q⟩⟩
 | own o t=>(obtain⟨_,j,y,_,_,h3⟩:=lS hx;cases y <;> cases h3)
section
variable {X:Cx} {elt tg iter:Expr} {ifs:List Expr} {scope:Scope} {pos:Pos} {N:List Str} {own:Nat} {ix is:List Nat} {f:Dl} {st:Dq} {c:Dk} {e:Dd}
theorem om {K:Kq}(his:∀ j∈is,j<own):∀ σ H Q,tO K (asL (bh own ix f st c e)) σ H Q→rQ own ix (tI K f) (tG K is st) (tB' K c) (tD K e) σ H Q:=fun σ H Q=>un7 fun P F ρ ob hf I k=>by
 unfold asL at hf
 cases hout:bh own ix f st c e ρ with
 | none=>rw[hout] at hf;cases hf
 | some out=>
 rw[hout] at hf
 cases hf
 have hf:=hout
 unfold bh at hf
 cases q:f ρ with
 | none=>rw[q] at hf;cases hf
 | some ds=>
  rw[q,Ya] at hf
  split at hf
  rotate_left
  ·cases hf
  rename_i hlen
  refine⟨P,F,ρ,ds,q,I,fun J F1 H1 ev ok acc hacc=>?_⟩
  have I1:=I.evo ev
  have hp1:DHp (gd F1 H1) F1 H1:=dw I1.sub
  have hg:gd F1 H1 acc=none:=by unfold gd;rw[I1.sub.free hacc];exact hacc
  have B1:DInv K (gd F1 H1) F1 H1 (ee own ix ρ) (cn own ix σ):=I1.cap own ix
  have hP:∀ {F' H':Hp},Same F1 F'→DHp (gd F1 H1) F' H'→DHp P F' H':=fun s h=>(I1.toDHp.gd s h).hp
  refine⟨fun i m ys H'=>m=ds.length-i∧i≤ds.length∧∃ F',Same F1 F'∧DHp (gd F1 H1) F' H'∧F' acc=none∧H' acc=some (.lst ys)∧ys.length≤i∧∃ pre,Reps K F' ys pre∧(di st c e (ee own ix ρ) (ds.drop i)).map (fun r=>pre++r)=some out,
   ⟨_,rfl,YI _,F1,Same.refl _,(Evo.side hp1 hacc).hp,I1.sub.free hacc,aq,Yi _,[],.nil,by rw[List.drop_zero,hf];rfl⟩,?_⟩
  rintro i m ys H' ⟨rfl,hi,F',se,hp',fa,ha,hy,pre,rp,hm⟩
  obtain⟨ok1,ok2⟩:=ok F' H' se (hP se hp') i
  by_cases hlt:i<ds.length
  ·have hd:ds[i]?=some ds[i]:=Yu hlt
   obtain⟨go,yl⟩:=ok1 _ hd
   have hdrop:ds.drop i=ds[i]::ds.drop (i+1):=ZW hlt
   rw[hdrop] at hm
   unfold di at hm
   cases hst:st ds[i] (ee own ix ρ) with
   | none=>rw[hst] at hm;cases hm
   | some ρ1=>
    rw[hst,Ya] at hm
    refine .inr ⟨go,fun ys' H2=>∃ F2,Same F1 F2∧DHp (gd F1 H1) F2 H2∧F2 acc=none∧H2 acc=some (.lst ys')∧ys'.length≤i+1∧∃ pre',Reps K F2 ys' pre'∧(di st c e (ee own ix ρ) (ds.drop (i+1))).map (fun r=>pre'++r)=some out,
     fun ys' H2 h=>⟨ds.length-(i+1),by omega,rfl,hlt,h⟩,fun x H2 hyl=>?_⟩
    obtain⟨F2,ev2,rx⟩:=yl x H2 hyl
    have ev2':Evo (gd F1 H1) F' H' F2 H2:=ev2.change hp'
    obtain⟨a2,fa2⟩:=ev2'.keep acc _ ha fa
    have B2:DInv K (gd F1 H1) F2 H2 (ee own ix ρ) (cn own ix σ):=qL B1 (se.trans ev2.ext) ev2'.hp
    refine⟨gd F1 H1,F2,ee own ix ρ,ds[i],ρ1,hst,B2,rx,fun σ3 F3 H3 ev3 I3 hl3 hσ=>?_⟩
    refine⟨⟨?_,fun j v hj=>?_⟩,?_⟩
    ·rw[hl3,d3]
    ·rw[hσ j]
     ·exact hj
     ·intro hj'
      obtain⟨ho,_⟩:=jq hj
      have:=his j hj'
      omega
    obtain⟨a3,fa3⟩:=ev3.keep acc _ a2 fa2
    cases hc:c ρ1 with
    | none=>rw[hc] at hm;cases hm
    | some b=>
     rw[hc,Ya] at hm
     refine⟨gd F1 H1,F3,ρ1,b,hc,I3,fun F4 H4 ev4=>?_⟩
     obtain⟨a4,fa4⟩:=ev4.keep acc _ a3 fa3
     have s14:Same F' F4:=ev2.ext.trans (ev3.ext.trans ev4.ext)
     cases b with
     | false=>
      rw[Yh Yg] at hm ⊢
      exact⟨F4,se.trans s14,ev4.hp,fa4,a4,by omega,pre,rp.same s14,hm⟩
     | true=>
      rw[Yf rfl] at hm ⊢
      cases he:e ρ1 with
      | none=>rw[he] at hm;cases hm
      | some y=>
       rw[he,Ya] at hm
       refine⟨gd F1 H1,F4,ρ1,y,he,I3.evo ev4,fun v F5 H5 ev5 rv=>?_⟩
       obtain⟨a5,fa5⟩:=ev5.keep acc _ a4 fa4
       have s15:Same F' F5:=s14.trans ev5.ext
       refine⟨a5,by rw[YH];omega,F5,se.trans s15,⟨fun b u h=>by rw[ap (aD h fa5)];exact ev5.hp.sub b u h,fun b u h=>by rw[ap (aD h hg)];exact ev5.hp.pro b u h,ev5.hp.dis⟩,fa5,aq,by rw[Ym,YX];omega,pre++[y],(rp.same s15).append (.one rv),?_⟩
       cases hmm:di st c e (ee own ix ρ) (ds.drop (i+1)) with
       | none=>rw[hmm] at hm;cases hm
       | some r=>
        rw[hmm] at hm
        simp only[Ze] at hm ⊢
        rw[Zx]
        exact hm
  ·have hz:ds.drop i=[]:=ZQ (by omega)
   rw[hz] at hm
   unfold di at hm
   rw[Ze,YT] at hm
   cases hm
   exact .inl ⟨ok2 (by omega),k acc F' H' (ev.trans (I1.toDHp.gd se hp')) ⟨⟨ev.back I.toDHp hacc,fa⟩,_,ha,rp⟩⟩
theorem bF (hcalm:X.calm=true)(b:BlkScope X scope)(cp:Caps X scope N own ix)(his:∀ j∈is,j<own)(hi:PDI X tg iter f)
  (hg:∀ s H fp pz,PDG (blk X scope N s H fp pz) tg is st) (hc:∀ s H fp pz,ko (blk X scope N s H fp pz) ifs (tB' X.K c)) (he:∀ s H fp pz,PDE (blk X scope N s H fp pz) elt e)
  (hnames:∀ y∈scope.names,y.2=.local→scope.names.lookup y.1=some .local:=by decide)
  (hs:∀ x,foldedSetIterable iter X.env x=pure x:=by intro _;rfl):PDO X (.ListComp elt [⟨tg,iter,ifs,0⟩] scope pos) (asL (bh own ix f st c e)):=
 (tM (g:=tG X.K is st) (tc:=tB' X.K c) (te:=tD X.K e) hcalm b cp hi hg hc he hnames hs).imp (om his)
end
section
variable {X:Cx} {e a b c:Expr} {es:List Expr} {pos:Pos}
def zt (n:Nat)(f:Dl):Prop:=∀ ρ ds,f ρ=some ds→ds.length=n
def PDL (X:Cx)(es:List Expr)(n:Nat)(f:Dl):Prop:=PDA X es f∧zt n f
def aT:DF→Option (List D):=fun _=>some []
def ah (f:Dd)(g:Dl):DF→Option (List D):=fun ρ=>(f ρ).bind fun d=>(g ρ).map fun r=>d::r
theorem ax:PDL X [] 0 aT:=⟨PA.imp aQ fun σ H Q=>un7 fun P F ρ xs hf I k=>by
 cases hf
 exact k [] F H (Evo.refl I.toDHp) .nil,fun ρ ds h=>by cases h;rfl⟩
theorem af {f:Dd}{n:Nat}{g:Dl}(h:PDE X e f)(hr:PDL X es n g)(hs:starEach (e::es) X.env=(false,eval e X.env)::starEach es X.env:=by rfl):PDL X (e::es) (n+1) (ah f g):=
 ⟨PA.imp (ar h hr.1 hs) fun σ H Q=>un7 fun P F ρ xs hf I k=>by
  unfold ah at hf
  cases q:f ρ with
  | none=>rw[q] at hf;cases hf
  | some d=>
   rw[q,Ya] at hf
   cases q2:g ρ with
   | none=>rw[q2] at hf;cases hf
   | some ys=>
    rw[q2] at hf
    cases hf
    exact⟨P,F,ρ,d,q,I,fun v F1 H1 e1 r1=>⟨P,F1,ρ,ys,q2,I.evo e1,fun vs F2 H2 e2 r2=>k (v::vs) F2 H2 (e1.trans e2) (.cons (r1.same e2.ext) r2)⟩⟩,fun ρ ds hf=>by
  unfold ah at hf
  cases q:f ρ with
  | none=>rw[q] at hf;cases hf
  | some d=>
   rw[q,Ya] at hf
   cases q2:g ρ with
   | none=>rw[q2] at hf;cases hf
   | some ys=>
    rw[q2] at hf
    cases hf
    rw[Yj,hr.2 ρ ys q2]⟩
def asT (f:Dl):DF→Option D:=fun ρ=>(f ρ).map .tup
theorem bz {x1}{n:Nat}{f:Dl}(h:PDL X es n f)(hn:n≤16777216:=by decide):PDE X (.Tuple es x1 pos) (asT f):=(xS h.1).imp fun σ H Q=>un7 fun P F ρ d hf I k=>by
 unfold asT at hf
 cases q:f ρ with
 | none=>rw[q] at hf;cases hf
 | some ds=>
  rw[q] at hf
  cases hf
  refine⟨P,F,ρ,ds,q,I,fun vs F1 H1 e1 r1=>⟨by rw[r1.length,h.2 ρ ds q,YH];exact hn,fun p hp=>?_⟩⟩
  exact k (.ref p) _ _ (e1.trans (Evo.laid e1.hp hp)) (.tup aq (r1.same (eS (e1.hp.free hp).1)))
theorem bM {n:Nat}{f:Dl}(h:PDL X es n f)(hn:n≤16777216:=by decide):PDO X (.List es pos) (asL f):=(wZ h.1).imp fun σ H Q=>un7 fun P F ρ ob hf I k=>by
 unfold asL at hf
 cases q:f ρ with
 | none=>rw[q] at hf;cases hf
 | some ds=>
 rw[q] at hf
 cases hf
 refine⟨P,F,ρ,ds,q,I,fun vs F1 H1 e1 r1=>⟨by rw[r1.length,h.2 ρ ds q,YH];exact hn,fun p hp=>?_⟩⟩
 exact k p F1 _ (e1.trans (Evo.side e1.hp hp)) ⟨⟨e1.back I.toDHp hp,(e1.hp.free hp).1⟩,_,aq,r1⟩
theorem Reps.atI {K:Kq}{F:Hp}{vs:List V}{ds:List D}{i:Int}{d:D}(r:Reps K F vs ds)(h:atI ds i=some d):∃ v,atI vs i=some v∧Rep K F v d:=by
 unfold L2.atI at h ⊢
 rw[r.length]
 cases q:ixN ds.length i with
 | none=>rw[q] at h;cases h
 | some j=>
  rw[q,Ya] at h
  obtain⟨v,h1,h2⟩:=r.get h
  exact⟨v,h1,h2⟩
def ixD:D→D→Option D
 | .lst ds,.int i=>atI ds i
 | .tup ds,.int i=>atI ds i
 | .str z,.int i=>if z.length≤16777216 then (atI z.cps.toList i).map fun c=>.str ⟨#[c]⟩ else none
 | _,_=>none
theorem yt {K:Kq}:nz K (rIx K) ixD:=by
 intro P F H ρ σ x y dx dy d Q hf I rx ry k
 unfold ixD at hf
 split at hf
 ·obtain⟨p,vs,rfl,h1,h2⟩:=cb I rx
  obtain⟨v,h3,h4⟩:=h2.atI hf
  exact .inl ⟨p,vs,_,v,rfl,bK ry,h1,h3,k v F H (Evo.refl I.toDHp) h4⟩
 ·obtain⟨p,vs,rfl,h1,h2⟩:=fj I rx
  obtain⟨v,h3,h4⟩:=h2.atI hf
  exact .inr (.inl ⟨p,vs,_,v,rfl,bK ry,h1,h3,k v F H (Evo.refl I.toDHp) h4⟩)
 ·split at hf
  ·rename_i z i hz
   cases q:atI z.cps.toList i with
   | none=>rw[q] at hf;cases hf
   | some c=>
    rw[q] at hf
    cases hf
    exact .inr (.inr ⟨z,i,c,gA rx,bK ry,by rw[YH];exact hz,q,k _ F H (Evo.refl I.toDHp) .str⟩)
  ·cases hf
 ·cases hf
theorem bq {fa fb:Dd}(ha:PDR X a fa)(hb:PDR X b fb)(hs:jP b:=by exact fun _ _=>rfl):PDE X (.Subscript a b pos) (d2 ixD fa fb):=(vN qW ha hb hs).imp (mD yt)
def zd:R2:=fun x y H Q=>(∃ i j,x=.int i∧y=.int j∧Q (.int (i+j)) H)∨∃ i j,x=.str i∧y=.str j∧i.length+j.length≤sizeLine∧Q (.str (i++j)) H
theorem zF {fa fb:Dd}(ha:PDR X a fa)(hb:PDR X b fb):PDT X (.Compare a [.LtE] [b] pos) (asB (d2 leI fa fb)):=nG vM (jS fun _ _ _=>.bl) ha hb (eJ _)
theorem nU {fa fb:Dd}(ha:PDR X a fa)(hb:PDR X b fb):PDT X (.Compare a [.Gt] [b] pos) (asB (d2 gtI fa fb)):=nG zB (jS fun _ _ _=>.bl) ha hb (eJ _)
def dS (f g:Dk):DF→Option Bool:=fun ρ=>(f ρ).bind fun b=>if b=true then g ρ else some false
def orT (f g:Dk):DF→Option Bool:=fun ρ=>(f ρ).bind fun b=>if b=true then some true else g ρ
def bv (f:Dk):DF→Option Bool:=fun ρ=>(f ρ).map fun b=>!b
def PDW (X:Cx)(e:Expr)(f:Dk):Prop:=PW X e (tB' X.K f)
theorem PDW.t {f:Dk}(h:PDW X e f):PDT X e f:=PW.pt h
theorem PW.imp {t t':TT}(h:PW X e t)(i:∀ σ H Q,t' σ H Q→t σ H Q):PW X e t':=fun w pz s σ H Q I q=>h w pz s σ H Q I (i σ H Q q)
theorem dO {f:Dk}(h:PDT X a f):PDW X (.BoolOp .And [a] pos) f:=uP h
theorem fw {f:Dk}(h:PDT X a f):PDW X (.BoolOp .Or [a] pos) f:=xx h
theorem d4 {bn:List Expr}{f g:Dk}(ha:PDT X a f)(hb:PDW X (.BoolOp .And (b::bn) pos) g):PDW X (.BoolOp .And (a::b::bn) pos) (dS f g):=PW.imp (wN ha hb) fun σ H Q=>un7 fun P F ρ r hf I k=>by
 unfold dS at hf
 cases q:f ρ with
 | none=>rw[q] at hf;cases hf
 | some x=>
  rw[q,Ya] at hf
  refine⟨P,F,ρ,x,q,I,fun F1 H1 e1=>?_⟩
  cases x with
  | true=>rw[Yf rfl] at hf ⊢;exact⟨P,F1,ρ,r,hf,I.evo e1,fun F2 H2 e2=>k F2 H2 (e1.trans e2)⟩
  | false=>rw[Yh Yg] at hf ⊢;cases hf;exact k F1 H1 e1
theorem ib {bn:List Expr}{f g:Dk}(ha:PDT X a f)(hb:PDW X (.BoolOp .Or (b::bn) pos) g):PDW X (.BoolOp .Or (a::b::bn) pos) (orT f g):=PW.imp (yE ha hb) fun σ H Q=>un7 fun P F ρ r hf I k=>by
 unfold orT at hf
 cases q:f ρ with
 | none=>rw[q] at hf;cases hf
 | some x=>
  rw[q,Ya] at hf
  refine⟨P,F,ρ,x,q,I,fun F1 H1 e1=>?_⟩
  cases x with
  | true=>rw[Yf rfl] at hf ⊢;cases hf;exact k F1 H1 e1
  | false=>rw[Yh Yg] at hf ⊢;exact⟨P,F1,ρ,r,hf,I.evo e1,fun F2 H2 e2=>k F2 H2 (e1.trans e2)⟩
theorem cP {f:Dk}(ha:PDT X a f):PDT X (.UnaryOp .Not a pos) (bv f):=(qD ha).imp fun σ H Q=>un7 fun P F ρ r hf I k=>by
 unfold bv at hf
 cases q:f ρ with
 | none=>rw[q] at hf;cases hf
 | some x=>rw[q] at hf;cases hf;exact⟨P,F,ρ,x,q,I,fun F1 H1 e1=>k F1 H1 e1⟩
def kC (f g:Dd):DF→Option D:=fun ρ=>match f ρ with
 | some (.bl true)=>g ρ
 | some (.bl false)=>some (.bl false)
 | _=>none
def orV (f g:Dd):DF→Option D:=fun ρ=>match f ρ with
 | some (.bl false)=>g ρ
 | some (.bl true)=>some (.bl true)
 | _=>none
def uj (f:Dd):DF→Option D:=fun ρ=>match f ρ with
 | some (.bl b)=>some (.bl (!b))
 | _=>none
theorem iF {op}{f:Dd}(h:PDE X a f):PDE X (.BoolOp op [a] pos) f:=wS h
theorem fF {bn:List Expr}{f g:Dd}(ha:PDE X a f)(hb:PDE X (.BoolOp .And (b::bn) pos) g):PDE X (.BoolOp .And (a::b::bn) pos) (kC f g):=(xH ha hb).imp fun σ H Q=>un7 fun P F ρ r hf I k=>by
 unfold kC at hf
 split at hf
 ·rename_i q
  refine⟨P,F,ρ,_,q,I,fun v F1 H1 e1 r1=>?_⟩
  cases r1
  exact⟨true,rfl,by rw[Yf rfl];exact⟨P,F1,ρ,r,hf,I.evo e1,fun v F2 H2 e2 r2=>k v F2 H2 (e1.trans e2) r2⟩⟩
 ·rename_i q
  refine⟨P,F,ρ,_,q,I,fun v F1 H1 e1 r1=>?_⟩
  cases r1
  cases hf
  exact⟨false,rfl,by rw[Yh Yg];exact k _ F1 H1 e1 .bl⟩
 ·cases hf
theorem vU {f:Dd}(ha:PDE X a f):PDE X (.UnaryOp .Not a pos) (uj f):=(wc ha).imp fun σ H Q=>un7 fun P F ρ r hf I k=>by
 unfold uj at hf
 split at hf
 ·rename_i q
  cases hf
  refine⟨P,F,ρ,_,q,I,fun v F1 H1 e1 r1=>?_⟩
  cases r1
  exact⟨_,rfl,k _ F1 H1 e1 .bl⟩
 ·cases hf
def ifV (c:Dk)(f g:Dd):DF→Option D:=fun ρ=>(c ρ).bind fun b=>if b=true then f ρ else g ρ
theorem qM {fc:Dk}{f g:Dd}(hc:PDT X c fc)(ha:PDE X a f)(hb:PDE X b g):PDE X (.IfExp c a b pos) (ifV fc f g):=(rJ hc ha hb).imp fun σ H Q=>un7 fun P F ρ r hf I k=>by
 unfold ifV at hf
 cases q:fc ρ with
 | none=>rw[q] at hf;cases hf
 | some x=>
  rw[q,Ya] at hf
  refine⟨P,F,ρ,x,q,I,fun F1 H1 e1=>?_⟩
  cases x with
  | true=>rw[Yf rfl] at hf ⊢;exact⟨P,F1,ρ,r,hf,I.evo e1,fun v F2 H2 e2 r2=>k v F2 H2 (e1.trans e2) r2⟩
  | false=>rw[Yh Yg] at hf ⊢;exact⟨P,F1,ρ,r,hf,I.evo e1,fun v F2 H2 e2 r2=>k v F2 H2 (e1.trans e2) r2⟩
def zg (K:Kq)(r:List V→Hp→VK→Prop)(f:D→Option D):Prop:=
 ∀ (P F H:Hp) (ρ:DF) (σ:St) (x:V) (dx d:D) (Q:VK),f dx=some d→DInv K P F H ρ σ→RepS K H F x dx→(∀ v F' H',Evo P F H F' H'→Rep K F' v d→Q v H')→r [x] H Q
def d1 (f:D→Option D)(fa:Dd):DF→Option D:=fun ρ=>(fa ρ).bind f
theorem wp {K:Kq}{r:List V→Hp→VK→Prop}{f:D→Option D}{fa:Dd}(ho:zg K r f):∀ σ H Q,tD K (d1 f fa) σ H Q→tCB r (gl (tR K fa) lw) σ H Q:=fun σ H Q=>un7 fun P F ρ d hf I k=>by
 unfold d1 at hf
 cases ha:fa ρ with
 | none=>rw[ha] at hf;cases hf
 | some dx=>
  rw[ha,Ya] at hf
  exact⟨P,F,ρ,dx,ha,I,fun x F1 H1 e1 rx=>ho P F1 H1 ρ σ x dx d Q hf (I.evo e1) rx fun v F2 H2 e2 rv=>k v F2 H2 (e1.trans e2) rv⟩
def aY:D→Option D
 | .lst ds=>some (.int ds.length)
 | .tup ds=>some (.int ds.length)
 | .str z=>if z.length≤16777216 then some (.int z.length) else none
 | _=>none
def zm (K:Kq):List V→Hp→VK→Prop:=fun xs H Q=>(∃ p ys,xs=[.ref p]∧(SqL K H p ys∨SqT K H p ys)∧Q (.int ys.length) H)∨∃ z,xs=[.str z]∧z.length≤sizeLine∧Q (.int z.length) H
end
mutual
def bH:D→PyData
 | .non=>.none
 | .bl b=>.bool b
 | .int i=>.int i
 | .str x=>.str x
 | .tup xs=>.tuple (bS xs)
 | .lst xs=>.list (bS xs)
 | .dT _=>.none
 | .dK _=>.none
 | .ins _ _=>.none
 | .fn _ _ _=>.none
def bS:List D→List PyData
 | []=>[]
 | d::ds=>bH d::bS ds
end
def okN:Nat→D→Bool
 | _,.non=>true
 | _,.bl _=>true
 | _,.int _=>true
 | _,.str x=>PyData.strOk x
 | n+1,.tup xs=>xs.all (okN n)
 | n+1,.lst xs=>xs.all (okN n)
 | _,_=>false
theorem bL {n:Nat}:∀ {ds:List D},ds.all (okN n)=true→∀ d∈ds,okN n d=true:=fun h d hd=>Yz.mp h d hd
theorem bJ:∀ (n:Nat) (d:D),okN n d=true→(bH d).canLay0=true∧(bH d).depth≤n+1:=by
 intro n
 induction n with
 | zero=>
  intro d h
  cases d with
  | non=>exact⟨rfl,by simp[bH,PyData.depth]⟩
  | bl b=>exact⟨rfl,by simp[bH,PyData.depth]⟩
  | int b=>exact⟨rfl,by simp[bH,PyData.depth]⟩
  | str b=>exact⟨h,by simp[bH,PyData.depth]⟩
  | _=>cases h
 | succ n ih=>
  have all:∀ ds:List D,ds.all (okN n)=true→PyData.canLayAll0 (bS ds)=true∧PyData.depthAll (bS ds)≤n+1:=by
   intro ds
   induction ds with
   | nil=>intro _;exact⟨rfl,by simp[bS,PyData.depthAll]⟩
   | cons x r ihr=>
    intro h
    rw[List.all_cons,Yq] at h
    obtain⟨h1,h2⟩:=ih x h.1
    obtain⟨h3,h4⟩:=ihr h.2
    refine⟨?_,?_⟩
    ·show (PyData.canLay0 (bH x)&&PyData.canLayAll0 (bS r))=true
     rw[h1,h3];rfl
    ·show PyData.depthAll (bH x::bS r)≤n+1
     simp only[PyData.depthAll]
     omega
  intro d h
  cases d with
  | non=>exact⟨rfl,by simp[bH,PyData.depth]⟩
  | bl b=>exact⟨rfl,by simp[bH,PyData.depth]⟩
  | int b=>exact⟨rfl,by simp[bH,PyData.depth]⟩
  | str b=>exact⟨h,by simp[bH,PyData.depth]⟩
  | tup xs=>
   obtain⟨h1,h2⟩:=all xs h
   exact⟨h1,by simp only[bH,PyData.depth];omega⟩
  | lst xs=>
   obtain⟨h1,h2⟩:=all xs h
   exact⟨h1,by simp only[bH,PyData.depth];omega⟩
  | _=>cases h
section
variable {X:Cx} {pz:Kp} {σ:St} {H:Hp} {s:Shared}
theorem Reps.readsOf {n:Nat}(ih:∀ {v:V} {d:D} {u:Value},Rep X.K H v d→okN n d=true→RelV v u→∃ as,Reads s.heap u (bH d) as){vs:List V}{ds:List D}(h:Reps X.K H vs ds):∀ us:List Value,(∀ d∈ds,okN n d=true)→Vals vs us→∃ as,ReadsAll s.heap us (bS ds) as:=
 Reps.ind (M:=fun vs ds=>∀ us:List Value,(∀ d∈ds,okN n d=true)→Vals vs us→∃ as,ReadsAll s.heap us (bS ds) as) (fun us _ r=>by cases r;exact⟨_,.nil⟩) (fun h _ i us ho r=>by
  cases r with
  | cons r t=>
   obtain⟨a1,r1⟩:=ih h (ho _ Yc) r
   obtain⟨a2,r2⟩:=i _ (fun d hd=>ho d (Yb _ hd)) t
   exact⟨_,.cons r1 r2⟩) h
theorem Rep.reads1 (I:Inv X pz σ H s)(n:Nat)(ih:∀ m,n=m+1→∀ {v:V} {d:D} {u:Value},Rep X.K H v d→okN m d=true→RelV v u→∃ as,Reads s.heap u (bH d) as){v:V}{d:D}{u:Value}(h:Rep X.K H v d)(ho:okN n d=true)(r:RelV v u):∃ as,Reads s.heap u (bH d) as:=by
 cases h with
 | non=>cases (show u=Value.none from r);exact⟨_,.none⟩
 | bl=>cases (show u=Value.bool _ from r);exact⟨_,.bool _⟩
 | int=>obtain⟨t,rfl⟩:=(show ∃ t,u=Value.int _ t from r);exact⟨_,.int _ _⟩
 | str=>obtain⟨t,rfl⟩:=(show ∃ t,u=Value.str _ t from r);exact⟨_,.str _ _⟩
 | tup h q=>
  cases n with
  | zero=>cases ho
  | succ m=>
   cases (show u=Value.ref _ from r)
   obtain⟨its,rv,ht,_⟩:=I.tuple (SqT.of h)
   obtain⟨as,ra⟩:=Reps.readsOf (ih m rfl) q _ (bL ho) rv
   obtain⟨o,h1,h2,m,h3⟩:=ht
   exact⟨_,.tuple h1 h2 h3 (by simpa using ra)⟩
 | lst h q=>
  cases n with
  | zero=>cases ho
  | succ m=>
   cases (show u=Value.ref _ from r)
   obtain⟨its,rv,ht,_⟩:=I.list h
   obtain⟨as,ra⟩:=Reps.readsOf (ih m rfl) q _ (bL ho) rv
   obtain⟨o,m,h1,h2,_,h3⟩:=ht
   exact⟨_,.list h1 h2 h3 (by simpa using ra)⟩
 | _=>cases n <;> cases ho
theorem Rep.reads (I:Inv X pz σ H s)(n:Nat):∀ {v:V} {d:D} {u:Value},Rep X.K H v d→okN n d=true→RelV v u→∃ as,Reads s.heap u (bH d) as:=by
 induction n with
 | zero=>exact fun h ho r=>Rep.reads1 I 0 (fun m e=>by cases e) h ho r
 | succ n ih=>exact fun h ho r=>Rep.reads1 I (n+1) (fun m e=>by cases e;exact ih) h ho r
end
def eqd (x y:D):Bool:=PyData.eqv (bH x) (bH y)
def eqD (x y:D):Option D:=if (okN 30 x&&okN 30 y)=true then some (.bl (eqd x y)) else none
def neD (x y:D):Option D:=if (okN 30 x&&okN 30 y)=true then some (.bl (!eqd x y)) else none
def uk (K:Kq)(g:Bool→Bool):R2:=fun x y H Q=>∃ dx dy,Rep K H x dx∧Rep K H y dy∧okN 30 dx=true∧okN 30 dy=true∧Q (.bl (g (eqd dx dy))) H
section
variable {X:Cx} {e a b c:Expr} {es:List Expr} {pos:Pos}
theorem ss (hu:X.A.units+64<cLine):OpR X (compareOp .Eq) (uk X.K fun b=>b):=by
 intro pz s σ H x y v u Q I rx ry h
 obtain⟨dx,dy,h1,h2,o1,o2,q⟩:=h
 obtain⟨a1,r1⟩:=h1.reads I 30 o1 rx
 obtain⟨a2,r2⟩:=h2.reads I 30 o2 ry
 obtain⟨l1,p1⟩:=bJ 30 dx o1
 obtain⟨l2,p2⟩:=bJ 30 dy o2
 refine PySem.SeqAt.compareEq_shaped r1 r2 ?_ ?_ hu ⟨.bl _,H,I,rfl,q⟩
 ·unfold PySem.SeqAt.shaped;rw[l1,XL,YC];omega
 ·unfold PySem.SeqAt.shaped;rw[l2,XL,YC];omega
theorem qC (hu:X.A.units+64<cLine):OpR X (compareOp .NotEq) (uk X.K fun b=>!b):=by
 intro pz s σ H x y v u Q I rx ry h
 obtain⟨dx,dy,h1,h2,o1,o2,q⟩:=h
 obtain⟨a1,r1⟩:=h1.reads I 30 o1 rx
 obtain⟨a2,r2⟩:=h2.reads I 30 o2 ry
 obtain⟨l1,p1⟩:=bJ 30 dx o1
 obtain⟨l2,p2⟩:=bJ 30 dy o2
 refine PySem.SeqAt.compareNe_shaped r1 r2 ?_ ?_ hu ⟨.bl _,H,I,rfl,q⟩
 ·unfold PySem.SeqAt.shaped;rw[l1,XL,YC];omega
 ·unfold PySem.SeqAt.shaped;rw[l2,XL,YC];omega
theorem rf {K:Kq}:OpN2 K (uk K fun b=>b) eqD:=by
 intro P F H x y dx dy d Q hf hp rx ry k
 unfold eqD at hf
 split at hf
 ·rename_i h
  rw[Yq] at h
  cases hf
  exact⟨dx,dy,rx,ry,h.1,h.2,k _ F H (Evo.refl hp) .bl⟩
 ·cases hf
theorem sZ {K:Kq}:OpN2 K (uk K fun b=>!b) neD:=by
 intro P F H x y dx dy d Q hf hp rx ry k
 unfold neD at hf
 split at hf
 ·rename_i h
  rw[Yq] at h
  cases hf
  exact⟨dx,dy,rx,ry,h.1,h.2,k _ F H (Evo.refl hp) .bl⟩
 ·cases hf
theorem ou {fa fb:Dd}(hu:X.A.units+64<cLine)(ha:PDN X a fa)(hb:PDN X b fb):PDE X (.Compare a [.Eq] [b] pos) (d2 eqD fa fb):=mZ (ss hu) rf ha hb (eJ _)
theorem yN {fa fb:Dd}(hu:X.A.units+64<cLine)(ha:PDN X a fa)(hb:PDN X b fb):PDE X (.Compare a [.NotEq] [b] pos) (d2 neD fa fb):=mZ (qC hu) sZ ha hb (eJ _)
theorem dG {fa fb:Dd}(hu:X.A.units+64<cLine)(ha:PDN X a fa)(hb:PDN X b fb):PDT X (.Compare a [.Eq] [b] pos) (asB (d2 eqD fa fb)):=gz (ss hu) rf ha hb (eJ _)
theorem vQ {fa fb:Dd}(hu:X.A.units+64<cLine)(ha:PDN X a fa)(hb:PDN X b fb):PDT X (.Compare a [.NotEq] [b] pos) (asB (d2 neD fa fb)):=gz (qC hu) sZ ha hb (eJ _)
def b_:D→Option (List D)
 | .lst ds=>some ds
 | .tup ds=>some ds
 | _=>none
def inD (x y:D):Option D:=(b_ y).bind fun ds=>if (okN 30 x&&ds.all (okN 29))=true then some (.bl (ds.any fun z=>eqd z x)) else none
def de (x y:D):Option D:=(b_ y).bind fun ds=>if (okN 30 x&&ds.all (okN 29))=true then some (.bl (!ds.any fun z=>eqd z x)) else none
def t9 (K:Kq)(g:Bool→Bool):R2:=fun x y H Q=>∃ dx dy ds,Rep K H x dx∧Rep K H y dy∧b_ dy=some ds∧okN 30 dx=true∧ds.all (okN 29)=true∧Q (.bl (g (ds.any fun z=>eqd z dx))) H
theorem cY (x:D):∀ ds:List D,(bS ds).any (fun y=>PyData.eqv y (bH x))=ds.any fun z=>eqd z x
 | []=>rfl
 | d::ds=>by
  show ((PyData.eqv (bH d) (bH x))||(bS ds).any _)=_
  rw[cY x ds]
  rfl
theorem wD (hu:X.A.units+64<cLine):OpR X (compareOp .In) (t9 X.K fun b=>b):=by
 intro pz s σ H x y v u Q I rx ry h
 obtain⟨dx,dy,ds,h1,h2,hi,o1,o2,q⟩:=h
 obtain⟨a1,r1⟩:=h1.reads I 30 o1 rx
 obtain⟨l1,p1⟩:=bJ 30 dx o1
 have hm:min (PyData.depthAll (bS ds)) (bH dx).depth≤31:=YA (Nat.min_le_right _ _) p1
 cases dy with
 | lst xs=>
  cases hi
  obtain⟨a2,r2⟩:=h2.reads I 30 (d:=.lst ds) o2 ry
  obtain⟨l2,p2⟩:=bJ 30 (.lst ds) o2
  exact PySem.SeqAt.in_list_reads r2 r1 l2 l1 (by omega) ⟨.bl _,H,I,(by show Value.bool _=Value.bool _;rw[cY]),q⟩
 | tup xs=>
  cases hi
  obtain⟨a2,r2⟩:=h2.reads I 30 (d:=.tup ds) o2 ry
  obtain⟨l2,p2⟩:=bJ 30 (.tup ds) o2
  exact PySem.SeqAt.in_tuple_reads r2 r1 l2 l1 (by omega) ⟨.bl _,H,I,(by show Value.bool _=Value.bool _;rw[cY]),q⟩
 | _=>cases hi
theorem oY (hu:X.A.units+64<cLine):OpR X (compareOp .NotIn) (t9 X.K fun b=>!b):=by
 intro pz s σ H x y v u Q I rx ry h
 obtain⟨dx,dy,ds,h1,h2,hi,o1,o2,q⟩:=h
 obtain⟨a1,r1⟩:=h1.reads I 30 o1 rx
 obtain⟨l1,p1⟩:=bJ 30 dx o1
 have hm:min (PyData.depthAll (bS ds)) (bH dx).depth≤31:=YA (Nat.min_le_right _ _) p1
 cases dy with
 | lst xs=>
  cases hi
  obtain⟨a2,r2⟩:=h2.reads I 30 (d:=.lst ds) o2 ry
  obtain⟨l2,p2⟩:=bJ 30 (.lst ds) o2
  exact PySem.SeqAt.notIn_list_reads r2 r1 l2 l1 (by omega) ⟨.bl _,H,I,(by show Value.bool _=Value.bool _;rw[cY]),q⟩
 | tup xs=>
  cases hi
  obtain⟨a2,r2⟩:=h2.reads I 30 (d:=.tup ds) o2 ry
  obtain⟨l2,p2⟩:=bJ 30 (.tup ds) o2
  exact PySem.SeqAt.notIn_tuple_reads r2 r1 l2 l1 (by omega) ⟨.bl _,H,I,(by show Value.bool _=Value.bool _;rw[cY]),q⟩
 | _=>cases hi
theorem xQ {K:Kq}:OpN2 K (t9 K fun b=>b) inD:=by
 intro P F H x y dx dy d Q hf hp rx ry k
 unfold inD at hf
 cases q:b_ dy with
 | none=>rw[q] at hf;cases hf
 | some ds=>
  rw[q,Ya] at hf
  split at hf
  ·rename_i h
   rw[Yq] at h
   cases hf
   exact⟨dx,dy,ds,rx,ry,q,h.1,h.2,k _ F H (Evo.refl hp) .bl⟩
  ·cases hf
theorem o8 {K:Kq}:OpN2 K (t9 K fun b=>!b) de:=by
 intro P F H x y dx dy d Q hf hp rx ry k
 unfold de at hf
 cases q:b_ dy with
 | none=>rw[q] at hf;cases hf
 | some ds=>
  rw[q,Ya] at hf
  split at hf
  ·rename_i h
   rw[Yq] at h
   cases hf
   exact⟨dx,dy,ds,rx,ry,q,h.1,h.2,k _ F H (Evo.refl hp) .bl⟩
  ·cases hf
theorem qB {fa fb:Dd}(hu:X.A.units+64<cLine)(ha:PDN X a fa)(hb:PDN X b fb)(hm:behindInMarks .In b=false:=by with_unfolding_all rfl):PDE X (.Compare a [.In] [b] pos) (d2 inD fa fb):=mZ (wD hu) xQ ha hb hm
theorem r6 {fa fb:Dd}(hu:X.A.units+64<cLine)(ha:PDN X a fa)(hb:PDN X b fb)(hm:behindInMarks .NotIn b=false:=by with_unfolding_all rfl):PDT X (.Compare a [.NotIn] [b] pos) (asB (d2 de fa fb)):=gz (oY hu) o8 ha hb hm
end
section
variable {X:Cx} {tg e a b l:Expr} {pos p:Pos}
def el (f:Dd):DF→Option (List D):=fun ρ=>match f ρ with
 | some (.lst ds)=>some ds
 | _=>none
theorem rZ {f:Dd}{ρ:DF}{ds:List D}(h:el f ρ=some ds):f ρ=some (.lst ds):=by
 unfold el at h
 split at h
 ·rename_i q;cases h;exact q
 ·cases h
theorem jc {K:Kq}{P F:Hp}{a:Addr}{vs:List V}{ds:List D}(h:SqL K F a vs)(r:Reps K F vs ds):vg K P (Itl K a) F ds:=by
 intro F' H' e hp i
 have hv:SqL K H' a vs:=hp.sub.seq (e.seq h)
 refine⟨fun d hd=>?_,fun hl=>⟨vs,hv,by rw[r.length];exact hl⟩⟩
 obtain⟨v,h1,h2⟩:=r.get hd
 refine⟨⟨vs,v,hv,h1⟩,fun x H2 hy=>?_⟩
 obtain⟨rfl,hx⟩:=hy
 have:=hx vs hv
 rw[h1] at this
 cases this
 exact⟨F',Evo.refl hp,h2.same e⟩
theorem og {f:Dd}(h:PDE X l f):PDI X tg l (el f):=PI.imp (nJ h) fun σ H R=>un7 fun P F ρ ds hf I k=>by
 refine⟨P,F,ρ,_,rZ hf,I,fun v F' H' ev rv=>?_⟩
 cases rv with
 | lst h1 h2=>exact⟨_,rfl,⟨_,ev.hp.sub.seq h1⟩,k _ F' H' ev (jc h1 h2)⟩
def b8 (i:Nat):DF→Option (List D):=fun ρ=>match ρ[i]? with
 | some (some (.bor (.lst ds)))=>some ds
 | some (some (.v (.lst ds)))=>some ds
 | _=>none
theorem qg {K:Kq}{P F:Hp}{a:Addr}{vs:List V}{ds:List D}(h:P a=some (.lst vs))(r:Reps K F vs ds):vg K P (Itl K a) F ds:=by
 intro F' H' e hp i
 have hv:SqL K H' a vs:=SqL.of (hp.pro _ _ h)
 refine⟨fun d hd=>?_,fun hl=>⟨vs,hv,by rw[r.length];exact hl⟩⟩
 obtain⟨v,h1,h2⟩:=r.get hd
 refine⟨⟨vs,v,hv,h1⟩,fun x H2 hy=>?_⟩
 obtain⟨rfl,hx⟩:=hy
 have:=hx vs hv
 rw[h1] at this
 cases this
 exact⟨F',Evo.refl hp,h2.same e⟩
theorem cx (i:Nat)(h:PE X l (cA i)):PDI X tg l (b8 i):=PI.imp (nJ h) fun σ H R=>un7 fun P F ρ ds hf I k=>by
 unfold b8 at hf
 split at hf
 ·rename_i ds' q
  cases hf
  obtain⟨v,h1,a,rfl,_,u,h3,h4⟩:=I.at q
  cases u with
  | lst vs=>exact⟨_,h1,a,rfl,⟨vs,SqL.of (I.pro _ _ h3)⟩,k _ F H (Evo.refl I.toDHp) (qg h3 h4)⟩
  | _=>exact h4.elim
 ·rename_i ds' q
  cases hf
  obtain⟨v,h1,h2⟩:=I.at q
  cases h2 with
  | lst h3 h4=>exact⟨_,h1,_,rfl,⟨_,I.sub.seq h3⟩,k _ F H (Evo.refl I.toDHp) (jc h3 h4)⟩
 ·cases hf
def bN (lo:Int)(n:Nat):List D:=(List.range n).map fun i:Nat=>.int (lo+(i:Int))
theorem mL {lo:Int}{n i:Nat}{d:D}(h:(bN lo n)[i]?=some d):i<n∧d=.int (lo+(i:Int)):=by
 unfold bN at h
 rw[YF] at h
 by_cases hi:i<n
 ·rw[XA hi,Ze] at h
  cases h
  exact⟨hi,rfl⟩
 ·rw[ZS (by rw[ZI];omega)] at h
  cases h
theorem nc (lo:Int)(n:Nat):(bN lo n).length=n:=by unfold bN;rw[Ye,ZI]
theorem gT {K:Kq}{P F:Hp}(lo:Int)(n:Nat):vg K P (Itr lo n) F (bN lo n):=by
 intro F' H' e hp i
 refine⟨fun d hd=>?_,fun hl=>by rw[nc] at hl;exact hl⟩
 obtain⟨hi,rfl⟩:=mL hd
 refine⟨hi,fun x H2 hy=>?_⟩
 obtain⟨rfl,rfl⟩:=hy
 exact⟨F',Evo.refl hp,.int⟩
def cT (f:Dd):DF→Option (List D):=fun ρ=>match f ρ with
 | some (.int j)=>if -(2 ^ 62)≤j∧j<2 ^ 62 then some (bN 0 j.toNat) else none
 | _=>none
def p6 (f g:Dd):DF→Option (List D):=fun ρ=>match f ρ,g ρ with
 | some (.int i),some (.int j)=>if -(2 ^ 62)≤i∧i<2 ^ 62∧-(2 ^ 62)≤j∧j<2 ^ 62 then some (bN i (j-i).toNat) else none
 | _,_=>none
theorem bx {f:Dd}(hg:Gl X "range")(hm:X.mg "range"=none)(ha:PDR X a f)(hs:starEach [a] X.env=[(false,eval a X.env)]:=by rfl):PDI X tg (.Call (.Name "range" p) [a] [] pos) (cT f):=
 PI.imp (pd hg hm (ar ha aQ hs) hs) fun σ H R=>un7 fun P F ρ ds hf I k=>by
  unfold cT at hf
  split at hf
  ·rename_i j q
   split at hf
   ·rename_i hj
    cases hf
    refine⟨P,F,ρ,_,q,I,fun v F1 H1 e1 r1=>⟨j,by rw[bK r1],hj.1,hj.2,k _ F1 H1 e1 (gT 0 _)⟩⟩
   ·cases hf
  ·cases hf
theorem ip {f g:Dd}(hg:Gl X "range")(hm:X.mg "range"=none)(ha:PDR X a f)(hb:PDR X b g)(hs:starEach [a,b] X.env=[(false,eval a X.env),(false,eval b X.env)]:=by rfl)(hs2:starEach [b] X.env=[(false,eval b X.env)]:=by rfl):PDI X tg (.Call (.Name "range" p) [a,b] [] pos) (p6 f g):=
 PI.imp (pE hg hm (ar ha (ar hb aQ hs2) (by rw[hs,hs2])) hs hs2) fun σ H R=>un7 fun P F ρ ds hf I k=>by
  unfold p6 at hf
  split at hf
  ·rename_i i j q1 q2
   split at hf
   ·rename_i hj
    cases hf
    refine⟨P,F,ρ,_,q1,I,fun v F1 H1 e1 r1=>⟨P,F1,ρ,_,q2,I.evo e1,fun v2 F2 H2 e2 r2=>⟨i,j,by rw[bK r1,bK r2],hj,k _ F2 H2 (e1.trans e2) (gT i _)⟩⟩⟩
   ·cases hf
  ·cases hf
def jd:List Nat→List D→DF→Option DF
 | [],[],ρ=>some ρ
 | i::is,d::ds,ρ=>jd is ds (ρ.set i (some (.v d)))
 | _,_,_=>none
def d_ (is:List Nat)(d:D)(ρ:DF):Option DF:=match d with
 | .tup ds=>jd is ds ρ
 | _=>none
def na:List Nat→TGs
 | []=>zc
 | i::is=>vD (ii i) (na is)
theorem jf {K:Kq}{P F H:Hp}{Q:St→Hp→Prop}:∀ (is:List Nat) (vs:List V) (ds:List D) (ρ ρ':DF) (σ:St),Reps K F vs ds→jd is ds ρ=some ρ'→DInv K P F H ρ σ→
  (∀ σ',DInv K P F H ρ' σ'→σ'.length=σ.length→(∀ j,j∉is→σ'[j]?=σ[j]?)→Q σ' H)→na is vs σ H Q
 | [],vs,ds,ρ,ρ',σ,r,hs,I,k=>by
  cases r with
  | nil=>cases hs;exact⟨rfl,k σ I rfl fun _ _=>rfl⟩
  | cons _ _=>cases hs
 | i::is,vs,ds,ρ,ρ',σ,r,hs,I,k=>by
  cases r with
  | nil=>cases hs
  | cons h q=>
   refine⟨_,_,rfl,jf is _ _ _ ρ' _ q hs (I.setV i h) fun σ' I' hl hj=>k σ' I' (by rw[hl,YK]) fun j hn=>?_⟩
   rw[hj j (fun z=>hn (Yb _ z)),YR (fun z=>hn (by rw[z];exact Yc))]
theorem ju:∀ (is:List Nat) (ds:List D) (ρ ρ':DF),jd is ds ρ=some ρ'→ds.length=is.length
 | [],[],_,_,_=>rfl
 | [],_::_,_,_,h=>by cases h
 | _::_,[],_,_,h=>by cases h
 | i::is,d::ds,ρ,ρ',h=>by rw[Yj,Yj,ju is ds _ _ h]
theorem gE {es:List Expr}{k:Nat}{is:List Nat}(hc:X.calm=true)(h:PGs X es (na is))(hn:(assignEach es X.env).length=is.length:=by rfl)(hst:(assignEach es X.env).findIdx? (·.1)=none:=by rfl):PDG X (.Tuple es k pos) is (d_ is):=
 PG.imp (xc (n:=is.length) hc h hn hst) fun v σ H Q hh_=>by
  obtain⟨P,F,ρ,d,ρ',hs,I,r,kk⟩:=hh_
  cases d with
  | tup ds=>
   cases r with
   | tup h1 h2=>
    exact⟨_,_,rfl,SqT.of (I.sub _ _ h1),by rw[h2.length];exact ju is ds ρ ρ' hs,jf is _ ds ρ ρ' σ h2 hs I fun σ' I' hl hj=>kk σ' F H (Evo.refl I.toDHp) I' hl hj⟩
  | _=>cases hs
def iL (is:List Nat)(f:Dd):DF→Option RES:=fun ρ=>(f ρ).bind fun d=>(d_ is d ρ).map .nx
theorem uQ {es:List Expr}{k:Nat}{pos':Pos}{is:List Nat}{f:Dd}(hg:PDG X (.Tuple es k pos') is (d_ is))(he:PDE X e f)(hs:swapsWithSole [.Tuple es k pos'] e pos.line X.env=pure false:=by rfl)(hw:swappedStores [.Tuple es k pos'] e X.env=pure none:=by rfl)
  (h1:(assignEach [.Tuple es k pos'] X.env).map (·.2)=[assign (.Tuple es k pos') X.env]:=by rfl):PD1 X (.Assign [.Tuple es k pos'] e pos) (iL is f):=PS.imp (wW he hg hs hw h1) fun E σ H=>un7 fun P F ρ r hr I kk=>by
 unfold iL at hr
 cases q:f ρ with
 | none=>rw[q] at hr;cases hr
 | some d=>
  rw[q,Ya] at hr
  cases q2:d_ is d ρ with
  | none=>rw[q2] at hr;cases hr
  | some ρ'=>
   rw[q2] at hr
   cases hr
   exact⟨P,F,ρ,d,q,I,fun v F1 H1 e1 r1=>⟨P,F1,ρ,d,ρ',q2,I.evo e1,r1,fun σ' F2 H2 e2 I2 _ _=>kk σ' F2 H2 (e1.ext.trans e2.ext) I2⟩⟩
end
theorem DInv.mut {K:Kq}{P F H:Hp}{ρ:DF}{σ:St}(I:DInv K P F H ρ σ){i:Nat}{o o':OD}{t:Option Addr}{a:Addr}{u:HO}(h:ρ[i]?=some (some (.own o t)))(hf:o.flat=true)(hf':o'.flat=true)(hs:σ[i]?=some (some (.ref a)))(hr:ORep1 K F o' u) :
  DInv K P F (upd H a u) (ρ.set i (some (.own o' t))) σ:=by
 obtain⟨O,hR⟩:=I.rep
 obtain⟨v,h1,b,rfl,h2,ht⟩:=hR i _ h
 rw[hs] at h1;cases h1
 obtain⟨⟨q1,q2,q3⟩,u',q4,_⟩:=(ORep.flat hf).mp h2
 refine⟨⟨fun c w e=>by rw[ap (aD e q1)];exact I.sub c w e,fun c w e=>by rw[ap (aD e q2)];exact I.pro c w e,I.dis⟩,by rw[YK];exact I.len,O,fun j z hj=>?_⟩
 rcases ck hj with⟨rfl,e,hl⟩ | ⟨hij,hj'⟩
 ·cases e
  exact⟨_,hs,a,rfl,(ORep.flat hf').mpr ⟨⟨q1,q2,q3⟩,u,aq,hr⟩,ht⟩
 ·obtain⟨w,e1,e2⟩:=hR j z hj'
  refine⟨w,e1,?_⟩
  cases z with
  | v d'=>exact e2
  | own od t'=>(obtain⟨c,rfl,e3,ht'⟩:=e2;exact⟨c,rfl,e3.mono (Same.refl _) fun b w' q hb=>⟨by rw[ap (fun z=>by subst z;rw[q.2.2] at q3;exact hij (Yt q3).symm)];exact hb,q⟩,ht'⟩)
  | bor od=>exact e2
section
variable {X:Cx} {o e:Expr} {pos apos cpos:Pos}
def cU (i:Nat)(f:Dd):DF→Option RES:=fun ρ=>match ρ[i]? with
 | some (some (.own (.lst ds) t))=>(f ρ).bind fun d=>if ds.length<16777216 then some (.nx (ρ.set i (some (.own (.lst (ds++[d])) t)))) else none
 | _=>none
theorem fX {K:Kq}{P F H:Hp}{ρ:DF}{σ:St}(I:DInv K P F H ρ σ){i:Nat}{ds:List D}{t:Option Addr}(q:ρ[i]?=some (some (.own (.lst ds) t))):∃ a vs,σ[i]?=some (some (.ref a))∧F a=none∧P a=none∧H a=some (.lst vs)∧Reps K F vs ds:=by
 obtain⟨v,h1,a,rfl,⟨⟨q1,q2,_⟩,u,q3,q4⟩,_⟩:=I.at q
 cases u with
 | lst vs=>exact⟨a,vs,h1,q1,q2,q3,q4⟩
 | _=>exact q4.elim
theorem cD (i:Nat){f:Dd}(h:PE X o (cA i))(ha:PDE X e f)(hbase:attributeBase o "append" X.env (eval o X.env)=eval o X.env:=by rfl)
  (hfew:((backTo cpos (starEach [e] X.env)).all (fun x=>!x.1)&&(backToKw cpos (keywordEach [] X.env)).all (fun x=>x.1.isSome)
   && decide (([e]:List Expr).length+([]:List Keyword).length+(if ([]:List Keyword).isEmpty then 0 else 1)<30))=true:=by rfl)
  (hline:(apos.endLine == cpos.line)=true:=by rfl) (hs:starEach [e] X.env=[(false,eval e X.env)]:=by rfl) (hsw:swapsWith (.Call (.Attribute o "append" apos) [e] [] cpos) none pos.line X.env=pure false:=by rfl) :
  PD1 X (.Expr (.Call (.Attribute o "append" apos) [e] [] cpos) pos) (cU i f):=
 PS.imp (cz (eO YZ Zr Zs cC h (ar ha aQ hs) hbase hfew hline hs rfl) hsw) fun E σ H=>un7 fun P F ρ r hr I k=>by
  unfold cU at hr
  split at hr
  ·rename_i ds t q
   cases q2:f ρ with
   | none=>rw[q2] at hr;cases hr
   | some d=>
    rw[q2,Ya] at hr
    split at hr
    ·rename_i hl
     cases hr
     obtain⟨a,vs,h1,h2,h3,h4,h5⟩:=fX I q
     refine⟨_,h1,.inl ⟨rfl,vs,SqL.of h4⟩,P,F,ρ,d,q2,I,fun v F1 H1 e1 r1=>?_⟩
     obtain⟨k1,k2⟩:=e1.keep a _ h4 h2
     have I1:=I.evo e1
     refine⟨a,vs,v,rfl,rfl,k1,by rw[YH,h5.length];exact hl,k σ F1 _ e1.ext ?_⟩
     exact I1.mut (o':=.lst _) (u:=.lst _) q rfl rfl h1 ((h5.same e1.ext).append (.one r1))
    ·cases hr
  ·cases hr
end
mutual
def ltD:D→D→Bool
 | .int i,.int j=>decide (i<j)
 | .bl a,.bl b=>!a&&b
 | .str x,.str y=>decide (x.cps.toList<y.cps.toList)
 | .tup xs,.tup ys=>bc xs ys
 | _,_=>false
def bc:List D→List D→Bool
 | [],[]=>false
 | [],_::_=>true
 | _::_,[]=>false
 | x::xs,y::ys=>if eqd x y=true then bc xs ys else ltD x y
end
mutual
def al:D→D→Bool
 | .int _,.int _=>true
 | .bl _,.bl _=>true
 | .str _,.str _=>true
 | .tup xs,.tup ys=>aW xs ys
 | _,_=>false
def aW:List D→List D→Bool
 | x::xs,y::ys=>al x y&&aW xs ys
 | _,_=>true
end
def sr (A:Around)(s:Shared)(y x:Value)(b:Bool):Prop:=
 ∀ (prog:Program) (w:World) (E:Kv) (Q:Kv),Q (.bool b) s→wpAny (model prog w) A (richCompare .Lt y x) Q E s
inductive LexOk (A:Around) (s:Shared):List Value→List Value→List D→List D→Prop
 | nl {ws:List Value} {es:List D}:ws.length=es.length→LexOk A s [] ws [] es
 | nr {vs:List Value} {ds:List D}:vs.length=ds.length→LexOk A s vs [] ds []
 | cons {v w:Value} {d e:D} {vs ws:List Value} {ds es:List D}:SeqAt.EqAt A s v w (eqd d e)→(eqd d e=false→sr A s v w (ltD d e))→LexOk A s vs ws ds es→LexOk A s (v::vs) (w::ws) (d::ds) (e::es)
theorem LexOk.len {A:Around}{s:Shared}{vs ws:List Value}{ds es:List D}(h:LexOk A s vs ws ds es):vs.length=ds.length∧ws.length=es.length:=by
 induction h with
 | nl h=>exact⟨rfl,h⟩
 | nr h=>exact⟨h,rfl⟩
 | cons _ _ _ ih=>exact⟨ZA Nat.succ ih.1,ZA Nat.succ ih.2⟩
section
open PySem.SeqAt
open PySem.AutoSeq1 (wpAny_loadPart')
open PySem.MeetsSeq PySem.MeetsSeq2 PySem.MeetsSeq3
theorem jE (l b:Addr)(items cG:Array Value)(n n2:Nat)(dd dd2:Option Addr)(sl sl2:Array (Option Value))(ds es:List D) :
  Meets (Builtin.«tuple.__lt__» ⟨[.ref l,.ref b],[]⟩)
   (fun A R s=>LexOk A.in1 s items.toList cG.toList ds es∧s.heap.get? l=some { cls:=.type "tuple",dict:=dd,data:=.seq items n,slots:=sl }∧s.heap.get? b=some { cls:=.type "tuple",dict:=dd2,data:=.seq cG n2,slots:=sl2 } ∧
    R (.ok (.ret (.bool (bc ds es)))) s):=
 .of_wp fun prog w A R s h=>by
  obtain⟨hp,g,d,tk,os⟩:=s;obtain⟨hlex,hl,hb,h⟩:=h
  have f2:=AutoSeq1.sub_tuple_tuple
  have z1:items.size=ds.length:=by rw[← hlex.len.1];simp
  have z2:cG.size=es.length:=by rw[← hlex.len.2];simp
  wp_walk using wpAny_loadPart' hl,wpAny_loadPart' hb,wpAny_forIn_list _ (fun bn b s'=>b.1=none∧s'=⟨hp,g,d,tk,os⟩∧∃ (vs ws:List Value) (ds' es':List D),bn=vs.zip ws ∧
   LexOk A.in1 ⟨hp,g,d,tk,os⟩ vs ws ds' es'∧ds'.length+cG.size=es'.length+items.size∧R (.ok (.ret (.bool (bc ds' es')))) ⟨hp,g,d,tk,os⟩) _
  case turn=>
   rintro⟨y,x⟩ bn b s' ⟨hb',rfl,vs,ws,ds',es',hz,hx,hlen,hR⟩
   cases hx with
   | nl _=>rw[List.zip_nil_left] at hz;cases hz
   | nr _=>rw[List.zip_nil_right] at hz;cases hz
   | @cons v w' dd' ee' vs' ws' ds'' es'' he hlt hx'=>
    rw[XE] at hz
    injection hz with hyx hrest
    injection hyx with hy hxx
    subst hy hxx
    simp only[Yj] at hlen
    refine Yr (he prog w _ _ ?_)
    cases q:eqd dd' ee' with
    | true=>
     have hR':R (.ok (.ret (.bool (bc ds'' es'')))) ⟨hp,g,d,tk,os⟩:=by
      rw[bc,Yf q] at hR;exact hR
     wp_walk
     exact⟨rfl,rfl,_,_,_,_,hrest,hx',by omega,hR'⟩
    | false=>
     have hR':R (.ok (.ret (.bool (ltD dd' ee')))) ⟨hp,g,d,tk,os⟩:=by
      rw[bc,Yh (by rw[q];exact Yg)] at hR;exact hR
     have hri:=hlt q prog w
     wp_walk using hri
     exact⟨_,rfl,by simpa using hR'⟩
  case fin=>
   rintro⟨b1,b2⟩ s' ⟨hb',rfl,vs,ws,ds',es',hz,hx,hlen,hR⟩
   simp only at hb'
   subst hb'
   have hv:bc ds' es'=decide (items.size<cG.size):=by
    cases hx with
    | nl hw=>
     cases es' with
     | nil=>
      simp only[YN] at hlen
      rw[show bc [] []=false by simp[bc]]
      exact (Yx (by omega)).symm
     | cons c u=>
      simp only[YN,Yj] at hlen
      rw[show bc [] (c::u)=true by simp[bc]]
      exact (YU (by omega)).symm
    | nr hw=>
     cases ds' with
     | nil=>
      simp only[YN] at hlen
      rw[show bc [] []=false by simp[bc]]
      exact (Yx (by omega)).symm
     | cons c u=>
      simp only[YN,Yj] at hlen
      rw[show bc (c::u) []=false by simp[bc]]
      exact (Yx (by omega)).symm
    | cons _ _ _=>
     rw[XE] at hz
     cases hz
   rw[hv] at hR
   wp_walk
   exact⟨_,rfl,by simpa[Builtin.Tuple.tupleCompareSizes] using hR⟩
  case h=>
   exact⟨rfl,rfl,items.toList,cG.toList,ds,es,rfl,hlex,by omega,h⟩
end
theorem pW {A:Around}{s:Shared}{l b:Addr}{items cG:Array Value}{ds es:List D}(hl:IsTup s.heap l items)(hb:IsTup s.heap b cG)(hx:LexOk A.in1 s items.toList cG.toList ds es)(hu:A.units<cLine) :
  sr A s (.ref l) (.ref b) (bc ds es):=by
 intro prog w E Q h
 obtain⟨⟨cls,dd,data,sl⟩,ho,hc,n,hd⟩:=id hl
 obtain⟨⟨cls2,dd2,data2,sl2⟩,ho2,hc2,n2,hd2⟩:=id hb
 simp only at hc hd hc2 hd2
 subst hc hd hc2 hd2
 exact richCompare_meets_room (op:=.Lt) ⟨_,ho,rfl⟩ ⟨_,ho2,rfl⟩ PySem.F.slot_tuple_lt PySem.F.entry_tuple_lt (PySem.F.args_tuple_lt_2 _ _) (jE l b items cG n n2 dd dd2 sl sl2 ds es)
  ⟨hx,ho,ho2,show Value.bool (bc ds es)≠Value.notImplemented∧Q (.bool (bc ds es)) s from ⟨(fun x=>nomatch x),h⟩⟩ hu
section
variable {X:Cx} {pz:Kp} {σ:St} {H:Hp} {s:Shared}
def fi:D→Bool
 | .tup _=>true
 | _=>false
theorem Rep.ltS (A:Around){x y:V}{d e:D}{u w:Value}(h1:Rep X.K H x d)(h2:Rep X.K H y e)(c:al d e=true)(hd:fi d=false)(r1:RelV x u)(r2:RelV y w):sr A s u w (ltD d e):=by
 cases d with
 | int i=>
  cases e with
  | int j=>
   cases h1;cases h2
   obtain⟨t,rfl⟩:=(show ∃ t,u=Value.int _ t from r1)
   obtain⟨t',rfl⟩:=(show ∃ t,w=Value.int _ t from r2)
   intro prog w' E Q h
   exact HT.rcLt_int A s _ _ _ _ prog w' E Q (by rw[ltD] at h;exact h)
  | _=>exact absurd c Yg
 | bl b1=>
  cases e with
  | bl b2=>
   cases h1;cases h2
   cases (show u=Value.bool _ from r1)
   cases (show w=Value.bool _ from r2)
   intro prog w' E Q h
   exact (PyProof.Rows.lt_bool (by cases b1 <;> cases b2 <;> (rw[ltD] at h;exact h)):wpAny (model prog w') A (compareOp .Lt (.bool b1) (.bool b2)) Q E s)
  | _=>exact absurd c Yg
 | str x1=>
  cases e with
  | str x2=>
   cases h1;cases h2
   obtain⟨t,rfl⟩:=(show ∃ t,u=Value.str _ t from r1)
   obtain⟨t',rfl⟩:=(show ∃ t,w=Value.str _ t from r2)
   intro prog w' E Q h
   exact (PyProof.Rows.lt_str (by rw[ltD] at h;exact h):wpAny (model prog w') A (compareOp .Lt (.str x1 t) (.str x2 t')) Q E s)
  | _=>exact absurd c Yg
 | tup xs=>cases hd
 | _=>exact absurd c Yg
theorem Reps.lex (I:Inv X pz σ H s)(n:Nat)(A:Around)(hu:A.units+n+2<cLine)
  (ih:∀ {x y:V} {d e:D} {u w:Value},Rep X.K H x d→Rep X.K H y e→okN n d=true→okN n e=true→al d e=true→RelV x u→RelV y w→sr A s u w (ltD d e)) :
  ∀ {xs ys:List V} {ds es:List D} {us ws:List Value},Reps X.K H xs ds→Reps X.K H ys es→(∀ d∈ds,okN n d=true)→(∀ d∈es,okN n d=true)→aW ds es=true→Vals xs us→Vals ys ws→LexOk A s us ws ds es:=by
 intro xs ys ds
 induction ds generalizing xs ys with
 | nil=>
  intro es us ws q1 q2 _ _ _ r1 r2
  cases q1;cases r1
  exact .nl (by rw[← r2.length,q2.length])
 | cons d ds ihd=>
  intro es us ws q1 q2 o1 o2 c r1 r2
  cases es with
  | nil=>
   cases q2;cases r2
   exact .nr (by rw[← r1.length,q1.length])
  | cons e es=>
   cases q1 with
   | cons h q=>
    cases q2 with
    | cons h' q'=>
     cases r1 with
     | cons r t=>
      cases r2 with
      | cons r' t'=>
       rw[aW,Yq] at c
       have a1:=o1 _ Yc
       have a2:=o2 _ Yc
       obtain⟨x1,p1⟩:=h.reads I n a1 r
       obtain⟨x2,p2⟩:=h'.reads I n a2 r'
       obtain⟨l1,m1⟩:=bJ n _ a1
       obtain⟨l2,m2⟩:=bJ n _ a2
       refine .cons (PySem.SeqAt.eqAt_reads _ _ A s _ _ _ _ p1 p2 l1 l2 ?_) (fun _=>ih h h' a1 a2 c.1 r r') (ihd q q' (fun d hd=>o1 d (Yb _ hd)) (fun d hd=>o2 d (Yb _ hd)) c.2 t t')
       have:min (bH d).depth (bH e).depth≤n+1:=YA (Nat.min_le_left _ _) m1
       omega
theorem Rep.lt (I:Inv X pz σ H s):∀ (n:Nat) (A:Around),A.units+n+2<cLine→∀ {x y:V} {d e:D} {u w:Value},Rep X.K H x d→Rep X.K H y e→okN n d=true→okN n e=true→al d e=true→RelV x u→RelV y w→sr A s u w (ltD d e):=by
 intro n
 induction n with
 | zero=>
  intro A hu x y d e u w h1 h2 o1 o2 c r1 r2
  refine h1.ltS A h2 c ?_ r1 r2
  cases d <;> first | rfl | (simp[okN] at o1)
 | succ n ihn=>
  intro A hu x y d e u w h1 h2 o1 o2 c r1 r2
  cases hd:fi d with
  | false=>exact h1.ltS A h2 c hd r1 r2
  | true=>
   cases d with
   | tup ds=>
    cases e with
    | tup es=>
     cases h1 with
     | tup h1 q1=>
      cases h2 with
      | tup h2 q2=>
       cases (show u=Value.ref _ from r1)
       cases (show w=Value.ref _ from r2)
       obtain⟨its1,rv1,ht1,_⟩:=I.tuple (SqT.of h1)
       obtain⟨its2,rv2,ht2,_⟩:=I.tuple (SqT.of h2)
       rw[ltD]
       have hu':A.in1.units+n+2<cLine:=by show A.units+1+n+2<cLine;omega
       exact pW ht1 ht2 (Reps.lex I n A.in1 hu' (ihn A.in1 hu') q1 q2 (bL o1) (bL o2) (by rw[al] at c;exact c) rv1 rv2) (by omega)
    | _=>exact absurd c Yg
   | _=>cases hd
end
def ltd (x y:D):Option D:=if (okN 30 x&&okN 30 y&&al x y)=true then some (.bl (ltD x y)) else none
def yH (K:Kq):R2:=fun x y H Q=>∃ dx dy,Rep K H x dx∧Rep K H y dy∧okN 30 dx=true∧okN 30 dy=true∧al dx dy=true∧Q (.bl (ltD dx dy)) H
section
variable {X:Cx} {a b:Expr} {pos:Pos}
theorem wH (hu:X.A.units+64<cLine):OpR X (compareOp .Lt) (yH X.K):=by
 intro pz s σ H x y v u Q I rx ry h
 obtain⟨dx,dy,h1,h2,o1,o2,c,q⟩:=h
 exact Rep.lt I 30 X.A (by omega) h1 h2 o1 o2 c rx ry X.prog X.w X.xe _ ⟨.bl _,H,I,rfl,q⟩
theorem xR {K:Kq}:OpN2 K (yH K) ltd:=by
 intro P F H x y dx dy d Q hf hp rx ry k
 unfold ltd at hf
 split at hf
 ·rename_i h
  rw[Yq,Yq] at h
  cases hf
  exact⟨dx,dy,rx,ry,h.1.1,h.1.2,h.2,k _ F H (Evo.refl hp) .bl⟩
 ·cases hf
theorem iN {fa fb:Dd}(hu:X.A.units+64<cLine)(ha:PDN X a fa)(hb:PDN X b fb):PDT X (.Compare a [.Lt] [b] pos) (asB (d2 ltd fa fb)):=gz (wH hu) xR ha hb (eJ _)
end
end L2
namespace L2
open PySem PySem.Spec PyProof.Rows PySem.W
def kok {α:Type}(n:Nat)(lt:Nat→Nat→Bool):KasT α→(α→Prop)→Prop
 | .ret a,Q=>Q a
 | .ask i j k,Q=>i<n∧j<n∧kok n lt (k (lt i j)) Q
theorem dJ {α β:Type}{n:Nat}{lt:Nat→Nat→Bool}{f:α→KasT β}{Q:β→Prop}(t:KasT α):kok n lt t (fun a=>kok n lt (f a) Q)→kok n lt (t.bind f) Q:=by
 induction t with
 | ret a=>exact fun h=>h
 | ask i j k ih=>exact fun h=>⟨h.1,h.2.1,ih _ h.2.2⟩
theorem bW {α:Type}{n:Nat}{lt:Nat→Nat→Bool}{Q Q':α→Prop}(hq:∀ a,Q a→Q' a)(t:KasT α):kok n lt t Q→kok n lt t Q':=by
 induction t with
 | ret a=>exact hq a
 | ask i j k ih=>exact fun h=>⟨h.1,h.2.1,ih _ h.2.2⟩
theorem xT {α:Type}{n:Nat}{lt:Nat→Nat→Bool}{cmp:Nat→Nat→(Bool→Shared→Prop)→Shared→Prop}{s:Shared}{Q:α→Prop}{G:α→Shared→Prop}(hc:∀ i j C,i<n→j<n→C (lt i j) s→cmp i j C s)(hG:∀ a,Q a→G a s)(t:KasT α):kok n lt t Q→t.kasWp cmp G s:=by
 induction t with
 | ret a=>exact hG a
 | ask i j k ih=>exact fun h=>hc i j _ h.1 h.2.1 (ih _ h.2.2)
structure Ord (lt:Nat→Nat→Bool):Prop where
 asym:∀ i j,lt i j=true→lt j i=false
 trans:∀ i j k,lt j i=false→lt k j=false→lt k i=false
section
variable {n:Nat} {lt:Nat→Nat→Bool}
structure PermN (n:Nat) (p:Array Nat):Prop where
 size:p.size=n
 perm:p.toList.Perm (List.range n)
theorem PermN.bd {p:Array Nat}(h:PermN n p){i:Nat}(hi:i<n):p.getD i 0<n:=by
 have hs:i<p.size:=by rw[h.size];exact hi
 have e:p.getD i 0=p[i]:=by simp[Array.getD,hs]
 rw[e]
 have hm:p[i]∈p.toList:=by simp
 exact ZD.mp (h.perm.mem_iff.mp hm)
theorem PermN.rev {p:Array Nat}(h:PermN n p)(i j:Nat):PermN n (kas_rev p i j):=
 ⟨by unfold kas_rev;rw[mirror_size,h.size],((Array.perm_iff_toList_perm.mp (mirror_perm _ _ _ _)).trans h.perm)⟩
theorem PermN.bub {p:Array Nat}(h:PermN n p)(i j:Nat):PermN n (bubble p i j):=
 ⟨by rw[bubble_size,h.size],((Array.perm_iff_toList_perm.mp (bubble_perm _ _ _)).trans h.perm)⟩
theorem eP {p q:Array Nat}{i j:Nat}(h:p[i]?=q[j]?):p.getD i 0=q.getD j 0:=by
 simp only[ZT,h]
theorem cQ {p:Array Nat}(h:PermN n p){i j:Nat}(hj:j≤n)(k:Nat):(kas_rev p i j).getD k 0=if i≤k∧k<j then p.getD (i+j-1-k) 0 else p.getD k 0:=by
 have e:=getElem?_mirror_all (xs:=p) (i:=i) (j:=j) (by rw[h.size];exact hj) k
 unfold kas_rev
 split
 ·rename_i q;rw[Yf q] at e;exact eP e
 ·rename_i q;rw[Yh q] at e;exact eP e
def Ris (lt:Nat→Nat→Bool)(p:Array Nat)(b:Nat):Prop:=∀ i j,i≤j→j<b→lt (p.getD j 0) (p.getD i 0)=false
def Fal (lt:Nat→Nat→Bool)(p:Array Nat)(b:Nat):Prop:=∀ i j,i≤j→j<b→lt (p.getD i 0) (p.getD j 0)=false
def Eqs (lt:Nat→Nat→Bool)(p:Array Nat)(a b:Nat):Prop:=∀ i j,a≤i→i<b→a≤j→j<b→lt (p.getD i 0) (p.getD j 0)=false
theorem Ord.irr (o:Ord lt)(i:Nat):lt i i=false:=by
 cases q:lt i i with
 | false=>rfl
 | true=>have:=o.asym i i q;rw[q] at this;cases this
theorem gu {a b i:Nat}(h:a≤i∧i<b):a≤a+b-1-i∧a+b-1-i<b:=by omega
theorem rg (o:Ord lt){p:Array Nat}(hp:PermN n p):∀ (f k:Nat),1≤k→k+f≤n→Ris lt p k→kok n lt (kas_asc p f k) (fun m=>k≤m∧m≤k+f∧Ris lt p m∧(m=k+f∨lt (p.getD m 0) (p.getD (m-1) 0)=true)):=by
 intro f
 induction f with
 | zero=>exact fun k _ _ hr=>⟨Yi _,Yi _,hr,.inl rfl⟩
 | succ f ih=>
  intro k h1 hk hr
  have kn:k<n:=Yk (Xd (Nat.succ_pos f)) hk
  have k1:k-1<k:=XM h1 Nat.one_pos
  have ek:=Xe k 1 f
  unfold kas_asc
  refine⟨hp.bd kn,hp.bd (ZC k1 kn),?_⟩
  cases c:lt (p.getD k 0) (p.getD (k-1) 0) with
  | true=>
   (try dsimp only);rw[Yf rfl]
   exact⟨Yi _,Nat.le_add_right _ _,hr,.inr c⟩
  | false=>
   (try dsimp only);rw[Yh Yg]
   refine bW (fun m h=>⟨Xj h.1,YA h.2.1 (ZJ ek),h.2.2.1,h.2.2.2.imp (fun e=>e.trans ek) id⟩) _ (ih (k+1) (Zq 1 k) (YA (ZJ ek) hk) fun i j hij hj=>?_)
   by_cases hjk:j<k
   ·exact hr i j hij hjk
   ·have:j=k:=Za (Zh hj) (Zu hjk)
    subst this
    by_cases hik:i=j
    ·subst hik;exact o.irr _
    ·exact o.trans _ _ _ (hr i (j-1) (ZE (Zi hij hik)) k1) c
theorem nH {p:Array Nat}(hp:PermN n p){a b:Nat}(hb:b≤n)(he:Eqs lt p a b)(o:Ord lt)(hf:Fal lt p b):Fal lt (kas_rev p a b) b:=by
 intro i j hij hj
 rw[cQ hp hb,cQ hp hb]
 by_cases hi:a≤i∧i<b
 ·rw[Yf hi]
  have hj':a≤j∧j<b:=⟨YA hi.1 hij,hj⟩
  rw[Yf hj']
  exact he _ _ (gu hi).1 (gu hi).2 (gu hj').1 (gu hj').2
 ·rw[Yh hi]
  have hia:i<a:=Nat.lt_of_not_le fun z=>hi ⟨z,Zt hij hj⟩
  by_cases hj':a≤j∧j<b
  ·rw[Yf hj']
   exact hf _ _ (YA (Zl hia) (gu hj').1) (gu hj').2
  ·rw[Yh hj']
   exact hf i j hij hj
theorem hV (o:Ord lt){p':Array Nat}{k:Nat}(h1:1≤k)(hf':Fal lt p' k)(hc:lt (p'.getD (k-1) 0) (p'.getD k 0)=false):Fal lt p' (k+1):=by
 intro i j hij hj
 by_cases hjk:j<k
 ·exact hf' i j hij hjk
 ·have:j=k:=Za (Zh hj) (Zu hjk)
  subst this
  by_cases hik:i=j
  ·subst hik;exact o.irr _
  ·exact o.trans _ _ _ hc (hf' i (j-1) (ZE (Zi hij hik)) (XM h1 Nat.one_pos))
theorem jJ (o:Ord lt)(p':Array Nat)(k:Nat):Eqs lt p' (k+1-(0+1)) (k+1):=by
 intro i j a1 a2 a3 a4
 have e1:i=k:=Za (Zh a2) a1
 have e2:j=k:=Za (Zh a4) a3
 subst e1
 subst e2
 exact o.irr _
theorem qZ (o:Ord lt){p:Array Nat}{k q:Nat}(hb:k-(q+1)≤k-1∧k-1<k)(he:Eqs lt p (k-(q+1)) k)(c:lt (p.getD k 0) (p.getD (k-1) 0)=false)(d:lt (p.getD (k-1) 0) (p.getD k 0)=false):Eqs lt p (k+1-(q+1+1)) (k+1):=by
 have e1:∀ i,k+1-(q+1+1)≤i→i<k+1→lt (p.getD i 0) (p.getD k 0)=false∧lt (p.getD k 0) (p.getD i 0)=false:=fun i b1 b2=>by
  rw[Nat.add_sub_add_right] at b1
  by_cases hik:i=k
  ·subst hik;exact⟨o.irr _,o.irr _⟩
  ·have il:i<k:=Zi (Zh b2) hik
   exact⟨o.trans _ _ _ d (he i (k-1) b1 il hb.1 hb.2),o.trans _ _ _ (he (k-1) i hb.1 hb.2 b1 il) c⟩
 exact fun i j a1 a2 a3 a4=>o.trans _ _ _ (e1 j a3 a4).2 (e1 i a1 a2).1
theorem uY (o:Ord lt):∀ (f:Nat) (p:Array Nat) (k q:Nat),PermN n p→1≤k→k+f≤n→q+1≤k→Fal lt p k→Eqs lt p (k-(q+1)) k→
  kok n lt (kas_desc f p k q) (fun r=>PermN n r.1∧k≤r.2.1∧r.2.1≤n∧r.2.2+1≤r.2.1∧Fal lt r.1 r.2.1∧Eqs lt r.1 (r.2.1-(r.2.2+1)) r.2.1):=by
 intro f
 induction f with
 | zero=>exact fun p k q hp h1 hk hq hf he=>⟨hp,Yi _,hk,hq,hf,he⟩
 | succ f ih=>
  intro p k q hp h1 hk hq hf he
  have kn:k<n:=Yk (Xd (Nat.succ_pos f)) hk
  have k1:k-1<k:=XM h1 Nat.one_pos
  have hk':k+1+f≤n:=YA (ZJ (Xe k 1 f)) hk
  have hb:k-(q+1)≤k-1∧k-1<k:=⟨Nat.sub_le_sub_left (Nat.succ_le_succ (YI q)) k,k1⟩
  unfold kas_desc
  refine⟨hp.bd kn,hp.bd (ZC k1 kn),?_⟩
  cases c:lt (p.getD k 0) (p.getD (k-1) 0) with
  | true=>
   (try dsimp only);rw[Yf rfl]
   have hc:lt (p.getD (k-1) 0) (p.getD k 0)=false:=o.asym _ _ c
   by_cases hq0:q > 0
   ·rw[Yf hq0]
    have hf':=nH hp (Zl kn) he o hf
    have hc':lt ((kas_rev p (k-(q+1)) k).getD (k-1) 0) ((kas_rev p (k-(q+1)) k).getD k 0)=false:=by
     rw[cQ hp (Zl kn),cQ hp (Zl kn),Yf hb,Yh (fun z=>YQ _ z.2)]
     exact o.trans _ _ _ hc (he _ _ (gu hb).1 (gu hb).2 hb.1 hb.2)
    exact bW (fun r h=>⟨h.1,Xj h.2.1,h.2.2⟩) _ (ih _ (k+1) 0 (hp.rev _ _) (Zq 1 k) hk' (Zq 1 k) (hV o h1 hf' hc') (jJ o _ k))
   ·rw[Yh hq0]
    exact bW (fun r h=>⟨h.1,Xj h.2.1,h.2.2⟩) _ (ih _ (k+1) 0 hp (Zq 1 k) hk' (Zq 1 k) (hV o h1 hf hc) (jJ o _ k))
  | false=>
   (try dsimp only);rw[Yh Yg]
   refine⟨hp.bd (ZC k1 kn),hp.bd kn,?_⟩
   cases d:lt (p.getD (k-1) 0) (p.getD k 0) with
   | true=>
    (try dsimp only);rw[Yf rfl]
    exact⟨hp,Yi _,Zl kn,hq,hf,he⟩
   | false=>
    (try dsimp only);rw[Yh Yg]
    exact bW (fun r h=>⟨h.1,Xj h.2.1,h.2.2⟩) _ (ih p (k+1) (q+1) hp (Zq 1 k) hk' (Nat.succ_le_succ hq) (hV o h1 hf d) (qZ o hb he c d))
theorem tH {p:Array Nat}(hp:PermN n p){b:Nat}(hb:b≤n)(hf:Fal lt p b):Ris lt (kas_rev p 0 b) b:=by
 intro i j hij hj
 have hi:0≤i∧i<b:=⟨YI _,Zt hij hj⟩
 rw[cQ hp hb,cQ hp hb,Yf ⟨YI _,hj⟩,Yf hi]
 exact hf _ _ (Nat.sub_le_sub_left hij _) (gu hi).2
theorem lU (o:Ord lt){p:Array Nat}(hp:PermN n p){k:Nat}(h1:1≤k)(hk:k≤n)(hf:Fal lt p k):kok n lt (kas_tail3 k n p) (fun r=>1≤r.1∧r.1≤n∧PermN n r.2∧Ris lt r.2 r.1):=by
 unfold kas_tail3
 have e:=ZJ (ZY hk)
 exact dJ _ (bW (fun m h=>⟨YA h1 h.1,YA h.2.1 e,hp.rev _ _,h.2.2.1⟩) _ (rg o (hp.rev 0 k) (n-k) k h1 e (tH hp hk hf)))
theorem f7 (o:Ord lt){p:Array Nat}(hp:PermN n p){k:Nat}(h1:1≤k)(hk:k<n)(hf:Fal lt p (k+1)):kok n lt (kas_descPart k n p) (fun r=>1≤r.1∧r.1≤n∧PermN n r.2∧Ris lt r.2 r.1):=by
 unfold kas_descPart
 refine dJ _ (bW ?_ _ (uY o (n-(k+1)) p (k+1) 0 hp (Zq 1 k) (ZJ (ZY hk)) (Zq 1 k) hf (jJ o p k)))
 intro r h
 obtain⟨a1,a2,a3,a4,a5,a6⟩:=h
 have h1':=YA (Zq 1 k) a2
 by_cases hq:r.2.2 > 0
 ·rw[Yf hq]
  exact lU o (a1.rev _ _) h1' a3 (nH a1 a3 a6 o a5)
 ·rw[Yh hq]
  exact lU o a1 h1' a3 a5
theorem qK (o:Ord lt){p:Array Nat}(hp:PermN n p)(hn:1≤n):kok n lt (kas_count n p) (fun r=>1≤r.1∧r.1≤n∧PermN n r.2∧Ris lt r.2 r.1):=by
 unfold kas_count
 have en:=ZY hn
 refine dJ _ (bW (fun k hh_=>?_) _ (rg o hp (n-1) 1 (Yi _) (ZJ en) fun i j hij hj=>by
  have e2:j=0:=Nat.lt_one_iff.mp hj
  subst e2
  have e1:i=0:=Nat.le_zero.mp hij
  subst e1;exact o.irr _))
 obtain⟨a1,a2,a3,a4⟩:=hh_
 have a2:k≤n:=YA a2 (ZJ en)
 by_cases hk:(k == n)=true
 ·rw[Yf hk]
  exact⟨a1,a2,hp,a3⟩
 ·rw[Yh hk]
  have hkn:k≠n:=by simpa using hk
  have kn:k<n:=Zi a2 hkn
  have k1:k-1<k:=XM a1 Nat.one_pos
  have hlt:lt (p.getD k 0) (p.getD (k-1) 0)=true:=by
   rcases a4 with e | e
   ·exact absurd (e.trans en) hkn
   ·exact e
  have hc:=o.asym _ _ hlt
  by_cases h1:k > 1
  ·rw[Yf h1]
   refine⟨hp.bd (Yk Nat.one_pos hn),hp.bd (ZC k1 kn),?_⟩
   cases c:lt (p.getD 0 0) (p.getD (k-1) 0) with
   | true=>
    (try dsimp only);rw[Yf rfl]
    exact⟨a1,a2,hp,a3⟩
   | false=>
    (try dsimp only);rw[Yh Yg]
    have alike:∀ i j,i<k→j<k→lt (p.getD i 0) (p.getD j 0)=false:=fun i j hi hj=>
     o.trans _ _ _ (o.trans _ _ _ (a3 j (k-1) (ZE hj) k1) c) (a3 0 i (YI _) hi)
    refine f7 o (hp.rev _ _) a1 kn fun i j hij hj=>?_
    rw[cQ hp a2,cQ hp a2]
    by_cases hjk:j<k
    ·have hi:0≤i∧i<k:=⟨YI _,Zt hij hjk⟩
     rw[Yf hi,Yf ⟨YI _,hjk⟩]
     exact alike _ _ (gu hi).2 (gu ⟨YI _,hjk⟩).2
    ·have ej:j=k:=Za (Zh hj) (Zu hjk)
     subst ej
     rw[Yh (fun z:0≤j∧j<j=>YQ _ z.2)]
     by_cases hij':i<j
     ·rw[Yf ⟨YI _,hij'⟩]
      exact o.trans _ _ _ hc (alike _ _ (gu ⟨YI _,hij'⟩).2 k1)
     ·rw[Yh fun z=>hij' z.2]
      have:i=j:=Za hij (Zu hij')
      subst this
      exact o.irr _
  ·rw[Yh h1]
   have ek:k=1:=Za (Zu h1) a1
   subst ek
   refine f7 o hp (Yi _) kn fun i j hij hj=>?_
   by_cases hij':i=j
   ·subst hij';exact o.irr _
   ·have lj:i<j:=Zi hij hij'
    have e2:j=1:=Za (Zh hj) (Zt (YI i) lj)
    subst e2
    have e1:i=0:=Nat.lt_one_iff.mp lj
    subst e1
    exact hc
theorem iE (o:Ord lt){p:Array Nat}(hp:PermN n p){k:Nat}(hk:k<n)(hr:Ris lt p k):∀ (f l r:Nat),l≤r→r≤k→r-l≤f→(∀ i,i<l→lt (p.getD k 0) (p.getD i 0)=false)→(∀ i,r≤i→i<k→lt (p.getD k 0) (p.getD i 0)=true)→
  kok n lt (kas_place p k f l r) (fun m=>m≤k∧(∀ i,i<m→lt (p.getD k 0) (p.getD i 0)=false)∧∀ i,m≤i→i<k→lt (p.getD k 0) (p.getD i 0)=true):=by
 intro f
 induction f with
 | zero=>
  intro l r h1 h2 h3 h4 h5
  have e:l=r:=Za h1 (Nat.le_of_sub_eq_zero (Nat.le_zero.mp h3))
  subst e
  exact⟨h2,h4,h5⟩
 | succ f ih=>
  intro l r h1 h2 h3 h4 h5
  unfold kas_place
  by_cases hlr:l ≥ r
  ·rw[Yf hlr]
   have e:l=r:=Za h1 hlr
   subst e
   exact⟨h2,h4,h5⟩
  ·rw[Yh hlr]
   have mid:l≤(l+r)/2∧(l+r)/2<r∧(l+r)/2-l≤f∧r-((l+r)/2+1)≤f:=by
    clear h4 h5 hr hp ih h2 hk
    omega
   obtain⟨m1,m2,m3,m4⟩:=mid
   refine⟨hp.bd hk,hp.bd (ZC (Yk m2 h2) hk),?_⟩
   cases c:lt (p.getD k 0) (p.getD ((l+r)/2) 0) with
   | true=>
    (try dsimp only);rw[Yf rfl]
    refine ih l _ m1 (YA (Zl m2) h2) m3 h4 fun i a1 a2=>?_
    cases q:lt (p.getD k 0) (p.getD i 0) with
    | true=>rfl
    | false=>
     have:=o.trans _ _ _ (hr ((l+r)/2) i a1 a2) q
     rw[c] at this
     cases this
   | false=>
    (try dsimp only);rw[Yh Yg]
    exact ih _ r m2 h2 m4 (fun i a1=>o.trans _ _ _ (hr i ((l+r)/2) (Zh a1) (Yk m2 h2)) c) h5
theorem n0 {p:Array Nat}(hp:PermN n p){k l:Nat}(hk:k<n)(hl:l≤k)(i:Nat):(bubble p k (k-l)).getD i 0=if i=l then p.getD k 0 else if l<i∧i≤k then p.getD (i-1) 0 else p.getD i 0:=by
 have e:=getElem?_bubble (xs:=p) (src:=k) (by rw[hp.size];exact hk) (k-l) (Nat.sub_le _ _) i
 rw[Nat.sub_sub_self hl] at e
 by_cases h1:i=l
 ·rw[Yf h1] at e ⊢;exact eP e
 ·rw[Yh h1] at e ⊢
  by_cases h2:l<i∧i≤k
  ·rw[Yf h2] at e ⊢;exact eP e
  ·rw[Yh h2] at e ⊢;exact eP e
theorem tY (o:Ord lt){p:Array Nat}(hp:PermN n p){k l:Nat}(kn:k<n)(hr:Ris lt p k)(a1:l≤k)(a2:∀ i,i<l→lt (p.getD k 0) (p.getD i 0)=false)(a3:∀ i,l≤i→i<k→lt (p.getD k 0) (p.getD i 0)=true):Ris lt (bubble p k (k-l)) (k+1):=by
 intro i j hij hj
 have jk:j≤k:=Zh hj
 have jl:l<j→j-1<k:=fun z=>Yk (XM (Zt (YI l) z) Nat.one_pos) jk
 rw[n0 hp kn a1,n0 hp kn a1]
 by_cases ei:i=l
 ·rw[Yf ei]
  by_cases ej:j=l
  ·rw[Yf ej];exact o.irr _
  ·have lj:l<j:=Zi (ei ▸ hij) (Xi ej)
   rw[Yh ej,Yf ⟨lj,jk⟩]
   exact o.asym _ _ (a3 (j-1) (ZE lj) (jl lj))
 ·rw[Yh ei]
  by_cases ej:j=l
  ·have il:i≤l:=ej ▸ hij
   rw[Yf ej,Yh fun z=>YQ _ (Yk z.1 il)]
   exact a2 i (Zi il ei)
  ·rw[Yh ej]
   by_cases ci:l<i∧i≤k
   ·have lj:=Yk ci.1 hij
    rw[Yf ci,Yf ⟨lj,jk⟩]
    exact hr _ _ (Nat.sub_le_sub_right hij 1) (jl lj)
   ·rw[Yh ci]
    by_cases cj:l<j∧j≤k
    ·rw[Yf cj]
     exact hr _ _ (ZE (Zt (Zu fun z=>ci ⟨z,YA hij jk⟩) cj.1)) (jl cj.1)
    ·rw[Yh cj]
     exact hr _ _ hij (Yk (Zi (Zu fun z=>cj ⟨z,jk⟩) ej) a1)
theorem wL (o:Ord lt):∀ (f:Nat) (p:Array Nat) (k:Nat),PermN n p→k+f=n→Ris lt p k→kok n lt (kas_bin f p k) (fun r=>PermN n r∧Ris lt r n):=by
 intro f
 induction f with
 | zero=>exact fun p k hp hk hr=>⟨hp,by rw[← hk];exact hr⟩
 | succ f ih=>
  intro p k hp hk hr
  have kn:k<n:=hk ▸ Xd (Nat.succ_pos f)
  unfold kas_bin
  refine dJ _ (bW (fun l hh_=>?_) _ (iE o hp kn hr k 0 k (YI _) (Yi _) (Yi _) (fun i hi=>absurd hi (Nat.not_lt_zero _)) fun i h1 h2=>absurd h2 (Nat.not_lt_of_le h1)))
  obtain⟨a1,a2,a3⟩:=hh_
  exact ih _ (k+1) (hp.bub _ _) ((Xe k 1 f).trans hk) (tY o hp kn hr a1 a2 a3)
theorem gW (n:Nat):PermN n (List.toArray (List.range n)):=⟨by simp,by simp⟩
theorem kI (o:Ord lt)(hn:1≤n):kok n lt (kas_sort n) (fun r=>PermN n r∧Ris lt r n):=by
 unfold kas_sort
 refine dJ _ (bW (fun r hh_=>?_) _ (qK o (gW n) hn))
 obtain⟨a1,a2,a3,a4⟩:=hh_
 by_cases hr:r.1<n
 ·rw[Yf hr]
  have e:max r.1 1=r.1:=Nat.max_eq_left a1
  rw[e]
  exact wL o _ _ _ a3 (ZY a2) a4
 ·rw[Yh hr]
  have e:r.1=n:=Za a2 (Zu hr)
  rw[e] at a4
  exact⟨a3,a4⟩
end
section
variable {prog:Program} {w:World} {A:Around} {E:Kv} {s:Shared}
def gh (vs:List Value)(p:Array Nat):Array Value:=(p.toList.map fun i=>vs.getD i Value.none).toArray
theorem oP (vs:List Value)(h:vs.length<2):gh vs (List.toArray (List.range vs.length))=(vs.toArray.zip vs.toArray).map (·.2):=by
 cases vs with
 | nil=>simp[gh]
 | cons v r=>
  cases r with
  | nil=>simp[gh,List.range,List.range.loop]
  | cons _ _=>simp at h;omega
theorem iU {a:Addr}{vs:List Value}{n:Nat}{P:PySem.Fin→Shared→Prop}(ho:s.heap.get? a=some (seqObj "list" vs.toArray n))(h64:vs.length<64)(κ:SortKind)(lt:Nat→Nat→Bool)(o:Ord lt)
  (hk:2≤vs.length→∀ h',(∀ b u,b≠a→s.heap.get? b=some u→h'.get? b=some u)→∀ Q:SortKind→Shared→Prop,Q κ { s with heap:=h' }→wpAny (model prog w) A (keyKind' vs.toArray) Q E { s with heap:=h' })
  (hc:∀ h',(∀ b u,b≠a→s.heap.get? b=some u→h'.get? b=some u)→∀ i j C,i<vs.length→j<vs.length→C (lt i j) { s with heap:=h' }→kas_ask prog w A κ vs i j C { s with heap:=h' })
  (h:∀ p,PermN vs.length p→Ris lt p vs.length→P (.done (.ret .none)) { s with heap:=sortedHeap s.heap a vs (gh vs p) }) :
  wpAny (model prog w) A (Builtin.«list.sort» ⟨[.ref a],[]⟩) P E s:=by
 rw[list_sort_plain]
 have ha:a<s.heap.objs.size:=Yp ho
 refine Yr (listItems_at ho rfl ?_)
 refine Yr (listUpdate_at ho rfl ?_ (by rw[Yl,YH];omega) (YI _))
 obtain⟨e1,ho1⟩:∃ e1,(s.heap.update a (Obj.mapSeq fun _=>(#[]:Array Value))).get? a=some (seqObj "list" #[] e1):=⟨_,get?_update_seq ho (fun _=>#[])⟩
 refine Yr (seqEpoch_at ho1 rfl ?_)
 refine Yr (wpAny_newTuple ?_ (by show vs.length≤_;rw[YH];omega))
 refine Yr (wpAny_newList ?_ (YI _))
 refine wpAny_holding ?_
 have ho6:(((s.heap.update a (Obj.mapSeq fun _=>(#[]:Array Value))).push (seqObj "tuple" vs.toArray 0)).push (seqObj "list" #[] 0)).get? a=some (seqObj "list" #[] e1):=by
  rw[ZV _ _ _ (by rw[size_push',Xr];exact Yw (ZU ha)),ZV _ _ _ (by rw[Xr];exact Yw ha)]
  exact ho1
 have kept:∀ b u,b≠a→s.heap.get? b=some u→(((s.heap.update a (Obj.mapSeq fun _=>(#[]:Array Value))).push (seqObj "tuple" vs.toArray 0)).push (seqObj "list" #[] 0)).get? b=some u:=fun b u hb e=>by
  have hlt:b<s.heap.objs.size:=Yp e
  rw[ZV _ _ _ (by rw[size_push',Xr];exact Yw (ZU hlt)),ZV _ _ _ (by rw[Xr];exact Yw hlt),Heap.get?_update_ne _ _ _ _ hb]
  exact e
 show wpAny (model prog w) A _ P E { s with heap:=((s.heap.update a (Obj.mapSeq fun _=>(#[]:Array Value))).push (seqObj "tuple" vs.toArray 0)).push (seqObj "list" #[] 0) }
 dsimp only
 have hsz:vs.toArray.size=vs.length:=by simp
 by_cases h2:vs.toArray.size<2
 ·rw[Yf h2,Yf h2]
  refine Yr (YD ?_)
  rw[StateT.run_pure]
  refine Yr (YD ?_)
  dsimp only
  refine Yr (seqEpoch_at ho6 rfl ?_)
  refine Yr (listUpdate_at ho6 rfl ?_ (YI _) (by rw[Array.size_map];show (pairsOf vs).size≤_;rw[pairsOf_size,YH];omega))
  simp only[bne_self_eq_false,XD,if_false]
  have q:=h (List.toArray (List.range vs.length)) (gW _) (fun i j hij hj=>by
   have e1:i=j:=by omega
   subst e1
   exact o.irr _)
  have e:gh vs (List.toArray (List.range vs.length))=(vs.toArray.zip vs.toArray).map (·.2):=by
   exact oP vs (by omega)
  rw[e] at q
  exact YD q
 ·rw[Yh h2,Yh h2]
  have h2':2≤vs.length:=by omega
  refine Yr (hk h2' _ kept _ ?_)
  refine Yr (Zv (kat_run (Q:=fun st' s'=>s'={ s with heap:=((s.heap.update a (Obj.mapSeq fun _=>(#[]:Array Value))).push (seqObj "tuple" vs.toArray 0)).push (seqObj "list" #[] 0) }∧∃ p:Array Nat,PermN vs.length p∧Ris lt p vs.length∧arrOf st'=p.map (kas_item (vs.toArray.zip vs.toArray))∧failedOf st'=none)
   (G:=fun p s'=>s'={ s with heap:=((s.heap.update a (Obj.mapSeq fun _=>(#[]:Array Value))).push (seqObj "tuple" vs.toArray 0)).push (seqObj "list" #[] 0) }∧PermN vs.length p∧Ris lt p vs.length)
   rfl h2' h64 (fun p st' s' a1 a2 a3 ⟨b1,b2,b3⟩=>⟨b1,p,b2,b3,a2,a3⟩) (xT (hc _ kept) (fun p ⟨b2,b3⟩=>⟨rfl,b2,b3⟩) _ (kI o (by omega)))) ?_ fun _ _ e=>e)
  rintro⟨⟨⟩,st'⟩ s' ⟨rfl,p,hp,hr,har,hf⟩
  dsimp only
  have hout:=kat_snds rfl har
  rw[hout]
  refine Yr (seqEpoch_at ho6 rfl ?_)
  refine Yr (listUpdate_at ho6 rfl ?_ (YI _) (by rw[Yl,Ye,Zn,hp.size,YH];omega))
  rw[hf]
  simp only[bne_self_eq_false,XD,if_false]
  exact YD (h p hp hr)
end
theorem uJ {x y:Str}(h:x.cps.toList=y.cps.toList):x=y:=by
 cases x;cases y
 congr
 exact Array.toList_inj.mp h
mutual
theorem cm:∀ x y:D,al x y=true→(eqd x y=true↔x=y)
 | .int i,.int j,_=>by simp[eqd,bH,PyData.eqv]
 | .bl a,.bl b,_=>by simp[eqd,bH,PyData.eqv]
 | .str a,.str b,_=>by simp[eqd,bH,PyData.eqv]
 | .tup xs,.tup ys,h=>by
  have:=fu xs ys (by simpa[al] using h)
  simp only[eqd,bH,PyData.eqv,D.tup.injEq]
  exact this
 | .non,y,h=>by cases y <;> simp[al] at h
 | .lst _,y,h=>by cases y <;> simp[al] at h
 | .dT _,y,h=>by cases y <;> simp[al] at h
 | .dK _,y,h=>by cases y <;> simp[al] at h
 | .ins _ _,y,h=>by cases y <;> simp[al] at h
 | .int _,.non,h=>by simp[al] at h
 | .int _,.bl _,h=>by simp[al] at h
 | .int _,.str _,h=>by simp[al] at h
 | .int _,.tup _,h=>by simp[al] at h
 | .int _,.lst _,h=>by simp[al] at h
 | .int _,.dT _,h=>by simp[al] at h
 | .int _,.dK _,h=>by simp[al] at h
 | .int _,.ins _ _,h=>by simp[al] at h
 | .bl _,.non,h=>by simp[al] at h
 | .bl _,.int _,h=>by simp[al] at h
 | .bl _,.str _,h=>by simp[al] at h
 | .bl _,.tup _,h=>by simp[al] at h
 | .bl _,.lst _,h=>by simp[al] at h
 | .bl _,.dT _,h=>by simp[al] at h
 | .bl _,.dK _,h=>by simp[al] at h
 | .bl _,.ins _ _,h=>by simp[al] at h
 | .str _,.non,h=>by simp[al] at h
 | .str _,.bl _,h=>by simp[al] at h
 | .str _,.int _,h=>by simp[al] at h
 | .str _,.tup _,h=>by simp[al] at h
 | .str _,.lst _,h=>by simp[al] at h
 | .str _,.dT _,h=>by simp[al] at h
 | .str _,.dK _,h=>by simp[al] at h
 | .str _,.ins _ _,h=>by simp[al] at h
 | .tup _,.non,h=>by simp[al] at h
 | .tup _,.bl _,h=>by simp[al] at h
 | .tup _,.int _,h=>by simp[al] at h
 | .tup _,.str _,h=>by simp[al] at h
 | .tup _,.lst _,h=>by simp[al] at h
 | .tup _,.dT _,h=>by simp[al] at h
 | .tup _,.dK _,h=>by simp[al] at h
 | .tup _,.ins _ _,h=>by simp[al] at h
theorem fu:∀ xs ys:List D,aW xs ys=true→(PyData.eqvAll (bS xs) (bS ys)=true↔xs=ys)
 | [],[],_=>by simp[bS,PyData.eqvAll]
 | [],_::_,_=>by simp[bS,PyData.eqvAll]
 | _::_,[],_=>by simp[bS,PyData.eqvAll]
 | x::xs,y::ys,h=>by
  rw[aW,Yq] at h
  have h1:=cm x y h.1
  have h2:=fu xs ys h.2
  simp only[bS,PyData.eqvAll,Yq,List.cons.injEq]
  rw[h2]
  unfold eqd at h1
  rw[h1]
end
structure Fc2 {α:Type} (l:α→α→Bool) (x y:α):Prop where
 as:l x y=true→l y x=false
 an:l x y=false→l y x=false→x=y
def Fc3 {α:Type}(l:α→α→Bool)(x y z:α):Prop:=l x y=true→l y z=true→l x z=true
theorem aH {x y:D}(h:al x y=true):(∃ i j,x=.int i∧y=.int j)∨(∃ i j,x=.bl i∧y=.bl j)∨(∃ i j,x=.str i∧y=.str j)∨∃ i j,x=.tup i∧y=.tup j∧aW i j=true:=by
 cases x with
 | int i=>
  refine .inl ?_
  cases y with
  | int j=>exact⟨_,_,rfl,rfl⟩
  | _=>exact absurd h Yg
 | bl i=>
  refine .inr (.inl ?_)
  cases y with
  | bl j=>exact⟨_,_,rfl,rfl⟩
  | _=>exact absurd h Yg
 | str i=>
  refine .inr (.inr (.inl ?_))
  cases y with
  | str j=>exact⟨_,_,rfl,rfl⟩
  | _=>exact absurd h Yg
 | tup i=>
  refine .inr (.inr (.inr ?_))
  cases y with
  | tup j=>exact⟨_,_,rfl,rfl,h⟩
  | _=>exact absurd h Yg
 | _=>exact absurd h Yg
theorem pf {a b:List Nat}(h:a<b):¬ b<a:=fun h'=>List.lt_irrefl a (List.lt_trans h h')
theorem fy {x y:D}(h1:al x y=true)(ht:fi x=false):Fc2 ltD x y:=by
 rcases aH h1 with⟨i,j,rfl,rfl⟩ | ⟨i,j,rfl,rfl⟩ | ⟨i,j,rfl,rfl⟩ | ⟨i,j,rfl,rfl,_⟩
 ·refine⟨fun h=>?_,fun h h'=>?_⟩
  ·simp only[ltD,YC,Zj] at h ⊢;omega
  ·simp only[ltD,Zj] at h h';rw[show i=j by omega]
 ·refine⟨fun h=>?_,fun h h'=>?_⟩
  ·cases i <;> cases j <;> simp_all [ltD]
  ·cases i <;> cases j <;> simp_all [ltD]
 ·refine⟨fun h=>?_,fun h h'=>?_⟩
  ·simp only[ltD,YC,Zj] at h ⊢;exact pf h
  ·simp only[ltD,Zj] at h h'
   rw[uJ (List.le_antisymm h' h)]
 ·cases ht
theorem fD {x y z:D}(h1:al x y=true)(h2:al y z=true)(ht:fi x=false):Fc3 ltD x y z:=by
 rcases aH h1 with⟨i,j,rfl,rfl⟩ | ⟨i,j,rfl,rfl⟩ | ⟨i,j,rfl,rfl⟩ | ⟨i,j,rfl,rfl,_⟩
 ·rcases aH h2 with⟨j',k,e,rfl⟩ | ⟨j',k,e,rfl⟩ | ⟨j',k,e,rfl⟩ | ⟨j',k,e,rfl,_⟩ <;> cases e
  intro h h'
  simp only[ltD,YC] at h h' ⊢;omega
 ·rcases aH h2 with⟨j',k,e,rfl⟩ | ⟨j',k,e,rfl⟩ | ⟨j',k,e,rfl⟩ | ⟨j',k,e,rfl,_⟩ <;> cases e
  intro h h'
  cases i <;> cases j <;> cases k <;> simp_all [ltD]
 ·rcases aH h2 with⟨j',k,e,rfl⟩ | ⟨j',k,e,rfl⟩ | ⟨j',k,e,rfl⟩ | ⟨j',k,e,rfl,_⟩ <;> cases e
  intro h h'
  simp only[ltD,YC] at h h' ⊢;exact List.lt_trans h h'
 ·cases ht
theorem pI (n:Nat):∀ x y:D,okN n x=true→al x y=true→al y x=true:=by
 induction n with
 | zero=>
  intro x y o h
  rcases aH h with⟨i,j,rfl,rfl⟩ | ⟨i,j,rfl,rfl⟩ | ⟨i,j,rfl,rfl⟩ | ⟨i,j,rfl,rfl,_⟩
  ·rfl
  ·rfl
  ·rfl
  ·simp[okN] at o
 | succ n ih=>
  intro x y o h
  rcases aH h with⟨i,j,rfl,rfl⟩ | ⟨i,j,rfl,rfl⟩ | ⟨i,j,rfl,rfl⟩ | ⟨i,j,rfl,rfl,hc⟩
  ·rfl
  ·rfl
  ·rfl
  ·have key:∀ (xs ys:List D),(∀ d∈xs,okN n d=true)→aW xs ys=true→aW ys xs=true:=by
    intro xs
    induction xs with
    | nil=>intro ys _ _;cases ys <;> simp[aW]
    | cons x xs ihx=>
     intro ys ho hc
     cases ys with
     | nil=>simp[aW]
     | cons y ys=>
      rw[aW,Yq] at hc ⊢
      exact⟨ih x y (ho x Yc) hc.1,ihx ys (fun d hd=>ho d (Yb _ hd)) hc.2⟩
   rw[al]
   exact key i j (bL o) hc
theorem uA {n:Nat}(ih:∀ x y:D,okN n x=true→okN n y=true→al x y=true→Fc2 ltD x y) :
  ∀ (xs ys:List D),(∀ d∈xs,okN n d=true)→(∀ d∈ys,okN n d=true)→aW xs ys=true→Fc2 bc xs ys:=by
 intro xs
 induction xs with
 | nil=>
  intro ys _ _ _
  refine⟨fun h=>?_,fun h h'=>?_⟩
  ·cases ys <;> simp_all [bc]
  ·cases ys <;> simp_all [bc]
 | cons x xs ihx=>
  intro ys ox oy c1
  cases ys with
  | nil=>
   refine⟨fun h=>?_,fun h h'=>?_⟩
   ·simp[bc] at h
   ·simp[bc] at h'
  | cons y ys=>
   rw[aW,Yq] at c1
   have px:=ox x Yc
   have py:=oy y Yc
   have exy:=cm x y c1.1
   have eyx:=cm y x (pI n x y px c1.1)
   have G:=ihx ys (fun d hd=>ox d (Yb _ hd)) (fun d hd=>oy d (Yb _ hd)) c1.2
   refine⟨fun h=>?_,fun h h'=>?_⟩
   ·rw[bc] at h ⊢
    by_cases hxy:x=y
    ·rw[Yf (exy.mpr hxy)] at h
     rw[Yf (eyx.mpr hxy.symm)]
     exact G.as h
    ·rw[Yh (fun q=>hxy (exy.mp q))] at h
     rw[Yh (fun q=>hxy (eyx.mp q).symm)]
     exact (ih x y px py c1.1).as h
   ·rw[bc] at h h'
    by_cases hxy:x=y
    ·rw[Yf (exy.mpr hxy)] at h
     rw[Yf (eyx.mpr hxy.symm)] at h'
     rw[hxy,G.an h h']
    ·rw[Yh (fun q=>hxy (exy.mp q))] at h
     rw[Yh (fun q=>hxy (eyx.mp q).symm)] at h'
     exact absurd ((ih x y px py c1.1).an h h') hxy
theorem fg (n:Nat):∀ x y:D,okN n x=true→okN n y=true→al x y=true→Fc2 ltD x y:=by
 induction n with
 | zero=>
  intro x y ox oy c1
  refine fy c1 ?_
  cases x <;> first | rfl | (simp[okN] at ox)
 | succ n ih=>
  intro x y ox oy c1
  rcases aH c1 with⟨i,j,rfl,rfl⟩ | ⟨i,j,rfl,rfl⟩ | ⟨i,j,rfl,rfl⟩ | ⟨i,j,rfl,rfl,d1⟩
  ·exact fy c1 rfl
  ·exact fy c1 rfl
  ·exact fy c1 rfl
  ·have F:=uA ih i j (bL ox) (bL oy) d1
   refine⟨fun h=>?_,fun h h'=>?_⟩
   ·rw[ltD] at h ⊢;exact F.as h
   ·rw[ltD] at h h';rw[F.an h h']
theorem t7 {n:Nat}(ih:∀ x y z:D,okN n x=true→okN n y=true→okN n z=true→al x y=true→al y z=true→al x z=true→Fc3 ltD x y z) :
  ∀ (xs ys zs:List D),(∀ d∈xs,okN n d=true)→(∀ d∈ys,okN n d=true)→(∀ d∈zs,okN n d=true)→aW xs ys=true→aW ys zs=true→aW xs zs=true→Fc3 bc xs ys zs:=by
 intro xs
 induction xs with
 | nil=>
  intro ys zs _ _ _ _ _ _ h h'
  cases ys <;> cases zs <;> simp_all [bc]
 | cons x xs ihx=>
  intro ys zs ox oy oz c1 c2 c3 h h'
  cases ys with
  | nil=>simp[bc] at h
  | cons y ys=>
   rw[aW,Yq] at c1
   have px:=ox x Yc
   have py:=oy y Yc
   have exy:=cm x y c1.1
   cases zs with
   | nil=>simp[bc] at h'
   | cons z zs=>
    rw[aW,Yq] at c2 c3
    have pz:=oz z Yc
    have eyz:=cm y z c2.1
    have exz:=cm x z c3.1
    have F:=ih x y z px py pz c1.1 c2.1 c3.1
    rw[bc] at h h' ⊢
    by_cases hxy:x=y
    ·rw[Yf (exy.mpr hxy)] at h
     by_cases hyz:y=z
     ·rw[Yf (eyz.mpr hyz)] at h'
      rw[Yf (exz.mpr (hxy.trans hyz))]
      exact ihx ys zs (fun d hd=>ox d (Yb _ hd)) (fun d hd=>oy d (Yb _ hd)) (fun d hd=>oz d (Yb _ hd)) c1.2 c2.2 c3.2 h h'
     ·rw[Yh (fun q=>hyz (eyz.mp q))] at h'
      rw[Yh (fun q=>hyz (hxy.symm.trans (exz.mp q)))]
      rw[hxy];exact h'
    ·rw[Yh (fun q=>hxy (exy.mp q))] at h
     by_cases hyz:y=z
     ·rw[Yh (fun q=>hxy ((exz.mp q).trans hyz.symm))]
      rw[← hyz];exact h
     ·rw[Yh (fun q=>hyz (eyz.mp q))] at h'
      have hxz:=F h h'
      by_cases he:x=z
      ·subst he
       have:=(fg n x y px py c1.1).as h
       rw[h'] at this
       cases this
      ·rw[Yh (fun q=>he (exz.mp q))]
       exact hxz
theorem uo (n:Nat):∀ x y z:D,okN n x=true→okN n y=true→okN n z=true→al x y=true→al y z=true→al x z=true→Fc3 ltD x y z:=by
 induction n with
 | zero=>
  intro x y z ox oy oz c1 c2 c3
  refine fD c1 c2 ?_
  cases x <;> first | rfl | (simp[okN] at ox)
 | succ n ih=>
  intro x y z ox oy oz c1 c2 c3
  rcases aH c1 with⟨i,j,rfl,rfl⟩ | ⟨i,j,rfl,rfl⟩ | ⟨i,j,rfl,rfl⟩ | ⟨i,j,rfl,rfl,d1⟩
  ·exact fD c1 c2 rfl
  ·exact fD c1 c2 rfl
  ·exact fD c1 c2 rfl
  ·rcases aH c2 with⟨j',k,e,rfl⟩ | ⟨j',k,e,rfl⟩ | ⟨j',k,e,rfl⟩ | ⟨j',k,e,rfl,d2⟩ <;> cases e
   have F:=t7 ih i j k (bL ox) (bL oy) (bL oz) d1 d2 (by simpa[al] using c3)
   intro h h'
   rw[ltD] at h h' ⊢
   exact F h h'
def pD (x:D):List D→List D
 | []=>[x]
 | y::r=>if ltD x y=true then x::y::r else y::pD x r
def bg:List D→List D
 | []=>[]
 | x::r=>pD x (bg r)
theorem fT (x:D):∀ l:List D,(pD x l).Perm (x::l)
 | []=>.refl _
 | y::r=>by
  unfold pD
  split
  ·exact .refl _
  ·exact ((fT x r).cons y).trans (.swap x y r)
theorem b9:∀ l:List D,(bg l).Perm l
 | []=>.refl _
 | x::r=>(fT x (bg r)).trans ((b9 r).cons x)
def Cmps (n:Nat)(ds:List D):Prop:=(∀ d∈ds,okN n d=true)∧∀ x∈ds,∀ y∈ds,al x y=true
theorem kK {n:Nat}:∀ {as bs:List D},as.Perm bs→Cmps n as→as.Pairwise (fun x y=>ltD y x=false)→bs.Pairwise (fun x y=>ltD y x=false)→as=bs:=by
 intro as
 induction as with
 | nil=>intro bs hp _ _ _;exact (List.Perm.nil_eq hp)
 | cons a as ih=>
  intro bs hp hc pa pb
  cases bs with
  | nil=>exact absurd hp.symm (List.not_perm_nil_cons _ _)
  | cons b bs=>
   have ma:a∈b::bs:=hp.mem_iff.mp Yc
   have mb:b∈a::as:=hp.mem_iff.mpr Yc
   have e:a=b:=by
    rcases Yy.mp ma with h | h
    ·exact h
    ·rcases Yy.mp mb with h' | h'
     ·exact h'.symm
     ·have l1:=(Zk.mp pa).1 b h'
      have l2:=(Zk.mp pb).1 a h
      exact (fg n a b (hc.1 a Yc) (hc.1 b mb) (hc.2 a Yc b mb)).an l2 l1
   subst e
   rw[ih (List.Perm.cons_inv hp) ⟨fun d hd=>hc.1 d (Yb _ hd),fun x hx y hy=>hc.2 x (Yb _ hx) y (Yb _ hy)⟩ (Zk.mp pa).2 (Zk.mp pb).2]
theorem Cmps.perm {n:Nat}{as bs:List D}(h:Cmps n as)(p:as.Perm bs):Cmps n bs:=⟨fun d hd=>h.1 d (p.mem_iff.mpr hd),fun x hx y hy=>h.2 x (p.mem_iff.mpr hx) y (p.mem_iff.mpr hy)⟩
theorem js {n:Nat}{x y z:D}(ox:okN n x=true)(oy:okN n y=true)(oz:okN n z=true)(cxy:al x y=true)(cyz:al y z=true)(cxz:al x z=true)(cyx:al y x=true)(czy:al z y=true)(czx:al z x=true)
  (h1:ltD y x=false) (h2:ltD z y=false):ltD z x=false:=by
 cases q:ltD z x with
 | false=>rfl
 | true=>
  -- z<x;x≤y
  by_cases hxy:ltD x y=true
  ·have:=uo n z x y oz ox oy czx cxy czy q hxy
   rw[h2] at this;cases this
  ·have e:x=y:=(fg n x y ox oy cxy).an (by simpa using hxy) h1
   subst e
   rw[h2] at q;cases q
theorem gj {n:Nat}{x:D}:∀ {l:List D},Cmps n (x::l)→l.Pairwise (fun a b=>ltD b a=false)→(pD x l).Pairwise (fun a b=>ltD b a=false)
 | [],_,_=>List.pairwise_singleton _ _
 | y::r,hc,hp=>by
  have mx:x∈x::y::r:=Yc
  have my:y∈x::y::r:=Yb _ Yc
  obtain⟨h1,h2⟩:=Zk.mp hp
  unfold pD
  split
  ·rename_i q
   refine Zk.mpr ⟨fun z hz=>?_,hp⟩
   have hyx:ltD y x=false:=(fg n x y (hc.1 x mx) (hc.1 y my) (hc.2 x mx y my)).as q
   rcases Yy.mp hz with rfl | hz
   ·exact hyx
   ·have mz:z∈x::y::r:=Yb _ (Yb _ hz)
    exact js (hc.1 x mx) (hc.1 y my) (hc.1 z mz) (hc.2 x mx y my) (hc.2 y my z mz) (hc.2 x mx z mz) (hc.2 y my x mx) (hc.2 z mz y my) (hc.2 z mz x mx) hyx (h1 z hz)
  ·rename_i q
   refine Zk.mpr ⟨fun z hz=>?_,gj (x:=x) ⟨fun d hd=>hc.1 d ?_,fun a ha b hb=>hc.2 a ?_ b ?_⟩ h2⟩
   ·rcases Yy.mp ((fT x r).mem_iff.mp hz) with rfl | hz
    ·simpa using q
    ·exact h1 z hz
   all_goals
    first
     | (
      rcases Yy.mp hd with rfl | hd
      ·exact mx
      ·exact Yb _ (Yb _ hd))
     | (
      rcases Yy.mp ha with rfl | ha
      ·exact mx
      ·exact Yb _ (Yb _ ha))
     | (
      rcases Yy.mp hb with rfl | hb
      ·exact mx
      ·exact Yb _ (Yb _ hb))
theorem Cmps.sub {n:Nat}{as bs:List D}(h:Cmps n bs)(k:∀ x∈as,x∈bs):Cmps n as:=⟨fun d hd=>h.1 d (k d hd),fun x hx y hy=>h.2 x (k x hx) y (k y hy)⟩
theorem dg {n:Nat}:∀ {l:List D},Cmps n l→(bg l).Pairwise (fun a b=>ltD b a=false)
 | [],_=>.nil
 | x::r,hc=>gj (hc.sub fun y hy=>by
   rcases Yy.mp hy with rfl | hy
   ·exact Yc
   ·exact Yb _ ((b9 r).mem_iff.mp hy)) (dg (hc.sub fun y hy=>Yb _ hy))
theorem eE {n:Nat}{as bs:List D}(hp:as.Perm bs)(hc:Cmps n bs)(hs:as.Pairwise (fun x y=>ltD y x=false)):as=bg bs:=
 kK (hp.trans (b9 bs).symm) (hc.perm hp.symm) hs (dg hc)
theorem mW {n:Nat}{as bs:List D}(hp:as.Perm bs)(hc:Cmps n bs):bg as=bg bs:=
 eE ((b9 as).trans hp) hc (dg (hc.perm hp.symm))
end L2
namespace L2
open PySem PySem.Spec PyProof.Rows
section
variable {X:Cx} {e a b c o:Expr} {es:List Expr} {pos p:Pos}
theorem k9 {K:Kq}{H:Hp}{x:V}{i:Int}(r:Rep K H x (.int i)):x=.int i:=by cases r;rfl
theorem iz {K:Kq}{H:Hp}{x:V}{i:Str}(r:Rep K H x (.str i)):x=.str i:=by cases r;rfl
theorem jQ {K:Kq}{g:Int→Int→V}{g':Int→Int→D}(hg:∀ F i j,Rep K F (g i j) (g' i j)):OpN2 K (rI0 g) (fI0 g'):=by
 intro P F H x y dx dy d Q hf hp rx ry k
 unfold fI0 at hf
 split at hf
 ·rename_i i j
  cases hf
  exact⟨i,j,k9 rx,k9 ry,k _ F H (Evo.refl hp) (hg F i j)⟩
 ·cases hf
theorem OpN2.or {K:Kq}{r r':R2}{f g:Dy}(h:OpN2 K r f)(h':OpN2 K r' g):OpN2 K (fun x y H Q=>r x y H Q∨r' x y H Q) (fun x y=>(f x y).or (g x y)):=by
 intro P F H x y dx dy d Q hf hp rx ry k
 dsimp only at hf
 cases q:f dx dy with
 | some d'=>rw[q] at hf;have hf:=Yt hf;subst hf;exact .inl (h P F H x y dx dy _ Q q hp rx ry k)
 | none=>rw[q] at hf;exact .inr (h' P F H x y dx dy d Q hf hp rx ry k)
def leS:D→D→Option D
 | .str x,.str y=>some (.bl (!decide (y.cps.toList<x.cps.toList)))
 | _,_=>none
def u5:R2:=fun x y H Q=>∃ i j,x=.str i∧y=.str j∧Q (.bl (!decide (j.cps.toList<i.cps.toList))) H
theorem oT:OpR X (compareOp .LtE) u5:=by
 intro pz s σ H x y v u Q I rx ry h
 obtain⟨i,j,rfl,rfl,q⟩:=h
 obtain⟨t,rfl⟩:=rx
 obtain⟨t',rfl⟩:=ry
 exact PySem.P.le_str ⟨.bl _,H,I,rfl,q⟩
theorem v_ {K:Kq}:OpN2 K u5 leS:=by
 intro P F H x y dx dy d Q hf hp rx ry k
 unfold leS at hf
 split at hf
 ·cases hf
  exact⟨_,_,iz rx,iz ry,k _ F H (Evo.refl hp) .bl⟩
 ·cases hf
def leA (x y:D):Option D:=(leI x y).or (leS x y)
theorem fQ:OpR X (compareOp .LtE) (fun x y H Q=>rI0 (fun i j=>.bl (decide (i≤j))) x y H Q∨u5 x y H Q):=vM.or oT
theorem fU {K:Kq}:OpN2 K (fun x y H Q=>rI0 (fun i j=>.bl (decide (i≤j))) x y H Q∨u5 x y H Q) leA:=(jQ fun _ _ _=>.bl).or v_
def chD (f g:Dy)(fa fb fc:Dd):DF→Option D:=fun ρ=>(fa ρ).bind fun x=>(fb ρ).bind fun y=>match f x y with
 | some (.bl true)=>(fc ρ).bind fun z=>g y z
 | some (.bl false)=>some (.bl false)
 | _=>none
theorem eX {K:Kq}{r r':R2}{f g:Dy}{fa fb fc:Dd}(ho:OpN2 K r f)(ho':OpN2 K r' g):∀ σ H Q,tD K (chD f g fa fb fc) σ H Q→mw r r' (tN K fa) (tN K fb) (tN K fc) σ H Q:=fun σ H Q=>un7 fun P F ρ d hf I k=>by
 unfold chD at hf
 cases ha:fa ρ with
 | none=>rw[ha] at hf;cases hf
 | some dx=>
 cases hb:fb ρ with
 | none=>rw[ha,Ya,hb] at hf;cases hf
 | some dy=>
 rw[ha,Ya,hb,Ya] at hf
 split at hf
 ·rename_i hxy
  cases hc:fc ρ with
  | none=>rw[hc] at hf;cases hf
  | some dz=>
   rw[hc,Ya] at hf
   refine⟨P,F,ρ,dx,ha,I,fun x F1 H1 e1 rx=>⟨P,F1,ρ,dy,hb,I.evo e1,fun y F2 H2 e2 ry=>?_⟩⟩
   refine ho P F2 H2 x y dx dy _ _ hxy e2.hp (rx.same (e2.same e1.hp)) ry fun v F3 H3 e3 rv=>?_
   cases rv
   refine⟨true,rfl,?_⟩
   rw[Yf rfl]
   have e123:=(e1.trans e2).trans e3
   refine⟨P,F3,ρ,dz,hc,I.evo e123,fun z F4 H4 e4 rz=>?_⟩
   exact ho' P F4 H4 y z dy dz d Q hf e4.hp ((ry.same (e3.same e2.hp)).same (e4.same e3.hp)) rz fun v F5 H5 e5 rv=>k v F5 H5 ((e123.trans e4).trans e5) rv
 ·rename_i hxy
  cases hf
  refine⟨P,F,ρ,dx,ha,I,fun x F1 H1 e1 rx=>⟨P,F1,ρ,dy,hb,I.evo e1,fun y F2 H2 e2 ry=>?_⟩⟩
  refine ho P F2 H2 x y dx dy _ _ hxy e2.hp (rx.same (e2.same e1.hp)) ry fun v F3 H3 e3 rv=>?_
  cases rv
  refine⟨false,rfl,?_⟩
  rw[Yh Yg]
  exact k _ F3 H3 ((e1.trans e2).trans e3) .bl
 ·cases hf
theorem nV {fa fb fc:Dd}(ha:PDN X a fa)(hb:PDN X b fb)(hc:PDN X c fc)(hm:lastMarks [CmpOp.LtE,CmpOp.LtE] [b,c]=false:=by with_unfolding_all rfl):PDE X (.Compare a [.LtE,.LtE] [b,c] pos) (chD leA leA fa fb fc):=(lL fQ fQ ha hb hc hm).imp (eX fU fU)
theorem jH {fa fb fc:Dd}(ha:PDN X a fa)(hb:PDN X b fb)(hc:PDN X c fc)(hm:lastMarks [CmpOp.LtE,CmpOp.Lt] [b,c]=false:=by with_unfolding_all rfl):PDE X (.Compare a [.LtE,.Lt] [b,c] pos) (chD leA ltI fa fb fc):=(lL fQ vy ha hb hc hm).imp (eX fU (jQ fun _ _ _=>.bl))
theorem uC {fa fb fc:Dd}(ha:PDN X a fa)(hb:PDN X b fb)(hc:PDN X c fc)(hm:lastMarks [CmpOp.LtE,CmpOp.LtE] [b,c]=false:=by with_unfolding_all rfl):PDT X (.Compare a [.LtE,.LtE] [b,c] pos) (asB (chD leA leA fa fb fc)):=(lm fQ fQ ha hb hc hm).imp (dW (eX fU fU))
theorem vm {fa fb fc:Dd}(ha:PDN X a fa)(hb:PDN X b fb)(hc:PDN X c fc)(hm:lastMarks [CmpOp.LtE,CmpOp.Lt] [b,c]=false:=by with_unfolding_all rfl):PDT X (.Compare a [.LtE,.Lt] [b,c] pos) (asB (chD leA ltI fa fb fc)):=(lm fQ vy ha hb hc hm).imp (dW (eX fU (jQ fun _ _ _=>.bl)))
def wE (K:Kq)(r:List V→Hp→VK→Prop)(f:D→Option D):Prop:=
 ∀ (P F H:Hp) (x:V) (dx d:D) (Q:VK),f dx=some d→DHp P F H→Rep K H x dx→(∀ v F' H',Evo P F H F' H'→Rep K F' v d→Q v H')→r [x] H Q
theorem mJ {K:Kq}{r:List V→Hp→VK→Prop}{f:D→Option D}{fa:Dd}(ho:wE K r f):∀ σ H Q,tD K (d1 f fa) σ H Q→tCB r (gl (tN K fa) lw) σ H Q:=fun σ H Q=>un7 fun P F ρ d hf I k=>by
 unfold d1 at hf
 cases ha:fa ρ with
 | none=>rw[ha] at hf;cases hf
 | some dx=>
  rw[ha,Ya] at hf
  exact⟨P,F,ρ,dx,ha,I,fun x F1 H1 e1 rx=>ho P F1 H1 x dx d Q hf e1.hp rx fun v F2 H2 e2 rv=>k v F2 H2 (e1.trans e2) rv⟩
theorem vY {K:Kq}:wE K (zm K) aY:=by
 intro P F H x dx d Q hf hp rx k
 unfold aY at hf
 split at hf
 ·cases hf
  cases rx with | lst h1 h2=>exact .inl ⟨_,_,rfl,.inl h1,by rw[h2.length];exact k _ F H (Evo.refl hp) .int⟩
 ·cases hf
  cases rx with | tup h1 h2=>exact .inl ⟨_,_,rfl,.inr (SqT.of h1),by rw[h2.length];exact k _ F H (Evo.refl hp) .int⟩
 ·split at hf
  ·rename_i h
   cases hf
   exact .inr ⟨_,by rw[iz rx],by rw[YH];exact h,k _ F H (Evo.refl hp) .int⟩
  ·cases hf
 ·cases hf
theorem bA {fa:Dd}(hg:Gl X "len")(hm:X.mg "len"=none)(ha:PDN X e fa)(hs:starEach [e] X.env=[(false,eval e X.env)]:=by rfl)(hpl:(backTo pos (starEach [] X.env)).any (·.1)=false:=by rfl) :
  PDE X (.Call (.Name "len" p) [e] [] pos) (d1 aY fa):=
 (c7 (kH.or jO) hg hm PySem.boot_len (ar ha aQ hs) (by decide) (by decide) hs hpl).imp (mJ vY)
def lN:D→Option D
 | .int i=>some (.int i)
 | .bl k=>some (.int (if k then 1 else 0))
 | _=>none
theorem uN {K:Kq}:wE K (fun xs H Q=>(∃ i,xs=[.int i]∧Q (.int i) H)∨∃ k,xs=[.bl k]∧Q (.int (if k then 1 else 0)) H) lN:=by
 intro P F H x dx d Q hf hp rx k
 unfold lN at hf
 split at hf
 ·cases hf;cases rx;exact .inl ⟨_,rfl,k _ F H (Evo.refl hp) .int⟩
 ·cases hf;cases rx;exact .inr ⟨_,rfl,k _ F H (Evo.refl hp) .int⟩
 ·cases hf
theorem boot_int:bootBuiltins "int"=some (.type "int"):=by rfl
theorem boot_list:bootBuiltins "list"=some (.type "list"):=by rfl
theorem mh:bootBuiltins "tuple"=some (.type "tuple"):=by rfl
theorem boot_bool:bootBuiltins "bool"=some (.type "bool"):=by rfl
theorem gt:bootBuiltins "isinstance"=some (.builtin "isinstance"):=by rfl
theorem sf:bootBuiltins "all"=some (.builtin "all"):=by rfl
theorem qr:bootBuiltins "max"=some (.builtin "max"):=by rfl
theorem gc:bootBuiltins "sorted"=some (.builtin "sorted"):=by rfl
theorem tK {fa:Dd}(hg:Gl X "int")(hm:X.mg "int"=none)(ha:PDN X e fa)(hs:starEach [e] X.env=[(false,eval e X.env)]:=by rfl) :
  PDE X (.Call (.Name "int" p) [e] [] pos) (d1 lN fa):=
 (cB pC hg hm boot_int (ar ha aQ hs) (he:=hs)).imp (mJ uN)
def qm:D→Option D
 | .lst ds=>some (.tup ds)
 | .tup ds=>some (.tup ds)
 | _=>none
theorem wO {K:Kq}:zg K (fun xs H Q=>∃ p ys,xs=[.ref p]∧((SqL K H p ys∧∀ l,H l=none→Q (.ref l) (upd H l (.tup ys)))∨(SqT K H p ys∧Q (.ref p) H))) qm:=by
 intro P F H ρ σ x dx d Q hf I rx k
 unfold qm at hf
 split at hf
 ·cases hf
  obtain⟨p,vs,rfl,h1,h2⟩:=cb I rx
  refine⟨p,vs,rfl,.inl ⟨h1,fun l hl=>?_⟩⟩
  exact k _ _ _ (Evo.laid I.toDHp hl) (.tup aq (h2.same (eS (I.toDHp.free hl).1)))
 ·cases hf
  rcases rx with rx | ⟨_,ob,_,_,_,_,_,hfl,z⟩
  ·cases rx with | tup h1 h2=>exact⟨_,_,rfl,.inr ⟨SqT.of (I.sub _ _ h1),k _ F H (Evo.refl I.toDHp) (.tup h1 h2)⟩⟩
  ·cases ob <;> first | (cases z;done) | cases hfl
 ·cases hf
theorem sj {fa:Dd}(hg:Gl X "tuple")(hm:X.mg "tuple"=none)(ha:PDR X e fa)(hs:starEach [e] X.env=[(false,eval e X.env)]:=by rfl) :
  PDE X (.Call (.Name "tuple" p) [e] [] pos) (d1 qm fa):=
 (cB iX hg hm mh (ar ha aQ hs) (he:=hs)).imp (wp wO)
def g9 (f:Dd):DF→Option (List D):=fun ρ=>(f ρ).bind b_
theorem lv {fa:Dd}(hg:Gl X "list")(hm:X.mg "list"=none)(ha:PDR X e fa)(hs:starEach [e] X.env=[(false,eval e X.env)]:=by rfl) :
  PDO X (.Call (.Name "list" p) [e] [] pos) (asL (g9 fa)):=
 (cB j9 hg hm boot_list (ar ha aQ hs) (he:=hs)).imp fun σ H Q=>un7 fun P F ρ ob hf I k=>by
  unfold asL g9 at hf
  cases ha:fa ρ with
  | none=>rw[ha] at hf;cases hf
  | some dx=>
   rw[ha,Ya] at hf
   cases hi:b_ dx with
   | none=>rw[hi] at hf;cases hf
   | some ds=>
    rw[hi] at hf
    cases hf
    refine⟨P,F,ρ,dx,ha,I,fun x F1 H1 e1 rx=>?_⟩
    have I1:=I.evo e1
    have fin:∀ vs,Reps X.K F1 vs ds→∀ l,H1 l=none→Q (.ref l) (upd H1 l (.lst vs)):=fun vs r l hl=>
     k l F1 _ (e1.trans (Evo.side e1.hp hl)) ⟨⟨e1.back I.toDHp hl,(e1.hp.free hl).1⟩,_,aq,r⟩
    cases dx with
    | lst ds'=>
     cases hi
     obtain⟨q,vs,rfl,h1,h2⟩:=cb I1 rx
     exact⟨q,vs,rfl,.inl h1,fin vs h2⟩
    | tup ds'=>
     cases hi
     obtain⟨q,vs,rfl,h1,h2⟩:=fj I1 rx
     exact⟨q,vs,rfl,.inr h1,fin vs h2⟩
    | _=>cases hi
def vB (K:Kq):R2:=fun x y H Q=>∃ l b xs zs,x=.ref l∧y=.ref b∧SqL K H l xs∧SqL K H b zs∧xs.length+zs.length≤sizeLine∧∀ p,H p=none→Q (.ref p) (upd H p (.lst (xs++zs)))
theorem oF:OpR X (binaryOp .Add) (vB X.K):=by
 intro pz s σ H x y v u Q I rx ry h
 obtain⟨l,b,xs,zs,rfl,rfl,hH,hB,hz,q⟩:=h
 cases rx
 cases ry
 obtain⟨its,r,p1,_⟩:=I.list hH
 obtain⟨its2,r2,p2,_⟩:=I.list hB
 obtain⟨⟨cls,dd,data,sl⟩,n,ho,hc,hdd,hd⟩:=p1
 obtain⟨⟨cls2,dd2,data2,sl2⟩,n2,ho2,hc2,hdd2,hd2⟩:=p2
 simp only at hc hd hc2 hd2
 subst hc hd hc2 hd2
 have e1:=r.length
 have e2:=r2.length
 refine concat_meets ⟨_,ho,rfl⟩ ⟨_,ho2,rfl⟩ PySem.noFill_list_add PySem.seq_list_add PySem.F.slot_list_add PySem.F.entry_list_add (PySem.F.args_list_add_2 _ _) (list_addW l b its.toArray its2.toArray n n2 dd dd2 sl sl2 (by rw[Yl,Yl];omega)) ⟨ho,ho2,?_⟩
 have ea:its.toArray++its2.toArray=(its++its2).toArray:=by simp
 rw[ea]
 exact⟨.ref _,_,I.lnew (t':=s.toks) (r.append r2) (by rw[Ym];omega),rfl,q _ I.fresh⟩
def rC (fa fb:Dd):DF→Option (List D):=fun ρ=>match fa ρ,fb ρ with
 | some (.lst xs),some (.lst ys)=>if xs.length+ys.length≤16777216 then some (xs++ys) else none
 | _,_=>none
theorem u_ {fa fb:Dd}(ha:PDR X a fa)(hb:PDR X b fb):PDO X (.BinOp a .Add b pos) (asL (rC fa fb)):=(vH oF ha hb).imp fun σ H Q=>un7 fun P F ρ ob hf I k=>by
 unfold asL at hf
 cases q:rC fa fb ρ with
 | none=>rw[q] at hf;cases hf
 | some out=>
 rw[q] at hf
 cases hf
 unfold rC at q
 split at q
 ·rename_i xs ys qa qb
  split at q
  ·rename_i hz
   cases q
   refine⟨P,F,ρ,_,qa,I,fun x F1 H1 e1 rx=>⟨P,F1,ρ,_,qb,I.evo e1,fun y F2 H2 e2 ry=>?_⟩⟩
   have I2:=(I.evo e1).evo e2
   obtain⟨l,vs,rfl,h1,h2⟩:=cb I2 (rx.evo e2)
   obtain⟨l2,vs2,rfl,h3,h4⟩:=cb I2 ry
   refine⟨l,l2,vs,vs2,rfl,rfl,h1,h3,by rw[h2.length,h4.length,YH];exact hz,fun p hp=>?_⟩
   have e12:=e1.trans e2
   exact k p F2 _ (e12.trans (Evo.side e12.hp hp)) ⟨⟨e12.back I.toDHp hp,(e12.hp.free hp).1⟩,_,aq,h2.append h4⟩
  ·cases q
 ·cases q
end
def spM (K:Kq)(f:Dz):Sp:=fun vs H Q _=>∃ P F a vs' o xs o' d,vs=.ref a::vs'∧f o xs=some (o',d)∧DHp P F H∧F a=none∧P a=none∧o.flat=true∧(∃ u,H a=some u∧ORep1 K F o u)∧DVs K P F H xs vs' ∧
 ∀ v F' H',Same F F'→DHp P F' H'→F' a=none→(∃ u',H' a=some u'∧ORep1 K F' o' u')→o'.flat=true→Rep K F' v d→Q v H'
def jo (a:Addr)(o':OD)(d:D):RES→Prop
 | .nx ρ=>ρ[0]?=some (some (.own o' (some a)))∧d=.non
 | .rt x ρ=>x=.v d∧ρ[0]?=some (some (.own o' (some a)))
 | _=>False
theorem DInv.startM {K:Kq}{P F H:Hp}{xs:List DV}{vs:List V}{a:Addr}{o:OD}(N:List Str)(p:Nat)(h:DHp P F H)(hf:F a=none)(hp:P a=none)(fl:o.flat=true)(ho:∃ u,H a=some u∧ORep1 K F o u)(r:DVs K P F H xs vs)(hl:xs.length+1=p) :
  DInv K P F H (aE N.length p (.own o (some a)::xs)) (L2.start N (.ref a::vs)):=by
 refine⟨h,?_,fun b=>if b=a then some 0 else none,fun i x e=>?_⟩
 ·unfold aE L2.start
  rw[Ym,Ym,Ye,Ye,YB,YB,Yj,Yj,← r.length,hl]
 ·have e':=ir e
  cases i with
  | zero=>
   cases e'
   refine⟨.ref a,fK (i:=0) rfl,a,rfl,(ORep.flat fl).mpr ⟨⟨hf,hp,Yf rfl⟩,ho⟩,fun b z=>by cases z;rfl⟩
  | succ i=>
   obtain⟨hno,v,h1,h2⟩:=r.get (i:=i) (x:=x) e'
   refine⟨v,fK (i:=i+1) (by simpa using h1),?_⟩
   cases x with
   | own o t=>cases hno
   | v d=>exact h2
   | bor o=>exact h2
theorem Fun.okM {P:Program}{w:World}{K:Kq}{mg:Ks}{base:Heap}{x qual:Str}{st:Stmt}{f:Addr}{fd:FuncData}{N ps:List Str}{k:Nat}{g:Dw}{m:Dz}(F:Fun K x qual st f fd)(S:FnScope N ps (defScope st))
  (hm:∀ a o xs o' d,m o xs=some (o',d)→xs.length+1=ps.length∧o'.flat=true∧∃ r,g (aE N.length ps.length (.own o (some a)::xs))=some r∧jo a o' d r)
  (hbody:∀ (cdv:Value) (A:Around) (outer:List Env) (s:Shared) (H:Hp) (E:XK),Room k (A.deeper (envOfC qual (defScope st) s.heap.objs.size f cdv))→
   PDS (eh CX0 P w K mg base N qual (defScope st) f cdv A outer s H E).nox (defBody st) g):FnOk P w K mg base CX0 (k+1) f fd ps (spM K m):=by
 refine F.ok S (fun vs H Q E hh_=>?_) fun cdv A outer s H vs Q E hr h=>?_
 ·obtain⟨P',F',a,vs',o,xs,o',d,e,h1,_,_,_,_,_,hv,_⟩:=hh_
  rw[e,Yj,← hv.length];exact (hm 0 o xs o' d h1).1
 ·refine⟨_,hbody cdv A outer s H E hr,?_⟩
  obtain⟨P',F',a,vs',o,xs,o',d,rfl,h1,hp,hf,hP,fl,ho,hv,hQ⟩:=h
  obtain⟨hl,fl',r,hg,he⟩:=hm a o xs o' d h1
  have I:=DInv.startM N ps.length hp hf hP fl ho hv hl
  refine⟨P',F',_,r,hg,I,?_⟩
  have fin:∀ (ρ:DF) (σ:St) (F2 H2:Hp) (v:V),ρ[0]?=some (some (.own o' (some a)))→Same F' F2→DInv K P' F2 H2 ρ σ→Rep K F2 v d→Q v H2:=fun ρ σ F2 H2 v h0 e I2 rv=>by
   obtain⟨v',_,a',rfl,h3,h4⟩:=I2.at h0
   have ea:=h4 a rfl
   subst ea
   obtain⟨⟨q1,q2,_⟩,u,q3,q4⟩:=(ORep.flat fl').mp h3
   exact hQ v F2 H2 e I2.toDHp q1 ⟨u,q3,q4⟩ fl' rv
  cases r with
  | nx ρ=>(obtain⟨h0,rfl⟩:=he;exact fun σ F2 H2 e I2=>fin ρ σ F2 H2 .non h0 e I2 .non)
  | rt x ρ=>(obtain⟨rfl,h0⟩:=he;exact fun v σ F2 H2 e I2 rv=>fin ρ σ F2 H2 v h0 e I2 rv)
  | bk ρ=>exact he.elim
  | ct ρ=>exact he.elim
def gdx (F H:Hp)(a:Addr):Hp:=fun b=>if b=a then none else gd F H b
theorem j6 {F H:Hp}{a b:Addr}{o:HO}:gdx F H a b=some o↔b≠a∧F b=none∧H b=some o:=by
 unfold gdx
 by_cases h:b=a
 ·rw[Yf h];simp[h]
 ·rw[Yh h,cN];simp[h]
theorem v7 {F H:Hp}(s:Same F H)(a:Addr):DHp (gdx F H a) F H:=⟨s,fun b o e=>(j6.mp e).2.2,fun b o e=>(j6.mp e).2.1⟩
theorem ArgsS.dvx {K:Kq}{P F H:Hp}{ρ:DF}{σ:St}(I:DInv K P F H ρ σ){i:Nat}{o:OD}{t:Option Addr}{a:Addr}(hi:ρ[i]?=some (some (.own o t)))(hs:σ[i]?=some (some (.ref a)))(fl:o.flat=true):∀ {xs:List DV} {vs:List V},ArgsS K ρ σ F xs vs→(∀ x∈xs,∃ d,x=.v d)→DVs K (gdx F H a) F H xs vs:=by
 intro xs vs h
 induction h with
 | nil=>exact fun _=>.nil
 | v h _ ih=>exact fun hx=>.cons rfl h (ih fun x m=>hx x (Yb _ m))
 | b j h1 h2 _ ih=>
  intro hx
  obtain⟨d,e⟩:=hx _ Yc
  cases e
def uG (xs:List DV):Bool:=xs.all fun x=>match x with
 | .v _=>true
 | _=>false
theorem wd {xs:List DV}(h:uG xs=true):∀ x∈xs,∃ d,x=.v d:=fun x m=>by
 have:=Yz.mp h x m
 cases x with
 | v d=>exact⟨d,rfl⟩
 | _=>cases this
def ka (K:Kq)(i:Nat)(m:Dz)(g:Dv):DF→Option (DF×D):=fun ρ=>match ρ[i]? with
 | some (some (.own o t))=>if o.flat=true then (g ρ).bind fun xs=>if uG xs=true then (m o xs).map fun r=>(ρ.set i (some (.own r.1 t)),r.2) else none else none
 | _=>none
def dE (K:Kq)(i:Nat)(m:Dz)(g:Dv):DF→Option RES:=fun ρ=>(ka K i m g ρ).map fun r=>.nx r.1
theorem mB {K:Kq}{P F1 H1 F2 H2:Hp}{ρ:DF}{σ:St}{i:Nat}{o o':OD}{t:Option Addr}{a:Addr}(I:DInv K P F1 H1 ρ σ)(hi:ρ[i]?=some (some (.own o t)))(hs:σ[i]?=some (some (.ref a)))(fl:o.flat=true)(fl':o'.flat=true)
  (e2:Same F1 F2) (hp2:DHp (gdx F1 H1 a) F2 H2) (f2:F2 a=none) (ho:∃ u',H2 a=some u'∧ORep1 K F2 o' u'):DInv K P F2 H2 (ρ.set i (some (.own o' t))) σ:=by
 obtain⟨O,hR⟩:=I.rep
 obtain⟨v,h1,b,rfl,h2,ht⟩:=hR i _ hi
 rw[hs] at h1;cases h1
 obtain⟨⟨q1,q2,q3⟩,u,q4,_⟩:=(ORep.flat fl).mp h2
 have keep:∀ b u,b≠a→F1 b=none→H1 b=some u→H2 b=some u∧F2 b=none:=fun b u hb n q=>⟨hp2.pro b u (j6.mpr ⟨hb,n,q⟩),hp2.dis b u (j6.mpr ⟨hb,n,q⟩)⟩
 refine⟨⟨hp2.sub,fun b u q=>(keep b u (fun z=>by subst z;rw[q2] at q;cases q) (I.dis b u q) (I.pro b u q)).1,fun b u q=>(keep b u (fun z=>by subst z;rw[q2] at q;cases q) (I.dis b u q) (I.pro b u q)).2⟩,by rw[YK];exact I.len,O,fun j z hj=>?_⟩
 rcases ck hj with⟨rfl,e,hl⟩ | ⟨hij,hj'⟩
 ·cases e
  exact⟨_,hs,a,rfl,(ORep.flat fl').mpr ⟨⟨f2,q2,q3⟩,ho⟩,ht⟩
 ·obtain⟨w,e1,e3⟩:=hR j z hj'
  refine⟨w,e1,?_⟩
  cases z with
  | v d'=>exact Rep.same e2 e3
  | own od t'=>
   obtain⟨c,rfl,e4,ht'⟩:=e3
   refine⟨c,rfl,e4.mono e2 fun b w' q hb=>?_,ht'⟩
   obtain⟨k1,k2⟩:=keep b w' (fun z=>by subst z;rw[q.2.2] at q3;exact hij (Yt q3).symm) q.1 hb
   exact⟨k1,k2,q.2⟩
  | bor od=>(obtain⟨c,rfl,e4⟩:=e3;exact⟨c,rfl,e4.mono e2 fun b u q hb=>⟨hb,q⟩⟩)
section
variable {X:Cx} {k:Nat} {f C:Addr} {fd:FuncData} {ps:List Str} {m:Dm} {mM:Dz} {x mn:Str} {p pos apos spos:Pos} {e o:Expr} {es:List Expr} {g:Dv}
theorem lz (i:Nat)(G:FnOk X.prog X.w X.K X.mg X.base CX0 k f fd ps (spM X.K mM))(hr:Room k X.A)(hg:Gl X x)(hm:X.mg x=some (.ref f))(hk:PySem.W.keepIn X.K (.ref f)=true)(hb:Binds X.K fd ps [])(h0:PE X e (cA i))(ha:gv X es g)
  (hd:(x == ("__debug__":Str))=false:=by decide) (he:starEach (e::es) X.env=(false,eval e X.env)::starEach es X.env:=by rfl) (hpl:(backTo pos (starEach es X.env)).any (·.1)=false:=by rfl) (hsw:swapsWith (.Call (.Name x p) (e::es) [] pos) none spos.line X.env=pure false:=by rfl) :
  PD1 X (.Expr (.Call (.Name x p) (e::es) [] pos) spos) (dE X.K i mM g):=
 PS.imp (cz (eY G hr hg hm hk hb .nil gq (ar h0 ha he) hd he hpl) hsw) fun E σ H=>un7 fun P F ρ r hr I k=>by
  unfold dE ka at hr
  split at hr
  ·rename_i od t q
   split at hr
   ·rename_i fl
    cases q2:g ρ with
    | none=>rw[q2] at hr;cases hr
    | some xs=>
     rw[q2,Ya] at hr
     split at hr
     ·rename_i av
      cases q3:mM od xs with
      | none=>rw[q3] at hr;cases hr
      | some res=>
       rw[q3] at hr
       cases hr
       obtain⟨v,h1,a,rfl,h2,h3⟩:=I.at q
       obtain⟨⟨a1,a2,_⟩,u,a3,a4⟩:=(ORep.flat fl).mp h2
       refine⟨_,h1,P,F,ρ,xs,q2,I,fun vs F1 H1 e1 r1=>?_⟩
       have I1:=I.evo e1
       obtain⟨k1,k2⟩:=e1.keep a u a3 a1
       refine⟨gdx F1 H1 a,F1,a,vs,od,xs,res.1,res.2,by simp,q3,v7 I1.sub a,k2,by unfold gdx;rw[Yf rfl],fl,⟨u,k1,a4.same e1.ext⟩,r1.dvx I1 q h1 fl (wd av),fun v F2 H2 e2 hp2 f2 ho fl' rv=>?_⟩
       exact k σ F2 H2 (e1.ext.trans e2) (mB I1 q h1 fl fl' e2 hp2 f2 ho)
     ·cases hr
   ·cases hr
  ·cases hr
theorem RepsF.look {K:Kq}{H:Hp}{n:Str}{vs:List (Str×V)}{ds:List (Str×D)}{d:D}(h:RepsF K H vs ds):ds.lookup n=some d→∃ v,vs.lookup n=some v∧Rep K H v d:=
 RepsF.ind (M:=fun vs ds=>ds.lookup n=some d→∃ v,vs.lookup n=some v∧Rep K H v d) (fun e=>by cases e) (fun h _ ih e=>by
  rw[aX] at e ⊢
  split at e
  ·rename_i q;cases e;rw[Yf q];exact⟨_,rfl,h⟩
  ·rename_i q;rw[Yh q];exact ih e) h
theorem RepsF.no {K:Kq}{H:Hp}{n:Str}{vs:List (Str×V)}{ds:List (Str×D)}(h:RepsF K H vs ds):ds.lookup n=none→vs.lookup n=none:=
 RepsF.ind (M:=fun vs ds=>ds.lookup n=none→vs.lookup n=none) (fun _=>rfl) (fun _ _ ih e=>by
  rw[aX] at e ⊢
  split at e
  ·cases e
  ·rename_i q;rw[Yh q];exact ih e) h
def iS (C:Addr)(n:Str):D→Option D
 | .ins C' fs=>if C'=C then fs.lookup n else none
 | _=>none
theorem nk {fa:Dd}{n:Str}(c:Cls X.K C)(hn:NoAttr X.K C n)(h:PDR X e fa)(hb:attributeBase e n X.env (eval e X.env)=eval e X.env:=by rfl):PDE X (.Attribute e n pos) (d1 (iS C n) fa):=
 (wk h hb).imp fun σ H Q=>un7 fun P F ρ d hf I k=>by
  unfold d1 at hf
  cases q:fa ρ with
  | none=>rw[q] at hf;cases hf
  | some dx=>
   rw[q,Ya] at hf
   refine⟨P,F,ρ,dx,q,I,fun y F1 H1 e1 rx=>?_⟩
   cases dx with
   | ins C' fs=>
    have hf':(if C'=C then fs.lookup n else none)=some d:=hf
    split at hf'
    ·rename_i hC
     subst hC
     obtain⟨a,dx,vs,rfl,h1,h2⟩:=jV (I.evo e1) rx
     obtain⟨v,h3,h4⟩:=h2.look hf'
     exact⟨a,C',dx,vs,v,rfl,h1,c,hn,h3,k v F1 H1 e1 h4⟩
    ·cases hf'
   | _=>cases hf
def iC (f:Str)(v:D):List (Str×D)→List (Str×D)
 | []=>[(f,v)]
 | (g,x)::r=>if g=f then (g,v)::r else (g,x)::iC f v r
theorem RepsF.put {K:Kq}{H:Hp}{n:Str}{v:V}{d:D}(rv:Rep K H v d){vs:List (Str×V)}{ds:List (Str×D)}(h:RepsF K H vs ds):RepsF K H (c_ n v vs) (iC n d ds):=
 RepsF.ind (M:=fun vs ds=>RepsF K H (c_ n v vs) (iC n d ds)) (.cons rv .nil) (fun {k _ _ _ _} h r ih=>by
  unfold c_ iC
  by_cases q:k=n
  ·rw[Yf q,Yf q];exact .cons rv r
  ·rw[Yh q,Yh q];exact .cons h ih) h
theorem RepsF.length {K:Kq}{H:Hp}{vs:List (Str×V)}{ds:List (Str×D)}(h:RepsF K H vs ds):vs.length=ds.length:=RepsF.ind (M:=fun vs ds=>vs.length=ds.length) rfl (fun _ _ ih=>ZA Nat.succ ih) h
def jb (C:Addr)(i:Nat)(n:Str)(fv:Dd):DF→Option RES:=fun ρ=>match ρ[i]? with
 | some (some (.own (.ins C' fs) t))=>if C'=C then (fv ρ).bind fun d=>if fs.length<1000 then some (.nx (ρ.set i (some (.own (.ins C (iC n d fs)) t)))) else none else none
 | _=>none
theorem jX {value:Expr}{n:Str}{fv:Dd}{pos':Pos}(i:Nat)(c:Cls X.K C)(hn:NoAttr X.K C n)(ho:PE X o (cA i))(hv:PDE X value fv)(hs:swapsWith value (some (.Attribute o n pos')) pos.line X.env=pure false:=by rfl) :
  PD1 X (.Assign [.Attribute o n pos'] value pos) (jb C i n fv):=PS.imp (wv ho hv hs) fun E σ H=>un7 fun P F ρ r hr I k=>by
 unfold jb at hr
 split at hr
 ·rename_i C' fs t q
  split at hr
  ·rename_i hC
   subst hC
   cases q2:fv ρ with
   | none=>rw[q2] at hr;cases hr
   | some d=>
    rw[q2,Ya] at hr
    split at hr
    ·rename_i hl
     cases hr
     obtain⟨v,h1,a,rfl,⟨⟨a1,a2,_⟩,u,a3,a4⟩,_⟩:=I.at q
     cases u with
     | ins C'' dx vs=>
      obtain⟨rfl,a4⟩:=a4
      refine⟨P,F,ρ,d,q2,I,fun y F1 H1 e1 ry=>⟨_,h1,a,C',dx,vs,rfl,(e1.keep a _ a3 a1).1,c,hn,by rw[a4.length];exact hl,k σ F1 _ e1.ext ?_⟩⟩
      exact (I.evo e1).mut (o':=.ins C' _) (u:=.ins C' dx _) q rfl rfl h1 ⟨rfl,(RepsF.same e1.ext a4).put ry⟩
     | _=>exact a4.elim
    ·cases hr
  ·cases hr
 ·cases hr
def n6 (C:Addr):DV→Option (List (Str×D))
 | .v (.ins C' fs)=>if C'=C then some fs else none
 | .bor (.ins C' fs)=>if C'=C then some fs else none
 | _=>none
def kN (C:Addr)(mn:Str):List DV→Bool
 | x::_=>match n6 C x with
  | some fs=>(fs.lookup mn).isNone
  | none=>false
 | []=>false
def cq (C:Addr)(mn:Str)(m:Dm)(g:Dv):DF→Option D:=fun ρ=>(g ρ).bind fun xs=>if kN C mn xs=true then (m xs).bind dvD else none
end
theorem DVs.heap {K:Kq}{P F H H':Hp}{xs:List DV}{vs:List V}(h:DVs K P F H xs vs):DVs K P F H' xs vs:=by
 induction h with
 | nil=>exact .nil
 | @cons x _ _ _ h r _ ih=>
  refine .cons h ?_ ih
  cases x with
  | v d=>exact r
  | bor o=>exact r
  | own o t=>cases h
def dL (i:Nat):DF→Option DV:=fun ρ=>match ρ[i]? with
 | some (some (.own o _))=>some (.bor o)
 | some (some (.bor o))=>some (.bor o)
 | some (some (.v d))=>some (.v d)
 | _=>none
def cI (s:DF→Option DV)(g:Dv):DF→Option (List DV):=fun ρ=>(s ρ).bind fun x=>(g ρ).map fun xs=>x::xs
def g0:DF→Option (List DV):=fun _=>some []
def Self1 (K:Kq)(ρ:DF)(σ:St)(F:Hp)(x:DV)(v:V):Prop:=ArgsS K ρ σ F [x] [v]
theorem Self1.cons {K:Kq}{ρ:DF}{σ:St}{F F':Hp}{x:DV}{v:V}{xs:List DV}{vs:List V}(h:Self1 K ρ σ F x v)(e:Same F F')(r:ArgsS K ρ σ F' xs vs):ArgsS K ρ σ F' (x::xs) (v::vs):=by
 cases h with
 | v h _=>exact .v (h.same e) r
 | b i h1 h2 _=>exact .b i h1 h2 r
theorem Self1.ins {K:Kq}{P F H:Hp}{ρ:DF}{σ:St}{x:DV}{v:V}{C:Addr}{fs:List (Str×D)}(I:DInv K P F H ρ σ)(h:Self1 K ρ σ F x v)(hi:n6 C x=some fs):∃ a dx vs,v=.ref a∧H a=some (.ins C dx vs)∧RepsF K F vs fs:=by
 cases h with
 | @v d _ _ _ h _=>
  cases d with
  | ins C' fs'=>
   have hi':(if C'=C then some fs' else none)=some fs:=hi
   split at hi'
   ·rename_i hC
    subst hC
    cases hi'
    exact jV I (.inl h)
   ·cases hi'
  | _=>cases hi
 | @b o _ _ _ i h1 h2 _=>
  cases o with
  | ins C' fs'=>
   have hi':(if C'=C then some fs' else none)=some fs:=hi
   split at hi'
   ·rename_i hC
    subst hC
    cases hi'
    exact jV I (RepS.slot I h1 h2 rfl)
   ·cases hi'
  | _=>cases hi
def sw (K:Kq)(s:DF→Option DV):TE:=fun σ H Q=>∃ P F ρ x,s ρ=some x∧DInv K P F H ρ σ∧∀ v F' H',Evo P F H F' H'→Self1 K ρ σ F' x v→Q v H'
def mH (X:Cx)(e:Expr)(s:DF→Option DV):Prop:=PE X e (sw X.K s)
section
variable {X:Cx} {k:Nat} {f C:Addr} {fd:FuncData} {ps:List Str} {m:Dm} {mM:Dz} {x mn:Str} {p pos apos spos:Pos} {e o:Expr} {es:List Expr} {g:Dv} {s:DF→Option DV}
theorem kh (i:Nat)(h:PE X e (cA i)):mH X e (dL i):=PE.imp h fun σ H Q=>un7 fun P F ρ x hf I k=>by
 unfold dL at hf
 split at hf
 ·rename_i o t q
  cases hf
  obtain⟨v,h1,_⟩:=I.at q
  exact⟨v,h1,k v F H (Evo.refl I.toDHp) (.b i h1 (.inl ⟨t,q⟩) .nil)⟩
 ·rename_i o q
  cases hf
  obtain⟨v,h1,_⟩:=I.at q
  exact⟨v,h1,k v F H (Evo.refl I.toDHp) (.b i h1 (.inr q) .nil)⟩
 ·rename_i d q
  cases hf
  obtain⟨v,h1,h2⟩:=I.at q
  exact⟨v,h1,k v F H (Evo.refl I.toDHp) (.v h2 .nil)⟩
 ·cases hf
theorem lY {C:Addr}{mn:Str}{x:DV}{xs:List DV}(h:kN C mn (x::xs)=true):∃ fs,n6 C x=some fs∧fs.lookup mn=none:=by
 unfold kN at h
 cases q:n6 C x with
 | none=>simp[q] at h
 | some fs=>exact⟨fs,rfl,by simpa[q] using h⟩
theorem qA {K:Kq}{E:XK}{σ:St}{H:Hp}{Q:VK}{P F:Hp}{ρ:DF}{xs:List DV}{y:DV}(hg:cI s g ρ=some xs)(hs:kN C mn xs=true)(hm:m xs=some y)(I:DInv K P F H ρ σ)
  (k:∀ v F1 H1 F2 H2,Evo P F H F1 H1→Same F1 F2→DHp (gd F1 H1) F2 H2→DVRep K (gd F1 H1) F2 H2 ia y v→Q v H2):nK C mn (spD K m) [] E (sw K s) (tLV K g) σ H Q:=by
 unfold cI at hg
 cases q:s ρ with
 | none=>rw[q] at hg;cases hg
 | some x=>
  rw[q,Ya] at hg
  cases q2:g ρ with
  | none=>rw[q2] at hg;cases hg
  | some ys=>
   rw[q2] at hg
   cases hg
   obtain⟨fs,hi,hl⟩:=lY hs
   refine⟨P,F,ρ,x,q,I,fun v F1 H1 e1 r1=>?_⟩
   have I1:=I.evo e1
   obtain⟨a,dx,vs,rfl,h1,h2⟩:=r1.ins I1 hi
   refine⟨a,dx,vs,rfl,h1,h2.no hl,P,F1,ρ,ys,q2,I1,fun ws F2 H2 e2 r2=>?_⟩
   have I2:=I1.evo e2
   refine⟨gd F2 H2,F2,x::ys,y,hm,dw I2.sub,by rw[YT];exact (r1.cons e2.ext r2).dvs I2,fun w F3 H3 e3 hp3 r3=>k w F2 H2 F3 H3 (e1.trans e2) e3 hp3 r3⟩
theorem nR {K:Kq}{E:XK}:∀ σ H Q,tD K (cq C mn m (cI s g)) σ H Q→nK C mn (spD K m) [] E (sw K s) (tLV K g) σ H Q:=fun σ H Q=>un7 fun P F ρ d hf I k=>by
 unfold cq at hf
 cases q:cI s g ρ with
 | none=>rw[q] at hf;cases hf
 | some xs=>
  rw[q,Ya] at hf
  split at hf
  ·rename_i hs
   cases q2:m xs with
   | none=>rw[q2] at hf;cases hf
   | some y=>
    rw[q2,Ya] at hf
    refine qA q hs q2 I fun v F1 H1 F2 H2 e1 e2 hp2 r2=>?_
    have I1:=I.evo e1
    have ev:Evo P F1 H1 F2 H2:=I1.toDHp.gd e2 hp2
    cases y with
    | v d'=>cases hf;exact k v F2 H2 (e1.trans ev) r2
    | own o t=>
     cases hf
     obtain⟨a,rfl,ho,_⟩:=r2
     have ho':=kF e2 ho
     exact k _ _ H2 (e1.trans (ev.freeze I1.toDHp (fun b=>H1 b=none∧F2 b=none) fun _ q=>q)) (ho'.rep (a9 fun b q=>q.2) fun b u q hb=>by rw[bX q];exact hb)
    | bor o=>cases hf
  ·cases hf
theorem uU {pl:Sem Bool}(he:mH X o s)(c:Cls X.K C)(hm:Meth X.K C mn f)(G:FnOk X.prog X.w X.K X.mg X.base CX0 k f fd ps (spD X.K m))(hr:Room k X.A)(hb:Binds X.K fd ps [])(ha:gv X (e::es) g)
  (hst:starEach (e::es) X.env=(false,eval e X.env)::starEach es X.env:=by rfl) (hpl:(backTo pos (starEach es X.env)).any (·.1)=false:=by rfl)
  (ht:eval (.Call (.Attribute o mn apos) (e::es) [] pos) X.env=(do
   let ov ← eval o X.env
   standAt apos.atName
   let (f,first) ← holding [ov] (getMethod ov mn pl)
   callWith pos f first (backTo pos (starEach (e::es) X.env)) (backToKw pos (keywordEach [] X.env))):=by rfl):PDE X (.Call (.Attribute o mn apos) (e::es) [] pos) (cq C mn m (cI s g)):=
 (u8 he c hm G hr hb .nil gq ha hst hpl ht).imp nR
theorem lG {pl:Sem Bool}(he:mH X o s)(c:Cls X.K C)(hm:Meth X.K C mn f)(G:FnOk X.prog X.w X.K X.mg X.base CX0 k f fd ps (spD X.K m))(hr:Room k X.A)(hb:Binds X.K fd ps [])
  (ht:eval (.Call (.Attribute o mn apos) [] [] pos) X.env=(do
   let ov ← eval o X.env
   standAt apos.atName
   let (f,first) ← holding [ov] (getMethod ov mn pl)
   callWith pos f first (backTo pos (starEach [] X.env)) (backToKw pos (keywordEach [] X.env))):=by rfl):PDE X (.Call (.Attribute o mn apos) [] [] pos) (cq C mn m (cI s g0)):=
 (qt he c hm G hr hb .nil gq ht).imp fun σ H Q h=>by
  have:=nR (K:=X.K) (E:=E0) σ H Q h
  obtain⟨P,F,ρ,x,h1,h2,h3⟩:=this
  refine⟨P,F,ρ,x,h1,h2,fun v F' H' ev r=>?_⟩
  obtain⟨a,dx,fs,ex,ea,l,P2,F2,ρ2,xs,hx,I2,h4⟩:=h3 v F' H' ev r
  cases hx
  exact⟨a,dx,fs,ex,ea,l,h4 [] F2 H' (Evo.refl I2.toDHp) .nil⟩
def em (C:Addr)(mM:Dz)(g:Dv):DF→Option OD:=fun ρ=>(g ρ).bind fun xs=>match mM (.ins C []) xs with
 | some (o',.non)=>if o'.flat=true then some o' else none
 | _=>none
theorem rS (M:Mk X.K C f)(G:FnOk X.prog X.w X.K X.mg X.base CX0 k f fd ps (spM X.K mM))(hr:Room (k+1) X.A)(hg:Gl X x)(hm:X.mg x=some (.ref C))(hb:Binds X.K fd ps [])(ha:gv X (e::es) g)
  (hdb:(x == ("__debug__":Str))=false:=by decide) (he:starEach (e::es) X.env=(false,eval e X.env)::starEach es X.env:=by rfl) (hpl:(backTo pos (starEach es X.env)).any (·.1)=false:=by rfl):PDO X (.Call (.Name x p) (e::es) [] pos) (em C mM g):=
 (u3 M G hr hg hm hb .nil gq ha hdb he hpl).imp fun σ H Q=>un7 fun P F ρ ob hf I k=>by
  unfold em at hf
  cases q:g ρ with
  | none=>rw[q] at hf;cases hf
  | some xs=>
   rw[q,Ya] at hf
   split at hf
   ·rename_i o' q2
    split at hf
    ·rename_i fl
     cases hf
     refine⟨P,F,ρ,xs,q,I,fun vs F1 H1 e1 r1 y dx hy hdx hne=>?_⟩
     have I1:=I.evo e1
     have sm:Same H1 (upd (upd H1 dx (.own y)) y (.ins C dx [])):=fun b u z=>by rw[ap (aD z hy),ap (aD z hdx)];exact z
     refine⟨gd F1 H1,F1,y,vs,.ins C [],xs,ob,.non,by simp,q2,⟨I1.sub.trans sm,fun b u z=>sm b u ((dw I1.sub).pro b u z),(dw I1.sub).dis⟩,I1.sub.free hy,(dw I1.sub).pro.free hy,rfl,⟨_,aq,rfl,.nil⟩,(r1.dvs I1).heap,fun v F2 H2 e2 hp2 f2 ho fl' rv=>?_⟩
     cases rv
     exact⟨rfl,k y F2 H2 (e1.trans (I1.toDHp.gd e2 hp2)) ((ORep.flat fl).mpr ⟨⟨e1.back I.toDHp hy,f2⟩,ho⟩)⟩
    ·cases hf
   ·cases hf
end
section
variable {κ:Type} [DecidableEq κ]
def bC (kvs:List (κ×D))(k:κ):Option D:=(kvs.find? fun kv=>decide (kv.1=k)).map (·.2)
def cM (kvs:List (κ×D))(k:κ)(v:D):List (κ×D):=
 if (kvs.any fun kv=>decide (kv.1=k))=true then kvs.map (fun kv=>if kv.1=k then (kv.1,v) else kv) else kvs++[(k,v)]
end
theorem p7 {k k':List Key}{v:V}{vs:List (List Key×V)}:bZ ((k',v)::vs) k=if k'=k then some v else bZ vs k:=by
 unfold bZ
 by_cases q:k'=k <;> simp[Zp,q]
theorem a8 {κ:Type}[DecidableEq κ]{k k':κ}{v:D}{vs:List (κ×D)}:bC ((k',v)::vs) k=if k'=k then some v else bC vs k:=by
 unfold bC
 by_cases q:k'=k <;> simp[Zp,q]
theorem RepsT.val {K:Kq}{H:Hp}{k:List Key}{vs:List (List Key×V)}{ds:List (List Key×D)}(h:RepsT K H vs ds):(bZ vs k=none∧bC ds k=none)∨∃ v d,bZ vs k=some v∧bC ds k=some d∧Rep K H v d:=
 RepsT.ind (M:=fun vs ds=>(bZ vs k=none∧bC ds k=none)∨∃ v d,bZ vs k=some v∧bC ds k=some d∧Rep K H v d) (.inl ⟨rfl,rfl⟩) (fun {k' v d vs ds} h _ ih=>by
  rw[p7,a8]
  by_cases q:k'=k
  ·rw[Yf q,Yf q]
   exact .inr ⟨v,d,rfl,rfl,h⟩
  ·rw[Yh q,Yh q]
   exact ih) h
theorem RepsT.any {K:Kq}{H:Hp}{k:List Key}{vs:List (List Key×V)}{ds:List (List Key×D)}(h:RepsT K H vs ds):(vs.any fun kv=>decide (kv.1=k))=ds.any fun kv=>decide (kv.1=k):=
 RepsT.ind (M:=fun vs ds=>(vs.any fun kv=>decide (kv.1=k))=ds.any fun kv=>decide (kv.1=k)) rfl (fun _ _ ih=>by rw[ZM,ZM,ih]) h
theorem RepsT.map {K:Kq}{H:Hp}{k:List Key}{v:V}{d:D}(rv:Rep K H v d){vs:List (List Key×V)}{ds:List (List Key×D)}(h:RepsT K H vs ds):RepsT K H (vs.map fun kv=>if kv.1=k then (kv.1,v) else kv) (ds.map fun kv=>if kv.1=k then (kv.1,d) else kv):=
 RepsT.ind (M:=fun vs ds=>RepsT K H (vs.map fun kv=>if kv.1=k then (kv.1,v) else kv) (ds.map fun kv=>if kv.1=k then (kv.1,d) else kv)) .nil (fun {k' v' d' vs ds} h _ ih=>by
  rw[Yv,Yv]
  by_cases q:k'=k
  ·rw[Yf (show (k',v').1=k from q),Yf (show (k',d').1=k from q)];exact .cons rv ih
  ·rw[Yh (show ¬ (k',v').1=k from q),Yh (show ¬ (k',d').1=k from q)];exact .cons h ih) h
theorem RepsT.snoc {K:Kq}{H:Hp}{k:List Key}{v:V}{d:D}(rv:Rep K H v d){vs:List (List Key×V)}{ds:List (List Key×D)}(h:RepsT K H vs ds):RepsT K H (vs++[(k,v)]) (ds++[(k,d)]):=
 RepsT.ind (M:=fun vs ds=>RepsT K H (vs++[(k,v)]) (ds++[(k,d)])) (.cons rv .nil) (fun h _ ih=>.cons h ih) h
theorem RepsT.put {K:Kq}{H:Hp}{k:List Key}{v:V}{d:D}{vs:List (List Key×V)}{ds:List (List Key×D)}(rv:Rep K H v d)(r:RepsT K H vs ds):RepsT K H (da vs k v) (cM ds k d):=by
 unfold da cM
 rw[r.any (k:=k)]
 split
 ·exact r.map rv
 ·exact r.snoc rv
theorem RepsT.length {K:Kq}{H:Hp}{vs:List (List Key×V)}{ds:List (List Key×D)}(h:RepsT K H vs ds):vs.length=ds.length:=RepsT.ind (M:=fun vs ds=>vs.length=ds.length) rfl (fun _ _ ih=>ZA Nat.succ ih) h
def eL:D→Option Key
 | .int i=>some (.inl i)
 | .str x=>some (.inr x)
 | _=>none
def dQ:List D→Option (List Key)
 | []=>some []
 | d::ds=>(eL d).bind fun k=>(dQ ds).map fun r=>k::r
def gy:D→Option (List Key)
 | .tup ds=>dQ ds
 | _=>none
theorem Reps.keys {K:Kq}{H:Hp}{vs:List V}{ds:List D}{ks:List Key}(h:Reps K H vs ds):dQ ds=some ks→vs=ks.map kV:=
 Reps.ind (M:=fun vs ds=>∀ ks:List Key,dQ ds=some ks→vs=ks.map kV) (fun ks e=>by cases e;rfl) (fun {v d vs ds} h _ ih ks e=>by
  unfold dQ at e
  cases q:eL d with
  | none=>rw[q] at e;cases e
  | some k=>
   rw[q,Ya] at e
   cases q2:dQ ds with
   | none=>rw[q2] at e;cases e
   | some kr=>
    rw[q2] at e
    cases e
    rw[ih _ q2,Yv]
    cases d with
    | int i=>cases q;cases h;rfl
    | str i=>cases q;cases h;rfl
    | _=>cases q) h ks
theorem jG {K:Kq}{P F H:Hp}{y:V}{dy:D}{ks:List Key}(hp:DHp P F H)(r:Rep K F y dy)(h:gy dy=some ks):∃ b,y=.ref b∧H b=some (.tup (ks.map kV)):=by
 cases dy with
 | tup ds=>cases r with | tup h1 h2=>exact⟨_,rfl,by rw[hp.sub _ _ h1,h2.keys h]⟩
 | _=>cases h
section
variable {X:Cx} {a b o i e f:Expr} {pos pos' apos cpos:Pos} {fd fk fx fv:Dd}
def gF (fd fk fx:Dd):DF→Option D:=fun ρ=>match fd ρ with
 | some (.dT kvs)=>(fk ρ).bind fun y=>(gy y).bind fun k=>(fx ρ).map fun x=>(bC kvs k).getD x
 | _=>none
theorem qo (hu:X.A.units+64<cLine)(ho:PDR X o fd)(hi:PDE X e fk)(hx:PDE X f fx)(m:M2 X o "get" apos e f cpos:=by exact⟨rfl,rfl,rfl,rfl⟩):PDE X (.Call (.Attribute o "get" apos) [e,f] [] cpos) (gF fd fk fx):=(ri (by omega) ho hi hx m).imp fun σ H Q=>un7 fun P F ρ d hf I k=>by
 unfold gF at hf
 split at hf
 ·rename_i kvs qa
  cases qb:fk ρ with
  | none=>rw[qb] at hf;cases hf
  | some dy=>
   rw[qb,Ya] at hf
   cases qk:gy dy with
   | none=>rw[qk] at hf;cases hf
   | some ks=>
    rw[qk,Ya] at hf
    cases qx:fx ρ with
    | none=>rw[qx] at hf;cases hf
    | some dz=>
     rw[qx] at hf
     cases hf
     refine⟨P,F,ρ,_,qa,I,fun x F1 H1 e1 rx=>?_⟩
     obtain⟨p,vs,rfl,h1,h2⟩:=ml (I.evo e1) rx
     refine⟨p,rfl,.inr ⟨vs,.inl h1⟩,P,F1,ρ,_,qb,I.evo e1,fun y F2 H2 e2 ry=>⟨P,F2,ρ,_,qx,(I.evo e1).evo e2,fun z F3 H3 e3 rz=>?_⟩⟩
     have I3:=((I.evo e1).evo e2).evo e3
     obtain⟨p',vs',ep,h1',h2'⟩:=ml I3 ((rx.evo e2).evo e3)
     cases ep
     obtain⟨q,rfl,h3⟩:=jG e3.hp (ry.same e3.ext) qk
     refine⟨_,DGet.t h1' h3,?_⟩
     have e123:=(e1.trans e2).trans e3
     rcases h2'.val (k:=ks) with⟨z1,z2⟩ | ⟨v,d',z1,z2,z3⟩
     ·rw[z1];exact k _ F3 H3 e123 (by show Rep X.K F3 z ((bC kvs ks).getD dz);rw[z2];exact rz)
     ·rw[z1];exact k _ F3 H3 e123 (by show Rep X.K F3 v ((bC kvs ks).getD dz);rw[z2];exact z3)
 ·cases hf
def lr (neg:Bool):D→D→Option D
 | y,.dT kvs=>(gy y).map fun k=>.bl (xor neg (bC kvs k).isSome)
 | _,_=>none
theorem v6 (hu:X.A.units+64<cLine)(hi:PDE X i fk)(ho:PDR X o fd)(h1:behindInMarks .In o=false:=by first | exact iM _ (by decide) (by decide) | rfl):PDT X (.Compare i [.In] [o] pos) (asB (d2 (lr false) fk fd)):=(mO (xj (by omega) hi ho) h1).imp fun σ H Q=>un7 fun P F ρ b hf I k=>by
 have hf:=nA hf
 unfold d2 at hf
 cases qb:fk ρ with
 | none=>rw[qb] at hf;cases hf
 | some dy=>
 cases qa:fd ρ with
 | none=>rw[qb,Ya,qa] at hf;cases hf
 | some dx=>
 rw[qb,Ya,qa,Ya] at hf
 cases dx with
 | dT kvs=>
  have hf':((gy dy).map fun k=>D.bl (xor false (bC kvs k).isSome))=some (.bl b):=hf
  cases qk:gy dy with
  | none=>rw[qk] at hf';cases hf'
  | some ks=>
   rw[qk] at hf'
   cases hf'
   refine⟨P,F,ρ,_,qb,I,fun y F1 H1 e1 ry=>⟨P,F1,ρ,_,qa,I.evo e1,fun x F2 H2 e2 rx=>?_⟩⟩
   obtain⟨p,vs,rfl,h1,h2⟩:=ml ((I.evo e1).evo e2) rx
   obtain⟨q,rfl,h3⟩:=jG e2.hp (ry.same e2.ext) qk
   refine⟨p,_,rfl,DGet.t h1 h3,_,rfl,?_⟩
   have:(bZ vs ks).isSome=(false ^^ (bC kvs ks).isSome):=by
    rcases h2.val (k:=ks) with⟨z1,z2⟩ | ⟨v,d',z1,z2,z3⟩
    ·rw[z1,z2];rfl
    ·rw[z1,z2];rfl
   rw[this]
   exact k F2 H2 (e1.trans e2)
 | _=>cases hf
theorem p5:PDO X (.Dict [] [] pos) (fun _=>some (.dT [])):=rR.imp fun σ H Q=>un7 fun P F ρ ob hf I k=>by
 cases hf
 exact fun p hp=>k p F _ (Evo.side I.toDHp hp) ⟨⟨hp,(I.toDHp.free hp).1⟩,_,aq,.nil⟩
def n9 (j:Nat)(fk fv:Dd):DF→Option RES:=fun ρ=>match ρ[j]? with
 | some (some (.own (.dT kvs) t))=>(fv ρ).bind fun v=>(fk ρ).bind fun y=>(gy y).bind fun k=>if kvs.length<16777216 then some (.nx (ρ.set j (some (.own (.dT (cM kvs k v)) t)))) else none
 | _=>none
theorem uZ (j:Nat)(hu:X.A.units+64<cLine)(ho:PE X o (cA j))(hi:PDE X i fk)(hv:PDE X e fv)(hs:swapsWith e (some (.Subscript o i pos')) pos.line X.env=pure false:=by rfl):PD1 X (.Assign [.Subscript o i pos'] e pos) (n9 j fk fv):=
 PS.imp (nW (by omega) ho hi hv hs) fun E σ H=>un7 fun P F ρ r hr I k=>by
  unfold n9 at hr
  split at hr
  ·rename_i kvs t q
   cases qv:fv ρ with
   | none=>rw[qv] at hr;cases hr
   | some dv=>
   rw[qv,Ya] at hr
   cases qb:fk ρ with
   | none=>rw[qb] at hr;cases hr
   | some dy=>
   rw[qb,Ya] at hr
   cases qk:gy dy with
   | none=>rw[qk] at hr;cases hr
   | some ks=>
   rw[qk,Ya] at hr
   split at hr
   ·rename_i hl
    cases hr
    obtain⟨v,h1,p,rfl,⟨⟨a1,a2,_⟩,u,a3,a4⟩,_⟩:=I.at q
    cases u with
    | dT vs=>
     have a4:RepsT X.K F vs kvs:=a4
     refine⟨P,F,ρ,_,qv,I,fun v F1 H1 e1 rv=>⟨_,h1,P,F1,ρ,_,qb,I.evo e1,fun y F2 H2 e2 ry=>?_⟩⟩
     have e12:=e1.trans e2
     obtain⟨k1,k2⟩:=e12.keep p _ a3 a1
     obtain⟨b',rfl,h3⟩:=jG e12.hp ry qk
     refine⟨p,_,rfl,DPut.t k1 h3 (by rw[YH,a4.length];exact hl),k σ F2 _ e12.ext ?_⟩
     exact (I.evo e12).mut (o':=.dT _) (u:=.dT _) q rfl rfl h1 ((RepsT.same e12.ext a4).put (rv.same e2.ext))
    | _=>exact a4.elim
   ·cases hr
  ·cases hr
end
end L2
namespace L2
open PySem PySem.Spec PyProof.Rows PySem.W
section
variable {prog:Program} {w:World} {A:Around} {E:Kv} {s:Shared}
def jM (prog:Program)(w:World)(A:Around)(Q:Kv)(vs:List Value)(s1:Shared):Prop:=
 vs.length<64∧∃ (κ:SortKind) (lt:Nat→Nat→Bool),Ord lt ∧
  (2≤vs.length→∀ h',(∀ b u,s1.heap.get? b=some u→h'.get? b=some u)→∀ (Q:SortKind→Shared→Prop) (E:Kv),Q κ { s1 with heap:=h' }→wpAny (model prog w) A.in1.in1 (keyKind' vs.toArray) Q E { s1 with heap:=h' }) ∧
  (∀ h',(∀ b u,s1.heap.get? b=some u→h'.get? b=some u)→∀ i j C,i<vs.length→j<vs.length→C (lt i j) { s1 with heap:=h' }→kas_ask prog w A.in1.in1 κ vs i j C { s1 with heap:=h' }) ∧
  ∀ p,PermN vs.length p→Ris lt p vs.length→∀ (a:Addr) (h':Heap) (e:Nat),(∀ b u,s1.heap.get? b=some u→h'.get? b=some u)→s1.heap.objs.size≤a→h'.get? a=some (seqObj "list" (gh vs p) e)→Q (.ref a) { s1 with heap:=h' }
theorem lu {v:Value}{Q:Kv}(hcol:wpAny (model prog w) A.in1 (collect v) (jM prog w A Q) E s) :
  wpAny (model prog w) A (call (.builtin "sorted") [v]) Q E s:=by
 refine Calls.call_function_entry kind_sorted plain_sorted entry_sorted (args_sorted1 _) ?_
 unfold Builtin.«sorted»
 refine Yr (m:=checkCount "sorted" 1 1 _) (YD ?_)
 refine Yr (Zv hcol (fun vs s1 hh_=>?_) fun _ _ e=>e)
 obtain⟨h64,κ,lt,o,hk,hc,h⟩:=hh_
 refine Yr (wpAny_newList ?_ (by rw[YH];omega))
 have hoL:(s1.heap.push (seqObj "list" vs.toArray 0)).get? s1.heap.objs.size=some (seqObj "list" vs.toArray 0):=Yo _ rfl
 have keep:∀ b u,s1.heap.get? b=some u→(s1.heap.push (seqObj "list" vs.toArray 0)).get? b=some u:=fun b u q=>Yd _ q
 show wpAny _ _ _ _ _ { s1 with heap:=s1.heap.push (seqObj "list" vs.toArray 0) }
 have lift:∀ h':Heap,(∀ b u,b≠s1.heap.objs.size→(s1.heap.push (seqObj "list" vs.toArray 0)).get? b=some u→h'.get? b=some u)→∀ b u,s1.heap.get? b=some u→h'.get? b=some u:=fun h' k b u e=>
  k b u (Yw (Yp e)) (keep b u e)
 refine Yr (wpAny_holding (wpAny_call_entry slot_list_sort ⟨_,hoL,rfl⟩ entry_list_sort ?body (args_list_sort _)))
 case body=>
  refine iU hoL h64 κ lt o (fun h2 h' k Q q=>hk h2 h' (lift h' k) Q _ q) (fun h' k=>hc h' (lift h' k)) fun p hp hr=>⟨_,rfl,?_⟩
  obtain⟨e,he⟩:=sortedHeap_at (out:=gh vs p) hoL
  refine YD ⟨_,rfl,h p hp hr s1.heap.objs.size _ e (fun b u q=>?_) (Yi _) he⟩
  have hlt:b<s1.heap.objs.size:=Yp q
  show (sortedHeap (s1.heap.push (seqObj "list" vs.toArray 0)) s1.heap.objs.size vs (gh vs p)).get? b=some u
  rw[sortedHeap_old (Yw hlt) (by rw[size_push'];exact ZU hlt)]
  exact keep b u q
theorem iZ {l:Addr}{vs:List Value}{Q:Kl}(hl:IsTup s.heap l vs.toArray)
  (h:Q vs { s with heap:=(s.heap.push (seqObj "list" #[] 0)).update s.heap.objs.size (Obj.mapSeq (·++vs.toArray)) }) (hsz:vs.length≤sizeLine) :
  wpAny (model prog w) A (collect (.ref l)) Q E s:=by
 obtain⟨o,ho,hc,n,hd⟩:=id hl
 unfold collect
 refine Yr (wpAny_runValue (Xf entry_proto_collect' ?_))
 show wpAny _ _ (do again (.builtin "list.__iadd__" ⟨[← newList [],.ref l],[]⟩)) _ _ s
 refine Yr (wpAny_newList (YD ⟨Code.quiet_builtin _ (by decide +kernel),Xf entry_list_iadd' ?_⟩))
 show wpAny _ _ (Builtin.List.listExtendWith (.ref s.heap.objs.size) (.ref l) (.ref s.heap.objs.size)) _ _ { s with heap:=s.heap.push (seqObj "list" #[] 0) }
 unfold Builtin.List.listExtendWith
 have ho':(s.heap.push (seqObj "list" #[] 0)).get? l=some o:=Yd _ ho
 refine Yr (wpAny_typeOf (T := "tuple") ⟨o,ho',hc⟩ ?_)
 have ht:(Value.type "tuple" == Value.type "tuple")=true:=by rfl
 rw[Yf (by rw[ht];simp)]
 refine Yr (listItems_at ho' hd ?_)
 refine Yr (listItems_at (xs:=#[]) (n:=0) (Yo _ rfl) rfl ?_)
 rw[Yh (by simp)]
 refine Yr (listUpdate_at (xs:=#[]) (n:=0) (Yo _ rfl) rfl ?_ (YI _) (by show (#[]++vs.toArray).size≤sizeLine+1;simp only[Array.size_append,Yl,YN];omega))
 refine YD ?_
 show wpAny (model prog w) A (do
   let o ← load s.heap.objs.size
   match o.data with
   | .seq xs _=>pure xs.toList
   | _=>unsupported "internal:collect") Q E { s with heap:=(s.heap.push (seqObj "list" #[] 0)).update s.heap.objs.size (Obj.mapSeq (·++vs.toArray)) }
 refine Yr (wpAny_load (get?_update_seq (Yo _ rfl) _) ?_)
 show wpAny _ _ (pure ((#[]:Array Value)++vs.toArray).toList) Q E _
 rw[show ((#[]:Array Value)++vs.toArray).toList=vs by simp]
 exact YD h
theorem iA {h:Heap}{vs:List Value}{b:Addr}{u:Obj}(q:h.get? b=some u):((h.push (seqObj "list" #[] 0)).update h.objs.size (Obj.mapSeq (·++vs.toArray))).get? b=some u:=by
 have hlt:b<h.objs.size:=Yp q
 rw[Heap.get?_update_ne _ _ _ _ (Yw hlt),ZV _ _ _ (Yw hlt)]
 exact q
end
def sk:D→Bool
 | .int _=>true
 | .str _=>true
 | .tup (_::_)=>true
 | _=>false
def fk:D→Bool
 | .int _=>true
 | .str _=>true
 | .tup _=>true
 | _=>false
def nZ:D→Bool
 | .tup (d::_)=>fk d
 | _=>true
def bO (ds:List D):Bool:=decide (ds.length<64)&&ds.all (okN 28)&&(ds.all fun x=>ds.all fun y=>al x y)&&ds.all sk&&ds.all nZ
theorem eK {ds:List D}(h:bO ds=true):ds.length<64∧Cmps 28 ds∧(∀ d∈ds,sk d=true)∧∀ d∈ds,nZ d=true:=by
 unfold bO at h
 simp only[Yq,YC] at h
 obtain⟨⟨⟨⟨h1,h2⟩,h3⟩,h4⟩,h5⟩:=h
 exact⟨h1,⟨fun d hd=>Yz.mp h2 d hd,fun x hx y hy=>Yz.mp (Yz.mp h3 x hx) y hy⟩,fun d hd=>Yz.mp h4 d hd,fun d hd=>Yz.mp h5 d hd⟩
def dAt (ds:List D)(i:Nat):D:=ds.getD i (ds.headD (.int 0))
theorem j0 {ds:List D}(h:ds≠[])(i:Nat):dAt ds i∈ds:=by
 unfold dAt
 cases ds with
 | nil=>exact absurd rfl h
 | cons d r=>
  rw[YG]
  cases q:(d::r)[i]? with
  | none=>exact Yc
  | some x=>exact YL q
theorem jL {ds:List D}{i:Nat}(h:i<ds.length):ds[i]?=some (dAt ds i):=by
 unfold dAt
 rw[YG,Yu h]
 rfl
theorem wo {n:Nat}{ds:List D}(hc:Cmps n ds):Ord fun i j=>ltD (dAt ds i) (dAt ds j):=by
 by_cases hn:ds=[]
 ·subst hn
  have e:∀ i,dAt [] i=.int 0:=fun i=>by simp[dAt]
  refine⟨fun i j h=>?_,fun i j k h1 h2=>?_⟩
  ·rw[e,e] at h;simp[ltD] at h
  ·rw[e,e];simp[ltD]
 ·have m:=fun i=>j0 hn i
  refine⟨fun i j h=>?_,fun i j k h1 h2=>?_⟩
  ·exact (fg n _ _ (hc.1 _ (m i)) (hc.1 _ (m j)) (hc.2 _ (m i) _ (m j))).as h
  ·exact js (hc.1 _ (m i)) (hc.1 _ (m j)) (hc.1 _ (m k)) (hc.2 _ (m i) _ (m j)) (hc.2 _ (m j) _ (m k)) (hc.2 _ (m i) _ (m k)) (hc.2 _ (m j) _ (m i)) (hc.2 _ (m k) _ (m j)) (hc.2 _ (m k) _ (m i)) h1 h2
theorem mG {n:Nat}{ds:List D}(hc:Cmps n ds){p:Array Nat}(hp:PermN ds.length p)(hr:Ris (fun i j=>ltD (dAt ds i) (dAt ds j)) p ds.length):p.toList.map (dAt ds)=bg ds:=by
 refine eE (n:=n) ?_ hc ?_
 ·have h1:(p.toList.map (dAt ds)).Perm ((List.range ds.length).map (dAt ds)):=hp.perm.map _
  have h2:(List.range ds.length).map (dAt ds)=ds:=by
   apply List.ext_getElem?
   intro i
   rw[YF]
   by_cases h:i<ds.length
   ·rw[XA h,Ze,jL h]
   ·rw[ZS (by rw[ZI];omega),ZS (by omega)];rfl
  rw[h2] at h1
  exact h1
 ·rw[Xk,List.pairwise_iff_getElem]
  intro i j hi hj hij
  have hs:=hp.size
  rw[Zn] at hi hj
  have:=hr i j (Zl hij) (by omega)
  have e:∀ k (h:k<p.size),p.getD k 0=p[k]:=fun k h=>by simp[Array.getD,h]
  rw[e i hi,e j hj] at this
  simpa using this
theorem Reps.perm {K:Kq}{H:Hp}{vs:List V}{ds:List D}(r:Reps K H vs ds)(hn:ds≠[]):∀ (l:List Nat),(∀ i∈l,i<ds.length)→Reps K H (l.map fun i=>vs.getD i .non) (l.map (dAt ds))
 | [],_=>.nil
 | i::l,h=>by
  obtain⟨v,h1,h2⟩:=r.get (jL (h i Yc))
  have e:vs.getD i .non=v:=by rw[YG,h1];rfl
  rw[Yv,Yv]
  show Reps K H (vs.getD i .non::_) _
  rw[e]
  exact .cons h2 (Reps.perm r hn l fun j hj=>h j (Yb _ hj))
theorem Vals.perm {vs:List V}{us:List Value}(r:Vals vs us):∀ (l:List Nat),(∀ i∈l,i<vs.length)→Vals (l.map fun i=>vs.getD i .non) (l.map fun i=>us.getD i Value.none)
 | [],_=>.nil
 | i::l,h=>by
  have hi:=h i Yc
  obtain⟨u,h1,h2⟩:=r.get (Yu hi)
  have e1:vs.getD i .non=vs[i]:=by rw[YG,Yu hi];rfl
  have e2:us.getD i Value.none=u:=by rw[YG,h1];rfl
  rw[Yv,Yv]
  show Vals (vs.getD i .non::_) (us.getD i Value.none::_)
  rw[e1,e2]
  exact .cons h2 (Vals.perm r l fun j hj=>h j (Yb _ hj))
def tyD:D→Value
 | .int _=>.type "int"
 | .str _=>.type "str"
 | _=>.type "tuple"
section
variable {X:Cx} {pz:Kp} {σ:St} {H:Hp} {s:Shared}
theorem Rep.ty (I:Inv X pz σ H s){v:V}{d:D}{u:Value}(h:Rep X.K H v d)(hk:fk d=true)(r:RelV v u)(M:Model):Looks M s.heap (typeOf u) (tyD d):=by
 cases d with
 | int i=>cases h;obtain⟨t,rfl⟩:=(show ∃ t,u=Value.int _ t from r);exact Looks.of_pure rfl
 | str i=>cases h;obtain⟨t,rfl⟩:=(show ∃ t,u=Value.str _ t from r);exact Looks.of_pure rfl
 | tup ds=>
  cases h with
  | tup h1 h2=>
   cases (show u=Value.ref _ from r)
   obtain⟨its,rv,⟨o,ho,hc,n,hd⟩,_⟩:=I.tuple (SqT.of h1)
   have:=(Looks.ld (M:=M) (part:=none) ho).andThen (f:=fun o=>pure o.cls) .now
   rw[hc] at this
   exact this
 | _=>cases hk
theorem m8 {x y:D}(h:al x y=true)(hx:fk x=true):tyD x=tyD y:=by
 rcases aH h with⟨i,j,rfl,rfl⟩ | ⟨i,j,rfl,rfl⟩ | ⟨i,j,rfl,rfl⟩ | ⟨i,j,rfl,rfl,_⟩
 ·rfl
 ·cases hx
 ·rfl
 ·rfl
def jm:List D→SortKind
 | .tup (d::_)::_=>tuples' (tyD d != .type "tuple")
 | _=>oneType'
theorem ny (I:Inv X pz σ H s):∀ {vs:List V} {ds:List D} {us:List Value},Reps X.K H vs ds→Vals vs us→(∀ d∈ds,∃ x r,d=.tup (x::r)∧fk x=true)→∀ T:Value,(∀ x r,.tup (x::r)∈ds→tyD x=T)→
  ∃ fs:List Value,KatTups s.heap us fs∧fs.length=us.length∧∀ M,∀ v∈fs,Looks M s.heap (typeOf v) T:=by
 intro vs ds us h
 exact Reps.ind (M:=fun vs ds=>∀ us:List Value,Vals vs us→(∀ d∈ds,∃ x r,d=.tup (x::r)∧fk x=true)→∀ T:Value,(∀ x r,.tup (x::r)∈ds→tyD x=T) →     ∃ fs:List Value,KatTups s.heap us fs∧fs.length=us.length∧∀ M,∀ v∈fs,Looks M s.heap (typeOf v) T) (fun us r _ _ _=>by cases r;exact⟨[],.nil,rfl,fun _ _ h=>by cases h⟩) (fun h _ ih us r0 hd T hT=>by
  cases r0 with
  | cons r t=>
  obtain⟨x,rr,rfl,hx⟩:=hd _ Yc
  obtain⟨fs,f1,f2,f3⟩:=ih _ t (fun d m=>hd d (Yb _ m)) T fun x r m=>hT x r (Yb _ m)
  cases h with
  | tup h1 h2=>
   cases (show _=Value.ref _ from r)
   obtain⟨its,rv,⟨o,ho,hc,n,hdt⟩,_⟩:=I.tuple (SqT.of h1)
   cases h2 with
   | cons g1 g2=>
    cases rv with
    | cons k1 k2=>
     refine⟨_::fs,KatTups.cons ho hc hdt (by simp;rfl) f1,by rw[Yj,Yj,f2],fun M v hv=>?_⟩
     rcases Yy.mp hv with rfl | hv
     ·rw[← hT x rr Yc]
      exact g1.ty I hx k1 M
     ·exact f3 M v hv) h us
theorem kg {d:D}(h:sk d=true)(ht:fi d=false):fk d=true:=by cases d <;> first | rfl | cases h | cases ht
theorem jT (I:Inv X pz σ H s){vs:List V}{ds:List D}{us:List Value}(r:Reps X.K H vs ds)(rv:Vals vs us)(ok:bO ds=true)(h2:2≤us.length){A:Around}{M:Model}{Q:SortKind→Shared→Prop}{E:Kv}(hQ:Q (jm ds) s) :
  wpAny M A (keyKind' us.toArray) Q E s:=by
 obtain⟨hl,hc,hs,hf⟩:=eK ok
 have l1:=r.length
 have l2:=rv.length
 cases ds with
 | nil=>rw[YN] at l1;omega
 | cons d dr=>
  have md:d∈d::dr:=Yc
  cases ht:fi d with
  | true=>
   cases d with
   | tup xs=>
    cases xs with
    | nil=>have:=hs _ md;cases this
    | cons x rr=>
     have hx:fk x=true:=hf _ md
     have all:∀ d'∈(D.tup (x::rr)::dr),∃ y r',d'=.tup (y::r')∧fk y=true∧tyD y=tyD x:=fun d' m=>by
      have hcm:=hc.2 _ md _ m
      rcases aH hcm with⟨i,j,e,_⟩ | ⟨i,j,e,_⟩ | ⟨i,j,e,_⟩ | ⟨i,j,e,e2,hcs⟩
      ·cases e
      ·cases e
      ·cases e
      ·cases e
       subst e2
       cases j with
       | nil=>have:=hs _ m;cases this
       | cons y r'=>
        rw[aW,Yq] at hcs
        exact⟨y,r',rfl,hf _ m,(m8 hcs.1 hx).symm⟩
     obtain⟨fs,f1,f2,f3⟩:=ny I r rv (fun d' m=>by obtain⟨y,r',e,h,_⟩:=all d' m;exact⟨y,r',e,h⟩) (tyD x) fun y r' m=>by
      obtain⟨y',r'',e,_,h⟩:=all _ m
      cases e
      exact h
     exact kat_kind f1 (by omega) (f3 M) (by cases x <;> rfl) hQ
   | _=>cases ht
  | false=>
   have hd:fk d=true:=kg (hs d md) ht
   have e:jm (d::dr)=oneType':=by cases d <;> first | rfl | cases ht
   rw[e] at hQ
   have hT:∀ u∈us,Looks M s.heap (typeOf u) (tyD d):=fun u hu=>by
    obtain⟨i,hi,eu⟩:=List.getElem_of_mem hu
    have hiv:i<vs.length:=by omega
    obtain⟨u',e1,e2⟩:=rv.get (Yu hiv)
    rw[Yu hi,eu] at e1
    cases e1
    obtain⟨d',e3,e4⟩:=r.getV (Yu hiv)
    have m:=YL e3
    have hcm:=hc.2 _ md _ m
    rw[m8 hcm hd]
    refine e4.ty I ?_ e2 M
    refine kg (hs d' m) ?_
    rcases aH hcm with⟨i,j,rfl,rfl⟩ | ⟨i,j,rfl,rfl⟩ | ⟨i,j,rfl,rfl⟩ | ⟨i,j,rfl,rfl,_⟩
    ·rfl
    ·rfl
    ·rfl
    ·cases ht
   refine kas_kind h2 hT ?_ ?_ hQ
   ·cases d <;> first | rfl | (simp[fk] at hd;done) | (simp[fi] at ht;done)
   ·cases d <;> rfl
theorem tz {A:Around}{prog:Program}{w:World}{b:Bool}{Q:Kb}{n1 n2:Nat}:∀ {us ws:List Value} {ds es:List D} (i:Nat),LexOk A s us ws ds es→(b=true→i=0→∀ u w' d e ur wr dr er,us=u::ur→ws=w'::wr→ds=d::dr→es=e::er→∀ (Q:Kb) (E:Kv),Q (ltD d e) s→wpAny (model prog w) A (oneLt' true u w') Q E s)→
  us.length+n2=ws.length+n1→Q (bc ds es) s→KatLex prog w A b (decide (n1<n2)) Q (us.zip ws) i s:=by
 intro us ws ds es i h
 induction h generalizing i with
 | @nl ws es hl=>
  intro _ hn hQ
  rw[List.zip_nil_left]
  refine kat_nil ?_
  rw[YN] at hn
  cases es with
  | nil=>
   rw[YN] at hl
   rw[show bc [] []=false by simp[bc]] at hQ
   rw[Yx (by omega)];exact hQ
  | cons c r=>
   rw[Yj] at hl
   rw[show bc [] (c::r)=true by simp[bc]] at hQ
   rw[YU (by omega)];exact hQ
 | @nr vs ds hl=>
  intro _ hn hQ
  rw[List.zip_nil_right]
  refine kat_nil ?_
  rw[YN] at hn
  cases ds with
  | nil=>
   rw[YN] at hl
   rw[show bc [] []=false by simp[bc]] at hQ
   rw[Yx (by omega)];exact hQ
  | cons c r=>
   rw[Yj] at hl
   rw[show bc (c::r) []=false by simp[bc]] at hQ
   rw[Yx (by omega)];exact hQ
 | @cons v w' d e _ _ _ _ he hlt hx ih=>
  intro h1 hn hQ
  rw[XE]
  rw[Yj,Yj] at hn
  refine kat_cons (he prog w _ _ ?_)
  cases q:eqd d e with
  | true=>
   rw[bc,Yf q] at hQ
   exact kat_yes (ih (i+1) (fun _ z=>by omega) (by omega) hQ)
  | false=>
   rw[bc,Yh (by rw[q];exact Yg)] at hQ
   refine kat_no ?_
   cases hb:(b&&i == 0) with
   | true=>
    rw[Yq] at hb
    exact h1 hb.1 (by simpa using hb.2) _ _ _ _ _ _ _ _ rfl rfl rfl rfl _ _ hQ
   | false=>exact kat_one _ _ (hlt q prog w _ _ hQ)
theorem rY {A:Around}{prog:Program}{w:World}{x y:V}{d e:D}{u v:Value}(h1:Rep X.K H x d)(h2:Rep X.K H y e)(c:al d e=true)(hd:fk d=true)(ht:fi d=false)(r1:RelV x u)(r2:RelV y v){Q:Kb}{E:Kv}(hQ:Q (ltD d e) s) :
  wpAny (model prog w) A (oneLt' true u v) Q E s:=by
 rcases aH c with⟨i,j,rfl,rfl⟩ | ⟨i,j,rfl,rfl⟩ | ⟨i,j,rfl,rfl⟩ | ⟨i,j,rfl,rfl,_⟩
 ·cases h1;cases h2
  obtain⟨t,rfl⟩:=(show ∃ t,u=Value.int _ t from r1)
  obtain⟨t',rfl⟩:=(show ∃ t,v=Value.int _ t from r2)
  exact oneLt_int (by rw[ltD] at hQ;exact hQ)
 ·cases hd
 ·cases h1;cases h2
  obtain⟨t,rfl⟩:=(show ∃ t,u=Value.str _ t from r1)
  obtain⟨t',rfl⟩:=(show ∃ t,v=Value.str _ t from r2)
  exact oneLt_str (by rw[ltD] at hQ;exact hQ)
 ·cases ht
theorem wl (I:Inv X pz σ H s){vs:List V}{ds:List D}{us:List Value}(r:Reps X.K H vs ds)(rv:Vals vs us)(ok:bO ds=true){A:Around}(hu:A.units+60<cLine){prog:Program}{w:World}{i j:Nat}{C:Kb}(hi:i<us.length)(hj:j<us.length)(hQ:C (ltD (dAt ds i) (dAt ds j)) s) :
  kas_ask prog w A (jm ds) us i j C s:=by
 obtain⟨hl,hc,hs,hf⟩:=eK ok
 have l1:=r.length
 have l2:=rv.length
 obtain⟨v,e1,r1⟩:=r.get (jL (show i<ds.length by omega))
 obtain⟨v',e2,r2⟩:=r.get (jL (show j<ds.length by omega))
 obtain⟨u,e3,k1⟩:=rv.get e1
 obtain⟨u',e4,k2⟩:=rv.get e2
 have hn:ds≠[]:=fun z=>by rw[z,YN] at l1;omega
 have mi:=j0 hn i
 have mj:=j0 hn j
 have hcm:=hc.2 _ mi _ mj
 unfold kas_ask
 have g1:us.getD i Value.none=u:=by rw[YG,e3];rfl
 have g2:us.getD j Value.none=u':=by rw[YG,e4];rfl
 rw[g1,g2]
 generalize hx:dAt ds i=x at *
 generalize hy:dAt ds j=y at *
 cases ht:fi x with
 | false=>
  have e:jm ds=oneType':=by
   cases ds with
   | nil=>exact absurd rfl hn
   | cons d dr=>
    have:=hc.2 _ mi d Yc
    rcases aH this with⟨i,j,rfl,rfl⟩ | ⟨i,j,rfl,rfl⟩ | ⟨i,j,rfl,rfl⟩ | ⟨i,j,rfl,rfl,_⟩
    ·rfl
    ·rfl
    ·rfl
    ·cases ht
  rw[e,keyLt'_oneType]
  exact rY r1 r2 hcm (kg (hs _ mi) ht) ht k1 k2 hQ
 | true=>
  cases x with
  | tup xs=>
   cases xs with
   | nil=>have:=hs _ mi;cases this
   | cons x0 xr=>
    rcases aH hcm with⟨_,_,e,_⟩ | ⟨_,_,e,_⟩ | ⟨_,_,e,_⟩ | ⟨xs',ys,e,rfl,hcs⟩
    ·cases e
    ·cases e
    ·cases e
    ·cases e
     have ek:jm ds=tuples' (tyD x0 != .type "tuple"):=by
      cases ds with
      | nil=>exact absurd rfl hn
      | cons d dr=>
       have:=hc.2 _ mi d Yc
       rcases aH this with⟨_,_,e,_⟩ | ⟨_,_,e,_⟩ | ⟨_,_,e,_⟩ | ⟨_,zs,e,rfl,hz⟩
       ·cases e
       ·cases e
       ·cases e
       ·cases e
        cases zs with
        | nil=>have:=hs (.tup []) Yc;cases this
        | cons z0 zr=>
         rw[aW,Yq] at hz
         show tuples' (tyD z0 != _)=_
         rw[m8 hz.1 (hf _ mi)]
     rw[ek]
     cases r1 with
     | tup a1 a2=>
      cases r2 with
      | tup b1 b2=>
       cases (show u=Value.ref _ from k1)
       cases (show u'=Value.ref _ from k2)
       obtain⟨its1,rv1,⟨o1,ho1,hc1,n1,hd1⟩,_⟩:=I.tuple (SqT.of a1)
       obtain⟨its2,rv2,⟨o2,ho2,hc2,n2,hd2⟩,_⟩:=I.tuple (SqT.of b1)
       have oi:okN 28 (.tup (x0::xr))=true:=hc.1 _ mi
       have oj:okN 28 (.tup ys)=true:=hc.1 _ mj
       have hlex:=Reps.lex I 27 A (by omega) (Rep.lt I 27 A (by omega)) a2 b2 (bL oi) (bL oj) hcs rv1 rv2
       refine kat_lt ho1 hd1 ho2 hd2 ?_
       simp only[Yl]
       refine tz 0 hlex (fun hb _ u0 w0 d0 e0 ur wr dr er q1 q2 q3 q4 Q E hq=>?_) (by omega) (by rw[ltD] at hQ;exact hQ)
       subst q1 q2 q4
       cases q3
       cases a2 with
       | cons a3 a4=>
        cases b2 with
        | cons b3 b4=>
         cases rv1 with
         | cons c1 c2=>
          cases rv2 with
          | cons c3 c4=>
           rw[aW,Yq] at hcs
           refine rY a3 b3 hcs.1 (hf _ mi) ?_ c1 c3 hq
           cases x0 <;> first | rfl | (simp[tyD] at hb)
  | _=>cases ht
theorem qz (I:Inv X pz σ H s){vs:List V}{ds:List D}{us:List Value}(r:Reps X.K H vs ds)(rv:Vals vs us)(ok:bO ds=true)(hu:X.A.units+64<cLine){Q:Kv}
  (hQ:∀ (a:Addr) (p:List Nat) (s':Shared),H a=none→(∀ i∈p,i<ds.length)→p.length=ds.length→p.map (dAt ds)=bg ds→Inv X pz σ (upd H a (.lst (p.map fun i=>vs.getD i .non))) s'→Q (.ref a) s'):jM X.prog X.w X.A Q us s:=by
 obtain⟨hl,hc,_,_⟩:=eK ok
 have l1:=r.length
 have l2:=rv.length
 refine⟨by omega,jm ds,_,wo hc,fun h2 h' k Q E q=>jT (I.kept (t':=s.toks) k) r rv ok h2 q,fun h' k i j C hi hj hq=>?_,fun p hp hr a h' e k hsz hget=>?_⟩
 ·have hu':X.A.in1.in1.units+60<cLine:=by show X.A.units+1+1+60<cLine;omega
  exact wl (I.kept (t':=s.toks) k) r rv ok hu' hi hj hq
 ·have hp':PermN ds.length p:=by rw[← l1,l2];exact hp
  have hr':Ris (fun i j=>ltD (dAt ds i) (dAt ds j)) p ds.length:=by rw[← l1,l2];exact hr
  have eo:=mG hc hp' hr'
  have bd:∀ i∈p.toList,i<ds.length:=fun i hi=>ZD.mp (hp'.perm.mem_iff.mp hi)
  have hna:H a=none:=I.hok.fresh hsz
  have lenp:p.toList.length=ds.length:=by rw[Zn];exact hp'.size
  refine hQ a p.toList _ hna bd lenp eo (I.laid (t':=s.toks) k hsz ⟨?_,p.toList.map fun i=>us.getD i Value.none,e,Vals.perm rv p.toList fun i hi=>by rw[l1];exact bd i hi,?_⟩)
  ·rw[Ye,lenp,YH];omega
  ·exact hget
end
section
variable {X:Cx} {e:Expr} {p pos:Pos} {fa:Dd}
theorem gm (hu:X.A.units+64<cLine):CallR X (.builtin "sorted") (fun xs H Q=>∃ a vs ds,xs=[.ref a]∧(SqL X.K H a vs∨SqT X.K H a vs)∧Reps X.K H vs ds∧bO ds=true∧∀ l (p:List Nat),H l=none→(∀ i∈p,i<ds.length)→p.length=ds.length→p.map (dAt ds)=bg ds→Q (.ref l) (upd H l (.lst (p.map fun i=>vs.getD i .non)))):=by
 intro pz s σ H xs us Q I r h
 obtain⟨a,vs,ds,rfl,hq,hr,ok,q⟩:=h
 obtain⟨u,rfl,ru⟩:=dC r
 cases ru
 refine lu ?_
 have fin:∀ its:List Value,Vals vs its→jM X.prog X.w X.A (EP X pz σ Q) its { s with heap:=(s.heap.push (seqObj "list" #[] 0)).update s.heap.objs.size (Obj.mapSeq (·++its.toArray)) }:=fun its rv=>
  qz (I.kept (t':=s.toks) fun b u e=>iA e) hr rv ok hu fun l p s' hl b1 b2 b3 I'=>⟨.ref l,_,I',rfl,q l p hl b1 b2 b3⟩
 rcases hq with hq | hq
 ·obtain⟨its,rv,pl,hz⟩:=I.list hq
  exact collect_list pl.isList (fin its rv) (by rw[← rv.length];exact hz)
 ·obtain⟨its,rv,pl,hz⟩:=I.tuple hq
  exact iZ pl (fin its rv) (by rw[← rv.length];exact hz)
def f_ (fa:Dd):DF→Option (List D):=fun ρ=>(fa ρ).bind fun d=>(b_ d).bind fun ds=>if bO ds=true then some (bg ds) else none
theorem cL (hu:X.A.units+64<cLine)(hg:Gl X "sorted")(hm:X.mg "sorted"=none)(ha:PDR X e fa)(hs:starEach [e] X.env=[(false,eval e X.env)]:=by rfl)(hpl:(backTo pos (starEach [] X.env)).any (·.1)=false:=by rfl) :
  PDO X (.Call (.Name "sorted" p) [e] [] pos) (asL (f_ fa)):=
 (c7 (gm hu) hg hm gc (ar ha aQ hs) (by decide) (by decide) hs hpl).imp fun σ H Q=>un7 fun P F ρ ob hf I k=>by
  unfold asL f_ at hf
  cases ha:fa ρ with
  | none=>rw[ha] at hf;cases hf
  | some dx=>
  rw[ha,Ya] at hf
  cases hi:b_ dx with
  | none=>rw[hi] at hf;cases hf
  | some ds=>
  rw[hi,Ya] at hf
  split at hf
  ·rename_i ok
   cases hf
   refine⟨P,F,ρ,dx,ha,I,fun x F1 H1 e1 rx=>?_⟩
   have I1:=I.evo e1
   have fin:∀ (vs:List V),Reps X.K F1 vs ds→∀ l (p:List Nat),H1 l=none→(∀ i∈p,i<ds.length)→p.length=ds.length→p.map (dAt ds)=bg ds→Q (.ref l) (upd H1 l (.lst (p.map fun i=>vs.getD i .non))):=fun vs r l p hl b1 b2 b3=>by
    refine k l F1 _ (e1.trans (Evo.side e1.hp hl)) ⟨⟨e1.back I.toDHp hl,(e1.hp.free hl).1⟩,_,aq,?_⟩
    show Reps X.K F1 _ (bg ds)
    by_cases hn:ds=[]
    ·subst hn
     have:p=[]:=Xg.mp b2
     rw[this]
     exact .nil
    ·rw[← b3]
     exact r.perm hn p b1
   cases dx with
   | lst ds'=>
    cases hi
    obtain⟨q,vs,rfl,h1,h2⟩:=cb I1 rx
    exact⟨q,vs,ds,rfl,.inl h1,h2.same I1.sub,ok,fin vs h2⟩
   | tup ds'=>
    cases hi
    obtain⟨q,vs,rfl,h1,h2⟩:=fj I1 rx
    exact⟨q,vs,ds,rfl,.inr h1,h2.same I1.sub,ok,fin vs h2⟩
   | _=>cases hi
  ·cases hf
end
end L2
namespace L2
open PySem PySem.Spec PyProof.Rows
def df {α:Type}(xs:List α)(lo hi:Option Int):List α:=(xs.drop (HT.sIx xs.length 0 lo)).take (HT.sIx xs.length xs.length hi-HT.sIx xs.length 0 lo)
theorem Reps.cut {K:Kq}{F:Hp}{vs:List V}{ds:List D}(r:Reps K F vs ds)(lo hi:Option Int):Reps K F (p9 vs lo hi) (df ds lo hi):=by
 unfold p9 df
 rw[r.length]
 exact (r.drop _).take _
def tOI (K:Kq)(f:DF→Option (Option Int)):TO:=fun σ H Q=>∃ P F ρ b,f ρ=some b∧DInv K P F H ρ σ∧∀ F' H',Evo P F H F' H'→Q b H'
def PDB (X:Cx)(e:Option Expr)(f:DF→Option (Option Int)):Prop:=PO X e (tOI X.K f)
def bNo:DF→Option (Option Int):=fun _=>some none
def bI (f:Dd):DF→Option (Option Int):=fun ρ=>match f ρ with
 | some (.int i)=>some (some i)
 | _=>none
section
variable {X:Cx} {e a b c o:Expr} {es:List Expr} {pos p p2:Pos} {lo hi:Option Expr} {fe fa fb:Dd} {fl fh:DF→Option (Option Int)}
theorem PO.imp {t t':TO}{e:Option Expr}(h:PO X e t)(i:∀ σ H Q,t' σ H Q→t σ H Q):PO X e t':=fun pz s σ H Q I q=>h pz s σ H Q I (i σ H Q q)
theorem kb:PDB X none bNo:=PO.imp uO fun σ H Q=>un7 fun P F ρ b hf I k=>by
 cases hf
 exact k F H (Evo.refl I.toDHp)
theorem gk {f:Dd}(h:PDE X e f):PDB X (some e) (bI f):=PO.imp (uR h) fun σ H Q=>un7 fun P F ρ b hf I k=>by
 unfold bI at hf
 split at hf
 ·rename_i i q
  cases hf
  refine⟨P,F,ρ,_,q,I,fun v F' H' ev r=>?_⟩
  cases r
  exact⟨i,rfl,k F' H' ev⟩
 ·cases hf
def slL (fe:Dd)(fl fh:DF→Option (Option Int)):DF→Option (List D):=fun ρ=>match fe ρ with
 | some (.lst xs)=>(fl ρ).bind fun l=>(fh ρ).map fun h=>df xs l h
 | _=>none
theorem fR (he:PDR X e fe)(hl:PDB X lo fl)(hh:PDB X hi fh):PDO X (.Subscript e (.Slice lo hi none p2) pos) (asL (slL fe fl fh)):=(kO tE he hl hh).imp fun σ H Q=>un7 fun P F ρ ob hf I k=>by
 unfold asL at hf
 cases q:slL fe fl fh ρ with
 | none=>rw[q] at hf;cases hf
 | some out=>
 rw[q] at hf
 cases hf
 unfold slL at q
 split at q
 ·rename_i xs q1
  cases q2:fl ρ with
  | none=>rw[q2] at q;cases q
  | some l=>
  rw[q2,Ya] at q
  cases q3:fh ρ with
  | none=>rw[q3] at q;cases q
  | some h=>
  rw[q3] at q
  cases q
  refine⟨P,F,ρ,_,q1,I,fun x F1 H1 e1 rx=>⟨P,F1,ρ,l,q2,I.evo e1,fun F2 H2 e2=>⟨P,F2,ρ,h,q3,(I.evo e1).evo e2,fun F3 H3 e3=>?_⟩⟩⟩
  have e123:=(e1.trans e2).trans e3
  obtain⟨l',vs,rfl,h1,h2⟩:=cb (I.evo e123) ((rx.evo e2).evo e3)
  exact⟨l',vs,rfl,h1,fun p hp=>k p F3 _ (e123.trans (Evo.side e123.hp hp)) ⟨⟨e123.back I.toDHp hp,(e123.hp.free hp).1⟩,_,aq,h2.cut l h⟩⟩
 ·cases q
def As:V→Option Int→Option Int→Hp→VK→Prop:=fun x lo hi H Q=>∃ z,x=.str z∧z.length≤sizeLine∧Q (.str (Txt.slice z lo hi)) H
theorem nS {v:Value}{o:Option Int}(h:IsPart v o):∃ l:Option (Int×Tok),v=partValue l∧l.map (·.1)=o:=by
 cases h with
 | none=>exact⟨none,rfl,rfl⟩
 | int i t=>exact⟨some (i,t),rfl,rfl⟩
theorem wC:SlR X As:=by
 intro pz s σ H x v vl vu lo hi sl Q I rx hs pl pu h
 obtain⟨z,rfl,hz,q⟩:=h
 have hle:=Txt.slice_le z lo hi
 obtain⟨t,rfl⟩:=rx
 obtain⟨l,rfl,e1⟩:=nS pl
 obtain⟨u,rfl,e2⟩:=nS pu
 refine⟨"str",_,PySem.F.slot_str_getitem.lookup,typeIs_str s z t,wpAny_getItem_str_slice (st:=none) hs rfl ?_⟩
 have e:slicePicked z l u none=Builtin.Str.strSliceIndices lo hi 1 z.length:=by unfold slicePicked;rw[e1,e2];rfl
 unfold sliceMade
 rw[e]
 unfold Txt.slice at q hle
 show (if ((1:Int) == 1&&(Builtin.Str.strSliceIndices lo hi 1 z.length).length == z.length)=true then Made.val (.str z t) else Made.str ⟨((Builtin.Str.strSliceIndices lo hi 1 z.length).filterMap (z.cps[·]?)).toArray⟩).post _ _
 split
 ·rename_i c
  rw[Yf c] at q
  exact⟨.str z,H,I,⟨t,rfl⟩,q⟩
 ·rename_i c
  rw[Yh c] at q hle
  exact⟨YA hle hz,⟨.str _,H,I.tok _,⟨_,rfl⟩,q⟩⟩
def slS (fe:Dd)(fl fh:DF→Option (Option Int)):DF→Option D:=fun ρ=>match fe ρ with
 | some (.str x)=>if x.length≤16777216 then (fl ρ).bind fun l=>(fh ρ).map fun h=>.str (Txt.slice x l h) else none
 | _=>none
theorem fN (he:PDR X e fe)(hl:PDB X lo fl)(hh:PDB X hi fh):PDE X (.Subscript e (.Slice lo hi none p2) pos) (slS fe fl fh):=(kO wC he hl hh).imp fun σ H Q=>un7 fun P F ρ d q I k=>by
 unfold slS at q
 split at q
 ·rename_i x q1
  split at q
  rotate_left
  ·cases q
  rename_i hz
  cases q2:fl ρ with
  | none=>rw[q2] at q;cases q
  | some l=>
  rw[q2,Ya] at q
  cases q3:fh ρ with
  | none=>rw[q3] at q;cases q
  | some h=>
  rw[q3] at q
  cases q
  refine⟨P,F,ρ,_,q1,I,fun y F1 H1 e1 rx=>⟨P,F1,ρ,l,q2,I.evo e1,fun F2 H2 e2=>⟨P,F2,ρ,h,q3,(I.evo e1).evo e2,fun F3 H3 e3=>?_⟩⟩⟩
  exact⟨x,gA rx,by rw[YH];exact hz,k _ F3 H3 ((e1.trans e2).trans e3) .str⟩
 ·cases q
def qO (K:Kq):R2:=fun x y H Q=>∃ a b xs ys,x=.ref a∧y=.ref b∧SqT K H a xs∧SqT K H b ys∧xs.length+ys.length≤sizeLine ∧
 (xs=[]→Q (.ref b) H)∧(xs≠[]→ys=[]→Q (.ref a) H)∧(xs≠[]→ys≠[]→∀ p,H p=none→Q (.ref p) (upd H p (.tup (xs++ys))))
theorem rG:OpR X (binaryOp .Add) (qO X.K):=by
 intro pz s σ H x y v u Q I rx ry h
 obtain⟨a,b,xs,ys,rfl,rfl,ha,hb,hz,q0,q1,q2⟩:=h
 by_cases hx:xs=[]
 ·cases rx
  cases ry
  obtain⟨its,r1,p1,_⟩:=I.tuple ha
  obtain⟨its2,r2,p2,_⟩:=I.tuple hb
  have hi:its=[]:=r1.nil_iff.mpr hx
  obtain⟨⟨cls,dd,data,sl⟩,ho,hc,n,hd⟩:=id p1
  obtain⟨⟨cls2,dd2,data2,sl2⟩,ho2,hc2,n2,hd2⟩:=id p2
  simp only at hc hd hc2 hd2
  subst hc hd hc2 hd2
  exact concat_meets ⟨_,ho,rfl⟩ ⟨_,ho2,rfl⟩ noFill_tuple_add seq_tuple_add PySem.F.slot_tuple_add PySem.F.entry_tuple_add (PySem.F.args_tuple_add_2 _ _)
   (tuple_addW0 a b its.toArray its2.toArray n n2 dd dd2 sl sl2 (by simp[hi])) ⟨ho,ho2,⟨.ref b,H,I,rfl,q0 hx⟩⟩
 ·exact vf pz s σ H _ _ v u Q I rx ry ⟨a,b,xs,ys,rfl,rfl,ha,hb,hx,hz,q1 hx,q2 hx⟩
def aZ:D→D→Option D
 | .int i,.int j=>some (.int (i+j))
 | .str x,.str y=>if x.length+y.length≤16777216 then some (.str (x++y)) else none
 | .lst xs,.lst ys=>if xs.length+ys.length≤16777216 then some (.lst (xs++ys)) else none
 | .tup xs,.tup ys=>if xs.length+ys.length≤16777216 then some (.tup (xs++ys)) else none
 | _,_=>none
theorem Reps.nil_iff {K:Kq}{H:Hp}{vs:List V}{ds:List D}(r:Reps K H vs ds):vs=[]↔ds=[]:=by
 cases r with
 | nil=>simp
 | cons _ _=>simp
theorem ux {K:Kq}:nz K (fun x y H Q=>zd x y H Q∨(vB K x y H Q∨qO K x y H Q)) aZ:=by
 intro P F H ρ σ x y dx dy d Q hf I rx ry k
 unfold aZ at hf
 split at hf
 ·cases hf
  exact .inl (.inl ⟨_,_,bK rx,bK ry,k _ F H (Evo.refl I.toDHp) .int⟩)
 ·split at hf
  ·rename_i h
   cases hf
   exact .inl (.inr ⟨_,_,gA rx,gA ry,by rw[YH];exact h,k _ F H (Evo.refl I.toDHp) .str⟩)
  ·cases hf
 ·split at hf
  ·rename_i hz
   cases hf
   obtain⟨l,vs,rfl,h1,h2⟩:=cb I rx
   obtain⟨l2,vs2,rfl,h3,h4⟩:=cb I ry
   exact .inr (.inl ⟨l,l2,vs,vs2,rfl,rfl,h1,h3,by rw[h2.length,h4.length,YH];exact hz,fun p hp=>k _ _ _ (Evo.laid I.toDHp hp) (.lst (SqL.of aq) ((h2.append h4).same (eS (I.toDHp.free hp).1)))⟩)
  ·cases hf
 ·split at hf
  ·rename_i xs ys hz
   cases hf
   obtain⟨l,vs,rfl,h1,h2⟩:=fj I rx
   obtain⟨l2,vs2,rfl,h3,h4⟩:=fj I ry
   have tr:∀ {y:V} {ds:List D},RepS K H F y (.tup ds)→Rep K F y (.tup ds):=fun h=>by
    rcases h with h | ⟨_,ob,_,_,_,_,_,hfl,z⟩
    ·exact h
    ·cases ob <;> first | (cases z;done) | cases hfl
   refine .inr (.inr ⟨l,l2,vs,vs2,rfl,rfl,h1,h3,by rw[h2.length,h4.length,YH];exact hz,fun z=>?_,fun _ z=>?_,fun _ _ p hp=>?_⟩)
   ·have:xs=[]:=h2.nil_iff.mp z
    subst this
    exact k _ F H (Evo.refl I.toDHp) (tr ry)
   ·have:ys=[]:=h4.nil_iff.mp z
    subst this
    rw[YT] at k
    exact k _ F H (Evo.refl I.toDHp) (tr rx)
   ·exact k _ _ _ (Evo.laid I.toDHp hp) (.tup aq ((h2.append h4).same (eS (I.toDHp.free hp).1)))
  ·cases hf
 ·cases hf
theorem aF (ha:PDR X a fa)(hb:PDR X b fb):PDE X (.BinOp a .Add b pos) (d2 aZ fa fb):=fY ((wj.or mX).or (oF.or rG)) ux ha hb
def isT:String→D→Option Bool
 | "int",.int _=>some true
 | "bool",.int _=>some false
 | "bool",.bl _=>some true
 | "list",.lst _=>some true
 | _,_=>none
def Aq (K:Kq):List V→Hp→VK→Prop:=fun xs H Q=>∃ x T d b,xs=[x,.ty T]∧Rep K H x d∧isT T d=some b∧Q (.bl b) H
theorem sh:CallR X (.builtin "isinstance") (Aq X.K):=by
 intro pz s σ H xs us Q I r h
 obtain⟨x,T,d,b,rfl,hr,ht,q⟩:=h
 obtain⟨u,w',rfl,r1,r2⟩:=rN r
 cases (show w'=Value.type T from r2)
 have f1:EP X pz σ Q (.bool b) s:=⟨.bl b,H,I,rfl,q⟩
 have f2:EP X pz σ Q (.bool b) { s with toks:=s.toks+1 }:=⟨.bl b,H,I.tok _,rfl,q⟩
 unfold isT at ht
 split at ht <;> cases ht <;> cases hr
 ·obtain⟨t,rfl⟩:=(show ∃ t,u=Value.int _ t from r1);exact PySem.IsiPair.int_int f1
 ·obtain⟨t,rfl⟩:=(show ∃ t,u=Value.int _ t from r1);exact PySem.IsiPair.int_bool f2
 ·cases (show u=Value.bool _ from r1);exact PySem.IsiPair.bool_bool f1
 ·cases (show u=Value.ref _ from r1);rename_i hs _;obtain⟨_,_,⟨o,n,e,c,_⟩,_⟩:=I.list hs;exact PySem.IsiPair.list_list e c f1
def iW (T:String)(d:D):Option D:=(isT T d).map .bl
theorem jW {x:Str}{T:String}{p1:Pos}(hg:Gl X "isinstance")(hm:X.mg "isinstance"=none)(hgt:Gl X x)(hmt:X.mg x=none)(hv:bootBuiltins x=some (.type T))(ha:PDN X a fa)(hn:x ≠ "__name__":=by decide)(hd:(x == ("__debug__":Str))=false:=by decide)
  (hs:starEach [a,.Name x p1] X.env=[(false,eval a X.env),(false,eval (.Name x p1) X.env)]:=by rfl) (hs2:starEach [.Name x p1] X.env=[(false,eval (.Name x p1) X.env)]:=by rfl) (hpl:(backTo pos (starEach [.Name x p1] X.env)).any (·.1)=false:=by rfl) :
  PDE X (.Call (.Name "isinstance" p) [a,.Name x p1] [] pos) (d1 (iW T) fa):=
 (c7 sh hg hm gt (ar ha (ar (vb (v:=.ty T) hgt hmt hv rfl hn hd) aQ hs2) (by rw[hs,hs2])) (by decide) (by decide) (by rw[hs,hs2]) hpl).imp fun σ H Q=>un7 fun P F ρ d hf I k=>by
  unfold d1 iW at hf
  cases q:fa ρ with
  | none=>rw[q] at hf;cases hf
  | some dx=>
   rw[q,Ya] at hf
   cases q2:isT T dx with
   | none=>rw[q2] at hf;cases hf
   | some b=>
    rw[q2] at hf
    cases hf
    exact⟨P,F,ρ,dx,q,I,fun y F1 H1 e1 r1=>⟨y,T,dx,b,rfl,r1,q2,k _ F1 H1 e1 .bl⟩⟩
end
section
variable {X:Cx} {pz:Kp} {σ:St} {H:Hp} {s:Shared}
open Classical in
open Classical in
end
section
variable {X:Cx} {e a b c o:Expr} {es:List Expr} {pos p apos cpos:Pos} {fe fa fb:Dd}
end
section
variable {X:Cx} {tg e a b c o l:Expr} {es:List Expr} {pos p apos cpos spos:Pos} {fe fa fb fc:Dd}
def sH:D→Option D
 | .int i=>some (.int (-i))
 | _=>none
theorem wP (h:PDE X a fa):PDE X (.UnaryOp .USub a pos) (d1 sH fa):=(ya wA h).imp fun σ H Q=>un7 fun P F ρ d hf I k=>by
 unfold d1 at hf
 cases q:fa ρ with
 | none=>rw[q] at hf;cases hf
 | some dx=>
  rw[q,Ya] at hf
  cases dx with
  | int i=>
   cases hf
   refine⟨P,F,ρ,_,q,I,fun v F1 H1 e1 r1=>?_⟩
   cases r1
   exact⟨i,rfl,k _ F1 H1 e1 .int⟩
  | _=>cases hf
theorem jR {x:Str}{i:Int}{t:Tok}(hg:Gl X x)(hm:X.mg x=some (.int i t))(hd:(x == ("__debug__":Str))=false:=by decide):PDE X (.Name x pos) (fun _=>some (.int i)):=nQ (vp hg hm (v:=.int i) ⟨t,rfl⟩ hd) fun _=>.int
def mC:D→D→Option D
 | .int i,.int j=>some (.int (if j > i then j else i))
 | _,_=>none
theorem xN {K:Kq}{r:List V→Hp→VK→Prop}{f:Dy}(ho:OpN2 K (fun x y=>r [x,y]) f):∀ σ H Q,tD K (d2 f fa fb) σ H Q→tCB r (gl (tN K fa) (gl (tN K fb) lw)) σ H Q:=fun σ H Q h=>mm ho σ H Q h
theorem xO {K:Kq}:OpN2 K (fun x y H Q=>∃ i j,[x,y]=[V.int i,.int j]∧Q (.int (if j > i then j else i)) H) mC:=by
 intro P F H x y dx dy d Q hf hp rx ry k
 unfold mC at hf
 split at hf
 ·cases hf;cases rx;cases ry;exact⟨_,_,rfl,k _ F H (Evo.refl hp) .int⟩
 ·cases hf
theorem tu (hc:X.calm=true)(hg:Gl X "max")(hm:X.mg "max"=none)(ha:PDN X a fa)(hb:PDN X b fb)(hs:starEach [a,b] X.env=[(false,eval a X.env),(false,eval b X.env)]:=by rfl)(hs2:starEach [b] X.env=[(false,eval b X.env)]:=by rfl)(hpl:(backTo pos (starEach [b] X.env)).any (·.1)=false:=by rfl) :
  PDE X (.Call (.Name "max" p) [a,b] [] pos) (d2 mC fa fb):=
 (c7 (pe hc) hg hm qr (ar ha (ar hb aQ hs2) (by rw[hs,hs2])) (by decide) (by decide) (by rw[hs,hs2]) hpl).imp (xN xO)
def oU:D→Bool
 | .bl _=>true
 | _=>false
def trD:D→Bool
 | .bl b=>b
 | _=>false
def wq:D→Option D
 | .lst ds=>if ds.all oU=true then some (.bl (ds.all trD)) else none
 | _=>none
def A2 (K:Kq):List V→Hp→VK→Prop:=fun xs H Q=>∃ l vs ds,xs=[.ref l]∧SqL K H l vs∧Reps K H vs ds∧ds.all oU=true∧Q (.bl (ds.all trD)) H
theorem pH {ds:List D}:(List.range ds.length).all (fun i=>trD (ds.getD i .non))=ds.all trD:=by
 rw[Bool.eq_iff_iff,Yz,Yz]
 constructor
 ·intro h d hd
  obtain⟨i,hi,e⟩:=List.getElem_of_mem hd
  have:=h i (ZD.mpr hi)
  rw[YG,Yu hi,e] at this
  exact this
 ·intro h i hi
  have hi:=ZD.mp hi
  rw[YG,Yu hi]
  exact h _ (List.getElem_mem hi)
theorem pX (hc:X.calm=true):CallR X (.builtin "all") (A2 X.K):=by
 intro pz s σ H xs us Q I r h
 obtain⟨l,vs,ds,rfl,hq,hr,hb,q⟩:=h
 obtain⟨u,rfl,ru⟩:=dC r
 cases ru
 obtain⟨its,rv,pl,hz⟩:=I.list hq
 have ho:=pl.isList
 have l1:=hr.length
 have l2:=rv.length
 refine call_all_walk (wpAny_pyIter_list ho ?_)
 have hlt:l<s.heap.objs.size:=by obtain⟨o,e,_⟩:=ho;exact Yp e
 refine⟨s.heap.objs.size,[s.heap.objs.size,l],[s.heap.objs.size],its.toArray.size,_,_,fun i=>trD (ds.getD i .non),rfl,Walks.list (by show X.A.in1.handled=none;exact I.ok.hd hc) s.heap.objs.size l (Yw hlt) its.toArray,⟨⟨_,Yo _ rfl,rfl,rfl⟩,ho.at fun o e=>Yd _ e⟩,fun i v s' Q' E' hv hq'=>?_,fun h' tk k=>?_⟩
 ·have hv:its[i]?=some v:=by simpa using hv
  have hi:i<its.length:=(Yn.mp hv).1
  have hid:i<ds.length:=by omega
  obtain⟨w',a1,a2⟩:=hr.get (Yu hid)
  obtain⟨u',a3,a4⟩:=rv.get a1
  rw[hv] at a3
  cases a3
  have hbd:=Yz.mp hb _ (List.getElem_mem hid)
  have eg:ds.getD i .non=ds[i]:=by rw[YG,Yu hid];rfl
  have hq':Q' (trD (ds.getD i .non)) s':=hq'
  rw[eg] at hq'
  generalize ds[i]=d at *
  cases d with
  | bl b=>cases a2;cases (show v=Value.bool _ from a4);exact Zg hq'
  | _=>cases hbd
 ·have e:its.toArray.size=ds.length:=by rw[Yl];omega
  rw[e,pH]
  refine⟨.bl _,H,I.kept (t':=tk) fun b o e=>k b o (fun z=>?_) (Yd _ e),rfl,q⟩
  have z:b=s.heap.objs.size:=by simpa using z
  rw[z] at e
  exact absurd (Yp e) (YQ _)
theorem xu (hc:X.calm=true)(hg:Gl X "all")(hm:X.mg "all"=none)(ha:PDN X e fa)(hs:starEach [e] X.env=[(false,eval e X.env)]:=by rfl)(hpl:(backTo pos (starEach [] X.env)).any (·.1)=false:=by rfl) :
  PDE X (.Call (.Name "all" p) [e] [] pos) (d1 wq fa):=
 (c7 (pX hc) hg hm sf (ar ha aQ hs) (by decide) (by decide) hs hpl).imp (mJ fun P F H x dx d Q hf hp rx k=>by
  cases dx with
  | lst ds=>
   have hf:(if ds.all oU=true then some (D.bl (ds.all trD)) else none)=some d:=hf
   split at hf
   ·rename_i hb
    cases hf
    cases rx with | lst h1 h2=>exact⟨_,_,ds,rfl,h1,h2,hb,k _ F H (Evo.refl hp) .bl⟩
   ·cases hf
  | _=>cases hf)
def Its (x:Str):It:=⟨fun i _=>i<x.cps.size,fun i H v H'=>H'=H∧v=.str ⟨#[x.cps.getD i 0]⟩,fun i _=>x.cps.size≤i⟩
theorem sU {P:Program}{w:World}{K:Kq}{tg:Expr}(it:Addr)(x:Str)(t:Tok)(ty:String)(hty:["enumerate", "zip", "dict_itemiterator", "dict_reverseitemiterator", "odict_iterator", "itertools.zip_longest", "itertools.pairwise"].contains ty=false)(W:∀ A:Around,A.handled=none→Walks P w A it [it] [it] x.cps.size (SignAt x) (fun i h=>h.IsStrIter it ty x t i))
  (hself:∀ (A:Around) (i:Nat) (s:Shared) (Q:Kv) (E:Kv),s.heap.IsStrIter it ty x t i→Q (.ref it) s→wpAny (model P w) A (pyIter (.ref it)) Q E s):Turn P w K tg (Its x) [it] it (fun i h=>h.IsStrIter it ty x t i∧i≤x.cps.size) where
 mem:=by simp
 obj:=fun i h st b hb=>by
  have e:b=it:=by simpa using hb
  subst e
  obtain⟨⟨o,e,c,d⟩,_⟩:=st
  exact⟨o,e,fun v z=>by rw[d] at z;cases z⟩
 keep:=fun i h h' st k=>by obtain⟨⟨o,e,r⟩,hl⟩:=st;exact⟨⟨o,k it (by simp) o e,r⟩,hl⟩
 item:=by
  intro X hP hw hK hc i pz s σ H E I hf st hg
  subst hP hw hK
  obtain⟨f0,f1,f2,f3,f4,f5⟩:=hf it (by simp)
  have hg:i<x.cps.size:=hg
  refine (W X.A (I.ok.hd hc)).item i s _ _ hg st.1 fun v h' tk hv st' kk=>?_
  obtain⟨c,u,hcs,rfl⟩:=hv
  have I1:Inv X pz σ H { s with heap:=h',toks:=tk }:=I.turned (fun b o hb e=>kk b o (by simpa using hb) e) f0 f1 f3 f4 f5
  obtain⟨o,ho,hoc,hod⟩:=id st'
  have ec:x.cps.getD i 0=c:=by simp[ZT,hcs]
  refine⟨_,rfl,oE (s:={ s with heap:=h',toks:=tk }) (n:=ty) ho hoc hod hty ⟨.str ⟨#[c]⟩,H,I1,⟨u,rfl⟩,⟨rfl,by rw[ec]⟩,⟨st',hg⟩,fun b hb=>(hf b hb).1⟩⟩
 done:=by
  intro X hP hw hK hc i pz s σ H E I hf st hg
  subst hP hw hK
  obtain⟨f0,f1,f2,f3,f4,f5⟩:=hf it (by simp)
  have hg:x.cps.size≤i:=hg
  have hi:i=x.cps.size:=Za st.2 hg
  subst hi
  exact (W X.A (I.ok.hd hc)).done s _ _ st.1 fun h' tk kk=>⟨rfl,I.turned (fun b o hb e=>kk b o (by simpa using hb) e) f0 f1 f3 f4 f5⟩
 self:=fun A i s Q E st h=>hself A i s Q E st.1 h
def Bg (tl:TE):TI:=fun σ H R=>tl σ H fun x H1=>∃ z,x=.str z∧R (Its z) H1
theorem wy {tl:TE}(hl:PE X l tl):PI X tg l (Bg tl):=by
 intro pz s σ H R I h
 refine aG (hl pz s σ H _ I h) fun v s1 x H1 I1 r1 hh_=>?_
 obtain⟨z,e,q⟩:=hh_
 subst e
 obtain⟨t,rfl⟩:=r1
 have fin:∀ (ob:Obj) (ty:String),["enumerate", "zip", "dict_itemiterator", "dict_reverseitemiterator", "odict_iterator", "itertools.zip_longest", "itertools.pairwise"].contains ty=false→(∀ A:Around,A.handled=none→Walks X.prog X.w A s1.heap.objs.size [s1.heap.objs.size] [s1.heap.objs.size] z.cps.size (SignAt z) (fun i h=>h.IsStrIter s1.heap.objs.size ty z t i))→
   (∀ (A:Around) (i:Nat) (s:Shared) (Q:Kv) (E:Kv),s.heap.IsStrIter s1.heap.objs.size ty z t i→Q (.ref s1.heap.objs.size) s→wpAny (model X.prog X.w) A (pyIter (.ref s1.heap.objs.size)) Q E s)→
   (s1.heap.push ob).IsStrIter s1.heap.objs.size ty z t 0→PIE X pz σ tg R (.ref s1.heap.objs.size) { s1 with heap:=s1.heap.push ob }:=fun ob ty h1 h2 h3 h4=>by
  refine⟨s1.heap.objs.size,[s1.heap.objs.size],_,_,H1,rfl,I1.kept (t':=s1.toks) fun b o e=>Yd _ e,sU _ z t ty h1 h2 h3,⟨h4,YI _⟩,fun b hb=>?_,q⟩
  have e:b=s1.heap.objs.size:=by simpa using hb
  subst e
  exact I1.fpOk (Yi _) (I1.hok.fresh (Yi _))
 cases ha:z.cps.all (· < 128)
 ·exact wpAny_pyIter_wide ha (fin _ "str_iterator" (by decide) (fun A' hA=>Walks.strWide hA _ z t) (fun A i s Q E st h=>wpAny_pyIter_striter_wide st h) ⟨_,Yo _ rfl,rfl,rfl⟩)
 ·exact wpAny_pyIter_ascii ha (fin _ "str_ascii_iterator" (by decide) (fun A' hA=>Walks.strAscii hA _ z t) (fun A i s Q E st h=>wpAny_pyIter_striter_ascii st h) ⟨_,Yo _ rfl,rfl,rfl⟩)
def signs (x:Str):List D:=x.cps.toList.map fun c=>.str ⟨#[c]⟩
def lW (f:Dd):DF→Option (List D):=fun ρ=>match f ρ with
 | some (.str x)=>some (signs x)
 | _=>none
theorem uF (h:PDE X l fa):PDI X tg l (lW fa):=PI.imp (wy h) fun σ H R=>un7 fun P F ρ ds hf I k=>by
 unfold lW at hf
 split at hf
 ·rename_i x q
  cases hf
  refine⟨P,F,ρ,_,q,I,fun v F1 H1 e1 r1=>?_⟩
  cases r1
  refine⟨x,rfl,k _ F1 H1 e1 fun F' H' e hp i=>⟨fun d hd=>?_,fun hl=>?_⟩⟩
  ·unfold signs at hd
   rw[YF] at hd
   cases qc:x.cps.toList[i]? with
   | none=>rw[qc] at hd;cases hd
   | some c=>
    rw[qc] at hd
    cases hd
    have hi:i<x.cps.size:=by have:=(Yn.mp qc).1;simpa using this
    refine⟨hi,fun y H2 hy=>?_⟩
    obtain⟨rfl,rfl⟩:=hy
    have ec:x.cps.getD i 0=c:=by
     have:x.cps[i]?=some c:=by rw[← Xm];exact qc
     simp[ZT,this]
    rw[ec]
    exact⟨F',Evo.refl hp,.str⟩
  ·unfold signs at hl
   rw[Ye,Zn] at hl
   exact hl
 ·cases hf
def sK:D→Bool
 | .str _=>true
 | _=>false
def txt:D→Str
 | .str x=>x
 | _=>⟨#[]⟩
def j3 (x:Str)(ds:List D):Bool:=ds.all sK&&decide (((ds.map txt).map (·.length)).sum+(ds.map txt).length*x.length≤16777216)
def sy:D→D→Option D
 | .str x,.lst ds=>if j3 x ds=true then some (.str (Txt.join x (ds.map txt))) else none
 | _,_=>none
def yw (K:Kq):V→List V→Hp→VK→Prop:=fun x vs H Q=>∃ z l xs ds,x=.str z∧vs=[.ref l]∧SqL K H l xs∧Reps K H xs ds∧j3 z ds=true∧Q (.str (Txt.join z (ds.map txt))) H
theorem sE {K:Kq}{H:Hp}{vs:List V}{ds:List D}{us:List Value}(h:Reps K H vs ds):Vals vs us→ds.all sK=true→StrsAre us (ds.map txt):=
 Reps.ind (M:=fun vs ds=>∀ us:List Value,Vals vs us→ds.all sK=true→StrsAre us (ds.map txt)) (fun us r _=>by cases r;exact .nil) (fun {v d vs ds} h _ ih us r0 ha=>by
  cases r0 with
  | cons r t=>
   rw[List.all_cons,Yq] at ha
   cases d with
   | str x=>
    cases h
    obtain⟨tk,rfl⟩:=(show ∃ t,_=Value.str _ t from r)
    exact .cons _ _ (ih _ t ha.2)
   | _=>cases ha.1) h us
theorem tP:MtR X "str.join" (yw X.K):=by
 intro pz s σ H x vs v us Q I rx rvv h
 obtain⟨z,l,xs,ds,rfl,rfl,hq,r,ok,q⟩:=h
 obtain⟨t,rfl⟩:=rx
 obtain⟨u,rfl,ru⟩:=rvv.one
 cases ru
 obtain⟨its,rv,pl,hz⟩:=I.list hq
 unfold j3 at ok
 rw[Yq,YC] at ok
 exact join_list pl.isList (sE r (by simpa using rv) ok.1) ok.2 fun t' k=>⟨.str _,H,I.tok _,⟨_,rfl⟩,q⟩
theorem tT (ho:PDN X o fa)(ha:PDN X e fb)(hbase:attributeBase o "join" X.env (eval o X.env)=eval o X.env:=by rfl)
  (hfew:((backTo cpos (starEach [e] X.env)).all (fun x=>!x.1)&&(backToKw cpos (keywordEach [] X.env)).all (fun x=>x.1.isSome)
   && decide (([e]:List Expr).length+([]:List Keyword).length+(if ([]:List Keyword).isEmpty then 0 else 1)<30))=true:=by rfl)
  (hline:(apos.endLine == cpos.line)=true:=by rfl) (hs:starEach [e] X.env=[(false,eval e X.env)]:=by rfl) :
  PDE X (.Call (.Attribute o "join" apos) [e] [] cpos) (d2 sy fa fb):=
 (eO PySem.F.plainAttrs_str PySem.F.slot_str_join PySem.F.type_str_join tP ho (ar ha aQ hs) hbase hfew hline hs rfl).imp fun σ H Q=>un7 fun P F ρ d hf I k=>by
  unfold d2 at hf
  cases ha:fa ρ with
  | none=>rw[ha] at hf;cases hf
  | some dx=>
   cases hb:fb ρ with
   | none=>rw[ha,Ya,hb] at hf;cases hf
   | some dy=>
    rw[ha,Ya,hb,Ya] at hf
    cases dx with
    | str x=>
     cases dy with
     | lst ds=>
      have hf:(if j3 x ds=true then some (D.str (Txt.join x (ds.map txt))) else none)=some d:=hf
      split at hf
      ·rename_i ok
       cases hf
       refine⟨P,F,ρ,_,ha,I,fun v F1 H1 e1 rx=>?_⟩
       cases rx
       refine⟨rfl,P,F1,ρ,_,hb,I.evo e1,fun y F2 H2 e2 ry=>?_⟩
       cases ry with
       | lst h1 h2=>exact⟨x,_,_,ds,rfl,rfl,h1,h2,ok,k _ F2 H2 (e1.trans e2) .str⟩
      ·cases hf
     | _=>cases hf
    | _=>cases hf
end
section
variable {X:Cx} {tg e a b c o l r:Expr} {es:List Expr} {pos p p' apos cpos spos apos' cpos':Pos} {f fe fa fb fc:Dd}
theorem o6:CallR X (.type "range") (fun xs H Q=>∃ j:Int,xs=[.int j]∧∀ q,H q=none→Q (.ref q) (upd H q (.rng 0 j))):=by
 intro pz s σ H xs us Q I r h
 obtain⟨j,rfl,q⟩:=h
 obtain⟨u,rfl,t,rfl⟩:=dC r
 exact call_range_1 ⟨.ref s.heap.objs.size,_,I.laid (o:=.rng 0 j) (fun b ob z=>Yd _ z) (Yi _) ⟨_,_,_,Yo _ rfl⟩,rfl,q _ (I.hok.fresh (Yi _))⟩
def sV (lo:Int)(n:Nat):List V:=(List.range n).map fun i:Nat=>.int (lo+(i:Int))
theorem iT (hc:X.calm=true):CallR X (.type "list") (fun xs H Q=>∃ (q:Addr) (lo hi:Int),xs=[.ref q]∧H q=some (.rng lo hi)∧(-(2 ^ 62)≤lo∧lo<2 ^ 62∧-(2 ^ 62)≤hi∧hi<2 ^ 62)∧(hi-lo).toNat≤16777216∧∀ l,H l=none→Q (.ref l) (upd H l (.lst (sV lo (hi-lo).toNat)))):=by
 intro pz s σ H xs us Q I r h
 obtain⟨q,lo,hi,rfl,hq,⟨h1,h2,h3,h4⟩,hn,k⟩:=h
 obtain⟨u,rfl,ru⟩:=dC r
 cases ru
 obtain⟨t,u,v,ho⟩:=I.hok q _ hq
 have hsz:Builtin.Range.rangeSize lo hi 1=((hi-lo).toNat:Int):=by rw[rangeSize_one];split <;> omega
 refine call_list_range (I.ok.hd hc) (n:=(hi-lo).toNat) ho (small_one h1 h2 h3 h4) hsz (by omega) fun h' tk acc' c' kp hget hit=>?_
 refine⟨.ref s.heap.objs.size,_,I.laid (t':=tk) (o:=.lst (sV lo (hi-lo).toNat)) kp (Yi _) ⟨?_,acc'.toList,c',?_,?_⟩,rfl,k _ (I.hok.fresh (Yi _))⟩
 ·unfold sV;rw[Ye,ZI,YH];exact hn
 ·obtain⟨hs,hv⟩:=hit
  have key:∀ (n:Nat) (lo:Int) (vs:List Value),vs.length=n→(∀ (j:Nat) v,vs[j]?=some v→∃ t,v=Value.int (lo+(j:Int)) t)→Vals ((List.range n).map fun i:Nat=>V.int (lo+(i:Int))) vs:=by
   intro n
   induction n with
   | zero=>intro lo vs hl _;rw[Xg.mp hl];exact .nil
   | succ n ih=>
    intro lo vs hl hv
    cases vs with
    | nil=>simp at hl
    | cons v vs=>
     rw[List.range_succ_eq_map,Yv,ZK]
     refine .cons ?_ ?_
     ·obtain⟨t,e⟩:=hv 0 v rfl
      exact⟨t,e⟩
     ·have:=ih (lo+1) vs (by simpa using hl) fun j w hw=>by
       obtain⟨t,e⟩:=hv (j+1) w (by simpa using hw)
       exact⟨t,by rw[e];congr 1;push_cast;omega⟩
      have ef:((fun i:Nat=>V.int (lo+(i:Int))) ∘ Nat.succ)=fun i:Nat=>V.int (lo+1+(i:Int)):=by
       funext i
       show V.int (lo+((i+1:Nat):Int))=_
       congr 1;push_cast;omega
      rw[ef]
      exact this
  refine key _ lo _ (by simpa using hs) fun j v hj=>?_
  obtain⟨t,e⟩:=hv j v (by rw[← Xm];exact hj)
  exact⟨t,by rw[e];congr 1;omega⟩
 ·simpa using hget
theorem o0 {K:Kq}{F:Hp}(lo:Int)(n:Nat):Reps K F (sV lo n) (bN lo n):=by
 unfold sV bN
 generalize List.range n=l
 induction l with
 | nil=>exact .nil
 | cons i l ih=>exact .cons .int ih
def e_ (f:Dd):DF→Option (List D):=fun ρ=>match f ρ with
 | some (.int j)=>if j<16777216∧-(2 ^ 62)≤j then some (bN 0 j.toNat) else none
 | _=>none
theorem eD (hc:X.calm=true)(hg:Gl X "list")(hm:X.mg "list"=none)(hg2:Gl X "range")(hm2:X.mg "range"=none)(ha:PDE X a fa)(hs0:starEach [a] X.env=[(false,eval a X.env)]:=by rfl)
  (hs:starEach [.Call (.Name "range" p') [a] [] cpos] X.env=[(false,eval (.Call (.Name "range" p') [a] [] cpos) X.env)]:=by rfl):PDO X (.Call (.Name "list" p) [.Call (.Name "range" p') [a] [] cpos] [] pos) (asL (e_ fa)):=
 (cB (iT hc) hg hm boot_list (ar (cB o6 hg2 hm2 boot_range (ar ha aQ hs0) (he:=hs0)) aQ hs) (he:=hs)).imp fun σ H Q=>un7 fun P F ρ ob hf I k=>by
  unfold asL e_ at hf
  cases q:fa ρ with
  | none=>rw[q] at hf;cases hf
  | some dx=>
   rw[q] at hf
   cases dx with
   | int j=>
    dsimp only at hf
    split at hf
    ·rename_i hj
     cases hf
     refine⟨P,F,ρ,_,q,I,fun v F1 H1 e1 r1=>?_⟩
     cases r1
     refine⟨j,rfl,fun q1 hq1=>⟨q1,0,j,rfl,aq,⟨by omega,by omega,hj.2,by omega⟩,by omega,fun l hl=>?_⟩⟩
     have e2:=e1.trans (Evo.side e1.hp (o:=.rng 0 j) hq1)
     have ej:(j-0).toNat=j.toNat:=by omega
     rw[ej]
     exact k l F1 _ (e2.trans (Evo.side e2.hp hl)) ⟨⟨e2.back I.toDHp hl,(e2.hp.free hl).1⟩,_,aq,o0 0 _⟩
    ·cases hf
   | _=>cases hf
def uB (i:Nat)(g:Dl):DF→Option RES:=fun ρ=>match ρ[i]? with
 | some (some (.own (.lst ds) t))=>(g ρ).bind fun es=>if ds.length+es.length≤16777216 then some (.nx (ρ.set i (some (.own (.lst (ds++es)) t)))) else none
 | _=>none
theorem pR (i:Nat){g:Dl}(h:PE X o (cA i))(ha:PDO X e (asL g))(hbase:attributeBase o "extend" X.env (eval o X.env)=eval o X.env:=by rfl)
  (hfew:((backTo cpos (starEach [e] X.env)).all (fun x=>!x.1)&&(backToKw cpos (keywordEach [] X.env)).all (fun x=>x.1.isSome)
   && decide (([e]:List Expr).length+([]:List Keyword).length+(if ([]:List Keyword).isEmpty then 0 else 1)<30))=true:=by rfl)
  (hline:(apos.endLine == cpos.line)=true:=by rfl) (hs:starEach [e] X.env=[(false,eval e X.env)]:=by rfl) (hsw:swapsWith (.Call (.Attribute o "extend" apos) [e] [] cpos) none pos.line X.env=pure false:=by rfl) :
  PD1 X (.Expr (.Call (.Attribute o "extend" apos) [e] [] cpos) pos) (uB i g):=
 PS.imp (cz (eO YZ PySem.F.slot_list_extend PySem.F.type_list_extend pS h (ar ha aQ hs) hbase hfew hline hs rfl) hsw) fun E σ H=>un7 fun P F ρ r hr I k=>by
  unfold uB at hr
  split at hr
  ·rename_i ds t q
   cases q2:g ρ with
   | none=>rw[q2] at hr;cases hr
   | some es'=>
    rw[q2,Ya] at hr
    split at hr
    ·rename_i hl
     cases hr
     obtain⟨a,vs,h1,h2,h3,h4,h5⟩:=fX I q
     refine⟨_,h1,.inl ⟨rfl,vs,SqL.of h4⟩,P,F,ρ,.lst es',by unfold asL;rw[q2];rfl,I,fun b F1 H1 e1 ho=>?_⟩
     obtain⟨⟨n1,n2⟩,u,u1,u2⟩:=ho
     cases u with
     | lst ws=>
      have u2:Reps X.K F1 ws es':=u2
      obtain⟨k1,k2⟩:=e1.keep a _ h4 h2
      have I1:=I.evo e1
      refine⟨a,b,vs,ws,rfl,rfl,k1,u1,by rw[YH,h5.length,u2.length];exact hl,k σ F1 _ e1.ext ?_⟩
      exact I1.mut (o':=.lst _) (u:=.lst _) q rfl rfl h1 ((h5.same e1.ext).append u2)
     | _=>exact u2.elim
    ·cases hr
  ·cases hr
def lF (n:Nat):D→Option Nat
 | .int k=>if -(2 ^ 63)≤k∧k<2 ^ 63 then seqIndex? k n else none
 | _=>none
def mP (j:Nat)(f:Dd):DF→Option (DF×D):=fun ρ=>match ρ[j]? with
 | some (some (.own (.lst ds) t))=>(f ρ).bind fun dk=>(lF ds.length dk).bind fun k=>(ds[k]?).map fun d=>(ρ.set j (some (.own (.lst (ds.eraseIdx k)) t)),d)
 | _=>none
theorem u9 {K:Kq}{j:Nat}{f:Dd}{σ:St}{H:Hp}{Q:VK}{P F:Hp}{ρ ρ':DF}{d:D}(hp:mP j f ρ=some (ρ',d))(I:DInv K P F H ρ σ)(k:∀ v F' H',Same F F'→DInv K P F' H' ρ' σ→Rep K F' v d→Q v H') :
  tBM K "list" rD (cA j) (gl (tD K f) lw) σ H Q:=by
 unfold mP at hp
 split at hp
 ·rename_i ds t q
  cases q2:f ρ with
  | none=>rw[q2] at hp;cases hp
  | some dk=>
   rw[q2,Ya] at hp
   cases q3:lF ds.length dk with
   | none=>rw[q3] at hp;cases hp
   | some kk=>
    rw[q3,Ya] at hp
    cases q4:ds[kk]? with
    | none=>rw[q4] at hp;cases hp
    | some d'=>
     rw[q4] at hp
     cases hp
     cases dk with
     | int i=>
      have q3':(if -(2 ^ 63)≤i∧i<2 ^ 63 then seqIndex? i ds.length else none)=some kk:=q3
      split at q3'
      ·rename_i hb
       obtain⟨a,vs,h1,h2,h3,h4,h5⟩:=fX I q
       refine⟨_,h1,.inl ⟨rfl,vs,SqL.of h4⟩,P,F,ρ,_,q2,I,fun v F1 H1 e1 r1=>?_⟩
       cases r1
       obtain⟨k1,k2⟩:=e1.keep a _ h4 h2
       have r5:=h5.same e1.ext
       obtain⟨y,y1,y2⟩:=r5.get q4
       refine⟨a,vs,i,kk,y,rfl,rfl,k1,hb.1,hb.2,by rw[h5.length];exact q3',y1,?_⟩
       exact k y F1 _ e1.ext ((I.evo e1).mut (o':=.lst _) (u:=.lst _) q rfl rfl h1 (r5.eraseIdx kk)) y2
      ·cases q3'
     | _=>cases q3
 ·cases hp
def dZ (i j:Nat)(f:Dd):DF→Option RES:=fun ρ=>(mP j f ρ).bind fun r=>match r.1[i]? with
 | some (some (.own (.lst ds) t))=>if i≠j∧ds.length<16777216 then some (.nx (r.1.set i (some (.own (.lst (ds++[r.2])) t)))) else none
 | _=>none
theorem oM (i j:Nat)(ho:PE X o (cA i))(hr:PE X r (cA j))(ha:PDE X e f)(hbase:attributeBase o "append" X.env (eval o X.env)=eval o X.env:=by rfl)(hbase':attributeBase r "pop" X.env (eval r X.env)=eval r X.env:=by rfl)
  (hfew':((backTo cpos' (starEach [e] X.env)).all (fun x=>!x.1)&&(backToKw cpos' (keywordEach [] X.env)).all (fun x=>x.1.isSome)
   && decide (([e]:List Expr).length+([]:List Keyword).length+(if ([]:List Keyword).isEmpty then 0 else 1)<30))=true:=by rfl)
  (hfew:((backTo cpos (starEach [.Call (.Attribute r "pop" apos') [e] [] cpos'] X.env)).all (fun x=>!x.1)&&(backToKw cpos (keywordEach [] X.env)).all (fun x=>x.1.isSome)
   && decide (([.Call (.Attribute r "pop" apos') [e] [] cpos']:List Expr).length+([]:List Keyword).length+(if ([]:List Keyword).isEmpty then 0 else 1)<30))=true:=by rfl)
  (hline:(apos.endLine == cpos.line)=true:=by rfl) (hline':(apos'.endLine == cpos'.line)=true:=by rfl) (hs':starEach [e] X.env=[(false,eval e X.env)]:=by rfl)
  (hs:starEach [.Call (.Attribute r "pop" apos') [e] [] cpos'] X.env=[(false,eval (.Call (.Attribute r "pop" apos') [e] [] cpos') X.env)]:=by rfl) (hsw:swapsWith (.Call (.Attribute o "append" apos) [.Call (.Attribute r "pop" apos') [e] [] cpos'] [] cpos) none pos.line X.env=pure false:=by rfl) :
  PD1 X (.Expr (.Call (.Attribute o "append" apos) [.Call (.Attribute r "pop" apos') [e] [] cpos'] [] cpos) pos) (dZ i j f):=
 PS.imp (cz (eO YZ Zr Zs cC ho (ar (eO YZ PySem.F.slot_list_pop PySem.F.type_list_pop qw hr (ar ha aQ hs') hbase' hfew' hline' hs' rfl) aQ hs) hbase hfew hline hs rfl) hsw) fun E σ H=>un7 fun P F ρ res hres I k=>by
  unfold dZ at hres
  cases q:mP j f ρ with
  | none=>rw[q] at hres;cases hres
  | some pr=>
   rw[q,Ya] at hres
   split at hres
   ·rename_i ds t qi
    split at hres
    ·rename_i hc
     cases hres
     -- the i-th slot is not touched by the pop
     have qi0:ρ[i]?=some (some (.own (.lst ds) t)):=by
      have q':=q
      unfold mP at q'
      split at q'
      ·rename_i ds' t' qj
       cases z1:f ρ with
       | none=>rw[z1] at q';cases q'
       | some dk=>
        rw[z1,Ya] at q'
        cases z2:lF ds'.length dk with
        | none=>rw[z2] at q';cases q'
        | some kk=>
         rw[z2,Ya] at q'
         cases z3:ds'[kk]? with
         | none=>rw[z3] at q';cases q'
         | some d'=>
          rw[z3] at q'
          cases q'
          rw[YR (fun z=>hc.1 z.symm)] at qi
          exact qi
      ·cases q'
     obtain⟨a,vs,h1,h2,h3,h4,h5⟩:=fX I qi0
     refine⟨_,h1,.inl ⟨rfl,vs,SqL.of h4⟩,?_⟩
     refine u9 q I fun v F' H' e I' rv=>?_
     obtain⟨a',vs',g1,g2,g3,g4,g5⟩:=fX I' qi
     rw[h1] at g1
     cases g1
     refine⟨a,vs',v,rfl,rfl,g4,by rw[YH,g5.length];exact hc.2,k σ F' _ e ?_⟩
     exact I'.mut (o':=.lst _) (u:=.lst _) qi rfl rfl h1 (g5.append (.one rv))
    ·cases hres
   ·cases hres
end
theorem pP {k k':Key}{v:V}{vs:List (Key×V)}:bZ ((k',v)::vs) k=if k'=k then some v else bZ vs k:=by
 unfold bZ
 by_cases q:k'=k <;> simp[Zp,q]
theorem RepsK.val {K:Kq}{H:Hp}{k:Key}{vs:List (Key×V)}{ds:List (Key×D)}(h:RepsK K H vs ds):(bZ vs k=none∧bC ds k=none)∨∃ v d,bZ vs k=some v∧bC ds k=some d∧Rep K H v d:=
 RepsK.ind (M:=fun vs ds=>(bZ vs k=none∧bC ds k=none)∨∃ v d,bZ vs k=some v∧bC ds k=some d∧Rep K H v d) (.inl ⟨rfl,rfl⟩) (fun {k' v d vs ds} h _ ih=>by
  rw[pP,a8]
  by_cases q:k'=k
  ·rw[Yf q,Yf q]
   exact .inr ⟨v,d,rfl,rfl,h⟩
  ·rw[Yh q,Yh q]
   exact ih) h
theorem RepsK.any {K:Kq}{H:Hp}{k:Key}{vs:List (Key×V)}{ds:List (Key×D)}(h:RepsK K H vs ds):(vs.any fun kv=>decide (kv.1=k))=ds.any fun kv=>decide (kv.1=k):=
 RepsK.ind (M:=fun vs ds=>(vs.any fun kv=>decide (kv.1=k))=ds.any fun kv=>decide (kv.1=k)) rfl (fun _ _ ih=>by rw[ZM,ZM,ih]) h
theorem RepsK.map {K:Kq}{H:Hp}{k:Key}{v:V}{d:D}(rv:Rep K H v d){vs:List (Key×V)}{ds:List (Key×D)}(h:RepsK K H vs ds):RepsK K H (vs.map fun kv=>if kv.1=k then (kv.1,v) else kv) (ds.map fun kv=>if kv.1=k then (kv.1,d) else kv):=
 RepsK.ind (M:=fun vs ds=>RepsK K H (vs.map fun kv=>if kv.1=k then (kv.1,v) else kv) (ds.map fun kv=>if kv.1=k then (kv.1,d) else kv)) .nil (fun {k' v' d' vs ds} h _ ih=>by
  rw[Yv,Yv]
  by_cases q:k'=k
  ·rw[Yf (show (k',v').1=k from q),Yf (show (k',d').1=k from q)];exact .cons rv ih
  ·rw[Yh (show ¬ (k',v').1=k from q),Yh (show ¬ (k',d').1=k from q)];exact .cons h ih) h
theorem RepsK.snoc {K:Kq}{H:Hp}{k:Key}{v:V}{d:D}(rv:Rep K H v d){vs:List (Key×V)}{ds:List (Key×D)}(h:RepsK K H vs ds):RepsK K H (vs++[(k,v)]) (ds++[(k,d)]):=
 RepsK.ind (M:=fun vs ds=>RepsK K H (vs++[(k,v)]) (ds++[(k,d)])) (.cons rv .nil) (fun h _ ih=>.cons h ih) h
theorem RepsK.put {K:Kq}{H:Hp}{k:Key}{v:V}{d:D}{vs:List (Key×V)}{ds:List (Key×D)}(rv:Rep K H v d)(r:RepsK K H vs ds):RepsK K H (da vs k v) (cM ds k d):=by
 unfold da cM
 rw[r.any (k:=k)]
 split
 ·exact r.map rv
 ·exact r.snoc rv
theorem RepsK.length {K:Kq}{H:Hp}{vs:List (Key×V)}{ds:List (Key×D)}(h:RepsK K H vs ds):vs.length=ds.length:=RepsK.ind (M:=fun vs ds=>vs.length=ds.length) rfl (fun _ _ ih=>ZA Nat.succ ih) h
theorem uv {K:Kq}{F:Hp}{y:V}{dy:D}{k:Key}(r:Rep K F y dy)(h:eL dy=some k):y=kV k:=by
 cases dy with
 | int i=>cases h;cases r;rfl
 | str i=>cases h;cases r;rfl
 | _=>cases h
theorem wI {K:Kq}{P F H:Hp}{ρ:DF}{σ:St}{x:V}{ds:List (Key×D)}(I:DInv K P F H ρ σ)(r:RepS K H F x (.dK ds)):∃ a vs,x=.ref a∧H a=some (.dK vs)∧RepsK K F vs ds:=by
 rcases r with r | ⟨a,o,u,rfl,_,h3,h4,hfl,z⟩
 ·cases r with | dK h q=>exact⟨_,_,rfl,I.sub _ _ h,q⟩
 ·cases o with
  | dK ds'=>
   cases z
   cases u with
   | dK vs=>exact⟨a,vs,rfl,h3,h4⟩
   | _=>exact h4.elim
  | lst2 _=>cases hfl
  | tup2 _=>cases hfl
  | _=>cases z
section
variable {X:Cx} {tg a b c o i e f:Expr} {pos pos' apos cpos p:Pos} {fd fk fx fv fa fb fc:Dd}
def fM (j:Nat)(fk fv:Dd):DF→Option RES:=fun ρ=>match ρ[j]? with
 | some (some (.own (.dK kvs) t))=>(fv ρ).bind fun v=>(fk ρ).bind fun y=>(eL y).bind fun k=>if kvs.length<16777216 then some (.nx (ρ.set j (some (.own (.dK (cM kvs k v)) t)))) else none
 | _=>none
theorem sD (j:Nat)(hu:X.A.units+64<cLine)(ho:PE X o (cA j))(hi:PDE X i fk)(hv:PDE X e fv)(hs:swapsWith e (some (.Subscript o i pos')) pos.line X.env=pure false:=by rfl):PD1 X (.Assign [.Subscript o i pos'] e pos) (fM j fk fv):=
 PS.imp (nW (by omega) ho hi hv hs) fun E σ H=>un7 fun P F ρ r hr I k=>by
  unfold fM at hr
  split at hr
  ·rename_i kvs t q
   cases qv:fv ρ with
   | none=>rw[qv] at hr;cases hr
   | some dv=>
   rw[qv,Ya] at hr
   cases qb:fk ρ with
   | none=>rw[qb] at hr;cases hr
   | some dy=>
   rw[qb,Ya] at hr
   cases qk:eL dy with
   | none=>rw[qk] at hr;cases hr
   | some ks=>
   rw[qk,Ya] at hr
   split at hr
   ·rename_i hl
    cases hr
    obtain⟨v,h1,p,rfl,⟨⟨a1,a2,_⟩,u,a3,a4⟩,_⟩:=I.at q
    cases u with
    | dK vs=>
     have a4:RepsK X.K F vs kvs:=a4
     refine⟨P,F,ρ,_,qv,I,fun v F1 H1 e1 rv=>⟨_,h1,P,F1,ρ,_,qb,I.evo e1,fun y F2 H2 e2 ry=>?_⟩⟩
     have e12:=e1.trans e2
     obtain⟨k1,k2⟩:=e12.keep p _ a3 a1
     have ey:=uv ry qk
     subst ey
     refine⟨p,_,rfl,DPut.k k1 (by rw[YH,a4.length];exact hl),k σ F2 _ e12.ext ?_⟩
     exact (I.evo e12).mut (o':=.dK _) (u:=.dK _) q rfl rfl h1 ((RepsK.same e12.ext a4).put (rv.same e2.ext))
    | _=>exact a4.elim
   ·cases hr
  ·cases hr
def yb (lo c:Int)(n:Nat):It:=⟨fun i _=>i<n,fun i H x H'=>H'=H∧x=.int (lo+i*c),fun i _=>n≤i⟩
theorem kM {P:Program}{w:World}{K:Kq}{tg:Expr}(it:Addr)(lo c:Int)(n:Nat):Turn P w K tg (yb lo c n) [it] it (fun i h=>IsRangeIter h it (lo+(i:Nat)*c) ((n:Int)-(i:Nat)) c) where
 mem:=by simp
 obj:=fun i h st b hb=>by
  have e:b=it:=by simpa using hb
  subst e
  exact⟨_,st,fun v z=>nomatch (show Data.fields _=Data.cell v from z)⟩
 keep:=fun i h h' st k=>k it (by simp) _ st
 item:=by
  intro X hP hw hK hc i pz s σ H E I hf st hg
  subst hP hw hK
  obtain⟨f0,f1,f2,f3,f4,f5⟩:=hf it (by simp)
  refine (Walks.range (prog:=X.prog) (w:=X.w) (I.ok.hd hc) it lo c n).item i s _ _ hg st fun v h' tk hv st' kk=>?_
  obtain⟨t,rfl⟩:=hv
  have I1:Inv X pz σ H { s with heap:=h',toks:=tk }:=I.turned (fun b o hb e=>kk b o (by simpa using hb) e) f0 f1 f3 f4 f5
  exact⟨_,rfl,oE (s:={ s with heap:=h',toks:=tk }) (n := "range_iterator") st' rfl rfl (by decide) ⟨.int (lo+i*c),H,I1,⟨t,rfl⟩,⟨rfl,rfl⟩,st',fun b hb=>(hf b hb).1⟩⟩
 done:=by
  intro X hP hw hK hc i pz s σ H E I hf st hg
  subst hP hw hK
  obtain⟨f0,f1,f2,f3,f4,f5⟩:=hf it (by simp)
  exact wpAny_pyNext_range_end (I.ok.hd hc) st (by have:n≤i:=hg;omega) fun h' eb=>⟨rfl,I.turned (t':=s.toks) (fun b o hb e=>eb b o hb e) f0 f1 f3 f4 f5⟩
 self:=fun _ _ _ _ _ st h=>wpAny_pyIter_rangeiter st h
def yr (ta:TA):TI:=fun σ H R=>ta σ H fun vs H1=>∃ i j c:Int,vs=[.int i,.int j,.int c]∧0<c∧c<1073741824∧Builtin.Range.small i j c=true∧R (yb i c (Builtin.Range.rangeSize i j c).toNat) H1
theorem pj {ta:TA}(hg:Gl X "range")(hm:X.mg "range"=none)(ha:PA X [a,b,c] ta)(hs:starEach [a,b,c] X.env=[(false,eval a X.env),(false,eval b X.env),(false,eval c X.env)]:=by rfl)(hs2:starEach [b,c] X.env=[(false,eval b X.env),(false,eval c X.env)]:=by rfl)(hs3:(backTo pos (starEach [b,c] X.env)).any (·.1)=false:=by rfl) :
  PI X tg (.Call (.Name "range" p) [a,b,c] [] pos) (yr ta):=by
 intro pz s σ H R I h
 refine Call_ (fW I hg hm boot_range (Zy (aG (ha pos pz s σ H _ I h) fun us s1 vs H1 I1 r1 q1=>?_) (by rw[hs,hs2]) hs3))
 obtain⟨i,j,c',e,h1,h2,h3,q⟩:=q1
 subst e
 cases r1 with
 | cons ra rr=>
 cases rr with
 | cons rb rr=>
 cases rr with
 | cons rc rr=>
 cases rr
 obtain⟨t,rfl⟩:=ra
 obtain⟨t',rfl⟩:=rb
 obtain⟨t'',rfl⟩:=rc
 refine call_range_3 (by omega) ?_ (.inl (PyProof.noPylong_small (by omega)))
 have I2:Inv X pz σ H1 { s1 with heap:=s1.heap.push { cls:=.type "range",data:=.fields #[.int i t,.int j t',.int c' t''] },toks:=s1.toks }:=I1.kept fun b o e=>Yd _ e
 refine wpAny_pyIter_range (IsRange.new ..) h3 ?_
 refine⟨_,[_],_,_,H1,rfl,I2.kept (t':=s1.toks) fun b o e=>Yd _ e,kM _ i c' (Builtin.Range.rangeSize i j c').toNat,?_,fun b hb=>?_,q⟩
 ·have e1:i+((0:Nat):Int)*c'=i:=by simp
  have e2:(((Builtin.Range.rangeSize i j c').toNat:Nat):Int)-((0:Nat):Int)=Builtin.Range.rangeSize i j c':=by rw[← rangeSize_toNat];simp
  show IsRangeIter _ _ (i+((0:Nat):Int)*c') ((((Builtin.Range.rangeSize i j c').toNat:Nat):Int)-((0:Nat):Int)) c'
  rw[e1,e2]
  exact Yo _ rfl
 ·have e:b=(s1.heap.push { cls:=.type "range",data:=.fields #[.int i t,.int j t',.int c' t''] }).objs.size:=by simpa using hb
  subst e
  exact I2.fpOk (Yi _) (I2.hok.fresh (Yi _))
def d5 (lo c:Int)(n:Nat):List D:=(List.range n).map fun i:Nat=>.int (lo+(i:Int)*c)
def rM (fa fb fc:Dd):DF→Option (List D):=fun ρ=>match fa ρ,fb ρ,fc ρ with
 | some (.int i),some (.int j),some (.int c)=>if 0<c∧c<1073741824∧Builtin.Range.small i j c=true then some (d5 i c (Builtin.Range.rangeSize i j c).toNat) else none
 | _,_,_=>none
theorem nv (hg:Gl X "range")(hm:X.mg "range"=none)(ha:PDE X a fa)(hb:PDE X b fb)(hc:PDE X c fc)(hs:starEach [a,b,c] X.env=[(false,eval a X.env),(false,eval b X.env),(false,eval c X.env)]:=by rfl)(hs2:starEach [b,c] X.env=[(false,eval b X.env),(false,eval c X.env)]:=by rfl)(hs3:starEach [c] X.env=[(false,eval c X.env)]:=by rfl)(hs4:(backTo pos (starEach [b,c] X.env)).any (·.1)=false:=by rfl) :
  PDI X tg (.Call (.Name "range" p) [a,b,c] [] pos) (rM fa fb fc):=
 PI.imp (pj hg hm (ar ha (ar hb (ar hc aQ hs3) (by rw[hs2,hs3])) (by rw[hs,hs2])) hs hs2 hs4) fun σ H R=>un7 fun P F ρ ds hf I k=>by
  unfold rM at hf
  split at hf
  ·rename_i i j c' q1 q2 q3
   split at hf
   ·rename_i hj
    cases hf
    refine⟨P,F,ρ,_,q1,I,fun v F1 H1 e1 r1=>⟨P,F1,ρ,_,q2,I.evo e1,fun v2 F2 H2 e2 r2=>⟨P,F2,ρ,_,q3,(I.evo e1).evo e2,fun v3 F3 H3 e3 r3=>?_⟩⟩⟩
    cases r1
    cases r2
    cases r3
    refine⟨i,j,c',rfl,hj.1,hj.2.1,hj.2.2,k _ F3 H3 ((e1.trans e2).trans e3) fun F' H' e hp n=>⟨fun d hd=>?_,fun hl=>?_⟩⟩
    ·unfold d5 at hd
     rw[YF] at hd
     by_cases hn:n<(Builtin.Range.rangeSize i j c').toNat
     ·rw[XA hn,Ze] at hd
      cases hd
      refine⟨hn,fun x H2 hy=>?_⟩
      obtain⟨rfl,rfl⟩:=hy
      exact⟨F',Evo.refl hp,.int⟩
     ·rw[ZS (by rw[ZI];omega)] at hd
      cases hd
    ·unfold d5 at hl
     rw[Ye,ZI] at hl
     exact hl
   ·cases hf
  ·cases hf
end
theorem Room.h64 {k:Nat}{A:Around}(r:Room k A):A.units+64<cLine:=by have:=r.un;omega
def yu (sc0 scope:Scope):Bool:=scope.kind == .function&&(scope.names.map (·.1)).Nodup&&(scope.names.all fun x=>x.2 != .free||(sc0.names.lookup x.1 == some .cell||sc0.names.lookup x.1 == some .free))
theorem dH {X:Cx}{scope:Scope}(sc0:Scope)(e:X.env.scope=sc0)(h:yu sc0 scope=true):BlkScope X scope:=by
 unfold yu at h
 simp only[Yq,YC] at h
 obtain⟨⟨h1,h2⟩,h3⟩:=h
 refine⟨by simpa using h1,h2,fun x hx hk=>?_⟩
 have:=Yz.mp h3 x hx
 rw[hk] at this
 have e2:X.env.kindOf x.1=sc0.names.lookup x.1:=by show X.env.scope.names.lookup x.1=_;rw[e]
 rw[e2]
 simpa using this
def yY (N0:List Str)(scope:Scope)(N:List Str)(own:Nat)(ix:List Nat):Bool:=
 decide (N.length=own+ix.length)&&(List.range ix.length).all fun i=>match N[own+i]?,ix[i]? with
  | some x,some j=>N0[j]? == some x&&scope.names.lookup x == some .free
  | _,_=>true
theorem dN {X:Cx}{scope:Scope}{N:List Str}{own:Nat}{ix:List Nat}(N0:List Str)(e:X.N=N0)(h:yY N0 scope N own ix=true):Caps X scope N own ix:=by
 unfold yY at h
 rw[Yq,YC] at h
 refine⟨h.1,fun i j x h1 h2=>?_⟩
 have hi:i<ix.length:=(Yn.mp h2).1
 have:=Yz.mp h.2 i (ZD.mpr hi)
 rw[h1,h2] at this
 simp only[Yq,XF] at this
 rw[e]
 exact this
section
variable {X:Cx}
theorem eC:ko X [] (tB' X.K cJ):=fun pz s σ H Q I hh_=>by
 obtain⟨P,F,ρ,b,hf,J,k⟩:=hh_
 cases hf
 exact rB pz s σ H Q I (k F H (Evo.refl J.toDHp))
theorem yn {c:Expr}{f:Dk}(h:PDT X c f):ko X [c] (tB' X.K f):=qI h
end
theorem cE {is:List Nat}{own:Nat}(h:(is.all fun j=>decide (j<own))=true):∀ j∈is,j<own:=fun j m=>Zw (Yz.mp h j m)
section
variable {X:Cx} {tg iter elt:Expr} {ifs:List Expr} {scope:Scope} {pos:Pos} {N:List Str} {own:Nat} {ix is:List Nat} {f:Dl} {st:Dq} {c:Dk} {e:Dd}
theorem lV {i:Nat}{y:Str}{py spos:Pos}(hN:X.N.Nodup)(hiN:X.N[i]?=some y)(hx:Loc X.env.scope y)(hcalm:X.calm=true)(b:BlkScope X scope)(cp:Caps X scope N own ix)(his:∀ j∈is,j<own)(hi:PDI X tg iter f)
  (hg:∀ s H fp pz,PDG (blk X scope N s H fp pz) tg is st) (hc:∀ s H fp pz,ko (blk X scope N s H fp pz) ifs (tB' X.K c)) (he:∀ s H fp pz,PDE (blk X scope N s H fp pz) elt e)
  (hnames:∀ y∈scope.names,y.2=.local→scope.names.lookup y.1=some .local)
  (hsw:swapsWith (.ListComp elt [⟨tg,iter,ifs,0⟩] scope pos) (some (.Name y py)) spos.line X.env=pure true:=by rfl)
  (hs:∀ x,foldedSetIterable iter X.env x=pure x:=by intro _;rfl)
  (hf:X.fn y=true∨X.env.scope.names.lookup y=some .local:=by first | exact .inl rfl | exact .inr rfl | assumption) :
  PD1 X (.Assign [.Name y py] (.ListComp elt [⟨tg,iter,ifs,0⟩] scope pos) spos) (bf i (asL (bh own ix f st c e))):=
 PS.imp (nn (g:=tG X.K is st) (tc:=tB' X.K c) (te:=tD X.K e) hcalm hN hiN hx b cp hi hg hc he hsw hnames hs hf) fun E σ H q=>om his σ H _ (rh E σ H q)
end
def zi (n p:Nat)(g:Dw)(o:OD)(xs:List DV)(q:OD×D):Prop:=xs.length+1=p∧q.1.flat=true∧∀ a,∃ r,g (aE n p (.own o (some a)::xs))=some r∧jo a q.1 q.2 r
noncomputable def pG (n p:Nat)(g:Dw)(o:OD)(xs:List DV):Option (OD×D):=
 open Classical in if h:∃ q,zi n p g o xs q then some h.choose else none
theorem oe {n p:Nat}{g:Dw}:∀ a o xs o' d,pG n p g o xs=some (o',d)→xs.length+1=p∧o'.flat=true∧∃ r,g (aE n p (.own o (some a)::xs))=some r∧jo a o' d r:=by
 intro a o xs o' d h
 unfold pG at h
 split at h
 ·rename_i hq
  obtain⟨h1,h2,h3⟩:=hq.choose_spec
  rw[Yt h] at h2 h3
  exact⟨h1,h2,h3 a⟩
 ·cases h
theorem oO {a:Addr}{o o':OD}{d d':D}{r:RES}(h:jo a o d r)(h':jo a o' d' r):(o,d)=(o',d'):=by
 cases r with
 | nx ρ=>obtain⟨h1,h2⟩:=h;obtain⟨h3,h4⟩:=h';rw[h1] at h3;cases h3;rw[h2,h4]
 | rt x ρ=>obtain⟨h1,h2⟩:=h;obtain⟨h3,h4⟩:=h';rw[h2] at h4;cases h4;rw[h1] at h3;cases h3;rfl
 | bk ρ=>cases h
 | ct ρ=>cases h
theorem n_ {n p:Nat}{g:Dw}{o:OD}{xs:List DV}{o':OD}{d:D}(hl:xs.length+1=p)(hf:o'.flat=true)(h:∀ a,∃ r,g (aE n p (.own o (some a)::xs))=some r∧jo a o' d r):pG n p g o xs=some (o',d):=by
 have hq:∃ q,zi n p g o xs q:=⟨(o',d),hl,hf,h⟩
 unfold pG
 rw[dif_pos hq]
 obtain⟨_,_,h3⟩:=hq.choose_spec
 obtain⟨r,e,q⟩:=h3 0
 obtain⟨r',e',q'⟩:=h 0
 rw[e'] at e
 cases e
 exact ZA some (oO q q')
theorem All2.get {α β:Type}{R:α→β→Prop}{as:List α}{bs:List β}(h:All2 R as bs){j:Nat}{d:β}(e:bs[j]?=some d):∃ a,as[j]?=some a∧R a d:=by
 induction h generalizing j with
 | nil=>exact nomatch e
 | cons q _ ih=>
  cases j with
  | zero=>obtain rfl:=Yt e;exact⟨_,rfl,q⟩
  | succ j=>exact ih e
theorem All2.impM {α β:Type}{R S:α→β→Prop}{as:List α}{bs:List β}(h:All2 R as bs)(f:∀ a b,a∈as→R a b→S a b):All2 S as bs:=by
 induction h with
 | nil=>exact .nil
 | cons q _ ih=>exact .cons (f _ _ Yc q) (ih fun a b m=>f a b (Yb _ m))
theorem All2.set {α β:Type}{R S:α→β→Prop}{as:List α}{bs:List β}(h:All2 R as bs){j:Nat}{a:α}{d:β}(nd:as.Nodup)(ea:as[j]?=some a)(hS:S a d)(hR:∀ b x,b≠a→R b x→S b x):All2 S as (bs.set j d):=by
 induction h generalizing j with
 | nil=>exact nomatch ea
 | @cons a' b' as' bs' q r ih=>
  obtain⟨n1,n2⟩:=Zo.mp nd
  cases j with
  | zero=>
   obtain rfl:=Yt ea
   exact .cons hS (r.impM fun b x hb=>hR b x fun z=>by subst z;exact n1 hb)
  | succ j=>
   have:a'≠a:=fun z=>by subst z;exact n1 (YL ea)
   exact .cons (hR _ _ this q) (ih n2 ea)
section
variable {X:Cx} {e:Expr} {pos:Pos}
end
section
variable {X:Cx} {e:Expr} {pos pos2 p p2:Pos}
end
end L2
namespace L2
open PySem PySem.Spec PySem.Calls PySem.W PyProof.Rows Builtin Builtin.ObjectAttr Builtin.Getset_descriptor
section
variable {K:Kq} {e C:Addr} {prog:Program} {w:World} {A:Around} {E:Kv} {s:Shared}
end
end L2
namespace L2
open PySem PySem.Spec PySem.Calls PySem.W PyProof.Rows
section
variable {P:Program} {w:World} {K:Kq} {mg:Ks} {base:Heap} {N:List Str} {qual:Str} {scope:Scope} {f C:Addr} {cd:Value} {A:Around} {outer:List Env} {s:Shared} {H:Hp} {E:XK}
end
section
variable {X:Cx} {a C:Addr} {ob:Obj} {pz:Kp} {σ:St} {H:Hp} {s:Shared}
end
section
variable {X:Cx} {a C:Addr} {ob:Obj} {pos p p1 p2 p3 p4:Pos}
end
section
variable {P:Program} {w:World} {K:Kq} {mg:Ks} {base:Heap} {N:List Str} {qual:Str} {scope:Scope} {f:Addr} {cl:Nat→Addr} {cd:Value} {A:Around} {outer:List Env} {s:Shared} {H:Hp} {E:XK}
end
section
variable {X:Cx} {cl:Nat→Addr} {E:XK} {st:Stmt} {bn sts:List Stmt} {pos:Pos}
end
end L2
namespace L2
open PySem PySem.Spec PyProof.Rows
section
variable {X:Cx} {e:Expr} {pos:Pos}
theorem DInv.nestL {K:Kq}{P F H:Hp}{ρ:DF}{σ:St}(I:DInv K P F H ρ σ){i j:Nat}{dss:List (List D)}{ds:List D}(q:(∃ t,ρ[i]?=some (some (.own (.lst2 dss) t)))∨ρ[i]?=some (some (.bor (.lst2 dss))))(hj:dss[j]?=some ds):∃ (a:Addr) (bs:List Addr) (b:Addr) (u:HO),σ[i]?=some (some (.ref a))∧H a=some (.lst (bs.map .ref))∧bs[j]?=some b∧F b=none∧H b=some u∧ORep1 K F (.lst ds) u:=by
 have hs:∃ v,σ[i]?=some (some v):=by
  rcases q with⟨t,q⟩ | q
  ·obtain⟨v,h1,_⟩:=I.at q;exact⟨v,h1⟩
  ·obtain⟨v,h1,_⟩:=I.at q;exact⟨v,h1⟩
 obtain⟨v,hv⟩:=hs
 obtain⟨a,rfl,h2,bs,h3,h4,h5⟩:=I.slot hv q
 obtain⟨b,h6,h7,u,h8,h9⟩:=h5.get hj
 exact⟨a,bs,b,u,hv,h3,h6,h7,h8,h9⟩
def fL (i j:Nat)(f:Dd):DF→Option RES:=fun ρ=>match ρ[i]? with
 | some (some (.own (.lst2 dss) t))=>match dss[j]? with
  | some ds=>(f ρ).bind fun d=>if ds.length<16777216 then some (.nx (ρ.set i (some (.own (.lst2 (dss.set j (ds++[d]))) t)))) else none
  | none=>none
 | _=>none
theorem DInv.mutNL {K:Kq}{P F H:Hp}{ρ:DF}{σ:St}(I:DInv K P F H ρ σ){i j:Nat}{dss:List (List D)}{ds ds':List D}{t:Option Addr}(h:ρ[i]?=some (some (.own (.lst2 dss) t)))(hj:dss[j]?=some ds):∃ (a:Addr) (bs:List Addr) (b:Addr) (vs:List V),σ[i]?=some (some (.ref a))∧H a=some (.lst (bs.map .ref))∧bs[j]?=some b∧F b=none∧H b=some (.lst vs)∧Reps K F vs ds ∧
  ∀ F1 H1,Evo P F H F1 H1→∀ vs',Reps K F1 vs' ds'→DInv K P F1 (upd H1 b (.lst vs')) (ρ.set i (some (.own (.lst2 (dss.set j ds')) t))) σ:=by
 obtain⟨a,bs,b,u,h1,h2,h3,h4,h5,h6⟩:=I.nestL (.inl ⟨t,h⟩) hj
 cases u with
 | lst vs=>
  refine⟨a,bs,b,vs,h1,h2,h3,h4,h5,h6,fun F1 H1 ev vs' hv=>?_⟩
  have I1:=I.evo ev
  obtain⟨O,hR⟩:=I1.rep
  obtain⟨v,g1,a',rfl,⟨g2,bs',g3,g4,g5⟩,ht⟩:=hR i _ h
  rw[h1] at g1
  cases g1
  rw[(ev.keep a _ h2 (by
   obtain⟨v,y1,y2,rfl,⟨⟨y3,_⟩,_⟩,_⟩:=I.at h
   rw[h1] at y1;cases y1;exact y3)).1] at g3
  have hb:bs'=bs:=by
   have z:bs.map V.ref=bs'.map V.ref:=HO.lst.inj (Yt g3)
   have inj:∀ x y:List Addr,x.map V.ref=y.map V.ref→x=y:=fun x y e=>by
    have:=ZA (List.map fun v:V=>match v with | .ref a=>a | _=>0) e
    rw[ZK,ZK] at this
    have e0:((fun v:V=>match v with | .ref a=>a | _=>0) ∘ V.ref)=id:=rfl
    rw[e0,XB,XB] at this
    exact this
   exact (inj _ _ z).symm
  subst hb
  obtain⟨n1,n2⟩:=Zo.mp g4
  obtain⟨b',y1,⟨y2,y3,y4⟩,_⟩:=g5.get hj
  rw[h3] at y1
  cases y1
  have hab:a≠b:=fun z=>by subst z;exact n1 (YL h3)
  refine⟨⟨fun c w e=>by rw[ap (aD e y2)];exact I1.sub c w e,fun c w e=>by rw[ap (aD e y3)];exact I1.pro c w e,I1.dis⟩,by rw[YK];exact I1.len,O,fun m z hm=>?_⟩
  rcases ck hm with⟨rfl,e,hl⟩ | ⟨him,hm'⟩
  ·cases e
   refine⟨_,h1,a,rfl,⟨g2,bs',by rw[ap hab];exact (ev.keep a _ h2 (by
    obtain⟨v,y1,y2,rfl,⟨⟨y3,_⟩,_⟩,_⟩:=I.at h
    rw[h1] at y1;cases y1;exact y3)).1,g4,?_⟩,ht⟩
   exact g5.set n2 h3 ⟨⟨y2,y3,y4⟩,.lst vs',aq,hv⟩ fun c x hc ⟨o1,o2,o3,o4⟩=>⟨o1,o2,by rw[ap hc];exact o3,o4⟩
  ·obtain⟨w,e1,e2⟩:=hR m z hm'
   refine⟨w,e1,?_⟩
   cases z with
   | v d'=>exact e2
   | own od t'=>(obtain⟨c,rfl,e3,ht'⟩:=e2;exact⟨c,rfl,e3.mono (Same.refl _) fun b w' q hb=>⟨by rw[ap (fun z=>by subst z;rw[q.2.2] at y4;exact him (Yt y4).symm)];exact hb,q⟩,ht'⟩)
   | bor od=>exact e2
 | _=>exact h6.elim
theorem ql (i j:Nat){o e:Expr}{k}{p ipos apos cpos:Pos}{f:Dd}(h:PE X o (cA i))(ha:PDE X e f)(hp:jP (.Constant (.int (j:Int)) k p):=by exact fun _ _=>rfl)(hbase:attributeBase (.Subscript o (.Constant (.int (j:Int)) k p) ipos) "append" X.env (eval (.Subscript o (.Constant (.int (j:Int)) k p) ipos) X.env)=eval (.Subscript o (.Constant (.int (j:Int)) k p) ipos) X.env:=by rfl)
  (hfew:((backTo cpos (starEach [e] X.env)).all (fun x=>!x.1)&&(backToKw cpos (keywordEach [] X.env)).all (fun x=>x.1.isSome)
   && decide (([e]:List Expr).length+([]:List Keyword).length+(if ([]:List Keyword).isEmpty then 0 else 1)<30))=true:=by rfl)
  (hline:(apos.endLine == cpos.line)=true:=by rfl) (hs:starEach [e] X.env=[(false,eval e X.env)]:=by rfl) (hsw:swapsWith (.Call (.Attribute (.Subscript o (.Constant (.int (j:Int)) k p) ipos) "append" apos) [e] [] cpos) none pos.line X.env=pure false:=by rfl) :
  PD1 X (.Expr (.Call (.Attribute (.Subscript o (.Constant (.int (j:Int)) k p) ipos) "append" apos) [e] [] cpos) pos) (fL i j f):=
 PS.imp (cz (eO YZ Zr Zs cC (vN qW h qE hp) (ar ha aQ hs) hbase hfew hline hs rfl) hsw) fun E σ H=>un7 fun P F ρ r hr I k=>by
  unfold fL at hr
  split at hr
  ·rename_i dss t q
   split at hr
   ·rename_i ds hj
    cases q2:f ρ with
    | none=>rw[q2] at hr;cases hr
    | some d=>
     rw[q2,Ya] at hr
     split at hr
     ·rename_i hl
      cases hr
      obtain⟨a,bs,b,vs,h1,h2,h3,h4,h5,h6,h7⟩:=I.mutNL (ds':=ds++[d]) q hj
      refine⟨_,h1,.inl ⟨a,_,_,.ref b,rfl,rfl,SqL.of h2,gN (by rw[YF,h3];rfl),?_⟩⟩
      refine⟨.inl ⟨rfl,vs,SqL.of h5⟩,P,F,ρ,d,q2,I,fun v F1 H1 e1 r1=>?_⟩
      obtain⟨k1,k2⟩:=e1.keep b _ h5 h4
      exact⟨b,vs,v,rfl,rfl,k1,by rw[YH,h6.length];exact hl,k σ F1 _ e1.ext (h7 F1 H1 e1 _ ((h6.same e1.ext).append (.one r1)))⟩
     ·cases hr
   ·cases hr
  ·cases hr
end
section
variable {X:Cx} {a b e:Expr} {pos:Pos}
theorem All2.app {α β:Type}{R:α→β→Prop}{as as':List α}{bs bs':List β}(h:All2 R as bs)(h':All2 R as' bs'):All2 R (as++as') (bs++bs'):=by
 induction h with
 | nil=>exact h'
 | cons q _ ih=>exact .cons q ih
end
section
variable {X:Cx} {pz:Kp} {σ:List (Option V)} {H:Hp} {s:Shared} {h':Heap}
end
section
variable {X:Cx} {l:Expr} {elts:List Expr} {kk:Nat} {tpos pos p:Pos}
end
section
variable {prog:Program} {w:World} {A:Around} {E:Kv} {s:Shared}
end
section
variable {prog:Program} {w:World} {A:Around} {E:Kv} {s:Shared}
end
section
variable {prog:Program} {w:World} {A:Around} {E:Kv} {s:Shared}
end
section
variable {X:Cx} {e1 e2:Expr} {elts:List Expr} {kk:Nat} {tpos pos p:Pos}
def uw (as bs:List D):List D:=(as.zip bs).map fun x=>.tup [x.1,x.2]
def yq (f g:Dd):DF→Option (List D):=fun ρ=>match f ρ,g ρ with
 | some (.lst as),some (.lst bs)=>if as.length=bs.length then some (uw as bs) else none
 | some (.tup as),some (.tup bs)=>if as.length=bs.length then some (uw as bs) else none
 | _,_=>none
end
section
variable {prog:Program} {w:World} {A:Around} {s:Shared} {R:Kr}
variable {I:Addr} {fp wr:List Addr} {n:Nat} {P:Nat→Value→Prop} {St:Nat→Heap→Prop} {T:String}
end
section
variable {prog:Program} {w:World} {A:Around} {E:Kv} {s:Shared}
variable {I:Addr} {fp wr:List Addr} {n:Nat} {P:Nat→Value→Prop} {St:Nat→Heap→Prop} {T:String}
end
section
variable {prog:Program} {w:World} {A:Around} {E:Kv} {s:Shared}
end
section
variable {X:Cx} {e a:Expr} {p p' p2 pos cpos rpos:Pos} {t:TA}
variable {fa:Dd}
end
theorem All2.mem {α β:Type}{R:α→β→Prop}{as:List α}{bs:List β}(h:All2 R as bs){a:α}(ha:a∈as):∃ b∈bs,R a b:=by
 induction h with
 | nil=>cases ha
 | cons q _ ih=>
  rcases Yy.mp ha with rfl | ha
  ·exact⟨_,Yc,q⟩
  ·obtain⟨b,h1,h2⟩:=ih ha
   exact⟨b,Yb _ h1,h2⟩
section
variable {X:Cx} {a b e:Expr} {pos:Pos}
def rO (i:Nat):DF→Option Bool:=fun ρ=>match ρ[i]? with
 | some (some (.own _ _))=>some false
 | some (some (.bor _))=>some false
 | some (some (.v .non))=>some true
 | some (some (.v _))=>some false
 | _=>none
theorem t8 (i:Nat){j p}(h:PE X a (cA i)):PDT X (.Compare a [.Is] [.Constant .none j p] pos) (rO i):=(mO (wX h)).imp fun σ H Q=>un7 fun P F ρ d hf I k=>by
 unfold rO at hf
 split at hf
 ·rename_i o t q
  cases hf
  obtain⟨v,h1,c,rfl,_⟩:=I.at q
  exact⟨_,h1,false,rfl,k F H (Evo.refl I.toDHp)⟩
 ·rename_i o q
  cases hf
  obtain⟨v,h1,c,rfl,_⟩:=I.at q
  exact⟨_,h1,false,rfl,k F H (Evo.refl I.toDHp)⟩
 ·rename_i q
  cases hf
  obtain⟨v,h1,h2⟩:=I.at q
  cases h2
  exact⟨_,h1,true,rfl,k F H (Evo.refl I.toDHp)⟩
 ·rename_i d' hd q
  cases hf
  obtain⟨v,h1,h2⟩:=I.at q
  refine⟨_,h1,false,?_,k F H (Evo.refl I.toDHp)⟩
  congr 1
  refine Yx fun z=>?_
  subst z
  cases h2
  exact hd rfl
 ·cases hf
def c6 (i:Nat)(g:Dk):DF→Option Bool:=fun ρ=>match ρ[i]? with
 | some (some (.own o _))=>g (ρ.set i (some (.v o.d)))
 | _=>none
theorem j7 (i:Nat){g:Dk}(h:PDT X e g):PDT X e (c6 i g):=PT.imp h fun σ H Q=>un7 fun P F ρ b hf I k=>by
 unfold c6 at hf
 split at hf
 ·rename_i o t q
  obtain⟨F1,e1,I1⟩:=I.frz q
  exact⟨P,F1,_,b,hf,I1,fun F' H' ev=>k F H' ⟨Same.refl _,⟨(e1.trans ev.ext).trans ev.hp.sub,ev.hp.pro,I.dis⟩,fun a u hH hF=>⟨Evo.same I1.toDHp ev a u hH,hF⟩⟩⟩
 ·cases hf
end
end L2
namespace L2
open PySem PySem.Spec PySem.W PyProof.Rows
section
variable {X:Cx} {k:Nat} {f:Addr} {fd:FuncData} {ps:List Str} {mM:Dz} {x:Str} {p pos spos:Pos} {e0 e1 e2 e3 e4:Expr} {f0 f1 f2 f4:Dd}
end
structure Sep (K:PySem.W.Frag) (P F H:Hp) (ρ:DF) (σ:St) (b:Addr):Prop extends DHp P F H where
 len:ρ.length=σ.length
 rep:∃ O:Addr→Option Nat,∀ (i:Nat) (x:DV),ρ[i]?=some (some x)→∃ v,σ[i]?=some (some v)∧DVRep K P F H (fun c=>O c=some i∧c≠b) x v
theorem DInv.sepV {K:Kq}{P F H:Hp}{ρ:DF}{σ:St}(I:DInv K P F H ρ σ){j:Nat}{ds:List D}{t:Option Addr}(hj:ρ[j]?=some (some (.own (.lst ds) t))) :
  ∃ b,σ[j]?=some (some (.ref b))∧F b=none∧P b=none∧(∃ u,H b=some u∧ORep1 K F (.lst ds) u)∧Sep K P F H (ρ.set j none) σ b:=by
 obtain⟨O,hR⟩:=I.rep
 obtain⟨_,g1,b,rfl,⟨⟨fb,pb,ob⟩,u,g3,g4⟩,_⟩:=hR j _ hj
 refine⟨b,g1,fb,pb,⟨u,g3,g4⟩,I.toDHp,by rw[YK];exact I.len,O,fun m x hm=>?_⟩
 rcases ck hm with⟨rfl,e,hl⟩ | ⟨hjm,hm'⟩
 ·cases e
 ·obtain⟨v,h1,h2⟩:=hR m x hm'
  exact⟨v,h1,h2.imp fun c w _ _ _ q=>⟨q,fun z=>by subst z;rw[ob] at q;exact hjm (Yt q)⟩⟩
theorem DInv.sepN {K:Kq}{P F H F' H':Hp}{ρ:DF}{σ:St}(I:DInv K P F H ρ σ){b:Addr}(hb:H b=none)(ev:Evo P F H F' H'):Sep K P F' H' ρ σ b:=by
 obtain⟨O,hR⟩:=I.rep
 refine⟨ev.hp,I.len,O,fun m x hm=>?_⟩
 obtain⟨v,h1,h2⟩:=hR m x hm
 exact⟨v,h1,DVRep.evo ev (h2.imp fun c w _ _ hc q=>⟨q,fun z=>by subst z;rw[hb] at hc;cases hc⟩)⟩
theorem Sep.into {K:Kq}{P F H:Hp}{ρ:DF}{σ:St}{b:Addr}(I:Sep K P F H ρ σ b){i:Nat}{dss:List (List D)}{ds:List D}{t:Option Addr}(hi:ρ[i]?=some (some (.own (.lst2 dss) t)))(fb:F b=none)(pb:P b=none)(hu:∃ u,H b=some u∧ORep1 K F (.lst ds) u) :
  ∃ (a:Addr) (bs:List Addr),σ[i]?=some (some (.ref a))∧H a=some (.lst (bs.map .ref))∧bs.length=dss.length∧DInv K P F (upd H a (.lst (bs.map .ref++[.ref b]))) (ρ.set i (some (.own (.lst2 (dss++[ds])) t))) σ:=by
 obtain⟨O,hR⟩:=I.rep
 obtain⟨u,g3,g4⟩:=hu
 obtain⟨_,h1,a,rfl,⟨⟨fa,pa,oa,ab⟩,bs,h3,h4,h5⟩,ht⟩:=hR i _ hi
 obtain⟨n1,n2⟩:=Zo.mp h4
 have nb:b∉bs:=fun z=>by
  obtain⟨x,_,⟨_,_,_,y⟩,_⟩:=h5.mem z
  exact y rfl
 refine⟨a,bs,h1,h3,h5.length,⟨fun c w e=>by rw[ap (aD e fa)];exact I.sub c w e,fun c w e=>by rw[ap (aD e pa)];exact I.pro c w e,I.dis⟩,by rw[YK];exact I.len,?_⟩
 classical
 refine⟨fun c=>if c=b then some i else O c,fun m z hm=>?_⟩
 have keepO:∀ {c:Addr} {m:Nat},O c=some m→c≠b→(if c=b then some i else O c)=some m:=fun h h'=>by rw[Yh h'];exact h
 rcases ck hm with⟨rfl,e,hl⟩ | ⟨him,hm'⟩
 ·cases e
  refine⟨_,h1,a,rfl,⟨⟨fa,pa,keepO oa ab⟩,bs++[b],by rw[aq,Zz];rfl,?_,?_⟩,ht⟩
  ·rw[← List.cons_append]
   refine XH.mpr ⟨h4,by simp,fun x hx y hy=>?_⟩
   rw[YJ] at hy
   subst hy
   rcases Yy.mp hx with rfl | hx
   ·exact ab
   ·exact fun z=>by subst z;exact nb hx
  ·refine All2.app (h5.impM fun c x hc ⟨⟨c1,c2,c3,c3'⟩,w,c4,c5⟩=>?_) (.cons ?_ .nil)
   ·have ca:c≠a:=fun z=>by subst z;exact n1 hc
    exact⟨⟨c1,c2,keepO c3 c3'⟩,w,by rw[ap ca];exact c4,c5⟩
   ·exact⟨⟨fb,pb,Yf rfl⟩,u,by rw[ap (Xi ab)];exact g3,g4⟩
 ·obtain⟨w,e1,e2⟩:=hR m z hm'
  refine⟨w,e1,?_⟩
  cases z with
  | v d'=>exact e2
  | own od t'=>
   obtain⟨c,rfl,e3,ht'⟩:=e2
   refine⟨c,rfl,e3.mono (Same.refl _) fun c' w' q hb=>⟨?_,q.1,q.2.1,keepO q.2.2.1 q.2.2.2⟩,ht'⟩
   rw[ap (fun z=>by subst z;have q2:O _=some m:=q.2.2.1;rw[oa] at q2;exact him (Yt q2))];exact hb
  | bor od=>exact e2
section
variable {X:Cx} {k:Nat} {f:Addr} {fd:FuncData} {ps:List Str} {m:List (List D)→List D→List DV→Option (List (List D))} {x:Str} {p pos spos:Pos} {e0 e1 e2 e3 e4:Expr} {f0 f1 f4:Dd}
end
section
variable {X:Cx} {e o y:Expr} {pos apos cpos p2:Pos}
def j_ (i j:Nat):DF→Option RES:=fun ρ=>match ρ[i]?,ρ[j]? with
 | some (some (.own (.lst2 dss) t)),some (some (.own (.lst ds) _))=>if dss.length<16777216 then some (.nx ((ρ.set j none).set i (some (.own (.lst2 (dss++[ds])) t)))) else none
 | _,_=>none
theorem rl (i j:Nat)(h:PE X o (cA i))(hy:PE X y (cA j))(hbase:attributeBase o "append" X.env (eval o X.env)=eval o X.env:=by rfl)
  (hfew:((backTo cpos (starEach [y] X.env)).all (fun x=>!x.1)&&(backToKw cpos (keywordEach [] X.env)).all (fun x=>x.1.isSome)
   && decide (([y]:List Expr).length+([]:List Keyword).length+(if ([]:List Keyword).isEmpty then 0 else 1)<30))=true:=by rfl)
  (hline:(apos.endLine == cpos.line)=true:=by rfl) (hs:starEach [y] X.env=[(false,eval y X.env)]:=by rfl) (hsw:swapsWith (.Call (.Attribute o "append" apos) [y] [] cpos) none pos.line X.env=pure false:=by rfl) :
  PD1 X (.Expr (.Call (.Attribute o "append" apos) [y] [] cpos) pos) (j_ i j):=
 PS.imp (cz (eO YZ Zr Zs cC h (ar hy aQ hs) hbase hfew hline hs rfl) hsw) fun E σ H=>un7 fun P F ρ r hr I k=>by
  unfold j_ at hr
  split at hr
  ·rename_i dss t ds t' q q'
   split at hr
   ·rename_i hl
    cases hr
    have hij:i≠j:=fun z=>by subst z;rw[q] at q';cases q'
    obtain⟨b,g1,fb,pb,hu,S⟩:=I.sepV q'
    have qi:(ρ.set j none)[i]?=some (some (.own (.lst2 dss) t)):=by rw[YR (Xi hij)];exact q
    obtain⟨a,bs,h1,h3,h4,h5⟩:=S.into qi fb pb hu
    exact⟨_,h1,.inl ⟨rfl,_,SqL.of h3⟩,_,g1,a,_,.ref b,rfl,rfl,h3,by rw[YH,Ye,h4];exact hl,k σ F _ (Same.refl _) h5⟩
   ·cases hr
  ·cases hr
def jt (i:Nat)(f:Dl):DF→Option RES:=fun ρ=>match ρ[i]? with
 | some (some (.own (.lst2 dss) t))=>(f ρ).bind fun ds=>if dss.length<16777216 then some (.nx (ρ.set i (some (.own (.lst2 (dss++[ds])) t)))) else none
 | _=>none
theorem uT (i:Nat){f:Dl}(h:PE X o (cA i))(hy:PDO X y (asL f))(hbase:attributeBase o "append" X.env (eval o X.env)=eval o X.env:=by rfl)
  (hfew:((backTo cpos (starEach [y] X.env)).all (fun x=>!x.1)&&(backToKw cpos (keywordEach [] X.env)).all (fun x=>x.1.isSome)
   && decide (([y]:List Expr).length+([]:List Keyword).length+(if ([]:List Keyword).isEmpty then 0 else 1)<30))=true:=by rfl)
  (hline:(apos.endLine == cpos.line)=true:=by rfl) (hs:starEach [y] X.env=[(false,eval y X.env)]:=by rfl) (hsw:swapsWith (.Call (.Attribute o "append" apos) [y] [] cpos) none pos.line X.env=pure false:=by rfl) :
  PD1 X (.Expr (.Call (.Attribute o "append" apos) [y] [] cpos) pos) (jt i f):=
 PS.imp (cz (eO YZ Zr Zs cC h (ar hy aQ hs) hbase hfew hline hs rfl) hsw) fun E σ H=>un7 fun P F ρ r hr I k=>by
  unfold jt at hr
  split at hr
  ·rename_i dss t q
   cases q2:f ρ with
   | none=>rw[q2] at hr;cases hr
   | some ds=>
    rw[q2,Ya] at hr
    split at hr
    ·rename_i hl
     cases hr
     obtain⟨_,g1,a0,rfl,⟨g2,bs0,g3,_⟩,_⟩:=I.at q
     refine⟨_,g1,.inl ⟨rfl,_,SqL.of g3⟩,P,F,ρ,.lst ds,by unfold asL;rw[q2];rfl,I,fun b F2 H2 ev2 o2=>?_⟩
     obtain⟨⟨b1,b2⟩,u,b3,b4⟩:=o2
     obtain⟨a,bs,h1,h3,h4,h5⟩:=(I.sepN b1 ev2).into q b2 (I.pro.free b1) ⟨u,b3,b4⟩
     rw[g1] at h1
     cases h1
     exact⟨a0,_,.ref b,rfl,rfl,h3,by rw[YH,Ye,h4];exact hl,k σ F2 _ ev2.ext h5⟩
    ·cases hr
  ·cases hr
theorem sA:PDO X (.List [] pos) (fun _=>some (.lst2 [])):=PE.imp (bM ax) fun σ H Q=>un7 fun P F ρ ob hf I k=>by
 cases hf
 refine⟨P,F,ρ,.lst [],rfl,I,fun a F' H' ev ho=>k a F' H' ev ?_⟩
 obtain⟨h1,u,h2,h3⟩:=ho
 cases u with
 | lst vs=>
  cases vs with
  | nil=>exact⟨h1,[],h2,by simp,.nil⟩
  | cons v vs=>cases h3
 | _=>exact h3.elim
end
structure LamS where
 qual:Str
 params:Arguments
 body:Expr
 scope:Scope
 p:Str
 x:Str
structure LamS.Ok (L:LamS):Prop where
 kind:L.scope.kind=.function
 co:L.scope.isCoroutine=false
 gen:L.scope.isGenerator=false
 par:L.scope.names.lookup L.p=some .local
 fre:L.scope.names.lookup L.x=some .free
 noc:∀ y∈L.scope.names,y.2≠.cell
 only:∀ y,L.scope.names.lookup y=some .free→y=L.x
 bind:∀ (pm cdv ct u:Value) (cl:List (Str×Addr)),bindArgs (kla_fn "<lambda>" L.qual L.params L.body L.scope cl pm cdv ct) ⟨[u],[]⟩=pure [(L.p,u)]
def lR (L:LamS)(f c' c:Addr)(h:Heap):Prop:=∃ pm ctv,h.get? f=some (kla_obj "<lambda>" L.qual L.params L.body L.scope [(L.x,c)] pm c' ctv)
def dR (L:LamS)(s:Shared)(f c' c:Addr):Env:=envX L.qual L.scope s.heap.objs.size f (.ref c') [(L.x,c)]
def kX (CX:CXT)(P:Program)(w:World)(K:Kq)(mg:Ks)(base:Heap)(L:LamS)(f c' c:Addr)(A:Around)(outer:List Env)(s:Shared)(H:Hp)(E:XK):Cx where
 prog:=P
 w:=w
 K:=K
 mg:=mg
 base:=base
 A:=A.deeper (dR L s f c' c)
 N:=[L.p,L.x]
 s₀:=s
 H₀:=H
 env:=dR L s f c' c
 outer:=outer
 stack:=dR L s f c' c::outer
 ex:=[]
 calm:=true
 fn:=fun y=>y != L.x
 pn:=[]
 xe:=fun e s'=>wpAny (model P w) (A.deeper (dR L s f c' c)) (leaving (dR L s f c' c) e) (fun _ s''=>CX outer H s E e s'') (fun e' s''=>CX outer H s E e' s'') s'
theorem oQ {CX:CXT}{P:Program}{w:World}{K:Kq}{mg:Ks}{base:Heap}{L:LamS}{f c' c:Addr}{A:Around}{outer:List Env}{s:Shared}{H:Hp}{E:XK}{ua uc:Value}{va vc:V}{h':Heap}{tk:Nat}
  (S:L.Ok) (hd:A.handled=none) (e0:Env0 P w K mg base A outer s H) (hc:s.heap.IsCell c (some uc)) (hHc:H c=none) (hcb:base.objs.size≤c∨True) (ra:RelV va ua) (rc:RelV vc uc)
  (ns:h'.Ns s.heap.objs.size fun x=>List.lookup x [(L.p,ua)].reverse) (sb:Heap.SameBut s.heap.objs.size (s.heap.push { cls:=.type "frame",data:=.dict #[] }) h') :
  Inv (kX CX P w K mg base L f c' c A outer s H E) [] [some va,some vc] H { heap:=h',gens:=s.gens,drawn:=s.drawn,toks:=tk,os:=s.os }:=by
 have hk:∀ (b:Addr) (o:Obj),s.heap.get? b=some o→h'.get? b=some o:=fun b o e=>by
  rw[sb.2 b (Yw (Yp e))]
  exact Yd _ e
 have cl:∀ y d,(dR L s f c' c).cells.lookup y=some d→y=L.x∧d=c:=fun y d e=>by
  have e':([(L.x,c)]:List (Str×Addr)).lookup y=some d:=e
  rw[ZX] at e'
  split at e'
  ·rename_i q
   cases e'
   exact⟨eq_of_beq q,rfl⟩
  ·cases e'
 have clx:(dR L s f c' c).cells.lookup L.x=some c:=by
  show ([(L.x,c)]:List (Str×Addr)).lookup L.x=some c
  rw[ZX,beq_self_eq_true]
 have noA:∀ b:Addr,b∉(kX CX P w K mg base L f c' c A outer s H E).ex:=fun b z=>absurd (show b∈([]:List Addr) from z) (by simp)
 have kc:h'.IsCell c (some uc):=by obtain⟨o,h1,h2⟩:=hc;exact⟨o,hk c o h1,h2⟩
 refine⟨⟨e0.mod,S.kind,rfl,rfl,Yi _,fun y z d h1 h2=>?_,fun y hy=>?_,fun y d hf h=>?_,fun _=>hd,Around.frames_deeper e0.frames,.inr ⟨rfl,rfl⟩,fun b z=>absurd z (noA b),e0.bs,e0.bsz,fun b _ _=>noA b,fun b z=>absurd z (noA b),e0.funs,e0.frf⟩,
  rfl,e0.bare,Un.kept hk,⟨_,ns,fun i y v h1 h2 h3=>?_⟩,fun y d h=>?_,e0.hok.fresh (Yi _),fun y d h=>?_,fun p hp=>absurd (show p∈([]:Kp) from hp) (by simp),e0.hok.kept hk,rfl⟩
 ·exact (cl y d h1).1.trans (cl z d h2).1.symm
 ·have hy:L.scope.names.lookup y=some .cell∨L.scope.names.lookup y=some .free:=hy
  rcases hy with hy | hy
  ·exact absurd rfl (S.noc _ (YY hy))
  ·rw[S.only y hy];exact⟨c,clx⟩
 ·have hf':(y != L.x)=true:=hf
  rw[(cl y d h).1] at hf'
  simp at hf'
 ·have h1':[L.p,L.x][i]?=some y:=h1
  match i,h1',h2 with
  | 0,h1',h2=>
   cases h1'
   cases h2
   exact⟨ua,ra,.inl ⟨S.par,by show List.lookup L.p [(L.p,ua)]=_;rw[ZX,beq_self_eq_true]⟩⟩
  | 1,h1',h2=>
   cases h1'
   cases h2
   exact⟨uc,rc,.inr ⟨.inr S.fre,c,clx,kc⟩⟩
  | i+2,h1',h2=>cases h1'
 ·rw[(cl y d h).2];exact⟨_,kc⟩
 ·rw[(cl y d h).2];exact hHc
theorem vj {CX:CXT}{P:Program}{w:World}{K:Kq}{mg:Ks}{base:Heap}{L:LamS}{f c' c:Addr}{A:Around}{outer:List Env}{s:Shared}{H:Hp}{E:XK}{ua uc:Value}{va vc:V}{k:Nat}{Q:VK}{t:TE}
  (S:L.Ok) (hr:Room (k+1) A) (e0:Env0 P w K mg base A outer s H) (hl:lR L f c' c s.heap) (hcr:s.heap.CodeRec (.ref c') L.qual) (hc:s.heap.IsCell c (some uc)) (hHc:H c=none) (ra:RelV va ua) (rc:RelV vc uc)
  (hb:PE (kX CX P w K mg base L f c' c A outer s H E) L.body t) (ht:t [some va,some vc] H Q):codeAny (model P w) A (.call (.ref f) ⟨[ua],[]⟩) (CR CX outer P w H s Q E) s:=by
 obtain⟨pm,ctv,hf⟩:=hl
 have lim:s.heap.NoLimit:=e0.mod.nolimit.keeps fun b o e=>(e0.bs b o e).1
 refine kla_callFunE hr.depth hf rfl S.co S.gen rfl hcr ?_
 rw[S.bind]
 refine YD ?_
 refine wpAny_newFunctionEnv S.noc (fun y hy=>?_) (fun h' ns sb=>?_) S.kind
 ·rw[YJ.mp hy];exact S.par
 ·have I:=oQ (CX:=CX) (E:=E) (f:=f) (c':=c') (tk:=s.toks + [(L.p,ua)].length) S hr.hd e0 hc hHc (.inr trivial) ra rc ns sb
  refine⟨lim.keeps fun b o e=>?_,kla_codeExpr ?_⟩
  ·show h'.get? b=some o
   rw[sb.2 b (Yw (Yp e))]
   exact Yd _ e
  ·refine Zv (hb [] _ [some va,some vc] H Q I ht) (fun u s' hs=>?_) fun e s' hs=>hs
   obtain⟨v,H',J,rv,q⟩:=hs
   exact⟨v,H',J.os,J.bare,J.base,J.hok,rv,q⟩
structure LamIn (X:Cx) (L:LamS) (f c' c:Addr) (uc:Value):Prop where
 lam:lR L f c' c X.s₀.heap
 fH:X.H₀ f=none
 ff:f∉X.fs
 fe:f∉X.ex
 cl:X.s₀.heap.IsCell c (some uc)
 cH:X.H₀ c=none
 cf:c∉X.fs
 ce:c∉X.ex
 cd:∃ o u,X.H₀ c'=some (.frz o u)∧∃ vs t,o.data=.fields vs∧vs[1]?=some (.str L.qual t)
section
variable {X:Cx} {L:LamS} {f c' c:Addr} {uc:Value}
theorem LamIn.now {pz:Kp}{σ:St}{H:Hp}{s:Shared}(h:LamIn X L f c' c uc)(I:Inv X pz σ H s):lR L f c' c s.heap∧s.heap.CodeRec (.ref c') L.qual∧s.heap.IsCell c (some uc)∧H c=none:=by
 obtain⟨pm,ctv,hf⟩:=h.lam
 obtain⟨oc,hc,hd⟩:=h.cl
 obtain⟨o,u,ho,vs,t,e1,e2⟩:=h.cd
 obtain⟨g,_⟩:=I.hok c' _ (I.base.frzs c' o u ho)
 exact⟨⟨pm,ctv,I.base.keep f _ hf h.fH h.ff h.fe⟩,⟨c',o,vs,t,rfl,g,e1,e2⟩,⟨oc,I.base.keep c oc hc h.cH h.cf h.ce,hd⟩,I.base.free c oc hc h.cH h.ce⟩
def wU (i:Nat)(f:Addr)(te:TE)(vc:V)(t:TE):TE:=fun σ H Q=>σ[i]?=some (some (.ref f))∧gl te lw σ H fun vs H1=>∃ va,vs=[va]∧t [some va,some vc] H1 Q
theorem qy {i k:Nat}{x:Str}{p pos:Pos}{e:Expr}{te t:TE}{vc:V}(S:L.Ok)(hl:LamIn X L f c' c uc)(rc:RelV vc uc)(hr:Room (k+1) X.A)(hN:X.N[i]?=some x)(hv:Vis X.env.scope x)(ha:PE X e te)
  (hb:∀ (s:Shared) (H:Hp) (E:XK),PE (kX CX0 X.prog X.w X.K X.mg X.base L f c' c X.A X.stack s H E) L.body t)
  (hd:(x == ("__debug__":Str))=false:=by decide) (hcd:(x == ("__classdict__":Str))=false:=by decide) (he:starEach [e] X.env=(false,eval e X.env)::starEach [] X.env:=by rfl) :
  PE X (.Call (.Name x p) [e] [] pos) (wU i f te vc t):=by
 intro pz s σ H Q I h
 obtain⟨h1,h2⟩:=h
 refine ZB (aG (rH hN hv hd hcd pz s σ H (fun v H'=>v=.ref f∧gl te lw σ H' fun vs H1=>∃ va,vs=[va]∧t [some va,some vc] H1 Q) I ⟨_,h1,rfl,h2⟩) fun u s1 v H1 I1 r1 q1=>?_)
 obtain⟨rfl,q1⟩:=q1
 cases r1
 obtain⟨⟨pm,ctv,g⟩,_⟩:=hl.now I1
 refine callWith_def_at g rfl (aG (ar ha aQ he pos pz s1 σ H1 _ I1 q1) fun us s2 vs H2 I2 r2 q2=>?_) he
 ·obtain⟨va,rfl,q2⟩:=q2
  obtain⟨g1,g2,g3,g4⟩:=hl.now I2
  obtain⟨pm2,ctv2,g'⟩:=g1
  obtain⟨u1,rfl,ra⟩:=r2.one
  have gg:s2.heap.get? f=s1.heap.get? f:=by
   obtain⟨pm0,ctv0,e0⟩:=hl.lam
   rw[I2.base.keep f _ e0 hl.fH hl.ff hl.fe,I1.base.keep f _ e0 hl.fH hl.ff hl.fe]
  refine⟨gg.trans g,?_⟩
  refine wpAny_call (Xa (vj (CX:=CX0) (E:=E0) S hr I2.env0 ⟨pm2,ctv2,g'⟩ g2 g3 g4 ra rc (hb s2 H2 E0) q2) fun r s' hq=>?_)
  cases r with
  | error e=>exact False.elim hq
  | ok fl=>
   cases fl with
   | ret u=>exact I2.after hq
   | next=>exact False.elim hq
   | brk=>exact False.elim hq
   | cont=>exact False.elim hq
end
def e6 (t:Addr)(pos:Pos)(o:Option Value):Heap→Prop:=fun h=>∃ ps,h.get? t=some (tabObj ps)∧TriplesOk ps.toList∧codeAmong pos ps.toList=o
theorem fG {t:Addr}{pos:Pos}{o:Option Value}:∀ h1 h2:Heap,e6 t pos o h1→(∀ ob,h1.get? t=some ob→h2.get? t=some ob)→e6 t pos o h2:=
 fun _ _ ⟨ps,h1,h2,h3⟩ k=>⟨ps,k _ h1,h2,h3⟩
def mF:HO:=.ext fun _=>True
def zf (o:Obj)(q:Str):Prop:=∃ vs t,o.data=.fields vs∧vs[1]?=some (.str q t)
structure LamW where
 L:LamS
 t:Addr
 pos:Pos
def qp (W:LamW)(c':Addr)(H:Hp):Prop:=H W.t=some (.ext (e6 W.t W.pos (some (.ref c'))))∧∃ o,H c'=some (.frz o mF)∧zf o W.L.qual
def Tab (W:LamW)(H:Hp):Prop:=H W.t=some (.ext (e6 W.t W.pos none))∨∃ c',qp W c' H
def xy (W:LamW)(M:Addr→Prop)(H:Hp):Prop:=(H W.t=some (.ext (e6 W.t W.pos none))∧∀ c',H c'=none→M c')∨∃ c',qp W c' H∧M c'
structure Grow (t:Addr) (H H':Hp):Prop where
 old:∀ a o,a≠t→H a=some o→H' a=some o
theorem Grow.refl {t:Addr}{H:Hp}:Grow t H H:=⟨fun _ _ _ e=>e⟩
theorem Grow.trans {t:Addr}{H H1 H2:Hp}(a:Grow t H H1)(b:Grow t H1 H2):Grow t H H2:=⟨fun c o n e=>b.old c o n (a.old c o n e)⟩
section
variable {X:Cx} {W:LamW} {c0 c:Addr} {pz:Kp} {σ:St} {H:Hp} {s:Shared} {Q:Kv}
theorem qS {M:Addr→Prop}(I:Inv X pz σ H s)(hT:xy W M H)(hcl:closureFor W.L.scope X.env=pure [(W.L.x,c)])(hco:X.env.code=.ref c0)(hch:codeHdIn X.K c0 W.t=true)(hq:X.env.qual++Str.ofString "<lambda>"=W.L.qual)(hdf:defaultsOf W.L.params X.env=([],[]))(hbl:X.base.BuiltinsAt X.mg W.t)
  (h:∀ f c' H' s',Inv X pz σ H' s'→H' f=none→lR W.L f c' c s'.heap→qp W c' H'→M c'→Grow W.t H H'→(∀ b o,s.heap.get? b=some o→b≠W.t→s'.heap.get? b=some o)→s.heap.objs.size≤f→Q (.ref f) s') :
  wpAny (model X.prog X.w) X.A (eval (.Lambda W.L.params W.L.body W.L.scope W.pos) X.env) Q X.xe s:=by
 have hg:s.heap.Ns mainGlobals X.mg:=I.mod.glob.keeps I.bk
 have hcd:CodeHd s.heap c0 W.t:=codeHd_of_K I.kIn hch
 have hbt:s.heap.BuiltinsAt X.mg W.t:=hbl.keeps I.bk
 refine kla_eval hdf ?_
 rw[hq]
 rcases hT with⟨cold,hM⟩ | ⟨c',⟨warm,o,fz,ho⟩,hM⟩
 ·obtain⟨⟨ps,g1,g2,g3⟩,_,_⟩:=I.hok _ _ cold
  have nt:mainGlobals≠W.t:=fun z=>by
   obtain⟨ob,es,ep,e1,e2,_⟩:=hg
   rw[z,g1] at e1
   cases e1
   cases e2
  refine kla_makeFunction hcl I.ok.glob hg hco hcd g1 g2 g3 nt hbt fun c' ctv h' tk ext lo hi cr tab=>?_
  have fc:H c'=none:=I.hok.fresh lo
  have ct:c'≠W.t:=fun z=>by subst z;rw[cold] at fc;cases fc
  obtain⟨c1,oc,vs,tt,e1,e2,e3,e4⟩:=cr
  cases e1
  have kept:∀ b ob,s.heap.get? b=some ob→b≠W.t→(h'.push (kla_obj "<lambda>" W.L.qual W.L.params W.L.body W.L.scope [(W.L.x,c)] ((X.mg (Str.ofString "__name__")).getD Value.none) c' ctv)).get? b=some ob:=fun b ob e n=>Yd _ (ext b ob n e)
  have H'n:∀ b,b≠W.t→b≠c'→upd (upd H W.t (.ext (e6 W.t W.pos (some (.ref c'))))) c' (.frz oc mF) b=H b:=fun b n1 n2=>by rw[ap n2,ap n1]
  have H't:upd (upd H W.t (.ext (e6 W.t W.pos (some (.ref c'))))) c' (.frz oc mF) W.t=some (.ext (e6 W.t W.pos (some (.ref c')))):=by rw[ap (Xi ct),aq]
  have oldOf:∀ b u,H b=some u→b≠W.t→upd (upd H W.t (.ext (e6 W.t W.pos (some (.ref c'))))) c' (.frz oc mF) b=some u:=fun b u e n=>by rw[H'n b n (fun z=>by subst z;rw[fc] at e;cases e)];exact e
  have neT:∀ b u,H b=some u→(∀ φ,u≠.ext φ)→b≠W.t:=fun b u e n z=>by subst z;rw[cold] at e;cases e;exact n _ rfl
  have hsz:s.heap.objs.size≤h'.objs.size:=Zl (Zt lo hi)
  refine h _ c' (upd (upd H W.t (.ext (e6 W.t W.pos (some (.ref c'))))) c' (.frz oc mF)) _ (I.un (t':=tk) ?_ ?_) ?_ ⟨_,ctv,Yo _ rfl⟩ ⟨H't,oc,aq,vs,tt,e3,e4⟩ (hM c' fc) ⟨fun a u n e=>oldOf a u e n⟩ kept hsz
  ·refine⟨fun b ob e n _ _=>kept b ob e (fun z=>by subst z;rw[cold] at n;cases n),fun b ob e n _ _=>⟨ob.slots,kept b ob e (fun z=>by subst z;rw[cold] at n;cases n)⟩,fun b ob e n _=>?_,fun b ob e _=>?_,fun b xs e=>oldOf b _ e (neT b _ e fun _ z=>nomatch z),fun b ob u e=>oldOf b _ e (neT b _ e fun _ z=>nomatch z),fun b ps e=>⟨#[],by rw[oldOf b _ e (neT b _ e fun _ z=>nomatch z)];simp⟩⟩
   ·rw[H'n b (fun z=>by subst z;rw[cold] at n;cases n) (fun z=>by subst z;exact absurd (Yk (Yp e) lo) (YQ _))]
    exact n
   ·by_cases hb:b=W.t
    ·subst hb;exact⟨_,Yd _ tab⟩
    ·exact⟨ob,kept b ob e hb⟩
  ·intro b u e
   by_cases hbc:b=c'
   ·subst hbc
    rw[aq] at e
    cases e
    exact⟨Yd _ e2,trivial,⟨_,Yd _ e2⟩,fun _ _ _ _=>trivial⟩
   ·by_cases hbt':b=W.t
    ·subst hbt'
     rw[H't] at e
     cases e
     refine⟨⟨_,Yd _ tab,?_,?_⟩,⟨_,Yd _ tab⟩,fG⟩
     ·rw[Array.toList_append];exact TriplesOk_snoc _ _ _ _ g2
     ·rw[Array.toList_append];exact codeAmong_snoc _ g2 g3
    ·rw[H'n b hbt' hbc] at e
     refine (I.hok b u e).stay (fun d v hd r=>kept d v r ?_) (fun d r=>oldOf d _ r (neT d _ r fun _ z=>nomatch z)) fun d xs r=>oldOf d _ r (neT d _ r fun _ z=>nomatch z)
     rcases hd with rfl | hd
     ·exact hbt'
     ·exact neT d _ hd fun _ z=>nomatch z
  ·have l1:W.t<s.heap.objs.size:=(I.hok _ _ cold).lt
   exact (H'n _ (ZZ (Yk l1 hsz)) (ZZ hi)).trans (I.hok.fresh hsz)
 ·obtain⟨⟨ps,g1,g2,g3⟩,_,_⟩:=I.hok _ _ warm
  refine kla_makeFunctionHit hcl I.ok.glob hg hco hcd g1 g2 g3 hbt fun ctv h' tk kp hsz=>?_
  have kept:∀ b ob,s.heap.get? b=some ob→(h'.push (kla_obj "<lambda>" W.L.qual W.L.params W.L.body W.L.scope [(W.L.x,c)] ((X.mg (Str.ofString "__name__")).getD Value.none) c' ctv)).get? b=some ob:=fun b ob e=>Yd _ (kp b ob e)
  exact h _ c' H _ (I.kept (t':=tk) kept) (I.hok.fresh hsz) ⟨_,ctv,Yo _ rfl⟩ ⟨warm,o,fz,ho⟩ hM Grow.refl (fun b ob e _=>kept b ob e) hsz
end
def HO.pl:HO→Bool
 | .lst _=>true
 | .tup _=>true
 | .dT _=>true
 | .dK _=>true
 | .ins _ _ _=>true
 | _=>false
theorem ORep1.pl {K:Kq}{F:Hp}{o:OD}{u:HO}(h:ORep1 K F o u):u.pl=true:=by
 cases o <;> cases u <;> first | exact h.elim | rfl
theorem ORep.monoP {K:Kq}{F F' H H':Hp}{ow ow':Addr→Prop}{o:OD}{a:Addr}(e:Same F F')(k:∀ b u,u.pl=true→ow b→H b=some u→H' b=some u∧ow' b)(h:ORep K F H ow o a):ORep K F' H' ow' o a:=by
 by_cases f:o.flat=true
 ·obtain⟨h1,u,h2,h3⟩:=(ORep.flat f).mp h
  obtain⟨k1,k2⟩:=k a u h3.pl h1 h2
  exact (ORep.flat f).mpr ⟨k2,u,k1,h3.same e⟩
 ·cases o with
  | lst2 dss=>
   obtain⟨h1,bs,h2,h3,h4⟩:=h
   obtain⟨k1,k2⟩:=k a _ rfl h1 h2
   exact⟨k2,bs,k1,h3,h4.imp fun b ds ⟨q1,u,q2,q3⟩=>by obtain⟨c1,c2⟩:=k b u (ORep1.pl q3) q1 q2;exact⟨c2,u,c1,q3.same e⟩⟩
  | tup2 dss=>
   obtain⟨h1,bs,h2,h3,h4⟩:=h
   obtain⟨k1,k2⟩:=k a _ rfl h1 h2
   exact⟨k2,bs,k1,h3,h4.imp fun b ds ⟨q1,u,q2,q3⟩=>by obtain⟨c1,c2⟩:=k b u (ORep1.pl q3) q1 q2;exact⟨c2,u,c1,q3.same e⟩⟩
  | _=>exact absurd rfl f
theorem Tab.ext {W:LamW}{P:Hp}(T:Tab W P):∃ φ,P W.t=some (.ext φ):=by
 rcases T with h | ⟨_,h,_⟩
 ·exact⟨_,h⟩
 ·exact⟨_,h⟩
noncomputable def grP (t:Addr)(P c:Hp):Hp:=fun a=>open Classical in if P a≠none∨a=t∨(∃ o,c a=some (.frz o mF)) then c a else none
section
variable {K:Kq} {W:LamW} {P F H F' H' c:Hp} {ρ:DF} {σ:St}
theorem kf {t a:Addr}{o:HO}(h:grP t P c a=some o):c a=some o:=by
 unfold grP at h
 split at h
 ·exact h
 ·cases h
theorem kj {t a:Addr}(h:P a≠none∨a=t∨(∃ o,c a=some (.frz o mF))):grP t P c a=c a:=by unfold grP;exact Yf h
structure Grew (W:LamW) (F H F' H' c:Hp):Prop where
 ext:Same F F'
 hp:DHp c F' H'
 old:∀ a o,a≠W.t→H a=some o→F a=none→c a=some o
 tab:Tab W c
theorem Grew.tabP (g:Grew W F H F' H' c):Tab W (grP W.t P c):=by
 rcases g.tab with h | ⟨c',h,o,h1,h2⟩
 ·exact .inl ((kj (.inr (.inl rfl))).trans h)
 ·exact .inr ⟨c',(kj (.inr (.inl rfl))).trans h,o,(kj (.inr (.inr ⟨o,h1⟩))).trans h1,h2⟩
theorem Grew.grow (g:Grew W F H F' H' c)(hp:DHp P F H):Grow W.t P (grP W.t P c):=⟨fun a o n e=>(kj (.inl (by rw[e];simp))).trans (g.old a o n (hp.pro a o e) (hp.dis a o e))⟩
theorem Grew.hpP (g:Grew W F H F' H' c):DHp (grP W.t P c) F' H':=⟨g.hp.sub,fun a o e=>g.hp.pro a o (kf e),fun a o e=>g.hp.dis a o (kf e)⟩
theorem Grew.own (g:Grew W F H F' H' c)(T:Tab W P){b:Addr}{u:HO}(hu:u.pl=true)(h1:F b=none)(h2:P b=none)(h3:H b=some u):H' b=some u∧F' b=none∧grP W.t P c b=none∧c b≠none:=by
 have bt:b≠W.t:=fun z=>by subst z;obtain⟨φ,e⟩:=T.ext;rw[e] at h2;cases h2
 have e:=g.old b u bt h3 h1
 refine⟨g.hp.pro b u e,g.hp.dis b u e,?_,by rw[e];simp⟩
 unfold grP
 refine Yh ?_
 rintro (z | z | ⟨o,z⟩)
 ·exact z h2
 ·exact bt z
 ·rw[e] at z;cases z;cases hu
theorem Grew.dv (g:Grew W F H F' H' c)(hp:DHp P F H)(T:Tab W P){ow ow':Addr→Prop}(hw:∀ b,c b≠none→ow b→ow' b){x:DV}{v:V}(r:DVRep K P F H ow x v):DVRep K (grP W.t P c) F' H' ow' x v:=by
 cases x with
 | v d=>exact Rep.same g.ext r
 | own o t=>
  obtain⟨a,rfl,h,ht⟩:=r
  exact⟨a,rfl,h.monoP g.ext fun b u hu ⟨q1,q2,q3⟩ hb=>by
   obtain⟨z1,z2,z3,z4⟩:=g.own T hu q1 q2 hb
   exact⟨z1,z2,z3,hw b z4 q3⟩,ht⟩
 | bor o=>
  obtain⟨a,rfl,h⟩:=r
  exact⟨a,rfl,h.monoP g.ext fun b u hu q hb=>⟨by
   have bt:b≠W.t:=fun z=>by subst z;obtain⟨φ,e⟩:=T.ext;rw[e] at hb;cases hb;cases hu
   exact (g.grow hp).old b u bt hb,q⟩⟩
theorem Grew.inv (g:Grew W F H F' H' c)(I:DInv K P F H ρ σ)(T:Tab W P):DInv K (grP W.t P c) F' H' ρ σ:=
 ⟨g.hpP,I.len,by obtain⟨O,h⟩:=I.rep;exact⟨O,fun i x hx=>by obtain⟨v,h1,h2⟩:=h i x hx;exact⟨v,h1,g.dv I.toDHp T (fun _ _ q=>q) h2⟩⟩⟩
theorem Grew.setO (g:Grew W F H F' H' c)(I:DInv K P F H ρ σ)(T:Tab W P){i:Nat}{o:OD}{a:Addr}(ho:ORep K F' H' (fun b=>F' b=none∧c b=none) o a):DInv K (grP W.t P c) F' H' (ρ.set i (some (.own o none))) (σ.set i (some (.ref a))):=by
 obtain⟨O,h⟩:=I.rep
 classical
 refine⟨g.hpP,by rw[YK,YK];exact I.len,fun b=>if c b=none then some i else O b,fun m x hm=>?_⟩
 rcases ck hm with⟨rfl,e,hl⟩ | ⟨him,hm'⟩
 ·cases e
  refine⟨.ref a,by rw[Zc (by rw[← I.len];exact hl)],a,rfl,ho.mono (Same.refl _) fun b u q hb=>⟨hb,q.1,?_,Yf q.2⟩,fun _ z=>nomatch z⟩
  cases z:grP W.t P c b with
  | none=>rfl
  | some y=>rw[kf z] at q;cases q.2
 ·obtain⟨v,h1,h2⟩:=h m x hm'
  refine⟨v,by rw[YR him];exact h1,g.dv I.toDHp T (fun b hb q=>?_) h2⟩
  exact (Yh hb).trans q
end
def EndsT (W:LamW)(K:Kq)(P F:Hp)(E:Ends):RES→Prop
 | .nx ρ=>∀ σ P' F' H',Same F F'→Grow W.t P P'→Tab W P'→DInv K P' F' H' ρ σ→E.nx σ H'
 | .bk ρ=>∀ σ P' F' H',Same F F'→Grow W.t P P'→Tab W P'→DInv K P' F' H' ρ σ→E.bk σ H'
 | .ct ρ=>∀ σ P' F' H',Same F F'→Grow W.t P P'→Tab W P'→DInv K P' F' H' ρ σ→E.ct σ H'
 | .rt x ρ=>∀ v σ P' F' H',Same F F'→Grow W.t P P'→Tab W P'→DInv K P' F' H' ρ σ→DVRep K P' F' H' ia x v→E.rt v H'
theorem EndsT.on {W:LamW}{K:Kq}{P P1 F F1:Hp}{E:Ends}{r:RES}(h:EndsT W K P F E r)(e:Same F F1)(g:Grow W.t P P1):EndsT W K P1 F1 E r:=by
 cases r with
 | nx ρ=>exact fun σ P' F' H' e' g' T I=>h σ P' F' H' (e.trans e') (g.trans g') T I
 | bk ρ=>exact fun σ P' F' H' e' g' T I=>h σ P' F' H' (e.trans e') (g.trans g') T I
 | ct ρ=>exact fun σ P' F' H' e' g' T I=>h σ P' F' H' (e.trans e') (g.trans g') T I
 | rt x ρ=>exact fun v σ P' F' H' e' g' T I r=>h v σ P' F' H' (e.trans e') (g.trans g') T I r
theorem EndsT.d {W:LamW}{K:Kq}{P F:Hp}{E:Ends}{r:RES}(h:EndsT W K P F E r)(T:Tab W P):EndsD K P F E r:=by
 cases r with
 | nx ρ=>exact fun σ F' H' e I=>h σ P F' H' e Grow.refl T I
 | bk ρ=>exact fun σ F' H' e I=>h σ P F' H' e Grow.refl T I
 | ct ρ=>exact fun σ F' H' e I=>h σ P F' H' e Grow.refl T I
 | rt x ρ=>exact fun v σ F' H' e I r=>h v σ P F' H' e Grow.refl T I r
def tST (W:LamW)(K:Kq)(g:Dw):TS:=fun E σ H=>∃ P F ρ r,g ρ=some r∧DInv K P F H ρ σ∧Tab W P∧EndsT W K P F E r
def PT1 (X:Cx)(W:LamW)(st:Stmt)(g:Dw):Prop:=PS X st (tST W X.K g)
def PTS (X:Cx)(W:LamW)(sts:List Stmt)(g:Dw):Prop:=PSs X sts (tST W X.K g)
section
variable {X:Cx} {W:LamW} {st:Stmt} {bn sts:List Stmt} {g h:Dw} {pos:Pos}
theorem eB (hd:PD1 X st g):PT1 X W st g:=PS.imp hd fun E σ H ⟨P,F,ρ,r,hg,I,T,k⟩=>⟨P,F,ρ,r,hg,I,k.d T⟩
theorem qF (hd:PDS X sts g):PTS X W sts g:=PSs.imp hd fun E σ H ⟨P,F,ρ,r,hg,I,T,k⟩=>⟨P,F,ρ,r,hg,I,k.d T⟩
theorem gJ (h1:PT1 X W st g):PTS X W [st] g:=PSs.imp (nM h1) fun _ _ _ q=>q
theorem bw (h1:PT1 X W st g)(h2:PTS X W bn h):PTS X W (st::bn) (ai g h):=PSs.imp (lb h1 h2) fun E σ H ⟨P,F,ρ,r,hg,I,T,k⟩=>by
 unfold ai at hg
 split at hg
 ·rename_i ρ' q
  exact⟨P,F,ρ,_,q,I,T,fun σ' P' F' H' e gr T' I'=>⟨P',F',ρ',r,hg,I',T',k.on e gr⟩⟩
 ·rename_i q
  refine⟨P,F,ρ,r,hg,I,T,?_⟩
  cases r with
  | nx ρ'=>exact absurd hg (q ρ')
  | bk ρ=>exact k
  | ct ρ=>exact k
  | rt x ρ=>exact k
def oZ (t:Addr)(P:Hp):Hp:=fun a=>if a=t then none else P a
theorem dh {t a:Addr}{P:Hp}{o:HO}:oZ t P a=some o↔a≠t∧P a=some o:=by
 unfold oZ
 by_cases h:a=t
 ·rw[Yf h];simp[h]
 ·rw[Yh h];simp[h]
theorem DInv.off {K:Kq}{P F H:Hp}{ρ:DF}{σ:St}(I:DInv K P F H ρ σ)(T:Tab W P):DInv K (oZ W.t P) F H ρ σ:=
 ⟨⟨I.sub,fun a o e=>I.pro a o (dh.mp e).2,fun a o e=>I.dis a o (dh.mp e).2⟩,I.len,by
  obtain⟨O,h⟩:=I.rep
  refine⟨O,fun i x hx=>?_⟩
  obtain⟨v,h1,h2⟩:=h i x hx
  refine⟨v,h1,?_⟩
  cases x with
  | v d=>exact h2
  | own o t=>
   obtain⟨a,rfl,z,ht⟩:=h2
   exact⟨a,rfl,z.mono (Same.refl _) fun b u q hb=>⟨hb,q.1,(by unfold oZ;split <;> first | rfl | exact q.2.1),q.2.2⟩,ht⟩
  | bor o=>
   obtain⟨a,rfl,z⟩:=h2
   exact⟨a,rfl,z.monoP (Same.refl _) fun b u hu q hb=>⟨dh.mpr ⟨(fun z=>by subst z;obtain⟨φ,e⟩:=T.ext;rw[e] at hb;cases hb;cases hu),hb⟩,q⟩⟩⟩
theorem w_ {t:Addr}{P P' F' H':Hp}(g:Grow t P P')(h:DHp P' F' H'):DHp (oZ t P) F' H':=
 ⟨h.sub,fun a o e=>h.pro a o (g.old a o (dh.mp e).1 (dh.mp e).2),fun a o e=>h.dis a o (g.old a o (dh.mp e).1 (dh.mp e).2)⟩
theorem nI {tg iter:Expr}{body:List Stmt}{f:Dl}{is:List Nat}{st:Dq}(hp:PassesOwn (model X.prog X.w) X.A X.env X.xe)(hc:X.calm=true)(hi:PDI X tg iter f)(hg:PDG X tg is st)(hb:PTS X W body g)
  (hs:∀ x,foldedSetIterable iter X.env x=pure x:=by intro _;rfl):PT1 X W (.For tg iter body [] pos) (bQ f st g):=PS.imp (sg hp hc hi hg hb hs) fun E σ H ⟨P,F,ρ,r,hr,I,T,k⟩=>by
 unfold bQ at hr
 cases q:f ρ with
 | none=>rw[q] at hr;cases hr
 | some ds=>
  rw[q,Ya] at hr
  refine⟨oZ W.t P,F,ρ,ds,q,I.off T,fun J F1 H1 ev0 ok=>?_⟩
  have ev:Evo P F H F1 H1:=ev0.change I.toDHp
  refine⟨fun i m σ' H'=>m=ds.length-i∧i≤ds.length∧∃ P' F' ρ',Same F1 F'∧Grow W.t P P'∧Tab W P'∧DInv X.K P' F' H' ρ' σ'∧cW st g (ds.drop i) ρ'=some r,⟨_,rfl,YI _,P,F1,ρ,Same.refl _,Grow.refl,T,I.evo ev,hr⟩,?_⟩
  rintro i m σ' H' ⟨rfl,hil,P',F',ρ',se,gr,T',I',hf⟩
  obtain⟨ok1,ok2⟩:=ok F' H' se (w_ gr I'.toDHp) i
  by_cases hlt:i<ds.length
  ·have hd:ds[i]?=some ds[i]:=Yu hlt
   obtain⟨go,yl⟩:=ok1 _ hd
   have hdrop:ds.drop i=ds[i]::ds.drop (i+1):=ZW hlt
   rw[hdrop] at hf
   unfold cW at hf
   cases hst:st ds[i] ρ' with
   | none=>rw[hst] at hf;cases hf
   | some ρ1=>
    rw[hst] at hf
    dsimp only at hf
    refine .inr ⟨go,fun σ2 H2=>∃ P2 F2 ρ2,Same F1 F2∧Grow W.t P P2∧Tab W P2∧DInv X.K P2 F2 H2 ρ2 σ2∧cW st g (ds.drop (i+1)) ρ2=some r,fun σ2 H2 ⟨P2,F2,ρ2,s2,g2,T2,I2,hf2⟩=>⟨ds.length-(i+1),by omega,rfl,hlt,P2,F2,ρ2,s2,g2,T2,I2,hf2⟩,fun x H2 hy=>?_⟩
    obtain⟨F2,ev20,rx⟩:=yl x H2 hy
    have ev2:Evo P' F' H' F2 H2:=ev20.change I'.toDHp
    refine⟨P',F2,ρ',ds[i],ρ1,hst,I'.evo ev2,rx,fun σ3 F3 H3 ev3 I3 _ _=>?_⟩
    have s13:Same F1 F3:=se.trans (ev2.ext.trans ev3.ext)
    cases hb':g ρ1 with
    | none=>rw[hb'] at hf;cases hf
    | some res=>
     rw[hb'] at hf
     refine⟨P',F3,ρ1,res,hb',I3,T',?_⟩
     cases res with
     | nx ρ4=>exact fun σ4 P4 F4 H4 e4 g4 T4 I4=>⟨P4,F4,ρ4,s13.trans e4,gr.trans g4,T4,I4,hf⟩
     | ct ρ4=>exact fun σ4 P4 F4 H4 e4 g4 T4 I4=>⟨P4,F4,ρ4,s13.trans e4,gr.trans g4,T4,I4,hf⟩
     | bk ρ4=>
      cases hf
      exact fun σ4 P4 F4 H4 e4 g4 T4 I4=>k σ4 P4 F4 H4 (ev.ext.trans (s13.trans e4)) (gr.trans g4) T4 I4
     | rt x4 ρ4=>
      cases hf
      exact fun v4 σ4 P4 F4 H4 e4 g4 T4 I4 r4=>k v4 σ4 P4 F4 H4 (ev.ext.trans (s13.trans e4)) (gr.trans g4) T4 I4 r4
  ·have hz:ds.drop i=[]:=ZQ (by omega)
   rw[hz] at hf
   cases hf
   exact .inl ⟨ok2 (by omega),k σ' P' F' H' (ev.ext.trans se) gr T' I'⟩
end
structure FunD (K:PySem.W.Frag) (x qual:Str) (st:Stmt) (f:Addr) (fd:FuncData):Prop where
 ex:∃ (oc:Value) (od:Option Addr) (T:Addr) (kV doc pm:Value) (an:Option Addr) (cdv ct:Value) (osl:Array (Option Value)) (ot:Obj) (nt:Nat),
  fd=fnOf x qual (defArgs st) (defBody st) (defScope st) (.ref T) kV doc pm an cdv ct∧K.lookup f=some ⟨oc,od,.func fd,osl⟩∧codeIn K cdv qual=true∧K.lookup T=some ot∧ot.data=.seq #[Value.none] nt
 kp:keepIn K (.ref f)=true
theorem FunD.binds {K:Kq}{x qual:Str}{st:Stmt}{f:Addr}{fd:FuncData}{ps:List Str}(F:FunD K x qual st f fd)
  (h:∀ (T:Addr) (kV doc pm:Value) (an:Option Addr) (cdv ct:Value) (us:List Value),us.length+1=ps.length→∃ k:Option (Array Value)→Sem (List (Str×Value)),bindArgs (fnOf x qual (defArgs st) (defBody st) (defScope st) (.ref T) kV doc pm an cdv ct) ⟨us,[]⟩=seqItems? (.ref T)>>=k∧k (some #[Value.none])=pure (ps.zip (us++[Value.none]))):Binds K fd ps [Value.none]:=by
 obtain⟨oc,od,T,kV,doc,pm,an,cdv,ct,osl,ot,nt,rfl,lk,hcd,lt,dt⟩:=F.ex
 intro s us KX hl
 obtain⟨k,h1,h2⟩:=h T kV doc pm an cdv ct us (by rw[Ym,YX] at hl;exact hl)
 exact BindsTo.of_defaults rfl (KX _ _ lt) dt h1 h2
def qh (P:Program)(w:World)(K:Kq)(mg:Ks)(base:Heap)(k:Nat)(f:Addr)(fd:FuncData)(ps:List Str)(sp:List Env→Shared→Sp):Prop:=
 ∀ (A:Around) (outer:List Env) (s:Shared) (H:Hp) (args:Args) (us:List Value) (vs:List V) (Q:VK) (E:XK),Room k A→Env0 P w K mg base A outer s H→BindsTo s fd args (ps.zip us)→Vals vs us→vs.length=ps.length→sp outer s vs H Q E→
  codeAny (model P w) A (.call (.ref f) args) (CR CX0 outer P w H s Q E) s
theorem wu {P:Program}{w:World}{K:Kq}{mg:Ks}{base:Heap}{k:Nat}{f:Addr}{name qual:Str}{params:Arguments}{body:List Stmt}{scope:Scope}{dV kV doc pm cdv ct oc:Value}{an od:Option Addr}
  {osl:Array (Option Value)} {N ps:List Str} {sp:List Env→Shared→Sp} (lk:K.lookup f=some ⟨oc,od,.func (fnOf name qual params body scope dV kV doc pm an cdv ct),osl⟩) (hcd:codeIn K cdv qual=true) (S:FnScope N ps scope)
  (hbody:∀ (A:Around) (outer:List Env) (s:Shared) (H:Hp) (vs:List V) (Q:VK) (E:XK),Room k (A.deeper (envOfC qual scope s.heap.objs.size f cdv))→sp outer s vs H Q E→
   ∃ t,PSs (eh CX0 P w K mg base N qual scope f cdv A outer s H E) body t∧t { nx:=fun _ H'=>Q .non H',rt:=Q } (start N vs) H) :
  qh P w K mg base (k+1) f (fnOf name qual params body scope dV kV doc pm an cdv ct) ps sp:=by
 intro A outer s H args us vs Q E hr e0 hb r hl hsp
 have KX:K.In s.heap:=e0.mod.kin.keeps fun b o e=>(e0.bs b o e).1
 have lim:s.heap.NoLimit:=e0.mod.nolimit.keeps fun b o e=>(e0.bs b o e).1
 have hkind:∀ y∈ps.zip us,scope.names.lookup y.1=some .local∨(scope.names.lookup y.1=some .cell∧((cellsFrom (s.heap.objs.size+1) scope.names []).lookup y.1).isSome=true):=fun ⟨n,v⟩ hy=>by
  rcases S.par n (Xy hy).1 with q | q
  ·exact .inl q
  ·exact .inr ⟨q,cellsFrom_some _ _ _ (.inl q)⟩
 refine codeAny_call_function hr.depth (KX _ _ lk) rfl S.co S.gen rfl (codeRec_of KX hcd) (hb _ _ _ _ ?_)
 refine wpAny_newFunctionEnv_cells S.kind hkind fun env he s1 x=>?_
 subst he
 refine⟨lim.keeps x.toInCall.keep,codeAny_func ?_⟩
 obtain⟨t,ht,hq⟩:=hbody A outer s H vs Q E (hr.deeper _) hsp
 have I:Inv (eh CX0 P w K mg base N qual scope f cdv A outer s H E) [] (start N vs) H s1:=ja S hr.hd e0 hl r x
 refine Zv (ht [] s1 (start N vs) H _ I hq) (fun fl s' hs=>?_) fun e s' hs=>hs
 have fin:∀ {σ':St} {H':Hp} {v:V} {u:Value},Inv (eh CX0 P w K mg base N qual scope f cdv A outer s H E) [] σ' H' s'→RelV v u→Q v H'→CE outer P w H s Q u s':=
  fun {σ' H' v u} J rv q=>⟨v,H',J.os,J.bare,J.base,J.hok,rv,q⟩
 cases fl with
 | ret u=>
  obtain⟨v,σ',H',J,rv,q⟩:=hs
  exact fin J rv q
 | next=>
  obtain⟨σ',H',J,q⟩:=hs
  exact fin (v:=V.non) (u:=Value.none) J rfl q
 | brk=>
  obtain⟨_,_,_,q⟩:=hs
  exact False.elim q
 | cont=>
  obtain⟨_,_,_,q⟩:=hs
  exact False.elim q
structure LamNow (W:LamW) (f c' c:Addr) (uc:Value) (outer:List Env) (s:Shared) (H:Hp):Prop where
 lam:lR W.L f c' c s.heap
 fH:H f=none
 ff:f∉frs outer
 cl:s.heap.IsCell c (some uc)
 cH:H c=none
 cf:c∉frs outer
 cd:∃ o u,H c'=some (.frz o u)∧∃ vs t,o.data=.fields vs∧vs[1]?=some (.str W.L.qual t)
def spR (W:LamW)(K:Kq)(n:Nat)(gR:Addr→V→D→DF→Option RES):List Env→Shared→Sp:=fun outer s vs H Q _=>∃ f c' c uc vc dc v0 v2 x0 x2 x P F,vs=[v0,.ref f,v2]∧LamNow W f c' c uc outer s H∧RelV vc uc ∧
 bV (gR f vc dc (aE n 3 [x0,.v (.fn f vc dc),x2]))=some x∧DHp P F H∧DVs K P F H [x0,.v (.fn f vc dc),x2] vs∧∀ v F' H',Same F F'→DHp P F' H'→DVRep K P F' H' ia x v→Q v H'
theorem FunD.okR {W:LamW}{P:Program}{w:World}{K:Kq}{mg:Ks}{base:Heap}{x qual:Str}{st:Stmt}{f0:Addr}{fd:FuncData}{N ps:List Str}{k:Nat}{gR:Addr→V→D→DF→Option RES}(F:FunD K x qual st f0 fd)(S:FnScope N ps (defScope st))(h3:ps.length=3)
  (hbody:∀ (cdv:Value) (A:Around) (outer:List Env) (s:Shared) (H:Hp) (E:XK) (f c' c:Addr) (uc:Value) (vc:V) (dc:D),Room k (A.deeper (envOfC qual (defScope st) s.heap.objs.size f0 cdv))→
   LamIn (eh CX0 P w K mg base N qual (defScope st) f0 cdv A outer s H E).nox W.L f c' c uc→RelV vc uc→PDS (eh CX0 P w K mg base N qual (defScope st) f0 cdv A outer s H E).nox (defBody st) (gR f vc dc)):qh P w K mg base (k+1) f0 fd ps (spR W K N.length gR):=by
 obtain⟨oc,od,T,kV,doc,pm,an,cdv,ct,osl,ot,nt,rfl,lk,hcd,lt,dt⟩:=F.ex
 refine wu lk hcd S fun A outer s H vs Q E hr h=>?_
 obtain⟨f,c',c,uc,vc,dc,v0,v2,x0,x2,x,P',F',rfl,ln,rc,hg,hp,hv,hQ⟩:=h
 have li:LamIn (eh CX0 P w K mg base N qual (defScope st) f0 cdv A outer s H E).nox W.L f c' c uc:=⟨ln.lam,ln.fH,ln.ff,(fun z=>absurd (show f∈([]:List Addr) from z) (by simp)),ln.cl,ln.cH,ln.cf,(fun z=>absurd (show c∈([]:List Addr) from z) (by simp)),ln.cd⟩
 refine⟨_,PSs.nox (hbody cdv A outer s H E f c' c uc vc dc hr li rc),?_⟩
 have I:DInv K P' F' H (aE N.length 3 [x0,.v (.fn f vc dc),x2]) (start N [v0,.ref f,v2]):=DInv.start N 3 hp hv rfl
 cases q:gR f vc dc (aE N.length 3 [x0,.v (.fn f vc dc),x2]) with
 | none=>rw[q] at hg;cases hg
 | some r=>
  rw[q] at hg
  refine⟨P',F',_,r,q,I,?_⟩
  cases r with
  | rt y ρ=>cases hg;exact fun v σ F2 H2 e h r=>hQ v F2 H2 e h.toDHp r
  | nx ρ=>cases hg;exact fun σ F2 H2 e h=>hQ .non F2 H2 e h.toDHp .non
  | bk ρ=>cases hg
  | ct ρ=>cases hg
def xk (W:LamW)(K:Kq)(n j:Nat)(gR:Addr→V→D→DF→Option RES)(te:TE):TE:=fun σ H Q=>te σ H fun v0 H1=>∃ M,xy W M H1∧∀ f c' H2,Grow W.t H1 H2→qp W c' H2→M c'→H2 f=none→
 ∃ vc dc x0 x P F,σ[j]?=some (some vc)∧bV (gR f vc dc (aE n 3 [x0,.v (.fn f vc dc),.v .non]))=some x∧DHp P F H2∧DVs K P F H2 [x0,.v (.fn f vc dc),.v .non] [v0,.ref f,.non]∧∀ v F' H',Same F F'→DHp P F' H'→DVRep K P F' H' ia x v→Q v H'
section
variable {X:Cx} {W:LamW} {k n j:Nat} {f0 c0 c:Addr} {fd:FuncData} {ps:List Str} {gR:Addr→V→D→DF→Option RES} {x:Str} {p pos:Pos} {e:Expr} {te:TE}
theorem sJ (R:qh X.prog X.w X.K X.mg X.base k f0 fd ps (spR W X.K n gR))(h3:ps.length=3)(hr:Room k X.A)(hg:Gl X x)(hm:X.mg x=some (.ref f0))(hk:keepIn X.K (.ref f0)=true)(hb:Binds X.K fd ps [Value.none])(ha:PE X e te)
  (hcl:closureFor W.L.scope X.env=pure [(W.L.x,c)]) (hcc:X.env.cells.lookup W.L.x=some c) (hck:X.env.kindOf W.L.x=some .cell) (hfn:X.fn W.L.x=true) (hj:X.N[j]?=some W.L.x) (hco:X.env.code=.ref c0) (hch:codeHdIn X.K c0 W.t=true) (hq:X.env.qual++Str.ofString "<lambda>"=W.L.qual) (hdf:defaultsOf W.L.params X.env=([],[])) (hbl:X.base.BuiltinsAt X.mg W.t)
  (hd:(x == ("__debug__":Str))=false:=by decide) (he:starEach [e,.Lambda W.L.params W.L.body W.L.scope W.pos] X.env=(false,eval e X.env)::starEach [.Lambda W.L.params W.L.body W.L.scope W.pos] X.env:=by rfl)
  (he1:starEach [.Lambda W.L.params W.L.body W.L.scope W.pos] X.env=(false,eval (.Lambda W.L.params W.L.body W.L.scope W.pos) X.env)::starEach [] X.env:=by rfl) (hpl:(backTo pos (starEach [.Lambda W.L.params W.L.body W.L.scope W.pos] X.env)).any (·.1)=false:=by rfl) :
  PE X (.Call (.Name x p) [e,.Lambda W.L.params W.L.body W.L.scope W.pos] [] pos) (xk W X.K n j gR te):=by
 intro pz s σ H Q I h
 refine ZB (gH I hg hm ?_ hd)
 refine callWith_K (h₀:=X.base) I.ok.mod.kin hk ?_ he hpl
 rw[he]
 show wpAny _ _ (spliced ((false,eval e X.env)::backTo pos (starEach [.Lambda W.L.params W.L.body W.L.scope W.pos] X.env))) _ _ s
 refine ZR (aG (ha pz s σ H _ I h) fun u0 s1 v0 H1 I1 r1 q1=>?_)
 obtain⟨M,T1,q1⟩:=q1
 rw[he1]
 show wpAny _ _ (spliced ((false,eval (.Lambda W.L.params W.L.body W.L.scope W.pos) X.env)::backTo pos (starEach [] X.env))) _ _ s1
 refine ZR (qS I1 T1 hcl hco hch hq hdf hbl fun f c' H2 s2 I2 hf2 la wa hM gr kp hfs=>?_)
 refine Calls.spliced_nil ⟨I2.kIn,?_⟩
 obtain⟨vc,dc,x0,x',P,F,hσ,hret,hp,hv,hQ⟩:=q1 f c' H2 gr wa hM hf2
 obtain⟨m,hn,hl⟩:=I2.loc
 obtain⟨uc,rc,look⟩:=hl j W.L.x vc hj hσ (.inr (.inl hck))
 have hcell:s2.heap.IsCell c (some uc):=by
  rcases look with⟨z,_⟩ | ⟨_,c1,e1,e2⟩
  ·rw[hck] at z;cases z
  ·rw[hcc] at e1;cases e1;exact e2
 have inS:∀ b∈frs X.stack,b<s1.heap.objs.size∧(b=X.env.locals∨b<X.s₀.heap.objs.size):=fun b hb=>by
  rcases Yy.mp (I1.stkSub b hb) with z | z
  ·subst z;exact⟨I1.lt,.inl rfl⟩
  ·obtain⟨_,o,ho,_⟩:=I1.ok.funs.mem z
   exact⟨Yk (Yp ho) I1.sz,.inr (Yp ho)⟩
 have ln:LamNow W f c' c uc X.stack s2 H2:=by
  refine⟨la,hf2,fun z=>absurd (Yk (inS f z).1 hfs) (YQ _),hcell,I2.freeC _ _ hcc,fun z=>?_,?_⟩
  ·rcases (inS c z).2 with y | y
   ·exact I2.cne _ _ hcc y
   ·exact absurd (Yk y (I2.ok.cab _ _ hfn hcc)) (YQ _)
  ·obtain⟨_,o,h1,h2⟩:=wa
   exact⟨o,_,h1,h2⟩
 have rv:Vals [v0,.ref f,.non] ([u0,.ref f]++[Value.none]):=.cons r1 (.cons rfl (.cons rfl .nil))
 have hlen:([u0,Value.ref f]++[Value.none]).length=ps.length:=h3.symm
 refine wpAny_call (Xa (R X.A X.stack s2 H2 ⟨[u0,.ref f],[]⟩ _ [v0,.ref f,.non] Q E0 hr I2.env0 (hb s2 [u0,.ref f] I2.kIn hlen) rv h3.symm ⟨f,c',c,uc,vc,dc,v0,.non,x0,.v .non,x',P,F,rfl,ln,rc,hret,hp,hv,hQ⟩) fun r s' hq'=>?_)
 cases r with
 | error e=>exact False.elim hq'
 | ok fl=>
  cases fl with
  | ret u=>exact I2.after hq'
  | next=>exact False.elim hq'
  | brk=>exact False.elim hq'
  | cont=>exact False.elim hq'
end
theorem Tab.sub {W:LamW}{P H:Hp}(T:Tab W P)(s:Same P H):Tab W H:=by
 rcases T with h | ⟨c',h,o,h1,h2⟩
 ·exact .inl (s _ _ h)
 ·exact .inr ⟨c',s _ _ h,o,s _ _ h1,h2⟩
theorem Tab.free {W:LamW}{P F H:Hp}(T:Tab W P)(h:DHp P F H):xy W (fun c'=>F c'=none) H:=by
 rcases T with e | ⟨c',e,o,h1,h2⟩
 ·exact .inl ⟨h.pro _ _ e,fun c' q=>h.sub.free q⟩
 ·exact .inr ⟨c',⟨h.pro _ _ e,o,h.pro _ _ h1,h2⟩,h.dis _ _ h1⟩
theorem Tab.out {W:LamW}{P F H:Hp}(T:Tab W P)(h:DHp P F H):F W.t=none:=by obtain⟨φ,e⟩:=T.ext;exact h.dis _ _ e
theorem sW {W:LamW}{P F H F1 H1 H2 F3 H3:Hp}{c':Addr}(hp:DHp P F H)(T:Tab W P)(ev:Evo P F H F1 H1)(gr:Grow W.t H1 H2)(wa:qp W c' H2)(hM:F1 c'=none)(e3:Same F1 F3)(h3:DHp (gd F1 H2) F3 H3):Grew W F H F3 H3 (gd F1 H2) where
 ext:=ev.ext.trans e3
 hp:=h3
 old:=fun a o n e hf=>by
  obtain⟨k1,k2⟩:=ev.keep a o e hf
  exact cN.mpr ⟨k2,gr.old a o n k1⟩
 tab:=by
  obtain⟨h1,o,h2,h4⟩:=wa
  exact .inr ⟨c',cN.mpr ⟨T.out ev.hp,h1⟩,o,cN.mpr ⟨hM,h2⟩,h4⟩
noncomputable def c9 (n:Nat)(gR:Addr→V→D→DF→Option RES)(dc d0:D):Option (List D):=
 open Classical in if h:∃ ds:List D,∀ f vc,bV (gR f vc dc (aE n 3 [.v d0,.v (.fn f vc dc),.v .non]))=some (.own (.lst ds) none) then some h.choose else none
theorem oG {n:Nat}{gR:Addr→V→D→DF→Option RES}{dc d0:D}{ds:List D}(h:c9 n gR dc d0=some ds):∀ f vc,bV (gR f vc dc (aE n 3 [.v d0,.v (.fn f vc dc),.v .non]))=some (.own (.lst ds) none):=by
 unfold c9 at h
 split at h
 ·rename_i q
  rw[← Yt h]
  exact q.choose_spec
 ·cases h
theorem oX {n:Nat}{gR:Addr→V→D→DF→Option RES}{dc d0:D}{ds:List D}(h:∀ f vc,bV (gR f vc dc (aE n 3 [.v d0,.v (.fn f vc dc),.v .non]))=some (.own (.lst ds) none)):c9 n gR dc d0=some ds:=by
 have q:∃ ds:List D,∀ f vc,bV (gR f vc dc (aE n 3 [.v d0,.v (.fn f vc dc),.v .non]))=some (.own (.lst ds) none):=⟨ds,h⟩
 unfold c9
 rw[dif_pos q]
 have z:=q.choose_spec 0 .non
 rw[h 0 .non] at z
 exact ZA some (OD.lst.inj (DV.own.inj (Yt z)).1).symm
noncomputable def gZ (i j n:Nat)(gR:Addr→V→D→DF→Option RES)(fe:Dd):DF→Option RES:=fun ρ=>(fe ρ).bind fun d0=>(getV j ρ).bind fun dc=>(c9 n gR dc d0).bind fun ds=>if bO ds=true then some (.nx (ρ.set i (some (.own (.lst (bg ds)) none)))) else none
section
variable {X:Cx} {W:LamW} {k n i j:Nat} {f0 c0 c:Addr} {fd:FuncData} {ps:List Str} {gR:Addr→V→D→DF→Option RES} {x y:Str} {p p1 pos pos1 pos2 pos':Pos} {e:Expr} {fe:Dd}
theorem qd (hN:X.N.Nodup)(hi:X.N[i]?=some y)(hx:Loc X.env.scope y)(hu:X.A.units+64<cLine)(hgs:Gl X "sorted")(hms:X.mg "sorted"=none)
  (R:qh X.prog X.w X.K X.mg X.base k f0 fd ps (spR W X.K n gR)) (h3:ps.length=3) (hr:Room k X.A) (hg:Gl X x) (hm:X.mg x=some (.ref f0)) (hk:keepIn X.K (.ref f0)=true) (hb:Binds X.K fd ps [Value.none]) (ha:PDE X e fe)
  (hcl:closureFor W.L.scope X.env=pure [(W.L.x,c)]) (hcc:X.env.cells.lookup W.L.x=some c) (hck:X.env.kindOf W.L.x=some .cell) (hfn:X.fn W.L.x=true) (hj:X.N[j]?=some W.L.x) (hco:X.env.code=.ref c0) (hch:codeHdIn X.K c0 W.t=true) (hq:X.env.qual++Str.ofString "<lambda>"=W.L.qual) (hdf:defaultsOf W.L.params X.env=([],[])) (hbl:X.base.BuiltinsAt X.mg W.t)
  (hd:(x == ("__debug__":Str))=false:=by decide) (he:starEach [e,.Lambda W.L.params W.L.body W.L.scope W.pos] X.env=(false,eval e X.env)::starEach [.Lambda W.L.params W.L.body W.L.scope W.pos] X.env:=by rfl)
  (he1:starEach [.Lambda W.L.params W.L.body W.L.scope W.pos] X.env=(false,eval (.Lambda W.L.params W.L.body W.L.scope W.pos) X.env)::starEach [] X.env:=by rfl) (hpl:(backTo pos (starEach [.Lambda W.L.params W.L.body W.L.scope W.pos] X.env)).any (·.1)=false:=by rfl)
  (hss:starEach [.Call (.Name x p) [e,.Lambda W.L.params W.L.body W.L.scope W.pos] [] pos] X.env=[(false,eval (.Call (.Name x p) [e,.Lambda W.L.params W.L.body W.L.scope W.pos] [] pos) X.env)]:=by rfl) (hpl2:(backTo pos1 (starEach [] X.env)).any (·.1)=false:=by rfl)
  (hsw:swapsWith (.Call (.Name "sorted" p1) [.Call (.Name x p) [e,.Lambda W.L.params W.L.body W.L.scope W.pos] [] pos] [] pos1) (some (.Name y pos')) pos2.line X.env=pure false:=by rfl) (hf5:X.fn y=true∨X.env.scope.names.lookup y=some .local:=by first | exact .inl rfl | exact .inr rfl | assumption) :
  PT1 X W (.Assign [.Name y pos'] (.Call (.Name "sorted" p1) [.Call (.Name x p) [e,.Lambda W.L.params W.L.body W.L.scope W.pos] [] pos] [] pos1) pos2) (gZ i j n gR fe):=
 PS.imp (j4 hN hi hx (c7 (gm hu) hgs hms gc (ar (sJ R h3 hr hg hm hk hb ha hcl hcc hck hfn hj hco hch hq hdf hbl hd he he1 hpl) aQ hss) (by decide) (by decide) hss hpl2) hsw hf5) fun E σ H ⟨P,F,ρ,r,hr,I,T,k⟩=>by
  unfold gZ at hr
  cases q0:fe ρ with
  | none=>rw[q0] at hr;cases hr
  | some d0=>
  cases q1:getV j ρ with
  | none=>rw[q0,q1] at hr;cases hr
  | some dc=>
  cases q2:c9 n gR dc d0 with
  | none=>rw[q0,q1,Ya,Ya,q2] at hr;cases hr
  | some ds=>
  rw[q0,q1,Ya,Ya,q2,Ya] at hr
  split at hr
  ·rename_i ok
   cases hr
   refine⟨P,F,ρ,d0,q0,I,fun v0 F1 H1 ev r0=>⟨fun c'=>F1 c'=none,T.free ev.hp,fun f c' H2 gr wa hM hf2=>?_⟩⟩
   obtain⟨vc,g1,g2⟩:=I.at (oh q1)
   have ft:F1 W.t=none:=T.out ev.hp
   have sub2:Same F1 H2:=fun a o e=>gr.old a o (fun z=>by subst z;rw[ft] at e;cases e) (ev.hp.sub a o e)
   refine⟨vc,dc,.v d0,.own (.lst ds) none,gd F1 H2,F1,g1,oG q2 f vc,dw sub2,.cons rfl r0 (.cons rfl (.fn (Rep.same ev.ext g2)) (.cons rfl .non .nil)),fun v F3 H3 e3 h3 r3=>?_⟩
   obtain⟨a,rfl,⟨⟨a1,a2,_⟩,u,a3,a4⟩,_⟩:=r3
   cases u with
   | lst vs=>
    have rr:Reps X.K F3 vs ds:=a4
    refine⟨a,vs,ds,rfl,.inl (SqL.of a3),Reps.same h3.sub rr,ok,fun l pp hl b1 b2 b3=>?_⟩
    have hl3:=h3.free hl
    have h4:DHp (gd F1 H2) F3 (upd H3 l (.lst (pp.map fun i=>vs.getD i .non))):=(Evo.side h3 hl).hp
    have g:=sW I.toDHp T ev gr wa hM e3 h4
    have out:Reps X.K F3 (pp.map fun i=>vs.getD i .non) (bg ds):=by
     by_cases hn:ds=[]
     ·subst hn
      have:pp=[]:=Xg.mp b2
      rw[this]
      exact .nil
     ·rw[← b3]
      exact rr.perm hn pp b1
    exact k _ _ F3 _ g.ext (g.grow I.toDHp) g.tabP (g.setO I T (i:=i) (o:=.lst (bg ds)) ⟨⟨hl3.1,hl3.2⟩,_,aq,out⟩)
   | _=>exact a4.elim
  ·cases hr
end
def spT (W:LamW)(K:Kq)(m:Dm):Sp:=fun vs H Q _=>∃ P F xs x,m xs=some x∧DHp P F H∧Tab W P∧DVs K P F H xs vs∧∀ v P' F' H',Same F F'→Grow W.t P P'→Tab W P'→DHp P' F' H'→DVRep K P' F' H' ia x v→Q v H'
structure FunC (K:PySem.W.Frag) (x qual:Str) (st:Stmt) (f:Addr) (fd:FuncData) (c0:Addr):Prop where
 ex:∃ (oc:Value) (od:Option Addr) (kV doc pm:Value) (an:Option Addr) (ct:Value) (osl:Array (Option Value)),
  fd=fnOf x qual (defArgs st) (defBody st) (defScope st) .none kV doc pm an (.ref c0) ct∧K.lookup f=some ⟨oc,od,.func fd,osl⟩∧codeIn K (.ref c0) qual=true
 kp:keepIn K (.ref f)=true
theorem FunC.f {K:Kq}{x qual:Str}{st:Stmt}{f c0:Addr}{fd:FuncData}(F:FunC K x qual st f fd c0):Fun K x qual st f fd:=by
 obtain⟨oc,od,kV,doc,pm,an,ct,osl,h⟩:=F.ex
 exact⟨⟨oc,od,kV,doc,pm,an,.ref c0,ct,osl,h⟩,F.kp⟩
theorem lh {W:LamW}{K:Kq}{N ps:List Str}{g:Dw}{vs:List V}{H:Hp}{Q:VK}{E:XK}(h:spT W K (mOf N.length ps.length g) vs H Q E):tST W K g { nx:=fun _ H'=>Q .non H',rt:=Q } (start N vs) H:=by
 obtain⟨P',F',xs,x',hm,hp,T,hv,hQ⟩:=h
 unfold mOf at hm
 split at hm
 ·rename_i hl
  have I:DInv K P' F' H (aE N.length ps.length xs) (start N vs):=DInv.start N ps.length hp hv hl
  cases q:g (aE N.length ps.length xs) with
  | none=>rw[q] at hm;cases hm
  | some r=>
   rw[q] at hm
   refine⟨P',F',_,r,q,I,T,?_⟩
   cases r with
   | rt y ρ=>cases hm;exact fun v σ P2 F2 H2 e g T2 h r=>hQ v P2 F2 H2 e g T2 h.toDHp r
   | nx ρ=>cases hm;exact fun σ P2 F2 H2 e g T2 h=>hQ .non P2 F2 H2 e g T2 h.toDHp .non
   | bk ρ=>cases hm
   | ct ρ=>cases hm
 ·cases hm
theorem oq {W:LamW}{K:Kq}{n p:Nat}{g:Dw}:∀ vs H Q E,spT W K (mOf n p g) vs H Q E→vs.length=p:=fun vs H Q E hh_=>by
 obtain⟨P',F',xs,x',hm,hp,T,hv,_⟩:=hh_
 unfold mOf at hm
 split at hm
 ·rename_i h;rw[← hv.length];exact h
 ·cases hm
theorem Fun.okT {W:LamW}{P:Program}{w:World}{K:Kq}{mg:Ks}{base:Heap}{x qual:Str}{st:Stmt}{f:Addr}{fd:FuncData}{N ps:List Str}{k:Nat}{g:Dw}(F:Fun K x qual st f fd)(S:FnScope N ps (defScope st))
  (hbody:∀ (cdv:Value) (A:Around) (outer:List Env) (s:Shared) (H:Hp) (E:XK),Room k (A.deeper (envOfC qual (defScope st) s.heap.objs.size f cdv))→
   PTS (eh CX0 P w K mg base N qual (defScope st) f cdv A outer s H E).nox W (defBody st) g):FnOk P w K mg base CX0 (k+1) f fd ps (spT W K (mOf N.length ps.length g)):=
 F.ok S oq fun cdv A outer s H vs Q E hr h=>⟨_,hbody cdv A outer s H E hr,lh h⟩
theorem FunC.okT {W:LamW}{P:Program}{w:World}{K:Kq}{mg:Ks}{base:Heap}{x qual:Str}{st:Stmt}{f c0:Addr}{fd:FuncData}{N ps:List Str}{k:Nat}{g:Dw}(F:FunC K x qual st f fd c0)(S:FnScope N ps (defScope st))
  (hbody:∀ (A:Around) (outer:List Env) (s:Shared) (H:Hp) (E:XK),Room k (A.deeper (envOfC qual (defScope st) s.heap.objs.size f (.ref c0)))→
   PTS (eh CX0 P w K mg base N qual (defScope st) f (.ref c0) A outer s H E).nox W (defBody st) g):FnOk P w K mg base CX0 (k+1) f fd ps (spT W K (mOf N.length ps.length g)):=by
 obtain⟨oc,od,kV,doc,pm,an,ct,osl,rfl,lk,hcd⟩:=F.ex
 exact vE lk hcd S oq fun A outer s H vs Q E hr h=>⟨_,PSs.nox (hbody A outer s H E hr),lh h⟩
theorem Tab.gd {W:LamW}{P F H:Hp}(T:Tab W P)(h:DHp P F H):Tab W (gd F H):=T.sub fun a o e=>cN.mpr ⟨h.dis a o e,h.pro a o e⟩
theorem jg {W:LamW}{P F H F1 H1 F2 H2 c:Hp}(ev:Evo P F H F1 H1)(e2:Same F1 F2)(gr:Grow W.t (gd F1 H1) c)(Tc:Tab W c)(h2:DHp c F2 H2):Grew W F H F2 H2 c where
 ext:=ev.ext.trans e2
 hp:=h2
 old:=fun a o n e hf=>by
  obtain⟨k1,k2⟩:=ev.keep a o e hf
  exact gr.old a o n (cN.mpr ⟨k2,k1⟩)
 tab:=Tc
theorem Grew.frz {W:LamW}{F H F' H' c:Hp}(g:Grew W F H F' H' c):Grew W F H (pA F' H' fun b=>F' b=none∧c b=none) H' c where
 ext:=g.ext.trans (a9 fun _ q=>q.1)
 hp:=⟨fun b u h=>by
   by_cases q:F' b=none∧c b=none
   ·rw[bX (ow:=fun b=>F' b=none∧c b=none) q] at h;exact h
   ·rw[cy (ow:=fun b=>F' b=none∧c b=none) q] at h;exact g.hp.sub b u h,g.hp.pro,fun b u h=>by
   rw[cy (ow:=fun b=>F' b=none∧c b=none) fun q=>by rw[q.2] at h;cases h];exact g.hp.dis b u h⟩
 old:=g.old
 tab:=g.tab
def tDT (W:LamW)(K:Kq)(f:Dd):TE:=fun σ H Q=>∃ P F ρ d,f ρ=some d∧DInv K P F H ρ σ∧Tab W P∧∀ v P' F' H',Same F F'→Grow W.t P P'→Tab W P'→DInv K P' F' H' ρ σ→Rep K F' v d→Q v H'
def tBT (W:LamW)(K:Kq)(f:Dk):TT:=fun σ H Q=>∃ P F ρ b,f ρ=some b∧DInv K P F H ρ σ∧Tab W P∧∀ P' F' H',Same F F'→Grow W.t P P'→Tab W P'→DInv K P' F' H' ρ σ→Q b H'
def PET (X:Cx)(W:LamW)(e:Expr)(f:Dd):Prop:=PE X e (tDT W X.K f)
def PTT (X:Cx)(W:LamW)(e:Expr)(f:Dk):Prop:=PT X e (tBT W X.K f)
section
variable {X:Cx} {W:LamW} {k i:Nat} {f:Addr} {fd:FuncData} {ps:List Str} {m:Dm} {x y:Str} {p pos pos' pos2:Pos} {e:Expr} {es:List Expr} {g:Dv} {f0:Dd}
theorem ug (hN:X.N.Nodup)(hi:X.N[i]?=some y)(hx:Loc X.env.scope y)(F:FnOk X.prog X.w X.K X.mg X.base CX0 k f fd ps (spT W X.K m))(hr:Room k X.A)(hg:Gl X x)(hm:X.mg x=some (.ref f))(hk:keepIn X.K (.ref f)=true)(hb:Binds X.K fd ps [])(ha:gv X (e::es) g)
  (hd:(x == ("__debug__":Str))=false:=by decide) (he:starEach (e::es) X.env=(false,eval e X.env)::starEach es X.env:=by rfl) (hpl:(backTo pos (starEach es X.env)).any (·.1)=false:=by rfl)
  (hsw:swapsWith (.Call (.Name x p) (e::es) [] pos) (some (.Name y pos')) pos2.line X.env=pure false:=by rfl) (hf5:X.fn y=true∨X.env.scope.names.lookup y=some .local:=by first | exact .inl rfl | exact .inr rfl | assumption) :
  PT1 X W (.Assign [.Name y pos'] (.Call (.Name x p) (e::es) [] pos) pos2) (bf i (iw m g)):=
 PS.imp (j4 hN hi hx (eY F hr hg hm hk hb .nil gq ha hd he hpl) hsw hf5) fun E σ H ⟨P,F,ρ,r,hr,I,T,k⟩=>by
  unfold bf iw at hr
  cases q:g ρ with
  | none=>rw[q] at hr;cases hr
  | some xs=>
   rw[q,Ya] at hr
   cases q2:m xs with
   | none=>rw[q2] at hr;cases hr
   | some x=>
    rw[q2,Ya] at hr
    cases x with
    | own o t=>
     cases hr
     refine⟨P,F,ρ,xs,q,I,fun vs F1 H1 e1 r1=>?_⟩
     have I1:=I.evo e1
     refine⟨gd F1 H1,F1,xs,_,q2,dw I1.sub,T.gd I1.toDHp,by rw[YT];exact r1.dvs I1,fun v c F2 H2 e2 gr Tc h2 r2=>?_⟩
     obtain⟨a,rfl,ho,_⟩:=r2
     have gw:=jg e1 e2 gr Tc h2
     exact k _ _ F2 H2 gw.ext (gw.grow I.toDHp) gw.tabP (gw.setO I T (ho.mono (Same.refl _) fun b u q hb=>⟨hb,q.1,q.2.1⟩))
    | v d=>cases hr
    | bor o=>cases hr
theorem qV (F:FnOk X.prog X.w X.K X.mg X.base CX0 k f fd ps (spT W X.K m))(hr:Room k X.A)(hg:Gl X x)(hm:X.mg x=some (.ref f))(hk:keepIn X.K (.ref f)=true)(hb:Binds X.K fd ps [])(ha:gv X (e::es) g)
  (hd:(x == ("__debug__":Str))=false:=by decide) (he:starEach (e::es) X.env=(false,eval e X.env)::starEach es X.env:=by rfl) (hpl:(backTo pos (starEach es X.env)).any (·.1)=false:=by rfl):PET X W (.Call (.Name x p) (e::es) [] pos) (am m g):=
 (eY F hr hg hm hk hb .nil gq ha hd he hpl).imp fun σ H Q ⟨P,F,ρ,d,hf,I,T,k⟩=>by
  unfold am at hf
  cases q:g ρ with
  | none=>rw[q] at hf;cases hf
  | some xs=>
   rw[q,Ya] at hf
   cases q2:m xs with
   | none=>rw[q2] at hf;cases hf
   | some x=>
    rw[q2,Ya] at hf
    refine⟨P,F,ρ,xs,q,I,fun vs F1 H1 e1 r1=>?_⟩
    have I1:=I.evo e1
    refine⟨gd F1 H1,F1,xs,x,q2,dw I1.sub,T.gd I1.toDHp,by rw[YT];exact r1.dvs I1,fun v c F2 H2 e2 gr Tc h2 r2=>?_⟩
    have gw:=jg e1 e2 gr Tc h2
    cases x with
    | v d'=>cases hf;exact k v _ F2 H2 gw.ext (gw.grow I.toDHp) gw.tabP (gw.inv I T) r2
    | own o t=>
     cases hf
     obtain⟨a,rfl,ho,_⟩:=r2
     exact k _ _ _ H2 gw.frz.ext (gw.frz.grow I.toDHp) gw.frz.tabP (gw.frz.inv I T) (ho.rep (a9 fun _ q=>q.1) fun b u q hb=>by rw[bX (ow:=fun b=>F2 b=none∧c b=none) ⟨q.1,q.2.1⟩];exact hb)
    | bor o=>cases hf
theorem pc (F:FnOk X.prog X.w X.K X.mg X.base CX0 k f fd ps (spD X.K m))(hr:Room k X.A)(hg:Gl X x)(hm:X.mg x=some (.ref f))(hk:keepIn X.K (.ref f)=true)(hb:Binds X.K fd ps [])(h0:PET X W e f0)(ha:gv X es g)
  (hd:(x == ("__debug__":Str))=false:=by decide) (he:starEach (e::es) X.env=(false,eval e X.env)::starEach es X.env:=by rfl) (hpl:(backTo pos (starEach es X.env)).any (·.1)=false:=by rfl):PET X W (.Call (.Name x p) (e::es) [] pos) (am m (aV f0 g)):=
 (eY F hr hg hm hk hb .nil gq (ar h0 ha he) hd he hpl).imp fun σ H Q ⟨P,F,ρ,d,hf,I,T,k⟩=>by
  unfold am aV at hf
  cases q0:f0 ρ with
  | none=>rw[q0] at hf;cases hf
  | some d0=>
  cases q1:g ρ with
  | none=>rw[q0,Ya,q1] at hf;cases hf
  | some ys=>
  rw[q0,Ya,q1] at hf
  cases q2:m (.v d0::ys) with
  | none=>rw[Ze,Ya,q2] at hf;cases hf
  | some x=>
   rw[Ze,Ya,q2,Ya] at hf
   refine⟨P,F,ρ,d0,q0,I,T,fun v0 P1 F1 H1 e1 g1 T1 I1 r0=>⟨P1,F1,ρ,ys,q1,I1,fun vs F2 H2 e2 r2=>?_⟩⟩
   have I2:=I1.evo e2
   have args:ArgsS X.K ρ σ F2 (.v d0::ys) (v0::vs):=.v (Rep.same e2.ext r0) r2
   refine⟨gd F2 H2,F2,_,x,q2,dw I2.sub,by rw[YT];exact args.dvs I2,fun v F3 H3 e3 hp3 r3=>?_⟩
   have ev:Evo P1 F2 H2 F3 H3:=I2.toDHp.gd e3 hp3
   cases x with
   | v d'=>cases hf;exact k v P1 F3 H3 (e1.trans (e2.ext.trans ev.ext)) g1 T1 (I2.evo ev) r3
   | own o t=>
    cases hf
    obtain⟨a,rfl,ho,_⟩:=r3
    have ho':=kF e3 ho
    have ev':=ev.freeze I2.toDHp (fun b=>H2 b=none∧F3 b=none) fun _ q=>q
    exact k _ P1 _ H3 (e1.trans (e2.ext.trans ev'.ext)) g1 T1 (I2.evo ev') (ho'.rep (a9 fun b q=>q.2) fun b u q hb=>by rw[bX q];exact hb)
   | bor o=>cases hf
theorem tQ (h:PET X W e f0)(he:∀ whole,isTrue e X.env whole=(do let v ← whole;standAt e.pos;holding [v] (truthy v)):=by intro _;rfl):PTT X W e (asB f0):=
 (sI h he).imp fun σ H Q ⟨P,F,ρ,b,hf,I,T,k⟩=>by
  unfold asB at hf
  split at hf
  ·rename_i b' q
   cases hf
   refine⟨P,F,ρ,_,q,I,T,fun v P1 F1 H1 e1 g1 T1 I1 r0=>?_⟩
   cases r0
   exact⟨_,rfl,k P1 F1 H1 e1 g1 T1 I1⟩
  ·cases hf
theorem t5 {fb:Dk}(h:PTT X W e fb):PTT X W (.UnaryOp .Not e pos) (bv fb):=(qD h).imp fun σ H Q ⟨P,F,ρ,r,hf,I,T,k⟩=>by
 unfold bv at hf
 cases q:fb ρ with
 | none=>rw[q] at hf;cases hf
 | some x=>rw[q] at hf;cases hf;exact⟨P,F,ρ,x,q,I,T,fun P1 F1 H1 e1 g1 T1 I1=>k P1 F1 H1 e1 g1 T1 I1⟩
theorem uL {c:Expr}{a b:List Stmt}{fc:Dk}{g h:Dw}(hc:PTT X W c fc)(ha:PTS X W a g)(hb:PTS X W b h):PT1 X W (.If c a b pos) (dIf fc g h):=PS.imp (vO hc ha hb) fun E σ H ⟨P,F,ρ,r,hg,I,T,k⟩=>by
 unfold dIf at hg
 cases q:fc ρ with
 | none=>rw[q] at hg;cases hg
 | some b=>
  rw[q,Ya] at hg
  refine⟨P,F,ρ,b,q,I,T,fun P1 F1 H1 e1 g1 T1 I1=>?_⟩
  cases b with
  | true=>
   rw[Yf rfl] at hg ⊢
   exact⟨P1,F1,ρ,r,hg,I1,T1,k.on e1 g1⟩
  | false=>
   rw[Yh Yg] at hg ⊢
   exact⟨P1,F1,ρ,r,hg,I1,T1,k.on e1 g1⟩
end
def nE (t:Addr)(pos:Pos)(H:Hp):Prop:=H t=some (.ext (e6 t pos none))∧∀ b,b≠t→H b=none∨∃ o xs,H b=some (.frz o (.lst xs))
theorem pO {P:Program}{w:World}{K:Kq}{mg mb:Ks}{CX:CXT}{k:Nat}{fa a t c0:Addr}{lpos:Pos}{fd:FuncData}{x:Str}{sp:Sp}{s₁:Shared}{vs:List Value}{ns:List Int}
  (KX:K.In s₁.heap) (hns:s₁.heap.Ns mainGlobals mg) (hb:s₁.heap.Ns builtinsNs mb) (hbb:∀ x:Str,x ≠ "__name__"→mb x=bootBuiltins x) (hlim:s₁.heap.NoLimit) (hg:s₁.gens=#[])
  (hmb:∃ bm ob,mg (Str.ofString "__builtins__")=some (Value.ref bm)∧bm≠builtinsNs∧s₁.heap.get? bm=some ob∧ob.cls=Value.type "module"∧ob.dict=some builtinsNs∧ob.data=Data.plain)
  (ht:s₁.heap.get? t=some (tabObj #[])) (hch:codeHdIn K c0 t=true) (hKt:K.lookup t=none) (htc:t≠cStatics)
  (ha:s₁.heap.get? a=some { cls:=.type "list",data:=.seq vs.toArray }) (hi:IntsAre vs ns) (hl:ns.length≤sizeLine) (hr:Room k callerA)
  (F:∀ base:Heap,K.In base→base.Ns mainGlobals mg→base.BuiltinsAt mg t→FnOk P w K mg base CX k fa fd [x] sp) (hbind:∀ (s:Shared) (u:Value),BindsTo s fd ⟨[u],[]⟩ [(x,u)])
  (hsp:∀ H:Hp,nE t lpos H→SqL K H a (ns.map V.int)→sp [.ref a] H (fun v H'=>v=.bl true∧∃ φ,H' t=some (.ext φ)∧∀ h,φ h→∃ ps,h.get? t=some (tabObj ps)) fun _ _ _=>False)
  (hCX:∀ H e s',CX [] H s₁ (fun _ _ _=>False) e s'→False) :
  codeAny (model P w) callerA (.call (.ref fa) ⟨[.ref a],[]⟩) (fun r s'=>r=.ok (.ret (.bool true))∧OldK s₁.heap s'.heap∧s'.os=s₁.os∧AllBare s'.gens) s₁:=by
 have rv:=i8 hi
 have lenV:=hi.length
 have at':a≠t:=fun z=>by subst z;rw[ha] at ht;cases ht
 have chd:CodeHd s₁.heap c0 t:=codeHd_of_K KX hch
 have core:∀ H:Hp,nE t lpos H→SqL K H a (ns.map V.int)→HOk P w H s₁.heap→(∀ b,H b≠none→b=a∨b=t)→(H a≠none→K.lookup a=none)→
   codeAny (model P w) callerA (.call (.ref fa) ⟨[.ref a],[]⟩) (fun r s'=>r=.ok (.ret (.bool true))∧OldK s₁.heap s'.heap∧s'.os=s₁.os∧AllBare s'.gens) s₁:=by
  intro H hO hS hok hA hK
  have base_of:∀ {b:Addr} {o:Obj},s₁.heap.get? b=some o→H b=none→(iY s₁.heap H).get? b=some o:=fun e n=>sT e n
  have noH:∀ {b:Addr} {o:Obj},s₁.heap.get? b=some o→(∀ xs n,o.data≠.seq xs n)→(∀ xs,o.data≠.fields xs)→H b=none:=fun {b o} e d1 d2=>by
   cases q:H b with
   | none=>rfl
   | some u=>
    rcases hA b (by rw[q];simp) with e' | e'
    ·subst e';rw[ha] at e;cases e;exact absurd rfl (d1 _ _)
    ·subst e';rw[ht] at e;cases e;exact absurd rfl (d2 _)
  have noA:∀ {b:Addr} {o:Obj} {es:Array DictEntry} {ep:Nat},s₁.heap.get? b=some o→o.data=.dict es ep→H b=none:=fun e d=>noH e (fun _ _ z=>by rw[d] at z;cases z) fun _ z=>by rw[d] at z;cases z
  have nsK:∀ {b:Addr} {m:Ks},s₁.heap.Ns b m→(iY s₁.heap H).Ns b m:=fun {b m} ⟨o,es,ep,e,d,r⟩=>⟨o,es,ep,base_of e (noA e d),d,r⟩
  have hKb:K.In (iY s₁.heap H):=fun b o e=>base_of (KX b o e) (by
   cases q:H b with
   | none=>rfl
   | some u=>
    rcases hA b (by rw[q];simp) with e' | e'
    ·subst e';rw[hK (by rw[q];simp)] at e;cases e
    ·subst e';rw[hKt] at e;cases e)
  have hM:Mod K mg (iY s₁.heap H):=⟨hKb,nsK hns,⟨mb,nsK hb,hbb⟩,let ⟨mc,h1,h2⟩:=hlim;⟨mc,nsK h1,h2⟩⟩
  have hBa:(iY s₁.heap H).BuiltinsAt mg t:=by
   obtain⟨bm,ob,m1,m2,m3,m4,m5,m6⟩:=hmb
   refine⟨bm,ob,m1,m2,fun z=>?_,fun z=>?_,base_of m3 (noH m3 (fun _ _ z=>by rw[m6] at z;cases z) fun _ z=>by rw[m6] at z;cases z),m4,m5,m6⟩
   ·obtain⟨o,es,ep,e,d,_⟩:=hns
    rw[← z,m3] at e
    cases e
    rw[m6] at d
    cases d
   ·rw[z,ht] at m3
    cases m3
    cases m6
  have e0:Env0 P w K mg (iY s₁.heap H) callerA [] s₁ H:=⟨rfl,hM,fun b o e=>vq e,ZJ (oH _ _),trivial,fun b hb=>absurd (show b∈([]:List Addr) from hb) (by simp),hok,.of_eq hg⟩
  refine Xa ((F _ hKb (nsK hns) hBa).run callerA [] s₁ H ⟨[.ref a],[]⟩ [.ref a] [.ref a] _ _ hr e0 (hbind s₁ (.ref a)) (.cons rfl .nil) (hsp H hO hS)) fun r s' h=>?_
  cases r with
  | error e=>exact (hCX H e s' h).elim
  | ok fl=>
   cases fl with
   | next=>exact False.elim h
   | brk=>exact False.elim h
   | cont=>exact False.elim h
   | ret u=>
    obtain⟨v,H',os,bare,un,hok',r',q⟩:=h
    obtain⟨rfl,φ,q1,q2⟩:=q
    obtain rfl:u=Value.bool true:=r'
    obtain⟨ph,_,_⟩:=hok' t _ q1
    obtain⟨ps,hps⟩:=q2 _ ph
    have ext:Heap.ExtBut t s₁.heap s'.heap:=fun b o n e=>by
     cases q:H b with
     | none=>exact un.keep b o e q (by intro z;exact absurd (show b∈([]:List Addr) from z) (by simp)) (by simp)
     | some u=>
      rcases hO.2 b n with z | ⟨ob,xs,z⟩
      ·rw[q] at z;cases z
      ·have z2:=un.frzs b ob _ z
       obtain⟨e1,_⟩:=hok b _ z
       obtain⟨e2,_⟩:=hok' b _ z2
       rw[e] at e1;cases e1
       exact e2
    have chd':CodeHd s'.heap c0 t:=by
     obtain⟨o,vs',file,tf,fl,tg,inF,tx,tt,g1,g2⟩:=chd
     exact⟨o,vs',file,tf,fl,tg,inF,tx,tt,ext c0 o g2.2.2.2.2.2.2.2.2 g1,g2⟩
    refine⟨rfl,OldK.step_table (OldK.refl _) (chd.tab ht) (chd.tab ht) (more:=ps) ?_ ext htc,os,bare⟩
    rw[show (#[]:Array Value)++ps=ps by simp]
    exact chd'.tab hps
 have tabk:e6 t lpos none s₁.heap:=⟨#[],ht,by simp[TriplesOk],rfl⟩
 cases hk:K.lookup a with
 | some o=>
  have e:=KX a o hk
  rw[ha] at e
  cases e
  refine core (fun b=>if b=t then some (.ext (e6 t lpos none)) else none) ⟨Yf rfl,fun b n=>.inl (Yh n)⟩ (.inr ⟨_,vs.toArray,_,hk,rfl,rfl,rfl,by rw[Yl,lenV];exact hl,by simpa using rv⟩) (fun b u z=>?_) (fun b z=>?_) fun z=>absurd (Yh at') z
  ·by_cases hb:b=t
   ·have z':=(Yf hb).symm.trans z
    cases z'
    subst hb
    exact⟨tabk,⟨_,ht⟩,fG⟩
   ·have z':=(Yh hb).symm.trans z
    cases z'
  ·by_cases hb:b=t
   ·exact .inr hb
   ·exact absurd (Yh hb) z
 | none=>
  refine core (fun b=>if b=t then some (.ext (e6 t lpos none)) else if b=a then some (.frz { cls:=.type "list",data:=.seq vs.toArray } (.lst (ns.map V.int))) else none) ⟨Yf rfl,fun b n=>?_⟩ (.inl (.inr ⟨{ cls:=.type "list",data:=.seq vs.toArray },(Yh at').trans (Yf rfl)⟩)) (fun b u z=>?_) (fun b z=>?_) fun _=>hk
  ·by_cases hb:b=a
   ·exact .inr ⟨_,_,(Yh n).trans (Yf hb)⟩
   ·exact .inl ((Yh n).trans (Yh hb))
  ·by_cases hb:b=t
   ·have z':=(Yf hb).symm.trans z
    cases z'
    subst hb
    exact⟨tabk,⟨_,ht⟩,fG⟩
   ·by_cases hb2:b=a
    ·have z':=((Yh hb).trans (Yf hb2)).symm.trans z
     cases z'
     subst hb2
     exact⟨ha,by rw[Ye];exact hl,vs,_,rv,ha⟩
    ·have z':=((Yh hb).trans (Yh hb2)).symm.trans z
     cases z'
  ·by_cases hb:b=t
   ·exact .inr hb
   ·by_cases hb2:b=a
    ·exact .inl hb2
    ·exact absurd ((Yh hb).trans (Yh hb2)) z
theorem walk_ofT {l:PySem.W.OpenLaw}{n k:Nat}{q:Program}{loose:List Str}{XP:(Str→Option Value)→Heap→Prop}{YP:World→Heap→Prop}{d:DefRec}{K:Params→PySem.W.Frag}{CX:CXT}{sp:PySem.W.Frag→Sp}{x:Str}{t c0:Addr}{lpos:Pos}
  (hn:l.most=some n) (hn2:n≤sizeLine) (hdf:d.params.defaults=[]) (hr:Room k callerA)
  (hY:∀ (w:World) (h:Heap),YP w h→(K w.params).In h∧h.get? t=some (tabObj #[]))
  (hch:∀ w:World,codeHdIn (K w.params) c0 t=true) (hKt:∀ w:World,(K w.params).lookup t=none) (htc:t≠cStatics)
  (F:∀ (w:World) (mg:Ks) (fa:Addr) (h:Heap),(K w.params).In h→h.Ns mainGlobals mg→mg d.name=some (.ref fa)→
   ∃ fd:FuncData,(∀ (s:Shared) (u:Value),BindsTo s fd ⟨[u],[]⟩ [(x,u)]) ∧
    ∀ base:Heap,(K w.params).In base→base.Ns mainGlobals mg→base.BuiltinsAt mg t→FnOk l.prog w (K w.params) mg base CX k fa fd [x] (sp (K w.params)))
  (hsp:∀ (K:Kq) (H:Hp) (a:Addr) (ns:List Int),ns.length≤n→nE t lpos H→SqL K H a (ns.map V.int)→sp K [.ref a] H (fun v H'=>v=.bl true∧∃ φ,H' t=some (.ext φ)∧∀ h,φ h→∃ ps,h.get? t=some (tabObj ps)) fun _ _ _=>False)
  (hCX:∀ (H:Hp) (s:Shared) (e:Value) (s':Shared),CX [] H s (fun _ _ _=>False) e s'→False) :
  PySem.W.WalkO q loose XP YP l.row.toRowW d [] (fun f vs=>PySem.call f vs):=by
 refine Att.attach_call hn hdf fun w s₀ s₁ mg mb fa o pm cd doc a vs ns G Y ho hd hcd hmg hobj hints hlen hg=>?_
 obtain⟨KX,ht⟩:=hY w _ Y
 obtain⟨fd,hb,hF⟩:=F w mg fa _ KX G.T.g hmg
 exact pO (lpos:=lpos) KX G.T.g G.T.b G.T.builtins G.T.nolimit hg G.T.bmain ht (hch w) (hKt w) htc hobj hints (YA hlen hn2) hr hF hb (fun H hO hS=>hsp (K w.params) H a ns hlen hO hS) fun H e s'=>hCX H s₁ e s'
end L2
namespace L2
open PySem PySem.Spec PyProof.Rows
theorem jI:plainId "dict.update.loop"=true:=by decide +kernel
theorem qR:entryFor table "dict.update.loop"=some Builtin.«dict.update.loop»:=by kernel_rfl
section
variable {prog:Program} {w:World} {A:Around} {E:Kv} {s:Shared}
theorem ud {l:Addr}{its:Array Value}{n:Nat}{Q:Ko}(ho:s.heap.get? l=some { cls:=.type "list",data:=.seq its n })(hh:A.handled=none)
  (q:∀ h' tk,(∀ b o,s.heap.get? b=some o→h'.get? b=some o)→Q none { s with heap:=h',toks:=tk }):wpAny (model prog w) A (getAttr? (.ref l) "keys") Q E s:=by
 have hl:Shared.TypeIs s (.ref l) "list":=⟨_,ho,rfl⟩
 have g1:typeLookup (Value.type "list") "__getattribute__"=pure (some (.builtin "list.__getattribute__")):=Xb.lookup
 have g2:typeLookup (Value.type "list") "keys"=pure none:=by rfl
 have g4:typeLookup (Value.type "list") "__getattr__"=pure none:=by rfl
 unfold getAttr? getAttrBy? getAttrBy getAttrByItsOwn hookBefore callGetattribute
 wp_walk
 have g3:=Xb.bind (.ref l)
 rw[g3]
 refine YD ?_
 show wpAny _ _ (call (.builtin "list.__getattribute__") [.ref l,Value.str (Str.ofString "keys") s.toks]) _ _ _
 refine call_meets Xb (s:={ s with toks:=s.toks+1 }) ⟨_,ho,rfl⟩ am_entry_list_getattribute (F.args_list_getattribute_2 _ _) (meets_getattribute_miss_list l its n #[] "keys" s.toks g2 (by decide)) ⟨ho,hh,fun h' tk e ne=>?_⟩
 obtain⟨t,u,he⟩:=ne.there
 have ke:=ne.keeps
 unfold getattributeRaised hookBehind hookOrError attributeErrorLeaves
 have s1:Shared.TypeIs { s with heap:=h',toks:=tk } (.ref e) "AttributeError":=⟨_,he,rfl⟩
 have s2:isSubtype (.type "AttributeError") (.type "AttributeError")=pure true:=sub_AttributeError
 wp_walk
 exact q h' tk ke
def dl (prs:List (Key×Value)):List (Key×Value):=prs.foldl (fun a p=>stored a p.1 p.2) []
theorem kY (l:List (Key×Value))(p:Key×Value):dl (l++[p])=stored (dl l) p.1 p.2:=by unfold dl;rw[List.foldl_append];rfl
theorem l6 (l:List (Key×Value))(k:Key)(v:Value):(stored l k v).length≤l.length+1:=by
 unfold stored
 split <;> simp <;> omega
theorem mQ (l:List (Key×Value)):(dl l).length≤l.length:=by
 have:∀ (l a:List (Key×Value)),(l.foldl (fun a p=>stored a p.1 p.2) a).length≤a.length+l.length:=by
  intro l
  induction l with
  | nil=>intro a;simp
  | cons p r ih=>intro a;have h1:=ih (stored a p.1 p.2);have h2:=l6 a p.1 p.2;rw[List.foldl_cons,Yj];omega
 have h:=this l []
 rw[YN,Xo] at h
 exact h
theorem nu {p:Addr}{ku u:Value}{Q:Kl}(ht:IsTup s.heap p #[ku,u])(q:Q [ku,u] s):wpAny (model prog w) A (Builtin.Dict.pairItems (.ref p)) Q E s:=by
 obtain⟨o,e1,e2,n,e3⟩:=ht
 have hT:Shared.TypeIs s (.ref p) "tuple":=⟨o,e1,e2⟩
 unfold Builtin.Dict.pairItems
 wp_walk
 rw[e3]
 exact YD (YD q)
variable {I:Addr} {fp wr:List Addr} {G:Array GenState→Array GenState→Prop} {n:Nat} {P:Nat→Value→Prop} {St:Nat→Shared→Prop} {R:Kr}
theorem p8 (W:WalksS prog w A.in1 I fp wr G n P St)(d:Addr)(hdf:d∉fp)(h0:Heap)(hnew:∀ b o,h0.get? b=some o→b∉d::wr)(prs:List (Key×Value))(hn:prs.length=n)(hn2:n≤1000)
  (hval:∀ i v,P i v→∃ k u p ku,prs[i]?=some (k,u)∧v=.ref p∧IsTup h0 p #[ku,u]∧(aK prog w).is k ku=true) :
  ∀ (k i:Nat) (s:Shared) (j:Int) (tj:Tok),n-i=k→i≤n→St i s→(∀ b o,h0.get? b=some o→s.heap.get? b=some o)→Heap.DictOf (aK prog w) s.heap d (dl (prs.take i))→
   (∀ s',Moved (d::wr) G s s'→Heap.DictOf (aK prog w) s'.heap d (dl prs)→R (.ok (.ret .none)) s')→
   codeAny (model prog w) A (.builtin "dict.update.loop" ⟨[.ref d,.ref I,.int j tj,.none],[]⟩) R s:=by
 have hdw:d∉wr:=fun h=>hdf (W.sub _ h)
 have hsub:∀ b∈wr,b∈d::wr:=fun b hb=>Yb _ hb
 have mv:∀ {s s':Shared} {l:List (Key×Value)},Moved wr G s s'→Heap.DictOf (aK prog w) s.heap d l→Heap.DictOf (aK prog w) s'.heap d l:=fun m ⟨o,es,ep,e,r⟩=>⟨o,es,ep,m.heap d o hdw e,r⟩
 intro k
 induction k with
 | zero=>
  intro i s j tj hk hi hst h0s hS hR
  have hin:i=n:=by omega
  subst hin
  refine Xf qR ?_
  rw[Around.under_plainId jI _]
  show wpAny _ A.in1 (pyNext (.ref I)>>=_) _ _ s
  refine Yr (W.done s _ _ hst fun s' hm=>?_)
  show wpAny _ A.in1 (Builtin.Dict.addKeywords d []>>=fun _=>ret Value.none) _ _ s'
  refine Yr (show wpAny _ A.in1 (pure ()) _ _ s' from YD ?_)
  refine YD (hR s' (hm.mono hsub) (mv hm ?_))
  rw[← hn,Xs] at hS
  exact hS
 | succ k ih=>
  intro i s j tj hk hi hst h0s hS hR
  have hlt:i<n:=by omega
  refine Xf qR ?_
  rw[Around.under_plainId jI _]
  show wpAny _ A.in1 (pyNext (.ref I)>>=_) _ _ s
  refine Yr (W.item i s _ _ hlt hst fun v s' hP hst' hm=>?_)
  obtain⟨ky,u,p,ku,hd,rfl,tup,kis⟩:=hval i v hP
  have h0s':∀ b o,h0.get? b=some o→s'.heap.get? b=some o:=fun b o e=>hm.heap b o (fun hb=>hnew b o e (hsub b hb)) (h0s b o e)
  have tup':IsTup s'.heap p #[ku,u]:=by obtain⟨o,e1,e2⟩:=tup;exact⟨o,h0s' p o e1,e2⟩
  refine Yr (wpAny_holding (Yr (wpAny_tryCatch (nu tup' ?_))))
  show wpAny _ A.in1 (holding [ku,u] (dictSet d ku u)) _ _ s'
  refine wpAny_holding (wpAny_dictSet_pairs kis (mv hm hS) (fun h' hS2 off=>?_) (by have:=mQ (prs.take i);rw[ZO] at this;exact YA this (YA (Nat.min_le_left _ _) (YA (by omega) (show 1000≤sizeLine by decide)))))
  have et:prs.take i++[(ky,u)]=prs.take (i+1):=by rw[List.take_add_one,hd];rfl
  rw[← kY _ (ky,u),et] at hS2
  refine YD ⟨plainId_quiet jI _,ih (i+1) _ _ _ (by omega) hlt (W.frame _ s' _ _ hst' (Nat.le_succ _) fun b hb o e=>?_) (fun b o e=>?_) hS2 fun s'' hm'' hS''=>?_⟩
  ·rw[off.2 b (fun h:b=d=>hdf (by rw[← h];exact hb))];exact e
  ·show h'.get? b=some o
   rw[off.2 b (fun h:b=d=>hnew b o e (by rw[h];exact Yc))];exact h0s' b o e
  ·refine hR s'' (Moved.trans W.gtrans ((hm.mono hsub).then_heap (Nat.le_succ _) fun b o hb e=>?_) hm'') hS''
   rw[off.2 b (fun h:b=d=>hb (by rw[h];exact Yc))];exact e
end
abbrev wY (l:Addr):Obj:={ cls:=.type "list_iterator",data:=.fields #[.ref l,.int 0 0] }
section
variable {prog:Program} {w:World} {A:Around} {E:Kv} {s:Shared}
end
abbrev gn:Obj:={ cls:=.type "dict",data:=.dict #[] }
section
variable {prog:Program} {w:World} {A:Around} {E:Kv} {s:Shared}
theorem i3 {l:Addr}{items:Array Value}{nl:Nat}{Z:Heap→Prop}{Q:Kv}(hh:A.handled=none)(hl:s.heap.get? l=some { cls:=.type "list",data:=.seq items nl })
  (loop:∀ (R:Kr) (h1:Heap) (tk1:Nat),(∀ b o,(s.heap.push gn).get? b=some o→h1.get? b=some o)→(∀ h' tk,Z h'→(∀ b o,s.heap.get? b=some o→h'.get? b=some o)→R (.ok (.ret .none)) { s with heap:=h',toks:=tk })→
   codeAny (model prog w) A.in1 (.builtin "dict.update.loop" ⟨[.ref s.heap.objs.size,.ref h1.objs.size,.int 0 0,.none],[]⟩) R { s with heap:=h1.push (wY l),toks:=tk1 })
  (q:∀ h' tk,Z h'→(∀ b o,s.heap.get? b=some o→h'.get? b=some o)→Q (.ref s.heap.objs.size) { s with heap:=h',toks:=tk }) :
  wpAny (model prog w) A (call (.type "dict") [.ref l]) Q E s:=by
 have ft:=F.kt_called_dict
 obtain⟨m0,mr,hm⟩:=ft.mro
 have y1:=ft.made
 have y2:=ft.sub
 have y3:=ft.notType
 have y4:=ft.canCreate
 have y5:=F.kt_typeCall_dict_1 (.ref l)
 refine wpAny_call (codeAny_of_tree ?_)
 show wpAny _ _ (callAny (.type "dict") ⟨[.ref l],[]⟩) _ _ _
 refine YD ⟨Code.quiet_builtin _ (by decide +kernel),Xf F.entry_type_call ?_⟩
 rw[Around.under_plain (weight_type_call_type "dict" [.ref l] []) rfl]
 repeat any_goals first | assumption | wp_step
 refine Xa (kt_code_dict_new (.ref l) (E:=E) (Q₁:=fun obj s₁=>obj=.ref s.heap.objs.size∧s₁={ s with heap:=s.heap.push gn }) ⟨rfl,rfl⟩) fun r s₁ hr=>?_
 cases r with
 | error e=>exact hr
 | ok fl=>
  cases fl with
  | ret obj=>
   obtain⟨rfl,rfl⟩:=hr
   have hS:(s.heap.push gn).get? s.heap.objs.size=some gn:=Yo _ rfl
   have hT:Shared.TypeIs { s with heap:=s.heap.push gn } (.ref s.heap.objs.size) "dict":=⟨_,hS,rfl⟩
   have y6:=ft.init.lookup
   have y7:=ft.init.bind (.ref s.heap.objs.size)
   repeat any_goals first | assumption | wp_step
   refine Xa (codeAny_call_builtin (R:=wants (fun r s₂=>r=.none∧∃ h' tk,s₂={ s with heap:=h',toks:=tk }∧Z h'∧∀ b o,s.heap.get? b=some o→h'.get? b=some o) E) ft.init.plain F.entry_dict_init (ft.init.check _ _ _ _ _ _ _ _ hT (F.args_dict_init_2 _ _) ?_)) fun r₂ s₂ hr₂=>?_
   ·have e1':(s.heap.push gn).get? l=some { cls:=.type "list",data:=.seq items nl }:=Yd _ hl
    unfold Builtin.«dict.__init__» Builtin.Dict.selfAndRest Builtin.Dict.notOrdered
    generalize hPI:Builtin.Dict.updateCommon=PI
    wp_walk
    subst hPI
    show wpAny _ _ (Builtin.Dict.updateFrom "dict.__init__" s.heap.objs.size (.ref l) [] .none) _ _ _
    unfold Builtin.Dict.updateFrom
    generalize hGA:getAttr?=GA
    generalize hPI:pyIter=PI
    have z3:(Value.type "list" != Value.type "dict")=true:=by decide
    wp_walk
    subst hGA
    refine ud e1' (by simpa using hh) fun h1 tk1 k1=>?_
    wp_walk
    subst hPI
    have hl1:h1.IsList l items:=⟨_,k1 _ _ e1',rfl,nl,rfl⟩
    refine wpAny_pyIter_list hl1 (YD ?_)
    exact⟨plainId_quiet jI _,loop _ h1 tk1 k1 fun h' tk hZ hk=>⟨rfl,h',tk,rfl,hZ,hk⟩⟩
   ·cases r₂ with
    | error e=>exact hr₂
    | ok fl₂=>
     cases fl₂ with
     | ret v=>
      obtain⟨rfl,h',tk,rfl,hZ,hk⟩:=hr₂
      repeat any_goals first | assumption | wp_step
      exact q _ _ hZ hk
     | _=>exact hr₂.elim
  | _=>exact hr.elim
end
theorem l_:bootBuiltins "dict"=some (.type "dict"):=by rfl
inductive PairsV (H:Hp):List V→List (Key×V)→Prop
 | nil:PairsV H [] []
 | cons {p:Addr} {k:Key} {x:V} {vs:List V} {kvs:List (Key×V)}:H p=some (.tup [kV k,x])→PairsV H vs kvs→PairsV H (.ref p::vs) ((k,x)::kvs)
theorem PairsV.length {H:Hp}{vs:List V}{kvs:List (Key×V)}(h:PairsV H vs kvs):vs.length=kvs.length:=by
 induction h with
 | nil=>rfl
 | cons _ _ ih=>exact ZA Nat.succ ih
theorem qJ {P:Program}{w:World}{H:Hp}{h:Heap}(ok:HOk P w H h){vs:List V}{kvs:List (Key×V)}(hp:PairsV H vs kvs):∀ {its:List Value},Vals vs its→∃ prs:List (Key×Value),KV kvs prs∧∀ (i:Nat) v,its[i]?=some v→∃ k u p ku,prs[i]?=some (k,u)∧v=.ref p∧IsTup h p #[ku,u]∧(aK P w).is k ku=true:=by
 induction hp with
 | nil=>intro its r;cases r;exact⟨[],.nil,fun i v e=>nomatch e⟩
 | cons h1 _ ih=>
  intro its r
  cases r with
  | cons r1 r2=>
   obtain⟨prs,a1,a2⟩:=ih r2
   cases r1
   obtain⟨_,ts,rt,it,_⟩:=ok _ _ h1
   obtain⟨ku,u,rfl,rk,ru⟩:=rt.two
   refine⟨(_,u)::prs,.cons ⟨rfl,ru⟩ a1,fun i v e=>?_⟩
   cases i with
   | zero=>cases e;exact⟨_,u,_,ku,rfl,rfl,it,je rk⟩
   | succ i=>exact a2 i v e
theorem xC {kvs:List (Key×V)}{prs:List (Key×Value)}(h:KV kvs prs):KV (dj [] kvs) (dl prs):=by
 have:∀ {kvs:List (Key×V)} {prs:List (Key×Value)},KV kvs prs→∀ {a:List (Key×V)} {b:List (Key×Value)},KV a b→KV (dj a kvs) (prs.foldl (fun a p=>stored a p.1 p.2) b):=fun h=>by
  induction h with
  | nil=>exact fun h=>h
  | cons r _ ih=>
   intro a b hab
   refine ih (a:=da a _ _) (b:=stored b _ _) ?_
   obtain⟨r1,r2⟩:=r
   rw[← r1]
   exact KV.put hab _ r2
 exact this h .nil
theorem mN (a kvs:List (Key×V)):(dj a kvs).length≤a.length+kvs.length:=by
 unfold dj
 induction kvs generalizing a with
 | nil=>simp
 | cons p r ih=>have h1:=ih (da a p.1 p.2);have h2:=dX a p.1 p.2;rw[List.foldl_cons,Yj];omega
section
variable {X:Cx}
theorem l9 (hcalm:X.calm=true):CallR X (.type "dict") (fun xs H Q=>∃ a vs kvs,xs=[.ref a]∧H a=some (.lst vs)∧PairsV H vs kvs∧vs.length≤1000∧∀ d,H d=none→Q (.ref d) (upd H d (.dK (dj [] kvs)))):=by
 intro pz s σ H xs us Q I r h
 obtain⟨a,vs,kvs,rfl,ha,hp,hl,q⟩:=h
 obtain⟨u,rfl,ru⟩:=dC r
 cases ru
 obtain⟨_,its,n,rv,ho⟩:=I.hok _ _ ha
 obtain⟨prs,kv,at'⟩:=qJ I.hok hp rv
 have yQ:its.length=prs.length:=by rw[← rv.length,hp.length];exact Paired.length kv
 have hh:=I.ok.hd hcalm
 refine i3 (Z:=fun h'=>Heap.DictOf (aK X.prog X.w) h' s.heap.objs.size (dl prs)) hh ho (fun R h1 tk1 k1 hR=>?_) fun h' tk hZ hk=>?_
 ·have hS:(s.heap.push gn).get? s.heap.objs.size=some gn:=Yo _ rfl
  have hd1:=k1 _ _ hS
  have hds:s.heap.objs.size<h1.objs.size:=Yp hd1
  have hla:a<s.heap.objs.size:=Yp ho
  have hne:a≠h1.objs.size:=Yw (ZC hla hds)
  have hold:∀ b o,s.heap.get? b=some o→h1.get? b=some o:=fun b o e=>k1 b o (Yd _ e)
  have hnew:∀ b o,s.heap.get? b=some o→b∉s.heap.objs.size::[h1.objs.size]:=fun b o e=>by
   have:=Yp e
   simp only[Yy,YJ,List.not_mem_nil,or_false,not_or]
   exact⟨Yw this,Yw (ZC this hds)⟩
  have hl2:(h1.push (wY a)).IsList a its.toArray:=Heap.IsList.push ⟨_,hold _ _ ho,rfl,n,rfl⟩ _
  have nh3:X.A.in1.in1.handled=none:=by simpa using hh
  have hd0:Heap.DictOf (aK X.prog X.w) (h1.push (wY a)) s.heap.objs.size (dl (prs.take 0)):=by
   obtain⟨_,_,vs0,kv0,o,es,ep,e,rr⟩:=sP (P:=X.prog) (w:=X.w) (H:=H) s.heap I.big
   cases kv0
   exact⟨o,es,ep,Yd _ (k1 _ _ e),rr⟩
  refine p8 ((Walks.list nh3 _ a hne its.toArray).toS) s.heap.objs.size (by simp;exact⟨Yw hds,ZZ hla⟩) s.heap hnew prs (by rw[← yQ,Yl]) (by rw[Yl,← rv.length];exact hl) (fun i v e=>at' i v (by simpa using e)) (its.toArray.size-0) 0 _ 0 0 (by omega) (YI _)
   ⟨⟨_,Yo _ rfl,rfl,rfl⟩,hl2⟩ (fun b o e=>Yd _ (hold b o e)) hd0 fun s' hm hS'=>?_
  obtain⟨h',g',d',tk',os'⟩:=s'
  have eg:g'=s.gens:=hm.gens
  have ed:d'=s.drawn:=hm.drawn
  have eo:os'=s.os:=hm.os
  subst eg ed eo
  exact hR h' tk' hS' fun b o e=>hm.heap b o (hnew b o e) (Yd _ (hold b o e))
 ·have z:(dj [] kvs).length≤sizeLine:=YA (mN [] kvs) (by rw[YN,Xo,← hp.length];exact YA hl (by decide))
  exact⟨.ref s.heap.objs.size,_,I.laid (a:=s.heap.objs.size) (o:=.dK (dj [] kvs)) (t':=tk) hk (Yi _) (qN z (Zm.mpr (Xi (Yw I.big))) (xC kv) hZ),rfl,q _ (I.hok.fresh (Yi _))⟩
end
end L2
namespace L2
open PySem PySem.Spec PySem.W PyProof.Rows
def eM:List D→Option (List (Key×D))
 | []=>some []
 | .tup [k,v]::r=>(eL k).bind fun kk=>(eM r).map fun l=>(kk,v)::l
 | _=>none
def mR (a kvs:List (Key×D)):List (Key×D):=kvs.foldl (fun acc p=>cM acc p.1 p.2) a
theorem kT {K:Kq}{F:Hp}{v:V}{d:D}{k:Key}(r:Rep K F v d)(h:eL d=some k):v=kV k:=by
 cases d with
 | int i=>cases h;cases r;rfl
 | str x=>cases h;cases r;rfl
 | _=>cases h
theorem o5 {K:Kq}{F H:Hp}(s:Same F H):∀ {vs:List V} {ds:List D} {kvs:List (Key×D)},Reps K F vs ds→eM ds=some kvs→∃ l,PairsV H vs l∧RepsK K F l kvs:=by
 intro vs ds kvs r
 refine Reps.ind (M:=fun vs ds=>∀ kvs,eM ds=some kvs→∃ l,PairsV H vs l∧RepsK K F l kvs) (fun kvs h=>by cases h;exact⟨[],.nil,.nil⟩) (fun {v d vs ds} rv _ ih kvs h=>?_) r kvs
 unfold eM at h
 split at h
 ·rename_i e;cases e
 ·rename_i k x r' e
  cases e
  cases q:eL k with
  | none=>rw[q] at h;cases h
  | some kk=>
   rw[q,Ya] at h
   cases q2:eM ds with
   | none=>rw[q2] at h;cases h
   | some l=>
    rw[q2] at h
    cases h
    obtain⟨l',h1,h2⟩:=ih l q2
    cases rv with
    | tup e1 e2=>
     cases e2 with
     | cons ra rb=>
      cases rb with
      | cons rx rn=>
       cases rn
       have ek:=kT ra q
       subst ek
       exact⟨_,.cons (s _ _ e1) h1,.cons rx h2⟩
 ·cases h
theorem mU {K:Kq}{F:Hp}{l:List (Key×V)}{kvs:List (Key×D)}(h:RepsK K F l kvs){a:List (Key×V)}{b:List (Key×D)}(hab:RepsK K F a b):RepsK K F (dj a l) (mR b kvs):=
 RepsK.ind (M:=fun l kvs=>∀ (a:List (Key×V)) (b:List (Key×D)),RepsK K F a b→RepsK K F (dj a l) (mR b kvs)) (fun _ _ h=>h) (fun {k v d vs ds} r _ ih a b hab=>ih _ _ (RepsK.put r hab)) h a b hab
def r_ (f:Dl):DF→Option OD:=fun ρ=>(f ρ).bind fun ds=>(eM ds).bind fun kvs=>if ds.length≤1000 then some (.dK (mR [] kvs)) else none
section
variable {X:Cx} {e i o:Expr} {pos p:Pos} {fk fd fe:Dd}
theorem pQ {f:Dl}(hcalm:X.calm=true)(hg:Gl X "dict")(hm:X.mg "dict"=none)(h:PDO X e (asL f))(hs:starEach [e] X.env=[(false,eval e X.env)]:=by rfl)(hpl:(backTo pos (starEach [] X.env)).any (·.1)=false:=by rfl) :
  PDO X (.Call (.Name "dict" p) [e] [] pos) (r_ f):=
 (cB (l9 hcalm) hg hm l_ (ar h aQ hs) (by decide) (by decide) hs hpl).imp fun σ H Q=>un7 fun P F ρ ob hf I k=>by
  unfold r_ at hf
  cases q:f ρ with
  | none=>rw[q] at hf;cases hf
  | some ds=>
  cases q2:eM ds with
  | none=>rw[q,Ya,q2] at hf;cases hf
  | some kvs=>
  rw[q,Ya,q2,Ya] at hf
  split at hf
  ·rename_i hl
   cases hf
   refine⟨P,F,ρ,.lst ds,by unfold asL;rw[q];rfl,I,fun a F1 H1 ev ho=>?_⟩
   obtain⟨⟨a1,a2⟩,u,a3,a4⟩:=ho
   cases u with
   | lst vs=>
    have rr:Reps X.K F1 vs ds:=a4
    obtain⟨l,h1,h2⟩:=o5 ev.hp.sub rr q2
    refine⟨a,vs,l,rfl,a3,h1,by rw[rr.length];exact hl,fun d hd=>?_⟩
    exact k d F1 _ (ev.trans (Evo.side ev.hp hd)) ⟨⟨ev.back I.toDHp hd,(ev.hp.free hd).1⟩,_,aq,mU h2 .nil⟩
   | _=>exact a4.elim
  ·cases hf
def fV:D→D→Option D
 | y,.dK kvs=>(eL y).map fun k=>.bl (!(bC kvs k).isSome)
 | _,_=>none
theorem qf (hu:X.A.units+64<cLine)(hi:PDE X i fk)(ho:PDR X o fd)(h1:behindInMarks .NotIn o=false:=by first | exact iM _ (by decide) (by decide) | rfl):PDT X (.Compare i [.NotIn] [o] pos) (asB (d2 fV fk fd)):=(mO (pJ (by omega) hi ho) h1).imp fun σ H Q=>un7 fun P F ρ b hf I k=>by
 have hf:=nA hf
 unfold d2 at hf
 cases qb:fk ρ with
 | none=>rw[qb] at hf;cases hf
 | some dy=>
 cases qa:fd ρ with
 | none=>rw[qb,Ya,qa] at hf;cases hf
 | some dx=>
 rw[qb,Ya,qa,Ya] at hf
 cases dx with
 | dK kvs=>
  have hf':((eL dy).map fun k=>D.bl (!(bC kvs k).isSome))=some (.bl b):=hf
  cases qk:eL dy with
  | none=>rw[qk] at hf';cases hf'
  | some ks=>
   rw[qk] at hf'
   cases hf'
   refine⟨P,F,ρ,_,qb,I,fun y F1 H1 e1 ry=>⟨P,F1,ρ,_,qa,I.evo e1,fun x F2 H2 e2 rx=>?_⟩⟩
   obtain⟨p,vs,rfl,h1,h2⟩:=wI ((I.evo e1).evo e2) rx
   have ek:=kT (ry.same e2.ext) qk
   subst ek
   refine⟨p,_,rfl,DGet.k h1,_,rfl,?_⟩
   have:(bZ vs ks).isSome=(bC kvs ks).isSome:=by
    rcases h2.val (k:=ks) with⟨z1,z2⟩ | ⟨v,d',z1,z2,z3⟩
    ·rw[z1,z2];rfl
    ·rw[z1,z2];rfl
   rw[this]
   exact k F2 H2 (e1.trans e2)
 | _=>cases hf
noncomputable def g8 (i:Nat)(a0:Addr)(v0:V)(gL:Dd)(fe:Dd):DF→Option D:=fun ρ=>match ρ[i]? with
 | some (some (.v (.fn a v d)))=>open Classical in if a=a0∧v=v0 then (fe ρ).bind fun x=>gL [some (.v x),some (.v d)] else none
 | _=>none
theorem qT {L:LamS}{a0 c' c:Addr}{uc:Value}{v0:V}{gL:Dd}{x:Str}{k ix:Nat}(S:L.Ok)(hl:LamIn X L a0 c' c uc)(rc:RelV v0 uc)(hr:Room (k+1) X.A)(hN:X.N[ix]?=some x)(hv:Vis X.env.scope x)(ha:PDE X e fe)
  (hb:∀ (s:Shared) (H:Hp) (E:XK),PDE (kX CX0 X.prog X.w X.K X.mg X.base L a0 c' c X.A X.stack s H E) L.body gL)
  (hd:(x == ("__debug__":Str))=false:=by decide) (hcd:(x == ("__classdict__":Str))=false:=by decide) (he:starEach [e] X.env=(false,eval e X.env)::starEach [] X.env:=by rfl) :
  PDE X (.Call (.Name x p) [e] [] pos) (g8 ix a0 v0 gL fe):=
 (qy (t:=tD X.K gL) S hl rc hr hN hv ha (fun s H E=>hb s H E) hd hcd he).imp fun σ H Q=>un7 fun P F ρ d hf I k=>by
  unfold g8 at hf
  split at hf
  ·rename_i a v dc q
   split at hf
   ·rename_i av
    obtain⟨rfl,rfl⟩:=av
    cases q2:fe ρ with
    | none=>rw[q2] at hf;cases hf
    | some xd=>
     rw[q2,Ya] at hf
     obtain⟨w,h1,h2⟩:=I.at q
     cases h2 with
     | fn rv=>
      refine⟨h1,P,F,ρ,xd,q2,I,fun va F1 H1 ev r=>⟨va,rfl,gd F1 H1,F1,[some (.v xd),some (.v dc)],d,hf,⟨dw ev.hp.sub,rfl,fun _=>none,fun i z hz=>?_⟩,fun v' F2 H2 e2 r2=>k v' F2 H2 (ev.trans (e2.change ev.hp)) r2⟩⟩
      match i,hz with
      | 0,hz=>cases hz;exact⟨va,rfl,r⟩
      | 1,hz=>cases hz;exact⟨_,rfl,Rep.same ev.ext rv⟩
      | i+2,hz=>cases hz
   ·cases hf
  ·cases hf
def uV (i:Nat)(fe:Dd):DF→Option RES:=fun ρ=>match ρ[i]?,fe ρ with
 | some (some (.v (.int a))),some (.int b)=>some (.nx (ρ.set i (some (.v (.int (a+b))))))
 | _,_=>none
theorem xB {ix:Nat}{x:Str}{pos':Pos}(hN:X.N.Nodup)(hi:X.N[ix]?=some x)(hx:Loc X.env.scope x)(he:PDE X e fe)(hf:X.fn x=true∨X.env.scope.names.lookup x=some .local:=by first | exact .inl rfl | exact .inr rfl | assumption):PD1 X (.AugAssign (.Name x pos') .Add e pos) (uV ix fe):=
 PS.imp (vV hN hi hx he xL hf) fun E σ H=>un7 fun P F ρ r hr I k=>by
  unfold uV at hr
  split at hr
  ·rename_i a b q q2
   cases hr
   obtain⟨v,h1,h2⟩:=I.at q
   cases h2
   refine⟨_,h1,P,F,ρ,_,q2,I,fun y F1 H1 ev r=>?_⟩
   cases r
   exact⟨a,b,rfl,rfl,k _ F1 H1 ev.ext ((I.evo ev).setV ix .int)⟩
  ·cases hr
end
def nT (K:Kq):Prop:=∀ a o,K.lookup a=some o→o.cls≠.type "list"
theorem jp {α:Type}:∀ {l:List (Addr×α)} {a:Addr} {o:α},l.lookup a=some o→(a,o)∈l
 | [],_,_,e=>nomatch e
 | (b,x)::l,a,o,e=>by
  rw[ZX] at e
  split at e
  ·rename_i q
   cases e
   rw[eq_of_beq q]
   exact Yc
  ·exact Yb _ (jp e)
theorem sX {K:Kq}(h:(K.all fun p=>p.2.cls != .type "list")=true):nT K:=fun a o e z=>by
 have:=Yz.mp h (a,o) (jp e)
 rw[z] at this
 exact absurd this (by decide)
section
variable {X:Cx} {o e:Expr} {pos apos cpos:Pos}
theorem vn (hK:nT X.K):MtM X "list.extend" (fun x vs H Q=>∃ l b xs zs,x=.ref l∧vs=[.ref b]∧H l=some (.lst xs)∧SqL X.K H b zs∧xs.length+zs.length≤sizeLine∧Q .non (upd H l (.lst (xs++zs)))):=by
 intro pz s σ H x vs v us Q I rx rv h
 obtain⟨l,b,xs,zs,rfl,rfl,hH,hB,hz,q⟩:=h
 cases rx
 obtain⟨u,rfl,ru⟩:=rv.one
 cases ru
 obtain⟨z,its,n,r,hl,e⟩:=I.lstM hH
 rcases hB with hB | ⟨o,its2,n2,hk,hc,_⟩
 ·obtain⟨z2,its2,n2,r2,e2⟩:=hB.ok I.hok
  have hsz:its.toArray.size+its2.toArray.size≤sizeLine:=by rw[Yl,Yl,← r.length,← r2.length];exact hz
  have hlong:¬ (!its.toArray.isEmpty&&Builtin.List.listTooLong (its.toArray.size+its2.toArray.size))=true:=by
   rw[ls hsz,Bool.and_false]
   exact Yg
  refine call_meets F.slot_list_extend ⟨_,e,rfl⟩ F.entry_list_extend (F.args_list_extend_2 _ _)
   (AutoSeq1.list_extend_list_list_0 l its.toArray n b its2.toArray n2 hlong (by rw[Yl,← r.length];exact z) (Nat.le_succ_of_le hsz)) ⟨e,e2,?_⟩
  refine⟨.non,_,I.lset (its':=its++its2) hH e (by simp) (r.append r2) ?_,rfl,q⟩
  rw[Ym]
  exact hz
 ·exact absurd hc (hK b o hk)
def lX (i:Nat)(g:Dd):DF→Option RES:=fun ρ=>match ρ[i]? with
 | some (some (.own (.lst ds) t))=>match g ρ with
  | some (.lst es)=>if ds.length+es.length≤16777216 then some (.nx (ρ.set i (some (.own (.lst (ds++es)) t)))) else none
  | _=>none
 | _=>none
theorem tF (i:Nat){g:Dd}(hK:nT X.K)(h:PE X o (cA i))(ha:PDE X e g)(hbase:attributeBase o "extend" X.env (eval o X.env)=eval o X.env:=by rfl)
  (hfew:((backTo cpos (starEach [e] X.env)).all (fun x=>!x.1)&&(backToKw cpos (keywordEach [] X.env)).all (fun x=>x.1.isSome)
   && decide (([e]:List Expr).length+([]:List Keyword).length+(if ([]:List Keyword).isEmpty then 0 else 1)<30))=true:=by rfl)
  (hline:(apos.endLine == cpos.line)=true:=by rfl) (hs:starEach [e] X.env=[(false,eval e X.env)]:=by rfl) (hsw:swapsWith (.Call (.Attribute o "extend" apos) [e] [] cpos) none pos.line X.env=pure false:=by rfl) :
  PD1 X (.Expr (.Call (.Attribute o "extend" apos) [e] [] cpos) pos) (lX i g):=
 PS.imp (cz (eO YZ PySem.F.slot_list_extend PySem.F.type_list_extend (vn hK) h (ar ha aQ hs) hbase hfew hline hs rfl) hsw) fun E σ H=>un7 fun P F ρ r hr I k=>by
  unfold lX at hr
  split at hr
  ·rename_i ds t q
   split at hr
   ·rename_i es' q2
    split at hr
    ·rename_i hl
     cases hr
     obtain⟨a,vs,h1,h2,h3,h4,h5⟩:=fX I q
     refine⟨_,h1,.inl ⟨rfl,vs,SqL.of h4⟩,P,F,ρ,_,q2,I,fun v F1 H1 e1 rv=>?_⟩
     obtain⟨k1,k2⟩:=e1.keep a _ h4 h2
     have I1:=I.evo e1
     obtain⟨b,ws,rfl,u1,u2⟩:=cb I1 (.inl rv)
     refine⟨a,b,vs,ws,rfl,rfl,k1,u1,by rw[YH,h5.length,u2.length];exact hl,k σ F1 _ e1.ext ?_⟩
     exact I1.mut (o':=.lst _) (u:=.lst _) q rfl rfl h1 ((h5.same e1.ext).append u2)
    ·cases hr
   ·cases hr
  ·cases hr
end
def spLawT (W:LamW)(K:Kq):Sp:=fun vs H Q _=>∃ (a:Addr) (ns:List Int),vs=[.ref a]∧SqL K H a (ns.map V.int)∧ns.length≤63∧nE W.t W.pos H∧∀ H',(∃ φ,H' W.t=some (.ext φ)∧∀ h,φ h→∃ ps,h.get? W.t=some (tabObj ps))→Q (.bl true) H'
theorem nh {W:LamW}{K:Kq}{m:Dm}(hm:∀ ns:List Int,ns.length≤63→m [.v (.lst (ns.map D.int))]=some (.v (.bl true))):∀ vs H Q E,spLawT W K vs H Q E→spT W K m vs H Q E:=by
 rintro vs H Q E ⟨a,ns,rfl,hS,hl,⟨hO,hN⟩,hQ⟩
 have off:∀ {b:Addr},b≠W.t→(fun b=>if b=W.t then none else H b) b=H b:=fun h=>Yh h
 have hS':SqL K (fun b=>if b=W.t then none else H b) a (ns.map V.int):=by
  rcases hS with hr | hk
  ·refine .inl ?_
   have ne:a≠W.t:=fun z=>by
    subst z
    rcases hr with z | ⟨o,z⟩
    ·rw[hO] at z;cases z
    ·rw[hO] at z;cases z
   rcases hr with z | ⟨o,z⟩
   ·exact .inl ((off ne).trans z)
   ·exact .inr ⟨o,(off ne).trans z⟩
  ·exact .inr hk
 refine⟨fun b=>if b=W.t then H b else none,fun b=>if b=W.t then none else H b,_,_,hm ns hl,⟨fun b o e=>?_,fun b o e=>?_,fun b o e=>?_⟩,.inl ?_,.cons rfl (show Rep K _ _ _ from .lst hS' (Reps.ints ns)) .nil,fun v P' F' H' _ _ T' hp r=>?_⟩
 ·have e':(if b=W.t then none else H b)=some o:=e
  split at e'
  ·cases e'
  ·exact e'
 ·have e':(if b=W.t then H b else none)=some o:=e
  split at e'
  ·exact e'
  ·cases e'
 ·have e':(if b=W.t then H b else none)=some o:=e
  split at e'
  ·rename_i h;exact Yf h
  ·cases e'
 ·exact (Yf rfl).trans hO
 ·cases r
  refine hQ H' ?_
  rcases T' with h | ⟨c',h,_⟩
  ·exact⟨_,hp.pro _ _ h,fun _ ⟨ps,e,_⟩=>⟨ps,e⟩⟩
  ·exact⟨_,hp.pro _ _ h,fun _ ⟨ps,e,_⟩=>⟨ps,e⟩⟩
theorem DInv.lend {K:Kq}{P F H:Hp}{ρ:DF}{σ:St}(I:DInv K P F H ρ σ){i:Nat}{o:OD}{t:Option Addr}(fl:o.flat=true)(h:ρ[i]?=some (some (.own o t))):∃ P',DInv K P' F H (ρ.set i (some (.bor o))) σ:=by
 obtain⟨O,hR⟩:=I.rep
 obtain⟨_,h1,a,rfl,h2,_⟩:=hR i _ h
 obtain⟨⟨fa,pa,oa⟩,u,a3,a4⟩:=(ORep.flat fl).mp h2
 have ne:∀ {b:Addr} {m:Nat},O b=some m→i≠m→b≠a:=fun h hn z=>by subst z;rw[oa] at h;exact hn (Yt h)
 refine⟨upd P a u,⟨I.sub,fun b w e=>?_,fun b w e=>?_⟩,by rw[YK];exact I.len,O,fun m x hm=>?_⟩
 ·by_cases q:b=a
  ·subst q;rw[aq] at e;cases e;exact a3
  ·rw[ap q] at e;exact I.pro b w e
 ·by_cases q:b=a
  ·subst q;exact fa
  ·rw[ap q] at e;exact I.dis b w e
 ·rcases ck hm with⟨rfl,e,hl⟩ | ⟨him,hm'⟩
  ·cases e
   exact⟨_,h1,a,rfl,(ORep.flat fl).mpr ⟨trivial,u,aq,a4⟩⟩
  ·obtain⟨v,e1,e2⟩:=hR m x hm'
   refine⟨v,e1,?_⟩
   cases x with
   | v d=>exact e2
   | own o' t'=>
    obtain⟨b,rfl,e3,ht⟩:=e2
    exact⟨b,rfl,e3.mono (Same.refl _) fun b' w q hb=>⟨hb,q.1,by rw[ap (ne q.2.2 him)];exact q.2.1,q.2.2⟩,ht⟩
   | bor o'=>
    obtain⟨b,rfl,e3⟩:=e2
    exact⟨b,rfl,e3.mono (Same.refl _) fun b' w q hb=>⟨by rw[ap (fun z=>by subst z;rw[pa] at hb;cases hb)];exact hb,q⟩⟩
def sS (i:Nat)(f:Do):DF→Option OD:=fun ρ=>match ρ[i]? with
 | some (some (.own o _))=>if o.flat=true then f (ρ.set i (some (.bor o))) else none
 | _=>none
theorem rW {X:Cx}{e:Expr}(i:Nat){f:Do}(h:PDO X e f):PDO X e (sS i f):=PE.imp h fun σ H Q=>un7 fun P F ρ o hf I k=>by
 unfold sS at hf
 split at hf
 ·rename_i o' t q
  split at hf
  ·rename_i fl
   obtain⟨P',I'⟩:=I.lend fl q
   exact⟨P',F,_,o,hf,I',fun a F' H' ev ho=>k a F' H' (ev.change I.toDHp) ho⟩
  ·cases hf
 ·cases hf
section
variable {K:Kq} {x qual:Str} {st:Stmt} {f:Addr} {oc:Value} {od an:Option Addr} {osl:Array (Option Value)} {kV doc pm cdv ct:Value}
theorem uI {T:Addr}{c1:Value}{d1:Option Addr}{s1:Array (Option Value)}{nt:Nat}(l:K.lookup f=some ⟨oc,od,.func (fnOf x qual (defArgs st) (defBody st) (defScope st) (.ref T) kV doc pm an cdv ct),osl⟩)
  (c:codeIn K cdv qual=true) (k:keepIn K (.ref f)=true) (lt:K.lookup T=some ⟨c1,d1,.seq #[Value.none] nt,s1⟩):FunD K x qual st f (fnOf x qual (defArgs st) (defBody st) (defScope st) (.ref T) kV doc pm an cdv ct):=⟨⟨oc,od,T,kV,doc,pm,an,cdv,ct,osl,_,nt,rfl,l,c,lt,rfl⟩,k⟩
theorem tW {c0:Addr}(l:K.lookup f=some ⟨oc,od,.func (fnOf x qual (defArgs st) (defBody st) (defScope st) .none kV doc pm an (.ref c0) ct),osl⟩)
  (c:codeIn K (.ref c0) qual=true) (k:keepIn K (.ref f)=true):FunC K x qual st f (fnOf x qual (defArgs st) (defBody st) (defScope st) .none kV doc pm an (.ref c0) ct) c0:=⟨⟨oc,od,kV,doc,pm,an,ct,osl,rfl,l,c⟩,k⟩
end
end L2
namespace My
open PySem PySem.Spec PyProof.Rows L2
noncomputable section
def top (i:Nat):Stmt:=PySem.Challenge.pw_tieword_k05_parts.main.body.getD i (.Pass ⟨0,0,0,0⟩)
abbrev nC:Stmt:=top 22
abbrev g_:Stmt:=top 23
abbrev hU:Stmt:=top 27
abbrev dB:Stmt:=top 28
abbrev gS:Stmt:=top 26
abbrev gs:Stmt:=top 25
abbrev ga:Stmt:=top 29
abbrev k6:Stmt:=top 12
abbrev mK:Stmt:=top 13
abbrev mt:Stmt:=top 14
abbrev iy:Stmt:=top 15
abbrev gP:Stmt:=top 16
abbrev iO:Stmt:=top 17
abbrev mf:Stmt:=top 18
abbrev kL:Stmt:=kD (top 19) 0
abbrev ng:Stmt:=kD (top 19) 1
abbrev lp:Stmt:=kD (top 19) 3
abbrev f6:Stmt:=top 7
abbrev eA:Stmt:=top 20
abbrev iR:Stmt:=top 24
abbrev nD:Stmt:=top 30
abbrev im:Stmt:=top 31
abbrev nj:Stmt:=top 32
set_option genInjectivity false
set_option genSizeOf false
set_option genSizeOfSpec false
structure Adr where
 C:Addr
 f_q8:Addr
 d_q8:FuncData
 f_q12:Addr
 d_q12:FuncData
 f_q14:Addr
 d_q14:FuncData
 f_q10:Addr
 d_q10:FuncData
 f_q11:Addr
 d_q11:FuncData
 f_q17:Addr
 d_q17:FuncData
 f_q15:Addr
 d_q15:FuncData
 f_q3:Addr
 d_q3:FuncData
 f_q5:Addr
 d_q5:FuncData
 f_q4:Addr
 d_q4:FuncData
 f_q22:Addr
 d_q22:FuncData
 f_q18:Addr
 d_q18:FuncData
 f_q20:Addr
 d_q20:FuncData
 f_q6:Addr
 d_q6:FuncData
 f_q0:Addr
 d_q0:FuncData
 f_q2:Addr
 d_q2:FuncData
 f_q1:Addr
 d_q1:FuncData
 f_q21:Addr
 d_q21:FuncData
 f_q19:Addr
 d_q19:FuncData
 f_q16:Addr
 d_q16:FuncData
 f_q9:Addr
 d_q9:FuncData
 f_q13:Addr
 d_q13:FuncData
 f_q7:Addr
 d_q7:FuncData
 tk_MOST_PLACES:Tok
 tk_MOST_TIES:Tok
 tk_MOST_LETTERS:Tok
 tb:Addr
 cc:Addr
structure Txt (K:PySem.W.Frag) (mg:Str→Option Value) (t:Adr):Prop where
 cl:Cls K t.C
 mkC:Mk K t.C t.f_q0
 mgC:mg "Web"=some (.ref t.C)
 na_joins:NoAttr K t.C "joins"
 na_kinds:NoAttr K t.C "kinds"
 na_ties:NoAttr K t.C "ties"
 fn_q8:Fun K "_law_cells" "_law_cells" nC t.f_q8 t.d_q8
 bd_q8:Binds K t.d_q8 ["_law_script", "_law_at", "_law_many"] []
 g_q8:mg "_law_cells"=some (.ref t.f_q8)
 fn_q12:Fun K "_law_mix" "_law_mix" g_ t.f_q12 t.d_q12
 bd_q12:Binds K t.d_q12 ["_law_cell", "_law_k"] []
 g_q12:mg "_law_mix"=some (.ref t.f_q12)
 fn_q14:Fun K "_law_shuffled" "_law_shuffled" hU t.f_q14 t.d_q14
 bd_q14:Binds K t.d_q14 ["_law_seed", "_law_many"] []
 g_q14:mg "_law_shuffled"=some (.ref t.f_q14)
 fn_q10:Fun K "_law_family" "_law_family" dB t.f_q10 t.d_q10
 bd_q10:Binds K t.d_q10 ["_law_seed", "_law_many"] []
 g_q10:mg "_law_family"=some (.ref t.f_q10)
 fn_q11:Fun K "_law_kind" "_law_kind" gS t.f_q11 t.d_q11
 bd_q11:Binds K t.d_q11 ["_law_cell", "_law_seed"] []
 g_q11:mg "_law_kind"=some (.ref t.f_q11)
 fn_q17:Fun K "_law_word" "_law_word" gs t.f_q17 t.d_q17
 bd_q17:Binds K t.d_q17 ["_law_seed", "_law_which"] []
 g_q17:mg "_law_word"=some (.ref t.f_q17)
 fn_q15:Fun K "_law_web" "_law_web" ga t.f_q15 t.d_q15
 bd_q15:Binds K t.d_q15 ["_law_cells_here", "_law_seed", "_law_many"] []
 g_q15:mg "_law_web"=some (.ref t.f_q15)
 fn_q3:Fun K "is_place_kind" "is_place_kind" k6 t.f_q3 t.d_q3
 bd_q3:Binds K t.d_q3 ["kind"] []
 g_q3:mg "is_place_kind"=some (.ref t.f_q3)
 fn_q5:Fun K "is_tie_kind" "is_tie_kind" mK t.f_q5 t.d_q5
 bd_q5:Binds K t.d_q5 ["kind"] []
 g_q5:mg "is_tie_kind"=some (.ref t.f_q5)
 fn_q4:Fun K "is_tie" "is_tie" mt t.f_q4 t.d_q4
 bd_q4:Binds K t.d_q4 ["tie", "size"] []
 g_q4:mg "is_tie"=some (.ref t.f_q4)
 fn_q22:Fun K "refuse_wrong" "refuse_wrong" iy t.f_q22 t.d_q22
 bd_q22:Binds K t.d_q22 ["kinds", "ties"] []
 g_q22:mg "refuse_wrong"=some (.ref t.f_q22)
 fn_q18:Fun K "lesser_first" "lesser_first" gP t.f_q18 t.d_q18
 bd_q18:Binds K t.d_q18 ["tie"] []
 g_q18:mg "lesser_first"=some (.ref t.f_q18)
 fn_q20:Fun K "put_pair" "put_pair" iO t.f_q20 t.d_q20
 bd_q20:Binds K t.d_q20 ["joins", "ends", "pair"] []
 g_q20:mg "put_pair"=some (.ref t.f_q20)
 fn_q6:Fun K "joins_of" "joins_of" mf t.f_q6 t.d_q6
 bd_q6:Binds K t.d_q6 ["ties"] []
 g_q6:mg "joins_of"=some (.ref t.f_q6)
 fn_q0:Fun K "__init__" "Web.__init__" kL t.f_q0 t.d_q0
 bd_q0:Binds K t.d_q0 ["self", "kinds", "ties"] []
 fn_q2:Fun K "size" "Web.size" ng t.f_q2 t.d_q2
 bd_q2:Binds K t.d_q2 ["self"] []
 mt_q2:Meth K t.C "size" t.f_q2
 fn_q1:Fun K "near" "Web.near" lp t.f_q1 t.d_q1
 bd_q1:Binds K t.d_q1 ["self", "place"] []
 mt_q1:Meth K t.C "near" t.f_q1
 fn_q21:FunD K "reached" "reached" f6 t.f_q21 t.d_q21
 bd_q21:Binds K t.d_q21 ["starts", "onward", "most"] [Value.none]
 g_q21:mg "reached"=some (.ref t.f_q21)
 fn_q19:FunC K "parts_of" "parts_of" eA t.f_q19 t.d_q19 t.cc
 bd_q19:Binds K t.d_q19 ["web"] []
 g_q19:mg "parts_of"=some (.ref t.f_q19)
 fn_q16:Fun K "_law_whole" "_law_whole" iR t.f_q16 t.d_q16
 bd_q16:Binds K t.d_q16 ["_law_found"] []
 g_q16:mg "_law_whole"=some (.ref t.f_q16)
 fn_q9:Fun K "_law_come_to" "_law_come_to" nD t.f_q9 t.d_q9
 bd_q9:Binds K t.d_q9 ["_law_ties", "_law_start"] []
 g_q9:mg "_law_come_to"=some (.ref t.f_q9)
 fn_q13:Fun K "_law_parts_are" "_law_parts_are" im t.f_q13 t.d_q13
 bd_q13:Binds K t.d_q13 ["_law_parts", "_law_ties", "_law_many"] []
 g_q13:mg "_law_parts_are"=some (.ref t.f_q13)
 fn_q7:Fun K "law" "law" nj t.f_q7 t.d_q7
 bd_q7:Binds K t.d_q7 ["_law_script"] []
 g_q7:mg "law"=some (.ref t.f_q7)
 b_all:mg "all"=none
 b_bool:mg "bool"=none
 b_dict:mg "dict"=none
 b_int:mg "int"=none
 b_isinstance:mg "isinstance"=none
 b_len:mg "len"=none
 b_list:mg "list"=none
 b_max:mg "max"=none
 b_range:mg "range"=none
 b_sorted:mg "sorted"=none
 b_tuple:mg "tuple"=none
 c_MOST_PLACES:mg "MOST_PLACES"=some (.int 7 t.tk_MOST_PLACES)
 c_MOST_TIES:mg "MOST_TIES"=some (.int 12 t.tk_MOST_TIES)
 c_MOST_LETTERS:mg "MOST_LETTERS"=some (.int 3 t.tk_MOST_LETTERS)
 ch:PySem.W.codeHdIn K t.cc t.tb=true
 nl:nT K
def rj:Expr:=match defBody eA with | [_,.For _ _ (.Assign _ (.Call _ [.Call _ [_,l] _ _] _ _) _::_) _ _,_]=>l | _=>.Constant .none 0 ⟨0,0,0,0⟩
def Az:Arguments:=match rj with | .Lambda p _ _ _=>p | _=>defArgs eA
def An:Expr:=match rj with | .Lambda _ b _ _=>b | _=>rj
def yv:Scope:=match rj with | .Lambda _ _ s _=>s | _=>defScope eA
def lamQ:Pos:=match rj with | .Lambda _ _ _ q=>q | _=>⟨0,0,0,0⟩
def xF:LamS:=⟨"parts_of.<locals>.<lambda>",Az,An,yv, "at", "web"⟩
def lamW (t:Addr):LamW:=⟨xF,t,lamQ⟩
theorem wQ:xF.Ok:=⟨rfl,rfl,rfl,rfl,rfl,by decide +kernel,fun y h=>(by decide +kernel:∀ p∈yv.names,p.2=.free→p.1 = "web") _ (YY h) rfl,fun _ _ _ _ _=>rfl⟩
variable {P:Program} {w:World} {K:Kq} {mg:Ks} {base:Heap} {t:Adr}
abbrev K0:PySem.W.Frag:=[]
abbrev AL:List Str:=["_law_script", "_law_at", "_law_many"]
theorem yh:FnScope AL ["_law_script", "_law_at", "_law_many"] (defScope nC):=⟨rfl,rfl,rfl,by decide +kernel,rfl,by decide +kernel,by decide +kernel⟩
def g_q8 (C:Addr):DF→Option RES:=
  (c8 (asL (slL (d2 aZ (asO (asL (slL (ag 0) (bI (getV 1)) (bI (d2 aZ (ag 1) (ag 2)))))) (asO (asL (ah (d2 aZ (ag 1) (fun _=>some (.int 1))) (ah (fun _=>some (.int 5)) (ah (fun _=>some (.int 2)) (ah (fun _=>some (.int 9)) (ah (fun _=>some (.int 4)) (ah (fun _=>some (.int 7)) (ah (fun _=>some (.int 1)) (ah (fun _=>some (.int 8)) (ah (fun _=>some (.int 3)) (ah (fun _=>some (.int 6)) (ah (fun _=>some (.int 0)) (ah (fun _=>some (.int 11)) (ah (fun _=>some (.int 13)) (ah (fun _=>some (.int 12)) (ah (fun _=>some (.int 10)) (ah (fun _=>some (.int 14)) aT))))))))))))))))))) bNo (bI (getV 2)))))
def pB (C:Addr):List DV→Option DV:=mOf 3 3 (g_q8 C)
theorem yB (T:Txt K mg t):FnOk P w K mg base CX0 1 t.f_q8 t.d_q8 ["_law_script", "_law_at", "_law_many"] (spD K (pB t.C)):=
 T.fn_q8.okD yh fun cdv A outer s H E hr=>(aj (dY (fR (PDE.r (aF (PDE.r (PDO.v (fR (ac 0 (pv 0)) (gk (ao 1 (pv 1))) (gk (aF (ac 1 (pv 1)) (ac 2 (pv 2))))))) (PDE.r (PDO.v (bM (af (aF (ac 1 (pv 1)) (PDE.r aa)) (af aa (af aa (af aa (af aa (af aa (af aa (af aa (af aa (af aa (af aa (af aa (af aa (af aa (af aa (af aa ax))))))))))))))))))))) kb (gk (ao 2 (pv 2))))))
abbrev yg:List Str:=["_law_cell", "_law_k", "_law_seed"]
theorem sF:FnScope yg ["_law_cell", "_law_k"] (defScope g_):=⟨rfl,rfl,rfl,by decide +kernel,rfl,by decide +kernel,by decide +kernel⟩
def g_q12 (C:Addr):DF→Option RES:=
  (ai (aS 2 (d2 aP (d2 cV (d2 aZ (d2 aZ (d2 aP (ag 0) (fun _=>some (.int 2147483647))) (fun _=>some (.int 1))) (d2 cV (d2 cV (fun _=>some (.int 7919)) (ag 1)) (ag 1))) (fun _=>some (.int 48271))) (fun _=>some (.int 2147483629))))
  (bj (d2 aP (d2 cV (ag 2) (ag 2)) (fun _=>some (.int 998244353)))))
def cw (C:Addr):List DV→Option DV:=mOf 3 2 (g_q12 C)
theorem fE (T:Txt K mg t):FnOk P w K mg base CX0 1 t.f_q12 t.d_q12 ["_law_cell", "_law_k"] (spD K (cw t.C)):=
 T.fn_q12.okD sF fun cdv A outer s H E hr=>(ae (aU (i:=2) sF.nd rfl (.inl rfl) (aN (PDE.r (dq (PDE.r (aF (PDE.r (aF (PDE.r (aN (ac 0 (pv 0)) (PDE.r aa))) (PDE.r aa))) (PDE.r (dq (PDE.r (dq (PDE.r aa) (ac 1 (pv 1)))) (ac 1 (pv 1)))))) (PDE.r aa))) (PDE.r aa))) (aj (bb (aN (PDE.r (dq (ac 2 (pv 2)) (ac 2 (pv 2)))) (PDE.r aa)))))
abbrev zq:List Str:=["_law_seed", "_law_many", "_law_rest", "_law_order"]
theorem mS:FnScope zq ["_law_seed", "_law_many"] (defScope hU):=⟨rfl,rfl,rfl,by decide +kernel,rfl,by decide +kernel,by decide +kernel⟩
def g_q14 (C:Addr):DF→Option RES:=
  (ai (bf 2 (asL (e_ (getV 1))))
  (ai (bf 3 (asL aT))
  (ai (bi (asB (d2 gtI (d1 aY (ak 2)) (fun _=>some (.int 0)))) (dZ 3 2 (d2 aP (am (cw C) (aB 0 (aV (d2 aZ (fun _=>some (.int 50)) (d1 aY (ak 2))) (fun _=>some [])))) (d1 aY (ak 2)))) 10)
  (fB 3))))
def k5 (C:Addr):List DV→Option DV:=mOf 4 2 (g_q14 C)
theorem xE (T:Txt K mg t):FnOk P w K mg base CX0 2 t.f_q14 t.d_q14 ["_law_seed", "_law_many"] (spD K (k5 t.C)):=
 T.fn_q14.okD mS fun cdv A outer s H E hr=>(ae (bT (i:=2) mS.nd rfl (.inl rfl) (eD rfl rfl T.b_list rfl T.b_range (ao 1 (pv 1)))) (ae (bT (i:=3) mS.nd rfl (.inl rfl) (bM ax)) (ae (iJ 10 YO (nU (PDE.r (bA rfl T.b_len (au 2 (pv 2)))) (PDE.r aa)) (aj (oM 3 2 (pv 3) (pv 2) (aN (PDE.r (aR (fE T) (hr.mono (by decide)) rfl T.g_q12 T.fn_q12.kp T.bd_q12 (bG 0 (pv 0) (a7 (aF (PDE.r aa) (PDE.r (bA rfl T.b_len (au 2 (pv 2))))) ay)))) (PDE.r (bA rfl T.b_len (au 2 (pv 2)))))))) (aj (eQ 3 (pv 3))))))
abbrev jy:List Str:=["_law_seed", "_law_many", "_law_how", "_law_half", "_law_ends", "_law_k"]
theorem g7:FnScope jy ["_law_seed", "_law_many"] (defScope dB):=⟨rfl,rfl,rfl,by decide +kernel,rfl,by decide +kernel,by decide +kernel⟩
def g_q10 (C:Addr):DF→Option RES:=
  (ai (aS 2 (d2 aP (ag 0) (fun _=>some (.int 6))))
  (ai (aS 3 (d2 br (ag 1) (fun _=>some (.int 2))))
  (ai (dIf (dS (asB (d2 eqD (ak 2) (fun _=>some (.int 1)))) (asB (d2 gtI (ag 1) (fun _=>some (.int 1))))) (c8 (asL (bh 1 [1] (cT (ag 1)) (setV 0) cJ (asT (ah (getV 0) (ah (d2 aP (d2 aZ (ag 0) (fun _=>some (.int 1))) (ag 1)) aT)))))) dNx)
  (ai (dIf (asB (d2 eqD (ak 2) (fun _=>some (.int 2)))) (c8 (asL (bh 1 [] (p6 (fun _=>some (.int 1)) (ag 1)) (setV 0) cJ (asT (ah (fun _=>some (.int 0)) (ah (getV 0) aT)))))) dNx)
  (ai (dIf (asB (d2 eqD (ak 2) (fun _=>some (.int 3)))) (c8 (asL (rC (asO (asL (bh 1 [] (cT (d2 ki (ag 3) (fun _=>some (.int 1)))) (setV 0) cJ (asT (ah (getV 0) (ah (d2 aZ (ag 0) (fun _=>some (.int 1))) aT)))))) (asO (asL (bh 1 [] (p6 (ag 3) (d2 ki (d2 cV (fun _=>some (.int 2)) (ag 3)) (fun _=>some (.int 1)))) (setV 0) cJ (asT (ah (getV 0) (ah (d2 aZ (ag 0) (fun _=>some (.int 1))) aT))))))))) dNx)
  (ai (bf 4 (asL aT))
  (ai (dIf (dS (asB (d2 eqD (ak 2) (fun _=>some (.int 4)))) (asB (d2 ltd (ak 1) (fun _=>some (.int 6))))) (bQ (cT (ag 1)) (setV 5) (uB 4 (bh 1 [5] (cT (ag 5)) (setV 0) cJ (asT (ah (getV 0) (ah (getV 1) aT)))))) dNx)
  (fB 4))))))))
def k7 (C:Addr):List DV→Option DV:=mOf 6 2 (g_q10 C)
theorem wf (T:Txt K mg t):FnOk P w K mg base CX0 1 t.f_q10 t.d_q10 ["_law_seed", "_law_many"] (spD K (k7 t.C)):=
 T.fn_q10.okD g7 fun cdv A outer s H E hr=>(ae (aU (i:=2) g7.nd rfl (.inl rfl) (aN (ac 0 (pv 0)) (PDE.r aa))) (ae (aU (i:=3) g7.nd rfl (.inl rfl) (bU (ac 1 (pv 1)) (PDE.r aa))) (ae (bD (PDW.t (d4 (dG hr.h64 (au 2 (pv 2)) (PDE.n aa)) (dO (nU (ac 1 (pv 1)) (PDE.r aa))))) (aj (dY (bF (N:=["_law_k", "_law_many"]) (own:=1) (ix:=[1]) (is:=[0]) rfl (dH (defScope dB) rfl (by decide +kernel)) (dN jy rfl (by decide +kernel)) (cE (by decide)) (bx rfl T.b_range (ac 1 (pv 1))) (fun _ _ _ _=>(aI (i:=0) (show (["_law_k", "_law_many"]:List Str).Nodup from by decide +kernel) rfl (.inl rfl))) (fun _ _ _ _=>eC) (fun _ _ _ _=>(bz (af (ao 0 (pv 0)) (af (aN (PDE.r (aF (ac 0 (pv 0)) (PDE.r aa))) (ac 1 (pv 1))) ax)))) (by decide +kernel)))) aL) (ae (bD (dG hr.h64 (au 2 (pv 2)) (PDE.n aa)) (aj (dY (bF (N:=["_law_k"]) (own:=1) (ix:=[]) (is:=[0]) rfl (dH (defScope dB) rfl (by decide +kernel)) (dN jy rfl (by decide +kernel)) (cE (by decide)) (ip rfl T.b_range (PDE.r aa) (ac 1 (pv 1))) (fun _ _ _ _=>(aI (i:=0) (show (["_law_k"]:List Str).Nodup from by decide +kernel) rfl (.inl rfl))) (fun _ _ _ _=>eC) (fun _ _ _ _=>(bz (af aa (af (ao 0 (pv 0)) ax)))) (by decide +kernel)))) aL) (ae (bD (dG hr.h64 (au 2 (pv 2)) (PDE.n aa)) (aj (dY (u_ (PDE.r (PDO.v (bF (N:=["_law_k"]) (own:=1) (ix:=[]) (is:=[0]) rfl (dH (defScope dB) rfl (by decide +kernel)) (dN jy rfl (by decide +kernel)) (cE (by decide)) (bx rfl T.b_range (PDE.r (ms (ac 3 (pv 3)) (PDE.r aa)))) (fun _ _ _ _=>(aI (i:=0) (show (["_law_k"]:List Str).Nodup from by decide +kernel) rfl (.inl rfl))) (fun _ _ _ _=>eC) (fun _ _ _ _=>(bz (af (ao 0 (pv 0)) (af (aF (ac 0 (pv 0)) (PDE.r aa)) ax)))) (by decide +kernel)))) (PDE.r (PDO.v (bF (N:=["_law_k"]) (own:=1) (ix:=[]) (is:=[0]) rfl (dH (defScope dB) rfl (by decide +kernel)) (dN jy rfl (by decide +kernel)) (cE (by decide)) (ip rfl T.b_range (ac 3 (pv 3)) (PDE.r (ms (PDE.r (dq (PDE.r aa) (ac 3 (pv 3)))) (PDE.r aa)))) (fun _ _ _ _=>(aI (i:=0) (show (["_law_k"]:List Str).Nodup from by decide +kernel) rfl (.inl rfl))) (fun _ _ _ _=>eC) (fun _ _ _ _=>(bz (af (ao 0 (pv 0)) (af (aF (ac 0 (pv 0)) (PDE.r aa)) ax)))) (by decide +kernel))))))) aL) (ae (bT (i:=4) g7.nd rfl (.inl rfl) (bM ax)) (ae (bD (PDW.t (d4 (dG hr.h64 (au 2 (pv 2)) (PDE.n aa)) (dO (iN hr.h64 (au 1 (pv 1)) (PDE.n aa))))) (aj (cS YO rfl (bx rfl T.b_range (ac 1 (pv 1))) (aI (i:=5) g7.nd rfl (.inr rfl)) (aj (pR 4 (pv 4) (bF (N:=["_law_j", "_law_k"]) (own:=1) (ix:=[5]) (is:=[0]) rfl (dH (defScope dB) rfl (by decide +kernel)) (dN jy rfl (by decide +kernel)) (cE (by decide)) (bx rfl T.b_range (ac 5 (pv 5))) (fun _ _ _ _=>(aI (i:=0) (show (["_law_j", "_law_k"]:List Str).Nodup from by decide +kernel) rfl (.inl rfl))) (fun _ _ _ _=>eC) (fun _ _ _ _=>(bz (af (ao 0 (pv 0)) (af (ao 1 (pv 1)) ax)))) (by decide +kernel)))))) aL) (aj (eQ 4 (pv 4))))))))))
abbrev zI:List Str:=["_law_cell", "_law_seed", "_law_far", "_law_how"]
theorem mo:FnScope zI ["_law_cell", "_law_seed"] (defScope gS):=⟨rfl,rfl,rfl,by decide +kernel,rfl,by decide +kernel,by decide +kernel⟩
def g_q11 (C:Addr):DF→Option RES:=
  (ai (aS 2 (d2 aP (d2 cV (d2 aZ (ag 1) (fun _=>some (.int 1))) (fun _=>some (.int 618033988749894848204586834367))) (d2 ly (fun _=>some (.int 10)) (fun _=>some (.int 30)))))
  (ai (aS 3 (d2 aP (am (cw C) (aB 0 (aV (fun _=>some (.int 3)) (fun _=>some [])))) (fun _=>some (.int 5))))
  (ai (dIf (asB (d2 eqD (ak 3) (fun _=>some (.int 4)))) (bj (d2 aP (ag 0) (d2 ly (fun _=>some (.int 10)) (fun _=>some (.int 30))))) dNx)
  (bj (d2 ixD (asO (asL (ah (getV 2) (ah (getV 2) (ah (d2 aP (d2 aZ (ag 2) (fun _=>some (.int 1))) (d2 ly (fun _=>some (.int 10)) (fun _=>some (.int 30)))) (ah (fun _=>some (.int 0)) aT)))))) (ag 3))))))
def f8 (C:Addr):List DV→Option DV:=mOf 4 2 (g_q11 C)
theorem xt (T:Txt K mg t):FnOk P w K mg base CX0 2 t.f_q11 t.d_q11 ["_law_cell", "_law_seed"] (spD K (f8 t.C)):=
 T.fn_q11.okD mo fun cdv A outer s H E hr=>(ae (aU (i:=2) mo.nd rfl (.inl rfl) (aN (PDE.r (dq (PDE.r (aF (ac 1 (pv 1)) (PDE.r aa))) (PDE.r aa))) (PDE.r (iP (PDE.r aa) (PDE.r aa))))) (ae (aU (i:=3) mo.nd rfl (.inl rfl) (aN (PDE.r (aR (fE T) (hr.mono (by decide)) rfl T.g_q12 T.fn_q12.kp T.bd_q12 (bG 0 (pv 0) (a7 aa ay)))) (PDE.r aa))) (ae (bD (dG hr.h64 (au 3 (pv 3)) (PDE.n aa)) (aj (bb (aN (ac 0 (pv 0)) (PDE.r (iP (PDE.r aa) (PDE.r aa)))))) aL) (aj (bb (bq (PDE.r (PDO.v (bM (af (ao 2 (pv 2)) (af (ao 2 (pv 2)) (af (aN (PDE.r (aF (ac 2 (pv 2)) (PDE.r aa))) (PDE.r (iP (PDE.r aa) (PDE.r aa)))) (af aa ax))))))) (ac 3 (pv 3))))))))
abbrev vL:List Str:=["_law_seed", "_law_which", "_law_letters", "_law_base", "_law_size", "_law_place", "_law_sign"]
theorem fP:FnScope vL ["_law_seed", "_law_which"] (defScope gs):=⟨rfl,rfl,rfl,by decide +kernel,rfl,by decide +kernel,by decide +kernel⟩
def g_q17 (C:Addr):DF→Option RES:=
  (ai (aS 2 (fun _=>some (.str "abcdefghijklmnopqrstuvwxyz")))
  (ai (aS 3 (d2 sy (fun _=>some (.str "")) (asO (asL (bh 1 [2,0] (cT (fun _=>some (.int 3))) (setV 0) cJ (d2 ixD (ag 1) (d2 aP (d2 aZ (d2 br (ag 2) (fun _=>some (.int 9))) (d2 cV (fun _=>some (.int 7)) (ag 0))) (fun _=>some (.int 26)))))))))
  (ai (aS 4 (d2 aZ (fun _=>some (.int 1)) (d2 aP (ag 0) (fun _=>some (.int 3)))))
  (ai (dIf (asB (d2 eqD (d2 aP (d2 br (ag 0) (fun _=>some (.int 3))) (fun _=>some (.int 4))) (fun _=>some (.int 0)))) (bj (slS (ag 3) bNo (bI (d2 aZ (fun _=>some (.int 1)) (d2 aP (ag 1) (fun _=>some (.int 3))))))) dNx)
  (ai (aS 5 (d2 aP (d2 br (ag 0) (fun _=>some (.int 3))) (ag 4)))
  (ai (aS 6 (d2 ixD (ag 2) (d2 aP (d2 aZ (d2 aZ (d2 br (ag 0) (fun _=>some (.int 9))) (d2 cV (fun _=>some (.int 7)) (ag 5))) (ag 1)) (fun _=>some (.int 26)))))
  (bj (d2 aZ (d2 aZ (slS (ag 3) bNo (bI (getV 5))) (ag 6)) (slS (ag 3) (bI (d2 aZ (ag 5) (fun _=>some (.int 1)))) (bI (getV 4)))))))))))
def eT (C:Addr):List DV→Option DV:=mOf 7 2 (g_q17 C)
theorem xv (T:Txt K mg t):FnOk P w K mg base CX0 1 t.f_q17 t.d_q17 ["_law_seed", "_law_which"] (spD K (eT t.C)):=
 T.fn_q17.okD fP fun cdv A outer s H E hr=>(ae (aU (i:=2) fP.nd rfl (.inr rfl) kd) (ae (aU (i:=3) fP.nd rfl (.inl rfl) (tT (PDE.n kd) (PDE.n (PDO.v (bF (N:=["_law_k", "_law_letters", "_law_seed"]) (own:=1) (ix:=[2,0]) (is:=[0]) rfl (dH (defScope gs) rfl (by decide +kernel)) (dN vL rfl (by decide +kernel)) (cE (by decide)) (bx rfl T.b_range (PDE.r aa)) (fun _ _ _ _=>(aI (i:=0) (show (["_law_k", "_law_letters", "_law_seed"]:List Str).Nodup from by decide +kernel) rfl (.inl rfl))) (fun _ _ _ _=>eC) (fun _ _ _ _=>(bq (ac 1 (pv 1)) (PDE.r (aN (PDE.r (aF (PDE.r (bU (ac 2 (pv 2)) (PDE.r aa))) (PDE.r (dq (PDE.r aa) (ac 0 (pv 0)))))) (PDE.r aa))))) (by decide +kernel)))))) (ae (aU (i:=4) fP.nd rfl (.inl rfl) (aF (PDE.r aa) (PDE.r (aN (ac 0 (pv 0)) (PDE.r aa))))) (ae (bD (dG hr.h64 (PDE.n (aN (PDE.r (bU (ac 0 (pv 0)) (PDE.r aa))) (PDE.r aa))) (PDE.n aa)) (aj (bb (fN (ac 3 (pv 3)) kb (gk (aF (PDE.r aa) (PDE.r (aN (ac 1 (pv 1)) (PDE.r aa)))))))) aL) (ae (aU (i:=5) fP.nd rfl (.inl rfl) (aN (PDE.r (bU (ac 0 (pv 0)) (PDE.r aa))) (ac 4 (pv 4)))) (ae (aU (i:=6) fP.nd rfl (.inl rfl) (bq (ac 2 (pv 2)) (PDE.r (aN (PDE.r (aF (PDE.r (aF (PDE.r (bU (ac 0 (pv 0)) (PDE.r aa))) (PDE.r (dq (PDE.r aa) (ac 5 (pv 5)))))) (ac 1 (pv 1)))) (PDE.r aa))))) (aj (bb (aF (PDE.r (aF (PDE.r (fN (ac 3 (pv 3)) kb (gk (ao 5 (pv 5))))) (ac 6 (pv 6)))) (PDE.r (fN (ac 3 (pv 3)) (gk (aF (ac 5 (pv 5)) (PDE.r aa))) (gk (ao 4 (pv 4))))))))))))))
abbrev vA:List Str:=["_law_cells_here", "_law_seed", "_law_many", "_law_order", "_law_far", "_law_ties", "_law_cell", "_law_draw", "_law_one", "_law_other", "_law_kinds", "_law_k", "_law_which"]
theorem cv:FnScope vA ["_law_cells_here", "_law_seed", "_law_many"] (defScope ga):=⟨rfl,rfl,rfl,by decide +kernel,rfl,by decide +kernel,by decide +kernel⟩
def g_q15 (C:Addr):DF→Option RES:=
  (ai (aS 3 (am (k5 C) (aB 1 (aV (getV 2) (fun _=>some [])))))
  (ai (aS 4 (d2 aP (d2 cV (d2 aZ (ag 1) (fun _=>some (.int 1))) (fun _=>some (.int 618033988749894848204586834367))) (d2 ly (fun _=>some (.int 10)) (fun _=>some (.int 30)))))
  (ai (bf 5 (asL (bh 2 [3,4,1] (el (am (k7 C) (aB 1 (aB 2 (fun _=>some []))))) (d_ [0,1]) cJ (asT (ah (d2 ixD (ag 2) (ag 0)) (ah (d2 ixD (ag 2) (ag 1)) (ah (getV 3) (ah (d2 eqD (d2 aP (d2 br (ag 4) (fun _=>some (.int 6))) (fun _=>some (.int 2))) (fun _=>some (.int 1))) aT))))))))
  (ai (bQ (b8 0) (setV 6) (ai (aS 7 (am (cw C) (aB 6 (aV (fun _=>some (.int 8)) (fun _=>some [])))))
  (dIf (dS (asB (d2 gtI (ag 2) (fun _=>some (.int 1)))) (dS (asB (d2 ltd (d1 aY (ak 5)) (fun _=>some (.int 12)))) (orT (asB (d2 eqD (d2 aP (ag 1) (fun _=>some (.int 6))) (fun _=>some (.int 0)))) (asB (d2 eqD (d2 aP (ag 7) (fun _=>some (.int 6))) (fun _=>some (.int 0))))))) (ai (aS 8 (d2 aP (d2 br (ag 7) (fun _=>some (.int 6))) (ag 2)))
  (ai (aS 9 (d2 aP (d2 aZ (d2 aZ (ag 8) (fun _=>some (.int 1))) (d2 aP (d2 br (ag 7) (fun _=>some (.int 60))) (d2 ki (ag 2) (fun _=>some (.int 1))))) (ag 2)))
  (ai (cU 5 (asT (ah (getV 8) (ah (getV 9) (ah (am (f8 C) (aB 6 (aB 1 (fun _=>some [])))) (ah (d2 eqD (d2 aP (d2 br (ag 7) (fun _=>some (.int 7))) (fun _=>some (.int 3))) (fun _=>some (.int 0))) aT))))))
  (dIf (dS (asB (d2 eqD (d2 aP (d2 br (ag 7) (fun _=>some (.int 21))) (fun _=>some (.int 5))) (fun _=>some (.int 0)))) (asB (d2 ltd (d1 aY (ak 5)) (fun _=>some (.int 12))))) (cU 5 (d2 ixD (ag 5) (d1 sH (fun _=>some (.int 1))))) dNx)))) dNx)))
  (ai (bf 10 (asL aT))
  (ai (bQ (cT (ag 2)) (setV 11) (ai (aS 12 (fun _=>some (.int 0)))
  (ai (dIf (asB (d2 eqD (d2 aP (d2 br (ag 1) (fun _=>some (.int 12))) (fun _=>some (.int 2))) (fun _=>some (.int 1)))) (aS 12 (d2 aP (am (cw C) (aV (d2 ixD (ag 0) (d2 aP (ag 11) (d1 aY (ak 0)))) (aV (d2 aZ (fun _=>some (.int 20)) (ag 11)) (fun _=>some [])))) (fun _=>some (.int 3)))) dNx)
  (cU 10 (am (eT C) (aB 1 (aB 12 (fun _=>some []))))))))
  (oV 5 (oV 10 (bj (asT (ah (getV 10) (ah (getV 5) aT))))))))))))
def jC (C:Addr):List DV→Option DV:=mOf 13 3 (g_q15 C)
theorem wG (T:Txt K mg t):FnOk P w K mg base CX0 3 t.f_q15 t.d_q15 ["_law_cells_here", "_law_seed", "_law_many"] (spD K (jC t.C)):=
 T.fn_q15.okD cv fun cdv A outer s H E hr=>(ae (aU (i:=3) cv.nd rfl (.inr rfl) (aR (xE T) (hr.mono (by decide)) rfl T.g_q14 T.fn_q14.kp T.bd_q14 (bG 1 (pv 1) (a7 (ao 2 (pv 2)) ay)))) (ae (aU (i:=4) cv.nd rfl (.inr rfl) (aN (PDE.r (dq (PDE.r (aF (ac 1 (pv 1)) (PDE.r aa))) (PDE.r aa))) (PDE.r (iP (PDE.r aa) (PDE.r aa))))) (ae (lV (i:=5) (N:=["_law_one", "_law_other", "_law_order", "_law_far", "_law_seed"]) (own:=2) (ix:=[3,4,1]) (is:=[0,1]) cv.nd rfl (.inl rfl) rfl (dH (defScope ga) rfl (by decide +kernel)) (dN vA rfl (by decide +kernel)) (cE (by decide)) (og (aR (wf T) (hr.mono (by decide)) rfl T.g_q10 T.fn_q10.kp T.bd_q10 (bG 1 (pv 1) (bG 2 (pv 2) ay)))) (fun _ _ _ _=>(gE (is:=[0,1]) rfl (bp (bB (i:=0) (show (["_law_one", "_law_other", "_law_order", "_law_far", "_law_seed"]:List Str).Nodup from by decide +kernel) rfl (.inl rfl)) (bp (bB (i:=1) (show (["_law_one", "_law_other", "_law_order", "_law_far", "_law_seed"]:List Str).Nodup from by decide +kernel) rfl (.inl rfl)) gG)))) (fun _ _ _ _=>eC) (fun _ _ _ _=>(bz (af (bq (ac 2 (pv 2)) (ac 0 (pv 0))) (af (bq (ac 2 (pv 2)) (ac 1 (pv 1))) (af (ao 3 (pv 3)) (af (ou hr.h64 (PDE.n (aN (PDE.r (bU (ac 4 (pv 4)) (PDE.r aa))) (PDE.r aa))) (PDE.n aa)) ax)))))) (by decide +kernel)) (ae (cS YO rfl (cx 0 (pv 0)) (aI (i:=6) cv.nd rfl (.inl rfl)) (ae (aU (i:=7) cv.nd rfl (.inl rfl) (aR (fE T) (hr.mono (by decide)) rfl T.g_q12 T.fn_q12.kp T.bd_q12 (bG 6 (pv 6) (a7 aa ay)))) (aj (bD (PDW.t (d4 (nU (ac 2 (pv 2)) (PDE.r aa)) (d4 (iN hr.h64 (PDE.n (bA rfl T.b_len (au 5 (pv 5)))) (PDE.n aa)) (dO (PDW.t (ib (dG hr.h64 (PDE.n (aN (ac 1 (pv 1)) (PDE.r aa))) (PDE.n aa)) (fw (dG hr.h64 (PDE.n (aN (ac 7 (pv 7)) (PDE.r aa))) (PDE.n aa))))))))) (ae (aU (i:=8) cv.nd rfl (.inl rfl) (aN (PDE.r (bU (ac 7 (pv 7)) (PDE.r aa))) (ac 2 (pv 2)))) (ae (aU (i:=9) cv.nd rfl (.inl rfl) (aN (PDE.r (aF (PDE.r (aF (ac 8 (pv 8)) (PDE.r aa))) (PDE.r (aN (PDE.r (bU (ac 7 (pv 7)) (PDE.r aa))) (PDE.r (ms (ac 2 (pv 2)) (PDE.r aa))))))) (ac 2 (pv 2)))) (ae (cD 5 (pv 5) (bz (af (ao 8 (pv 8)) (af (ao 9 (pv 9)) (af (aR (xt T) (hr.mono (by decide)) rfl T.g_q11 T.fn_q11.kp T.bd_q11 (bG 6 (pv 6) (bG 1 (pv 1) ay))) (af (ou hr.h64 (PDE.n (aN (PDE.r (bU (ac 7 (pv 7)) (PDE.r aa))) (PDE.r aa))) (PDE.n aa)) ax)))))) (aj (bD (PDW.t (d4 (dG hr.h64 (PDE.n (aN (PDE.r (bU (ac 7 (pv 7)) (PDE.r aa))) (PDE.r aa))) (PDE.n aa)) (dO (iN hr.h64 (PDE.n (bA rfl T.b_len (au 5 (pv 5)))) (PDE.n aa))))) (aj (cD 5 (pv 5) (bq (ac 5 (pv 5)) (PDE.r (wP aa))))) aL))))) aL)))) (ae (bT (i:=10) cv.nd rfl (.inl rfl) (bM ax)) (ae (cS YO rfl (bx rfl T.b_range (ac 2 (pv 2))) (aI (i:=11) cv.nd rfl (.inl rfl)) (ae (aU (i:=12) cv.nd rfl (.inl rfl) aa) (ae (bD (dG hr.h64 (PDE.n (aN (PDE.r (bU (ac 1 (pv 1)) (PDE.r aa))) (PDE.r aa))) (PDE.n aa)) (aj (aU (i:=12) cv.nd rfl (.inl rfl) (aN (PDE.r (aR (fE T) (hr.mono (by decide)) rfl T.g_q12 T.fn_q12.kp T.bd_q12 (a7 (bq (ac 0 (pv 0)) (PDE.r (aN (ac 11 (pv 11)) (PDE.r (bA rfl T.b_len (au 0 (pv 0))))))) (a7 (aF (PDE.r aa) (ac 11 (pv 11))) ay)))) (PDE.r aa)))) aL) (aj (cD 10 (pv 10) (aR (xv T) (hr.mono (by decide)) rfl T.g_q17 T.fn_q17.kp T.bd_q17 (bG 1 (pv 1) (bG 12 (pv 12) ay)))))))) (aj (n5 5 (n5 10 (bb (bz (af (ao 10 (pv 10)) (af (ao 5 (pv 5)) ax)))))))))))))
abbrev yU:List Str:=["kind", "letters_fit"]
theorem vS:FnScope yU ["kind"] (defScope k6):=⟨rfl,rfl,rfl,by decide +kernel,rfl,by decide +kernel,by decide +kernel⟩
def g_q3 (C:Addr):DF→Option RES:=
  (ai (aS 1 (d1 wq (asO (asL (bh 1 [] (lW (getV 0)) (setV 0) cJ (chD leA leA (fun _=>some (.str "a")) (ak 0) (fun _=>some (.str "z"))))))))
  (bj (kC (getV 1) (chD leA leA (fun _=>some (.int 1)) (d1 aY (ak 0)) (fun _=>some (.int 3))))))
def qG (C:Addr):List DV→Option DV:=mOf 2 1 (g_q3 C)
theorem y_ (T:Txt K mg t):FnOk P w K mg base CX0 1 t.f_q3 t.d_q3 ["kind"] (spD K (qG t.C)):=
 T.fn_q3.okD vS fun cdv A outer s H E hr=>(ae (aU (i:=1) vS.nd rfl (.inl rfl) (xu rfl rfl T.b_all (PDE.n (PDO.v (bF (N:=["letter"]) (own:=1) (ix:=[]) (is:=[0]) rfl (dH (defScope k6) rfl (by decide +kernel)) (dN yU rfl (by decide +kernel)) (cE (by decide)) (uF (ao 0 (pv 0))) (fun _ _ _ _=>(aI (i:=0) (show (["letter"]:List Str).Nodup from by decide +kernel) rfl (.inl rfl))) (fun _ _ _ _=>eC) (fun _ _ _ _=>(nV (PDE.n kd) (au 0 (pv 0)) (PDE.n kd))) (by decide +kernel)))))) (aj (bb (fF (ao 1 (pv 1)) (iF (nV (PDE.n aa) (PDE.n (bA rfl T.b_len (au 0 (pv 0)))) (PDE.n (jR rfl T.c_MOST_LETTERS))))))))
abbrev AG:List Str:=["kind"]
theorem ze:FnScope AG ["kind"] (defScope mK):=⟨rfl,rfl,rfl,by decide +kernel,rfl,by decide +kernel,by decide +kernel⟩
def g_q5 (C:Addr):DF→Option RES:=
  (bj (chD leA ltI (fun _=>some (.int 0)) (ak 0) (d2 ly (fun _=>some (.int 10)) (fun _=>some (.int 30)))))
def rm (C:Addr):List DV→Option DV:=mOf 1 1 (g_q5 C)
theorem zL (T:Txt K mg t):FnOk P w K mg base CX0 1 t.f_q5 t.d_q5 ["kind"] (spD K (rm t.C)):=
 T.fn_q5.okD ze fun cdv A outer s H E hr=>(aj (bb (jH (PDE.n aa) (au 0 (pv 0)) (PDE.n (iP (PDE.r aa) (PDE.r aa))))))
abbrev Ba:List Str:=["tie", "size", "places_fit"]
theorem vI:FnScope Ba ["tie", "size"] (defScope mt):=⟨rfl,rfl,rfl,by decide +kernel,rfl,by decide +kernel,by decide +kernel⟩
def g_q4 (C:Addr):DF→Option RES:=
  (ai (aS 2 (kC (chD leA ltI (fun _=>some (.int 0)) (d2 ixD (ag 0) (fun _=>some (.int 0))) (ak 1)) (chD leA ltI (fun _=>some (.int 0)) (d2 ixD (ag 0) (fun _=>some (.int 1))) (ak 1))))
  (bj (kC (getV 2) (kC (d2 neD (d2 ixD (ag 0) (fun _=>some (.int 0))) (d2 ixD (ag 0) (fun _=>some (.int 1)))) (am (rm C) (aV (d2 ixD (ag 0) (fun _=>some (.int 2))) (fun _=>some [])))))))
def oI (C:Addr):List DV→Option DV:=mOf 3 2 (g_q4 C)
theorem zK (T:Txt K mg t):FnOk P w K mg base CX0 2 t.f_q4 t.d_q4 ["tie", "size"] (spD K (oI t.C)):=
 T.fn_q4.okD vI fun cdv A outer s H E hr=>(ae (aU (i:=2) vI.nd rfl (.inl rfl) (fF (jH (PDE.n aa) (PDE.n (bq (ac 0 (pv 0)) (PDE.r aa))) (au 1 (pv 1))) (iF (jH (PDE.n aa) (PDE.n (bq (ac 0 (pv 0)) (PDE.r aa))) (au 1 (pv 1)))))) (aj (bb (fF (ao 2 (pv 2)) (fF (yN hr.h64 (PDE.n (bq (ac 0 (pv 0)) (PDE.r aa))) (PDE.n (bq (ac 0 (pv 0)) (PDE.r aa)))) (iF (aR (zL T) (hr.mono (by decide)) rfl T.g_q5 T.fn_q5.kp T.bd_q5 (a7 (bq (ac 0 (pv 0)) (PDE.r aa)) ay))))))))
abbrev yp:List Str:=["kinds", "ties", "kind", "tie"]
theorem mI:FnScope yp ["kinds", "ties"] (defScope iy):=⟨rfl,rfl,rfl,by decide +kernel,rfl,by decide +kernel,by decide +kernel⟩
def g_q22 (C:Addr):DF→Option RES:=
  (ai (dIf (bv (asB (chD leA leA (fun _=>some (.int 1)) (d1 aY (ak 0)) (fun _=>some (.int 7))))) eN dNx)
  (ai (dIf (asB (d2 gtI (d1 aY (ak 1)) (fun _=>some (.int 12)))) eN dNx)
  (ai (bQ (b8 0) (setV 2) (dIf (bv (asB (am (qG C) (aV (getV 2) (fun _=>some []))))) eN dNx))
  (bQ (b8 1) (setV 3) (dIf (bv (asB (am (oI C) (aB 3 (aV (d1 aY (ak 0)) (fun _=>some [])))))) eN dNx)))))
def kP (C:Addr):List DV→Option DV:=mOf 4 2 (g_q22 C)
theorem vX (T:Txt K mg t):FnOk P w K mg base CX0 3 t.f_q22 t.d_q22 ["kinds", "ties"] (spD K (kP t.C)):=
 T.fn_q22.okD mI fun cdv A outer s H E hr=>(ae (bD (cP (uC (PDE.n aa) (PDE.n (bA rfl T.b_len (au 0 (pv 0)))) (PDE.n (jR rfl T.c_MOST_PLACES)))) (aj eZ) aL) (ae (bD (nU (PDE.r (bA rfl T.b_len (au 1 (pv 1)))) (PDE.r (jR rfl T.c_MOST_TIES))) (aj eZ) aL) (ae (cS YO rfl (cx 0 (pv 0)) (aI (i:=2) mI.nd rfl (.inl rfl)) (aj (bD (cP (cg (aR (y_ T) (hr.mono (by decide)) rfl T.g_q3 T.fn_q3.kp T.bd_q3 (a7 (ao 2 (pv 2)) ay)))) (aj eZ) aL))) (aj (cS YO rfl (cx 1 (pv 1)) (aI (i:=3) mI.nd rfl (.inl rfl)) (aj (bD (cP (cg (aR (zK T) (hr.mono (by decide)) rfl T.g_q4 T.fn_q4.kp T.bd_q4 (bG 3 (pv 3) (a7 (bA rfl T.b_len (au 0 (pv 0))) ay))))) (aj eZ) aL)))))))
abbrev yJ:List Str:=["tie"]
theorem wz:FnScope yJ ["tie"] (defScope gP):=⟨rfl,rfl,rfl,by decide +kernel,rfl,by decide +kernel,by decide +kernel⟩
def g_q18 (C:Addr):DF→Option RES:=
  (ai (dIf (orT (asB (d2 ixD (ag 0) (fun _=>some (.int 3)))) (asB (d2 ltd (d2 ixD (ag 0) (fun _=>some (.int 0))) (d2 ixD (ag 0) (fun _=>some (.int 1)))))) (bj (getV 0)) dNx)
  (bj (asT (ah (d2 ixD (ag 0) (fun _=>some (.int 1))) (ah (d2 ixD (ag 0) (fun _=>some (.int 0))) (ah (d2 ixD (ag 0) (fun _=>some (.int 2))) (ah (d2 ixD (ag 0) (fun _=>some (.int 3))) aT)))))))
def kZ (C:Addr):List DV→Option DV:=mOf 1 1 (g_q18 C)
theorem w4 (T:Txt K mg t):FnOk P w K mg base CX0 1 t.f_q18 t.d_q18 ["tie"] (spD K (kZ t.C)):=
 T.fn_q18.okD wz fun cdv A outer s H E hr=>(ae (bD (PDW.t (ib (cg (bq (ac 0 (pv 0)) (PDE.r aa))) (fw (iN hr.h64 (PDE.n (bq (ac 0 (pv 0)) (PDE.r aa))) (PDE.n (bq (ac 0 (pv 0)) (PDE.r aa))))))) (aj (bb (ao 0 (pv 0)))) aL) (aj (bb (bz (af (bq (ac 0 (pv 0)) (PDE.r aa)) (af (bq (ac 0 (pv 0)) (PDE.r aa)) (af (bq (ac 0 (pv 0)) (PDE.r aa)) (af (bq (ac 0 (pv 0)) (PDE.r aa)) ax))))))))
abbrev zj:List Str:=["joins", "ends", "pair"]
theorem wJ:FnScope zj ["joins", "ends", "pair"] (defScope iO):=⟨rfl,rfl,rfl,by decide +kernel,rfl,by decide +kernel,by decide +kernel⟩
def g_q20 (C:Addr):DF→Option RES:=
  (n9 0 (getV 1) (d1 qm (asO (asL (f_ (d2 aZ (gF (ag 0) (getV 1) (asT aT)) (asT (ah (getV 2) aT))))))))
def iI (C:Addr):OD→List DV→Option (OD×D):=pG 3 3 (g_q20 C)
theorem ro (T:Txt K mg t):FnOk P w K mg base CX0 1 t.f_q20 t.d_q20 ["joins", "ends", "pair"] (spM K (iI t.C)):=
 T.fn_q20.okM wJ oe fun cdv A outer s H E hr=>(aj (uZ 0 hr.h64 (pv 0) (ao 1 (pv 1)) (sj rfl T.b_tuple (PDE.r (PDO.v (cL hr.h64 rfl T.b_sorted (PDE.r (aF (PDE.r (qo hr.h64 (ac 0 (pv 0)) (ao 1 (pv 1)) (bz ax))) (PDE.r (bz (af (ao 2 (pv 2)) ax)))))))))))
abbrev Bc:List Str:=["ties", "joins", "one", "other", "kind", "oneway"]
theorem jD:FnScope Bc ["ties"] (defScope mf):=⟨rfl,rfl,rfl,by decide +kernel,rfl,by decide +kernel,by decide +kernel⟩
def g_q6 (C:Addr):DF→Option RES:=
  (ai (bf 1 (fun _=>some (.dT [])))
  (ai (bQ (b8 0) (d_ [2,3,4,5]) (ai (dE K0 1 (iI C) (aV (asT (ah (getV 2) (ah (getV 3) aT))) (aV (asT (ah (getV 4) (ah (ifV (asB (getV 5)) (fun _=>some (.int 1)) (fun _=>some (.int 0))) aT))) (fun _=>some []))))
  (dE K0 1 (iI C) (aV (asT (ah (getV 3) (ah (getV 2) aT))) (aV (asT (ah (getV 4) (ah (ifV (asB (getV 5)) (fun _=>some (.int 2)) (fun _=>some (.int 0))) aT))) (fun _=>some []))))))
  (fB 1)))
def sR (C:Addr):List DV→Option DV:=mOf 6 1 (g_q6 C)
theorem zM (T:Txt K mg t):FnOk P w K mg base CX0 2 t.f_q6 t.d_q6 ["ties"] (spD K (sR t.C)):=
 T.fn_q6.okD jD fun cdv A outer s H E hr=>(ae (bT (i:=1) jD.nd rfl (.inl rfl) p5) (ae (cS YO rfl (cx 0 (pv 0)) (gE (is:=[2,3,4,5]) rfl (bp (bB (i:=2) jD.nd rfl (.inl rfl)) (bp (bB (i:=3) jD.nd rfl (.inl rfl)) (bp (bB (i:=4) jD.nd rfl (.inl rfl)) (bp (bB (i:=5) jD.nd rfl (.inl rfl)) gG))))) (ae (lz 1 (ro T) (hr.mono (by decide)) rfl T.g_q20 T.fn_q20.kp T.bd_q20 (pv 1) (a7 (bz (af (ao 2 (pv 2)) (af (ao 3 (pv 3)) ax))) (a7 (bz (af (ao 4 (pv 4)) (af (qM (cg (ao 5 (pv 5))) aa aa) ax))) ay))) (aj (lz 1 (ro T) (hr.mono (by decide)) rfl T.g_q20 T.fn_q20.kp T.bd_q20 (pv 1) (a7 (bz (af (ao 3 (pv 3)) (af (ao 2 (pv 2)) ax))) (a7 (bz (af (ao 4 (pv 4)) (af (qM (cg (ao 5 (pv 5))) aa aa) ax))) ay)))))) (aj (eQ 1 (pv 1)))))
abbrev yS:List Str:=["self", "kinds", "ties"]
theorem zN:FnScope yS ["self", "kinds", "ties"] (defScope kL):=⟨rfl,rfl,rfl,by decide +kernel,rfl,by decide +kernel,by decide +kernel⟩
def yT (C:Addr):DF→Option RES:=
  (ai (ol (am (kP C) (aB 1 (aB 2 (fun _=>some [])))))
  (ai (jb C 0 "kinds" (asO (asL (g9 (ag 1)))))
  (ai (jb C 0 "ties" (asO (asL (f_ (asO (asL (bh 1 [] (b8 2) (setV 0) cJ (am (kZ C) (aV (getV 0) (fun _=>some []))))))))))
  (jb C 0 "joins" (am (sR C) (aV (d1 (iS C "ties") (ag 0)) (fun _=>some [])))))))
def jr (C:Addr):OD→List DV→Option (OD×D):=pG 3 3 (yT C)
theorem zy (T:Txt K mg t):FnOk P w K mg base CX0 4 t.f_q0 t.d_q0 ["self", "kinds", "ties"] (spM K (jr t.C)):=
 T.fn_q0.okM zN oe fun cdv A outer s H E hr=>(ae (uM (aR (vX T) (hr.mono (by decide)) rfl T.g_q22 T.fn_q22.kp T.bd_q22 (bG 1 (pv 1) (bG 2 (pv 2) ay)))) (ae (jX 0 T.cl T.na_kinds (pv 0) (PDO.v (lv rfl T.b_list (ac 1 (pv 1))))) (ae (jX 0 T.cl T.na_ties (pv 0) (PDO.v (cL hr.h64 rfl T.b_sorted (PDE.r (PDO.v (bF (N:=["tie"]) (own:=1) (ix:=[]) (is:=[0]) rfl (dH (defScope kL) rfl (by decide +kernel)) (dN yS rfl (by decide +kernel)) (cE (by decide)) (cx 2 (pv 2)) (fun _ _ _ _=>(aI (i:=0) (show (["tie"]:List Str).Nodup from by decide +kernel) rfl (.inl rfl))) (fun _ _ _ _=>eC) (fun _ _ _ _=>(aR (w4 T) (hr.mono (by decide)) rfl T.g_q18 T.fn_q18.kp T.bd_q18 (a7 (ao 0 (pv 0)) ay))) (by decide +kernel))))))) (aj (jX 0 T.cl T.na_joins (pv 0) (aR (zM T) (hr.mono (by decide)) rfl T.g_q6 T.fn_q6.kp T.bd_q6 (a7 (nk T.cl T.na_ties (ac 0 (pv 0))) ay)))))))
abbrev AY:List Str:=["self"]
theorem yO:FnScope AY ["self"] (defScope ng):=⟨rfl,rfl,rfl,by decide +kernel,rfl,by decide +kernel,by decide +kernel⟩
def yx (C:Addr):DF→Option RES:=
  (bj (d1 aY (d1 (iS C "kinds") (ag 0))))
def lC (C:Addr):List DV→Option DV:=mOf 1 1 (yx C)
theorem vR (T:Txt K mg t):FnOk P w K mg base CX0 1 t.f_q2 t.d_q2 ["self"] (spD K (lC t.C)):=
 T.fn_q2.okD yO fun cdv A outer s H E hr=>(aj (bb (bA rfl T.b_len (PDE.n (nk T.cl T.na_kinds (ac 0 (pv 0)))))))
abbrev zl:List Str:=["self", "place"]
theorem yG:FnScope zl ["self", "place"] (defScope lp):=⟨rfl,rfl,rfl,by decide +kernel,rfl,by decide +kernel,by decide +kernel⟩
def zO (C:Addr):DF→Option RES:=
  (c8 (asL (bh 1 [1,0] (cT (cq C "size" (lC C) (cI (dL 0) g0))) (setV 0) (asB (d2 (lr false) (asT (ah (getV 1) (ah (getV 0) aT))) (d1 (iS C "joins") (ag 2)))) (getV 0))))
def uh (C:Addr):List DV→Option DV:=mOf 2 2 (zO C)
theorem xX (T:Txt K mg t):FnOk P w K mg base CX0 2 t.f_q1 t.d_q1 ["self", "place"] (spD K (uh t.C)):=
 T.fn_q1.okD yG fun cdv A outer s H E hr=>(aj (dY (bF (N:=["other", "place", "self"]) (own:=1) (ix:=[1,0]) (is:=[0]) rfl (dH (defScope lp) rfl (by decide +kernel)) (dN zl rfl (by decide +kernel)) (cE (by decide)) (bx rfl T.b_range (PDE.r (lG (kh 0 (pv 0)) T.cl T.mt_q2 (vR T) (hr.mono (by decide)) T.bd_q2))) (fun _ _ _ _=>(aI (i:=0) (show (["other", "place", "self"]:List Str).Nodup from by decide +kernel) rfl (.inl rfl))) (fun _ _ _ _=>(yn (v6 hr.h64 (bz (af (ao 1 (pv 1)) (af (ao 0 (pv 0)) ax))) (PDE.r (nk T.cl T.na_joins (ac 2 (pv 2))))))) (fun _ _ _ _=>(ao 0 (pv 0))) (by decide +kernel))))
abbrev vK:List Str:=["starts", "onward", "most", "found", "known", "done", "at", "thing"]
theorem eG:FnScope vK ["starts", "onward", "most"] (defScope f6):=⟨rfl,rfl,rfl,by decide +kernel,rfl,by decide +kernel,by decide +kernel⟩
def eW (C:Addr):DF→Option D:=(cq C "near" (uh C) (cI (dL 1) (aV (getV 0) (fun _=>some []))))
def g_q21 (C:Addr)(a0:Addr)(v0:V)(_:D):DF→Option RES:=
  (ai (bf 3 (asL (g9 (ag 0))))
  (ai (bf 4 (sS 3 (r_ (bh 1 [] (b8 3) (setV 0) cJ (asT (ah (getV 0) (ah (fun _=>some (.bl true)) aT)))))))
  (ai (aS 5 (fun _=>some (.int 0)))
  (ai (bi (dS (asB (d2 ltd (ak 5) (d1 aY (ak 3)))) (orT (rO 2) (asB (d2 leI (d1 aY (ak 3)) (ag 2))))) (ai (aS 6 (d2 ixD (ag 3) (ag 5)))
  (ai (bQ (el (g8 1 a0 v0 (eW C) (getV 6))) (setV 7) (dIf (asB (d2 fV (getV 7) (ag 4))) (ai (fM 4 (getV 7) (fun _=>some (.bl true)))
  (cU 3 (getV 7))) dNx))
  (uV 5 (fun _=>some (.int 1))))) 10)
  (fB 3)))))
theorem xn (T:Txt K mg t):qh P w K mg base 4 t.f_q21 t.d_q21 ["starts", "onward", "most"] (spR (lamW t.tb) K 8 (g_q21 t.C)):=
 T.fn_q21.okR eG rfl fun cdv A outer s H E f c' c uc vc dc hr li rc=>(ae (bT (i:=3) eG.nd rfl (.inl rfl) (lv rfl T.b_list (ac 0 (pv 0)))) (ae (bT (i:=4) eG.nd rfl (.inl rfl) (rW 3 (pQ rfl rfl T.b_dict (bF (N:=["thing"]) (own:=1) (ix:=[]) (is:=[0]) rfl (dH (defScope f6) rfl (by decide +kernel)) (dN vK rfl (by decide +kernel)) (cE (by decide)) (cx 3 (pv 3)) (fun _ _ _ _=>(aI (i:=0) (show (["thing"]:List Str).Nodup from by decide +kernel) rfl (.inl rfl))) (fun _ _ _ _=>eC) (fun _ _ _ _=>(bz (af (ao 0 (pv 0)) (af dA ax)))) (by decide +kernel))))) (ae (aU (i:=5) eG.nd rfl (.inl rfl) aa) (ae (iJ 10 YO (PDW.t (d4 (iN hr.h64 (au 5 (pv 5)) (PDE.n (bA rfl T.b_len (au 3 (pv 3))))) (dO (PDW.t (ib (t8 2 (pv 2)) (fw (zF (PDE.r (bA rfl T.b_len (au 3 (pv 3)))) (ac 2 (pv 2))))))))) (ae (aU (i:=6) eG.nd rfl (.inl rfl) (bq (ac 3 (pv 3)) (ac 5 (pv 5)))) (ae (cS YO rfl (og (qT (v0:=vc) (k:=2) wQ li rc (hr.mono (by decide)) rfl (by first | exact Or.inl rfl | exact Or.inr (Or.inl rfl)) (ao 6 (pv 6)) (fun s_ _ _=>have hr:=Room.deeper (k:=2) (hr.mono (by decide)) (dR xF s_ f c' c);(uU (kh 1 (pv 1)) T.cl T.mt_q1 (xX T) (hr.mono (by decide)) T.bd_q1 (a7 (ao 0 (pv 0)) ay))))) (aI (i:=7) eG.nd rfl (.inl rfl)) (aj (bD (qf hr.h64 (ao 7 (pv 7)) (ac 4 (pv 4))) (ae (sD 4 hr.h64 (pv 4) (ao 7 (pv 7)) dA) (aj (cD 3 (pv 3) (ao 7 (pv 7))))) aL))) (aj (xB (ix:=5) eG.nd rfl (.inl rfl) aa))))) (aj (eQ 3 (pv 3)))))))
abbrev zo:List Str:=["web", "parts", "place", "part"]
theorem kq:FnScope zo ["web"] (defScope eA):=⟨rfl,rfl,rfl,by decide +kernel,rfl,by decide +kernel,by decide +kernel⟩
def g_q19 (C:Addr):DF→Option RES:=
  (ai (bf 1 (fun _=>some (OD.lst2 [])))
  (ai (bQ (cT (cq C "size" (lC C) (cI (dL 0) g0))) (setV 2) (ai (gZ 3 0 8 (g_q21 C) (asO (asL (ah (getV 2) aT))))
  (dIf (c6 3 (c6 1 (asB (d2 de (ak 3) (ak 1))))) (j_ 1 3) dNx)))
  (fB 1)))
def fC (C:Addr):List DV→Option DV:=mOf 4 1 (g_q19 C)
theorem rL (T:Txt K mg t)(hB:base.BuiltinsAt mg t.tb):FnOk P w K mg base CX0 5 t.f_q19 t.d_q19 ["web"] (spT (lamW t.tb) K (fC t.C)):=
 T.fn_q19.okT kq fun A outer s H E hr=>(bw (eB (bT (i:=1) kq.nd rfl (.inl rfl) sA)) (bw (nI YO rfl (bx rfl T.b_range (PDE.r (lG (kh 0 (pv 0)) T.cl T.mt_q2 (vR T) (hr.mono (by decide)) T.bd_q2))) (aI (i:=2) kq.nd rfl (.inl rfl)) (bw (qd (W:=lamW t.tb) (c:=s.heap.objs.size+1) (j:=0) kq.nd rfl (.inl rfl) hr.h64 rfl T.b_sorted (xn T) rfl (hr.mono (by decide)) rfl T.g_q21 T.fn_q21.kp T.bd_q21 (PDO.v (bM (af (ao 2 (pv 2)) ax))) rfl rfl rfl rfl rfl rfl T.ch rfl rfl hB) (gJ (eB (bD (j7 3 (j7 1 (r6 hr.h64 (au 3 (pv 3)) (au 1 (pv 1))))) (aj (rl 1 3 (pv 1) (pv 3))) aL))))) (gJ (eB (eQ 1 (pv 1))))))
abbrev zQ:List Str:=["_law_found"]
theorem ww:FnScope zQ ["_law_found"] (defScope iR):=⟨rfl,rfl,rfl,by decide +kernel,rfl,by decide +kernel,by decide +kernel⟩
def g_q16 (C:Addr):DF→Option RES:=
  (bj (kC (d1 (iW "int") (ak 0)) (uj (d1 (iW "bool") (ak 0)))))
def nF (C:Addr):List DV→Option DV:=mOf 1 1 (g_q16 C)
theorem wM (T:Txt K mg t):FnOk P w K mg base CX0 1 t.f_q16 t.d_q16 ["_law_found"] (spD K (nF t.C)):=
 T.fn_q16.okD ww fun cdv A outer s H E hr=>(aj (bb (fF (jW rfl T.b_isinstance rfl T.b_int L2.boot_int (au 0 (pv 0))) (iF (vU (jW rfl T.b_isinstance rfl T.b_bool L2.boot_bool (au 0 (pv 0))))))))
abbrev AV:List Str:=["_law_ties", "_law_start", "_law_met", "_law_grown", "_law_one", "_law_other", "_law_kind_here", "_law_oneway"]
theorem e9:FnScope AV ["_law_ties", "_law_start"] (defScope nD):=⟨rfl,rfl,rfl,by decide +kernel,rfl,by decide +kernel,by decide +kernel⟩
def g_q9 (C:Addr):DF→Option RES:=
  (ai (bf 2 (asL (ah (getV 1) aT)))
  (ai (aS 3 (fun _=>some (.bl true)))
  (ai (bi (asB (getV 3)) (ai (aS 3 (fun _=>some (.bl false)))
  (bQ (b8 0) (d_ [4,5,6,7]) (dIf (asB (d2 neD (d2 inD (ak 4) (ak 2)) (d2 inD (ak 5) (ak 2)))) (ai (cU 2 (d2 ixD (asO (asL (ah (getV 4) (ah (getV 5) aT)))) (d1 lN (d2 inD (ak 4) (ak 2)))))
  (aS 3 (fun _=>some (.bl true)))) dNx))) 100)
  (c8 (asL (f_ (ag 2)))))))
def rq (C:Addr):List DV→Option DV:=mOf 8 2 (g_q9 C)
theorem zn (T:Txt K mg t):FnOk P w K mg base CX0 1 t.f_q9 t.d_q9 ["_law_ties", "_law_start"] (spD K (rq t.C)):=
 T.fn_q9.okD e9 fun cdv A outer s H E hr=>(ae (bT (i:=2) e9.nd rfl (.inl rfl) (bM (af (ao 1 (pv 1)) ax))) (ae (aU (i:=3) e9.nd rfl (.inl rfl) dA) (ae (iJ 100 YO (cg (ao 3 (pv 3))) (ae (aU (i:=3) e9.nd rfl (.inl rfl) dA) (aj (cS YO rfl (cx 0 (pv 0)) (gE (is:=[4,5,6,7]) rfl (bp (bB (i:=4) e9.nd rfl (.inl rfl)) (bp (bB (i:=5) e9.nd rfl (.inl rfl)) (bp (bB (i:=6) e9.nd rfl (.inl rfl)) (bp (bB (i:=7) e9.nd rfl (.inl rfl)) gG))))) (aj (bD (vQ hr.h64 (PDE.n (qB hr.h64 (au 4 (pv 4)) (au 2 (pv 2)))) (PDE.n (qB hr.h64 (au 5 (pv 5)) (au 2 (pv 2))))) (ae (cD 2 (pv 2) (bq (PDE.r (PDO.v (bM (af (ao 4 (pv 4)) (af (ao 5 (pv 5)) ax))))) (PDE.r (tK rfl T.b_int (PDE.n (qB hr.h64 (au 4 (pv 4)) (au 2 (pv 2)))))))) (aj (aU (i:=3) e9.nd rfl (.inl rfl) dA))) aL)))))) (aj (dY (cL hr.h64 rfl T.b_sorted (ac 2 (pv 2))))))))
abbrev zA:List Str:=["_law_parts", "_law_ties", "_law_many", "_law_firsts", "_law_places", "_law_part", "_law_place"]
theorem io:FnScope zA ["_law_parts", "_law_ties", "_law_many"] (defScope im):=⟨rfl,rfl,rfl,by decide +kernel,rfl,by decide +kernel,by decide +kernel⟩
def g_q13 (C:Addr):DF→Option RES:=
  (ai (dIf (bv (asB (d1 (iW "list") (ak 0)))) (bj (fun _=>some (.bl false))) dNx)
  (ai (bf 3 (asL aT))
  (ai (bf 4 (asL aT))
  (ai (bQ (b8 0) (setV 5) (ai (dIf (orT (bv (asB (d1 (iW "list") (ak 5)))) (asB (d2 eqD (d1 aY (ak 5)) (fun _=>some (.int 0))))) (bj (fun _=>some (.bl false))) dNx)
  (ai (bQ (b8 5) (setV 6) (dIf (orT (bv (asB (am (nF C) (aB 6 (fun _=>some []))))) (bv (asB (chD leA ltI (fun _=>some (.int 0)) (ak 6) (ak 2))))) (bj (fun _=>some (.bl false))) dNx))
  (ai (dIf (asB (d2 neD (ak 5) (am (rq C) (aB 1 (aV (d2 ixD (ag 5) (fun _=>some (.int 0))) (fun _=>some [])))))) (bj (fun _=>some (.bl false))) dNx)
  (ai (cU 3 (d2 ixD (ag 5) (fun _=>some (.int 0))))
  (lX 4 (getV 5)))))))
  (bj (kC (d2 eqD (ak 3) (asO (asL (f_ (ag 3))))) (d2 eqD (asO (asL (f_ (ag 4)))) (asO (asL (e_ (getV 2)))))))))))
def fZ (C:Addr):List DV→Option DV:=mOf 7 3 (g_q13 C)
theorem rP (T:Txt K mg t):FnOk P w K mg base CX0 2 t.f_q13 t.d_q13 ["_law_parts", "_law_ties", "_law_many"] (spD K (fZ t.C)):=
 T.fn_q13.okD io fun cdv A outer s H E hr=>(ae (bD (cP (cg (jW rfl T.b_isinstance rfl T.b_list L2.boot_list (au 0 (pv 0))))) (aj (bb dA)) aL) (ae (bT (i:=3) io.nd rfl (.inl rfl) (bM ax)) (ae (bT (i:=4) io.nd rfl (.inl rfl) (bM ax)) (ae (cS YO rfl (cx 0 (pv 0)) (aI (i:=5) io.nd rfl (.inl rfl)) (ae (bD (PDW.t (ib (cP (cg (jW rfl T.b_isinstance rfl T.b_list L2.boot_list (au 5 (pv 5))))) (fw (dG hr.h64 (PDE.n (bA rfl T.b_len (au 5 (pv 5)))) (PDE.n aa))))) (aj (bb dA)) aL) (ae (cS YO rfl (cx 5 (pv 5)) (aI (i:=6) io.nd rfl (.inl rfl)) (aj (bD (PDW.t (ib (cP (cg (aR (wM T) (hr.mono (by decide)) rfl T.g_q16 T.fn_q16.kp T.bd_q16 (bG 6 (pv 6) ay)))) (fw (cP (vm (PDE.n aa) (au 6 (pv 6)) (au 2 (pv 2))))))) (aj (bb dA)) aL))) (ae (bD (vQ hr.h64 (au 5 (pv 5)) (PDE.n (aR (zn T) (hr.mono (by decide)) rfl T.g_q9 T.fn_q9.kp T.bd_q9 (bG 1 (pv 1) (a7 (bq (ac 5 (pv 5)) (PDE.r aa)) ay))))) (aj (bb dA)) aL) (ae (cD 3 (pv 3) (bq (ac 5 (pv 5)) (PDE.r aa))) (aj (tF 4 T.nl (pv 4) (ao 5 (pv 5))))))))) (aj (bb (fF (ou hr.h64 (au 3 (pv 3)) (PDE.n (PDO.v (cL hr.h64 rfl T.b_sorted (ac 3 (pv 3)))))) (iF (ou hr.h64 (PDE.n (PDO.v (cL hr.h64 rfl T.b_sorted (ac 4 (pv 4))))) (PDE.n (PDO.v (eD rfl rfl T.b_list rfl T.b_range (ao 2 (pv 2))))))))))))))
abbrev A7:List Str:=["_law_script", "_law_at", "_law_cells_here", "_law_kinds", "_law_ties", "_law_web_here", "_law_parts"]
theorem iH:FnScope A7 ["_law_script"] (defScope nj):=⟨rfl,rfl,rfl,by decide +kernel,rfl,by decide +kernel,by decide +kernel⟩
def g_q7 (C:Addr):DF→Option RES:=
  (ai (bQ (rM (fun _=>some (.int 0)) (d2 mC (fun _=>some (.int 1)) (d1 aY (ak 0))) (fun _=>some (.int 10))) (setV 1) (ai (aS 2 (am (pB C) (aB 0 (aV (getV 1) (aV (fun _=>some (.int 10)) (fun _=>some []))))))
  (ai (iL [3,4] (am (jC C) (aV (asO (asL (slL (ag 2) (bI (fun _=>some (.int 1))) bNo))) (aV (am (cw C) (aV (d2 ixD (ag 2) (fun _=>some (.int 0))) (aV (fun _=>some (.int 1)) (fun _=>some [])))) (aV (d2 aZ (fun _=>some (.int 1)) (d2 aP (am (cw C) (aV (d2 ixD (ag 2) (fun _=>some (.int 0))) (aV (fun _=>some (.int 2)) (fun _=>some [])))) (fun _=>some (.int 7)))) (fun _=>some []))))))
  (ai (aS 5 (asO (em C (jr C) (aB 3 (aB 4 (fun _=>some []))))))
  (ai (bf 6 (iw (fC C) (aV (getV 5) (fun _=>some []))))
  (ai (dIf (c6 6 (bv (asB (am (fZ C) (aB 6 (aB 4 (aV (d1 aY (ak 3)) (fun _=>some [])))))))) (bj (fun _=>some (.bl false))) dNx)
  (ai (fL 6 0 (fun _=>some (.int 0)))
  (ai (jt 6 (ah (fun _=>some (.int 1)) aT))
  (dIf (bv (asB (am (fZ C) (aV (am (fC C) (aV (getV 5) (fun _=>some []))) (aB 4 (aV (d1 aY (ak 3)) (fun _=>some []))))))) (bj (fun _=>some (.bl false))) dNx)))))))))
  (bj (fun _=>some (.bl true))))
def v5 (C:Addr):List DV→Option DV:=mOf 7 1 (g_q7 C)
theorem xZ (T:Txt K mg t)(hB:base.BuiltinsAt mg t.tb):FnOk P w K mg base CX0 6 t.f_q7 t.d_q7 ["_law_script"] (spT (lamW t.tb) K (v5 t.C)):=
 T.fn_q7.okT iH fun cdv A outer s H E hr=>(bw (nI YO rfl (nv rfl T.b_range aa (tu rfl rfl T.b_max (PDE.n aa) (PDE.n (bA rfl T.b_len (au 0 (pv 0))))) aa) (aI (i:=1) iH.nd rfl (.inl rfl)) (bw (eB (aU (i:=2) iH.nd rfl (.inl rfl) (aR (yB T) (hr.mono (by decide)) rfl T.g_q8 T.fn_q8.kp T.bd_q8 (bG 0 (pv 0) (a7 (ao 1 (pv 1)) (a7 aa ay)))))) (bw (eB (uQ (gE (is:=[3,4]) rfl (bp (bB (i:=3) iH.nd rfl (.inl rfl)) (bp (bB (i:=4) iH.nd rfl (.inl rfl)) gG))) (aR (wG T) (hr.mono (by decide)) rfl T.g_q15 T.fn_q15.kp T.bd_q15 (a7 (PDO.v (fR (ac 2 (pv 2)) (gk aa) kb)) (a7 (aR (fE T) (hr.mono (by decide)) rfl T.g_q12 T.fn_q12.kp T.bd_q12 (a7 (bq (ac 2 (pv 2)) (PDE.r aa)) (a7 aa ay))) (a7 (aF (PDE.r aa) (PDE.r (aN (PDE.r (aR (fE T) (hr.mono (by decide)) rfl T.g_q12 T.fn_q12.kp T.bd_q12 (a7 (bq (ac 2 (pv 2)) (PDE.r aa)) (a7 aa ay)))) (PDE.r aa)))) ay)))))) (bw (eB (aU (i:=5) iH.nd rfl (.inl rfl) (PDO.v (rS T.mkC (zy T) (hr.mono (by decide)) rfl T.mgC T.bd_q0 (bG 3 (pv 3) (bG 4 (pv 4) ay)))))) (bw (ug (i:=6) iH.nd rfl (.inl rfl) (rL T hB) (hr.mono (by decide)) rfl T.g_q19 T.fn_q19.kp T.bd_q19 (a7 (ao 5 (pv 5)) ay)) (bw (eB (bD (j7 6 (cP (cg (aR (rP T) (hr.mono (by decide)) rfl T.g_q13 T.fn_q13.kp T.bd_q13 (bG 6 (pv 6) (bG 4 (pv 4) (a7 (bA rfl T.b_len (au 3 (pv 3))) ay))))))) (aj (bb dA)) aL)) (bw (eB (ql 6 0 (pv 6) aa)) (bw (eB (uT 6 (pv 6) (bM (af aa ax)))) (gJ (uL (t5 (tQ (pc (rP T) (hr.mono (by decide)) rfl T.g_q13 T.fn_q13.kp T.bd_q13 (qV (rL T hB) (hr.mono (by decide)) rfl T.g_q19 T.fn_q19.kp T.bd_q19 (a7 (ao 5 (pv 5)) ay)) (bG 4 (pv 4) (a7 (bA rfl T.b_len (au 3 (pv 3))) ay))))) (qF (aj (bb dA))) (qF aL))))))))))) (gJ (eB (bb dA))))
end
theorem fq {st:Dq}{body:Dw}(I:Nat→DF→Prop):∀ (ds:List D) (k:Nat) (ρ:DF),I k ρ→
  (∀ j d ρ,ds[j]?=some d→I (k+j) ρ→∃ ρ1,st d ρ=some ρ1∧∃ ρ',body ρ1=some (.nx ρ')∧I (k+j+1) ρ')→∃ ρ',cW st body ds ρ=some (.nx ρ')∧I (k+ds.length) ρ'
 | [],k,ρ,h,_=>⟨ρ,rfl,h⟩
 | d::ds,k,ρ,h,hs=>by
  obtain⟨ρ1,e1,ρ',e2,h'⟩:=hs 0 d ρ rfl h
  obtain⟨ρ2,e3,h3⟩:=fq I ds (k+1) ρ' h' fun j d' ρ0 hj hI=>by
   have:=hs (j+1) d' ρ0 (by simpa using hj) (by rw[← Nat.add_assoc,Xe];exact hI)
   rwa [show k+(j+1)+1=k+1+j+1 by omega] at this
  refine⟨ρ2,?_,by rw[Yj,show k+(ds.length+1)=k+1+ds.length by omega];exact h3⟩
  unfold cW
  rw[e1]
  simp only[e2]
  exact e3
theorem dI {st:Dq}{body:Dw}(I:DF→Prop){ds:List D}{ρ:DF}(h:I ρ)
  (hs:∀ d∈ds,∀ ρ,I ρ→∃ ρ1,st d ρ=some ρ1∧∃ ρ',body ρ1=some (.nx ρ')∧I ρ'):∃ ρ',cW st body ds ρ=some (.nx ρ')∧I ρ':=
 fq (fun _=>I) ds 0 ρ h fun j d ρ hj hI=>hs d (YL hj) ρ hI
theorem gQ {st:Dq}{c:Dk}{e:Dd}{ρ:DF}{α:Type}(f:α→D)(F:α→D):∀ xs:List α,(∀ x∈xs,∃ ρ1,st (f x) ρ=some ρ1∧c ρ1=some true∧e ρ1=some (F x))→di st c e ρ (xs.map f)=some (xs.map F)
 | [],_=>rfl
 | x::xs,h=>by
  obtain⟨ρ1,h1,h2,h3⟩:=h x Yc
  rw[Yv]
  unfold di
  rw[h1,Ya,h2,Ya,Yf rfl,h3,Ya,gQ f F xs fun y hy=>h y (Yb _ hy)]
  rfl
theorem jw {st:Dq}{c:Dk}{e:Dd}{ρ:DF}{α:Type}(f:α→D)(G:α→Prop):∀ ds:List D,(∀ d∈ds,∃ ρ1,st d ρ=some ρ1∧c ρ1=some true∧∃ y,e ρ1=some (f y)∧G y)→∃ ys:List α,di st c e ρ ds=some (ys.map f)∧ys.length=ds.length∧∀ y∈ys,G y
 | [],_=>⟨[],rfl,rfl,fun _ h=>by cases h⟩
 | x::xs,h=>by
  obtain⟨ρ1,h1,h2,y,h3,h4⟩:=h x Yc
  obtain⟨ys,q1,q2,q3⟩:=jw f G xs fun y hy=>h y (Yb _ hy)
  refine⟨y::ys,?_,by simp[q2],fun z hz=>?_⟩
  ·unfold di
   rw[h1,Ya,h2,Ya,Yf rfl,h3,Ya,q1]
   rfl
  ·rcases Yy.mp hz with rfl | hz
   ·exact h4
   ·exact q3 z hz
theorem oA (i j:Int):eqd (.int i) (.int j)=decide (i=j):=by
 have h:=cm (.int i) (.int j) rfl
 by_cases e:i=j
 ·rw[YU e,h,e]
 ·rw[Yx e]
  cases q:eqd (.int i) (.int j) with
  | false=>rfl
  | true=>exact absurd (by simpa using h.mp q) e
theorem xG (i j:Bool):eqd (.bl i) (.bl j)=decide (i=j):=by
 have h:=cm (.bl i) (.bl j) rfl
 by_cases e:i=j
 ·rw[YU e,h,e]
 ·rw[Yx e]
  cases q:eqd (.bl i) (.bl j) with
  | false=>rfl
  | true=>exact absurd (by simpa using h.mp q) e
@[simp] theorem zZ (i j:Int):eqD (.int i) (.int j)=some (.bl (decide (i=j))):=by
 unfold eqD
 rw[oA]
 rfl
@[simp] theorem Bd (i j:Bool):eqD (.bl i) (.bl j)=some (.bl (decide (i=j))):=by
 unfold eqD
 rw[xG]
 rfl
@[simp] theorem zY (i j:Int):neD (.int i) (.int j)=some (.bl (!decide (i=j))):=by
 unfold neD
 rw[oA]
 rfl
@[simp] theorem Ah (i j:Int):ltd (.int i) (.int j)=some (.bl (decide (i<j))):=rfl
@[simp] theorem Am (i j:Int):gtI (.int i) (.int j)=some (.bl (decide (j<i))):=rfl
@[simp] theorem Ad (i j:Int):leA (.int i) (.int j)=some (.bl (decide (i≤j))):=rfl
@[simp] theorem zX (i j:Int):ltI (.int i) (.int j)=some (.bl (decide (i<j))):=rfl
@[simp] theorem yD (i j:Int):aZ (.int i) (.int j)=some (.int (i+j)):=rfl
@[simp] theorem zG (i j:Int):ki (.int i) (.int j)=some (.int (i-j)):=rfl
theorem cK (i j:Int)(h:(-(2 ^ 64)<i∧i<2 ^ 64)∨(-(2 ^ 64)<j∧j<2 ^ 64)):cV (.int i) (.int j)=some (.int (i*j)):=Yf (YU h)
theorem az (i j:Int)(h:0<j):aP (.int i) (.int j)=some (.int (i%j)):=Yf (YU h)
theorem bR (i j:Int)(h:0<j∧j<1073741824):br (.int i) (.int j)=some (.int (i/j)):=Yf (YU h)
@[simp] theorem Af:ly (.int 10) (.int 30)=some (.int 1000000000000000000000000000000):=rfl
section
variable {f fa fb fc:Dd} {fo:Do} {fl:Dl} {fv:Dv} {c c':Dk} {g h:Dw} {ρ:DF} {i j:Nat} {m:Dm}
@[simp] theorem gM:ai g h ρ=match g ρ with | some (.nx ρ')=>h ρ' | r=>r:=rfl
@[simp] theorem zW:aS i f ρ=(f ρ).map fun d=>.nx (ρ.set i (some (.v d))):=rfl
@[simp] theorem yR:bf i fo ρ=(fo ρ).map fun o=>.nx (ρ.set i (some (.own o none))):=rfl
@[simp] theorem zV:bj f ρ=(f ρ).map fun d=>.rt (.v d) ρ:=rfl
@[simp] theorem yd:c8 fo ρ=(fo ρ).map fun o=>.rt (.own o none) ρ:=rfl
@[simp] theorem zP:fB i ρ=match ρ[i]? with | some (some x)=>some (.rt x ρ) | _=>none:=rfl
@[simp] theorem eI:dIf c g h ρ=(c ρ).bind fun b=>if b=true then g ρ else h ρ:=rfl
@[simp] theorem AJ:dNx ρ=some (.nx ρ):=rfl
@[simp] theorem yP:ol f ρ=(f ρ).map fun _=>.nx ρ:=rfl
@[simp] theorem Bl {F:D→Option D}:d1 F fa ρ=(fa ρ).bind F:=rfl
@[simp] theorem Bi {F:Dy}:d2 F fa fb ρ=(fa ρ).bind fun x=>(fb ρ).bind fun y=>F x y:=rfl
@[simp] theorem Al:getV i ρ=match ρ[i]? with | some (some (.v d))=>some d | _=>none:=rfl
@[simp] theorem Ak:ag i ρ=match ρ[i]? with | some (some (.v d))=>some d | some (some (.own o _))=>if o.flat=true then some o.d else none | some (some (.bor o))=>if o.flat=true then some o.d else none | _=>none:=rfl
@[simp] theorem Ac:ak i ρ=match ρ[i]? with | some (some (.v d))=>some d | some (some (.own o _))=>some o.d | some (some (.bor o))=>some o.d | _=>none:=rfl
@[simp] theorem Bk:aB i fv ρ=match ρ[i]? with | some (some (.own o _))=>(fv ρ).map fun xs=>.bor o::xs | some (some (.bor o))=>(fv ρ).map fun xs=>.bor o::xs | some (some (.v d))=>(fv ρ).map fun xs=>.v d::xs | _=>none:=rfl
@[simp] theorem Bj:aV f fv ρ=(f ρ).bind fun d=>(fv ρ).map fun xs=>.v d::xs:=rfl
@[simp] theorem ye:am m fv ρ=(fv ρ).bind fun xs=>(m xs).bind dvD:=rfl
@[simp] theorem zh:iw m fv ρ=(fv ρ).bind fun xs=>(m xs).bind dvO:=rfl
@[simp] theorem A1:asB f ρ=match f ρ with | some (.bl b)=>some b | _=>none:=rfl
@[simp] theorem Ap:asL fl ρ=(fl ρ).map .lst:=rfl
@[simp] theorem AW:asO fo ρ=(fo ρ).map OD.d:=rfl
@[simp] theorem AM:asT fl ρ=(fl ρ).map .tup:=rfl
@[simp] theorem y0:ah f fl ρ=(f ρ).bind fun d=>(fl ρ).map fun r=>d::r:=rfl
@[simp] theorem Ai:aT ρ=some []:=rfl
@[simp] theorem Ag:bv c ρ=(c ρ).map fun b=>!b:=rfl
@[simp] theorem z_:cJ ρ=some true:=rfl
@[simp] theorem tZ {d:D}:setV i d ρ=some (ρ.set i (some (.v d))):=rfl
@[simp] theorem At:ifV c f fa ρ=(c ρ).bind fun b=>if b=true then f ρ else fa ρ:=rfl
@[simp] theorem xW:g9 f ρ=(f ρ).bind b_:=rfl
theorem eR:f_ f ρ=(f ρ).bind fun d=>(b_ d).bind fun ds=>if bO ds=true then some (bg ds) else none:=rfl
theorem km {it:Dl}{st:Dq}:bQ it st g ρ=(it ρ).bind fun ds=>cW st g ds ρ:=rfl
@[simp] theorem Aa:oV i g ρ=match ρ[i]? with | some (some (.own o none))=>g (ρ.set i (some (.v o.d))) | some (some (.v d))=>g ρ | _=>none:=rfl
theorem eU {own:Nat}{ix:List Nat}{it:Dl}{st:Dq}{e:Dd}:bh own ix it st c e ρ=(it ρ).bind fun ds=>if ds.length≤16777216 then di st c e (ee own ix ρ) ds else none:=rfl
@[simp] theorem zU:dS c c' ρ=(c ρ).bind fun b=>if b=true then c' ρ else some false:=rfl
@[simp] theorem AE:orT c c' ρ=(c ρ).bind fun b=>if b=true then some true else c' ρ:=rfl
@[simp] theorem Aj:kC f fa ρ=match f ρ with | some (.bl true)=>fa ρ | some (.bl false)=>some (.bl false) | _=>none:=rfl
@[simp] theorem AB:orV f fa ρ=match f ρ with | some (.bl false)=>fa ρ | some (.bl true)=>some (.bl true) | _=>none:=rfl
@[simp] theorem Ae:uj f ρ=match f ρ with | some (.bl b)=>some (.bl (!b)) | _=>none:=rfl
@[simp] theorem Aw {F G:Dy}:chD F G fa fb fc ρ=(fa ρ).bind fun x=>(fb ρ).bind fun y=>match F x y with | some (.bl true)=>(fc ρ).bind fun z=>G y z | some (.bl false)=>some (.bl false) | _=>none:=rfl
@[simp] theorem ym:el f ρ=match f ρ with | some (.lst ds)=>some ds | _=>none:=rfl
@[simp] theorem yk:b8 i ρ=match ρ[i]? with | some (some (.bor (.lst ds)))=>some ds | some (some (.v (.lst ds)))=>some ds | _=>none:=rfl
theorem tU:cT f ρ=match f ρ with | some (.int j)=>if -(2 ^ 62)≤j∧j<2 ^ 62 then some (bN 0 j.toNat) else none | _=>none:=rfl
@[simp] theorem AF {b b':DF→Option (Option Int)}:slS f b b' ρ=match f ρ with | some (.str x)=>if x.length≤16777216 then (b ρ).bind fun l=>(b' ρ).map fun h=>.str (Txt.slice x l h) else none | _=>none:=rfl
theorem qP {b b':DF→Option (Option Int)}:slL f b b' ρ=match f ρ with | some (.lst xs)=>(b ρ).bind fun l=>(b' ρ).map fun h=>df xs l h | _=>none:=rfl
@[simp] theorem zT:cU i f ρ=match ρ[i]? with | some (some (.own (.lst ds) t))=>(f ρ).bind fun d=>if ds.length<16777216 then some (.nx (ρ.set i (some (.own (.lst (ds++[d])) t)))) else none | _=>none:=rfl
@[simp] theorem yX {is:List Nat}:iL is f ρ=(f ρ).bind fun d=>(d_ is d ρ).map .nx:=rfl
@[simp] theorem Bh:bI f ρ=match f ρ with | some (.int i)=>some (some i) | _=>none:=rfl
@[simp] theorem A4:bNo ρ=some none:=rfl
end
@[simp] theorem Bu {ds:List D}:(OD.lst ds).d=.lst ds:=rfl
@[simp] theorem BC {ds:List (List Key×D)}:(OD.dT ds).d=.dT ds:=rfl
@[simp] theorem Bp {ds:List (Key×D)}:(OD.dK ds).d=.dK ds:=rfl
@[simp] theorem Bo {C:Addr}{ds:List (Str×D)}:(OD.ins C ds).d=.ins C ds:=rfl
@[simp] theorem Bn {ds:List D}:(OD.lst ds).flat=true:=rfl
@[simp] theorem By {ds:List (List Key×D)}:(OD.dT ds).flat=true:=rfl
@[simp] theorem Bm {ds:List (Key×D)}:(OD.dK ds).flat=true:=rfl
@[simp] theorem BB {C:Addr}{ds:List (Str×D)}:(OD.ins C ds).flat=true:=rfl
@[simp] theorem Bt {d:D}:dvD (.v d)=some d:=rfl
@[simp] theorem Bw {o:OD}{t:Option Addr}:dvD (.own o t)=some o.d:=rfl
@[simp] theorem Bs {o:OD}{t:Option Addr}:dvO (.own o t)=some o:=rfl
@[simp] theorem Bz {x:DV}{ρ:DF}:bV (some (.rt x ρ))=some x:=rfl
@[simp] theorem BA {ρ:DF}:bV (some (.nx ρ))=some (.v .non):=rfl
@[simp] theorem Bv {d:D}:p0 (some (.v d))=some (.v d):=rfl
@[simp] theorem Bx {o:OD}{t:Option Addr}:p0 (some (.own o t))=some (.bor o):=rfl
@[simp] theorem Bq {o:OD}:p0 (some (.bor o))=some (.bor o):=rfl
@[simp] theorem Ab {own:Nat}{ix:List Nat}{ρ:DF}:ee own ix ρ=List.replicate own none++ix.map fun j=>p0 (ρ[j]?).join:=rfl
@[simp] theorem AO {ds:List D}:b_ (.lst ds)=some ds:=rfl
@[simp] theorem cG {ds:List D}:b_ (.tup ds)=some ds:=rfl
@[simp] theorem yQ {ds:List D}:aY (.lst ds)=some (.int ds.length):=rfl
@[simp] theorem Br {ds:List D}:aY (.tup ds)=some (.int ds.length):=rfl
theorem ix1 {ds:List D}{i:Int}:ixD (.lst ds) (.int i)=atI ds i:=rfl
theorem ix2 {ds:List D}{i:Int}:ixD (.tup ds) (.int i)=atI ds i:=rfl
@[simp] theorem A8 {n p:Nat}{g:Dw}{xs:List DV}:mOf n p g xs=if xs.length=p then bV (g (aE n p xs)) else none:=rfl
@[simp] theorem xV {n p:Nat}{xs:List DV}:aE n p xs=xs.map some++List.replicate (n-p) none:=rfl
theorem A9 {x:Int}(h:0≤x∧x<3):x=0∨x=1∨x=2:=by
 obtain⟨m,rfl⟩:=ZN h.1
 have key:∀ m:Fin 3,((m:Nat):Int)=0∨((m:Nat):Int)=1∨((m:Nat):Int)=2:=by decide
 exact key ⟨m,Int.ofNat_lt.mp h.2⟩
theorem AT {x:Int}(h:0≤x∧x<5):x=0∨x=1∨x=2∨x=3∨x=4:=by
 obtain⟨m,rfl⟩:=ZN h.1
 have key:∀ m:Fin 5,((m:Nat):Int)=0∨((m:Nat):Int)=1∨((m:Nat):Int)=2∨((m:Nat):Int)=3∨((m:Nat):Int)=4:=by decide
 exact key ⟨m,Int.ofNat_lt.mp h.2⟩
theorem A_ {x:Int}(h:0≤x∧x<6):x=0∨x=1∨x=2∨x=3∨x=4∨x=5:=by
 obtain⟨m,rfl⟩:=ZN h.1
 have key:∀ m:Fin 6,((m:Nat):Int)=0∨((m:Nat):Int)=1∨((m:Nat):Int)=2∨((m:Nat):Int)=3∨((m:Nat):Int)=4∨((m:Nat):Int)=5:=by decide
 exact key ⟨m,Int.ofNat_lt.mp h.2⟩
theorem wR {x:Int}(h:1≤x∧x<8):x=1∨x=2∨x=3∨x=4∨x=5∨x=6∨x=7:=by
 obtain⟨m,hm⟩:=ZN (show 0≤x-1 by omega)
 have key:∀ m:Fin 7,((m:Nat):Int)+1=1∨((m:Nat):Int)+1=2∨((m:Nat):Int)+1=3∨((m:Nat):Int)+1=4∨((m:Nat):Int)+1=5∨((m:Nat):Int)+1=6∨((m:Nat):Int)+1=7:=by decide
 have:=key ⟨m,by omega⟩
 rwa [show ((m:Nat):Int)+1=x by omega] at this
theorem yo (s:Int):s%3=0∨s%3=1∨s%3=2:=A9 ⟨Zf s (by decide),YV s (by decide)⟩
theorem AZ (s:Int):s%5=0∨s%5=1∨s%5=2∨s%5=3∨s%5=4:=AT ⟨Zf s (by decide),YV s (by decide)⟩
theorem AI (s:Int):s%6=0∨s%6=1∨s%6=2∨s%6=3∨s%6=4∨s%6=5:=A_ ⟨Zf s (by decide),YV s (by decide)⟩
theorem g6 (C:Addr)(c k:Int)(hk:0≤k∧k≤1000):∃ r:Int,cw C [.v (.int c),.v (.int k)]=some (.v (.int r))∧0≤r∧r<998244353:=by
 have h1:cV (.int 7919) (.int k)=some (.int (7919*k)):=cK _ _ (.inl (by decide))
 have h2:cV (.int (7919*k)) (.int k)=some (.int (7919*k*k)):=cK _ _ (.inr (by omega))
 have h3:∀ x,cV (.int x) (.int 48271)=some (.int (x*48271)):=fun x=>cK _ _ (.inr (by decide))
 have h4:∀ x:Int,0≤x→x<2147483629→cV (.int x) (.int x)=some (.int (x*x)):=fun x _ _=>cK _ _ (.inr (by omega))
 have m1:=az c 2147483647 (by decide)
 have m2:=fun x=>az x 2147483629 (by decide)
 have m3:=fun x=>az x 998244353 (by decide)
 refine⟨((c%2147483647+1+7919*k*k)*48271%2147483629)*((c%2147483647+1+7919*k*k)*48271%2147483629)%998244353,?_,Zf _ (by decide),YV _ (by decide)⟩
 simp[cw,g_q12,h1,h2,h3,h4,m1,m2,m3]
 rw[h4 _ (Zf _ (by decide)) (YV _ (by decide))]
 simp[m3]
def okW (x:Str):Prop:=1≤x.cps.size∧x.cps.size≤3∧∀ c∈x.cps.toList,97≤c∧c≤122
abbrev abc:Str := "abcdefghijklmnopqrstuvwxyz"
theorem j2 (i:Int):∃ c:Nat,ixD (.str abc) (.int (i%26))=some (.str ⟨#[c]⟩)∧97≤c∧c≤122:=by
 have h:∀ j:Fin 26,∃ c:Fin 123,ixD (.str abc) (.int (j:Nat))=some (.str ⟨#[(c:Nat)]⟩)∧97≤(c:Nat):=by
  intro j
  refine⟨⟨97+j,by omega⟩,?_,by simp⟩
  revert j
  have:∀ j:Fin 26,(atI abc.cps.toList ((j:Nat):Int))=some (97+(j:Nat)):=by decide +kernel
  intro j
  show (if abc.length≤16777216 then (atI abc.cps.toList ((j:Nat):Int)).map fun c=>D.str ⟨#[c]⟩ else none)=_
  rw[this j]
  rfl
 have h0:0≤i%26:=Zf _ (by decide)
 have h1:i%26<26:=YV _ (by decide)
 obtain⟨c,hc,hl⟩:=h ⟨(i%26).toNat,by omega⟩
 refine⟨c,?_,hl,by omega⟩
 rw[← hc]
 congr 2
 simp only
 omega
theorem uS (C:Addr)(s w:Int)(hs:0≤s)(hw:0≤w):∃ x:Str,eT C [.v (.int s),.v (.int w)]=some (.v (.str x))∧okW x:=by
 have f9:=bR s 9 (by decide)
 have f3:=bR s 3 (by decide)
 have m26:=fun x=>az x 26 (by decide)
 have m3:=fun x=>az x 3 (by decide)
 have m4:=fun x=>az x 4 (by decide)
 have u7:∀ x,cV (.int 7) (.int x)=some (.int (7*x)):=fun x=>cK _ _ (.inl (by decide))
 obtain⟨a0,h0,g0⟩:=j2 (s/9+7*0)
 obtain⟨a1,h1,g1⟩:=j2 (s/9+7*1)
 obtain⟨a2,h2,g2⟩:=j2 (s/9+7*2)
 have hc:∀ ρ:DF,ρ[2]?=some (some (.v (.str abc)))→ρ[0]?=some (some (.v (.int s)))→bh 1 [2,0] (cT (fun _=>some (.int 3))) (setV 0) cJ (d2 ixD (ag 1) (d2 aP (d2 aZ (d2 br (ag 2) (fun _=>some (.int 9))) (d2 cV (fun _=>some (.int 7)) (ag 0))) (fun _=>some (.int 26)))) ρ=some [.str ⟨#[a0]⟩,.str ⟨#[a1]⟩,.str ⟨#[a2]⟩]:=by
  intro ρ e1 e2
  have r3:cT (fun _=>some (.int 3)) ρ=some [.int 0,.int 1,.int 2]:=rfl
  unfold bh
  rw[r3]
  simp only[Int.mul_zero,Int.mul_one] at h0 h1 h2
  simp[di,e1,e2,f9,u7,m26]
  simp at h0 h2
  rw[h0,h1,h2]
  rfl
 have hj:sy (.str "") (.lst [.str ⟨#[a0]⟩,.str ⟨#[a1]⟩,.str ⟨#[a2]⟩])=some (.str ⟨#[a0,a1,a2]⟩):=rfl
 have hl:(⟨#[a0,a1,a2]⟩:Str).length=3:=rfl
 have hs3:=yo s
 have hw3:=yo w
 have mz:∀ x:Int,aP (.int x) (.int (1+s%3))=some (.int (x%(1+s%3))):=fun x=>az _ _ (by omega)
 have t1:Txt.slice ⟨#[a0,a1,a2]⟩ none (some 1)=⟨#[a0]⟩:=rfl
 have t2:Txt.slice ⟨#[a0,a1,a2]⟩ none (some 2)=⟨#[a0,a1]⟩:=rfl
 have t3:Txt.slice ⟨#[a0,a1,a2]⟩ none (some 3)=⟨#[a0,a1,a2]⟩:=rfl
 have t0:Txt.slice ⟨#[a0,a1,a2]⟩ none (some 0)=⟨#[]⟩:=rfl
 have t11:Txt.slice ⟨#[a0,a1,a2]⟩ (some 1) (some 1)=⟨#[]⟩:=rfl
 have t12:Txt.slice ⟨#[a0,a1,a2]⟩ (some 1) (some 2)=⟨#[a1]⟩:=rfl
 have t13:Txt.slice ⟨#[a0,a1,a2]⟩ (some 1) (some 3)=⟨#[a1,a2]⟩:=rfl
 have t22:Txt.slice ⟨#[a0,a1,a2]⟩ (some 2) (some 2)=⟨#[]⟩:=rfl
 have t23:Txt.slice ⟨#[a0,a1,a2]⟩ (some 2) (some 3)=⟨#[a2]⟩:=rfl
 have t33:Txt.slice ⟨#[a0,a1,a2]⟩ (some 3) (some 3)=⟨#[]⟩:=rfl
 by_cases h4:s/3%4=0
 ·have e:eT C [.v (.int s),.v (.int w)]=some (.v (.str (Txt.slice ⟨#[a0,a1,a2]⟩ none (some (1+w%3))))):=by
   simp[eT,g_q17,hc,hj,hl,f9,f3,m26,m3,m4,u7,h4]
  refine⟨_,e,?_⟩
  rcases hw3 with h | h | h <;> rw[h]
  ·show okW (Txt.slice _ none (some 1));rw[t1];simp[okW];omega
  ·show okW (Txt.slice _ none (some 2));rw[t2];simp[okW];omega
  ·show okW (Txt.slice _ none (some 3));rw[t3];simp[okW];omega
 ·obtain⟨b,hb,gb⟩:=j2 (s/9+7*(s/3%(1+s%3))+w)
  have go:∀ p z:Int,s/3%(1+s%3)=p→1+s%3=z→∀ x y:Str,Txt.slice ⟨#[a0,a1,a2]⟩ none (some p)=x→Txt.slice ⟨#[a0,a1,a2]⟩ (some (p+1)) (some z)=y→x.length+1+y.length≤16777216→
    eT C [.v (.int s),.v (.int w)]=some (.v (.str (x++⟨#[b]⟩++y))):=by
   intro p z hp hz x y hx hy hn
   rw[hp] at hb
   have q1:aZ (.str x) (.str ⟨#[b]⟩)=some (.str (x++⟨#[b]⟩)):=Yf (show x.length+1≤16777216 by omega)
   have q2:aZ (.str (x++⟨#[b]⟩)) (.str y)=some (.str (x++⟨#[b]⟩++y)):=Yf (by
    have:(x++(⟨#[b]⟩:Str)).length=x.length+1:=by
     show (x.cps++#[b]).size=_
     simp
     rfl
    rw[this];exact hn)
   have mz':aP (.int (s/3)) (.int z)=some (.int p):=by rw[← hz,← hp];exact mz _
   simp[eT,g_q17,hc,hj,hl,f9,f3,m26,m3,m4,mz',u7,h4,hz,hb,hx,hy,q1,q2]
  have hp:(s%3=0∧s/3%(1+s%3)=0)∨(s%3=1∧(s/3%(1+s%3)=0∨s/3%(1+s%3)=1))∨(s%3=2∧(s/3%(1+s%3)=0∨s/3%(1+s%3)=1∨s/3%(1+s%3)=2)):=by
   rcases hs3 with h | h | h
   ·refine .inl ⟨h,?_⟩;rw[h];show s/3%1=0;omega
   ·refine .inr (.inl ⟨h,?_⟩);rw[h];show s/3%2=0∨s/3%2=1;omega
   ·refine .inr (.inr ⟨h,?_⟩);rw[h];show s/3%3=0∨s/3%3=1∨s/3%3=2;omega
  rcases hp with⟨h,p⟩ | ⟨h,p | p⟩ | ⟨h,p | p | p⟩
  ·exact⟨_,go 0 1 p (by rw[h];rfl) _ _ t0 t11 (by decide),by show okW ⟨#[b]⟩;simp[okW];omega⟩
  ·exact⟨_,go 0 2 p (by rw[h];rfl) _ _ t0 t12 (by show 0+1+1≤_;decide),by show okW ⟨#[b,a1]⟩;simp[okW];omega⟩
  ·exact⟨_,go 1 2 p (by rw[h];rfl) _ _ t1 t22 (by show 1+1+0≤_;decide),by show okW ⟨#[a0,b]⟩;simp[okW];omega⟩
  ·exact⟨_,go 0 3 p (by rw[h];rfl) _ _ t0 t13 (by show 0+1+2≤_;decide),by show okW ⟨#[b,a1,a2]⟩;simp[okW];omega⟩
  ·exact⟨_,go 1 3 p (by rw[h];rfl) _ _ t1 t23 (by show 1+1+1≤_;decide),by show okW ⟨#[a0,b,a2]⟩;simp[okW];omega⟩
  ·exact⟨_,go 2 3 p (by rw[h];rfl) _ _ t2 t33 (by show 2+1+0≤_;decide),by show okW ⟨#[a0,a1,b]⟩;simp[okW];omega⟩
theorem jT (C:Addr)(c s:Int)(hs:0≤s∧s<998244353):∃ k:Int,f8 C [.v (.int c),.v (.int s)]=some (.v (.int k))∧0≤k∧k<1000000000000000000000000000000:=by
 obtain⟨r,hr,r0,r1⟩:=g6 C c 3 (by decide)
 have u1:cV (.int (s+1)) (.int 618033988749894848204586834367)=some (.int ((s+1)*618033988749894848204586834367)):=cK _ _ (.inl (by omega))
 have m1:=fun x=>az x 1000000000000000000000000000000 (by decide)
 have m5:=fun x=>az x 5 (by decide)
 generalize hf:(s+1)*618033988749894848204586834367%1000000000000000000000000000000=f
 have f0:0≤f:=by omega
 have f1:f<1000000000000000000000000000000:=by omega
 have h5:=AZ r
 have base:f8 C [.v (.int c),.v (.int s)]=if r%5=4 then some (.v (.int (c%1000000000000000000000000000000))) else (atI [D.int f,.int f,.int ((f+1)%1000000000000000000000000000000),.int 0] (r%5)).map .v:=by
  by_cases h:r%5=4
  ·simp[f8,g_q11,u1,m1,m5,hr,h,hf]
  ·simp[f8,g_q11,u1,m1,m5,hr,h,hf,ix1]
   cases atI [D.int f,.int f,.int ((f+1)%1000000000000000000000000000000),.int 0] (r%5) <;> rfl
 rcases h5 with h | h | h | h | h <;> rw[base,h]
 ·exact⟨f,rfl,f0,f1⟩
 ·exact⟨f,rfl,f0,f1⟩
 ·exact⟨_,rfl,by omega,by omega⟩
 ·exact⟨0,rfl,by decide,by decide⟩
 ·exact⟨_,rfl,by omega,by omega⟩
theorem jz {α β:Type}(f:α→β):∀ (l:List α) (k:Nat),(l.map f).eraseIdx k=(l.eraseIdx k).map f
 | [],_=>rfl
 | _::_,0=>rfl
 | x::l,k+1=>by rw[Yv,Xh,Xh,Yv,jz f l k]
theorem tm {n:Nat}{k:Int}(h0:0≤k)(h1:k<n)(hn:n<1000):lF n (.int k)=some k.toNat:=by
 show (if -(2 ^ 63)≤k∧k<2 ^ 63 then seqIndex? k n else none)=_
 rw[Yf (by omega)]
 unfold seqIndex?
 simp only
 have e:¬ k<0:=by omega
 simp[e,h0,h1]
theorem dF {α:Type}:∀ (l:List α) (k:Nat) (h:k<l.length),(l[k]::l.eraseIdx k).Perm l
 | x::l,0,_=>.refl _
 | x::l,k+1,h=>by
  have:=dF l k (by simpa using h)
  rw[List.getElem_cons_succ,Xh]
  exact (List.Perm.swap _ _ _).trans (this.cons x)
abbrev shC:DF→Option Bool:=asB (d2 gtI (d1 aY (ak 2)) (fun _=>some (.int 0)))
abbrev shI (M:Dm):DF→Option D:=d2 aP (am M (aB 0 (aV (d2 aZ (fun _=>some (.int 50)) (d1 aY (ak 2))) (fun _=>some [])))) (d1 aY (ak 2))
abbrev shF (s n:Int)(bn order:List Int):DF:=[some (.v (.int s)),some (.v (.int n)),some (.own (.lst (bn.map .int)) none),some (.own (.lst (order.map .int)) none)]
theorem o_ (M:Dm)(s n:Int)(hM:∀ k:Int,0≤k∧k≤1000→∃ r:Int,M [.v (.int s),.v (.int k)]=some (.v (.int r))∧0≤r∧r<998244353)(x:Int)(r order:List Int)(h7:r.length+1≤7)(ho:order.length≤7):∃ k:Nat,∃ kl:k<(x::r).length,
  dZ 3 2 (shI M) (shF s n (x::r) order)=some (.nx (shF s n ((x::r).eraseIdx k) (order++[(x::r)[k]]))):=by
 obtain⟨m,hm,m0,m1⟩:=hM (50+((r.length:Int)+1)) (by omega)
 have hmod:=az m ((r.length+1:Nat):Int) (by omega)
 generalize hk:m%((r.length+1:Nat):Int)=k at hmod
 have k0:0≤k:=by rw[← hk];exact Zf _ (by omega)
 have k1:k<((r.length+1:Nat):Int):=by rw[← hk];exact YV _ (by omega)
 have hp:=tm (n:=r.length+1) k0 k1 (by omega)
 have kl:k.toNat<(x::r).length:=by rw[Yj];omega
 refine⟨k.toNat,kl,?_⟩
 have hget:((x::r).map D.int)[k.toNat]?=some (.int ((x::r)[k.toNat])):=by rw[YF,Yu kl];rfl
 have hf:shI M (shF s n (x::r) order)=some (.int k):=by
  have hmod:aP (.int m) (.int ((r.length:Int)+1))=some (.int k):=hmod
  simp[hm,hmod]
 have hlen:((x::r).map D.int).length=r.length+1:=by simp
 have hpop:mP 2 (shI M) (shF s n (x::r) order)=some (shF s n ((x::r).eraseIdx k.toNat) order,.int ((x::r)[k.toNat])):=by
  have:mP 2 (shI M) (shF s n (x::r) order)=(shI M (shF s n (x::r) order)).bind fun dk=>(lF ((x::r).map D.int).length dk).bind fun k=>(((x::r).map D.int)[k]?).map fun d=>((shF s n (x::r) order).set 2 (some (.own (.lst (((x::r).map D.int).eraseIdx k)) none)),d):=rfl
  rw[this,hf,Ya,hlen,hp,Ya,hget,jz]
  rfl
 unfold dZ
 rw[hpop,Ya]
 have:(3:Nat)≠2∧(order.map D.int).length<16777216:=⟨by decide,by rw[Ye];omega⟩
 show (if _ then _ else _)=_
 rw[Yf this]
 show _=some (RES.nx [_,_,_,some (.own (.lst ((order++[(x::r)[k.toNat]]).map .int)) none)])
 rw[Zz]
 rfl
theorem m9 (M:Dm)(s n:Int)(hM:∀ k:Int,0≤k∧k≤1000→∃ r:Int,M [.v (.int s),.v (.int k)]=some (.v (.int r))∧0≤r∧r<998244353):∀ (fuel:Nat) (bn order:List Int),bn.length<fuel→order.length+bn.length≤7→∃ out:List Int,
  bi shC (dZ 3 2 (shI M)) fuel (shF s n bn order)=some (.nx (shF s n [] out))∧out.Perm (order++bn):=by
 intro fuel
 induction fuel with
 | zero=>intro bn order h;exact absurd h (Nat.not_lt_zero _)
 | succ fuel ih=>
  intro bn order h ho
  cases bn with
  | nil=>
   refine⟨order,?_,by simp⟩
   unfold bi
   simp
  | cons x r=>
   rw[Yj] at h ho
   obtain⟨k,kl,hb⟩:=o_ M s n hM x r order (by omega) (by omega)
   obtain⟨out,e,p⟩:=ih ((x::r).eraseIdx k) (order++[(x::r)[k]]) (by rw[List.length_eraseIdx_of_lt kl,Yj];omega) (by rw[List.length_eraseIdx_of_lt kl,Ym,YX,Yj];omega)
   refine⟨out,?_,p.trans ?_⟩
   ·have hc:shC (shF s n (x::r) order)=some true:=by
     simp
    unfold bi
    rw[hc]
    simp only[hb]
    exact e
   ·rw[Zx]
    exact List.Perm.append_left _ (dF _ k kl)
def aA (n:Int):List Int:=(List.range n.toNat).map fun i:Nat=>(i:Int)
theorem aJ (n:Int):(aA n).length=n.toNat:=by simp[aA]
theorem aO {n i:Int}:i∈aA n↔0≤i∧i<n:=by
 unfold aA
 rw[Ys]
 constructor
 ·rintro⟨k,hk,rfl⟩
  have:=ZD.mp hk
  omega
 ·rintro⟨h0,h1⟩
  exact⟨i.toNat,ZD.mpr (by omega),by omega⟩
theorem iB (n:Int):(aA n).Nodup:=by
 unfold aA
 rw[List.Nodup,Xk]
 exact (List.nodup_range (n:=n.toNat)).imp fun h e=>h (by omega)
theorem d8 (n:Int):bN 0 n.toNat=(aA n).map D.int:=by
 unfold bN aA
 simp
theorem uW (C:Addr)(s n:Int)(hn:1≤n∧n≤7):∃ out:List Int,k5 C [.v (.int s),.v (.int n)]=some (.own (.lst (out.map .int)) none)∧out.Perm (aA n):=by
 obtain⟨out,e,p⟩:=m9 (cw C) s n (g6 C s) 10 (aA n) [] (by rw[aJ];omega) (by rw[aJ,YN];omega)
 refine⟨out,?_,by simpa using p⟩
 have hr:e_ (getV 1) [some (.v (.int s)),some (.v (.int n)),none,none]=some ((aA n).map .int):=by
  show (if n<16777216∧-(2 ^ 62)≤n then some (bN 0 n.toNat) else none)=_
  rw[Yf (by omega),d8]
 simp only[shF,List.map_nil] at e
 unfold k5 g_q14
 generalize cw C=M at e ⊢
 simp[hr,e]
def dP (p:Int×Int):D:=.tup [.int p.1,.int p.2]
def okP (n:Int)(p:Int×Int):Prop:=0≤p.1∧p.1<n∧0≤p.2∧p.2<n∧p.1≠p.2
abbrev Ar:DF→Option RES:=(ai (aS 3 (d2 br (ag 1) (fun _=>some (.int 2))))
  (ai (dIf (dS (asB (d2 eqD (ak 2) (fun _=>some (.int 1)))) (asB (d2 gtI (ag 1) (fun _=>some (.int 1))))) (c8 (asL (bh 1 [1] (cT (ag 1)) (setV 0) cJ (asT (ah (getV 0) (ah (d2 aP (d2 aZ (ag 0) (fun _=>some (.int 1))) (ag 1)) aT)))))) dNx)
  (ai (dIf (asB (d2 eqD (ak 2) (fun _=>some (.int 2)))) (c8 (asL (bh 1 [] (p6 (fun _=>some (.int 1)) (ag 1)) (setV 0) cJ (asT (ah (fun _=>some (.int 0)) (ah (getV 0) aT)))))) dNx)
  (ai (dIf (asB (d2 eqD (ak 2) (fun _=>some (.int 3)))) (c8 (asL (rC (asO (asL (bh 1 [] (cT (d2 ki (ag 3) (fun _=>some (.int 1)))) (setV 0) cJ (asT (ah (getV 0) (ah (d2 aZ (ag 0) (fun _=>some (.int 1))) aT)))))) (asO (asL (bh 1 [] (p6 (ag 3) (d2 ki (d2 cV (fun _=>some (.int 2)) (ag 3)) (fun _=>some (.int 1)))) (setV 0) cJ (asT (ah (getV 0) (ah (d2 aZ (ag 0) (fun _=>some (.int 1))) aT))))))))) dNx)
  (ai (bf 4 (asL aT))
  (ai (dIf (dS (asB (d2 eqD (ak 2) (fun _=>some (.int 4)))) (asB (d2 ltd (ak 1) (fun _=>some (.int 6))))) (bQ (cT (ag 1)) (setV 5) (uB 4 (bh 1 [5] (cT (ag 5)) (setV 0) cJ (asT (ah (getV 0) (ah (getV 1) aT)))))) dNx)
  (fB 4)))))))
theorem vt (s how n:Int)(hh:how=0∨how=1∨how=2∨how=3∨how=4∨how=5)(hn:n=1∨n=2∨n=3∨n=4∨n=5∨n=6∨n=7):∃ (ps:List (Int×Int)) (z:DF),Ar
  [some (.v (.int s)),some (.v (.int n)),some (.v (.int how)),none,none,none]=some (.rt (.own (.lst (ps.map dP)) none) z)∧ps.length≤12∧∀ p∈ps,okP n p:=by
 rcases hh with rfl | rfl | rfl | rfl | rfl | rfl <;> rcases hn with rfl | rfl | rfl | rfl | rfl | rfl | rfl
 ·exact⟨[],_,rfl,by decide,by simp[okP]⟩
 ·exact⟨[],_,rfl,by decide,by simp[okP]⟩
 ·exact⟨[],_,rfl,by decide,by simp[okP]⟩
 ·exact⟨[],_,rfl,by decide,by simp[okP]⟩
 ·exact⟨[],_,rfl,by decide,by simp[okP]⟩
 ·exact⟨[],_,rfl,by decide,by simp[okP]⟩
 ·exact⟨[],_,rfl,by decide,by simp[okP]⟩
 ·exact⟨[],_,rfl,by decide,by simp[okP]⟩
 ·exact⟨[(0,1),(1,0)],_,rfl,by decide,by simp[okP]⟩
 ·exact⟨[(0,1),(1,2),(2,0)],_,rfl,by decide,by simp[okP]⟩
 ·exact⟨[(0,1),(1,2),(2,3),(3,0)],_,rfl,by decide,by simp[okP]⟩
 ·exact⟨[(0,1),(1,2),(2,3),(3,4),(4,0)],_,rfl,by decide,by simp[okP]⟩
 ·exact⟨[(0,1),(1,2),(2,3),(3,4),(4,5),(5,0)],_,rfl,by decide,by simp[okP]⟩
 ·exact⟨[(0,1),(1,2),(2,3),(3,4),(4,5),(5,6),(6,0)],_,rfl,by decide,by simp[okP]⟩
 ·exact⟨[],_,rfl,by decide,by simp[okP]⟩
 ·exact⟨[(0,1)],_,rfl,by decide,by simp[okP]⟩
 ·exact⟨[(0,1),(0,2)],_,rfl,by decide,by simp[okP]⟩
 ·exact⟨[(0,1),(0,2),(0,3)],_,rfl,by decide,by simp[okP]⟩
 ·exact⟨[(0,1),(0,2),(0,3),(0,4)],_,rfl,by decide,by simp[okP]⟩
 ·exact⟨[(0,1),(0,2),(0,3),(0,4),(0,5)],_,rfl,by decide,by simp[okP]⟩
 ·exact⟨[(0,1),(0,2),(0,3),(0,4),(0,5),(0,6)],_,rfl,by decide,by simp[okP]⟩
 ·exact⟨[],_,rfl,by decide,by simp[okP]⟩
 ·exact⟨[],_,rfl,by decide,by simp[okP]⟩
 ·exact⟨[],_,rfl,by decide,by simp[okP]⟩
 ·exact⟨[(0,1),(2,3)],_,rfl,by decide,by simp[okP]⟩
 ·exact⟨[(0,1),(2,3)],_,rfl,by decide,by simp[okP]⟩
 ·exact⟨[(0,1),(1,2),(3,4),(4,5)],_,rfl,by decide,by simp[okP]⟩
 ·exact⟨[(0,1),(1,2),(3,4),(4,5)],_,rfl,by decide,by simp[okP]⟩
 ·exact⟨[],_,rfl,by decide,by simp[okP]⟩
 ·exact⟨[(0,1)],_,rfl,by decide,by simp[okP]⟩
 ·exact⟨[(0,1),(0,2),(1,2)],_,rfl,by decide,by simp[okP]⟩
 ·exact⟨[(0,1),(0,2),(1,2),(0,3),(1,3),(2,3)],_,rfl,by decide,by simp[okP]⟩
 ·exact⟨[(0,1),(0,2),(1,2),(0,3),(1,3),(2,3),(0,4),(1,4),(2,4),(3,4)],_,rfl,by decide,by simp[okP]⟩
 ·exact⟨[],_,rfl,by decide,by simp[okP]⟩
 ·exact⟨[],_,rfl,by decide,by simp[okP]⟩
 ·exact⟨[],_,rfl,by decide,by simp[okP]⟩
 ·exact⟨[],_,rfl,by decide,by simp[okP]⟩
 ·exact⟨[],_,rfl,by decide,by simp[okP]⟩
 ·exact⟨[],_,rfl,by decide,by simp[okP]⟩
 ·exact⟨[],_,rfl,by decide,by simp[okP]⟩
 ·exact⟨[],_,rfl,by decide,by simp[okP]⟩
 ·exact⟨[],_,rfl,by decide,by simp[okP]⟩
theorem xw (C:Addr)(s n:Int)(hn:1≤n∧n≤7):∃ ps:List (Int×Int),k7 C [.v (.int s),.v (.int n)]=some (.own (.lst (ps.map dP)) none)∧ps.length≤12∧∀ p∈ps,okP n p:=by
 obtain⟨ps,z,e,h⟩:=vt s (s%6) n (AI s) (wR ⟨hn.1,Int.lt_add_one_of_le hn.2⟩)
 refine⟨ps,?_,h⟩
 have e1:g_q10 C (aE 6 2 [.v (.int s),.v (.int n)])=some (.rt (.own (.lst (ps.map dP)) none) z):=by
  unfold g_q10
  rw[← e,gM]
  simp[az s 6 (by decide)]
 unfold k7 mOf
 rw[e1]
 rfl
theorem vx {n:Nat}{g:Dw}{a:DV}:mOf n 1 g [a]=bV (g (aE n 1 [a])):=rfl
theorem vC {n:Nat}{g:Dw}{a b:DV}:mOf n 2 g [a,b]=bV (g (aE n 2 [a,b])):=rfl
theorem yK {n:Nat}{g:Dw}{a b c:DV}:mOf n 3 g [a,b,c]=bV (g (aE n 3 [a,b,c])):=rfl
theorem nN {n:Int}{j:Nat}{d:D}(h:((aA n).map D.int)[j]?=some d):d=.int (j:Int):=by
 unfold aA at h
 rw[YF,YF] at h
 cases q:(List.range n.toNat)[j]? with
 | none=>rw[q] at h;cases h
 | some k=>
  rw[q] at h
  obtain⟨h1,h2⟩:=Yn.mp q
  rw[List.getElem_range] at h2
  subst h2
  cases h
  rfl
abbrev T4:=Int×Int×Int×Bool
def dT4 (t:T4):D:=.tup [.int t.1,.int t.2.1,.int t.2.2.1,.bl t.2.2.2]
def okT (n:Int)(t:T4):Prop:=0≤t.1∧t.1<n∧0≤t.2.1∧t.2.1<n∧t.1≠t.2.1∧0≤t.2.2.1∧t.2.2.1<1000000000000000000000000000000
theorem xJ {α:Type}{l:List α}{i:Int}(h0:0≤i)(h1:i<l.length):atI l i=l[i.toNat]?:=by
 unfold atI ixN
 rw[Yf h0,Yf h1]
 rfl
theorem j5 {α β:Type}{l:List α}(f:α→β){i:Int}(h0:0≤i)(h1:i<l.length):∃ x,l[i.toNat]?=some x∧atI (l.map f) i=some (f x):=by
 have h:i.toNat<l.length:=by omega
 refine⟨l[i.toNat],Yu h,?_⟩
 rw[xJ h0 (by rw[Ye];exact h1),YF,Yu h]
 rfl
theorem lx {α:Type}(l:List α)(x:α):atI (l++[x]) (-1)=some x:=by
 unfold atI ixN
 rw[Yh (by decide),Yf (by rw[Ym,YX];omega),Ym,YX]
 have:(-1+((l.length+1:Nat):Int)).toNat=l.length:=by omega
 rw[this,Ya,Zb (Yi _),Nat.sub_self]
 rfl
theorem uq {n:Int}{out:List Int}(hn:1≤n)(p:out.Perm (aA n)):(out.length:Int)=n∧out.Nodup∧∀ x∈out,0≤x∧x<n:=
 ⟨by rw[p.length_eq,aJ];omega,p.nodup_iff.mpr (iB n),fun x hx=>aO.mp (p.mem_iff.mp hx)⟩
theorem xY {out:List Int}(h:out.Nodup){i j:Nat}{x y:Int}(hi:out[i]?=some x)(hj:out[j]?=some y)(hij:i≠j):x≠y:=by
 intro e
 subst e
 obtain⟨h1,h1'⟩:=Yn.mp hi
 obtain⟨h2,h2'⟩:=Yn.mp hj
 exact hij ((List.getElem_inj h).mp (h1'.trans h2'.symm))
abbrev wbE:DF→Option D:=(asT (ah (d2 ixD (ag 2) (ag 0)) (ah (d2 ixD (ag 2) (ag 1)) (ah (getV 3) (ah (d2 eqD (d2 aP (d2 br (ag 4) (fun _=>some (.int 6))) (fun _=>some (.int 2))) (fun _=>some (.int 1))) aT)))))
theorem uz (s n f:Int)(out:List Int)(ps:List (Int×Int))(hn:1≤n∧n≤7)(p:out.Perm (aA n))(hf:0≤f∧f<1000000000000000000000000000000)(hp:∀ q∈ps,okP n q) :
  ∃ ts:List T4,di (d_ [0,1]) cJ wbE [none,none,some (.v (.lst (out.map .int))),some (.v (.int f)),some (.v (.int s))] (ps.map dP)=some (ts.map dT4)∧ts.length=(ps.map dP).length∧∀ t∈ts,okT n t:=by
 obtain⟨hl,hd,hm⟩:=uq hn.1 p
 refine jw dT4 (okT n) _ fun d hd'=>?_
 obtain⟨q,hq,rfl⟩:=Ys.mp hd'
 obtain⟨a0,a1,b0,b1,ab⟩:=hp q hq
 obtain⟨x,hx,ex⟩:=j5 (l:=out) D.int a0 (by omega)
 obtain⟨y,hy,ey⟩:=j5 (l:=out) D.int b0 (by omega)
 refine⟨_,rfl,rfl,(x,y,f,decide (s/6%2=1)),?_,?_⟩
 ·simp[jd,ix1,ex,ey,bR s 6 (by decide),az (s/6) 2 (by decide),dT4]
 ·have h1:=hm x (YL hx)
  have h2:=hm y (YL hy)
  exact⟨h1.1,h1.2,h2.1,h2.2,xY hd hx hy (by omega),hf⟩
abbrev wbC:DF→Option Bool:=(dS (asB (d2 gtI (ag 2) (fun _=>some (.int 1)))) (dS (asB (d2 ltd (d1 aY (ak 5)) (fun _=>some (.int 12)))) (orT (asB (d2 eqD (d2 aP (ag 1) (fun _=>some (.int 6))) (fun _=>some (.int 0)))) (asB (d2 eqD (d2 aP (ag 7) (fun _=>some (.int 6))) (fun _=>some (.int 0)))))))
abbrev vW:DF→Option Bool:=(dS (asB (d2 eqD (d2 aP (d2 br (ag 7) (fun _=>some (.int 21))) (fun _=>some (.int 5))) (fun _=>some (.int 0)))) (asB (d2 ltd (d1 aY (ak 5)) (fun _=>some (.int 12)))))
abbrev wbB (M Kd:Dm):DF→Option RES:=(ai (aS 7 (am M (aB 6 (aV (fun _=>some (.int 8)) (fun _=>some [])))))
  (dIf wbC (ai (aS 8 (d2 aP (d2 br (ag 7) (fun _=>some (.int 6))) (ag 2)))
  (ai (aS 9 (d2 aP (d2 aZ (d2 aZ (ag 8) (fun _=>some (.int 1))) (d2 aP (d2 br (ag 7) (fun _=>some (.int 60))) (d2 ki (ag 2) (fun _=>some (.int 1))))) (ag 2)))
  (ai (cU 5 (asT (ah (getV 8) (ah (getV 9) (ah (am Kd (aB 6 (aB 1 (fun _=>some [])))) (ah (d2 eqD (d2 aP (d2 br (ag 7) (fun _=>some (.int 7))) (fun _=>some (.int 3))) (fun _=>some (.int 0))) aT))))))
  (dIf vW (cU 5 (d2 ixD (ag 5) (d1 sH (fun _=>some (.int 1))))) dNx)))) dNx))
abbrev wbF (cs order:D)(s n f:Int)(ts:List T4)(x6 x7 x8 x9:Option DV):DF:=[some (.v cs),some (.v (.int s)),some (.v (.int n)),some (.v order),some (.v (.int f)),some (.own (.lst (ts.map dT4)) none),x6,x7,x8,x9,none,none,none]
theorem sG (M Kd:Dm)(cs order:D)(s n f c r k:Int)(ts:List T4)(x7 x8 x9:Option DV)(hn:1≤n∧n≤7)(hl:ts.length≤12)(ht:∀ t∈ts,okT n t)(hr:0≤r)
  (hM:M [.v (.int c),.v (.int 8)]=some (.v (.int r))) (hK:Kd [.v (.int c),.v (.int s)]=some (.v (.int k))) (hk:0≤k∧k<1000000000000000000000000000000) :
  ∃ ts' y7 y8 y9,wbB M Kd (wbF cs order s n f ts (some (.v (.int c))) x7 x8 x9)=some (.nx (wbF cs order s n f ts' (some (.v (.int c))) y7 y8 y9))∧ts'.length≤12∧∀ t∈ts',okT n t:=by
 have hc:∀ z8 z9,wbC (wbF cs order s n f ts (some (.v (.int c))) (some (.v (.int r))) z8 z9)=some (decide (1<n)&&(decide (ts.length<12)&&(decide (s%6=0)||decide (r%6=0)))):=by
  intro z8 z9
  by_cases a:1<n <;> by_cases b:ts.length<12 <;> by_cases d:s%6=0 <;> by_cases e:r%6=0 <;>
   simp[az s 6 (by decide),az r 6 (by decide),a,b,d,e] <;> omega
 by_cases hq:(decide (1<n)&&(decide (ts.length<12)&&(decide (s%6=0)||decide (r%6=0))))=true
 ·rw[hq] at hc
  simp only[Yq,YC] at hq
  obtain⟨n1,l12,_⟩:=hq
  have d6:=bR r 6 (by decide)
  have d60:=bR r 60 (by decide)
  have d7:=bR r 7 (by decide)
  have d21:=bR r 21 (by decide)
  have mn:=fun x=>az x n (by omega)
  have mn1:=fun x=>az x (n-1) (by omega)
  have m3:=fun x=>az x 3 (by decide)
  have m5:=fun x=>az x 5 (by decide)
  generalize ha:r/6%n=a
  generalize hb:(a+1+r/60%(n-1))%n=b
  have a0:0≤a:=by rw[← ha];exact Zf _ (by omega)
  have a1:a<n:=by rw[← ha];exact YV _ (by omega)
  have b0:0≤b:=by rw[← hb];exact Zf _ (by omega)
  have b1:b<n:=by rw[← hb];exact YV _ (by omega)
  have g0:0≤r/60%(n-1):=Zf _ (by omega)
  have g1:r/60%(n-1)<n-1:=YV _ (by omega)
  have ab:a≠b:=by
   generalize r/60%(n-1)=g at *
   by_cases h:a+1+g<n
   ·rw[Int.emod_eq_of_lt (by omega) h] at hb;omega
   ·have:(a+1+g)%n=a+1+g-n:=by
     rw[← Int.sub_emod_right (a+1+g) n,Int.emod_eq_of_lt (by omega) (by omega)]
    omega
  let t:T4:=(a,b,k,decide (r/7%3=0))
  have ot:okT n t:=⟨a0,a1,b0,b1,ab,hk⟩
  have hlen:ts.length<16777216:=by omega
  have hc2:vW (wbF cs order s n f (ts++[t]) (some (.v (.int c))) (some (.v (.int r))) (some (.v (.int a))) (some (.v (.int b))))=some (decide (r/21%5=0)&&decide (ts.length+1<12)):=by
   by_cases e1:r/21%5=0 <;> by_cases e2:ts.length+1<12 <;> simp[d21,m5,e1,e2] <;> omega
  have eq:wbB M Kd (wbF cs order s n f ts (some (.v (.int c))) x7 x8 x9)=(dIf vW (cU 5 (d2 ixD (ag 5) (d1 sH (fun _=>some (.int 1))))) dNx) (wbF cs order s n f (ts++[t]) (some (.v (.int c))) (some (.v (.int r))) (some (.v (.int a))) (some (.v (.int b)))):=by
   have s1:∀ G,(ai (aS 7 (am M (aB 6 (aV (fun _=>some (.int 8)) (fun _=>some []))))) G) (wbF cs order s n f ts (some (.v (.int c))) x7 x8 x9)=G (wbF cs order s n f ts (some (.v (.int c))) (some (.v (.int r))) x8 x9):=by
    intro G
    simp[hM]
   have s2:∀ G,(ai (aS 8 (d2 aP (d2 br (ag 7) (fun _=>some (.int 6))) (ag 2)))
  (ai (aS 9 (d2 aP (d2 aZ (d2 aZ (ag 8) (fun _=>some (.int 1))) (d2 aP (d2 br (ag 7) (fun _=>some (.int 60))) (d2 ki (ag 2) (fun _=>some (.int 1))))) (ag 2)))
  (ai (cU 5 (asT (ah (getV 8) (ah (getV 9) (ah (am Kd (aB 6 (aB 1 (fun _=>some [])))) (ah (d2 eqD (d2 aP (d2 br (ag 7) (fun _=>some (.int 7))) (fun _=>some (.int 3))) (fun _=>some (.int 0))) aT))))))
  G))) (wbF cs order s n f ts (some (.v (.int c))) (some (.v (.int r))) x8 x9)=G (wbF cs order s n f (ts++[t]) (some (.v (.int c))) (some (.v (.int r))) (some (.v (.int a))) (some (.v (.int b)))):=by
    intro G
    simp[d6,d60,d7,mn,mn1,m3,ha,hb,hK,hlen,dT4,t,wbF]
   unfold wbB
   rw[s1,eI,hc,Ya,Yf rfl,s2]
  rw[eq,eI,hc2,Ya]
  by_cases hz:(decide (r/21%5=0)&&decide (ts.length+1<12))=true
  ·rw[Yf hz]
   simp only[Yq,YC] at hz
   refine⟨ts++[t]++[t],some (.v (.int r)),some (.v (.int a)),some (.v (.int b)),?_,by simp;omega,?_⟩
   ·have hlast:=lx (ts.map dT4) (dT4 t)
    have hl2:ts.length+1<16777216:=by omega
    simp[sH,ix1,hlast,hl2]
   ·intro u hu
    simp only[ZF,YJ] at hu
    rcases hu with (hu | rfl) | rfl
    ·exact ht u hu
    ·exact ot
    ·exact ot
  ·rw[Yh hz]
   refine⟨ts++[t],_,_,_,rfl,by simp;omega,?_⟩
   intro u hu
   simp only[ZF,YJ] at hu
   rcases hu with hu | rfl
   ·exact ht u hu
   ·exact ot
 ·rw[Bool.eq_false_iff.mpr hq] at hc
  refine⟨ts,some (.v (.int r)),x8,x9,?_,hl,ht⟩
  ·have s1:∀ G,(ai (aS 7 (am M (aB 6 (aV (fun _=>some (.int 8)) (fun _=>some []))))) G) (wbF cs order s n f ts (some (.v (.int c))) x7 x8 x9)=G (wbF cs order s n f ts (some (.v (.int c))) (some (.v (.int r))) x8 x9):=by
    intro G
    simp[hM]
   unfold wbB
   rw[s1,eI,hc]
   rfl
abbrev wbG (M Wd:Dm):DF→Option RES:=(ai (aS 12 (fun _=>some (.int 0)))
  (ai (dIf (asB (d2 eqD (d2 aP (d2 br (ag 1) (fun _=>some (.int 12))) (fun _=>some (.int 2))) (fun _=>some (.int 1)))) (aS 12 (d2 aP (am M (aV (d2 ixD (ag 0) (d2 aP (ag 11) (d1 aY (ak 0)))) (aV (d2 aZ (fun _=>some (.int 20)) (ag 11)) (fun _=>some [])))) (fun _=>some (.int 3)))) dNx)
  (cU 10 (am Wd (aB 1 (aB 12 (fun _=>some [])))))))
abbrev kx (cs order:D)(s n f:Int)(ts:List T4)(x6 x7 x8 x9:Option DV)(ks:List Str)(x11 x12:Option DV):DF:=[some (.v cs),some (.v (.int s)),some (.v (.int n)),some (.v order),some (.v (.int f)),some (.own (.lst (ts.map dT4)) none),x6,x7,x8,x9,some (.own (.lst (ks.map .str)) none),x11,x12]
theorem pU (M Wd:Dm)(order:D)(cs:List Int)(s n f:Int)(ts:List T4)(x6 x7 x8 x9:Option DV)(ks:List Str)(x12:Option DV)(i:Nat)(hi:i<7)(hk:ks.length≤7)(hc:1≤cs.length)
  (hM:∀ c k:Int,0≤k∧k≤1000→∃ r:Int,M [.v (.int c),.v (.int k)]=some (.v (.int r))∧0≤r∧r<998244353)
  (hW:∀ w:Int,0≤w→∃ x:Str,Wd [.v (.int s),.v (.int w)]=some (.v (.str x))∧okW x) :
  ∃ x y12,wbG M Wd (kx (.lst (cs.map .int)) order s n f ts x6 x7 x8 x9 ks (some (.v (.int i))) x12)=some (.nx (kx (.lst (cs.map .int)) order s n f ts x6 x7 x8 x9 (ks++[x]) (some (.v (.int i))) y12))∧okW x:=by
 have d12:=bR s 12 (by decide)
 have m2:=fun x=>az x 2 (by decide)
 have m3:=fun x=>az x 3 (by decide)
 have hk2:ks.length<16777216:=by omega
 by_cases h:s/12%2=1
 ·have mc:=az (i:Int) (cs.length:Int) (by omega)
  obtain⟨c,_,ec⟩:=j5 (l:=cs) D.int (i:=(i:Int)%(cs.length:Int)) (Zf _ (by omega)) (YV _ (by omega))
  obtain⟨r,hr,r0,_⟩:=hM c (20+(i:Int)) (by omega)
  obtain⟨x,hx,ox⟩:=hW (r%3) (by omega)
  refine⟨x,some (.v (.int (r%3))),?_,ox⟩
  simp[d12,m2,m3,mc,ix1,ec,hr,hx,h,hk2,kx]
 ·obtain⟨x,hx,ox⟩:=hW 0 (by decide)
  refine⟨x,some (.v (.int 0)),?_,ox⟩
  simp[d12,m2,h,hx,hk2,kx]
theorem wB (C:Addr)(cs:List Int)(s n:Int)(hc:1≤cs.length)(hs:0≤s∧s<998244353)(hn:1≤n∧n≤7):∃ (ks:List Str) (ts:List T4),jC C [.v (.lst (cs.map .int)),.v (.int s),.v (.int n)]=some (.v (.tup [.lst (ks.map .str),.lst (ts.map dT4)])) ∧
  (ks.length:Int)=n∧(∀ k∈ks,okW k)∧ts.length≤12∧∀ t∈ts,okT n t:=by
 obtain⟨out,hsh,p⟩:=uW C s n hn
 obtain⟨ps,hfa,pl,pk⟩:=xw C s n hn
 have u1:cV (.int (s+1)) (.int 618033988749894848204586834367)=some (.int ((s+1)*618033988749894848204586834367)):=cK _ _ (.inl (by omega))
 have m1:=fun x=>az x 1000000000000000000000000000000 (by decide)
 generalize hf:(s+1)*618033988749894848204586834367%1000000000000000000000000000000=f
 have f0:0≤f∧f<1000000000000000000000000000000:=by omega
 obtain⟨ts,et,tl,tk⟩:=uz s n f out ps hn p f0 pk
 have hM:=g6 C
 have hK:∀ c,∃ k:Int,f8 C [.v (.int c),.v (.int s)]=some (.v (.int k))∧0≤k∧k<1000000000000000000000000000000:=fun c=>jT C c s hs
 have hW:∀ w:Int,0≤w→∃ x:Str,eT C [.v (.int s),.v (.int w)]=some (.v (.str x))∧okW x:=fun w hw=>uS C s w hs.1 hw
 unfold jC g_q15
 generalize cw C=M at hM ⊢
 generalize f8 C=Kd at hK ⊢
 generalize eT C=Wd at hW ⊢
 generalize k5 C=Sh at hsh ⊢
 generalize k7 C=Fa at hfa ⊢
 obtain⟨z1,e1,ts1,y6,y7,y8,y9,rfl,l1,k1⟩:=dI (st:=setV 6) (body:=wbB M Kd) (fun ρ=>∃ (ts:List T4) (x6 x7 x8 x9:Option DV),ρ=wbF (.lst (cs.map .int)) (.lst (out.map .int)) s n f ts x6 x7 x8 x9∧ts.length≤12∧∀ t∈ts,okT n t) (ds:=cs.map .int)
  (ρ:=wbF (.lst (cs.map .int)) (.lst (out.map .int)) s n f ts none none none none) ⟨ts,_,_,_,_,rfl,by rw[tl,Ye];exact pl,tk⟩ (by
   rintro d hd _ ⟨ts,x6,x7,x8,x9,rfl,hl,hk⟩
   obtain⟨c,_,rfl⟩:=Ys.mp hd
   obtain⟨r,hr,r0,_⟩:=hM c 8 (by decide)
   obtain⟨k,hk',k0⟩:=hK c
   obtain⟨ts',y7,y8,y9,e,h1,h2⟩:=sG M Kd (.lst (cs.map .int)) (.lst (out.map .int)) s n f c r k ts x7 x8 x9 hn hl hk r0 hr hk' k0
   exact⟨_,rfl,_,e,ts',_,y7,y8,y9,rfl,h1,h2⟩)
 obtain⟨z2,e2,ks,y11,y12,rfl,l2,k2⟩:=fq (st:=setV 11) (body:=wbG M Wd) (fun j ρ=>∃ (ks:List Str) (x11 x12:Option DV),ρ=kx (.lst (cs.map .int)) (.lst (out.map .int)) s n f ts1 y6 y7 y8 y9 ks x11 x12∧ks.length=j∧∀ k∈ks,okW k) ((aA n).map .int) 0
  (kx (.lst (cs.map .int)) (.lst (out.map .int)) s n f ts1 y6 y7 y8 y9 [] none none) ⟨[],_,_,rfl,rfl,fun _ h=>by cases h⟩ (by
   rintro j d _ hj ⟨ks,x11,x12,rfl,hl,hk⟩
   have hj7:j<7:=by
    have:=(Yn.mp hj).1
    rw[Ye,aJ] at this
    omega
   have hd:d=.int (j:Int):=nN hj
   subst hd
   obtain⟨x,y12,e,ox⟩:=pU M Wd (.lst (out.map .int)) cs s n f ts1 y6 y7 y8 y9 ks x12 j hj7 (by omega) hc hM hW
   refine⟨_,rfl,_,e,ks++[x],_,y12,rfl,by rw[Ym,hl];rfl,fun k hk'=>?_⟩
   rcases ZF.mp hk' with h | h
   ·exact hk k h
   ·rw[YJ.mp h];exact ox)
 refine⟨ks,ts1,?_,?_,k2,l1,k1⟩
 ·have er:cT (ag 2) (kx (.lst (cs.map .int)) (.lst (out.map .int)) s n f ts1 y6 y7 y8 y9 [] none none)=some ((aA n).map .int):=by
   show (if -(2 ^ 62)≤n∧n<2 ^ 62 then some (bN 0 n.toNat) else none)=_
   rw[Yf (by omega),d8]
  have pl2:ps.length≤16777216:=by omega
  have q1:∀ G,(ai (aS 3 (am Sh (aB 1 (aV (getV 2) (fun _=>some [])))))
  (ai (aS 4 (d2 aP (d2 cV (d2 aZ (ag 1) (fun _=>some (.int 1))) (fun _=>some (.int 618033988749894848204586834367))) (d2 ly (fun _=>some (.int 10)) (fun _=>some (.int 30)))))
  (ai (bf 5 (asL (bh 2 [3,4,1] (el (am Fa (aB 1 (aB 2 (fun _=>some []))))) (d_ [0,1]) cJ wbE))) G))) (aE 13 3 [.v (.lst (cs.map .int)),.v (.int s),.v (.int n)])=G (wbF (.lst (cs.map .int)) (.lst (out.map .int)) s n f ts none none none none):=by
   intro G
   generalize wbE=E at et ⊢
   simp[hsh,u1,m1,hf,eU,hfa,pl2,et,wbF]
  have q2:∀ G,(ai (bQ (b8 0) (setV 6) (wbB M Kd)) G) (wbF (.lst (cs.map .int)) (.lst (out.map .int)) s n f ts none none none none)=G (wbF (.lst (cs.map .int)) (.lst (out.map .int)) s n f ts1 y6 y7 y8 y9):=by
   intro G
   rw[gM,km]
   show (match cW (setV 6) (wbB M Kd) (cs.map .int) _ with | some (.nx ρ')=>G ρ' | r=>r)=_
   rw[e1]
  have q3:∀ G,(ai (bf 10 (asL aT)) (ai (bQ (cT (ag 2)) (setV 11) (wbG M Wd)) G)) (wbF (.lst (cs.map .int)) (.lst (out.map .int)) s n f ts1 y6 y7 y8 y9)=G (kx (.lst (cs.map .int)) (.lst (out.map .int)) s n f ts1 y6 y7 y8 y9 ks y11 y12):=by
   intro G
   show (ai (bQ (cT (ag 2)) (setV 11) (wbG M Wd)) G) (kx (.lst (cs.map .int)) (.lst (out.map .int)) s n f ts1 y6 y7 y8 y9 [] none none)=_
   rw[gM,km,er,Ya,e2]
  rw[yK,q1,q2,q3]
  rfl
 ·rw[l2,Ye,aJ];omega
theorem nL {f:Dd}{ρ:DF}{n:Int}(h:f ρ=some (.int n))(hn:0≤n∧n≤1000):cT f ρ=some ((aA n).map .int):=by
 have hb:-(2 ^ 62)≤n∧n<2 ^ 62:=by omega
 rw[tU,h]
 simp only
 rw[Yf hb,d8]
theorem aw {g h:Dw}{ρ ρ':DF}(e:g ρ=some (.nx ρ')):ai g h ρ=h ρ':=by rw[gM,e]
def lf (t:T4):T4:=if t.2.2.2=true∨t.1<t.2.1 then t else (t.2.1,t.1,t.2.2.1,t.2.2.2)
theorem yV {n:Int}{t:T4}(h:okT n t):okT n (lf t):=by
 unfold lf
 split
 ·exact h
 ·obtain⟨a,b,c,d,e,f⟩:=h
  exact⟨c,d,a,b,fun q=>e q.symm,f⟩
theorem pL (ts:List T4)(h:ts.length<64):bO (ts.map dT4)=true:=by
 unfold bO
 simp only[Yq,YC,Yz,Ye]
 refine⟨⟨⟨⟨h,?_⟩,?_⟩,?_⟩,?_⟩
 ·intro x hx;obtain⟨t,_,rfl⟩:=Ys.mp hx;rfl
 ·intro x hx y hy;obtain⟨t,_,rfl⟩:=Ys.mp hx;obtain⟨u,_,rfl⟩:=Ys.mp hy;rfl
 ·intro x hx;obtain⟨t,_,rfl⟩:=Ys.mp hx;rfl
 ·intro x hx;obtain⟨t,_,rfl⟩:=Ys.mp hx;rfl
theorem e7 (ts:List Int)(h:ts.length<64):bO (ts.map D.int)=true:=by
 unfold bO
 simp only[Yq,YC,Yz,Ye]
 refine⟨⟨⟨⟨h,?_⟩,?_⟩,?_⟩,?_⟩
 ·intro x hx;obtain⟨t,_,rfl⟩:=Ys.mp hx;rfl
 ·intro x hx y hy;obtain⟨t,_,rfl⟩:=Ys.mp hx;obtain⟨u,_,rfl⟩:=Ys.mp hy;rfl
 ·intro x hx;obtain⟨t,_,rfl⟩:=Ys.mp hx;rfl
 ·intro x hx;obtain⟨t,_,rfl⟩:=Ys.mp hx;rfl
theorem e8 {α:Type}(f:α→D)(g:D→α)(hg:∀ a,g (f a)=a){l:List D}{ts:List α}(h:l.Perm (ts.map f)):∃ us:List α,l=us.map f∧us.Perm ts:=by
 refine⟨l.map g,?_,?_⟩
 ·rw[ZK]
  conv=>lhs;rw[← XB l]
  refine List.map_congr_left fun x hx=>?_
  obtain⟨t,_,rfl⟩:=Ys.mp (h.mem_iff.mp hx)
  show _=f (g (f t))
  rw[hg]
  rfl
 ·have:=h.map g
  rw[ZK,show g ∘ f=id from funext hg,XB] at this
  exact this
def AR:D→T4
 | .tup [.int a,.int b,.int k,.bl o]=>(a,b,k,o)
 | _=>(0,0,0,false)
def unI:D→Int
 | .int a=>a
 | _=>0
theorem tq (ts:List T4):∃ us:List T4,bg (ts.map dT4)=us.map dT4∧us.Perm ts:=e8 dT4 AR (fun _=>rfl) (b9 _)
theorem iD {κ:Type}[DecidableEq κ](k k':κ)(v:D):∀ kvs:List (κ×D),bC (cM kvs k v) k'=if k=k' then some v else bC kvs k':=by
 intro kvs
 unfold cM
 split
 ·rename_i h
  induction kvs with
  | nil=>simp at h
  | cons x r ih=>
   obtain⟨q,w⟩:=x
   rw[Yv]
   by_cases e:q=k
   ·subst e
    by_cases e2:q=k'
    ·simp[a8,e2]
    ·have hr:∀ r:List (κ×D),bC (r.map fun kv=>if kv.1=q then (kv.1,v) else kv) k'=bC r k':=by
      intro r
      induction r with
      | nil=>rfl
      | cons y r ih=>
       obtain⟨a,b⟩:=y
       rw[Yv]
       by_cases e3:a=q
       ·subst e3;simp[a8,e2,ih]
       ·simp[a8,e3,ih]
     simp[a8,e2,hr]
   ·have h':(r.any fun kv=>decide (kv.1=k))=true:=by simpa[e] using h
    have:=ih h'
    by_cases e2:q=k'
    ·subst e2
     simp[a8,e,show ¬ k=q from fun z=>e z.symm]
    ·simp only[e,if_false,a8,e2]
     exact this
 ·rename_i h
  induction kvs with
  | nil=>simp[a8,bC]
  | cons x r ih=>
   obtain⟨q,w⟩:=x
   have hq:¬ q=k:=by intro z;exact h (by simp[z])
   have hr:¬ (r.any fun kv=>decide (kv.1=k))=true:=fun z=>h (by simp only[ZM,z,Bool.or_true])
   have:=ih hr
   rw[List.cons_append,a8,a8,this]
   by_cases e:k=k'
   ·subst e
    simp[hq]
   ·simp[e]
theorem lI {κ:Type}[DecidableEq κ](k:κ)(v:D)(kvs:List (κ×D)):(cM kvs k v).length≤kvs.length+1:=by
 unfold cM
 split
 ·simp
 ·simp
theorem iq {α β:Type}(f:α→β)(l:List α)(a b:Option Int):df (l.map f) a b=(df l a b).map f:=by
 unfold df
 rw[Ye,List.map_take,List.map_drop]
theorem qQ {α:Type}(l:List α)(a b:Option Int):(df l a b).length≤l.length:=by
 unfold df
 rw[ZO,List.length_drop]
 omega
def okK (n:Int)(ks:List Str):Prop:=(ks.length:Int)=n∧∀ k∈ks,okW k
def okS (n:Int)(ts:List T4):Prop:=ts.length≤12∧∀ t∈ts,okT n t
theorem gf {c:Dk}{ρ:DF}(q:Int→Bool):∀ xs:List Int,(∀ x∈xs,c (ρ.set 0 (some (.v (.int x))))=some (q x))→0<ρ.length→di (setV 0) c (getV 0) ρ (xs.map .int)=some ((xs.filter q).map .int)
 | [],_,_=>rfl
 | x::xs,h,hl=>by
  have ih:=gf q xs (fun y hy=>h y (Yb _ hy)) hl
  have hx:=h x Yc
  rw[Yv]
  unfold di
  rw[tZ,Ya,hx,Ya,List.filter_cons]
  cases q x with
  | false=>rw[Yh (by decide),Yh (by decide),ih]
  | true=>
   have hg:getV 0 (ρ.set 0 (some (.v (.int x))))=some (.int x):=by
    unfold getV
    rw[Zc hl]
   rw[Yf rfl,Yf rfl,hg,Ya,ih]
   rfl
theorem tX {α:Type}(l:List α){k:Int}(h:0≤k):df l none (some k)=l.take k.toNat:=by
 unfold df HT.sIx
 simp only[List.drop_zero,Nat.sub_zero]
 rw[Yh (by omega),← List.take_take,Xs]
theorem oJ {α:Type}(l:List α){k:Int}(h:0≤k):df l (some k) none=l.drop k.toNat:=by
 unfold df HT.sIx
 simp only
 rw[Yh (by omega)]
 by_cases hk:k.toNat≤l.length
 ·rw[Nat.min_eq_left hk,← List.length_drop,Xs]
 ·rw[Nat.min_eq_right (by omega),Nat.sub_self,List.take_zero,ZQ (by omega)]
theorem rX (xs ys:List D)(h:xs.length+ys.length≤16777216):aZ (.lst xs) (.lst ys)=some (.lst (xs++ys)):=Yf h
theorem rV (C:Addr)(ns:List Int)(a:Int)(ha:0≤a)(hl:ns.length≤63):∃ cs:List Int,pB C [.v (.lst (ns.map .int)),.v (.int a),.v (.int 10)]=some (.own (.lst (cs.map .int)) none)∧cs.length=10:=by
 have hq:=qQ ns (some a) (some (a+10))
 have e1:df (ns.map D.int) (some a) (some (a+10))=(df ns (some a) (some (a+10))).map D.int:=iq _ _ _ _
 generalize hQ:df ns (some a) (some (a+10))=Q at *
 let X:List Int:=[a+1,5,2,9,4,7,1,8,3,6,0,11,13,12,10,14]
 have e2:df ((Q++X).map D.int) none (some 10)=((Q++X).take 10).map D.int:=by rw[iq,tX _ (by decide)];rfl
 refine⟨(Q++X).take 10,?_,by rw[ZO,Ym];show min 10 (Q.length+16)=10;omega⟩
 have e3:aZ (.lst (Q.map D.int)) (.lst (X.map D.int))=some (.lst ((Q++X).map D.int)):=by
  rw[rX _ _ (by rw[Ye,Ye];show Q.length+16≤_;omega),Zz]
 generalize ((Q++X).take 10).map D.int=R at *
 generalize (Q++X).map D.int=S at *
 have e3:aZ (.lst (Q.map D.int)) (.lst [.int (a+1),.int 5,.int 2,.int 9,.int 4,.int 7,.int 1,.int 8,.int 3,.int 6,.int 0,.int 11,.int 13,.int 12,.int 10,.int 14])=some (.lst S):=e3
 simp[pB,g_q8,qP,e1,e2,e3]
theorem gI {it:Dl}{st:Dq}{g:Dw}{ρ:DF}{ds:List D}{r:RES}(h:it ρ=some ds)(e:cW st g ds ρ=some r):bQ it st g ρ=some r:=by
 rw[km,h]
 exact e
theorem iE (C:Addr)(x:Str)(h:okW x):qG C [.v (.str x)]=some (.v (.bl true)):=by
 obtain⟨h1,h3,hc⟩:=h
 have e1:di (setV 0) cJ (chD leA leA (fun _=>some (.str "a")) (ak 0) (fun _=>some (.str "z"))) [none] (L2.signs x)=some (x.cps.toList.map fun _=>D.bl true):=by
  unfold L2.signs
  refine gQ (fun c=>D.str ⟨#[c]⟩) (fun _=>D.bl true) _ fun c hm=>?_
  obtain⟨c1,c2⟩:=hc c hm
  refine⟨[some (.v (.str ⟨#[c]⟩))],rfl,rfl,?_⟩
  have l1:leA (.str "a") (.str ⟨#[c]⟩)=some (.bl true):=by
   show some (D.bl (!decide ([c] < [97])))=_
   have:¬ ([c] < [97]):=fun h=>by rcases List.cons_lt_cons_iff.mp h with h | ⟨_,h⟩;omega;exact absurd h (List.not_lt_nil _)
   rw[Yx this];rfl
  have l2:leA (.str ⟨#[c]⟩) (.str "z")=some (.bl true):=by
   show some (D.bl (!decide ([122] < [c])))=_
   have:¬ ([122] < [c]):=fun h=>by rcases List.cons_lt_cons_iff.mp h with h | ⟨_,h⟩;omega;exact absurd h (List.not_lt_nil _)
   rw[Yx this];rfl
  simp[l1,l2]
 have hsz:(L2.signs x).length≤16777216:=by unfold L2.signs;rw[Ye,Zn];omega
 have e2:wq (.lst (x.cps.toList.map fun _=>D.bl true))=some (.bl true):=by
  have a1:((x.cps.toList.map fun _=>D.bl true).all oU)=true:=by simp[oU]
  have a2:((x.cps.toList.map fun _=>D.bl true).all trD)=true:=by simp[trD]
  show (if ((x.cps.toList.map fun _=>D.bl true).all oU)=true then some (D.bl ((x.cps.toList.map fun _=>D.bl true).all trD)) else none)=_
  rw[Yf a1,a2]
 have e3:aY (.str x)=some (.int (x.cps.size:Int)):=Yf (show x.cps.size≤16777216 by omega)
 have d1':bh 1 [] (lW (getV 0)) (setV 0) cJ (chD leA leA (fun _=>some (.str "a")) (ak 0) (fun _=>some (.str "z"))) [some (.v (.str x)),none]=some (x.cps.toList.map fun _=>D.bl true):=by
  have:lW (getV 0) [some (.v (.str x)),none]=some (L2.signs x):=rfl
  rw[eU,this,Ya,Yf hsz]
  exact e1
 unfold qG g_q3
 have g1:(1:Int)≤(x.cps.size:Int):=by omega
 have g2:(x.cps.size:Int)≤3:=by omega
 generalize (chD leA leA (fun _=>some (.str "a")) (ak 0) (fun _=>some (.str "z")))=E' at d1' ⊢
 generalize (x.cps.toList.map fun _=>D.bl true)=L at *
 simp[d1',e2,e3,g1,g2]
theorem wb (C:Addr)(t:T4)(n:Int)(h:okT n t):oI C [.v (dT4 t),.v (.int n)]=some (.v (.bl true)):=by
 obtain⟨a,b,k,o⟩:=t
 obtain⟨a0,a1,b0,b1,ab,k0,k1⟩:=h
 simp only at a0 a1 b0 b1 ab k0 k1
 have ea:atI [D.int a,.int b,.int k,.bl o] 0=some (.int a):=rfl
 have eb:atI [D.int a,.int b,.int k,.bl o] 1=some (.int b):=rfl
 have ek:atI [D.int a,.int b,.int k,.bl o] 2=some (.int k):=rfl
 have hk:rm C [.v (.int k)]=some (.v (.bl true)):=by
  simp[rm,g_q5,k0,k1]
 unfold oI g_q4
 generalize rm C=M at hk ⊢
 simp[dT4,ix2,ea,eb,ek,a0,a1,b0,b1,ab,hk]
theorem pq (C:Addr)(ks:List Str)(ts:List T4)(n:Int)(hn:1≤n∧n≤7)(hk:okK n ks)(hs:okS n ts):kP C [.v (.lst (ks.map .str)),.v (.lst (ts.map dT4))]=some (.v .non):=by
 have hP:=iE C
 have hT:∀ t,okT n t→oI C [.v (dT4 t),.v (.int n)]=some (.v (.bl true)):=fun t h=>wb C t n h
 unfold kP g_q22
 generalize qG C=P at hP ⊢
 generalize oI C=T at hT ⊢
 have hkl:(ks.length:Int)=n:=hk.1
 have g1:1≤n:=hn.1
 have g2:n≤7:=hn.2
 have g3:¬ (12:Int)<(ts.length:Int):=by have:=hs.1;omega
 have q1:∀ G,(ai (dIf (bv (asB (chD leA leA (fun _=>some (.int 1)) (d1 aY (ak 0)) (fun _=>some (.int 7))))) eN dNx) (ai (dIf (asB (d2 gtI (d1 aY (ak 1)) (fun _=>some (.int 12)))) eN dNx) G)) (aE 4 2 [.v (.lst (ks.map .str)),.v (.lst (ts.map dT4))])=G [some (.v (.lst (ks.map .str))),some (.v (.lst (ts.map dT4))),none,none]:=by
  intro G
  simp[hkl,g1,g2,g3]
 obtain⟨z1,e1,y2,rfl⟩:=dI (st:=setV 2) (body:=(dIf (bv (asB (am P (aV (getV 2) (fun _=>some []))))) eN dNx)) (fun ρ=>∃ x2,ρ=[some (.v (.lst (ks.map .str))),some (.v (.lst (ts.map dT4))),x2,none]) (ds:=ks.map .str) (ρ:=[some (.v (.lst (ks.map .str))),some (.v (.lst (ts.map dT4))),none,none]) ⟨_,rfl⟩ (by
  rintro d hd _ ⟨x2,rfl⟩
  obtain⟨k,hk',rfl⟩:=Ys.mp hd
  have:=hP k (hk.2 k hk')
  refine⟨[some (.v (.lst (ks.map .str))),some (.v (.lst (ts.map dT4))),some (.v (.str k)),none],rfl,[some (.v (.lst (ks.map .str))),some (.v (.lst (ts.map dT4))),some (.v (.str k)),none],?_,_,rfl⟩
  simp[this])
 obtain⟨z2,e2,y3,rfl⟩:=dI (st:=setV 3) (body:=(dIf (bv (asB (am T (aB 3 (aV (d1 aY (ak 0)) (fun _=>some [])))))) eN dNx)) (fun ρ=>∃ x3,ρ=[some (.v (.lst (ks.map .str))),some (.v (.lst (ts.map dT4))),y2,x3]) (ds:=ts.map dT4) (ρ:=[some (.v (.lst (ks.map .str))),some (.v (.lst (ts.map dT4))),y2,none]) ⟨_,rfl⟩ (by
  rintro d hd _ ⟨x2,rfl⟩
  obtain⟨k,hk',rfl⟩:=Ys.mp hd
  have:=hT k (hs.2 k hk')
  refine⟨[some (.v (.lst (ks.map .str))),some (.v (.lst (ts.map dT4))),y2,some (.v (dT4 k))],rfl,[some (.v (.lst (ks.map .str))),some (.v (.lst (ts.map dT4))),y2,some (.v (dT4 k))],?_,_,rfl⟩
  simp[hkl,this])
 rw[vC,q1,aw (gI (ds:=ks.map D.str) rfl e1),gI (ds:=ts.map dT4) rfl e2]
 rfl
theorem p_ (C:Addr)(t:T4):kZ C [.v (dT4 t)]=some (.v (dT4 (lf t))):=by
 obtain⟨a,b,k,o⟩:=t
 have ea:atI [D.int a,.int b,.int k,.bl o] 0=some (.int a):=rfl
 have eb:atI [D.int a,.int b,.int k,.bl o] 1=some (.int b):=rfl
 have ek:atI [D.int a,.int b,.int k,.bl o] 2=some (.int k):=rfl
 have eo:atI [D.int a,.int b,.int k,.bl o] 3=some (.bl o):=rfl
 unfold kZ g_q18
 cases o with
 | true=>simp[dT4,ix2,ea,eb,ek,eo,lf]
 | false=>
  by_cases h:a<b
  ·simp[dT4,ix2,ea,eb,ek,eo,lf,h]
  ·simp[dT4,ix2,ea,eb,ek,eo,lf,h]
theorem sQ (ts:List (Int×Int))(h:ts.length<64):bO (ts.map dP)=true:=by
 unfold bO
 simp only[Yq,YC,Yz,Ye]
 refine⟨⟨⟨⟨h,?_⟩,?_⟩,?_⟩,?_⟩
 ·intro x hx;obtain⟨t,_,rfl⟩:=Ys.mp hx;rfl
 ·intro x hx y hy;obtain⟨t,_,rfl⟩:=Ys.mp hx;obtain⟨u,_,rfl⟩:=Ys.mp hy;rfl
 ·intro x hx;obtain⟨t,_,rfl⟩:=Ys.mp hx;rfl
 ·intro x hx;obtain⟨t,_,rfl⟩:=Ys.mp hx;rfl
def unP:D→Int×Int
 | .tup [.int a,.int b]=>(a,b)
 | _=>(0,0)
theorem rK {j:Nat}{fk fv:Dd}{ρ:DF}:n9 j fk fv ρ=match ρ[j]? with
 | some (some (.own (.dT kvs) t))=>(fv ρ).bind fun v=>(fk ρ).bind fun y=>(gy y).bind fun k=>if kvs.length<16777216 then some (.nx (ρ.set j (some (.own (.dT (cM kvs k v)) t)))) else none
 | _=>none:=rfl
theorem mq {fd fk fx:Dd}{ρ:DF}:gF fd fk fx ρ=match fd ρ with
 | some (.dT kvs)=>(fk ρ).bind fun y=>(gy y).bind fun k=>(fx ρ).map fun x=>(bC kvs k).getD x
 | _=>none:=rfl
def wFs (ks:List Str)(T J:D):List (Str×D):=[("kinds",.lst (ks.map .str)),("ties",T),("joins",J)]
theorem n1:¬ (("kinds":Str) = "ties"):=by decide +kernel
theorem n2:¬ (("kinds":Str) = "joins"):=by decide +kernel
theorem n3:¬ (("ties":Str) = "joins"):=by decide +kernel
theorem b1:(("ties":Str) == "kinds")=false:=by decide +kernel
theorem b2:(("size":Str) == "kinds")=false:=by decide +kernel
theorem b3:(("size":Str) == "ties")=false:=by decide +kernel
theorem b4:(("size":Str) == "joins")=false:=by decide +kernel
theorem kG {C:Addr}{fs:List (Str×D)}{n:Str}:iS C n (.ins C fs)=fs.lookup n:=Yf rfl
theorem oK (C:Addr)(ks:List Str)(T J:D):iS C "kinds" (.ins C (wFs ks T J))=some (.lst (ks.map .str)):=by
 rw[kG]
 unfold wFs
 simp
theorem tw (ks:List Str)(T J:D):(wFs ks T J).lookup ("size":Str)=none:=by
 unfold wFs
 simp[List.lookup,b2,b3,b4]
theorem qX {C:Addr}{i:Nat}{n:Str}{fv:Dd}{ρ:DF}:jb C i n fv ρ=match ρ[i]? with
 | some (some (.own (.ins C' fs) t))=>if C'=C then (fv ρ).bind fun d=>if fs.length<1000 then some (.nx (ρ.set i (some (.own (.ins C (iC n d fs)) t)))) else none else none
 | _=>none:=rfl
def srt (ts:List T4):List D:=bg ((ts.map lf).map dT4)
theorem nP (r:List Int):okN 30 (.lst (r.map .int))=true:=by
 show (r.map D.int).all (okN 29)=true
 rw[Yz]
 intro x hx
 obtain⟨t,_,rfl⟩:=Ys.mp hx
 rfl
theorem kW:∀ a b:List Int,aW (a.map .int) (b.map .int)=true
 | [],_=>rfl
 | _::_,[]=>rfl
 | x::a,y::b=>by
  rw[Yv,Yv]
  show (al (.int x) (.int y)&&aW (a.map .int) (b.map .int))=true
  rw[kW a b]
  rfl
theorem kR {a b:List Int}(h:a.map D.int=b.map D.int):a=b:=by
 have:=ZA (List.map unI) h
 rw[ZK,ZK,show unI ∘ D.int=id from rfl,XB,XB] at this
 exact this
theorem ij {α:Type}(f:α→D)(h:∀ x y,al (f x) (f y)=true):∀ a b:List α,aW (a.map f) (b.map f)=true
 | [],_=>rfl
 | _::_,[]=>rfl
 | x::a,y::b=>by
  rw[Yv,Yv]
  show (al (f x) (f y)&&aW (a.map f) (b.map f))=true
  rw[ij f h a b,h]
  rfl
theorem sx {α:Type}(f:α→D)(h:∀ x y,al (f x) (f y)=true)(a:List α):eqd (.lst (a.map f)) (.lst (a.map f))=true:=(fu _ _ (ij f h a a)).mpr rfl
theorem xl {x y:D}(hx:okN 30 x=true)(hy:okN 30 y=true):eqD x y=some (.bl (eqd x y)):=Yf (by rw[hx,hy];rfl)
theorem wx {x y:D}(hx:okN 30 x=true)(hy:okN 30 y=true):neD x y=some (.bl (!eqd x y)):=Yf (by rw[hx,hy];rfl)
theorem we (ps:List (Int×Int)):Cmps 28 (ps.map dP):=
 ⟨fun x hx=>by obtain⟨t,_,rfl⟩:=Ys.mp hx;rfl,fun x hx y hy=>by obtain⟨t,_,rfl⟩:=Ys.mp hx;obtain⟨u,_,rfl⟩:=Ys.mp hy;rfl⟩
def prs (i j:Int)(t:T4):List (Int×Int):=(if t.1=i∧t.2.1=j then [(t.2.2.1,if t.2.2.2=true then 1 else 0)] else [])++(if t.2.1=i∧t.1=j then [(t.2.2.1,if t.2.2.2=true then 2 else 0)] else [])
def be (i j:Int):List T4→List (Int×Int)
 | []=>[]
 | t::ts=>prs i j t++be i j ts
def srP (ps:List (Int×Int)):D:=.tup (bg (ps.map dP))
theorem lK {ps qs:List (Int×Int)}(h:ps.Perm qs):srP ps=srP qs:=by
 unfold srP
 rw[mW (h.map dP) (we _)]
theorem qq (i j:Int)(ts us:List T4):be i j (ts++us)=be i j ts++be i j us:=by
 induction ts with
 | nil=>rfl
 | cons t ts ih=>
  show prs i j t++be i j (ts++us)=prs i j t++be i j ts++be i j us
  rw[ih,Zx]
theorem r8 (i j:Int)(ts:List T4)(t:T4):be i j (ts++[t])=be i j ts++prs i j t:=by
 rw[qq]
 show _++(prs i j t++[])=_
 rw[YT]
theorem pV {i j:Int}{ts us:List T4}(h:ts.Perm us):(be i j ts).Perm (be i j us):=by
 induction h with
 | nil=>exact .refl _
 | cons t _ ih=>exact ih.append_left _
 | swap a b l=>
  show (prs i j b++(prs i j a++be i j l)).Perm (prs i j a++(prs i j b++be i j l))
  rw[← Zx,← Zx]
  exact List.perm_append_comm.append_right _
 | trans _ _ h1 h2=>exact h1.trans h2
theorem xm (i j:Int)(t:T4)(h:t.1≠t.2.1):prs i j (lf t)=prs i j t:=by
 obtain⟨a,b,k,o⟩:=t
 simp only at h
 unfold lf
 split
 ·rfl
 ·rename_i q
  have ho:o=false:=by cases o with | false=>rfl | true=>exact absurd (Or.inl rfl) q
  subst ho
  unfold prs
  by_cases h1:a=i∧b=j
  ·have h2:¬ (b=i∧a=j):=fun z=>h (by rw[h1.1,← z.1])
   simp[h1,h2]
   simp[h1] at h2
   split
   ·rename_i z;exact absurd z.2 (h2 z.1)
   ·rfl
  ·by_cases h2:b=i∧a=j
   ·simp[h1,h2]
    simp[h2] at h1
    split
    ·rename_i z;exact absurd z.2 (h1 z.1)
    ·rfl
   ·simp[h1,h2]
theorem uy (i j:Int)(ts:List T4)(h:∀ t∈ts,t.1≠t.2.1):be i j (ts.map lf)=be i j ts:=by
 induction ts with
 | nil=>rfl
 | cons t ts ih=>
  show prs i j (lf t)++be i j (ts.map lf)=prs i j t++be i j ts
  rw[xm i j t (h t Yc),ih fun u hu=>h u (Yb _ hu)]
theorem vv (i j:Int)(t:T4):(prs i j t).length≤2:=by
 unfold prs
 rw[Ym]
 have h1:∀ (c:Prop) [Decidable c] (x:Int×Int),(if c then [x] else []).length≤1:=fun c _ x=>by split <;> simp
 have:=h1 (t.1=i∧t.2.1=j) (t.2.2.1,if t.2.2.2=true then 1 else 0)
 have:=h1 (t.2.1=i∧t.1=j) (t.2.2.1,if t.2.2.2=true then 2 else 0)
 omega
theorem lT (i j:Int)(ts:List T4):(be i j ts).length≤2*ts.length:=by
 induction ts with
 | nil=>exact Yi _
 | cons t ts ih=>
  show (prs i j t++be i j ts).length≤2*(ts.length+1)
  rw[Ym]
  have:=vv i j t
  omega
def JOk (kvs:List (List Key×D))(ts:List T4):Prop:=∀ i j:Int,bC kvs [.inl i,.inl j]=if be i j ts=[] then none else some (srP (be i j ts))
theorem JOk.get {kvs:List (List Key×D)}{ts:List T4}(h:JOk kvs ts)(i j:Int):(bC kvs [.inl i,.inl j]).getD (.tup [])=srP (be i j ts):=by
 rw[h i j]
 split
 ·rename_i q;rw[q];rfl
 ·rfl
theorem JOk.has {kvs:List (List Key×D)}{ts:List T4}(h:JOk kvs ts)(i j:Int):(bC kvs [.inl i,.inl j]).isSome=!decide (be i j ts=[]):=by
 rw[h i j]
 split
 ·rename_i q;rw[YU q];rfl
 ·rename_i q;rw[Yx q];rfl
theorem lZ {a b i j:Int}(h:¬ (a=i∧b=j)):¬ ([.inl a,.inl b]:List Key)=[.inl i,.inl j]:=by
 intro q
 injection q with q1 q2
 injection q2 with q2 _
 exact h ⟨XJ q1,XJ q2⟩
theorem zx (C:Addr)(kvs:List (List Key×D))(a b k f:Int)(ps:List (Int×Int))(hg:(bC kvs [.inl a,.inl b]).getD (.tup [])=srP ps)(pl:ps.length≤50)(hkl:kvs.length<1000) :
  iI C (.dT kvs) [.v (.tup [.int a,.int b]),.v (.tup [.int k,.int f])]=some (.dT (cM kvs [.inl a,.inl b] (srP (ps++[(k,f)]))),.non):=by
 obtain⟨us,eu,up⟩:=e8 dP unP (fun _=>rfl) (b9 (ps.map dP))
 have hg':(bC kvs [.inl a,.inl b]).getD (.tup [])=.tup (us.map dP):=hg.trans (ZA D.tup eu)
 have ul:us.length≤50:=by rw[up.length_eq];exact pl
 have ha:aZ (.tup (us.map dP)) (.tup [.tup [.int k,.int f]])=some (.tup ((us++[(k,f)]).map dP)):=by
  rw[Zz]
  exact Yf (by rw[Ye];show us.length+1≤_;omega)
 have hso:=sQ (us++[(k,f)]) (by rw[Ym,YX];omega)
 have hs:D.tup (bg ((us++[(k,f)]).map dP))=srP (ps++[(k,f)]):=lK (up.append_right _)
 rw[← hs]
 refine n_ rfl rfl fun ad=>⟨.nx [some (.own (.dT (cM kvs [.inl a,.inl b] (.tup (bg ((us++[(k,f)]).map dP))))) (some ad)),some (.v (.tup [.int a,.int b])),some (.v (.tup [.int k,.int f]))],?_,rfl,rfl⟩
 have hkl':kvs.length<16777216:=by omega
 generalize (us++[(k,f)]).map dP=L at *
 generalize us.map dP=L0 at *
 unfold g_q20
 simp[rK,mq,gy,dQ,eL,hg',ha,eR,hso,qm,hkl']
theorem zb (a b k:Int)(o:Bool)(hab:a≠b):prs a b (a,b,k,o)=[(k,if o=true then 1 else 0)]:=by
 show (if a=a∧b=b then [(k,if o=true then (1:Int) else 0)] else [])++(if b=a∧a=b then [(k,if o=true then (2:Int) else 0)] else [])=_
 rw[Yf (⟨rfl,rfl⟩:a=a∧b=b),Yh (fun z:b=a∧a=b=>hab z.2)]
 rfl
theorem yW (a b k:Int)(o:Bool)(hab:a≠b):prs b a (a,b,k,o)=[(k,if o=true then 2 else 0)]:=by
 show (if a=b∧b=a then [(k,if o=true then (1:Int) else 0)] else [])++(if b=b∧a=a then [(k,if o=true then (2:Int) else 0)] else [])=_
 rw[Yf (⟨rfl,rfl⟩:b=b∧a=a),Yh (fun z:a=b∧b=a=>hab z.1)]
 rfl
theorem yF (i j a b k:Int)(o:Bool)(h1:¬ (b=i∧a=j))(h2:¬ (a=i∧b=j)):prs i j (a,b,k,o)=[]:=by
 show (if a=i∧b=j then [(k,if o=true then (1:Int) else 0)] else [])++(if b=i∧a=j then [(k,if o=true then (2:Int) else 0)] else [])=_
 rw[Yh h2,Yh h1]
 rfl
theorem JOk.step {kvs:List (List Key×D)}{ts:List T4}(h:JOk kvs ts)(a b k:Int)(o:Bool)(hab:a≠b) :
  JOk (cM (cM kvs [.inl a,.inl b] (srP (be a b ts++[(k,if o=true then 1 else 0)]))) [.inl b,.inl a] (srP (be b a ts++[(k,if o=true then 2 else 0)]))) (ts++[(a,b,k,o)]):=by
 intro i j
 rw[r8,iD,iD]
 by_cases h1:b=i∧a=j
 ·obtain⟨rfl,rfl⟩:=h1
  rw[yW a b k o hab]
  generalize (k,if o=true then (2:Int) else 0)=q
  rw[Yf rfl,Yh (by simp)]
 ·rw[Yh (lZ h1)]
  by_cases h2:a=i∧b=j
  ·obtain⟨rfl,rfl⟩:=h2
   rw[zb a b k o hab]
   generalize (k,if o=true then (1:Int) else 0)=q
   rw[Yf rfl,Yh (by simp)]
  ·rw[Yh (lZ h2),h i j,yF i j a b k o h1 h2,YT]
theorem r9 {α:Type}{l:List α}{j:Nat}{x:α}(h:l[j]?=some x):l.take (j+1)=l.take j++[x]:=by
 rw[List.take_add_one,h]
 rfl
theorem vd (C:Addr)(ts:List T4)(hl:ts.length≤12)(hd:∀ t∈ts,t.1≠t.2.1):∃ kvs,sR C [.v (.lst (ts.map dT4))]=some (.own (.dT kvs) none)∧JOk kvs ts:=by
 have hM:=zx C
 unfold sR g_q6
 generalize iI C=M at hM ⊢
 obtain⟨z,e,kvs,y2,y3,y4,y5,rfl,hk,hJ⟩:=fq (st:=d_ [2,3,4,5]) (body:=(ai (dE K0 1 M (aV (asT (ah (getV 2) (ah (getV 3) aT))) (aV (asT (ah (getV 4) (ah (ifV (asB (getV 5)) (fun _=>some (.int 1)) (fun _=>some (.int 0))) aT))) (fun _=>some []))))
  (dE K0 1 M (aV (asT (ah (getV 3) (ah (getV 2) aT))) (aV (asT (ah (getV 4) (ah (ifV (asB (getV 5)) (fun _=>some (.int 2)) (fun _=>some (.int 0))) aT))) (fun _=>some []))))))
  (fun j ρ=>∃ (kvs:List (List Key×D)) (x2 x3 x4 x5:Option DV),ρ=[some (.v (.lst (ts.map dT4))),some (.own (.dT kvs) none),x2,x3,x4,x5]∧kvs.length≤2*j∧JOk kvs (ts.take j)) (ts.map dT4) 0
  [some (.v (.lst (ts.map dT4))),some (.own (.dT []) none),none,none,none,none] ⟨[],_,_,_,_,rfl,Yi _,fun _ _=>rfl⟩ (by
   rintro j d _ hj ⟨kvs,x2,x3,x4,x5,rfl,hk,hJ⟩
   rw[Xo] at hk hJ ⊢
   rw[YF] at hj
   cases ht:ts[j]? with
   | none=>rw[ht] at hj;cases hj
   | some t=>
   rw[ht] at hj
   cases hj
   have hlt:j<ts.length:=(Yn.mp ht).1
   obtain⟨a,b,k,o⟩:=t
   have hab:a≠b:=hd _ (YL ht)
   have l1:=lT a b (ts.take j)
   have l2:=lT b a (ts.take j)
   have l3:(ts.take j).length≤12:=by rw[ZO];omega
   have e1:=hM kvs a b k (if o=true then 1 else 0) _ (hJ.get a b) (by omega) (by omega)
   have l4:=lI [.inl a,.inl b] (srP (be a b (ts.take j)++[(k,if o=true then 1 else 0)])) kvs
   have g2:(bC (cM kvs [.inl a,.inl b] (srP (be a b (ts.take j)++[(k,if o=true then 1 else 0)]))) [.inl b,.inl a]).getD (.tup [])=srP (be b a (ts.take j)):=by
    rw[iD,Yh (lZ fun z=>hab z.1)]
    exact hJ.get b a
   have e2:=hM _ b a k (if o=true then 2 else 0) _ g2 (by omega) (by omega)
   have hs:=hJ.step a b k o hab
   rw[← r9 ht] at hs
   have l5:=lI [.inl b,.inl a] (srP (be b a (ts.take j)++[(k,if o=true then 2 else 0)])) (cM kvs [.inl a,.inl b] (srP (be a b (ts.take j)++[(k,if o=true then 1 else 0)])))
   generalize cM kvs [.inl a,.inl b] (srP (be a b (ts.take j)++[(k,if o=true then 1 else 0)]))=kvs1 at *
   generalize cM kvs1 [.inl b,.inl a] (srP (be b a (ts.take j)++[(k,if o=true then 2 else 0)]))=kvs2 at *
   refine⟨[some (.v (.lst (ts.map dT4))),some (.own (.dT kvs) none),some (.v (.int a)),some (.v (.int b)),some (.v (.int k)),some (.v (.bl o))],rfl,[some (.v (.lst (ts.map dT4))),some (.own (.dT kvs2) none),some (.v (.int a)),some (.v (.int b)),some (.v (.int k)),some (.v (.bl o))],?_,kvs2,_,_,_,_,rfl,by omega,hs⟩
   clear g2 hs hJ l1 l2 l3 l4 l5 hM
   cases o with
   | true=>
    simp only[XN] at e1 e2
    simp[dE,ka,uG,e1,e2]
   | false=>
    simp at e1 e2
    simp[dE,ka,uG,e1,e2])
 rw[Xo,Ye,Xs] at hJ
 refine⟨kvs,?_,hJ⟩
 rw[vx]
 have s0:bf 1 (fun _=>some (.dT [])) (aE 6 1 [.v (.lst (ts.map dT4))])=some (.nx [some (.v (.lst (ts.map dT4))),some (.own (.dT []) none),none,none,none,none]):=rfl
 rw[aw s0,aw (gI (ds:=ts.map dT4) rfl e)]
 rfl
theorem JOk.perm {kvs:List (List Key×D)}{us ts:List T4}(h:JOk kvs us)(p:∀ i j,(be i j us).Perm (be i j ts)):JOk kvs ts:=by
 intro i j
 have hp:=p i j
 rw[h i j,lK hp]
 by_cases q:be i j us=[]
 ·rw[q] at hp
  rw[Yf q,Yf hp.symm.eq_nil]
 ·rw[Yh q,Yh fun z=>q (by rw[z] at hp;exact hp.eq_nil)]
theorem xA (C:Addr)(ks:List Str)(ts:List T4)(n:Int)(hn:1≤n∧n≤7)(hk:okK n ks)(hs:okS n ts):∃ kvs,JOk kvs ts∧jr C (.ins C []) [.v (.lst (ks.map .str)),.v (.lst (ts.map dT4))]=some (.ins C (wFs ks (.lst (srt ts)) (.dT kvs)),.non):=by
 have hR:=pq C ks ts n hn hk hs
 have hL:=p_ C
 obtain⟨us,eu,up⟩:=tq (ts.map lf)
 have hd:∀ t∈ts,t.1≠t.2.1:=fun t ht=>(hs.2 t ht).2.2.2.2.1
 obtain⟨kvs,hJ,hO⟩:=vd C us (by rw[up.length_eq,Ye];exact hs.1) (fun t ht=>by
  obtain⟨u,hu,rfl⟩:=Ys.mp (up.mem_iff.mp ht)
  exact (yV (hs.2 u hu)).2.2.2.2.1)
 have hso:=pL (ts.map lf) (by rw[Ye];have:=hs.1;omega)
 refine⟨kvs,hO.perm fun i j=>?_,n_ rfl rfl fun ad=>⟨.nx [some (.own (.ins C (wFs ks (.lst (srt ts)) (.dT kvs))) (some ad)),some (.v (.lst (ks.map .str))),some (.v (.lst (ts.map dT4)))],?_,rfl,rfl⟩⟩
 ·have:=pV (i:=i) (j:=j) up
  rwa [uy i j ts hd] at this
 unfold yT
 generalize kP C=R at hR ⊢
 generalize kZ C=L at hL ⊢
 generalize sR C=J at hJ ⊢
 have hsr:srt ts=us.map dT4:=eu
 rw[hsr]
 have c1:di (setV 0) cJ (am L (aV (getV 0) (fun _=>some []))) [none] (ts.map dT4)=some ((ts.map lf).map dT4):=by
  rw[ZK]
  refine gQ dT4 _ ts fun t _=>⟨[some (.v (dT4 t))],rfl,rfl,?_⟩
  simp[hL]
 have tl:ts.length≤16777216:=by have:=hs.1;omega
 generalize (am L (aV (getV 0) (fun _=>some [])))=E at c1 ⊢
 generalize (ts.map lf).map dT4=X at *
 have hf:∀ fs:List (Str×D),iS C "ties" (.ins C [("kinds",.lst (ks.map .str)),("ties",.lst (us.map dT4))])=some (.lst (us.map dT4)):=by
  intro _
  rw[kG]
  simp[List.lookup,b1]
 have hf':=hf []
 generalize us.map dT4=Y at *
 generalize hX:ts.map dT4=Z at *
 have hZ:Z.length≤16777216:=by rw[← hX,Ye];exact tl
 simp[hR,qX,iC,eR,eU,hZ,c1,hso,eu,hf',hJ,n1,n2,n3,wFs]
theorem xK (C:Addr)(ks:List Str)(ts:List T4)(n:Int)(hn:1≤n∧n≤7)(hk:okK n ks)(hs:okS n ts):∃ kvs,JOk kvs ts∧∀ (g:Dv) (ρ:DF),g ρ=some [.v (.lst (ks.map .str)),.v (.lst (ts.map dT4))]→em C (jr C) g ρ=some (.ins C (wFs ks (.lst (srt ts)) (.dT kvs))):=by
 obtain⟨J,h,e⟩:=xA C ks ts n hn hk hs
 refine⟨J,h,fun g ρ h=>?_⟩
 unfold em
 rw[h,Ya,e]
 rfl
theorem vo (o:Bool):lN (.bl o)=some (.int (if o=true then 1 else 0)):=rfl
theorem b5:(("near":Str) == "kinds")=false:=by decide +kernel
theorem b6:(("near":Str) == "ties")=false:=by decide +kernel
theorem b7:(("near":Str) == "joins")=false:=by decide +kernel
theorem b11:(("joins":Str) == "kinds")=false:=by decide +kernel
theorem b12:(("joins":Str) == "ties")=false:=by decide +kernel
theorem oR (C:Addr)(ks:List Str)(T J:D):iS C "joins" (.ins C (wFs ks T J))=some J:=by
 rw[kG]
 simp[wFs,List.lookup,b11,b12]
theorem ub (ks:List Str)(T J:D):(wFs ks T J).lookup ("near":Str)=none:=by
 simp[wFs,List.lookup,b5,b6,b7]
theorem nO {C:Addr}{ks:List Str}{T J:D}{mn:Str}(h:(wFs ks T J).lookup mn=none)(xs:List DV):kN C mn (.v (.ins C (wFs ks T J))::xs)=true:=by
 show (match (if C=C then some (wFs ks T J) else none) with | some fs=>(fs.lookup mn).isNone | none=>false)=true
 rw[Yf rfl]
 simp only
 rw[h]
 rfl
theorem n4 (C:Addr)(ks:List Str)(T J:D)(n:Int)(hk:(ks.length:Int)=n)(ρ:DF)(h:ρ[0]?=some (some (.v (.ins C (wFs ks T J))))):cq C "size" (lC C) (cI (dL 0) g0) ρ=some (.int n):=by
 have hS:lC C [.v (.ins C (wFs ks T J))]=some (.v (.int n)):=by
  have:=oK C ks T J
  generalize wFs ks T J=F at this
  simp[lC,yx,this,hk]
 have hm:cI (dL 0) g0 ρ=some [.v (.ins C (wFs ks T J))]:=by
  unfold cI dL g0
  rw[h]
  rfl
 unfold cq
 rw[hm,Ya,Yf (nO (tw ks T J) _),hS]
 rfl
def nr (ts:List T4)(n p:Int):List Int:=(aA n).filter fun o=>!decide (be p o ts=[])
theorem tp (C:Addr)(ks:List Str)(T:D)(kvs:List (List Key×D))(ts:List T4)(n p:Int)(hn:1≤n∧n≤7)(hk:(ks.length:Int)=n)(hJ:JOk kvs ts) :
  uh C [.v (.ins C (wFs ks T (.dT kvs))),.v (.int p)]=some (.own (.lst ((nr ts n p).map .int)) none):=by
 have hS:=n4 C ks T (.dT kvs) n hk [some (.v (.ins C (wFs ks T (.dT kvs)))),some (.v (.int p))] rfl
 have hf:=oR C ks T (.dT kvs)
 unfold uh zO
 generalize (cq C "size" (lC C) (cI (dL 0) g0))=Q at hS ⊢
 have hr:=nL hS ⟨by omega,by omega⟩
 have hm:=gf (c:=asB (d2 (lr false) (asT (ah (getV 1) (ah (getV 0) aT))) (d1 (iS C "joins") (ag 2)))) (ρ:=[none,some (.v (.int p)),some (.v (.ins C (wFs ks T (.dT kvs))))]) (fun o=>!decide (be p o ts=[])) (aA n) (fun x _=>by
  have hh:=hJ.has p x
  generalize wFs ks T (.dT kvs)=F at hf
  simp[hf,lr,gy,dQ,eL,hh]) (Nat.zero_lt_succ _)
 have hl:((aA n).map D.int).length≤16777216:=by rw[Ye,aJ];omega
 generalize (asB (d2 (lr false) (asT (ah (getV 1) (ah (getV 0) aT))) (d1 (iS C "joins") (ag 2))))=c at *
 unfold nr
 generalize wFs ks T (.dT kvs)=F at *
 generalize ((aA n).filter fun o=>!decide (be p o ts=[])).map D.int=R at *
 generalize (aA n).map D.int=U at *
 rw[vC]
 show bV (c8 _ [some (.v (.ins C F)),some (.v (.int p))])=_
 simp[eU,hr,hl,hm]
@[simp] theorem yI {f g:Dd}{ρ:DF}:yq f g ρ=match f ρ,g ρ with
 | some (.lst as),some (.lst bs)=>if as.length=bs.length then some (uw as bs) else none
 | some (.tup as),some (.tup bs)=>if as.length=bs.length then some (uw as bs) else none
 | _,_=>none:=rfl
theorem sB (C:Addr)(i:Int):nF C [.v (.int i)]=some (.v (.bl true)):=rfl
theorem ut (ds:List D):iW "list" (.lst ds)=some (.bl true):=rfl
def fA (F xs:List Int):List Int:=xs.foldl (fun F x=>if x∈F then F else F++[x]) F
theorem d9 (F:List Int)(x:Int)(xs:List Int):fA F (x::xs)=fA (if x∈F then F else F++[x]) xs:=rfl
theorem cZ {y:Int}:∀ {xs F:List Int},y∈fA F xs↔y∈F∨y∈xs
 | [],F=>by simp[fA]
 | x::xs,F=>by
  rw[d9,cZ]
  by_cases h:x∈F
  ·rw[Yf h,Yy]
   constructor
   ·rintro (a | a);exact .inl a;exact .inr (.inr a)
   ·rintro (a | rfl | a);exact .inl a;exact .inl h;exact .inr a
  ·rw[Yh h,ZF,YJ,Yy,or_assoc]
theorem gK:∀ {xs F:List Int},F.Nodup→(fA F xs).Nodup
 | [],F,h=>h
 | x::xs,F,h=>by
  rw[d9]
  by_cases q:x∈F
  ·rw[Yf q];exact gK h
  ·rw[Yh q]
   refine gK (XH.mpr ⟨h,by simp,fun a ha b hb=>?_⟩)
   rw[YJ] at hb
   subst hb
   exact fun z=>q (z ▸ ha)
theorem gX:∀ (xs F:List Int),∃ s,fA F xs=F++s
 | [],F=>⟨[],by simp[fA]⟩
 | x::xs,F=>by
  rw[d9]
  obtain⟨s,e⟩:=gX xs (if x∈F then F else F++[x])
  rw[e]
  by_cases q:x∈F
  ·rw[Yf q];exact⟨s,rfl⟩
  ·rw[Yh q];exact⟨x::s,by rw[Zx];rfl⟩
def bfs (nb:Int→List Int):Nat→List Int→Nat→List Int
 | 0,F,_=>F
 | k+1,F,d=>match F[d]? with
  | none=>F
  | some a=>bfs nb k (fA F (nb a)) (d+1)
inductive Rch (nb:Int→List Int) (p:Int):Int→Prop
 | refl:Rch nb p p
 | step {a b:Int}:Rch nb p a→b∈nb a→Rch nb p b
theorem du:∀ {F M:List Int},F.Nodup→(∀ x∈F,x∈M)→F.length≤M.length
 | [],_,_,_=>YI _
 | x::F,M,h,hs=>by
  have hx:=hs x Yc
  have h':=Zo.mp h
  have:=du (F:=F) (M:=M.erase x) h'.2 fun y hy=>(List.mem_erase_of_ne (show y≠x from fun z=>h'.1 (z ▸ hy))).mpr (hs y (Yb _ hy))
  rw[List.length_erase_of_mem hx] at this
  have:=List.length_pos_of_mem hx
  rw[Yj]
  omega
theorem qU {nb:Int→List Int}{k:Nat}{F:List Int}{d:Nat}(h:F[d]?=none):bfs nb (k+1) F d=F:=by
 unfold bfs;rw[h]
theorem q_ {nb:Int→List Int}{k:Nat}{F:List Int}{d:Nat}{a:Int}(h:F[d]?=some a):bfs nb (k+1) F d=bfs nb k (fA F (nb a)) (d+1):=by
 show (match F[d]? with | none=>F | some a=>bfs nb k (fA F (nb a)) (d+1))=_
 rw[h]
theorem sq {nb:Int→List Int}{p:Int}{M:List Int}(hM:∀ a∈M,∀ b∈nb a,b∈M):∀ (k:Nat) (F:List Int) (d:Nat),F.Nodup→(∀ x∈F,x∈M∧Rch nb p x)→(∀ i a,i<d→F[i]?=some a→∀ b∈nb a,b∈F)→M.length<d+k→
  (bfs nb k F d).Nodup∧(∀ x∈F,x∈bfs nb k F d)∧(∀ x∈bfs nb k F d,x∈M∧Rch nb p x)∧∀ a∈bfs nb k F d,∀ b∈nb a,b∈bfs nb k F d
 | 0,F,d,hn,hF,hc,hl=>by
  refine⟨hn,fun _ h=>h,hF,fun a ha b hb=>?_⟩
  obtain⟨i,hi,e⟩:=List.mem_iff_getElem.mp ha
  have le:F.length≤M.length:=du hn fun x hx=>(hF x hx).1
  have hi:i<F.length:=hi
  exact hc i a (by omega) (Yn.mpr ⟨hi,e⟩) b hb
 | k+1,F,d,hn,hF,hc,hl=>by
  cases q:F[d]? with
  | none=>
   rw[qU q]
   refine⟨hn,fun _ h=>h,hF,fun a ha b hb=>?_⟩
   obtain⟨i,hi,e⟩:=List.mem_iff_getElem.mp ha
   have:=List.getElem?_eq_none_iff.mp q
   exact hc i a (by omega) (Yn.mpr ⟨hi,e⟩) b hb
  | some a=>
   rw[q_ q]
   have ha:=YL q
   obtain⟨s,es⟩:=gX (nb a) F
   have key:=sq hM k (fA F (nb a)) (d+1) (gK hn) (fun x hx=>by
    rcases cZ.mp hx with h | h
    ·exact hF x h
    ·exact⟨hM a (hF a ha).1 x h,.step (hF a ha).2 h⟩) (fun i c hi e b hb=>by
    have hd:d<F.length:=(Yn.mp q).1
    rw[es,Zd (by omega)] at e
    by_cases z:i=d
    ·subst z
     rw[q] at e
     cases e
     exact cZ.mpr (.inr hb)
    ·exact cZ.mpr (.inl (hc i c (by omega) e b hb))) (by omega)
   obtain⟨k1,k2,k3,k4⟩:=key
   exact⟨k1,fun x hx=>k2 x (cZ.mpr (.inl hx)),k3,k4⟩
theorem gD {nb:Int→List Int}{p:Int}{M:List Int}(hM:∀ a∈M,∀ b∈nb a,b∈M)(hp:p∈M){k:Nat}(hk:M.length<k):(bfs nb k [p] 0).Nodup∧∀ x,x∈bfs nb k [p] 0↔Rch nb p x:=by
 obtain⟨h1,h2,h3,h4⟩:=sq hM k [p] 0 (by simp) (fun x hx=>by rw[YJ] at hx;subst hx;exact⟨hp,.refl⟩) (fun i a hi=>absurd hi (by omega)) (by omega)
 refine⟨h1,fun x=>⟨fun h=>(h3 x h).2,fun h=>?_⟩⟩
 induction h with
 | refl=>exact h2 p (by simp)
 | step _ hb ih=>exact h4 _ ih _ hb
def knw (F:List Int):List (Key×D):=F.map fun x=>(.inl x,.bl true)
theorem vi (F:List Int)(x:Int):(bC (knw F) (.inl x)).isSome=decide (x∈F):=by
 induction F with
 | nil=>rfl
 | cons y F ih=>
  unfold knw at ih ⊢
  rw[Yv,a8]
  by_cases h:(Sum.inl y:Key)=.inl x
  ·rw[Yf h]
   have:y=x:=XJ h
   subst this
   simp
  ·rw[Yh h,ih]
   have:¬ x=y:=fun z=>h (by rw[z])
   simp[this]
theorem ui (F:List Int)(x:Int)(h:x∉F):cM (knw F) (.inl x) (.bl true)=knw (F++[x]):=by
 unfold cM knw
 rw[Yh,Zz]
 ·rfl
 ·intro z
  obtain⟨kv,h1,h2⟩:=Xt.mp z
  obtain⟨y,hy,rfl⟩:=Ys.mp h1
  have:(Sum.inl y:Key)=.inl x:=Zw h2
  exact h (XJ this ▸ hy)
theorem fr {st:Dq}{body:Dw}{d:D}{ds:List D}{ρ ρ1 ρ2:DF}(h:st d ρ=some ρ1)(hb:body ρ1=some (.nx ρ2)):cW st body (d::ds) ρ=cW st body ds ρ2:=by
 rw[cW]
 simp only[h,hb]
theorem i9 {c:Dk}{body:Dw}{k:Nat}{ρ:DF}(h:c ρ=some false):bi c body (k+1) ρ=some (.nx ρ):=by
 rw[bi]
 simp only[h]
theorem i6 {c:Dk}{body:Dw}{k:Nat}{ρ ρ':DF}(h:c ρ=some true)(hb:body ρ=some (.nx ρ')):bi c body (k+1) ρ=bi c body k ρ':=by
 rw[bi]
 simp only[h,hb]
abbrev rF (S:D)(a0:Addr)(v0:V)(dc:D)(F:List Int)(d:Nat)(x6 x7:Option DV):DF:=[some (.v S),some (.v (.fn a0 v0 dc)),some (.v .non),some (.own (.lst (F.map .int)) none),some (.own (.dK (knw F)) none),some (.v (.int d)),x6,x7]
theorem sN {S:D}{a0:Addr}{v0:V}{dc:D}{d:Nat}{x6:Option DV}:∀ (xs F:List Int) (x7:Option DV),F.length+xs.length≤1000→∃ y7,
  cW (setV 7) (dIf (asB (d2 fV (getV 7) (ag 4))) (ai (fM 4 (getV 7) (fun _=>some (.bl true)))
  (cU 3 (getV 7))) dNx) (xs.map .int) (rF S a0 v0 dc F d x6 x7)=some (.nx (rF S a0 v0 dc (fA F xs) d x6 y7))
 | [],F,x7,_=>⟨x7,rfl⟩
 | x::xs,F,x7,hl=>by
  rw[d9]
  rw[Yj] at hl
  have hg:(bC (knw F) (.inl x)).isSome=decide (x∈F):=vi F x
  have l1:(knw F).length<16777216:=by unfold knw;rw[Ye];omega
  have l2:(F.map D.int).length<16777216:=by rw[Ye];omega
  by_cases h:x∈F
  ·obtain⟨y7,e⟩:=sN xs F (some (.v (.int x))) (by omega)
   refine⟨y7,?_⟩
   rw[Yf h,← e]
   rw[YU h] at hg
   obtain⟨w,hw⟩:=ZH.mp hg
   rw[Yv]
   refine fr (ρ1:=rF S a0 v0 dc F d x6 (some (.v (.int x)))) rfl ?_
   unfold rF
   generalize knw F=K at *
   simp[fV,eL,hw]
  ·obtain⟨y7,e⟩:=sN xs (F++[x]) (some (.v (.int x))) (by rw[Ym];simp;omega)
   refine⟨y7,?_⟩
   rw[Yh h,← e]
   rw[Yx h,Option.isSome_eq_false_iff,Option.isNone_iff_eq_none] at hg
   rw[Yv]
   refine fr (ρ1:=rF S a0 v0 dc F d x6 (some (.v (.int x)))) rfl ?_
   have hp:=ui F x h
   have ha:(F++[x]).map D.int=F.map D.int++[D.int x]:=by simp
   unfold rF
   rw[ha,← hp]
   generalize knw F=K at *
   generalize F.map D.int=U at *
   simp[fV,eL,hg,fM,l1,l2]
theorem sC {C:Addr}{S:D}{a0:Addr}{v0:V}{dc:D}{nb:Int→List Int}{M:List Int}(hM:∀ a∈M,∀ b∈nb a,b∈M)(m7:M.length≤7)(n7:∀ a∈M,(nb a).length≤7)(hnb:∀ a∈M,eW C [some (.v (.int a)),some (.v dc)]=some (.lst ((nb a).map .int))):∀ (k:Nat) (F:List Int) (d:Nat) (x6 x7:Option DV),F.Nodup→(∀ x∈F,x∈M)→d≤F.length→M.length<d+k→∃ d' y6 y7,
  bi (dS (asB (d2 ltd (ak 5) (d1 aY (ak 3)))) (orT (rO 2) (asB (d2 leI (d1 aY (ak 3)) (ag 2))))) (ai (aS 6 (d2 ixD (ag 3) (ag 5)))
  (ai (bQ (el (g8 1 a0 v0 (eW C) (getV 6))) (setV 7) (dIf (asB (d2 fV (getV 7) (ag 4))) (ai (fM 4 (getV 7) (fun _=>some (.bl true)))
  (cU 3 (getV 7))) dNx))
  (uV 5 (fun _=>some (.int 1))))) k (rF S a0 v0 dc F d x6 x7)=some (.nx (rF S a0 v0 dc (bfs nb k F d) d' y6 y7))
 | 0,F,d,x6,x7,hn,hF,hd,hl=>by have:=du hn hF;omega
 | k+1,F,d,x6,x7,hn,hF,hd,hl=>by
  have len:=du hn hF
  have hc:∀ b,decide (d<F.length)=b→(dS (asB (d2 ltd (ak 5) (d1 aY (ak 3)))) (orT (rO 2) (asB (d2 leI (d1 aY (ak 3)) (ag 2))))) (rF S a0 v0 dc F d x6 x7)=some b:=fun b hb=>by
   have e:asB (d2 ltd (ak 5) (d1 aY (ak 3))) (rF S a0 v0 dc F d x6 x7)=some b:=by
    rw[← hb]
    unfold rF
    simp
   unfold dS
   rw[e]
   cases b with
   | false=>rfl
   | true=>rfl
  cases q:F[d]? with
  | none=>
   have:=List.getElem?_eq_none_iff.mp q
   rw[qU q]
   exact⟨d,x6,x7,i9 (hc false (Yx (by omega)))⟩
  | some a=>
   have lt:=(Yn.mp q).1
   have aM:=hF a (YL q)
   rw[q_ q]
   obtain⟨y7,e⟩:=sN (S:=S) (a0:=a0) (v0:=v0) (dc:=dc) (d:=d) (x6:=some (.v (.int a))) (nb a) F x7 (by have:=n7 a aM;omega)
   obtain⟨d',z6,z7,e2⟩:=sC (S:=S) (a0:=a0) (v0:=v0) hM m7 n7 hnb k (fA F (nb a)) (d+1) (some (.v (.int a))) y7 (gK hn) (fun x hx=>by
    rcases cZ.mp hx with h | h
    ·exact hF x h
    ·exact hM a aM x h) (by obtain⟨s,es⟩:=gX (nb a) F;rw[es,Ym];omega) (by omega)
   refine⟨d',z6,z7,?_⟩
   rw[← e2]
   refine i6 (hc true (YU lt)) ?_
   have i0:ixD (.lst (F.map .int)) (.int d)=some (.int a):=by
    show atI (F.map D.int) (d:Int)=_
    exact gN (by rw[YF,q];rfl)
   rw[aw (ρ':=rF S a0 v0 dc F d (some (.v (.int a))) x7) (by
    unfold rF
    generalize knw F=K at *
    generalize F.map D.int=U at *
    simp[i0,dvD])]
   rw[aw (ρ':=rF S a0 v0 dc (fA F (nb a)) d (some (.v (.int a))) y7) (by
    rw[← e]
    unfold bQ
    have hi:el (g8 1 a0 v0 (eW C) (getV 6)) (rF S a0 v0 dc F d (some (.v (.int a))) x7)=some ((nb a).map .int):=by
     have:g8 1 a0 v0 (eW C) (getV 6) (rF S a0 v0 dc F d (some (.v (.int a))) x7)=some (.lst ((nb a).map .int)):=by
      unfold g8
      exact (Yf ⟨rfl,rfl⟩).trans (hnb a aM)
     unfold el
     rw[this]
    rw[hi]
    rfl)]
   rfl
theorem yj {C:Addr}{dc:D}{nb:Int→List Int}{M:List Int}{p:Int}(hM:∀ a∈M,∀ b∈nb a,b∈M)(m7:M.length≤7)(n7:∀ a∈M,(nb a).length≤7)(hnb:∀ a∈M,eW C [some (.v (.int a)),some (.v dc)]=some (.lst ((nb a).map .int)))(hp:p∈M) :
  c9 8 (g_q21 C) dc (.lst [.int p])=some ((bfs nb 10 [p] 0).map .int):=oX fun a0 v0=>by
 obtain⟨d',y6,y7,e⟩:=sC (S:=.lst [.int p]) (a0:=a0) (v0:=v0) hM m7 n7 hnb 10 [p] 0 none none (by simp) (fun x hx=>by rw[YJ] at hx;subst hx;exact hp) (by simp) (by omega)
 show bV (g_q21 C a0 v0 dc [some (.v (.lst [.int p])),some (.v (.fn a0 v0 dc)),some (.v .non),none,none,none,none,none])=_
 unfold g_q21
 rw[aw (ρ':=[some (.v (.lst [.int p])),some (.v (.fn a0 v0 dc)),some (.v .non),some (.own (.lst [.int p]) none),none,none,none,none]) rfl]
 rw[aw (ρ':=[some (.v (.lst [.int p])),some (.v (.fn a0 v0 dc)),some (.v .non),some (.own (.lst [.int p]) none),some (.own (.dK (knw [p])) none),none,none,none]) rfl]
 rw[aw (ρ':=rF (.lst [.int p]) a0 v0 dc [p] 0 none none) rfl]
 rw[aw e]
 rfl
theorem jK {i j:Int}:∀ {ts:List T4},be i j ts≠[]↔∃ t∈ts,(t.1=i∧t.2.1=j)∨(t.2.1=i∧t.1=j)
 | []=>by simp[be]
 | t::ts=>by
  have e:be i j (t::ts)=prs i j t++be i j ts:=rfl
  have q:prs i j t≠[]↔(t.1=i∧t.2.1=j)∨(t.2.1=i∧t.1=j):=by
   unfold prs
   by_cases h1:t.1=i∧t.2.1=j
   ·simp[h1]
   ·by_cases h2:t.2.1=i∧t.1=j
    ·rw[Yh h1,Yf h2];simp[h2]
    ·rw[Yh h1,Yh h2];simp[h1,h2]
  rw[e]
  constructor
  ·intro h
   by_cases z:prs i j t=[]
   ·rw[z,List.nil_append] at h
    obtain⟨u,hu,hh⟩:=jK.mp h
    exact⟨u,Yb _ hu,hh⟩
   ·exact⟨t,Yc,q.mp z⟩
  ·rintro⟨u,hu,hh⟩ z
   obtain⟨z1,z2⟩:=List.append_eq_nil_iff.mp z
   rcases Yy.mp hu with rfl | hu
   ·exact q.mpr hh z1
   ·exact jK.mpr ⟨u,hu,hh⟩ z2
theorem iK {ts:List T4}{n a b:Int}:b∈nr ts n a↔b∈aA n∧∃ t∈ts,(t.1=a∧t.2.1=b)∨(t.2.1=a∧t.1=b):=by
 unfold nr
 rw[YS,← jK]
 simp
theorem vk {ts:List T4}{n a b:Int}(ha:a∈aA n)(h:b∈nr ts n a):a∈nr ts n b:=by
 obtain⟨_,t,ht,hh⟩:=iK.mp h
 exact iK.mpr ⟨ha,t,ht,hh.elim (fun z=>.inr ⟨z.2,z.1⟩) fun z=>.inl ⟨z.2,z.1⟩⟩
theorem jB {ts:List T4}{n:Int}:∀ a∈aA n,∀ b∈nr ts n a,b∈aA n:=fun _ _ _ h=>(iK.mp h).1
theorem Rch.inn {ts:List T4}{n p x:Int}(hp:p∈aA n)(h:Rch (nr ts n) p x):x∈aA n:=by
 induction h with
 | refl=>exact hp
 | step _ hb ih=>exact jB _ ih _ hb
theorem Rch.trans {nb:Int→List Int}{p q x:Int}(h1:Rch nb p q)(h2:Rch nb q x):Rch nb p x:=by
 induction h2 with
 | refl=>exact h1
 | step _ hb ih=>exact .step ih hb
theorem Rch.symm {ts:List T4}{n p x:Int}(hp:p∈aA n)(h:Rch (nr ts n) p x):Rch (nr ts n) x p:=by
 induction h with
 | refl=>exact .refl
 | step h hb ih=>exact Rch.trans (.step .refl (vk (h.inn hp) hb)) ih
def cls (ts:List T4)(n p:Int):List Int:=(aA n).filter fun x=>decide (x∈bfs (nr ts n) 10 [p] 0)
theorem kA {n:Int}(hn:n≤7):(aA n).length<10:=by rw[aJ];omega
theorem bY {ts:List T4}{n p x:Int}(hn:n≤7)(hp:p∈aA n):x∈cls ts n p↔Rch (nr ts n) p x:=by
 unfold cls
 rw[YS,YC,(gD jB hp (kA hn)).2]
 exact⟨fun h=>h.2,fun h=>⟨h.inn hp,h⟩⟩
theorem j8 (n:Int):(aA n).Pairwise (· < ·):=by
 unfold aA
 rw[Xk]
 exact List.pairwise_lt_range.imp fun h=>by omega
theorem me (ts:List T4)(n p:Int):(cls ts n p).Pairwise (· < ·):=(j8 n).filter _
theorem qu (ts:List T4)(n p:Int):(cls ts n p).Nodup:=(me ts n p).imp fun h=>by omega
theorem oo (ts:List T4){n:Int}(hn:n≤7)(p:Int):(cls ts n p).length≤7:=by
 have:(cls ts n p).length≤(aA n).length:=Xp _ _
 rw[aJ] at this
 omega
theorem lg {ts:List T4}{n p q:Int}(hn:n≤7)(hp:p∈aA n)(hq:q∈aA n):cls ts n p=cls ts n q↔Rch (nr ts n) p q:=by
 constructor
 ·intro h
  exact (bY hn hp).mp (h ▸ (bY hn hq).mpr .refl)
 ·intro h
  unfold cls
  refine List.filter_congr fun x hx=>?_
  rw[decide_eq_decide,(gD jB hp (kA hn)).2,(gD jB hq (kA hn)).2]
  exact⟨fun z=>(h.symm hp).trans z,fun z=>h.trans z⟩
def led (ts:List T4)(n p:Int):Bool:=(aA p).all fun q=>!decide (q∈cls ts n p)
theorem gB {ts:List T4}{n p:Int}(hn:n≤7)(hp:p∈aA n):led ts n p=true↔∀ q,0≤q→q<p→¬ Rch (nr ts n) p q:=by
 unfold led
 rw[Yz]
 constructor
 ·intro h q h0 h1 z
  have:=h q (aO.mpr ⟨h0,h1⟩)
  rw[XI,Zj,bY hn hp] at this
  exact this z
 ·intro h q hq
  obtain⟨h0,h1⟩:=aO.mp hq
  rw[XI,Zj,bY hn hp]
  exact h q h0 h1
theorem qY {ts:List T4}{n p:Int}(hn:n≤7)(hp:p∈aA n)(h:led ts n p=true):∃ r,cls ts n p=p::r:=by
 have hm:=(bY (ts:=ts) hn hp).mpr .refl
 have pw:=me ts n p
 have ge:∀ x∈cls ts n p,p≤x:=fun x hx=>by
  have hR:=(bY hn hp).mp hx
  have:=aO.mp (hR.inn hp)
  by_cases q:x<p
  ·exact absurd hR ((gB hn hp).mp h x this.1 q)
  ·omega
 cases e:cls ts n p with
 | nil=>rw[e] at hm;cases hm
 | cons y r=>
  rw[e] at hm pw ge
  rcases Yy.mp hm with rfl | z
  ·exact⟨r,rfl⟩
  ·have:=(Zk.mp pw).1 p z
   have:=ge y Yc
   omega
theorem gC {ts:List T4}{n:Int}(hn:n≤7):∀ (k:Nat) (p:Int),p.toNat≤k→p∈aA n→∃ q,0≤q∧q≤p∧led ts n q=true∧Rch (nr ts n) q p
 | k,p,hk,hp=>by
  cases z:led ts n p with
  | true=>exact⟨p,(aO.mp hp).1,Int.le_refl _,z,.refl⟩
  | false=>
   have:¬ ∀ q,0≤q→q<p→¬ Rch (nr ts n) p q:=fun h=>by
    rw[(gB hn hp).mpr h] at z
    cases z
   have:∃ q,0≤q∧q<p∧Rch (nr ts n) p q:=Classical.byContradiction fun w=>this fun q h0 h1 r=>w ⟨q,h0,h1,r⟩
   obtain⟨q,h0,h1,hr⟩:=this
   have hq:=hr.inn hp
   cases k with
   | zero=>omega
   | succ k=>
    obtain⟨r,r0,r1,r2,r3⟩:=gC hn k q (by omega) hq
    exact⟨r,r0,by omega,r2,r3.trans (hr.symm hp)⟩
def bu (ts:List T4)(n k:Int):List Int:=(aA k).filter (led ts n)
theorem lQ {ts:List T4}{n p:Int}(hn:n≤7)(hp:p∈aA n):(∃ q∈bu ts n p,cls ts n q=cls ts n p)↔led ts n p=false:=by
 have hpn:=aO.mp hp
 constructor
 ·rintro⟨q,hq,e⟩
  obtain⟨h1,h2⟩:=YS.mp hq
  have h3:=aO.mp h1
  have hqn:q∈aA n:=aO.mpr ⟨h3.1,by omega⟩
  have hr:=(lg hn hqn hp).mp e
  cases z:led ts n p with
  | false=>rfl
  | true=>exact absurd (hr.symm hqn) ((gB hn hp).mp z q h3.1 h3.2)
 ·intro z
  obtain⟨q,h0,h1,h2,h3⟩:=gC hn p.toNat p (Yi _) hp
  have ne:q≠p:=fun w=>by subst w;rw[z] at h2;cases h2
  have hqn:q∈aA n:=aO.mpr ⟨h0,by omega⟩
  exact⟨q,YS.mpr ⟨aO.mpr ⟨h0,by omega⟩,h2⟩,(lg hn hqn hp).mpr h3⟩
theorem lO {ts:List T4}{n:Int}(hn:n≤7):((bu ts n n).flatMap (cls ts n)).Perm (aA n):=by
 refine (List.perm_ext_iff_of_nodup ?_ (iB n)).mpr fun x=>?_
 ·unfold List.Nodup
  rw[List.pairwise_flatMap]
  refine⟨fun a _=>qu ts n a,?_⟩
  have pw:(bu ts n n).Pairwise (· < ·):=(j8 n).filter _
  refine pw.imp_of_mem fun {a b} ha hb ab x hx y hy e=>?_
  subst e
  obtain⟨a1,a2⟩:=YS.mp ha
  obtain⟨b1,b2⟩:=YS.mp hb
  have hxa:=(bY hn a1).mp hx
  have hxb:=(bY hn b1).mp hy
  exact (gB hn b1).mp b2 a (aO.mp a1).1 ab (hxb.trans (hxa.symm a1))
 ·rw[List.mem_flatMap]
  constructor
  ·rintro⟨a,ha,hx⟩
   exact ((bY hn (YS.mp ha).1).mp hx).inn (YS.mp ha).1
  ·intro hx
   obtain⟨q,h0,h1,h2,h3⟩:=gC (ts:=ts) hn x.toNat x (Yi _) hx
   have hqn:q∈aA n:=aO.mpr ⟨h0,by have:=aO.mp hx;omega⟩
   exact⟨q,YS.mpr ⟨hqn,h2⟩,(bY hn hqn).mpr h3⟩
theorem wg (r:List Int):Cmps 28 (r.map .int):=
 ⟨fun x hx=>by obtain⟨t,_,rfl⟩:=Ys.mp hx;rfl,fun x hx y hy=>by obtain⟨t,_,rfl⟩:=Ys.mp hx;obtain⟨u,_,rfl⟩:=Ys.mp hy;rfl⟩
theorem jF {as bs:List Int}(hp:as.Perm bs)(h:as.Pairwise (· < ·)):bg (bs.map .int)=as.map .int:=by
 refine (eE (hp.map _) (wg bs) ?_).symm
 rw[Xk]
 exact h.imp fun {a b} hab=>by
  show decide (b<a)=false
  exact Yx (by omega)
theorem lq {ts:List T4}{n p:Int}{L:List Int}(hn:n≤7)(hp:p∈aA n)(hd:L.Nodup)(h:∀ x,x∈L↔Rch (nr ts n) p x):bg (L.map .int)=(cls ts n p).map .int:=
 jF ((List.perm_ext_iff_of_nodup (qu ts n p) hd).mpr fun x=>by rw[bY hn hp,h]) (me ts n p)
theorem vh (C:Addr)(ks:List Str)(T:D)(kvs:List (List Key×D))(ts:List T4)(n a:Int)(hn:1≤n∧n≤7)(hk:(ks.length:Int)=n)(hJ:JOk kvs ts) :
  eW C [some (.v (.int a)),some (.v (.ins C (wFs ks T (.dT kvs))))]=some (.lst ((nr ts n a).map .int)):=by
 have h:=tp C ks T kvs ts n a hn hk hJ
 have hm:cI (dL 1) (aV (getV 0) (fun _=>some [])) [some (.v (.int a)),some (.v (.ins C (wFs ks T (.dT kvs))))]=some [.v (.ins C (wFs ks T (.dT kvs))),.v (.int a)]:=rfl
 unfold eW cq
 rw[hm,Ya,Yf (nO (ub ks T (.dT kvs)) _),h]
 rfl
theorem xP {ts:List T4}{n:Int}(hn:n≤7)(a:Int):(nr ts n a).length≤7:=by
 have:(nr ts n a).length≤(aA n).length:=Xp _ _
 rw[aJ] at this
 omega
theorem nY (a b:List Int):eqd (.lst (a.map .int)) (.lst (b.map .int))=decide (a=b):=by
 by_cases h:a=b
 ·rw[h,YU rfl]
  exact sx D.int (fun _ _=>rfl) b
 ·rw[Yx h]
  cases q:eqd (.lst (a.map .int)) (.lst (b.map .int)) with
  | false=>rfl
  | true=>exact absurd (kR ((fu _ _ (kW a b)).mp q)) h
theorem vJ (n:Nat)(r:List Int):okN (n+1) (.lst (r.map .int))=true:=by
 show (r.map D.int).all (okN n)=true
 rw[Yz]
 intro x hx
 obtain⟨t,_,rfl⟩:=Ys.mp hx
 cases n <;> rfl
def cu (ts:List T4)(n p:Int):List D:=(cls ts n p).map .int
def dD (ts:List T4)(n k:Int):List (List D):=(bu ts n k).map (cu ts n)
theorem vF (ts:List T4)(n k:Int):OD.d (.lst2 (dD ts n k))=.lst ((bu ts n k).map fun p=>.lst (cu ts n p)):=by
 show D.lst ((dD ts n k).map D.lst)=_
 unfold dD
 rw[ZK]
 rfl
theorem xg {ts:List T4}{n p:Int}(hn:n≤7)(hp:p∈aA n):de (.lst (cu ts n p)) (OD.d (.lst2 (dD ts n p)))=some (.bl (led ts n p)):=by
 rw[vF]
 unfold de
 show (if (okN 30 (.lst (cu ts n p))&&((bu ts n p).map fun p=>D.lst (cu ts n p)).all (okN 29))=true then some (D.bl (!((bu ts n p).map fun p=>D.lst (cu ts n p)).any fun z=>eqd z (.lst (cu ts n p)))) else none)=_
 rw[Yf]
 ·congr 2
  have key:=lQ (ts:=ts) hn hp
  cases z:led ts n p with
  | true=>
   rw[XI,Bool.eq_false_iff]
   intro w
   obtain⟨d,hd,e⟩:=Xt.mp w
   obtain⟨q,hq,rfl⟩:=Ys.mp hd
   have e':cls ts n q=cls ts n p:=Zw ((nY _ _).symm.trans e)
   rw[key.mp ⟨q,hq,e'⟩] at z
   cases z
  | false=>
   obtain⟨q,hq,e⟩:=key.mpr z
   rw[Bool.not_eq_false']
   exact Xt.mpr ⟨_,Ys.mpr ⟨q,hq,rfl⟩,(nY _ _).trans (YU e)⟩
 ·rw[Yq]
  refine⟨vJ 29 _,Yz.mpr fun d hd=>?_⟩
  obtain⟨q,hq,rfl⟩:=Ys.mp hd
  exact vJ 28 _
theorem qe (j:Nat):aA ((j+1:Nat):Int)=aA (j:Int)++[(j:Int)]:=by
 unfold aA
 rw[Int.toNat_natCast,Int.toNat_natCast,List.range_succ,Zz]
 rfl
theorem pZ (ts:List T4)(n:Int)(j:Nat):bu ts n ((j+1:Nat):Int)=if led ts n j=true then bu ts n j++[(j:Int)] else bu ts n j:=by
 unfold bu
 rw[qe,List.filter_append]
 cases h:led ts n j <;> simp[h]
theorem iG (ts:List T4){n k:Int}(hk:k≤7):(bu ts n k).length≤7:=by
 have:(bu ts n k).length≤(aA k).length:=Xp _ _
 rw[aJ] at this
 omega
theorem sL (C:Addr)(ks:List Str)(T:D)(kvs:List (List Key×D))(ts:List T4)(n:Int)(hn:1≤n∧n≤7)(hk:(ks.length:Int)=n)(hJ:JOk kvs ts) :
  fC C [.v (.ins C (wFs ks T (.dT kvs)))]=some (.own (.lst2 (dD ts n n)) none):=by
 have hS:=fun x1 x2 x3=>n4 C ks T (.dT kvs) n hk [some (.v (.ins C (wFs ks T (.dT kvs)))),x1,x2,x3] rfl
 have hR:∀ p∈aA n,c9 8 (g_q21 C) (.ins C (wFs ks T (.dT kvs))) (.lst [.int p])=some ((bfs (nr ts n) 10 [p] 0).map .int):=fun p hp=>
  yj jB (by rw[aJ];omega) (fun a _=>xP hn.2 a) (fun a _=>vh C ks T kvs ts n a hn hk hJ) hp
 rw[show fC C [.v (.ins C (wFs ks T (.dT kvs)))]=bV (g_q19 C [some (.v (.ins C (wFs ks T (.dT kvs)))),none,none,none]) from rfl]
 unfold g_q19
 generalize g_q21 C=gR at *
 generalize (cq C "size" (lC C) (cI (dL 0) g0))=Q at *
 generalize D.ins C (wFs ks T (.dT kvs))=W at *
 rw[aw (ρ':=[some (.v W),some (.own (.lst2 []) none),none,none]) rfl]
 obtain⟨ρ',e,x2,x3,rfl⟩:=fq (st:=setV 2) (body:=(ai (gZ 3 0 8 gR (asO (asL (ah (getV 2) aT))))
  (dIf (c6 3 (c6 1 (asB (d2 de (ak 3) (ak 1))))) (j_ 1 3) dNx))) (fun j ρ=>∃ x2 x3,ρ=[some (.v W),some (.own (.lst2 (dD ts n j)) none),x2,x3]) ((aA n).map .int) 0 [some (.v W),some (.own (.lst2 []) none),none,none] ⟨none,none,rfl⟩ (by
  rintro j d _ hj ⟨x2,x3,rfl⟩
  have hd:=nN hj
  subst hd
  rw[Xo]
  have hj':=(Yn.mp hj).1
  rw[Ye,aJ] at hj'
  have hp:(j:Int)∈aA n:=aO.mpr ⟨by omega,by omega⟩
  refine⟨[some (.v W),some (.own (.lst2 (dD ts n j)) none),some (.v (.int j)),x3],rfl,?_⟩
  obtain⟨b1,b2⟩:=gD (jB (ts:=ts)) hp (kA (n:=n) hn.2)
  have bl:(bfs (nr ts n) 10 [(j:Int)] 0).length≤7:=by
   have:=du b1 fun x hx=>((b2 x).mp hx).inn hp
   rw[aJ] at this
   omega
  rw[aw (ρ':=[some (.v W),some (.own (.lst2 (dD ts n j)) none),some (.v (.int j)),some (.own (.lst (cu ts n j)) none)]) (by
   unfold gZ
   show (c9 8 gR W (.lst [.int (j:Int)])).bind _=_
   rw[hR j hp,Ya,Yf (e7 _ (by omega)),lq hn.2 hp b1 b2]
   rfl)]
  have ht:c6 3 (c6 1 (asB (d2 de (ak 3) (ak 1)))) [some (.v W),some (.own (.lst2 (dD ts n j)) none),some (.v (.int j)),some (.own (.lst (cu ts n j)) none)]=some (led ts n j):=by
   show asB (d2 de (ak 3) (ak 1)) [some (.v W),some (.v (OD.d (.lst2 (dD ts n j)))),some (.v (.int j)),some (.v (.lst (cu ts n j)))]=_
   have:=xg (ts:=ts) hn.2 hp
   generalize OD.d (.lst2 (dD ts n j))=U at *
   simp[this]
  rw[eI,ht,Ya]
  have hl:=pZ ts n j
  cases z:led ts n j with
  | false=>
   rw[z,Yh (by decide)] at hl
   refine⟨_,Yh (by decide),some (.v (.int j)),some (.own (.lst (cu ts n j)) none),?_⟩
   unfold dD
   rw[hl]
  | true=>
   rw[z,Yf rfl] at hl
   rw[Yf rfl]
   have le:(dD ts n j).length<16777216:=by
    have:=iG ts (n:=n) (k:=j) (by omega)
    unfold dD
    rw[Ye]
    omega
   refine⟨[some (.v W),some (.own (.lst2 (dD ts n j++[cu ts n j])) none),some (.v (.int j)),none],?_,some (.v (.int j)),none,?_⟩
   ·exact Yf le
   ·unfold dD
    rw[hl,Zz]
    rfl)
 rw[Xo,Ye,aJ,show ((n.toNat:Nat):Int)=n by omega] at e
 have hr:=nL (hS (some (.own (.lst2 []) none)) none none) ⟨by omega,by omega⟩
 rw[aw (by unfold bQ;rw[hr];exact e)]
 rfl
abbrev cF (TS:D)(s:Int)(M:List Int)(g:Bool)(x4 x5 x6 x7:Option DV):DF:=[some (.v TS),some (.v (.int s)),some (.own (.lst (M.map .int)) none),some (.v (.bl g)),x4,x5,x6,x7]
def Met (ts:List T4)(n s:Int)(M:List Int):Prop:=M.Nodup∧∀ x∈M,Rch (nr ts n) s x
theorem yA (x:Int)(M:List Int):inD (.int x) (.lst (M.map .int))=some (.bl (decide (x∈M))):=by
 unfold inD
 show (if (okN 30 (.int x)&&(M.map D.int).all (okN 29))=true then some (D.bl ((M.map D.int).any fun z=>eqd z (.int x))) else none)=_
 rw[Yf]
 ·congr 2
  rw[Bool.eq_iff_iff,Xt,YC]
  constructor
  ·rintro⟨d,hd,e⟩
   obtain⟨y,hy,rfl⟩:=Ys.mp hd
   have:=(cm (.int y) (.int x) rfl).mp e
   cases this
   exact hy
  ·intro h
   exact⟨.int x,Ys.mpr ⟨x,h,rfl⟩,(cm (.int x) (.int x) rfl).mpr rfl⟩
 ·rw[Yq]
  refine⟨rfl,Yz.mpr fun d hd=>?_⟩
  obtain⟨y,hy,rfl⟩:=Ys.mp hd
  rfl
theorem qH {TS:D}{ts:List T4}{n s:Int}(hn:n≤7)(hs:s∈aA n)(hok:∀ t∈ts,okT n t):∀ (us:List T4) (M:List Int) (g:Bool) (x4 x5 x6 x7:Option DV),(∀ t∈us,t∈ts)→Met ts n s M→∃ M' g' y4 y5 y6 y7,
  cW (d_ [4,5,6,7]) (dIf (asB (d2 neD (d2 inD (ak 4) (ak 2)) (d2 inD (ak 5) (ak 2)))) (ai (cU 2 (d2 ixD (asO (asL (ah (getV 4) (ah (getV 5) aT)))) (d1 lN (d2 inD (ak 4) (ak 2)))))
  (aS 3 (fun _=>some (.bl true)))) dNx) (us.map dT4) (cF TS s M g x4 x5 x6 x7)=some (.nx (cF TS s M' g' y4 y5 y6 y7))∧Met ts n s M'∧(∀ x∈M,x∈M')∧M.length≤M'.length ∧
  (g'=false→M'=M∧g=false∧∀ t∈us,(t.1∈M↔t.2.1∈M))∧(g'=true→g=true∨M.length<M'.length)
 | [],M,g,x4,x5,x6,x7,_,hM=>⟨M,g,x4,x5,x6,x7,rfl,hM,fun _ h=>h,Yi _,fun h=>⟨rfl,h,fun _ h=>by cases h⟩,fun h=>.inl h⟩
 | t::us,M,g,x4,x5,x6,x7,hu,hM=>by
  obtain⟨t0,t1,t2,t3,t4,_⟩:=hok t (hu t Yc)
  have m7:M.length≤7:=by
   have:=du hM.1 fun x hx=>(hM.2 x hx).inn hs
   rw[aJ] at this
   omega
  have lM:(M.map D.int).length<16777216:=by rw[Ye];omega
  have i4:=yA t.1 M
  have i5:=yA t.2.1 M
  have st:d_ [4,5,6,7] (dT4 t) (cF TS s M g x4 x5 x6 x7)=some (cF TS s M g (some (.v (.int t.1))) (some (.v (.int t.2.1))) (some (.v (.int t.2.2.1))) (some (.v (.bl t.2.2.2)))):=rfl
  have ht:asB (d2 neD (d2 inD (ak 4) (ak 2)) (d2 inD (ak 5) (ak 2))) (cF TS s M g (some (.v (.int t.1))) (some (.v (.int t.2.1))) (some (.v (.int t.2.2.1))) (some (.v (.bl t.2.2.2))))=some (!decide (decide (t.1∈M)=decide (t.2.1∈M))):=by
   unfold cF
   generalize M.map D.int=U at *
   have:∀ a b:Bool,neD (.bl a) (.bl b)=some (.bl (!decide (a=b))):=fun a b=>by cases a <;> cases b <;> rfl
   simp[i4,i5,this]
  rw[Yv]
  by_cases z:(t.1∈M)=(t.2.1∈M)
  ·obtain⟨M',g',y4,y5,y6,y7,e,h1,h2,h3,h4,h5⟩:=qH (TS:=TS) hn hs hok us M g (some (.v (.int t.1))) (some (.v (.int t.2.1))) (some (.v (.int t.2.2.1))) (some (.v (.bl t.2.2.2))) (fun t ht=>hu t (Yb _ ht)) hM
   refine⟨M',g',y4,y5,y6,y7,?_,h1,h2,h3,fun h=>?_,h5⟩
   ·rw[← e]
    refine fr st ?_
    rw[eI,ht,Ya,Yh]
    ·rfl
    ·simp[z]
   ·obtain⟨a,b,c⟩:=h4 h
    refine⟨a,b,fun u hu=>?_⟩
    rcases Yy.mp hu with rfl | hu
    ·rw[z]
    ·exact c u hu
  ·have nb:∀ a b:Int,(t.1=a∧t.2.1=b)∨(t.2.1=a∧t.1=b)→a∈M→b∈aA n→Rch (nr ts n) s b:=fun a b h ha hb=>.step (hM.2 a ha) (iK.mpr ⟨hb,t,hu t Yc,h⟩)
   have key:∃ y:Int,y∉M∧Rch (nr ts n) s y∧ixD (.lst [.int t.1,.int t.2.1]) (.int (if t.1∈M then 1 else 0))=some (.int y):=by
    by_cases w:t.1∈M
    ·refine⟨t.2.1,fun v=>z (by simp[w,v]),nb t.1 t.2.1 (.inl ⟨rfl,rfl⟩) w (aO.mpr ⟨t2,t3⟩),?_⟩
     rw[Yf w]
     rfl
    ·have v:t.2.1∈M:=Classical.byContradiction fun v=>z (by simp[w,v])
     refine⟨t.1,w,nb t.2.1 t.1 (.inr ⟨rfl,rfl⟩) v (aO.mpr ⟨t0,t1⟩),?_⟩
     rw[Yh w]
     rfl
   obtain⟨y,hy,hr,hix⟩:=key
   have hM2:Met ts n s (M++[y]):=⟨XH.mpr ⟨hM.1,by simp,fun a ha b hb=>by rw[YJ] at hb;subst hb;exact fun q=>hy (q ▸ ha)⟩,fun x hx=>by
    rcases ZF.mp hx with h | h
    ·exact hM.2 x h
    ·rw[YJ] at h;subst h;exact hr⟩
   obtain⟨M',g',y4,y5,y6,y7,e,h1,h2,h3,h4,h5⟩:=qH (TS:=TS) hn hs hok us (M++[y]) true (some (.v (.int t.1))) (some (.v (.int t.2.1))) (some (.v (.int t.2.2.1))) (some (.v (.bl t.2.2.2))) (fun t ht=>hu t (Yb _ ht)) hM2
   rw[Ym,YX] at h3
   refine⟨M',g',y4,y5,y6,y7,?_,h1,fun x hx=>h2 x (Xu _ hx),by omega,fun h=>?_,fun _=>.inr (by omega)⟩
   ·rw[← e]
    refine fr st ?_
    rw[eI,ht,Ya,Yf]
    ·have ha:(M++[y]).map D.int=M.map D.int++[D.int y]:=by simp
     have hi:=vo (decide (t.1∈M))
     rw[show (if decide (t.1∈M)=true then (1:Int) else 0)=if t.1∈M then 1 else 0 by simp] at hi
     unfold cF
     rw[ha]
     generalize M.map D.int=U at *
     generalize (if t.1∈M then (1:Int) else 0)=q at *
     simp[i4,hi,hix,lM]
    ·have:¬ (t.1∈M↔t.2.1∈M):=fun q=>z (propext q)
     simpa using this
   ·exact absurd (h4 h).2.1 (by decide)
theorem su {ts:List T4}{n s:Int}(hn:n≤7)(hs:s∈aA n)(hok:∀ t∈ts,okT n t):∀ (k:Nat) (M:List Int) (x4 x5 x6 x7:Option DV),Met ts n s M→s∈M→8<M.length+k→∃ M' y4 y5 y6 y7,
  bi (asB (getV 3)) (ai (aS 3 (fun _=>some (.bl false)))
  (bQ (b8 0) (d_ [4,5,6,7]) (dIf (asB (d2 neD (d2 inD (ak 4) (ak 2)) (d2 inD (ak 5) (ak 2)))) (ai (cU 2 (d2 ixD (asO (asL (ah (getV 4) (ah (getV 5) aT)))) (d1 lN (d2 inD (ak 4) (ak 2)))))
  (aS 3 (fun _=>some (.bl true)))) dNx))) k (cF (.lst (ts.map dT4)) s M true x4 x5 x6 x7)=some (.nx (cF (.lst (ts.map dT4)) s M' false y4 y5 y6 y7))∧M'.Nodup∧∀ x,x∈M'↔Rch (nr ts n) s x
 | 0,M,x4,x5,x6,x7,hM,_,hl=>by
  have:=du hM.1 fun x hx=>(hM.2 x hx).inn hs
  rw[aJ] at this
  omega
 | k+1,M,x4,x5,x6,x7,hM,hsM,hl=>by
  obtain⟨M',g',y4,y5,y6,y7,e,h1,h2,h3,h4,h5⟩:=qH (TS:=.lst (ts.map dT4)) hn hs hok ts M false x4 x5 x6 x7 (fun _ h=>h) hM
  have hb:(ai (aS 3 (fun _=>some (.bl false)))
  (bQ (b8 0) (d_ [4,5,6,7]) (dIf (asB (d2 neD (d2 inD (ak 4) (ak 2)) (d2 inD (ak 5) (ak 2)))) (ai (cU 2 (d2 ixD (asO (asL (ah (getV 4) (ah (getV 5) aT)))) (d1 lN (d2 inD (ak 4) (ak 2)))))
  (aS 3 (fun _=>some (.bl true)))) dNx))) (cF (.lst (ts.map dT4)) s M true x4 x5 x6 x7)=some (.nx (cF (.lst (ts.map dT4)) s M' g' y4 y5 y6 y7)):=by
   rw[aw (ρ':=cF (.lst (ts.map dT4)) s M false x4 x5 x6 x7) rfl]
   exact e
  rw[i6 rfl hb]
  cases g' with
  | true=>
   have:M.length<M'.length:=(h5 rfl).elim (fun z=>by cases z) id
   exact su hn hs hok k M' y4 y5 y6 y7 h1 (h2 s hsM) (by omega)
  | false=>
   obtain⟨rfl,_,hc⟩:=h4 rfl
   have hk:∃ k',k=k' + 1:=by
    cases k with
    | zero=>
     have:=du hM.1 fun x hx=>(hM.2 x hx).inn hs
     rw[aJ] at this
     omega
    | succ k=>exact⟨k,rfl⟩
   obtain⟨k',rfl⟩:=hk
   refine⟨M',y4,y5,y6,y7,i9 rfl,hM.1,fun x=>⟨hM.2 x,fun h=>?_⟩⟩
   induction h with
   | refl=>exact hsM
   | step _ hb ih=>
    obtain⟨_,t,ht,hh⟩:=iK.mp hb
    rcases hh with⟨a,b⟩ | ⟨a,b⟩
    ·rw[← b];exact (hc t ht).mp (a ▸ ih)
    ·rw[← b];exact (hc t ht).mpr (a ▸ ih)
theorem ue (C:Addr){ts:List T4}{n s:Int}(hn:n≤7)(hs:s∈aA n)(hok:∀ t∈ts,okT n t):rq C [.v (.lst (ts.map dT4)),.v (.int s)]=some (.own (.lst (cu ts n s)) none):=by
 obtain⟨M',y4,y5,y6,y7,e,h1,h2⟩:=su hn hs hok 100 [s] none none none none ⟨by simp,fun x hx=>by rw[YJ] at hx;subst hx;exact .refl⟩ (by simp) (by simp)
 show bV (g_q9 C [some (.v (.lst (ts.map dT4))),some (.v (.int s)),none,none,none,none,none,none])=_
 unfold g_q9
 rw[aw (ρ':=[some (.v (.lst (ts.map dT4))),some (.v (.int s)),some (.own (.lst [.int s]) none),none,none,none,none,none]) rfl]
 rw[aw (ρ':=cF (.lst (ts.map dT4)) s [s] true none none none none) rfl]
 rw[aw e]
 have l7:M'.length<64:=by
  have:=du h1 fun x hx=>((h2 x).mp hx).inn hs
  rw[aJ] at this
  omega
 have so:=e7 M' l7
 have sc:=lq hn hs h1 h2
 unfold cu cF
 rw[← sc]
 generalize M'.map D.int=U at *
 generalize ts.map dT4=V at *
 simp[eR,so]
theorem zz (a b:List Int):neD (.lst (a.map .int)) (.lst (b.map .int))=some (.bl (!decide (a=b))):=by rw[wx (nP a) (nP b),nY]
theorem vP (a b:List Int):eqD (.lst (a.map .int)) (.lst (b.map .int))=some (.bl (decide (a=b))):=by rw[xl (nP a) (nP b),nY]
theorem si {f:Dd}{ρ:DF}{n:Int}(h:f ρ=some (.int n))(hn:0≤n∧n≤1000):e_ f ρ=some ((aA n).map .int):=by
 unfold e_
 rw[h]
 simp only
 rw[Yf (by omega),d8]
abbrev pF (PS TS:D)(n:Int)(A B:List Int)(x5 x6:Option DV):DF:=[some (.v PS),some (.v TS),some (.v (.int n)),some (.own (.lst (A.map .int)) none),some (.own (.lst (B.map .int)) none),x5,x6]
theorem ve {Wh Co:Dm}{PS TS:D}{n p:Int}{c r A B:List Int}{x6:Option DV}(hc:c=p::r)(hW:∀ i:Int,Wh [.v (.int i)]=some (.v (.bl true)))(hin:∀ x∈c,0≤x∧x<n)(hC:Co [.v TS,.v (.int p)]=some (.own (.lst (c.map .int)) none))(lA:A.length≤1000)(lB:B.length+c.length≤1000):∃ y6,
  (ai (dIf (orT (bv (asB (d1 (iW "list") (ak 5)))) (asB (d2 eqD (d1 aY (ak 5)) (fun _=>some (.int 0))))) (bj (fun _=>some (.bl false))) dNx)
  (ai (bQ (b8 5) (setV 6) (dIf (orT (bv (asB (am Wh (aB 6 (fun _=>some []))))) (bv (asB (chD leA ltI (fun _=>some (.int 0)) (ak 6) (ak 2))))) (bj (fun _=>some (.bl false))) dNx))
  (ai (dIf (asB (d2 neD (ak 5) (am Co (aB 1 (aV (d2 ixD (ag 5) (fun _=>some (.int 0))) (fun _=>some [])))))) (bj (fun _=>some (.bl false))) dNx)
  (ai (cU 3 (d2 ixD (ag 5) (fun _=>some (.int 0))))
  (lX 4 (getV 5)))))) (pF PS TS n A B (some (.v (.lst (c.map .int)))) x6)=some (.nx (pF PS TS n (A++[p]) (B++c) (some (.v (.lst (c.map .int)))) y6)):=by
 have i0:ixD (.lst (c.map .int)) (.int 0)=some (.int p):=by subst hc;exact gN (j:=0) rfl
 have hl:((c.map D.int).length:Int)≠0:=by subst hc;rw[Yv,Yj];omega
 have hne:=zz c c
 rw[YU rfl,Bool.not_true] at hne
 have l3:(A.map D.int).length<16777216:=by rw[Ye];omega
 have l4:(B.map D.int).length+(c.map D.int).length≤16777216:=by rw[Ye,Ye];omega
 have s1:(dIf (orT (bv (asB (d1 (iW "list") (ak 5)))) (asB (d2 eqD (d1 aY (ak 5)) (fun _=>some (.int 0))))) (bj (fun _=>some (.bl false))) dNx) (pF PS TS n A B (some (.v (.lst (c.map .int)))) x6)=some (.nx (pF PS TS n A B (some (.v (.lst (c.map .int)))) x6)):=by
  unfold pF
  generalize c.map D.int=U at *
  generalize A.map D.int=U2 at *
  generalize B.map D.int=U3 at *
  have:=ut U
  simp[this]
  intro z
  exact absurd (by rw[z];rfl) hl
 have s2:∃ y6,(bQ (b8 5) (setV 6) (dIf (orT (bv (asB (am Wh (aB 6 (fun _=>some []))))) (bv (asB (chD leA ltI (fun _=>some (.int 0)) (ak 6) (ak 2))))) (bj (fun _=>some (.bl false))) dNx)) (pF PS TS n A B (some (.v (.lst (c.map .int)))) x6)=some (.nx (pF PS TS n A B (some (.v (.lst (c.map .int)))) y6)):=by
  obtain⟨ρ',e,y6,rfl⟩:=dI (st:=setV 6) (body:=(dIf (orT (bv (asB (am Wh (aB 6 (fun _=>some []))))) (bv (asB (chD leA ltI (fun _=>some (.int 0)) (ak 6) (ak 2))))) (bj (fun _=>some (.bl false))) dNx)) (fun ρ=>∃ y6,ρ=pF PS TS n A B (some (.v (.lst (c.map .int)))) y6) (ds:=c.map .int) (ρ:=pF PS TS n A B (some (.v (.lst (c.map .int)))) x6) ⟨x6,rfl⟩ (by
   rintro d hd _ ⟨y6,rfl⟩
   obtain⟨x,hx,rfl⟩:=Ys.mp hd
   obtain⟨h0,h1⟩:=hin x hx
   refine⟨pF PS TS n A B (some (.v (.lst (c.map .int)))) (some (.v (.int x))),rfl,pF PS TS n A B (some (.v (.lst (c.map .int)))) (some (.v (.int x))),?_,_,rfl⟩
   unfold pF
   generalize c.map D.int=U at *
   generalize A.map D.int=U2 at *
   generalize B.map D.int=U3 at *
   simp[hW,dvD,h0,h1])
  exact⟨y6,e⟩
 obtain⟨y6,s2⟩:=s2
 refine⟨y6,?_⟩
 rw[aw s1,aw s2]
 rw[aw (ρ':=pF PS TS n A B (some (.v (.lst (c.map .int)))) y6) (by
  unfold pF
  generalize c.map D.int=U at *
  generalize A.map D.int=U2 at *
  generalize B.map D.int=U3 at *
  simp[i0,hC,dvD,hne])]
 unfold pF
 rw[show (A++[p]).map D.int=A.map .int++[.int p] by simp,Zz]
 generalize c.map D.int=U at *
 generalize A.map D.int=U2 at *
 generalize B.map D.int=U3 at *
 rw[aw (ρ':=[some (.v PS),some (.v TS),some (.v (.int n)),some (.own (.lst (U2++[.int p])) none),some (.own (.lst U3) none),some (.v (.lst U)),y6]) (by simp[i0,l3])]
 show (if U3.length+U.length≤16777216 then _ else none)=_
 rw[Yf l4]
 rfl
theorem nX {Wh Co:Dm}{PS TS:D}{n:Int}{f:Int→List Int}(hW:∀ i:Int,Wh [.v (.int i)]=some (.v (.bl true))):∀ (us A B:List Int) (x5 x6:Option DV),(∀ p∈us,(∃ r,f p=p::r)∧(f p).length≤7∧(∀ x∈f p,0≤x∧x<n)∧Co [.v TS,.v (.int p)]=some (.own (.lst ((f p).map .int)) none))→A.length+us.length≤100→B.length+7*us.length≤100→∃ y5 y6,
  cW (setV 5) (ai (dIf (orT (bv (asB (d1 (iW "list") (ak 5)))) (asB (d2 eqD (d1 aY (ak 5)) (fun _=>some (.int 0))))) (bj (fun _=>some (.bl false))) dNx)
  (ai (bQ (b8 5) (setV 6) (dIf (orT (bv (asB (am Wh (aB 6 (fun _=>some []))))) (bv (asB (chD leA ltI (fun _=>some (.int 0)) (ak 6) (ak 2))))) (bj (fun _=>some (.bl false))) dNx))
  (ai (dIf (asB (d2 neD (ak 5) (am Co (aB 1 (aV (d2 ixD (ag 5) (fun _=>some (.int 0))) (fun _=>some [])))))) (bj (fun _=>some (.bl false))) dNx)
  (ai (cU 3 (d2 ixD (ag 5) (fun _=>some (.int 0))))
  (lX 4 (getV 5)))))) (us.map fun p=>D.lst ((f p).map .int)) (pF PS TS n A B x5 x6)=some (.nx (pF PS TS n (A++us) (B++us.flatMap f) y5 y6))
 | [],A,B,x5,x6,_,_,_=>⟨x5,x6,by rw[YT,List.flatMap_nil,YT];rfl⟩
 | p::us,A,B,x5,x6,h,hA,hB=>by
  rw[Yj] at hA hB
  obtain⟨⟨r,h1⟩,h2,h3,h4⟩:=h p Yc
  obtain⟨y6,e⟩:=ve (PS:=PS) (x6:=x6) (A:=A) (B:=B) h1 hW h3 h4 (by omega) (by omega)
  obtain⟨z5,z6,e2⟩:=nX (PS:=PS) hW us (A++[p]) (B++f p) (some (.v (.lst ((f p).map .int)))) y6 (fun q hq=>h q (Yb _ hq)) (by rw[Ym,YX];omega) (by rw[Ym];omega)
  refine⟨z5,z6,?_⟩
  rw[Yv,fr (ρ1:=pF PS TS n A B (some (.v (.lst ((f p).map .int)))) x6) rfl e,e2]
  simp[Zx,List.flatMap_cons]
theorem xb (C:Addr){ts:List T4}{n:Int}(hn:1≤n∧n≤7)(hok:∀ t∈ts,okT n t):fZ C [.v (.lst ((bu ts n n).map fun p=>.lst (cu ts n p))),.v (.lst (ts.map dT4)),.v (.int n)]=some (.v (.bl true)):=by
 have hco:∀ p∈bu ts n n,(∃ r,cls ts n p=p::r)∧(cls ts n p).length≤7∧(∀ x∈cls ts n p,0≤x∧x<n)∧rq C [.v (.lst (ts.map dT4)),.v (.int p)]=some (.own (.lst ((cls ts n p).map .int)) none):=fun p hp=>by
  obtain⟨h1,h2⟩:=YS.mp hp
  exact⟨qY hn.2 h1 h2,oo ts hn.2 p,fun x hx=>aO.mp (YS.mp hx).1,ue C hn.2 h1 hok⟩
 have ll:=iG ts (n:=n) (k:=n) hn.2
 show bV (g_q13 C [some (.v (.lst ((bu ts n n).map fun p=>.lst (cu ts n p)))),some (.v (.lst (ts.map dT4))),some (.v (.int n)),none,none,none,none])=_
 unfold g_q13
 have hW:=sB C
 generalize nF C=Wh at *
 generalize rq C=Co at *
 obtain⟨y5,y6,e⟩:=nX (PS:=.lst ((bu ts n n).map fun p=>.lst (cu ts n p))) (TS:=.lst (ts.map dT4)) (n:=n) (f:=cls ts n) hW (bu ts n n) [] [] none none hco (by simp;omega) (by simp;omega)
 rw[aw (ρ':=[some (.v (.lst ((bu ts n n).map fun p=>.lst (cu ts n p)))),some (.v (.lst (ts.map dT4))),some (.v (.int n)),none,none,none,none]) rfl]
 rw[aw (ρ':=[some (.v (.lst ((bu ts n n).map fun p=>.lst (cu ts n p)))),some (.v (.lst (ts.map dT4))),some (.v (.int n)),some (.own (.lst []) none),none,none,none]) rfl]
 rw[aw (ρ':=pF (.lst ((bu ts n n).map fun p=>.lst (cu ts n p))) (.lst (ts.map dT4)) n [] [] none none) rfl]
 rw[aw (by unfold bQ;exact e)]
 rw[List.nil_append,List.nil_append]
 have q1:bg ((bu ts n n).map .int)=(bu ts n n).map .int:=jF (.refl _) ((j8 n).filter _)
 have q2:bg (((bu ts n n).flatMap (cls ts n)).map .int)=(aA n).map .int:=jF (lO hn.2).symm (j8 n)
 have fl:((bu ts n n).flatMap (cls ts n)).length<64:=by rw[(lO hn.2).length_eq,aJ];omega
 have o1:=e7 (bu ts n n) (by omega)
 have o2:=e7 _ fl
 have e1:=vP (bu ts n n) (bu ts n n)
 have e2:=vP (aA n) (aA n)
 rw[YU rfl] at e1 e2
 have hr:e_ (getV 2) (pF (.lst ((bu ts n n).map fun p=>.lst (cu ts n p))) (.lst (ts.map dT4)) n (bu ts n n) ((bu ts n n).flatMap (cls ts n)) y5 y6)=some ((aA n).map .int):=si rfl ⟨by omega,by omega⟩
 generalize e_ (getV 2)=LR at *
 unfold pF at *
 generalize ((bu ts n n).map fun p=>D.lst (cu ts n p))=U1 at *
 generalize (bu ts n n).map D.int=U2 at *
 generalize ((bu ts n n).flatMap (cls ts n)).map D.int=U3 at *
 generalize (aA n).map D.int=U4 at *
 generalize ts.map dT4=U5 at *
 simp[eR,o1,o2,q1,q2,hr,e1,e2]
theorem yC {C:Addr}{Ce Mx Wb Po Pa:Dm}{mk:Dz}{N Q R KS TS P:List D}{c:List D}{dss:List (List D)}{a c0 s k n:Int}{F:List (Str×D)}{x2 x3 x4 x5 x6:Option DV}
  (hc:Ce [.v (.lst N),.v (.int a),.v (.int 10)]=some (.own (.lst Q) none)) (q0:ixD (.lst Q) (.int 0)=some (.int c0)) (hm1:Mx [.v (.int c0),.v (.int 1)]=some (.v (.int s))) (hm2:Mx [.v (.int c0),.v (.int 2)]=some (.v (.int k)))
  (h7:aP (.int k) (.int 7)=some (.int (k%7))) (hn:1+k%7=n) (hq:df Q (some 1) none=R) (hw:Wb [.v (.lst R),.v (.int s),.v (.int n)]=some (.v (.tup [.lst KS,.lst TS])))
  (hmk:∀ (g:Dv) (ρ:DF),g ρ=some [.v (.lst KS),.v (.lst TS)]→em C mk g ρ=some (.ins C F)) (hkl:(KS.length:Int)=n)
  (hP:Po [.v (.ins C F)]=some (.own (.lst2 (c::dss)) none)) (hd:OD.d (.lst2 (c::dss))=.lst P) (hA:Pa [.v (.lst P),.v (.lst TS),.v (.int n)]=some (.v (.bl true))) (lc:c.length<16777216) (ld:dss.length<1000000):∃ y2 y3 y4 y5 y6,
  (ai (aS 2 (am Ce (aB 0 (aV (getV 1) (aV (fun _=>some (.int 10)) (fun _=>some []))))))
  (ai (iL [3,4] (am Wb (aV (asO (asL (slL (ag 2) (bI (fun _=>some (.int 1))) bNo))) (aV (am Mx (aV (d2 ixD (ag 2) (fun _=>some (.int 0))) (aV (fun _=>some (.int 1)) (fun _=>some [])))) (aV (d2 aZ (fun _=>some (.int 1)) (d2 aP (am Mx (aV (d2 ixD (ag 2) (fun _=>some (.int 0))) (aV (fun _=>some (.int 2)) (fun _=>some [])))) (fun _=>some (.int 7)))) (fun _=>some []))))))
  (ai (aS 5 (asO (em C mk (aB 3 (aB 4 (fun _=>some []))))))
  (ai (bf 6 (iw Po (aV (getV 5) (fun _=>some []))))
  (ai (dIf (c6 6 (bv (asB (am Pa (aB 6 (aB 4 (aV (d1 aY (ak 3)) (fun _=>some [])))))))) (bj (fun _=>some (.bl false))) dNx)
  (ai (fL 6 0 (fun _=>some (.int 0)))
  (ai (jt 6 (ah (fun _=>some (.int 1)) aT))
  (dIf (bv (asB (am Pa (aV (am Po (aV (getV 5) (fun _=>some []))) (aB 4 (aV (d1 aY (ak 3)) (fun _=>some []))))))) (bj (fun _=>some (.bl false))) dNx)))))))) [some (.v (.lst N)),some (.v (.int a)),x2,x3,x4,x5,x6]=some (.nx [some (.v (.lst N)),some (.v (.int a)),y2,y3,y4,y5,y6]):=by
 refine⟨some (.v (.lst Q)),some (.v (.lst KS)),some (.v (.lst TS)),some (.v (.ins C F)),some (.own (.lst2 ((c++[.int 0])::dss++[[.int 1]])) none),?_⟩
 rw[aw (ρ':=[some (.v (.lst N)),some (.v (.int a)),some (.v (.lst Q)),x3,x4,x5,x6]) (by simp[hc,dvD])]
 rw[aw (ρ':=[some (.v (.lst N)),some (.v (.int a)),some (.v (.lst Q)),some (.v (.lst KS)),some (.v (.lst TS)),x5,x6]) (by simp[q0,hm1,hm2,h7,hn,qP,hq,hw,d_,jd])]
 rw[aw (ρ':=[some (.v (.lst N)),some (.v (.int a)),some (.v (.lst Q)),some (.v (.lst KS)),some (.v (.lst TS)),some (.v (.ins C F)),x6]) (by
  have h1:=hmk (aB 3 (aB 4 (fun _=>some []))) [some (.v (.lst N)),some (.v (.int a)),some (.v (.lst Q)),some (.v (.lst KS)),some (.v (.lst TS)),x5,x6] rfl
  generalize em C mk (aB 3 (aB 4 (fun _=>some [])))=M at h1
  simp[h1])]
 rw[aw (ρ':=[some (.v (.lst N)),some (.v (.int a)),some (.v (.lst Q)),some (.v (.lst KS)),some (.v (.lst TS)),some (.v (.ins C F)),some (.own (.lst2 (c::dss)) none)]) (by
  generalize D.ins C F=W at *
  simp[hP,dvO])]
 rw[aw (ρ':=[some (.v (.lst N)),some (.v (.int a)),some (.v (.lst Q)),some (.v (.lst KS)),some (.v (.lst TS)),some (.v (.ins C F)),some (.own (.lst2 (c::dss)) none)]) (by
  have ht:c6 6 (bv (asB (am Pa (aB 6 (aB 4 (aV (d1 aY (ak 3)) (fun _=>some []))))))) [some (.v (.lst N)),some (.v (.int a)),some (.v (.lst Q)),some (.v (.lst KS)),some (.v (.lst TS)),some (.v (.ins C F)),some (.own (.lst2 (c::dss)) none)]=some false:=by
   show bv (asB (am Pa (aB 6 (aB 4 (aV (d1 aY (ak 3)) (fun _=>some [])))))) [some (.v (.lst N)),some (.v (.int a)),some (.v (.lst Q)),some (.v (.lst KS)),some (.v (.lst TS)),some (.v (.ins C F)),some (.v (OD.d (.lst2 (c::dss))))]=some false
   rw[hd]
   simp[hkl,hA,dvD]
  rw[eI,ht]
  rfl)]
 rw[aw (ρ':=[some (.v (.lst N)),some (.v (.int a)),some (.v (.lst Q)),some (.v (.lst KS)),some (.v (.lst TS)),some (.v (.ins C F)),some (.own (.lst2 ((c++[.int 0])::dss)) none)]) (Yf lc)]
 rw[aw (ρ':=[some (.v (.lst N)),some (.v (.int a)),some (.v (.lst Q)),some (.v (.lst KS)),some (.v (.lst TS)),some (.v (.ins C F)),some (.own (.lst2 ((c++[.int 0])::dss++[[.int 1]])) none)]) (Yf (by rw[Yj];omega))]
 generalize OD.lst2 ((c++[.int 0])::dss++[[.int 1]])=O2 at *
 generalize OD.lst2 (c::dss)=O1 at *
 generalize D.ins C F=W at *
 simp[hP,dvD,hd,hkl,hA]
theorem zp (C:Addr)(ns:List Int)(hl:ns.length≤63)(a:Int)(ha:0≤a)(x2 x3 x4 x5 x6:Option DV):∃ y2 y3 y4 y5 y6,
  (ai (aS 2 (am (pB C) (aB 0 (aV (getV 1) (aV (fun _=>some (.int 10)) (fun _=>some []))))))
  (ai (iL [3,4] (am (jC C) (aV (asO (asL (slL (ag 2) (bI (fun _=>some (.int 1))) bNo))) (aV (am (cw C) (aV (d2 ixD (ag 2) (fun _=>some (.int 0))) (aV (fun _=>some (.int 1)) (fun _=>some [])))) (aV (d2 aZ (fun _=>some (.int 1)) (d2 aP (am (cw C) (aV (d2 ixD (ag 2) (fun _=>some (.int 0))) (aV (fun _=>some (.int 2)) (fun _=>some [])))) (fun _=>some (.int 7)))) (fun _=>some []))))))
  (ai (aS 5 (asO (em C (jr C) (aB 3 (aB 4 (fun _=>some []))))))
  (ai (bf 6 (iw (fC C) (aV (getV 5) (fun _=>some []))))
  (ai (dIf (c6 6 (bv (asB (am (fZ C) (aB 6 (aB 4 (aV (d1 aY (ak 3)) (fun _=>some [])))))))) (bj (fun _=>some (.bl false))) dNx)
  (ai (fL 6 0 (fun _=>some (.int 0)))
  (ai (jt 6 (ah (fun _=>some (.int 1)) aT))
  (dIf (bv (asB (am (fZ C) (aV (am (fC C) (aV (getV 5) (fun _=>some []))) (aB 4 (aV (d1 aY (ak 3)) (fun _=>some []))))))) (bj (fun _=>some (.bl false))) dNx)))))))) [some (.v (.lst (ns.map .int))),some (.v (.int a)),x2,x3,x4,x5,x6]=some (.nx [some (.v (.lst (ns.map .int))),some (.v (.int a)),y2,y3,y4,y5,y6]):=by
 obtain⟨cs,hc,hc10⟩:=rV C ns a ha hl
 obtain⟨c0,r,rfl⟩:∃ c0 r,cs=c0::r:=by
  cases cs with
  | nil=>cases hc10
  | cons c0 r=>exact⟨c0,r,rfl⟩
 have hr:r.length=9:=by simpa using hc10
 obtain⟨s,m1,s0,s1⟩:=g6 C c0 1 (by decide)
 obtain⟨k2,m2,_,_⟩:=g6 C c0 2 (by decide)
 have hn:1≤1+k2%7∧1+k2%7≤7:=by omega
 obtain⟨n,en⟩:∃ n,1+k2%7=n:=⟨_,rfl⟩
 rw[en] at hn
 obtain⟨ks,ts,hw,kl,kw,tl,tk⟩:=wB C r s n (by omega) ⟨s0,s1⟩ hn
 obtain⟨kvs,hJ,hmk⟩:=xK C ks ts n hn ⟨kl,kw⟩ ⟨tl,tk⟩
 have hcut:df ((c0::r).map D.int) (some 1) none=r.map D.int:=by rw[iq,oJ _ (by decide)];rfl
 have hkl:((ks.map D.str).length:Int)=n:=by rw[Ye];exact kl
 have q0:ixD (.lst ((c0::r).map .int)) (.int 0)=some (.int c0):=gN (j:=0) rfl
 have hP:=sL C ks (.lst (srt ts)) kvs ts n hn kl hJ
 have hA:=xb C hn tk
 have hd:=vF ts n n
 have ll:=iG ts (n:=n) (k:=n) hn.2
 have l0:∃ c dss,dD ts n n=c::dss∧c.length<16777216∧dss.length<1000000:=by
  obtain⟨q,h0,h1,h2,h3⟩:=gC (ts:=ts) hn.2 0 0 (Yi _) (aO.mpr ⟨by omega,by omega⟩)
  have hq:q∈bu ts n n:=YS.mpr ⟨aO.mpr ⟨h0,by omega⟩,h2⟩
  unfold dD
  cases e:bu ts n n with
  | nil=>rw[e] at hq;cases hq
  | cons p us=>
   refine⟨cu ts n p,us.map (cu ts n),rfl,?_,?_⟩
   ·have:=oo ts hn.2 p
    unfold cu
    rw[Ye]
    omega
   ·rw[e,Yj] at ll
    rw[Ye]
    omega
 obtain⟨c,dss,e,lc,ld⟩:=l0
 rw[e] at hP hd
 exact yC hc q0 m1 m2 (az _ _ (by decide)) en hcut hw hmk hkl hP hd hA lc ld
theorem law_true (C:Addr)(ns:List Int)(hl:ns.length≤63):v5 C [.v (.lst (ns.map L2.D.int))]=some (.v (.bl true)):=by
 have hit:∃ k,rM (fun _=>some (.int 0)) (d2 mC (fun _=>some (.int 1)) (d1 aY (ak 0))) (fun _=>some (.int 10)) [some (.v (.lst (ns.map .int))),none,none,none,none,none,none]=some (d5 0 10 k):=by
  have hm:d2 mC (fun _=>some (.int 1)) (d1 aY (ak 0)) [some (.v (.lst (ns.map .int))),none,none,none,none,none,none]=some (.int (if (ns.length:Int) > 1 then (ns.length:Int) else 1)):=by
   have e2:∀ a b:Int,mC (.int a) (.int b)=some (.int (if b > a then b else a)):=fun _ _=>rfl
   simp[e2]
  obtain⟨j,hj⟩:∃ j:Int,(if (ns.length:Int) > 1 then (ns.length:Int) else 1)=j:=⟨_,rfl⟩
  rw[hj] at hm
  have j1:1≤j∧j≤63:=by rw[← hj];split <;> omega
  have jj:(((⟨j.toNat,by omega⟩:Fin 64):Nat):Int)=j:=by simp only;omega
  refine⟨(Builtin.Range.rangeSize 0 j 10).toNat,?_⟩
  unfold rM
  rw[hm]
  simp only
  have hsm:Builtin.Range.small 0 j 10=true:=by
   have hall:∀ i:Fin 64,Builtin.Range.small 0 ((i:Nat):Int) 10=true:=by decide +kernel
   have:=hall ⟨j.toNat,by omega⟩
   rwa [jj] at this
  rw[Yf ⟨by decide,by decide,hsm⟩]
 obtain⟨k,hit⟩:=hit
 have hb:=zp C ns hl
 unfold v5 g_q7
 rw[vx]
 show bV (ai _ _ [some (.v (.lst (ns.map .int))),none,none,none,none,none,none])=_
 generalize (ai (aS 2 (am (pB C) (aB 0 (aV (getV 1) (aV (fun _=>some (.int 10)) (fun _=>some []))))))
  (ai (iL [3,4] (am (jC C) (aV (asO (asL (slL (ag 2) (bI (fun _=>some (.int 1))) bNo))) (aV (am (cw C) (aV (d2 ixD (ag 2) (fun _=>some (.int 0))) (aV (fun _=>some (.int 1)) (fun _=>some [])))) (aV (d2 aZ (fun _=>some (.int 1)) (d2 aP (am (cw C) (aV (d2 ixD (ag 2) (fun _=>some (.int 0))) (aV (fun _=>some (.int 2)) (fun _=>some [])))) (fun _=>some (.int 7)))) (fun _=>some []))))))
  (ai (aS 5 (asO (em C (jr C) (aB 3 (aB 4 (fun _=>some []))))))
  (ai (bf 6 (iw (fC C) (aV (getV 5) (fun _=>some []))))
  (ai (dIf (c6 6 (bv (asB (am (fZ C) (aB 6 (aB 4 (aV (d1 aY (ak 3)) (fun _=>some [])))))))) (bj (fun _=>some (.bl false))) dNx)
  (ai (fL 6 0 (fun _=>some (.int 0)))
  (ai (jt 6 (ah (fun _=>some (.int 1)) aT))
  (dIf (bv (asB (am (fZ C) (aV (am (fC C) (aV (getV 5) (fun _=>some []))) (aB 4 (aV (d1 aY (ak 3)) (fun _=>some []))))))) (bj (fun _=>some (.bl false))) dNx))))))))=B at hb ⊢
 obtain⟨z,e,y1,y2,y3,y4,y5,y6,rfl⟩:=dI (st:=setV 1) (body:=B) (fun ρ=>∃ y1 y2 y3 y4 y5 y6,ρ=[some (.v (.lst (ns.map .int))),y1,y2,y3,y4,y5,y6]) (ds:=d5 0 10 k) (ρ:=[some (.v (.lst (ns.map .int))),none,none,none,none,none,none]) ⟨_,_,_,_,_,_,rfl⟩ (by
  rintro d hd _ ⟨y1,y2,y3,y4,y5,y6,rfl⟩
  unfold d5 at hd
  obtain⟨i,_,rfl⟩:=Ys.mp hd
  obtain⟨z2,z3,z4,z5,z6,e⟩:=hb (0+(i:Int)*10) (by omega) y2 y3 y4 y5 y6
  exact⟨_,rfl,_,e,_,_,_,_,_,_,rfl⟩)
 rw[aw (gI hit e)]
 rfl
theorem fm {α:Type}{us:List α}(h:us.length=1):∃ a,us=[a]:=List.length_eq_one_iff.mp h
theorem dM {α:Type}{us:List α}(h:us.length=2):∃ a1 a2,us=[a1,a2]:=by
 cases us with
 | nil=>cases h
 | cons a r=>
  obtain⟨a2,rfl⟩:=fm (Nat.succ.inj h)
  exact⟨a,a2,rfl⟩
theorem lE {α:Type}{us:List α}(h:us.length=3):∃ a1 a2 a3,us=[a1,a2,a3]:=by
 cases us with
 | nil=>cases h
 | cons a r=>
  obtain⟨a2,a3,rfl⟩:=dM (Nat.succ.inj h)
  exact⟨a,a2,a3,rfl⟩
def kE (P:Params)(x:Str)(t:Nat)(v:Value):DictEntry:=⟨PyData.keyHash P x,.str x t,v⟩
def fO (n q:Str)(s:Stmt)(m:Str)(t c:Nat)(d:Value:=.none):Obj:=⟨.type "function",none,.func (PySem.W.fnOf n q (defArgs s) (defBody s) (defScope s) d .none .none (.str m t) none (.ref c) .none),#[]⟩
def cO (n:Str)(t:Nat)(q:Str)(u v:Nat)(l a f:Int)(r:Nat)(g:Int)(r2 r3:Nat)(h l2:Int)(y:Nat)(c d:Value:=.none):Obj:={ cls:=.type "code",data:=.fields #[.str n t,.str q u,.str "/claim/cut.py" v,.int l 0,.int a 0,.int 0 0,.int 0 0,.int f 0,.ref r,.bool true,.int g 0,.ref r2,.none,c,d,.ref r3,.int h 0,.int l2 0,.str "/claim/cut.py" y] }
def kz:Str := "__doc__"
def KK:Params→PySem.W.Frag:=fun P=>(fun (_:kz = "__doc__")=>
(nat_lit 3,{ cls:=.type "dict",data:=.dict #[kE P "__name__" 165 (.str "law_tieword_k05_parts" 400),kE P "__doc__" 166 (.none),kE P "__package__" 167 (.none),kE P "__loader__" 168 (.builtin "__main__.__loader__#opaque"),kE P "__spec__" 169 (.none),kE P "__annotations__" 170 (.ref 6),kE P "__builtins__" 171 (.ref 4),kE P "__file__" 173 (.str "/claim/cut.py" 172),kE P "__cached__" 174 (.none),kE P "_wall" 193 (.ref 21),kE P "WebError" 213 (.ref 31),kE P "TooGreat" 229 (.ref 44),kE P "BadPlace" 245 (.ref 56),kE P "BadTie" 261 (.ref 68),kE P "reached" 269 (.ref 76),kE P "MOST_PLACES" 273 (.int 7 272),kE P "MOST_TIES" 275 (.int 12 274),kE P "MOST_LETTERS" 277 (.int 3 276),kE P "is_place_kind" 283 (.ref 81),kE P "is_tie_kind" 290 (.ref 88),kE P "is_tie" 299 (.ref 95),kE P "refuse_wrong" 309 (.ref 102),kE P "lesser_first" 316 (.ref 109),kE P "put_pair" 325 (.ref 116),kE P "joins_of" 337 (.ref 123),kE P "Web" 388 (.ref 157),kE P "parts_of" 399 (.ref 168),kE P "_law_cells" 410 (.ref 175),kE P "_law_mix" 419 (.ref 182),kE P "_law_whole" 426 (.ref 189),kE P "_law_word" 432 (.ref 194),kE P "_law_kind" 442 (.ref 201),kE P "_law_shuffled" 452 (.ref 208),kE P "_law_family" 458 (.ref 213),kE P "_law_web" 464 (.ref 218),kE P "_law_come_to" 478 (.ref 225),kE P "_law_parts_are" 491 (.ref 232),kE P "law" 504 (.ref 239)] 38 }) ::
(nat_lit 71,{ cls:=.type "tuple",data:=.seq #[.none] }) ::
(nat_lit 75,cO "reached" 264 "reached" 265 266 14 3 3 72 181 73 74 267 14 268) ::
(nat_lit 76,fO "reached" "reached" f6 "tieword.reach" 262 75 (.ref (nat_lit 71))) ::
(nat_lit 80,cO "is_place_kind" 278 "is_place_kind" 279 280 30 1 3 77 181 78 79 281 30 282) ::
(nat_lit 81,fO "is_place_kind" "is_place_kind" k6 "tieword.webs" 270 80) ::
(nat_lit 87,cO "is_tie_kind" 284 "is_tie_kind" 285 286 33 1 3 82 181 83 86 288 33 289 (.ref 84) (.ref 85)) ::
(nat_lit 88,fO "is_tie_kind" "is_tie_kind" mK "tieword.webs" 270 87) ::
(nat_lit 94,cO "is_tie" 291 "is_tie" 292 293 35 2 3 89 181 90 93 297 35 298 (.ref 91) (.ref 92)) ::
(nat_lit 95,fO "is_tie" "is_tie" mt "tieword.webs" 270 94) ::
(nat_lit 101,cO "refuse_wrong" 300 "refuse_wrong" 301 302 38 2 3 96 181 97 100 307 38 308 (.ref 98) (.ref 99)) ::
(nat_lit 102,fO "refuse_wrong" "refuse_wrong" iy "tieword.webs" 270 101) ::
(nat_lit 108,cO "lesser_first" 310 "lesser_first" 311 312 49 1 3 103 181 104 107 314 49 315 (.ref 105) (.ref 106)) ::
(nat_lit 109,fO "lesser_first" "lesser_first" gP "tieword.webs" 270 108) ::
(nat_lit 115,cO "put_pair" 317 "put_pair" 318 319 53 3 3 110 181 111 114 323 53 324 (.ref 112) (.ref 113)) ::
(nat_lit 116,fO "put_pair" "put_pair" iO "tieword.webs" 270 115) ::
(nat_lit 122,cO "joins_of" 326 "joins_of" 327 328 55 1 3 117 181 118 121 335 55 336 (.ref 119) (.ref 120)) ::
(nat_lit 123,fO "joins_of" "joins_of" mf "tieword.webs" 270 122) ::
(nat_lit 134,cO "__init__" 350 "Web.__init__" 351 352 63 3 3 131 181 132 133 353 63 354) ::
(nat_lit 135,fO "__init__" "Web.__init__" kL "tieword.webs" 270 134) ::
(nat_lit 141,cO "size" 356 "Web.size" 357 358 69 1 3 136 181 137 140 360 69 361 (.ref 138) (.ref 139)) ::
(nat_lit 142,fO "size" "Web.size" ng "tieword.webs" 270 141) ::
(nat_lit 153,cO "near" 372 "Web.near" 373 374 75 2 3 150 181 151 152 375 75 376) ::
(nat_lit 154,fO "near" "Web.near" lp "tieword.webs" 270 153) ::
(nat_lit 156,{ cls:=.type "dict",data:=.dict #[kE P "__module__" 345 (.str "tieword.webs" 270),kE P "__firstlineno__" 349 (.int 61 348),kE P "__init__" 355 (.ref 135),kE P "size" 362 (.ref 142),kE P "between" 371 (.ref 149),kE P "near" 377 (.ref 154),kE P "__static_attributes__" 381 (.ref 155),kE P "__dict__" 383 (.ref 158),kE P "__weakref__" 385 (.ref 159),kE P "__doc__" 386 (.none)] 4 }) ::
(nat_lit 157,{ cls:=.type "type",data:=.cls { name := "Web",bases:=[.type "object"],mro:=[.ref 157,.type "object"],ns:=156,qualname := "Web" },slots:=#[none,none,some (.str "Web" 338),some (.str "Web" 346),some (.builtin "object.__new__"),some (.bool true)] }) ::
(nat_lit 167,cO "parts_of" 389 "parts_of" 390 391 77 1 3 162 181 163 166 397 77 398 (.ref 164) (.ref 165)) ::
(nat_lit 168,fO "parts_of" "parts_of" eA "tieword.webs" 270 167) ::
(nat_lit 174,cO "_law_cells" 402 "_law_cells" 403 404 85 3 3 169 181 170 173 408 85 409 (.ref 171) (.ref 172)) ::
(nat_lit 175,fO "_law_cells" "_law_cells" nC "law_tieword_k05_parts" 400 174) ::
(nat_lit 181,cO "_law_mix" 411 "_law_mix" 412 413 87 2 3 176 181 177 180 417 87 418 (.ref 178) (.ref 179)) ::
(nat_lit 182,fO "_law_mix" "_law_mix" g_ "law_tieword_k05_parts" 400 181) ::
(nat_lit 188,cO "_law_whole" 420 "_law_whole" 421 422 90 1 3 183 181 184 187 424 90 425 (.ref 185) (.ref 186)) ::
(nat_lit 189,fO "_law_whole" "_law_whole" iR "law_tieword_k05_parts" 400 188) ::
(nat_lit 193,cO "_law_word" 427 "_law_word" 428 429 92 2 3 190 181 191 192 430 92 431) ::
(nat_lit 194,fO "_law_word" "_law_word" gs "law_tieword_k05_parts" 400 193) ::
(nat_lit 200,cO "_law_kind" 433 "_law_kind" 434 435 101 2 3 195 181 196 199 440 101 441 (.ref 197) (.ref 198)) ::
(nat_lit 201,fO "_law_kind" "_law_kind" gS "law_tieword_k05_parts" 400 200) ::
(nat_lit 207,cO "_law_shuffled" 443 "_law_shuffled" 444 445 107 2 3 202 181 203 206 450 107 451 (.ref 204) (.ref 205)) ::
(nat_lit 208,fO "_law_shuffled" "_law_shuffled" hU "law_tieword_k05_parts" 400 207) ::
(nat_lit 212,cO "_law_family" 453 "_law_family" 454 455 113 2 3 209 181 210 211 456 113 457) ::
(nat_lit 213,fO "_law_family" "_law_family" dB "law_tieword_k05_parts" 400 212) ::
(nat_lit 217,cO "_law_web" 459 "_law_web" 460 461 127 3 3 214 181 215 216 462 127 463) ::
(nat_lit 218,fO "_law_web" "_law_web" ga "law_tieword_k05_parts" 400 217) ::
(nat_lit 224,cO "_law_come_to" 465 "_law_come_to" 466 467 146 2 3 219 181 220 223 476 146 477 (.ref 221) (.ref 222)) ::
(nat_lit 225,fO "_law_come_to" "_law_come_to" nD "law_tieword_k05_parts" 400 224) ::
(nat_lit 231,cO "_law_parts_are" 479 "_law_parts_are" 480 481 156 3 3 226 181 227 230 489 156 490 (.ref 228) (.ref 229)) ::
(nat_lit 232,fO "_law_parts_are" "_law_parts_are" im "law_tieword_k05_parts" 400 231) ::
(nat_lit 238,cO "law" 492 "law" 493 494 172 1 3 233 181 234 237 502 172 503 (.ref 235) (.ref 236)) ::
(nat_lit 239,fO "law" "law" nj "law_tieword_k05_parts" 400 238)::[]) rfl
set_option autoImplicit true in
set_option relaxedAutoImplicit true in
theorem all_mk {l:PySem.W.OpenLaw}{w:World}{K:Kq}{h:Heap}{mg:Ks}{fa C:Addr}(X:K.In h)(G:h.Ns mainGlobals mg)(hfa:mg "law"=some (.ref fa))
  (aC:PySem.W.nsIn K mainGlobals "Web"=some (some (.ref C)))
  (a_q8:PySem.W.nsIn K mainGlobals "_law_cells"=some (some (.ref f_q8)))
  (l_q8:K.lookup f_q8=some ⟨oc_q8,od_q8,.func (PySem.W.fnOf "_law_cells" "_law_cells" (defArgs nC) (defBody nC) (defScope nC) .none kV_q8 dc_q8 pm_q8 an_q8 cd_q8 ct_q8),sl_q8⟩)
  (c_q8:PySem.W.codeIn K cd_q8 "_law_cells"=true)
  (k_q8:PySem.W.keepIn K (.ref f_q8)=true)
  (a_q12:PySem.W.nsIn K mainGlobals "_law_mix"=some (some (.ref f_q12)))
  (l_q12:K.lookup f_q12=some ⟨oc_q12,od_q12,.func (PySem.W.fnOf "_law_mix" "_law_mix" (defArgs g_) (defBody g_) (defScope g_) .none kV_q12 dc_q12 pm_q12 an_q12 cd_q12 ct_q12),sl_q12⟩)
  (c_q12:PySem.W.codeIn K cd_q12 "_law_mix"=true)
  (k_q12:PySem.W.keepIn K (.ref f_q12)=true)
  (a_q14:PySem.W.nsIn K mainGlobals "_law_shuffled"=some (some (.ref f_q14)))
  (l_q14:K.lookup f_q14=some ⟨oc_q14,od_q14,.func (PySem.W.fnOf "_law_shuffled" "_law_shuffled" (defArgs hU) (defBody hU) (defScope hU) .none kV_q14 dc_q14 pm_q14 an_q14 cd_q14 ct_q14),sl_q14⟩)
  (c_q14:PySem.W.codeIn K cd_q14 "_law_shuffled"=true)
  (k_q14:PySem.W.keepIn K (.ref f_q14)=true)
  (a_q10:PySem.W.nsIn K mainGlobals "_law_family"=some (some (.ref f_q10)))
  (l_q10:K.lookup f_q10=some ⟨oc_q10,od_q10,.func (PySem.W.fnOf "_law_family" "_law_family" (defArgs dB) (defBody dB) (defScope dB) .none kV_q10 dc_q10 pm_q10 an_q10 cd_q10 ct_q10),sl_q10⟩)
  (c_q10:PySem.W.codeIn K cd_q10 "_law_family"=true)
  (k_q10:PySem.W.keepIn K (.ref f_q10)=true)
  (a_q11:PySem.W.nsIn K mainGlobals "_law_kind"=some (some (.ref f_q11)))
  (l_q11:K.lookup f_q11=some ⟨oc_q11,od_q11,.func (PySem.W.fnOf "_law_kind" "_law_kind" (defArgs gS) (defBody gS) (defScope gS) .none kV_q11 dc_q11 pm_q11 an_q11 cd_q11 ct_q11),sl_q11⟩)
  (c_q11:PySem.W.codeIn K cd_q11 "_law_kind"=true)
  (k_q11:PySem.W.keepIn K (.ref f_q11)=true)
  (a_q17:PySem.W.nsIn K mainGlobals "_law_word"=some (some (.ref f_q17)))
  (l_q17:K.lookup f_q17=some ⟨oc_q17,od_q17,.func (PySem.W.fnOf "_law_word" "_law_word" (defArgs gs) (defBody gs) (defScope gs) .none kV_q17 dc_q17 pm_q17 an_q17 cd_q17 ct_q17),sl_q17⟩)
  (c_q17:PySem.W.codeIn K cd_q17 "_law_word"=true)
  (k_q17:PySem.W.keepIn K (.ref f_q17)=true)
  (a_q15:PySem.W.nsIn K mainGlobals "_law_web"=some (some (.ref f_q15)))
  (l_q15:K.lookup f_q15=some ⟨oc_q15,od_q15,.func (PySem.W.fnOf "_law_web" "_law_web" (defArgs ga) (defBody ga) (defScope ga) .none kV_q15 dc_q15 pm_q15 an_q15 cd_q15 ct_q15),sl_q15⟩)
  (c_q15:PySem.W.codeIn K cd_q15 "_law_web"=true)
  (k_q15:PySem.W.keepIn K (.ref f_q15)=true)
  (a_q3:PySem.W.nsIn K mainGlobals "is_place_kind"=some (some (.ref f_q3)))
  (l_q3:K.lookup f_q3=some ⟨oc_q3,od_q3,.func (PySem.W.fnOf "is_place_kind" "is_place_kind" (defArgs k6) (defBody k6) (defScope k6) .none kV_q3 dc_q3 pm_q3 an_q3 cd_q3 ct_q3),sl_q3⟩)
  (c_q3:PySem.W.codeIn K cd_q3 "is_place_kind"=true)
  (k_q3:PySem.W.keepIn K (.ref f_q3)=true)
  (a_q5:PySem.W.nsIn K mainGlobals "is_tie_kind"=some (some (.ref f_q5)))
  (l_q5:K.lookup f_q5=some ⟨oc_q5,od_q5,.func (PySem.W.fnOf "is_tie_kind" "is_tie_kind" (defArgs mK) (defBody mK) (defScope mK) .none kV_q5 dc_q5 pm_q5 an_q5 cd_q5 ct_q5),sl_q5⟩)
  (c_q5:PySem.W.codeIn K cd_q5 "is_tie_kind"=true)
  (k_q5:PySem.W.keepIn K (.ref f_q5)=true)
  (a_q4:PySem.W.nsIn K mainGlobals "is_tie"=some (some (.ref f_q4)))
  (l_q4:K.lookup f_q4=some ⟨oc_q4,od_q4,.func (PySem.W.fnOf "is_tie" "is_tie" (defArgs mt) (defBody mt) (defScope mt) .none kV_q4 dc_q4 pm_q4 an_q4 cd_q4 ct_q4),sl_q4⟩)
  (c_q4:PySem.W.codeIn K cd_q4 "is_tie"=true)
  (k_q4:PySem.W.keepIn K (.ref f_q4)=true)
  (a_q22:PySem.W.nsIn K mainGlobals "refuse_wrong"=some (some (.ref f_q22)))
  (l_q22:K.lookup f_q22=some ⟨oc_q22,od_q22,.func (PySem.W.fnOf "refuse_wrong" "refuse_wrong" (defArgs iy) (defBody iy) (defScope iy) .none kV_q22 dc_q22 pm_q22 an_q22 cd_q22 ct_q22),sl_q22⟩)
  (c_q22:PySem.W.codeIn K cd_q22 "refuse_wrong"=true)
  (k_q22:PySem.W.keepIn K (.ref f_q22)=true)
  (a_q18:PySem.W.nsIn K mainGlobals "lesser_first"=some (some (.ref f_q18)))
  (l_q18:K.lookup f_q18=some ⟨oc_q18,od_q18,.func (PySem.W.fnOf "lesser_first" "lesser_first" (defArgs gP) (defBody gP) (defScope gP) .none kV_q18 dc_q18 pm_q18 an_q18 cd_q18 ct_q18),sl_q18⟩)
  (c_q18:PySem.W.codeIn K cd_q18 "lesser_first"=true)
  (k_q18:PySem.W.keepIn K (.ref f_q18)=true)
  (a_q20:PySem.W.nsIn K mainGlobals "put_pair"=some (some (.ref f_q20)))
  (l_q20:K.lookup f_q20=some ⟨oc_q20,od_q20,.func (PySem.W.fnOf "put_pair" "put_pair" (defArgs iO) (defBody iO) (defScope iO) .none kV_q20 dc_q20 pm_q20 an_q20 cd_q20 ct_q20),sl_q20⟩)
  (c_q20:PySem.W.codeIn K cd_q20 "put_pair"=true)
  (k_q20:PySem.W.keepIn K (.ref f_q20)=true)
  (a_q6:PySem.W.nsIn K mainGlobals "joins_of"=some (some (.ref f_q6)))
  (l_q6:K.lookup f_q6=some ⟨oc_q6,od_q6,.func (PySem.W.fnOf "joins_of" "joins_of" (defArgs mf) (defBody mf) (defScope mf) .none kV_q6 dc_q6 pm_q6 an_q6 cd_q6 ct_q6),sl_q6⟩)
  (c_q6:PySem.W.codeIn K cd_q6 "joins_of"=true)
  (k_q6:PySem.W.keepIn K (.ref f_q6)=true)
  (a_q0:PySem.W.findIn K (.ref C) "__init__"=some (some (.ref f_q0)))
  (i_q0:PySem.W.isFn K (.ref f_q0)=true)
  (l_q0:K.lookup f_q0=some ⟨oc_q0,od_q0,.func (PySem.W.fnOf "__init__" "Web.__init__" (defArgs kL) (defBody kL) (defScope kL) .none kV_q0 dc_q0 pm_q0 an_q0 cd_q0 ct_q0),sl_q0⟩)
  (c_q0:PySem.W.codeIn K cd_q0 "Web.__init__"=true)
  (k_q0:PySem.W.keepIn K (.ref f_q0)=true)
  (a_q2:PySem.W.findIn K (.ref C) "size"=some (some (.ref f_q2)))
  (i_q2:PySem.W.isFn K (.ref f_q2)=true)
  (l_q2:K.lookup f_q2=some ⟨oc_q2,od_q2,.func (PySem.W.fnOf "size" "Web.size" (defArgs ng) (defBody ng) (defScope ng) .none kV_q2 dc_q2 pm_q2 an_q2 cd_q2 ct_q2),sl_q2⟩)
  (c_q2:PySem.W.codeIn K cd_q2 "Web.size"=true)
  (k_q2:PySem.W.keepIn K (.ref f_q2)=true)
  (a_q1:PySem.W.findIn K (.ref C) "near"=some (some (.ref f_q1)))
  (i_q1:PySem.W.isFn K (.ref f_q1)=true)
  (l_q1:K.lookup f_q1=some ⟨oc_q1,od_q1,.func (PySem.W.fnOf "near" "Web.near" (defArgs lp) (defBody lp) (defScope lp) .none kV_q1 dc_q1 pm_q1 an_q1 cd_q1 ct_q1),sl_q1⟩)
  (c_q1:PySem.W.codeIn K cd_q1 "Web.near"=true)
  (k_q1:PySem.W.keepIn K (.ref f_q1)=true)
  (a_q21:PySem.W.nsIn K mainGlobals "reached"=some (some (.ref f_q21)))
  (l_q21:K.lookup f_q21=some ⟨oc_q21,od_q21,.func (PySem.W.fnOf "reached" "reached" (defArgs f6) (defBody f6) (defScope f6) (.ref td_r) kV_q21 dc_q21 pm_q21 an_q21 cd_q21 ct_q21),sl_q21⟩)
  (c_q21:PySem.W.codeIn K cd_q21 "reached"=true)
  (k_q21:PySem.W.keepIn K (.ref f_q21)=true)
  (a_q19:PySem.W.nsIn K mainGlobals "parts_of"=some (some (.ref f_q19)))
  (l_q19:K.lookup f_q19=some ⟨oc_q19,od_q19,.func (PySem.W.fnOf "parts_of" "parts_of" (defArgs eA) (defBody eA) (defScope eA) .none kV_q19 dc_q19 pm_q19 an_q19 (.ref cc) ct_q19),sl_q19⟩)
  (c_q19:PySem.W.codeIn K (.ref cc) "parts_of"=true)
  (k_q19:PySem.W.keepIn K (.ref f_q19)=true)
  (a_q16:PySem.W.nsIn K mainGlobals "_law_whole"=some (some (.ref f_q16)))
  (l_q16:K.lookup f_q16=some ⟨oc_q16,od_q16,.func (PySem.W.fnOf "_law_whole" "_law_whole" (defArgs iR) (defBody iR) (defScope iR) .none kV_q16 dc_q16 pm_q16 an_q16 cd_q16 ct_q16),sl_q16⟩)
  (c_q16:PySem.W.codeIn K cd_q16 "_law_whole"=true)
  (k_q16:PySem.W.keepIn K (.ref f_q16)=true)
  (a_q9:PySem.W.nsIn K mainGlobals "_law_come_to"=some (some (.ref f_q9)))
  (l_q9:K.lookup f_q9=some ⟨oc_q9,od_q9,.func (PySem.W.fnOf "_law_come_to" "_law_come_to" (defArgs nD) (defBody nD) (defScope nD) .none kV_q9 dc_q9 pm_q9 an_q9 cd_q9 ct_q9),sl_q9⟩)
  (c_q9:PySem.W.codeIn K cd_q9 "_law_come_to"=true)
  (k_q9:PySem.W.keepIn K (.ref f_q9)=true)
  (a_q13:PySem.W.nsIn K mainGlobals "_law_parts_are"=some (some (.ref f_q13)))
  (l_q13:K.lookup f_q13=some ⟨oc_q13,od_q13,.func (PySem.W.fnOf "_law_parts_are" "_law_parts_are" (defArgs im) (defBody im) (defScope im) .none kV_q13 dc_q13 pm_q13 an_q13 cd_q13 ct_q13),sl_q13⟩)
  (c_q13:PySem.W.codeIn K cd_q13 "_law_parts_are"=true)
  (k_q13:PySem.W.keepIn K (.ref f_q13)=true)
  (a_q7:PySem.W.nsIn K mainGlobals "law"=some (some (.ref f_q7)))
  (l_q7:K.lookup f_q7=some ⟨oc_q7,od_q7,.func (PySem.W.fnOf "law" "law" (defArgs nj) (defBody nj) (defScope nj) .none kV_q7 dc_q7 pm_q7 an_q7 cd_q7 ct_q7),sl_q7⟩)
  (c_q7:PySem.W.codeIn K cd_q7 "law"=true)
  (k_q7:PySem.W.keepIn K (.ref f_q7)=true)
  (pg:PySem.W.plainGet K C Str.empty=true)
  (hd:PySem.W.hasDictIn K C=true)
  (po:PySem.W.plainOver K C=true)
  (sa:PySem.W.findIn K (.ref C) "__setattr__"=some (some (.builtin "object.__setattr__")))
  (mkc:PySem.W.makesIn K C=true)
  (kc:PySem.W.keepIn K (.ref C)=true)
  (n_joins:PySem.W.findIn K (.ref C) "joins"=some none)
  (n_kinds:PySem.W.findIn K (.ref C) "kinds"=some none)
  (n_ties:PySem.W.findIn K (.ref C) "ties"=some none)
  (z_all:PySem.W.nsIn K mainGlobals "all"=some none)
  (z_bool:PySem.W.nsIn K mainGlobals "bool"=some none)
  (z_dict:PySem.W.nsIn K mainGlobals "dict"=some none)
  (z_int:PySem.W.nsIn K mainGlobals "int"=some none)
  (z_isinstance:PySem.W.nsIn K mainGlobals "isinstance"=some none)
  (z_len:PySem.W.nsIn K mainGlobals "len"=some none)
  (z_list:PySem.W.nsIn K mainGlobals "list"=some none)
  (z_max:PySem.W.nsIn K mainGlobals "max"=some none)
  (z_range:PySem.W.nsIn K mainGlobals "range"=some none)
  (z_sorted:PySem.W.nsIn K mainGlobals "sorted"=some none)
  (z_tuple:PySem.W.nsIn K mainGlobals "tuple"=some none)
  (t_MOST_PLACES:PySem.W.nsIn K mainGlobals "MOST_PLACES"=some (some (.int 7 tk_MOST_PLACES)))
  (t_MOST_TIES:PySem.W.nsIn K mainGlobals "MOST_TIES"=some (some (.int 12 tk_MOST_TIES)))
  (t_MOST_LETTERS:PySem.W.nsIn K mainGlobals "MOST_LETTERS"=some (some (.int 3 tk_MOST_LETTERS)))
  (ltr:K.lookup td_r=some ⟨otc,otd,.seq #[Value.none] ont,ots⟩)
  (tin:PySem.W.tabIn K "parts_of"=some (cc,tb))
  (chh:PySem.W.codeHdIn K cc tb=true)
  (nll:(K.all fun p=>p.2.cls != .type "list")=true) :
  ∃ fd:FuncData,(∀ (s:Shared) (v:Value),BindsTo s fd ⟨[v],[]⟩ [("_law_script",v)])∧∀ base:Heap,K.In base→base.Ns mainGlobals mg→base.BuiltinsAt mg tb→FnOk l.prog w K mg base CX0 6 fa fd ["_law_script"] (spLawT (lamW tb) K):=by
 have e:=hfa.symm.trans (YE X G a_q7)
 cases e
 have F_q8:=ba (st:=nC) l_q8 c_q8 k_q8
 have F_q12:=ba (st:=g_) l_q12 c_q12 k_q12
 have F_q14:=ba (st:=hU) l_q14 c_q14 k_q14
 have F_q10:=ba (st:=dB) l_q10 c_q10 k_q10
 have F_q11:=ba (st:=gS) l_q11 c_q11 k_q11
 have F_q17:=ba (st:=gs) l_q17 c_q17 k_q17
 have F_q15:=ba (st:=ga) l_q15 c_q15 k_q15
 have F_q3:=ba (st:=k6) l_q3 c_q3 k_q3
 have F_q5:=ba (st:=mK) l_q5 c_q5 k_q5
 have F_q4:=ba (st:=mt) l_q4 c_q4 k_q4
 have F_q22:=ba (st:=iy) l_q22 c_q22 k_q22
 have F_q18:=ba (st:=gP) l_q18 c_q18 k_q18
 have F_q20:=ba (st:=iO) l_q20 c_q20 k_q20
 have F_q6:=ba (st:=mf) l_q6 c_q6 k_q6
 have F_q0:=ba (st:=kL) l_q0 c_q0 k_q0
 have F_q2:=ba (st:=ng) l_q2 c_q2 k_q2
 have F_q1:=ba (st:=lp) l_q1 c_q1 k_q1
 have F_q21:=uI (st:=f6) l_q21 c_q21 k_q21 ltr
 have F_q19:=tW (st:=eA) l_q19 c_q19 k_q19
 have F0_parts_of:=F_q19.f
 have B_q19:=F0_parts_of.binds (ps:=["web"]) fun _ _ _ _ _ _ us hl=>by obtain⟨v0,rfl⟩:=fm hl;rfl
 have F_q16:=ba (st:=iR) l_q16 c_q16 k_q16
 have F_q9:=ba (st:=nD) l_q9 c_q9 k_q9
 have F_q13:=ba (st:=im) l_q13 c_q13 k_q13
 have F_q7:=ba (st:=nj) l_q7 c_q7 k_q7
 have T:Txt K mg ⟨C,f_q8,_,f_q12,_,f_q14,_,f_q10,_,f_q11,_,f_q17,_,f_q15,_,f_q3,_,f_q5,_,f_q4,_,f_q22,_,f_q18,_,f_q20,_,f_q6,_,f_q0,_,f_q2,_,f_q1,_,f_q21,_,f_q19,_,f_q16,_,f_q9,_,f_q13,_,f_q7,_,tk_MOST_PLACES,tk_MOST_TIES,tk_MOST_LETTERS,tb,cc⟩:={
  cl:=⟨pg,hd,po,sa⟩
  mkC:=⟨mkc,a_q0,i_q0,kc⟩
  mgC:=YE X G aC
  na_joins:=n_joins
  na_kinds:=n_kinds
  na_ties:=n_ties
  fn_q8:=F_q8
  bd_q8:=F_q8.binds fun _ _ _ _ _ _ us hl=>by obtain⟨v0,v1,v2,rfl⟩:=lE hl;rfl
  g_q8:=YE X G a_q8
  fn_q12:=F_q12
  bd_q12:=F_q12.binds fun _ _ _ _ _ _ us hl=>by obtain⟨v0,v1,rfl⟩:=dM hl;rfl
  g_q12:=YE X G a_q12
  fn_q14:=F_q14
  bd_q14:=F_q14.binds fun _ _ _ _ _ _ us hl=>by obtain⟨v0,v1,rfl⟩:=dM hl;rfl
  g_q14:=YE X G a_q14
  fn_q10:=F_q10
  bd_q10:=F_q10.binds fun _ _ _ _ _ _ us hl=>by obtain⟨v0,v1,rfl⟩:=dM hl;rfl
  g_q10:=YE X G a_q10
  fn_q11:=F_q11
  bd_q11:=F_q11.binds fun _ _ _ _ _ _ us hl=>by obtain⟨v0,v1,rfl⟩:=dM hl;rfl
  g_q11:=YE X G a_q11
  fn_q17:=F_q17
  bd_q17:=F_q17.binds fun _ _ _ _ _ _ us hl=>by obtain⟨v0,v1,rfl⟩:=dM hl;rfl
  g_q17:=YE X G a_q17
  fn_q15:=F_q15
  bd_q15:=F_q15.binds fun _ _ _ _ _ _ us hl=>by obtain⟨v0,v1,v2,rfl⟩:=lE hl;rfl
  g_q15:=YE X G a_q15
  fn_q3:=F_q3
  bd_q3:=F_q3.binds fun _ _ _ _ _ _ us hl=>by obtain⟨v0,rfl⟩:=fm hl;rfl
  g_q3:=YE X G a_q3
  fn_q5:=F_q5
  bd_q5:=F_q5.binds fun _ _ _ _ _ _ us hl=>by obtain⟨v0,rfl⟩:=fm hl;rfl
  g_q5:=YE X G a_q5
  fn_q4:=F_q4
  bd_q4:=F_q4.binds fun _ _ _ _ _ _ us hl=>by obtain⟨v0,v1,rfl⟩:=dM hl;rfl
  g_q4:=YE X G a_q4
  fn_q22:=F_q22
  bd_q22:=F_q22.binds fun _ _ _ _ _ _ us hl=>by obtain⟨v0,v1,rfl⟩:=dM hl;rfl
  g_q22:=YE X G a_q22
  fn_q18:=F_q18
  bd_q18:=F_q18.binds fun _ _ _ _ _ _ us hl=>by obtain⟨v0,rfl⟩:=fm hl;rfl
  g_q18:=YE X G a_q18
  fn_q20:=F_q20
  bd_q20:=F_q20.binds fun _ _ _ _ _ _ us hl=>by obtain⟨v0,v1,v2,rfl⟩:=lE hl;rfl
  g_q20:=YE X G a_q20
  fn_q6:=F_q6
  bd_q6:=F_q6.binds fun _ _ _ _ _ _ us hl=>by obtain⟨v0,rfl⟩:=fm hl;rfl
  g_q6:=YE X G a_q6
  fn_q0:=F_q0
  bd_q0:=F_q0.binds fun _ _ _ _ _ _ us hl=>by obtain⟨v0,v1,v2,rfl⟩:=lE hl;rfl
  fn_q2:=F_q2
  bd_q2:=F_q2.binds fun _ _ _ _ _ _ us hl=>by obtain⟨v0,rfl⟩:=fm hl;rfl
  mt_q2:=⟨a_q2,i_q2,k_q2⟩
  fn_q1:=F_q1
  bd_q1:=F_q1.binds fun _ _ _ _ _ _ us hl=>by obtain⟨v0,v1,rfl⟩:=dM hl;rfl
  mt_q1:=⟨a_q1,i_q1,k_q1⟩
  fn_q21:=F_q21
  bd_q21:=F_q21.binds fun _ _ _ _ _ _ _ us hl=>by obtain⟨v0,v1,rfl⟩:=dM (Nat.succ.inj hl);exact⟨_,rfl,rfl⟩
  g_q21:=YE X G a_q21
  fn_q19:=F_q19
  bd_q19:=B_q19
  g_q19:=YE X G a_q19
  fn_q16:=F_q16
  bd_q16:=F_q16.binds fun _ _ _ _ _ _ us hl=>by obtain⟨v0,rfl⟩:=fm hl;rfl
  g_q16:=YE X G a_q16
  fn_q9:=F_q9
  bd_q9:=F_q9.binds fun _ _ _ _ _ _ us hl=>by obtain⟨v0,v1,rfl⟩:=dM hl;rfl
  g_q9:=YE X G a_q9
  fn_q13:=F_q13
  bd_q13:=F_q13.binds fun _ _ _ _ _ _ us hl=>by obtain⟨v0,v1,v2,rfl⟩:=lE hl;rfl
  g_q13:=YE X G a_q13
  fn_q7:=F_q7
  bd_q7:=F_q7.binds fun _ _ _ _ _ _ us hl=>by obtain⟨v0,rfl⟩:=fm hl;rfl
  g_q7:=YE X G a_q7
  b_all:=YW X G z_all
  b_bool:=YW X G z_bool
  b_dict:=YW X G z_dict
  b_int:=YW X G z_int
  b_isinstance:=YW X G z_isinstance
  b_len:=YW X G z_len
  b_list:=YW X G z_list
  b_max:=YW X G z_max
  b_range:=YW X G z_range
  b_sorted:=YW X G z_sorted
  b_tuple:=YW X G z_tuple
  c_MOST_PLACES:=YE X G t_MOST_PLACES
  c_MOST_TIES:=YE X G t_MOST_TIES
  c_MOST_LETTERS:=YE X G t_MOST_LETTERS
  ch:=chh
  nl:=sX nll }
 exact⟨_,fun s v=>.of_eq rfl,fun base _ _ hB=>(xZ T hB).imp (nh (law_true _))⟩
end My
namespace PySem.W.Fast
theorem tw1404126222178755584:True:=.intro
theorem tw10014646137797615680:True:=.intro
theorem tw4517119920427598944:True:=.intro
theorem tw3311308471250403520:True:=.intro
theorem tw11843104432912795136:True:=.intro
theorem tw4013840517635273472:True:=.intro
theorem tw8535678162533922624:True:=.intro
theorem tw2318565819081024352:True:=.intro
theorem tw8145631444993299777:True:=.intro
theorem tw2816112197299709473:True:=.intro
theorem tw14281159595207301697:True:=.intro
theorem tw15787087712673635169:True:=.intro
theorem tw1368585963106478977:True:=.intro
theorem tw12943461724943103905:True:=.intro
theorem tw2751483155633167490:True:=.intro
theorem tw5617862390957835714:True:=.intro
theorem tw1313462644470674531:True:=.intro
theorem tw63514161832039715:True:=.intro
theorem tw10263220477086459171:True:=.intro
theorem tw17046501703903111459:True:=.intro
theorem tw9504465468078006691:True:=.intro
theorem tw8464347018257545731:True:=.intro
theorem tw4995921333406811715:True:=.intro
theorem tw12430954950437999395:True:=.intro
theorem tw16628096282840744739:True:=.intro
theorem tw5518427845876024356:True:=.intro
theorem tw5108242418043686596:True:=.intro
theorem tw6360931284524662628:True:=.intro
theorem tw13272656095553514597:True:=.intro
theorem tw9822699864738759173:True:=.intro
theorem tw11767197479415775045:True:=.intro
theorem tw14763914353958492005:True:=.intro
theorem tw839705001169933446:True:=.intro
theorem tw18282709493867055430:True:=.intro
theorem tw142955485918580230:True:=.intro
theorem tw15770717677461344870:True:=.intro
theorem tw3805988950772378278:True:=.intro
theorem tw14673211240479893286:True:=.intro
theorem tw11485594995721287526:True:=.intro
theorem tw4842191797728978854:True:=.intro
theorem tw2238503181553900935:True:=.intro
theorem tw15814005176293768743:True:=.intro
theorem tw18051861619339285127:True:=.intro
theorem tw6914857767540502503:True:=.intro
theorem tw7884586062448177448:True:=.intro
theorem tw2207376568693727816:True:=.intro
theorem tw5934654944227756936:True:=.intro
theorem tw16782172331899628488:True:=.intro
theorem tw2098127746993834089:True:=.intro
theorem tw18267790615187521705:True:=.intro
theorem tw11260853467035409673:True:=.intro
theorem tw16830698976377225226:True:=.intro
theorem tw2044386220311524458:True:=.intro
theorem tw762740302758373514:True:=.intro
theorem tw1041950602394320010:True:=.intro
theorem tw3484240958554501290:True:=.intro
theorem tw3711181603651945898:True:=.intro
theorem tw13203624822983211946:True:=.intro
theorem tw6989195943087029194:True:=.intro
theorem tw16298440172825719851:True:=.intro
theorem tw8996990068040673483:True:=.intro
theorem tw17924848891457660459:True:=.intro
theorem tw7007204619175016395:True:=.intro
theorem tw4165088005277125836:True:=.intro
theorem tw16310014161285300492:True:=.intro
theorem tw9866120223626154412:True:=.intro
theorem tw13563742176373731884:True:=.intro
theorem tw4058803442186441324:True:=.intro
theorem tw11414706356287161068:True:=.intro
theorem tw8766597134119392076:True:=.intro
theorem tw5957368385434992556:True:=.intro
theorem tw17421217822173389933:True:=.intro
theorem tw10479536681237441741:True:=.intro
theorem tw13341998826903321901:True:=.intro
theorem tw2366418547160490349:True:=.intro
theorem tw2439482911863182893:True:=.intro
theorem tw11194686840636315982:True:=.intro
theorem tw15430048737053139470:True:=.intro
theorem tw16985802031168838190:True:=.intro
theorem tw13753894989080648270:True:=.intro
theorem tw15174214210478618446:True:=.intro
theorem tw10420959509908266926:True:=.intro
theorem tw11423040472718972495:True:=.intro
theorem tw10929841832837159535:True:=.intro
theorem tw16070921999753921648:True:=.intro
theorem tw7877923752437040304:True:=.intro
theorem tw8499385022087462128:True:=.intro
theorem tw9449735337951183280:True:=.intro
theorem tw1932001855196726736:True:=.intro
theorem tw12376556601325086256:True:=.intro
theorem tw16615071349560419056:True:=.intro
theorem tw13353435127611850897:True:=.intro
theorem tw2423734600981876017:True:=.intro
theorem tw5431309544120639889:True:=.intro
theorem tw17920916279488153393:True:=.intro
theorem tw5581921958074929426:True:=.intro
theorem tw1378024985179549234:True:=.intro
theorem tw15771455093475140402:True:=.intro
theorem tw11107569511499333554:True:=.intro
theorem tw13529050322237745138:True:=.intro
theorem tw12163312997105783859:True:=.intro
theorem tw6508363620071072883:True:=.intro
theorem tw11480284488951812435:True:=.intro
theorem tw6189114391595620723:True:=.intro
theorem tw15523616026338510323:True:=.intro
theorem tw1515093815376693843:True:=.intro
theorem tw18189403851853906516:True:=.intro
theorem tw17276346875814516789:True:=.intro
theorem tw10391326913197949013:True:=.intro
theorem tw5341254970660665461:True:=.intro
theorem tw7752335075414870357:True:=.intro
theorem tw1273902627517331861:True:=.intro
theorem tw5915275515920499125:True:=.intro
theorem tw10102964636656872981:True:=.intro
theorem tw2556936556354152341:True:=.intro
theorem tw14653124124069315509:True:=.intro
theorem tw8346016814512531542:True:=.intro
theorem tw1287617799356428598:True:=.intro
theorem tw10772143634284281174:True:=.intro
theorem tw16748342400444879286:True:=.intro
theorem tw5417260762620225014:True:=.intro
theorem tw11303811306777650678:True:=.intro
theorem tw8751766645165811702:True:=.intro
theorem tw2801014072895648119:True:=.intro
theorem tw5874831926059351799:True:=.intro
theorem tw8409816754154591063:True:=.intro
theorem tw2088478500914284375:True:=.intro
theorem tw17701830447720832887:True:=.intro
theorem tw4716772586482549623:True:=.intro
theorem tw16072248043964637368:True:=.intro
theorem tw8129601314885811928:True:=.intro
theorem tw18130789337010851544:True:=.intro
theorem tw4463354341826788152:True:=.intro
theorem tw15591671472495536313:True:=.intro
theorem tw13397367867842292089:True:=.intro
theorem tw1594801207674210041:True:=.intro
theorem tw1109045346721181818:True:=.intro
theorem tw11533916162384387258:True:=.intro
theorem tw14282926165813903642:True:=.intro
theorem tw12530264939524241850:True:=.intro
theorem tw8603844592317055578:True:=.intro
theorem tw7814422134815663834:True:=.intro
theorem tw10175227140814002010:True:=.intro
theorem tw975420910455867451:True:=.intro
theorem tw13300756079821306939:True:=.intro
theorem tw302181830174002267:True:=.intro
theorem tw16485825416385930459:True:=.intro
theorem tw2327064280902640027:True:=.intro
theorem tw17334016417254712763:True:=.intro
theorem tw12543570658582148603:True:=.intro
theorem tw12052372627357700731:True:=.intro
theorem tw7652481223658353659:True:=.intro
theorem tw5320597154537145596:True:=.intro
theorem tw3496054156772238684:True:=.intro
theorem tw3759537140456447548:True:=.intro
theorem tw4725275869467734844:True:=.intro
theorem tw11261394989488030781:True:=.intro
theorem tw16515043838054340797:True:=.intro
theorem tw5987110109812572509:True:=.intro
theorem tw15601128446151924253:True:=.intro
theorem tw10400666104407082973:True:=.intro
theorem tw16501277314230138942:True:=.intro
theorem tw1118776776953351294:True:=.intro
theorem tw3371775834264743134:True:=.intro
theorem tw8253093396041344254:True:=.intro
theorem tw10132151144403522910:True:=.intro
theorem tw6424777528330833246:True:=.intro
theorem tw4956497839140507070:True:=.intro
theorem tw3492360728687834654:True:=.intro
theorem tw8007905601700738686:True:=.intro
theorem tw7028144137195694974:True:=.intro
theorem tw5247210476178302175:True:=.intro
theorem tw16178063030035986815:True:=.intro
theorem tw6100169715890425407:True:=.intro
theorem tw11841507912610765503:True:=.intro
theorem tw11502996738195031871:True:=.intro
theorem tw8306936521595655103:True:=.intro
end PySem.W.Fast
open PySem PySem.W PyProof.Rows
set_option maxRecDepth 100000 in
set_option maxHeartbeats 0 in
theorem PySem.Challenge.cw_tieword_k05_parts_holds : PySem.Challenge.rw_tieword_k05_parts.Holds := by
  w_on; refine PySem.W.holds_law (by decide +kernel) fun said=>?_; o_head (PySem.W.kmHook My.KK [3,71,75,76,80,81,87,88,94,95,101,102,108,109,115,116,122,123,134,135,141,142,153,154,156,157,167,168,174,175,181,182,188,189,193,194,200,201,207,208,212,213,217,218,224,225,231,232,238,239] (fun _=>by kernel_rfl) [163]); (case hw=>w_witness2)
  k_fill
  refine L2.walk_ofT (l:=PySem.Challenge.rw_tieword_k05_parts) (n:=63) (k:=6) (x := "_law_script") (CX:=L2.CX0) (sp:=L2.spLawT (My.lamW 163)) (t:=163) (c0:=167) (lpos:=My.lamQ) rfl (by decide) rfl ⟨rfl,by decide,by decide⟩ (fun w h Y=>⟨PySem.W.km_in_of Y,PySem.W.km_tabs_of Y _ (List.mem_singleton.2 rfl)⟩) ?ch ?kt (by decide) ?F (fun K H a ns hl hO hS=>⟨a,ns,rfl,hS,hl,hO,fun H' q=>⟨rfl,q⟩⟩) fun _ _ _ _ z=>z
  case ch=>intro w; kernel_rfl
  case kt=>intro w; kernel_rfl
  case F=>
    intro w mg fa h KX G hmg
    refine' My.all_mk (tb:=163) (cc:=167) KX G hmg ..
    all_goals (try k_is)
    all_goals kernel_rfl
