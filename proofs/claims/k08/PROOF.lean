import PyProof.Rows.All
import Wide.All
import OpenK.AllK
import Wide.FinOn
import Lean
import PyProof.EqAt
import PyProof.EqKinds
import PyProof.TupleCall
import PyProof.EnumFor
import PyProof.EnumMake
import PyProof.ZipIter
import KE.KRevIter
import PyProof.ListRange
import PyProof.FactsAll.range_iterator_1
import PyProof.StrOps2
import PySem.SetOps
import PyProof.Rows.SetFrom
import PyProof.CollectWalk
import PyProof.Rows.SortShell
import PyProof.SetRoads
import PyProof.Rows.MinMaxN
import PySem.Challenge.RW_tieword_k08_rounds_to_a_settled_parting
set_option Elab.async false
set_option linter.all false
set_option maxRecDepth 100000
set_option compiler.extract_closed false
set_option bootstrap.genMatcherCode false
set_option genSizeOf false
set_option genSizeOfSpec false
namespace L2
def Ya:=@Option.bind_some
def Yb:=@PySem.wpAny_bind
def Yc:=@List.mem_cons_of_mem
def Yd:=@List.mem_cons_self
def Ye:=@List.length_map
def Yf:=@PySem.wpAny_pure
def Yg:=@PySem.Heap.get?_push_of_some
def Yh:=@List.all_eq_true
def Yi:=@List.getElem?_eq_getElem
def Yj:=@Bool.false_ne_true
def Yk:=@List.getElem?_eq_some_iff
def Yl:=@Nat.le_refl
def Ym:=@List.mem_map
def Yn:=@PySem.Heap.get?_push_size
def Yo:=@Bool.and_eq_true
def Yp:=@PySem.Heap.lt_size
def Yq:=@Array.getElem?_eq_getElem
def Yr:=@Option.some.inj
def Ys:=@Nat.lt_of_lt_of_le
def Yt:=@List.length_append
def Yu:=@List.getElem?_map
def Yv:=@List.mem_cons
def Yw:=@Nat.ne_of_lt
def Yx:=@PySem.W.mg_of
def Yy:=@List.length_cons
def Yz:=@List.size_toArray
def YA:=@List.mem_of_getElem?
def YB:=@decide_eq_false
def YC:=@Array.length_toList
def YD:=@Nat.le_trans
def YE:=@decide_eq_true_eq
def YF:=@Nat.zero_le
def YG:=@List.length_replicate
def YH:=@List.map_cons
def YI:=@PySem.Heap.get?_update_ne
def YJ:=@List.mem_range
def YK:=@PySem.sizeLine_eq
def YL:=@List.getElem?_set_ne
def YM:=@Array.getElem?_toList
def YN:=@List.getD_eq_getElem?_getD
def YO:=@List.length_set
def YQ:=@List.length_singleton
def YR:=@PySem.PassesOwn.never
def YS:=@List.mem_append_right
def YT:=@decide_eq_true
def YU:=@PySem.Heap.get?_update_self
def YV:=@Int.emod_lt_of_pos
def YW:=@Array.getD_eq_getD_getElem?
def YX:=@Nat.lt_irrefl
def YY:=@List.length_eq_zero_iff
def YZ:=@List.getElem?_set_self
def Za:=@List.append_nil
def Zb:=@Int.emod_nonneg
def Zc:=@Int.toNat_natCast
def Zd:=@List.map_append
def Ze:=@List.mem_singleton
def Zf:=@PySem.W.mg_none_of
def Zg:=@Array.getElem?_eq_some_iff
def Zh:=@List.nodup_cons
def Zi:=@Nat.le_antisymm
def Zj:=@Nat.lt_succ_of_lt
def Zk:=@List.length_range
def Zl:=@Nat.le_of_lt_succ
def Zm:=@List.length_nil
def Zn:=@PySem.codeAny_builtin
def Zo:=@PySem.F.plainAttrs_list
def Zp:=@List.getElem?_append_right
def Zq:=@List.getElem?_append_left
def Zr:=@Nat.le_add_left
def Zs:=@congrArg
def Zt:=@PySem.wpAny_call_entry
def Zu:=@PySem.mem_of_lookup
def Zv:=@PySem.wpAny_truthy_bool
def Zw:=@List.map_map
def Zx:=@Array.mem_of_getElem?
def Zy:=@List.mem_append
def Zz:=@Bool.false_eq_true
def ZA:=@Nat.lt_of_le_of_ne
def ZB:=@Nat.lt_of_le_of_lt
def ZC:=@List.pairwise_cons
def ZD:=@PyProof.Rows.F.plain_set_update_loop
def ZE:=@PySem.Obj.data_mapFields
def ZF:=@PySem.Around.under_plainId
def ZG:=@Nat.le_of_lt
def ZH:=@Nat.ne_of_gt
def ZI:=@List.getElem_mem
def ZJ:=@List.getElem_of_mem
def ZK:=@PySem.wpAny_holding
def ZL:=@Ne.symm
def ZM:=@Option.map_some
def ZN:=@List.getElem?_eq_none
def ZO:=@Option.isSome_iff_exists
def ZP:=@Nat.lt_succ_self
def ZQ:=@List.length_take
def ZR:=@Nat.le_of_not_lt
def ZS:=@decide_eq_false_iff_not
def ZT:=@Int.eq_ofNat_of_zero_le
def ZU:=@Nat.le_of_eq
def ZV:=@PySem.wpAny_newObj_type
def ZW:=@of_decide_eq_true
def ZX:=@PyProof.Rows.callWith_type1
def ZY:=@Nat.le_succ
def ZZ:=@List.find?_cons
def Xa:=@Nat.lt_trans
def Xb:=@Nat.succ_pos
def Xc:=@Nat.zero_add
def Xd:=@PySem.Heap.size_push
def Xe:=@List.drop_eq_getElem_cons
def Xf:=@Nat.le_sub_one_of_lt
def Xg:=@PySem.wpAny_mono
def Xh:=@PySem.wpAny_passesOwn
def Xi:=@List.append_assoc
def Xj:=@PySem.F.slot_list_append
def Xk:=@PySem.F.type_list_append
def Xl:=@beq_eq_false_iff_ne
def Xm:=@List.getElem?_replicate
def Xn:=@List.getElem?_range
def Xo:=@List.getElem?_cons_succ
def Xp:=@PyProof.Rows.F.entry_set_update_loop
def Xq:=@PySem.wpAny_callSpecial?_slot
def Xr:=@PySem.wpAny_forIn_list
def Xs:=@List.not_mem_nil
def Xt:=@List.Perm.refl
def Xu:=@PySem.W.cellsFrom_some
def Xv:=@Array.getElem?_eq_none
def Xw:=@PySem.wpAny_specialOf
def Xx:=@PySem.Obj.isFreed_of_fields
def Xy:=@PySem.wpAny_ite_split
def Xz:=@PySem.Heap.get?_push_ne
def XA:=@List.ext_getElem?
def XB:=@PySem.F.slot_tuple_hash
def XC:=@List.nodup_iff_pairwise_ne
def XD:=@List.pairwise_iff_getElem
def XE:=@Classical.byContradiction
def XF:=@PySem.wpAny_setField
def XG:=@PySem.wpAny_isInstance
def XH:=@List.nodup_range
def XI:=@List.take_length
def XJ:=@Nat.add_sub_cancel'
def XL:=@List.map_id
def XM:=@Nat.lt_or_ge
def XN:=@List.filterMap_cons_some
def XO:=@PySem.wpAny_Call_Name_kw
def XQ:=@List.any_cons
def XR:=@List.all_cons
def XS:=@Nat.lt_add_of_pos_right
def XT:=@Nat.add_right_comm
def XU:=@PySem.Code.quiet_builtin
def XV:=@Array.forIn_toList
def XW:=@List.eraseIdx_cons_succ
def XX:=@PySem.Calls.callWith_builtin
def XY:=@PySem.SeqAt.eqAt_reads
def XZ:=@Nat.le_of_succ_le
def Va:=@List.pairwise_map
def Vb:=@PySem.eqIsQuiet_byValue
def Vc:=@Nat.lt_trichotomy
def Vd:=@PySem.wpAny_setState_of
def Ve:=@PySem.wpAny_storeSet_of
def Vf:=@List.take_add_one
def Vg:=@List.eraseIdx_eq_take_drop_succ
def Vh:=@PySem.wpAny_pyIter_slot
def Vi:=@if_false
def Vj:=@PySem.wpAny_seqItems
def Vk:=@PySem.F.slot_dict_get
def Vl:=@PySem.wpAny_typeOf
def Vm:=@PySem.hashByValue_scannable
def Vn:=@List.take_append_drop
def Vo:=@Nat.succ.inj
def Vp:=@PySem.wpAny_pyHash_str
def Vq:=@Nat.succ_le_succ
def Vr:=@PySem.Heap.size_update
def Vs:=@List.mem_append_left
def Vt:=@Array.mem_toList_iff
def Vu:=@Array.getElem_of_mem
def Vv:=@Bool.true_and
def Vw:=@PySem.wpAny_newList
def Vx:=@PySem.plainId_quiet
def Vy:=@beq_iff_eq
def Vz:=@Nat.mod_lt
def VA:=@List.mem_filter
def VB:=@List.filterMap_cons
def VC:=@PySem.wpAny_execs_nil
def VD:=@PySem.W.plainGet_of
def VE:=@PySem.pushCells_keeps
def VF:=@Nat.min_le_left
def VG:=@Nat.not_lt_zero
def VH:=@PySem.F.slot_set_iter
def VI:=@PySem.wpAny_updateSeq
def VJ:=@Int.toNat_of_nonneg
def VL:=@List.mem_filterMap
def VM:=@PySem.codeAny_mono
def VN:=@PySem.W.callWith_K
def VO:=@List.zip_cons_cons
def VP:=@Int.lt_of_le_of_lt
def VQ:=@Array.size_append
def VR:=@if_true
def VS:=@Nat.sub_lt
end L2
namespace L2
open PySem PySem.Spec PyProof.Rows
abbrev Kq:=PySem.W.Frag
abbrev Kv:=Value->Shared->Prop
abbrev Kp:=List (Addr×Obj)
abbrev Ks:=Str->Option Value
abbrev Ka:=Array (Int×Value)
abbrev Kb:=Bool->Shared->Prop
abbrev Ko:=Option Value->Shared->Prop
abbrev Kl:=List Value->Shared->Prop
abbrev Kr:=Result->Shared->Prop
abbrev Key:=Sum Int Str
def lx:Key->Value->Bool
 |.inl k,v=>Value.isInt k v
 |.inr x,v=>Value.isStrOf x v
def Er(w:World):Key->Int
 |.inl k=>hashInt k
 |.inr x=>hashStr w x
theorem bM:∀{k:Key}{v:Value},lx k v=true->(∃i t,k=Sum.inl i/\v=Value.int i t)\/(∃x t,k=Sum.inr x/\v=Value.str x t)
 |.inl i,v,h=>by
  obtain⟨t,e⟩:=Value.isInt_shape (k:=i) (v:=v) h;exact .inl ⟨i,t,rfl,e⟩
 |.inr x,v,h=>by
  obtain⟨t,e⟩:=Value.isStrOf_shape (x:=x) (v:=v) h;exact .inr ⟨x,t,rfl,e⟩
theorem tP(i:Int)(t:Tok):lx (.inl i) (.int i t)=true:=by simp[lx,Value.isInt]
theorem sL(x:Str)(t:Tok):lx (.inr x) (.str x t)=true:=by simp[lx,Value.isStrOf]
theorem Bx(a b:Int):decide ((Sum.inl a:Key)=Sum.inl b)=(a == b):=by
 by_cases e:a=b
 ·subst e;simp
 ·have h:¬(Sum.inl a:Key)=Sum.inl b:=fun q=>e (Sum.inl.inj q)
  rw[YB h];exact(Xl.mpr e).symm
theorem AX(a b:Str):decide ((Sum.inr a:Key)=Sum.inr b)=decide (a=b):=by
 by_cases e:a=b
 ·subst e;simp
 ·have h:¬(Sum.inr a:Key)=Sum.inr b:=fun q=>e (Sum.inr.inj q)
  rw[YB h,YB e]
theorem zO(a:Int)(b:Str):decide ((Sum.inl a:Key)=Sum.inr b)=false:=YB (fun q=>nomatch q)
theorem A7(a:Str)(b:Int):decide ((Sum.inr a:Key)=Sum.inl b)=false:=YB (fun q=>nomatch q)
def bX(prog:Program)(w:World):PySem.KeyKind prog w Key where
 is:=lx
 hash:=Er w
 inj:=fun v a b ha hb=>by
  rcases bM ha with⟨i,t,rfl,rfl⟩|⟨x,t,rfl,rfl⟩
  ·rcases bM hb with⟨j,u,rfl,e⟩|⟨y,u,rfl,e⟩
   ·injection e with e1 _;rw[e1]
   ·exact nomatch e
  ·rcases bM hb with⟨j,u,rfl,e⟩|⟨y,u,rfl,e⟩
   ·exact nomatch e
   ·injection e with e1 _;rw[e1]
 byValue:=fun k v h=>by
  rcases bM h with⟨i,t,rfl,rfl⟩|⟨x,t,rfl,rfl⟩<;>rfl
 pyHash:=fun hv h=>by
  rcases bM hv with⟨i,t,rfl,rfl⟩|⟨x,t,rfl,rfl⟩
  ·exact wpAny_pyHash_int h
  ·exact Vp h
 eqBool:=fun hu hv h=>by
  rcases bM hu with⟨i,t,rfl,rfl⟩|⟨x,t,rfl,rfl⟩
  ·rcases bM hv with⟨j,u,rfl,rfl⟩|⟨y,u,rfl,rfl⟩
   ·rw[Bx]at h;exact wpAny_eqBool_int h
   ·rw[zO]at h;exact SeqAt.EqAt.int_str i t y u _ _ _ _ h
  ·rcases bM hv with⟨j,u,rfl,rfl⟩|⟨y,u,rfl,rfl⟩
   ·rw[A7]at h;exact SeqAt.EqAt.str_int x t j u _ _ _ _ h
   ·rw[AX]at h;exact wpAny_eqBool_str h
 «strs»:=fun k x t v h=>by
  rcases bM h with⟨i,u,rfl,e⟩|⟨y,u,rfl,e⟩
  ·exact nomatch e
  ·injection e with e1 _;subst e1;cases v<;>rfl
theorem pe(prog:Program)(w:World)(i:Int)(t:Tok):(bX prog w).is (.inl i) (.int i t)=true:=tP i t
theorem oX(prog:Program)(w:World)(x:Str)(t:Tok):(bX prog w).is (.inr x) (.str x t)=true:=sL x t
inductive V where
 |non|bl (b:Bool)|int (i:Int)|str (x:Str)|byt (b:Array UInt8)|flt (b:UInt64)|ref (a:Addr)|ty (n:String)
def RelV:V->Value->Prop
 |.non,u=>u=Value.none
 |.bl b,u=>u=Value.bool b
 |.int i,u=>∃t,u=Value.int i t
 |.str x,u=>∃t,u=Value.str x t
 |.byt b,u=>∃t,u=Value.bytes b t
 |.flt b,u=>∃t,u=Value.float b t
 |.ref a,u=>u=Value.ref a
 |.ty n,u=>u=Value.type n
abbrev Vals:List V->List Value->Prop:=Paired RelV
theorem Vals.length{xs:List V}{us:List Value}(r:Vals xs us):xs.length=us.length:=Paired.length r
theorem Vals.get:∀{xs:List V}{us:List Value}{i:Nat}{x:V},Vals xs us->xs[i]?=some x->∃u,us[i]?=some u/\RelV x u
 |_,_,_,_,.nil,e=>by simp at e
 |_,_,0,_,.cons r _,e=>by simp at e;subst e;exact⟨_,rfl,r⟩
 |_,_,i+1,x,.cons _ t,e=>by
  obtain⟨u,h1,h2⟩:=Vals.get (i:=i) (x:=x) t (by simpa using e);exact⟨u,by simpa using h1,h2⟩
theorem Vals.append{xs ys:List V}{us ws:List Value}(h:Vals xs us)(s:Vals ys ws):Vals (xs++ys) (us++ws):=by
 induction h with
 |nil=>exact s
 |cons r _ ih=>exact .cons r ih
theorem Vals.take:∀{xs:List V}{us:List Value} (n:Nat),Vals xs us->Vals (xs.take n) (us.take n)
 |_,_,0,_=>.nil
 |_,_,_+1,.nil=>.nil
 |_,_,n+1,.cons r t=>.cons r (Vals.take n t)
theorem Vals.drop:∀{xs:List V}{us:List Value} (n:Nat),Vals xs us->Vals (xs.drop n) (us.drop n)
 |_,_,0,r=>r
 |_,_,_+1,.nil=>.nil
 |_,_,n+1,.cons _ t=>Vals.drop n t
def RelO:Option V->Option Value->Prop
 |some v,some u=>RelV v u
 |none,none=>True
 |_,_=>False
def KV{κ:Type}:List (κ×V)->List (κ×Value)->Prop:=Paired fun(p:κ×V) (q:κ×Value)=>p.1=q.1/\RelV p.2 q.2
def kV:Key->V
 |.inl i=>.int i
 |.inr x=>.str x
inductive HO where
 /-- a list -/
 |lst (xs:List V)
 /-- a tuple (never changes) -/
 |tup (xs:List V)
 /-- a dict whose keys are ints and texts;one whose keys are tuples of ints and texts (the empty one is both) -/
 |dK (kvs:List (Key×V))|dT (kvs:List (List Key×V))
 /-- a set of ints: its members,its size -/
 |set (S:Int->Bool) (n:Nat)
 /-- an instance of the class at C,its dict at dx,its attributes -/
 |ins (C dx:Addr) (fs:List (Str×V))
 /-- the dict of the instance at x -/
 |own (x:Addr)
 /-- the dict of an exception -/
 |xd (fs:List (Str×V))
 /-- a bound method,f of x -/
 |met (f x:Addr)
 /-- a range object lo,lo+1,.. below hi -/
 |rng (lo hi:Int)
 /-- a thing that is known to the object (the script;a dict while a loop walks it): read,never written while it is so -/
 |frz (o:Obj) (u:HO)
 /-- a code object's table -/
 |tbl (ps:Array Value)
 /-- any other thing,by what is true of its one object (a def of one's own: SetO a S n:=HO.ext fun h=>..) -/
 |ext (φ:Heap->Prop)
abbrev Hp:=Addr->Option HO
def upd(H:Hp)(a:Addr)(o:HO):Hp:=fun b=>if b=a then some o else H b
theorem aG{H:Hp}{a:Addr}{o:HO}:upd H a o a=some o:=by unfold upd;rw[if_pos rfl]
theorem au{H:Hp}{a b:Addr}{o:HO}(h:b≠a):upd H a o b=H b:=by unfold upd;rw[if_neg h]
theorem Cd{H:Hp}{a b:Addr}{o u:HO}(h:H a=some o)(h':H b=some u)(d:o≠u):a≠b:=by intro e;subst e;rw[h]at h';exact d (Yr h')
theorem aH{H:Hp}{a b:Addr}{o:HO}(h:H a=some o)(h':H b=none):a≠b:=by intro e;subst e;rw[h]at h';cases h'
def NoD(h:Heap)(a:Addr):Prop:=∃o,h.get? a=some o/\o.dict=none
theorem NoD.new(h:Heap)(items:Array Value):NoD (h.push {cls:=.type "tuple",data:=.seq items}) h.objs.size:=⟨_,Yn _ rfl,rfl⟩
section
variable(P:Program) (w:World)
def ObjOk(H:Hp)(h:Heap)(a:Addr):HO->Prop
 |.lst xs=>xs.length<=sizeLine/\∃(its:List Value) (n:Nat),Vals xs its/\h.get? a=some {cls:=.type "list",data:=.seq its.toArray n}
 |.tup xs=>xs.length<=sizeLine/\∃its:List Value,Vals xs its/\IsTup h a its.toArray/\NoD h a
 |.dK kvs=>kvs.length<=sizeLine/\(a == sysModules)=false/\∃vs,KV kvs vs/\h.DictOf (bX P w) a vs
 |.dT kvs=>kvs.length<=sizeLine/\(a == sysModules)=false/\∃xs:List (List Key×Addr×Value),
   Paired (fun(p:List Key×V) (q:List Key×Addr×Value)=>p.1=q.1/\H q.2.1=some (.tup (p.1.map kV))/\RelV p.2 q.2.2) kvs xs /\
   ∃o es ep,h.get? a=some o/\o.ExactDict/\o.data=.dict es ep/\es.toList=xs.map (entryOfKey (tupleKind (bX P w)))/\(xs.map (·.1)).Nodup
 |.set S n=>h.SetOf (intKind P w) a S n
 |.ins C dx fs=>H dx=some (.own a)/\fs.length<=1000/\dx≠a/\h.get? a=some (PySem.W.instObj C dx) /\
   ∃mA,h.Ns1 dx mA/\(∀f,RelO (fs.lookup f) (mA f))/\PySem.Within mA (fs.map (·.1))
 |.own _=>∃o,h.get? a=some o
 |.xd fs=>∃mA,h.Ns1 a mA/\∀f,RelO (fs.lookup f) (mA f)
 |.rng lo hi=>∃t u v,h.get? a=some {cls:=.type "range",data:=.fields #[.int lo t,.int hi u,.int 1 v]}
 |.frz o u=>h.get? a=some o/\ObjOk H h a u
 |.tbl ps=>h.get? a=some {cls:=.none,data:=.fields ps}
 |.met f x=>h.get? a=some (PySem.W.methodObj (.ref f) (.ref x))
 |.ext φ=>φ h/\(∃o,h.get? a=some o)/\∀h1 h2:Heap,φ h1->(∀o,h1.get? a=some o->h2.get? a=some o)->φ h2
def HOk(H:Hp)(h:Heap):Prop:=∀a o,H a=some o->ObjOk P w H h a o
end
section
variable{P:Program}{w:World}{H H':Hp}{h h':Heap}{a:Addr}{o:HO}
theorem ObjOk.lt(x:ObjOk P w H h a o):a<h.objs.size:=by
 cases o with
 |lst xs=>obtain⟨_,_,_,_,e⟩:=x;exact Yp e
 |tup xs=>obtain⟨_,_,_,p,_⟩:=x;exact p.lt
 |dK kvs=>obtain⟨_,_,_,_,o,_,_,e,_⟩:=x;exact Yp e
 |dT kvs=>obtain⟨_,_,_,_,o,_,_,e,_⟩:=x;exact Yp e
 |set S n=>obtain⟨o,_,_,_,e,_⟩:=x;exact Yp e
 |ins C dx fs=>obtain⟨_,_,_,e,_⟩:=x;exact Yp e
 |own y=>obtain⟨_,e⟩:=x;exact Yp e
 |xd fs=>obtain⟨_,⟨_,_,_,e,_⟩,_⟩:=x;exact Yp e
 |rng lo hi=>obtain⟨_,_,_,e⟩:=x;exact Yp e
 |frz ob u=>obtain⟨e,_⟩:=x;exact Yp e
 |tbl ps=>exact Yp (show h.get? a=some _ from x)
 |met f y=>exact Yp (show h.get? a=some _ from x)
 |ext φ=>obtain⟨_,⟨_,e⟩,_⟩:=x;exact Yp e
theorem Paired.mapP{α β:Type}{F G:α->β->Prop}{l₁:List α}{l₂:List β}(h:Paired F l₁ l₂)(f:∀a b,F a b->G a b):Paired G l₁ l₂:=by
 induction h with
 |nil=>exact .nil
 |cons r _ ih=>exact .cons (f _ _ r) ih
theorem ObjOk.stay(x:ObjOk P w H h a o)(k:∀b u,(b=a\/H b=some (.own a))->h.get? b=some u->h'.get? b=some u)
  (ho:∀b,H b=some (.own a)->H' b=some (.own a)) (ht:∀b xs,H b=some (.tup xs)->H' b=some (.tup xs)):ObjOk P w H' h' a o:=by
 induction o with
 |lst xs=>obtain⟨z,its,n,r,e⟩:=x;exact⟨z,its,n,r,k _ _ (.inl rfl) e⟩
 |tup xs=>obtain⟨z,its,r,⟨ob,e,c⟩,ob2,e2,c2⟩:=x;exact⟨z,its,r,⟨ob,k _ _ (.inl rfl) e,c⟩,ob2,k _ _ (.inl rfl) e2,c2⟩
 |dK kvs=>obtain⟨z,y,vs,r,ob,es,ep,e,c⟩:=x;exact⟨z,y,vs,r,ob,es,ep,k _ _ (.inl rfl) e,c⟩
 |dT kvs=>
  obtain⟨z,y,xs,r,ob,es,ep,e,c⟩:=x;exact⟨z,y,xs,Paired.mapP r fun p q z=>⟨z.1,ht _ _ z.2.1,z.2.2⟩,ob,es,ep,k _ _ (.inl rfl) e,c⟩
 |set S n=>obtain⟨ob,es,ep,t,e,c⟩:=x;exact⟨ob,es,ep,t,k _ _ (.inl rfl) e,c⟩
 |ins C dx fs=>
  obtain⟨d,z,ne,e,mA,⟨od,es,ep,e2,c⟩,r⟩:=x;exact⟨ho _ d,z,ne,k _ _ (.inl rfl) e,mA,⟨od,es,ep,k _ _ (.inr d) e2,c⟩,r⟩
 |own y=>obtain⟨ob,e⟩:=x;exact⟨ob,k _ _ (.inl rfl) e⟩
 |xd fs=>obtain⟨mA,⟨od,es,ep,e,c⟩,r⟩:=x;exact⟨mA,⟨od,es,ep,k _ _ (.inl rfl) e,c⟩,r⟩
 |rng lo hi=>obtain⟨t,u,v,e⟩:=x;exact⟨t,u,v,k _ _ (.inl rfl) e⟩
 |frz ob u ih=>obtain⟨e,q⟩:=x;exact⟨k _ _ (.inl rfl) e,ih q⟩
 |tbl ps=>
  have e:h.get? a=some {cls:=.none,data:=.fields ps}:=x;show h'.get? a=some {cls:=.none,data:=.fields ps};exact k a _ (.inl rfl) e
 |met f y=>
  have e:h.get? a=some (PySem.W.methodObj (.ref f) (.ref y)):=x;show h'.get? a=some (PySem.W.methodObj (.ref f) (.ref y));exact k a _ (.inl rfl) e
 |ext φ=>obtain⟨p,⟨o,e⟩,st⟩:=x;exact⟨st _ _ p fun o q=>k _ _ (.inl rfl) q,⟨o,k _ _ (.inl rfl) e⟩,st⟩
theorem HOk.lt(x:HOk P w H h)(e:H a=some o):a<h.objs.size:=(x a o e).lt
theorem HOk.fresh(x:HOk P w H h)(e:h.objs.size<=a):H a=none:=by
 cases q:H a with
 |none=>rfl
 |some u=>exact absurd (Ys (x.lt q) e) (YX _)
theorem HOk.kept(x:HOk P w H h)(k:∀b u,h.get? b=some u->h'.get? b=some u):HOk P w H h':=fun a o e=>
 (x a o e).stay (fun b u _ q=>k b u q) (fun _ q=>q) fun _ _ q=>q
theorem HOk.laid(x:HOk P w H h)(k:∀b u,h.get? b=some u->h'.get? b=some u)(hp:h.objs.size<=a)(new:ObjOk P w (upd H a o) h' a o):HOk P w (upd H a o) h':=fun b u e=>by
 have hn:=x.fresh hp;by_cases hb:b=a
 ·subst hb;rw[aG]at e;cases e;exact new
 ·rw[au hb]at e;exact(x b u e).stay (fun c v _ q=>k c v q) (fun c q=>by rw[au (aH q hn)];exact q) fun c xs q=>by rw[au (aH q hn)];exact q
end
def Rd(H:Hp)(a:Addr)(u:HO):Prop:=H a=some u\/∃o,H a=some (.frz o u)
theorem Rd.ok{P:Program}{w:World}{H:Hp}{h:Heap}{a:Addr}{u:HO}(r:Rd H a u)(x:HOk P w H h):ObjOk P w H h a u:=by
 rcases r with r|⟨o,r⟩
 ·exact x a u r
 ·obtain⟨_,q⟩:=x a _ r;exact q
def Mut:Option HO->Prop
 |some (.lst _)=>True
 |some (.dK _)=>True
 |some (.dT _)=>True
 |some (.set _ _)=>True
 |some (.ins _ _ _)=>True
 |some (.ext _)=>True
 |_=>False
section
variable{P:Program}{w:World}{H:Hp}{h h':Heap}{x e:Addr}{o':HO}
theorem HOk.write(ok:HOk P w H h)(mu:Mut (H x))(he:e=x\/H e=some (.own x))(k:∀b u,b≠e->h.get? b=some u->h'.get? b=some u)(heo:∃u,h'.get? e=some u)
  (new:ObjOk P w (upd H x o') h' x o'):HOk P w (upd H x o') h':=fun b u q=>by
 have nown:∀c y,H c=some (.own y)->c≠x:=fun c y r z=>by subst z;rw[r]at mu;exact mu
 have ntup:∀c xs,H c=some (.tup xs)->c≠x:=fun c xs r z=>by subst z;rw[r]at mu;exact mu
 by_cases hb:b=x
 ·subst hb;rw[aG]at q;cases q;exact new
 ·rw[au hb]at q;by_cases hbe:b=e
  ·have q':H b=some (.own x):=by
    rcases he with z|z
    ·exact absurd (hbe.trans z) hb
    ·rw[hbe];exact z
   rw[q]at q';cases q';obtain⟨v,hv⟩:=heo;exact⟨v,by rw[hbe];exact hv⟩
  ·refine(ok b u q).stay (fun c v hc r=>k c v ?_ r) (fun c r=>by rw[au (nown c b r)];exact r) fun c xs r=>by rw[au (ntup c xs r)];exact r
   rcases hc with rfl|hc
   ·exact hbe
   ·rintro rfl;rcases he with z|z
    ·exact nown c b hc z
    ·rw[hc]at z;cases z;exact hb rfl
end
structure Un (fs ex:List Addr) (H H':Hp) (h h':Heap):Prop where
 keep:∀b o,h.get? b=some o->H b=none->b∉fs->b∉ex->h'.get? b=some o
 slot:∀b o,h.get? b=some o->H b=none->b∈fs->b∉ex->∃sl,h'.get? b=some {o with slots:=sl}
 free:∀b o,h.get? b=some o->H b=none->b∉ex->H' b=none
 there:∀b o,h.get? b=some o->b∉ex->∃o',h'.get? b=some o'
 tups:∀b xs,H b=some (.tup xs)->H' b=some (.tup xs)
 frzs:∀b o u,H b=some (.frz o u)->H' b=some (.frz o u)
 tbls:∀b ps,H b=some (.tbl ps)->∃more,H' b=some (.tbl (ps++more))
section
variable{fs fs' ex ex':List Addr}{H H1 H2:Hp}{h h1 h2 h':Heap}{a x e:Addr}{o:HO}
theorem Un.any(u:Un fs ex H H1 h h1){b:Addr}{ob:Obj}(q:h.get? b=some ob)(n:H b=none)(hx:b∉ex):∃sl,h1.get? b=some {ob with slots:=sl}:=by
 by_cases hb:b∈fs
 ·exact u.slot b ob q n hb hx
 ·exact⟨ob.slots,u.keep b ob q n hb hx⟩
theorem Un.kept(k:∀b u,h.get? b=some u->h'.get? b=some u):Un fs ex H H h h':=
 ⟨fun b ob q _ _ _=>k b ob q,fun b ob q _ _ _=>⟨ob.slots,k b ob q⟩,fun _ _ _ n _=>n,fun b ob q _=>⟨ob,k b ob q⟩,fun _ _ q=>q,fun _ _ _ q=>q,fun _ ps q=>⟨#[],by rw[q];simp⟩⟩
theorem Un.refl:Un fs ex H H h h:=Un.kept fun _ _ q=>q
theorem Un.laid(k:∀b u,h.get? b=some u->h'.get? b=some u)(hp:h.objs.size<=a)(hn:H a=none):Un fs ex H (upd H a o) h h' where
 keep:=fun b u q _ _ _=>k b u q
 slot:=fun b u q _ _ _=>⟨u.slots,k b u q⟩
 free:=fun b u q n _=>by rw[au (Yw (Ys (Yp q) hp))];exact n
 there:=fun b u q _=>⟨u,k b u q⟩
 tups:=fun b xs q=>by rw[au (aH q hn)];exact q
 frzs:=fun b u xs q=>by rw[au (aH q hn)];exact q
 tbls:=fun b ps q=>⟨#[],by rw[au (aH q hn),q];simp⟩
theorem Un.write(mu:Mut (H x))(he:e=x\/H e=some (.own x))(k:∀b u,b≠e->h.get? b=some u->h'.get? b=some u)(heo:∃u,h'.get? e=some u):Un fs ex H (upd H x o) h h':=by
 have hx:∀b,H b=none->b≠x:=fun b n z=>by subst z;rw[n]at mu;exact mu
 have hb:∀b,H b=none->b≠e:=fun b n z=>by
  subst z;rcases he with r|r
  ·exact hx b n r
  ·rw[n]at r;cases r
 have hm:∀b u,H b=some u->¬Mut (some u)->b≠x:=fun b u q nm z=>by subst z;rw[q]at mu;exact nm mu
 refine⟨fun b u q n _ _=>k b u (hb b n) q,fun b u q n _ _=>⟨u.slots,k b u (hb b n) q⟩,fun b u q n _=>by rw[au (hx b n)];exact n,fun b u q _=>?_,
  fun b xs q=>by rw[au (hm b _ q fun z=>z)];exact q,fun b u xs q=>by rw[au (hm b _ q fun z=>z)];exact q,fun b ps q=>⟨#[],by rw[au (hm b _ q fun z=>z),q];simp⟩⟩
 by_cases hbe:b=e
 ·subst hbe;exact heo
 ·exact⟨u,k b u hbe q⟩
end
def trk(h:Heap)(H:Hp):List Addr:=(List.range h.objs.size).filter fun a=>(H a).isSome
def nE(h:Heap)(H:Hp):Heap:=PySem.W.hideAll h (trk h H)
theorem uf(h:Heap)(H:Hp):(nE h H).objs.size=h.objs.size:=PySem.W.hideAll_size _ _
theorem va{h:Heap}{H:Hp}{b:Addr}{o:Obj}(e:h.get? b=some o)(n:H b=none):(nE h H).get? b=some o:=
 PySem.W.hideAll_get _ e fun hm=>by
  have q:(H b).isSome=true:=(VA.mp hm).2;rw[n]at q;simp at q
theorem xV{h:Heap}{H:Hp}{b:Addr}{o:Obj}(e:(nE h H).get? b=some o):h.get? b=some o/\H b=none:=by
 have e':h.get? b=some o:=PySem.W.of_hideAll (trk h H) e;refine⟨e',?_⟩;cases q:H b with
 |none=>rfl
 |some x=>
  have hm:b∈trk h H:=VA.mpr ⟨YJ.mpr (Yp e'),by simp[q]⟩;have z:(nE h H).get? b=none:=PySem.W.hideAll_none (trk h H) hm;rw[z]at e;cases e
def yB(g h:Heap)(L:Addr):List (Addr×Obj):=(List.range h.objs.size).filterMap fun a=>if a=L\/(g.get? a).isSome=true then none else(h.get? a).map fun o=>(a,o)
def bD(g h:Heap)(L d:Addr):List (Addr×Obj):=(yB g h L).filter fun p=>decide (p.1≠d)
structure Mod (K:PySem.W.Frag) (mg:Str->Option Value) (base:Heap):Prop where
 kin:K.In base
 glob:base.Ns mainGlobals mg
 blt:∃mb,base.Ns builtinsNs mb/\∀x:Str,x ≠ "__name__"->mb x=bootBuiltins x
 nolimit:base.NoLimit
structure Cx where
 prog:Program
 w:World
 K:PySem.W.Frag
 mg:Str->Option Value
 base:Heap
 A:Around
 N:List Str
 s₀:Shared
 H₀:Hp
 env:Env
 outer:List Env
 stack:List Env
 ex:List Addr
 fn:Str->Bool
 calm:Bool
 pn:List (Addr×Obj)
 xe:Value->Shared->Prop
def frs(l:List Env):List Addr:=l.filterMap (·.frame)
abbrev Cx.fs(X:Cx):List Addr:=frs X.outer
def Vis(sc:Scope)(x:Str):Prop:=sc.names.lookup x=some .local\/sc.names.lookup x=some .cell\/sc.names.lookup x=some .free
def Loc(sc:Scope)(x:Str):Prop:=sc.names.lookup x=some .local\/sc.names.lookup x=some .cell
def Ep(env:Env)(h:Heap)(m:Ks)(x:Str)(u:Value):Prop:=
 (env.kindOf x=some .local/\m x=some u)\/((env.kindOf x=some .cell\/env.kindOf x=some .free)/\∃c,env.cells.lookup x=some c/\h.IsCell c (some u))
structure Cx.Ok (X:Cx):Prop where
 mod:Mod X.K X.mg X.base
 kind:X.env.scope.kind=.function
 glob:X.env.globals=mainGlobals
 blt:X.env.builtins=builtinsNs
 above:X.s₀.heap.objs.size<=X.env.locals
 inj:∀x y c,X.env.cells.lookup x=some c->X.env.cells.lookup y=some c->x=y
 has:∀x,(X.env.kindOf x=some .cell\/X.env.kindOf x=some .free)->∃c,X.env.cells.lookup x=some c
 cab:∀x c,X.fn x=true->X.env.cells.lookup x=some c->X.s₀.heap.objs.size<=c
 hd:X.calm=true->X.A.handled=none
 frames:X.A.frames=some X.stack
 stk:X.stack=X.outer\/(X.stack=X.env::X.outer/\X.env.frame=some X.env.locals)
 exf:∀b∈X.ex,b≠X.env.locals/\∀x c,X.env.cells.lookup x=some c->c≠b
 bs:∀b o,X.base.get? b=some o->X.s₀.heap.get? b=some o/\X.H₀ b=none
 bsz:X.base.objs.size<=X.s₀.heap.objs.size
 noex:∀b o,X.base.get? b=some o->b∉X.ex
 exfs:∀b∈X.ex,b∉X.fs
 funs:X.s₀.heap.FunFrames X.base X.outer
 frf:∀b∈X.fs,X.H₀ b=none
structure Inv (X:Cx) (pz:List (Addr×Obj)) (σ:List (Option V)) (H:Hp) (s:Shared):Prop where
 ok:X.Ok
 os:s.os=X.s₀.os
 bare:AllBare s.gens
 base:Un X.fs X.ex X.H₀ H X.s₀.heap s.heap
 loc:∃m,s.heap.Ns X.env.locals m/\∀(i:Nat) (x:Str) (v:V),X.N[i]?=some x->σ[i]?=some (some v)->Vis X.env.scope x->∃u,RelV v u/\Ep X.env s.heap m x u
 cell:∀x c,X.env.cells.lookup x=some c->∃v,s.heap.IsCell c v
 free:H X.env.locals=none
 freeC:∀x c,X.env.cells.lookup x=some c->H c=none
 pin:∀p∈X.pn++pz,s.heap.get? p.1=some p.2/\H p.1=none/\p.1≠X.env.locals/\p.1∉X.fs/\∀v,p.2.data≠.cell v
 hok:HOk X.prog X.w H s.heap
 len:σ.length=X.N.length
section
variable{X:Cx}{pz:Kp}{σ:List (Option V)}{H H':Hp}{s:Shared}{h':Heap}
theorem Cx.Ok.nofr(ok:X.Ok){b:Addr}{o:Obj}(e:X.base.get? b=some o):b∉X.fs:=fun hb=>by
 have:=(ok.funs.mem hb).1;rw[e]at this;cases this
theorem Inv.bs(I:Inv X pz σ H s):∀b o,X.base.get? b=some o->s.heap.get? b=some o/\H b=none:=fun b o e=>
 ⟨I.base.keep b o (I.ok.bs b o e).1 (I.ok.bs b o e).2 (I.ok.nofr e) (I.ok.noex b o e),I.base.free b o (I.ok.bs b o e).1 (I.ok.bs b o e).2 (I.ok.noex b o e)⟩
theorem Inv.bk(I:Inv X pz σ H s):∀b o,X.base.get? b=some o->s.heap.get? b=some o:=fun b o e=>(I.bs b o e).1
theorem Inv.mod(I:Inv X pz σ H s):Mod X.K X.mg X.base:=I.ok.mod
theorem Inv.kIn(I:Inv X pz σ H s):X.K.In s.heap:=I.ok.mod.kin.keeps I.bk
theorem Inv.lt(I:Inv X pz σ H s):X.env.locals<s.heap.objs.size:=let ⟨_,hn,_⟩:=I.loc;hn.lt
theorem Inv.sz(I:Inv X pz σ H s):X.s₀.heap.objs.size<=s.heap.objs.size:=YD I.ok.above (ZG I.lt)
theorem Inv.nofs(I:Inv X pz σ H s){a:Addr}(h:s.heap.objs.size<=a):a∉X.fs:=fun hb=>by
 obtain⟨_,o,ho,_⟩:=I.ok.funs.mem hb;exact absurd (Ys (Yp ho) (YD I.sz h)) (YX _)
theorem Inv.cne(I:Inv X pz σ H s):∀x c,X.env.cells.lookup x=some c->c≠X.env.locals:=fun x c e z=>by
 obtain⟨v,o,ho,hd⟩:=I.cell x c e;obtain⟨m,⟨o',es,ep,ho',hd',_⟩,_⟩:=I.loc;rw[z,ho']at ho;cases ho;rw[hd']at hd;cases hd
theorem Inv.funs(I:Inv X pz σ H s):s.heap.FunFrames X.base X.outer:=by
 have all:∀(l:List Env),(∀b∈frs l,b∈X.fs)->X.s₀.heap.FunFrames X.base l->s.heap.FunFrames X.base l:=by
  intro l;induction l with
  |nil=>intro _ _;trivial
  |cons env r ih=>
   intro hs hl;obtain⟨hk,⟨L,o,hf,hn,ho,hd⟩,hr⟩:=hl;have hL:L∈X.fs:=hs L (by unfold frs;rw[VB,hf];exact Yd);obtain⟨sl,e⟩:=I.base.slot L o ho (I.ok.frf L hL) hL fun z=>I.ok.exfs L z hL
   exact⟨hk,⟨L,_,hf,hn,e,hd⟩,ih (fun b hb=>hs b (by unfold frs;rw[VB,hf];exact Yc _ hb)) hr⟩
 exact all X.outer (fun _ hb=>hb) I.ok.funs
theorem Inv.stack(I:Inv X pz σ H s):s.heap.FunFrames X.base X.stack:=by
 rcases I.ok.stk with e|⟨e,hf⟩
 ·rw[e];exact I.funs
 ·rw[e];obtain⟨m,hn,_⟩:=I.loc;refine .cons (by rw[I.ok.kind];decide) hf hn ?_ I.funs;exact Heap.get?_none_of_le (YD I.ok.bsz I.ok.above)
theorem Inv.stkSub(I:Inv X pz σ H s):∀b∈frs X.stack,b∈X.env.locals::X.fs:=fun b hb=>by
 rcases I.ok.stk with e|⟨e,hf⟩
 ·rw[e]at hb;exact Yc _ hb
 ·rw[e]at hb;unfold frs at hb;rw[VB,hf]at hb;exact hb
theorem Inv.stkFree(I:Inv X pz σ H s):∀b∈frs X.stack,H b=none:=fun b hb=>by
 rcases Yv.mp (I.stkSub b hb)with e|hb
 ·rw[e];exact I.free
 ·obtain⟨_,o,ho,_⟩:=I.ok.funs.mem hb;exact I.base.free b o ho (I.ok.frf b hb) fun z=>I.ok.exfs b z hb
theorem Inv.step{g':Array GenState}{t':Nat}{d':Drawn}{ch:List Addr}(I:Inv X pz σ H s)
  (hch:∀b∈ch,(b∈X.ex\/X.s₀.heap.objs.size<=b)/\b≠X.env.locals/\(∀x c,X.env.cells.lookup x=some c->c≠b)/\∀p∈X.pn++pz,p.1≠b)
  (keep:∀b o,b≠X.env.locals->b∉X.fs->b∉ch->s.heap.get? b=some o->H b=none->h'.get? b=some o)
  (slot:∀b o,b≠X.env.locals->b∈X.fs->b∉ch->s.heap.get? b=some o->H b=none->∃sl,h'.get? b=some {o with slots:=sl}) (free:∀b o,b∉ch->s.heap.get? b=some o->H b=none->H' b=none)
  (there:∀b o,b∉ch->s.heap.get? b=some o->∃o',h'.get? b=some o')
  (tups:∀b xs,H b=some (.tup xs)->H' b=some (.tup xs)) (frzs:∀b o u,H b=some (.frz o u)->H' b=some (.frz o u)) (tbls:∀b ps,H b=some (.tbl ps)->∃more,H' b=some (.tbl (ps++more)))
  (ns:∀m,s.heap.Ns X.env.locals m->h'.Ns X.env.locals m) (hok:HOk X.prog X.w H' h') (hg:AllBare g') :
  Inv X pz σ H' {s with heap:=h',gens:=g',drawn:=d',toks:=t' }:=by
 have neL:∀b o,X.s₀.heap.get? b=some o->b≠X.env.locals:=fun b o e=>Yw (Ys (Yp e) I.ok.above)
 have neC:∀b o,X.s₀.heap.get? b=some o->b∉X.ex->b∉ch:=fun b o e hx hb=>by
  rcases(hch b hb).1 with z|z
  ·exact hx z
  ·exact absurd (Ys (Yp e) z) (YX _)
 have cellK:∀x c,X.env.cells.lookup x=some c->∀v,s.heap.IsCell c v->h'.IsCell c v:=fun x c e v hh_=>by
  obtain⟨o,ho,hd⟩:=hh_;have nch:c∉ch:=fun z=>(hch c z).2.2.1 x c e rfl
  by_cases hc:c∈X.fs
  ·obtain⟨sl,q⟩:=slot c o (I.cne x c e) hc nch ho (I.freeC x c e);exact⟨_,q,hd⟩
  ·exact⟨o,keep c o (I.cne x c e) hc nch ho (I.freeC x c e),hd⟩
 refine⟨I.ok,I.os,hg,⟨fun b o e n hb hx=>?_,fun b o e n hb hx=>?_,fun b o e n hx=>?_,fun b o e hx=>?_,fun b xs e=>tups b xs (I.base.tups b xs e),fun b o xs e=>frzs b o xs (I.base.frzs b o xs e),fun b ps e=>?_⟩,?_,fun x c e=>?_,?_,fun x c e=>?_,fun p hp=>?_,hok,I.len⟩
 ·exact keep b o (neL b o e) hb (neC b o e hx) (I.base.keep b o e n hb hx) (I.base.free b o e n hx)
 ·obtain⟨sl,e1⟩:=I.base.slot b o e n hb hx;obtain⟨sl',e2⟩:=slot b _ (neL b o e) hb (neC b o e hx) e1 (I.base.free b o e n hx);exact⟨sl',e2⟩
 ·obtain⟨o',e1⟩:=I.base.there b o e hx;exact free b o' (neC b o e hx) e1 (I.base.free b o e n hx)
 ·obtain⟨o',e1⟩:=I.base.there b o e hx;exact there b o' (neC b o e hx) e1
 ·obtain⟨m1,e1⟩:=I.base.tbls b ps e;obtain⟨m2,e2⟩:=tbls b _ e1;exact⟨m1++m2,by rw[e2,Array.append_assoc]⟩
 ·obtain⟨m,hn,hl⟩:=I.loc;refine⟨m,ns m hn,fun i x v e1 e2 e3=>?_⟩;obtain⟨u,r,l⟩:=hl i x v e1 e2 e3;refine⟨u,r,?_⟩;rcases l with l|⟨k,c,e,z⟩
  ·exact .inl l
  ·exact .inr ⟨k,c,e,cellK x c e _ z⟩
 ·obtain⟨v,z⟩:=I.cell x c e;exact⟨v,cellK x c e v z⟩
 ·obtain⟨m,⟨o,_,_,ho,_⟩,_⟩:=I.loc;exact free _ o (fun z=>(hch _ z).2.1 rfl) ho I.free
 ·obtain⟨v,o,ho,hd⟩:=I.cell x c e;exact free c o (fun z=>(hch c z).2.2.1 x c e rfl) ho (I.freeC x c e)
 ·obtain⟨e,n,ne,nf,d⟩:=I.pin p hp;have nch:p.1∉ch:=fun z=>(hch p.1 z).2.2.2 p hp rfl
  exact⟨keep p.1 p.2 ne nf nch e n,free p.1 p.2 nch e n,ne,nf,d⟩
theorem Inv.un{t':Nat}(I:Inv X pz σ H s)(u:Un X.fs [] H H' s.heap h')(hok:HOk X.prog X.w H' h'):Inv X pz σ H' {s with heap:=h',toks:=t' }:=by
 obtain⟨m,⟨o,es,ep,ho,r⟩,_⟩:=id I.loc;obtain⟨sl,hL⟩:=u.any ho I.free (by simp);exact I.step (g':=s.gens) (d':=s.drawn) (ch:=[]) (fun _ z=>nomatch z) (fun b o _ hb _ e n=>u.keep b o e n hb (by simp)) (fun b o _ hb _ e n=>u.slot b o e n hb (by simp)) (fun b o _ e n=>u.free b o e n (by simp)) (fun b o _ e=>u.there b o e (by simp)) u.tups u.frzs u.tbls (fun m' hm=>by
  obtain⟨o',es',ep',ho',r'⟩:=hm;rw[ho]at ho';cases ho';exact⟨_,es',ep',hL,r'⟩) hok I.bare
theorem Inv.call{g':Array GenState}{t':Nat}{d':Drawn}{ch:List Addr}(I:Inv X pz σ H s)(u:Un (frs X.stack) ch H H' s.heap h')(hok:HOk X.prog X.w H' h')(hg:AllBare g')
  (hch:∀b∈ch,(b∈X.ex\/X.s₀.heap.objs.size<=b)/\b≠X.env.locals/\(∀x c,X.env.cells.lookup x=some c->c≠b)/\∀p∈X.pn++pz,p.1≠b) :
  Inv X pz σ H' {s with heap:=h',gens:=g',drawn:=d',toks:=t' }:=by
 obtain⟨m,⟨o,es,ep,ho,r⟩,_⟩:=id I.loc;obtain⟨sl,hL⟩:=u.any ho I.free fun z=>(hch _ z).2.1 rfl
 exact I.step (ch:=ch) hch (fun b o hL hb hc e n=>u.keep b o e n (fun z=>(Yv.mp (I.stkSub b z)).elim hL hb) hc) (fun b o _ _ hc e n=>u.any e n hc) (fun b o hc e n=>u.free b o e n hc) (fun b o hc e=>u.there b o e hc) u.tups u.frzs u.tbls (fun m' hm=>by
  obtain⟨o',es',ep',ho',r'⟩:=hm;rw[ho]at ho';cases ho';exact⟨_,es',ep',hL,r'⟩) hok hg
theorem Inv.turned{t':Nat}{it:Addr}(I:Inv X pz σ H s)(k:∀b o,b≠it->s.heap.get? b=some o->h'.get? b=some o)(hn:H it=none)(hL:it≠X.env.locals)
  (h1:it∈X.ex\/X.s₀.heap.objs.size<=it) (h2:∀x c,X.env.cells.lookup x=some c->c≠it) (h3:∀p∈X.pn++pz,p.1≠it):Inv X pz σ H {s with heap:=h',toks:=t' }:=by
 have nit:∀b u,H b=some u->b≠it:=fun b u e z=>by rw[z,hn]at e;cases e
 refine I.step (g':=s.gens) (d':=s.drawn) (ch:=[it]) (fun b hb=>?_) (fun b o _ _ hc e _=>k b o (fun z=>hc (by simp[z])) e) (fun b o _ _ hc e _=>⟨o.slots,k b o (fun z=>hc (by simp[z])) e⟩) (fun _ _ _ _ n=>n)
  (fun b o hc e=>⟨o,k b o (fun z=>hc (by simp[z])) e⟩) (fun _ _ e=>e) (fun _ _ _ e=>e) (fun b ps e=>⟨#[],by rw[e];simp⟩) (fun m hm=>?_) (fun b u e=>?_) I.bare
 ·have e:b=it:=by simpa using hb
  subst e;exact⟨h1,hL,h2,h3⟩
 ·obtain⟨o,es,ep,ho,r⟩:=hm;exact⟨o,es,ep,k _ o (ZL hL) ho,r⟩
 ·refine(I.hok b u e).stay (fun c v hc q=>k c v ?_ q) (fun _ q=>q) fun _ _ q=>q;rcases hc with z|z
  ·rw[z];exact nit b u e
  ·exact nit c _ z
theorem Inv.tok(I:Inv X pz σ H s)(t:Nat):Inv X pz σ H {s with toks:=t}:=I.un (h':=s.heap) (t':=t) Un.refl I.hok
theorem Inv.kept{t':Nat}(I:Inv X pz σ H s)(k:∀b u,s.heap.get? b=some u->h'.get? b=some u):Inv X pz σ H {s with heap:=h',toks:=t' }:=I.un (Un.kept k) (I.hok.kept k)
theorem Inv.laid{a:Addr}{o:HO}{t':Nat}(I:Inv X pz σ H s)(k:∀b u,s.heap.get? b=some u->h'.get? b=some u)(hp:s.heap.objs.size<=a)(new:ObjOk X.prog X.w (upd H a o) h' a o) :
  Inv X pz σ (upd H a o) {s with heap:=h',toks:=t' }:=I.un (Un.laid k hp (I.hok.fresh hp)) (I.hok.laid k hp new)
theorem Inv.write{x e:Addr}{o:HO}{t':Nat}(I:Inv X pz σ H s)(mu:Mut (H x))(he:e=x\/H e=some (.own x))(k:∀b u,b≠e->s.heap.get? b=some u->h'.get? b=some u)(heo:∃u,h'.get? e=some u)
  (new:ObjOk X.prog X.w (upd H x o) h' x o):Inv X pz σ (upd H x o) {s with heap:=h',toks:=t' }:=I.un (Un.write mu he k heo) (I.hok.write mu he k heo new)
theorem Inv.weak{σ':List (Option V)}(I:Inv X pz σ H s)(hl:σ'.length=σ.length)(w:∀(i:Nat) v,σ'[i]?=some (some v)->σ[i]?=some (some v)):Inv X pz σ' H s:=
 ⟨I.ok,I.os,I.bare,I.base,let ⟨m,hn,hl'⟩:=I.loc;⟨m,hn,fun i x v e1 e2 e3=>hl' i x v e1 (w i v e2) e3⟩,I.cell,I.free,I.freeC,I.pin,I.hok,hl.trans I.len⟩
theorem Inv.pins_of{pz':Kp}(I:Inv X pz σ H s)(h:∀p∈pz',s.heap.get? p.1=some p.2/\H p.1=none/\p.1≠X.env.locals/\p.1∉X.fs/\∀v,p.2.data≠.cell v):Inv X pz' σ H s:=
 ⟨I.ok,I.os,I.bare,I.base,I.loc,I.cell,I.free,I.freeC,fun p hp=>(Zy.mp hp).elim (fun z=>I.pin p (Vs _ z)) (h p),I.hok,I.len⟩
theorem pA{N:List Str}(hN:N.Nodup){i j:Nat}{x:Str}(a:N[i]?=some x)(b:N[j]?=some x):i=j:=by obtain⟨h1,e1⟩:=Yk.mp a;obtain⟨h2,e2⟩:=Yk.mp b;exact(List.getElem_inj hN).mp (e1.trans e2.symm)
theorem lh{M:Model}{A:Around}{E:Kv}{i:Nat}{x:Str}{v:V}{u:Value}{Q:Unit->Shared->Prop}(I:Inv X pz σ H s)(hN:X.N.Nodup)(hi:X.N[i]?=some x)(hx:Loc X.env.scope x)(r:RelV v u)
  (h:∀s',Inv X pz (σ.set i (some v)) H s'->(∃a,Heap.SameBut a s.heap s'.heap/\(a=X.env.locals\/X.env.cells.lookup x=some a))->Q () s') (hf:X.fn x=true\/X.env.scope.names.lookup x=some .local:=by first|exact .inl rfl|exact .inr rfl|assumption):wpAny M A (storeName X.env x u) Q E s:=by
 obtain⟨m,hn,hl⟩:=id I.loc;have hcls:(X.env.scope.kind == .class||(X.env.scope.kind == .module&&X.env.locals != X.env.globals))=false:=by rw[I.ok.kind];rfl
 have hiσ:i<σ.length:=by rw[I.len];exact(Yk.mp hi).1
 have cne:=I.cne;have tracked:∀{a:Addr}{h':Heap},(∃o,s.heap.get? a=some o/\H a=none)->Heap.SameBut a s.heap h'->HOk X.prog X.w H h':=fun{a h'} ha hs b ob e=>by
  obtain⟨_,_,hfree⟩:=ha;refine(I.hok b ob e).stay (fun c w' hc q=>(hs.2 c ?_).trans q) (fun _ q=>q) fun _ _ q=>q;rintro rfl;rcases hc with rfl|hc
  ·rw[hfree]at e;cases e
  ·rw[hfree]at hc;cases hc
 rcases hx with hk|hk
 ·refine wpAny_storeName_local hk hn (fun h' hn' hs=>?_) hcls;obtain⟨oL,_,_,hoL,_⟩:=id hn;refine h _ ⟨I.ok,I.os,I.bare,⟨fun b o e n hb hx=>?_,fun b o e n hb hx=>?_,I.base.free,fun b o e hx=>?_,I.base.tups,I.base.frzs,I.base.tbls⟩,⟨_,hn',fun j y v' e1 e2 e3=>?_⟩,fun y c e=>?_,I.free,I.freeC,fun p hp=>?_,tracked ⟨oL,hoL,I.free⟩ hs,by simpa using I.len⟩ ⟨_,hs,.inl rfl⟩
  ·exact(hs.2 b (Yw (Ys (Yp e) I.ok.above))).trans (I.base.keep b o e n hb hx)
  ·obtain⟨sl,e1⟩:=I.base.slot b o e n hb hx;exact⟨sl,(hs.2 b (Yw (Ys (Yp e) I.ok.above))).trans e1⟩
  ·obtain⟨o',e1⟩:=I.base.there b o e hx;exact⟨o',(hs.2 b (Yw (Ys (Yp e) I.ok.above))).trans e1⟩
  ·by_cases hj:j=i
   ·subst hj;rw[hi]at e1;cases e1;rw[YZ hiσ]at e2;cases e2;exact⟨u,r,.inl ⟨hk,by simp⟩⟩
   ·rw[YL (ZL hj)]at e2;obtain⟨u',r',q⟩:=hl j y v' e1 e2 e3;refine⟨u',r',?_⟩;rcases q with⟨k,e⟩|⟨k,c,e,z⟩
    ·refine .inl ⟨k,?_⟩;have:y≠x:=fun e=>hj (pA hN e1 (e ▸ hi))
     simp[this,e]
    ·exact .inr ⟨k,c,e,z.sameBut hs (cne y c e)⟩
  ·obtain⟨w',z⟩:=I.cell y c e;exact⟨w',z.sameBut hs (cne y c e)⟩
  ·obtain⟨e,n,ne,nf,d⟩:=I.pin p hp;exact⟨(hs.2 p.1 ne).trans e,n,ne,nf,d⟩
 ·have hfn:X.fn x=true:=by
   rcases hf with z|z
   ·exact z
   ·rw[z]at hk;cases hk
  obtain⟨c,hc⟩:=I.ok.has x (.inl hk);obtain⟨w',z⟩:=I.cell x c hc;refine wpAny_storeName_cell I.ok.kind hk hc z (fun h' hc' hs=>?_);obtain⟨oc,hoc,hocd⟩:=id z;refine h {s with heap:=h' } ⟨I.ok,I.os,I.bare,⟨fun b o e n hb hx=>?_,fun b o e n hb hx=>?_,I.base.free,fun b o e hx=>?_,I.base.tups,I.base.frzs,I.base.tbls⟩,⟨m,hn.sameBut hs (ZL (cne x c hc)),fun j y v' e1 e2 e3=>?_⟩,fun y c' e=>?_,I.free,I.freeC,fun p hp=>?_,tracked ⟨oc,hoc,I.freeC x c hc⟩ hs,by simpa using I.len⟩ ⟨c,hs,.inr hc⟩
  ·exact(hs.2 b (Yw (Ys (Yp e) (I.ok.cab x c hfn hc)))).trans (I.base.keep b o e n hb hx)
  ·obtain⟨sl,e1⟩:=I.base.slot b o e n hb hx;exact⟨sl,(hs.2 b (Yw (Ys (Yp e) (I.ok.cab x c hfn hc)))).trans e1⟩
  ·obtain⟨o',e1⟩:=I.base.there b o e hx;exact⟨o',(hs.2 b (Yw (Ys (Yp e) (I.ok.cab x c hfn hc)))).trans e1⟩
  ·by_cases hj:j=i
   ·subst hj;rw[hi]at e1;cases e1;rw[YZ hiσ]at e2;cases e2;exact⟨u,r,.inr ⟨.inl hk,c,hc,hc'⟩⟩
   ·rw[YL (ZL hj)]at e2;obtain⟨u',r',q⟩:=hl j y v' e1 e2 e3;refine⟨u',r',?_⟩;rcases q with q|⟨k,c',e,z'⟩
    ·exact .inl q
    ·refine .inr ⟨k,c',e,z'.sameBut hs ?_⟩;rintro rfl;exact hj (pA hN e1 (I.ok.inj _ _ _ e hc ▸ hi))
  ·by_cases hcc:c'=c
   ·subst hcc;exact⟨_,hc'⟩
   ·obtain⟨w2,z2⟩:=I.cell y c' e;exact⟨w2,z2.sameBut hs hcc⟩
  ·obtain⟨e,n,ne,nf,d⟩:=I.pin p hp;refine⟨(hs.2 p.1 ?_).trans e,n,ne,nf,d⟩;intro q;rw[q,hoc]at e;have q':oc=p.2:=Yr e;exact d w' (by rw[<-q'];exact hocd)
theorem oU{M:Model}{A:Around}{E:Kv}{i:Nat}{x:Str}{v:V}{u:Value}{Q:Unit->Shared->Prop}(I:Inv X pz σ H s)(hN:X.N.Nodup)(hi:X.N[i]?=some x)(hx:Loc X.env.scope x)(r:RelV v u)
  (h:∀s',Inv X pz (σ.set i (some v)) H s'->Q () s') (hf:X.fn x=true\/X.env.scope.names.lookup x=some .local:=by first|exact .inl rfl|exact .inr rfl|assumption):wpAny M A (storeName X.env x u) Q E s:=
 lh I hN hi hx r (fun s' I' _=>h s' I') hf
theorem Inv.call'{s':Shared}{ch:List Addr}(I:Inv X pz σ H s)(ho:s'.os=s.os)(u:Un (frs X.stack) ch H H' s.heap s'.heap)(hok:HOk X.prog X.w H' s'.heap)(hg:AllBare s'.gens)
  (hch:∀b∈ch,(b∈X.ex\/X.s₀.heap.objs.size<=b)/\b≠X.env.locals/\(∀x c,X.env.cells.lookup x=some c->c≠b)/\∀p∈X.pn++pz,p.1≠b):Inv X pz σ H' s':=by
 obtain⟨h',g',d',t',o'⟩:=s';have e:o'=s.os:=ho;subst e;exact I.call (g':=g') (t':=t') (d':=d') u hok hg hch
end
abbrev XK:=Value->Option Addr->Hp->Prop
abbrev St:=List (Option V)
abbrev VK:=V->Hp->Prop
abbrev TE:=St->Hp->VK->Prop
abbrev TT:=St->Hp->(Bool->Hp->Prop)->Prop
abbrev TA:=St->Hp->(List V->Hp->Prop)->Prop
structure ie where
 nx:St->Hp->Prop
 rt:VK
 bk:St->Hp->Prop:=fun _ _=>False
 ct:St->Hp->Prop:=fun _ _=>False
abbrev TS:=ie->St->Hp->Prop
def EP(X:Cx)(pz:Kp)(σ:St)(Q:VK)(u:Value)(s':Shared):Prop:=∃v H',Inv X pz σ H' s'/\RelV v u/\Q v H'
def TP(X:Cx)(pz:Kp)(σ:St)(Q:Bool->Hp->Prop)(b:Bool)(s':Shared):Prop:=∃H',Inv X pz σ H' s'/\Q b H'
def AP(X:Cx)(pz:Kp)(σ:St)(Q:List V->Hp->Prop)(us:List Value)(s':Shared):Prop:=∃vs H',Inv X pz σ H' s'/\Vals vs us/\Q vs H'
def SP(X:Cx)(pz:Kp)(D:ie)(f:Flow)(s':Shared):Prop:=
 match f with
 |.next=>∃σ' H',Inv X pz σ' H' s'/\D.nx σ' H'
 |.brk=>∃σ' H',Inv X pz σ' H' s'/\D.bk σ' H'
 |.cont=>∃σ' H',Inv X pz σ' H' s'/\D.ct σ' H'
 |.ret u=>∃v σ' H',Inv X pz σ' H' s'/\RelV v u/\D.rt v H'
def PE(X:Cx)(e:Expr)(t:TE):Prop:=
 ∀(pz:Kp) (s:Shared) (σ:St) (H:Hp) (Q:VK),Inv X pz σ H s->t σ H Q->wpAny (model X.prog X.w) X.A (eval e X.env) (EP X pz σ Q) X.xe s
def PT(X:Cx)(e:Expr)(t:TT):Prop:=
 ∀(pz:Kp) (s:Shared) (σ:St) (H:Hp) (Q:Bool->Hp->Prop),Inv X pz σ H s->t σ H Q->wpAny (model X.prog X.w) X.A (isTrue e X.env (eval e X.env)) (TP X pz σ Q) X.xe s
def PW(X:Cx)(e:Expr)(t:TT):Prop:=
 ∀(whole:Sem Value) (pz:Kp) (s:Shared) (σ:St) (H:Hp) (Q:Bool->Hp->Prop),Inv X pz σ H s->t σ H Q->wpAny (model X.prog X.w) X.A (isTrue e X.env whole) (TP X pz σ Q) X.xe s
theorem PW.pt{X:Cx}{e:Expr}{t:TT}(h:PW X e t):PT X e t:=h _
def PA(X:Cx)(es:List Expr)(t:TA):Prop:=
 ∀(pos:Pos) (pz:Kp) (s:Shared) (σ:St) (H:Hp) (Q:List V->Hp->Prop),Inv X pz σ H s->t σ H Q->wpAny (model X.prog X.w) X.A (spliced (backTo pos (starEach es X.env))) (AP X pz σ Q) X.xe s
def PS(X:Cx)(st:Stmt)(t:TS):Prop:=
 ∀(pz:Kp) (s:Shared) (σ:St) (H:Hp) (D:ie),Inv X pz σ H s->t D σ H->wpAny (model X.prog X.w) X.A (exec st X.env) (SP X pz D) X.xe s
def PSs(X:Cx)(st:List Stmt)(t:TS):Prop:=
 ∀(pz:Kp) (s:Shared) (σ:St) (H:Hp) (D:ie),Inv X pz σ H s->t D σ H->wpAny (model X.prog X.w) X.A (execs st X.env) (SP X pz D) X.xe s
theorem thn{α:Type}{t:Sem α}{Q Q':α->Shared->Prop}{M:Model}{A:Around}{E:Kv}{s:Shared}(h:wpAny M A t Q E s)(hQ:∀a s,Q a s->Q' a s):wpAny M A t Q' E s:=Xg h hQ fun _ _ x=>x
theorem bu{α β:Type}{X:Cx}{pz:Kp}{σ:St}{t:Sem β}{R:α->β->Prop}{Q:α->Hp->Prop}{T:β->Shared->Prop}{M:Model}{A:Around}{E:Kv}{s:Shared}
  (h:wpAny M A t (fun u s1=>∃x H1,Inv X pz σ H1 s1/\R x u/\Q x H1) E s) (k:∀u s1 x H1,Inv X pz σ H1 s1->R x u->Q x H1->T u s1):wpAny M A t T E s:=
 thn h fun u s1 z=>by obtain⟨x,H1,a,b,c⟩:=z;exact k u s1 x H1 a b c
theorem un7{β γ δ α:Type}{B A Z:β->γ->δ->α->Prop}{C:Prop}(k:∀P F ρ d,B P F ρ d->A P F ρ d->Z P F ρ d->C)(h:∃P F ρ d,B P F ρ d/\A P F ρ d/\Z P F ρ d):C:=by obtain⟨P,F,ρ,d,a,b,c⟩:=h;exact k P F ρ d a b c
section
variable{X:Cx}
def dg(i:Nat):TE:=fun σ H Q=>∃v,σ[i]?=some (some v)/\Q v H
def tC(v:V):TE:=fun _ H Q=>Q v H
theorem A_{i:Nat}{x:Str}{pos:Pos}(hN:X.N[i]?=some x)(hv:Vis X.env.scope x)(hd:(x == ("__debug__":Str))=false:=by decide)(hcd:(x == ("__classdict__":Str))=false:=by decide):PE X (.Name x pos) (dg i):=by
 intro pz s σ H Q I h;obtain⟨v,e,h⟩:=h;obtain⟨m,hn,hl⟩:=I.loc;obtain⟨u,r,l⟩:=hl i x v hN e hv;have fin:EP X pz σ Q u s:=⟨v,H,I,r,h⟩
 rcases l with⟨hk,hm⟩|⟨hk,c,hc,hcell⟩
 ·exact wpAny_Name (wpAny_loadName_local I.ok.kind hk hn hm fin) hd
 ·rcases hk with hk|hk
  ·exact wpAny_Name (wpAny_loadName_cell I.ok.kind hk hc hcell fin) hd
  ·exact wpAny_Name (wpAny_loadName_free I.ok.kind hk hc hcell fin hcd) hd
theorem qL{i j pos}:PE X (.Constant (.int i) j pos) (tC (.int i)):=fun _ _ _ H _ I h=>wpAny_Constant_int ⟨.int i,H,I.tok _,⟨_,rfl⟩,h⟩
theorem CQ{b j pos}:PE X (.Constant (.bool b) j pos) (tC (.bl b)):=fun _ _ _ H _ I h=>Constant_bool ⟨.bl b,H,I,rfl,h⟩
theorem Ad{j pos}:PE X (.Constant .none j pos) (tC .non):=fun _ _ _ H _ I h=>Constant_none ⟨.non,H,I,rfl,h⟩
theorem Aq{x j pos}:PE X (.Constant (.str x) j pos) (tC (.str x)):=fun _ _ _ H _ I h=>Calls.Constant_str ⟨.str x,H,I.tok _,⟨_,rfl⟩,h⟩
def Gl(X:Cx)(x:Str):Prop:=X.env.kindOf x=some .globalImplicit
theorem mQ{E:Kv}{pz:Kp}{s:Shared}{σ:St}{H:Hp}{x:Str}{u:Value}{pos:Pos}{Q:Kv}(I:Inv X pz σ H s)(hg:Gl X x)(hm:X.mg x=some u)(h:Q u s)
  (hd:(x == ("__debug__":Str))=false:=by decide):wpAny (model X.prog X.w) X.A (eval (.Name x pos) X.env) Q E s:=
 Calls.Name_function_global I.ok.kind hg (Calls.loadGlobal_global (by rw[I.ok.glob];exact I.mod.glob.keeps I.bk) hm h) hd
theorem g8{E:Kv}{pz:Kp}{s:Shared}{σ:St}{H:Hp}{x:Str}{u:Value}{pos:Pos}{Q:Kv}(I:Inv X pz σ H s)(hg:Gl X x)(hm:X.mg x=none)(hv:bootBuiltins x=some u)(h:Q u s)
  (hn:x ≠ "__name__":=by decide) (hd:(x == ("__debug__":Str))=false:=by decide):wpAny (model X.prog X.w) X.A (eval (.Name x pos) X.env) Q E s:=by
 obtain⟨mb,h1,h2⟩:=I.mod.blt;exact Calls.Name_function_global I.ok.kind hg (Calls.loadGlobal_builtin (by rw[I.ok.glob];exact I.mod.glob.keeps I.bk) hm (by rw[I.ok.blt];exact h1.keeps I.bk) ((h2 x hn).trans hv) h) hd
theorem xi{x:Str}{v:V}{u:Value}{pos:Pos}(hg:Gl X x)(hm:X.mg x=some u)(r:RelV v u)(hd:(x == ("__debug__":Str))=false:=by decide):PE X (.Name x pos) (tC v):=
 fun _ _ _ H _ I h=>mQ I hg hm ⟨v,H,I,r,h⟩ hd
theorem xk{x:Str}{v:V}{u:Value}{pos:Pos}(hg:Gl X x)(hm:X.mg x=none)(hv:bootBuiltins x=some u)(r:RelV v u)(hn:x ≠ "__name__":=by decide)(hd:(x == ("__debug__":Str))=false:=by decide):PE X (.Name x pos) (tC v):=
 fun _ _ _ H _ I h=>g8 I hg hm hv ⟨v,H,I,r,h⟩ hn hd
variable{a b:Expr}{ta tb:TE}{pos:Pos}
def PC(X:Cx)(op:CmpOp)(a b:Expr)(t:TE):Prop:=
 ∀(pz:Kp) (s:Shared) (σ:St) (H:Hp) (Q:VK),Inv X pz σ H s->t σ H Q->
  wpAny (model X.prog X.w) X.A (eval a X.env) (fun v s₁=>wpAny (model X.prog X.w) X.A (eval b X.env) (fun u s₂=>wpAny (model X.prog X.w) X.A (compareOp op v u) (EP X pz σ Q) X.xe s₂) X.xe s₁) X.xe s
theorem uO(b:Expr){op:CmpOp}(h:op≠.In)(h2:op≠.NotIn):behindInMarks op b=false:=by
 have e1:(op == CmpOp.In)=false:=by cases op<;>first|rfl|exact absurd rfl h
 have e2:(op == CmpOp.NotIn)=false:=by cases op<;>first|rfl|exact absurd rfl h2
 cases b<;>simp[behindInMarks,e1,e2]
instance (x:V):Decidable (x=.non):=by cases x<;>first|exact .isTrue rfl|exact .isFalse nofun
def D8(ta:TE):TE:=fun σ H Q=>ta σ H fun x H1=>Q (.bl (decide (x=.non))) H1
theorem RelV.none_iff{x:V}{v:Value}(r:RelV x v):(v == Value.none)=decide (x=.non):=by
 cases x with
 |non=>cases r;rfl
 |bl _=>cases r;rfl
 |int _=>obtain⟨t,rfl⟩:=r;rfl
 |str _=>obtain⟨t,rfl⟩:=r;rfl
 |byt _=>obtain⟨t,rfl⟩:=r;rfl
 |flt _=>obtain⟨t,rfl⟩:=r;rfl
 |ref _=>cases r;rfl
 |ty _=>cases r;rfl
theorem z_{j pos'}(ha:PE X a ta):PC X .Is a (.Constant .none j pos') (D8 ta):=by intro pz s σ H Q I h;refine bu (ha pz s σ H _ I h) fun v s1 x H1 I1 r1 q1=>?_;exact Constant_none (is_none_gen ⟨.bl _,H1,I1,by rw[r1.none_iff];rfl,q1⟩)
def tB(t:TE):TT:=fun σ H Q=>t σ H fun x H1=>∃c,x=.bl c/\Q c H1
theorem zS{op:CmpOp}{t:TE}(h:PC X op a b t)(h1:behindInMarks op b=false:=by first|exact uO _ (by decide) (by decide)|rfl):PT X (.Compare a [op] [b] pos) (tB t):=by intro pz s σ H Q I hw;refine wpAny_isTrue_Compare1 (thn (h pz s σ H _ I hw) fun v s1 h1=>thn h1 fun u s2 h2=>thn h2 fun c s3 hh_=>?_) h1;obtain⟨x,H1,I1,r1,q1⟩:=hh_;obtain⟨d,rfl,q⟩:=q1;cases r1;exact Zv ⟨H1,I1,q⟩
theorem Bq{e:Expr}{t:TE}(h:PE X e t)(he:∀whole,isTrue e X.env whole=(do let v <-whole;standAt e.pos;holding [v] (truthy v)):=by intro _;rfl):PT X e (tB t):=by intro pz s σ H Q I hw;refine isTrue_plain (bu (h pz s σ H _ I hw) fun v s1 x H1 I1 r1 q1=>?_) (he _);obtain⟨d,rfl,q⟩:=q1;cases r1;exact Zv ⟨H1,I1,q⟩
variable{tA tB':TT}{bD:List Expr}
def DZ(t u:TT):TT:=fun σ H Q=>t σ H fun c H1=>if c=true then u σ H1 Q else Q false H1
def tOr(t u:TT):TT:=fun σ H Q=>t σ H fun c H1=>if c=true then Q true H1 else u σ H1 Q
def Ee(t:TT):TT:=fun σ H Q=>t σ H fun c H1=>Q (!c) H1
theorem xJ(ha:PT X a tA):PW X (.BoolOp .And [a] pos) tA:=by
 intro wh pz s σ H Q I h;refine isTrue_and (thn (ha pz s σ H Q I h) fun c s1 e=>?_);cases c with
 |true=>exact isTrue_and_nil e
 |false=>exact e
theorem zG(ha:PT X a tA):PW X (.BoolOp .Or [a] pos) tA:=by
 intro wh pz s σ H Q I h;refine isTrue_or (thn (ha pz s σ H Q I h) fun c s1 e=>?_);cases c with
 |false=>exact isTrue_or_nil e
 |true=>exact e
theorem AY(ha:PT X a tA)(hb:PW X (.BoolOp .And (b::bD) pos) tB'):PW X (.BoolOp .And (a::b::bD) pos) (DZ tA tB'):=by
 intro wh pz s σ H Q I h;refine isTrue_and (thn (ha pz s σ H _ I h) fun c s1 hh_=>?_);obtain⟨H1,I1,q1⟩:=hh_;cases c with
 |true=>exact hb wh pz s1 σ H1 Q I1 q1
 |false=>exact⟨H1,I1,q1⟩
theorem BT(ha:PT X a tA)(hb:PW X (.BoolOp .Or (b::bD) pos) tB'):PW X (.BoolOp .Or (a::b::bD) pos) (tOr tA tB'):=by
 intro wh pz s σ H Q I h;refine isTrue_or (thn (ha pz s σ H _ I h) fun c s1 hh_=>?_);obtain⟨H1,I1,q1⟩:=hh_;cases c with
 |true=>exact⟨H1,I1,q1⟩
 |false=>exact hb wh pz s1 σ H1 Q I1 q1
theorem zF(ha:PT X a tA):PT X (.UnaryOp .Not a pos) (Ee tA):=by intro pz s σ H Q I h;exact isTrue_not (ha pz s σ H (fun c H1=>Q (!c) H1) I h)
def Ca(ta tb:TE):TE:=fun σ H Q=>ta σ H fun x H1=>∃c,x=.bl c/\if c=true then tb σ H1 Q else Q (.bl false) H1
def BW(ta:TE):TE:=fun σ H Q=>ta σ H fun x H1=>∃c,x=.bl c/\Q (.bl (!c)) H1
theorem Ba{op}{t:TE}(h:PE X a t):PE X (.BoolOp op [a] pos) t:=fun pz s σ H Q I hw=>BoolOp_one (h pz s σ H Q I hw)
theorem As(ha:PE X a ta)(hb:PE X (.BoolOp .And (b::bD) pos) tb):PE X (.BoolOp .And (a::b::bD) pos) (Ca ta tb):=by
 intro pz s σ H Q I h;refine BoolOp_and (bu (ha pz s σ H _ I h) fun v s1 x H1 I1 r1 q1=>?_);obtain⟨c,rfl,q1⟩:=q1;cases r1;refine Zv ?_;cases c with
 |true=>exact hb pz s1 σ H1 Q I1 q1
 |false=>exact⟨.bl false,H1,I1,rfl,q1⟩
theorem Bd(ha:PE X a ta):PE X (.UnaryOp .Not a pos) (BW ta):=by intro pz s σ H Q I h;refine UnaryOp_ (bu (ha pz s σ H _ I h) fun v s1 x H1 I1 r1 q1=>?_);obtain⟨c,rfl,q1⟩:=q1;cases r1;exact not_of (Zv ⟨.bl (!c),H1,I1,rfl,q1⟩)
def tIf(t:TT)(ta tb:TE):TE:=fun σ H Q=>t σ H fun c H1=>if c=true then ta σ H1 Q else tb σ H1 Q
theorem wF{c:Expr}(hc:PT X c tA)(ha:PE X a ta)(hb:PE X b tb):PE X (.IfExp c a b pos) (tIf tA ta tb):=by
 intro pz s σ H Q I h;refine wpAny_IfExp (thn (hc pz s σ H _ I h) fun d s1 hh_=>?_);obtain⟨H1,I1,q1⟩:=hh_;cases d with
 |true=>exact ha pz s1 σ H1 Q I1 q1
 |false=>exact hb pz s1 σ H1 Q I1 q1
end
def SqL(K:Kq)(H:Hp)(a:Addr)(xs:List V):Prop:=
 Rd H a (.lst xs) \/
  ∃(o:Obj) (its:Array Value) (n:Nat),K.lookup a=some o/\o.cls=.type "list"/\o.dict=none/\o.data=.seq its n/\its.size<=sizeLine/\Vals xs its.toList
def SqT(K:Kq)(H:Hp)(a:Addr)(xs:List V):Prop:=
 Rd H a (.tup xs) \/
  ∃(o:Obj) (its:Array Value) (n:Nat),K.lookup a=some o/\o.cls=.type "tuple"/\o.data=.seq its n/\its.size<=sizeLine/\Vals xs its.toList
def Ef:Value->Option V
 |.none=>some .non
 |.bool b=>some (.bl b)
 |.int i _=>some (.int i)
 |.str x _=>some (.str x)
 |.bytes b _=>some (.byt b)
 |.float b _=>some (.flt b)
 |.ref a=>some (.ref a)
 |.type n=>some (.ty n)
 |_=>none
theorem RelV.abs{x:V}{u:Value}(r:RelV x u):Ef u=some x:=by
 cases x with
 |non=>cases r;rfl
 |bl _=>cases r;rfl
 |int _=>obtain⟨t,rfl⟩:=r;rfl
 |str _=>obtain⟨t,rfl⟩:=r;rfl
 |byt _=>obtain⟨t,rfl⟩:=r;rfl
 |flt _=>obtain⟨t,rfl⟩:=r;rfl
 |ref _=>cases r;rfl
 |ty _=>cases r;rfl
theorem RelV.inj{x y:V}{u:Value}(r:RelV x u)(q:RelV y u):x=y:=Yr (r.abs.symm.trans q.abs)
theorem Vals.inj{xs ys:List V}{us:List Value}(h:Vals xs us):Vals ys us->xs=ys:=by
 induction h generalizing ys with
 |nil=>intro q;cases q;rfl
 |cons r _ ih=>
  intro q;cases q with
  |cons r' t'=>rw[r.inj r',ih t']
section
variable{X:Cx}{pz:Kp}{σ:St}{H:Hp}{s:Shared}{a:Addr}{xs ys:List V}
theorem SqL.of{K:Kq}(h:H a=some (.lst xs)):SqL K H a xs:=.inl (.inl h)
theorem SqT.of{K:Kq}(h:H a=some (.tup xs)):SqT K H a xs:=.inl (.inl h)
theorem Inv.list(I:Inv X pz σ H s)(h:SqL X.K H a xs):∃its:List Value,Vals xs its/\PlainL s.heap a its.toArray/\xs.length<=sizeLine:=by
 rcases h with h|⟨o,its,n,hk,hc,hd,hs,hz,r⟩
 ·obtain⟨z,its,n,r,e⟩:=h.ok I.hok;exact⟨its,r,⟨_,n,e,rfl,rfl,rfl⟩,z⟩
 ·refine⟨its.toList,r,⟨o,n,I.kIn a o hk,hc,hd,by simpa using hs⟩,?_⟩;have e:=r.length;simp only[YC]at e;omega
theorem Inv.tuple(I:Inv X pz σ H s)(h:SqT X.K H a xs):∃its:List Value,Vals xs its/\IsTup s.heap a its.toArray/\xs.length<=sizeLine:=by
 rcases h with h|⟨o,its,n,hk,hc,hs,hz,r⟩
 ·obtain⟨z,its,r,p,_⟩:=h.ok I.hok;exact⟨its,r,p,z⟩
 ·refine⟨its.toList,r,⟨o,I.kIn a o hk,hc,n,by simpa using hs⟩,?_⟩;have e:=r.length;simp only[YC]at e;omega
theorem Inv.list_inj(I:Inv X pz σ H s)(h:SqL X.K H a xs)(h':SqL X.K H a ys):xs=ys:=by
 obtain⟨its,r,⟨o,n,e,_,_,d⟩,_⟩:=I.list h;obtain⟨its',r',⟨o',n',e',_,_,d'⟩,_⟩:=I.list h';rw[e]at e';cases e';rw[d]at d';injection d' with d1 _;have:its=its':=by simpa using Zs Array.toList d1
 subst this;exact r.inj r'
end
abbrev Cx.wish(X:Cx)(E:Kv):Cx:={X with xe:=E}
abbrev Cx.nox(X:Cx):Cx:=X.wish fun _ _=>False
theorem Cx.Ok.wish{X:Cx}(ok:X.Ok)(E:Kv):(X.wish E).Ok:=
 ⟨ok.mod,ok.kind,ok.glob,ok.blt,ok.above,ok.inj,ok.has,ok.cab,ok.hd,ok.frames,ok.stk,ok.exf,ok.bs,ok.bsz,ok.noex,ok.exfs,ok.funs,ok.frf⟩
theorem Cx.Ok.unwish{X:Cx}{E:Kv}(ok:(X.wish E).Ok):X.Ok:=
 ⟨ok.mod,ok.kind,ok.glob,ok.blt,ok.above,ok.inj,ok.has,ok.cab,ok.hd,ok.frames,ok.stk,ok.exf,ok.bs,ok.bsz,ok.noex,ok.exfs,ok.funs,ok.frf⟩
section
variable{X:Cx}{pz:Kp}{σ:St}{H:Hp}{s:Shared}{E:Kv}
theorem Inv.wish(I:Inv X pz σ H s)(E:Kv):Inv (X.wish E) pz σ H s:=⟨I.ok.wish E,I.os,I.bare,I.base,I.loc,I.cell,I.free,I.freeC,I.pin,I.hok,I.len⟩
theorem Inv.unwish(I:Inv (X.wish E) pz σ H s):Inv X pz σ H s:=⟨I.ok.unwish,I.os,I.bare,I.base,I.loc,I.cell,I.free,I.freeC,I.pin,I.hok,I.len⟩
theorem SP.unwish{D:ie}{f:Flow}{s':Shared}(h:SP (X.wish E) pz D f s'):SP X pz D f s':=by
 cases f with
 |next=>obtain⟨σ',H',I,q⟩:=h;exact⟨σ',H',I.unwish,q⟩
 |brk=>obtain⟨σ',H',I,q⟩:=h;exact⟨σ',H',I.unwish,q⟩
 |cont=>obtain⟨σ',H',I,q⟩:=h;exact⟨σ',H',I.unwish,q⟩
 |ret u=>obtain⟨v,σ',H',I,r,q⟩:=h;exact⟨v,σ',H',I.unwish,r,q⟩
theorem PSs.nox{st:List Stmt}{t:TS}(h:PSs X.nox st t):PSs X st t:=fun pz s σ H D I hw=>
 Xg (h pz s σ H D (I.wish _) hw) (fun _ _ q=>q.unwish) fun _ _ z=>False.elim z
end
section
variable{X:Cx}{st:Stmt}{bD:List Stmt}{t u:TS}{e:Expr}{te:TE}{pos:Pos}
def BK:TS:=fun D σ H=>D.nx σ H
def D3(t u:TS):TS:=fun D σ H=>t {D with nx:=u D} σ H
theorem xL:PSs X [] BK:=fun _ _ σ H _ I h=>VC ⟨σ,H,I,h⟩
theorem ot(h1:PS X st t)(h2:PSs X bD u):PSs X (st::bD) (D3 t u):=by
 intro pz s σ H D I h;refine wpAny_execs_cons (thn (h1 pz s σ H {D with nx:=u D} I h) fun f s1 q=>?_);cases f with
 |next=>
  obtain⟨σ',H',I',q⟩:=q;exact h2 pz s1 σ' H' D I' q
 |ret v=>exact q
 |brk=>exact q
 |cont=>exact q
theorem nc(h1:PS X st t):PSs X [st] t:=by
 intro pz s σ H D I h;refine wpAny_execs_cons (thn (h1 pz s σ H D I h) fun f s1 q=>?_);cases f with
 |next=>exact VC q
 |ret v=>exact q
 |brk=>exact q
 |cont=>exact q
theorem Inv.quiet{pz:Kp}{σ:St}{H:Hp}{s:Shared}(I:Inv X pz σ H s):interactive X.env=false:=by simp[interactive,I.ok.kind]
def Cw(te:TE):TS:=fun D σ H=>te σ H fun _ H1=>D.nx σ H1
theorem eS(he:PE X e te)(hs:swapsWith e none pos.line X.env=pure false:=by rfl):PS X (.Expr e pos) (Cw te):=by intro pz s σ H D I h;exact wpAny_Expr_any (bu (he pz s σ H _ I h) fun v s1 x H1 I1 r1 q1=>⟨σ,H1,I1,q1⟩) I.quiet hs
def Ej(te:TE):TS:=fun D σ H=>te σ H D.rt
theorem l_(he:PE X e te):PS X (.Return (some e) pos) (Ej te):=by intro pz s σ H D I h;exact wpAny_Return_some (bu (he pz s σ H _ I h) fun v s1 x H1 I1 r1 q1=>⟨x,σ,H1,I1,r1,q1⟩)
def DY(c:TT)(t u:TS):TS:=fun D σ H=>c σ H fun b H1=>if b=true then t D σ H1 else u D σ H1
theorem CO{c:Expr}{a b:List Stmt}{tc:TT}(hc:PT X c tc)(ha:PSs X a t)(hb:PSs X b u):PS X (.If c a b pos) (DY tc t u):=by
 intro pz s σ H D I h;refine wpAny_If (thn (hc pz s σ H _ I h) fun d s1 hh_=>?_);obtain⟨H1,I1,q1⟩:=hh_;cases d with
 |true=>exact ha pz s1 σ H1 D I1 q1
 |false=>exact hb pz s1 σ H1 D I1 q1
def Al:TS:=fun _ _ _=>False
theorem vP:PS X st Al:=fun _ _ _ _ _ _ h=>h.elim
end
abbrev TG:=V->St->Hp->(St->Hp->Prop)->Prop
abbrev TGs:=List V->St->Hp->(St->Hp->Prop)->Prop
def PG(X:Cx)(target:Expr)(t:TG):Prop:=
 ∀(pz:Kp) (s:Shared) (σ:St) (H:Hp) (v:V) (u:Value) (Q:St->Hp->Prop),Inv X pz σ H s->RelV v u->t v σ H Q->
  wpAny (model X.prog X.w) X.A (assign target X.env u) (fun _ s'=>∃σ' H',Inv X pz σ' H' s'/\Q σ' H') X.xe s
def PGs(X:Cx)(ts:List Expr)(t:TGs):Prop:=
 ∀(pz:Kp) (s:Shared) (σ:St) (H:Hp) (vs:List V) (us:List Value) (Q:St->Hp->Prop),Inv X pz σ H s->Vals vs us->t vs σ H Q->
  wpAny (model X.prog X.w) X.A (assignInOrder ((assignEach ts X.env).map (·.2)) us) (fun _ s'=>∃σ' H',Inv X pz σ' H' s'/\Q σ' H') X.xe s
section
variable{X:Cx}{pos:Pos}
def io(i:Nat):TG:=fun v σ H Q=>Q (σ.set i (some v)) H
theorem cS{i:Nat}{x:Str}(hN:X.N.Nodup)(hi:X.N[i]?=some x)(hx:Loc X.env.scope x)(hf:X.fn x=true\/X.env.scope.names.lookup x=some .local:=by first|exact .inl rfl|exact .inr rfl|assumption):PG X (.Name x pos) (io i):=by intro pz s σ H v u Q I r h;exact wpAny_assign_Name (oU I hN hi hx r (fun s' I'=>⟨_,H,I',h⟩) hf)
def Cz:TGs:=fun vs σ H Q=>vs=[]/\Q σ H
def ze(t:TG)(u:TGs):TGs:=fun vs σ H Q=>∃v r,vs=v::r/\t v σ H fun σ' H'=>u r σ' H' Q
theorem mY:PGs X [] Cz:=by intro pz s σ H vs us Q I r h;obtain⟨e,h⟩:=h;subst e;cases r;exact assignInOrder_nil ⟨σ,H,I,h⟩
theorem cY{e:Expr}{es:List Expr}{t:TG}{u:TGs}(h1:PG X e t)(h2:PGs X es u)
  (hs:(assignEach (e::es) X.env).map (·.2)=assign e X.env::(assignEach es X.env).map (·.2):=by rfl):PGs X (e::es) (ze t u):=by
 intro pz s σ H vs us Q I r h;obtain⟨v,vr,e1,h⟩:=h;subst e1;cases r with
 |cons r rr=>
  rw[hs];refine assignInOrder_cons (thn (h1 pz s σ H _ _ _ I r h) fun _ s1 hh_=>?_);obtain⟨σ1,H1,I1,q1⟩:=hh_;exact h2 pz s1 σ1 H1 _ _ Q I1 rr q1
def Ev(K:Kq)(n:Nat)(t:TGs):TG:=fun v σ H Q=>∃a xs,v=.ref a/\SqT K H a xs/\xs.length=n/\t xs σ H Q
theorem Bf{es:List Expr}{k:Nat}{t:TGs}{n:Nat}(hc:X.calm=true)(h:PGs X es t)
  (hn:(assignEach es X.env).length=n:=by rfl) (hst:(assignEach es X.env).findIdx? (·.1)=none:=by rfl):PG X (.Tuple es k pos) (Ev X.K n t):=by
 intro pz s σ H v u Q I r hw;obtain⟨a,xs,e1,hq,hl,hw⟩:=hw;subst e1;cases r;obtain⟨its,rv,ht,hz⟩:=I.tuple hq;refine assign_Tuple_tuple (I.ok.hd hc) ht (by simp[hn,<-hl,rv.length]) hst fun h' hx=>?_;have I1:Inv X pz σ H {s with heap:=h' }:=I.kept (t':=s.toks) fun b o e=>hx b o (Yw (Yp e)) e
 exact h pz _ σ H xs _ Q I1 (by simpa using rv) hw
def u8(te:TE)(g:TG):TS:=fun D σ H=>te σ H fun x H1=>g x σ H1 D.nx
theorem AL{tg e:Expr}{te:TE}{g:TG}(he:PE X e te)(hg:PG X tg g)(hs:swapsWithSole [tg] e pos.line X.env=pure false:=by rfl)(hw:swappedStores [tg] e X.env=pure none:=by rfl)
  (h1:(assignEach [tg] X.env).map (·.2)=[assign tg X.env]:=by rfl):PS X (.Assign [tg] e pos) (u8 te g):=by
 intro pz s σ H D I h;refine wpAny_Assign_stores (bu (he pz s σ H _ I h) fun v s1 x H1 I1 r1 q1=>?_) hs hw;rw[h1];exact thn (hg pz s1 σ H1 x v _ I1 r1 q1) fun _ s2 q=>q
theorem qu{i:Nat}{x:Str}{e:Expr}{te:TE}{pos':Pos}(hN:X.N.Nodup)(hi:X.N[i]?=some x)(hx:Loc X.env.scope x)(he:PE X e te)(hs:swapsWith e (some (.Name x pos')) pos.line X.env=pure false:=by rfl)(hf:X.fn x=true\/X.env.scope.names.lookup x=some .local:=by first|exact .inl rfl|exact .inr rfl|assumption) :
  PS X (.Assign [.Name x pos'] e pos) (u8 te (io i)):=by
 intro pz s σ H D I h;refine wpAny_Assign_Name (bu (he pz s σ H _ I h) fun v s1 y H1 I1 r1 q1=>?_) hs;exact oU I1 hN hi hx r1 (fun s2 I2=>⟨_,H1,I2,q1⟩) hf
end
section
variable{X:Cx}{pos:Pos}
def zU(c:TT)(tb:TS):TS:=fun D σ H=>∃W:Nat->St->Hp->Prop,(∃m,W m σ H)/\∀m σ H,W m σ H->
 c σ H fun b H1=>if b=true then ∃N:St->Hp->Prop,(∀σ' H',N σ' H'->∃m',m' < m/\W m' σ' H')/\tb {D with nx:=N,ct:=N,bk:=D.nx} σ H1 else D.nx σ H1
theorem vJ{c:Expr}{body:List Stmt}{tc:TT}{tb:TS}(hp:PassesOwn (model X.prog X.w) X.A X.env X.xe)(hc:PT X c tc)(hb:PSs X body tb):PS X (.While c body [] pos) (zU tc tb):=by
 intro pz s σ H D I h;obtain⟨W,⟨m0,w0⟩,turn⟩:=h;refine wpAny_While (codeAny_whileLoop (fun n s'=>∃σ' H',Inv X pz σ' H' s'/\W n σ' H') ?_ m0 ⟨σ,H,I,w0⟩);rintro n s1 ⟨σ1,H1,I1,w1⟩;refine Xh hp (thn (hc pz s1 σ1 H1 _ I1 (turn n σ1 H1 w1)) fun b s2 hh_=>?_);obtain⟨H2,I2,q2⟩:=hh_;cases b with
 |true=>
  obtain⟨N,hN,q2⟩:=q2;rw[if_pos rfl];refine Xh hp (thn (hb pz s2 σ1 H2 _ I2 q2) fun f s3 q3=>?_);cases f with
  |next=>
   obtain⟨σ3,H3,I3,n3⟩:=q3;obtain⟨m',hm,w3⟩:=hN σ3 H3 n3;exact⟨m',hm,σ3,H3,I3,w3⟩
  |cont=>
   obtain⟨σ3,H3,I3,n3⟩:=q3;obtain⟨m',hm,w3⟩:=hN σ3 H3 n3;exact⟨m',hm,σ3,H3,I3,w3⟩
  |brk=>exact q3
  |ret v=>exact q3
 |false=>
  rw[if_neg Yj];exact VC ⟨σ1,H2,I2,q2⟩
end
structure It where
 go:Nat->Hp->Prop
 yld:Nat->Hp->V->Hp->Prop
 stop:Nat->Hp->Prop
def fU(X:Cx)(pz:Kp)(H:Hp)(b:Addr):Prop:=
 H b=none/\b≠X.env.locals/\b∉X.fs/\(b∈X.ex\/X.s₀.heap.objs.size<=b)/\(∀x c,X.env.cells.lookup x=some c->c≠b)/\∀p∈X.pn++pz,p.1≠b
theorem Inv.fpOk{X:Cx}{pz:Kp}{σ:St}{H H':Hp}{s:Shared}{b:Addr}(I:Inv X pz σ H s)(hb:s.heap.objs.size<=b)(hn:H' b=none):fU X pz H' b:=by
 refine⟨hn,ZH (Ys I.lt hb),I.nofs hb,.inr (YD I.sz hb),fun x c e z=>?_,fun p hp z=>?_⟩
 ·obtain⟨v,q⟩:=I.cell x c e;exact absurd (Ys q.lt (by rw[z];exact hb)) (YX _)
 ·exact absurd (Ys (Yp (I.pin p hp).1) (by rw[z];exact hb)) (YX _)
structure Turn (P:Program) (w:World) (K:PySem.W.Frag) (tg:Expr) (J:It) (fp:List Addr) (it:Addr) (tn:Nat->Heap->Prop):Prop where
 mem:it∈fp
 obj:∀i h,tn i h->∀b∈fp,∃o,h.get? b=some o/\∀v,o.data≠.cell v
 keep:∀i h h',tn i h->(∀b∈fp,∀o,h.get? b=some o->h'.get? b=some o)->tn i h'
 item:∀(X:Cx),X.prog=P->X.w=w->X.K=K->X.calm=true->∀(i:Nat) (pz:Kp) (s:Shared) (σ:St) (H:Hp) (E:Kv),Inv X pz σ H s->(∀b∈fp,fU X pz H b)->tn i s.heap->J.go i H->
  wpAny (model P w) X.A (pyNext (.ref it)) (fun r s1=>∃u,r=some u /\
   wpAny (model P w) X.A (letOwnedTupleGo tg (.ref it) u) (fun _ s2=>∃x H',Inv X pz σ H' s2/\RelV x u/\J.yld i H x H'/\tn (i+1) s2.heap/\∀b∈fp,H' b=none) E s1) E s
 done:∀(X:Cx),X.prog=P->X.w=w->X.K=K->X.calm=true->∀(i:Nat) (pz:Kp) (s:Shared) (σ:St) (H:Hp) (E:Kv),Inv X pz σ H s->(∀b∈fp,fU X pz H b)->tn i s.heap->J.stop i H->
  wpAny (model P w) X.A (pyNext (.ref it)) (fun r s1=>r=none/\Inv X pz σ H s1) E s
 self:∀(A:Around) (i:Nat) (s:Shared) (Q:Kv) (E:Kv),tn i s.heap->Q (.ref it) s->wpAny (model P w) A (pyIter (.ref it)) Q E s
abbrev TI:=St->Hp->(It->Hp->Prop)->Prop
def PIE(X:Cx)(pz:Kp)(σ:St)(tg:Expr)(R:It->Hp->Prop)(itv:Value)(s2:Shared):Prop:=
 ∃(it:Addr) (fp:List Addr) (tn:Nat->Heap->Prop) (J:It) (H':Hp),itv=.ref it/\Inv X pz σ H' s2/\Turn X.prog X.w X.K tg J fp it tn/\tn 0 s2.heap/\(∀b∈fp,fU X pz H' b)/\R J H'
def PI(X:Cx)(tg iter:Expr)(wi:TI):Prop:=
 ∀(pz:Kp) (s:Shared) (σ:St) (H:Hp) (R:It->Hp->Prop),Inv X pz σ H s->wi σ H R->
  wpAny (model X.prog X.w) X.A (eval iter X.env) (fun v s1=>wpAny (model X.prog X.w) X.A (pyIter v) (PIE X pz σ tg R) X.xe s1) X.xe s
theorem wn{M:Model}{A:Around}{E:Kv}{s:Shared}{tg:Expr}{it:Addr}{u:Value}{o:Obj}{n:String}{vs:Array Value}{Q:Unit->Shared->Prop}(ho:s.heap.get? it=some o)(hc:o.cls=.type n)(hd:o.data=.fields vs)
  (hn:["enumerate","zip","dict_itemiterator","dict_reverseitemiterator","odict_iterator","itertools.zip_longest","itertools.pairwise"].contains n=false) (hQ:Q () s):wpAny M A (letOwnedTupleGo tg (.ref it) u) Q E s:=by
 unfold letOwnedTupleGo;cases tg<;>first
  |exact Yf hQ
  |(cases u<;>first
    |exact Yf hQ
    |(
     refine Yb (wpAny_load ho ?_);rw[hc,hd];show wpAny M A (if(["enumerate","zip","dict_itemiterator","dict_reverseitemiterator","odict_iterator","itertools.zip_longest","itertools.pairwise"].contains n&&vs[0]? == some (rawInt _))=true then _ else _) Q E s;rw[if_neg (by intro h;rw[hn,Bool.false_and]at h;cases h)];exact Yf hQ))
def Itl(K:Kq)(a:Addr):It:=
 ⟨fun i H=>∃xs x,SqL K H a xs/\xs[i]?=some x,fun i H x H'=>H'=H/\∀xs,SqL K H a xs->xs[i]?=some x,fun i H=>∃xs,SqL K H a xs/\xs.length<=i⟩
def Itr(lo:Int)(n:Nat):It:=⟨fun i _=>i<n,fun i H x H'=>H'=H/\x=.int (lo+i),fun i _=>n<=i⟩
theorem sV{P:Program}{w:World}{K:Kq}{tg:Expr}(a it:Addr):Turn P w K tg (Itl K a) [it] it (fun i h=>h.IsListIter it a i) where
 mem:=by simp
 obj:=fun i h st b hb=>by
  have e:b=it:=by simpa using hb
  subst e;obtain⟨o,e,c,d⟩:=st;exact⟨o,e,fun v z=>by rw[d]at z;cases z⟩
 keep:=fun i h h' st k=>st.at fun o e=>k it (by simp) o e
 item:=by intro X hP hw hK hc i pz s σ H E I hf st hg;subst hP hw hK;obtain⟨xs,x,hq,hx⟩:=hg;obtain⟨its,rv,p,hz⟩:=I.list hq;obtain⟨u,hu,ru⟩:=rv.get hx;obtain⟨f0,f1,f2,f3,f4,f5⟩:=hf it (by simp);refine wpAny_pyNext_list_item st p.isList (x:=u) (by simpa using hu) fun h' st' sb=>?_;have I1:Inv X pz σ H {s with heap:=h' }:=I.turned (t':=s.toks) (fun b o hb e=>(sb.2 b hb).trans e) f0 f1 f3 f4 f5;obtain⟨o,e,c,d⟩:=id st';exact⟨u,rfl,wn (s:={s with heap:=h' }) e c d (by decide) ⟨x,H,I1,ru,⟨rfl,fun ys hy=>by rw[I.list_inj hy hq];exact hx⟩,st',fun b hb=>(hf b hb).1⟩⟩
 done:=by intro X hP hw hK hc i pz s σ H E I hf st hg;subst hP hw hK;obtain⟨xs,hq,hx⟩:=hg;obtain⟨its,rv,p,hz⟩:=I.list hq;obtain⟨f0,f1,f2,f3,f4,f5⟩:=hf it (by simp);have hl:=rv.length;exact wpAny_pyNext_list_end (I.ok.hd hc) st p.isList (by simp;omega) fun h' eb=>⟨rfl,I.turned (t':=s.toks) (fun b o hb e=>eb b o hb e) f0 f1 f3 f4 f5⟩
 self:=fun _ _ _ _ _ st h=>wpAny_pyIter_listiter st h
theorem qK{P:Program}{w:World}{K:Kq}{tg:Expr}(it:Addr)(lo:Int)(n:Nat):Turn P w K tg (Itr lo n) [it] it (fun i h=>IsRangeIter h it (lo+(i:Nat)*1) ((n:Int)-(i:Nat)) 1) where
 mem:=by simp
 obj:=fun i h st b hb=>by
  have e:b=it:=by simpa using hb
  subst e;exact⟨_,st,fun v z=>by
   have z':Data.fields _=Data.cell v:=z;cases z'⟩
 keep:=fun i h h' st k=>k it (by simp) _ st
 item:=by intro X hP hw hK hc i pz s σ H E I hf st hg;subst hP hw hK;obtain⟨f0,f1,f2,f3,f4,f5⟩:=hf it (by simp);have W:=Walks.range (prog:=X.prog) (w:=X.w) (I.ok.hd hc) it lo 1 n;refine W.item i s _ _ hg st fun v h' tk hv st' kk=>?_;obtain⟨t,rfl⟩:=hv;have I1:Inv X pz σ H {s with heap:=h',toks:=tk}:=I.turned (fun b o hb e=>kk b o (by simpa using hb) e) f0 f1 f3 f4 f5;refine⟨_,rfl,wn (s:={s with heap:=h',toks:=tk}) (n := "range_iterator") st' rfl rfl (by decide) ⟨.int (lo+i),H,I1,⟨t,?_⟩,⟨rfl,rfl⟩,st',fun b hb=>(hf b hb).1⟩⟩;rw[Int.mul_one]
 done:=by intro X hP hw hK hc i pz s σ H E I hf st hg;subst hP hw hK;obtain⟨f0,f1,f2,f3,f4,f5⟩:=hf it (by simp);exact wpAny_pyNext_range_end (I.ok.hd hc) st (by have:n<=i:=hg;omega) fun h' eb=>⟨rfl,I.turned (t':=s.toks) (fun b o hb e=>eb b o hb e) f0 f1 f3 f4 f5⟩
 self:=fun _ _ _ _ _ st h=>wpAny_pyIter_rangeiter st h
section
variable{X:Cx}{tg:Expr}
def BI(K:Kq)(tl:TE):TI:=fun σ H R=>tl σ H fun x H1=>∃a,x=.ref a/\(∃xs,SqL K H1 a xs)/\R (Itl K a) H1
theorem mV{l:Expr}{tl:TE}(hl:PE X l tl):PI X tg l (BI X.K tl):=by
 intro pz s σ H R I h;refine bu (hl pz s σ H _ I h) fun v s1 x H1 I1 r1 q1=>?_;obtain⟨a,e,⟨xs,hq⟩,q⟩:=q1;subst e;cases r1;obtain⟨its,rv,p,hz⟩:=I1.list hq;refine wpAny_pyIter_list p.isList ?_;refine⟨s1.heap.objs.size,[s1.heap.objs.size],_,_,H1,rfl,I1.kept (t':=s1.toks) fun b o e=>Yg _ e,sV a _,⟨_,Yn _ rfl,rfl,rfl⟩,fun b hb=>?_,q⟩;have e:b=s1.heap.objs.size:=by simpa using hb
 subst e;exact I1.fpOk (Yl _) (I1.hok.fresh (Yl _))
theorem pG{pz:Kp}{σ:St}{H:Hp}{s:Shared}{R:It->Hp->Prop}{E:Kv}{lo hi:Int}{t u v:Tok}{tk:Nat}(I:Inv X pz σ H s)(h1:-(2^62)<=lo)(h2:lo<2^62)(h3:-(2^62)<=hi)(h4:hi<2^62)
  (q:R (Itr lo (hi-lo).toNat) H):wpAny (model X.prog X.w) X.A (pyIter (.ref s.heap.objs.size)) (PIE X pz σ tg R) E {s with heap:=s.heap.push {cls:=.type "range",data:=.fields #[.int lo t,.int hi u,.int 1 v]},toks:=tk}:=by
 refine wpAny_pyIter_range (IsRange.new ..) (small_one h1 h2 h3 h4) ?_;have I1:Inv X pz σ H {s with heap:=s.heap.push {cls:=.type "range",data:=.fields #[.int lo t,.int hi u,.int 1 v]},toks:=tk}:=I.kept fun b o e=>Yg _ e
 refine⟨(s.heap.push {cls:=.type "range",data:=.fields #[.int lo t,.int hi u,.int 1 v]}).objs.size,[(s.heap.push {cls:=.type "range",data:=.fields #[.int lo t,.int hi u,.int 1 v]}).objs.size],_,_,H,rfl,
  I1.kept (t':=tk) fun b o e=>Yg _ e,qK _ lo (hi-lo).toNat,?_,fun b hb=>?_,q⟩
 ·have e1:lo+((0:Nat):Int)*1=lo:=by simp
  have e2:(((hi-lo).toNat:Nat):Int)-((0:Nat):Int)=Builtin.Range.rangeSize lo hi 1:=by rw[rangeSize_one];split<;>omega
  show IsRangeIter _ _ (lo+((0:Nat):Int)*1) ((((hi-lo).toNat:Nat):Int)-((0:Nat):Int)) 1;rw[e1,e2];exact Yn _ rfl
 ·have e:b=(s.heap.push {cls:=.type "range",data:=.fields #[.int lo t,.int hi u,.int 1 v]}).objs.size:=by simpa using hb
  subst e;exact I1.fpOk (Yl _) (I1.hok.fresh (Yl _))
def C5(ta:TA):TI:=fun σ H R=>ta σ H fun vs H1=>∃j:Int,vs=[.int j]/\-(2^62)<=j/\j<2^62/\R (Itr 0 j.toNat) H1
def C4(ta:TA):TI:=fun σ H R=>ta σ H fun vs H1=>∃i j:Int,vs=[.int i,.int j]/\(-(2^62)<=i/\i<2^62/\-(2^62)<=j/\j<2^62)/\R (Itr i (j-i).toNat) H1
theorem ut{a:Expr}{ta:TA}{p pos:Pos}(hg:Gl X "range")(hm:X.mg "range"=none)(ha:PA X [a] ta)(hs:starEach [a] X.env=[(false,eval a X.env)]:=by rfl):PI X tg (.Call (.Name "range" p) [a] [] pos) (C5 ta):=by
 intro pz s σ H R I h;refine Call_ (g8 I hg hm boot_range (ZX (bu (ha pos pz s σ H _ I h) fun us s1 vs H1 I1 r1 q1=>?_) hs rfl));obtain⟨j,e,q1,q2,q⟩:=q1;subst e;cases r1 with
 |cons r rr=>
  cases rr;obtain⟨t,rfl⟩:=r;exact call_range_1 (pG I1 (by omega) (by omega) q1 q2 (by simpa using q))
theorem tm{a b:Expr}{ta:TA}{p pos:Pos}(hg:Gl X "range")(hm:X.mg "range"=none)(ha:PA X [a,b] ta)(hs:starEach [a,b] X.env=[(false,eval a X.env),(false,eval b X.env)]:=by rfl)(hs2:starEach [b] X.env=[(false,eval b X.env)]:=by rfl) :
  PI X tg (.Call (.Name "range" p) [a,b] [] pos) (C4 ta):=by
 intro pz s σ H R I h;refine Call_ (g8 I hg hm boot_range (ZX (bu (ha pos pz s σ H _ I h) fun us s1 vs H1 I1 r1 q1=>?_) (by rw[hs,hs2]) (by rw[hs2];rfl)));obtain⟨i,j,e,⟨q1,q2,q3,q4⟩,q⟩:=q1;subst e;cases r1 with
 |cons r rr=>
  cases rr with
  |cons r' rr=>
   cases rr;obtain⟨t,rfl⟩:=r;obtain⟨t',rfl⟩:=r';exact call_range_2 (pG I1 q1 q2 q3 q4 q)
def DM(wi:TI)(g:TG)(tb:TS):TS:=fun D σ H=>wi σ H fun J H1=>∃W:Nat->Nat->St->Hp->Prop,(∃m,W 0 m σ H1)/\∀i m σ H,W i m σ H->
 (J.stop i H/\D.nx σ H)\/(J.go i H/\∃N:St->Hp->Prop,(∀σ' H',N σ' H'->∃m',m' < m/\W (i+1) m' σ' H')/\∀x H',J.yld i H x H'->g x σ H' fun σ2 H2=>tb {D with nx:=N,ct:=N,bk:=D.nx} σ2 H2)
def ku(fp:List Addr)(h:Heap):List (Addr×Obj):=fp.filterMap fun b=>(h.get? b).map fun o=>(b,o)
theorem eN{fp:List Addr}{h:Heap}{b:Addr}{o:Obj}(hb:b∈fp)(e:h.get? b=some o):(b,o)∈ku fp h:=VL.mpr ⟨b,hb,by rw[e];rfl⟩
theorem tp{fp:List Addr}{h:Heap}{p:Addr×Obj}(hp:p∈ku fp h):p.1∈fp/\h.get? p.1=some p.2:=by
 obtain⟨b,hb,e⟩:=VL.mp hp;cases q:h.get? b with
 |none=>rw[q]at e;cases e
 |some o=>
  rw[q]at e;have e':(b,o)=p:=Yr e;subst e';exact⟨hb,q⟩
theorem Inv.pinned{pz:Kp}{σ:St}{H:Hp}{s:Shared}{fp:List Addr}(I:Inv X pz σ H s)(hf:∀b∈fp,fU X pz H b)(ho:∀b∈fp,∃o,s.heap.get? b=some o/\∀v,o.data≠.cell v):Inv X (pz++ku fp s.heap) σ H s:=
 I.pins_of fun p hp=>(Zy.mp hp).elim (fun z=>I.pin p (YS _ z)) fun z=>by
  obtain⟨hb,e⟩:=tp z;obtain⟨f0,f1,f2,_⟩:=hf p.1 hb;obtain⟨o,e',d⟩:=ho p.1 hb;rw[e]at e';cases e';exact⟨e,f0,f1,f2,d⟩
theorem Inv.unpinned{pz pl:Kp}{σ:St}{H:Hp}{s:Shared}(I:Inv X (pz++pl) σ H s):Inv X pz σ H s:=I.pins_of fun p hp=>I.pin p (YS _ (Vs _ hp))
theorem wT{iter:Expr}{body:List Stmt}{wi:TI}{g:TG}{tb:TS}{pos:Pos}(hp:PassesOwn (model X.prog X.w) X.A X.env X.xe)(hc:X.calm=true)(hi:PI X tg iter wi)(hg:PG X tg g)(hb:PSs X body tb)
  (hs:∀x,foldedSetIterable iter X.env x=pure x:=by intro _;rfl):PS X (.For tg iter body [] pos) (DM wi g tb):=by
 intro pz s σ H D I h;refine wpAny_For (thn (hi pz s σ H _ I h) fun v s1 h1=>thn h1 fun itv s2 h2=>?_) hs;obtain⟨it,fp,tn,J,H2,e,I2,T,st2,f2,W,⟨m0,w0⟩,turn⟩:=h2;subst e
 -- what stays true of the iterator's objects through the loop
 have stat:∀{H':Hp},(∀b∈fp,H' b=none)->∀b∈fp,fU X pz H' b:=fun hn b hb=>⟨hn b hb,(f2 b hb).2⟩
 refine codeAny_forLoop_any (fun n s'=>∃i σ' H',Inv X pz σ' H' s'/\tn i s'.heap/\(∀b∈fp,H' b=none)/\W i n σ' H') ?_ m0 ⟨0,σ,H2,I2,st2,fun b hb=>(f2 b hb).1,w0⟩;rintro n s3 ⟨i,σ3,H3,I3,st3,fr3,w3⟩;rcases turn i n σ3 H3 w3 with⟨stop,qn⟩|⟨go,N,hN,step⟩
 ·refine Xh hp (thn (T.done X rfl rfl rfl hc i pz s3 σ3 H3 X.xe I3 (stat fr3) st3 stop) fun r s4 ⟨hr,I4⟩=>?_);subst hr;exact VC ⟨σ3,H3,I4,qn⟩
 ·refine Xh hp (thn (T.item X rfl rfl rfl hc i pz s3 σ3 H3 X.xe I3 (stat fr3) st3 go) fun r s4 ⟨u,hr,h4⟩=>?_);subst hr;refine Xh hp (thn h4 fun _ s5 hh_=>?_);obtain⟨x,H5,I5,r5,y5,st5,fr5⟩:=hh_;have I5':=I5.pinned (stat fr5) (T.obj _ _ st5);refine Xh hp (thn (hg _ s5 σ3 H5 x u _ I5' r5 (step x H5 y5)) fun _ s6 hh_=>?_);obtain⟨σ6,H6,I6,q6⟩:=hh_;refine Xh hp (thn (hb _ s6 σ6 H6 _ I6 q6) fun f s7 q7=>?_);have again:∀{σ7:St}{H7:Hp},Inv X (pz++ku fp s5.heap) σ7 H7 s7->N σ7 H7->∃m,m<n/\∃i σ' H',Inv X pz σ' H' s7/\tn i s7.heap/\(∀b∈fp,H' b=none)/\W i m σ' H':=fun{σ7 H7} I7 n7=>by
   obtain⟨m',hm,w7⟩:=hN σ7 H7 n7;refine⟨m',hm,i+1,σ7,H7,I7.unpinned,T.keep _ _ _ st5 fun b hb o e=>(I7.pin (b,o) (YS _ (YS _ (eN hb e)))).1,fun b hb=>?_,w7⟩;obtain⟨o,e,d⟩:=T.obj _ _ st5 b hb;exact(I7.pin (b,o) (YS _ (YS _ (eN hb e)))).2.1
  cases f with
  |next=>obtain⟨σ7,H7,I7,n7⟩:=q7;exact again I7 n7
  |cont=>obtain⟨σ7,H7,I7,n7⟩:=q7;exact again I7 n7
  |brk=>obtain⟨σ7,H7,I7,q7⟩:=q7;exact⟨σ7,H7,I7.unpinned,q7⟩
  |ret v=>obtain⟨x7,σ7,H7,I7,r7,q7⟩:=q7;exact⟨x7,σ7,H7,I7.unpinned,r7,q7⟩
end
abbrev R2:=V->V->Hp->VK->Prop
def OpR(X:Cx)(f:Value->Value->Sem Value)(r:R2):Prop:=
 ∀(pz:Kp) (s:Shared) (σ:St) (H:Hp) (x y:V) (v u:Value) (Q:VK),Inv X pz σ H s->RelV x v->RelV y u->r x y H Q->
  wpAny (model X.prog X.w) X.A (f v u) (EP X pz σ Q) X.xe s
def UnR(X:Cx)(f:Value->Sem Value)(r:V->Hp->VK->Prop):Prop:=
 ∀(pz:Kp) (s:Shared) (σ:St) (H:Hp) (x:V) (v:Value) (Q:VK),Inv X pz σ H s->RelV x v->r x H Q->
  wpAny (model X.prog X.w) X.A (f v) (EP X pz σ Q) X.xe s
def CallR(X:Cx)(f:Value)(r:List V->Hp->VK->Prop):Prop:=
 ∀(pz:Kp) (s:Shared) (σ:St) (H:Hp) (xs:List V) (us:List Value) (Q:VK),Inv X pz σ H s->Vals xs us->r xs H Q->
  wpAny (model X.prog X.w) X.A (call f us) (EP X pz σ Q) X.xe s
def tOp(r:R2)(ta tb:TE):TE:=fun σ H Q=>ta σ H fun x H1=>tb σ H1 fun y H2=>r x y H2 Q
def tUn(r:V->Hp->VK->Prop)(ta:TE):TE:=fun σ H Q=>ta σ H fun x H1=>r x H1 Q
def rI(C:Int->Int->Prop)(g:Int->Int->V):R2:=fun x y H Q=>∃i j,x=.int i/\y=.int j/\C i j/\Q (g i j) H
def rI0(g:Int->Int->V):R2:=fun x y H Q=>∃i j,x=.int i/\y=.int j/\Q (g i j) H
def rU(g:Int->V):V->Hp->VK->Prop:=fun x H Q=>∃i,x=.int i/\Q (g i) H
section
variable{X:Cx}{a b c:Expr}{ta tb tc:TE}{pos:Pos}
theorem AM(ha:PE X a ta)(hb:PE X b tb){pz:Kp}{s:Shared}{σ:St}{H:Hp}{R:V->V->Hp->Prop}(I:Inv X pz σ H s)
  (h:ta σ H fun x H1=>tb σ H1 fun y H2=>R x y H2) {Q:Kv}{f:Value->Value->Sem Value}
  (hf:∀v u s2 x y H2,Inv X pz σ H2 s2->RelV x v->RelV y u->R x y H2->wpAny (model X.prog X.w) X.A (f v u) Q X.xe s2) :
  wpAny (model X.prog X.w) X.A (eval a X.env) (fun v s₁=>wpAny (model X.prog X.w) X.A (eval b X.env) (fun u s₂=>wpAny (model X.prog X.w) X.A (f v u) Q X.xe s₂) X.xe s₁) X.xe s:=by
 refine bu (ha pz s σ H _ I h) fun v s1 x H1 I1 r1 q1=>?_;refine bu (hb pz s1 σ H1 _ I1 q1) fun u s2 y H2 I2 r2 q2=>?_;exact hf v u s2 x y H2 I2 r1 r2 q2
theorem CH{op:Operator}{r:R2}(ho:OpR X (binaryOp op) r)(ha:PE X a ta)(hb:PE X b tb):PE X (.BinOp a op b pos) (tOp r ta tb):=by intro pz s σ H Q I h;exact wpAny_BinOp (AM ha hb I h fun v u s2 x y H2 I2 rx ry q=>ho pz s2 σ H2 x y v u Q I2 rx ry q)
theorem Cn{op:UnaryOp}{r:V->Hp->VK->Prop}(ho:UnR X (unaryOp op) r)(ha:PE X a ta):PE X (.UnaryOp op a pos) (tUn r ta):=by intro pz s σ H Q I h;exact UnaryOp_ (bu (ha pz s σ H _ I h) fun v s1 x H1 I1 r1 q1=>ho pz s1 σ H1 x v Q I1 r1 q1)
theorem opI{f:Value->Value->Sem Value}{C:Int->Int->Prop}{g:Int->Int->Int}
  (rule:∀(i j:Int) (t u:Tok) (s:Shared) (Q:Kv) (E:Kv),C i j->Q (.int (g i j) s.toks) {s with toks:=s.toks+1}->wpAny (model X.prog X.w) X.A (f (.int i t) (.int j u)) Q E s) :
  OpR X f (rI C fun i j=>.int (g i j)):=by
 intro pz s σ H x y v u Q I rx ry h;obtain⟨i,j,rfl,rfl,hc,q⟩:=h;obtain⟨t,rfl⟩:=rx;obtain⟨t',rfl⟩:=ry;exact rule i j t t' s _ _ hc ⟨.int (g i j),H,I.tok _,⟨_,rfl⟩,q⟩
theorem C7{f:Value->Value->Sem Value}{g:Int->Int->Int}
  (rule:∀(i j:Int) (t u:Tok) (s:Shared) (Q:Kv) (E:Kv),Q (.int (g i j) s.toks) {s with toks:=s.toks+1}->wpAny (model X.prog X.w) X.A (f (.int i t) (.int j u)) Q E s) :
  OpR X f (rI0 fun i j=>.int (g i j)):=by
 intro pz s σ H x y v u Q I rx ry h;obtain⟨i,j,rfl,rfl,q⟩:=h;obtain⟨t,rfl⟩:=rx;obtain⟨t',rfl⟩:=ry;exact rule i j t t' s _ _ ⟨.int (g i j),H,I.tok _,⟨_,rfl⟩,q⟩
theorem yg{f:Value->Value->Sem Value}{g:Int->Int->Bool}
  (rule:∀(i j:Int) (t u:Tok) (s:Shared) (Q:Kv) (E:Kv),Q (.bool (g i j)) s->wpAny (model X.prog X.w) X.A (f (.int i t) (.int j u)) Q E s) :
  OpR X f (rI0 fun i j=>.bl (g i j)):=by
 intro pz s σ H x y v u Q I rx ry h;obtain⟨i,j,rfl,rfl,q⟩:=h;obtain⟨t,rfl⟩:=rx;obtain⟨t',rfl⟩:=ry;exact rule i j t t' s _ _ ⟨.bl (g i j),H,I,rfl,q⟩
def D7(i j:Int):Prop:=0<j/\j<1073741824
def D5(i j:Int):Prop:=0<=j/\j<=1000000/\i.natAbs<2^64
def CMul(i j:Int):Prop:=(-(2^64)<i/\i<2^64)\/(-(2^64)<j/\j<2^64)
theorem CMul.ok{i j:Int}(h:CMul i j):IntMulOk i j:=by
 rcases h with⟨h1,h2⟩|⟨h1,h2⟩
 ·exact .of_left (intBits_le_64 h1 h2)
 ·exact .of_right (intBits_le_64 h1 h2)
theorem Bc:OpR X (binaryOp .Add) (rI0 fun i j=>.int (i+j)):=C7 fun _ _ _ _ _ _ _ q=>add_int q
theorem zW:OpR X (binaryOp .Sub) (rI0 fun i j=>.int (i-j)):=C7 fun _ _ _ _ _ _ _ q=>sub_int q
theorem Az:OpR X (binaryOp .Mult) (rI CMul fun i j=>.int (i*j)):=opI fun _ _ _ _ _ _ _ hc q=>mul_int q hc.ok
theorem xH:OpR X (binaryOp .FloorDiv) (rI D7 fun i j=>.int (i/j)):=opI fun i j _ _ _ _ _ hc q=>by
 have h1:(0:Int)<j:=hc.1;have h2:j<1073741824:=hc.2;exact floordiv_int (by omega) (by rw[Int.fdiv_eq_ediv_of_nonneg i (by omega)];exact q) (.inl (PyProof.noPylong_small (by omega)))
theorem zT:OpR X (binaryOp .Mod) (rI (fun _ j=>0<j) fun i j=>.int (i%j)):=opI fun i j _ _ _ _ _ hc q=>by
 have h1:(0:Int)<j:=hc;exact mod_int' (by omega) (by rw[Int.fmod_eq_emod_of_nonneg i (by omega)];exact q)
theorem Av:OpR X (binaryOp .Pow) (rI D5 fun i j=>.int (i^j.toNat)):=opI fun _ _ _ _ _ _ _ hc q=>pow_int_small hc.1 hc.2.1 hc.2.2 q
theorem unI{f:Value->Sem Value}{g:Int->Int}
  (rule:∀(i:Int) (t:Tok) (s:Shared) (Q:Kv) (E:Kv),Q (.int (g i) s.toks) {s with toks:=s.toks+1}->wpAny (model X.prog X.w) X.A (f (.int i t)) Q E s) :
  UnR X f (rU fun i=>.int (g i)):=by
 intro pz s σ H x v Q I rx h;obtain⟨i,rfl,q⟩:=h;obtain⟨t,rfl⟩:=rx;exact rule i t s _ _ ⟨.int (g i),H,I.tok _,⟨_,rfl⟩,q⟩
theorem AQ:UnR X (unaryOp .USub) (rU fun i=>.int (-i)):=unI fun _ _ _ _ _ q=>neg_int q
end
section
variable{X:Cx}{a b c:Expr}{ta tb tc:TE}{pos:Pos}
theorem C6:OpR X (compareOp .Lt) (rI0 fun i j=>.bl (decide (i<j))):=yg fun _ _ _ _ _ _ _ q=>lt_int q
theorem C8:OpR X (compareOp .LtE) (rI0 fun i j=>.bl (decide (i<=j))):=yg fun _ _ _ _ _ _ _ q=>le_int q
theorem Cy:OpR X (compareOp .Gt) (rI0 fun i j=>.bl (decide (j<i))):=yg fun _ _ _ _ _ _ _ q=>gt_int q
theorem Cr:OpR X (compareOp .GtE) (rI0 fun i j=>.bl (decide (j<=i))):=yg fun _ _ _ _ _ _ _ q=>ge_int q
theorem OpR.or{f:Value->Value->Sem Value}{r r':R2}(h:OpR X f r)(h':OpR X f r'):OpR X f (fun x y H Q=>r x y H Q\/r' x y H Q):=by
 intro pz s σ H x y v u Q I rx ry q;rcases q with q|q
 ·exact h pz s σ H x y v u Q I rx ry q
 ·exact h' pz s σ H x y v u Q I rx ry q
theorem fS(b:Expr){op:CmpOp}(h:op≠.In:=by decide)(h2:op≠.NotIn:=by decide):behindInMarks op b=false:=by
 have e1:(op == CmpOp.In)=false:=by cases op<;>first|rfl|exact absurd rfl h
 have e2:(op == CmpOp.NotIn)=false:=by cases op<;>first|rfl|exact absurd rfl h2
 cases b<;>simp[behindInMarks,e1,e2]
theorem yQ{op:CmpOp}{r:R2}(ho:OpR X (compareOp op) r)(ha:PE X a ta)(hb:PE X b tb)(hm:behindInMarks op b=false):PE X (.Compare a [op] [b] pos) (tOp r ta tb):=by intro pz s σ H Q I h;exact wpAny_Compare1 (AM ha hb I h fun v u s2 x y H2 I2 rx ry q=>ho pz s2 σ H2 x y v u Q I2 rx ry q) hm
def wC(t:TE):TT:=fun σ H Q=>t σ H fun x H'=>∃k,x=.bl k/\Q k H'
theorem r9{op:CmpOp}{r:R2}(ho:OpR X (compareOp op) r)(ha:PE X a ta)(hb:PE X b tb)(hm:behindInMarks op b=false):PT X (.Compare a [op] [b] pos) (wC (tOp r ta tb)):=by
 intro pz s σ H Q I h;refine wpAny_isTrue_Compare1 (bu (ha pz s σ H _ I h) fun v s1 x H1 I1 r1 q1=>bu (hb pz s1 σ H1 _ I1 q1) fun u s2 y H2 I2 r2 q2=>
  bu (ho pz s2 σ H2 x y v u _ I2 r1 r2 q2) fun c s3 z H3 I3 r3 ⟨k,e,q3⟩=>?_) hm
 subst e;cases r3;exact Zv ⟨H3,I3,q3⟩
def pT(r r':R2)(ta tb tc:TE):TE:=fun σ H Q=>ta σ H fun x H1=>tb σ H1 fun y H2=>r x y H2 fun z H3=>∃k,z=.bl k /\
 (if k=true then tc σ H3 fun w' H4=>r' y w' H4 Q else Q (.bl false) H3)
theorem pw{op op':CmpOp}{r r':R2}(ho:OpR X (compareOp op) r)(ho':OpR X (compareOp op') r')(ha:PE X a ta)(hb:PE X b tb)(hc:PE X c tc)
  (hm:lastMarks [op,op'] [b,c]=false:=by with_unfolding_all rfl):PE X (.Compare a [op,op'] [b,c] pos) (pT r r' ta tb tc):=by
 intro pz s σ H Q I h;refine Compare_chain (bu (ha pz s σ H _ I h) fun v s1 x H1 I1 r1 q1=>chain_link (bu (hb pz s1 σ H1 _ I1 q1) fun u s2 y H2 I2 r2 q2=>
  bu (ho pz s2 σ H2 x y v u _ I2 r1 r2 q2) fun d s3 z H3 I3 r3 ⟨k,e,q3⟩=>?_)) hm
 subst e;cases r3;refine Zv ?_;cases k with
 |false=>exact ite_ff ⟨.bl false,H3,I3,rfl,q3⟩
 |true=>exact ite_tt (chain_last (bu (hc pz s3 σ H3 _ I3 q3) fun w' s4 z' H4 I4 r4 q4=>ho' pz s4 σ H4 y z' u w' Q I4 r2 r4 q4))
theorem v8{op op':CmpOp}{r r':R2}(ho:OpR X (compareOp op) r)(ho':OpR X (compareOp op') r')(ha:PE X a ta)(hb:PE X b tb)(hc:PE X c tc)
  (hm:lastMarks [op,op'] [b,c]=false:=by with_unfolding_all rfl):PT X (.Compare a [op,op'] [b,c] pos) (wC (pT r r' ta tb tc)):=by
 intro pz s σ H Q I h;refine isTrue_chain (bu (ha pz s σ H _ I h) fun v s1 x H1 I1 r1 q1=>test_link (bu (hb pz s1 σ H1 _ I1 q1) fun u s2 y H2 I2 r2 q2=>
  bu (ho pz s2 σ H2 x y v u _ I2 r1 r2 q2) fun d s3 z H3 I3 r3 ⟨k,e,q3⟩=>?_)) hm
 subst e;cases r3;refine Zv ?_;cases k with
 |false=>
  obtain⟨k',e',q'⟩:=q3;cases e';exact ite_ff ⟨H3,I3,q'⟩
 |true=>
  refine ite_tt (test_last (bu (hc pz s3 σ H3 _ I3 q3) fun w' s4 z' H4 I4 r4 q4=>bu (ho' pz s4 σ H4 y z' u w' _ I4 r2 r4 q4) fun d' s5 z2 H5 I5 r5 hh_=>?_));obtain⟨k2,e2,q5⟩:=hh_;subst e2;cases r5;exact Zv ⟨H5,I5,q5⟩
theorem j5:(sizeLine:Nat)<2^63:=by rw[YK];decide
theorem qp:OpR X (binaryOp .Add) (fun x y H Q=>∃i j,x=.str i/\y=.str j/\i.length+j.length<=sizeLine/\Q (.str (i++j)) H):=by intro pz s σ H x y v u Q I rx ry h;obtain⟨i,j,rfl,rfl,hz,q⟩:=h;obtain⟨t,rfl⟩:=rx;obtain⟨t',rfl⟩:=ry;exact add_str (fun t' tk=>⟨.str (i++j),H,I.tok _,⟨_,rfl⟩,q⟩) hz
theorem dW{x:V}{us:List Value}(r:Vals [x] us):∃u,us=[u]/\RelV x u:=by
 cases r with
 |cons r1 r2=>cases r2;exact⟨_,rfl,r1⟩
theorem Ch{x y:V}{us:List Value}(r:Vals [x,y] us):∃u w',us=[u,w']/\RelV x u/\RelV y w':=by
 cases r with
 |cons r1 r2=>
  cases r2 with
  |cons r3 r4=>cases r4;exact⟨_,_,rfl,r1,r3⟩
end
structure ObjM (h:Heap) (x dx C:Addr) (mA:Str->Option Value):Prop where
 obj:h.get? x=some (PySem.W.instObj C dx)
 ns:h.Ns1 dx mA
 ne:dx≠x
theorem tV{h:Heap}{dx:Addr}{mA:Ks}(n:h.Ns1 dx mA):∃od,h.get? dx=some od/\∀name,PySem.W.lookIn name od=some (mA name):=by
 obtain⟨o,es,ep,ho,hd,hk,_,hm⟩:=n;refine⟨o,ho,fun name=>?_⟩;have e:=hm name;unfold nsFind findBy at e;rw[<-Array.find?_toList]at e;unfold PySem.W.lookIn;rw[hd];dsimp only;split
 ·rename_i y q;rw[q]at e;exact Zs some e
 ·rename_i q;rw[q]at e;have a:es.toList.any (·.refKey)=false:=by rw[List.any_eq_false];intro y hy;obtain⟨z,t,hkey⟩:=hk y (Vt.mp hy);simp[DictEntry.refKey,hkey]
  have a':¬es.toList.any (·.refKey)=true:=by rw[a];exact Yj
  rw[if_neg a'];exact Zs some e
theorem ObjM.look{h:Heap}{x dx C:Addr}{mA:Ks}(I:ObjM h x dx C mA):∃od,PySem.W.InstAt h x (PySem.W.instObj C dx) C (some od)/\∀name,PySem.W.lookIn name od=some (mA name):=
 let ⟨od,ho,hl⟩:=tV I.ns
 ⟨od,⟨I.obj,rfl,rfl,ho⟩,hl⟩
section
variable{prog:Program}{w:World}{A:Around}{E:Kv}{s:Shared}{K:Kq}{x dx C f:Addr}{mA:Ks}{name:Str}{v:Value}
theorem xS{expr:Bool}{Q:Kv}(X:K.In s.heap)(I:ObjM s.heap x dx C mA)(hg:PySem.W.plainGet K C name=true)(hh:PySem.W.hasDictIn K C=true)
  (ha:PySem.W.findIn K (.ref C) name=some none) (hv:mA name=some v) (hv':PySem.W.handedIn v=true) (h:Q v {s with toks:=s.toks+1}) :
  wpAny (model prog w) A (getAttr (.ref x) name expr) Q E s:=by
 obtain⟨od,J,hl⟩:=I.look;exact PySem.W.get_value X J (VD hg).1 (PySem.W.findObj_own hh ha rfl (by rw[hl,hv])) hv' h
theorem wx{pl:Sem Bool}{Q:Value×List Value->Shared->Prop}(X:K.In s.heap)(I:ObjM s.heap x dx C mA)(hg:PySem.W.plainGet K C name=true)
  (hf:PySem.W.findIn K (.ref C) name=some (some (.ref f))) (ht:PySem.W.isFn K (.ref f)=true) (hv:mA name=none) (h:Q (.ref f,[.ref x]) s) :
  wpAny (model prog w) A (getMethod (.ref x) name pl) Q E s:=by
 obtain⟨od,J,hl⟩:=I.look;exact PySem.W.method_fn X J (VD hg).1 (VD hg).2 hf (Vy.mp ht) (by show(PySem.W.lookIn name od).map (·.isSome)=some false;rw[hl,hv];rfl) h
theorem xZ{ns:List Str}{Q:Unit->Shared->Prop}(X:K.In s.heap)(I:ObjM s.heap x dx C mA)
  (hs:PySem.W.findIn K (.ref C) "__setattr__"=some (some (.builtin "object.__setattr__"))) (hp:PySem.W.plainOver K C=true) (ht:PySem.W.takerIn K C name=some none) (hh:PySem.W.hasDictIn K C=true)
  (hw:PySem.Within mA ns) (hsz:ns.length<=sizeLine)
  (h:∀h',ObjM h' x dx C (fun y=>if y=name then some v else mA y)->Heap.SameBut dx s.heap h'->Q () {s with heap:=h',toks:=s.toks+2}) :
  wpAny (model prog w) A (setAttr (.ref x) name v) Q E s:=by
 obtain⟨od,J,hl⟩:=I.look;refine PySem.W.set_plain X J hs (PySem.W.osa_open (s:={s with toks:=s.toks+1}) (r:=none) X J hp ht fun b=>?_);obtain⟨cd,hc,hd'⟩:=PySem.W.any_some hh;have hx:s.heap.get? x=some ⟨.ref C,some dx,.plain,#[]⟩:=I.obj;refine Yb (Yf (Yb (Yb (wpAny_loadPart hx (Yb (PySem.W.Looks.here (s:={s with toks:=s.toks+1}) (PySem.W.looks_clsIn X hc) ?_))))));rw[hd'];refine Yf (a:=some dx) (Yb (Yf (Yb ?_)));refine wpAny_nsSet1 (s:={s with toks:=s.toks+1}) I.ns fun h' hn2 hs2=>?_;obtain⟨oD,esD,epD,hoD,hdD,hcD⟩:=hn2.count (PySem.Within.cons name v hw);refine Yb (wpAny_lookBehind hoD (by rw[hdD];exact pastItsLine_dict (YD hcD (by rw[Yy];omega))) ?_);exact Yf (h _ ⟨(hs2.2 _ (ZL I.ne)).trans I.obj,hn2,I.ne⟩ hs2)
theorem vh{R:Kr}{vs:List Value}{kw:List (Str×Value)}(X:K.In s.heap)(hm:PySem.W.makesIn K C=true)
  (hi:PySem.W.findIn K (.ref C) "__init__"=some (some (.ref f))) (hf:PySem.W.typeIn K (.ref f)=some (.type "function"))
  (h:codeAny (model prog w) (A.under (.builtin "type.__call__" ⟨.ref C::vs,kw⟩)) (.call (.ref f) ⟨.ref (s.heap.objs.size+1)::vs,kw⟩) (PySem.W.InitBack (s.heap.objs.size+1) R)
   {s with heap:=(s.heap.push PySem.W.emptyDict).push (PySem.W.instObj C s.heap.objs.size)}) :
  codeAny (model prog w) A (.call (.ref C) ⟨vs,kw⟩) R s:=by
 obtain⟨hh,g,d,t,os⟩:=s;exact PySem.W.make_core (PySem.W.makes_of X hm) (PySem.W.looks_findIn X hi) (fun self=>PySem.W.bind_fn X self hf) (.inl rfl) h
end
def eM(f:Str)(v:V):List (Str×V)->List (Str×V)
 |[]=>[(f,v)]
 |(g,x)::r=>if g=f then(g,v)::r else(g,x)::eM f v r
theorem iK(f g:Str)(v:V):∀fs:List (Str×V),(eM f v fs).lookup g=if g=f then some v else fs.lookup g
 |[]=>by
  show List.lookup g [(f,v)]=_;by_cases h:g=f
  ·have hb:(g == f)=true:=Vy.mpr h;simp only[List.lookup,hb,if_pos h]
  ·have hb:(g == f)=false:=Xl.mpr h;simp only[List.lookup,hb,if_neg h]
 |(k,x)::r=>by
  have ih:=iK f g v r;rw[show eM f v ((k,x)::r)=(if k=f then(k,v)::r else(k,x)::eM f v r)from rfl];by_cases hk:k=f
  ·rw[if_pos hk];by_cases h:g=k
   ·have hb:(g == k)=true:=Vy.mpr h;simp only[List.lookup,hb,if_pos (h.trans hk)]
   ·have hb:(g == k)=false:=Xl.mpr h;simp only[List.lookup,hb,if_neg (fun e:g=f=>h (e.trans hk.symm))]
  ·rw[if_neg hk];by_cases h:g=k
   ·have hb:(g == k)=true:=Vy.mpr h;simp only[List.lookup,hb,if_neg (fun e:g=f=>hk (h.symm.trans e))]
   ·have hb:(g == k)=false:=Xl.mpr h;simp only[List.lookup,hb];exact ih
theorem gX(f:Str)(v:V):∀fs:List (Str×V),f∈(eM f v fs).map (·.1)/\∀g,g∈fs.map (·.1)->g∈(eM f v fs).map (·.1)
 |[]=>⟨by simp[eM],fun g h=>by simp at h⟩
 |(k,x)::r=>by
  obtain⟨i1,i2⟩:=gX f v r;rw[show eM f v ((k,x)::r)=(if k=f then(k,v)::r else(k,x)::eM f v r)from rfl];by_cases hk:k=f
  ·rw[if_pos hk];subst hk;exact⟨by simp,fun g h=>by simpa using h⟩
  ·rw[if_neg hk];refine⟨?_,fun g h=>?_⟩
   ·rw[YH];exact Yc _ i1
   ·rw[YH]at h ⊢;rcases Yv.mp h with e|e
    ·exact Yv.mpr (.inl e)
    ·exact Yc _ (i2 g e)
theorem iw(f:Str)(v:V):∀fs:List (Str×V),(eM f v fs).length<=fs.length+1
 |[]=>by simp[eM]
 |(k,x)::r=>by
  have ih:=iw f v r;rw[show eM f v ((k,x)::r)=(if k=f then(k,v)::r else(k,x)::eM f v r)from rfl];by_cases hk:k=f
  ·rw[if_pos hk,Yy,Yy];omega
  ·rw[if_neg hk,Yy,Yy];omega
theorem RelO.some_of{v:V}{o:Option Value}(r:RelO (some v) o):∃u,o=some u/\RelV v u:=by
 cases o with
 |none=>exact(show False from r).elim
 |some u=>exact⟨u,rfl,r⟩
theorem RelO.none_of{o:Option Value}(r:RelO none o):o=none:=by
 cases o with
 |none=>rfl
 |some u=>exact(show False from r).elim
theorem tq{v:V}{u:Value}(r:RelV v u):PySem.W.handedIn u=true:=by
 cases v with
 |non=>cases(show u=Value.none from r);rfl
 |bl b=>cases(show u=Value.bool b from r);rfl
 |int i=>obtain⟨t,e⟩:=(show ∃t,u=Value.int i t from r);cases e;rfl
 |str x=>obtain⟨t,e⟩:=(show ∃t,u=Value.str x t from r);cases e;rfl
 |byt b=>obtain⟨t,e⟩:=(show ∃t,u=Value.bytes b t from r);cases e;rfl
 |flt b=>obtain⟨t,e⟩:=(show ∃t,u=Value.float b t from r);cases e;rfl
 |ref a=>cases(show u=Value.ref a from r);rfl
 |ty n=>cases(show u=Value.type n from r);rfl
section
variable{P:Program}{w:World}{H H':Hp}{h h':Heap}{a C dx:Addr}{fs fs':List (Str×V)}
theorem mq(hok:HOk P w H h)(e:H a=some (.ins C dx fs)):∃mA,ObjM h a dx C mA/\(∀f,RelO (fs.lookup f) (mA f))/\PySem.Within mA (fs.map (·.1))/\fs.length<=1000/\H dx=some (.own a):=by
 obtain⟨d,z,ne,ob,mA,n,r,q⟩:=(show ObjOk P w H h a (.ins C dx fs)from hok a _ e)
 exact⟨mA,⟨ob,n,ne⟩,r,q,z,d⟩
end
structure Cls (K:PySem.W.Frag) (C:Addr):Prop where
 pg:PySem.W.plainGet K C Str.empty=true
 hd:PySem.W.hasDictIn K C=true
 po:PySem.W.plainOver K C=true
 sa:PySem.W.findIn K (.ref C) "__setattr__"=some (some (.builtin "object.__setattr__"))
theorem Cls.get{K:Kq}{C:Addr}(c:Cls K C)(f:Str):PySem.W.plainGet K C f=true:=c.pg
def NoAttr(K:Kq)(C:Addr)(f:Str):Prop:=PySem.W.findIn K (.ref C) f=some none
theorem NoAttr.taker{K:Kq}{C:Addr}{f:Str}(n:NoAttr K C f):PySem.W.takerIn K C f=some none:=by unfold PySem.W.takerIn;rw[show PySem.W.findIn K (.ref C) f=some none from n];rfl
structure Meth (K:PySem.W.Frag) (C:Addr) (m:Str) (f:Addr):Prop where
 at_:PySem.W.findIn K (.ref C) m=some (some (.ref f))
 fn:PySem.W.isFn K (.ref f)=true
 kp:PySem.W.keepIn K (.ref f)=true
section
variable{X:Cx}{pz:Kp}{σ:St}{H:Hp}{s:Shared}{a C dx:Addr}{fs:List (Str×V)}{f:Str}{v:V}{A:Around}{E:Kv}
theorem qH{b:Bool}{Q:Kv}(I:Inv X pz σ H s)(e:H a=some (.ins C dx fs))(c:Cls X.K C)(n:NoAttr X.K C f)(l:fs.lookup f=some v)
  (h:∀u s',Inv X pz σ H s'->RelV v u->Q u s'):wpAny (model X.prog X.w) A (getAttr (.ref a) f b) Q E s:=by
 obtain⟨mA,O,r,_,_,_⟩:=mq I.hok e;obtain⟨u,hu,ru⟩:=RelO.some_of (v:=v) (o:=mA f) (by rw[<-l];exact r f);exact xS I.kIn O (c.get f) c.hd n hu (tq ru) (h u _ (I.tok _) ru)
theorem ju{m:Str}{g:Addr}{pl:Sem Bool}{Q:Value×List Value->Shared->Prop}(I:Inv X pz σ H s)(e:H a=some (.ins C dx fs))(c:Cls X.K C)(k:Meth X.K C m g)(l:fs.lookup m=none)
  (h:Q (.ref g,[.ref a]) s):wpAny (model X.prog X.w) A (getMethod (.ref a) m pl) Q E s:=by
 obtain⟨mA,O,r,_,_,_⟩:=mq I.hok e;have hn:mA m=none:=RelO.none_of (by rw[<-l];exact r m);exact wx I.kIn O (c.get m) k.at_ k.fn hn h
theorem rm{y:V}{u:Value}{Q:Unit->Shared->Prop}(I:Inv X pz σ H s)(e:H a=some (.ins C dx fs))(c:Cls X.K C)(n:NoAttr X.K C f)(hl:fs.length<1000)(ry:RelV y u)
  (h:∀s',Inv X pz σ (upd H a (.ins C dx (eM f y fs))) s'->Q () s'):wpAny (model X.prog X.w) A (setAttr (.ref a) f u) Q E s:=by
 obtain⟨mA,O,r,wi,_,ho⟩:=mq I.hok e;have hz:(fs.map (·.1)).length<=sizeLine:=by rw[Ye,YK];omega
 refine xZ I.kIn O c.sa c.po n.taker c.hd wi hz fun h' O' sb=>h _ ?_;have hd:∃o,h'.get? dx=some o:=let ⟨o,_,_,e',_⟩:=O'.ns;⟨o,e'⟩
 refine I.write (x:=a) (e:=dx) (by rw[e];exact True.intro) (.inr ho) (fun b q hb z=>(sb.2 b hb).trans z) hd ?_;refine⟨by rw[au O.ne];exact ho,?_,O.ne,O'.obj,_,O'.ns,fun g=>?_,fun g hg=>?_⟩
 ·have:=iw f y fs;omega
 ·show RelO ((eM f y fs).lookup g) (if g=f then some u else mA g);rw[iK];by_cases q:g=f
  ·rw[if_pos q,if_pos q];exact ry
  ·rw[if_neg q,if_neg q];exact r g
 ·by_cases q:g=f
  ·rw[q];exact(gX f y fs).1
  ·refine(gX f y fs).2 g (wi g fun z=>hg ?_);show(if g=f then some u else mA g)=none;rw[if_neg q];exact z
theorem Inv.made(I:Inv X pz σ H s):Inv X pz σ (upd (upd H s.heap.objs.size (.own (s.heap.objs.size+1))) (s.heap.objs.size+1) (.ins C s.heap.objs.size []))
  {s with heap:=(s.heap.push PySem.W.emptyDict).push (PySem.W.instObj C s.heap.objs.size)}:=by
 have e1:(s.heap.push PySem.W.emptyDict).get? s.heap.objs.size=some PySem.W.emptyDict:=Yn s.heap rfl;have e2:((s.heap.push PySem.W.emptyDict).push (PySem.W.instObj C s.heap.objs.size)).get? (s.heap.objs.size+1)=some (PySem.W.instObj C s.heap.objs.size):=by
  have:=Yn (s.heap.push PySem.W.emptyDict) (o:=PySem.W.instObj C s.heap.objs.size) rfl
  rwa [Xd]at this
 have e3:(s.heap.push PySem.W.emptyDict).Ns s.heap.objs.size (fun _=>none):=⟨PySem.W.emptyDict,#[],_,e1,rfl,(fun e he=>absurd he (by simp)),fun _=>rfl⟩
 have I1:=I.laid (a:=s.heap.objs.size) (o:=.own (s.heap.objs.size+1)) (h':=s.heap.push PySem.W.emptyDict) (t':=s.toks) (fun b u q=>Yg _ q) (Yl _) ⟨_,e1⟩;refine I1.laid (a:=s.heap.objs.size+1) (o:=.ins C s.heap.objs.size []) (t':=s.toks) (fun b u q=>Yg _ q) (ZU (Xd _ _)) ?_;have ne:s.heap.objs.size≠s.heap.objs.size+1:=Yw (ZP _);refine⟨by rw[au ne,aG],YF _,ne,e2,fun _=>none,(Heap.Ns1.of_empty e3).at fun o q=>Yg _ q,fun _=>True.intro,fun y hy=>absurd rfl hy⟩
theorem yA{prog:Program}{w:World}{env:Env}{e:Expr}{f:Str}{pos:Pos}{s:Shared}{Q:Kv}(hb:attributeBase e f env (eval e env)=eval e env)
  (h:wpAny (model prog w) A (eval e env) (fun o s₁=>wpAny (model prog w) A (getAttr o f true) Q E s₁) E s):wpAny (model prog w) A (eval (.Attribute e f pos) env) Q E s:=
 Attribute_any_ h (by rw[arm_eval_Attribute,hb])
end
def DR(K:Kq)(ta:TE)(f:Str):TE:=fun σ H Q=>ta σ H fun x H1=>∃a C dx fs v,x=.ref a/\H1 a=some (.ins C dx fs)/\Cls K C/\NoAttr K C f/\fs.lookup f=some v/\Q v H1
def Ea(K:Kq)(ta tv:TE)(f:Str):TS:=fun D σ H=>tv σ H fun y H1=>ta σ H1 fun x H2=>∃a C dx fs,x=.ref a/\H2 a=some (.ins C dx fs)/\Cls K C/\NoAttr K C f/\fs.length<1000 /\
 D.nx σ (upd H2 a (.ins C dx (eM f y fs)))
section
variable{X:Cx}{o e value:Expr}{f:Str}{pos pos' tpos:Pos}{ta tv:TE}
theorem Bs(he:PE X e ta)(hb:attributeBase e f X.env (eval e X.env)=eval e X.env):PE X (.Attribute e f pos) (DR X.K ta f):=by intro pz s σ H Q I h;refine yA hb (bu (he pz s σ H _ I h) fun u s1 x H1 I1 rx hh_=>?_);obtain⟨a,C,dx,fs,v,ex,ea,c,n,l,q⟩:=hh_;subst ex;obtain rfl:u=Value.ref a:=rx;exact qH I1 ea c n l fun u' s2 I2 ru=>⟨v,H1,I2,ru,q⟩
theorem Bu(ha:PE X o ta)(hv:PE X value tv)(hs:swapsWith value (some (.Attribute o f pos')) pos.line X.env=pure false):PS X (.Assign [.Attribute o f pos'] value pos) (Ea X.K ta tv f):=by intro pz s σ H D I h;refine plainObj_wpAny_Assign_Attribute (bu (hv pz s σ H _ I h) fun u s1 y H1 I1 ry q=>bu (ha pz s1 σ H1 _ I1 q) fun ov s2 x H2 I2 rx hh_=>?_) hs;obtain⟨a,C,dx,fs,ex,ea,c,n,l,q2⟩:=hh_;subst ex;obtain rfl:ov=Value.ref a:=rx;exact rm I2 ea c n l ry fun s3 I3=>⟨σ,_,I3,q2⟩
end
section
variable{X:Cx}{pz:Kp}{σ:St}{H:Hp}{s:Shared}{A:Around}{E:Kv}{Q:Kv}{c:Value}{b:Bool}
end
structure Room (k:Nat) (A:Around):Prop where
 hd:A.handled=none
 dp:A.depth+3*k+5<recursionLimit
 un:A.units+16*k+200<cLine
theorem Room.mono{j k:Nat}{A:Around}(r:Room k A)(h:j<=k):Room j A:=⟨r.hd,by have:=r.dp;omega,by have:=r.un;omega⟩
theorem Room.deeper{k:Nat}{A:Around}(r:Room (k+1) A)(env:Env):Room k (A.deeper env):=
 ⟨r.hd,by have:=r.dp;show A.depth+1+3*k+5<_;omega,by have:=r.un;show A.units+3+16*k+200<_;omega⟩
theorem rc{A:Around}{C:Addr}{us:List Value}{kw:List (Str×Value)}:(A.under (.builtin "type.__call__" ⟨.ref C::us,kw⟩)).depth=A.depth+1:=by
 first|rfl|simp[Around.under,Code.weight,Code.isCreation,Code.isGuard,Code.isCaller,Code.frames,Code.isFrame,guardIds]
theorem rj{A:Around}{C:Addr}{us:List Value}{kw:List (Str×Value)}:(A.under (.builtin "type.__call__" ⟨.ref C::us,kw⟩)).units=A.units+1:=by
 first|rfl|simp[Around.under,Code.cUnits,Code.frames,Code.isFrame]
theorem Room.make{k:Nat}{A:Around}(r:Room (k+1) A)(C:Addr)(us:List Value)(kw:List (Str×Value)):Room k (A.under (.builtin "type.__call__" ⟨.ref C::us,kw⟩)):=
 ⟨r.hd,by have:=r.dp;rw[rc];omega,by have:=r.un;rw[rj];omega⟩
theorem Room.depth{k:Nat}{A:Around}(r:Room k A):A.depth<recursionLimit:=by have:=r.dp;omega
def tK:TA:=fun _ H Q=>Q [] H
def oZ(ta:TE)(tr:TA):TA:=fun σ H Q=>ta σ H fun x H1=>tr σ H1 fun xs H2=>Q (x::xs) H2
section
variable{X:Cx}{e:Expr}{es:List Expr}{te:TE}{t:TA}{pos:Pos}
theorem bF:PA X [] tK:=fun _ _ _ _ H Q I h=>Calls.spliced_nil ⟨[],H,I,.nil,h⟩
theorem aT(ha:PE X e te)(hr:PA X es t)(hs:starEach (e::es) X.env=(false,eval e X.env)::starEach es X.env:=by rfl):PA X (e::es) (oZ te t):=by intro pos pz s σ H Q I h;rw[hs];show wpAny _ _ (spliced ((false,eval e X.env)::backTo pos (starEach es X.env))) _ _ s;refine Calls.spliced_cons (bu (ha pz s σ H _ I h) fun u s1 x H1 I1 r1 q1=>?_);exact bu (hr pos pz s1 σ H1 _ I1 q1) fun us s2 xs H2 I2 r2 q2=>⟨x::xs,H2,I2,.cons r1 r2,q2⟩
def D4(t:TA):TE:=fun σ H Q=>t σ H fun xs H1=>xs.length<=sizeLine/\∀p,H1 p=none->Q (.ref p) (upd H1 p (.tup xs))
def DP(t:TA):TE:=fun σ H Q=>t σ H fun xs H1=>xs.length<=sizeLine/\∀p,H1 p=none->Q (.ref p) (upd H1 p (.lst xs))
theorem AZ{x1}(h:PA X es t):PE X (.Tuple es x1 pos) (D4 t):=by intro pz s σ H Q I hq;refine wpAny_Tuple_spliced (bu (h pos pz s σ H _ I hq) fun us s1 xs H1 I1 r ⟨z,q⟩=>⟨by rw[<-r.length];exact z,?_⟩);have hf:H1 s1.heap.objs.size=none:=I1.hok.fresh (Yl _);refine⟨.ref s1.heap.objs.size,upd H1 s1.heap.objs.size (.tup xs),I1.laid (t':=s1.toks) (fun b u e=>Yg _ e) (Yl _) ?_,rfl,q _ hf⟩;exact⟨z,us,r,⟨_,Yn _ rfl,rfl,_,rfl⟩,_,Yn _ rfl,rfl⟩
theorem qJ(h:PA X es t):PE X (.List es pos) (DP t):=by intro pz s σ H Q I hq;refine wpAny_List_spliced (bu (h pos pz s σ H _ I hq) fun us s1 xs H1 I1 r ⟨z,q⟩=>⟨by rw[<-r.length];exact z,?_⟩);have hf:H1 s1.heap.objs.size=none:=I1.hok.fresh (Yl _);refine⟨.ref s1.heap.objs.size,upd H1 s1.heap.objs.size (.lst xs),I1.laid (t':=s1.toks) (fun b u e=>Yg _ e) (Yl _) ?_,rfl,q _ hf⟩;exact⟨z,us,0,r,Yn _ rfl⟩
end
abbrev Sp:=List V->Hp->VK->XK->Prop
abbrev CXT:=List Env->Hp->Shared->XK->Value->Shared->Prop
structure Env0 (P:Program) (w:World) (K:PySem.W.Frag) (mg:Str->Option Value) (base:Heap) (A:Around) (outer:List Env) (s:Shared) (H:Hp):Prop where
 frames:A.frames=some outer
 mod:Mod K mg base
 bs:∀b o,base.get? b=some o->s.heap.get? b=some o/\H b=none
 bsz:base.objs.size<=s.heap.objs.size
 funs:s.heap.FunFrames base outer
 frf:∀b∈frs outer,H b=none
 hok:HOk P w H s.heap
 bare:AllBare s.gens
def CE(outer:List Env)(P:Program)(w:World)(H:Hp)(s:Shared)(Q:VK)(u:Value)(s':Shared):Prop:=
 ∃v H',s'.os=s.os/\AllBare s'.gens/\Un (frs outer) [] H H' s.heap s'.heap/\HOk P w H' s'.heap/\RelV v u/\Q v H'
def CR(CX:CXT)(outer:List Env)(P:Program)(w:World)(H:Hp)(s:Shared)(Q:VK)(E:XK)(r:Result)(s':Shared):Prop:=
 match r with
 |.ok (.ret u)=>CE outer P w H s Q u s'
 |.ok _=>False
 |.error e=>CX outer H s E e s'
structure FnOk (P:Program) (w:World) (K:PySem.W.Frag) (mg:Str->Option Value) (base:Heap) (CX:CXT) (k:Nat) (f:Addr) (fd:FuncData) (ps:List Str) (sp:Sp):Prop where
 len:∀vs H Q E,sp vs H Q E->vs.length=ps.length
 run:∀(A:Around) (outer:List Env) (s:Shared) (H:Hp) (args:Args) (us:List Value) (vs:List V) (Q:VK) (E:XK),Room k A->Env0 P w K mg base A outer s H->BindsTo s fd args (ps.zip us)->Vals vs us->sp vs H Q E->
  codeAny (model P w) A (.call (.ref f) args) (CR CX outer P w H s Q E) s
theorem FnOk.imp{P:Program}{w:World}{K:Kq}{mg:Ks}{base:Heap}{CX:CXT}{k:Nat}{f:Addr}{fd:FuncData}{ps:List Str}{sp sp':Sp}(F:FnOk P w K mg base CX k f fd ps sp)
  (h:∀vs H Q E,sp' vs H Q E->sp vs H Q E):FnOk P w K mg base CX k f fd ps sp':=
 ⟨fun vs H Q E q=>F.len vs H Q E (h _ _ _ _ q),fun A outer s H args us vs Q E hr he hb hv hs=>F.run A outer s H args us vs Q E hr he hb hv (h _ _ _ _ hs)⟩
theorem Env0.make{P:Program}{w:World}{K:Kq}{mg:Ks}{base:Heap}{A:Around}{outer:List Env}{s:Shared}{H:Hp}(e:Env0 P w K mg base A outer s H)(C:Addr)(us:List Value)(kw:List (Str×Value)) :
  Env0 P w K mg base (A.under (.builtin "type.__call__" ⟨.ref C::us,kw⟩)) outer s H:=⟨by first|exact e.frames|(simpa[Around.under,Code.envs,Code.isFrame,pushEnvs]using e.frames),e.mod,e.bs,e.bsz,e.funs,e.frf,e.hok,e.bare⟩
section
variable{X:Cx}{pz:Kp}{σ:St}{H:Hp}{s s':Shared}
theorem Inv.env0(I:Inv X pz σ H s):Env0 X.prog X.w X.K X.mg X.base X.A X.stack s H:=
 ⟨I.ok.frames,I.ok.mod,I.bs,YD I.ok.bsz I.sz,I.stack,I.stkFree,I.hok,I.bare⟩
theorem Inv.after{Q:VK}{u:Value}(I:Inv X pz σ H s)(h:CE X.stack X.prog X.w H s Q u s'):EP X pz σ Q u s':=by obtain⟨v,H',os,bare,un,hok,r,q⟩:=h;obtain⟨hh,g,d,t,os'⟩:=s';obtain rfl:os'=s.os:=os;exact⟨v,H',I.call (h':=hh) (g':=g) (d':=d) (t':=t) (ch:=[]) un hok bare (fun b z=>absurd z (by simp)),r,q⟩
end
def wZ(sp:Sp)(dvs:List V)(E:XK)(t:TA):TE:=fun σ H Q=>t σ H fun vs H1=>sp (vs++dvs) H1 Q E
def rK(C:Addr)(m:Str)(sp:Sp)(dvs:List V)(E:XK)(ta:TE)(t:TA):TE:=fun σ H Q=>ta σ H fun x H1=>∃a dx fs,x=.ref a/\H1 a=some (.ins C dx fs)/\fs.lookup m=none /\
 t σ H1 fun vs H2=>sp (x::(vs++dvs)) H2 Q E
def Db(C:Addr)(sp:Sp)(dvs:List V)(E:XK)(t:TA):TE:=fun σ H Q=>t σ H fun vs H1=>∀x dx,H1 x=none->H1 dx=none->dx≠x->
 sp (.ref x::(vs++dvs)) (upd (upd H1 dx (.own x)) x (.ins C dx [])) (fun v H2=>v=.non/\Q (.ref x) H2) E
def Binds(K:Kq)(fd:FuncData)(ps:List Str)(ds:List Value):Prop:=
 ∀(s:Shared) (us:List Value),K.In s.heap->(us++ds).length=ps.length->BindsTo s fd ⟨us,[]⟩ (ps.zip (us++ds))
theorem Binds.all{K:Kq}{fd:FuncData}{ps:List Str}(h:∀us:List Value,us.length=ps.length->bindArgs fd ⟨us,[]⟩=pure (ps.zip us)):Binds K fd ps []:=fun s us _ hl=>by
 rw[Za]at hl ⊢;exact .of_eq (h us hl)
def f8(CX:CXT)(X:Cx)(E:XK):Prop:=∀(pz:Kp) (σ:St) (H:Hp) (s:Shared) (e:Value) (s':Shared),Inv X pz σ H s->CX X.stack H s E e s'->X.xe e s'
section
variable{X:Cx}{CX:CXT}{k:Nat}{f C:Addr}{fd:FuncData}{ps:List Str}{sp:Sp}{dvs:List V}{ds:List Value}{E:XK}{x m:Str}{p pos apos:Pos}{e o:Expr}{es:List Expr}{ta:TE}{t:TA}
theorem pU{pz:Kp}{σ:St}{H:Hp}{s:Shared}{Q:VK}{us:List Value}{vs:List V}(F:FnOk X.prog X.w X.K X.mg X.base CX k f fd ps sp)(hr:Room k X.A)(hb:Binds X.K fd ps ds)(hd:Vals dvs ds)(hx:f8 CX X E)
  (I:Inv X pz σ H s) (r:Vals vs us) (h:sp (vs++dvs) H Q E):wpAny (model X.prog X.w) X.A (call (.ref f) us) (EP X pz σ Q) X.xe s:=by
 have r2:Vals (vs++dvs) (us++ds):=r.append hd;have hl:(us++ds).length=ps.length:=by rw[<-r2.length];exact F.len _ _ _ _ h
 refine wpAny_call (VM (F.run X.A X.stack s H ⟨us,[]⟩ (us++ds) (vs++dvs) Q E hr I.env0 (hb s us I.kIn hl) r2 h) fun r s' hq=>?_);cases r with
 |error e=>exact hx pz σ H s e s' I hq
 |ok fl=>
  cases fl with
  |ret u=>exact I.after hq
  |next=>exact False.elim hq
  |brk=>exact False.elim hq
  |cont=>exact False.elim hq
theorem mC(F:FnOk X.prog X.w X.K X.mg X.base CX k f fd ps sp)(hr:Room k X.A)(hg:Gl X x)(hm:X.mg x=some (.ref f))(hk:PySem.W.keepIn X.K (.ref f)=true)(hb:Binds X.K fd ps ds)(hd:Vals dvs ds)(hx:f8 CX X E)
  (ha:PA X (e::es) t) (hdb:(x == ("__debug__":Str))=false:=by decide) (he:starEach (e::es) X.env=(false,eval e X.env)::starEach es X.env:=by rfl) (hpl:(backTo pos (starEach es X.env)).any (·.1)=false:=by rfl) :
  PE X (.Call (.Name x p) (e::es) [] pos) (wZ sp dvs E t):=by
 intro pz s σ H Q I h;refine XO (mQ I hg hm ?_ hdb);refine VN (h₀:=X.base) I.ok.mod.kin hk (bu (ha pos pz s σ H _ I h) fun us s1 vs H1 I1 r q=>⟨I1.kIn,?_⟩) he hpl;exact pU F hr hb hd hx I1 r q
theorem yT{pl:Sem Bool}(he:PE X o ta)(c:Cls X.K C)(hm:Meth X.K C m f)(F:FnOk X.prog X.w X.K X.mg X.base CX k f fd ps sp)(hr:Room k X.A)(hb:Binds X.K fd ps ds)(hd:Vals dvs ds)(hx:f8 CX X E)(ha:PA X (e::es) t)
  (hst:starEach (e::es) X.env=(false,eval e X.env)::starEach es X.env:=by rfl) (hpl:(backTo pos (starEach es X.env)).any (·.1)=false:=by rfl)
  (ht:eval (.Call (.Attribute o m apos) (e::es) [] pos) X.env=(do
   let ov <-eval o X.env
   standAt apos.atName
   let (f,first) <-holding [ov] (getMethod ov m pl)
   callWith pos f first (backTo pos (starEach (e::es) X.env)) (backToKw pos (keywordEach [] X.env))):=by rfl) :
  PE X (.Call (.Attribute o m apos) (e::es) [] pos) (rK C m sp dvs E ta t):=by
 intro pz s σ H Q I h;refine PySem.W.methodCall_KW (pl:=pl) (bu (he pz s σ H _ I h) fun u s1 x H1 I1 rx hh_=>?_) ht;obtain⟨a,dx,fs,ex,ea,l,q⟩:=hh_;subst ex;obtain rfl:u=Value.ref a:=rx;refine ju I1 ea c hm l ?_;refine VN (first:=[.ref a]) (h₀:=X.base) I.ok.mod.kin hm.kp (bu (ha pos pz s1 σ H1 _ I1 q) fun us s2 vs H2 I2 r q2=>⟨I2.kIn,?_⟩) hst hpl;exact pU (us:=.ref a::us) (vs:=.ref a::vs) F hr hb hd hx I2 (.cons rfl r) q2
theorem vM{pl:Sem Bool}(he:PE X o ta)(c:Cls X.K C)(hm:Meth X.K C m f)(F:FnOk X.prog X.w X.K X.mg X.base CX k f fd ps sp)(hr:Room k X.A)(hb:Binds X.K fd ps ds)(hd:Vals dvs ds)(hx:f8 CX X E)
  (ht:eval (.Call (.Attribute o m apos) [] [] pos) X.env=(do
   let ov <-eval o X.env
   standAt apos.atName
   let (f,first) <-holding [ov] (getMethod ov m pl)
   callWith pos f first (backTo pos (starEach [] X.env)) (backToKw pos (keywordEach [] X.env))):=by rfl) :
  PE X (.Call (.Attribute o m apos) [] [] pos) (rK C m sp dvs E ta tK):=by
 intro pz s σ H Q I h;refine PySem.W.methodCall_KW (pl:=pl) (bu (he pz s σ H _ I h) fun u s1 x H1 I1 rx hh_=>?_) ht;obtain⟨a,dx,fs,ex,ea,l,q⟩:=hh_;subst ex;obtain rfl:u=Value.ref a:=rx;refine ju I1 ea c hm l ?_;exact PySem.W.callWith_K0 (first:=[.ref a]) I1.kIn hm.kp (pU (us:=[.ref a]) (vs:=[.ref a]) F hr hb hd hx I1 (.cons rfl .nil) q)
structure Mk (K:PySem.W.Frag) (C f:Addr):Prop where
 makes:PySem.W.makesIn K C=true
 init:PySem.W.findIn K (.ref C) "__init__"=some (some (.ref f))
 fn:PySem.W.isFn K (.ref f)=true
 kp:PySem.W.keepIn K (.ref C)=true
theorem wj{pz:Kp}{σ:St}{H:Hp}{s:Shared}{Q:VK}{us:List Value}{vs:List V}(M:Mk X.K C f)(F:FnOk X.prog X.w X.K X.mg X.base CX k f fd ps sp)(hr:Room (k+1) X.A)(hb:Binds X.K fd ps ds)(hd:Vals dvs ds)
  (hx:f8 CX X E) (I:Inv X pz σ H s) (r:Vals vs us)
  (h:∀x dx,H x=none->H dx=none->dx≠x->sp (.ref x::(vs++dvs)) (upd (upd H dx (.own x)) x (.ins C dx [])) (fun v H2=>v=.non/\Q (.ref x) H2) E) :
  wpAny (model X.prog X.w) X.A (call (.ref C) us) (EP X pz σ Q) X.xe s:=by
 have hq:=h (s.heap.objs.size+1) s.heap.objs.size (I.hok.fresh (ZY _)) (I.hok.fresh (Yl _)) (Yw (ZP _));have I2:=Inv.made (C:=C) I;have r2:Vals (V.ref (s.heap.objs.size+1)::(vs++dvs)) (Value.ref (s.heap.objs.size+1)::(us++ds)):=.cons rfl (r.append hd);have hl:(Value.ref (s.heap.objs.size+1)::us++ds).length=ps.length:=by have e:=r2.length;rw[F.len _ _ _ _ hq]at e;exact e.symm
 refine wpAny_call (vh (f:=f) I.kIn M.makes M.init (Vy.mp M.fn) (VM (F.run _ X.stack _ _ ⟨Value.ref (s.heap.objs.size+1)::us,[]⟩ (Value.ref (s.heap.objs.size+1)::(us++ds)) _ _ E (hr.make C us [])
  (I2.env0.make C us []) (hb _ (Value.ref (s.heap.objs.size+1)::us) I2.kIn hl) r2 hq) fun r s' hq'=>?_))
 cases r with
 |error e=>exact hx pz σ _ _ e s' I2 hq'
 |ok fl=>
  cases fl with
  |ret u=>
   obtain⟨v,H',I3,rv,ev,q3⟩:=I2.after hq';subst ev;exact⟨rv,⟨V.ref (s.heap.objs.size+1),H',I3,rfl,q3⟩⟩
  |next=>exact False.elim hq'
  |brk=>exact False.elim hq'
  |cont=>exact False.elim hq'
theorem xT(M:Mk X.K C f)(F:FnOk X.prog X.w X.K X.mg X.base CX k f fd ps sp)(hr:Room (k+1) X.A)(hg:Gl X x)(hm:X.mg x=some (.ref C))(hb:Binds X.K fd ps ds)(hd:Vals dvs ds)(hx:f8 CX X E)
  (ha:PA X (e::es) t) (hdb:(x == ("__debug__":Str))=false:=by decide) (he:starEach (e::es) X.env=(false,eval e X.env)::starEach es X.env:=by rfl) (hpl:(backTo pos (starEach es X.env)).any (·.1)=false:=by rfl) :
  PE X (.Call (.Name x p) (e::es) [] pos) (Db C sp dvs E t):=by
 intro pz s σ H Q I h;refine XO (mQ I hg hm ?_ hdb);refine VN (h₀:=X.base) I.ok.mod.kin M.kp (bu (ha pos pz s σ H _ I h) fun us s1 vs H1 I1 r q=>⟨I1.kIn,?_⟩) he hpl;exact wj M F hr hb hd hx I1 r q
end
section
variable{X:Cx}{CX:CXT}{k:Nat}{f C:Addr}{fd:FuncData}{ps ks:List Str}{sp:Sp}{E:XK}{x m:Str}{p pos apos kpos:Pos}{e o:Expr}{es:List Expr}{kws:List Keyword}{te ta:TE}{t tk:TA}{nm:Option Str}
variable{g:List Value->List Value->List Value}{gV:List V->List V->List V}
end
structure FnScope (N P:List Str) (sc:Scope):Prop where
 kind:sc.kind=.function
 co:sc.isCoroutine=false
 gen:sc.isGenerator=false
 nd:N.Nodup
 pre:N.take P.length=P
 par:∀x∈P,sc.names.lookup x=some .local\/sc.names.lookup x=some .cell
 nofree:∀y∈sc.names,y.2≠.free
theorem ly{kindOf:Str->Option NameKind}{x:Str}:∀{binds:List (Str×Value)}{m:Ks},(∀v,(x,v)∉binds)->bindL kindOf binds m x=m x
 |[],_,_=>rfl
 |(n,v)::r,m,h=>by
  unfold bindL;rw[ly fun w hw=>h w (Yc _ hw)];split
  ·have:x≠n:=by rintro rfl;exact h v Yd
   simp[this]
  ·rfl
theorem lJ{kindOf:Str->Option NameKind}{x:Str}:∀{binds:List (Str×Value)}{m:Ks},(∀v,(x,v)∉binds)->bindC kindOf binds m x=m x
 |[],_,_=>rfl
 |(n,v)::r,m,h=>by
  unfold bindC;rw[lJ fun w hw=>h w (Yc _ hw)];split
  ·rfl
  ·have:x≠n:=by rintro rfl;exact h v Yd
   simp[this]
theorem lG{kindOf:Str->Option NameKind}{x:Str}{v:Value}:∀{P:List Str}{vs:List Value}{i:Nat}{m:Ks},P.Nodup->P[i]?=some x->vs[i]?=some v->kindOf x=some .local->
  bindL kindOf (P.zip vs) m x=some v
 |[],_,_,_,_,h,_,_=>by simp at h
 |_::_,[],_,_,_,_,h,_=>by simp at h
 |p::P,w::vs,0,m,nd,h1,h2,hk=>by
  simp at h1 h2;subst h1;subst h2;show bindL kindOf ((p,w)::P.zip vs) m p=_;unfold bindL;rw[ly fun v hv=>(Zh.mp nd).1 (List.of_mem_zip hv).1,if_pos hk];simp
 |p::P,w::vs,i+1,m,nd,h1,h2,hk=>by
  show bindL kindOf ((p,w)::P.zip vs) m x=_;unfold bindL;exact lG (i:=i) (Zh.mp nd).2 (by simpa using h1) (by simpa using h2) hk
theorem k_{kindOf:Str->Option NameKind}{x:Str}{v:Value}:∀{P:List Str}{vs:List Value}{i:Nat}{m:Ks},P.Nodup->P[i]?=some x->vs[i]?=some v->kindOf x≠some .local->
  bindC kindOf (P.zip vs) m x=some v
 |[],_,_,_,_,h,_,_=>by simp at h
 |_::_,[],_,_,_,_,h,_=>by simp at h
 |p::P,w::vs,0,m,nd,h1,h2,hk=>by
  simp at h1 h2;subst h1;subst h2;show bindC kindOf ((p,w)::P.zip vs) m p=_;unfold bindC;rw[lJ fun v hv=>(Zh.mp nd).1 (List.of_mem_zip hv).1,if_neg hk];simp
 |p::P,w::vs,i+1,m,nd,h1,h2,hk=>by
  show bindC kindOf ((p,w)::P.zip vs) m x=_;unfold bindC;exact k_ (i:=i) (Zh.mp nd).2 (by simpa using h1) (by simpa using h2) hk
def start(N:List Str)(vs:List V):St:=vs.map some++List.replicate (N.length-vs.length) none
def pi(CX:CXT)(P:Program)(w:World)(K:Kq)(mg:Ks)(base:Heap)(N:List Str)(qual:Str)(scope:Scope)(f:Addr)(cd:Value)(A:Around)(outer:List Env)(s:Shared)(H:Hp)(E:XK):Cx where
 prog:=P
 w:=w
 K:=K
 mg:=mg
 base:=base
 A:=A.deeper (envOfC qual scope s.heap.objs.size f cd)
 N:=N
 s₀:=s
 H₀:=H
 env:=envOfC qual scope s.heap.objs.size f cd
 outer:=outer
 stack:=envOfC qual scope s.heap.objs.size f cd::outer
 ex:=[]
 calm:=true
 fn:=fun _=>true
 pn:=[]
 xe:=fun e s'=>wpAny (model P w) (A.deeper (envOfC qual scope s.heap.objs.size f cd)) (leaving (envOfC qual scope s.heap.objs.size f cd) e) (fun _ s''=>CX outer H s E e s'') (fun e' s''=>CX outer H s E e' s'') s'
theorem oR{sc:Scope}{n:Nat}{x:Str}(h:sc.names.lookup x=some .cell):∃c,(cellsFrom n sc.names []).lookup x=some c:=by have q:=Xu sc.names n [] (.inl h);exact ZO.mp q
theorem uc{CX:CXT}{P:Program}{w:World}{K:Kq}{mg:Ks}{base:Heap}{N ps:List Str}{qual:Str}{scope:Scope}{f:Addr}{cd:Value}{A:Around}{outer:List Env}{s s1:Shared}{H:Hp}{E:XK}{us:List Value}{vs:List V}
  (S:FnScope N ps scope) (hd:A.handled=none) (e0:Env0 P w K mg base A outer s H) (hl:vs.length=ps.length) (r:Vals vs us)
  (x:InCallC s s.heap.objs.size (bindL (envOfC qual scope s.heap.objs.size f cd).kindOf (ps.zip us) fun _=>none) (cellsFrom (s.heap.objs.size+1) scope.names []) (bindC (envOfC qual scope s.heap.objs.size f cd).kindOf (ps.zip us) fun _=>none) s1) :
  Inv (pi CX P w K mg base N qual scope f cd A outer s H E) [] (start N vs) H s1:=by
 have hpl:ps.length<=N.length:=by have:=Zs List.length S.pre;rw[ZQ]at this;omega
 obtain⟨h1,tk,rfl,hk⟩:=x.done;have noA:∀b:Addr,b∉(pi CX P w K mg base N qual scope f cd A outer s H E).ex:=fun b z=>absurd (show b∈([]:List Addr)from z) (by simp)
 refine⟨⟨e0.mod,S.kind,rfl,rfl,Yl _,fun y z c h1 h2=>?_,fun y hy=>?_,fun y c _ h=>?_,fun _=>hd,Around.frames_deeper e0.frames,.inr ⟨rfl,rfl⟩,fun b z=>absurd z (noA b),e0.bs,e0.bsz,fun b _ _=>noA b,fun b z=>absurd z (noA b),e0.funs,e0.frf⟩,
  rfl,e0.bare,Un.kept hk,⟨_,x.toInCall.ns,fun i y v h1 h2 h3=>?_⟩,fun y c h=>⟨_,x.cell y c h⟩,e0.hok.fresh (Yl _),fun y c h=>?_,fun p hp=>absurd (show p∈([]:Kp)from hp) (by simp),e0.hok.kept hk,?_⟩
 ·exact name_of_addr x.apart (Zu h1) (Zu h2)
 ·have hy:scope.names.lookup y=some .cell\/scope.names.lookup y=some .free:=hy;rcases hy with hy|hy
  ·exact oR hy
  ·exact absurd rfl (S.nofree _ (Zu hy))
 ·exact ZG (x.above y c (Zu h))
 ·have hi:i<vs.length:=by
   unfold start at h2;by_cases hi:i<vs.length
   ·exact hi
   ·rw[Zp (by simpa using hi)]at h2;rw[Xm]at h2;split at h2<;>cases h2
  have ha:vs[i]?=some v:=by
   unfold start at h2;rw[Zq (by simpa using hi),Yu]at h2;cases e:vs[i]? with
   |none=>rw[e]at h2;cases h2
   |some a=>rw[e]at h2;cases h2;rfl
  obtain⟨u,hu,rv⟩:=r.get ha;have hp:ps[i]?=some y:=by rw[<-S.pre,List.getElem?_take_of_lt (by omega)];exact h1
  have ndP:ps.Nodup:=by rw[<-S.pre];exact S.nd.sublist (List.take_sublist _ _)
  refine⟨u,rv,?_⟩;rcases S.par y (YA hp)with k|k
  ·exact .inl ⟨k,lG ndP hp hu k⟩
  ·obtain⟨c,e⟩:=oR (n:=s.heap.objs.size+1) k;refine .inr ⟨.inl k,c,e,?_⟩;have q:=x.cell y c e;rw[k_ ndP hp hu (by show scope.names.lookup y≠_;rw[k];decide)]at q;exact q
 ·exact e0.hok.fresh (ZG (x.above y c (Zu h)))
 ·unfold start;show _=N.length;rw[Yt,Ye,YG];omega
theorem C9{CX:CXT}{P:Program}{w:World}{K:Kq}{mg:Ks}{base:Heap}{k:Nat}{f:Addr}{name qual:Str}{params:Arguments}{body:List Stmt}{scope:Scope}{dV kV doc pm cdv ct oc:Value}{an od:Option Addr}
  {osl:Array (Option Value)}{N ps:List Str}{sp:Sp} (lk:K.lookup f=some ⟨oc,od,.func (PySem.W.fnOf name qual params body scope dV kV doc pm an cdv ct),osl⟩) (hcd:PySem.W.codeIn K cdv qual=true) (S:FnScope N ps scope)
  (len:∀vs H Q E,sp vs H Q E->vs.length=ps.length)
  (hbody:∀(A:Around) (outer:List Env) (s:Shared) (H:Hp) (vs:List V) (Q:VK) (E:XK),Room k (A.deeper (envOfC qual scope s.heap.objs.size f cdv))->sp vs H Q E->
   ∃t,PSs (pi CX P w K mg base N qual scope f cdv A outer s H E) body t/\t {nx:=fun _ H'=>Q .non H',rt:=Q} (start N vs) H) :
  FnOk P w K mg base CX (k+1) f (PySem.W.fnOf name qual params body scope dV kV doc pm an cdv ct) ps sp:=by
 refine⟨len,fun A outer s H args us vs Q E hr e0 hb r hsp=>?_⟩;have hl:=len _ _ _ _ hsp;have KX:K.In s.heap:=e0.mod.kin.keeps fun b o e=>(e0.bs b o e).1
 have lim:s.heap.NoLimit:=e0.mod.nolimit.keeps fun b o e=>(e0.bs b o e).1
 have hkind:∀y∈ps.zip us,scope.names.lookup y.1=some .local\/(scope.names.lookup y.1=some .cell/\((cellsFrom (s.heap.objs.size+1) scope.names []).lookup y.1).isSome=true):=fun⟨n,v⟩ hy=>by
  rcases S.par n (List.of_mem_zip hy).1 with q|q
  ·exact .inl q
  ·exact .inr ⟨q,Xu _ _ _ (.inl q)⟩
 refine codeAny_call_function hr.depth (KX _ _ lk) rfl S.co S.gen rfl (PySem.W.codeRec_of KX hcd) (hb _ _ _ _ ?_);refine wpAny_newFunctionEnv_cells S.kind hkind fun env he s1 x=>?_;subst he;refine⟨lim.keeps x.toInCall.keep,codeAny_func ?_⟩;obtain⟨t,ht,hq⟩:=hbody A outer s H vs Q E (hr.deeper _) hsp;have I:Inv (pi CX P w K mg base N qual scope f cdv A outer s H E) [] (start N vs) H s1:=uc S hr.hd e0 hl r x;refine Xg (ht [] s1 (start N vs) H _ I hq) (fun fl s' hs=>?_) fun e s' hs=>hs;have fin:∀{σ':St}{H':Hp}{v:V}{u:Value},Inv (pi CX P w K mg base N qual scope f cdv A outer s H E) [] σ' H' s'->RelV v u->Q v H'->CE outer P w H s Q u s':=
  fun{σ' H' v u} J rv q=>⟨v,H',J.os,J.bare,J.base,J.hok,rv,q⟩
 cases fl with
 |ret u=>
  obtain⟨v,σ',H',J,rv,q⟩:=hs;exact fin J rv q
 |next=>
  obtain⟨σ',H',J,q⟩:=hs;exact fin (v:=V.non) (u:=Value.none) J rfl q
 |brk=>
  obtain⟨_,_,_,q⟩:=hs;exact False.elim q
 |cont=>
  obtain⟨_,_,_,q⟩:=hs;exact False.elim q
section
variable{X:Cx}{x:Str}{p pos:Pos}{e:Expr}{es:List Expr}{t:TA}{id T:String}{r:List V->Hp->VK->Prop}
def tCB(r:List V->Hp->VK->Prop)(t:TA):TE:=fun σ H Q=>t σ H fun vs H1=>r vs H1 Q
theorem fy(hc:CallR X (.builtin id) r)(hg:Gl X x)(hm:X.mg x=none)(hv:bootBuiltins x=some (.builtin id))(ha:PA X (e::es) t)(hn:x ≠ "__name__":=by decide)(hdb:(x == ("__debug__":Str))=false:=by decide)
  (he:starEach (e::es) X.env=(false,eval e X.env)::starEach es X.env:=by rfl) (hpl:(backTo pos (starEach es X.env)).any (·.1)=false:=by rfl):PE X (.Call (.Name x p) (e::es) [] pos) (tCB r t):=by
 intro pz s σ H Q I h;refine XO (g8 I hg hm hv ?_ hn hdb);exact PyProof.Rows.callWith_builtin1 (bu (ha pos pz s σ H _ I h) fun us s1 vs H1 I1 r1 q1=>hc pz s1 σ H1 vs us Q I1 r1 q1) he hpl
theorem d6(hc:CallR X (.type T) r)(hg:Gl X x)(hm:X.mg x=none)(hv:bootBuiltins x=some (.type T))(ha:PA X (e::es) t)(hn:x ≠ "__name__":=by decide)(hdb:(x == ("__debug__":Str))=false:=by decide)
  (he:starEach (e::es) X.env=(false,eval e X.env)::starEach es X.env:=by rfl) (hpl:(backTo pos (starEach es X.env)).any (·.1)=false:=by rfl):PE X (.Call (.Name x p) (e::es) [] pos) (tCB r t):=by
 intro pz s σ H Q I h;refine XO (g8 I hg hm hv ?_ hn hdb);exact ZX (bu (ha pos pz s σ H _ I h) fun us s1 vs H1 I1 r1 q1=>hc pz s1 σ H1 vs us Q I1 r1 q1) he hpl
end
end L2
namespace HT
open PySem PyProof.Rows
theorem rcLt_int(A:Around)(s:Shared)(a:Int)(t:Tok)(c:Int)(u:Tok)(prog:Program)(w:World)(E:Value->Shared->Prop)(Q:Value->Shared->Prop)(h:Q (.bool (decide (a<c))) s) :
  wpAny (model prog w) A (richCompare .Lt (.int a t) (.int c u)) Q E s:=
 (PyProof.Rows.lt_int h:wpAny (model prog w) A (compareOp .Lt (.int a t) (.int c u)) Q E s)
section
open PySem.SeqAt
open PySem.AutoSeq1 (wpAny_loadPart')
open PySem.MeetsSeq PySem.MeetsSeq2 PySem.MeetsSeq3
end
section
variable{prog:Program}{w:World}{A:Around}{E:Value->Shared->Prop}{s:Shared}
theorem cat_tup{t b:Addr}{vs ws:List Value}{Q:Value->Shared->Prop}(ht:IsTup s.heap t vs.toArray)(hb:IsTup s.heap b ws.toArray)(hv:vs≠[])
  (h1:ws=[]->Q (.ref t) s) (h2:ws≠[]->Q (.ref s.heap.objs.size) {s with heap:=s.heap.push {cls:=.type "tuple",data:=.seq (vs++ws).toArray} })
  (hsz:vs.length+ws.length<=sizeLine):wpAny (model prog w) A (binaryOp .Add (.ref t) (.ref b)) Q E s:=by
 obtain⟨⟨cls,dd,data,sl⟩,ho,hc,n,hd⟩:=id ht;obtain⟨⟨cls2,dd2,data2,sl2⟩,ho2,hc2,n2,hd2⟩:=id hb;simp only at hc hd hc2 hd2;subst hc hd hc2 hd2;have e:vs.toArray++ws.toArray=(vs++ws).toArray:=by simp
 by_cases hw:ws=[]
 ·exact concat_meets ⟨_,ho,rfl⟩ ⟨_,ho2,rfl⟩ noFill_tuple_add seq_tuple_add PySem.F.slot_tuple_add PySem.F.entry_tuple_add (PySem.F.args_tuple_add_2 _ _)
   (tuple_addW1 t b vs.toArray ws.toArray n n2 dd dd2 sl sl2 (by simpa using hv) (by simp[hw])) ⟨ho,ho2,h1 hw⟩
 ·refine concat_meets ⟨_,ho,rfl⟩ ⟨_,ho2,rfl⟩ noFill_tuple_add seq_tuple_add PySem.F.slot_tuple_add PySem.F.entry_tuple_add (PySem.F.args_tuple_add_2 _ _)
   (tuple_addW2 t b vs.toArray ws.toArray n n2 dd dd2 sl sl2 (by simpa using hv) (by simpa using hw) (by rw[List.size_toArray,List.size_toArray];exact hsz)) ⟨ho,ho2,?_⟩
  rw[e];exact h2 hw
def sIx(n d:Nat):Option Int->Nat
 |none=>d
 |some v=>if v<0 then(v+(n:Int)).toNat else min v.toNat n
end
end HT
namespace L2
open PySem PySem.Spec PyProof.Rows
abbrev TO:=St->Hp->(Option Int->Hp->Prop)->Prop
def PO(X:Cx)(e:Option Expr)(t:TO):Prop:=
 ∀(pz:Kp) (s:Shared) (σ:St) (H:Hp) (Q:Option Int->Hp->Prop),Inv X pz σ H s->t σ H Q->
  wpAny (model X.prog X.w) X.A (evalPart e X.env) (fun u s'=>∃o H',Inv X pz σ H' s'/\IsPart u o/\Q o H') X.xe s
def xN:TO:=fun _ H Q=>Q none H
def CP(t:TE):TO:=fun σ H Q=>t σ H fun x H1=>∃i,x=.int i/\Q (some i) H1
section
variable{X:Cx}{e:Expr}{te:TE}{lo hi:Option Expr}{tl th:TO}{pos p2:Pos}
theorem xW:PO X none xN:=by intro pz s σ H Q I h;rw[evalPart_none];exact Yf ⟨none,H,I,.none,h⟩
theorem yD(h:PE X e te):PO X (some e) (CP te):=by intro pz s σ H Q I hw;rw[evalPart_some];refine bu (h pz s σ H _ I hw) fun u s1 x H1 I1 r1 q1=>?_;obtain⟨i,rfl,q⟩:=q1;obtain⟨t,rfl⟩:=r1;exact⟨some i,H1,I1,.int i t,q⟩
def SlR(X:Cx)(r:V->Option Int->Option Int->Hp->VK->Prop):Prop:=
 ∀(pz:Kp) (s:Shared) (σ:St) (H:Hp) (x:V) (v vl vu:Value) (lo hi:Option Int) (sl:Addr) (Q:VK),Inv X pz σ H s->RelV x v->s.heap.IsSliceOf sl vl vu .none->IsPart vl lo->IsPart vu hi->r x lo hi H Q->
  ∃T id,typeLookup (.type T) "__getitem__"=pure (some (.builtin id))/\s.TypeIs v T/\wpAny (model X.prog X.w) X.A (getItem v (.ref sl)) (EP X pz σ Q) X.xe s
def tSl(r:V->Option Int->Option Int->Hp->VK->Prop)(te:TE)(tl th:TO):TE:=fun σ H Q=>te σ H fun x H1=>tl σ H1 fun l H2=>th σ H2 fun u H3=>r x l u H3 Q
theorem uN{r:V->Option Int->Option Int->Hp->VK->Prop}(hr:SlR X r)(he:PE X e te)(hl:PO X lo tl)(hu:PO X hi th):PE X (.Subscript e (.Slice lo hi none p2) pos) (tSl r te tl th):=by
 intro pz s σ H Q I h;refine Subscript_ (bu (he pz s σ H _ I h) fun v s1 x H1 I1 r1 q1=>?_);refine wpAny_Slice (bu (hl pz s1 σ H1 _ I1 q1) fun vl s2 l H2 I2 pl q2=>bu (hu pz s2 σ H2 _ I2 q2) fun vu s3 u H3 I3 pu q3=>?_);rw[evalPart_none];refine Yf ?_;have I4:Inv X pz σ H3 {s3 with heap:=s3.heap.push {cls:=.type "slice",data:=.fields #[vl,vu,.none]} }:=I3.kept (t':=s3.toks) fun b ob q=>Yg _ q
 obtain⟨T,id,hT,ht,hg⟩:=hr pz {s3 with heap:=s3.heap.push {cls:=.type "slice",data:=.fields #[vl,vu,.none]} } σ H3 x v vl vu l u s3.heap.objs.size Q I4 r1 (Heap.IsSliceOf.new ..) pl pu q3;show wpAny (model X.prog X.w) X.A (subscriptTail e (.Slice lo hi none p2) v (.ref s3.heap.objs.size)) (EP X pz σ Q) X.xe {s3 with heap:=s3.heap.push {cls:=.type "slice",data:=.fields #[vl,vu,.none]} };exact tail_any (ops:=[.ref s3.heap.objs.size,v]) ht hT hg (by with_unfolding_all rfl)
def tz(xs:List V)(lo hi:Option Int):List V:=(xs.drop (HT.sIx xs.length 0 lo)).take (HT.sIx xs.length xs.length hi-HT.sIx xs.length 0 lo)
theorem pI(xs:List V)(lo hi:Option Int):(tz xs lo hi).length<=xs.length:=by unfold tz;rw[ZQ,List.length_drop];omega
def CY(K:Kq):R2:=fun x y H Q=>∃a b xs ys,x=.ref a/\y=.ref b/\SqT K H a xs/\SqT K H b ys/\xs≠[]/\xs.length+ys.length<=sizeLine /\
 (ys=[]->Q (.ref a) H)/\(ys≠[]->∀p,H p=none->Q (.ref p) (upd H p (.tup (xs++ys))))
theorem Vals.nil_iff{xs:List V}{us:List Value}(r:Vals xs us):us=[]↔xs=[]:=by
 cases r with
 |nil=>simp
 |cons _ _=>simp
theorem yp:OpR X (binaryOp .Add) (CY X.K):=by intro pz s σ H x y v u Q I rx ry h;obtain⟨a,b,xs,ys,rfl,rfl,ha,hb,hx,hz,q1,q2⟩:=h;cases rx;cases ry;obtain⟨its,r1,p1,_⟩:=I.tuple ha;obtain⟨its2,r2,p2,_⟩:=I.tuple hb;refine HT.cat_tup p1 p2 (fun z=>hx (r1.nil_iff.mp z)) (fun z=>⟨.ref a,H,I,rfl,q1 (r2.nil_iff.mp z)⟩) (fun z=>?_) (by rw[<-r1.length,<-r2.length];exact hz);refine⟨.ref s.heap.objs.size,_,I.laid (t':=s.toks) (o:=.tup (xs++ys)) (fun b ob q=>Yg _ q) (Yl _) ?_,rfl,q2 (fun w=>z (r2.nil_iff.mpr w)) _ (I.hok.fresh (Yl _))⟩;exact⟨by rw[Yt];exact hz,_,r1.append r2,IsTup.new _ _,NoD.new _ _⟩
end
def ixN(n:Nat)(i:Int):Option Nat:=if 0<=i then(if i<n then some i.toNat else none)else if -(n:Int)<=i then some (i+n).toNat else none
def atI{α:Type}(xs:List α)(i:Int):Option α:=(ixN xs.length i).bind fun j=>xs[j]?
theorem xx{n:Nat}{i:Int}{j:Nat}(h:ixN n i=some j):seqIndex? i n=some j/\j<n/\-(n:Int)<=i/\i<n:=by
 unfold ixN at h;by_cases h0:0<=i
 ·rw[if_pos h0]at h;by_cases h1:i<n
  ·rw[if_pos h1]at h;have e:i.toNat=j:=Yr h;exact⟨by rw[seqIndex_of h0 h1,e],by omega,by omega,h1⟩
  ·rw[if_neg h1]at h;cases h
 ·rw[if_neg h0]at h;by_cases h1:-(n:Int)<=i
  ·rw[if_pos h1]at h;have e:(i+n).toNat=j:=Yr h;exact⟨by rw[seqIndex_neg (by omega) h1,e],by omega,h1,by omega⟩
  ·rw[if_neg h1]at h;cases h
theorem ny{α:Type}{xs:List α}{i:Int}{v:α}(h:atI xs i=some v):∃j,seqIndex? i xs.length=some j/\xs[j]?=some v/\j<xs.length/\-(xs.length:Int)<=i/\i<xs.length:=by
 unfold atI at h;cases e:ixN xs.length i with
 |none=>rw[e]at h;cases h
 |some j=>
  rw[e]at h;obtain⟨h1,h2,h3,h4⟩:=xx e;exact⟨j,h1,h,h2,h3,h4⟩
theorem i5{α:Type}{xs:List α}{j:Nat}{v:α}(h:xs[j]?=some v):atI xs (j:Int)=some v:=by
 have hj:j<xs.length:=(Yk.mp h).1;have e:ixN xs.length (j:Int)=some j:=by unfold ixN;rw[if_pos (by omega),if_pos (by omega)];simp
 unfold atI;rw[e];exact h
theorem e7{α:Type}(xs:List α)(v:α):atI (xs++[v]) (-1)=some v:=by
 have hl:(xs++[v]).length=xs.length+1:=by simp
 have e:ixN (xs++[v]).length (-1)=some xs.length:=by
  unfold ixN;rw[hl,if_neg (by decide),if_pos (by omega)]
  congr 1
  omega
 unfold atI;rw[e];show(xs++[v])[xs.length]?=some v;simp
def gO(b:Expr):Prop:=∀o i,subscripted b false o i=operate [o,i] (getItem o i)
def IxR(X:Cx)(r:R2):Prop:=
 ∀(value slice:Expr) (pz:Kp) (s:Shared) (σ:St) (H:Hp) (x y:V) (v u:Value) (Q:VK),Inv X pz σ H s->RelV x v->RelV y u->r x y H Q->
  subscripted slice false v u=operate [v,u] (getItem v u)->wpAny (model X.prog X.w) X.A (subscriptTail value slice v u) (EP X pz σ Q) X.xe s
def MtR(X:Cx)(id:String)(r:V->List V->Hp->VK->Prop):Prop:=
 ∀(pz:Kp) (s:Shared) (σ:St) (H:Hp) (x:V) (xs:List V) (v:Value) (us:List Value) (Q:VK),Inv X pz σ H s->RelV x v->Vals xs us->r x xs H Q->
  wpAny (model X.prog X.w) X.A (call (.builtin id) (v::us)) (EP X pz σ Q) X.xe s
section
variable{X:Cx}{a b:Expr}{ta tb:TE}{pos:Pos}
theorem IxR.or{r r':R2}(h:IxR X r)(h':IxR X r'):IxR X (fun x y H Q=>r x y H Q\/r' x y H Q):=by
 intro value slice pz s σ H x y v u Q I rx ry q hs;rcases q with q|q
 ·exact h value slice pz s σ H x y v u Q I rx ry q hs
 ·exact h' value slice pz s σ H x y v u Q I rx ry q hs
theorem sq{r:R2}(hr:IxR X r)(ha:PE X a ta)(hb:PE X b tb)(hs:gO b):PE X (.Subscript a b pos) (tOp r ta tb):=by intro pz s σ H Q I h;exact Subscript_ (AM ha hb I h fun v u s2 x y H2 I2 rx ry q=>hr a b pz s2 σ H2 x y v u Q I2 rx ry q (hs _ _))
def BZ(K:Kq):R2:=fun x y H Q=>∃p xs i v,x=.ref p/\y=.int i/\SqL K H p xs/\atI xs i=some v/\Q v H
def Ci(K:Kq):R2:=fun x y H Q=>∃p xs i v,x=.ref p/\y=.int i/\SqT K H p xs/\atI xs i=some v/\Q v H
def BU:R2:=fun x y H Q=>∃z i c,x=.str z/\y=.int i/\z.length<=sizeLine/\atI z.cps.toList i=some c/\Q (.str ⟨#[c]⟩) H
theorem xw:IxR X (BZ X.K):=by
 intro value slice pz s σ H x y v u Q I rx ry h hs;obtain⟨p,xs,i,z,rfl,rfl,hq,he,q⟩:=h;cases rx;obtain⟨t,rfl⟩:=ry;obtain⟨its,r,pl,hz⟩:=I.list hq;obtain⟨j,h1,h2,h3,h4,h5⟩:=ny he;obtain⟨w,ew,rw'⟩:=r.get h2;have hl:=r.length;have hn:=j5;have fin:EP X pz σ Q w s:=⟨z,H,I,rw',q⟩
 by_cases h0:0<=i
 ·have hj:i.toNat=j:=by rw[seqIndex_of h0 h5]at h1;exact Yr h1
  exact item_listR pl.isList h0 (by omega) (by rw[hj];simpa using ew) fin hs
 ·have hj:(i+(its.toArray.size:Int)).toNat=j:=by rw[seqIndex_neg (by omega) h4]at h1;rw[Yz,<-hl];exact Yr h1
  exact subscriptTail_builtinR (x:=w) pl.isList.typeIs slot_list_getitem.lookup
   (wpAny_getItem_list_neg (Q:=fun r s'=>r=w/\EP X pz σ Q r s') pl.isList (by omega) (by rw[Yz]<;>omega) (by omega) (by rw[hj];simpa using ew) ⟨rfl,fin⟩) hs
theorem AJ:IxR X (Ci X.K):=by
 intro value slice pz s σ H x y v u Q I rx ry h hs;obtain⟨p,xs,i,z,rfl,rfl,hq,he,q⟩:=h;cases rx;obtain⟨t,rfl⟩:=ry;obtain⟨its,r,pl,hz⟩:=I.tuple hq;obtain⟨j,h1,h2,h3,h4,h5⟩:=ny he;obtain⟨w,ew,rw'⟩:=r.get h2;have hl:=r.length;have hn:=j5;have fin:EP X pz σ Q w s:=⟨z,H,I,rw',q⟩
 exact subscriptTail_builtinR (x:=w) pl.typeIs slot_tuple_getitem.lookup
  (getItem_tuple (j:=j) (Q:=fun r s'=>r=w/\EP X pz σ Q r s') pl (by omega) (by omega) (by rw[Yz,<-hl];exact h1) (by simpa using ew) ⟨rfl,fin⟩) hs
theorem z9:IxR X BU:=by
 intro value slice pz s σ H x y v u Q I rx ry h hs;obtain⟨z,i,c,rfl,rfl,hz,he,q⟩:=h;obtain⟨t,rfl⟩:=rx;obtain⟨t',rfl⟩:=ry;obtain⟨j,h1,h2,h3,h4,h5⟩:=ny he;have hl:z.cps.toList.length=z.length:=by simp[Str.length]
 rw[hl]at h1 h4 h5;have hn:=j5;exact tail_any (typeIs_str s z t) slot_str_getitem.lookup (getItem_str (c:=c) (by
  have e1:decide (i < -(2^63:Int))=false:=YB (by omega);have e2:decide (i ≥ 2^63)=false:=YB (by omega);rw[e1,e2,Bool.or_false]) (by rw[h1];simpa using h2) ⟨.str ⟨#[c]⟩,H,I.tok _,⟨_,rfl⟩,q⟩) hs
def rIx(K:Kq):R2:=fun x y H Q=>BZ K x y H Q\/Ci K x y H Q\/BU x y H Q
theorem nN:IxR X (rIx X.K):=xw.or (AJ.or z9)
theorem nM(lo hi:Option Int)(n:Nat):(sliceBounds lo hi none n).1=((HT.sIx n 0 lo:Nat):Int)/\(sliceBounds lo hi none n).2.1=((HT.sIx n n hi:Nat):Int)/\(sliceBounds lo hi none n).2.2=1:=by
 refine⟨?_,?_,rfl⟩
 ·cases lo with
  |none=>simp[sliceBounds,HT.sIx]
  |some i=>
   simp only[sliceBounds,HT.sIx,Option.getD_none,show(1:Int) > 0 by decide,VR];by_cases h:i<0
   ·simp only[h,VR]<;>omega
   ·simp only[h,Vi]<;>omega
 ·cases hi with
  |none=>simp[sliceBounds,HT.sIx]
  |some i=>
   simp only[sliceBounds,HT.sIx,Option.getD_none,show(1:Int) > 0 by decide,VR];by_cases h:i<0
   ·simp only[h,VR]<;>omega
   ·simp only[h,Vi]<;>omega
theorem kS(its:List Value)(lo hi:Option Int):slicePick its.toArray lo hi none=((its.drop (HT.sIx its.length 0 lo)).take (HT.sIx its.length its.length hi-HT.sIx its.length 0 lo)).toArray:=by obtain⟨h1,h2,h3⟩:=nM lo hi its.toArray.size;unfold slicePick;rw[h1,h2,h3];simp only[sliceRange_one,pick_run,Yz]<;>rfl
def DW(K:Kq):V->Option Int->Option Int->Hp->VK->Prop:=fun x lo hi H Q=>∃a xs,x=.ref a/\SqL K H a xs/\∀p,H p=none->Q (.ref p) (upd H p (.lst (tz xs lo hi)))
theorem yU:SlR X (DW X.K):=by intro pz s σ H x v vl vu lo hi sl Q I rx hs pl pu h;obtain⟨a,xs,rfl,hx,q⟩:=h;cases rx;obtain⟨its,r,ht,hz⟩:=I.list hx;have hlen:=r.length;refine⟨"list",_,slot_list_getitem.lookup,ht.isList.typeIs,?_⟩;refine wpAny_getItem_list_slice ht.isList hs pl pu .none (by simp) ?_ (by rw[Yz]<;>omega);rw[kS,<-hlen];refine⟨.ref s.heap.objs.size,_,I.laid (t':=s.toks) (o:=.lst (tz xs lo hi)) (fun b ob q=>Yg _ q) (Yl _) ?_,rfl,q _ (I.hok.fresh (Yl _))⟩;exact⟨YD (pI xs lo hi) hz,_,0,(r.drop (HT.sIx xs.length 0 lo)).take (HT.sIx xs.length xs.length hi-HT.sIx xs.length 0 lo),Yn _ rfl⟩
theorem mO:CallR X (.builtin "len") (fun xs H Q=>∃p ys,xs=[.ref p]/\(SqL X.K H p ys\/SqT X.K H p ys)/\Q (.int ys.length) H):=by
 intro pz s σ H xs us Q I r h;obtain⟨p,ys,rfl,hq,q⟩:=h;obtain⟨u,rfl,rx⟩:=dW r;cases rx;have hn:=j5;rcases hq with hq|hq
 ·obtain⟨its,r',pl,hz⟩:=I.list hq;have hlen:=r'.length;exact Calls.call_len_list pl.isList (by simp only[Yz]<;>omega) ⟨.int ys.length,H,I.tok _,⟨s.toks+1,by rw[Yz,hlen]⟩,q⟩
 ·obtain⟨its,r',pl,hz⟩:=I.tuple hq;have hlen:=r'.length;exact len_tuple pl (by simp only[Yz]<;>omega) ⟨.int ys.length,H,I.tok _,⟨s.toks+1,by rw[Yz,hlen]⟩,q⟩
theorem ng:CallR X (.builtin "len") (fun xs H Q=>∃z,xs=[.str z]/\z.length<=sizeLine/\Q (.int z.length) H):=by intro pz s σ H xs us Q I r h;obtain⟨z,rfl,hz,q⟩:=h;obtain⟨u,rfl,t,rfl⟩:=dW r;have hn:=j5;exact len_str (by omega) ⟨.int z.length,H,I.tok _,⟨_,rfl⟩,q⟩
theorem CallR.or{f:Value}{r r':List V->Hp->VK->Prop}(h:CallR X f r)(h':CallR X f r'):CallR X f (fun xs H Q=>r xs H Q\/r' xs H Q):=by
 intro pz s σ H xs us Q I rs q;rcases q with q|q
 ·exact h pz s σ H xs us Q I rs q
 ·exact h' pz s σ H xs us Q I rs q
theorem mh:CallR X (.type "list") (fun xs H Q=>∃p ys,xs=[.ref p]/\(SqL X.K H p ys\/SqT X.K H p ys)/\∀l,H l=none->Q (.ref l) (upd H l (.lst ys))):=by
 intro pz s σ H xs us Q I r h;obtain⟨p,ys,rfl,hq,q⟩:=h;obtain⟨u,rfl,rx⟩:=dW r;cases rx;have fin:∀(its:List Value),Vals ys its->ys.length<=sizeLine->∀(h':Heap) (c':Nat),(∀b o',s.heap.get? b=some o'->h'.get? b=some o')->
   h'.get? s.heap.objs.size=some {cls:=.type "list",dict:=none,data:=.seq its.toArray c',slots:=#[]}->EP X pz σ Q (.ref s.heap.objs.size) {s with heap:=h' }:=fun its r' hz h' c' kp e=>
  ⟨.ref s.heap.objs.size,_,I.laid (t':=s.toks) kp (Yl _) (show ObjOk X.prog X.w _ h' _ (.lst ys)from⟨hz,its,c',r',e⟩),rfl,q _ (I.hok.fresh (Yl _))⟩
 rcases hq with hq|hq
 ·obtain⟨its,r',pl,hz⟩:=I.list hq;have hlen:=r'.length;obtain⟨o,ho,hc,n,hd⟩:=pl.isList;exact call_list_seq p (.inl rfl) ho hc hd (fun h' c' kp e=>fin its r' hz h' c' kp e) (by simp only[Yz]<;>omega)
 ·obtain⟨its,r',pl,hz⟩:=I.tuple hq;have hlen:=r'.length;obtain⟨o,ho,hc,n,hd⟩:=pl;exact call_list_seq p (.inr rfl) ho hc hd (fun h' c' kp e=>fin its r' hz h' c' kp e) (by simp only[Yz]<;>omega)
theorem kJ:CallR X (.type "tuple") (fun xs H Q=>∃p ys,xs=[.ref p]/\((SqL X.K H p ys/\∀l,H l=none->Q (.ref l) (upd H l (.tup ys)))\/(SqT X.K H p ys/\Q (.ref p) H))):=by
 intro pz s σ H xs us Q I r h;obtain⟨p,ys,rfl,h⟩:=h;obtain⟨u,rfl,rx⟩:=dW r;cases rx;rcases h with⟨hq,q⟩|⟨hq,q⟩
 ·obtain⟨its,r',pl,hz⟩:=I.list hq;have hlen:=r'.length;refine call_tuple_list pl.isList (fun h' kp=>?_) (by simp only[Yz]<;>omega);have I1:Inv X pz σ H {s with heap:=h' }:=I.kept (t':=s.toks) kp;have I2:Inv X pz σ (upd H h'.objs.size (.tup ys)) {s with heap:=h'.push {cls:=.type "tuple",data:=.seq its.toArray} }:=
   I1.laid (t':=s.toks) (fun b o e=>Yg _ e) (Yl _) (show ObjOk X.prog X.w _ _ _ (.tup ys)from⟨hz,its,r',IsTup.new _ _,NoD.new _ _⟩)
  exact⟨.ref h'.objs.size,_,I2,rfl,q _ (I1.hok.fresh (Yl _))⟩
 ·obtain⟨its,r',pl,hz⟩:=I.tuple hq;exact call_tuple_same pl ⟨.ref p,H,I,rfl,q⟩
def tyV(K:Kq)(T:String)(x:V)(H:Hp):Prop:=match x with
 |.str _=>T = "str"
 |.int _=>T = "int"
 |.ref p=>(T = "list"/\∃xs,SqL K H p xs)\/(T = "tuple"/\∃o,K.lookup p=some o/\o.cls=.type "tuple"/\o.dict=none) \/
   (T = "dict"/\((∃kvs,H p=some (.dK kvs))\/∃kvs,H p=some (.dT kvs)))\/(T = "set"/\∃S n,H p=some (.set S n))
 |_=>False
theorem vi{pz:Kp}{σ:St}{H:Hp}{s:Shared}{T:String}{x:V}{v:Value}(I:Inv X pz σ H s)(r:RelV x v)(ty:tyV X.K T x H) :
  s.TypeIs v T/\∀a,v=.ref a->∃ob,s.heap.get? a=some ob/\ob.dict=none:=by
 cases x with
 |str z=>
  obtain⟨t,rfl⟩:=r;cases(show T = "str" from ty);exact⟨typeIs_str s z t,fun _ e=>nomatch e⟩
 |int i=>
  obtain⟨t,rfl⟩:=r;cases(show T = "int" from ty);exact⟨typeIs_int s i t,fun _ e=>nomatch e⟩
 |ref p=>
  cases r;rcases ty with⟨rfl,xs,hq⟩|⟨rfl,o,hk,hc,hd⟩|⟨rfl,hk⟩|⟨rfl,S,n,hk⟩
  ·obtain⟨its,_,pl,_⟩:=I.list hq;refine⟨pl.isList.typeIs,fun a e=>?_⟩;cases e;obtain⟨o,n,e,c,hd,_⟩:=pl;exact⟨o,e,hd⟩
  ·refine⟨⟨o,I.kIn p o hk,hc⟩,fun a e=>?_⟩;cases e;exact⟨o,I.kIn _ o hk,hd⟩
  ·have z:∃o,s.heap.get? p=some o/\o.ExactDict:=by
    rcases hk with⟨kvs,hk⟩|⟨kvs,hk⟩
    ·obtain⟨_,_,_,_,o,_,_,e,ex,_⟩:=I.hok p _ hk;exact⟨o,e,ex⟩
    ·obtain⟨_,_,_,_,o,_,_,e,ex,_⟩:=I.hok p _ hk;exact⟨o,e,ex⟩
   obtain⟨o,e,ex⟩:=z;refine⟨⟨o,e,ex.1⟩,fun a e2=>?_⟩;cases e2;exact⟨o,e,ex.2.1⟩
  ·obtain⟨o,_,_,_,e,ex,_⟩:=I.hok p _ hk;refine⟨⟨o,e,ex.1⟩,fun a e2=>?_⟩;cases e2;exact⟨o,e,ex.2.1⟩
 |_=>exact False.elim ty
def DJ(K:Kq)(T:String)(r:V->List V->Hp->VK->Prop)(to:TE):TE:=fun σ H Q=>to σ H fun x H1=>tyV K T x H1/\r x [] H1 Q
def tBM(K:Kq)(T:String)(r:V->List V->Hp->VK->Prop)(to:TE)(t:TA):TE:=fun σ H Q=>to σ H fun x H1=>tyV K T x H1/\t σ H1 fun xs H2=>r x xs H2 Q
variable{o e:Expr}{es:List Expr}{to:TE}{t:TA}{name:Str}{apos cpos:Pos}{T id:String}{r:V->List V->Hp->VK->Prop}
theorem AV(pa:PlainAttrs T)(slot:Slot T name id)(hty:typeOf (.builtin id)=pure (.type "method_descriptor"))(hm:MtR X id r)(ho:PE X o to)
  (hbase:attributeBase o name X.env (eval o X.env)=eval o X.env:=by rfl) (hline:(apos.endLine == cpos.line)=true:=by rfl):PE X (.Call (.Attribute o name apos) [] [] cpos) (DJ X.K T r to):=by
 intro pz s σ H Q I h;refine wpAny_Call_method0_late hbase hline (bu (ho pz s σ H _ I h) fun v s1 x H1 I1 r1 hh_=>?_);obtain⟨ty,q1⟩:=hh_;obtain⟨h1,h2⟩:=vi I1 r1 ty;exact⟨T,id,pa,slot,hty,h1,h2,XX rfl (PySem.evalArgs_none (hm pz s1 σ H1 x [] v [] Q I1 r1 .nil q1))⟩
theorem lE(pa:PlainAttrs T)(slot:Slot T name id)(hty:typeOf (.builtin id)=pure (.type "method_descriptor"))(hm:MtR X id r)(ho:PE X o to)(ha:PA X (e::es) t)
  (hbase:attributeBase o name X.env (eval o X.env)=eval o X.env:=by rfl)
  (hfew:((backTo cpos (starEach (e::es) X.env)).all (fun x=>!x.1)&&(backToKw cpos (keywordEach [] X.env)).all (fun x=>x.1.isSome)
   && decide ((e::es).length+([]:List Keyword).length+(if([]:List Keyword).isEmpty then 0 else 1)<30))=true:=by rfl)
  (hline:(apos.endLine == cpos.line)=true:=by rfl) (hs:starEach (e::es) X.env=(false,eval e X.env)::starEach es X.env:=by rfl) (hplain:(backTo cpos (starEach es X.env)).any (·.1)=false:=by rfl) :
  PE X (.Call (.Attribute o name apos) (e::es) [] cpos) (tBM X.K T r to t):=by
 intro pz s σ H Q I h;refine wpAny_Call_method_late hbase hfew hline rfl (bu (ho pz s σ H _ I h) fun v s1 x H1 I1 r1 hh_=>?_);obtain⟨ty,q1⟩:=hh_;obtain⟨h1,h2⟩:=vi I1 r1 ty;refine⟨T,id,pa,slot,hty,h1,h2,?_⟩;have hA:=ha cpos pz s1 σ H1 _ I1 q1;rw[hs]at hA ⊢;refine XX (by show(false||(backTo cpos (starEach es X.env)).any (·.1))=false;rw[hplain]<;>rfl) (Calls.evalArgs_plain ?_);exact bu hA fun us s2 vs H2 I2 r2 q2=>hm pz s2 σ H2 x vs v us Q I2 r1 r2 q2
end
def MtM(X:Cx)(id:String)(r:V->List V->Hp->VK->Prop):Prop:=
 ∀(pz:Kp) (s:Shared) (σ:St) (H:Hp) (x:V) (xs:List V) (v:Value) (us:List Value) (Q:VK),Inv X pz σ H s->RelV x v->Vals xs us->r x xs H Q->
  wpAny (model X.prog X.w) X.A (call (.builtin id) (v::us)) (EP X pz σ Q) X.xe s
theorem Vals.one{x:V}{us:List Value}(h:Vals [x] us):∃u,us=[u]/\RelV x u:=dW h
theorem Vals.zero:∀{us:List Value},Vals [] us->us=[]
 |_,.nil=>rfl
theorem Vals.eraseIdx:∀{xs:List V}{us:List Value} (i:Nat),Vals xs us->Vals (xs.eraseIdx i) (us.eraseIdx i)
 |_,_,_,.nil=>.nil
 |_,_,0,.cons _ t=>t
 |_,_,i+1,.cons r t=>.cons r (Vals.eraseIdx i t)
theorem lc{α:Type}:∀(l:List α) (i:Nat),(l.eraseIdx i).length<=l.length
 |[],_=>Yl _
 |_::_,0=>ZY _
 |_::r,i+1=>Vq (lc r i)
section
variable{X:Cx}{pz:Kp}{σ:St}{H:Hp}{s:Shared}{l b:Addr}{xs ys zs:List V}
theorem Inv.lset{its its':List Value}{n:Nat}{f:Array Value->Array Value}{t':Nat}(I:Inv X pz σ H s)(hH:H l=some (.lst xs))
  (e:s.heap.get? l=some {cls:=.type "list",data:=.seq its.toArray n}) (hf:f its.toArray=its'.toArray) (hv:Vals ys its') (hz:ys.length<=sizeLine) :
  Inv X pz σ (upd H l (.lst ys)) {s with heap:=s.heap.update l (Obj.mapSeq f),toks:=t' }:=by
 have q:=PySem.IsL.update e f;rw[hf]at q;refine I.write (x:=l) (e:=l) (by rw[hH];exact trivial) (.inl rfl) (fun b' u hb hu=>(Heap.get?_update_other s.heap (Obj.mapSeq f) (ZL hb)).trans hu) ⟨_,q⟩ ?_;exact⟨hz,its',_,hv,q⟩
theorem Inv.lnew{its:List Value}{t':Nat}(I:Inv X pz σ H s)(hv:Vals ys its)(hz:ys.length<=sizeLine) :
  Inv X pz σ (upd H s.heap.objs.size (.lst ys)) {s with heap:=s.heap.push {cls:=.type "list",data:=.seq its.toArray},toks:=t' }:=
 I.laid (fun _ _ q=>Yg _ q) (Yl _) ⟨hz,its,0,hv,Yn _ rfl⟩
theorem Inv.fresh(I:Inv X pz σ H s):H s.heap.objs.size=none:=I.hok.fresh (Yl _)
theorem Inv.lstM(I:Inv X pz σ H s)(hH:H l=some (.lst xs)):xs.length<=sizeLine/\∃(its:List Value) (n:Nat),Vals xs its/\xs.length=its.length/\s.heap.get? l=some {cls:=.type "list",data:=.seq its.toArray n}:=by obtain⟨z,its,n,r,e⟩:=I.hok l _ hH;exact⟨z,its,n,r,r.length,e⟩
end
section
variable{X:Cx}
def xQ:V->List V->Hp->VK->Prop:=fun x vs H Q=>∃l xs y,x=.ref l/\vs=[y]/\H l=some (.lst xs)/\xs.length<sizeLine/\Q .non (upd H l (.lst (xs++[y])))
theorem dY:MtM X "list.append" xQ:=by intro pz s σ H x vs v us Q I rx rv h;obtain⟨l,xs,y,rfl,rfl,hH,hz,q⟩:=h;cases rx;obtain⟨u,rfl,ru⟩:=rv.one;obtain⟨z,its,n,r,hl,e⟩:=I.lstM hH;refine call_meets F.slot_list_append ⟨_,e,rfl⟩ F.entry_list_append (F.args_list_append_2 _ _) (PySem.list_append l its.toArray n u (by rw[Yz];omega)) ⟨e,?_⟩;refine⟨.non,_,I.lset (its':=its++[u]) hH e (by simp) (r.append (.cons ru .nil)) ?_,rfl,q⟩;rw[Yt,YQ];omega
def vC:V->List V->Hp->VK->Prop:=fun x vs H Q=>∃l xs i k y,x=.ref l/\vs=[.int i]/\H l=some (.lst xs)/\-(2^63)<=i/\i<2^63/\seqIndex? i xs.length=some k/\xs[k]?=some y/\Q y (upd H l (.lst (xs.eraseIdx k)))
theorem vT:MtM X "list.pop" vC:=by
 intro pz s σ H x vs v us Q I rx rv h;obtain⟨l,xs,i,k,y,rfl,rfl,hH,h1,h2,hk,hy,q⟩:=h;cases rx;obtain⟨u,rfl,ru⟩:=rv.one;obtain⟨t,rfl⟩:=ru;obtain⟨z,its,n,r,hl,e⟩:=I.lstM hH;obtain⟨w,hw,rw'⟩:=r.get hy;refine call_meets F.slot_list_pop ⟨_,e,rfl⟩ F.entry_list_pop (F.args_list_pop_2 _ _)
  (MeetsSeq.list_pop_at l its.toArray n i t k w (fitsIndex_both h1 h2) (by rw[Yz,<-hl];exact hk) (by rw[<-YM];exact hw) (by rw[Yz];omega)) ⟨e,?_⟩
 refine⟨y,_,I.lset (its':=its.eraseIdx k) hH e ?_ (r.eraseIdx k) ?_,rw',q⟩
 ·show its.toArray.eraseIdxIfInBounds k=(its.eraseIdx k).toArray;rw[List.eraseIdxIfInBounds_toArray]
 ·have:=lc xs k;omega
def AE:V->List V->Hp->VK->Prop:=fun x vs H Q=>∃l xs,x=.ref l/\vs=[]/\H l=some (.lst xs)/\Q .non (upd H l (.lst []))
theorem vf:MtM X "list.clear" AE:=by intro pz s σ H x vs v us Q I rx rv h;obtain⟨l,xs,rfl,rfl,hH,q⟩:=h;cases rx;have hus:=rv.zero;subst hus;obtain⟨z,its,n,r,hl,e⟩:=I.lstM hH;refine call_meets F.slot_list_clear ⟨_,e,rfl⟩ F.entry_list_clear (F.args_list_clear_1 _) (AutoSeq1.list_clear_list_0 l its.toArray n (by rw[Yz];omega)) ⟨e,?_⟩;exact⟨.non,_,I.lset (its':=[]) (ys:=[]) hH e rfl .nil (YF _),rfl,q⟩
end
section
variable{prog:Program}{w:World}{A:Around}{E:Kv}{s:Shared}
set_option maxRecDepth 100000 in
end
section
variable{X:Cx}
end
end L2
namespace Att
open PySem PySem.W PySem.Calls PyProof.Rows
theorem iS{P:Params}{h:Heap}:∀(ns:List Int) (vs:List Value),WellAll P h vs (ns.map WData.int)->IntsAre vs ns:=by
 intro ns;induction ns with
 |nil=>
  intro vs w;rw[List.map_nil]at w;cases w;exact .nil
 |cons n ns ih=>
  intro vs w;rw[List.map_cons]at w;cases w with
  |cons a b=>
   cases a;exact .cons _ _ (ih _ b)
theorem t_{l:OpenLaw}{n:Nat}(hn:l.most=some n){P:Params}{h:Heap}{args:List WData}{vals:List Value}
  (hpre:l.row.toRowW.claim.pre args=true) (hwl:WellAll P h vals args) :
  ∃a vs ns,vals=[Value.ref a]/\args=[WData.list (ns.map WData.int)]/\h.get? a=some {cls:=.type "list",data:=.seq vs.toArray}/\IntsAre vs ns/\ns.length<=n:=by
 have hsh:WShape.hasAll [] args [.list .int]=true:=(pre_splitW hpre).1;have hc:l.pre.holds [] {args:=args}=true:=(pre_splitW hpre).2;obtain⟨d,r,rfl,h1,h2⟩:=hasAllW_cons hsh;obtain rfl:=hasAllW_nil h2;obtain⟨xs,rfl,h3⟩:=hasW_list h1;obtain⟨ns,rfl⟩:=items_int h3;have hlen:ns.length<=n:=by
  unfold OpenLaw.pre at hc;have h4:(WTm.not (.lt (.lit (.int (n:Int))) (.len (.arg 0)))).holds [] {args:=[.list (ns.map .int)]}=true:=by have h4:=(holds_andW hc).1;rw[hn]at h4;exact h4
  have h5:=condW_of h4 (w_not (w_lt w_lit (w_len_list (w_arg rfl))));rw[List.length_map]at h5;refine Nat.le_of_not_lt fun q=>?_;have q':(n:Int)<((ns.length:Nat):Int):=by omega
  first
   |(rw[decide_eq_true q']at h5;exact absurd h5 (by decide))
   |(simp at h5;omega)
 cases hwl with
 |cons w1 w2=>
  cases w2;cases w1 with
  |list ho hall=>exact⟨_,_,ns,rfl,rfl,ho,iS ns _ hall,hlen⟩
theorem ux(l:OpenLaw)(args:List WData):l.row.toRowW.claim.post args (.bool true) args=true:=
 postW_of (r:=l.row.toRowW) (X:=(true == true))
  (show WShape.has [] (.bool true) .bool=true by first|rfl|decide|simp[WShape.has,WShape.arms,WShape.armsAll])
  (show(WTm.eq .res (.lit (.bool true))).value [] {args:=args,res:=some (.bool true),after:=args}=some (.bool (true == true))from w_eq_bool (w_res rfl) w_lit) rfl
theorem attach_call{l:OpenLaw}{n:Nat}{q:Program}{loose:List Str}{XP:(Str->Option Value)->Heap->Prop}{YP:World->Heap->Prop}{d:DefRec}
  (hn:l.most=some n) (hdf:d.params.defaults=[])
  (call:∀(w:World) (s₀ s₁:Shared) (mg mb:Str->Option Value) (fa:Addr) (o:Obj) (pm cd doc:Value) (a:Addr) (vs:List Value) (ns:List Int),
   Ground q loose [] XP w s₀ mg mb s₁.heap->YP w s₁.heap->
   s₁.heap.get? fa=some o->o.data=.func (docDef d.name d.params d.body d.scope pm cd doc)->s₁.heap.CodeRec cd d.name->mg d.name=some (.ref fa)->
   s₁.heap.get? a=some {cls:=.type "list",data:=.seq vs.toArray}->IntsAre vs ns->ns.length<=n->s₁.gens=#[]->
   codeAny (model l.prog w) callerA (.call (.ref fa) ⟨[.ref a],[]⟩) (fun r s'=>r=.ok (.ret (.bool true))/\OldK s₁.heap s'.heap/\s'.os=s₁.os/\AllBare s'.gens) s₁) :
  WalkO q loose XP YP l.row.toRowW d [] (fun f vs=>PySem.call f vs):=by
 intro w s₀ s₁ mg mb G Y fa o pm cd doc dV kV ho hd hcd hD hmg hg args vals as hpre hlay hrd hwl hlo;obtain rfl:dV=.none:=Dflts.none hD hdf;obtain rfl:kV=.none:=Dflts.noKw hD;obtain⟨a,vs,ns,rfl,rfl,hobj,hints,hlen⟩:=t_ hn hpre hwl;refine enter_call (codeAny_mono (call w s₀ s₁ mg mb fa o pm cd doc a vs ns G Y ho (fd_plain hd) hcd hmg hobj hints hlen hg) fun r s' hq=>?_);obtain⟨rfl,h2,h3,h4⟩:=hq;exact⟨.inl ⟨.bool true,.bool true,[],rfl,fun _=>rfl,.bool true,ux l _,fun _=>⟨List.Pairwise.nil,fun _ hm=>(nomatch hm)⟩⟩,h2,h3,h4⟩
section
variable{prog:Program}{w:World}{A:Around}{E:Value->Shared->Prop}{s:Shared}{K:Frag}
end
end Att
namespace L2
open PySem PySem.Spec PyProof.Rows
theorem lL:∀{vs:List Value}{ns:List Int},IntsAre vs ns->Vals (ns.map V.int) vs
 |_,_,.nil=>.nil
 |_,_,.cons n t h=>.cons ⟨t,rfl⟩ (lL h)
def yW(H:Hp):Prop:=∀b,H b=none\/∃o xs,H b=some (.frz o (.lst xs))
theorem uz{P:Program}{w:World}{K:Kq}{mg mb:Ks}{CX:CXT}{k:Nat}{fa a:Addr}{fd:FuncData}{x:Str}{sp:Sp}{s₁:Shared}{vs:List Value}{ns:List Int}
  (KX:K.In s₁.heap) (hns:s₁.heap.Ns mainGlobals mg) (hb:s₁.heap.Ns builtinsNs mb) (hbb:∀x:Str,x ≠ "__name__"->mb x=bootBuiltins x) (hlim:s₁.heap.NoLimit) (hg:s₁.gens=#[])
  (ha:s₁.heap.get? a=some {cls:=.type "list",data:=.seq vs.toArray}) (hi:IntsAre vs ns) (hl:ns.length<=sizeLine) (hr:Room k callerA)
  (F:∀base:Heap,K.In base->base.Ns mainGlobals mg->FnOk P w K mg base CX k fa fd [x] sp) (hbind:∀(s:Shared) (u:Value),BindsTo s fd ⟨[u],[]⟩ [(x,u)])
  (hsp:∀H:Hp,yW H->SqL K H a (ns.map V.int)->sp [.ref a] H (fun v _=>v=.bl true) fun _ _ _=>False)
  (hCX:∀H e s',CX [] H s₁ (fun _ _ _=>False) e s'->False) :
  codeAny (model P w) callerA (.call (.ref fa) ⟨[.ref a],[]⟩) (fun r s'=>r=.ok (.ret (.bool true))/\OldK s₁.heap s'.heap/\s'.os=s₁.os/\AllBare s'.gens) s₁:=by
 have rv:=lL hi;have lenV:=hi.length
 -- from an abstract heap in which nothing but the script may be tracked
 have core:∀H:Hp,yW H->SqL K H a (ns.map V.int)->HOk P w H s₁.heap->(∀b,H b≠none->b=a)->(H a≠none->K.lookup a=none)->
   codeAny (model P w) callerA (.call (.ref fa) ⟨[.ref a],[]⟩) (fun r s'=>r=.ok (.ret (.bool true))/\OldK s₁.heap s'.heap/\s'.os=s₁.os/\AllBare s'.gens) s₁:=by
  intro H hO hS hok hA hK;have base_of:∀{b:Addr}{o:Obj},s₁.heap.get? b=some o->H b=none->(nE s₁.heap H).get? b=some o:=fun e n=>va e n
  have noA:∀{b:Addr}{o:Obj}{es:Array DictEntry}{ep:Nat},s₁.heap.get? b=some o->o.data=.dict es ep->H b=none:=fun{b o es ep} e d=>by
   cases q:H b with
   |none=>rfl
   |some u=>
    have e':b=a:=hA b (by rw[q];simp);subst e';rw[ha]at e;cases e;have d':Data.seq vs.toArray _=Data.dict es ep:=d;cases d'
  have nsK:∀{b:Addr}{m:Ks},s₁.heap.Ns b m->(nE s₁.heap H).Ns b m:=fun{b m} ⟨o,es,ep,e,d,r⟩=>⟨o,es,ep,base_of e (noA e d),d,r⟩
  have hKb:K.In (nE s₁.heap H):=fun b o e=>base_of (KX b o e) (by
   cases q:H b with
   |none=>rfl
   |some u=>
    have e':b=a:=hA b (by rw[q];simp);subst e';rw[hK (by rw[q];simp)]at e;cases e)
  have hM:Mod K mg (nE s₁.heap H):=⟨hKb,nsK hns,⟨mb,nsK hb,hbb⟩,let ⟨mc,h1,h2⟩:=hlim;⟨mc,nsK h1,h2⟩⟩
  have e0:Env0 P w K mg (nE s₁.heap H) callerA [] s₁ H:=⟨rfl,hM,fun b o e=>xV e,ZU (uf _ _),trivial,fun b hb=>absurd (show b∈([]:List Addr)from hb) (by simp),hok,.of_eq hg⟩
  refine VM ((F _ hKb (nsK hns)).run callerA [] s₁ H ⟨[.ref a],[]⟩ [.ref a] [.ref a] _ _ hr e0 (hbind s₁ (.ref a)) (.cons rfl .nil) (hsp H hO hS)) fun r s' h=>?_;cases r with
  |error e=>exact(hCX H e s' h).elim
  |ok fl=>
   cases fl with
   |next=>exact False.elim h
   |brk=>exact False.elim h
   |cont=>exact False.elim h
   |ret u=>
    obtain⟨v,H',os,bare,un,hok',r',q⟩:=h;have q':v=.bl true:=q;subst q';obtain rfl:u=Value.bool true:=r';refine⟨rfl,OldK.of_keep fun b o e=>?_,os,bare⟩;cases q:H b with
    |none=>exact un.keep b o e q (by intro z;exact absurd (show b∈([]:List Addr)from z) (by simp)) (by simp)
    |some u=>
     rcases hO b with z|⟨ob,xs,z⟩
     ·rw[q]at z;cases z
     ·have z2:=un.frzs b ob _ z;obtain⟨e1,_⟩:=hok b _ z;obtain⟨e2,_⟩:=hok' b _ z2;rw[e]at e1;cases e1;exact e2
 cases hk:K.lookup a with
 |some o=>
  -- the script is one of the module's own objects
  have e:=KX a o hk;rw[ha]at e;cases e;refine core (fun _=>none) (fun _=>.inl rfl) (.inr ⟨_,vs.toArray,_,hk,rfl,rfl,rfl,by rw[Yz,lenV];exact hl,by simpa using rv⟩) (fun b u z=>by have z':(none:Option HO)=some u:=z;cases z') (fun b z=>absurd rfl z) fun z=>absurd rfl z
 |none=>
  refine core (fun b=>if b=a then some (.frz {cls:=.type "list",data:=.seq vs.toArray} (.lst (ns.map V.int)))else none) (fun b=>?_) (.inl (.inr ⟨{cls:=.type "list",data:=.seq vs.toArray},if_pos rfl⟩)) (fun b u z=>?_) (fun b z=>?_) fun _=>hk
  ·by_cases hb:b=a
   ·exact .inr ⟨_,_,if_pos hb⟩
   ·exact .inl (if_neg hb)
  ·by_cases hb:b=a
   ·have z':=(if_pos hb).symm.trans z;cases z';subst hb;exact⟨ha,by rw[Ye];exact hl,vs,_,rv,ha⟩
   ·have z':=(if_neg hb).symm.trans z;cases z'
  ·by_cases hb:b=a
   ·exact hb
   ·exact absurd (if_neg hb) z
theorem xA{l:PySem.W.OpenLaw}{n k:Nat}{q:Program}{loose:List Str}{XP:(Str->Option Value)->Heap->Prop}{YP:World->Heap->Prop}{d:DefRec}{K:Params->PySem.W.Frag}{CX:World->CXT}{sp:World->Sp}{x:Str}
  (hn:l.most=some n) (hn2:n<=sizeLine) (hdf:d.params.defaults=[]) (hr:Room k callerA)
  (hY:∀(w:World) (h:Heap),YP w h->(K w.params).In h)
  (F:∀(w:World) (mg:Ks) (fa:Addr) (h:Heap),(K w.params).In h->h.Ns mainGlobals mg->mg d.name=some (.ref fa)->
   ∃fd:FuncData,(∀(s:Shared) (u:Value),BindsTo s fd ⟨[u],[]⟩ [(x,u)]) /\
    ∀base:Heap,(K w.params).In base->base.Ns mainGlobals mg->FnOk l.prog w (K w.params) mg base (CX w) k fa fd [x] (sp w))
  (hsp:∀(w:World) (H:Hp) (a:Addr) (ns:List Int),ns.length<=n->yW H->SqL (K w.params) H a (ns.map V.int)->sp w [.ref a] H (fun v _=>v=.bl true) fun _ _ _=>False)
  (hCX:∀(w:World) (H:Hp) (s:Shared) (e:Value) (s':Shared),CX w [] H s (fun _ _ _=>False) e s'->False) :
  PySem.W.WalkO q loose XP YP l.row.toRowW d [] (fun f vs=>PySem.call f vs):=by
 refine Att.attach_call hn hdf fun w s₀ s₁ mg mb fa o pm cd doc a vs ns G Y ho hd hcd hmg hobj hints hlen hg=>?_;have KX:=hY w _ Y;obtain⟨fd,hb,hF⟩:=F w mg fa _ KX G.T.g hmg;exact uz KX G.T.g G.T.b G.T.builtins G.T.nolimit hg hobj hints (YD hlen hn2) hr hF hb (fun H hO hS=>hsp w H a ns hlen hO hS) fun H e s'=>hCX w H s₁ e s'
theorem walk_ofK{l:PySem.W.OpenLaw}{n k:Nat}{q:Program}{loose:List Str}{XP:(Str->Option Value)->Heap->Prop}{YP:World->Heap->Prop}{d:DefRec}{K:Params->PySem.W.Frag}{CX:CXT}{sp:PySem.W.Frag->Sp}{x:Str}
  (hn:l.most=some n) (hn2:n<=sizeLine) (hdf:d.params.defaults=[]) (hr:Room k callerA)
  (hY:∀(w:World) (h:Heap),YP w h->(K w.params).In h)
  (F:∀(w:World) (mg:Ks) (fa:Addr) (h:Heap),(K w.params).In h->h.Ns mainGlobals mg->mg d.name=some (.ref fa)->
   ∃fd:FuncData,(∀(s:Shared) (u:Value),BindsTo s fd ⟨[u],[]⟩ [(x,u)]) /\
    ∀base:Heap,(K w.params).In base->base.Ns mainGlobals mg->FnOk l.prog w (K w.params) mg base CX k fa fd [x] (sp (K w.params)))
  (hsp:∀(K:Kq) (H:Hp) (a:Addr) (ns:List Int),ns.length<=n->yW H->SqL K H a (ns.map V.int)->sp K [.ref a] H (fun v _=>v=.bl true) fun _ _ _=>False)
  (hCX:∀(H:Hp) (s:Shared) (e:Value) (s':Shared),CX [] H s (fun _ _ _=>False) e s'->False) :
  PySem.W.WalkO q loose XP YP l.row.toRowW d [] (fun f vs=>PySem.call f vs):=
 xA (K:=K) (CX:=fun _=>CX) (sp:=fun w=>sp (K w.params)) hn hn2 hdf hr hY F (fun w H a ns h1 h2 h3=>hsp (K w.params) H a ns h1 h2 h3) fun _ H s e s'=>hCX H s e s'
def nt(s:Stmt)(j:Nat):Stmt:=match s with
 |.ClassDef _ _ _ body _ _ _ _ _ _ _=>body.getD j (.Pass ⟨0,0,0,0⟩)
 |_=>.Pass ⟨0,0,0,0⟩
def defArgs(s:Stmt):Arguments:=match s with
 |.FunctionDef _ a _ _ _ _ _ _ _ _=>a
 |_=>{posonlyargs:=[],args:=[],vararg:=none,kwonlyargs:=[],kw_defaults:=[],kwarg:=none,defaults:=[]}
def defBody(s:Stmt):List Stmt:=match s with
 |.FunctionDef _ _ b _ _ _ _ _ _ _=>b
 |_=>[]
def defScope(s:Stmt):Scope:=match s with
 |.FunctionDef _ _ _ _ _ _ sc _ _ _=>sc
 |_=>{kind:=.function,names:=[],isGenerator:=false,isCoroutine:=false}
abbrev CX0:CXT:=fun _ _ _ _ _ _=>False
abbrev E0:XK:=fun _ _ _=>False
theorem kX{X:Cx}:f8 CX0 X E0:=fun _ _ _ _ _ _ _ h=>h.elim
structure Fun (K:PySem.W.Frag) (x qual:Str) (st:Stmt) (f:Addr) (fd:FuncData):Prop where
 ex:∃(oc:Value) (od:Option Addr) (kV doc pm:Value) (an:Option Addr) (cdv ct:Value) (osl:Array (Option Value)),
  fd=PySem.W.fnOf x qual (defArgs st) (defBody st) (defScope st) .none kV doc pm an cdv ct/\K.lookup f=some ⟨oc,od,.func fd,osl⟩/\PySem.W.codeIn K cdv qual=true
 kp:PySem.W.keepIn K (.ref f)=true
section
variable{P:Program}{w:World}{K:Kq}{mg:Ks}{base:Heap}
theorem Fun.ok{x qual:Str}{st:Stmt}{f:Addr}{fd:FuncData}{N ps:List Str}{k:Nat}{sp:Sp}(F:Fun K x qual st f fd)(S:FnScope N ps (defScope st))(len:∀vs H Q E,sp vs H Q E->vs.length=ps.length)
  (hbody:∀(cdv:Value) (A:Around) (outer:List Env) (s:Shared) (H:Hp) (vs:List V) (Q:VK) (E:XK),Room k (A.deeper (envOfC qual (defScope st) s.heap.objs.size f cdv))->sp vs H Q E->
   ∃t,PSs (pi CX0 P w K mg base N qual (defScope st) f cdv A outer s H E).nox (defBody st) t/\t {nx:=fun _ H'=>Q .non H',rt:=Q} (start N vs) H):FnOk P w K mg base CX0 (k+1) f fd ps sp:=by
 obtain⟨oc,od,kV,doc,pm,an,cdv,ct,osl,rfl,lk,hcd⟩:=F.ex;refine C9 lk hcd S len fun A outer s H vs Q E hr hsp=>?_;obtain⟨t,h,q⟩:=hbody cdv A outer s H vs Q E hr hsp;exact⟨t,h.nox,q⟩
theorem Fun.binds{x qual:Str}{st:Stmt}{f:Addr}{fd:FuncData}{ps:List Str}(F:Fun K x qual st f fd)
  (h:∀(kV doc pm:Value) (an:Option Addr) (cdv ct:Value) (us:List Value),us.length=ps.length->bindArgs (PySem.W.fnOf x qual (defArgs st) (defBody st) (defScope st) .none kV doc pm an cdv ct) ⟨us,[]⟩=pure (ps.zip us)):Binds K fd ps []:=by
 obtain⟨oc,od,kV,doc,pm,an,cdv,ct,osl,rfl,lk,hcd⟩:=F.ex;exact .all (h kV doc pm an cdv ct)
theorem aX{x qual:Str}{st:Stmt}{f:Addr}{oc:Value}{od an:Option Addr}{osl:Array (Option Value)}{kV doc pm cdv ct:Value}(l:K.lookup f=some ⟨oc,od,.func (PySem.W.fnOf x qual (defArgs st) (defBody st) (defScope st) .none kV doc pm an cdv ct),osl⟩)
  (c:PySem.W.codeIn K cdv qual=true) (k:PySem.W.keepIn K (.ref f)=true):Fun K x qual st f (PySem.W.fnOf x qual (defArgs st) (defBody st) (defScope st) .none kV doc pm an cdv ct):=⟨⟨oc,od,kV,doc,pm,an,cdv,ct,osl,rfl,l,c⟩,k⟩
end
section
variable{X:Cx}
theorem pv(i:Nat){x:Str}{pos:Pos}(hN:X.N[i]?=some x:=by rfl)(hv:Vis X.env.scope x:=by first|exact Or.inl rfl|exact Or.inr (Or.inl rfl)|exact Or.inr (Or.inr rfl))(hd:(x == ("__debug__":Str))=false:=by decide)
  (hcd:(x == ("__classdict__":Str))=false:=by decide):PE X (.Name x pos) (dg i):=A_ hN hv hd hcd
end
def Same(H H':Hp):Prop:=∀b o,H b=some o->H' b=some o
theorem Same.refl(H:Hp):Same H H:=fun _ _ h=>h
theorem Same.trans{H H1 H2:Hp}(a:Same H H1)(b:Same H1 H2):Same H H2:=fun c o h=>b c o (a c o h)
theorem Same.free{H H':Hp}(e:Same H H'){l:Addr}(h:H' l=Option.none):H l=Option.none:=by
 cases q:H l with
 |none=>rfl
 |some o=>
  rw[e l o q]at h;cases h
theorem Same.seq{K:Kq}{H H':Hp}{a:Addr}{xs:List V}(e:Same H H')(h:SqL K H a xs):SqL K H' a xs:=by
 rcases h with (h|⟨o,h⟩)|h
 ·exact .inl (.inl (e _ _ h))
 ·exact .inl (.inr ⟨o,e _ _ h⟩)
 ·exact .inr h
end L2
set_option maxHeartbeats 4000000
namespace L2
open PySem PySem.Spec PyProof.Rows
def cv(cs:List (Str×Addr)):List (Str×NameKind)->List (Str×Addr)->List (Str×Addr)
 |[],acc=>acc
 |(n,k)::r,acc=>if k == .free then cv cs r ((n,(cs.lookup n).getD 0)::acc)else cv cs r acc
theorem j9{scope:Scope}{env:Env}(h:∀x∈scope.names,x.2=.free->∃c,env.cells.lookup x.1=some c):closureFor scope env=pure (cv env.cells scope.names []):=by
 have key:∀(names:List (Str×NameKind)) (acc:List (Str×Addr)) (f:Str×NameKind->List (Str×Addr)->Sem (ForInStep (List (Str×Addr)))),
   (∀n k r,f (n,k) r=if k == .free then(cellOf env n>>=fun c=>pure (.yield ((n,c)::r)))else pure (.yield r))->
   (∀x∈names,x.2=.free->∃c,env.cells.lookup x.1=some c)->forIn names acc f=pure (cv env.cells names acc):=by
  intro names;induction names with
  |nil=>intro acc f _ _;rfl
  |cons x r ih=>
   intro acc f hf hx;obtain⟨n,k⟩:=x;rw[List.forIn_cons,hf];unfold cv;by_cases hk:(k == NameKind.free)=true
   ·rw[if_pos hk,if_pos hk];obtain⟨c,hc⟩:=hx (n,k) Yd (by simpa using hk);have e:cellOf env n=pure c:=by unfold cellOf;rw[hc]
    rw[e,pure_bind,pure_bind,hc];exact ih _ f hf fun y hy=>hx y (Yc _ hy)
   ·rw[if_neg hk,if_neg hk,pure_bind];exact ih _ f hf fun y hy=>hx y (Yc _ hy)
 unfold closureFor;show(forIn scope.names ([]:List (Str×Addr)) _>>=fun cs=>pure cs)=_;rw[key scope.names [] _ (fun n k r=>by
  by_cases hk:(k == NameKind.free)=true
  ·simp only[hk,VR]
  ·simp only[hk]) h]
 rfl
theorem bx{α:Type}(y n:Str)(c:α)(l:List (Str×α)):((n,c)::l).lookup y=if y=n then some c else l.lookup y:=by
 rw[List.lookup_cons];by_cases h:y=n
 ·subst h;simp
 ·have:(y == n)=false:=by simpa using h
  rw[this,if_neg h]
theorem cA{cs:List (Str×Addr)}:∀(names:List (Str×NameKind)) (acc:List (Str×Addr)) (y:Str) (c:Addr),
  (∀x∈names,x.2=.free->∃c,cs.lookup x.1=some c)->(∀y c,acc.lookup y=some c->cs.lookup y=some c)->(cv cs names acc).lookup y=some c->cs.lookup y=some c
 |[],acc,y,c,_,h,e=>h y c e
 |(n,k)::r,acc,y,c,hx,h,e=>by
  unfold cv at e;have hr:∀x∈r,x.2=.free->∃c,cs.lookup x.1=some c:=fun x hm=>hx x (Yc _ hm)
  by_cases hk:(k == NameKind.free)=true
  ·rw[if_pos hk]at e;refine cA r _ y c hr (fun z d ez=>?_) e;obtain⟨c',hc'⟩:=hx (n,k) Yd (by simpa using hk);rw[bx]at ez;split at ez
   ·rename_i q;subst q;cases ez;rw[hc'];rfl
   ·exact h z d ez
  ·rw[if_neg hk]at e;exact cA r acc y c hr h e
theorem eU{cs:List (Str×Addr)}:∀(names:List (Str×NameKind)) (acc:List (Str×Addr)) (y:Str) (c:Addr),
  (cv cs names acc).lookup y=some c->(y,NameKind.free)∈names\/acc.lookup y=some c
 |[],acc,y,c,e=>.inr e
 |(n,k)::r,acc,y,c,e=>by
  unfold cv at e;by_cases hk:(k == NameKind.free)=true
  ·rw[if_pos hk]at e;have hk':k=.free:=by simpa using hk
   rcases eU r _ y c e with q|q
   ·exact .inl (Yc _ q)
   ·rw[bx]at q;split at q
    ·rename_i z;subst z;subst hk';exact .inl Yd
    ·exact .inr q
  ·rw[if_neg hk]at e;rcases eU r acc y c e with q|q
   ·exact .inl (Yc _ q)
   ·exact .inr q
theorem eQ{cs:List (Str×Addr)}:∀(names:List (Str×NameKind)) (acc:List (Str×Addr)) (y:Str),
  ((y,NameKind.free)∈names\/∃c,acc.lookup y=some c)->∃c,(cv cs names acc).lookup y=some c
 |[],acc,y,h=>h.elim (fun z=>by cases z) id
 |(n,k)::r,acc,y,h=>by
  unfold cv;by_cases hk:(k == NameKind.free)=true
  ·rw[if_pos hk];refine eQ r _ y ?_;rcases h with h|⟨c,h⟩
   ·rcases Yv.mp h with q|q
    ·cases q;exact .inr ⟨_,by rw[bx,if_pos rfl]⟩
    ·exact .inl q
   ·refine .inr ?_;by_cases q:y=n
    ·exact⟨_,by rw[bx,if_pos q]⟩
    ·exact⟨c,by rw[bx,if_neg q];exact h⟩
  ·rw[if_neg hk];refine eQ r acc y ?_;rcases h with h|h
   ·rcases Yv.mp h with q|q
    ·cases q;exact absurd rfl hk
    ·exact .inl q
   ·exact .inr h
theorem nG:∀(names:List (Str×NameKind)) (h:Heap) (acc:List (Str×Addr)) (y:Str) (c:Addr),(cellsFrom h.objs.size names acc).lookup y=some c->
  (h.objs.size<=c/\(pushCells h names).IsCell c none/\(y,NameKind.cell)∈names)\/acc.lookup y=some c
 |[],_,_,_,_,e=>.inr e
 |(n,k)::r,h,acc,y,c,e=>by
  unfold cellsFrom at e;unfold pushCells;by_cases hk:(k == NameKind.cell)=true
  ·rw[if_pos hk]at e ⊢;have hk':k=.cell:=by simpa using hk
   have hz:(h.push {cls:=.type "cell",data:=.cell none}).objs.size=h.objs.size+1:=Xd ..;rw[<-hz]at e;rcases nG r _ _ y c e with⟨q1,q2,q3⟩|q
   ·exact .inl ⟨by rw[hz]at q1;omega,q2,Yc _ q3⟩
   ·rw[bx]at q;split at q
    ·rename_i z;subst z;cases q;subst hk';exact .inl ⟨Yl _,⟨_,VE r _ _ _ (Yn _ rfl),rfl⟩,Yd⟩
    ·exact .inr q
  ·rw[if_neg hk]at e ⊢;rcases nG r h acc y c e with⟨q1,q2,q3⟩|q
   ·exact .inl ⟨q1,q2,Yc _ q3⟩
   ·exact .inr q
theorem qV{y:Str}:∀(names:List (Str×NameKind)) (n:Nat) (acc:List (Str×Addr)),(∀k,(y,k)∈names->k≠.cell)->(cellsFrom n names acc).lookup y=acc.lookup y
 |[],_,_,_=>rfl
 |(m,k)::r,n,acc,h=>by
  unfold cellsFrom;have hr:∀k,(y,k)∈r->k≠.cell:=fun k hk=>h k (Yc _ hk)
  by_cases hk:(k == NameKind.cell)=true
  ·rw[if_pos hk,qV r _ _ hr,bx,if_neg];rintro rfl;exact h k Yd (by simpa using hk)
  ·rw[if_neg hk];exact qV r n acc hr
theorem pX:∀(names:List (Str×NameKind)) (n:Nat) (acc:List (Str×Addr)),(∀y c,acc.lookup y=some c->c<n)->(∀y z c,acc.lookup y=some c->acc.lookup z=some c->y=z)->
  ∀y z c,(cellsFrom n names acc).lookup y=some c->(cellsFrom n names acc).lookup z=some c->y=z
 |[],_,_,_,h=>h
 |(m,k)::r,n,acc,hlt,h=>by
  unfold cellsFrom;by_cases hk:(k == NameKind.cell)=true
  ·rw[if_pos hk];refine pX r (n+1) _ (fun y c e=>?_) fun y z c e e'=>?_
   ·rw[bx]at e;split at e
    ·cases e;exact ZP _
    ·exact Zj (hlt y c e)
   ·rw[bx]at e e';split at e<;>split at e'
    ·rename_i a b;rw[a,b]
    ·cases e;exact absurd (hlt z _ e') (YX _)
    ·cases e';exact absurd (hlt y _ e) (YX _)
    ·exact h y z c e e'
  ·rw[if_neg hk];exact pX r n acc hlt h
def ff(env:Env)(scope:Scope)(C:Addr):Env:=
 {scope:=relabel scope env,locals:=C,globals:=env.globals,cells:=cellsFrom (C+1) scope.names (cv env.cells scope.names []),qual:=env.qual,func:=none,code:=env.code,frame:=env.frame,builtins:=env.builtins}
def blk(X:Cx)(scope:Scope)(N:List Str)(s:Shared)(H:Hp)(fp:List Addr)(pz:Kp):Cx where
 prog:=X.prog
 w:=X.w
 K:=X.K
 mg:=X.mg
 base:=X.base
 A:=X.A
 N:=N
 s₀:=s
 H₀:=H
 env:=ff X.env scope s.heap.objs.size
 outer:=X.stack
 stack:=X.stack
 ex:=fp
 fn:=fun x=>scope.names.lookup x == some .local||scope.names.lookup x == some .cell
 calm:=X.calm
 pn:=X.pn++pz
 xe:=fun _ _=>False
structure BlkScope (X:Cx) (scope:Scope):Prop where
 kind:scope.kind=.function
 nd:(scope.names.map (·.1)).Nodup
 free:∀x∈scope.names,x.2=.free->X.env.kindOf x.1=some .cell\/X.env.kindOf x.1=some .free
theorem dU{α:Type}:∀{l:List (Str×α)}{n:Str}{c:α},(l.map (·.1)).Nodup->(n,c)∈l->l.lookup n=some c
 |[],_,_,_,h=>by cases h
 |(k,v)::r,n,c,nd,h=>by
  rw[bx];rcases Yv.mp h with q|q
  ·cases q;rw[if_pos rfl]
  ·have nd':=Zh.mp nd;rw[if_neg]
   ·exact dU nd'.2 q
   ·rintro rfl;exact nd'.1 (Ym.mpr ⟨_,q,rfl⟩)
theorem eF{env:Env}{x:Str}:∀(names:List (Str×NameKind)),
  (names.map fun(n,k)=>if(k == NameKind.free&&env.scope.kind == .function&&env.kindOf n == some .cell)then(n,NameKind.cell)else(n,k)).lookup x =
   (names.lookup x).map fun k=>if(k == NameKind.free&&env.scope.kind == .function&&env.kindOf x == some .cell)then NameKind.cell else k
 |[]=>rfl
 |(n,k)::r=>by
  show List.lookup x ((if(k == NameKind.free&&env.scope.kind == .function&&env.kindOf n == some .cell)=true then(n,NameKind.cell)else(n,k))::_)=_;have e:(if(k == NameKind.free&&env.scope.kind == .function&&env.kindOf n == some .cell)=true then(n,NameKind.cell)else(n,k)) =
    (n,if(k == NameKind.free&&env.scope.kind == .function&&env.kindOf n == some .cell)=true then NameKind.cell else k):=by split<;>rfl
  rw[e,bx,bx];split
  ·rename_i q;subst q;rfl
  ·exact eF r
theorem jN{env:Env}{scope:Scope}{C:Addr}(x:Str):(ff env scope C).kindOf x =
  (scope.names.lookup x).map fun k=>if(k == NameKind.free&&env.scope.kind == .function&&env.kindOf x == some .cell)then NameKind.cell else k:=eF scope.names
section
variable{X:Cx}{pz:Kp}{σ:St}{H:Hp}{s:Shared}{scope:Scope}{N:List Str}{fp:List Addr}
theorem BlkScope.cl(b:BlkScope X scope)(ok:X.Ok):∀x∈scope.names,x.2=.free->∃c,X.env.cells.lookup x.1=some c:=fun x hx e=>ok.has x.1 (b.free x hx e)
theorem eD(b:BlkScope X scope)(I:Inv X pz σ H s){y:Str}{c:Addr}(e:(ff X.env scope s.heap.objs.size).cells.lookup y=some c) :
  (s.heap.objs.size<c/\(pushCells (s.heap.push {cls:=.type "dict",data:=.dict #[]}) scope.names).IsCell c none/\(y,NameKind.cell)∈scope.names)\/(X.env.cells.lookup y=some c/\(y,NameKind.free)∈scope.names):=by
 have hz:(s.heap.push {cls:=.type "dict",data:=.dict #[]}).objs.size=s.heap.objs.size+1:=Xd ..;have e':(cellsFrom (s.heap.push {cls:=.type "dict",data:=.dict #[]}).objs.size scope.names (cv X.env.cells scope.names [])).lookup y=some c:=by rw[hz];exact e
 rcases nG _ _ _ _ _ e' with⟨h1,h2,h3⟩|h
 ·exact .inl ⟨by rw[hz]at h1;omega,h2,h3⟩
 ·refine .inr ⟨cA _ _ y c (b.cl I.ok) (fun _ _ z=>by cases z) h,?_⟩;rcases eU _ _ _ _ h with q|q
  ·exact q
  ·cases q
theorem By(b:BlkScope X scope)(I:Inv X pz σ H s)(hf:∀a∈fp,fU X pz H a)(hlt:∀a∈fp,a<s.heap.objs.size):(blk X scope N s H fp pz).Ok:=by
 have clt:∀y c,X.env.cells.lookup y=some c->c<s.heap.objs.size:=fun y c e=>by obtain⟨v,q⟩:=I.cell y c e;exact q.lt
 refine⟨I.ok.mod,b.kind,I.ok.glob,I.ok.blt,Yl _,fun x y c e e'=>?_,fun x hx=>?_,fun x c hx e=>?_,I.ok.hd,I.ok.frames,.inl rfl,fun a ha=>⟨Yw (hlt a ha),fun x c e=>?_⟩,I.bs,YD I.ok.bsz I.sz,fun a o e ha=>?_,fun a ha=>?_,I.stack,I.stkFree⟩
 ·refine pX scope.names (s.heap.objs.size+1) _ (fun y c q=>?_) (fun y z c q q'=>?_) x y c e e'
  ·exact Zj (clt y c (cA _ _ y c (b.cl I.ok) (fun _ _ z=>by cases z) q))
  ·exact I.ok.inj y z c (cA _ _ y c (b.cl I.ok) (fun _ _ z=>by cases z) q) (cA _ _ z c (b.cl I.ok) (fun _ _ z=>by cases z) q')
 ·have hx':(ff X.env scope s.heap.objs.size).kindOf x=some .cell\/(ff X.env scope s.heap.objs.size).kindOf x=some .free:=hx;rw[jN]at hx';show ∃c,(cellsFrom (s.heap.objs.size+1) scope.names (cv X.env.cells scope.names [])).lookup x=some c;cases q:scope.names.lookup x with
  |none=>rw[q]at hx';rcases hx' with z|z<;>cases z
  |some k=>
   have hm:(x,k)∈scope.names:=Zu q;cases k with
   |cell=>exact ZO.mp (Xu scope.names _ _ (.inl q))
   |free=>
    obtain⟨c,hc⟩:=eQ (cs:=X.env.cells) scope.names [] x (.inl hm);exact ZO.mp (Xu scope.names _ _ (.inr (by rw[hc];rfl)))
   |_=>rw[q]at hx';exfalso;revert hx';simp
 ·rcases eD b I e with⟨h1,_,_⟩|⟨_,h2⟩
  ·exact ZG h1
  ·exfalso;have q:=dU b.nd h2;have hx':(scope.names.lookup x == some .local||scope.names.lookup x == some .cell)=true:=hx;rw[q]at hx';revert hx';decide
 ·rcases eD b I e with⟨h1,_,_⟩|⟨h1,_⟩
  ·intro z;subst z;exact absurd (Xa (hlt _ ha) h1) (YX _)
  ·exact(hf a ha).2.2.2.2.1 x c h1
 ·have h4:=(hf a ha).2.2.2.1;rcases h4 with z|z
  ·exact I.ok.noex a o e z
  ·exact absurd (Ys (Yp e) (YD I.ok.bsz z)) (YX _)
 ·intro z;rcases Yv.mp (I.stkSub a z)with q|q
  ·exact(hf a ha).2.1 q
  ·exact(hf a ha).2.2.1 q
def cW(own:Nat)(ix:List Nat)(σ:St):St:=List.replicate own none++ix.map fun j=>(σ[j]?).join
theorem fF(own:Nat)(ix:List Nat)(σ:St):(cW own ix σ).length=own+ix.length:=by unfold cW;rw[Yt,YG,Ye]
theorem la{own:Nat}{ix:List Nat}{σ:St}{i:Nat}{v:V}(h:(cW own ix σ)[i]?=some (some v)):own<=i/\∃j,ix[i-own]?=some j/\σ[j]?=some (some v):=by
 unfold cW at h;by_cases hi:i<own
 ·rw[Zq (by rw[YG];exact hi),Xm,if_pos hi]at h;cases h
 ·rw[Zp (by rw[YG];omega),YG,Yu]at h;refine⟨by omega,?_⟩;cases q:ix[i-own]? with
  |none=>rw[q]at h;cases h
  |some j=>
   rw[q]at h;refine⟨j,rfl,?_⟩;cases q2:σ[j]? with
   |none=>rw[ZM,q2]at h;cases h
   |some o=>
    rw[ZM,q2]at h;cases o with
    |none=>cases h
    |some v'=>rw[Option.join_some]at h;cases h;rfl
structure Caps (X:Cx) (scope:Scope) (N:List Str) (own:Nat) (ix:List Nat):Prop where
 len:N.length=own+ix.length
 cap:∀(i:Nat) (j:Nat) (x:Str),N[own+i]?=some x->ix[i]?=some j->X.N[j]?=some x/\scope.names.lookup x=some .free
theorem sO{own:Nat}{ix:List Nat}(b:BlkScope X scope)(cp:Caps X scope N own ix)(I:Inv X pz σ H s)(hf:∀a∈fp,fU X pz H a)(hlt:∀a∈fp,a<s.heap.objs.size) :
  Inv (blk X scope N s H fp pz) [] (cW own ix σ) H {s with heap:=pushCells (s.heap.push {cls:=.type "dict",data:=.dict #[]}) scope.names}:=by
 have kp:∀a o,s.heap.get? a=some o->(pushCells (s.heap.push {cls:=.type "dict",data:=.dict #[]}) scope.names).get? a=some o:=fun a o e=>VE _ _ a o (Yg _ e)
 refine⟨By b I hf hlt,rfl,I.bare,Un.kept kp,⟨_,(Heap.Ns.new s.heap (.type "dict")).keeps (VE _ _),fun i x v e1 e2 e3=>?_⟩,fun y c e=>?_,I.fresh,fun y c e=>?_,fun p hp=>?_,I.hok.kept kp,?_⟩
 ·obtain⟨ho,j,ej,ev⟩:=la e2;have e1':N[own+(i-own)]?=some x:=by rw[show own+(i-own)=i by omega];exact e1
  obtain⟨hN,hfree⟩:=cp.cap (i-own) j x e1' ej;obtain⟨m,hn,hl⟩:=I.loc;have hk:X.env.kindOf x=some .cell\/X.env.kindOf x=some .free:=b.free (x,.free) (Zu hfree) rfl;have hv:Vis X.env.scope x:=hk.elim (fun z=>.inr (.inl z)) fun z=>.inr (.inr z)
  obtain⟨u,r,lk⟩:=hl j x v hN ev hv;refine⟨u,r,.inr ⟨?_,?_⟩⟩
  ·show(ff X.env scope s.heap.objs.size).kindOf x=some .cell\/(ff X.env scope s.heap.objs.size).kindOf x=some .free;rw[jN,hfree];show some (if _ then NameKind.cell else NameKind.free)=some .cell\/some (if _ then NameKind.cell else NameKind.free)=some .free;split
   ·exact .inl rfl
   ·exact .inr rfl
  ·rcases lk with⟨k,_⟩|⟨_,c,ec,z⟩
   ·rw[k]at hk;rcases hk with z|z<;>cases z
   ·refine⟨c,?_,z.keeps kp⟩;show(cellsFrom (s.heap.objs.size+1) scope.names (cv X.env.cells scope.names [])).lookup x=some c;rw[qV]
    ·obtain⟨c',hc'⟩:=eQ (cs:=X.env.cells) scope.names [] x (.inl (Zu hfree));have:=cA _ _ x c' (b.cl I.ok) (fun _ _ z=>by cases z) hc';rw[ec]at this;cases this;exact hc'
    ·intro k hk' z;rw[dU b.nd hk']at hfree;cases hfree;cases z
 ·rcases eD b I e with⟨_,h2,_⟩|⟨h1,_⟩
  ·exact⟨_,h2⟩
  ·obtain⟨v,z⟩:=I.cell y c h1;exact⟨v,z.keeps kp⟩
 ·rcases eD b I e with⟨h1,_,_⟩|⟨h1,_⟩
  ·exact I.hok.fresh (ZG h1)
  ·exact I.freeC y c h1
 ·have hp':p∈X.pn++pz:=by
   have:p∈(X.pn++pz)++[]:=hp
   rwa [Za]at this
  obtain⟨e,n,ne,nf,d⟩:=I.pin p hp';refine⟨kp _ _ e,n,Yw (Yp e),fun z=>?_,d⟩;rcases Yv.mp (I.stkSub p.1 z)with q|q
  ·exact ne q
  ·exact nf q
 ·rw[fF];exact cp.len.symm
theorem o_{σ':St}{H':Hp}{s':Shared}{h':Heap}{pl:Kp}(I:Inv X pz σ H s)(hf:∀a∈fp,fU X pz H a)(J:Inv (blk X scope N s H fp pz) pl σ' H' s')(hs:Heap.SameBut s.heap.objs.size s'.heap h') :
  Inv X pz σ H' {s' with heap:=h' }:=by
 have hC:H' s.heap.objs.size=none:=J.free;have ne:∀a o,s.heap.get? a=some o->a≠s.heap.objs.size:=fun a o e=>Yw (Yp e)
 have u:Un (frs X.stack) fp H H' s.heap s'.heap:=J.base;refine I.call' (ch:=fp) (s':={s' with heap:=h' }) J.os ⟨fun a o e n h1 h2=>(hs.2 a (ne a o e)).trans (u.keep a o e n h1 h2),fun a o e n h1 h2=>?_,fun a o e n h2=>u.free a o e n h2,fun a o e h2=>?_,u.tups,u.frzs,u.tbls⟩ (fun a o e=>?_) J.bare fun a ha=>?_
 ·obtain⟨sl,q⟩:=u.slot a o e n h1 h2;exact⟨sl,(hs.2 a (ne a o e)).trans q⟩
 ·obtain⟨o',q⟩:=u.there a o e h2;exact⟨o',(hs.2 a (ne a o e)).trans q⟩
 ·refine(J.hok a o e).stay (fun c v hc q=>(hs.2 c ?_).trans q) (fun _ q=>q) fun _ _ q=>q;rintro rfl;rcases hc with rfl|hc
  ·rw[hC]at e;cases e
  ·rw[hC]at hc;cases hc
 ·obtain⟨_,h2,_,h4,h5,h6⟩:=hf a ha;exact⟨h4,h2,h5,h6⟩
theorem vx{pl:Kp}{H':Hp}(b:BlkScope X scope)(I:Inv X pz σ H s)(hf:∀a∈fp,fU X pz H a)(hlt:∀a∈fp,a<s.heap.objs.size)(hn:∀a∈fp,H' a=none) :
  ∀a∈fp,fU (blk X scope N s H fp pz) [] H' a:=fun a ha=>by
 obtain⟨_,h2,h3,h4,h5,h6⟩:=hf a ha;refine⟨hn a ha,Yw (hlt a ha),fun z=>?_,.inl ha,fun x c e=>?_,fun p hp=>?_⟩
 ·rcases Yv.mp (I.stkSub a z)with q|q
  ·exact h2 q
  ·exact h3 q
 ·rcases eD b I e with⟨q,_,_⟩|⟨q,_⟩
  ·intro z;subst z;exact absurd (Xa (hlt _ ha) q) (YX _)
  ·exact h5 x c q
 ·have hp':p∈X.pn++pz:=by
   have:p∈(X.pn++pz)++[]:=hp
   rwa [Za]at this
  exact h6 p hp'
end
theorem qm{M:Model}{A:Around}{E:Kv}{s:Shared}{scope:Scope}{env:Env}{Q:Env->Shared->Prop}(cl:List (Str×Addr))
  (h:∀cenv:Env,cenv={scope:=scope,locals:=s.heap.objs.size,globals:=env.globals,cells:=cellsFrom (s.heap.objs.size+1) scope.names cl,qual:=env.qual,func:=none,code:=env.code,frame:=env.frame,builtins:=env.builtins}->
   Q cenv {s with heap:=pushCells (s.heap.push {cls:=.type "dict",data:=.dict #[]}) scope.names}) :
  wpAny M A (newFunctionEnv scope env.globals cl [] env.qual none .none (some env)) Q E s:=by
 simp only[newFunctionEnv,Option.isSome_some,VR];refine Yb (wpAny_alloc ?_);refine Yb (wpAny_layCells _ (fun name kind cells=>by cases hkc:kind == NameKind.cell<;>simp[hkc]) _ _ _ _ ?_);rw[show({s with heap:=s.heap.push {cls:=.type "dict",data:=.dict #[]} }:Shared).heap.objs.size=s.heap.objs.size+1 from Xd ..];refine Yb ?_;rw[List.forIn_nil];exact Yf (Yf (h _ rfl))
theorem tH{prog:Program}{w:World}{A:Around}{R:Kr}{s:Shared}{elt target iter:Expr}{ifs:List Expr}{scope:Scope}{pos:Pos}{it acc:Value}{env:Env}(I:Nat->Shared->Prop)
  (turn:∀n s,I n s->wpAny (model prog w) A (pyNext it) (fun r s₁=>match r with
   |none=>R (.ok .next) s₁
   |some v=>wpAny (model prog w) A (letOwnedTupleGo target it v) (fun _ s₁=>wpAny (model prog w) A (assign target env v) (fun _ s₂=>
     wpAny (model prog w) A (forIn ifs true fun c r=>if r=true then do let ok <-isTrue c env (eval c env);pure (ForInStep.yield ok)else pure (ForInStep.yield r)) (fun ok s₃=>
      if ok=true then wpAny (model prog w) A (eval elt env) (fun x s₄=>
       wpAny (model prog w) A (call (.builtin "list.append") [acc,x]) (fun _ s₅=>∃m,m<n/\I m s₅) (fun _ _=>False) s₄) (fun _ _=>False) s₃
      else ∃m,m<n/\I m s₃) (fun _ _=>False) s₂) (fun _ _=>False) s₁) (fun _ _=>False) s₁) (fun _ _=>False) s)
  (n:Nat) (h:I n s) :
  codeAny (model prog w) A (.compLoop (.ListComp elt [⟨target,iter,ifs,0⟩] scope pos) 0 it acc env) R s:=by
 refine codeAny_loop rfl I (fun n s hI=>?_) n h;show wpAny _ A ((compTurn (.ListComp elt [⟨target,iter,ifs,0⟩] scope pos) 0 it acc env).onRaise (fun x=>do noteFrame x env;theTreesLotGoes x)) _ _ s;refine wpAny_noted ?_;rw[compTurn_list];refine Yb (wpAny_standAt (Yb (Xg (turn n s hI) (fun r s₁ h₁=>?_) fun _ _ h'=>h'.elim)));cases r with
 |none=>exact Yf h₁
 |some v=>
  refine Yb (Xg h₁ (fun _ s₁' h₁'=>?_) fun _ _ h'=>h'.elim);refine Yb (Xg h₁' (fun _ s₂ h₂=>Yb (Xg h₂ (fun ok s₃ h₃=>?_) fun _ _ h'=>h'.elim)) fun _ _ h'=>h'.elim);cases ok with
  |true=>
   rw[if_pos rfl]at h₃;simp only[VR];exact Yb (Yb (Xg h₃ (fun x s₄ h₄=>Yb (Xg h₄ (fun _ s₅ h₅=>Yf (Yf ⟨rfl,h₅⟩)) fun _ _ h'=>h'.elim)) fun _ _ h'=>h'.elim))
  |false=>
   rw[if_neg Yj]at h₃;simp only[Zz,Vi];exact Yf ⟨rfl,h₃⟩
def DN:TT:=fun _ H Q=>Q true H
def nF(X:Cx)(ifs:List Expr)(t:TT):Prop:=
 ∀(pz:Kp) (s:Shared) (σ:St) (H:Hp) (Q:Bool->Hp->Prop),Inv X pz σ H s->t σ H Q->
  wpAny (model X.prog X.w) X.A (forIn ifs true fun c r=>if r=true then do let ok <-isTrue c X.env (eval c X.env);pure (ForInStep.yield ok)else pure (ForInStep.yield r)) (TP X pz σ Q) X.xe s
theorem v5{X:Cx}:nF X [] DN:=fun _ _ _ H _ I h=>Yf ⟨H,I,h⟩
theorem wf{X:Cx}{c:Expr}{t:TT}(h:PT X c t):nF X [c] t:=fun pz s σ H Q I q=>wpAny_tests_one (h pz s σ H Q I q)
def u6(own:Nat)(ix:List Nat)(wi:TI)(g:TG)(tc:TT)(te:TE):TE:=fun σ H Q=>wi σ H fun J H1=>∀acc,H1 acc=none->∃W:Nat->Nat->List V->Hp->Prop,
 (∃m,W 0 m [] (upd H1 acc (.lst [])))/\∀i m ys H,W i m ys H->
  (J.stop i H/\Q (.ref acc) H)\/(J.go i H/\∃N:List V->Hp->Prop,(∀ys' H',N ys' H'->∃m',m' < m/\W (i+1) m' ys' H')/\∀x H',J.yld i H x H'->g x (cW own ix σ) H' fun σ2 H2=>
   (σ2.length=own+ix.length/\∀(j:Nat) v,(cW own ix σ)[j]?=some (some v)->σ2[j]?=some (some v)) /\
   tc σ2 H2 fun ok H3=>if ok=true then te σ2 H3 fun y H4=>H4 acc=some (.lst ys)/\ys.length<sizeLine/\N (ys++[y]) (upd H4 acc (.lst (ys++[y])))else N ys H3)
section
variable{X:Cx}{elt tg iter:Expr}{ifs:List Expr}{scope:Scope}{pos:Pos}{N:List Str}{own:Nat}{ix:List Nat}{wi:TI}{g:TG}{tc:TT}{te:TE}
theorem j8{pz:Kp}{σ:St}{s:Shared}{Q:VK}{itv:Value}{RR:Value->Addr->Result->Shared->Prop}{E:Kv}(hcalm:X.calm=true)(b:BlkScope X scope)(cp:Caps X scope N own ix)
  (hg:∀s H fp pz,PG (blk X scope N s H fp pz) tg g) (hc:∀s H fp pz,nF (blk X scope N s H fp pz) ifs tc) (he:∀s H fp pz,PE (blk X scope N s H fp pz) elt te)
  (hp:PIE X pz σ tg (fun J H1=>∀acc,H1 acc=none->∃W:Nat->Nat->List V->Hp->Prop,
   (∃m,W 0 m [] (upd H1 acc (.lst [])))/\∀i m ys H,W i m ys H->
    (J.stop i H/\Q (.ref acc) H)\/(J.go i H/\∃N:List V->Hp->Prop,(∀ys' H',N ys' H'->∃m',m' < m/\W (i+1) m' ys' H')/\∀x H',J.yld i H x H'->g x (cW own ix σ) H' fun σ2 H2=>
     (σ2.length=own+ix.length/\∀(j:Nat) v,(cW own ix σ)[j]?=some (some v)->σ2[j]?=some (some v)) /\
     tc σ2 H2 fun ok H3=>if ok=true then te σ2 H3 fun y H4=>H4 acc=some (.lst ys)/\ys.length<sizeLine/\N (ys++[y]) (upd H4 acc (.lst (ys++[y])))else N ys H3)) itv s)
  (hR:∀(s3:Shared) (H3:Hp) (fp:List Addr) (acc:Addr) (σ':St) (H':Hp) (s':Shared),Inv X pz σ H3 s3->(∀a∈fp,fU X pz H3 a)->Inv (blk X scope N s3 H3 fp pz) [] σ' H' s'->Q (.ref acc) H'->RR (.ref acc) s3.heap.objs.size (.ok .next) s') :
  wpAny (model X.prog X.w) X.A (newList []) (fun acc s₃=>wpAny (model X.prog X.w) X.A (newFunctionEnv scope X.env.globals (cv X.env.cells scope.names []) [] X.env.qual none .none (some X.env)) (fun cenv s₄=>
   codeAny (model X.prog X.w) X.A (.compStart (.ListComp elt [⟨tg,iter,ifs,0⟩] scope pos) 0 itv acc {cenv with scope:=relabel scope X.env}) (RR acc cenv.locals) s₄) E s₃) E s:=by
 obtain⟨it,fp,tn,J,H1,rfl,I1,T,st1,f1,hacc⟩:=hp;refine ZV ?_
 -- the list
 have I3:Inv X pz σ (upd H1 s.heap.objs.size (.lst [])) {s with heap:=s.heap.push {cls:=.type "list",dict:=none,data:=.seq ([]:List Value).toArray} }:=I1.lnew (ys:=[]) (its:=[]) .nil (YF _);generalize hs3:({s with heap:=s.heap.push {cls:=.type "list",dict:=none,data:=.seq ([]:List Value).toArray} }:Shared)=s3 at I3 ⊢;have kp3:∀a o,s.heap.get? a=some o->s3.heap.get? a=some o:=fun a o e=>by rw[<-hs3];exact Yg _ e
 have st3:tn 0 s3.heap:=T.keep _ _ _ st1 fun a _ o e=>kp3 a o e
 have lt1:∀a∈fp,a<s.heap.objs.size:=fun a ha=>by obtain⟨o,e,_⟩:=T.obj _ _ st1 a ha;exact Yp e
 have f3:∀a∈fp,fU X pz (upd H1 s.heap.objs.size (.lst [])) a:=fun a ha=>⟨by rw[au (Yw (lt1 a ha))];exact(f1 a ha).1,(f1 a ha).2⟩
 have lt3:∀a∈fp,a<s3.heap.objs.size:=fun a ha=>by obtain⟨o,e,_⟩:=T.obj _ _ st3 a ha;exact Yp e
 obtain⟨W,⟨m0,w0⟩,turn⟩:=hacc s.heap.objs.size I1.fresh;generalize hH3:upd H1 s.heap.objs.size (.lst [])=H3 at I3 f3 w0;generalize hacc':s.heap.objs.size=acc at w0 turn ⊢;refine qm _ fun cenv hc'=>?_;subst hc';have J0:=sO (N:=N) (fp:=fp) b cp I3 f3 lt3;have st4:tn 0 (pushCells (s3.heap.push {cls:=.type "dict",data:=.dict #[]}) scope.names):=T.keep _ _ _ st3 fun a _ o e=>VE _ _ a o (Yg _ e)
 generalize hs4:({s3 with heap:=pushCells (s3.heap.push {cls:=.type "dict",data:=.dict #[]}) scope.names}:Shared)=s4 at J0 ⊢;have st4':tn 0 s4.heap:=by rw[<-hs4];exact st4
 -- the loop
 have loop:codeAny (model X.prog X.w) X.A (.compLoop (.ListComp elt [⟨tg,iter,ifs,0⟩] scope pos) 0 (.ref it) (.ref acc) (ff X.env scope s3.heap.objs.size)) (RR (.ref acc) s3.heap.objs.size) s4:=by
  refine tH (fun n s'=>∃i ys H',Inv (blk X scope N s3 H3 fp pz) [] (cW own ix σ) H' s'/\tn i s'.heap/\(∀a∈fp,H' a=none)/\W i n ys H') ?_ m0 ⟨0,[],H3,J0,st4',fun a ha=>(f3 a ha).1,w0⟩;rintro n s5 ⟨i,ys,H5,J5,st5,fr5,w5⟩;have fp5:=vx (pl:=[]) (N:=N) b I3 f3 lt3 fr5;rcases turn i n ys H5 w5 with⟨stop,q⟩|⟨go,NN,hN,step⟩
  ·refine thn (T.done (blk X scope N s3 H3 fp pz) rfl rfl rfl hcalm i [] s5 _ H5 _ J5 fp5 st5 stop) fun r s6 ⟨hr,J6⟩=>?_;subst hr;exact hR s3 H3 fp acc _ H5 s6 I3 f3 J6 q
  ·refine thn (T.item (blk X scope N s3 H3 fp pz) rfl rfl rfl hcalm i [] s5 _ H5 _ J5 fp5 st5 go) fun r s6 ⟨u,hr,h6⟩=>?_;subst hr;refine thn h6 fun _ s7 hh_=>?_;obtain⟨x,H7,J7,r7,y7,st7,fr7⟩:=hh_;have fp7:=vx (pl:=[]) (N:=N) b I3 f3 lt3 fr7;have J7':=J7.pinned fp7 (T.obj _ _ st7);have back:∀{σ8:St}{H8:Hp}{s8:Shared}{zs:List V},Inv (blk X scope N s3 H3 fp pz) ([]++ku fp s7.heap) σ8 H8 s8->(σ8.length=own+ix.length/\∀(j:Nat) v,(cW own ix σ)[j]?=some (some v)->σ8[j]?=some (some v))->NN zs H8->
     ∃m,m<n/\∃i ys H',Inv (blk X scope N s3 H3 fp pz) [] (cW own ix σ) H' s8/\tn i s8.heap/\(∀a∈fp,H' a=none)/\W i m ys H':=fun{σ8 H8 s8 zs} J8 hw n8=>by
    obtain⟨m',hm,w8⟩:=hN zs H8 n8;refine⟨m',hm,i+1,zs,H8,(J8.unpinned).weak (by rw[fF,hw.1]) hw.2,T.keep _ _ _ st7 fun a ha o e=>(J8.pin (a,o) (YS _ (YS _ (eN ha e)))).1,fun a ha=>?_,w8⟩;obtain⟨o,e,d⟩:=T.obj _ _ st7 a ha;exact(J8.pin (a,o) (YS _ (YS _ (eN ha e)))).2.1
   refine thn (hg s3 H3 fp pz _ s7 _ H7 x u _ J7' r7 (step x H7 y7)) fun _ s8 hh_=>?_;obtain⟨σ8,H8,J8,hw,q8⟩:=hh_;refine thn (hc s3 H3 fp pz _ s8 σ8 H8 _ J8 q8) fun ok s9 hh_=>?_;obtain⟨H9,J9,q9⟩:=hh_;cases ok with
   |false=>
    rw[if_neg Yj]at q9 ⊢;exact back J9 hw q9
   |true=>
    rw[if_pos rfl]at q9 ⊢;refine thn (he s3 H3 fp pz _ s9 σ8 H9 _ J9 q9) fun y s10 hh_=>?_;obtain⟨z,H10,J10,rz,e10,hlt,n10⟩:=hh_;refine thn (dY (X:=blk X scope N s3 H3 fp pz) _ s10 σ8 H10 (.ref acc) [z] (.ref acc) [y] (fun v H'=>v=.non/\H'=upd H10 acc (.lst (ys++[z]))) J10 rfl (.cons rz .nil) ⟨acc,ys,z,rfl,rfl,e10,hlt,rfl,rfl⟩) fun _ s11 hh_=>?_;obtain⟨_,H11,J11,_,_,e11⟩:=hh_;subst e11;exact back J11 hw n10
 subst hs4;exact codeAny_compStart_list loop (T.self _ _ _ _ _ st4' loop)
theorem yi(hcalm:X.calm=true)(b:BlkScope X scope)(cp:Caps X scope N own ix)(hi:PI X tg iter wi)
  (hg:∀s H fp pz,PG (blk X scope N s H fp pz) tg g) (hc:∀s H fp pz,nF (blk X scope N s H fp pz) ifs tc) (he:∀s H fp pz,PE (blk X scope N s H fp pz) elt te)
  (hnames:∀y∈scope.names,y.2=.local->scope.names.lookup y.1=some .local:=by decide)
  (hs:∀x,foldedSetIterable iter X.env x=pure x:=by intro _;rfl):PE X (.ListComp elt [⟨tg,iter,ifs,0⟩] scope pos) (u6 own ix wi g tc te):=by
 intro pz s σ H Q I h;rw[eval_ListComp];refine wpAny_comprehension_free (use:=none) rfl hs (j9 (b.cl I.ok)) b.kind hnames (thn (hi pz s σ H _ I h) fun v s1 h1=>thn h1 fun itv s2 h2=>?_);refine j8 (RR:=fun acc C=>compPost (model X.prog X.w) X.A X.xe none (EP X pz σ Q) acc C) hcalm b cp hg hc he h2 ?_;intro s3 H3 fp acc σ' H' s' I3 f3 J q;obtain⟨m,hn,_⟩:=id J.loc;exact⟨m,hn,fun h' hs'=>⟨.ref acc,H',o_ I3 f3 J hs',rfl,q⟩⟩
theorem p_{i:Nat}{y:Str}{py spos:Pos}(hcalm:X.calm=true)(hN:X.N.Nodup)(hiN:X.N[i]?=some y)(hx:Loc X.env.scope y)(b:BlkScope X scope)(cp:Caps X scope N own ix)(hi:PI X tg iter wi)
  (hg:∀s H fp pz,PG (blk X scope N s H fp pz) tg g) (hc:∀s H fp pz,nF (blk X scope N s H fp pz) ifs tc) (he:∀s H fp pz,PE (blk X scope N s H fp pz) elt te)
  (hsw:swapsWith (.ListComp elt [⟨tg,iter,ifs,0⟩] scope pos) (some (.Name y py)) spos.line X.env=pure true:=by rfl)
  (hnames:∀y∈scope.names,y.2=.local->scope.names.lookup y.1=some .local:=by decide)
  (hs:∀x,foldedSetIterable iter X.env x=pure x:=by intro _;rfl)
  (hf:X.fn y=true\/X.env.scope.names.lookup y=some .local:=by first|exact .inl rfl|exact .inr rfl|assumption) :
  PS X (.Assign [.Name y py] (.ListComp elt [⟨tg,iter,ifs,0⟩] scope pos) spos) (u8 (u6 own ix wi g tc te) (io i)):=by
 intro pz s σ H D I h;rw[exec_Assign_Name_used _ _ _ _ hsw];refine Yb (wpAny_standAt (Yb ?_));show wpAny _ X.A (do let _ <-comprehension (.ListComp elt [⟨tg,iter,ifs,0⟩] scope pos) scope X.env _ (newList []) false (eval iter X.env) (some (assign (.Name y py) X.env))) _ _ s;refine Yb (Xg (wpAny_comprehension_free (use:=some (assign (.Name y py) X.env)) (Q:=fun _ s'=>SP X pz D .next s') rfl hs (j9 (b.cl I.ok)) b.kind hnames
  (thn (hi pz s σ H _ I h) fun v s1 h1=>thn h1 fun itv s2 h2=>?_)) (fun _ s' hq=>Yf (Yf hq)) fun _ _ e=>e)
 refine j8 (Q:=fun x H1=>io i x σ H1 D.nx) (RR:=fun acc C=>compPost (model X.prog X.w) X.A X.xe (some (assign (.Name y py) X.env)) (fun _ s'=>SP X pz D .next s') acc C) hcalm b cp hg hc he h2 ?_;intro s3 H3 fp acc σ' H' s' I3 f3 J q;obtain⟨m,hn,_⟩:=id J.loc;have hn:s'.heap.Ns s3.heap.objs.size m:=hn;have I':Inv X pz σ H' s':=o_ I3 f3 J (Heap.SameBut.refl ..);show wpAny _ X.A (assign (.Name y py) X.env (.ref acc)) _ _ s';refine wpAny_assign_Name (lh (v:=.ref acc) I' hN hiN hx rfl (fun s'' I'' hh_=>?_) hf);obtain⟨a,hsb,ha⟩:=hh_;have hne:s3.heap.objs.size≠a:=by
  rcases ha with ha|ha
  ·rw[ha];exact ZH I3.lt
  ·obtain⟨v,z⟩:=I3.cell y a ha;exact ZH z.lt
 refine⟨m,hn.sameBut hsb hne,fun h' hs'=>?_⟩;refine⟨σ.set i (some (.ref acc)),H',?_,q⟩;exact I''.turned (h':=h') (t':=s''.toks) (it:=s3.heap.objs.size) (fun c o hc e=>(hs'.2 c hc).trans e) J.free (ZH I3.lt) (.inr I3.sz) (fun x c e=>by obtain⟨v,z⟩:=I3.cell x c e;exact Yw z.lt) fun p hp=>Yw (Yp (I3.pin p hp).1)
end
section
variable{κ:Type} [DecidableEq κ]
def eZ(kvs:List (κ×V))(k:κ):Option V:=(kvs.find? fun kv=>decide (kv.1=k)).map (·.2)
def g9(kvs:List (κ×V))(k:κ)(v:V):List (κ×V):=
 if(kvs.any fun kv=>decide (kv.1=k))=true then kvs.map (fun kv=>if kv.1=k then(kv.1,v)else kv)else kvs++[(k,v)]
theorem jy{p:κ×V}{r:List (κ×V)}{k:κ}(e:p.1=k):eZ (p::r) k=some p.2:=by simp[eZ,ZZ,e]
theorem kx{p:κ×V}{r:List (κ×V)}{k:κ}(e:¬p.1=k):eZ (p::r) k=eZ r k:=by simp[eZ,ZZ,e]
theorem nX(k:κ):∀kvs:List (κ×V),(kvs.any fun kv=>decide (kv.1=k))=(eZ kvs k).isSome
 |[]=>rfl
 |p::r=>by
  rw[XQ];by_cases e:p.1=k
  ·simp only[jy e,YT e,Bool.true_or,Option.isSome_some]
  ·rw[kx e,YB e,Bool.false_or];exact nX k r
theorem iO(kvs:List (κ×V))(k:κ)(v:V):(g9 kvs k v).length<=kvs.length+1:=by
 unfold g9;split
 ·rw[Ye];omega
 ·rw[Yt,Yy,Zm];omega
theorem RelO.isSome_eq{o:Option V}{u:Option Value}(r:RelO o u):o.isSome=u.isSome:=by
 cases o with
 |none=>cases u with
  |none=>rfl
  |some _=>exact(show False from r).elim
 |some _=>cases u with
  |none=>exact(show False from r).elim
  |some _=>rfl
theorem RelO.getD{o:Option V}{u:Option Value}{d:V}{d':Value}(r:RelO o u)(rd:RelV d d'):RelV (o.getD d) (u.getD d'):=by
 cases o with
 |none=>cases u with
  |none=>exact rd
  |some _=>exact(show False from r).elim
 |some _=>cases u with
  |none=>exact(show False from r).elim
  |some _=>exact r
theorem KV.val{kvs:List (κ×V)}{vs:List (κ×Value)}(r:KV kvs vs)(k:κ):RelO (eZ kvs k) (valueAt vs k):=by
 unfold KV at r;induction r with
 |nil=>exact True.intro
 |@cons p q ps qs h t ih=>
  obtain⟨h1,h2⟩:=h;by_cases e:p.1=k
  ·have e':q.1=k:=h1.symm.trans e;have b:valueAt (q::qs) k=some q.2:=by simp[valueAt,ZZ,e']
   rw[jy e,b];exact h2
  ·have e':¬q.1=k:=fun z=>e (h1.trans z)
   have b:valueAt (q::qs) k=valueAt qs k:=by simp[valueAt,ZZ,e']
   rw[kx e,b];exact ih
theorem KV.any{kvs:List (κ×V)}{vs:List (κ×Value)}(r:KV kvs vs)(k:κ):(kvs.any fun kv=>decide (kv.1=k))=vs.any fun kv=>decide (kv.1=k):=by
 unfold KV at r;induction r with
 |nil=>rfl
 |cons h t ih=>rw[XQ,XQ,ih,h.1]
theorem KV.repl{kvs:List (κ×V)}{vs:List (κ×Value)}(r:KV kvs vs)(k:κ){y:V}{u:Value}(ry:RelV y u) :
  KV (kvs.map fun kv=>if kv.1=k then(kv.1,y)else kv) (vs.map fun kv=>if kv.1=k then(kv.1,u)else kv):=by
 unfold KV at r ⊢;induction r with
 |nil=>exact .nil
 |@cons p q ps qs h t ih=>
  rw[YH,YH];refine .cons ?_ ih;obtain⟨h1,h2⟩:=h;by_cases e:p.1=k
  ·rw[if_pos e,if_pos (h1.symm.trans e)];exact⟨h1,ry⟩
  ·rw[if_neg e,if_neg (fun z=>e (h1.trans z))];exact⟨h1,h2⟩
theorem KV.put{kvs:List (κ×V)}{vs:List (κ×Value)}(r:KV kvs vs)(k:κ){y:V}{u:Value}(ry:RelV y u):KV (g9 kvs k y) (stored vs k u):=by
 unfold g9 stored;rw[r.any k];by_cases e:(vs.any fun kv=>decide (kv.1=k))=true
 ·rw[if_pos e,if_pos e];exact r.repl k ry
 ·rw[if_neg e,if_neg e];exact Paired.snoc r ⟨rfl,ry⟩
theorem KV.length{kvs:List (κ×V)}{vs:List (κ×Value)}(r:KV kvs vs):kvs.length=vs.length:=Paired.length r
end
theorem xf{P:Program}{w:World}{k:Key}{u:Value}(r:RelV (kV k) u):(bX P w).is k u=true:=by
 cases k with
 |inl i=>obtain⟨t,e⟩:=(show ∃t,u=Value.int i t from r);subst e;exact pe P w i t
 |inr x=>obtain⟨t,e⟩:=(show ∃t,u=Value.str x t from r);subst e;exact oX P w x t
theorem lb{P:Program}{w:World}:∀{ks:List Key}{us:List Value},Vals (ks.map kV) us->ItemsAre (bX P w) ks us
 |[],_,r=>by rw[List.map_nil]at r;cases r;exact .nil
 |k::ks,_,r=>by
  rw[YH]at r;cases r with
  |cons h t=>exact .cons (xf h) (lb t)
abbrev KT(H:Hp):List (List Key×V)->List (List Key×Addr×Value)->Prop:=Paired fun p q=>p.1=q.1/\H q.2.1=some (.tup (p.1.map kV))/\RelV p.2 q.2.2
theorem KT.val{H:Hp}{kvs:List (List Key×V)}{xs:List (List Key×Addr×Value)}(r:KT H kvs xs)(k:List Key):RelO (eZ kvs k) ((atKey xs k).map (·.2)):=by
 induction r with
 |nil=>exact True.intro
 |@cons p q ps qs h t ih=>
  obtain⟨h1,_,h2⟩:=h;by_cases e:p.1=k
  ·have e':q.1=k:=h1.symm.trans e;have b:atKey (q::qs) k=some q.2:=by simp[atKey,ZZ,e']
   rw[jy e,b];exact h2
  ·have e':¬q.1=k:=fun z=>e (h1.trans z)
   have b:atKey (q::qs) k=atKey qs k:=by simp[atKey,ZZ,e']
   rw[kx e,b];exact ih
theorem KT.repl{H:Hp}{kvs:List (List Key×V)}{xs:List (List Key×Addr×Value)}(r:KT H kvs xs)(k:List Key){y:V}{u:Value}(ry:RelV y u) :
  KT H (kvs.map fun kv=>if kv.1=k then(kv.1,y)else kv) (xs.map (putAt k u)):=by
 induction r with
 |nil=>exact .nil
 |@cons p q ps qs h t ih=>
  rw[YH,YH];refine .cons ?_ ih;obtain⟨h1,h2,h3⟩:=h;unfold putAt;by_cases e:p.1=k
  ·rw[if_pos e,if_pos (h1.symm.trans e)];exact⟨h1,h2,ry⟩
  ·rw[if_neg e,if_neg (fun z=>e (h1.trans z))];exact⟨h1,h2,h3⟩
theorem KT.put{H:Hp}{kvs:List (List Key×V)}{xs:List (List Key×Addr×Value)}(r:KT H kvs xs)(k:List Key){b:Addr}{y:V}{u:Value}(hb:H b=some (.tup (k.map kV)))(ry:RelV y u) :
  KT H (g9 kvs k y) (storedH xs k b u):=by
 have e:(kvs.any fun kv=>decide (kv.1=k))=(atKey xs k).isSome:=by rw[nX,(r.val k).isSome_eq,Option.isSome_map]
 unfold g9 storedH;rw[e];by_cases q:(atKey xs k).isSome=true
 ·rw[if_pos q,if_pos q];exact r.repl k ry
 ·rw[if_neg q,if_neg q];exact Paired.snoc r ⟨rfl,hb,ry⟩
theorem KT.keeps{H H':Hp}{kvs:List (List Key×V)}{xs:List (List Key×Addr×Value)}(r:KT H kvs xs)(ht:∀b ys,H b=some (.tup ys)->H' b=some (.tup ys)):KT H' kvs xs:=
 Paired.mapP r fun _ _ z=>⟨z.1,ht _ _ z.2.1,z.2.2⟩
section
variable{P:Program}{w:World}{H:Hp}{h:Heap}{a:Addr}
theorem zc{u:HO}(ok:HOk P w H h)(e:Rd H a u):ObjOk P w H h a u:=e.ok ok
theorem wb{kvs:List (Key×V)}(ok:HOk P w H h)(e:Rd H a (.dK kvs)):kvs.length<=sizeLine/\(a == sysModules)=false/\∃vs,KV kvs vs/\h.DictOf (bX P w) a vs:=
 show ObjOk P w H h a (.dK kvs)from zc ok e
theorem C2{kvs:List (Key×V)}(ok:HOk P w H h)(e:H a=some (.dK kvs)):kvs.length<=sizeLine/\(a == sysModules)=false/\∃vs,KV kvs vs/\h.DictOf (bX P w) a vs:=wb ok (.inl e)
theorem pY{ks:List Key}(ok:HOk P w H h)(e:H a=some (.tup (ks.map kV))):(tupleKind (bX P w)).is h ks a:=by
 obtain⟨_,its,r,⟨o,h1,h2,n,h3⟩,_⟩:=(show ObjOk P w H h a (.tup (ks.map kV))from ok a _ e)
 exact⟨o,its.toArray,n,h1,h2,h3,by simpa using lb r⟩
theorem uR{kvs:List (List Key×V)}(ok:HOk P w H h)(e:Rd H a (.dT kvs)):kvs.length<=sizeLine/\(a == sysModules)=false /\
  ∃xs,KT H kvs xs/\h.DictOfH (tupleKind (bX P w)) a xs:=by
 obtain⟨z,y,xs,r,o,es,ep,h1,h2,h3,h4,h5⟩:=(show ObjOk P w H h a (.dT kvs)from zc ok e)
 refine⟨z,y,xs,r,o,es,ep,h1,h2,h3,h4,fun x hx=>?_,h5⟩;have all:∀{l:List (List Key×V)}{m:List (List Key×Addr×Value)},KT H l m->∀x∈m,(tupleKind (bX P w)).is h x.1 x.2.1:=by
  intro l m q;induction q with
  |nil=>intro x hx;exact nomatch hx
  |@cons p q ps qs hq t ih=>
   intro x hx;rcases Yv.mp hx with e|hx
   ·subst e;exact pY ok (by rw[<-hq.1];exact hq.2.1)
   ·exact ih x hx
 exact all r x hx
theorem CU{kvs:List (List Key×V)}(ok:HOk P w H h)(e:H a=some (.dT kvs)):kvs.length<=sizeLine/\(a == sysModules)=false /\
  ∃xs,KT H kvs xs/\h.DictOfH (tupleKind (bX P w)) a xs:=uR ok (.inl e)
end
def DGet(H:Hp)(a:Addr)(y:V)(r:Option V):Prop:=
 (∃kvs k,Rd H a (.dK kvs)/\y=kV k/\r=eZ kvs k)\/∃kvs k b,Rd H a (.dT kvs)/\y=.ref b/\H b=some (.tup (k.map kV))/\r=eZ kvs k
def DPut(H:Hp)(a:Addr)(y v:V)(H':Hp):Prop:=
 (∃kvs k,H a=some (.dK kvs)/\y=kV k/\kvs.length<sizeLine/\H'=upd H a (.dK (g9 kvs k v))) \/
 ∃kvs k b,H a=some (.dT kvs)/\y=.ref b/\H b=some (.tup (k.map kV))/\kvs.length<sizeLine/\H'=upd H a (.dT (g9 kvs k v))
theorem DGet.t{H:Hp}{a b:Addr}{kvs:List (List Key×V)}{k:List Key}(e:H a=some (.dT kvs))(eb:H b=some (.tup (k.map kV))):DGet H a (.ref b) (eZ kvs k):=.inr ⟨kvs,k,b,.inl e,rfl,eb,rfl⟩
theorem DPut.t{H:Hp}{a b:Addr}{kvs:List (List Key×V)}{k:List Key}{v:V}(e:H a=some (.dT kvs))(eb:H b=some (.tup (k.map kV)))(hl:kvs.length<sizeLine) :
  DPut H a (.ref b) v (upd H a (.dT (g9 kvs k v))):=.inr ⟨kvs,k,b,e,rfl,eb,hl,rfl⟩
section
variable{X:Cx}{pz:Kp}{σ:St}{H:Hp}{s:Shared}{a:Addr}{y v:V}{u r:Value}{o:Option V}{A:Around}{E:Kv}
theorem Inv.big(I:Inv X pz σ H s):sysModules<s.heap.objs.size:=by have h:mainGlobals<s.heap.objs.size:=(I.mod.glob.keeps I.bk).lt;exact Xa (by decide) h
theorem r_{h':Heap}{t':Nat}{ob:HO}(I:Inv X pz σ H s)(mu:Mut (H a))(hs:Heap.SameBut a s.heap h')(he:∃q,h'.get? a=some q)(new:ObjOk X.prog X.w (upd H a ob) h' a ob) :
  Inv X pz σ (upd H a ob) {s with heap:=h',toks:=t' }:=
 I.write (x:=a) (e:=a) mu (.inl rfl) (fun b q hb z=>(hs.2 b hb).trans z) he new
theorem AS{P:Program}{w:World}{H':Hp}{h':Heap}{kvs:List (Key×V)}{vs:List (Key×Value)}(z:kvs.length<=sizeLine)(hd:(a == sysModules)=false)(rel:KV kvs vs)(dd:h'.DictOf (bX P w) a vs) :
  ObjOk P w H' h' a (.dK kvs):=⟨z,hd,vs,rel,dd⟩
theorem tU{H':Hp}{Q:Unit->Shared->Prop}(hu:A.units+1<cLine)(I:Inv X pz σ H s)(g:DPut H a y v H')(ry:RelV y u)(rv:RelV v r)(h:∀s',Inv X pz σ H' s'->Q () s') :
  wpAny (model X.prog X.w) A (setItem (.ref a) u r) Q E s:=by
 rcases g with⟨kvs,k,e,ey,l,eH⟩|⟨kvs,k,b,e,ey,eb,l,eH⟩
 ·subst ey eH;obtain⟨z,hd,vs,rel,dd⟩:=C2 I.hok e;have hz:vs.length<=sizeLine:=by rw[<-rel.length];exact z
  have hl:(g9 kvs k v).length<=sizeLine:=by have:=iO kvs k v;omega
  refine wpAny_setItem_pairs (hsz:=hz) (xf ry) dd fun h' dd' hs=>h _ ?_;have he:∃q,h'.get? a=some q:=let ⟨q,_,_,hq,_⟩:=dd';⟨q,hq⟩
  exact r_ I (by rw[e];exact True.intro) hs he (AS hl hd (rel.put k rv) dd')
 ·subst ey eH;cases(show u=Value.ref b from ry);obtain⟨z,hd,xs,rel,dd⟩:=CU I.hok e;have hz:xs.length<=sizeLine:=by rw[<-Paired.length rel];exact z
  have hl:(g9 kvs k v).length<=sizeLine:=by have:=iO kvs k v;omega
  refine wpAny_setItem_heap (hsz:=hz) (tupleKind_room_in1 hu) (pY I.hok eb) dd fun h' dd' hs=>h _ ?_;obtain⟨q,es,ep,hq,h2,h3,h4,_,h5⟩:=dd';refine r_ I (by rw[e];exact True.intro) hs ⟨q,hq⟩ ⟨hl,hd,_,(rel.put k eb rv).keeps fun c ys ec=>?_,q,es,ep,hq,h2,h3,h4,h5⟩;rw[au (Cd ec e (fun z=>nomatch z))];exact ec
end
section
variable{X:Cx}{pz:Kp}{σ:St}{H:Hp}{s:Shared}{a:Addr}{kvs:List (Key×V)}{k:Key}{u:Value}{A:Around}{E:Kv}
end
def Cg(td ty tv:TE):TS:=fun D σ H=>tv σ H fun v H1=>td σ H1 fun x H2=>ty σ H2 fun y H3=>∃a H4,x=.ref a/\DPut H3 a y v H4/\D.nx σ H4
section
variable{X:Cx}{o i e value:Expr}{pos pos' tpos:Pos}{td ty tv:TE}
theorem xB(hu:X.A.units+1<cLine)(ho:PE X o td)(hi:PE X i ty)(hv:PE X value tv)(hs:swapsWith value (some (.Subscript o i pos')) pos.line X.env=pure false) :
  PS X (.Assign [.Subscript o i pos'] value pos) (Cg td ty tv):=by
 intro pz s σ H D I h;refine wpAny_Assign_Subscript (bu (hv pz s σ H _ I h) fun r s1 v H1 I1 rv q1=>bu (ho pz s1 σ H1 _ I1 q1) fun u s2 x H2 I2 rx q2=>bu (hi pz s2 σ H2 _ I2 q2) fun iv s3 y H3 I3 ry hh_=>?_) hs;obtain⟨a,H4,ex,g,q3⟩:=hh_;subst ex;obtain rfl:u=Value.ref a:=rx;exact tU hu I3 g ry rv fun s4 I4=>⟨σ,H4,I4,q3⟩
end
theorem wV{P:Program}{w:World}{H:Hp}(h:Heap)(hb:sysModules<h.objs.size):ObjOk P w H (h.push {cls:=.type "dict",data:=.dict #[]}) h.objs.size (.dT []):=
 ⟨YF _,Xl.mpr (ZL (Yw hb)),[],.nil,_,#[],0,Yn _ rfl,⟨rfl,rfl,rfl⟩,rfl,rfl,List.nodup_nil⟩
def A2:TE:=fun _ H Q=>∀p,H p=none->Q (.ref p) (upd H p (.dT []))
section
variable{X:Cx}{pos:Pos}
theorem wI:PE X (.Dict [] [] pos) A2:=fun pz s σ H Q I h=>
 wpAny_Dict_empty ⟨.ref s.heap.objs.size,_,I.laid (a:=s.heap.objs.size) (o:=.dT []) (t':=s.toks) (fun _ _ q=>Yg _ q) (Yl _) (wV s.heap I.big),rfl,h _ (I.hok.fresh (Yl _))⟩
end
structure M2 (X:Cx) (o:Expr) (m:Str) (apos:Pos) (e f:Expr) (cpos:Pos):Prop where
 base:attributeBase o m X.env (eval o X.env)=eval o X.env
 few:((backTo cpos (starEach [e,f] X.env)).all (fun x=>!x.1)&&(backToKw cpos (keywordEach [] X.env)).all (fun x=>x.1.isSome)
  && decide (([e,f]:List Expr).length+([]:List Keyword).length+(if([]:List Keyword).isEmpty then 0 else 1)<30))=true
 line:(apos.endLine == cpos.line)=true
 trees:backTo cpos (starEach [e,f] X.env)=[(false,eval e X.env),(false,eval f X.env)]
def IsD(H:Hp)(a:Addr):Prop:=(∃kvs,Rd H a (.dK kvs))\/∃kvs,Rd H a (.dT kvs)
theorem Am{X:Cx}{pz:Kp}{σ:St}{H:Hp}{s:Shared}{a:Addr}(I:Inv X pz σ H s)(d:IsD H a) :
  s.TypeIs (.ref a) "dict"/\(∀b,Value.ref a=.ref b->∃ob,s.heap.get? b=some ob/\ob.dict=none)/\(a == sysModules)=false:=by
 rcases d with⟨kvs,e⟩|⟨kvs,e⟩
 ·obtain⟨_,hd,vs,_,dd⟩:=wb I.hok e;refine⟨dd.typeIs,fun b q=>?_,hd⟩;cases q;obtain⟨ob,_,_,h1,h2,_⟩:=dd;exact⟨ob,h1,h2.2.1⟩
 ·obtain⟨_,hd,xs,_,dd⟩:=uR I.hok e;refine⟨dd.typeIs,fun b q=>?_,hd⟩;cases q;obtain⟨ob,_,_,h1,h2,_⟩:=dd;exact⟨ob,h1,h2.2.1⟩
section
variable{X:Cx}{pz:Kp}{σ:St}{H:Hp}{s:Shared}{a:Addr}{y d:V}{u r:Value}{o:Option V}{A:Around}{E:Kv}
theorem Bb{Q:Kv}(hu:A.units+1<cLine)(I:Inv X pz σ H s)(g:DGet H a y o)(ry:RelV y u)(rd:RelV d r)(h:∀w' s',Inv X pz σ H s'->RelV (o.getD d) w'->Q w' s') :
  wpAny (model X.prog X.w) A (call (.builtin "dict.get") [.ref a,u,r]) Q E s:=by
 rcases g with⟨kvs,k,e,ey,l⟩|⟨kvs,k,b,e,ey,eb,l⟩
 ·subst ey;obtain⟨z,hd,vs,rel,dd⟩:=wb I.hok e;refine call_meetsIn Vk dd.typeIs PySem.F.entry_dict_get (PySem.F.args_dict_get_3 _ _ _) (meets_dict_get_default (bX X.prog X.w) a (xf ry) hd r) ⟨_,dd.mapOf,h _ _ (I.tok _) ?_⟩;rw[l];exact(rel.val k).getD rd
 ·subst ey;cases(show u=Value.ref b from ry);obtain⟨z,hd,xs,rel,dd⟩:=uR I.hok e;refine call_meetsIn Vk dd.typeIs PySem.F.entry_dict_get (PySem.F.args_dict_get_3 _ _ _) (meetsH_dict_get_default (tupleKind (bX X.prog X.w)) a b hd r) ⟨tupleKind_room_in1 hu,k,xs,pY I.hok eb,dd,h _ _ (I.tok _) ?_⟩;rw[l];exact(rel.val k).getD rd
end
def Af(td ty tx:TE):TE:=fun σ H Q=>td σ H fun x H1=>∃a,x=.ref a/\IsD H1 a/\ty σ H1 fun y H2=>tx σ H2 fun z H3=>∃o,DGet H3 a y o/\Q (o.getD z) H3
section
variable{X:Cx}{o e f:Expr}{apos cpos:Pos}{td ty tx:TE}
theorem vS(hu:X.A.units+1<cLine)(ho:PE X o td)(he:PE X e ty)(hf:PE X f tx)(m:M2 X o "get" apos e f cpos):PE X (.Call (.Attribute o "get" apos) [e,f] [] cpos) (Af td ty tx):=by
 intro pz s σ H Q I h;refine wpAny_Call_method m.base m.few m.line PySem.F.plainAttrs_dict Vk PySem.F.type_dict_get (bu (ho pz s σ H _ I h) fun u s1 x H1 I1 rx hh_=>?_);obtain⟨a,ex,d,q1⟩:=hh_;subst ex;obtain rfl:u=Value.ref a:=rx;obtain⟨t1,t2,_⟩:=Am I1 d;refine⟨t1,t2,?_⟩;rw[m.trees];refine XX rfl (Calls.evalArgs_plain (Calls.spliced_cons (bu (he pz s1 σ H1 _ I1 q1) fun iv s2 y H2 I2 ry q2=>
  Calls.spliced_cons (bu (hf pz s2 σ H2 _ I2 q2) fun fv s3 z H3 I3 rz ⟨ov,g,q3⟩=>Calls.spliced_nil ?_))))
 exact Bb hu I3 g ry rz fun w' s4 I4 rw'=>⟨_,H3,I4,rw',q3⟩
end
section
variable{X:Cx}{pz:Kp}{σ:St}{H:Hp}{s:Shared}{a:Addr}{kvs:List (Key×V)}{A:Around}{E:Kv}
end
section
variable{X:Cx}{pz:Kp}{σ:St}{H:Hp}{s:Shared}{a:Addr}{y:V}{u:Value}{A:Around}{E:Kv}
end
section
variable{κ:Type} [DecidableEq κ]
end
inductive D where
 |non|bl (b:Bool)|int (i:Int)|str (x:Str)
 |tup (xs:List D)|lst (xs:List D)
 |dT (kvs:List (List Key×D))|dK (kvs:List (Key×D))
 |ins (C:Addr) (fs:List (Str×D))
mutual
inductive Rep (K:PySem.W.Frag) (H:Hp):V->D->Prop
 |non:Rep K H .non .non
 |bl {b:Bool}:Rep K H (.bl b) (.bl b)
 |int {i:Int}:Rep K H (.int i) (.int i)
 |str {x:Str}:Rep K H (.str x) (.str x)
 |tup {a:Addr}{vs:List V}{ds:List D}:H a=some (.tup vs)->Reps K H vs ds->Rep K H (.ref a) (.tup ds)
 |lst {a:Addr}{vs:List V}{ds:List D}:SqL K H a vs->Reps K H vs ds->Rep K H (.ref a) (.lst ds)
 |dT {a:Addr}{vs:List (List Key×V)}{ds:List (List Key×D)}:H a=some (.dT vs)->RepsT K H vs ds->Rep K H (.ref a) (.dT ds)
 |dK {a:Addr}{vs:List (Key×V)}{ds:List (Key×D)}:H a=some (.dK vs)->RepsK K H vs ds->Rep K H (.ref a) (.dK ds)
 |ins {a C dx:Addr}{vs:List (Str×V)}{ds:List (Str×D)}:H a=some (.ins C dx vs)->RepsF K H vs ds->Rep K H (.ref a) (.ins C ds)
inductive Reps (K:PySem.W.Frag) (H:Hp):List V->List D->Prop
 |nil:Reps K H [] []
 |cons {v:V}{d:D}{vs:List V}{ds:List D}:Rep K H v d->Reps K H vs ds->Reps K H (v::vs) (d::ds)
inductive RepsT (K:PySem.W.Frag) (H:Hp):List (List Key×V)->List (List Key×D)->Prop
 |nil:RepsT K H [] []
 |cons {k:List Key}{v:V}{d:D}{vs:List (List Key×V)}{ds:List (List Key×D)}:Rep K H v d->RepsT K H vs ds->RepsT K H ((k,v)::vs) ((k,d)::ds)
inductive RepsK (K:PySem.W.Frag) (H:Hp):List (Key×V)->List (Key×D)->Prop
 |nil:RepsK K H [] []
 |cons {k:Key}{v:V}{d:D}{vs:List (Key×V)}{ds:List (Key×D)}:Rep K H v d->RepsK K H vs ds->RepsK K H ((k,v)::vs) ((k,d)::ds)
inductive RepsF (K:PySem.W.Frag) (H:Hp):List (Str×V)->List (Str×D)->Prop
 |nil:RepsF K H [] []
 |cons {k:Str}{v:V}{d:D}{vs:List (Str×V)}{ds:List (Str×D)}:Rep K H v d->RepsF K H vs ds->RepsF K H ((k,v)::vs) ((k,d)::ds)
end
section
variable{K:Kq}{H H':Hp}
theorem Rep.same(e:Same H H'){v:V}{d:D}(h:Rep K H v d):Rep K H' v d:=
 Rep.rec (motive_1:=fun v d _=>Rep K H' v d) (motive_2:=fun v d _=>Reps K H' v d) (motive_3:=fun v d _=>RepsT K H' v d) (motive_4:=fun v d _=>RepsK K H' v d) (motive_5:=fun v d _=>RepsF K H' v d) .non .bl .int .str (fun h _ i=>.tup (e _ _ h) i) (fun h _ i=>.lst (e.seq h) i) (fun h _ i=>.dT (e _ _ h) i) (fun h _ i=>.dK (e _ _ h) i) (fun h _ i=>.ins (e _ _ h) i) .nil (fun _ _ a b=>.cons a b) .nil (fun _ _ a b=>.cons a b) .nil (fun _ _ a b=>.cons a b) .nil (fun _ _ a b=>.cons a b) h
theorem Reps.same(e:Same H H'){v:List V}{d:List D}(h:Reps K H v d):Reps K H' v d:=
 Reps.rec (motive_1:=fun v d _=>Rep K H' v d) (motive_2:=fun v d _=>Reps K H' v d) (motive_3:=fun v d _=>RepsT K H' v d) (motive_4:=fun v d _=>RepsK K H' v d) (motive_5:=fun v d _=>RepsF K H' v d) .non .bl .int .str (fun h _ i=>.tup (e _ _ h) i) (fun h _ i=>.lst (e.seq h) i) (fun h _ i=>.dT (e _ _ h) i) (fun h _ i=>.dK (e _ _ h) i) (fun h _ i=>.ins (e _ _ h) i) .nil (fun _ _ a b=>.cons a b) .nil (fun _ _ a b=>.cons a b) .nil (fun _ _ a b=>.cons a b) .nil (fun _ _ a b=>.cons a b) h
theorem RepsT.same(e:Same H H'){v:List (List Key×V)}{d:List (List Key×D)}(h:RepsT K H v d):RepsT K H' v d:=
 RepsT.rec (motive_1:=fun v d _=>Rep K H' v d) (motive_2:=fun v d _=>Reps K H' v d) (motive_3:=fun v d _=>RepsT K H' v d) (motive_4:=fun v d _=>RepsK K H' v d) (motive_5:=fun v d _=>RepsF K H' v d) .non .bl .int .str (fun h _ i=>.tup (e _ _ h) i) (fun h _ i=>.lst (e.seq h) i) (fun h _ i=>.dT (e _ _ h) i) (fun h _ i=>.dK (e _ _ h) i) (fun h _ i=>.ins (e _ _ h) i) .nil (fun _ _ a b=>.cons a b) .nil (fun _ _ a b=>.cons a b) .nil (fun _ _ a b=>.cons a b) .nil (fun _ _ a b=>.cons a b) h
theorem RepsK.same(e:Same H H'){v:List (Key×V)}{d:List (Key×D)}(h:RepsK K H v d):RepsK K H' v d:=
 RepsK.rec (motive_1:=fun v d _=>Rep K H' v d) (motive_2:=fun v d _=>Reps K H' v d) (motive_3:=fun v d _=>RepsT K H' v d) (motive_4:=fun v d _=>RepsK K H' v d) (motive_5:=fun v d _=>RepsF K H' v d) .non .bl .int .str (fun h _ i=>.tup (e _ _ h) i) (fun h _ i=>.lst (e.seq h) i) (fun h _ i=>.dT (e _ _ h) i) (fun h _ i=>.dK (e _ _ h) i) (fun h _ i=>.ins (e _ _ h) i) .nil (fun _ _ a b=>.cons a b) .nil (fun _ _ a b=>.cons a b) .nil (fun _ _ a b=>.cons a b) .nil (fun _ _ a b=>.cons a b) h
theorem RepsF.same(e:Same H H'){v:List (Str×V)}{d:List (Str×D)}(h:RepsF K H v d):RepsF K H' v d:=
 RepsF.rec (motive_1:=fun v d _=>Rep K H' v d) (motive_2:=fun v d _=>Reps K H' v d) (motive_3:=fun v d _=>RepsT K H' v d) (motive_4:=fun v d _=>RepsK K H' v d) (motive_5:=fun v d _=>RepsF K H' v d) .non .bl .int .str (fun h _ i=>.tup (e _ _ h) i) (fun h _ i=>.lst (e.seq h) i) (fun h _ i=>.dT (e _ _ h) i) (fun h _ i=>.dK (e _ _ h) i) (fun h _ i=>.ins (e _ _ h) i) .nil (fun _ _ a b=>.cons a b) .nil (fun _ _ a b=>.cons a b) .nil (fun _ _ a b=>.cons a b) .nil (fun _ _ a b=>.cons a b) h
end
section
variable{K:Kq}{H H':Hp}
theorem Reps.ind{M:List V->List D->Prop}(n:M [] [])(c:∀{v:V}{d:D}{vs:List V}{ds:List D},Rep K H v d->Reps K H vs ds->M vs ds->M (v::vs) (d::ds)){vs:List V}{ds:List D}(h:Reps K H vs ds):M vs ds:=
 Reps.rec (motive_1:=fun _ _ _=>True) (motive_2:=fun vs ds _=>M vs ds) (motive_3:=fun _ _ _=>True) (motive_4:=fun _ _ _=>True) (motive_5:=fun _ _ _=>True) trivial trivial trivial trivial (fun _ _ _=>trivial) (fun _ _ _=>trivial) (fun _ _ _=>trivial) (fun _ _ _=>trivial) (fun _ _ _=>trivial) n (fun h q _ ih=>c h q ih) trivial (fun _ _ _ _=>trivial) trivial (fun _ _ _ _=>trivial) trivial (fun _ _ _ _=>trivial) h
theorem RepsT.ind{M:List (List Key×V)->List (List Key×D)->Prop}(n:M [] [])(c:∀{k:List Key}{v:V}{d:D}{vs:List (List Key×V)}{ds:List (List Key×D)},Rep K H v d->RepsT K H vs ds->M vs ds->M ((k,v)::vs) ((k,d)::ds)){vs:List (List Key×V)}{ds:List (List Key×D)}(h:RepsT K H vs ds):M vs ds:=
 RepsT.rec (motive_1:=fun _ _ _=>True) (motive_2:=fun _ _ _=>True) (motive_3:=fun vs ds _=>M vs ds) (motive_4:=fun _ _ _=>True) (motive_5:=fun _ _ _=>True) trivial trivial trivial trivial (fun _ _ _=>trivial) (fun _ _ _=>trivial) (fun _ _ _=>trivial) (fun _ _ _=>trivial) (fun _ _ _=>trivial) trivial (fun _ _ _ _=>trivial) n (fun h q _ ih=>c h q ih) trivial (fun _ _ _ _=>trivial) trivial (fun _ _ _ _=>trivial) h
theorem RepsF.ind{M:List (Str×V)->List (Str×D)->Prop}(n:M [] [])(c:∀{k:Str}{v:V}{d:D}{vs:List (Str×V)}{ds:List (Str×D)},Rep K H v d->RepsF K H vs ds->M vs ds->M ((k,v)::vs) ((k,d)::ds)){vs:List (Str×V)}{ds:List (Str×D)}(h:RepsF K H vs ds):M vs ds:=
 RepsF.rec (motive_1:=fun _ _ _=>True) (motive_2:=fun _ _ _=>True) (motive_3:=fun _ _ _=>True) (motive_4:=fun _ _ _=>True) (motive_5:=fun vs ds _=>M vs ds) trivial trivial trivial trivial (fun _ _ _=>trivial) (fun _ _ _=>trivial) (fun _ _ _=>trivial) (fun _ _ _=>trivial) (fun _ _ _=>trivial) trivial (fun _ _ _ _=>trivial) trivial (fun _ _ _ _=>trivial) trivial (fun _ _ _ _=>trivial) n (fun h q _ ih=>c h q ih) h
theorem Reps.length{vs:List V}{ds:List D}(h:Reps K H vs ds):vs.length=ds.length:=Reps.ind (M:=fun vs ds=>vs.length=ds.length) rfl (fun _ _ ih=>Zs Nat.succ ih) h
theorem Reps.get{vs:List V}{ds:List D}{i:Nat}{d:D}(h:Reps K H vs ds):ds[i]?=some d->∃v,vs[i]?=some v/\Rep K H v d:=
 Reps.ind (M:=fun vs ds=>∀i:Nat,ds[i]?=some d->∃v,vs[i]?=some v/\Rep K H v d) (fun _ e=>nomatch e) (fun r _ ih i e=>by
  cases i with
  |zero=>obtain rfl:=Yr e;exact⟨_,rfl,r⟩
  |succ i=>exact ih i e) h i
theorem Reps.getV{vs:List V}{ds:List D}{i:Nat}{v:V}(h:Reps K H vs ds):vs[i]?=some v->∃d,ds[i]?=some d/\Rep K H v d:=
 Reps.ind (M:=fun vs ds=>∀i:Nat,vs[i]?=some v->∃d,ds[i]?=some d/\Rep K H v d) (fun _ e=>nomatch e) (fun r _ ih i e=>by
  cases i with
  |zero=>obtain rfl:=Yr e;exact⟨_,rfl,r⟩
  |succ i=>exact ih i e) h i
theorem Reps.append{vs ws:List V}{ds es:List D}(h:Reps K H vs ds)(s:Reps K H ws es):Reps K H (vs++ws) (ds++es):=Reps.ind (M:=fun vs ds=>Reps K H (vs++ws) (ds++es)) s (fun r _ ih=>.cons r ih) h
theorem Reps.take{vs:List V}{ds:List D}(n:Nat)(h:Reps K H vs ds):Reps K H (vs.take n) (ds.take n):=Reps.ind (M:=fun vs ds=>∀n,Reps K H (vs.take n) (ds.take n)) (fun n=>by cases n<;>exact .nil) (fun r _ ih n=>by
  cases n with
  |zero=>exact .nil
  |succ n=>exact .cons r (ih n)) h n
theorem Reps.drop{vs:List V}{ds:List D}(n:Nat)(h:Reps K H vs ds):Reps K H (vs.drop n) (ds.drop n):=Reps.ind (M:=fun vs ds=>∀n,Reps K H (vs.drop n) (ds.drop n)) (fun n=>by cases n<;>exact .nil) (fun r q ih n=>by
  cases n with
  |zero=>exact .cons r q
  |succ n=>exact ih n) h n
theorem Reps.eraseIdx{vs:List V}{ds:List D}(i:Nat)(h:Reps K H vs ds):Reps K H (vs.eraseIdx i) (ds.eraseIdx i):=Reps.ind (M:=fun vs ds=>∀i,Reps K H (vs.eraseIdx i) (ds.eraseIdx i)) (fun _=>.nil) (fun q t ih i=>by
  cases i with
  |zero=>exact t
  |succ i=>exact .cons q (ih i)) h i
theorem Reps.one{v:V}{d:D}(r:Rep K H v d):Reps K H [v] [d]:=.cons r .nil
end
inductive OD where
 |lst (ds:List D)|lst2 (dss:List (List D))|tup2 (dss:List (List D))|dT (kvs:List (List Key×D))|dK (kvs:List (Key×D))|ins (C:Addr) (fs:List (Str×D))
def OD.d:OD->D
 |.lst ds=>.lst ds
 |.lst2 dss=>.lst (dss.map .lst)
 |.tup2 dss=>.tup (dss.map .lst)
 |.dT kvs=>.dT kvs
 |.dK kvs=>.dK kvs
 |.ins C fs=>.ins C fs
def OD.flat:OD->Bool
 |.lst2 _=>false
 |.tup2 _=>false
 |_=>true
inductive All2 {α β:Type} (R:α->β->Prop):List α->List β->Prop
 |nil:All2 R [] []
 |cons {a:α}{b:β}{as:List α}{bs:List β}:R a b->All2 R as bs->All2 R (a::as) (b::bs)
theorem All2.imp{α β:Type}{R S:α->β->Prop}(f:∀a b,R a b->S a b){as:List α}{bs:List β}(h:All2 R as bs):All2 S as bs:=by
 induction h with
 |nil=>exact .nil
 |cons h _ ih=>exact .cons (f _ _ h) ih
theorem All2.length{α β:Type}{R:α->β->Prop}{as:List α}{bs:List β}(h:All2 R as bs):as.length=bs.length:=by
 induction h with
 |nil=>rfl
 |cons _ _ ih=>exact Zs Nat.succ ih
def ORep1(K:Kq)(F:Hp):OD->HO->Prop
 |.lst ds,.lst vs=>Reps K F vs ds
 |.dT ds,.dT vs=>RepsT K F vs ds
 |.dK ds,.dK vs=>RepsK K F vs ds
 |.ins C fs,.ins C' _ vs=>C=C'/\RepsF K F vs fs
 |_,_=>False
def ORep(K:Kq)(F H:Hp)(ow:Addr->Prop):OD->Addr->Prop
 |.lst2 dss,a=>ow a/\∃bs,H a=some (.lst (bs.map .ref))/\(a::bs).Nodup/\All2 (fun b ds=>ow b/\∃u,H b=some u/\ORep1 K F (.lst ds) u) bs dss
 |.tup2 dss,a=>ow a/\∃bs,H a=some (.tup (bs.map .ref))/\(a::bs).Nodup/\All2 (fun b ds=>ow b/\∃u,H b=some u/\ORep1 K F (.lst ds) u) bs dss
 |o,a=>ow a/\∃u,H a=some u/\ORep1 K F o u
theorem ORep1.same{K:Kq}{F F':Hp}(e:Same F F'){o:OD}{u:HO}(h:ORep1 K F o u):ORep1 K F' o u:=by cases o<;>cases u<;>first|exact h.elim|exact Reps.same e h|exact RepsT.same e h|exact RepsK.same e h|exact⟨h.1,RepsF.same e h.2⟩
theorem ORep.flat{K:Kq}{F H:Hp}{ow:Addr->Prop}{o:OD}{a:Addr}(f:o.flat=true):ORep K F H ow o a↔ow a/\∃u,H a=some u/\ORep1 K F o u:=by cases o<;>first|exact Iff.rfl|cases f
theorem ORep.mono{K:Kq}{F F' H H':Hp}{ow ow':Addr->Prop}{o:OD}{a:Addr}(e:Same F F')(k:∀b u,ow b->H b=some u->H' b=some u/\ow' b)(h:ORep K F H ow o a):ORep K F' H' ow' o a:=by
 by_cases f:o.flat=true
 ·obtain⟨h1,u,h2,h3⟩:=(ORep.flat f).mp h;obtain⟨k1,k2⟩:=k a u h1 h2;exact(ORep.flat f).mpr ⟨k2,u,k1,h3.same e⟩
 ·cases o with
  |lst2 dss=>
   obtain⟨h1,bs,h2,h3,h4⟩:=h;obtain⟨k1,k2⟩:=k a _ h1 h2;exact⟨k2,bs,k1,h3,h4.imp fun b ds ⟨q1,u,q2,q3⟩=>by obtain⟨c1,c2⟩:=k b u q1 q2;exact⟨c2,u,c1,q3.same e⟩⟩
  |tup2 dss=>
   obtain⟨h1,bs,h2,h3,h4⟩:=h;obtain⟨k1,k2⟩:=k a _ h1 h2;exact⟨k2,bs,k1,h3,h4.imp fun b ds ⟨q1,u,q2,q3⟩=>by obtain⟨c1,c2⟩:=k b u q1 q2;exact⟨c2,u,c1,q3.same e⟩⟩
  |_=>exact absurd rfl f
theorem ORep1.rep{K:Kq}{F H:Hp}{o:OD}{u:HO}{a:Addr}(f:o.flat=true)(h:ORep1 K F o u)(hH:H a=some u)(e:Same F H):Rep K H (.ref a) o.d:=by
 cases o with
 |lst ds=>cases u with|lst vs=>exact .lst (SqL.of hH) (Reps.same e h)|_=>exact h.elim
 |dT ds=>cases u with|dT vs=>exact .dT hH (RepsT.same e h)|_=>exact h.elim
 |dK ds=>cases u with|dK vs=>exact .dK hH (RepsK.same e h)|_=>exact h.elim
 |ins C fs=>cases u with|ins C' dx vs=>(obtain⟨rfl,h⟩:=h;exact .ins hH (RepsF.same e h))|_=>exact h.elim
 |lst2 _=>cases f
 |tup2 _=>cases f
theorem ORep.rep{K:Kq}{F H G:Hp}{ow:Addr->Prop}{o:OD}{a:Addr}(h:ORep K F H ow o a)(e:Same F G)(k:∀b u,ow b->H b=some u->G b=some u):Rep K G (.ref a) o.d:=by
 by_cases f:o.flat=true
 ·obtain⟨h1,u,h2,h3⟩:=(ORep.flat f).mp h;exact h3.rep f (k a u h1 h2) e
 ·cases o with
  |lst2 dss=>
   obtain⟨h1,bs,h2,h3,h4⟩:=h;refine .lst (SqL.of (k a _ h1 h2)) ?_;clear h2 h1 h3 f;induction h4 with
   |nil=>exact .nil
   |cons q r ih=>
    obtain⟨q1,u,q2,q3⟩:=q;exact .cons (q3.rep (o:=.lst _) rfl (k _ u q1 q2) e) ih
  |tup2 dss=>
   obtain⟨h1,bs,h2,h3,h4⟩:=h;refine .tup (k a _ h1 h2) ?_;clear h2 h1 h3 f;induction h4 with
   |nil=>exact .nil
   |cons q r ih=>
    obtain⟨q1,u,q2,q3⟩:=q;exact .cons (q3.rep (o:=.lst _) rfl (k _ u q1 q2) e) ih
  |_=>exact absurd rfl f
inductive DV where
 |v (d:D)|own (o:OD) (t:Option Addr)|bor (o:OD)
abbrev DF:=List (Option DV)
def DVRep(K:Kq)(P F H:Hp)(ow:Addr->Prop):DV->V->Prop
 |.v d,x=>Rep K F x d
 |.own o t,x=>∃a,x=.ref a/\ORep K F H (fun b=>F b=none/\P b=none/\ow b) o a/\∀b,t=some b->b=a
 |.bor o,x=>∃a,x=.ref a/\ORep K F P (fun _=>True) o a
def p0:Addr->Prop:=fun _=>True
structure DHp (P F H:Hp):Prop where
 sub:Same F H
 pro:Same P H
 dis:∀a o,P a=some o->F a=none
structure DInv (K:PySem.W.Frag) (P F H:Hp) (ρ:DF) (σ:St):Prop extends DHp P F H where
 len:ρ.length=σ.length
 rep:∃O:Addr->Option Nat,∀(i:Nat) (x:DV),ρ[i]?=some (some x)->∃v,σ[i]?=some (some v)/\DVRep K P F H (fun b=>O b=some i) x v
structure Evo (P F H F' H':Hp):Prop where
 ext:Same F F'
 hp:DHp P F' H'
 keep:∀a o,H a=some o->F a=none->H' a=some o/\F' a=none
theorem Evo.same{P F H F' H':Hp}(h:DHp P F H)(e:Evo P F H F' H'):Same H H':=fun a o q=>by
 cases c:F a with
 |none=>exact(e.keep a o q c).1
 |some u=>
  have:=h.sub a u c;rw[q]at this;cases this;exact e.hp.sub a o (e.ext a o c)
theorem DVRep.evo{K:Kq}{P F H F' H':Hp}{ow:Addr->Prop}(e:Evo P F H F' H'){x:DV}{v:V}(r:DVRep K P F H ow x v):DVRep K P F' H' ow x v:=by
 cases x with
 |v d=>exact Rep.same e.ext r
 |own o t=>
  obtain⟨a,rfl,h,ht⟩:=r;exact⟨a,rfl,h.mono e.ext fun b u ⟨q1,q2,q3⟩ hb=>by(obtain⟨k1,k2⟩:=e.keep b u hb q1;exact⟨k1,k2,q2,q3⟩),ht⟩
 |bor o=>
  obtain⟨a,rfl,h⟩:=r;exact⟨a,rfl,h.mono e.ext fun b u q hb=>⟨hb,q⟩⟩
theorem DVRep.imp{K:Kq}{P F H:Hp}{ow ow':Addr->Prop}(f:∀b u,F b=none->P b=none->H b=some u->ow b->ow' b){x:DV}{v:V}(r:DVRep K P F H ow x v):DVRep K P F H ow' x v:=by
 cases x with
 |v d=>exact r
 |own o t=>
  obtain⟨a,rfl,h,ht⟩:=r;exact⟨a,rfl,h.mono (Same.refl _) fun b u ⟨q1,q2,q3⟩ hb=>⟨hb,q1,q2,f b u q1 q2 hb q3⟩,ht⟩
 |bor o=>exact r
theorem DInv.evo{K:Kq}{P F H F' H':Hp}{ρ:DF}{σ:St}(I:DInv K P F H ρ σ)(e:Evo P F H F' H'):DInv K P F' H' ρ σ:=
 ⟨e.hp,I.len,by obtain⟨O,h⟩:=I.rep;exact⟨O,fun i x hx=>by obtain⟨v,h1,h2⟩:=h i x hx;exact⟨v,h1,h2.evo e⟩⟩⟩
theorem DInv.at{K:Kq}{P F H:Hp}{ρ:DF}{σ:St}(I:DInv K P F H ρ σ){i:Nat}{x:DV}(h:ρ[i]?=some (some x)):∃v,σ[i]?=some (some v)/\DVRep K P F H p0 x v:=by obtain⟨O,k⟩:=I.rep;obtain⟨v,h1,h2⟩:=k i x h;exact⟨v,h1,h2.imp fun _ _ _ _ _ _=>trivial⟩
theorem Evo.refl{P F H:Hp}(h:DHp P F H):Evo P F H F H:=⟨Same.refl _,h,fun _ _ a b=>⟨a,b⟩⟩
theorem Evo.trans{P F H F1 H1 F2 H2:Hp}(a:Evo P F H F1 H1)(b:Evo P F1 H1 F2 H2):Evo P F H F2 H2:=
 ⟨a.ext.trans b.ext,b.hp,fun c o h n=>by obtain⟨h1,n1⟩:=a.keep c o h n;exact b.keep c o h1 n1⟩
theorem Evo.laid{P F H:Hp}(h:DHp P F H){a:Addr}{o:HO}(hn:H a=none):Evo P F H (upd F a o) (upd H a o) where
 ext:=fun b u e=>by rw[au (fun z=>by subst z;rw[h.sub _ _ e]at hn;cases hn)];exact e
 hp:=⟨fun b u e=>by
   by_cases hb:b=a
   ·subst hb;rw[aG]at e ⊢;exact e
   ·rw[au hb]at e ⊢;exact h.sub b u e,
  fun b u e=>by rw[au (fun z=>by subst z;rw[h.pro _ _ e]at hn;cases hn)];exact h.pro b u e,
  fun b u e=>by rw[au (fun z=>by subst z;rw[h.pro _ _ e]at hn;cases hn)];exact h.dis b u e⟩
 keep:=fun b u e n=>by
  have hb:b≠a:=fun z=>by subst z;rw[e]at hn;cases hn
  rw[au hb,au hb];exact⟨e,n⟩
theorem Evo.side{P F H:Hp}(h:DHp P F H){a:Addr}{o:HO}(hn:H a=none):Evo P F H F (upd H a o) where
 ext:=Same.refl _
 hp:=⟨fun b u e=>by rw[au (fun z=>by subst z;rw[h.sub _ _ e]at hn;cases hn)];exact h.sub b u e,
  fun b u e=>by rw[au (fun z=>by subst z;rw[h.pro _ _ e]at hn;cases hn)];exact h.pro b u e,h.dis⟩
 keep:=fun b u e n=>by
  have hb:b≠a:=fun z=>by subst z;rw[e]at hn;cases hn
  rw[au hb];exact⟨e,n⟩
theorem DHp.free{P F H:Hp}(h:DHp P F H){a:Addr}(hn:H a=none):F a=none/\P a=none:=⟨h.sub.free hn,h.pro.free hn⟩
def RepS(K:Kq)(H F:Hp)(v:V)(d:D):Prop:=
 Rep K F v d\/∃(a:Addr) (o:OD) (u:HO),v=.ref a/\F a=none/\H a=some u/\ORep1 K F o u/\o.flat=true/\d=o.d
theorem RepS.evo{K:Kq}{P F H F' H':Hp}{v:V}{d:D}(r:RepS K H F v d)(e:Evo P F H F' H'):RepS K H' F' v d:=
 r.imp (Rep.same e.ext) fun⟨a,o,u,h1,h2,h3,h4,h5⟩=>⟨a,o,u,h1,(e.keep a u h3 h2).2,(e.keep a u h3 h2).1,h4.same e.ext,h5⟩
theorem DInv.slot{K:Kq}{P F H:Hp}{ρ:DF}{σ:St}(I:DInv K P F H ρ σ){i:Nat}{o:OD}{v:V}(hv:σ[i]?=some (some v))(h:(∃t,ρ[i]?=some (some (.own o t)))\/ρ[i]?=some (some (.bor o))):∃a,v=.ref a/\ORep K F H (fun b=>F b=none) o a:=by
 rcases h with⟨t,h⟩|h
 ·obtain⟨v',h1,a,rfl,h2,_⟩:=I.at h;rw[hv]at h1;cases h1;exact⟨a,rfl,h2.mono (Same.refl _) fun b u q hb=>⟨hb,q.1⟩⟩
 ·obtain⟨v',h1,a,rfl,h2⟩:=I.at h;rw[hv]at h1;cases h1;exact⟨a,rfl,h2.mono (Same.refl _) fun b u q hb=>⟨I.pro b u hb,I.dis b u hb⟩⟩
theorem RepS.now{K:Kq}{F H:Hp}{v:V}{d:D}(I:Same F H)(r:RepS K H F v d):Rep K H v d:=by
 rcases r with r|⟨a,o,u,rfl,_,h3,h4,hfl,rfl⟩
 ·exact r.same I
 ·exact h4.rep hfl h3 I
theorem RepS.slot{K:Kq}{P F H:Hp}{ρ:DF}{σ:St}(I:DInv K P F H ρ σ){i:Nat}{o:OD}{v:V}(hv:σ[i]?=some (some v))(h:(∃t,ρ[i]?=some (some (.own o t)))\/ρ[i]?=some (some (.bor o)))(hfl:o.flat=true):RepS K H F v o.d:=by obtain⟨a,rfl,h2⟩:=I.slot hv h;obtain⟨h3,u,h4,h5⟩:=(ORep.flat hfl).mp h2;exact .inr ⟨a,o,u,rfl,h3,h4,h5,hfl,rfl⟩
def tD(K:Kq)(f:DF->Option D):TE:=fun σ H Q=>∃P F ρ d,f ρ=some d/\DInv K P F H ρ σ/\∀v F' H',Evo P F H F' H'->Rep K F' v d->Q v H'
def tR(K:Kq)(f:DF->Option D):TE:=fun σ H Q=>∃P F ρ d,f ρ=some d/\DInv K P F H ρ σ/\∀v F' H',Evo P F H F' H'->RepS K H' F' v d->Q v H'
def tN(K:Kq)(f:DF->Option D):TE:=fun σ H Q=>∃P F ρ d,f ρ=some d/\DInv K P F H ρ σ/\∀v F' H',Evo P F H F' H'->Rep K H' v d->Q v H'
def tB'(K:Kq)(f:DF->Option Bool):TT:=fun σ H Q=>∃P F ρ b,f ρ=some b/\DInv K P F H ρ σ/\∀F' H',Evo P F H F' H'->Q b H'
def tL(K:Kq)(f:DF->Option (List D)):TA:=fun σ H Q=>∃P F ρ ds,f ρ=some ds/\DInv K P F H ρ σ/\∀vs F' H',Evo P F H F' H'->Reps K F' vs ds->Q vs H'
def PDE(X:Cx)(e:Expr)(f:DF->Option D):Prop:=PE X e (tD X.K f)
def PDR(X:Cx)(e:Expr)(f:DF->Option D):Prop:=PE X e (tR X.K f)
def PDN(X:Cx)(e:Expr)(f:DF->Option D):Prop:=PE X e (tN X.K f)
def PDT(X:Cx)(e:Expr)(f:DF->Option Bool):Prop:=PT X e (tB' X.K f)
def PDA(X:Cx)(es:List Expr)(f:DF->Option (List D)):Prop:=PA X es (tL X.K f)
section
variable{X:Cx}{e a b c:Expr}{es:List Expr}{pos:Pos}
theorem PE.imp{t t':TE}(h:PE X e t)(i:∀σ H Q,t' σ H Q->t σ H Q):PE X e t':=fun pz s σ H Q I q=>h pz s σ H Q I (i σ H Q q)
theorem PT.imp{t t':TT}(h:PT X e t)(i:∀σ H Q,t' σ H Q->t σ H Q):PT X e t':=fun pz s σ H Q I q=>h pz s σ H Q I (i σ H Q q)
theorem PA.imp{t t':TA}(h:PA X es t)(i:∀σ H Q,t' σ H Q->t σ H Q):PA X es t':=fun pos pz s σ H Q I q=>h pos pz s σ H Q I (i σ H Q q)
def getV(i:Nat)(ρ:DF):Option D:=match ρ[i]? with
 |some (some (.v d))=>some d
 |_=>none
def aa(i:Nat)(ρ:DF):Option D:=match ρ[i]? with
 |some (some (.v d))=>some d
 |some (some (.own o _))=>if o.flat=true then some o.d else none
 |some (some (.bor o))=>if o.flat=true then some o.d else none
 |_=>none
def ay(i:Nat)(ρ:DF):Option D:=match ρ[i]? with
 |some (some (.v d))=>some d
 |some (some (.own o _))=>some o.d
 |some (some (.bor o))=>some o.d
 |_=>none
theorem xC{i:Nat}{ρ:DF}{d:D}(h:getV i ρ=some d):ρ[i]?=some (some (.v d)):=by
 unfold getV at h;split at h
 ·rename_i q;cases h;exact q
 ·cases h
theorem ap(i:Nat)(h:PE X e (dg i)):PDE X e (getV i):=h.imp fun σ H Q=>un7 fun P F ρ d hf I k=>by
 obtain⟨v,h1,h2⟩:=I.at (xC hf)
 exact⟨v,h1,k v F H (Evo.refl I.toDHp) h2⟩
theorem ag(i:Nat)(h:PE X e (dg i)):PDR X e (aa i):=h.imp fun σ H Q=>un7 fun P F ρ d hf I k=>by
 unfold aa at hf;split at hf
 ·rename_i d' q;cases hf;obtain⟨v,h1,h2⟩:=I.at q;exact⟨v,h1,k v F H (Evo.refl I.toDHp) (.inl h2)⟩
 ·rename_i o t q;split at hf
  ·rename_i hfl;cases hf;obtain⟨v,h1,h2⟩:=I.at q;exact⟨v,h1,k v F H (Evo.refl I.toDHp) (RepS.slot I h1 (.inl ⟨t,q⟩) hfl)⟩
  ·cases hf
 ·rename_i o q;split at hf
  ·rename_i hfl;cases hf;obtain⟨v,h1,h2⟩:=I.at q;exact⟨v,h1,k v F H (Evo.refl I.toDHp) (RepS.slot I h1 (.inr q) hfl)⟩
  ·cases hf
 ·cases hf
theorem aF(i:Nat)(h:PE X e (dg i)):PDN X e (ay i):=h.imp fun σ H Q=>un7 fun P F ρ d hf I k=>by
 unfold ay at hf;split at hf
 ·rename_i d' q;cases hf;obtain⟨v,h1,h2⟩:=I.at q;exact⟨v,h1,k v F H (Evo.refl I.toDHp) (Rep.same I.sub h2)⟩
 ·rename_i o t q;cases hf;obtain⟨v,h1,_⟩:=I.at q;obtain⟨a,rfl,h2⟩:=I.slot h1 (.inl ⟨t,q⟩);exact⟨_,h1,k _ F H (Evo.refl I.toDHp) (h2.rep I.sub fun _ _ _ q=>q)⟩
 ·rename_i o q;cases hf;obtain⟨v,h1,_⟩:=I.at q;obtain⟨a,rfl,h2⟩:=I.slot h1 (.inr q);exact⟨_,h1,k _ F H (Evo.refl I.toDHp) (h2.rep I.sub fun _ _ _ q=>q)⟩
 ·cases hf
theorem PDE.r{f:DF->Option D}(h:PDE X e f):PDR X e f:=PE.imp h fun σ H Q=>un7 fun P F ρ d hf I k=>⟨P,F,ρ,d,hf,I,fun v F' H' ev r=>k v F' H' ev (.inl r)⟩
theorem PDR.n{f:DF->Option D}(h:PDR X e f):PDN X e f:=PE.imp h fun σ H Q=>un7 fun P F ρ d hf I k=>⟨P,F,ρ,d,hf,I,fun v F' H' ev r=>k v F' H' ev (r.now ev.hp.sub)⟩
theorem PDE.n{f:DF->Option D}(h:PDE X e f):PDN X e f:=h.r.n
theorem pB{d:D}{v:V}(h:PE X e (tC v))(r:∀F,Rep X.K F v d):PDE X e (fun _=>some d):=h.imp fun σ H Q=>un7 fun P F ρ d' hf I k=>by
 cases hf;exact k v F H (Evo.refl I.toDHp) (r F)
theorem ae{i j p}:PDE X (.Constant (.int i) j p) (fun _=>some (.int i)):=pB qL fun _=>.int
theorem fq{i j p}:PDE X (.Constant (.bool i) j p) (fun _=>some (.bl i)):=pB CQ fun _=>.bl
theorem eE{i j p}:PDE X (.Constant (.str i) j p) (fun _=>some (.str i)):=pB Aq fun _=>.str
theorem qt{j p}:PDE X (.Constant .none j p) (fun _=>some .non):=pB Ad fun _=>.non
def OpN2(K:Kq)(r:R2)(f:D->D->Option D):Prop:=
 ∀(P F H:Hp) (x y:V) (dx dy d:D) (Q:VK),f dx dy=some d->DHp P F H->Rep K H x dx->Rep K H y dy->(∀v F' H',Evo P F H F' H'->Rep K F' v d->Q v H')->r x y H Q
def d2(f:D->D->Option D)(fa fb:DF->Option D):DF->Option D:=fun ρ=>(fa ρ).bind fun x=>(fb ρ).bind fun y=>f x y
theorem uJ{K:Kq}{r:R2}{f:D->D->Option D}{fa fb:DF->Option D}(ho:OpN2 K r f):∀σ H Q,tD K (d2 f fa fb) σ H Q->tOp r (tN K fa) (tN K fb) σ H Q:=fun σ H Q=>un7 fun P F ρ d hf I k=>by
 unfold d2 at hf;cases ha:fa ρ with
 |none=>rw[ha]at hf;cases hf
 |some dx=>
  rw[ha]at hf;cases hb:fb ρ with
  |none=>rw[Ya,hb]at hf;cases hf
  |some dy=>
   rw[Ya,hb,Ya]at hf;refine⟨P,F,ρ,dx,ha,I,fun x F1 H1 e1 rx=>⟨P,F1,ρ,dy,hb,I.evo e1,fun y F2 H2 e2 ry=>?_⟩⟩;exact ho P F2 H2 x y dx dy d Q hf e2.hp (rx.same (e2.same e1.hp)) ry fun v F3 H3 e3 rv=>k v F3 H3 ((e1.trans e2).trans e3) rv
theorem uW{op:CmpOp}{r:R2}{f:D->D->Option D}{fa fb:DF->Option D}(ho:OpR X (compareOp op) r)(hf:OpN2 X.K r f)(ha:PDN X a fa)(hb:PDN X b fb)(hm:behindInMarks op b=false):PDE X (.Compare a [op] [b] pos) (d2 f fa fb):=
 (yQ ho ha hb hm).imp (uJ hf)
def oB(K:Kq)(r:R2)(f:D->D->Option D):Prop:=
 ∀(P F H:Hp) (ρ:DF) (σ:St) (x y:V) (dx dy d:D) (Q:VK),f dx dy=some d->DInv K P F H ρ σ->RepS K H F x dx->RepS K H F y dy->(∀v F' H',Evo P F H F' H'->Rep K F' v d->Q v H')->r x y H Q
theorem qh{K:Kq}{r:R2}{f:D->D->Option D}{fa fb:DF->Option D}(ho:oB K r f):∀σ H Q,tD K (d2 f fa fb) σ H Q->tOp r (tR K fa) (tR K fb) σ H Q:=fun σ H Q=>un7 fun P F ρ d hf I k=>by
 unfold d2 at hf;cases ha:fa ρ with
 |none=>rw[ha]at hf;cases hf
 |some dx=>
  rw[ha]at hf;cases hb:fb ρ with
  |none=>rw[Ya,hb]at hf;cases hf
  |some dy=>
   rw[Ya,hb,Ya]at hf;refine⟨P,F,ρ,dx,ha,I,fun x F1 H1 e1 rx=>⟨P,F1,ρ,dy,hb,I.evo e1,fun y F2 H2 e2 ry=>?_⟩⟩;exact ho P F2 H2 ρ σ x y dx dy d Q hf ((I.evo e1).evo e2) (rx.evo e2) ry fun v F3 H3 e3 rv=>k v F3 H3 ((e1.trans e2).trans e3) rv
theorem f_{op:Operator}{r:R2}{f:D->D->Option D}{fa fb:DF->Option D}(ho:OpR X (binaryOp op) r)(hf:oB X.K r f)(ha:PDR X a fa)(hb:PDR X b fb):PDE X (.BinOp a op b pos) (d2 f fa fb):=
 (CH ho ha hb).imp (qh hf)
def asB(f:DF->Option D):DF->Option Bool:=fun ρ=>match f ρ with
 |some (.bl b)=>some b
 |_=>none
theorem A5{f:DF->Option D}{ρ:DF}{b:Bool}(h:asB f ρ=some b):f ρ=some (.bl b):=by
 unfold asB at h;split at h
 ·rename_i q;cases h;exact q
 ·cases h
theorem gD{K:Kq}{t:TE}{f:DF->Option D}(h:∀σ H Q,tD K f σ H Q->t σ H Q):∀σ H Q,tB' K (asB f) σ H Q->wC t σ H Q:=fun σ H Q=>un7 fun P F ρ b hf I k=>by
 refine h σ H _ ⟨P,F,ρ,.bl b,A5 hf,I,fun v F' H' ev r=>?_⟩;cases r;exact⟨b,rfl,k F' H' ev⟩
theorem sj{op:CmpOp}{r:R2}{f:D->D->Option D}{fa fb:DF->Option D}(ho:OpR X (compareOp op) r)(hf:oB X.K r f)(ha:PDR X a fa)(hb:PDR X b fb)(hm:behindInMarks op b=false):PDT X (.Compare a [op] [b] pos) (asB (d2 f fa fb)):=
 (r9 ho ha hb hm).imp (gD (qh hf))
theorem iW{op:CmpOp}{r:R2}{f:D->D->Option D}{fa fb:DF->Option D}(ho:OpR X (compareOp op) r)(hf:OpN2 X.K r f)(ha:PDN X a fa)(hb:PDN X b fb)(hm:behindInMarks op b=false):PDT X (.Compare a [op] [b] pos) (asB (d2 f fa fb)):=
 (r9 ho ha hb hm).imp (gD (uJ hf))
theorem cx{f:DF->Option D}(h:PDE X e f)(he:∀whole,isTrue e X.env whole=(do let v <-whole;standAt e.pos;holding [v] (truthy v)):=by intro _;rfl):PDT X e (asB f):=
 (Bq h he).imp (gD (t:=tD X.K f) fun _ _ _ q=>q)
theorem ck{K:Kq}{H F:Hp}{x:V}{i:Int}(r:RepS K H F x (.int i)):x=.int i:=by
 rcases r with r|⟨_,o,_,_,_,_,_,_,z⟩
 ·cases r;rfl
 ·cases o<;>cases z
theorem i6{K:Kq}{H F:Hp}{x:V}{i:Str}(r:RepS K H F x (.str i)):x=.str i:=by
 rcases r with r|⟨_,o,_,_,_,_,_,_,z⟩
 ·cases r;rfl
 ·cases o<;>cases z
theorem dM{K:Kq}{P F H:Hp}{ρ:DF}{σ:St}{x:V}{ds:List D}(I:DInv K P F H ρ σ)(r:RepS K H F x (.lst ds)):∃a vs,x=.ref a/\SqL K H a vs/\Reps K F vs ds:=by
 rcases r with r|⟨a,o,u,rfl,_,h3,h4,hfl,z⟩
 ·cases r with|lst h q=>exact⟨_,_,rfl,I.sub.seq h,q⟩
 ·cases o with
  |lst ds'=>
   cases z;cases u with
   |lst vs=>exact⟨a,vs,rfl,SqL.of h3,h4⟩
   |_=>exact h4.elim
  |lst2 _=>cases hfl
  |tup2 _=>cases hfl
  |_=>cases z
theorem gF{K:Kq}{P F H:Hp}{ρ:DF}{σ:St}{x:V}{ds:List D}(I:DInv K P F H ρ σ)(r:RepS K H F x (.tup ds)):∃a vs,x=.ref a/\SqT K H a vs/\Reps K F vs ds:=by
 rcases r with r|⟨a,o,u,rfl,_,h3,h4,hfl,z⟩
 ·cases r with|tup h q=>exact⟨_,_,rfl,SqT.of (I.sub _ _ h),q⟩
 ·cases o<;>first|(cases z;done)|cases hfl
theorem uZ{K:Kq}{P F H:Hp}{ρ:DF}{σ:St}{x:V}{ds:List (List Key×D)}(I:DInv K P F H ρ σ)(r:RepS K H F x (.dT ds)):∃a vs,x=.ref a/\H a=some (.dT vs)/\RepsT K F vs ds:=by
 rcases r with r|⟨a,o,u,rfl,_,h3,h4,hfl,z⟩
 ·cases r with|dT h q=>exact⟨_,_,rfl,I.sub _ _ h,q⟩
 ·cases o with
  |dT ds'=>
   cases z;cases u with
   |dT vs=>exact⟨a,vs,rfl,h3,h4⟩
   |_=>exact h4.elim
  |lst2 _=>cases hfl
  |tup2 _=>cases hfl
  |_=>cases z
theorem mE{K:Kq}{P F H:Hp}{ρ:DF}{σ:St}{x:V}{C:Addr}{fs:List (Str×D)}(I:DInv K P F H ρ σ)(r:RepS K H F x (.ins C fs)):∃a dx vs,x=.ref a/\H a=some (.ins C dx vs)/\RepsF K F vs fs:=by
 rcases r with r|⟨a,o,u,rfl,_,h3,h4,hfl,z⟩
 ·cases r with|ins h q=>exact⟨_,_,_,rfl,I.sub _ _ h,q⟩
 ·cases o with
  |ins C' fs'=>
   cases z;cases u with
   |ins C'' dx vs=>(obtain⟨rfl,h4⟩:=h4;exact⟨a,dx,vs,rfl,h3,h4⟩)
   |_=>exact h4.elim
  |lst2 _=>cases hfl
  |tup2 _=>cases hfl
  |_=>cases z
def fI(C:Int->Int->Bool)(g:Int->Int->D):D->D->Option D
 |.int i,.int j=>if C i j=true then some (g i j)else none
 |_,_=>none
theorem mo{K:Kq}{C:Int->Int->Prop}{C':Int->Int->Bool}{g:Int->Int->V}{g':Int->Int->D}(hC:∀i j,C' i j=true->C i j)(hg:∀F i j,Rep K F (g i j) (g' i j)):oB K (rI C g) (fI C' g'):=by
 intro P F H ρ σ x y dx dy d Q hf I rx ry k;unfold fI at hf;split at hf
 ·rename_i i j;split at hf
  ·rename_i hc;cases hf;exact⟨i,j,ck rx,ck ry,hC i j hc,k _ F H (Evo.refl I.toDHp) (hg F i j)⟩
  ·cases hf
 ·cases hf
def fI0(g:Int->Int->D):D->D->Option D
 |.int i,.int j=>some (g i j)
 |_,_=>none
theorem nC{K:Kq}{g:Int->Int->V}{g':Int->Int->D}(hg:∀F i j,Rep K F (g i j) (g' i j)):oB K (rI0 g) (fI0 g'):=by
 intro P F H ρ σ x y dx dy d Q hf I rx ry k;unfold fI0 at hf;split at hf
 ·rename_i i j;cases hf;exact⟨i,j,ck rx,ck ry,k _ F H (Evo.refl I.toDHp) (hg F i j)⟩
 ·cases hf
def da:=fI0 fun i j=>.int (i-j)
def fL:=fI (fun i j=>decide ((-(2^64)<i/\i<2^64)\/(-(2^64)<j/\j<2^64))) fun i j=>.int (i*j)
def aS:=fI (fun _ j=>decide (0<j/\j<1073741824)) fun i j=>.int (i/j)
def aN:=fI (fun _ j=>decide (0<j)) fun i j=>.int (i%j)
def kQ:=fI (fun i j=>decide (0<=j/\j<=1000000/\i.natAbs<2^64)) fun i j=>.int (i^j.toNat)
def ltI:=fI0 fun i j=>.bl (decide (i<j))
def leI:=fI0 fun i j=>.bl (decide (i<=j))
def gtI:=fI0 fun i j=>.bl (decide (j<i))
def geI:=fI0 fun i j=>.bl (decide (j<=i))
theorem fm{fa fb:DF->Option D}(ha:PDR X a fa)(hb:PDR X b fb):PDE X (.BinOp a .Sub b pos) (d2 da fa fb):=f_ zW (nC fun _ _ _=>.int) ha hb
theorem gS{fa fb:DF->Option D}(ha:PDR X a fa)(hb:PDR X b fb):PDE X (.BinOp a .Mult b pos) (d2 fL fa fb):=f_ Az (mo (fun _ _ h=>by have q:=ZW h;exact q) fun _ _ _=>.int) ha hb
theorem bv{fa fb:DF->Option D}(ha:PDR X a fa)(hb:PDR X b fb):PDE X (.BinOp a .FloorDiv b pos) (d2 aS fa fb):=f_ xH (mo (fun _ _ h=>by have q:=ZW h;exact q) fun _ _ _=>.int) ha hb
theorem aZ{fa fb:DF->Option D}(ha:PDR X a fa)(hb:PDR X b fb):PDE X (.BinOp a .Mod b pos) (d2 aN fa fb):=f_ zT (mo (fun _ _ h=>by have q:=ZW h;exact q) fun _ _ _=>.int) ha hb
theorem ni{fa fb:DF->Option D}(ha:PDR X a fa)(hb:PDR X b fb):PDE X (.BinOp a .Pow b pos) (d2 kQ fa fb):=f_ Av (mo (fun _ _ h=>by have q:=ZW h;exact q) fun _ _ _=>.int) ha hb
end
def tO(K:Kq)(f:DF->Option OD):TE:=fun σ H Q=>∃P F ρ o,f ρ=some o/\DInv K P F H ρ σ /\
 ∀a F' H',Evo P F H F' H'->ORep K F' H' (fun b=>H b=none/\F' b=none) o a->Q (.ref a) H'
def PDO(X:Cx)(e:Expr)(f:DF->Option OD):Prop:=PE X e (tO X.K f)
def asO(f:DF->Option OD):DF->Option D:=fun ρ=>(f ρ).map OD.d
theorem Evo.back{P F H F' H':Hp}(h:DHp P F H)(e:Evo P F H F' H'){a:Addr}(n:H' a=none):H a=none:=by
 cases q:H a with
 |none=>rfl
 |some o=>rw[e.same h a o q]at n;cases n
open Classical in
noncomputable def vK (F H:Hp)(ow:Addr->Prop):Hp:=fun b=>if ow b then H b else F b
theorem c7{F H:Hp}{ow:Addr->Prop}{b:Addr}(h:ow b):vK F H ow b=H b:=if_pos h
theorem dI{F H:Hp}{ow:Addr->Prop}{b:Addr}(h:¬ow b):vK F H ow b=F b:=if_neg h
theorem bS{F H:Hp}{ow:Addr->Prop}(h:∀b,ow b->F b=none):Same F (vK F H ow):=fun b u e=>by
 by_cases q:ow b
 ·rw[h b q]at e;cases e
 ·rw[dI q];exact e
theorem Evo.freeze{P F H F' H':Hp}(h0:DHp P F H)(e:Evo P F H F' H')(ow:Addr->Prop)(hn:∀b,ow b->H b=none/\F' b=none):Evo P F H (vK F' H' ow) H' where
 ext:=e.ext.trans (bS fun b q=>(hn b q).2)
 hp:=⟨fun b u h=>by
   by_cases q:ow b
   ·rw[c7 q]at h;exact h
   ·rw[dI q]at h;exact e.hp.sub b u h,e.hp.pro,fun b u h=>by
   rw[dI fun q=>by rw[(h0.pro.free (hn b q).1)]at h;cases h];exact e.hp.dis b u h⟩
 keep:=fun b u h n=>by
  obtain⟨k1,k2⟩:=e.keep b u h n;refine⟨k1,?_⟩;rw[dI fun q=>by rw[(hn b q).1]at h;cases h];exact k2
theorem gn{F:Hp}{a:Addr}{o:HO}(h:F a=none):Same F (upd F a o):=fun b u e=>by rw[au (aH e h)];exact e
section
variable{X:Cx}{e:Expr}{es:List Expr}{st:Stmt}{sts bD:List Stmt}{pos:Pos}
theorem PDO.v{f:DF->Option OD}(h:PDO X e f):PDE X e (asO f):=PE.imp h fun σ H Q=>un7 fun P F ρ d hf I k=>by
 unfold asO at hf;cases q:f ρ with
 |none=>rw[q]at hf;cases hf
 |some o=>
  rw[q]at hf;cases hf;refine⟨P,F,ρ,o,q,I,fun a F' H' ev ho=>?_⟩;have hn:∀b,(H b=none/\F' b=none)->H b=none/\F' b=none:=fun _ q=>q
  exact k (.ref a) _ H' (ev.freeze I.toDHp (fun b=>H b=none/\F' b=none) hn) (ho.rep (bS fun b q=>q.2) fun b u q hb=>by rw[c7 q];exact hb)
def asL(f:DF->Option (List D)):DF->Option OD:=fun ρ=>(f ρ).map .lst
inductive RES where
 |nx (ρ:DF)|rt (x:DV) (ρ:DF)|bk (ρ:DF)|ct (ρ:DF)
abbrev Dd:=DF->Option D
abbrev Dw:=DF->Option RES
abbrev Dk:=DF->Option Bool
abbrev Dv:=DF->Option (List DV)
abbrev Dl:=DF->Option (List D)
abbrev Dm:=List DV->Option DV
abbrev Dq:=D->DF->Option DF
abbrev Do:=DF->Option OD
abbrev Dz:=OD->List DV->Option (OD×D)
abbrev Dy:=D->D->Option D
def EndsD(K:Kq)(P F:Hp)(E:ie):RES->Prop
 |.nx ρ=>∀σ F' H',Same F F'->DInv K P F' H' ρ σ->E.nx σ H'
 |.bk ρ=>∀σ F' H',Same F F'->DInv K P F' H' ρ σ->E.bk σ H'
 |.ct ρ=>∀σ F' H',Same F F'->DInv K P F' H' ρ σ->E.ct σ H'
 |.rt x ρ=>∀v σ F' H',Same F F'->DInv K P F' H' ρ σ->DVRep K P F' H' p0 x v->E.rt v H'
theorem EndsD.ext{K:Kq}{P F F1:Hp}{E:ie}{r:RES}(h:EndsD K P F E r)(e:Same F F1):EndsD K P F1 E r:=by
 cases r with
 |nx ρ=>exact fun σ F' H' e' I=>h σ F' H' (e.trans e') I
 |bk ρ=>exact fun σ F' H' e' I=>h σ F' H' (e.trans e') I
 |ct ρ=>exact fun σ F' H' e' I=>h σ F' H' (e.trans e') I
 |rt x ρ=>exact fun v σ F' H' e' I r=>h v σ F' H' (e.trans e') I r
def tS(K:Kq)(g:Dw):TS:=fun E σ H=>∃P F ρ r,g ρ=some r/\DInv K P F H ρ σ/\EndsD K P F E r
def PD1(X:Cx)(st:Stmt)(g:Dw):Prop:=PS X st (tS X.K g)
def PDS(X:Cx)(sts:List Stmt)(g:Dw):Prop:=PSs X sts (tS X.K g)
theorem PS.imp{t t':TS}(h:PS X st t)(i:∀E σ H,t' E σ H->t E σ H):PS X st t':=fun pz s σ H E I q=>h pz s σ H E I (i E σ H q)
theorem PSs.imp{t t':TS}(h:PSs X sts t)(i:∀E σ H,t' E σ H->t E σ H):PSs X sts t':=fun pz s σ H E I q=>h pz s σ H E I (i E σ H q)
def dNx:DF->Option RES:=fun ρ=>some (.nx ρ)
theorem Da{K:Kq}:∀E σ H,tS K dNx E σ H->E.nx σ H:=fun E σ H=>un7 fun P F ρ r hg I k=>by
 cases hg;exact k σ F H (Same.refl _) I
theorem aO:PDS X [] dNx:=PSs.imp xL Da
def am(g h:Dw):DF->Option RES:=fun ρ=>match g ρ with
 |some (.nx ρ')=>h ρ'
 |r=>r
theorem af{g h:Dw}(h1:PD1 X st g)(h2:PDS X bD h):PDS X (st::bD) (am g h):=PSs.imp (ot h1 h2) fun E σ H=>un7 fun P F ρ r hg I k=>by
 unfold am at hg;split at hg
 ·rename_i ρ' q;exact⟨P,F,ρ,_,q,I,fun σ' F' H' e I'=>⟨P,F',ρ',r,hg,I',k.ext e⟩⟩
 ·rename_i q;refine⟨P,F,ρ,r,hg,I,?_⟩;cases r with
  |nx ρ'=>exact absurd hg (q ρ')
  |bk ρ=>exact k
  |ct ρ=>exact k
  |rt x ρ=>exact k
theorem aj{g:Dw}(h1:PD1 X st g):PDS X [st] g:=PSs.imp (nc h1) fun _ _ _ q=>q
def bw(f:Dd):DF->Option RES:=fun ρ=>(f ρ).map fun d=>.rt (.v d) ρ
theorem a_{f:Dd}(h:PDE X e f):PD1 X (.Return (some e) pos) (bw f):=PS.imp (l_ h) fun E σ H=>un7 fun P F ρ r hg I k=>by
 unfold bw at hg;cases q:f ρ with
 |none=>rw[q]at hg;cases hg
 |some d=>
  rw[q]at hg;cases hg;exact⟨P,F,ρ,d,q,I,fun v F' H' ev rv=>k v σ F' H' ev.ext (I.evo ev) rv⟩
def db(f:Do):DF->Option RES:=fun ρ=>(f ρ).map fun o=>.rt (.own o none) ρ
theorem cL{f:Do}(h:PDO X e f):PD1 X (.Return (some e) pos) (db f):=PS.imp (l_ h) fun E σ H=>un7 fun P F ρ r hg I k=>by
 unfold db at hg;cases q:f ρ with
 |none=>rw[q]at hg;cases hg
 |some o=>
  rw[q]at hg;cases hg;exact⟨P,F,ρ,o,q,I,fun a F' H' ev ho=>k (.ref a) σ F' H' ev.ext (I.evo ev) ⟨a,rfl,ho.mono (Same.refl _) fun b u q hb=>⟨hb,q.2,I.pro.free q.1,trivial⟩,fun _ z=>nomatch z⟩⟩
def e6(i:Nat):DF->Option RES:=fun ρ=>match ρ[i]? with
 |some (some x)=>some (.rt x ρ)
 |_=>none
theorem dJ(i:Nat)(h:PE X e (dg i)):PD1 X (.Return (some e) pos) (e6 i):=PS.imp (l_ h) fun E σ H=>un7 fun P F ρ r hg I k=>by
 unfold e6 at hg;split at hg
 ·rename_i x q;cases hg;obtain⟨v,h1,h2⟩:=I.at q;exact⟨v,h1,k v σ F H (Same.refl _) I h2⟩
 ·cases hg
theorem df{α:Type}{l:List α}{i j:Nat}{x y:α}(h:(l.set i x)[j]?=some y):(i=j/\y=x/\i<l.length)\/(i≠j/\l[j]?=some y):=by
 by_cases hj:i=j
 ·subst hj;have hl:i<l.length:=by have:=(Yk.mp h).1;rwa [YO]at this
  rw[YZ hl]at h;exact .inl ⟨rfl,(Yr h).symm,hl⟩
 ·rw[YL hj]at h;exact .inr ⟨hj,h⟩
theorem DInv.setO{K:Kq}{P F H:Hp}{ρ:DF}{σ:St}(I:DInv K P F H ρ σ)(i:Nat){v:V}{x:DV}(nw:Addr->Prop)(hn:∀(j:Nat) (y:DV) (w:V) (O:Addr->Option Nat),j≠i->ρ[j]?=some (some y)->DVRep K P F H (fun b=>O b=some j) y w->DVRep K P F H (fun b=>O b=some j/\¬nw b) y w)(r:DVRep K P F H nw x v) :
  DInv K P F H (ρ.set i (some x)) (σ.set i (some v)):=by
 obtain⟨O,h⟩:=I.rep;refine⟨I.toDHp,by rw[YO,YO];exact I.len,?_⟩
 classical
 refine⟨fun b=>if nw b then some i else if O b=some i then none else O b,fun j y hj=>?_⟩;rcases df hj with⟨rfl,e,hl⟩|⟨hij,hj'⟩
 ·cases e;refine⟨v,by rw[YZ (by rw[<-I.len];exact hl)],r.imp fun b u _ _ _ q=>if_pos q⟩
 ·obtain⟨w,h1,h2⟩:=h j y hj';refine⟨w,by rw[YL hij];exact h1,(hn j y w O (ZL hij) hj' h2).imp fun b u _ _ _ q=>?_⟩;show(if nw b then some i else if O b=some i then none else O b)=some j;rw[if_neg q.2,if_neg (by rw[q.1];intro z;exact hij (Yr z).symm),q.1]
theorem DInv.setV{K:Kq}{P F H:Hp}{ρ:DF}{σ:St}(I:DInv K P F H ρ σ)(i:Nat){v:V}{d:D}(r:Rep K F v d):DInv K P F H (ρ.set i (some (.v d))) (σ.set i (some v)):=
 I.setO i (fun _=>False) (fun j y w O _ _ q=>q.imp fun b u _ _ _ z=>⟨z,id⟩) r
theorem DInv.setN{K:Kq}{P F H F' H':Hp}{ρ:DF}{σ:St}(I:DInv K P F H ρ σ)(ev:Evo P F H F' H')(i:Nat){a:Addr}{o:OD}(ho:ORep K F' H' (fun b=>H b=none/\F' b=none) o a):DInv K P F' H' (ρ.set i (some (.own o none))) (σ.set i (some (.ref a))):=by
 obtain⟨O,h⟩:=I.rep;refine⟨ev.hp,by rw[YO,YO];exact I.len,?_⟩
 classical
 refine⟨fun b=>if H b=none then some i else if O b=some i then none else O b,fun j y hj=>?_⟩;rcases df hj with⟨rfl,e,hl⟩|⟨hij,hj'⟩
 ·cases e;refine⟨.ref a,by rw[YZ (by rw[<-I.len];exact hl)],a,rfl,ho.mono (Same.refl _) fun b u q hb=>⟨hb,q.2,I.pro.free q.1,if_pos q.1⟩,fun _ z=>nomatch z⟩
 ·obtain⟨w,h1,h2⟩:=h j y hj';refine⟨w,by rw[YL hij];exact h1,?_⟩;have h3:DVRep K P F H (fun b=>(if H b=none then some i else if O b=some i then none else O b)=some j) y w:=h2.imp fun b u _ _ hb q=>by
   show(if H b=none then some i else if O b=some i then none else O b)=some j;rw[if_neg (by rw[hb];simp),if_neg (by rw[q];intro z;exact hij (Yr z).symm),q]
  exact h3.evo ev
def setV(i:Nat)(d:D)(ρ:DF):Option DF:=some (ρ.set i (some (.v d)))
def aE(i:Nat)(f:Dd):DF->Option RES:=fun ρ=>(f ρ).map fun d=>.nx (ρ.set i (some (.v d)))
theorem w6{K:Kq}{i:Nat}{f:Dd}:∀E σ H,tS K (aE i f) E σ H->u8 (tD K f) (io i) E σ H:=fun E σ H=>un7 fun P F ρ r hg I k=>by
 unfold aE at hg;cases q:f ρ with
 |none=>rw[q]at hg;cases hg
 |some d=>
  rw[q]at hg;cases hg;exact⟨P,F,ρ,d,q,I,fun v F' H' ev rv=>k _ F' H' ev.ext ((I.evo ev).setV i rv)⟩
theorem aK{i:Nat}{x:Str}{pos':Pos}{f:Dd}(hN:X.N.Nodup)(hi:X.N[i]?=some x)(hx:Loc X.env.scope x)(he:PDE X e f)(hs:swapsWith e (some (.Name x pos')) pos.line X.env=pure false:=by rfl)(hf:X.fn x=true\/X.env.scope.names.lookup x=some .local:=by first|exact .inl rfl|exact .inr rfl|assumption) :
  PD1 X (.Assign [.Name x pos'] e pos) (aE i f):=PS.imp (qu hN hi hx he hs hf) w6
def bB(i:Nat)(f:Do):DF->Option RES:=fun ρ=>(f ρ).map fun o=>.nx (ρ.set i (some (.own o none)))
theorem Ay{K:Kq}{i:Nat}{f:Do}:∀E σ H,tS K (bB i f) E σ H->u8 (tO K f) (io i) E σ H:=fun E σ H=>un7 fun P F ρ r hg I k=>by
 unfold bB at hg;cases q:f ρ with
 |none=>rw[q]at hg;cases hg
 |some o=>
  rw[q]at hg;cases hg;exact⟨P,F,ρ,o,q,I,fun a F' H' ev ho=>k _ F' H' ev.ext (I.setN ev i ho)⟩
theorem bO{i:Nat}{x:Str}{pos':Pos}{f:Do}(hN:X.N.Nodup)(hi:X.N[i]?=some x)(hx:Loc X.env.scope x)(he:PDO X e f)(hs:swapsWith e (some (.Name x pos')) pos.line X.env=pure false:=by rfl)(hf:X.fn x=true\/X.env.scope.names.lookup x=some .local:=by first|exact .inl rfl|exact .inr rfl|assumption) :
  PD1 X (.Assign [.Name x pos'] e pos) (bB i f):=PS.imp (qu hN hi hx he hs hf) Ay
def u4(i:Nat)(g:Dw):DF->Option RES:=fun ρ=>match ρ[i]? with
 |some (some (.own o none))=>g (ρ.set i (some (.v o.d)))
 |some (some (.v d))=>g ρ
 |_=>none
theorem DInv.frz{K:Kq}{P F H:Hp}{ρ:DF}{σ:St}(I:DInv K P F H ρ σ){i:Nat}{o:OD}{t:Option Addr}(h:ρ[i]?=some (some (.own o t))):∃F',Same F F'/\DInv K P F' H (ρ.set i (some (.v o.d))) σ:=by
 obtain⟨O,hr⟩:=I.rep;have hn:∀b,(F b=none/\P b=none/\O b=some i)->F b=none:=fun b q=>q.1
 refine⟨vK F H (fun b=>F b=none/\P b=none/\O b=some i),bS hn,⟨fun b u q=>?_,I.pro,fun b u q=>?_⟩,by rw[YO];exact I.len,O,fun j y hj=>?_⟩
 ·by_cases c:F b=none/\P b=none/\O b=some i
  ·rw[c7 (ow:=fun b=>F b=none/\P b=none/\O b=some i) c]at q;exact q
  ·rw[dI (ow:=fun b=>F b=none/\P b=none/\O b=some i) c]at q;exact I.sub b u q
 ·rw[dI (ow:=fun b=>F b=none/\P b=none/\O b=some i) fun c=>by rw[c.2.1]at q;cases q];exact I.dis b u q
 ·rcases df hj with⟨rfl,e,hl⟩|⟨hij,hj'⟩
  ·cases e;obtain⟨v,h1,a,rfl,h2,_⟩:=hr i _ h;exact⟨_,h1,h2.rep (bS hn) fun b u q hb=>by rw[c7 (ow:=fun b=>F b=none/\P b=none/\O b=some i) q];exact hb⟩
  ·obtain⟨v,h1,h2⟩:=hr j y hj';refine⟨v,h1,?_⟩;cases y with
   |v d=>exact Rep.same (bS hn) h2
   |own o' t'=>
    obtain⟨a,rfl,h3,ht⟩:=h2;exact⟨a,rfl,h3.mono (bS hn) fun b u q hb=>⟨hb,by
     rw[dI (ow:=fun b=>F b=none/\P b=none/\O b=some i) fun c=>by rw[q.2.2]at c;exact hij (Yr c.2.2).symm];exact q.1,q.2⟩,ht⟩
   |bor o'=>
    obtain⟨a,rfl,h3⟩:=h2;exact⟨a,rfl,h3.mono (bS hn) fun b u q hb=>⟨hb,q⟩⟩
theorem A6{K:Kq}{i:Nat}{g:Dw}:∀E σ H,tS K (u4 i g) E σ H->tS K g E σ H:=fun E σ H=>un7 fun P F ρ r hg I k=>by
 unfold u4 at hg;split at hg
 ·rename_i o q;obtain⟨F',e,I'⟩:=I.frz q;exact⟨P,F',_,r,hg,I',k.ext e⟩
 ·exact⟨P,F,ρ,r,hg,I,k⟩
 ·cases hg
theorem yj(i:Nat){g:Dw}(h:PD1 X st g):PD1 X st (u4 i g):=PS.imp h A6
def gQ:DF->Option RES:=fun _=>none
theorem gl:PD1 X st gQ:=PS.imp vP fun _ _ _ ⟨_,_,_,_,h,_⟩=>by cases h
def ro(f:Dd):DF->Option RES:=fun ρ=>(f ρ).map fun _=>.nx ρ
theorem yZ{f:Dd}(h:PDE X e f)(hs:swapsWith e none pos.line X.env=pure false:=by rfl):PD1 X (.Expr e pos) (ro f):=PS.imp (eS h hs) fun E σ H=>un7 fun P F ρ r hg I k=>by
 unfold ro at hg;cases q:f ρ with
 |none=>rw[q]at hg;cases hg
 |some d=>
  rw[q]at hg;cases hg;exact⟨P,F,ρ,d,q,I,fun v F' H' ev _=>k σ F' H' ev.ext (I.evo ev)⟩
def dIf(c:Dk)(g h:Dw):DF->Option RES:=fun ρ=>(c ρ).bind fun b=>if b=true then g ρ else h ρ
theorem bH{c:Expr}{a b:List Stmt}{fc:Dk}{g h:Dw}(hc:PDT X c fc)(ha:PDS X a g)(hb:PDS X b h):PD1 X (.If c a b pos) (dIf fc g h):=PS.imp (CO hc ha hb) fun E σ H=>un7 fun P F ρ r hg I k=>by
 unfold dIf at hg;cases q:fc ρ with
 |none=>rw[q]at hg;cases hg
 |some b=>
  rw[q,Ya]at hg;refine⟨P,F,ρ,b,q,I,fun F' H' ev=>?_⟩;cases b with
  |true=>
   rw[if_pos rfl]at hg ⊢;exact⟨P,F',ρ,r,hg,I.evo ev,k.ext ev.ext⟩
  |false=>
   rw[if_neg Yj]at hg ⊢;exact⟨P,F',ρ,r,hg,I.evo ev,k.ext ev.ext⟩
def w9(K:Kq)(P:Hp)(J:It)(F:Hp)(ds:List D):Prop:=
 ∀F' H',Same F F'->DHp P F' H'->∀i:Nat,(∀d,ds[i]?=some d->J.go i H'/\∀x H2,J.yld i H' x H2->∃F2,Evo P F' H' F2 H2/\Rep K F2 x d)/\(ds.length<=i->J.stop i H')
def tI(K:Kq)(f:Dl):TI:=fun σ H R=>∃P F ρ ds,f ρ=some ds/\DInv K P F H ρ σ/\∀(J:It) F' H',Evo P F H F' H'->w9 K P J F' ds->R J H'
def PDI(X:Cx)(tg iter:Expr)(f:Dl):Prop:=PI X tg iter (tI X.K f)
theorem PI.imp{tg iter:Expr}{t t':TI}(h:PI X tg iter t)(i:∀σ H R,t' σ H R->t σ H R):PI X tg iter t':=fun pz s σ H R I q=>h pz s σ H R I (i σ H R q)
def tG(K:Kq)(is:List Nat)(st:Dq):TG:=fun v σ H Q=>∃P F ρ d ρ',st d ρ=some ρ'/\DInv K P F H ρ σ/\Rep K F v d/\∀σ' F' H',Evo P F H F' H'->DInv K P F' H' ρ' σ'->σ'.length=σ.length->(∀j,j∉is->σ'[j]?=σ[j]?)->Q σ' H'
def PDG(X:Cx)(tg:Expr)(is:List Nat)(st:Dq):Prop:=PG X tg (tG X.K is st)
theorem PG.imp{tg:Expr}{t t':TG}(h:PG X tg t)(i:∀v σ H Q,t' v σ H Q->t v σ H Q):PG X tg t':=fun pz s σ H v u Q I r q=>h pz s σ H v u Q I r (i v σ H Q q)
theorem aD{i:Nat}{x:Str}(hN:X.N.Nodup)(hi:X.N[i]?=some x)(hx:Loc X.env.scope x)(hf:X.fn x=true\/X.env.scope.names.lookup x=some .local:=by first|exact .inl rfl|exact .inr rfl|assumption):PDG X (.Name x pos) [i] (setV i):=
 PG.imp (cS hN hi hx hf) fun v σ H Q hh_=>by
  obtain⟨P,F,ρ,d,ρ',hs,I,r,k⟩:=hh_;cases hs;exact k _ F H (Evo.refl I.toDHp) (I.setV i r) (YO ..) fun j hj=>by rw[YL (fun z=>hj (by rw[z];exact List.mem_singleton_self _))]
def gG(st:Dq)(body:Dw):List D->DF->Option RES
 |[],ρ=>some (.nx ρ)
 |d::ds,ρ=>match st d ρ with
  |none=>none
  |some ρ1=>match body ρ1 with
   |some (.nx ρ')=>gG st body ds ρ'
   |some (.ct ρ')=>gG st body ds ρ'
   |some (.bk ρ')=>some (.nx ρ')
   |r=>r
def dD(it:Dl)(st:Dq)(body:Dw):DF->Option RES:=fun ρ=>(it ρ).bind fun ds=>gG st body ds ρ
theorem cy{tg iter:Expr}{body:List Stmt}{f:Dl}{is:List Nat}{st:Dq}{g:Dw}(hp:PassesOwn (model X.prog X.w) X.A X.env X.xe)(hc:X.calm=true)(hi:PDI X tg iter f)(hg:PDG X tg is st)(hb:PDS X body g)
  (hs:∀x,foldedSetIterable iter X.env x=pure x:=by intro _;rfl):PD1 X (.For tg iter body [] pos) (dD f st g):=PS.imp (wT hp hc hi hg hb hs) fun E σ H=>un7 fun P F ρ r hr I k=>by
 unfold dD at hr;cases q:f ρ with
 |none=>rw[q]at hr;cases hr
 |some ds=>
  rw[q,Ya]at hr;refine⟨P,F,ρ,ds,q,I,fun J F1 H1 ev ok=>?_⟩;refine⟨fun i m σ' H'=>m=ds.length-i/\i<=ds.length/\∃F' ρ',Same F1 F'/\DInv X.K P F' H' ρ' σ'/\gG st g (ds.drop i) ρ'=some r,⟨_,rfl,YF _,F1,ρ,Same.refl _,I.evo ev,hr⟩,?_⟩;rintro i m σ' H' ⟨rfl,hil,F',ρ',se,I',hf⟩;obtain⟨ok1,ok2⟩:=ok F' H' se I'.toDHp i;by_cases hlt:i<ds.length
  ·have hd:ds[i]?=some ds[i]:=Yi hlt;obtain⟨go,yl⟩:=ok1 _ hd;have hdrop:ds.drop i=ds[i]::ds.drop (i+1):=Xe hlt;rw[hdrop]at hf;unfold gG at hf;cases hst:st ds[i] ρ' with
   |none=>rw[hst]at hf;cases hf
   |some ρ1=>
    rw[hst]at hf;dsimp only at hf;have hE:Same F F':=ev.ext.trans se;refine .inr ⟨go,fun σ2 H2=>∃F2 ρ2,Same F1 F2/\DInv X.K P F2 H2 ρ2 σ2/\gG st g (ds.drop (i+1)) ρ2=some r,fun σ2 H2 ⟨F2,ρ2,s2,I2,hf2⟩=>⟨ds.length-(i+1),by omega,rfl,hlt,F2,ρ2,s2,I2,hf2⟩,fun x H2 hy=>?_⟩;obtain⟨F2,ev2,rx⟩:=yl x H2 hy;refine⟨P,F2,ρ',ds[i],ρ1,hst,I'.evo ev2,rx,fun σ3 F3 H3 ev3 I3 _ _=>?_⟩;have s13:Same F1 F3:=se.trans (ev2.ext.trans ev3.ext);cases hb':g ρ1 with
    |none=>rw[hb']at hf;cases hf
    |some res=>
     rw[hb']at hf;refine⟨P,F3,ρ1,res,hb',I3,?_⟩;cases res with
     |nx ρ4=>exact fun σ4 F4 H4 e4 I4=>⟨F4,ρ4,s13.trans e4,I4,hf⟩
     |ct ρ4=>exact fun σ4 F4 H4 e4 I4=>⟨F4,ρ4,s13.trans e4,I4,hf⟩
     |bk ρ4=>
      cases hf;exact fun σ4 F4 H4 e4 I4=>k σ4 F4 H4 (ev.ext.trans (s13.trans e4)) I4
     |rt x4 ρ4=>
      cases hf;exact fun v4 σ4 F4 H4 e4 I4 r4=>k v4 σ4 F4 H4 (ev.ext.trans (s13.trans e4)) I4 r4
  ·have hz:ds.drop i=[]:=List.drop_eq_nil_of_le (by omega);rw[hz]at hf;cases hf;exact .inl ⟨ok2 (by omega),k σ' F' H' (ev.ext.trans se) I'⟩
def eR(c:Dk)(body:Dw):Nat->DF->Option RES
 |0,_=>none
 |n+1,ρ=>match c ρ with
  |none=>none
  |some false=>some (.nx ρ)
  |some true=>match body ρ with
   |some (.nx ρ')=>eR c body n ρ'
   |some (.ct ρ')=>eR c body n ρ'
   |some (.bk ρ')=>some (.nx ρ')
   |r=>r
theorem vF(n:Nat){c:Expr}{body:List Stmt}{fc:Dk}{g:Dw}(hp:PassesOwn (model X.prog X.w) X.A X.env X.xe)(hc:PDT X c fc)(hb:PDS X body g):PD1 X (.While c body [] pos) (eR fc g n):=PS.imp (vJ hp hc hb) fun E σ H=>un7 fun P F ρ r hr I k=>by
 refine⟨fun m σ' H'=>∃F' ρ',Same F F'/\DInv X.K P F' H' ρ' σ'/\eR fc g m ρ'=some r,⟨n,F,ρ,Same.refl _,I,hr⟩,?_⟩;rintro m σ' H' ⟨F',ρ',se,I',hf⟩;cases m with
 |zero=>cases hf
 |succ m=>
  unfold eR at hf;cases hc':fc ρ' with
  |none=>rw[hc']at hf;cases hf
  |some b=>
   rw[hc']at hf;refine⟨P,F',ρ',b,hc',I',fun F2 H2 ev2=>?_⟩;cases b with
   |false=>
    rw[if_neg Yj];cases hf;exact k σ' F2 H2 (se.trans ev2.ext) (I'.evo ev2)
   |true=>
    rw[if_pos rfl];refine⟨fun σ3 H3=>∃F3 ρ3,Same F F3/\DInv X.K P F3 H3 ρ3 σ3/\eR fc g m ρ3=some r,fun σ3 H3 h=>⟨m,ZP m,h⟩,?_⟩;have s2:Same F F2:=se.trans ev2.ext;dsimp only at hf;cases hb':g ρ' with
    |none=>rw[hb']at hf;cases hf
    |some res=>
     rw[hb']at hf;refine⟨P,F2,ρ',res,hb',I'.evo ev2,?_⟩;cases res with
     |nx ρ4=>exact fun σ4 F4 H4 e4 I4=>⟨F4,ρ4,s2.trans e4,I4,hf⟩
     |ct ρ4=>exact fun σ4 F4 H4 e4 I4=>⟨F4,ρ4,s2.trans e4,I4,hf⟩
     |bk ρ4=>
      cases hf;exact fun σ4 F4 H4 e4 I4=>k σ4 F4 H4 (s2.trans e4) I4
     |rt x4 ρ4=>
      cases hf;exact fun v4 σ4 F4 H4 e4 I4 r4=>k v4 σ4 F4 H4 (s2.trans e4) I4 r4
end
def gd(F H:Hp):Hp:=fun a=>match F a with
 |none=>H a
 |some _=>none
theorem gE{F H:Hp}{a:Addr}{o:HO}:gd F H a=some o↔F a=none/\H a=some o:=by
 unfold gd;cases q:F a with
 |none=>simp
 |some u=>simp
theorem ip{F H:Hp}(s:Same F H):DHp (gd F H) F H:=⟨s,fun a o e=>(gE.mp e).2,fun a o e=>(gE.mp e).1⟩
theorem DHp.gd{P F H F' H':Hp}(h:DHp P F H)(e:Same F F')(g:DHp (gd F H) F' H'):Evo P F H F' H' where
 ext:=e
 hp:=⟨g.sub,fun a o q=>g.pro a o (gE.mpr ⟨h.dis a o q,h.pro a o q⟩),fun a o q=>g.dis a o (gE.mpr ⟨h.dis a o q,h.pro a o q⟩)⟩
 keep:=fun a o q n=>⟨g.pro a o (gE.mpr ⟨n,q⟩),g.dis a o (gE.mpr ⟨n,q⟩)⟩
theorem Evo.change{P P1 F H F' H':Hp}(e:Evo P F H F' H')(h:DHp P1 F H):Evo P1 F H F' H':=
 ⟨e.ext,⟨e.hp.sub,fun a o q=>(e.keep a o (h.pro a o q) (h.dis a o q)).1,fun a o q=>(e.keep a o (h.pro a o q) (h.dis a o q)).2⟩,e.keep⟩
def zz:DV->Bool
 |.own _ _=>true
 |_=>false
inductive DVs (K:PySem.W.Frag) (P F H:Hp):List DV->List V->Prop
 |nil:DVs K P F H [] []
 |cons {x:DV}{v:V}{xs:List DV}{vs:List V}:zz x=false->DVRep K P F H p0 x v->DVs K P F H xs vs->DVs K P F H (x::xs) (v::vs)
theorem DVs.length{K:Kq}{P F H:Hp}{xs:List DV}{vs:List V}(h:DVs K P F H xs vs):xs.length=vs.length:=by
 induction h with
 |nil=>rfl
 |cons _ _ _ ih=>exact Zs Nat.succ ih
theorem DVs.get{K:Kq}{P F H:Hp}{xs:List DV}{vs:List V}{i:Nat}{x:DV}(h:DVs K P F H xs vs)(e:xs[i]?=some x):zz x=false/\∃v,vs[i]?=some v/\DVRep K P F H p0 x v:=by
 induction h generalizing i with
 |nil=>exact nomatch e
 |cons h r _ ih=>
  cases i with
  |zero=>obtain rfl:=Yr e;exact⟨h,_,rfl,r⟩
  |succ i=>exact ih e
def spD(K:Kq)(m:Dm):Sp:=fun vs H Q _=>∃P F xs x,m xs=some x/\DHp P F H/\DVs K P F H xs vs/\∀v F' H',Same F F'->DHp P F' H'->DVRep K P F' H' p0 x v->Q v H'
def aM(n p:Nat)(xs:List DV):DF:=xs.map some++List.replicate (n-p) none
def dC:Option RES->Option DV
 |some (.rt x _)=>some x
 |some (.nx _)=>some (.v .non)
 |_=>none
def mOf(n p:Nat)(g:Dw):List DV->Option DV:=fun xs=>if xs.length=p then dC (g (aM n p xs))else none
theorem jU{n p:Nat}{xs:List DV}{i:Nat}{x:DV}(h:(aM n p xs)[i]?=some (some x)):xs[i]?=some x:=by
 unfold aM at h;by_cases hi:i<xs.length
 ·rw[Zq (by simpa using hi),Yu]at h;cases q:xs[i]? with
  |none=>rw[q]at h;cases h
  |some y=>rw[q]at h;cases h;rfl
 ·rw[Zp (by simpa using hi),Xm]at h;split at h<;>cases h
theorem hV{N:List Str}{vs:List V}{i:Nat}{v:V}(h:vs[i]?=some v):(start N vs)[i]?=some (some v):=by unfold start;have hi:i<vs.length:=(Yk.mp h).1;rw[Zq (by simpa using hi),Yu,h];rfl
theorem DInv.start{K:Kq}{P F H:Hp}{xs:List DV}{vs:List V}(N:List Str)(p:Nat)(h:DHp P F H)(r:DVs K P F H xs vs)(hp:xs.length=p):DInv K P F H (aM N.length p xs) (start N vs):=by
 refine⟨h,?_,fun _=>none,fun i x e=>?_⟩
 ·unfold aM L2.start;rw[Yt,Yt,Ye,Ye,YG,YG,r.length,<-r.length,hp]
 ·obtain⟨ho,v,h1,h2⟩:=r.get (jU e);refine⟨v,hV h1,?_⟩;cases x with
  |own o t=>cases ho
  |v d=>exact h2
  |bor o=>exact h2
theorem Fun.okD{P:Program}{w:World}{K:Kq}{mg:Ks}{base:Heap}{x qual:Str}{st:Stmt}{f:Addr}{fd:FuncData}{N ps:List Str}{k:Nat}{g:Dw}(F:Fun K x qual st f fd)(S:FnScope N ps (defScope st))
  (hbody:∀(cdv:Value) (A:Around) (outer:List Env) (s:Shared) (H:Hp) (E:XK),Room k (A.deeper (envOfC qual (defScope st) s.heap.objs.size f cdv))->
   PDS (pi CX0 P w K mg base N qual (defScope st) f cdv A outer s H E).nox (defBody st) g):FnOk P w K mg base CX0 (k+1) f fd ps (spD K (mOf N.length ps.length g)):=by
 have lens:∀vs H Q E,spD K (mOf N.length ps.length g) vs H Q E->vs.length=ps.length:=fun vs H Q E hh_=>by
  obtain⟨P',F',xs,x',hm,hp,hv,_⟩:=hh_;unfold mOf at hm;split at hm
  ·rename_i h;rw[<-hv.length];exact h
  ·cases hm
 refine F.ok S lens fun cdv A outer s H vs Q E hr h=>?_;refine⟨_,hbody cdv A outer s H E hr,?_⟩;obtain⟨P',F',xs,x',hm,hp,hv,hQ⟩:=h;unfold mOf at hm;split at hm
 ·rename_i hl;have I:DInv K P' F' H (aM N.length ps.length xs) (start N vs):=DInv.start N ps.length hp hv hl;cases q:g (aM N.length ps.length xs)with
  |none=>rw[q]at hm;cases hm
  |some r=>
   rw[q]at hm;refine⟨P',F',_,r,q,I,?_⟩;cases r with
   |rt y ρ=>cases hm;exact fun v σ F2 H2 e h r=>hQ v F2 H2 e h.toDHp r
   |nx ρ=>cases hm;exact fun σ F2 H2 e I2=>hQ .non F2 H2 e I2.toDHp .non
   |bk ρ=>cases hm
   |ct ρ=>cases hm
 ·cases hm
inductive ArgsS (K:PySem.W.Frag) (ρ:DF) (σ:St) (F:Hp):List DV->List V->Prop
 |nil:ArgsS K ρ σ F [] []
 |v {d:D}{v:V}{xs:List DV}{vs:List V}:Rep K F v d->ArgsS K ρ σ F xs vs->ArgsS K ρ σ F (.v d::xs) (v::vs)
 |b {o:OD}{v:V}{xs:List DV}{vs:List V} (i:Nat):σ[i]?=some (some v)->((∃t,ρ[i]?=some (some (.own o t)))\/ρ[i]?=some (some (.bor o)))->ArgsS K ρ σ F xs vs->ArgsS K ρ σ F (.bor o::xs) (v::vs)
theorem ArgsS.dvs{K:Kq}{P F H:Hp}{ρ:DF}{σ:St}(I:DInv K P F H ρ σ){xs:List DV}{vs:List V}(h:ArgsS K ρ σ F xs vs):DVs K (gd F H) F H xs vs:=by
 induction h with
 |nil=>exact .nil
 |v h _ ih=>exact .cons rfl h ih
 |b i h1 h2 _ ih=>
  obtain⟨a,rfl,h3⟩:=I.slot h1 h2;exact .cons rfl ⟨a,rfl,h3.mono (Same.refl _) fun b u q hb=>⟨gE.mpr ⟨q,hb⟩,trivial⟩⟩ ih
def tLV(K:Kq)(f:Dv):TA:=fun σ H Q=>∃P F ρ xs,f ρ=some xs/\DInv K P F H ρ σ/\∀vs F' H',Evo P F H F' H'->ArgsS K ρ σ F' xs vs->Q vs H'
def kI(X:Cx)(es:List Expr)(f:Dv):Prop:=PA X es (tLV X.K f)
section
variable{X:Cx}{e:Expr}{es:List Expr}{pos:Pos}
theorem al:kI X [] (fun _=>some []):=PA.imp bF fun σ H Q=>un7 fun P F ρ xs hf I k=>by
 cases hf;exact k [] F H (Evo.refl I.toDHp) .nil
def aV(f:Dd)(g:Dv):DF->Option (List DV):=fun ρ=>(f ρ).bind fun d=>(g ρ).map fun xs=>.v d::xs
theorem aJ{f:Dd}{g:Dv}(h:PDE X e f)(hr:kI X es g)(hs:starEach (e::es) X.env=(false,eval e X.env)::starEach es X.env:=by rfl):kI X (e::es) (aV f g):=PA.imp (aT h hr hs) fun σ H Q=>un7 fun P F ρ xs hf I k=>by
 unfold aV at hf;cases q:f ρ with
 |none=>rw[q]at hf;cases hf
 |some d=>
  rw[q,Ya]at hf;cases q2:g ρ with
  |none=>rw[q2]at hf;cases hf
  |some ys=>
   rw[q2]at hf;cases hf;exact⟨P,F,ρ,d,q,I,fun v F1 H1 e1 r1=>⟨P,F1,ρ,ys,q2,I.evo e1,fun vs F2 H2 e2 r2=>k (v::vs) F2 H2 (e1.trans e2) (.v (r1.same e2.ext) r2)⟩⟩
def aB(i:Nat)(g:Dv):DF->Option (List DV):=fun ρ=>match ρ[i]? with
 |some (some (.own o _))=>(g ρ).map fun xs=>.bor o::xs
 |some (some (.bor o))=>(g ρ).map fun xs=>.bor o::xs
 |some (some (.v d))=>(g ρ).map fun xs=>.v d::xs
 |_=>none
theorem az(i:Nat){g:Dv}(h:PE X e (dg i))(hr:kI X es g)(hs:starEach (e::es) X.env=(false,eval e X.env)::starEach es X.env:=by rfl):kI X (e::es) (aB i g):=PA.imp (aT h hr hs) fun σ H Q=>un7 fun P F ρ xs hf I k=>by
 unfold aB at hf;split at hf
 ·rename_i o t q;obtain⟨v,h1,h2⟩:=I.at q;cases q2:g ρ with
  |none=>rw[q2]at hf;cases hf
  |some ys=>
   rw[q2]at hf;cases hf;exact⟨v,h1,P,F,ρ,ys,q2,I,fun vs F2 H2 e2 r2=>k (v::vs) F2 H2 e2 (.b i h1 (.inl ⟨t,q⟩) r2)⟩
 ·rename_i o q;obtain⟨v,h1,h2⟩:=I.at q;cases q2:g ρ with
  |none=>rw[q2]at hf;cases hf
  |some ys=>
   rw[q2]at hf;cases hf;exact⟨v,h1,P,F,ρ,ys,q2,I,fun vs F2 H2 e2 r2=>k (v::vs) F2 H2 e2 (.b i h1 (.inr q) r2)⟩
 ·rename_i d q;obtain⟨v,h1,h2⟩:=I.at q;cases q2:g ρ with
  |none=>rw[q2]at hf;cases hf
  |some ys=>
   rw[q2]at hf;cases hf;exact⟨v,h1,P,F,ρ,ys,q2,I,fun vs F2 H2 e2 r2=>k (v::vs) F2 H2 e2 (.v (Rep.same e2.ext h2) r2)⟩
 ·cases hf
def dvD:DV->Option D
 |.v d=>some d
 |.own o _=>some o.d
 |.bor _=>none
def ak(m:Dm)(g:Dv):DF->Option D:=fun ρ=>(g ρ).bind fun xs=>(m xs).bind dvD
def dvO:DV->Option OD
 |.own o _=>some o
 |_=>none
def cb(m:Dm)(g:Dv):DF->Option OD:=fun ρ=>(g ρ).bind fun xs=>(m xs).bind dvO
theorem AB{F H:Hp}{F':Hp}{a:Addr}(e:Same F F')(h1:F' a=none)(h2:gd F H a=none):H a=none:=by
 unfold gd at h2;have:F a=none:=by
  cases q:F a with
  |none=>rfl
  |some o=>rw[e a o q]at h1;cases h1
 rw[this]at h2;exact h2
theorem nv{K:Kq}{F1 H1 F2 H2:Hp}{o:OD}{a:Addr}(e2:Same F1 F2)(h:ORep K F2 H2 (fun b=>F2 b=none/\gd F1 H1 b=none/\p0 b) o a):ORep K F2 H2 (fun b=>H1 b=none/\F2 b=none) o a:=
 h.mono (Same.refl _) fun b u q hb=>⟨hb,AB e2 q.1 q.2.1,q.1⟩
theorem yE{K:Kq}{m:Dm}{g:Dv}{E:XK}:∀σ H Q,tD K (ak m g) σ H Q->wZ (spD K m) [] E (tLV K g) σ H Q:=fun σ H Q=>un7 fun P F ρ d hf I k=>by
 unfold ak at hf;cases q:g ρ with
 |none=>rw[q]at hf;cases hf
 |some xs=>
  rw[q,Ya]at hf;cases q2:m xs with
  |none=>rw[q2]at hf;cases hf
  |some x=>
   rw[q2,Ya]at hf;refine⟨P,F,ρ,xs,q,I,fun vs F1 H1 e1 r1=>?_⟩;have I1:=I.evo e1;refine⟨gd F1 H1,F1,xs,x,q2,ip I1.sub,by rw[Za];exact r1.dvs I1,fun v F2 H2 e2 hp2 r2=>?_⟩;have ev:Evo P F1 H1 F2 H2:=I1.toDHp.gd e2 hp2;cases x with
   |v d'=>cases hf;exact k v F2 H2 (e1.trans ev) r2
   |own o t=>
    cases hf;obtain⟨a,rfl,ho,_⟩:=r2;have ho':=nv e2 ho;exact k _ _ H2 (e1.trans (ev.freeze I1.toDHp (fun b=>H1 b=none/\F2 b=none) fun _ q=>q)) (ho'.rep (bS fun b q=>q.2) fun b u q hb=>by rw[c7 q];exact hb)
   |bor o=>cases hf
theorem yz{K:Kq}{m:Dm}{g:Dv}{E:XK}:∀σ H Q,tO K (cb m g) σ H Q->wZ (spD K m) [] E (tLV K g) σ H Q:=fun σ H Q=>un7 fun P F ρ d hf I k=>by
 unfold cb at hf;cases q:g ρ with
 |none=>rw[q]at hf;cases hf
 |some xs=>
  rw[q,Ya]at hf;cases q2:m xs with
  |none=>rw[q2]at hf;cases hf
  |some x=>
   rw[q2,Ya]at hf;refine⟨P,F,ρ,xs,q,I,fun vs F1 H1 e1 r1=>?_⟩;have I1:=I.evo e1;refine⟨gd F1 H1,F1,xs,x,q2,ip I1.sub,by rw[Za];exact r1.dvs I1,fun v F2 H2 e2 hp2 r2=>?_⟩;have ev:Evo P F1 H1 F2 H2:=I1.toDHp.gd e2 hp2;cases x with
   |own o t=>
    cases hf;obtain⟨a,rfl,ho,_⟩:=r2;exact k a F2 H2 (e1.trans ev) ((nv e2 ho).mono (Same.refl _) fun b u q hb=>⟨hb,e1.back I.toDHp q.1,q.2⟩)
   |_=>cases hf
section
variable{k:Nat}{f:Addr}{fd:FuncData}{ps:List Str}{m:Dm}{x:Str}{p:Pos}{g:Dv}
theorem ar(F:FnOk X.prog X.w X.K X.mg X.base CX0 k f fd ps (spD X.K m))(hr:Room k X.A)(hg:Gl X x)(hm:X.mg x=some (.ref f))(hk:PySem.W.keepIn X.K (.ref f)=true)(hb:Binds X.K fd ps [])(ha:kI X (e::es) g)
  (hd:(x == ("__debug__":Str))=false:=by decide) (he:starEach (e::es) X.env=(false,eval e X.env)::starEach es X.env:=by rfl) (hpl:(backTo pos (starEach es X.env)).any (·.1)=false:=by rfl):PDE X (.Call (.Name x p) (e::es) [] pos) (ak m g):=
 (mC F hr hg hm hk hb .nil kX ha hd he hpl).imp yE
theorem bY(F:FnOk X.prog X.w X.K X.mg X.base CX0 k f fd ps (spD X.K m))(hr:Room k X.A)(hg:Gl X x)(hm:X.mg x=some (.ref f))(hk:PySem.W.keepIn X.K (.ref f)=true)(hb:Binds X.K fd ps [])(ha:kI X (e::es) g)
  (hd:(x == ("__debug__":Str))=false:=by decide) (he:starEach (e::es) X.env=(false,eval e X.env)::starEach es X.env:=by rfl) (hpl:(backTo pos (starEach es X.env)).any (·.1)=false:=by rfl):PDO X (.Call (.Name x p) (e::es) [] pos) (cb m g):=
 (mC F hr hg hm hk hb .nil kX ha hd he hpl).imp yz
end
end
def ua:Option DV->Option DV
 |some (.v d)=>some (.v d)
 |some (.own o _)=>some (.bor o)
 |some (.bor o)=>some (.bor o)
 |_=>none
def fJ(own:Nat)(ix:List Nat)(ρ:DF):DF:=List.replicate own none++ix.map fun j=>ua (ρ[j]?).join
def b7(st:Dq)(c:Dk)(e:Dd)(ρ:DF):List D->Option (List D)
 |[]=>some []
 |d::ds=>(st d ρ).bind fun ρ1=>(c ρ1).bind fun b=>if b=true then(e ρ1).bind fun y=>(b7 st c e ρ ds).map fun r=>y::r else b7 st c e ρ ds
def aW(own:Nat)(ix:List Nat)(it:Dl)(st:Dq)(c:Dk)(e:Dd):DF->Option (List D):=
 fun ρ=>(it ρ).bind fun ds=>if ds.length<=16777216 then b7 st c e (fJ own ix ρ) ds else none
def bz:DF->Option Bool:=fun _=>some true
theorem oA{own:Nat}{ix:List Nat}{ρ:DF}{i:Nat}{x:DV}(h:(fJ own ix ρ)[i]?=some (some x)):own<=i/\∃j y,ix[i-own]?=some j/\ρ[j]?=some (some y)/\ua (some y)=some x:=by
 unfold fJ at h;by_cases hi:i<own
 ·rw[Zq (by rw[YG];exact hi),Xm,if_pos hi]at h;cases h
 ·rw[Zp (by rw[YG];omega),YG,Yu]at h;refine⟨by omega,?_⟩;cases q:ix[i-own]? with
  |none=>rw[q]at h;cases h
  |some j=>
   rw[q,ZM]at h;have h':=Yr h;cases q2:ρ[j]? with
   |none=>rw[q2]at h';cases h'
   |some o=>
    rw[q2,Option.join_some]at h';cases o with
    |none=>cases h'
    |some y=>exact⟨j,y,rfl,q2,h'⟩
theorem vv{own:Nat}{ix:List Nat}{σ:St}{i j:Nat}{v:V}(hi:own<=i)(h:ix[i-own]?=some j)(hv:σ[j]?=some (some v)):(cW own ix σ)[i]?=some (some v):=by unfold cW;rw[Zp (by rw[YG];exact hi),YG,Yu,h,ZM,hv];rfl
theorem DInv.cap{K:Kq}{P F H:Hp}{ρ:DF}{σ:St}(I:DInv K P F H ρ σ)(own:Nat)(ix:List Nat):DInv K (gd F H) F H (fJ own ix ρ) (cW own ix σ):=by
 refine⟨ip I.sub,?_,fun _=>none,fun i x h=>?_⟩
 ·rw[fF];unfold fJ;rw[Yt,YG,Ye]
 ·obtain⟨hi,j,y,h1,h2,h3⟩:=oA h;obtain⟨v,q1,q2⟩:=I.at h2;refine⟨v,vv hi h1 q1,?_⟩;have bo:∀o,((∃t,ρ[j]?=some (some (.own o t)))\/ρ[j]?=some (some (.bor o)))->DVRep K (gd F H) F H (fun b=>none=some i) (.bor o) v:=fun o ho=>by
   obtain⟨a,rfl,h3⟩:=I.slot q1 ho;exact⟨a,rfl,h3.mono (Same.refl _) fun b u q hb=>⟨gE.mpr ⟨q,hb⟩,trivial⟩⟩
  cases y with
  |v d=>cases h3;exact q2
  |own o t=>cases h3;exact bo o (.inl ⟨t,h2⟩)
  |bor o=>cases h3;exact bo o (.inr h2)
theorem wc{K:Kq}{G F H F2 H2:Hp}{own:Nat}{ix:List Nat}{ρ:DF}{τ:St}(B:DInv K G F H (fJ own ix ρ) τ)(e:Same F F2)(hp:DHp G F2 H2):DInv K G F2 H2 (fJ own ix ρ) τ:=by
 obtain⟨O,h⟩:=B.rep;refine⟨hp,B.len,O,fun i x hx=>?_⟩;obtain⟨v,h1,h2⟩:=h i x hx;refine⟨v,h1,?_⟩;cases x with
 |v d=>exact Rep.same e h2
 |bor o=>obtain⟨a,rfl,h3⟩:=h2;exact⟨a,rfl,h3.mono e fun b u q hb=>⟨hb,q⟩⟩
 |own o t=>(obtain⟨_,j,y,_,_,h3⟩:=oA hx;cases y<;>cases h3)
section
variable{X:Cx}{elt tg iter:Expr}{ifs:List Expr}{scope:Scope}{pos:Pos}{N:List Str}{own:Nat}{ix is:List Nat}{f:Dl}{st:Dq}{c:Dk}{e:Dd}
theorem rq{K:Kq}(his:∀j∈is,j<own):∀σ H Q,tO K (asL (aW own ix f st c e)) σ H Q->u6 own ix (tI K f) (tG K is st) (tB' K c) (tD K e) σ H Q:=fun σ H Q=>un7 fun P F ρ ob hf I k=>by
 unfold asL at hf;cases hout:aW own ix f st c e ρ with
 |none=>rw[hout]at hf;cases hf
 |some out=>
 rw[hout]at hf;cases hf;have hf:=hout;unfold aW at hf;cases q:f ρ with
 |none=>rw[q]at hf;cases hf
 |some ds=>
  rw[q,Ya]at hf;split at hf
  rotate_left
  ·cases hf
  rename_i hlen;refine⟨P,F,ρ,ds,q,I,fun J F1 H1 ev ok acc hacc=>?_⟩;have I1:=I.evo ev;have hp1:DHp (gd F1 H1) F1 H1:=ip I1.sub;have hg:gd F1 H1 acc=none:=by unfold gd;rw[I1.sub.free hacc];exact hacc
  have B1:DInv K (gd F1 H1) F1 H1 (fJ own ix ρ) (cW own ix σ):=I1.cap own ix;have hP:∀{F' H':Hp},Same F1 F'->DHp (gd F1 H1) F' H'->DHp P F' H':=fun s h=>(I1.toDHp.gd s h).hp
  refine⟨fun i m ys H'=>m=ds.length-i/\i<=ds.length/\∃F',Same F1 F'/\DHp (gd F1 H1) F' H'/\F' acc=none/\H' acc=some (.lst ys)/\ys.length<=i/\∃pre,Reps K F' ys pre/\(b7 st c e (fJ own ix ρ) (ds.drop i)).map (fun r=>pre++r)=some out,
   ⟨_,rfl,YF _,F1,Same.refl _,(Evo.side hp1 hacc).hp,I1.sub.free hacc,aG,Yl _,[],.nil,by rw[List.drop_zero,hf];rfl⟩,?_⟩
  rintro i m ys H' ⟨rfl,hi,F',se,hp',fa,ha,hy,pre,rp,hm⟩;obtain⟨ok1,ok2⟩:=ok F' H' se (hP se hp') i;by_cases hlt:i<ds.length
  ·have hd:ds[i]?=some ds[i]:=Yi hlt;obtain⟨go,yl⟩:=ok1 _ hd;have hdrop:ds.drop i=ds[i]::ds.drop (i+1):=Xe hlt;rw[hdrop]at hm;unfold b7 at hm;cases hst:st ds[i] (fJ own ix ρ)with
   |none=>rw[hst]at hm;cases hm
   |some ρ1=>
    rw[hst,Ya]at hm;refine .inr ⟨go,fun ys' H2=>∃F2,Same F1 F2/\DHp (gd F1 H1) F2 H2/\F2 acc=none/\H2 acc=some (.lst ys')/\ys'.length<=i+1/\∃pre',Reps K F2 ys' pre'/\(b7 st c e (fJ own ix ρ) (ds.drop (i+1))).map (fun r=>pre'++r)=some out,
     fun ys' H2 h=>⟨ds.length-(i+1),by omega,rfl,hlt,h⟩,fun x H2 hyl=>?_⟩
    obtain⟨F2,ev2,rx⟩:=yl x H2 hyl;have ev2':Evo (gd F1 H1) F' H' F2 H2:=ev2.change hp';obtain⟨a2,fa2⟩:=ev2'.keep acc _ ha fa;have B2:DInv K (gd F1 H1) F2 H2 (fJ own ix ρ) (cW own ix σ):=wc B1 (se.trans ev2.ext) ev2'.hp;refine⟨gd F1 H1,F2,fJ own ix ρ,ds[i],ρ1,hst,B2,rx,fun σ3 F3 H3 ev3 I3 hl3 hσ=>?_⟩;refine⟨⟨?_,fun j v hj=>?_⟩,?_⟩
    ·rw[hl3,fF]
    ·rw[hσ j]
     ·exact hj
     ·intro hj';obtain⟨ho,_⟩:=la hj;have:=his j hj';omega
    obtain⟨a3,fa3⟩:=ev3.keep acc _ a2 fa2;cases hc:c ρ1 with
    |none=>rw[hc]at hm;cases hm
    |some b=>
     rw[hc,Ya]at hm;refine⟨gd F1 H1,F3,ρ1,b,hc,I3,fun F4 H4 ev4=>?_⟩;obtain⟨a4,fa4⟩:=ev4.keep acc _ a3 fa3;have s14:Same F' F4:=ev2.ext.trans (ev3.ext.trans ev4.ext);cases b with
     |false=>
      rw[if_neg Yj]at hm ⊢;exact⟨F4,se.trans s14,ev4.hp,fa4,a4,by omega,pre,rp.same s14,hm⟩
     |true=>
      rw[if_pos rfl]at hm ⊢;cases he:e ρ1 with
      |none=>rw[he]at hm;cases hm
      |some y=>
       rw[he,Ya]at hm;refine⟨gd F1 H1,F4,ρ1,y,he,I3.evo ev4,fun v F5 H5 ev5 rv=>?_⟩;obtain⟨a5,fa5⟩:=ev5.keep acc _ a4 fa4;have s15:Same F' F5:=s14.trans ev5.ext;refine⟨a5,by rw[YK];omega,F5,se.trans s15,⟨fun b u h=>by rw[au (aH h fa5)];exact ev5.hp.sub b u h,fun b u h=>by rw[au (aH h hg)];exact ev5.hp.pro b u h,ev5.hp.dis⟩,fa5,aG,by rw[Yt,YQ];omega,pre++[y],(rp.same s15).append (.one rv),?_⟩;cases hmm:b7 st c e (fJ own ix ρ) (ds.drop (i+1))with
       |none=>rw[hmm]at hm;cases hm
       |some r=>
        rw[hmm]at hm;simp only[ZM]at hm ⊢;rw[Xi];exact hm
  ·have hz:ds.drop i=[]:=List.drop_eq_nil_of_le (by omega);rw[hz]at hm;unfold b7 at hm;rw[ZM,Za]at hm;cases hm;exact .inl ⟨ok2 (by omega),k acc F' H' (ev.trans (I1.toDHp.gd se hp')) ⟨⟨ev.back I.toDHp hacc,fa⟩,_,ha,rp⟩⟩
theorem bU(hcalm:X.calm=true)(b:BlkScope X scope)(cp:Caps X scope N own ix)(his:∀j∈is,j<own)(hi:PDI X tg iter f)
  (hg:∀s H fp pz,PDG (blk X scope N s H fp pz) tg is st) (hc:∀s H fp pz,nF (blk X scope N s H fp pz) ifs (tB' X.K c)) (he:∀s H fp pz,PDE (blk X scope N s H fp pz) elt e)
  (hnames:∀y∈scope.names,y.2=.local->scope.names.lookup y.1=some .local:=by decide)
  (hs:∀x,foldedSetIterable iter X.env x=pure x:=by intro _;rfl):PDO X (.ListComp elt [⟨tg,iter,ifs,0⟩] scope pos) (asL (aW own ix f st c e)):=
 (yi (g:=tG X.K is st) (tc:=tB' X.K c) (te:=tD X.K e) hcalm b cp hi hg hc he hnames hs).imp (rq his)
end
section
variable{X:Cx}{e a b c:Expr}{es:List Expr}{pos:Pos}
def CA(n:Nat)(f:Dl):Prop:=∀ρ ds,f ρ=some ds->ds.length=n
def PDL(X:Cx)(es:List Expr)(n:Nat)(f:Dl):Prop:=PDA X es f/\CA n f
def aR:DF->Option (List D):=fun _=>some []
def ai(f:Dd)(g:Dl):DF->Option (List D):=fun ρ=>(f ρ).bind fun d=>(g ρ).map fun r=>d::r
theorem aw:PDL X [] 0 aR:=⟨PA.imp bF fun σ H Q=>un7 fun P F ρ xs hf I k=>by
 cases hf;exact k [] F H (Evo.refl I.toDHp) .nil,fun ρ ds h=>by cases h;rfl⟩
theorem ah{f:Dd}{n:Nat}{g:Dl}(h:PDE X e f)(hr:PDL X es n g)(hs:starEach (e::es) X.env=(false,eval e X.env)::starEach es X.env:=by rfl):PDL X (e::es) (n+1) (ai f g):=
 ⟨PA.imp (aT h hr.1 hs) fun σ H Q=>un7 fun P F ρ xs hf I k=>by
  unfold ai at hf;cases q:f ρ with
  |none=>rw[q]at hf;cases hf
  |some d=>
   rw[q,Ya]at hf;cases q2:g ρ with
   |none=>rw[q2]at hf;cases hf
   |some ys=>
    rw[q2]at hf;cases hf;exact⟨P,F,ρ,d,q,I,fun v F1 H1 e1 r1=>⟨P,F1,ρ,ys,q2,I.evo e1,fun vs F2 H2 e2 r2=>k (v::vs) F2 H2 (e1.trans e2) (.cons (r1.same e2.ext) r2)⟩⟩,fun ρ ds hf=>by
  unfold ai at hf;cases q:f ρ with
  |none=>rw[q]at hf;cases hf
  |some d=>
   rw[q,Ya]at hf;cases q2:g ρ with
   |none=>rw[q2]at hf;cases hf
   |some ys=>
    rw[q2]at hf;cases hf;rw[Yy,hr.2 ρ ys q2]⟩
def asT(f:Dl):DF->Option D:=fun ρ=>(f ρ).map .tup
theorem bf{x1}{n:Nat}{f:Dl}(h:PDL X es n f)(hn:n<=16777216:=by decide):PDE X (.Tuple es x1 pos) (asT f):=(AZ h.1).imp fun σ H Q=>un7 fun P F ρ d hf I k=>by
 unfold asT at hf;cases q:f ρ with
 |none=>rw[q]at hf;cases hf
 |some ds=>
  rw[q]at hf;cases hf;refine⟨P,F,ρ,ds,q,I,fun vs F1 H1 e1 r1=>⟨by rw[r1.length,h.2 ρ ds q,YK];exact hn,fun p hp=>?_⟩⟩;exact k (.ref p) _ _ (e1.trans (Evo.laid e1.hp hp)) (.tup aG (r1.same (gn (e1.hp.free hp).1)))
theorem cn{n:Nat}{f:Dl}(h:PDL X es n f)(hn:n<=16777216:=by decide):PDO X (.List es pos) (asL f):=(qJ h.1).imp fun σ H Q=>un7 fun P F ρ ob hf I k=>by
 unfold asL at hf;cases q:f ρ with
 |none=>rw[q]at hf;cases hf
 |some ds=>
 rw[q]at hf;cases hf;refine⟨P,F,ρ,ds,q,I,fun vs F1 H1 e1 r1=>⟨by rw[r1.length,h.2 ρ ds q,YK];exact hn,fun p hp=>?_⟩⟩;exact k p F1 _ (e1.trans (Evo.side e1.hp hp)) ⟨⟨e1.back I.toDHp hp,(e1.hp.free hp).1⟩,_,aG,r1⟩
theorem Reps.atI{K:Kq}{F:Hp}{vs:List V}{ds:List D}{i:Int}{d:D}(r:Reps K F vs ds)(h:atI ds i=some d):∃v,atI vs i=some v/\Rep K F v d:=by
 unfold L2.atI at h ⊢;rw[r.length];cases q:ixN ds.length i with
 |none=>rw[q]at h;cases h
 |some j=>
  rw[q,Ya]at h;obtain⟨v,h1,h2⟩:=r.get h;exact⟨v,h1,h2⟩
def ixD:D->D->Option D
 |.lst ds,.int i=>atI ds i
 |.tup ds,.int i=>atI ds i
 |.str z,.int i=>if z.length<=16777216 then(atI z.cps.toList i).map fun c=>.str ⟨#[c]⟩else none
 |_,_=>none
theorem Ck{K:Kq}:oB K (rIx K) ixD:=by
 intro P F H ρ σ x y dx dy d Q hf I rx ry k;unfold ixD at hf;split at hf
 ·obtain⟨p,vs,rfl,h1,h2⟩:=dM I rx;obtain⟨v,h3,h4⟩:=h2.atI hf;exact .inl ⟨p,vs,_,v,rfl,ck ry,h1,h3,k v F H (Evo.refl I.toDHp) h4⟩
 ·obtain⟨p,vs,rfl,h1,h2⟩:=gF I rx;obtain⟨v,h3,h4⟩:=h2.atI hf;exact .inr (.inl ⟨p,vs,_,v,rfl,ck ry,h1,h3,k v F H (Evo.refl I.toDHp) h4⟩)
 ·split at hf
  ·rename_i z i hz;cases q:atI z.cps.toList i with
   |none=>rw[q]at hf;cases hf
   |some c=>
    rw[q]at hf;cases hf;exact .inr (.inr ⟨z,i,c,i6 rx,ck ry,by rw[YK];exact hz,q,k _ F H (Evo.refl I.toDHp) .str⟩)
  ·cases hf
 ·cases hf
theorem a8{fa fb:Dd}(ha:PDR X a fa)(hb:PDR X b fb)(hs:gO b:=by exact fun _ _=>rfl):PDE X (.Subscript a b pos) (d2 ixD fa fb):=(sq nN ha hb hs).imp (qh Ck)
def C_:R2:=fun x y H Q=>(∃i j,x=.int i/\y=.int j/\Q (.int (i+j)) H)\/∃i j,x=.str i/\y=.str j/\i.length+j.length<=sizeLine/\Q (.str (i++j)) H
theorem kD{fa fb:Dd}(ha:PDR X a fa)(hb:PDR X b fb):PDT X (.Compare a [.Gt] [b] pos) (asB (d2 gtI fa fb)):=sj Cy (nC fun _ _ _=>.bl) ha hb (fS _)
theorem Ct{fa fb:Dd}(ha:PDR X a fa)(hb:PDR X b fb):PDT X (.Compare a [.GtE] [b] pos) (asB (d2 geI fa fb)):=sj Cr (nC fun _ _ _=>.bl) ha hb (fS _)
def eX(f g:Dk):DF->Option Bool:=fun ρ=>(f ρ).bind fun b=>if b=true then g ρ else some false
def orT(f g:Dk):DF->Option Bool:=fun ρ=>(f ρ).bind fun b=>if b=true then some true else g ρ
def cI(f:Dk):DF->Option Bool:=fun ρ=>(f ρ).map fun b=>!b
def PDW(X:Cx)(e:Expr)(f:Dk):Prop:=PW X e (tB' X.K f)
theorem PDW.t{f:Dk}(h:PDW X e f):PDT X e f:=PW.pt h
theorem PW.imp{t t':TT}(h:PW X e t)(i:∀σ H Q,t' σ H Q->t σ H Q):PW X e t':=fun w pz s σ H Q I q=>h w pz s σ H Q I (i σ H Q q)
theorem eB{f:Dk}(h:PDT X a f):PDW X (.BoolOp .And [a] pos) f:=xJ h
theorem fC{f:Dk}(h:PDT X a f):PDW X (.BoolOp .Or [a] pos) f:=zG h
theorem fH{bD:List Expr}{f g:Dk}(ha:PDT X a f)(hb:PDW X (.BoolOp .And (b::bD) pos) g):PDW X (.BoolOp .And (a::b::bD) pos) (eX f g):=PW.imp (AY ha hb) fun σ H Q=>un7 fun P F ρ r hf I k=>by
 unfold eX at hf;cases q:f ρ with
 |none=>rw[q]at hf;cases hf
 |some x=>
  rw[q,Ya]at hf;refine⟨P,F,ρ,x,q,I,fun F1 H1 e1=>?_⟩;cases x with
  |true=>rw[if_pos rfl]at hf ⊢;exact⟨P,F1,ρ,r,hf,I.evo e1,fun F2 H2 e2=>k F2 H2 (e1.trans e2)⟩
  |false=>rw[if_neg Yj]at hf ⊢;cases hf;exact k F1 H1 e1
theorem fj{bD:List Expr}{f g:Dk}(ha:PDT X a f)(hb:PDW X (.BoolOp .Or (b::bD) pos) g):PDW X (.BoolOp .Or (a::b::bD) pos) (orT f g):=PW.imp (BT ha hb) fun σ H Q=>un7 fun P F ρ r hf I k=>by
 unfold orT at hf;cases q:f ρ with
 |none=>rw[q]at hf;cases hf
 |some x=>
  rw[q,Ya]at hf;refine⟨P,F,ρ,x,q,I,fun F1 H1 e1=>?_⟩;cases x with
  |true=>rw[if_pos rfl]at hf ⊢;cases hf;exact k F1 H1 e1
  |false=>rw[if_neg Yj]at hf ⊢;exact⟨P,F1,ρ,r,hf,I.evo e1,fun F2 H2 e2=>k F2 H2 (e1.trans e2)⟩
theorem cV{f:Dk}(ha:PDT X a f):PDT X (.UnaryOp .Not a pos) (cI f):=(zF ha).imp fun σ H Q=>un7 fun P F ρ r hf I k=>by
 unfold cI at hf;cases q:f ρ with
 |none=>rw[q]at hf;cases hf
 |some x=>rw[q]at hf;cases hf;exact⟨P,F,ρ,x,q,I,fun F1 H1 e1=>k F1 H1 e1⟩
def nz(f g:Dd):DF->Option D:=fun ρ=>match f ρ with
 |some (.bl true)=>g ρ
 |some (.bl false)=>some (.bl false)
 |_=>none
def AK(f:Dd):DF->Option D:=fun ρ=>match f ρ with
 |some (.bl b)=>some (.bl (!b))
 |_=>none
theorem j_{op}{f:Dd}(h:PDE X a f):PDE X (.BoolOp op [a] pos) f:=Ba h
theorem gY{bD:List Expr}{f g:Dd}(ha:PDE X a f)(hb:PDE X (.BoolOp .And (b::bD) pos) g):PDE X (.BoolOp .And (a::b::bD) pos) (nz f g):=(As ha hb).imp fun σ H Q=>un7 fun P F ρ r hf I k=>by
 unfold nz at hf;split at hf
 ·rename_i q;refine⟨P,F,ρ,_,q,I,fun v F1 H1 e1 r1=>?_⟩;cases r1;exact⟨true,rfl,by rw[if_pos rfl];exact⟨P,F1,ρ,r,hf,I.evo e1,fun v F2 H2 e2 r2=>k v F2 H2 (e1.trans e2) r2⟩⟩
 ·rename_i q;refine⟨P,F,ρ,_,q,I,fun v F1 H1 e1 r1=>?_⟩;cases r1;cases hf;exact⟨false,rfl,by rw[if_neg Yj];exact k _ F1 H1 e1 .bl⟩
 ·cases hf
theorem Bp{f:Dd}(ha:PDE X a f):PDE X (.UnaryOp .Not a pos) (AK f):=(Bd ha).imp fun σ H Q=>un7 fun P F ρ r hf I k=>by
 unfold AK at hf;split at hf
 ·rename_i q;cases hf;refine⟨P,F,ρ,_,q,I,fun v F1 H1 e1 r1=>?_⟩;cases r1;exact⟨_,rfl,k _ F1 H1 e1 .bl⟩
 ·cases hf
def ifV(c:Dk)(f g:Dd):DF->Option D:=fun ρ=>(c ρ).bind fun b=>if b=true then f ρ else g ρ
theorem wu{fc:Dk}{f g:Dd}(hc:PDT X c fc)(ha:PDE X a f)(hb:PDE X b g):PDE X (.IfExp c a b pos) (ifV fc f g):=(wF hc ha hb).imp fun σ H Q=>un7 fun P F ρ r hf I k=>by
 unfold ifV at hf;cases q:fc ρ with
 |none=>rw[q]at hf;cases hf
 |some x=>
  rw[q,Ya]at hf;refine⟨P,F,ρ,x,q,I,fun F1 H1 e1=>?_⟩;cases x with
  |true=>rw[if_pos rfl]at hf ⊢;exact⟨P,F1,ρ,r,hf,I.evo e1,fun v F2 H2 e2 r2=>k v F2 H2 (e1.trans e2) r2⟩
  |false=>rw[if_neg Yj]at hf ⊢;exact⟨P,F1,ρ,r,hf,I.evo e1,fun v F2 H2 e2 r2=>k v F2 H2 (e1.trans e2) r2⟩
def Cf(K:Kq)(r:List V->Hp->VK->Prop)(f:D->Option D):Prop:=
 ∀(P F H:Hp) (ρ:DF) (σ:St) (x:V) (dx d:D) (Q:VK),f dx=some d->DInv K P F H ρ σ->RepS K H F x dx->(∀v F' H',Evo P F H F' H'->Rep K F' v d->Q v H')->r [x] H Q
def d1(f:D->Option D)(fa:Dd):DF->Option D:=fun ρ=>(fa ρ).bind f
theorem zK{K:Kq}{r:List V->Hp->VK->Prop}{f:D->Option D}{fa:Dd}(ho:Cf K r f):∀σ H Q,tD K (d1 f fa) σ H Q->tCB r (oZ (tR K fa) tK) σ H Q:=fun σ H Q=>un7 fun P F ρ d hf I k=>by
 unfold d1 at hf;cases ha:fa ρ with
 |none=>rw[ha]at hf;cases hf
 |some dx=>
  rw[ha,Ya]at hf;exact⟨P,F,ρ,dx,ha,I,fun x F1 H1 e1 rx=>ho P F1 H1 ρ σ x dx d Q hf (I.evo e1) rx fun v F2 H2 e2 rv=>k v F2 H2 (e1.trans e2) rv⟩
def bP:D->Option D
 |.lst ds=>some (.int ds.length)
 |.tup ds=>some (.int ds.length)
 |.str z=>if z.length<=16777216 then some (.int z.length)else none
 |_=>none
def Ce(K:Kq):List V->Hp->VK->Prop:=fun xs H Q=>(∃p ys,xs=[.ref p]/\(SqL K H p ys\/SqT K H p ys)/\Q (.int ys.length) H)\/∃z,xs=[.str z]/\z.length<=sizeLine/\Q (.int z.length) H
end
mutual
def bG:D->PyData
 |.non=>.none
 |.bl b=>.bool b
 |.int i=>.int i
 |.str x=>.str x
 |.tup xs=>.tuple (bC xs)
 |.lst xs=>.list (bC xs)
 |.dT _=>.none
 |.dK _=>.none
 |.ins _ _=>.none
def bC:List D->List PyData
 |[]=>[]
 |d::ds=>bG d::bC ds
end
def okN:Nat->D->Bool
 |_,.non=>true
 |_,.bl _=>true
 |_,.int _=>true
 |_,.str x=>PyData.strOk x
 |n+1,.tup xs=>xs.all (okN n)
 |n+1,.lst xs=>xs.all (okN n)
 |_,_=>false
theorem bK{n:Nat}:∀{ds:List D},ds.all (okN n)=true->∀d∈ds,okN n d=true:=fun h d hd=>Yh.mp h d hd
theorem ce:∀(n:Nat) (d:D),okN n d=true->(bG d).canLay0=true/\(bG d).depth<=n+1:=by
 intro n;induction n with
 |zero=>
  intro d h;cases d with
  |non=>exact⟨rfl,by simp[bG,PyData.depth]⟩
  |bl b=>exact⟨rfl,by simp[bG,PyData.depth]⟩
  |int b=>exact⟨rfl,by simp[bG,PyData.depth]⟩
  |str b=>exact⟨h,by simp[bG,PyData.depth]⟩
  |_=>cases h
 |succ n ih=>
  have all:∀ds:List D,ds.all (okN n)=true->PyData.canLayAll0 (bC ds)=true/\PyData.depthAll (bC ds)<=n+1:=by
   intro ds;induction ds with
   |nil=>intro _;exact⟨rfl,by simp[bC,PyData.depthAll]⟩
   |cons x r ihr=>
    intro h;rw[XR,Yo]at h;obtain⟨h1,h2⟩:=ih x h.1;obtain⟨h3,h4⟩:=ihr h.2;refine⟨?_,?_⟩
    ·show(PyData.canLay0 (bG x)&&PyData.canLayAll0 (bC r))=true;rw[h1,h3];rfl
    ·show PyData.depthAll (bG x::bC r)<=n+1;simp only[PyData.depthAll];omega
  intro d h;cases d with
  |non=>exact⟨rfl,by simp[bG,PyData.depth]⟩
  |bl b=>exact⟨rfl,by simp[bG,PyData.depth]⟩
  |int b=>exact⟨rfl,by simp[bG,PyData.depth]⟩
  |str b=>exact⟨h,by simp[bG,PyData.depth]⟩
  |tup xs=>
   obtain⟨h1,h2⟩:=all xs h;exact⟨h1,by simp only[bG,PyData.depth];omega⟩
  |lst xs=>
   obtain⟨h1,h2⟩:=all xs h;exact⟨h1,by simp only[bG,PyData.depth];omega⟩
  |_=>cases h
section
variable{X:Cx}{pz:Kp}{σ:St}{H:Hp}{s:Shared}
theorem Reps.readsOf{n:Nat}(ih:∀{v:V}{d:D}{u:Value},Rep X.K H v d->okN n d=true->RelV v u->∃as,Reads s.heap u (bG d) as){vs:List V}{ds:List D}(h:Reps X.K H vs ds):∀us:List Value,(∀d∈ds,okN n d=true)->Vals vs us->∃as,ReadsAll s.heap us (bC ds) as:=
 Reps.ind (M:=fun vs ds=>∀us:List Value,(∀d∈ds,okN n d=true)->Vals vs us->∃as,ReadsAll s.heap us (bC ds) as) (fun us _ r=>by cases r;exact⟨_,.nil⟩) (fun h _ i us ho r=>by
  cases r with
  |cons r t=>
   obtain⟨a1,r1⟩:=ih h (ho _ Yd) r;obtain⟨a2,r2⟩:=i _ (fun d hd=>ho d (Yc _ hd)) t;exact⟨_,.cons r1 r2⟩) h
theorem Rep.reads1(I:Inv X pz σ H s)(n:Nat)(ih:∀m,n=m+1->∀{v:V}{d:D}{u:Value},Rep X.K H v d->okN m d=true->RelV v u->∃as,Reads s.heap u (bG d) as){v:V}{d:D}{u:Value}(h:Rep X.K H v d)(ho:okN n d=true)(r:RelV v u):∃as,Reads s.heap u (bG d) as:=by
 cases h with
 |non=>cases(show u=Value.none from r);exact⟨_,.none⟩
 |bl=>cases(show u=Value.bool _ from r);exact⟨_,.bool _⟩
 |int=>obtain⟨t,rfl⟩:=(show ∃t,u=Value.int _ t from r);exact⟨_,.int _ _⟩
 |str=>obtain⟨t,rfl⟩:=(show ∃t,u=Value.str _ t from r);exact⟨_,.str _ _⟩
 |tup h q=>
  cases n with
  |zero=>cases ho
  |succ m=>
   cases(show u=Value.ref _ from r);obtain⟨its,rv,ht,_⟩:=I.tuple (SqT.of h);obtain⟨as,ra⟩:=Reps.readsOf (ih m rfl) q _ (bK ho) rv;obtain⟨o,h1,h2,m,h3⟩:=ht;exact⟨_,.tuple h1 h2 h3 (by simpa using ra)⟩
 |lst h q=>
  cases n with
  |zero=>cases ho
  |succ m=>
   cases(show u=Value.ref _ from r);obtain⟨its,rv,ht,_⟩:=I.list h;obtain⟨as,ra⟩:=Reps.readsOf (ih m rfl) q _ (bK ho) rv;obtain⟨o,m,h1,h2,_,h3⟩:=ht;exact⟨_,.list h1 h2 h3 (by simpa using ra)⟩
 |_=>cases n<;>cases ho
theorem Rep.reads(I:Inv X pz σ H s)(n:Nat):∀{v:V}{d:D}{u:Value},Rep X.K H v d->okN n d=true->RelV v u->∃as,Reads s.heap u (bG d) as:=by
 induction n with
 |zero=>exact fun h ho r=>Rep.reads1 I 0 (fun m e=>by cases e) h ho r
 |succ n ih=>exact fun h ho r=>Rep.reads1 I (n+1) (fun m e=>by cases e;exact ih) h ho r
end
def eqd(x y:D):Bool:=PyData.eqv (bG x) (bG y)
def eqD(x y:D):Option D:=if(okN 30 x&&okN 30 y)=true then some (.bl (eqd x y))else none
def neD(x y:D):Option D:=if(okN 30 x&&okN 30 y)=true then some (.bl (!eqd x y))else none
def yy(K:Kq)(g:Bool->Bool):R2:=fun x y H Q=>∃dx dy,Rep K H x dx/\Rep K H y dy/\okN 30 dx=true/\okN 30 dy=true/\Q (.bl (g (eqd dx dy))) H
section
variable{X:Cx}{e a b c:Expr}{es:List Expr}{pos:Pos}
theorem uB(hu:X.A.units+64<cLine):OpR X (compareOp .Eq) (yy X.K fun b=>b):=by
 intro pz s σ H x y v u Q I rx ry h;obtain⟨dx,dy,h1,h2,o1,o2,q⟩:=h;obtain⟨a1,r1⟩:=h1.reads I 30 o1 rx;obtain⟨a2,r2⟩:=h2.reads I 30 o2 ry;obtain⟨l1,p1⟩:=ce 30 dx o1;obtain⟨l2,p2⟩:=ce 30 dy o2;refine PySem.SeqAt.compareEq_shaped r1 r2 ?_ ?_ hu ⟨.bl _,H,I,rfl,q⟩
 ·unfold PySem.SeqAt.shaped;rw[l1,Vv,YE];omega
 ·unfold PySem.SeqAt.shaped;rw[l2,Vv,YE];omega
theorem xb(hu:X.A.units+64<cLine):OpR X (compareOp .NotEq) (yy X.K fun b=>!b):=by
 intro pz s σ H x y v u Q I rx ry h;obtain⟨dx,dy,h1,h2,o1,o2,q⟩:=h;obtain⟨a1,r1⟩:=h1.reads I 30 o1 rx;obtain⟨a2,r2⟩:=h2.reads I 30 o2 ry;obtain⟨l1,p1⟩:=ce 30 dx o1;obtain⟨l2,p2⟩:=ce 30 dy o2;refine PySem.SeqAt.compareNe_shaped r1 r2 ?_ ?_ hu ⟨.bl _,H,I,rfl,q⟩
 ·unfold PySem.SeqAt.shaped;rw[l1,Vv,YE];omega
 ·unfold PySem.SeqAt.shaped;rw[l2,Vv,YE];omega
theorem uT{K:Kq}:OpN2 K (yy K fun b=>b) eqD:=by
 intro P F H x y dx dy d Q hf hp rx ry k;unfold eqD at hf;split at hf
 ·rename_i h;rw[Yo]at h;cases hf;exact⟨dx,dy,rx,ry,h.1,h.2,k _ F H (Evo.refl hp) .bl⟩
 ·cases hf
theorem u9{K:Kq}:OpN2 K (yy K fun b=>!b) neD:=by
 intro P F H x y dx dy d Q hf hp rx ry k;unfold neD at hf;split at hf
 ·rename_i h;rw[Yo]at h;cases hf;exact⟨dx,dy,rx,ry,h.1,h.2,k _ F H (Evo.refl hp) .bl⟩
 ·cases hf
theorem wK{fa fb:Dd}(hu:X.A.units+64<cLine)(ha:PDN X a fa)(hb:PDN X b fb):PDE X (.Compare a [.Eq] [b] pos) (d2 eqD fa fb):=uW (uB hu) uT ha hb (fS _)
theorem CK{fa fb:Dd}(hu:X.A.units+64<cLine)(ha:PDN X a fa)(hb:PDN X b fb):PDE X (.Compare a [.NotEq] [b] pos) (d2 neD fa fb):=uW (xb hu) u9 ha hb (fS _)
theorem dN{fa fb:Dd}(hu:X.A.units+64<cLine)(ha:PDN X a fa)(hb:PDN X b fb):PDT X (.Compare a [.Eq] [b] pos) (asB (d2 eqD fa fb)):=iW (uB hu) uT ha hb (fS _)
theorem iz{fa fb:Dd}(hu:X.A.units+64<cLine)(ha:PDN X a fa)(hb:PDN X b fb):PDT X (.Compare a [.NotEq] [b] pos) (asB (d2 neD fa fb)):=iW (xb hu) u9 ha hb (fS _)
def cG:D->Option (List D)
 |.lst ds=>some ds
 |.tup ds=>some ds
 |_=>none
def f9(x y:D):Option D:=(cG y).bind fun ds=>if(okN 30 x&&ds.all (okN 29))=true then some (.bl (!ds.any fun z=>eqd z x))else none
def CL(K:Kq)(g:Bool->Bool):R2:=fun x y H Q=>∃dx dy ds,Rep K H x dx/\Rep K H y dy/\cG dy=some ds/\okN 30 dx=true/\ds.all (okN 29)=true/\Q (.bl (g (ds.any fun z=>eqd z dx))) H
theorem ii(x:D):∀ds:List D,(bC ds).any (fun y=>PyData.eqv y (bG x))=ds.any fun z=>eqd z x
 |[]=>rfl
 |d::ds=>by
  show((PyData.eqv (bG d) (bG x))||(bC ds).any _)=_;rw[ii x ds];rfl
theorem tX(hu:X.A.units+64<cLine):OpR X (compareOp .NotIn) (CL X.K fun b=>!b):=by
 intro pz s σ H x y v u Q I rx ry h;obtain⟨dx,dy,ds,h1,h2,hi,o1,o2,q⟩:=h;obtain⟨a1,r1⟩:=h1.reads I 30 o1 rx;obtain⟨l1,p1⟩:=ce 30 dx o1;have hm:min (PyData.depthAll (bC ds)) (bG dx).depth<=31:=YD (Nat.min_le_right _ _) p1;cases dy with
 |lst xs=>
  cases hi;obtain⟨a2,r2⟩:=h2.reads I 30 (d:=.lst ds) o2 ry;obtain⟨l2,p2⟩:=ce 30 (.lst ds) o2;exact PySem.SeqAt.notIn_list_reads r2 r1 l2 l1 (by omega) ⟨.bl _,H,I,(by show Value.bool _=Value.bool _;rw[ii]),q⟩
 |tup xs=>
  cases hi;obtain⟨a2,r2⟩:=h2.reads I 30 (d:=.tup ds) o2 ry;obtain⟨l2,p2⟩:=ce 30 (.tup ds) o2;exact PySem.SeqAt.notIn_tuple_reads r2 r1 l2 l1 (by omega) ⟨.bl _,H,I,(by show Value.bool _=Value.bool _;rw[ii]),q⟩
 |_=>cases hi
theorem t6{K:Kq}:OpN2 K (CL K fun b=>!b) f9:=by
 intro P F H x y dx dy d Q hf hp rx ry k;unfold f9 at hf;cases q:cG dy with
 |none=>rw[q]at hf;cases hf
 |some ds=>
  rw[q,Ya]at hf;split at hf
  ·rename_i h;rw[Yo]at h;cases hf;exact⟨dx,dy,ds,rx,ry,q,h.1,h.2,k _ F H (Evo.refl hp) .bl⟩
  ·cases hf
theorem wJ{fa fb:Dd}(hu:X.A.units+64<cLine)(ha:PDN X a fa)(hb:PDN X b fb)(hm:behindInMarks .NotIn b=false:=by with_unfolding_all rfl):PDT X (.Compare a [.NotIn] [b] pos) (asB (d2 f9 fa fb)):=iW (tX hu) t6 ha hb hm
end
section
variable{X:Cx}{tg e a b l:Expr}{pos p:Pos}
def fP(f:Dd):DF->Option (List D):=fun ρ=>match f ρ with
 |some (.lst ds)=>some ds
 |_=>none
theorem vY{f:Dd}{ρ:DF}{ds:List D}(h:fP f ρ=some ds):f ρ=some (.lst ds):=by
 unfold fP at h;split at h
 ·rename_i q;cases h;exact q
 ·cases h
theorem lB{K:Kq}{P F:Hp}{a:Addr}{vs:List V}{ds:List D}(h:SqL K F a vs)(r:Reps K F vs ds):w9 K P (Itl K a) F ds:=by intro F' H' e hp i;have hv:SqL K H' a vs:=hp.sub.seq (e.seq h);refine⟨fun d hd=>?_,fun hl=>⟨vs,hv,by rw[r.length];exact hl⟩⟩;obtain⟨v,h1,h2⟩:=r.get hd;refine⟨⟨vs,v,hv,h1⟩,fun x H2 hy=>?_⟩;obtain⟨rfl,hx⟩:=hy;have:=hx vs hv;rw[h1]at this;cases this;exact⟨F',Evo.refl hp,h2.same e⟩
theorem rC{f:Dd}(h:PDE X l f):PDI X tg l (fP f):=PI.imp (mV h) fun σ H R=>un7 fun P F ρ ds hf I k=>by
 refine⟨P,F,ρ,_,vY hf,I,fun v F' H' ev rv=>?_⟩;cases rv with
 |lst h1 h2=>exact⟨_,rfl,⟨_,ev.hp.sub.seq h1⟩,k _ F' H' ev (lB h1 h2)⟩
def cf(i:Nat):DF->Option (List D):=fun ρ=>match ρ[i]? with
 |some (some (.bor (.lst ds)))=>some ds
 |some (some (.v (.lst ds)))=>some ds
 |_=>none
theorem wH{K:Kq}{P F:Hp}{a:Addr}{vs:List V}{ds:List D}(h:P a=some (.lst vs))(r:Reps K F vs ds):w9 K P (Itl K a) F ds:=by intro F' H' e hp i;have hv:SqL K H' a vs:=SqL.of (hp.pro _ _ h);refine⟨fun d hd=>?_,fun hl=>⟨vs,hv,by rw[r.length];exact hl⟩⟩;obtain⟨v,h1,h2⟩:=r.get hd;refine⟨⟨vs,v,hv,h1⟩,fun x H2 hy=>?_⟩;obtain⟨rfl,hx⟩:=hy;have:=hx vs hv;rw[h1]at this;cases this;exact⟨F',Evo.refl hp,h2.same e⟩
theorem cE(i:Nat)(h:PE X l (dg i)):PDI X tg l (cf i):=PI.imp (mV h) fun σ H R=>un7 fun P F ρ ds hf I k=>by
 unfold cf at hf;split at hf
 ·rename_i ds' q;cases hf;obtain⟨v,h1,a,rfl,_,u,h3,h4⟩:=I.at q;cases u with
  |lst vs=>exact⟨_,h1,a,rfl,⟨vs,SqL.of (I.pro _ _ h3)⟩,k _ F H (Evo.refl I.toDHp) (wH h3 h4)⟩
  |_=>exact h4.elim
 ·rename_i ds' q;cases hf;obtain⟨v,h1,h2⟩:=I.at q;cases h2 with
  |lst h3 h4=>exact⟨_,h1,_,rfl,⟨_,I.sub.seq h3⟩,k _ F H (Evo.refl I.toDHp) (lB h3 h4)⟩
 ·cases hf
def cz(lo:Int)(n:Nat):List D:=(List.range n).map fun i:Nat=>.int (lo+(i:Int))
theorem kh{lo:Int}{n i:Nat}{d:D}(h:(cz lo n)[i]?=some d):i<n/\d=.int (lo+(i:Int)):=by
 unfold cz at h;rw[Yu]at h;by_cases hi:i<n
 ·rw[Xn hi,ZM]at h;cases h;exact⟨hi,rfl⟩
 ·rw[ZN (by rw[Zk];omega)]at h;cases h
theorem qd(lo:Int)(n:Nat):(cz lo n).length=n:=by unfold cz;rw[Ye,Zk]
theorem km{K:Kq}{P F:Hp}(lo:Int)(n:Nat):w9 K P (Itr lo n) F (cz lo n):=by intro F' H' e hp i;refine⟨fun d hd=>?_,fun hl=>by rw[qd]at hl;exact hl⟩;obtain⟨hi,rfl⟩:=kh hd;refine⟨hi,fun x H2 hy=>?_⟩;obtain⟨rfl,rfl⟩:=hy;exact⟨F',Evo.refl hp,.int⟩
def cg(f:Dd):DF->Option (List D):=fun ρ=>match f ρ with
 |some (.int j)=>if -(2^62)<=j/\j<2^62 then some (cz 0 j.toNat)else none
 |_=>none
def qf(f g:Dd):DF->Option (List D):=fun ρ=>match f ρ,g ρ with
 |some (.int i),some (.int j)=>if -(2^62)<=i/\i<2^62/\-(2^62)<=j/\j<2^62 then some (cz i (j-i).toNat)else none
 |_,_=>none
theorem a7{f:Dd}(hg:Gl X "range")(hm:X.mg "range"=none)(ha:PDR X a f)(hs:starEach [a] X.env=[(false,eval a X.env)]:=by rfl):PDI X tg (.Call (.Name "range" p) [a] [] pos) (cg f):=
 PI.imp (ut hg hm (aT ha bF hs) hs) fun σ H R=>un7 fun P F ρ ds hf I k=>by
  unfold cg at hf;split at hf
  ·rename_i j q;split at hf
   ·rename_i hj;cases hf;refine⟨P,F,ρ,_,q,I,fun v F1 H1 e1 r1=>⟨j,by rw[ck r1],hj.1,hj.2,k _ F1 H1 e1 (km 0 _)⟩⟩
   ·cases hf
  ·cases hf
theorem f7{f g:Dd}(hg:Gl X "range")(hm:X.mg "range"=none)(ha:PDR X a f)(hb:PDR X b g)(hs:starEach [a,b] X.env=[(false,eval a X.env),(false,eval b X.env)]:=by rfl)(hs2:starEach [b] X.env=[(false,eval b X.env)]:=by rfl):PDI X tg (.Call (.Name "range" p) [a,b] [] pos) (qf f g):=
 PI.imp (tm hg hm (aT ha (aT hb bF hs2) (by rw[hs,hs2])) hs hs2) fun σ H R=>un7 fun P F ρ ds hf I k=>by
  unfold qf at hf;split at hf
  ·rename_i i j q1 q2;split at hf
   ·rename_i hj;cases hf;refine⟨P,F,ρ,_,q1,I,fun v F1 H1 e1 r1=>⟨P,F1,ρ,_,q2,I.evo e1,fun v2 F2 H2 e2 r2=>⟨i,j,by rw[ck r1,ck r2],hj,k _ F2 H2 (e1.trans e2) (km i _)⟩⟩⟩
   ·cases hf
  ·cases hf
def rT:List Nat->List D->DF->Option DF
 |[],[],ρ=>some ρ
 |i::is,d::ds,ρ=>rT is ds (ρ.set i (some (.v d)))
 |_,_,_=>none
def m_(is:List Nat)(d:D)(ρ:DF):Option DF:=match d with
 |.tup ds=>rT is ds ρ
 |_=>none
def qY:List Nat->TGs
 |[]=>Cz
 |i::is=>ze (io i) (qY is)
theorem lq{K:Kq}{P F H:Hp}{Q:St->Hp->Prop}:∀(is:List Nat) (vs:List V) (ds:List D) (ρ ρ':DF) (σ:St),Reps K F vs ds->rT is ds ρ=some ρ'->DInv K P F H ρ σ->
  (∀σ',DInv K P F H ρ' σ'->σ'.length=σ.length->(∀j,j∉is->σ'[j]?=σ[j]?)->Q σ' H)->qY is vs σ H Q
 |[],vs,ds,ρ,ρ',σ,r,hs,I,k=>by
  cases r with
  |nil=>cases hs;exact⟨rfl,k σ I rfl fun _ _=>rfl⟩
  |cons _ _=>cases hs
 |i::is,vs,ds,ρ,ρ',σ,r,hs,I,k=>by
  cases r with
  |nil=>cases hs
  |cons h q=>
   refine⟨_,_,rfl,lq is _ _ _ ρ' _ q hs (I.setV i h) fun σ' I' hl hj=>k σ' I' (by rw[hl,YO]) fun j hn=>?_⟩;rw[hj j (fun z=>hn (Yc _ z)),YL (fun z=>hn (by rw[z];exact Yd))]
theorem lW:∀(is:List Nat) (ds:List D) (ρ ρ':DF),rT is ds ρ=some ρ'->ds.length=is.length
 |[],[],_,_,_=>rfl
 |[],_::_,_,_,h=>by cases h
 |_::_,[],_,_,h=>by cases h
 |i::is,d::ds,ρ,ρ',h=>by rw[Yy,Yy,lW is ds _ _ h]
theorem nD{es:List Expr}{k:Nat}{is:List Nat}(hc:X.calm=true)(h:PGs X es (qY is))(hn:(assignEach es X.env).length=is.length:=by rfl)(hst:(assignEach es X.env).findIdx? (·.1)=none:=by rfl):PDG X (.Tuple es k pos) is (m_ is):=
 PG.imp (Bf (n:=is.length) hc h hn hst) fun v σ H Q hh_=>by
  obtain⟨P,F,ρ,d,ρ',hs,I,r,kk⟩:=hh_;cases d with
  |tup ds=>
   cases r with
   |tup h1 h2=>
    exact⟨_,_,rfl,SqT.of (I.sub _ _ h1),by rw[h2.length];exact lW is ds ρ ρ' hs,lq is _ ds ρ ρ' σ h2 hs I fun σ' I' hl hj=>kk σ' F H (Evo.refl I.toDHp) I' hl hj⟩
  |_=>cases hs
def rV(is:List Nat)(f:Dd):DF->Option RES:=fun ρ=>(f ρ).bind fun d=>(m_ is d ρ).map .nx
theorem xK{es:List Expr}{k:Nat}{pos':Pos}{is:List Nat}{f:Dd}(hg:PDG X (.Tuple es k pos') is (m_ is))(he:PDE X e f)(hs:swapsWithSole [.Tuple es k pos'] e pos.line X.env=pure false:=by rfl)(hw:swappedStores [.Tuple es k pos'] e X.env=pure none:=by rfl)
  (h1:(assignEach [.Tuple es k pos'] X.env).map (·.2)=[assign (.Tuple es k pos') X.env]:=by rfl):PD1 X (.Assign [.Tuple es k pos'] e pos) (rV is f):=PS.imp (AL he hg hs hw h1) fun E σ H=>un7 fun P F ρ r hr I kk=>by
 unfold rV at hr;cases q:f ρ with
 |none=>rw[q]at hr;cases hr
 |some d=>
  rw[q,Ya]at hr;cases q2:m_ is d ρ with
  |none=>rw[q2]at hr;cases hr
  |some ρ'=>
   rw[q2]at hr;cases hr;exact⟨P,F,ρ,d,q,I,fun v F1 H1 e1 r1=>⟨P,F1,ρ,d,ρ',q2,I.evo e1,r1,fun σ' F2 H2 e2 I2 _ _=>kk σ' F2 H2 (e1.ext.trans e2.ext) I2⟩⟩
end
theorem DInv.mut{K:Kq}{P F H:Hp}{ρ:DF}{σ:St}(I:DInv K P F H ρ σ){i:Nat}{o o':OD}{t:Option Addr}{a:Addr}{u:HO}(h:ρ[i]?=some (some (.own o t)))(hf:o.flat=true)(hf':o'.flat=true)(hs:σ[i]?=some (some (.ref a)))(hr:ORep1 K F o' u) :
  DInv K P F (upd H a u) (ρ.set i (some (.own o' t))) σ:=by
 obtain⟨O,hR⟩:=I.rep;obtain⟨v,h1,b,rfl,h2,ht⟩:=hR i _ h;rw[hs]at h1;cases h1;obtain⟨⟨q1,q2,q3⟩,u',q4,_⟩:=(ORep.flat hf).mp h2;refine⟨⟨fun c w e=>by rw[au (aH e q1)];exact I.sub c w e,fun c w e=>by rw[au (aH e q2)];exact I.pro c w e,I.dis⟩,by rw[YO];exact I.len,O,fun j z hj=>?_⟩;rcases df hj with⟨rfl,e,hl⟩|⟨hij,hj'⟩
 ·cases e;exact⟨_,hs,a,rfl,(ORep.flat hf').mpr ⟨⟨q1,q2,q3⟩,u,aG,hr⟩,ht⟩
 ·obtain⟨w,e1,e2⟩:=hR j z hj';refine⟨w,e1,?_⟩;cases z with
  |v d'=>exact e2
  |own od t'=>(obtain⟨c,rfl,e3,ht'⟩:=e2;exact⟨c,rfl,e3.mono (Same.refl _) fun b w' q hb=>⟨by rw[au (fun z=>by subst z;rw[q.2.2]at q3;exact hij (Yr q3).symm)];exact hb,q⟩,ht'⟩)
  |bor od=>exact e2
section
variable{X:Cx}{o e:Expr}{pos apos cpos:Pos}
def di(i:Nat)(f:Dd):DF->Option RES:=fun ρ=>match ρ[i]? with
 |some (some (.own (.lst ds) t))=>(f ρ).bind fun d=>if ds.length<16777216 then some (.nx (ρ.set i (some (.own (.lst (ds++[d])) t))))else none
 |_=>none
theorem nL{K:Kq}{P F H:Hp}{ρ:DF}{σ:St}(I:DInv K P F H ρ σ){i:Nat}{ds:List D}{t:Option Addr}(q:ρ[i]?=some (some (.own (.lst ds) t))):∃a vs,σ[i]?=some (some (.ref a))/\F a=none/\P a=none/\H a=some (.lst vs)/\Reps K F vs ds:=by
 obtain⟨v,h1,a,rfl,⟨⟨q1,q2,_⟩,u,q3,q4⟩,_⟩:=I.at q;cases u with
 |lst vs=>exact⟨a,vs,h1,q1,q2,q3,q4⟩
 |_=>exact q4.elim
theorem bJ(i:Nat){f:Dd}(h:PE X o (dg i))(ha:PDE X e f)(hbase:attributeBase o "append" X.env (eval o X.env)=eval o X.env:=by rfl)
  (hfew:((backTo cpos (starEach [e] X.env)).all (fun x=>!x.1)&&(backToKw cpos (keywordEach [] X.env)).all (fun x=>x.1.isSome)
   && decide (([e]:List Expr).length+([]:List Keyword).length+(if([]:List Keyword).isEmpty then 0 else 1)<30))=true:=by rfl)
  (hline:(apos.endLine == cpos.line)=true:=by rfl) (hs:starEach [e] X.env=[(false,eval e X.env)]:=by rfl) (hsw:swapsWith (.Call (.Attribute o "append" apos) [e] [] cpos) none pos.line X.env=pure false:=by rfl) :
  PD1 X (.Expr (.Call (.Attribute o "append" apos) [e] [] cpos) pos) (di i f):=
 PS.imp (eS (lE Zo Xj Xk dY h (aT ha bF hs) hbase hfew hline hs rfl) hsw) fun E σ H=>un7 fun P F ρ r hr I k=>by
  unfold di at hr;split at hr
  ·rename_i ds t q;cases q2:f ρ with
   |none=>rw[q2]at hr;cases hr
   |some d=>
    rw[q2,Ya]at hr;split at hr
    ·rename_i hl;cases hr;obtain⟨a,vs,h1,h2,h3,h4,h5⟩:=nL I q;refine⟨_,h1,.inl ⟨rfl,vs,SqL.of h4⟩,P,F,ρ,d,q2,I,fun v F1 H1 e1 r1=>?_⟩;obtain⟨k1,k2⟩:=e1.keep a _ h4 h2;have I1:=I.evo e1;refine⟨a,vs,v,rfl,rfl,k1,by rw[YK,h5.length];exact hl,k σ F1 _ e1.ext ?_⟩;exact I1.mut (o':=.lst _) (u:=.lst _) q rfl rfl h1 ((h5.same e1.ext).append (.one r1))
    ·cases hr
  ·cases hr
end
mutual
def ltD:D->D->Bool
 |.int i,.int j=>decide (i<j)
 |.bl a,.bl b=>!a&&b
 |.str x,.str y=>decide (x.cps.toList<y.cps.toList)
 |.tup xs,.tup ys=>bQ xs ys
 |_,_=>false
def bQ:List D->List D->Bool
 |[],[]=>false
 |[],_::_=>true
 |_::_,[]=>false
 |x::xs,y::ys=>if eqd x y=true then bQ xs ys else ltD x y
end
mutual
def aq:D->D->Bool
 |.int _,.int _=>true
 |.bl _,.bl _=>true
 |.str _,.str _=>true
 |.tup xs,.tup ys=>bb xs ys
 |_,_=>false
def bb:List D->List D->Bool
 |x::xs,y::ys=>aq x y&&bb xs ys
 |_,_=>true
end
def wS(A:Around)(s:Shared)(y x:Value)(b:Bool):Prop:=
 ∀(prog:Program) (w:World) (E:Kv) (Q:Kv),Q (.bool b) s->wpAny (model prog w) A (richCompare .Lt y x) Q E s
inductive LexOk (A:Around) (s:Shared):List Value->List Value->List D->List D->Prop
 |nl {ws:List Value}{es:List D}:ws.length=es.length->LexOk A s [] ws [] es
 |nr {vs:List Value}{ds:List D}:vs.length=ds.length->LexOk A s vs [] ds []
 |cons {v w:Value}{d e:D}{vs ws:List Value}{ds es:List D}:SeqAt.EqAt A s v w (eqd d e)->(eqd d e=false->wS A s v w (ltD d e))->LexOk A s vs ws ds es->LexOk A s (v::vs) (w::ws) (d::ds) (e::es)
theorem LexOk.len{A:Around}{s:Shared}{vs ws:List Value}{ds es:List D}(h:LexOk A s vs ws ds es):vs.length=ds.length/\ws.length=es.length:=by
 induction h with
 |nl h=>exact⟨rfl,h⟩
 |nr h=>exact⟨h,rfl⟩
 |cons _ _ _ ih=>exact⟨Zs Nat.succ ih.1,Zs Nat.succ ih.2⟩
section
open PySem.SeqAt
open PySem.AutoSeq1 (wpAny_loadPart')
open PySem.MeetsSeq PySem.MeetsSeq2 PySem.MeetsSeq3
theorem nn(l b:Addr)(items dF:Array Value)(n n2:Nat)(dd dd2:Option Addr)(sl sl2:Array (Option Value))(ds es:List D) :
  Meets (Builtin.«tuple.__lt__» ⟨[.ref l,.ref b],[]⟩)
   (fun A R s=>LexOk A.in1 s items.toList dF.toList ds es/\s.heap.get? l=some {cls:=.type "tuple",dict:=dd,data:=.seq items n,slots:=sl}/\s.heap.get? b=some {cls:=.type "tuple",dict:=dd2,data:=.seq dF n2,slots:=sl2} /\
    R (.ok (.ret (.bool (bQ ds es)))) s):=
 .of_wp fun prog w A R s h=>by
  obtain⟨hp,g,d,tk,os⟩:=s;obtain⟨hlex,hl,hb,h⟩:=h;have f2:=AutoSeq1.sub_tuple_tuple;have z1:items.size=ds.length:=by rw[<-hlex.len.1];simp
  have z2:dF.size=es.length:=by rw[<-hlex.len.2];simp
  wp_walk using wpAny_loadPart' hl,wpAny_loadPart' hb,Xr _ (fun bD b s'=>b.1=none/\s'=⟨hp,g,d,tk,os⟩/\∃(vs ws:List Value) (ds' es':List D),bD=vs.zip ws /\
   LexOk A.in1 ⟨hp,g,d,tk,os⟩ vs ws ds' es'/\ds'.length+dF.size=es'.length+items.size/\R (.ok (.ret (.bool (bQ ds' es')))) ⟨hp,g,d,tk,os⟩) _
  case turn=>
   rintro⟨y,x⟩ bD b s' ⟨hb',rfl,vs,ws,ds',es',hz,hx,hlen,hR⟩;cases hx with
   |nl _=>rw[List.zip_nil_left]at hz;cases hz
   |nr _=>rw[List.zip_nil_right]at hz;cases hz
   |@cons v w' dd' ee' vs' ws' ds'' es'' he hlt hx'=>
    rw[VO]at hz;injection hz with hyx hrest;injection hyx with hy hxx;subst hy hxx;simp only[Yy]at hlen;refine Yb (he prog w _ _ ?_);cases q:eqd dd' ee' with
    |true=>
     have hR':R (.ok (.ret (.bool (bQ ds'' es'')))) ⟨hp,g,d,tk,os⟩:=by rw[bQ,if_pos q]at hR;exact hR
     wp_walk
     exact⟨rfl,rfl,_,_,_,_,hrest,hx',by omega,hR'⟩
    |false=>
     have hR':R (.ok (.ret (.bool (ltD dd' ee')))) ⟨hp,g,d,tk,os⟩:=by rw[bQ,if_neg (by rw[q];exact Yj)]at hR;exact hR
     have hri:=hlt q prog w
     wp_walk using hri
     exact⟨_,rfl,by simpa using hR'⟩
  case fin=>
   rintro⟨b1,b2⟩ s' ⟨hb',rfl,vs,ws,ds',es',hz,hx,hlen,hR⟩;simp only at hb';subst hb';have hv:bQ ds' es'=decide (items.size<dF.size):=by
    cases hx with
    |nl hw=>
     cases es' with
     |nil=>
      simp only[Zm]at hlen;rw[show bQ [] []=false by simp[bQ]];exact(YB (by omega)).symm
     |cons c u=>
      simp only[Zm,Yy]at hlen;rw[show bQ [] (c::u)=true by simp[bQ]];exact(YT (by omega)).symm
    |nr hw=>
     cases ds' with
     |nil=>
      simp only[Zm]at hlen;rw[show bQ [] []=false by simp[bQ]];exact(YB (by omega)).symm
     |cons c u=>
      simp only[Zm,Yy]at hlen;rw[show bQ (c::u) []=false by simp[bQ]];exact(YB (by omega)).symm
    |cons _ _ _=>
     rw[VO]at hz;cases hz
   rw[hv]at hR
   wp_walk
   exact⟨_,rfl,by simpa[Builtin.Tuple.tupleCompareSizes]using hR⟩
  case h=>
   exact⟨rfl,rfl,items.toList,dF.toList,ds,es,rfl,hlex,by omega,h⟩
end
theorem t0{A:Around}{s:Shared}{l b:Addr}{items dF:Array Value}{ds es:List D}(hl:IsTup s.heap l items)(hb:IsTup s.heap b dF)(hx:LexOk A.in1 s items.toList dF.toList ds es)(hu:A.units<cLine) :
  wS A s (.ref l) (.ref b) (bQ ds es):=by
 intro prog w E Q h;obtain⟨⟨cls,dd,data,sl⟩,ho,hc,n,hd⟩:=id hl;obtain⟨⟨cls2,dd2,data2,sl2⟩,ho2,hc2,n2,hd2⟩:=id hb;simp only at hc hd hc2 hd2;subst hc hd hc2 hd2;exact richCompare_meets_room (op:=.Lt) ⟨_,ho,rfl⟩ ⟨_,ho2,rfl⟩ PySem.F.slot_tuple_lt PySem.F.entry_tuple_lt (PySem.F.args_tuple_lt_2 _ _) (nn l b items dF n n2 dd dd2 sl sl2 ds es)
  ⟨hx,ho,ho2,show Value.bool (bQ ds es)≠Value.notImplemented/\Q (.bool (bQ ds es)) s from⟨(fun x=>nomatch x),h⟩⟩ hu
section
variable{X:Cx}{pz:Kp}{σ:St}{H:Hp}{s:Shared}
def gh:D->Bool
 |.tup _=>true
 |_=>false
theorem Rep.ltS(A:Around){x y:V}{d e:D}{u w:Value}(h1:Rep X.K H x d)(h2:Rep X.K H y e)(c:aq d e=true)(hd:gh d=false)(r1:RelV x u)(r2:RelV y w):wS A s u w (ltD d e):=by
 cases d with
 |int i=>
  cases e with
  |int j=>
   cases h1;cases h2;obtain⟨t,rfl⟩:=(show ∃t,u=Value.int _ t from r1)
   obtain⟨t',rfl⟩:=(show ∃t,w=Value.int _ t from r2)
   intro prog w' E Q h;exact HT.rcLt_int A s _ _ _ _ prog w' E Q (by rw[ltD]at h;exact h)
  |_=>exact absurd c Yj
 |bl b1=>
  cases e with
  |bl b2=>
   cases h1;cases h2;cases(show u=Value.bool _ from r1);cases(show w=Value.bool _ from r2);intro prog w' E Q h;exact(PyProof.Rows.lt_bool (by cases b1<;>cases b2<;>(rw[ltD]at h;exact h)):wpAny (model prog w') A (compareOp .Lt (.bool b1) (.bool b2)) Q E s)
  |_=>exact absurd c Yj
 |str x1=>
  cases e with
  |str x2=>
   cases h1;cases h2;obtain⟨t,rfl⟩:=(show ∃t,u=Value.str _ t from r1)
   obtain⟨t',rfl⟩:=(show ∃t,w=Value.str _ t from r2)
   intro prog w' E Q h;exact(PyProof.Rows.lt_str (by rw[ltD]at h;exact h):wpAny (model prog w') A (compareOp .Lt (.str x1 t) (.str x2 t')) Q E s)
  |_=>exact absurd c Yj
 |tup xs=>cases hd
 |_=>exact absurd c Yj
theorem Reps.lex(I:Inv X pz σ H s)(n:Nat)(A:Around)(hu:A.units+n+2<cLine)
  (ih:∀{x y:V}{d e:D}{u w:Value},Rep X.K H x d->Rep X.K H y e->okN n d=true->okN n e=true->aq d e=true->RelV x u->RelV y w->wS A s u w (ltD d e)) :
  ∀{xs ys:List V}{ds es:List D}{us ws:List Value},Reps X.K H xs ds->Reps X.K H ys es->(∀d∈ds,okN n d=true)->(∀d∈es,okN n d=true)->bb ds es=true->Vals xs us->Vals ys ws->LexOk A s us ws ds es:=by
 intro xs ys ds;induction ds generalizing xs ys with
 |nil=>
  intro es us ws q1 q2 _ _ _ r1 r2;cases q1;cases r1;exact .nl (by rw[<-r2.length,q2.length])
 |cons d ds ihd=>
  intro es us ws q1 q2 o1 o2 c r1 r2;cases es with
  |nil=>
   cases q2;cases r2;exact .nr (by rw[<-r1.length,q1.length])
  |cons e es=>
   cases q1 with
   |cons h q=>
    cases q2 with
    |cons h' q'=>
     cases r1 with
     |cons r t=>
      cases r2 with
      |cons r' t'=>
       rw[bb,Yo]at c;have a1:=o1 _ Yd;have a2:=o2 _ Yd;obtain⟨x1,p1⟩:=h.reads I n a1 r;obtain⟨x2,p2⟩:=h'.reads I n a2 r';obtain⟨l1,m1⟩:=ce n _ a1;obtain⟨l2,m2⟩:=ce n _ a2;refine .cons (XY _ _ A s _ _ _ _ p1 p2 l1 l2 ?_) (fun _=>ih h h' a1 a2 c.1 r r') (ihd q q' (fun d hd=>o1 d (Yc _ hd)) (fun d hd=>o2 d (Yc _ hd)) c.2 t t');have:min (bG d).depth (bG e).depth<=n+1:=YD (VF _ _) m1;omega
theorem Rep.lt(I:Inv X pz σ H s):∀(n:Nat) (A:Around),A.units+n+2<cLine->∀{x y:V}{d e:D}{u w:Value},Rep X.K H x d->Rep X.K H y e->okN n d=true->okN n e=true->aq d e=true->RelV x u->RelV y w->wS A s u w (ltD d e):=by
 intro n;induction n with
 |zero=>
  intro A hu x y d e u w h1 h2 o1 o2 c r1 r2;refine h1.ltS A h2 c ?_ r1 r2;cases d<;>first|rfl|(simp[okN]at o1)
 |succ n ihn=>
  intro A hu x y d e u w h1 h2 o1 o2 c r1 r2;cases hd:gh d with
  |false=>exact h1.ltS A h2 c hd r1 r2
  |true=>
   cases d with
   |tup ds=>
    cases e with
    |tup es=>
     cases h1 with
     |tup h1 q1=>
      cases h2 with
      |tup h2 q2=>
       cases(show u=Value.ref _ from r1);cases(show w=Value.ref _ from r2);obtain⟨its1,rv1,ht1,_⟩:=I.tuple (SqT.of h1);obtain⟨its2,rv2,ht2,_⟩:=I.tuple (SqT.of h2);rw[ltD];have hu':A.in1.units+n+2<cLine:=by show A.units+1+n+2<cLine;omega
       exact t0 ht1 ht2 (Reps.lex I n A.in1 hu' (ihn A.in1 hu') q1 q2 (bK o1) (bK o2) (by rw[aq]at c;exact c) rv1 rv2) (by omega)
    |_=>exact absurd c Yj
   |_=>cases hd
end
def ltd(x y:D):Option D:=if(okN 30 x&&okN 30 y&&aq x y)=true then some (.bl (ltD x y))else none
def CC(K:Kq):R2:=fun x y H Q=>∃dx dy,Rep K H x dx/\Rep K H y dy/\okN 30 dx=true/\okN 30 dy=true/\aq dx dy=true/\Q (.bl (ltD dx dy)) H
section
variable{X:Cx}{a b:Expr}{pos:Pos}
theorem A1(hu:X.A.units+64<cLine):OpR X (compareOp .Lt) (CC X.K):=by intro pz s σ H x y v u Q I rx ry h;obtain⟨dx,dy,h1,h2,o1,o2,c,q⟩:=h;exact Rep.lt I 30 X.A (by omega) h1 h2 o1 o2 c rx ry X.prog X.w X.xe _ ⟨.bl _,H,I,rfl,q⟩
theorem AD{K:Kq}:OpN2 K (CC K) ltd:=by
 intro P F H x y dx dy d Q hf hp rx ry k;unfold ltd at hf;split at hf
 ·rename_i h;rw[Yo,Yo]at h;cases hf;exact⟨dx,dy,rx,ry,h.1.1,h.1.2,h.2,k _ F H (Evo.refl hp) .bl⟩
 ·cases hf
theorem ke{fa fb:Dd}(hu:X.A.units+64<cLine)(ha:PDN X a fa)(hb:PDN X b fb):PDT X (.Compare a [.Lt] [b] pos) (asB (d2 ltd fa fb)):=iW (A1 hu) AD ha hb (fS _)
end
end L2
namespace L2
open PySem PySem.Spec PyProof.Rows PySem.W
def kok{α:Type}(n:Nat)(lt:Nat->Nat->Bool):KasT α->(α->Prop)->Prop
 |.ret a,Q=>Q a
 |.ask i j k,Q=>i<n/\j<n/\kok n lt (k (lt i j)) Q
theorem e_{α β:Type}{n:Nat}{lt:Nat->Nat->Bool}{f:α->KasT β}{Q:β->Prop}(t:KasT α):kok n lt t (fun a=>kok n lt (f a) Q)->kok n lt (t.bind f) Q:=by
 induction t with
 |ret a=>exact fun h=>h
 |ask i j k ih=>exact fun h=>⟨h.1,h.2.1,ih _ h.2.2⟩
theorem cH{α:Type}{n:Nat}{lt:Nat->Nat->Bool}{Q Q':α->Prop}(hq:∀a,Q a->Q' a)(t:KasT α):kok n lt t Q->kok n lt t Q':=by
 induction t with
 |ret a=>exact hq a
 |ask i j k ih=>exact fun h=>⟨h.1,h.2.1,ih _ h.2.2⟩
theorem AR{α:Type}{n:Nat}{lt:Nat->Nat->Bool}{cmp:Nat->Nat->(Bool->Shared->Prop)->Shared->Prop}{s:Shared}{Q:α->Prop}{G:α->Shared->Prop}(hc:∀i j C,i<n->j<n->C (lt i j) s->cmp i j C s)(hG:∀a,Q a->G a s)(t:KasT α):kok n lt t Q->t.kasWp cmp G s:=by
 induction t with
 |ret a=>exact hG a
 |ask i j k ih=>exact fun h=>hc i j _ h.1 h.2.1 (ih _ h.2.2)
structure Ord (lt:Nat->Nat->Bool):Prop where
 asym:∀i j,lt i j=true->lt j i=false
 trans:∀i j k,lt j i=false->lt k j=false->lt k i=false
section
variable{n:Nat}{lt:Nat->Nat->Bool}
structure PermN (n:Nat) (p:Array Nat):Prop where
 size:p.size=n
 perm:p.toList.Perm (List.range n)
theorem PermN.bd{p:Array Nat}(h:PermN n p){i:Nat}(hi:i<n):p.getD i 0<n:=by
 have hs:i<p.size:=by rw[h.size];exact hi
 have e:p.getD i 0=p[i]:=by simp[Array.getD,hs]
 rw[e];have hm:p[i]∈p.toList:=by simp
 exact YJ.mp (h.perm.mem_iff.mp hm)
theorem PermN.rev{p:Array Nat}(h:PermN n p)(i j:Nat):PermN n (kas_rev p i j):=
 ⟨by unfold kas_rev;rw[mirror_size,h.size],((Array.perm_iff_toList_perm.mp (mirror_perm _ _ _ _)).trans h.perm)⟩
theorem PermN.bub{p:Array Nat}(h:PermN n p)(i j:Nat):PermN n (bubble p i j):=
 ⟨by rw[bubble_size,h.size],((Array.perm_iff_toList_perm.mp (bubble_perm _ _ _)).trans h.perm)⟩
theorem gx{p q:Array Nat}{i j:Nat}(h:p[i]?=q[j]?):p.getD i 0=q.getD j 0:=by simp only[YW,h]
theorem dO{p:Array Nat}(h:PermN n p){i j:Nat}(hj:j<=n)(k:Nat):(kas_rev p i j).getD k 0=if i<=k/\k<j then p.getD (i+j-1-k) 0 else p.getD k 0:=by
 have e:=getElem?_mirror_all (xs:=p) (i:=i) (j:=j) (by rw[h.size];exact hj) k;unfold kas_rev;split
 ·rename_i q;rw[if_pos q]at e;exact gx e
 ·rename_i q;rw[if_neg q]at e;exact gx e
def Ris(lt:Nat->Nat->Bool)(p:Array Nat)(b:Nat):Prop:=∀i j,i<=j->j<b->lt (p.getD j 0) (p.getD i 0)=false
def Fal(lt:Nat->Nat->Bool)(p:Array Nat)(b:Nat):Prop:=∀i j,i<=j->j<b->lt (p.getD i 0) (p.getD j 0)=false
def Eqs(lt:Nat->Nat->Bool)(p:Array Nat)(a b:Nat):Prop:=∀i j,a<=i->i<b->a<=j->j<b->lt (p.getD i 0) (p.getD j 0)=false
theorem Ord.irr(o:Ord lt)(i:Nat):lt i i=false:=by
 cases q:lt i i with
 |false=>rfl
 |true=>have:=o.asym i i q;rw[q]at this;cases this
theorem iT{a b i:Nat}(h:a<=i/\i<b):a<=a+b-1-i/\a+b-1-i<b:=by omega
theorem vb(o:Ord lt){p:Array Nat}(hp:PermN n p):∀(f k:Nat),1<=k->k+f<=n->Ris lt p k->kok n lt (kas_asc p f k) (fun m=>k<=m/\m<=k+f/\Ris lt p m/\(m=k+f\/lt (p.getD m 0) (p.getD (m-1) 0)=true)):=by
 intro f;induction f with
 |zero=>exact fun k _ _ hr=>⟨Yl _,Yl _,hr,.inl rfl⟩
 |succ f ih=>
  intro k h1 hk hr;have kn:k<n:=Ys (XS (Xb f)) hk;have k1:k-1<k:=VS h1 Nat.one_pos;have ek:=XT k 1 f;unfold kas_asc;refine⟨hp.bd kn,hp.bd (Xa k1 kn),?_⟩;cases c:lt (p.getD k 0) (p.getD (k-1) 0)with
  |true=>
   (try dsimp only);rw[if_pos rfl]
   exact⟨Yl _,Nat.le_add_right _ _,hr,.inr c⟩
  |false=>
   (try dsimp only);rw[if_neg Yj]
   refine cH (fun m h=>⟨XZ h.1,YD h.2.1 (ZU ek),h.2.2.1,h.2.2.2.imp (fun e=>e.trans ek) id⟩) _ (ih (k+1) (Zr 1 k) (YD (ZU ek) hk) fun i j hij hj=>?_);by_cases hjk:j<k
   ·exact hr i j hij hjk
   ·have:j=k:=Zi (Zl hj) (ZR hjk);subst this;by_cases hik:i=j
    ·subst hik;exact o.irr _
    ·exact o.trans _ _ _ (hr i (j-1) (Xf (ZA hij hik)) k1) c
theorem sv{p:Array Nat}(hp:PermN n p){a b:Nat}(hb:b<=n)(he:Eqs lt p a b)(o:Ord lt)(hf:Fal lt p b):Fal lt (kas_rev p a b) b:=by
 intro i j hij hj;rw[dO hp hb,dO hp hb];by_cases hi:a<=i/\i<b
 ·rw[if_pos hi];have hj':a<=j/\j<b:=⟨YD hi.1 hij,hj⟩
  rw[if_pos hj'];exact he _ _ (iT hi).1 (iT hi).2 (iT hj').1 (iT hj').2
 ·rw[if_neg hi];have hia:i<a:=Nat.lt_of_not_le fun z=>hi ⟨z,ZB hij hj⟩
  by_cases hj':a<=j/\j<b
  ·rw[if_pos hj'];exact hf _ _ (YD (ZG hia) (iT hj').1) (iT hj').2
  ·rw[if_neg hj'];exact hf i j hij hj
theorem ja(o:Ord lt){p':Array Nat}{k:Nat}(h1:1<=k)(hf':Fal lt p' k)(hc:lt (p'.getD (k-1) 0) (p'.getD k 0)=false):Fal lt p' (k+1):=by
 intro i j hij hj;by_cases hjk:j<k
 ·exact hf' i j hij hjk
 ·have:j=k:=Zi (Zl hj) (ZR hjk);subst this;by_cases hik:i=j
  ·subst hik;exact o.irr _
  ·exact o.trans _ _ _ hc (hf' i (j-1) (Xf (ZA hij hik)) (VS h1 Nat.one_pos))
theorem np(o:Ord lt)(p':Array Nat)(k:Nat):Eqs lt p' (k+1-(0+1)) (k+1):=by intro i j a1 a2 a3 a4;have e1:i=k:=Zi (Zl a2) a1;have e2:j=k:=Zi (Zl a4) a3;subst e1;subst e2;exact o.irr _
theorem wP(o:Ord lt){p:Array Nat}{k q:Nat}(hb:k-(q+1)<=k-1/\k-1<k)(he:Eqs lt p (k-(q+1)) k)(c:lt (p.getD k 0) (p.getD (k-1) 0)=false)(d:lt (p.getD (k-1) 0) (p.getD k 0)=false):Eqs lt p (k+1-(q+1+1)) (k+1):=by
 have e1:∀i,k+1-(q+1+1)<=i->i<k+1->lt (p.getD i 0) (p.getD k 0)=false/\lt (p.getD k 0) (p.getD i 0)=false:=fun i b1 b2=>by
  rw[Nat.add_sub_add_right]at b1;by_cases hik:i=k
  ·subst hik;exact⟨o.irr _,o.irr _⟩
  ·have il:i<k:=ZA (Zl b2) hik;exact⟨o.trans _ _ _ d (he i (k-1) b1 il hb.1 hb.2),o.trans _ _ _ (he (k-1) i hb.1 hb.2 b1 il) c⟩
 exact fun i j a1 a2 a3 a4=>o.trans _ _ _ (e1 j a3 a4).2 (e1 i a1 a2).1
theorem xh(o:Ord lt):∀(f:Nat) (p:Array Nat) (k q:Nat),PermN n p->1<=k->k+f<=n->q+1<=k->Fal lt p k->Eqs lt p (k-(q+1)) k->
  kok n lt (kas_desc f p k q) (fun r=>PermN n r.1/\k<=r.2.1/\r.2.1<=n/\r.2.2+1<=r.2.1/\Fal lt r.1 r.2.1/\Eqs lt r.1 (r.2.1-(r.2.2+1)) r.2.1):=by
 intro f;induction f with
 |zero=>exact fun p k q hp h1 hk hq hf he=>⟨hp,Yl _,hk,hq,hf,he⟩
 |succ f ih=>
  intro p k q hp h1 hk hq hf he;have kn:k<n:=Ys (XS (Xb f)) hk;have k1:k-1<k:=VS h1 Nat.one_pos;have hk':k+1+f<=n:=YD (ZU (XT k 1 f)) hk;have hb:k-(q+1)<=k-1/\k-1<k:=⟨Nat.sub_le_sub_left (Vq (YF q)) k,k1⟩
  unfold kas_desc;refine⟨hp.bd kn,hp.bd (Xa k1 kn),?_⟩;cases c:lt (p.getD k 0) (p.getD (k-1) 0)with
  |true=>
   (try dsimp only);rw[if_pos rfl]
   have hc:lt (p.getD (k-1) 0) (p.getD k 0)=false:=o.asym _ _ c;by_cases hq0:q > 0
   ·rw[if_pos hq0];have hf':=sv hp (ZG kn) he o hf;have hc':lt ((kas_rev p (k-(q+1)) k).getD (k-1) 0) ((kas_rev p (k-(q+1)) k).getD k 0)=false:=by rw[dO hp (ZG kn),dO hp (ZG kn),if_pos hb,if_neg (fun z=>YX _ z.2)];exact o.trans _ _ _ hc (he _ _ (iT hb).1 (iT hb).2 hb.1 hb.2)
    exact cH (fun r h=>⟨h.1,XZ h.2.1,h.2.2⟩) _ (ih _ (k+1) 0 (hp.rev _ _) (Zr 1 k) hk' (Zr 1 k) (ja o h1 hf' hc') (np o _ k))
   ·rw[if_neg hq0];exact cH (fun r h=>⟨h.1,XZ h.2.1,h.2.2⟩) _ (ih _ (k+1) 0 hp (Zr 1 k) hk' (Zr 1 k) (ja o h1 hf hc) (np o _ k))
  |false=>
   (try dsimp only);rw[if_neg Yj]
   refine⟨hp.bd (Xa k1 kn),hp.bd kn,?_⟩;cases d:lt (p.getD (k-1) 0) (p.getD k 0)with
   |true=>
    (try dsimp only);rw[if_pos rfl]
    exact⟨hp,Yl _,ZG kn,hq,hf,he⟩
   |false=>
    (try dsimp only);rw[if_neg Yj]
    exact cH (fun r h=>⟨h.1,XZ h.2.1,h.2.2⟩) _ (ih p (k+1) (q+1) hp (Zr 1 k) hk' (Vq hq) (ja o h1 hf d) (wP o hb he c d))
theorem xt{p:Array Nat}(hp:PermN n p){b:Nat}(hb:b<=n)(hf:Fal lt p b):Ris lt (kas_rev p 0 b) b:=by
 intro i j hij hj;have hi:0<=i/\i<b:=⟨YF _,ZB hij hj⟩
 rw[dO hp hb,dO hp hb,if_pos ⟨YF _,hj⟩,if_pos hi];exact hf _ _ (Nat.sub_le_sub_left hij _) (iT hi).2
theorem n_(o:Ord lt){p:Array Nat}(hp:PermN n p){k:Nat}(h1:1<=k)(hk:k<=n)(hf:Fal lt p k):kok n lt (kas_tail3 k n p) (fun r=>1<=r.1/\r.1<=n/\PermN n r.2/\Ris lt r.2 r.1):=by unfold kas_tail3;have e:=ZU (XJ hk);exact e_ _ (cH (fun m h=>⟨YD h1 h.1,YD h.2.1 e,hp.rev _ _,h.2.2.1⟩) _ (vb o (hp.rev 0 k) (n-k) k h1 e (xt hp hk hf)))
theorem iM(o:Ord lt){p:Array Nat}(hp:PermN n p){k:Nat}(h1:1<=k)(hk:k<n)(hf:Fal lt p (k+1)):kok n lt (kas_descPart k n p) (fun r=>1<=r.1/\r.1<=n/\PermN n r.2/\Ris lt r.2 r.1):=by
 unfold kas_descPart;refine e_ _ (cH ?_ _ (xh o (n-(k+1)) p (k+1) 0 hp (Zr 1 k) (ZU (XJ hk)) (Zr 1 k) hf (np o p k)));intro r h;obtain⟨a1,a2,a3,a4,a5,a6⟩:=h;have h1':=YD (Zr 1 k) a2;by_cases hq:r.2.2 > 0
 ·rw[if_pos hq];exact n_ o (a1.rev _ _) h1' a3 (sv a1 a3 a6 o a5)
 ·rw[if_neg hq];exact n_ o a1 h1' a3 a5
theorem u3(o:Ord lt){p:Array Nat}(hp:PermN n p)(hn:1<=n):kok n lt (kas_count n p) (fun r=>1<=r.1/\r.1<=n/\PermN n r.2/\Ris lt r.2 r.1):=by
 unfold kas_count;have en:=XJ hn;refine e_ _ (cH (fun k hh_=>?_) _ (vb o hp (n-1) 1 (Yl _) (ZU en) fun i j hij hj=>by
  have e2:j=0:=Nat.lt_one_iff.mp hj;subst e2;have e1:i=0:=Nat.le_zero.mp hij;subst e1;exact o.irr _))
 obtain⟨a1,a2,a3,a4⟩:=hh_;have a2:k<=n:=YD a2 (ZU en);by_cases hk:(k == n)=true
 ·rw[if_pos hk];exact⟨a1,a2,hp,a3⟩
 ·rw[if_neg hk];have hkn:k≠n:=by simpa using hk
  have kn:k<n:=ZA a2 hkn;have k1:k-1<k:=VS a1 Nat.one_pos;have hlt:lt (p.getD k 0) (p.getD (k-1) 0)=true:=by
   rcases a4 with e|e
   ·exact absurd (e.trans en) hkn
   ·exact e
  have hc:=o.asym _ _ hlt;by_cases h1:k > 1
  ·rw[if_pos h1];refine⟨hp.bd (Ys Nat.one_pos hn),hp.bd (Xa k1 kn),?_⟩;cases c:lt (p.getD 0 0) (p.getD (k-1) 0)with
   |true=>
    (try dsimp only);rw[if_pos rfl]
    exact⟨a1,a2,hp,a3⟩
   |false=>
    (try dsimp only);rw[if_neg Yj]
    have alike:∀i j,i<k->j<k->lt (p.getD i 0) (p.getD j 0)=false:=fun i j hi hj=>
     o.trans _ _ _ (o.trans _ _ _ (a3 j (k-1) (Xf hj) k1) c) (a3 0 i (YF _) hi)
    refine iM o (hp.rev _ _) a1 kn fun i j hij hj=>?_;rw[dO hp a2,dO hp a2];by_cases hjk:j<k
    ·have hi:0<=i/\i<k:=⟨YF _,ZB hij hjk⟩
     rw[if_pos hi,if_pos ⟨YF _,hjk⟩];exact alike _ _ (iT hi).2 (iT ⟨YF _,hjk⟩).2
    ·have ej:j=k:=Zi (Zl hj) (ZR hjk);subst ej;rw[if_neg (fun z:0<=j/\j<j=>YX _ z.2)];by_cases hij':i<j
     ·rw[if_pos ⟨YF _,hij'⟩];exact o.trans _ _ _ hc (alike _ _ (iT ⟨YF _,hij'⟩).2 k1)
     ·rw[if_neg fun z=>hij' z.2];have:i=j:=Zi hij (ZR hij');subst this;exact o.irr _
  ·rw[if_neg h1];have ek:k=1:=Zi (ZR h1) a1;subst ek;refine iM o hp (Yl _) kn fun i j hij hj=>?_;by_cases hij':i=j
   ·subst hij';exact o.irr _
   ·have lj:i<j:=ZA hij hij';have e2:j=1:=Zi (Zl hj) (ZB (YF i) lj);subst e2;have e1:i=0:=Nat.lt_one_iff.mp lj;subst e1;exact hc
theorem jF(o:Ord lt){p:Array Nat}(hp:PermN n p){k:Nat}(hk:k<n)(hr:Ris lt p k):∀(f l r:Nat),l<=r->r<=k->r-l<=f->(∀i,i<l->lt (p.getD k 0) (p.getD i 0)=false)->(∀i,r<=i->i<k->lt (p.getD k 0) (p.getD i 0)=true)->
  kok n lt (kas_place p k f l r) (fun m=>m<=k/\(∀i,i<m->lt (p.getD k 0) (p.getD i 0)=false)/\∀i,m<=i->i<k->lt (p.getD k 0) (p.getD i 0)=true):=by
 intro f;induction f with
 |zero=>
  intro l r h1 h2 h3 h4 h5;have e:l=r:=Zi h1 (Nat.le_of_sub_eq_zero (Nat.le_zero.mp h3));subst e;exact⟨h2,h4,h5⟩
 |succ f ih=>
  intro l r h1 h2 h3 h4 h5;unfold kas_place;by_cases hlr:l ≥ r
  ·rw[if_pos hlr];have e:l=r:=Zi h1 hlr;subst e;exact⟨h2,h4,h5⟩
  ·rw[if_neg hlr];have mid:l<=(l+r)/2/\(l+r)/2<r/\(l+r)/2-l<=f/\r-((l+r)/2+1)<=f:=by clear h4 h5 hr hp ih h2 hk;omega
   obtain⟨m1,m2,m3,m4⟩:=mid;refine⟨hp.bd hk,hp.bd (Xa (Ys m2 h2) hk),?_⟩;cases c:lt (p.getD k 0) (p.getD ((l+r)/2) 0)with
   |true=>
    (try dsimp only);rw[if_pos rfl]
    refine ih l _ m1 (YD (ZG m2) h2) m3 h4 fun i a1 a2=>?_;cases q:lt (p.getD k 0) (p.getD i 0)with
    |true=>rfl
    |false=>
     have:=o.trans _ _ _ (hr ((l+r)/2) i a1 a2) q;rw[c]at this;cases this
   |false=>
    (try dsimp only);rw[if_neg Yj]
    exact ih _ r m2 h2 m4 (fun i a1=>o.trans _ _ _ (hr i ((l+r)/2) (Zl a1) (Ys m2 h2)) c) h5
theorem sE{p:Array Nat}(hp:PermN n p){k l:Nat}(hk:k<n)(hl:l<=k)(i:Nat):(bubble p k (k-l)).getD i 0=if i=l then p.getD k 0 else if l<i/\i<=k then p.getD (i-1) 0 else p.getD i 0:=by
 have e:=getElem?_bubble (xs:=p) (src:=k) (by rw[hp.size];exact hk) (k-l) (Nat.sub_le _ _) i;rw[Nat.sub_sub_self hl]at e;by_cases h1:i=l
 ·rw[if_pos h1]at e ⊢;exact gx e
 ·rw[if_neg h1]at e ⊢;by_cases h2:l<i/\i<=k
  ·rw[if_pos h2]at e ⊢;exact gx e
  ·rw[if_neg h2]at e ⊢;exact gx e
theorem xo(o:Ord lt){p:Array Nat}(hp:PermN n p){k l:Nat}(kn:k<n)(hr:Ris lt p k)(a1:l<=k)(a2:∀i,i<l->lt (p.getD k 0) (p.getD i 0)=false)(a3:∀i,l<=i->i<k->lt (p.getD k 0) (p.getD i 0)=true):Ris lt (bubble p k (k-l)) (k+1):=by
 intro i j hij hj;have jk:j<=k:=Zl hj;have jl:l<j->j-1<k:=fun z=>Ys (VS (ZB (YF l) z) Nat.one_pos) jk
 rw[sE hp kn a1,sE hp kn a1];by_cases ei:i=l
 ·rw[if_pos ei];by_cases ej:j=l
  ·rw[if_pos ej];exact o.irr _
  ·have lj:l<j:=ZA (ei ▸ hij) (ZL ej);rw[if_neg ej,if_pos ⟨lj,jk⟩];exact o.asym _ _ (a3 (j-1) (Xf lj) (jl lj))
 ·rw[if_neg ei];by_cases ej:j=l
  ·have il:i<=l:=ej ▸ hij;rw[if_pos ej,if_neg fun z=>YX _ (Ys z.1 il)];exact a2 i (ZA il ei)
  ·rw[if_neg ej];by_cases ci:l<i/\i<=k
   ·have lj:=Ys ci.1 hij;rw[if_pos ci,if_pos ⟨lj,jk⟩];exact hr _ _ (Nat.sub_le_sub_right hij 1) (jl lj)
   ·rw[if_neg ci];by_cases cj:l<j/\j<=k
    ·rw[if_pos cj];exact hr _ _ (Xf (ZB (ZR fun z=>ci ⟨z,YD hij jk⟩) cj.1)) (jl cj.1)
    ·rw[if_neg cj];exact hr _ _ hij (Ys (ZA (ZR fun z=>cj ⟨z,jk⟩) ej) a1)
theorem Ax(o:Ord lt):∀(f:Nat) (p:Array Nat) (k:Nat),PermN n p->k+f=n->Ris lt p k->kok n lt (kas_bin f p k) (fun r=>PermN n r/\Ris lt r n):=by
 intro f;induction f with
 |zero=>exact fun p k hp hk hr=>⟨hp,by rw[<-hk];exact hr⟩
 |succ f ih=>
  intro p k hp hk hr;have kn:k<n:=hk ▸ XS (Xb f);unfold kas_bin;refine e_ _ (cH (fun l hh_=>?_) _ (jF o hp kn hr k 0 k (YF _) (Yl _) (Yl _) (fun i hi=>absurd hi (VG _)) fun i h1 h2=>absurd h2 (Nat.not_lt_of_le h1)));obtain⟨a1,a2,a3⟩:=hh_;exact ih _ (k+1) (hp.bub _ _) ((XT k 1 f).trans hk) (xo o hp kn hr a1 a2 a3)
theorem j7(n:Nat):PermN n (List.toArray (List.range n)):=⟨by simp,by simp⟩
theorem pQ(o:Ord lt)(hn:1<=n):kok n lt (kas_sort n) (fun r=>PermN n r/\Ris lt r n):=by
 unfold kas_sort;refine e_ _ (cH (fun r hh_=>?_) _ (u3 o (j7 n) hn));obtain⟨a1,a2,a3,a4⟩:=hh_;by_cases hr:r.1<n
 ·rw[if_pos hr];have e:max r.1 1=r.1:=Nat.max_eq_left a1;rw[e];exact Ax o _ _ _ a3 (XJ a2) a4
 ·rw[if_neg hr];have e:r.1=n:=Zi a2 (ZR hr);rw[e]at a4;exact⟨a3,a4⟩
end
section
variable{prog:Program}{w:World}{A:Around}{E:Kv}{s:Shared}
def ir(vs:List Value)(p:Array Nat):Array Value:=(p.toList.map fun i=>vs.getD i Value.none).toArray
theorem t5(vs:List Value)(h:vs.length<2):ir vs (List.toArray (List.range vs.length))=(vs.toArray.zip vs.toArray).map (·.2):=by
 cases vs with
 |nil=>simp[ir]
 |cons v r=>
  cases r with
  |nil=>simp[ir,List.range,List.range.loop]
  |cons _ _=>simp at h;omega
theorem kO{a:Addr}{vs:List Value}{n:Nat}{P:PySem.Fin->Shared->Prop}(ho:s.heap.get? a=some (seqObj "list" vs.toArray n))(h64:vs.length<64)(κ:SortKind)(lt:Nat->Nat->Bool)(o:Ord lt)
  (hk:2<=vs.length->∀h',(∀b u,b≠a->s.heap.get? b=some u->h'.get? b=some u)->∀Q:SortKind->Shared->Prop,Q κ {s with heap:=h' }->wpAny (model prog w) A (keyKind' vs.toArray) Q E {s with heap:=h' })
  (hc:∀h',(∀b u,b≠a->s.heap.get? b=some u->h'.get? b=some u)->∀i j C,i<vs.length->j<vs.length->C (lt i j) {s with heap:=h' }->kas_ask prog w A κ vs i j C {s with heap:=h' })
  (h:∀p,PermN vs.length p->Ris lt p vs.length->P (.done (.ret .none)) {s with heap:=sortedHeap s.heap a vs (ir vs p)}) :
  wpAny (model prog w) A (Builtin.«list.sort» ⟨[.ref a],[]⟩) P E s:=by
 rw[list_sort_plain];have ha:a<s.heap.objs.size:=Yp ho;refine Yb (listItems_at ho rfl ?_);refine Yb (listUpdate_at ho rfl ?_ (by rw[Yz,YK];omega) (YF _));obtain⟨e1,ho1⟩:∃e1,(s.heap.update a (Obj.mapSeq fun _=>(#[]:Array Value))).get? a=some (seqObj "list" #[] e1):=⟨_,get?_update_seq ho (fun _=>#[])⟩
 refine Yb (seqEpoch_at ho1 rfl ?_);refine Yb (wpAny_newTuple ?_ (by show vs.length<=_;rw[YK];omega));refine Yb (Vw ?_ (YF _));refine ZK ?_;have ho6:(((s.heap.update a (Obj.mapSeq fun _=>(#[]:Array Value))).push (seqObj "tuple" vs.toArray 0)).push (seqObj "list" #[] 0)).get? a=some (seqObj "list" #[] e1):=by rw[Xz _ _ _ (by rw[size_push',Vr];exact Yw (Zj ha)),Xz _ _ _ (by rw[Vr];exact Yw ha)];exact ho1
 have kept:∀b u,b≠a->s.heap.get? b=some u->(((s.heap.update a (Obj.mapSeq fun _=>(#[]:Array Value))).push (seqObj "tuple" vs.toArray 0)).push (seqObj "list" #[] 0)).get? b=some u:=fun b u hb e=>by
  have hlt:b<s.heap.objs.size:=Yp e;rw[Xz _ _ _ (by rw[size_push',Vr];exact Yw (Zj hlt)),Xz _ _ _ (by rw[Vr];exact Yw hlt),YI _ _ _ _ hb];exact e
 show wpAny (model prog w) A _ P E {s with heap:=((s.heap.update a (Obj.mapSeq fun _=>(#[]:Array Value))).push (seqObj "tuple" vs.toArray 0)).push (seqObj "list" #[] 0)};dsimp only;have hsz:vs.toArray.size=vs.length:=by simp
 by_cases h2:vs.toArray.size<2
 ·rw[if_pos h2,if_pos h2];refine Yb (Yf ?_);rw[StateT.run_pure];refine Yb (Yf ?_);dsimp only;refine Yb (seqEpoch_at ho6 rfl ?_);refine Yb (listUpdate_at ho6 rfl ?_ (YF _) (by rw[Array.size_map];show(pairsOf vs).size<=_;rw[pairsOf_size,YK];omega));simp only[bne_self_eq_false,Zz,Vi];have q:=h (List.toArray (List.range vs.length)) (j7 _) (fun i j hij hj=>by
   have e1:i=j:=by omega
   subst e1;exact o.irr _)
  have e:ir vs (List.toArray (List.range vs.length))=(vs.toArray.zip vs.toArray).map (·.2):=by exact t5 vs (by omega)
  rw[e]at q;exact Yf q
 ·rw[if_neg h2,if_neg h2];have h2':2<=vs.length:=by omega
  refine Yb (hk h2' _ kept _ ?_);refine Yb (Xg (kat_run (Q:=fun st' s'=>s'={s with heap:=((s.heap.update a (Obj.mapSeq fun _=>(#[]:Array Value))).push (seqObj "tuple" vs.toArray 0)).push (seqObj "list" #[] 0)}/\∃p:Array Nat,PermN vs.length p/\Ris lt p vs.length/\arrOf st'=p.map (kas_item (vs.toArray.zip vs.toArray))/\failedOf st'=none)
   (G:=fun p s'=>s'={s with heap:=((s.heap.update a (Obj.mapSeq fun _=>(#[]:Array Value))).push (seqObj "tuple" vs.toArray 0)).push (seqObj "list" #[] 0)}/\PermN vs.length p/\Ris lt p vs.length)
   rfl h2' h64 (fun p st' s' a1 a2 a3 ⟨b1,b2,b3⟩=>⟨b1,p,b2,b3,a2,a3⟩) (AR (hc _ kept) (fun p ⟨b2,b3⟩=>⟨rfl,b2,b3⟩) _ (pQ o (by omega)))) ?_ fun _ _ e=>e)
  rintro⟨⟨⟩,st'⟩ s' ⟨rfl,p,hp,hr,har,hf⟩;dsimp only;have hout:=kat_snds rfl har;rw[hout];refine Yb (seqEpoch_at ho6 rfl ?_);refine Yb (listUpdate_at ho6 rfl ?_ (YF _) (by rw[Yz,Ye,YC,hp.size,YK];omega));rw[hf];simp only[bne_self_eq_false,Zz,Vi];exact Yf (h p hp hr)
end
theorem xy{x y:Str}(h:x.cps.toList=y.cps.toList):x=y:=by
 cases x;cases y
 congr
 exact Array.toList_inj.mp h
mutual
theorem cq:∀x y:D,aq x y=true->(eqd x y=true↔x=y)
 |.int i,.int j,_=>by simp[eqd,bG,PyData.eqv]
 |.bl a,.bl b,_=>by simp[eqd,bG,PyData.eqv]
 |.str a,.str b,_=>by simp[eqd,bG,PyData.eqv]
 |.tup xs,.tup ys,h=>by
  have:=gt xs ys (by simpa[aq]using h);simp only[eqd,bG,PyData.eqv,D.tup.injEq];exact this
 |.non,y,h=>by cases y<;>simp[aq]at h
 |.lst _,y,h=>by cases y<;>simp[aq]at h
 |.dT _,y,h=>by cases y<;>simp[aq]at h
 |.dK _,y,h=>by cases y<;>simp[aq]at h
 |.ins _ _,y,h=>by cases y<;>simp[aq]at h
 |.int _,.non,h=>by simp[aq]at h
 |.int _,.bl _,h=>by simp[aq]at h
 |.int _,.str _,h=>by simp[aq]at h
 |.int _,.tup _,h=>by simp[aq]at h
 |.int _,.lst _,h=>by simp[aq]at h
 |.int _,.dT _,h=>by simp[aq]at h
 |.int _,.dK _,h=>by simp[aq]at h
 |.int _,.ins _ _,h=>by simp[aq]at h
 |.bl _,.non,h=>by simp[aq]at h
 |.bl _,.int _,h=>by simp[aq]at h
 |.bl _,.str _,h=>by simp[aq]at h
 |.bl _,.tup _,h=>by simp[aq]at h
 |.bl _,.lst _,h=>by simp[aq]at h
 |.bl _,.dT _,h=>by simp[aq]at h
 |.bl _,.dK _,h=>by simp[aq]at h
 |.bl _,.ins _ _,h=>by simp[aq]at h
 |.str _,.non,h=>by simp[aq]at h
 |.str _,.bl _,h=>by simp[aq]at h
 |.str _,.int _,h=>by simp[aq]at h
 |.str _,.tup _,h=>by simp[aq]at h
 |.str _,.lst _,h=>by simp[aq]at h
 |.str _,.dT _,h=>by simp[aq]at h
 |.str _,.dK _,h=>by simp[aq]at h
 |.str _,.ins _ _,h=>by simp[aq]at h
 |.tup _,.non,h=>by simp[aq]at h
 |.tup _,.bl _,h=>by simp[aq]at h
 |.tup _,.int _,h=>by simp[aq]at h
 |.tup _,.str _,h=>by simp[aq]at h
 |.tup _,.lst _,h=>by simp[aq]at h
 |.tup _,.dT _,h=>by simp[aq]at h
 |.tup _,.dK _,h=>by simp[aq]at h
 |.tup _,.ins _ _,h=>by simp[aq]at h
theorem gt:∀xs ys:List D,bb xs ys=true->(PyData.eqvAll (bC xs) (bC ys)=true↔xs=ys)
 |[],[],_=>by simp[bC,PyData.eqvAll]
 |[],_::_,_=>by simp[bC,PyData.eqvAll]
 |_::_,[],_=>by simp[bC,PyData.eqvAll]
 |x::xs,y::ys,h=>by
  rw[bb,Yo]at h;have h1:=cq x y h.1;have h2:=gt xs ys h.2;simp only[bC,PyData.eqvAll,Yo,List.cons.injEq];rw[h2];unfold eqd at h1;rw[h1]
end
structure Fc2 {α:Type} (l:α->α->Bool) (x y:α):Prop where
 as:l x y=true->l y x=false
 an:l x y=false->l y x=false->x=y
def Fc3{α:Type}(l:α->α->Bool)(x y z:α):Prop:=l x y=true->l y z=true->l x z=true
theorem bi{x y:D}(h:aq x y=true):(∃i j,x=.int i/\y=.int j)\/(∃i j,x=.bl i/\y=.bl j)\/(∃i j,x=.str i/\y=.str j)\/∃i j,x=.tup i/\y=.tup j/\bb i j=true:=by
 cases x with
 |int i=>
  refine .inl ?_;cases y with
  |int j=>exact⟨_,_,rfl,rfl⟩
  |_=>exact absurd h Yj
 |bl i=>
  refine .inr (.inl ?_);cases y with
  |bl j=>exact⟨_,_,rfl,rfl⟩
  |_=>exact absurd h Yj
 |str i=>
  refine .inr (.inr (.inl ?_));cases y with
  |str j=>exact⟨_,_,rfl,rfl⟩
  |_=>exact absurd h Yj
 |tup i=>
  refine .inr (.inr (.inr ?_));cases y with
  |tup j=>exact⟨_,_,rfl,rfl,h⟩
  |_=>exact absurd h Yj
 |_=>exact absurd h Yj
theorem tQ{a b:List Nat}(h:a<b):¬b<a:=fun h'=>List.lt_irrefl a (List.lt_trans h h')
theorem ge{x y:D}(h1:aq x y=true)(ht:gh x=false):Fc2 ltD x y:=by
 rcases bi h1 with⟨i,j,rfl,rfl⟩|⟨i,j,rfl,rfl⟩|⟨i,j,rfl,rfl⟩|⟨i,j,rfl,rfl,_⟩
 ·refine⟨fun h=>?_,fun h h'=>?_⟩
  ·simp only[ltD,YE,ZS]at h ⊢;omega
  ·simp only[ltD,ZS]at h h';rw[show i=j by omega]
 ·refine⟨fun h=>?_,fun h h'=>?_⟩
  ·cases i<;>cases j<;>simp_all [ltD]
  ·cases i<;>cases j<;>simp_all [ltD]
 ·refine⟨fun h=>?_,fun h h'=>?_⟩
  ·simp only[ltD,YE,ZS]at h ⊢;exact tQ h
  ·simp only[ltD,ZS]at h h';rw[xy (List.le_antisymm h' h)]
 ·cases ht
theorem gq{x y z:D}(h1:aq x y=true)(h2:aq y z=true)(ht:gh x=false):Fc3 ltD x y z:=by
 rcases bi h1 with⟨i,j,rfl,rfl⟩|⟨i,j,rfl,rfl⟩|⟨i,j,rfl,rfl⟩|⟨i,j,rfl,rfl,_⟩
 ·rcases bi h2 with⟨j',k,e,rfl⟩|⟨j',k,e,rfl⟩|⟨j',k,e,rfl⟩|⟨j',k,e,rfl,_⟩<;>cases e;intro h h';simp only[ltD,YE]at h h' ⊢;omega
 ·rcases bi h2 with⟨j',k,e,rfl⟩|⟨j',k,e,rfl⟩|⟨j',k,e,rfl⟩|⟨j',k,e,rfl,_⟩<;>cases e;intro h h';cases i<;>cases j<;>cases k<;>simp_all [ltD]
 ·rcases bi h2 with⟨j',k,e,rfl⟩|⟨j',k,e,rfl⟩|⟨j',k,e,rfl⟩|⟨j',k,e,rfl,_⟩<;>cases e;intro h h';simp only[ltD,YE]at h h' ⊢;exact List.lt_trans h h'
 ·cases ht
theorem sS(n:Nat):∀x y:D,okN n x=true->aq x y=true->aq y x=true:=by
 induction n with
 |zero=>
  intro x y o h;rcases bi h with⟨i,j,rfl,rfl⟩|⟨i,j,rfl,rfl⟩|⟨i,j,rfl,rfl⟩|⟨i,j,rfl,rfl,_⟩
  ·rfl
  ·rfl
  ·rfl
  ·simp[okN]at o
 |succ n ih=>
  intro x y o h;rcases bi h with⟨i,j,rfl,rfl⟩|⟨i,j,rfl,rfl⟩|⟨i,j,rfl,rfl⟩|⟨i,j,rfl,rfl,hc⟩
  ·rfl
  ·rfl
  ·rfl
  ·have key:∀(xs ys:List D),(∀d∈xs,okN n d=true)->bb xs ys=true->bb ys xs=true:=by
    intro xs;induction xs with
    |nil=>intro ys _ _;cases ys<;>simp[bb]
    |cons x xs ihx=>
     intro ys ho hc;cases ys with
     |nil=>simp[bb]
     |cons y ys=>
      rw[bb,Yo]at hc ⊢;exact⟨ih x y (ho x Yd) hc.1,ihx ys (fun d hd=>ho d (Yc _ hd)) hc.2⟩
   rw[aq];exact key i j (bK o) hc
theorem yH{n:Nat}(ih:∀x y:D,okN n x=true->okN n y=true->aq x y=true->Fc2 ltD x y) :
  ∀(xs ys:List D),(∀d∈xs,okN n d=true)->(∀d∈ys,okN n d=true)->bb xs ys=true->Fc2 bQ xs ys:=by
 intro xs;induction xs with
 |nil=>
  intro ys _ _ _;refine⟨fun h=>?_,fun h h'=>?_⟩
  ·cases ys<;>simp_all [bQ]
  ·cases ys<;>simp_all [bQ]
 |cons x xs ihx=>
  intro ys ox oy c1;cases ys with
  |nil=>
   refine⟨fun h=>?_,fun h h'=>?_⟩
   ·simp[bQ]at h
   ·simp[bQ]at h'
  |cons y ys=>
   rw[bb,Yo]at c1;have px:=ox x Yd;have py:=oy y Yd;have exy:=cq x y c1.1;have eyx:=cq y x (sS n x y px c1.1);have G:=ihx ys (fun d hd=>ox d (Yc _ hd)) (fun d hd=>oy d (Yc _ hd)) c1.2;refine⟨fun h=>?_,fun h h'=>?_⟩
   ·rw[bQ]at h ⊢;by_cases hxy:x=y
    ·rw[if_pos (exy.mpr hxy)]at h;rw[if_pos (eyx.mpr hxy.symm)];exact G.as h
    ·rw[if_neg (fun q=>hxy (exy.mp q))]at h;rw[if_neg (fun q=>hxy (eyx.mp q).symm)];exact(ih x y px py c1.1).as h
   ·rw[bQ]at h h';by_cases hxy:x=y
    ·rw[if_pos (exy.mpr hxy)]at h;rw[if_pos (eyx.mpr hxy.symm)]at h';rw[hxy,G.an h h']
    ·rw[if_neg (fun q=>hxy (exy.mp q))]at h;rw[if_neg (fun q=>hxy (eyx.mp q).symm)]at h';exact absurd ((ih x y px py c1.1).an h h') hxy
theorem eG(n:Nat):∀x y:D,okN n x=true->okN n y=true->aq x y=true->Fc2 ltD x y:=by
 induction n with
 |zero=>
  intro x y ox oy c1;refine ge c1 ?_;cases x<;>first|rfl|(simp[okN]at ox)
 |succ n ih=>
  intro x y ox oy c1;rcases bi c1 with⟨i,j,rfl,rfl⟩|⟨i,j,rfl,rfl⟩|⟨i,j,rfl,rfl⟩|⟨i,j,rfl,rfl,d1⟩
  ·exact ge c1 rfl
  ·exact ge c1 rfl
  ·exact ge c1 rfl
  ·have F:=yH ih i j (bK ox) (bK oy) d1;refine⟨fun h=>?_,fun h h'=>?_⟩
   ·rw[ltD]at h ⊢;exact F.as h
   ·rw[ltD]at h h';rw[F.an h h']
theorem yM{n:Nat}(ih:∀x y z:D,okN n x=true->okN n y=true->okN n z=true->aq x y=true->aq y z=true->aq x z=true->Fc3 ltD x y z) :
  ∀(xs ys zs:List D),(∀d∈xs,okN n d=true)->(∀d∈ys,okN n d=true)->(∀d∈zs,okN n d=true)->bb xs ys=true->bb ys zs=true->bb xs zs=true->Fc3 bQ xs ys zs:=by
 intro xs;induction xs with
 |nil=>
  intro ys zs _ _ _ _ _ _ h h';cases ys<;>cases zs<;>simp_all [bQ]
 |cons x xs ihx=>
  intro ys zs ox oy oz c1 c2 c3 h h';cases ys with
  |nil=>simp[bQ]at h
  |cons y ys=>
   rw[bb,Yo]at c1;have px:=ox x Yd;have py:=oy y Yd;have exy:=cq x y c1.1;cases zs with
   |nil=>simp[bQ]at h'
   |cons z zs=>
    rw[bb,Yo]at c2 c3;have pz:=oz z Yd;have eyz:=cq y z c2.1;have exz:=cq x z c3.1;have F:=ih x y z px py pz c1.1 c2.1 c3.1;rw[bQ]at h h' ⊢;by_cases hxy:x=y
    ·rw[if_pos (exy.mpr hxy)]at h;by_cases hyz:y=z
     ·rw[if_pos (eyz.mpr hyz)]at h';rw[if_pos (exz.mpr (hxy.trans hyz))];exact ihx ys zs (fun d hd=>ox d (Yc _ hd)) (fun d hd=>oy d (Yc _ hd)) (fun d hd=>oz d (Yc _ hd)) c1.2 c2.2 c3.2 h h'
     ·rw[if_neg (fun q=>hyz (eyz.mp q))]at h';rw[if_neg (fun q=>hyz (hxy.symm.trans (exz.mp q)))];rw[hxy];exact h'
    ·rw[if_neg (fun q=>hxy (exy.mp q))]at h;by_cases hyz:y=z
     ·rw[if_neg (fun q=>hxy ((exz.mp q).trans hyz.symm))];rw[<-hyz];exact h
     ·rw[if_neg (fun q=>hyz (eyz.mp q))]at h';have hxz:=F h h';by_cases he:x=z
      ·subst he;have:=(eG n x y px py c1.1).as h;rw[h']at this;cases this
      ·rw[if_neg (fun q=>he (exz.mp q))];exact hxz
theorem yC(n:Nat):∀x y z:D,okN n x=true->okN n y=true->okN n z=true->aq x y=true->aq y z=true->aq x z=true->Fc3 ltD x y z:=by
 induction n with
 |zero=>
  intro x y z ox oy oz c1 c2 c3;refine gq c1 c2 ?_;cases x<;>first|rfl|(simp[okN]at ox)
 |succ n ih=>
  intro x y z ox oy oz c1 c2 c3;rcases bi c1 with⟨i,j,rfl,rfl⟩|⟨i,j,rfl,rfl⟩|⟨i,j,rfl,rfl⟩|⟨i,j,rfl,rfl,d1⟩
  ·exact gq c1 c2 rfl
  ·exact gq c1 c2 rfl
  ·exact gq c1 c2 rfl
  ·rcases bi c2 with⟨j',k,e,rfl⟩|⟨j',k,e,rfl⟩|⟨j',k,e,rfl⟩|⟨j',k,e,rfl,d2⟩<;>cases e;have F:=yM ih i j k (bK ox) (bK oy) (bK oz) d1 d2 (by simpa[aq]using c3);intro h h';rw[ltD]at h h' ⊢;exact F h h'
def tu(x:D):List D->List D
 |[]=>[x]
 |y::r=>if ltD x y=true then x::y::r else y::tu x r
def aQ:List D->List D
 |[]=>[]
 |x::r=>tu x (aQ r)
theorem h_(x:D):∀l:List D,(tu x l).Perm (x::l)
 |[]=>.refl _
 |y::r=>by
  unfold tu;split
  ·exact .refl _
  ·exact((h_ x r).cons y).trans (.swap x y r)
theorem bn:∀l:List D,(aQ l).Perm l
 |[]=>.refl _
 |x::r=>(h_ x (aQ r)).trans ((bn r).cons x)
def Cmps(n:Nat)(ds:List D):Prop:=(∀d∈ds,okN n d=true)/\∀x∈ds,∀y∈ds,aq x y=true
theorem oC{n:Nat}:∀{as bs:List D},as.Perm bs->Cmps n as->as.Pairwise (fun x y=>ltD y x=false)->bs.Pairwise (fun x y=>ltD y x=false)->as=bs:=by
 intro as;induction as with
 |nil=>intro bs hp _ _ _;exact(List.Perm.nil_eq hp)
 |cons a as ih=>
  intro bs hp hc pa pb;cases bs with
  |nil=>exact absurd hp.symm (List.not_perm_nil_cons _ _)
  |cons b bs=>
   have ma:a∈b::bs:=hp.mem_iff.mp Yd;have mb:b∈a::as:=hp.mem_iff.mpr Yd;have e:a=b:=by
    rcases Yv.mp ma with h|h
    ·exact h
    ·rcases Yv.mp mb with h'|h'
     ·exact h'.symm
     ·have l1:=(ZC.mp pa).1 b h';have l2:=(ZC.mp pb).1 a h;exact(eG n a b (hc.1 a Yd) (hc.1 b mb) (hc.2 a Yd b mb)).an l2 l1
   subst e;rw[ih (List.Perm.cons_inv hp) ⟨fun d hd=>hc.1 d (Yc _ hd),fun x hx y hy=>hc.2 x (Yc _ hx) y (Yc _ hy)⟩ (ZC.mp pa).2 (ZC.mp pb).2]
theorem Cmps.perm{n:Nat}{as bs:List D}(h:Cmps n as)(p:as.Perm bs):Cmps n bs:=⟨fun d hd=>h.1 d (p.mem_iff.mpr hd),fun x hx y hy=>h.2 x (p.mem_iff.mpr hx) y (p.mem_iff.mpr hy)⟩
theorem le{n:Nat}{x y z:D}(ox:okN n x=true)(oy:okN n y=true)(oz:okN n z=true)(cxy:aq x y=true)(cyz:aq y z=true)(cxz:aq x z=true)(cyx:aq y x=true)(czy:aq z y=true)(czx:aq z x=true)
  (h1:ltD y x=false) (h2:ltD z y=false):ltD z x=false:=by
 cases q:ltD z x with
 |false=>rfl
 |true=>
  -- z<x;x<=y
  by_cases hxy:ltD x y=true
  ·have:=yC n z x y oz ox oy czx cxy czy q hxy;rw[h2]at this;cases this
  ·have e:x=y:=(eG n x y ox oy cxy).an (by simpa using hxy) h1;subst e;rw[h2]at q;cases q
theorem iI{n:Nat}{x:D}:∀{l:List D},Cmps n (x::l)->l.Pairwise (fun a b=>ltD b a=false)->(tu x l).Pairwise (fun a b=>ltD b a=false)
 |[],_,_=>List.pairwise_singleton _ _
 |y::r,hc,hp=>by
  have mx:x∈x::y::r:=Yd;have my:y∈x::y::r:=Yc _ Yd;obtain⟨h1,h2⟩:=ZC.mp hp;unfold tu;split
  ·rename_i q;refine ZC.mpr ⟨fun z hz=>?_,hp⟩;have hyx:ltD y x=false:=(eG n x y (hc.1 x mx) (hc.1 y my) (hc.2 x mx y my)).as q;rcases Yv.mp hz with rfl|hz
   ·exact hyx
   ·have mz:z∈x::y::r:=Yc _ (Yc _ hz);exact le (hc.1 x mx) (hc.1 y my) (hc.1 z mz) (hc.2 x mx y my) (hc.2 y my z mz) (hc.2 x mx z mz) (hc.2 y my x mx) (hc.2 z mz y my) (hc.2 z mz x mx) hyx (h1 z hz)
  ·rename_i q;refine ZC.mpr ⟨fun z hz=>?_,iI (x:=x) ⟨fun d hd=>hc.1 d ?_,fun a ha b hb=>hc.2 a ?_ b ?_⟩ h2⟩
   ·rcases Yv.mp ((h_ x r).mem_iff.mp hz)with rfl|hz
    ·simpa using q
    ·exact h1 z hz
   all_goals
    first
     |(
      rcases Yv.mp hd with rfl|hd
      ·exact mx
      ·exact Yc _ (Yc _ hd))
     |(
      rcases Yv.mp ha with rfl|ha
      ·exact mx
      ·exact Yc _ (Yc _ ha))
     |(
      rcases Yv.mp hb with rfl|hb
      ·exact mx
      ·exact Yc _ (Yc _ hb))
theorem Cmps.sub{n:Nat}{as bs:List D}(h:Cmps n bs)(k:∀x∈as,x∈bs):Cmps n as:=⟨fun d hd=>h.1 d (k d hd),fun x hx y hy=>h.2 x (k x hx) y (k y hy)⟩
theorem cK{n:Nat}:∀{l:List D},Cmps n l->(aQ l).Pairwise (fun a b=>ltD b a=false)
 |[],_=>.nil
 |x::r,hc=>iI (hc.sub fun y hy=>by
   rcases Yv.mp hy with rfl|hy
   ·exact Yd
   ·exact Yc _ ((bn r).mem_iff.mp hy)) (cK (hc.sub fun y hy=>Yc _ hy))
theorem jd{n:Nat}{as bs:List D}(hp:as.Perm bs)(hc:Cmps n bs)(hs:as.Pairwise (fun x y=>ltD y x=false)):as=aQ bs:=
 oC (hp.trans (bn bs).symm) (hc.perm hp.symm) hs (cK hc)
theorem fW{n:Nat}{as bs:List D}(hp:as.Perm bs)(hc:Cmps n bs):aQ as=aQ bs:=
 jd ((bn as).trans hp) hc (cK (hc.perm hp.symm))
end L2
namespace L2
open PySem PySem.Spec PyProof.Rows
section
variable{X:Cx}{e a b c o:Expr}{es:List Expr}{pos p:Pos}
theorem ph{K:Kq}{H:Hp}{x:V}{i:Int}(r:Rep K H x (.int i)):x=.int i:=by cases r;rfl
theorem jB{K:Kq}{H:Hp}{x:V}{i:Str}(r:Rep K H x (.str i)):x=.str i:=by cases r;rfl
theorem rB{K:Kq}{g:Int->Int->V}{g':Int->Int->D}(hg:∀F i j,Rep K F (g i j) (g' i j)):OpN2 K (rI0 g) (fI0 g'):=by
 intro P F H x y dx dy d Q hf hp rx ry k;unfold fI0 at hf;split at hf
 ·rename_i i j;cases hf;exact⟨i,j,ph rx,ph ry,k _ F H (Evo.refl hp) (hg F i j)⟩
 ·cases hf
theorem OpN2.or{K:Kq}{r r':R2}{f g:Dy}(h:OpN2 K r f)(h':OpN2 K r' g):OpN2 K (fun x y H Q=>r x y H Q\/r' x y H Q) (fun x y=>(f x y).or (g x y)):=by
 intro P F H x y dx dy d Q hf hp rx ry k;dsimp only at hf;cases q:f dx dy with
 |some d'=>rw[q]at hf;have hf:=Yr hf;subst hf;exact .inl (h P F H x y dx dy _ Q q hp rx ry k)
 |none=>rw[q]at hf;exact .inr (h' P F H x y dx dy d Q hf hp rx ry k)
def leS:D->D->Option D
 |.str x,.str y=>some (.bl (!decide (y.cps.toList<x.cps.toList)))
 |_,_=>none
def xI:R2:=fun x y H Q=>∃i j,x=.str i/\y=.str j/\Q (.bl (!decide (j.cps.toList<i.cps.toList))) H
theorem sN:OpR X (compareOp .LtE) xI:=by intro pz s σ H x y v u Q I rx ry h;obtain⟨i,j,rfl,rfl,q⟩:=h;obtain⟨t,rfl⟩:=rx;obtain⟨t',rfl⟩:=ry;exact PySem.P.le_str ⟨.bl _,H,I,rfl,q⟩
theorem A3{K:Kq}:OpN2 K xI leS:=by
 intro P F H x y dx dy d Q hf hp rx ry k;unfold leS at hf;split at hf
 ·cases hf;exact⟨_,_,jB rx,jB ry,k _ F H (Evo.refl hp) .bl⟩
 ·cases hf
def leA(x y:D):Option D:=(leI x y).or (leS x y)
theorem jm:OpR X (compareOp .LtE) (fun x y H Q=>rI0 (fun i j=>.bl (decide (i<=j))) x y H Q\/xI x y H Q):=C8.or sN
theorem kB{K:Kq}:OpN2 K (fun x y H Q=>rI0 (fun i j=>.bl (decide (i<=j))) x y H Q\/xI x y H Q) leA:=(rB fun _ _ _=>.bl).or A3
def chD(f g:Dy)(fa fb fc:Dd):DF->Option D:=fun ρ=>(fa ρ).bind fun x=>(fb ρ).bind fun y=>match f x y with
 |some (.bl true)=>(fc ρ).bind fun z=>g y z
 |some (.bl false)=>some (.bl false)
 |_=>none
theorem jC{K:Kq}{r r':R2}{f g:Dy}{fa fb fc:Dd}(ho:OpN2 K r f)(ho':OpN2 K r' g):∀σ H Q,tD K (chD f g fa fb fc) σ H Q->pT r r' (tN K fa) (tN K fb) (tN K fc) σ H Q:=fun σ H Q=>un7 fun P F ρ d hf I k=>by
 unfold chD at hf;cases ha:fa ρ with
 |none=>rw[ha]at hf;cases hf
 |some dx=>
 cases hb:fb ρ with
 |none=>rw[ha,Ya,hb]at hf;cases hf
 |some dy=>
 rw[ha,Ya,hb,Ya]at hf;split at hf
 ·rename_i hxy;cases hc:fc ρ with
  |none=>rw[hc]at hf;cases hf
  |some dz=>
   rw[hc,Ya]at hf;refine⟨P,F,ρ,dx,ha,I,fun x F1 H1 e1 rx=>⟨P,F1,ρ,dy,hb,I.evo e1,fun y F2 H2 e2 ry=>?_⟩⟩;refine ho P F2 H2 x y dx dy _ _ hxy e2.hp (rx.same (e2.same e1.hp)) ry fun v F3 H3 e3 rv=>?_;cases rv;refine⟨true,rfl,?_⟩;rw[if_pos rfl];have e123:=(e1.trans e2).trans e3;refine⟨P,F3,ρ,dz,hc,I.evo e123,fun z F4 H4 e4 rz=>?_⟩;exact ho' P F4 H4 y z dy dz d Q hf e4.hp ((ry.same (e3.same e2.hp)).same (e4.same e3.hp)) rz fun v F5 H5 e5 rv=>k v F5 H5 ((e123.trans e4).trans e5) rv
 ·rename_i hxy;cases hf;refine⟨P,F,ρ,dx,ha,I,fun x F1 H1 e1 rx=>⟨P,F1,ρ,dy,hb,I.evo e1,fun y F2 H2 e2 ry=>?_⟩⟩;refine ho P F2 H2 x y dx dy _ _ hxy e2.hp (rx.same (e2.same e1.hp)) ry fun v F3 H3 e3 rv=>?_;cases rv;refine⟨false,rfl,?_⟩;rw[if_neg Yj];exact k _ F3 H3 ((e1.trans e2).trans e3) .bl
 ·cases hf
theorem sH{fa fb fc:Dd}(ha:PDN X a fa)(hb:PDN X b fb)(hc:PDN X c fc)(hm:lastMarks [CmpOp.LtE,CmpOp.LtE] [b,c]=false:=by with_unfolding_all rfl):PDE X (.Compare a [.LtE,.LtE] [b,c] pos) (chD leA leA fa fb fc):=(pw jm jm ha hb hc hm).imp (jC kB kB)
theorem nP{fa fb fc:Dd}(ha:PDN X a fa)(hb:PDN X b fb)(hc:PDN X c fc)(hm:lastMarks [CmpOp.LtE,CmpOp.Lt] [b,c]=false:=by with_unfolding_all rfl):PDE X (.Compare a [.LtE,.Lt] [b,c] pos) (chD leA ltI fa fb fc):=(pw jm C6 ha hb hc hm).imp (jC kB (rB fun _ _ _=>.bl))
theorem yv{fa fb fc:Dd}(ha:PDN X a fa)(hb:PDN X b fb)(hc:PDN X c fc)(hm:lastMarks [CmpOp.LtE,CmpOp.LtE] [b,c]=false:=by with_unfolding_all rfl):PDT X (.Compare a [.LtE,.LtE] [b,c] pos) (asB (chD leA leA fa fb fc)):=(v8 jm jm ha hb hc hm).imp (gD (jC kB kB))
def CF(K:Kq)(r:List V->Hp->VK->Prop)(f:D->Option D):Prop:=
 ∀(P F H:Hp) (x:V) (dx d:D) (Q:VK),f dx=some d->DHp P F H->Rep K H x dx->(∀v F' H',Evo P F H F' H'->Rep K F' v d->Q v H')->r [x] H Q
theorem wp{K:Kq}{r:List V->Hp->VK->Prop}{f:D->Option D}{fa:Dd}(ho:CF K r f):∀σ H Q,tD K (d1 f fa) σ H Q->tCB r (oZ (tN K fa) tK) σ H Q:=fun σ H Q=>un7 fun P F ρ d hf I k=>by
 unfold d1 at hf;cases ha:fa ρ with
 |none=>rw[ha]at hf;cases hf
 |some dx=>
  rw[ha,Ya]at hf;exact⟨P,F,ρ,dx,ha,I,fun x F1 H1 e1 rx=>ho P F1 H1 x dx d Q hf e1.hp rx fun v F2 H2 e2 rv=>k v F2 H2 (e1.trans e2) rv⟩
theorem AW{K:Kq}:CF K (Ce K) bP:=by
 intro P F H x dx d Q hf hp rx k;unfold bP at hf;split at hf
 ·cases hf;cases rx with|lst h1 h2=>exact .inl ⟨_,_,rfl,.inl h1,by rw[h2.length];exact k _ F H (Evo.refl hp) .int⟩
 ·cases hf;cases rx with|tup h1 h2=>exact .inl ⟨_,_,rfl,.inr (SqT.of h1),by rw[h2.length];exact k _ F H (Evo.refl hp) .int⟩
 ·split at hf
  ·rename_i h;cases hf;exact .inr ⟨_,by rw[jB rx],by rw[YK];exact h,k _ F H (Evo.refl hp) .int⟩
  ·cases hf
 ·cases hf
theorem cu{fa:Dd}(hg:Gl X "len")(hm:X.mg "len"=none)(ha:PDN X e fa)(hs:starEach [e] X.env=[(false,eval e X.env)]:=by rfl)(hpl:(backTo pos (starEach [] X.env)).any (·.1)=false:=by rfl) :
  PDE X (.Call (.Name "len" p) [e] [] pos) (d1 bP fa):=
 (fy (mO.or ng) hg hm PySem.boot_len (aT ha bF hs) (by decide) (by decide) hs hpl).imp (wp AW)
theorem boot_int:bootBuiltins "int"=some (.type "int"):=by rfl
theorem boot_list:bootBuiltins "list"=some (.type "list"):=by rfl
theorem qO:bootBuiltins "tuple"=some (.type "tuple"):=by rfl
theorem boot_bool:bootBuiltins "bool"=some (.type "bool"):=by rfl
theorem vL:bootBuiltins "set"=some (.type "set"):=by rfl
theorem iU:bootBuiltins "isinstance"=some (.builtin "isinstance"):=by rfl
theorem wq:bootBuiltins "all"=some (.builtin "all"):=by rfl
theorem iB:bootBuiltins "sorted"=some (.builtin "sorted"):=by rfl
def oQ:D->Option D
 |.lst ds=>some (.tup ds)
 |.tup ds=>some (.tup ds)
 |_=>none
theorem AO{K:Kq}:Cf K (fun xs H Q=>∃p ys,xs=[.ref p]/\((SqL K H p ys/\∀l,H l=none->Q (.ref l) (upd H l (.tup ys)))\/(SqT K H p ys/\Q (.ref p) H))) oQ:=by
 intro P F H ρ σ x dx d Q hf I rx k;unfold oQ at hf;split at hf
 ·cases hf;obtain⟨p,vs,rfl,h1,h2⟩:=dM I rx;refine⟨p,vs,rfl,.inl ⟨h1,fun l hl=>?_⟩⟩;exact k _ _ _ (Evo.laid I.toDHp hl) (.tup aG (h2.same (gn (I.toDHp.free hl).1)))
 ·cases hf;rcases rx with rx|⟨_,ob,_,_,_,_,_,hfl,z⟩
  ·cases rx with|tup h1 h2=>exact⟨_,_,rfl,.inr ⟨SqT.of (I.sub _ _ h1),k _ F H (Evo.refl I.toDHp) (.tup h1 h2)⟩⟩
  ·cases ob<;>first|(cases z;done)|cases hfl
 ·cases hf
theorem pD{fa:Dd}(hg:Gl X "tuple")(hm:X.mg "tuple"=none)(ha:PDR X e fa)(hs:starEach [e] X.env=[(false,eval e X.env)]:=by rfl) :
  PDE X (.Call (.Name "tuple" p) [e] [] pos) (d1 oQ fa):=
 (d6 kJ hg hm qO (aT ha bF hs) (he:=hs)).imp (zK AO)
def cB(f:Dd):DF->Option (List D):=fun ρ=>(f ρ).bind cG
theorem dG{fa:Dd}(hg:Gl X "list")(hm:X.mg "list"=none)(ha:PDR X e fa)(hs:starEach [e] X.env=[(false,eval e X.env)]:=by rfl) :
  PDO X (.Call (.Name "list" p) [e] [] pos) (asL (cB fa)):=
 (d6 mh hg hm boot_list (aT ha bF hs) (he:=hs)).imp fun σ H Q=>un7 fun P F ρ ob hf I k=>by
  unfold asL cB at hf;cases ha:fa ρ with
  |none=>rw[ha]at hf;cases hf
  |some dx=>
   rw[ha,Ya]at hf;cases hi:cG dx with
   |none=>rw[hi]at hf;cases hf
   |some ds=>
    rw[hi]at hf;cases hf;refine⟨P,F,ρ,dx,ha,I,fun x F1 H1 e1 rx=>?_⟩;have I1:=I.evo e1;have fin:∀vs,Reps X.K F1 vs ds->∀l,H1 l=none->Q (.ref l) (upd H1 l (.lst vs)):=fun vs r l hl=>
     k l F1 _ (e1.trans (Evo.side e1.hp hl)) ⟨⟨e1.back I.toDHp hl,(e1.hp.free hl).1⟩,_,aG,r⟩
    cases dx with
    |lst ds'=>
     cases hi;obtain⟨q,vs,rfl,h1,h2⟩:=dM I1 rx;exact⟨q,vs,rfl,.inl h1,fin vs h2⟩
    |tup ds'=>
     cases hi;obtain⟨q,vs,rfl,h1,h2⟩:=gF I1 rx;exact⟨q,vs,rfl,.inr h1,fin vs h2⟩
    |_=>cases hi
def zu(K:Kq):R2:=fun x y H Q=>∃l b xs zs,x=.ref l/\y=.ref b/\SqL K H l xs/\SqL K H b zs/\xs.length+zs.length<=sizeLine/\∀p,H p=none->Q (.ref p) (upd H p (.lst (xs++zs)))
theorem xn:OpR X (binaryOp .Add) (zu X.K):=by
 intro pz s σ H x y v u Q I rx ry h;obtain⟨l,b,xs,zs,rfl,rfl,hH,hB,hz,q⟩:=h;cases rx;cases ry;obtain⟨its,r,p1,_⟩:=I.list hH;obtain⟨its2,r2,p2,_⟩:=I.list hB;obtain⟨⟨cls,dd,data,sl⟩,n,ho,hc,hdd,hd⟩:=p1;obtain⟨⟨cls2,dd2,data2,sl2⟩,n2,ho2,hc2,hdd2,hd2⟩:=p2;simp only at hc hd hc2 hd2;subst hc hd hc2 hd2;have e1:=r.length;have e2:=r2.length;refine concat_meets ⟨_,ho,rfl⟩ ⟨_,ho2,rfl⟩ PySem.noFill_list_add PySem.seq_list_add PySem.F.slot_list_add PySem.F.entry_list_add (PySem.F.args_list_add_2 _ _) (list_addW l b its.toArray its2.toArray n n2 dd dd2 sl sl2 (by rw[Yz,Yz];omega)) ⟨ho,ho2,?_⟩;have ea:its.toArray++its2.toArray=(its++its2).toArray:=by simp
 rw[ea];exact⟨.ref _,_,I.lnew (t':=s.toks) (r.append r2) (by rw[Yt];omega),rfl,q _ I.fresh⟩
end
def spM(K:Kq)(f:Dz):Sp:=fun vs H Q _=>∃P F a vs' o xs o' d,vs=.ref a::vs'/\f o xs=some (o',d)/\DHp P F H/\F a=none/\P a=none/\o.flat=true/\(∃u,H a=some u/\ORep1 K F o u)/\DVs K P F H xs vs' /\
 ∀v F' H',Same F F'->DHp P F' H'->F' a=none->(∃u',H' a=some u'/\ORep1 K F' o' u')->o'.flat=true->Rep K F' v d->Q v H'
def k9(a:Addr)(o':OD)(d:D):RES->Prop
 |.nx ρ=>ρ[0]?=some (some (.own o' (some a)))/\d=.non
 |.rt x ρ=>x=.v d/\ρ[0]?=some (some (.own o' (some a)))
 |_=>False
theorem DInv.startM{K:Kq}{P F H:Hp}{xs:List DV}{vs:List V}{a:Addr}{o:OD}(N:List Str)(p:Nat)(h:DHp P F H)(hf:F a=none)(hp:P a=none)(fl:o.flat=true)(ho:∃u,H a=some u/\ORep1 K F o u)(r:DVs K P F H xs vs)(hl:xs.length+1=p) :
  DInv K P F H (aM N.length p (.own o (some a)::xs)) (L2.start N (.ref a::vs)):=by
 refine⟨h,?_,fun b=>if b=a then some 0 else none,fun i x e=>?_⟩
 ·unfold aM L2.start;rw[Yt,Yt,Ye,Ye,YG,YG,Yy,Yy,<-r.length,hl]
 ·have e':=jU e;cases i with
  |zero=>
   cases e';refine⟨.ref a,hV (i:=0) rfl,a,rfl,(ORep.flat fl).mpr ⟨⟨hf,hp,if_pos rfl⟩,ho⟩,fun b z=>by cases z;rfl⟩
  |succ i=>
   obtain⟨hno,v,h1,h2⟩:=r.get (i:=i) (x:=x) e';refine⟨v,hV (i:=i+1) (by simpa using h1),?_⟩;cases x with
   |own o t=>cases hno
   |v d=>exact h2
   |bor o=>exact h2
theorem Fun.okM{P:Program}{w:World}{K:Kq}{mg:Ks}{base:Heap}{x qual:Str}{st:Stmt}{f:Addr}{fd:FuncData}{N ps:List Str}{k:Nat}{g:Dw}{m:Dz}(F:Fun K x qual st f fd)(S:FnScope N ps (defScope st))
  (hm:∀a o xs o' d,m o xs=some (o',d)->xs.length+1=ps.length/\o'.flat=true/\∃r,g (aM N.length ps.length (.own o (some a)::xs))=some r/\k9 a o' d r)
  (hbody:∀(cdv:Value) (A:Around) (outer:List Env) (s:Shared) (H:Hp) (E:XK),Room k (A.deeper (envOfC qual (defScope st) s.heap.objs.size f cdv))->
   PDS (pi CX0 P w K mg base N qual (defScope st) f cdv A outer s H E).nox (defBody st) g):FnOk P w K mg base CX0 (k+1) f fd ps (spM K m):=by
 refine F.ok S (fun vs H Q E hh_=>?_) fun cdv A outer s H vs Q E hr h=>?_
 ·obtain⟨P',F',a,vs',o,xs,o',d,e,h1,_,_,_,_,_,hv,_⟩:=hh_;rw[e,Yy,<-hv.length];exact(hm 0 o xs o' d h1).1
 ·refine⟨_,hbody cdv A outer s H E hr,?_⟩;obtain⟨P',F',a,vs',o,xs,o',d,rfl,h1,hp,hf,hP,fl,ho,hv,hQ⟩:=h;obtain⟨hl,fl',r,hg,he⟩:=hm a o xs o' d h1;have I:=DInv.startM N ps.length hp hf hP fl ho hv hl;refine⟨P',F',_,r,hg,I,?_⟩;have fin:∀(ρ:DF) (σ:St) (F2 H2:Hp) (v:V),ρ[0]?=some (some (.own o' (some a)))->Same F' F2->DInv K P' F2 H2 ρ σ->Rep K F2 v d->Q v H2:=fun ρ σ F2 H2 v h0 e I2 rv=>by
   obtain⟨v',_,a',rfl,h3,h4⟩:=I2.at h0;have ea:=h4 a rfl;subst ea;obtain⟨⟨q1,q2,_⟩,u,q3,q4⟩:=(ORep.flat fl').mp h3;exact hQ v F2 H2 e I2.toDHp q1 ⟨u,q3,q4⟩ fl' rv
  cases r with
  |nx ρ=>(obtain⟨h0,rfl⟩:=he;exact fun σ F2 H2 e I2=>fin ρ σ F2 H2 .non h0 e I2 .non)
  |rt x ρ=>(obtain⟨rfl,h0⟩:=he;exact fun v σ F2 H2 e I2 rv=>fin ρ σ F2 H2 v h0 e I2 rv)
  |bk ρ=>exact he.elim
  |ct ρ=>exact he.elim
def gdx(F H:Hp)(a:Addr):Hp:=fun b=>if b=a then none else gd F H b
theorem mD{F H:Hp}{a b:Addr}{o:HO}:gdx F H a b=some o↔b≠a/\F b=none/\H b=some o:=by
 unfold gdx;by_cases h:b=a
 ·rw[if_pos h];simp[h]
 ·rw[if_neg h,gE];simp[h]
theorem Aa{F H:Hp}(s:Same F H)(a:Addr):DHp (gdx F H a) F H:=⟨s,fun b o e=>(mD.mp e).2.2,fun b o e=>(mD.mp e).2.1⟩
theorem ArgsS.dvx{K:Kq}{P F H:Hp}{ρ:DF}{σ:St}(I:DInv K P F H ρ σ){i:Nat}{o:OD}{t:Option Addr}{a:Addr}(hi:ρ[i]?=some (some (.own o t)))(hs:σ[i]?=some (some (.ref a)))(fl:o.flat=true):∀{xs:List DV}{vs:List V},ArgsS K ρ σ F xs vs->(∀x∈xs,∃d,x=.v d)->DVs K (gdx F H a) F H xs vs:=by
 intro xs vs h;induction h with
 |nil=>exact fun _=>.nil
 |v h _ ih=>exact fun hx=>.cons rfl h (ih fun x m=>hx x (Yc _ m))
 |b j h1 h2 _ ih=>
  intro hx;obtain⟨d,e⟩:=hx _ Yd;cases e
def xz(xs:List DV):Bool:=xs.all fun x=>match x with
 |.v _=>true
 |_=>false
theorem A0{xs:List DV}(h:xz xs=true):∀x∈xs,∃d,x=.v d:=fun x m=>by
 have:=Yh.mp h x m;cases x with
 |v d=>exact⟨d,rfl⟩
 |_=>cases this
def nS(K:Kq)(i:Nat)(m:Dz)(g:Dv):DF->Option (DF×D):=fun ρ=>match ρ[i]? with
 |some (some (.own o t))=>if o.flat=true then(g ρ).bind fun xs=>if xz xs=true then(m o xs).map fun r=>(ρ.set i (some (.own r.1 t)),r.2)else none else none
 |_=>none
def e9(K:Kq)(i:Nat)(m:Dz)(g:Dv):DF->Option RES:=fun ρ=>(nS K i m g ρ).map fun r=>.nx r.1
theorem qZ{K:Kq}{P F1 H1 F2 H2:Hp}{ρ:DF}{σ:St}{i:Nat}{o o':OD}{t:Option Addr}{a:Addr}(I:DInv K P F1 H1 ρ σ)(hi:ρ[i]?=some (some (.own o t)))(hs:σ[i]?=some (some (.ref a)))(fl:o.flat=true)(fl':o'.flat=true)
  (e2:Same F1 F2) (hp2:DHp (gdx F1 H1 a) F2 H2) (f2:F2 a=none) (ho:∃u',H2 a=some u'/\ORep1 K F2 o' u'):DInv K P F2 H2 (ρ.set i (some (.own o' t))) σ:=by
 obtain⟨O,hR⟩:=I.rep;obtain⟨v,h1,b,rfl,h2,ht⟩:=hR i _ hi;rw[hs]at h1;cases h1;obtain⟨⟨q1,q2,q3⟩,u,q4,_⟩:=(ORep.flat fl).mp h2;have keep:∀b u,b≠a->F1 b=none->H1 b=some u->H2 b=some u/\F2 b=none:=fun b u hb n q=>⟨hp2.pro b u (mD.mpr ⟨hb,n,q⟩),hp2.dis b u (mD.mpr ⟨hb,n,q⟩)⟩
 refine⟨⟨hp2.sub,fun b u q=>(keep b u (fun z=>by subst z;rw[q2]at q;cases q) (I.dis b u q) (I.pro b u q)).1,fun b u q=>(keep b u (fun z=>by subst z;rw[q2]at q;cases q) (I.dis b u q) (I.pro b u q)).2⟩,by rw[YO];exact I.len,O,fun j z hj=>?_⟩;rcases df hj with⟨rfl,e,hl⟩|⟨hij,hj'⟩
 ·cases e;exact⟨_,hs,a,rfl,(ORep.flat fl').mpr ⟨⟨f2,q2,q3⟩,ho⟩,ht⟩
 ·obtain⟨w,e1,e3⟩:=hR j z hj';refine⟨w,e1,?_⟩;cases z with
  |v d'=>exact Rep.same e2 e3
  |own od t'=>
   obtain⟨c,rfl,e4,ht'⟩:=e3;refine⟨c,rfl,e4.mono e2 fun b w' q hb=>?_,ht'⟩;obtain⟨k1,k2⟩:=keep b w' (fun z=>by subst z;rw[q.2.2]at q3;exact hij (Yr q3).symm) q.1 hb;exact⟨k1,k2,q.2⟩
  |bor od=>(obtain⟨c,rfl,e4⟩:=e3;exact⟨c,rfl,e4.mono e2 fun b u q hb=>⟨hb,q⟩⟩)
section
variable{X:Cx}{k:Nat}{f C:Addr}{fd:FuncData}{ps:List Str}{m:Dm}{mM:Dz}{x mn:Str}{p pos apos spos:Pos}{e o:Expr}{es:List Expr}{g:Dv}
theorem pE(i:Nat)(G:FnOk X.prog X.w X.K X.mg X.base CX0 k f fd ps (spM X.K mM))(hr:Room k X.A)(hg:Gl X x)(hm:X.mg x=some (.ref f))(hk:PySem.W.keepIn X.K (.ref f)=true)(hb:Binds X.K fd ps [])(h0:PE X e (dg i))(ha:kI X es g)
  (hd:(x == ("__debug__":Str))=false:=by decide) (he:starEach (e::es) X.env=(false,eval e X.env)::starEach es X.env:=by rfl) (hpl:(backTo pos (starEach es X.env)).any (·.1)=false:=by rfl) (hsw:swapsWith (.Call (.Name x p) (e::es) [] pos) none spos.line X.env=pure false:=by rfl) :
  PD1 X (.Expr (.Call (.Name x p) (e::es) [] pos) spos) (e9 X.K i mM g):=
 PS.imp (eS (mC G hr hg hm hk hb .nil kX (aT h0 ha he) hd he hpl) hsw) fun E σ H=>un7 fun P F ρ r hr I k=>by
  unfold e9 nS at hr;split at hr
  ·rename_i od t q;split at hr
   ·rename_i fl;cases q2:g ρ with
    |none=>rw[q2]at hr;cases hr
    |some xs=>
     rw[q2,Ya]at hr;split at hr
     ·rename_i av;cases q3:mM od xs with
      |none=>rw[q3]at hr;cases hr
      |some res=>
       rw[q3]at hr;cases hr;obtain⟨v,h1,a,rfl,h2,h3⟩:=I.at q;obtain⟨⟨a1,a2,_⟩,u,a3,a4⟩:=(ORep.flat fl).mp h2;refine⟨_,h1,P,F,ρ,xs,q2,I,fun vs F1 H1 e1 r1=>?_⟩;have I1:=I.evo e1;obtain⟨k1,k2⟩:=e1.keep a u a3 a1;refine⟨gdx F1 H1 a,F1,a,vs,od,xs,res.1,res.2,by simp,q3,Aa I1.sub a,k2,by unfold gdx;rw[if_pos rfl],fl,⟨u,k1,a4.same e1.ext⟩,r1.dvx I1 q h1 fl (A0 av),fun v F2 H2 e2 hp2 f2 ho fl' rv=>?_⟩;exact k σ F2 H2 (e1.ext.trans e2) (qZ I1 q h1 fl fl' e2 hp2 f2 ho)
     ·cases hr
   ·cases hr
  ·cases hr
theorem RepsF.look{K:Kq}{H:Hp}{n:Str}{vs:List (Str×V)}{ds:List (Str×D)}{d:D}(h:RepsF K H vs ds):ds.lookup n=some d->∃v,vs.lookup n=some v/\Rep K H v d:=
 RepsF.ind (M:=fun vs ds=>ds.lookup n=some d->∃v,vs.lookup n=some v/\Rep K H v d) (fun e=>by cases e) (fun h _ ih e=>by
  rw[bx]at e ⊢;split at e
  ·rename_i q;cases e;rw[if_pos q];exact⟨_,rfl,h⟩
  ·rename_i q;rw[if_neg q];exact ih e) h
theorem RepsF.no{K:Kq}{H:Hp}{n:Str}{vs:List (Str×V)}{ds:List (Str×D)}(h:RepsF K H vs ds):ds.lookup n=none->vs.lookup n=none:=
 RepsF.ind (M:=fun vs ds=>ds.lookup n=none->vs.lookup n=none) (fun _=>rfl) (fun _ _ ih e=>by
  rw[bx]at e ⊢;split at e
  ·cases e
  ·rename_i q;rw[if_neg q];exact ih e) h
def mG(C:Addr)(n:Str):D->Option D
 |.ins C' fs=>if C'=C then fs.lookup n else none
 |_=>none
theorem mJ{fa:Dd}{n:Str}(c:Cls X.K C)(hn:NoAttr X.K C n)(h:PDR X e fa)(hb:attributeBase e n X.env (eval e X.env)=eval e X.env:=by rfl):PDE X (.Attribute e n pos) (d1 (mG C n) fa):=
 (Bs h hb).imp fun σ H Q=>un7 fun P F ρ d hf I k=>by
  unfold d1 at hf;cases q:fa ρ with
  |none=>rw[q]at hf;cases hf
  |some dx=>
   rw[q,Ya]at hf;refine⟨P,F,ρ,dx,q,I,fun y F1 H1 e1 rx=>?_⟩;cases dx with
   |ins C' fs=>
    have hf':(if C'=C then fs.lookup n else none)=some d:=hf;split at hf'
    ·rename_i hC;subst hC;obtain⟨a,dx,vs,rfl,h1,h2⟩:=mE (I.evo e1) rx;obtain⟨v,h3,h4⟩:=h2.look hf';exact⟨a,C',dx,vs,v,rfl,h1,c,hn,h3,k v F1 H1 e1 h4⟩
    ·cases hf'
   |_=>cases hf
def jw(f:Str)(v:D):List (Str×D)->List (Str×D)
 |[]=>[(f,v)]
 |(g,x)::r=>if g=f then(g,v)::r else(g,x)::jw f v r
theorem RepsF.put{K:Kq}{H:Hp}{n:Str}{v:V}{d:D}(rv:Rep K H v d){vs:List (Str×V)}{ds:List (Str×D)}(h:RepsF K H vs ds):RepsF K H (eM n v vs) (jw n d ds):=
 RepsF.ind (M:=fun vs ds=>RepsF K H (eM n v vs) (jw n d ds)) (.cons rv .nil) (fun{k _ _ _ _} h r ih=>by
  unfold eM jw;by_cases q:k=n
  ·rw[if_pos q,if_pos q];exact .cons rv r
  ·rw[if_neg q,if_neg q];exact .cons h ih) h
theorem RepsF.length{K:Kq}{H:Hp}{vs:List (Str×V)}{ds:List (Str×D)}(h:RepsF K H vs ds):vs.length=ds.length:=RepsF.ind (M:=fun vs ds=>vs.length=ds.length) rfl (fun _ _ ih=>Zs Nat.succ ih) h
def lK(C:Addr)(i:Nat)(n:Str)(fv:Dd):DF->Option RES:=fun ρ=>match ρ[i]? with
 |some (some (.own (.ins C' fs) t))=>if C'=C then(fv ρ).bind fun d=>if fs.length<1000 then some (.nx (ρ.set i (some (.own (.ins C (jw n d fs)) t))))else none else none
 |_=>none
theorem mw{value:Expr}{n:Str}{fv:Dd}{pos':Pos}(i:Nat)(c:Cls X.K C)(hn:NoAttr X.K C n)(ho:PE X o (dg i))(hv:PDE X value fv)(hs:swapsWith value (some (.Attribute o n pos')) pos.line X.env=pure false:=by rfl) :
  PD1 X (.Assign [.Attribute o n pos'] value pos) (lK C i n fv):=PS.imp (Bu ho hv hs) fun E σ H=>un7 fun P F ρ r hr I k=>by
 unfold lK at hr;split at hr
 ·rename_i C' fs t q;split at hr
  ·rename_i hC;subst hC;cases q2:fv ρ with
   |none=>rw[q2]at hr;cases hr
   |some d=>
    rw[q2,Ya]at hr;split at hr
    ·rename_i hl;cases hr;obtain⟨v,h1,a,rfl,⟨⟨a1,a2,_⟩,u,a3,a4⟩,_⟩:=I.at q;cases u with
     |ins C'' dx vs=>
      obtain⟨rfl,a4⟩:=a4;refine⟨P,F,ρ,d,q2,I,fun y F1 H1 e1 ry=>⟨_,h1,a,C',dx,vs,rfl,(e1.keep a _ a3 a1).1,c,hn,by rw[a4.length];exact hl,k σ F1 _ e1.ext ?_⟩⟩;exact(I.evo e1).mut (o':=.ins C' _) (u:=.ins C' dx _) q rfl rfl h1 ⟨rfl,(RepsF.same e1.ext a4).put ry⟩
     |_=>exact a4.elim
    ·cases hr
  ·cases hr
 ·cases hr
def sn(C:Addr):DV->Option (List (Str×D))
 |.v (.ins C' fs)=>if C'=C then some fs else none
 |.bor (.ins C' fs)=>if C'=C then some fs else none
 |_=>none
def oS(C:Addr)(mn:Str):List DV->Bool
 |x::_=>match sn C x with
  |some fs=>(fs.lookup mn).isNone
  |none=>false
 |[]=>false
def cw(C:Addr)(mn:Str)(m:Dm)(g:Dv):DF->Option D:=fun ρ=>(g ρ).bind fun xs=>if oS C mn xs=true then(m xs).bind dvD else none
end
theorem DVs.heap{K:Kq}{P F H H':Hp}{xs:List DV}{vs:List V}(h:DVs K P F H xs vs):DVs K P F H' xs vs:=by
 induction h with
 |nil=>exact .nil
 |@cons x _ _ _ h r _ ih=>
  refine .cons h ?_ ih;cases x with
  |v d=>exact r
  |bor o=>exact r
  |own o t=>cases h
def du(i:Nat):DF->Option DV:=fun ρ=>match ρ[i]? with
 |some (some (.own o _))=>some (.bor o)
 |some (some (.bor o))=>some (.bor o)
 |some (some (.v d))=>some (.v d)
 |_=>none
def cJ(s:DF->Option DV)(g:Dv):DF->Option (List DV):=fun ρ=>(s ρ).bind fun x=>(g ρ).map fun xs=>x::xs
def g0:DF->Option (List DV):=fun _=>some []
def Self1(K:Kq)(ρ:DF)(σ:St)(F:Hp)(x:DV)(v:V):Prop:=ArgsS K ρ σ F [x] [v]
theorem Self1.cons{K:Kq}{ρ:DF}{σ:St}{F F':Hp}{x:DV}{v:V}{xs:List DV}{vs:List V}(h:Self1 K ρ σ F x v)(e:Same F F')(r:ArgsS K ρ σ F' xs vs):ArgsS K ρ σ F' (x::xs) (v::vs):=by
 cases h with
 |v h _=>exact .v (h.same e) r
 |b i h1 h2 _=>exact .b i h1 h2 r
theorem Self1.ins{K:Kq}{P F H:Hp}{ρ:DF}{σ:St}{x:DV}{v:V}{C:Addr}{fs:List (Str×D)}(I:DInv K P F H ρ σ)(h:Self1 K ρ σ F x v)(hi:sn C x=some fs):∃a dx vs,v=.ref a/\H a=some (.ins C dx vs)/\RepsF K F vs fs:=by
 cases h with
 |@v d _ _ _ h _=>
  cases d with
  |ins C' fs'=>
   have hi':(if C'=C then some fs' else none)=some fs:=hi;split at hi'
   ·rename_i hC;subst hC;cases hi';exact mE I (.inl h)
   ·cases hi'
  |_=>cases hi
 |@b o _ _ _ i h1 h2 _=>
  cases o with
  |ins C' fs'=>
   have hi':(if C'=C then some fs' else none)=some fs:=hi;split at hi'
   ·rename_i hC;subst hC;cases hi';exact mE I (RepS.slot I h1 h2 rfl)
   ·cases hi'
  |_=>cases hi
def uQ(K:Kq)(s:DF->Option DV):TE:=fun σ H Q=>∃P F ρ x,s ρ=some x/\DInv K P F H ρ σ/\∀v F' H',Evo P F H F' H'->Self1 K ρ σ F' x v->Q v H'
def pV(X:Cx)(e:Expr)(s:DF->Option DV):Prop:=PE X e (uQ X.K s)
section
variable{X:Cx}{k:Nat}{f C:Addr}{fd:FuncData}{ps:List Str}{m:Dm}{mM:Dz}{x mn:Str}{p pos apos spos:Pos}{e o:Expr}{es:List Expr}{g:Dv}{s:DF->Option DV}
theorem nQ(i:Nat)(h:PE X e (dg i)):pV X e (du i):=PE.imp h fun σ H Q=>un7 fun P F ρ x hf I k=>by
 unfold du at hf;split at hf
 ·rename_i o t q;cases hf;obtain⟨v,h1,_⟩:=I.at q;exact⟨v,h1,k v F H (Evo.refl I.toDHp) (.b i h1 (.inl ⟨t,q⟩) .nil)⟩
 ·rename_i o q;cases hf;obtain⟨v,h1,_⟩:=I.at q;exact⟨v,h1,k v F H (Evo.refl I.toDHp) (.b i h1 (.inr q) .nil)⟩
 ·rename_i d q;cases hf;obtain⟨v,h1,h2⟩:=I.at q;exact⟨v,h1,k v F H (Evo.refl I.toDHp) (.v h2 .nil)⟩
 ·cases hf
theorem ql{C:Addr}{mn:Str}{x:DV}{xs:List DV}(h:oS C mn (x::xs)=true):∃fs,sn C x=some fs/\fs.lookup mn=none:=by
 unfold oS at h;cases q:sn C x with
 |none=>simp[q]at h
 |some fs=>exact⟨fs,rfl,by simpa[q]using h⟩
theorem wg{K:Kq}{E:XK}{σ:St}{H:Hp}{Q:VK}{P F:Hp}{ρ:DF}{xs:List DV}{y:DV}(hg:cJ s g ρ=some xs)(hs:oS C mn xs=true)(hm:m xs=some y)(I:DInv K P F H ρ σ)
  (k:∀v F1 H1 F2 H2,Evo P F H F1 H1->Same F1 F2->DHp (gd F1 H1) F2 H2->DVRep K (gd F1 H1) F2 H2 p0 y v->Q v H2):rK C mn (spD K m) [] E (uQ K s) (tLV K g) σ H Q:=by
 unfold cJ at hg;cases q:s ρ with
 |none=>rw[q]at hg;cases hg
 |some x=>
  rw[q,Ya]at hg;cases q2:g ρ with
  |none=>rw[q2]at hg;cases hg
  |some ys=>
   rw[q2]at hg;cases hg;obtain⟨fs,hi,hl⟩:=ql hs;refine⟨P,F,ρ,x,q,I,fun v F1 H1 e1 r1=>?_⟩;have I1:=I.evo e1;obtain⟨a,dx,vs,rfl,h1,h2⟩:=r1.ins I1 hi;refine⟨a,dx,vs,rfl,h1,h2.no hl,P,F1,ρ,ys,q2,I1,fun ws F2 H2 e2 r2=>?_⟩;have I2:=I1.evo e2;refine⟨gd F2 H2,F2,x::ys,y,hm,ip I2.sub,by rw[Za];exact(r1.cons e2.ext r2).dvs I2,fun w F3 H3 e3 hp3 r3=>k w F2 H2 F3 H3 (e1.trans e2) e3 hp3 r3⟩
theorem rP{K:Kq}{E:XK}:∀σ H Q,tD K (cw C mn m (cJ s g)) σ H Q->rK C mn (spD K m) [] E (uQ K s) (tLV K g) σ H Q:=fun σ H Q=>un7 fun P F ρ d hf I k=>by
 unfold cw at hf;cases q:cJ s g ρ with
 |none=>rw[q]at hf;cases hf
 |some xs=>
  rw[q,Ya]at hf;split at hf
  ·rename_i hs;cases q2:m xs with
   |none=>rw[q2]at hf;cases hf
   |some y=>
    rw[q2,Ya]at hf;refine wg q hs q2 I fun v F1 H1 F2 H2 e1 e2 hp2 r2=>?_;have I1:=I.evo e1;have ev:Evo P F1 H1 F2 H2:=I1.toDHp.gd e2 hp2;cases y with
    |v d'=>cases hf;exact k v F2 H2 (e1.trans ev) r2
    |own o t=>
     cases hf;obtain⟨a,rfl,ho,_⟩:=r2;have ho':=nv e2 ho;exact k _ _ H2 (e1.trans (ev.freeze I1.toDHp (fun b=>H1 b=none/\F2 b=none) fun _ q=>q)) (ho'.rep (bS fun b q=>q.2) fun b u q hb=>by rw[c7 q];exact hb)
    |bor o=>cases hf
  ·cases hf
theorem xj{pl:Sem Bool}(he:pV X o s)(c:Cls X.K C)(hm:Meth X.K C mn f)(G:FnOk X.prog X.w X.K X.mg X.base CX0 k f fd ps (spD X.K m))(hr:Room k X.A)(hb:Binds X.K fd ps [])(ha:kI X (e::es) g)
  (hst:starEach (e::es) X.env=(false,eval e X.env)::starEach es X.env:=by rfl) (hpl:(backTo pos (starEach es X.env)).any (·.1)=false:=by rfl)
  (ht:eval (.Call (.Attribute o mn apos) (e::es) [] pos) X.env=(do
   let ov <-eval o X.env
   standAt apos.atName
   let (f,first) <-holding [ov] (getMethod ov mn pl)
   callWith pos f first (backTo pos (starEach (e::es) X.env)) (backToKw pos (keywordEach [] X.env))):=by rfl):PDE X (.Call (.Attribute o mn apos) (e::es) [] pos) (cw C mn m (cJ s g)):=
 (yT he c hm G hr hb .nil kX ha hst hpl ht).imp rP
theorem pS{pl:Sem Bool}(he:pV X o s)(c:Cls X.K C)(hm:Meth X.K C mn f)(G:FnOk X.prog X.w X.K X.mg X.base CX0 k f fd ps (spD X.K m))(hr:Room k X.A)(hb:Binds X.K fd ps [])
  (ht:eval (.Call (.Attribute o mn apos) [] [] pos) X.env=(do
   let ov <-eval o X.env
   standAt apos.atName
   let (f,first) <-holding [ov] (getMethod ov mn pl)
   callWith pos f first (backTo pos (starEach [] X.env)) (backToKw pos (keywordEach [] X.env))):=by rfl):PDE X (.Call (.Attribute o mn apos) [] [] pos) (cw C mn m (cJ s g0)):=
 (vM he c hm G hr hb .nil kX ht).imp fun σ H Q h=>by
  have:=rP (K:=X.K) (E:=E0) σ H Q h;obtain⟨P,F,ρ,x,h1,h2,h3⟩:=this;refine⟨P,F,ρ,x,h1,h2,fun v F' H' ev r=>?_⟩;obtain⟨a,dx,fs,ex,ea,l,P2,F2,ρ2,xs,hx,I2,h4⟩:=h3 v F' H' ev r;cases hx;exact⟨a,dx,fs,ex,ea,l,h4 [] F2 H' (Evo.refl I2.toDHp) .nil⟩
def nY(C:Addr)(mM:Dz)(g:Dv):DF->Option OD:=fun ρ=>(g ρ).bind fun xs=>match mM (.ins C []) xs with
 |some (o',.non)=>if o'.flat=true then some o' else none
 |_=>none
theorem wa(M:Mk X.K C f)(G:FnOk X.prog X.w X.K X.mg X.base CX0 k f fd ps (spM X.K mM))(hr:Room (k+1) X.A)(hg:Gl X x)(hm:X.mg x=some (.ref C))(hb:Binds X.K fd ps [])(ha:kI X (e::es) g)
  (hdb:(x == ("__debug__":Str))=false:=by decide) (he:starEach (e::es) X.env=(false,eval e X.env)::starEach es X.env:=by rfl) (hpl:(backTo pos (starEach es X.env)).any (·.1)=false:=by rfl):PDO X (.Call (.Name x p) (e::es) [] pos) (nY C mM g):=
 (xT M G hr hg hm hb .nil kX ha hdb he hpl).imp fun σ H Q=>un7 fun P F ρ ob hf I k=>by
  unfold nY at hf;cases q:g ρ with
  |none=>rw[q]at hf;cases hf
  |some xs=>
   rw[q,Ya]at hf;split at hf
   ·rename_i o' q2;split at hf
    ·rename_i fl;cases hf;refine⟨P,F,ρ,xs,q,I,fun vs F1 H1 e1 r1 y dx hy hdx hne=>?_⟩;have I1:=I.evo e1;have sm:Same H1 (upd (upd H1 dx (.own y)) y (.ins C dx [])):=fun b u z=>by rw[au (aH z hy),au (aH z hdx)];exact z
     refine⟨gd F1 H1,F1,y,vs,.ins C [],xs,ob,.non,by simp,q2,⟨I1.sub.trans sm,fun b u z=>sm b u ((ip I1.sub).pro b u z),(ip I1.sub).dis⟩,I1.sub.free hy,(ip I1.sub).pro.free hy,rfl,⟨_,aG,rfl,.nil⟩,(r1.dvs I1).heap,fun v F2 H2 e2 hp2 f2 ho fl' rv=>?_⟩;cases rv;exact⟨rfl,k y F2 H2 (e1.trans (I1.toDHp.gd e2 hp2)) ((ORep.flat fl).mpr ⟨⟨e1.back I.toDHp hy,f2⟩,ho⟩)⟩
    ·cases hf
   ·cases hf
end
section
variable{κ:Type} [DecidableEq κ]
def dQ(kvs:List (κ×D))(k:κ):Option D:=(kvs.find? fun kv=>decide (kv.1=k)).map (·.2)
def fK(kvs:List (κ×D))(k:κ)(v:D):List (κ×D):=
 if(kvs.any fun kv=>decide (kv.1=k))=true then kvs.map (fun kv=>if kv.1=k then(kv.1,v)else kv)else kvs++[(k,v)]
end
theorem sK{k k':List Key}{v:V}{vs:List (List Key×V)}:eZ ((k',v)::vs) k=if k'=k then some v else eZ vs k:=by unfold eZ;by_cases q:k'=k<;>simp[ZZ,q]
theorem bZ{κ:Type}[DecidableEq κ]{k k':κ}{v:D}{vs:List (κ×D)}:dQ ((k',v)::vs) k=if k'=k then some v else dQ vs k:=by unfold dQ;by_cases q:k'=k<;>simp[ZZ,q]
theorem RepsT.val{K:Kq}{H:Hp}{k:List Key}{vs:List (List Key×V)}{ds:List (List Key×D)}(h:RepsT K H vs ds):(eZ vs k=none/\dQ ds k=none)\/∃v d,eZ vs k=some v/\dQ ds k=some d/\Rep K H v d:=
 RepsT.ind (M:=fun vs ds=>(eZ vs k=none/\dQ ds k=none)\/∃v d,eZ vs k=some v/\dQ ds k=some d/\Rep K H v d) (.inl ⟨rfl,rfl⟩) (fun{k' v d vs ds} h _ ih=>by
  rw[sK,bZ];by_cases q:k'=k
  ·rw[if_pos q,if_pos q];exact .inr ⟨v,d,rfl,rfl,h⟩
  ·rw[if_neg q,if_neg q];exact ih) h
theorem RepsT.any{K:Kq}{H:Hp}{k:List Key}{vs:List (List Key×V)}{ds:List (List Key×D)}(h:RepsT K H vs ds):(vs.any fun kv=>decide (kv.1=k))=ds.any fun kv=>decide (kv.1=k):=
 RepsT.ind (M:=fun vs ds=>(vs.any fun kv=>decide (kv.1=k))=ds.any fun kv=>decide (kv.1=k)) rfl (fun _ _ ih=>by rw[XQ,XQ,ih]) h
theorem RepsT.map{K:Kq}{H:Hp}{k:List Key}{v:V}{d:D}(rv:Rep K H v d){vs:List (List Key×V)}{ds:List (List Key×D)}(h:RepsT K H vs ds):RepsT K H (vs.map fun kv=>if kv.1=k then(kv.1,v)else kv) (ds.map fun kv=>if kv.1=k then(kv.1,d)else kv):=
 RepsT.ind (M:=fun vs ds=>RepsT K H (vs.map fun kv=>if kv.1=k then(kv.1,v)else kv) (ds.map fun kv=>if kv.1=k then(kv.1,d)else kv)) .nil (fun{k' v' d' vs ds} h _ ih=>by
  rw[YH,YH];by_cases q:k'=k
  ·rw[if_pos (show(k',v').1=k from q),if_pos (show(k',d').1=k from q)];exact .cons rv ih
  ·rw[if_neg (show ¬(k',v').1=k from q),if_neg (show ¬(k',d').1=k from q)];exact .cons h ih) h
theorem RepsT.snoc{K:Kq}{H:Hp}{k:List Key}{v:V}{d:D}(rv:Rep K H v d){vs:List (List Key×V)}{ds:List (List Key×D)}(h:RepsT K H vs ds):RepsT K H (vs++[(k,v)]) (ds++[(k,d)]):=
 RepsT.ind (M:=fun vs ds=>RepsT K H (vs++[(k,v)]) (ds++[(k,d)])) (.cons rv .nil) (fun h _ ih=>.cons h ih) h
theorem RepsT.put{K:Kq}{H:Hp}{k:List Key}{v:V}{d:D}{vs:List (List Key×V)}{ds:List (List Key×D)}(rv:Rep K H v d)(r:RepsT K H vs ds):RepsT K H (g9 vs k v) (fK ds k d):=by
 unfold g9 fK;rw[r.any (k:=k)];split
 ·exact r.map rv
 ·exact r.snoc rv
theorem RepsT.length{K:Kq}{H:Hp}{vs:List (List Key×V)}{ds:List (List Key×D)}(h:RepsT K H vs ds):vs.length=ds.length:=RepsT.ind (M:=fun vs ds=>vs.length=ds.length) rfl (fun _ _ ih=>Zs Nat.succ ih) h
def yx:D->Option Key
 |.int i=>some (.inl i)
 |.str x=>some (.inr x)
 |_=>none
def fg:List D->Option (List Key)
 |[]=>some []
 |d::ds=>(yx d).bind fun k=>(fg ds).map fun r=>k::r
def mF:D->Option (List Key)
 |.tup ds=>fg ds
 |_=>none
theorem Reps.keys{K:Kq}{H:Hp}{vs:List V}{ds:List D}{ks:List Key}(h:Reps K H vs ds):fg ds=some ks->vs=ks.map kV:=
 Reps.ind (M:=fun vs ds=>∀ks:List Key,fg ds=some ks->vs=ks.map kV) (fun ks e=>by cases e;rfl) (fun{v d vs ds} h _ ih ks e=>by
  unfold fg at e;cases q:yx d with
  |none=>rw[q]at e;cases e
  |some k=>
   rw[q,Ya]at e;cases q2:fg ds with
   |none=>rw[q2]at e;cases e
   |some kr=>
    rw[q2]at e;cases e;rw[ih _ q2,YH];cases d with
    |int i=>cases q;cases h;rfl
    |str i=>cases q;cases h;rfl
    |_=>cases q) h ks
theorem sJ{K:Kq}{P F H:Hp}{y:V}{dy:D}{ks:List Key}(hp:DHp P F H)(r:Rep K F y dy)(h:mF dy=some ks):∃b,y=.ref b/\H b=some (.tup (ks.map kV)):=by
 cases dy with
 |tup ds=>cases r with|tup h1 h2=>exact⟨_,rfl,by rw[hp.sub _ _ h1,h2.keys h]⟩
 |_=>cases h
section
variable{X:Cx}{a b o i e f:Expr}{pos pos' apos cpos:Pos}{fd fk fx fv:Dd}
def gf(fd fk fx:Dd):DF->Option D:=fun ρ=>match fd ρ with
 |some (.dT kvs)=>(fk ρ).bind fun y=>(mF y).bind fun k=>(fx ρ).map fun x=>(dQ kvs k).getD x
 |_=>none
theorem oe(hu:X.A.units+64<cLine)(ho:PDR X o fd)(hi:PDE X e fk)(hx:PDE X f fx)(m:M2 X o "get" apos e f cpos:=by exact⟨rfl,rfl,rfl,rfl⟩):PDE X (.Call (.Attribute o "get" apos) [e,f] [] cpos) (gf fd fk fx):=(vS (by omega) ho hi hx m).imp fun σ H Q=>un7 fun P F ρ d hf I k=>by
 unfold gf at hf;split at hf
 ·rename_i kvs qa;cases qb:fk ρ with
  |none=>rw[qb]at hf;cases hf
  |some dy=>
   rw[qb,Ya]at hf;cases qk:mF dy with
   |none=>rw[qk]at hf;cases hf
   |some ks=>
    rw[qk,Ya]at hf;cases qx:fx ρ with
    |none=>rw[qx]at hf;cases hf
    |some dz=>
     rw[qx]at hf;cases hf;refine⟨P,F,ρ,_,qa,I,fun x F1 H1 e1 rx=>?_⟩;obtain⟨p,vs,rfl,h1,h2⟩:=uZ (I.evo e1) rx;refine⟨p,rfl,.inr ⟨vs,.inl h1⟩,P,F1,ρ,_,qb,I.evo e1,fun y F2 H2 e2 ry=>⟨P,F2,ρ,_,qx,(I.evo e1).evo e2,fun z F3 H3 e3 rz=>?_⟩⟩;have I3:=((I.evo e1).evo e2).evo e3;obtain⟨p',vs',ep,h1',h2'⟩:=uZ I3 ((rx.evo e2).evo e3);cases ep;obtain⟨q,rfl,h3⟩:=sJ e3.hp (ry.same e3.ext) qk;refine⟨_,DGet.t h1' h3,?_⟩;have e123:=(e1.trans e2).trans e3;rcases h2'.val (k:=ks)with⟨z1,z2⟩|⟨v,d',z1,z2,z3⟩
     ·rw[z1];exact k _ F3 H3 e123 (by show Rep X.K F3 z ((dQ kvs ks).getD dz);rw[z2];exact rz)
     ·rw[z1];exact k _ F3 H3 e123 (by show Rep X.K F3 v ((dQ kvs ks).getD dz);rw[z2];exact z3)
 ·cases hf
theorem tZ:PDO X (.Dict [] [] pos) (fun _=>some (.dT [])):=wI.imp fun σ H Q=>un7 fun P F ρ ob hf I k=>by
 cases hf;exact fun p hp=>k p F _ (Evo.side I.toDHp hp) ⟨⟨hp,(I.toDHp.free hp).1⟩,_,aG,.nil⟩
def rY(j:Nat)(fk fv:Dd):DF->Option RES:=fun ρ=>match ρ[j]? with
 |some (some (.own (.dT kvs) t))=>(fv ρ).bind fun v=>(fk ρ).bind fun y=>(mF y).bind fun k=>if kvs.length<16777216 then some (.nx (ρ.set j (some (.own (.dT (fK kvs k v)) t))))else none
 |_=>none
theorem yw(j:Nat)(hu:X.A.units+64<cLine)(ho:PE X o (dg j))(hi:PDE X i fk)(hv:PDE X e fv)(hs:swapsWith e (some (.Subscript o i pos')) pos.line X.env=pure false:=by rfl):PD1 X (.Assign [.Subscript o i pos'] e pos) (rY j fk fv):=
 PS.imp (xB (by omega) ho hi hv hs) fun E σ H=>un7 fun P F ρ r hr I k=>by
  unfold rY at hr;split at hr
  ·rename_i kvs t q;cases qv:fv ρ with
   |none=>rw[qv]at hr;cases hr
   |some dv=>
   rw[qv,Ya]at hr;cases qb:fk ρ with
   |none=>rw[qb]at hr;cases hr
   |some dy=>
   rw[qb,Ya]at hr;cases qk:mF dy with
   |none=>rw[qk]at hr;cases hr
   |some ks=>
   rw[qk,Ya]at hr;split at hr
   ·rename_i hl;cases hr;obtain⟨v,h1,p,rfl,⟨⟨a1,a2,_⟩,u,a3,a4⟩,_⟩:=I.at q;cases u with
    |dT vs=>
     have a4:RepsT X.K F vs kvs:=a4;refine⟨P,F,ρ,_,qv,I,fun v F1 H1 e1 rv=>⟨_,h1,P,F1,ρ,_,qb,I.evo e1,fun y F2 H2 e2 ry=>?_⟩⟩;have e12:=e1.trans e2;obtain⟨k1,k2⟩:=e12.keep p _ a3 a1;obtain⟨b',rfl,h3⟩:=sJ e12.hp ry qk;refine⟨p,_,rfl,DPut.t k1 h3 (by rw[YK,a4.length];exact hl),k σ F2 _ e12.ext ?_⟩;exact(I.evo e12).mut (o':=.dT _) (u:=.dT _) q rfl rfl h1 ((RepsT.same e12.ext a4).put (rv.same e2.ext))
    |_=>exact a4.elim
   ·cases hr
  ·cases hr
end
end L2
namespace L2
open PySem PySem.Spec PyProof.Rows PySem.W
section
variable{prog:Program}{w:World}{A:Around}{E:Kv}{s:Shared}
def i4(prog:Program)(w:World)(A:Around)(Q:Kv)(vs:List Value)(s1:Shared):Prop:=
 vs.length<64/\∃(κ:SortKind) (lt:Nat->Nat->Bool),Ord lt /\
  (2<=vs.length->∀h',(∀b u,s1.heap.get? b=some u->h'.get? b=some u)->∀(Q:SortKind->Shared->Prop) (E:Kv),Q κ {s1 with heap:=h' }->wpAny (model prog w) A.in1.in1 (keyKind' vs.toArray) Q E {s1 with heap:=h' }) /\
  (∀h',(∀b u,s1.heap.get? b=some u->h'.get? b=some u)->∀i j C,i<vs.length->j<vs.length->C (lt i j) {s1 with heap:=h' }->kas_ask prog w A.in1.in1 κ vs i j C {s1 with heap:=h' }) /\
  ∀p,PermN vs.length p->Ris lt p vs.length->∀(a:Addr) (h':Heap) (e:Nat),(∀b u,s1.heap.get? b=some u->h'.get? b=some u)->s1.heap.objs.size<=a->h'.get? a=some (seqObj "list" (ir vs p) e)->Q (.ref a) {s1 with heap:=h' }
theorem fA{v:Value}{Q:Kv}(hcol:wpAny (model prog w) A.in1 (collect v) (i4 prog w A Q) E s) :
  wpAny (model prog w) A (call (.builtin "sorted") [v]) Q E s:=by
 refine Calls.call_function_entry kind_sorted plain_sorted entry_sorted (args_sorted1 _) ?_;unfold Builtin.«sorted»;refine Yb (m:=checkCount "sorted" 1 1 _) (Yf ?_);refine Yb (Xg hcol (fun vs s1 hh_=>?_) fun _ _ e=>e);obtain⟨h64,κ,lt,o,hk,hc,h⟩:=hh_;refine Yb (Vw ?_ (by rw[YK];omega));have hoL:(s1.heap.push (seqObj "list" vs.toArray 0)).get? s1.heap.objs.size=some (seqObj "list" vs.toArray 0):=Yn _ rfl;have keep:∀b u,s1.heap.get? b=some u->(s1.heap.push (seqObj "list" vs.toArray 0)).get? b=some u:=fun b u q=>Yg _ q
 show wpAny _ _ _ _ _ {s1 with heap:=s1.heap.push (seqObj "list" vs.toArray 0)};have lift:∀h':Heap,(∀b u,b≠s1.heap.objs.size->(s1.heap.push (seqObj "list" vs.toArray 0)).get? b=some u->h'.get? b=some u)->∀b u,s1.heap.get? b=some u->h'.get? b=some u:=fun h' k b u e=>
  k b u (Yw (Yp e)) (keep b u e)
 refine Yb (ZK (Zt slot_list_sort ⟨_,hoL,rfl⟩ entry_list_sort ?body (args_list_sort _)))
 case body=>
  refine kO hoL h64 κ lt o (fun h2 h' k Q q=>hk h2 h' (lift h' k) Q _ q) (fun h' k=>hc h' (lift h' k)) fun p hp hr=>⟨_,rfl,?_⟩
  obtain⟨e,he⟩:=sortedHeap_at (out:=ir vs p) hoL;refine Yf ⟨_,rfl,h p hp hr s1.heap.objs.size _ e (fun b u q=>?_) (Yl _) he⟩;have hlt:b<s1.heap.objs.size:=Yp q;show(sortedHeap (s1.heap.push (seqObj "list" vs.toArray 0)) s1.heap.objs.size vs (ir vs p)).get? b=some u;rw[sortedHeap_old (Yw hlt) (by rw[size_push'];exact Zj hlt)];exact keep b u q
theorem kT{l:Addr}{vs:List Value}{Q:Kl}(hl:IsTup s.heap l vs.toArray)
  (h:Q vs {s with heap:=(s.heap.push (seqObj "list" #[] 0)).update s.heap.objs.size (Obj.mapSeq (·++vs.toArray))}) (hsz:vs.length<=sizeLine) :
  wpAny (model prog w) A (collect (.ref l)) Q E s:=by
 obtain⟨o,ho,hc,n,hd⟩:=id hl;unfold collect;refine Yb (wpAny_runValue (Zn entry_proto_collect' ?_));show wpAny _ _ (do again (.builtin "list.__iadd__" ⟨[<-newList [],.ref l],[]⟩)) _ _ s;refine Yb (Vw (Yf ⟨XU _ (by decide+kernel),Zn entry_list_iadd' ?_⟩));show wpAny _ _ (Builtin.List.listExtendWith (.ref s.heap.objs.size) (.ref l) (.ref s.heap.objs.size)) _ _ {s with heap:=s.heap.push (seqObj "list" #[] 0)};unfold Builtin.List.listExtendWith;have ho':(s.heap.push (seqObj "list" #[] 0)).get? l=some o:=Yg _ ho;refine Yb (Vl (T := "tuple") ⟨o,ho',hc⟩ ?_);rw[if_pos (by
  have ht:(Value.type "tuple" == Value.type "tuple")=true:=by rfl
  rw[ht];simp)]
 refine Yb (listItems_at ho' hd ?_);refine Yb (listItems_at (xs:=#[]) (n:=0) (Yn _ rfl) rfl ?_);rw[if_neg (by simp)];refine Yb (listUpdate_at (xs:=#[]) (n:=0) (Yn _ rfl) rfl ?_ (YF _) (by show(#[]++vs.toArray).size<=sizeLine+1;simp only[VQ,Yz,Zm];omega));refine Yf ?_;show wpAny (model prog w) A (do
   let o <-load s.heap.objs.size
   match o.data with
   |.seq xs _=>pure xs.toList
   |_=>unsupported "internal:collect") Q E {s with heap:=(s.heap.push (seqObj "list" #[] 0)).update s.heap.objs.size (Obj.mapSeq (·++vs.toArray))}
 refine Yb (wpAny_load (get?_update_seq (Yn _ rfl) _) ?_);show wpAny _ _ (pure ((#[]:Array Value)++vs.toArray).toList) Q E _;rw[show((#[]:Array Value)++vs.toArray).toList=vs by simp];exact Yf h
theorem jc{h:Heap}{vs:List Value}{b:Addr}{u:Obj}(q:h.get? b=some u):((h.push (seqObj "list" #[] 0)).update h.objs.size (Obj.mapSeq (·++vs.toArray))).get? b=some u:=by have hlt:b<h.objs.size:=Yp q;rw[YI _ _ _ _ (Yw hlt),Xz _ _ _ (Yw hlt)];exact q
end
def sk:D->Bool
 |.int _=>true
 |.str _=>true
 |.tup (_::_)=>true
 |_=>false
def fk:D->Bool
 |.int _=>true
 |.str _=>true
 |.tup _=>true
 |_=>false
def sD:D->Bool
 |.tup (d::_)=>fk d
 |_=>true
def bA(ds:List D):Bool:=decide (ds.length<64)&&ds.all (okN 28)&&(ds.all fun x=>ds.all fun y=>aq x y)&&ds.all sk&&ds.all sD
theorem dw{ds:List D}(h:bA ds=true):ds.length<64/\Cmps 28 ds/\(∀d∈ds,sk d=true)/\∀d∈ds,sD d=true:=by unfold bA at h;simp only[Yo,YE]at h;obtain⟨⟨⟨⟨h1,h2⟩,h3⟩,h4⟩,h5⟩:=h;exact⟨h1,⟨fun d hd=>Yh.mp h2 d hd,fun x hx y hy=>Yh.mp (Yh.mp h3 x hx) y hy⟩,fun d hd=>Yh.mp h4 d hd,fun d hd=>Yh.mp h5 d hd⟩
def dAt(ds:List D)(i:Nat):D:=ds.getD i (ds.headD (.int 0))
theorem l6{ds:List D}(h:ds≠[])(i:Nat):dAt ds i∈ds:=by
 unfold dAt;cases ds with
 |nil=>exact absurd rfl h
 |cons d r=>
  rw[YN];cases q:(d::r)[i]? with
  |none=>exact Yd
  |some x=>exact YA q
theorem me{ds:List D}{i:Nat}(h:i<ds.length):ds[i]?=some (dAt ds i):=by unfold dAt;rw[YN,Yi h];rfl
theorem AF{n:Nat}{ds:List D}(hc:Cmps n ds):Ord fun i j=>ltD (dAt ds i) (dAt ds j):=by
 by_cases hn:ds=[]
 ·subst hn;have e:∀i,dAt [] i=.int 0:=fun i=>by simp[dAt]
  refine⟨fun i j h=>?_,fun i j k h1 h2=>?_⟩
  ·rw[e,e]at h;simp[ltD]at h
  ·rw[e,e];simp[ltD]
 ·have m:=fun i=>l6 hn i
  refine⟨fun i j h=>?_,fun i j k h1 h2=>?_⟩
  ·exact(eG n _ _ (hc.1 _ (m i)) (hc.1 _ (m j)) (hc.2 _ (m i) _ (m j))).as h
  ·exact le (hc.1 _ (m i)) (hc.1 _ (m j)) (hc.1 _ (m k)) (hc.2 _ (m i) _ (m j)) (hc.2 _ (m j) _ (m k)) (hc.2 _ (m i) _ (m k)) (hc.2 _ (m j) _ (m i)) (hc.2 _ (m k) _ (m j)) (hc.2 _ (m k) _ (m i)) h1 h2
theorem qg{n:Nat}{ds:List D}(hc:Cmps n ds){p:Array Nat}(hp:PermN ds.length p)(hr:Ris (fun i j=>ltD (dAt ds i) (dAt ds j)) p ds.length):p.toList.map (dAt ds)=aQ ds:=by
 refine jd (n:=n) ?_ hc ?_
 ·have h1:(p.toList.map (dAt ds)).Perm ((List.range ds.length).map (dAt ds)):=hp.perm.map _;have h2:(List.range ds.length).map (dAt ds)=ds:=by
   apply XA;intro i;rw[Yu];by_cases h:i<ds.length
   ·rw[Xn h,ZM,me h]
   ·rw[ZN (by rw[Zk];omega),ZN (by omega)];rfl
  rw[h2]at h1;exact h1
 ·rw[Va,XD];intro i j hi hj hij;have hs:=hp.size;rw[YC]at hi hj;have:=hr i j (ZG hij) (by omega);have e:∀k (h:k<p.size),p.getD k 0=p[k]:=fun k h=>by simp[Array.getD,h]
  rw[e i hi,e j hj]at this;simpa using this
theorem Reps.perm{K:Kq}{H:Hp}{vs:List V}{ds:List D}(r:Reps K H vs ds)(hn:ds≠[]):∀(l:List Nat),(∀i∈l,i<ds.length)->Reps K H (l.map fun i=>vs.getD i .non) (l.map (dAt ds))
 |[],_=>.nil
 |i::l,h=>by
  obtain⟨v,h1,h2⟩:=r.get (me (h i Yd));have e:vs.getD i .non=v:=by rw[YN,h1];rfl
  rw[YH,YH];show Reps K H (vs.getD i .non::_) _;rw[e];exact .cons h2 (Reps.perm r hn l fun j hj=>h j (Yc _ hj))
theorem Vals.perm{vs:List V}{us:List Value}(r:Vals vs us):∀(l:List Nat),(∀i∈l,i<vs.length)->Vals (l.map fun i=>vs.getD i .non) (l.map fun i=>us.getD i Value.none)
 |[],_=>.nil
 |i::l,h=>by
  have hi:=h i Yd;obtain⟨u,h1,h2⟩:=r.get (Yi hi);have e1:vs.getD i .non=vs[i]:=by rw[YN,Yi hi];rfl
  have e2:us.getD i Value.none=u:=by rw[YN,h1];rfl
  rw[YH,YH];show Vals (vs.getD i .non::_) (us.getD i Value.none::_);rw[e1,e2];exact .cons h2 (Vals.perm r l fun j hj=>h j (Yc _ hj))
def tyD:D->Value
 |.int _=>.type "int"
 |.str _=>.type "str"
 |_=>.type "tuple"
section
variable{X:Cx}{pz:Kp}{σ:St}{H:Hp}{s:Shared}
theorem Rep.ty(I:Inv X pz σ H s){v:V}{d:D}{u:Value}(h:Rep X.K H v d)(hk:fk d=true)(r:RelV v u)(M:Model):Looks M s.heap (typeOf u) (tyD d):=by
 cases d with
 |int i=>cases h;obtain⟨t,rfl⟩:=(show ∃t,u=Value.int _ t from r);exact Looks.of_pure rfl
 |str i=>cases h;obtain⟨t,rfl⟩:=(show ∃t,u=Value.str _ t from r);exact Looks.of_pure rfl
 |tup ds=>
  cases h with
  |tup h1 h2=>
   cases(show u=Value.ref _ from r);obtain⟨its,rv,⟨o,ho,hc,n,hd⟩,_⟩:=I.tuple (SqT.of h1);have:=(Looks.ld (M:=M) (part:=none) ho).andThen (f:=fun o=>pure o.cls) .now;rw[hc]at this;exact this
 |_=>cases hk
theorem qr{x y:D}(h:aq x y=true)(hx:fk x=true):tyD x=tyD y:=by
 rcases bi h with⟨i,j,rfl,rfl⟩|⟨i,j,rfl,rfl⟩|⟨i,j,rfl,rfl⟩|⟨i,j,rfl,rfl,_⟩
 ·rfl
 ·cases hx
 ·rfl
 ·rfl
def lz:List D->SortKind
 |.tup (d::_)::_=>tuples' (tyD d != .type "tuple")
 |_=>oneType'
theorem qN(I:Inv X pz σ H s):∀{vs:List V}{ds:List D}{us:List Value},Reps X.K H vs ds->Vals vs us->(∀d∈ds,∃x r,d=.tup (x::r)/\fk x=true)->∀T:Value,(∀x r,.tup (x::r)∈ds->tyD x=T)->
  ∃fs:List Value,KatTups s.heap us fs/\fs.length=us.length/\∀M,∀v∈fs,Looks M s.heap (typeOf v) T:=by
 intro vs ds us h;exact Reps.ind (M:=fun vs ds=>∀us:List Value,Vals vs us->(∀d∈ds,∃x r,d=.tup (x::r)/\fk x=true)->∀T:Value,(∀x r,.tup (x::r)∈ds->tyD x=T) ->     ∃fs:List Value,KatTups s.heap us fs/\fs.length=us.length/\∀M,∀v∈fs,Looks M s.heap (typeOf v) T) (fun us r _ _ _=>by cases r;exact⟨[],.nil,rfl,fun _ _ h=>by cases h⟩) (fun h _ ih us r0 hd T hT=>by
  cases r0 with
  |cons r t=>
  obtain⟨x,rr,rfl,hx⟩:=hd _ Yd;obtain⟨fs,f1,f2,f3⟩:=ih _ t (fun d m=>hd d (Yc _ m)) T fun x r m=>hT x r (Yc _ m)
  cases h with
  |tup h1 h2=>
   cases(show _=Value.ref _ from r);obtain⟨its,rv,⟨o,ho,hc,n,hdt⟩,_⟩:=I.tuple (SqT.of h1);cases h2 with
   |cons g1 g2=>
    cases rv with
    |cons k1 k2=>
     refine⟨_::fs,KatTups.cons ho hc hdt (by simp;rfl) f1,by rw[Yy,Yy,f2],fun M v hv=>?_⟩;rcases Yv.mp hv with rfl|hv
     ·rw[<-hT x rr Yd];exact g1.ty I hx k1 M
     ·exact f3 M v hv) h us
theorem nA{d:D}(h:sk d=true)(ht:gh d=false):fk d=true:=by cases d<;>first|rfl|cases h|cases ht
theorem yY(I:Inv X pz σ H s){vs:List V}{ds:List D}{us:List Value}(r:Reps X.K H vs ds)(rv:Vals vs us)(ok:bA ds=true)(h2:2<=us.length){A:Around}{M:Model}{Q:SortKind->Shared->Prop}{E:Kv}(hQ:Q (lz ds) s) :
  wpAny M A (keyKind' us.toArray) Q E s:=by
 obtain⟨hl,hc,hs,hf⟩:=dw ok;have l1:=r.length;have l2:=rv.length;cases ds with
 |nil=>rw[Zm]at l1;omega
 |cons d dr=>
  have md:d∈d::dr:=Yd;cases ht:gh d with
  |true=>
   cases d with
   |tup xs=>
    cases xs with
    |nil=>have:=hs _ md;cases this
    |cons x rr=>
     have hx:fk x=true:=hf _ md;have all:∀d'∈(D.tup (x::rr)::dr),∃y r',d'=.tup (y::r')/\fk y=true/\tyD y=tyD x:=fun d' m=>by
      have hcm:=hc.2 _ md _ m;rcases bi hcm with⟨i,j,e,_⟩|⟨i,j,e,_⟩|⟨i,j,e,_⟩|⟨i,j,e,e2,hcs⟩
      ·cases e
      ·cases e
      ·cases e
      ·cases e;subst e2;cases j with
       |nil=>have:=hs _ m;cases this
       |cons y r'=>
        rw[bb,Yo]at hcs;exact⟨y,r',rfl,hf _ m,(qr hcs.1 hx).symm⟩
     obtain⟨fs,f1,f2,f3⟩:=qN I r rv (fun d' m=>by obtain⟨y,r',e,h,_⟩:=all d' m;exact⟨y,r',e,h⟩) (tyD x) fun y r' m=>by
      obtain⟨y',r'',e,_,h⟩:=all _ m;cases e;exact h
     exact kat_kind f1 (by omega) (f3 M) (by cases x<;>rfl) hQ
   |_=>cases ht
  |false=>
   have hd:fk d=true:=nA (hs d md) ht;have e:lz (d::dr)=oneType':=by cases d<;>first|rfl|cases ht
   rw[e]at hQ;have hT:∀u∈us,Looks M s.heap (typeOf u) (tyD d):=fun u hu=>by
    obtain⟨i,hi,eu⟩:=ZJ hu;have hiv:i<vs.length:=by omega
    obtain⟨u',e1,e2⟩:=rv.get (Yi hiv);rw[Yi hi,eu]at e1;cases e1;obtain⟨d',e3,e4⟩:=r.getV (Yi hiv);have m:=YA e3;have hcm:=hc.2 _ md _ m;rw[qr hcm hd];refine e4.ty I ?_ e2 M;refine nA (hs d' m) ?_;rcases bi hcm with⟨i,j,rfl,rfl⟩|⟨i,j,rfl,rfl⟩|⟨i,j,rfl,rfl⟩|⟨i,j,rfl,rfl,_⟩
    ·rfl
    ·rfl
    ·rfl
    ·cases ht
   refine kas_kind h2 hT ?_ ?_ hQ
   ·cases d<;>first|rfl|(simp[fk]at hd;done)|(simp[gh]at ht;done)
   ·cases d<;>rfl
theorem xq{A:Around}{prog:Program}{w:World}{b:Bool}{Q:Kb}{n1 n2:Nat}:∀{us ws:List Value}{ds es:List D} (i:Nat),LexOk A s us ws ds es->(b=true->i=0->∀u w' d e ur wr dr er,us=u::ur->ws=w'::wr->ds=d::dr->es=e::er->∀(Q:Kb) (E:Kv),Q (ltD d e) s->wpAny (model prog w) A (oneLt' true u w') Q E s)->
  us.length+n2=ws.length+n1->Q (bQ ds es) s->KatLex prog w A b (decide (n1<n2)) Q (us.zip ws) i s:=by
 intro us ws ds es i h;induction h generalizing i with
 |@nl ws es hl=>
  intro _ hn hQ;rw[List.zip_nil_left];refine kat_nil ?_;rw[Zm]at hn;cases es with
  |nil=>
   rw[Zm]at hl;rw[show bQ [] []=false by simp[bQ]]at hQ;rw[YB (by omega)];exact hQ
  |cons c r=>
   rw[Yy]at hl;rw[show bQ [] (c::r)=true by simp[bQ]]at hQ;rw[YT (by omega)];exact hQ
 |@nr vs ds hl=>
  intro _ hn hQ;rw[List.zip_nil_right];refine kat_nil ?_;rw[Zm]at hn;cases ds with
  |nil=>
   rw[Zm]at hl;rw[show bQ [] []=false by simp[bQ]]at hQ;rw[YB (by omega)];exact hQ
  |cons c r=>
   rw[Yy]at hl;rw[show bQ (c::r) []=false by simp[bQ]]at hQ;rw[YB (by omega)];exact hQ
 |@cons v w' d e _ _ _ _ he hlt hx ih=>
  intro h1 hn hQ;rw[VO];rw[Yy,Yy]at hn;refine kat_cons (he prog w _ _ ?_);cases q:eqd d e with
  |true=>
   rw[bQ,if_pos q]at hQ;exact kat_yes (ih (i+1) (fun _ z=>by omega) (by omega) hQ)
  |false=>
   rw[bQ,if_neg (by rw[q];exact Yj)]at hQ;refine kat_no ?_;cases hb:(b&&i == 0)with
   |true=>
    rw[Yo]at hb;exact h1 hb.1 (by simpa using hb.2) _ _ _ _ _ _ _ _ rfl rfl rfl rfl _ _ hQ
   |false=>exact kat_one _ _ (hlt q prog w _ _ hQ)
theorem wO{A:Around}{prog:Program}{w:World}{x y:V}{d e:D}{u v:Value}(h1:Rep X.K H x d)(h2:Rep X.K H y e)(c:aq d e=true)(hd:fk d=true)(ht:gh d=false)(r1:RelV x u)(r2:RelV y v){Q:Kb}{E:Kv}(hQ:Q (ltD d e) s) :
  wpAny (model prog w) A (oneLt' true u v) Q E s:=by
 rcases bi c with⟨i,j,rfl,rfl⟩|⟨i,j,rfl,rfl⟩|⟨i,j,rfl,rfl⟩|⟨i,j,rfl,rfl,_⟩
 ·cases h1;cases h2;obtain⟨t,rfl⟩:=(show ∃t,u=Value.int _ t from r1)
  obtain⟨t',rfl⟩:=(show ∃t,v=Value.int _ t from r2)
  exact oneLt_int (by rw[ltD]at hQ;exact hQ)
 ·cases hd
 ·cases h1;cases h2;obtain⟨t,rfl⟩:=(show ∃t,u=Value.str _ t from r1)
  obtain⟨t',rfl⟩:=(show ∃t,v=Value.str _ t from r2)
  exact oneLt_str (by rw[ltD]at hQ;exact hQ)
 ·cases ht
theorem Be(I:Inv X pz σ H s){vs:List V}{ds:List D}{us:List Value}(r:Reps X.K H vs ds)(rv:Vals vs us)(ok:bA ds=true){A:Around}(hu:A.units+60<cLine){prog:Program}{w:World}{i j:Nat}{C:Kb}(hi:i<us.length)(hj:j<us.length)(hQ:C (ltD (dAt ds i) (dAt ds j)) s) :
  kas_ask prog w A (lz ds) us i j C s:=by
 obtain⟨hl,hc,hs,hf⟩:=dw ok;have l1:=r.length;have l2:=rv.length;obtain⟨v,e1,r1⟩:=r.get (me (show i<ds.length by omega));obtain⟨v',e2,r2⟩:=r.get (me (show j<ds.length by omega));obtain⟨u,e3,k1⟩:=rv.get e1;obtain⟨u',e4,k2⟩:=rv.get e2;have hn:ds≠[]:=fun z=>by rw[z,Zm]at l1;omega
 have mi:=l6 hn i;have mj:=l6 hn j;have hcm:=hc.2 _ mi _ mj;unfold kas_ask;have g1:us.getD i Value.none=u:=by rw[YN,e3];rfl
 have g2:us.getD j Value.none=u':=by rw[YN,e4];rfl
 rw[g1,g2];generalize hx:dAt ds i=x at *;generalize hy:dAt ds j=y at *;cases ht:gh x with
 |false=>
  have e:lz ds=oneType':=by
   cases ds with
   |nil=>exact absurd rfl hn
   |cons d dr=>
    have:=hc.2 _ mi d Yd;rcases bi this with⟨i,j,rfl,rfl⟩|⟨i,j,rfl,rfl⟩|⟨i,j,rfl,rfl⟩|⟨i,j,rfl,rfl,_⟩
    ·rfl
    ·rfl
    ·rfl
    ·cases ht
  rw[e,keyLt'_oneType];exact wO r1 r2 hcm (nA (hs _ mi) ht) ht k1 k2 hQ
 |true=>
  cases x with
  |tup xs=>
   cases xs with
   |nil=>have:=hs _ mi;cases this
   |cons x0 xr=>
    rcases bi hcm with⟨_,_,e,_⟩|⟨_,_,e,_⟩|⟨_,_,e,_⟩|⟨xs',ys,e,rfl,hcs⟩
    ·cases e
    ·cases e
    ·cases e
    ·cases e;have ek:lz ds=tuples' (tyD x0 != .type "tuple"):=by
      cases ds with
      |nil=>exact absurd rfl hn
      |cons d dr=>
       have:=hc.2 _ mi d Yd;rcases bi this with⟨_,_,e,_⟩|⟨_,_,e,_⟩|⟨_,_,e,_⟩|⟨_,zs,e,rfl,hz⟩
       ·cases e
       ·cases e
       ·cases e
       ·cases e;cases zs with
        |nil=>have:=hs (.tup []) Yd;cases this
        |cons z0 zr=>
         rw[bb,Yo]at hz;show tuples' (tyD z0 != _)=_;rw[qr hz.1 (hf _ mi)]
     rw[ek];cases r1 with
     |tup a1 a2=>
      cases r2 with
      |tup b1 b2=>
       cases(show u=Value.ref _ from k1);cases(show u'=Value.ref _ from k2);obtain⟨its1,rv1,⟨o1,ho1,hc1,n1,hd1⟩,_⟩:=I.tuple (SqT.of a1);obtain⟨its2,rv2,⟨o2,ho2,hc2,n2,hd2⟩,_⟩:=I.tuple (SqT.of b1);have oi:okN 28 (.tup (x0::xr))=true:=hc.1 _ mi;have oj:okN 28 (.tup ys)=true:=hc.1 _ mj;have hlex:=Reps.lex I 27 A (by omega) (Rep.lt I 27 A (by omega)) a2 b2 (bK oi) (bK oj) hcs rv1 rv2;refine kat_lt ho1 hd1 ho2 hd2 ?_;simp only[Yz];refine xq 0 hlex (fun hb _ u0 w0 d0 e0 ur wr dr er q1 q2 q3 q4 Q E hq=>?_) (by omega) (by rw[ltD]at hQ;exact hQ);subst q1 q2 q4;cases q3;cases a2 with
       |cons a3 a4=>
        cases b2 with
        |cons b3 b4=>
         cases rv1 with
         |cons c1 c2=>
          cases rv2 with
          |cons c3 c4=>
           rw[bb,Yo]at hcs;refine wO a3 b3 hcs.1 (hf _ mi) ?_ c1 c3 hq;cases x0<;>first|rfl|(simp[tyD]at hb)
  |_=>cases ht
theorem oE(I:Inv X pz σ H s){vs:List V}{ds:List D}{us:List Value}(r:Reps X.K H vs ds)(rv:Vals vs us)(ok:bA ds=true)(hu:X.A.units+64<cLine){Q:Kv}
  (hQ:∀(a:Addr) (p:List Nat) (s':Shared),H a=none->(∀i∈p,i<ds.length)->p.length=ds.length->p.map (dAt ds)=aQ ds->Inv X pz σ (upd H a (.lst (p.map fun i=>vs.getD i .non))) s'->Q (.ref a) s'):i4 X.prog X.w X.A Q us s:=by
 obtain⟨hl,hc,_,_⟩:=dw ok;have l1:=r.length;have l2:=rv.length;refine⟨by omega,lz ds,_,AF hc,fun h2 h' k Q E q=>yY (I.kept (t':=s.toks) k) r rv ok h2 q,fun h' k i j C hi hj hq=>?_,fun p hp hr a h' e k hsz hget=>?_⟩
 ·have hu':X.A.in1.in1.units+60<cLine:=by show X.A.units+1+1+60<cLine;omega
  exact Be (I.kept (t':=s.toks) k) r rv ok hu' hi hj hq
 ·have hp':PermN ds.length p:=by rw[<-l1,l2];exact hp
  have hr':Ris (fun i j=>ltD (dAt ds i) (dAt ds j)) p ds.length:=by rw[<-l1,l2];exact hr
  have eo:=qg hc hp' hr';have bd:∀i∈p.toList,i<ds.length:=fun i hi=>YJ.mp (hp'.perm.mem_iff.mp hi)
  have hna:H a=none:=I.hok.fresh hsz;have lenp:p.toList.length=ds.length:=by rw[YC];exact hp'.size
  refine hQ a p.toList _ hna bd lenp eo (I.laid (t':=s.toks) k hsz ⟨?_,p.toList.map fun i=>us.getD i Value.none,e,Vals.perm rv p.toList fun i hi=>by rw[l1];exact bd i hi,?_⟩)
  ·rw[Ye,lenp,YK];omega
  ·exact hget
end
section
variable{X:Cx}{e:Expr}{p pos:Pos}{fa:Dd}
theorem og(hu:X.A.units+64<cLine):CallR X (.builtin "sorted") (fun xs H Q=>∃a vs ds,xs=[.ref a]/\(SqL X.K H a vs\/SqT X.K H a vs)/\Reps X.K H vs ds/\bA ds=true/\∀l (p:List Nat),H l=none->(∀i∈p,i<ds.length)->p.length=ds.length->p.map (dAt ds)=aQ ds->Q (.ref l) (upd H l (.lst (p.map fun i=>vs.getD i .non)))):=by
 intro pz s σ H xs us Q I r h;obtain⟨a,vs,ds,rfl,hq,hr,ok,q⟩:=h;obtain⟨u,rfl,ru⟩:=dW r;cases ru;refine fA ?_;have fin:∀its:List Value,Vals vs its->i4 X.prog X.w X.A (EP X pz σ Q) its {s with heap:=(s.heap.push (seqObj "list" #[] 0)).update s.heap.objs.size (Obj.mapSeq (·++its.toArray))}:=fun its rv=>
  oE (I.kept (t':=s.toks) fun b u e=>jc e) hr rv ok hu fun l p s' hl b1 b2 b3 I'=>⟨.ref l,_,I',rfl,q l p hl b1 b2 b3⟩
 rcases hq with hq|hq
 ·obtain⟨its,rv,pl,hz⟩:=I.list hq;exact collect_list pl.isList (fin its rv) (by rw[<-rv.length];exact hz)
 ·obtain⟨its,rv,pl,hz⟩:=I.tuple hq;exact kT pl (fin its rv) (by rw[<-rv.length];exact hz)
def lY(fa:Dd):DF->Option (List D):=fun ρ=>(fa ρ).bind fun d=>(cG d).bind fun ds=>if bA ds=true then some (aQ ds)else none
theorem fT(hu:X.A.units+64<cLine)(hg:Gl X "sorted")(hm:X.mg "sorted"=none)(ha:PDR X e fa)(hs:starEach [e] X.env=[(false,eval e X.env)]:=by rfl)(hpl:(backTo pos (starEach [] X.env)).any (·.1)=false:=by rfl) :
  PDO X (.Call (.Name "sorted" p) [e] [] pos) (asL (lY fa)):=
 (fy (og hu) hg hm iB (aT ha bF hs) (by decide) (by decide) hs hpl).imp fun σ H Q=>un7 fun P F ρ ob hf I k=>by
  unfold asL lY at hf;cases ha:fa ρ with
  |none=>rw[ha]at hf;cases hf
  |some dx=>
  rw[ha,Ya]at hf;cases hi:cG dx with
  |none=>rw[hi]at hf;cases hf
  |some ds=>
  rw[hi,Ya]at hf;split at hf
  ·rename_i ok;cases hf;refine⟨P,F,ρ,dx,ha,I,fun x F1 H1 e1 rx=>?_⟩;have I1:=I.evo e1;have fin:∀(vs:List V),Reps X.K F1 vs ds->∀l (p:List Nat),H1 l=none->(∀i∈p,i<ds.length)->p.length=ds.length->p.map (dAt ds)=aQ ds->Q (.ref l) (upd H1 l (.lst (p.map fun i=>vs.getD i .non))):=fun vs r l p hl b1 b2 b3=>by
    refine k l F1 _ (e1.trans (Evo.side e1.hp hl)) ⟨⟨e1.back I.toDHp hl,(e1.hp.free hl).1⟩,_,aG,?_⟩;show Reps X.K F1 _ (aQ ds);by_cases hn:ds=[]
    ·subst hn;have:p=[]:=YY.mp b2;rw[this];exact .nil
    ·rw[<-b3];exact r.perm hn p b1
   cases dx with
   |lst ds'=>
    cases hi;obtain⟨q,vs,rfl,h1,h2⟩:=dM I1 rx;exact⟨q,vs,ds,rfl,.inl h1,h2.same I1.sub,ok,fin vs h2⟩
   |tup ds'=>
    cases hi;obtain⟨q,vs,rfl,h1,h2⟩:=gF I1 rx;exact⟨q,vs,ds,rfl,.inr h1,h2.same I1.sub,ok,fin vs h2⟩
   |_=>cases hi
  ·cases hf
end
end L2
namespace L2
open PySem PySem.Spec PyProof.Rows
def gK{α:Type}(xs:List α)(lo hi:Option Int):List α:=(xs.drop (HT.sIx xs.length 0 lo)).take (HT.sIx xs.length xs.length hi-HT.sIx xs.length 0 lo)
theorem Reps.cut{K:Kq}{F:Hp}{vs:List V}{ds:List D}(r:Reps K F vs ds)(lo hi:Option Int):Reps K F (tz vs lo hi) (gK ds lo hi):=by unfold tz gK;rw[r.length];exact(r.drop _).take _
def tOI(K:Kq)(f:DF->Option (Option Int)):TO:=fun σ H Q=>∃P F ρ b,f ρ=some b/\DInv K P F H ρ σ/\∀F' H',Evo P F H F' H'->Q b H'
def PDB(X:Cx)(e:Option Expr)(f:DF->Option (Option Int)):Prop:=PO X e (tOI X.K f)
def bNo:DF->Option (Option Int):=fun _=>some none
def bI(f:Dd):DF->Option (Option Int):=fun ρ=>match f ρ with
 |some (.int i)=>some (some i)
 |_=>none
section
variable{X:Cx}{e a b c o:Expr}{es:List Expr}{pos p p2:Pos}{lo hi:Option Expr}{fe fa fb:Dd}{fl fh:DF->Option (Option Int)}
theorem PO.imp{t t':TO}{e:Option Expr}(h:PO X e t)(i:∀σ H Q,t' σ H Q->t σ H Q):PO X e t':=fun pz s σ H Q I q=>h pz s σ H Q I (i σ H Q q)
theorem zR:PDB X none bNo:=PO.imp xW fun σ H Q=>un7 fun P F ρ b hf I k=>by
 cases hf;exact k F H (Evo.refl I.toDHp)
theorem vq{f:Dd}(h:PDE X e f):PDB X (some e) (bI f):=PO.imp (yD h) fun σ H Q=>un7 fun P F ρ b hf I k=>by
 unfold bI at hf;split at hf
 ·rename_i i q;cases hf;refine⟨P,F,ρ,_,q,I,fun v F' H' ev r=>?_⟩;cases r;exact⟨i,rfl,k F' H' ev⟩
 ·cases hf
def slL(fe:Dd)(fl fh:DF->Option (Option Int)):DF->Option (List D):=fun ρ=>match fe ρ with
 |some (.lst xs)=>(fl ρ).bind fun l=>(fh ρ).map fun h=>gK xs l h
 |_=>none
theorem lU(he:PDR X e fe)(hl:PDB X lo fl)(hh:PDB X hi fh):PDO X (.Subscript e (.Slice lo hi none p2) pos) (asL (slL fe fl fh)):=(uN yU he hl hh).imp fun σ H Q=>un7 fun P F ρ ob hf I k=>by
 unfold asL at hf;cases q:slL fe fl fh ρ with
 |none=>rw[q]at hf;cases hf
 |some out=>
 rw[q]at hf;cases hf;unfold slL at q;split at q
 ·rename_i xs q1;cases q2:fl ρ with
  |none=>rw[q2]at q;cases q
  |some l=>
  rw[q2,Ya]at q;cases q3:fh ρ with
  |none=>rw[q3]at q;cases q
  |some h=>
  rw[q3]at q;cases q;refine⟨P,F,ρ,_,q1,I,fun x F1 H1 e1 rx=>⟨P,F1,ρ,l,q2,I.evo e1,fun F2 H2 e2=>⟨P,F2,ρ,h,q3,(I.evo e1).evo e2,fun F3 H3 e3=>?_⟩⟩⟩;have e123:=(e1.trans e2).trans e3;obtain⟨l',vs,rfl,h1,h2⟩:=dM (I.evo e123) ((rx.evo e2).evo e3);exact⟨l',vs,rfl,h1,fun p hp=>k p F3 _ (e123.trans (Evo.side e123.hp hp)) ⟨⟨e123.back I.toDHp hp,(e123.hp.free hp).1⟩,_,aG,h2.cut l h⟩⟩
 ·cases q
def vV(K:Kq):R2:=fun x y H Q=>∃a b xs ys,x=.ref a/\y=.ref b/\SqT K H a xs/\SqT K H b ys/\xs.length+ys.length<=sizeLine /\
 (xs=[]->Q (.ref b) H)/\(xs≠[]->ys=[]->Q (.ref a) H)/\(xs≠[]->ys≠[]->∀p,H p=none->Q (.ref p) (upd H p (.tup (xs++ys))))
theorem wW:OpR X (binaryOp .Add) (vV X.K):=by
 intro pz s σ H x y v u Q I rx ry h;obtain⟨a,b,xs,ys,rfl,rfl,ha,hb,hz,q0,q1,q2⟩:=h;by_cases hx:xs=[]
 ·cases rx;cases ry;obtain⟨its,r1,p1,_⟩:=I.tuple ha;obtain⟨its2,r2,p2,_⟩:=I.tuple hb;have hi:its=[]:=r1.nil_iff.mpr hx;obtain⟨⟨cls,dd,data,sl⟩,ho,hc,n,hd⟩:=id p1;obtain⟨⟨cls2,dd2,data2,sl2⟩,ho2,hc2,n2,hd2⟩:=id p2;simp only at hc hd hc2 hd2;subst hc hd hc2 hd2;exact concat_meets ⟨_,ho,rfl⟩ ⟨_,ho2,rfl⟩ noFill_tuple_add seq_tuple_add PySem.F.slot_tuple_add PySem.F.entry_tuple_add (PySem.F.args_tuple_add_2 _ _)
   (tuple_addW0 a b its.toArray its2.toArray n n2 dd dd2 sl sl2 (by simp[hi])) ⟨ho,ho2,⟨.ref b,H,I,rfl,q0 hx⟩⟩
 ·exact yp pz s σ H _ _ v u Q I rx ry ⟨a,b,xs,ys,rfl,rfl,ha,hb,hx,hz,q1 hx,q2 hx⟩
def aP:D->D->Option D
 |.int i,.int j=>some (.int (i+j))
 |.str x,.str y=>if x.length+y.length<=16777216 then some (.str (x++y))else none
 |.lst xs,.lst ys=>if xs.length+ys.length<=16777216 then some (.lst (xs++ys))else none
 |.tup xs,.tup ys=>if xs.length+ys.length<=16777216 then some (.tup (xs++ys))else none
 |_,_=>none
theorem Reps.nil_iff{K:Kq}{H:Hp}{vs:List V}{ds:List D}(r:Reps K H vs ds):vs=[]↔ds=[]:=by
 cases r with
 |nil=>simp
 |cons _ _=>simp
theorem yG{K:Kq}:oB K (fun x y H Q=>C_ x y H Q\/(zu K x y H Q\/vV K x y H Q)) aP:=by
 intro P F H ρ σ x y dx dy d Q hf I rx ry k;unfold aP at hf;split at hf
 ·cases hf;exact .inl (.inl ⟨_,_,ck rx,ck ry,k _ F H (Evo.refl I.toDHp) .int⟩)
 ·split at hf
  ·rename_i h;cases hf;exact .inl (.inr ⟨_,_,i6 rx,i6 ry,by rw[YK];exact h,k _ F H (Evo.refl I.toDHp) .str⟩)
  ·cases hf
 ·split at hf
  ·rename_i hz;cases hf;obtain⟨l,vs,rfl,h1,h2⟩:=dM I rx;obtain⟨l2,vs2,rfl,h3,h4⟩:=dM I ry;exact .inr (.inl ⟨l,l2,vs,vs2,rfl,rfl,h1,h3,by rw[h2.length,h4.length,YK];exact hz,fun p hp=>k _ _ _ (Evo.laid I.toDHp hp) (.lst (SqL.of aG) ((h2.append h4).same (gn (I.toDHp.free hp).1)))⟩)
  ·cases hf
 ·split at hf
  ·rename_i xs ys hz;cases hf;obtain⟨l,vs,rfl,h1,h2⟩:=gF I rx;obtain⟨l2,vs2,rfl,h3,h4⟩:=gF I ry;have tr:∀{y:V}{ds:List D},RepS K H F y (.tup ds)->Rep K F y (.tup ds):=fun h=>by
    rcases h with h|⟨_,ob,_,_,_,_,_,hfl,z⟩
    ·exact h
    ·cases ob<;>first|(cases z;done)|cases hfl
   refine .inr (.inr ⟨l,l2,vs,vs2,rfl,rfl,h1,h3,by rw[h2.length,h4.length,YK];exact hz,fun z=>?_,fun _ z=>?_,fun _ _ p hp=>?_⟩)
   ·have:xs=[]:=h2.nil_iff.mp z;subst this;exact k _ F H (Evo.refl I.toDHp) (tr ry)
   ·have:ys=[]:=h4.nil_iff.mp z;subst this;rw[Za]at k;exact k _ F H (Evo.refl I.toDHp) (tr rx)
   ·exact k _ _ _ (Evo.laid I.toDHp hp) (.tup aG ((h2.append h4).same (gn (I.toDHp.free hp).1)))
  ·cases hf
 ·cases hf
theorem aI(ha:PDR X a fa)(hb:PDR X b fb):PDE X (.BinOp a .Add b pos) (d2 aP fa fb):=f_ ((Bc.or qp).or (xn.or wW)) yG ha hb
def isT:String->D->Option Bool
 | "int",.int _=>some true
 | "bool",.int _=>some false
 | "list",.lst _=>some true
 |_,_=>none
def Eg(K:Kq):List V->Hp->VK->Prop:=fun xs H Q=>∃x T d b,xs=[x,.ty T]/\Rep K H x d/\isT T d=some b/\Q (.bl b) H
theorem vN:CallR X (.builtin "isinstance") (Eg X.K):=by
 intro pz s σ H xs us Q I r h;obtain⟨x,T,d,b,rfl,hr,ht,q⟩:=h;obtain⟨u,w',rfl,r1,r2⟩:=Ch r;cases(show w'=Value.type T from r2);have f1:EP X pz σ Q (.bool b) s:=⟨.bl b,H,I,rfl,q⟩
 have f2:EP X pz σ Q (.bool b) {s with toks:=s.toks+1}:=⟨.bl b,H,I.tok _,rfl,q⟩
 unfold isT at ht;split at ht<;>cases ht<;>cases hr
 ·obtain⟨t,rfl⟩:=(show ∃t,u=Value.int _ t from r1);exact PySem.IsiPair.int_int f1
 ·obtain⟨t,rfl⟩:=(show ∃t,u=Value.int _ t from r1);exact PySem.IsiPair.int_bool f2
 ·cases(show u=Value.ref _ from r1);rename_i hs _;obtain⟨_,_,⟨o,n,e,c,_⟩,_⟩:=I.list hs;exact PySem.IsiPair.list_list e c f1
def kg(T:String)(d:D):Option D:=(isT T d).map .bl
theorem mN{x:Str}{T:String}{p1:Pos}(hg:Gl X "isinstance")(hm:X.mg "isinstance"=none)(hgt:Gl X x)(hmt:X.mg x=none)(hv:bootBuiltins x=some (.type T))(ha:PDN X a fa)(hn:x ≠ "__name__":=by decide)(hd:(x == ("__debug__":Str))=false:=by decide)
  (hs:starEach [a,.Name x p1] X.env=[(false,eval a X.env),(false,eval (.Name x p1) X.env)]:=by rfl) (hs2:starEach [.Name x p1] X.env=[(false,eval (.Name x p1) X.env)]:=by rfl) (hpl:(backTo pos (starEach [.Name x p1] X.env)).any (·.1)=false:=by rfl) :
  PDE X (.Call (.Name "isinstance" p) [a,.Name x p1] [] pos) (d1 (kg T) fa):=
 (fy vN hg hm iU (aT ha (aT (xk (v:=.ty T) hgt hmt hv rfl hn hd) bF hs2) (by rw[hs,hs2])) (by decide) (by decide) (by rw[hs,hs2]) hpl).imp fun σ H Q=>un7 fun P F ρ d hf I k=>by
  unfold d1 kg at hf;cases q:fa ρ with
  |none=>rw[q]at hf;cases hf
  |some dx=>
   rw[q,Ya]at hf;cases q2:isT T dx with
   |none=>rw[q2]at hf;cases hf
   |some b=>
    rw[q2]at hf;cases hf;exact⟨P,F,ρ,dx,q,I,fun y F1 H1 e1 r1=>⟨y,T,dx,b,rfl,r1,q2,k _ F1 H1 e1 .bl⟩⟩
end
section
variable{X:Cx}{pz:Kp}{σ:St}{H:Hp}{s:Shared}
theorem oh(I:Inv X pz σ H s){a:Addr}{xs ys:List V}(h1:SqT X.K H a xs)(h2:SqL X.K H a ys):False:=by obtain⟨_,_,⟨o,e,c,_⟩,_⟩:=I.tuple h1;obtain⟨_,_,⟨o',n,e',c',_⟩,_⟩:=I.list h2;rw[e]at e';cases e';rw[c]at c';injection c' with z;exact absurd z (by decide)
theorem Reps.detOf{n:Nat}(ih:∀{v:V}{d d':D},okN n d=true->okN n d'=true->Rep X.K H v d->Rep X.K H v d'->d=d'){vs:List V}{ds:List D}(h:Reps X.K H vs ds):∀ds':List D,(∀d∈ds,okN n d=true)->(∀d∈ds',okN n d=true)->Reps X.K H vs ds'->ds=ds':=
 Reps.ind (M:=fun vs ds=>∀ds':List D,(∀d∈ds,okN n d=true)->(∀d∈ds',okN n d=true)->Reps X.K H vs ds'->ds=ds') (fun ds' _ _ r=>by cases r;rfl) (fun a _ i ds' h h' r=>by
  cases r with
  |cons a' r'=>rw[ih (h _ Yd) (h' _ Yd) a a',i _ (fun d m=>h d (Yc _ m)) (fun d m=>h' d (Yc _ m)) r']) h
theorem Rep.det1(I:Inv X pz σ H s)(n:Nat)(ih:∀m,n=m+1->∀{v:V}{d d':D},okN m d=true->okN m d'=true->Rep X.K H v d->Rep X.K H v d'->d=d'){v:V}{d d':D}(h:okN n d=true)(h':okN n d'=true)(q:Rep X.K H v d)(r:Rep X.K H v d'):d=d':=by
 cases q with
 |non=>cases r;rfl
 |bl=>cases r;rfl
 |int=>cases r;rfl
 |str=>cases r;rfl
 |tup a1 a2=>
  cases r with
  |tup b1 b2=>
   rw[a1]at b1;cases b1;cases n with
   |zero=>cases h
   |succ n=>rw[Reps.detOf (ih n rfl) a2 _ (bK h) (bK h') b2]
  |lst b1 b2=>exact(oh I (SqT.of a1) b1).elim
  |dT b1 b2=>rw[a1]at b1;cases b1
  |dK b1 b2=>rw[a1]at b1;cases b1
  |ins b1 b2=>rw[a1]at b1;cases b1
 |lst a1 a2=>
  cases r with
  |tup b1 b2=>exact(oh I (SqT.of b1) a1).elim
  |lst b1 b2=>
   have e:=I.list_inj a1 b1;subst e;cases n with
   |zero=>cases h
   |succ n=>rw[Reps.detOf (ih n rfl) a2 _ (bK h) (bK h') b2]
  |_=>cases n<;>cases h'
 |_=>cases n<;>cases h
theorem Rep.det(I:Inv X pz σ H s)(n:Nat):∀{v:V}{d d':D},okN n d=true->okN n d'=true->Rep X.K H v d->Rep X.K H v d'->d=d':=by
 induction n with
 |zero=>exact fun h h' q r=>Rep.det1 I 0 (fun m e=>by cases e) h h' q r
 |succ n ih=>exact fun h h' q r=>Rep.det1 I (n+1) (fun m e=>by cases e;exact ih) h h' q r
theorem vw{v v':V}{u:Value}(h:RelV v u)(h':RelV v' u):v=v':=RelV.inj h h'
open Classical in
noncomputable def uE (us:List Value)(ds:List D)(dy:D)(u:Value):Bool:=decide (∃(i:Nat) (d:D),us[i]?=some u/\ds[i]?=some d/\eqd d dy=true)
open Classical in
theorem sI(I:Inv X pz σ H s){n:Nat}{vs:List V}{ds:List D}{us:List Value}{dy:D}(r:Reps X.K H vs ds)(rv:Vals vs us)(ok:∀d∈ds,okN n d=true){i:Nat}{u:Value}{d:D}(hu:us[i]?=some u)(hd:ds[i]?=some d):uE us ds dy u=eqd d dy:=by
 unfold uE;cases q:eqd d dy with
 |true=>exact YT ⟨i,d,hu,hd,q⟩
 |false=>
  refine YB ?_;rintro⟨j,d',h1,h2,h3⟩;obtain⟨v,a1,a2⟩:=r.get hd;obtain⟨v',b1,b2⟩:=r.get h2;obtain⟨u1,c1,c2⟩:=rv.get a1;obtain⟨u2,c3,c4⟩:=rv.get b1;rw[hu]at c1;cases c1;rw[h1]at c3;cases c3;have e:=vw c2 c4;subst e;have:=a2.det I n (ok d (YA hd)) (ok d' (YA h2)) b2;rw[this,h3]at q;cases q
theorem v6(I:Inv X pz σ H s){vs:List V}{ds:List D}{us:List Value}{y:V}{dy:D}{uy:Value}(r:Reps X.K H vs ds)(rv:Vals vs us)(ok:∀d∈ds,okN 29 d=true)(ry:Rep X.K H y dy)(oy:okN 30 dy=true)(ky:RelV y uy){A:Around}(hu:A.units+60<cLine) :
  ∀u∈us,SeqAt.EqAt A s u uy (uE us ds dy u):=fun u hu'=>by
 obtain⟨i,hi,eu⟩:=ZJ hu';have l1:=r.length;have l2:=rv.length;have hiv:i<vs.length:=by omega
 obtain⟨u',e1,k1⟩:=rv.get (Yi hiv);rw[Yi hi,eu]at e1;cases e1;obtain⟨d,e2,r2⟩:=r.getV (Yi hiv);rw[sI I r rv ok (by rw[Yi hi,eu]) e2];have od:=ok d (YA e2);obtain⟨a1,p1⟩:=r2.reads I 29 od k1;obtain⟨a2,p2⟩:=ry.reads I 30 oy ky;obtain⟨l1',m1⟩:=ce 29 d od;obtain⟨l2',m2⟩:=ce 30 dy oy;refine XY _ _ A s _ _ _ _ p1 p2 l1' l2' ?_;have:min (bG d).depth (bG dy).depth<=30:=YD (VF _ _) m1;omega
end
def gc(dy:D):List D->Option Nat
 |[]=>none
 |d::r=>if eqd d dy=true then some 0 else(gc dy r).map (· + 1)
theorem lX{dy:D}:∀{ds:List D}{j:Nat},gc dy ds=some j->(∃d,ds[j]?=some d/\eqd d dy=true)/\∀m,m<j->∃d,ds[m]?=some d/\eqd d dy=false
 |[],_,h=>by cases h
 |d::r,j,h=>by
  unfold gc at h;split at h
  ·rename_i q;cases h;exact⟨⟨d,rfl,q⟩,fun m hm=>by omega⟩
  ·rename_i q;cases q2:gc dy r with
   |none=>rw[q2]at h;cases h
   |some k=>
    rw[q2]at h;have h:=Yr h;have h:k+1=j:=h;subst h;obtain⟨h1,h2⟩:=lX q2;refine⟨by simpa using h1,fun m hm=>?_⟩;cases m with
    |zero=>exact⟨d,rfl,by simpa using q⟩
    |succ m=>simpa using h2 m (by omega)
def Et(K:Kq):V->List V->Hp->VK->Prop:=fun x vs H Q=>∃l xs ds y dy j,x=.ref l/\vs=[y]/\SqL K H l xs/\Reps K H xs ds/\Rep K H y dy/\ds.all (okN 29)=true/\okN 30 dy=true/\gc dy ds=some j/\Q (.int j) H
section
variable{X:Cx}{e a b c o:Expr}{es:List Expr}{pos p apos cpos:Pos}{fe fa fb:Dd}
theorem v_(hu:X.A.units+64<cLine):MtR X "list.index" (Et X.K):=by
 intro pz s σ H x vs v us Q I rx rvv h;obtain⟨l,xs,ds,y,dy,j,rfl,rfl,hq,r,ry,ok,oy,hj,q⟩:=h;cases rx;obtain⟨u,rfl,ru⟩:=rvv.one;obtain⟨its,rv,pl,hz⟩:=I.list hq;obtain⟨⟨cls,dd,data,sl⟩,n,ho,hc,hdd,hd⟩:=pl;simp only at hc hd;subst hc hd;obtain⟨⟨d0,j1,j2⟩,j3⟩:=lX hj;have l1:=r.length;have l2:=rv.length;have hjl:j<ds.length:=(Yk.mp j1).1;have hlt:j<its.toArray.size:=by rw[Yz];omega
 have ok':=bK ok;have at':∀(m:Nat) (hm:m<its.toArray.size) d,ds[m]?=some d->uE its ds dy its.toArray[m]=eqd d dy:=fun m hm d hd=>sI I r rv ok' (by simp) hd
 refine call_meets PySem.F.slot_list_index ⟨_,ho,rfl⟩ PySem.F.entry_list_index (PySem.F.args_list_index_2 _ _)
  (PySem.SeqAt.list_indexAt l its.toArray n dd sl u (uE its ds dy) j hlt (by have:=YK;omega) (by rw[at' j hlt d0 j1];exact j2) fun m hm hmj=>?_) ⟨ho,fun z hz=>v6 I r rv ok' ry oy ru (A:=X.A.in1) (by show X.A.units+1+60<cLine;omega) z (by simpa using hz),⟨.int j,H,I.tok _,⟨_,rfl⟩,q⟩⟩
 obtain⟨d,e1,e2⟩:=j3 m hmj;rw[at' m hm d e1];exact e2
def ud:D->D->Option D
 |.lst ds,y=>if(ds.all (okN 29)&&okN 30 y)=true then(gc y ds).map (fun(j:Nat)=>D.int (j:Int))else none
 |_,_=>none
theorem zX{K:Kq}{r:V->List V->Hp->VK->Prop}{f:Dy}{fa fb:Dd}(hl:∀dx dy d,f dx dy=some d->∃ds,dx=.lst ds)
  (ho:∀(P F H:Hp) (l:Addr) (vs:List V) (y:V) (ds:List D) (dy d:D) (Q:VK),f (.lst ds) dy=some d->DHp P F H->SqL K H l vs->Reps K H vs ds->Rep K H y dy->(∀v F' H',Evo P F H F' H'->Rep K F' v d->Q v H')->r (.ref l) [y] H Q) :
  ∀σ H Q,tD K (d2 f fa fb) σ H Q->tBM K "list" r (tN K fa) (oZ (tN K fb) tK) σ H Q:=fun σ H Q=>un7 fun P F ρ d hf I k=>by
 unfold d2 at hf;cases ha:fa ρ with
 |none=>rw[ha]at hf;cases hf
 |some dx=>
  rw[ha]at hf;cases hb:fb ρ with
  |none=>rw[Ya,hb]at hf;cases hf
  |some dy=>
   rw[Ya,hb,Ya]at hf;obtain⟨ds,rfl⟩:=hl dx dy d hf;refine⟨P,F,ρ,_,ha,I,fun x F1 H1 e1 rx=>?_⟩;cases rx with
   |lst h1 h2=>
    refine⟨.inl ⟨rfl,_,h1⟩,P,F1,ρ,dy,hb,I.evo e1,fun y F2 H2 e2 ry=>?_⟩;have sm:=e2.same e1.hp;exact ho P F2 H2 _ _ y ds dy d Q hf e2.hp (sm.seq h1) (h2.same sm) ry fun v F3 H3 e3 rv=>k v F3 H3 ((e1.trans e2).trans e3) rv
theorem vy(hu:X.A.units+64<cLine)(ho:PDN X o fa)(ha:PDN X e fb)(hbase:attributeBase o "index" X.env (eval o X.env)=eval o X.env:=by rfl)
  (hfew:((backTo cpos (starEach [e] X.env)).all (fun x=>!x.1)&&(backToKw cpos (keywordEach [] X.env)).all (fun x=>x.1.isSome)
   && decide (([e]:List Expr).length+([]:List Keyword).length+(if([]:List Keyword).isEmpty then 0 else 1)<30))=true:=by rfl)
  (hline:(apos.endLine == cpos.line)=true:=by rfl) (hs:starEach [e] X.env=[(false,eval e X.env)]:=by rfl) :
  PDE X (.Call (.Attribute o "index" apos) [e] [] cpos) (d2 ud fa fb):=
 (lE Zo PySem.F.slot_list_index PySem.F.type_list_index (v_ hu) ho (aT ha bF hs) hbase hfew hline hs rfl).imp (zX (fun dx dy d h=>by cases dx<;>first|exact⟨_,rfl⟩|cases h)
  fun P F H l vs y ds dy d Q hf hp h1 h2 h3 k=>by
   have hf:(if(ds.all (okN 29)&&okN 30 dy)=true then(gc dy ds).map (fun(j:Nat)=>D.int (j:Int))else none)=some d:=hf;split at hf
   ·rename_i c;rw[Yo]at c;cases q:gc dy ds with
    |none=>rw[q]at hf;cases hf
    |some j=>rw[q]at hf;cases hf;exact⟨l,vs,ds,y,dy,j,rfl,rfl,h1,h2,h3,c.1,c.2,q,k _ F H (Evo.refl hp) .int⟩
   ·cases hf)
end
section
variable{X:Cx}{tg e a b c o l:Expr}{es:List Expr}{pos p apos cpos spos:Pos}{fe fa fb fc:Dd}
def eC:D->Option D
 |.int i=>some (.int (-i))
 |_=>none
theorem jq(h:PDE X a fa):PDE X (.UnaryOp .USub a pos) (d1 eC fa):=(Cn AQ h).imp fun σ H Q=>un7 fun P F ρ d hf I k=>by
 unfold d1 at hf;cases q:fa ρ with
 |none=>rw[q]at hf;cases hf
 |some dx=>
  rw[q,Ya]at hf;cases dx with
  |int i=>
   cases hf;refine⟨P,F,ρ,_,q,I,fun v F1 H1 e1 r1=>?_⟩;cases r1;exact⟨i,rfl,k _ F1 H1 e1 .int⟩
  |_=>cases hf
theorem mt{x:Str}{i:Int}{t:Tok}(hg:Gl X x)(hm:X.mg x=some (.int i t))(hd:(x == ("__debug__":Str))=false:=by decide):PDE X (.Name x pos) (fun _=>some (.int i)):=pB (xi hg hm (v:=.int i) ⟨t,rfl⟩ hd) fun _=>.int
def oq:D->Bool
 |.bl _=>true
 |_=>false
def trD:D->Bool
 |.bl b=>b
 |_=>false
def vU:D->Option D
 |.lst ds=>if ds.all oq=true then some (.bl (ds.all trD))else none
 |_=>none
def DS(K:Kq):List V->Hp->VK->Prop:=fun xs H Q=>∃l vs ds,xs=[.ref l]/\SqL K H l vs/\Reps K H vs ds/\ds.all oq=true/\Q (.bl (ds.all trD)) H
theorem uv{ds:List D}:(List.range ds.length).all (fun i=>trD (ds.getD i .non))=ds.all trD:=by
 rw[Bool.eq_iff_iff,Yh,Yh];constructor
 ·intro h d hd;obtain⟨i,hi,e⟩:=ZJ hd;have:=h i (YJ.mpr hi);rw[YN,Yi hi,e]at this;exact this
 ·intro h i hi;have hi:=YJ.mp hi;rw[YN,Yi hi];exact h _ (ZI hi)
theorem uo(hc:X.calm=true):CallR X (.builtin "all") (DS X.K):=by
 intro pz s σ H xs us Q I r h;obtain⟨l,vs,ds,rfl,hq,hr,hb,q⟩:=h;obtain⟨u,rfl,ru⟩:=dW r;cases ru;obtain⟨its,rv,pl,hz⟩:=I.list hq;have ho:=pl.isList;have l1:=hr.length;have l2:=rv.length;refine call_all_walk (wpAny_pyIter_list ho ?_);have hlt:l<s.heap.objs.size:=by obtain⟨o,e,_⟩:=ho;exact Yp e
 refine⟨s.heap.objs.size,[s.heap.objs.size,l],[s.heap.objs.size],its.toArray.size,_,_,fun i=>trD (ds.getD i .non),rfl,Walks.list (by show X.A.in1.handled=none;exact I.ok.hd hc) s.heap.objs.size l (Yw hlt) its.toArray,⟨⟨_,Yn _ rfl,rfl,rfl⟩,ho.at fun o e=>Yg _ e⟩,fun i v s' Q' E' hv hq'=>?_,fun h' tk k=>?_⟩
 ·have hv:its[i]?=some v:=by simpa using hv
  have hi:i<its.length:=(Yk.mp hv).1;have hid:i<ds.length:=by omega
  obtain⟨w',a1,a2⟩:=hr.get (Yi hid);obtain⟨u',a3,a4⟩:=rv.get a1;rw[hv]at a3;cases a3;have hbd:=Yh.mp hb _ (ZI hid);have eg:ds.getD i .non=ds[i]:=by rw[YN,Yi hid];rfl
  have hq':Q' (trD (ds.getD i .non)) s':=hq';rw[eg]at hq';generalize ds[i]=d at *;cases d with
  |bl b=>cases a2;cases(show v=Value.bool _ from a4);exact Zv hq'
  |_=>cases hbd
 ·have e:its.toArray.size=ds.length:=by rw[Yz];omega
  rw[e,uv];refine⟨.bl _,H,I.kept (t':=tk) fun b o e=>k b o (fun z=>?_) (Yg _ e),rfl,q⟩;have z:b=s.heap.objs.size:=by simpa using z
  rw[z]at e;exact absurd (Yp e) (YX _)
theorem uY(hc:X.calm=true)(hg:Gl X "all")(hm:X.mg "all"=none)(ha:PDN X e fa)(hs:starEach [e] X.env=[(false,eval e X.env)]:=by rfl)(hpl:(backTo pos (starEach [] X.env)).any (·.1)=false:=by rfl) :
  PDE X (.Call (.Name "all" p) [e] [] pos) (d1 vU fa):=
 (fy (uo hc) hg hm wq (aT ha bF hs) (by decide) (by decide) hs hpl).imp (wp fun P F H x dx d Q hf hp rx k=>by
  cases dx with
  |lst ds=>
   have hf:(if ds.all oq=true then some (D.bl (ds.all trD))else none)=some d:=hf;split at hf
   ·rename_i hb;cases hf;cases rx with|lst h1 h2=>exact⟨_,_,ds,rfl,h1,h2,hb,k _ F H (Evo.refl hp) .bl⟩
   ·cases hf
  |_=>cases hf)
def Its(x:Str):It:=⟨fun i _=>i<x.cps.size,fun i H v H'=>H'=H/\v=.str ⟨#[x.cps.getD i 0]⟩,fun i _=>x.cps.size<=i⟩
theorem uV{P:Program}{w:World}{K:Kq}{tg:Expr}(it:Addr)(x:Str)(t:Tok)(ty:String)(hty:["enumerate","zip","dict_itemiterator","dict_reverseitemiterator","odict_iterator","itertools.zip_longest","itertools.pairwise"].contains ty=false)(W:∀A:Around,A.handled=none->Walks P w A it [it] [it] x.cps.size (SignAt x) (fun i h=>h.IsStrIter it ty x t i))
  (hself:∀(A:Around) (i:Nat) (s:Shared) (Q:Kv) (E:Kv),s.heap.IsStrIter it ty x t i->Q (.ref it) s->wpAny (model P w) A (pyIter (.ref it)) Q E s):Turn P w K tg (Its x) [it] it (fun i h=>h.IsStrIter it ty x t i/\i<=x.cps.size) where
 mem:=by simp
 obj:=fun i h st b hb=>by
  have e:b=it:=by simpa using hb
  subst e;obtain⟨⟨o,e,c,d⟩,_⟩:=st;exact⟨o,e,fun v z=>by rw[d]at z;cases z⟩
 keep:=fun i h h' st k=>by obtain⟨⟨o,e,r⟩,hl⟩:=st;exact⟨⟨o,k it (by simp) o e,r⟩,hl⟩
 item:=by
  intro X hP hw hK hc i pz s σ H E I hf st hg;subst hP hw hK;obtain⟨f0,f1,f2,f3,f4,f5⟩:=hf it (by simp);have hg:i<x.cps.size:=hg;refine(W X.A (I.ok.hd hc)).item i s _ _ hg st.1 fun v h' tk hv st' kk=>?_;obtain⟨c,u,hcs,rfl⟩:=hv;have I1:Inv X pz σ H {s with heap:=h',toks:=tk}:=I.turned (fun b o hb e=>kk b o (by simpa using hb) e) f0 f1 f3 f4 f5;obtain⟨o,ho,hoc,hod⟩:=id st';have ec:x.cps.getD i 0=c:=by simp[YW,hcs]
  refine⟨_,rfl,wn (s:={s with heap:=h',toks:=tk}) (n:=ty) ho hoc hod hty ⟨.str ⟨#[c]⟩,H,I1,⟨u,rfl⟩,⟨rfl,by rw[ec]⟩,⟨st',hg⟩,fun b hb=>(hf b hb).1⟩⟩
 done:=by intro X hP hw hK hc i pz s σ H E I hf st hg;subst hP hw hK;obtain⟨f0,f1,f2,f3,f4,f5⟩:=hf it (by simp);have hg:x.cps.size<=i:=hg;have hi:i=x.cps.size:=Zi st.2 hg;subst hi;exact(W X.A (I.ok.hd hc)).done s _ _ st.1 fun h' tk kk=>⟨rfl,I.turned (fun b o hb e=>kk b o (by simpa using hb) e) f0 f1 f3 f4 f5⟩
 self:=fun A i s Q E st h=>hself A i s Q E st.1 h
def Ec(tl:TE):TI:=fun σ H R=>tl σ H fun x H1=>∃z,x=.str z/\R (Its z) H1
theorem A9{tl:TE}(hl:PE X l tl):PI X tg l (Ec tl):=by
 intro pz s σ H R I h;refine bu (hl pz s σ H _ I h) fun v s1 x H1 I1 r1 hh_=>?_;obtain⟨z,e,q⟩:=hh_;subst e;obtain⟨t,rfl⟩:=r1;have fin:∀(ob:Obj) (ty:String),["enumerate","zip","dict_itemiterator","dict_reverseitemiterator","odict_iterator","itertools.zip_longest","itertools.pairwise"].contains ty=false->(∀A:Around,A.handled=none->Walks X.prog X.w A s1.heap.objs.size [s1.heap.objs.size] [s1.heap.objs.size] z.cps.size (SignAt z) (fun i h=>h.IsStrIter s1.heap.objs.size ty z t i))->
   (∀(A:Around) (i:Nat) (s:Shared) (Q:Kv) (E:Kv),s.heap.IsStrIter s1.heap.objs.size ty z t i->Q (.ref s1.heap.objs.size) s->wpAny (model X.prog X.w) A (pyIter (.ref s1.heap.objs.size)) Q E s)->
   (s1.heap.push ob).IsStrIter s1.heap.objs.size ty z t 0->PIE X pz σ tg R (.ref s1.heap.objs.size) {s1 with heap:=s1.heap.push ob}:=fun ob ty h1 h2 h3 h4=>by
  refine⟨s1.heap.objs.size,[s1.heap.objs.size],_,_,H1,rfl,I1.kept (t':=s1.toks) fun b o e=>Yg _ e,uV _ z t ty h1 h2 h3,⟨h4,YF _⟩,fun b hb=>?_,q⟩;have e:b=s1.heap.objs.size:=by simpa using hb
  subst e;exact I1.fpOk (Yl _) (I1.hok.fresh (Yl _))
 cases ha:z.cps.all (· < 128)
 ·exact wpAny_pyIter_wide ha (fin _ "str_iterator" (by decide) (fun A' hA=>Walks.strWide hA _ z t) (fun A i s Q E st h=>wpAny_pyIter_striter_wide st h) ⟨_,Yn _ rfl,rfl,rfl⟩)
 ·exact wpAny_pyIter_ascii ha (fin _ "str_ascii_iterator" (by decide) (fun A' hA=>Walks.strAscii hA _ z t) (fun A i s Q E st h=>wpAny_pyIter_striter_ascii st h) ⟨_,Yn _ rfl,rfl,rfl⟩)
def signs(x:Str):List D:=x.cps.toList.map fun c=>.str ⟨#[c]⟩
def oV(f:Dd):DF->Option (List D):=fun ρ=>match f ρ with
 |some (.str x)=>some (signs x)
 |_=>none
theorem zb(h:PDE X l fa):PDI X tg l (oV fa):=PI.imp (A9 h) fun σ H R=>un7 fun P F ρ ds hf I k=>by
 unfold oV at hf;split at hf
 ·rename_i x q;cases hf;refine⟨P,F,ρ,_,q,I,fun v F1 H1 e1 r1=>?_⟩;cases r1;refine⟨x,rfl,k _ F1 H1 e1 fun F' H' e hp i=>⟨fun d hd=>?_,fun hl=>?_⟩⟩
  ·unfold signs at hd;rw[Yu]at hd;cases qc:x.cps.toList[i]? with
   |none=>rw[qc]at hd;cases hd
   |some c=>
    rw[qc]at hd;cases hd;have hi:i<x.cps.size:=by have:=(Yk.mp qc).1;simpa using this
    refine⟨hi,fun y H2 hy=>?_⟩;obtain⟨rfl,rfl⟩:=hy;have ec:x.cps.getD i 0=c:=by
     have:x.cps[i]?=some c:=by rw[<-YM];exact qc
     simp[YW,this]
    rw[ec];exact⟨F',Evo.refl hp,.str⟩
  ·unfold signs at hl;rw[Ye,YC]at hl;exact hl
 ·cases hf
end
section
variable{X:Cx}{tg e a b c o l r:Expr}{es:List Expr}{pos p p' apos cpos spos apos' cpos':Pos}{f fe fa fb fc:Dd}
theorem uh:CallR X (.type "range") (fun xs H Q=>∃j:Int,xs=[.int j]/\∀q,H q=none->Q (.ref q) (upd H q (.rng 0 j))):=by intro pz s σ H xs us Q I r h;obtain⟨j,rfl,q⟩:=h;obtain⟨u,rfl,t,rfl⟩:=dW r;exact call_range_1 ⟨.ref s.heap.objs.size,_,I.laid (o:=.rng 0 j) (fun b ob z=>Yg _ z) (Yl _) ⟨_,_,_,Yn _ rfl⟩,rfl,q _ (I.hok.fresh (Yl _))⟩
def vW(lo:Int)(n:Nat):List V:=(List.range n).map fun i:Nat=>.int (lo+(i:Int))
theorem kM(hc:X.calm=true):CallR X (.type "list") (fun xs H Q=>∃(q:Addr) (lo hi:Int),xs=[.ref q]/\H q=some (.rng lo hi)/\(-(2^62)<=lo/\lo<2^62/\-(2^62)<=hi/\hi<2^62)/\(hi-lo).toNat<=16777216/\∀l,H l=none->Q (.ref l) (upd H l (.lst (vW lo (hi-lo).toNat)))):=by
 intro pz s σ H xs us Q I r h;obtain⟨q,lo,hi,rfl,hq,⟨h1,h2,h3,h4⟩,hn,k⟩:=h;obtain⟨u,rfl,ru⟩:=dW r;cases ru;obtain⟨t,u,v,ho⟩:=I.hok q _ hq;have hsz:Builtin.Range.rangeSize lo hi 1=((hi-lo).toNat:Int):=by rw[rangeSize_one];split<;>omega
 refine call_list_range (I.ok.hd hc) (n:=(hi-lo).toNat) ho (small_one h1 h2 h3 h4) hsz (by omega) fun h' tk acc' c' kp hget hit=>?_;refine⟨.ref s.heap.objs.size,_,I.laid (t':=tk) (o:=.lst (vW lo (hi-lo).toNat)) kp (Yl _) ⟨?_,acc'.toList,c',?_,?_⟩,rfl,k _ (I.hok.fresh (Yl _))⟩
 ·unfold vW;rw[Ye,Zk,YK];exact hn
 ·obtain⟨hs,hv⟩:=hit;have key:∀(n:Nat) (lo:Int) (vs:List Value),vs.length=n->(∀(j:Nat) v,vs[j]?=some v->∃t,v=Value.int (lo+(j:Int)) t)->Vals ((List.range n).map fun i:Nat=>V.int (lo+(i:Int))) vs:=by
   intro n;induction n with
   |zero=>intro lo vs hl _;rw[YY.mp hl];exact .nil
   |succ n ih=>
    intro lo vs hl hv;cases vs with
    |nil=>simp at hl
    |cons v vs=>
     rw[List.range_succ_eq_map,YH,Zw];refine .cons ?_ ?_
     ·obtain⟨t,e⟩:=hv 0 v rfl;exact⟨t,e⟩
     ·have:=ih (lo+1) vs (by simpa using hl) fun j w hw=>by
       obtain⟨t,e⟩:=hv (j+1) w (by simpa using hw);exact⟨t,by rw[e];congr 1;push_cast;omega⟩
      have ef:((fun i:Nat=>V.int (lo+(i:Int))) ∘ Nat.succ)=fun i:Nat=>V.int (lo+1+(i:Int)):=by
       funext i;show V.int (lo+((i+1:Nat):Int))=_
       congr 1;push_cast;omega
      rw[ef];exact this
  refine key _ lo _ (by simpa using hs) fun j v hj=>?_;obtain⟨t,e⟩:=hv j v (by rw[<-YM];exact hj);exact⟨t,by rw[e];congr 1;omega⟩
 ·simpa using hget
theorem tF{K:Kq}{F:Hp}(lo:Int)(n:Nat):Reps K F (vW lo n) (cz lo n):=by
 unfold vW cz;generalize List.range n=l;induction l with
 |nil=>exact .nil
 |cons i l ih=>exact .cons .int ih
def pC(f:Dd):DF->Option (List D):=fun ρ=>match f ρ with
 |some (.int j)=>if j<16777216/\-(2^62)<=j then some (cz 0 j.toNat)else none
 |_=>none
theorem kR(hc:X.calm=true)(hg:Gl X "list")(hm:X.mg "list"=none)(hg2:Gl X "range")(hm2:X.mg "range"=none)(ha:PDE X a fa)(hs0:starEach [a] X.env=[(false,eval a X.env)]:=by rfl)
  (hs:starEach [.Call (.Name "range" p') [a] [] cpos] X.env=[(false,eval (.Call (.Name "range" p') [a] [] cpos) X.env)]:=by rfl):PDO X (.Call (.Name "list" p) [.Call (.Name "range" p') [a] [] cpos] [] pos) (asL (pC fa)):=
 (d6 (kM hc) hg hm boot_list (aT (d6 uh hg2 hm2 boot_range (aT ha bF hs0) (he:=hs0)) bF hs) (he:=hs)).imp fun σ H Q=>un7 fun P F ρ ob hf I k=>by
  unfold asL pC at hf;cases q:fa ρ with
  |none=>rw[q]at hf;cases hf
  |some dx=>
   rw[q]at hf;cases dx with
   |int j=>
    dsimp only at hf;split at hf
    ·rename_i hj;cases hf;refine⟨P,F,ρ,_,q,I,fun v F1 H1 e1 r1=>?_⟩;cases r1;refine⟨j,rfl,fun q1 hq1=>⟨q1,0,j,rfl,aG,⟨by omega,by omega,hj.2,by omega⟩,by omega,fun l hl=>?_⟩⟩;have e2:=e1.trans (Evo.side e1.hp (o:=.rng 0 j) hq1);have ej:(j-0).toNat=j.toNat:=by omega
     rw[ej];exact k l F1 _ (e2.trans (Evo.side e2.hp hl)) ⟨⟨e2.back I.toDHp hl,(e2.hp.free hl).1⟩,_,aG,tF 0 _⟩
    ·cases hf
   |_=>cases hf
def rA(n:Nat):D->Option Nat
 |.int k=>if -(2^63)<=k/\k<2^63 then seqIndex? k n else none
 |_=>none
def qB(j:Nat)(f:Dd):DF->Option (DF×D):=fun ρ=>match ρ[j]? with
 |some (some (.own (.lst ds) t))=>(f ρ).bind fun dk=>(rA ds.length dk).bind fun k=>(ds[k]?).map fun d=>(ρ.set j (some (.own (.lst (ds.eraseIdx k)) t)),d)
 |_=>none
theorem yk{K:Kq}{j:Nat}{f:Dd}{σ:St}{H:Hp}{Q:VK}{P F:Hp}{ρ ρ':DF}{d:D}(hp:qB j f ρ=some (ρ',d))(I:DInv K P F H ρ σ)(k:∀v F' H',Same F F'->DInv K P F' H' ρ' σ->Rep K F' v d->Q v H') :
  tBM K "list" vC (dg j) (oZ (tD K f) tK) σ H Q:=by
 unfold qB at hp;split at hp
 ·rename_i ds t q;cases q2:f ρ with
  |none=>rw[q2]at hp;cases hp
  |some dk=>
   rw[q2,Ya]at hp;cases q3:rA ds.length dk with
   |none=>rw[q3]at hp;cases hp
   |some kk=>
    rw[q3,Ya]at hp;cases q4:ds[kk]? with
    |none=>rw[q4]at hp;cases hp
    |some d'=>
     rw[q4]at hp;cases hp;cases dk with
     |int i=>
      have q3':(if -(2^63)<=i/\i<2^63 then seqIndex? i ds.length else none)=some kk:=q3;split at q3'
      ·rename_i hb;obtain⟨a,vs,h1,h2,h3,h4,h5⟩:=nL I q;refine⟨_,h1,.inl ⟨rfl,vs,SqL.of h4⟩,P,F,ρ,_,q2,I,fun v F1 H1 e1 r1=>?_⟩;cases r1;obtain⟨k1,k2⟩:=e1.keep a _ h4 h2;have r5:=h5.same e1.ext;obtain⟨y,y1,y2⟩:=r5.get q4;refine⟨a,vs,i,kk,y,rfl,rfl,k1,hb.1,hb.2,by rw[h5.length];exact q3',y1,?_⟩;exact k y F1 _ e1.ext ((I.evo e1).mut (o':=.lst _) (u:=.lst _) q rfl rfl h1 (r5.eraseIdx kk)) y2
      ·cases q3'
     |_=>cases q3
 ·cases hp
def eP(i j:Nat)(f:Dd):DF->Option RES:=fun ρ=>(qB j f ρ).bind fun r=>match r.1[i]? with
 |some (some (.own (.lst ds) t))=>if i≠j/\ds.length<16777216 then some (.nx (r.1.set i (some (.own (.lst (ds++[r.2])) t))))else none
 |_=>none
theorem t8(i j:Nat)(ho:PE X o (dg i))(hr:PE X r (dg j))(ha:PDE X e f)(hbase:attributeBase o "append" X.env (eval o X.env)=eval o X.env:=by rfl)(hbase':attributeBase r "pop" X.env (eval r X.env)=eval r X.env:=by rfl)
  (hfew':((backTo cpos' (starEach [e] X.env)).all (fun x=>!x.1)&&(backToKw cpos' (keywordEach [] X.env)).all (fun x=>x.1.isSome)
   && decide (([e]:List Expr).length+([]:List Keyword).length+(if([]:List Keyword).isEmpty then 0 else 1)<30))=true:=by rfl)
  (hfew:((backTo cpos (starEach [.Call (.Attribute r "pop" apos') [e] [] cpos'] X.env)).all (fun x=>!x.1)&&(backToKw cpos (keywordEach [] X.env)).all (fun x=>x.1.isSome)
   && decide (([.Call (.Attribute r "pop" apos') [e] [] cpos']:List Expr).length+([]:List Keyword).length+(if([]:List Keyword).isEmpty then 0 else 1)<30))=true:=by rfl)
  (hline:(apos.endLine == cpos.line)=true:=by rfl) (hline':(apos'.endLine == cpos'.line)=true:=by rfl) (hs':starEach [e] X.env=[(false,eval e X.env)]:=by rfl)
  (hs:starEach [.Call (.Attribute r "pop" apos') [e] [] cpos'] X.env=[(false,eval (.Call (.Attribute r "pop" apos') [e] [] cpos') X.env)]:=by rfl) (hsw:swapsWith (.Call (.Attribute o "append" apos) [.Call (.Attribute r "pop" apos') [e] [] cpos'] [] cpos) none pos.line X.env=pure false:=by rfl) :
  PD1 X (.Expr (.Call (.Attribute o "append" apos) [.Call (.Attribute r "pop" apos') [e] [] cpos'] [] cpos) pos) (eP i j f):=
 PS.imp (eS (lE Zo Xj Xk dY ho (aT (lE Zo PySem.F.slot_list_pop PySem.F.type_list_pop vT hr (aT ha bF hs') hbase' hfew' hline' hs' rfl) bF hs) hbase hfew hline hs rfl) hsw) fun E σ H=>un7 fun P F ρ res hres I k=>by
  unfold eP at hres;cases q:qB j f ρ with
  |none=>rw[q]at hres;cases hres
  |some pr=>
   rw[q,Ya]at hres;split at hres
   ·rename_i ds t qi;split at hres
    ·rename_i hc;cases hres
     -- the i-th slot is not touched by the pop
     have qi0:ρ[i]?=some (some (.own (.lst ds) t)):=by
      have q':=q;unfold qB at q';split at q'
      ·rename_i ds' t' qj;cases z1:f ρ with
       |none=>rw[z1]at q';cases q'
       |some dk=>
        rw[z1,Ya]at q';cases z2:rA ds'.length dk with
        |none=>rw[z2]at q';cases q'
        |some kk=>
         rw[z2,Ya]at q';cases z3:ds'[kk]? with
         |none=>rw[z3]at q';cases q'
         |some d'=>
          rw[z3]at q';cases q';rw[YL (fun z=>hc.1 z.symm)]at qi;exact qi
      ·cases q'
     obtain⟨a,vs,h1,h2,h3,h4,h5⟩:=nL I qi0;refine⟨_,h1,.inl ⟨rfl,vs,SqL.of h4⟩,?_⟩;refine yk q I fun v F' H' e I' rv=>?_;obtain⟨a',vs',g1,g2,g3,g4,g5⟩:=nL I' qi;rw[h1]at g1;cases g1;refine⟨a,vs',v,rfl,rfl,g4,by rw[YK,g5.length];exact hc.2,k σ F' _ e ?_⟩;exact I'.mut (o':=.lst _) (u:=.lst _) qi rfl rfl h1 (g5.append (.one rv))
    ·cases hres
   ·cases hres
end
section
variable{X:Cx}{tg a b c o i e f:Expr}{pos pos' apos cpos p:Pos}{fd fk fx fv fa fb fc:Dd}
end
theorem Room.h64{k:Nat}{A:Around}(r:Room k A):A.units+64<cLine:=by have:=r.un;omega
def xu(sc0 scope:Scope):Bool:=scope.kind == .function&&(scope.names.map (·.1)).Nodup&&(scope.names.all fun x=>x.2 != .free||(sc0.names.lookup x.1 == some .cell||sc0.names.lookup x.1 == some .free))
theorem cM{X:Cx}{scope:Scope}(sc0:Scope)(e:X.env.scope=sc0)(h:xu sc0 scope=true):BlkScope X scope:=by
 unfold xu at h;simp only[Yo,YE]at h;obtain⟨⟨h1,h2⟩,h3⟩:=h;refine⟨by simpa using h1,h2,fun x hx hk=>?_⟩;have:=Yh.mp h3 x hx;rw[hk]at this;have e2:X.env.kindOf x.1=sc0.names.lookup x.1:=by show X.env.scope.names.lookup x.1=_;rw[e]
 rw[e2];simpa using this
def BO(N0:List Str)(scope:Scope)(N:List Str)(own:Nat)(ix:List Nat):Bool:=
 decide (N.length=own+ix.length)&&(List.range ix.length).all fun i=>match N[own+i]?,ix[i]? with
  |some x,some j=>N0[j]? == some x&&scope.names.lookup x == some .free
  |_,_=>true
theorem cD{X:Cx}{scope:Scope}{N:List Str}{own:Nat}{ix:List Nat}(N0:List Str)(e:X.N=N0)(h:BO N0 scope N own ix=true):Caps X scope N own ix:=by unfold BO at h;rw[Yo,YE]at h;refine⟨h.1,fun i j x h1 h2=>?_⟩;have hi:i<ix.length:=(Yk.mp h2).1;have:=Yh.mp h.2 i (YJ.mpr hi);rw[h1,h2]at this;simp only[Yo,Vy]at this;rw[e];exact this
section
variable{X:Cx}
theorem c8:nF X [] (tB' X.K bz):=fun pz s σ H Q I hh_=>by
 obtain⟨P,F,ρ,b,hf,J,k⟩:=hh_;cases hf;exact v5 pz s σ H Q I (k F H (Evo.refl J.toDHp))
theorem zA{c:Expr}{f:Dk}(h:PDT X c f):nF X [c] (tB' X.K f):=wf h
end
theorem bW{is:List Nat}{own:Nat}(h:(is.all fun j=>decide (j<own))=true):∀j∈is,j<own:=fun j m=>ZW (Yh.mp h j m)
theorem xm{K:Kq}{f:Do}:∀σ H Q,tD K (asO f) σ H Q->tO K f σ H Q:=fun σ H Q=>un7 fun P F ρ d hf I k=>by
 unfold asO at hf;cases q:f ρ with
 |none=>rw[q]at hf;cases hf
 |some o=>
  rw[q]at hf;cases hf;refine⟨P,F,ρ,o,q,I,fun a F' H' ev ho=>?_⟩;exact k (.ref a) _ H' (ev.freeze I.toDHp (fun b=>H b=none/\F' b=none) fun _ q=>q) (ho.rep (bS fun b q=>q.2) fun b u q hb=>by rw[c7 q];exact hb)
section
variable{X:Cx}{tg iter elt:Expr}{ifs:List Expr}{scope:Scope}{pos:Pos}{N:List Str}{own:Nat}{ix is:List Nat}{f:Dl}{st:Dq}{c:Dk}{e:Dd}
theorem cN{i:Nat}{y:Str}{py spos:Pos}(hN:X.N.Nodup)(hiN:X.N[i]?=some y)(hx:Loc X.env.scope y)(hcalm:X.calm=true)(b:BlkScope X scope)(cp:Caps X scope N own ix)(his:∀j∈is,j<own)(hi:PDI X tg iter f)
  (hg:∀s H fp pz,PDG (blk X scope N s H fp pz) tg is st) (hc:∀s H fp pz,nF (blk X scope N s H fp pz) ifs (tB' X.K c)) (he:∀s H fp pz,PDE (blk X scope N s H fp pz) elt e)
  (hnames:∀y∈scope.names,y.2=.local->scope.names.lookup y.1=some .local)
  (hsw:swapsWith (.ListComp elt [⟨tg,iter,ifs,0⟩] scope pos) (some (.Name y py)) spos.line X.env=pure true:=by rfl)
  (hs:∀x,foldedSetIterable iter X.env x=pure x:=by intro _;rfl)
  (hf:X.fn y=true\/X.env.scope.names.lookup y=some .local:=by first|exact .inl rfl|exact .inr rfl|assumption) :
  PD1 X (.Assign [.Name y py] (.ListComp elt [⟨tg,iter,ifs,0⟩] scope pos) spos) (aE i (asO (asL (aW own ix f st c e)))):=
 PS.imp (p_ (g:=tG X.K is st) (tc:=tB' X.K c) (te:=tD X.K e) hcalm hN hiN hx b cp hi hg hc he hsw hnames hs hf) fun E σ H q=>rq his σ H _ (xm σ H _ (w6 E σ H q))
end
def BG(n p:Nat)(g:Dw)(o:OD)(xs:List DV)(q:OD×D):Prop:=xs.length+1=p/\q.1.flat=true/\∀a,∃r,g (aM n p (.own o (some a)::xs))=some r/\k9 a q.1 q.2 r
noncomputable def sX (n p:Nat)(g:Dw)(o:OD)(xs:List DV):Option (OD×D):=
 open Classical in if h:∃q,BG n p g o xs q then some h.choose else none
theorem sF{n p:Nat}{g:Dw}:∀a o xs o' d,sX n p g o xs=some (o',d)->xs.length+1=p/\o'.flat=true/\∃r,g (aM n p (.own o (some a)::xs))=some r/\k9 a o' d r:=by
 intro a o xs o' d h;unfold sX at h;split at h
 ·rename_i hq;obtain⟨h1,h2,h3⟩:=hq.choose_spec;rw[Yr h]at h2 h3;exact⟨h1,h2,h3 a⟩
 ·cases h
theorem t7{a:Addr}{o o':OD}{d d':D}{r:RES}(h:k9 a o d r)(h':k9 a o' d' r):(o,d)=(o',d'):=by
 cases r with
 |nx ρ=>obtain⟨h1,h2⟩:=h;obtain⟨h3,h4⟩:=h';rw[h1]at h3;cases h3;rw[h2,h4]
 |rt x ρ=>obtain⟨h1,h2⟩:=h;obtain⟨h3,h4⟩:=h';rw[h2]at h4;cases h4;rw[h1]at h3;cases h3;rfl
 |bk ρ=>cases h
 |ct ρ=>cases h
theorem r8{n p:Nat}{g:Dw}{o:OD}{xs:List DV}{o':OD}{d:D}(hl:xs.length+1=p)(hf:o'.flat=true)(h:∀a,∃r,g (aM n p (.own o (some a)::xs))=some r/\k9 a o' d r):sX n p g o xs=some (o',d):=by
 have hq:∃q,BG n p g o xs q:=⟨(o',d),hl,hf,h⟩
 unfold sX;rw[dif_pos hq];obtain⟨_,_,h3⟩:=hq.choose_spec;obtain⟨r,e,q⟩:=h3 0;obtain⟨r',e',q'⟩:=h 0;rw[e']at e;cases e;exact Zs some (t7 q q')
section
variable{X:Cx}{pz:Kp}{σ:List (Option V)}{H:Hp}{s:Shared}{h':Heap}
theorem Inv.turnedL{t':Nat}{fp:List Addr}(I:Inv X pz σ H s)(k:∀b o,b∉fp->s.heap.get? b=some o->h'.get? b=some o)(hf:∀b∈fp,fU X pz H b):Inv X pz σ H {s with heap:=h',toks:=t' }:=by
 have nit:∀b u,H b=some u->b∉fp:=fun b u e z=>by rw[(hf b z).1]at e;cases e
 refine I.step (g':=s.gens) (d':=s.drawn) (ch:=fp) (fun b hb=>?_) (fun b o _ _ hc e _=>k b o hc e) (fun b o _ _ hc e _=>⟨o.slots,k b o hc e⟩) (fun _ _ _ _ n=>n)
  (fun b o hc e=>⟨o,k b o hc e⟩) (fun _ _ e=>e) (fun _ _ _ e=>e) (fun b ps e=>⟨#[],by rw[e];simp⟩) (fun m hm=>?_) (fun b u e=>?_) I.bare
 ·obtain⟨_,hL,_,h1,h2,h3⟩:=hf b hb;exact⟨h1,hL,h2,h3⟩
 ·obtain⟨o,es,ep,ho,r⟩:=hm;exact⟨o,es,ep,k _ o (fun z=>(hf _ z).2.1 rfl) ho,r⟩
 ·refine(I.hok b u e).stay (fun c v hc q=>k c v ?_ q) (fun _ q=>q) fun _ _ q=>q;rcases hc with z|z
  ·rw[z];exact nit b u e
  ·exact nit c _ z
theorem Inv.turnedLaid{t':Nat}{fp:List Addr}{a:Addr}{o:HO}(I:Inv X pz σ H s)(k:∀b o,b∉fp->s.heap.get? b=some o->h'.get? b=some o)(hf:∀b∈fp,fU X pz H b)(hp:s.heap.objs.size<=a)(new:ObjOk X.prog X.w (upd H a o) h' a o) :
  Inv X pz σ (upd H a o) {s with heap:=h',toks:=t' }:=by
 have hn:H a=none:=I.hok.fresh hp;have nit:∀b u,H b=some u->b∉fp:=fun b u e z=>by rw[(hf b z).1]at e;cases e
 have ne1:∀b u,s.heap.get? b=some u->b≠a:=fun b u q=>Yw (Ys (Yp q) hp)
 refine I.step (g':=s.gens) (d':=s.drawn) (ch:=fp) (fun b hb=>?_) (fun b o _ _ hc e _=>k b o hc e) (fun b o _ _ hc e _=>⟨o.slots,k b o hc e⟩) (fun b u _ q n=>by rw[au (ne1 b u q)];exact n)
  (fun b o hc e=>⟨o,k b o hc e⟩) (fun b xs e=>by rw[au (aH e hn)];exact e) (fun b _ _ e=>by rw[au (aH e hn)];exact e) (fun b ps e=>⟨#[],by rw[au (aH e hn),e];simp⟩) (fun m hm=>?_) (fun b u e=>?_) I.bare
 ·obtain⟨_,hL,_,h1,h2,h3⟩:=hf b hb;exact⟨h1,hL,h2,h3⟩
 ·obtain⟨o,es,ep,ho,r⟩:=hm;exact⟨o,es,ep,k _ o (fun z=>(hf _ z).2.1 rfl) ho,r⟩
 ·by_cases hb:b=a
  ·subst hb;rw[aG]at e;cases e;exact new
  ·rw[au hb]at e;refine(I.hok b u e).stay (fun c v hc q=>k c v ?_ q) (fun c q=>by rw[au (aH q hn)];exact q) fun c xs q=>by rw[au (aH q hn)];exact q
   rcases hc with z|z
   ·rw[z];exact nit b u e
   ·exact nit c _ z
end
def Ite(K:Kq)(a:Addr):It:=
 ⟨fun i H=>∃xs x,SqL K H a xs/\xs[i]?=some x,fun i H x H'=>∃p v,H p=none/\x=.ref p/\H'=upd H p (.tup [.int (i:Nat),v])/\∀xs,SqL K H a xs->xs[i]?=some v,fun i H=>∃xs,SqL K H a xs/\xs.length<=i⟩
theorem tM{P:Program}{w:World}{K:Kq}{elts:List Expr}{kk:Nat}{pos:Pos}(a e it:Addr)(hne:e≠it):Turn P w K (.Tuple elts kk pos) (Ite K a) [e,it] e (fun i h=>(∃old,IsEnum h e it i old)/\h.IsListIter it a i) where
 mem:=by simp
 obj:=fun i h st b hb=>by
  obtain⟨⟨old,he⟩,o,eo,c,d⟩:=st;have hb':b=e\/b=it:=by simpa using hb
  rcases hb' with rfl|rfl
  ·exact⟨_,he,fun v z=>by cases z⟩
  ·exact⟨o,eo,fun v z=>by rw[d]at z;cases z⟩
 keep:=fun i h h' st k=>by
  obtain⟨⟨old,he⟩,hit⟩:=st;exact⟨⟨old,k e (by simp) _ he⟩,hit.at fun o x=>k it (by simp) o x⟩
 item:=by
  intro X hP hw hK hc i pz s σ H E I hf st hg;subst hP hw hK;obtain⟨⟨old,he⟩,hit⟩:=st;obtain⟨xs,x,hq,hx⟩:=hg;obtain⟨its,rv,p,hz⟩:=I.list hq;obtain⟨u,hu,ru⟩:=rv.get hx;refine wpAny_pyNext_enum_item he hit p.isList (x:=u) (by simpa using hu) hne fun h' ho hit' hT hsz hk=>?_;refine⟨_,rfl,wpAny_letOwnedTupleGo_enum ho fun h2 he2 hs2=>?_⟩;have kk2:∀b o,b∉[e,it]->s.heap.get? b=some o->h2.get? b=some o:=fun b o hb q=>by
   have hb1:b≠e:=fun z=>hb (by simp[z])
   have hb2:b≠it:=fun z=>hb (by simp[z])
   exact(hs2.2 b hb1).trans (hk b o hb1 hb2 q)
  have helt:e<s.heap.objs.size:=Yp he;have hilt:it<s.heap.objs.size:=by obtain⟨_,x,_⟩:=hit;exact Yp x
  have hTe:s.heap.objs.size≠e:=ZH helt;have hT2:h2.get? s.heap.objs.size=some {cls:=.type "tuple",data:=.seq #[.int i s.toks,u]}:=(hs2.2 _ hTe).trans hT;have I2:Inv X pz σ (upd H s.heap.objs.size (.tup [.int (i:Nat),x])) {s with heap:=h2,toks:=s.toks+1}:=
   I.turnedLaid (t':=s.toks+1) kk2 hf (Yl _) ⟨show 2<=sizeLine by decide,[.int i s.toks,u],.cons ⟨_,rfl⟩ (.cons ru .nil),⟨_,hT2,rfl,_,rfl⟩,_,hT2,rfl⟩
  have hn:H s.heap.objs.size=none:=I.hok.fresh (Yl _);refine⟨.ref s.heap.objs.size,_,I2,rfl,⟨_,x,hn,rfl,rfl,fun ys hy=>by rw[I.list_inj hy hq];exact hx⟩,⟨⟨_,by simpa using he2⟩,hit'.at fun o q=>(hs2.2 it (ZL hne)).trans q⟩,fun b hb=>?_⟩;have hb':b=e\/b=it:=by simpa using hb
  rw[au (by rcases hb' with rfl|rfl;exact Yw helt;exact Yw hilt)];exact(hf b hb).1
 done:=by intro X hP hw hK hc i pz s σ H E I hf st hg;subst hP hw hK;obtain⟨⟨old,he⟩,hit⟩:=st;obtain⟨xs,hq,hx⟩:=hg;obtain⟨its,rv,p,hz⟩:=I.list hq;have hl:=rv.length;exact wpAny_pyNext_enum_end (I.ok.hd hc) he hit p.isList (by simp;omega) fun h' eb=>⟨rfl,I.turnedL (t':=s.toks) (fun b o hb q=>eb b o (fun z=>hb (by simp[z])) q) hf⟩
 self:=fun _ _ _ _ _ st h=>by
  obtain⟨⟨old,he⟩,_⟩:=st;exact wpAny_pyIter_enum he h
section
variable{X:Cx}{l:Expr}{elts:List Expr}{kk:Nat}{tpos pos p:Pos}
def Cv(K:Kq)(ta:TA):TI:=fun σ H R=>ta σ H fun vs H1=>∃a,vs=[.ref a]/\(∃xs,SqL K H1 a xs)/\R (Ite K a) H1
theorem jG:bootBuiltins "enumerate"=some (.type "enumerate"):=by rfl
theorem yK{ta:TA}(hg:Gl X "enumerate")(hm:X.mg "enumerate"=none)(ha:PA X [l] ta)(hs:starEach [l] X.env=[(false,eval l X.env)]:=by rfl):PI X (.Tuple elts kk tpos) (.Call (.Name "enumerate" p) [l] [] pos) (Cv X.K ta):=by
 intro pz s σ H R I h;refine Call_ (g8 I hg hm jG (ZX (thn (ha pos pz s σ H _ I h) fun us s1 ⟨vs,H1,I1,r1,q1⟩=>?_) hs rfl));obtain⟨a,e,⟨xs,hq⟩,q⟩:=q1;subst e;obtain⟨u,rfl,rx⟩:=dW r1;cases(show u=Value.ref a from rx);obtain⟨its,rv,pl,hz⟩:=I1.list hq;refine call_enumerate_list pl.isList fun h' he hit hsz kp=>?_;have I2:Inv X pz σ H1 {s1 with heap:=h' }:=I1.kept (t':=s1.toks) kp;refine wpAny_pyIter_enum he ?_;refine⟨s1.heap.objs.size+1,[s1.heap.objs.size+1,s1.heap.objs.size],_,_,H1,rfl,I2,tM a _ _ (ZH (ZP _)),⟨⟨_,he⟩,hit⟩,fun b hb=>?_,q⟩;have hb':b=s1.heap.objs.size+1\/b=s1.heap.objs.size:=by simpa using hb
 rcases hb' with rfl|rfl
 ·exact I1.fpOk (ZY _) (I1.hok.fresh (ZY _))
 ·exact I1.fpOk (Yl _) (I1.hok.fresh (Yl _))
def gJ(ds:List D):List D:=ds.zipIdx.map fun x=>.tup [.int (x.2:Int),x.1]
def jP(f:Dd):DF->Option (List D):=fun ρ=>match f ρ with
 |some (.lst ds)=>some (gJ ds)
 |_=>none
theorem k7{ds:List D}{i:Nat}{d:D}(h:(gJ ds)[i]?=some d):∃d0,ds[i]?=some d0/\d=.tup [.int (i:Int),d0]:=by
 unfold gJ at h;rw[Yu,List.getElem?_zipIdx]at h;cases q:ds[i]? with
 |none=>rw[q]at h;cases h
 |some d0=>rw[q]at h;cases h;exact⟨d0,rfl,by simp⟩
theorem tw{K:Kq}{P F:Hp}{a:Addr}{vs:List V}{ds:List D}(h:SqL K F a vs)(r:Reps K F vs ds):w9 K P (Ite K a) F (gJ ds):=by intro F' H' e hp i;have hv:SqL K H' a vs:=hp.sub.seq (e.seq h);refine⟨fun d hd=>?_,fun hl=>⟨vs,hv,by rw[r.length];simpa[gJ]using hl⟩⟩;obtain⟨d0,hd0,rfl⟩:=k7 hd;obtain⟨v,h1,h2⟩:=r.get hd0;refine⟨⟨vs,v,hv,h1⟩,fun x H2 hy=>?_⟩;obtain⟨q,v',hn,rfl,rfl,hx⟩:=hy;have:=hx vs hv;rw[h1]at this;cases this;have ev:=Evo.laid hp (o:=.tup [.int (i:Nat),v]) hn;exact⟨_,ev,.tup aG (.cons .int (.cons ((h2.same e).same ev.ext) .nil))⟩
theorem wE{f:Dd}(hg:Gl X "enumerate")(hm:X.mg "enumerate"=none)(h:PDE X l f)(hs:starEach [l] X.env=[(false,eval l X.env)]:=by rfl):PDI X (.Tuple elts kk tpos) (.Call (.Name "enumerate" p) [l] [] pos) (jP f):=PI.imp (yK hg hm (aT h bF hs) hs) fun σ H R ⟨P,F,ρ,ds,hf,I,k⟩=>by
 unfold jP at hf;split at hf
 ·rename_i ds0 q;cases hf;refine⟨P,F,ρ,_,q,I,fun v F' H' ev rv=>?_⟩;cases rv with
  |lst h1 h2=>exact⟨_,rfl,⟨_,ev.hp.sub.seq h1⟩,k _ F' H' ev (tw h1 h2)⟩
 ·cases hf
end
section
variable{prog:Program}{w:World}{A:Around}{E:Kv}{s:Shared}
end
section
variable{prog:Program}{w:World}{A:Around}{E:Kv}{s:Shared}
end
section
variable{prog:Program}{w:World}{A:Around}{E:Kv}{s:Shared}
end
section
variable{X:Cx}{e1 e2:Expr}{elts:List Expr}{kk:Nat}{tpos pos p:Pos}
end
section
variable{prog:Program}{w:World}{A:Around}{s:Shared}{R:Kr}
variable{I:Addr}{fp wr:List Addr}{n:Nat}{P:Nat->Value->Prop}{St:Nat->Heap->Prop}{T:String}
end
section
variable{prog:Program}{w:World}{A:Around}{E:Kv}{s:Shared}
variable{I:Addr}{fp wr:List Addr}{n:Nat}{P:Nat->Value->Prop}{St:Nat->Heap->Prop}{T:String}
end
section
variable{prog:Program}{w:World}{A:Around}{E:Kv}{s:Shared}
end
section
variable{X:Cx}{e a:Expr}{p p' p2 pos cpos rpos:Pos}{t:TA}
variable{fa:Dd}
end
def ti(x:Str)(n:Int):Str:=if n<1 then Str.empty else if(n == 1||x.length == 0)=true then x else⟨(List.replicate n.toNat x.cps).foldl (·++·) #[]⟩
def g7:D->D->Option D
 |.str x,.int n=>if -(2^62)<=n/\n<1000/\x.length<=1000 then some (.str (ti x n))else none
 |_,_=>none
def zn:R2:=fun x y H Q=>∃z n,x=.str z/\y=.int n/\(-(2^62)<=n/\n<1000/\z.length<=1000)/\Q (.str (ti z n)) H
theorem pO(c:Array Nat):∀(k:Nat) (acc:Array Nat),((List.replicate k c).foldl (·++·) acc).size=acc.size+k*c.size
 |0,acc=>by simp
 |k+1,acc=>by
  rw[List.replicate_succ,List.foldl_cons,pO c k,VQ,Nat.succ_mul];omega
section
variable{X:Cx}{a b:Expr}{pos:Pos}{fa fb:Dd}
theorem xY:OpR X (binaryOp .Mult) zn:=by
 intro pz s σ H x y v u Q I rx ry h;obtain⟨z,n,rfl,rfl,⟨b1,b2,b3⟩,q⟩:=h;obtain⟨t,rfl⟩:=rx;obtain⟨t',rfl⟩:=ry;refine PySem.P.mul_str (by rw[YB (show ¬n < -(2^63:Int)by omega),YB (show ¬n ≥ 2^63 by omega)];rfl) (fun h1 _=>?_) (fun h1 _=>?_) ?_
 ·have h3:1000<=(2^63-1:Int)/n:=Int.le_ediv_of_mul_le (by omega) (by omega);have h4:(z.length:Int)<=1000:=Int.ofNat_le.mpr b3;omega
 ·have h3:z.length*n.toNat<=1000*1000:=Nat.mul_le_mul b3 (by omega);show decide (z.length*n.toNat > sizeLine)=false;rw[ZS,YK];omega
 ·unfold ti at q;split
  ·rename_i h1;rw[if_pos h1]at q;exact⟨by decide,⟨.str Str.empty,H,I.tok _,⟨_,rfl⟩,q⟩⟩
  ·rename_i h1;rw[if_neg h1]at q;split
   ·rename_i h2;rw[if_pos h2]at q;exact⟨.str z,H,I,⟨_,rfl⟩,q⟩
   ·rename_i h2;rw[if_neg h2]at q;refine⟨?_,⟨.str _,H,I.tok _,⟨_,rfl⟩,q⟩⟩;show((List.replicate n.toNat z.cps).foldl (·++·) #[]).size<=sizeLine;rw[pO,YK];have h3:n.toNat*z.cps.size<=1000*1000:=Nat.mul_le_mul (by omega) b3;show 0+n.toNat*z.cps.size<=_;omega
theorem yf{K:Kq}:oB K zn g7:=by
 intro P F H ρ σ x y dx dy d Q hf I rx ry k;unfold g7 at hf;split at hf
 ·rename_i z n;split at hf
  ·rename_i hb;cases hf;exact⟨z,n,i6 rx,ck ry,hb,k _ F H (Evo.refl I.toDHp) .str⟩
  ·cases hf
 ·cases hf
theorem nu(ha:PDR X a fa)(hb:PDR X b fb):PDE X (.BinOp a .Mult b pos) (d2 g7 fa fb):=f_ xY yf ha hb
end
mutual
def aA(w:World):D->Int
 |.int i=>hashInt i
 |.str x=>hashStr w x
 |.tup xs=>reduceHash (Builtin.Tuple.tupleHashOf (jh w xs))
 |_=>0
def jh(w:World):List D->List Int
 |[]=>[]
 |d::ds=>aA w d::jh w ds
end
theorem j6(w:World):∀ds,jh w ds=ds.map (aA w)
 |[]=>rfl
 |d::ds=>by rw[YH,<-j6 w ds];rfl
def hkN:Nat->D->Bool
 |_,.int _=>true
 |n+1,.tup xs=>xs.all (hkN n)
 |_,_=>false
section
variable{prog:Program}{w:World}
theorem dj{h:Heap}{ds:List D}{u:Value}{as:List Addr}(r:Reads h u (bG (.tup ds)) as):∃a o vs n,u=.ref a/\h.get? a=some o/\o.cls=.type "tuple"/\o.data=.seq vs n/\ReadsAll h vs.toList (bC ds) as:=by
 cases r with
 |tuple h1 h2 h3 h4=>exact⟨_,_,_,_,rfl,h1,h2,h3,h4⟩
theorem yX:∀(n:Nat) {A:Around}{E:Kv}{s:Shared}{d:D}{u:Value}{as:List Addr}{Q:Int->Shared->Prop},A.units+n<cLine->hkN n d=true->Reads s.heap u (bG d) as->
  (∀tk,s.toks<=tk->Q (aA w d) {s with toks:=tk})->wpAny (model prog w) A (pyHash u) Q E s:=by
 intro n;induction n with
 |zero=>
  intro A E s d u as Q hu hd r h;cases d with
  |int i=>cases r;exact wpAny_pyHash_int (h _ (ZY _))
  |str x=>cases r;exact Vp (h _ (ZY _))
  |_=>cases hd
 |succ n ih=>
  intro A E s d u as Q hu hd r h;cases d with
  |int i=>cases r;exact wpAny_pyHash_int (h _ (ZY _))
  |str x=>cases r;exact Vp (h _ (ZY _))
  |tup ds=>
   obtain⟨a,o,vs,m,rfl,ho,hc,hdt,ra⟩:=dj r;have hT:s.TypeIs (.ref a) "tuple":=⟨o,ho,hc⟩
   have hall:∀d∈ds,hkN n d=true:=fun d m=>Yh.mp hd d m
   unfold pyHash;unfold pyHashByItsType;refine Yb (wpAny_cRoomFor_or (.inr (by omega)) ?_);refine Yb (Xw hT XB.lookup ?_);show wpAny _ _ (if(some (Value.builtin "tuple.__hash__") == some Value.none)=true then _ else _) Q E s;rw[if_neg (by rw[beq_builtin_none];exact Yj)];refine Yb (Xw hT XB.lookup ?_);show wpAny _ _ (callSpecialIfBoundUnlessNone? (.ref a) "__hash__" _>>=_) Q E s;refine Yb (wpAny_callSpecialIfBoundUnlessNone?_slot hT XB (Zt XB hT F.entry_tuple_hash ?_ (F.args_tuple_hash_1 _)));show wpAny _ _ (Builtin.Tuple.tupleItemsOf (.ref a)>>=_) _ _ s;refine Yb (wpAny_tupleItemsOf ho hdt ?_);refine Yb ?_;rw[<-XV];refine Xr _
    (fun bD (b:Array Int) s'=>∃done left bs tk,ds=done++left/\ReadsAll s.heap bD (bC left) bs/\b.toList=done.map (aA w)/\s.toks<=tk/\s'={s with toks:=tk})
    _ ?_ ?_ _ _ ⟨[],ds,_,_,rfl,ra,rfl,Yl _,rfl⟩
   ·rintro x bD b s' ⟨done,left,bs,tk,e,hl,hb,hk,rfl⟩;cases left with
    |nil=>cases hl
    |cons d0 left=>
     cases hl with
     |cons h1 h2=>
      refine Yb (ih (by show A.units+1+n<cLine;omega) (hall d0 (by rw[e];simp)) h1 fun tk' hk'=>?_)
      first
       |exact Yf ⟨done++[d0],left,_,_,by simp[e],h2,by simp[hb],YD hk hk',rfl⟩
       |exact Yb (Yf (Yf ⟨done++[d0],left,_,_,by simp[e],h2,by simp[hb],YD hk hk',rfl⟩))
   ·rintro b s' ⟨done,left,bs,tk,e,hl,hb,hk,rfl⟩;cases left with
    |cons _ _=>cases hl
    |nil=>
    rw[Za]at e;subst e;show wpAny _ _ (retInt (Builtin.Tuple.tupleHashOf b.toList)) _ _ _;rw[hb,<-j6];refine wpAny_ret_mkInt ?_;have h':∀tk,s.toks<=tk->Q (reduceHash (Builtin.Tuple.tupleHashOf (jh w ds))) {s with toks:=tk}:=h;generalize Builtin.Tuple.tupleHashOf (jh w ds)=z at h';show wpAny _ _ (if(decide (-(2:Int)^63<=z)&&decide (z<2^63))=true then _ else _) Q E _;unfold reduceHash at h';by_cases hr:(decide (-(2:Int)^63<=z)&&decide (z<2^63))=true
    ·rw[if_pos hr];rw[if_pos hr]at h';exact Yf (h' _ (by show s.toks<=_;first|exact hk|(simp only[];omega)))
    ·rw[if_neg hr];rw[if_neg hr]at h';exact Yb (wpAny_rule (Yf (h' _ (by show s.toks<=_;first|exact hk|(simp only[];omega)))))
  |_=>cases hd
end
section
variable{prog:Program}{w:World}
theorem oI:∀(n m:Nat) {A:Around}{E:Kv}{s:Shared}{d:D}{u:Value}{as:List Addr}{Q:Kb},n<=m->hkN n d=true->Reads s.heap u (bG d) as->Q true s->
  wpAny (model prog w) A (eqIsQuiet m u) Q E s:=by
 intro n;induction n with
 |zero=>
  intro m A E s d u as Q hm hd r h;cases d with
  |int i=>cases r;rw[Vb _ rfl];exact Yf h
  |str x=>cases r;rw[Vb _ rfl];exact Yf h
  |_=>cases hd
 |succ n ih=>
  intro m A E s d u as Q hm hd r h;cases d with
  |int i=>cases r;rw[Vb _ rfl];exact Yf h
  |str x=>cases r;rw[Vb _ rfl];exact Yf h
  |tup ds=>
   obtain⟨a,o,vs,k,rfl,ho,hc,hdt,ra⟩:=dj r;have hT:s.TypeIs (.ref a) "tuple":=⟨o,ho,hc⟩
   have hall:∀d∈ds,hkN n d=true:=fun d m=>Yh.mp hd d m
   obtain⟨m,rfl⟩:∃m',m=m' + 1:=⟨m-1,by omega⟩
   unfold eqIsQuiet;refine Yb (Xw hT F.slot_tuple_eq.lookup ?_);show wpAny _ _ (isInstance (.ref a) (.type "tuple")>>=_) Q E s;refine Yb (XG hT isSubtype_tuple_tuple ?_);show wpAny _ _ (seqItems? (.ref a)>>=_) Q E s;refine Yb (Vj ho hdt ?_);show wpAny _ _ (forIn vs _ _>>=_) Q E s;refine Yb ?_;rw[<-XV];refine Xr _ (fun bD r s'=>r.1=none/\s'=s/\∃left bs,(∀d∈left,hkN n d=true)/\ReadsAll s.heap bD (bC left) bs) _ ?_ ?_ _ _ ⟨rfl,rfl,ds,_,hall,ra⟩
   ·rintro x bD ⟨r1,r2⟩ s' ⟨e,rfl,left,bs,hl,hr⟩;cases left with
    |nil=>cases hr
    |cons d0 left=>
     cases hr with
     |cons h1 h2=>
      refine Yb (ih m (by omega) (hl d0 Yd) h1 ?_);exact Yf ⟨rfl,rfl,left,_,fun d m=>hl d (Yc _ m),h2⟩
   ·rintro⟨r1,r2⟩ s' ⟨e,rfl,_⟩;cases e;exact Yf h
  |_=>cases hd
theorem vg:∀(n m:Nat) {A:Around}{E:Kv}{s:Shared}{d:D}{u:Value}{as:List Addr}{Q:Kb},n<=m->hkN n d=true->Reads s.heap u (bG d) as->Q true s->
  wpAny (model prog w) A (hashByValue m u) Q E s:=by
 intro n;induction n with
 |zero=>
  intro m A E s d u as Q hm hd r h;cases d with
  |int i=>cases r;rw[Vm _ rfl];exact Yf h
  |_=>cases hd
 |succ n ih=>
  intro m A E s d u as Q hm hd r h;cases d with
  |int i=>cases r;rw[Vm _ rfl];exact Yf h
  |tup ds=>
   obtain⟨a,o,vs,k,rfl,ho,hc,hdt,ra⟩:=dj r;have hT:s.TypeIs (.ref a) "tuple":=⟨o,ho,hc⟩
   have hall:∀d∈ds,hkN n d=true:=fun d m=>Yh.mp hd d m
   obtain⟨m,rfl⟩:∃m',m=m' + 1:=⟨m-1,by omega⟩
   unfold hashByValue;refine Yb (Xw hT XB.lookup ?_);show wpAny _ _ (seqItems? (.ref a)>>=_) Q E s;refine Yb (Vj ho hdt ?_);show wpAny _ _ (forIn vs _ _>>=_) Q E s;refine Yb ?_;rw[<-XV];refine Xr _ (fun bD r s'=>r.1=none/\s'=s/\∃left bs,(∀d∈left,hkN n d=true)/\ReadsAll s.heap bD (bC left) bs) _ ?_ ?_ _ _ ⟨rfl,rfl,ds,_,hall,ra⟩
   ·rintro x bD ⟨r1,r2⟩ s' ⟨e,rfl,left,bs,hl,hr⟩;cases left with
    |nil=>cases hr
    |cons d0 left=>
     cases hr with
     |cons h1 h2=>
      refine Yb (ih m (by omega) (hl d0 Yd) h1 ?_);exact Yf ⟨rfl,rfl,left,_,fun d m=>hl d (Yc _ m),h2⟩
   ·rintro⟨r1,r2⟩ s' ⟨e,rfl,_⟩;cases e;exact Yf h
  |_=>cases hd
theorem uU:∀(n m:Nat) {A:Around}{E:Kv}{s:Shared}{d:D}{u:Value}{as:List Addr}{Q:Kb},n<=m->hkN n d=true->Reads s.heap u (bG d) as->Q false s->
  wpAny (model prog w) A (ofAClassStatement m u) Q E s:=by
 intro n;induction n with
 |zero=>
  intro m A E s d u as Q hm hd r h;cases d with
  |int i=>cases r;unfold ofAClassStatement;exact Yf h
  |str x=>cases r;unfold ofAClassStatement;exact Yf h
  |_=>cases hd
 |succ n ih=>
  intro m A E s d u as Q hm hd r h;cases d with
  |int i=>cases r;unfold ofAClassStatement;exact Yf h
  |str x=>cases r;unfold ofAClassStatement;exact Yf h
  |tup ds=>
   obtain⟨a,o,vs,k,rfl,ho,hc,hdt,ra⟩:=dj r;have hT:s.TypeIs (.ref a) "tuple":=⟨o,ho,hc⟩
   have hall:∀d∈ds,hkN n d=true:=fun d m=>Yh.mp hd d m
   obtain⟨m,rfl⟩:∃m',m=m' + 1:=⟨m-1,by omega⟩
   unfold ofAClassStatement;refine Yb (Vl hT ?_);show wpAny _ _ ((if("tuple" == "tuple")=true then pure true else isSubtype (.type "tuple") (.type "tuple"))>>=_) Q E s;rw[if_pos (show("tuple" == "tuple")=true by decide)];refine Yb (Yf ?_);show wpAny _ _ (seqItems? (.ref a)>>=_) Q E s;refine Yb (Vj ho hdt ?_);show wpAny _ _ (forIn vs _ _>>=_) Q E s;refine Yb ?_;rw[<-XV];refine Xr _ (fun bD r s'=>r.1=none/\s'=s/\∃left bs,(∀d∈left,hkN n d=true)/\ReadsAll s.heap bD (bC left) bs) _ ?_ ?_ _ _ ⟨rfl,rfl,ds,_,hall,ra⟩
   ·rintro x bD ⟨r1,r2⟩ s' ⟨e,rfl,left,bs,hl,hr⟩;cases left with
    |nil=>cases hr
    |cons d0 left=>
     cases hr with
     |cons h1 h2=>
      refine Yb (ih m (by omega) (hl d0 Yd) h1 ?_);exact Yf ⟨rfl,rfl,left,_,fun d m=>hl d (Yc _ m),h2⟩
   ·rintro⟨r1,r2⟩ s' ⟨e,rfl,_⟩;cases e;exact Yf h
  |_=>cases hd
end
end L2
namespace L2
open PySem PySem.SetTable
structure Rising (xs:Array Nat):Prop where
 lt:∀i j (hi:i<xs.size) (hj:j<xs.size),i<j->xs[i]<xs[j]
theorem jR{xs:Array Nat}{j:Nat}(r:Rising xs):∀(f lo hi:Nat),lo<=hi->hi<=xs.size->hi-lo<=f->(∀i (h:i<xs.size),i<lo->xs[i]<j)->(∀i (h:i<xs.size),hi<=i->j<=xs[i])->
  ∃k,below.go xs j f lo hi=k/\k<=xs.size/\(∀i (h:i<xs.size),i<k->xs[i]<j)/\∀i (h:i<xs.size),k<=i->j<=xs[i]
 |0,lo,hi,h1,h2,h3,h4,h5=>by
  have e:lo=hi:=by omega
  subst e;exact⟨lo,rfl,h2,h4,h5⟩
 |f+1,lo,hi,h1,h2,h3,h4,h5=>by
  unfold below.go;by_cases hlt:lo<hi
  ·rw[if_pos hlt];have hm:(lo+hi)/2<xs.size:=by omega
   have eg:xs.getD ((lo+hi)/2) j=xs[(lo+hi)/2]:=by simp[Array.getD,hm]
   dsimp only;rw[eg];by_cases hc:xs[(lo+hi)/2]<j
   ·rw[if_pos hc];refine jR r f _ _ (by omega) h2 (by omega) (fun i h hi'=>?_) h5;by_cases e:i=(lo+hi)/2
    ·subst e;exact hc
    ·exact Xa (r.lt i _ h hm (by omega)) hc
   ·rw[if_neg hc];refine jR r f _ _ (by omega) (by omega) (by omega) h4 (fun i h hi'=>?_);by_cases e:i=(lo+hi)/2
    ·subst e;omega
    ·exact YD (by omega) (ZG (r.lt _ i hm h (by omega)))
  ·rw[if_neg hlt];have e:lo=hi:=by omega
   subst e;exact⟨lo,rfl,h2,h4,h5⟩
theorem dB{xs:Array Nat}(r:Rising xs)(j:Nat):below xs j<=xs.size/\(∀i (h:i<xs.size),i<below xs j->xs[i]<j)/\∀i (h:i<xs.size),below xs j<=i->j<=xs[i]:=by obtain⟨k,h1,h2,h3,h4⟩:=jR (j:=j) r xs.size 0 xs.size (YF _) (Yl _) (by omega) (fun i h z=>by omega) (fun i h z=>by omega);have e:below xs j=k:=h1;rw[e];exact⟨h2,h3,h4⟩
theorem uX{xs:Array Nat}(r:Rising xs){i:Nat}(h:i<xs.size):below xs xs[i]=i:=by
 obtain⟨h1,h2,h3⟩:=dB r xs[i];apply Zi
 ·rcases XM i (below xs xs[i])with q|q
  ·exact absurd (h2 i h q) (YX _)
  ·exact q
 ·rcases XM (below xs xs[i]) i with q|q
  ·have hb:below xs xs[i]<xs.size:=by omega
   have:=r.lt _ i hb h q;have:=h3 _ hb (Yl _);omega
  ·exact q
theorem lR{t:SetTable}(r:Rising t.place){i j:Nat}(h:t.place[i]?=some j):t.slot j=.live i:=by
 obtain⟨hi,e⟩:=Zg.mp h;unfold slot;have eb:below t.place j=i:=by rw[<-e];exact uX r hi
 dsimp only;rw[eb,h];simp
theorem rg{t:SetTable}(r:Rising t.place)(hd:t.dummies=#[]){j:Nat}(h:j∉t.place):t.slot j=.empty:=by
 unfold slot;dsimp only;have hn:(t.place[below t.place j]? == some j)=false:=by
  cases q:t.place[below t.place j]? with
  |none=>rfl
  |some k=>
   have:k≠j:=fun z=>by subst z;exact h (Zx q)
   simpa using this
 rw[hn];simp only[Zz,Vi];have:has t.dummies j=false:=by unfold has;rw[hd];simp
 rw[this];simp
def kf(mask:Nat)(p:Probe):Probe:=
 if p.more > 0 then{p with j:=p.j+1,more:=p.more-1}else
 let (i,perturb):=leap mask p.i p.perturb
 {p with j:=i,more:=runEnd mask i-i,i,perturb}
def startM(mask:Nat)(h:Int):Probe:=
 let i:=bits h%(mask+1)
 {j:=i,more:=runEnd mask i-i,i,perturb:=bits h,dummy:=none}
def aY(mask:Nat)(p:Probe):Nat->Probe
 |0=>p
 |n+1=>kf mask (aY mask p n)
def at_(mask:Nat)(h:Int)(n:Nat):Nat:=(aY mask (startM mask h) n).j
theorem gW(mask:Nat)(p:Probe)(m:Nat):∀n,aY mask p (m+n)=aY mask (aY mask p m) n
 |0=>rfl
 |n+1=>by show kf mask (aY mask p (m+n))=_;rw[gW mask p m n];rfl
theorem fB(mask:Nat)(p:Probe):∀n,(aY mask p n).dummy=p.dummy
 |0=>rfl
 |n+1=>by
  show(kf mask (aY mask p n)).dummy=_;unfold kf;split
  ·exact fB mask p n
  ·exact fB mask p n
theorem ee(mask:Nat)(p:Probe):∀n,n<=p.more->aY mask p n={p with j:=p.j+n,more:=p.more-n}
 |0,_=>rfl
 |n+1,h=>by
  show kf mask (aY mask p n)=_;rw[ee mask p n (by omega)];unfold kf;have:(p.more-n) > 0:=by omega
  rw[if_pos (show({p with j:=p.j+n,more:=p.more-n}:Probe).more > 0 from this)];simp only[Probe.mk.injEq,and_true,true_and];omega
def cC(mask:Nat)(i perturb:Nat):Nat->Nat×Nat
 |0=>(i,perturb)
 |k+1=>let (i',p'):=cC mask i perturb k;leap mask i' p'
def bh(mask:Nat)(i perturb:Nat)(d:Option Nat):Probe:={j:=i,more:=runEnd mask i-i,i,perturb,dummy:=d}
theorem pF(mask i:Nat):runEnd mask i-i<=9:=by unfold runEnd;split<;>omega
theorem lH(mask i pt:Nat)(d:Option Nat):aY mask (bh mask i pt d) (runEnd mask i-i+1)=bh mask (leap mask i pt).1 (leap mask i pt).2 d:=by show kf mask (aY mask (bh mask i pt d) (runEnd mask i-i))=_;rw[ee mask (bh mask i pt d) (runEnd mask i-i) (Yl _)];unfold kf;rw[if_neg (by show ¬(runEnd mask i-i-(runEnd mask i-i) > 0);omega)];rfl
theorem iq(mask i pt:Nat)(d:Option Nat):∀k,∃n,n<=10*k/\aY mask (bh mask i pt d) n=bh mask (cC mask i pt k).1 (cC mask i pt k).2 d
 |0=>⟨0,Yl _,rfl⟩
 |k+1=>by
  obtain⟨n,h1,h2⟩:=iq mask i pt d k;refine⟨n+(runEnd mask (cC mask i pt k).1-(cC mask i pt k).1+1),?_,?_⟩
  ·have:=pF mask (cC mask i pt k).1;omega
  ·rw[gW,h2,lH];rfl
def lcg(m:Nat)(i:Nat):Nat->Nat
 |0=>i
 |k+1=>(lcg m i k*5+1)%m
theorem gN(m i a:Nat):∀b,lcg m i (a+b)=lcg m (lcg m i a) b
 |0=>rfl
 |b+1=>by show(lcg m i (a+b)*5+1)%m=_;rw[gN m i a b];rfl
def fY(m:Nat):Prop:=(∀j,j<m->∃k,k<m/\lcg m 0 k=j)/\lcg m 0 m=0
theorem su{m:Nat}(hm:0<m)(F:fY m){i j:Nat}(hi:i<m)(hj:j<m):∃k,k<m/\lcg m i k=j:=by
 obtain⟨a,ha,ea⟩:=F.1 i hi;obtain⟨b,hb,eb⟩:=F.1 j hj;by_cases h:a<=b
 ·refine⟨b-a,by omega,?_⟩;rw[<-ea,<-gN,show a+(b-a)=b by omega,eb]
 ·refine⟨m-a+b,by omega,?_⟩;rw[<-ea,<-gN,show a+(m-a+b)=m+b by omega,gN,F.2,eb]
def nV(m:Nat):Nat->Nat->List Nat
 |0,_=>[]
 |n+1,i=>i::nV m n ((i*5+1)%m)
theorem jr(m:Nat):∀(n i k:Nat),k<n->(nV m n i)[k]?=some (lcg m i k)
 |0,_,_,h=>by omega
 |n+1,i,0,_=>rfl
 |n+1,i,k+1,h=>by
  show(nV m n ((i*5+1)%m))[k]?=_;rw[jr m n _ k (by omega)];rw[show k+1=1+k by omega,gN];rfl
theorem nB(m:Nat)(h:((List.range m).all fun j=>(nV m m 0).contains j)=true)(h0:(nV m (m+1) 0)[m]?=some 0):fY m:=by
 refine⟨fun j hj=>?_,?_⟩
 ·have hc:=Yh.mp h j (YJ.mpr hj);have hm:j∈nV m m 0:=by simpa using hc
  obtain⟨k,hk,e⟩:=ZJ hm;have hl:∀n i,(nV m n i).length=n:=by
   intro n;induction n with
   |zero=>intro i;rfl
   |succ n ih=>intro i;show(nV m n _).length+1=n+1;rw[ih]
  have hk':k<m:=by rw[hl]at hk;exact hk
  refine⟨k,hk',?_⟩;have:=jr m m 0 k hk';rw[Yi hk,e]at this;exact(Yr this).symm
 ·rw[jr m (m+1) 0 m (by omega)]at h0;exact Yr h0
theorem zk:fY 8:=nB 8 (by decide) (by decide)
theorem Bn:fY 32:=nB 32 (by decide+kernel) (by decide+kernel)
theorem yu:fY 128:=nB 128 (by decide+kernel) (by decide+kernel)
theorem oO(mask i pt:Nat):∀k,(cC mask i pt k).2=pt/32^k
 |0=>by simp[cC]
 |k+1=>by
  show(cC mask i pt k).2/32=_;rw[oO mask i pt k,Nat.div_div_eq_div_mul,Nat.pow_succ]
theorem gZ(mask i pt:Nat)(a:Nat)(h:pt/32^(a+1)=0):∀k,(cC mask i pt (a+k)).1=lcg (mask+1) (cC mask i pt a).1 k
 |0=>rfl
 |k+1=>by
  show(leap mask (cC mask i pt (a+k)).1 (cC mask i pt (a+k)).2).1=_;unfold leap;rw[oO,gZ mask i pt a h k];have:pt/32^(a+k)/32=0:=by
   rw[Nat.div_div_eq_div_mul,<-Nat.pow_succ];have h1:32^(a+1)<=32^(a+k+1):=Nat.pow_le_pow_right (by omega) (by omega);have h2:pt<32^(a+1):=by
    rcases XM pt (32^(a+1))with q|q
    ·exact q
    ·have:=Nat.div_pos q (Nat.pow_pos (by omega:0<32));omega
   exact Nat.div_eq_of_lt (Ys h2 h1)
  rw[this];rfl
theorem o8(mask i pt:Nat)(h:i<mask+1):∀k,(cC mask i pt k).1<mask+1
 |0=>h
 |k+1=>Vz _ (Xb _)
theorem rD(h:Int):bits h<2^64:=by unfold bits;have h1:=Zb h (by decide:(2^64:Int)≠0);have h2:=YV h (by decide:(0:Int)<2^64);omega
theorem p5(mask:Nat)(h:Int):startM mask h=bh mask (bits h%(mask+1)) (bits h) none:=rfl
theorem uu{mask:Nat}(F:fY (mask+1))(h:Int){j:Nat}(hj:j<=mask):∃k,k<turns mask/\(cC mask (bits h%(mask+1)) (bits h) k).1=j:=by have hz:bits h/32^(12+1)=0:=Nat.div_eq_of_lt (Ys (rD h) (by decide));have hi:bits h%(mask+1)<mask+1:=Vz _ (Xb _);obtain⟨k,hk,ek⟩:=su (Xb mask) F (o8 mask _ (bits h) hi 12) (show j<mask+1 by omega);have e:=gZ mask (bits h%(mask+1)) (bits h) 12 hz k;rw[ek]at e;exact⟨12+k,by unfold turns;omega,e⟩
theorem Bz{mask:Nat}(F:fY (mask+1))(h:Int){j:Nat}(hj:j<=mask):∃n,n<10*turns mask/\at_ mask h n=j:=by
 have hz:bits h/32^(12+1)=0:=Nat.div_eq_of_lt (Ys (rD h) (by decide));have hi:bits h%(mask+1)<mask+1:=Vz _ (Xb _);obtain⟨k,hk,ek⟩:=su (Xb mask) F (o8 mask _ (bits h) hi 12) (show j<mask+1 by omega);have e:=gZ mask (bits h%(mask+1)) (bits h) 12 hz k;rw[ek]at e;obtain⟨n,hn,es⟩:=iq mask (bits h%(mask+1)) (bits h) none (12+k);refine⟨n,?_,?_⟩
 ·unfold turns;omega
 ·unfold at_;rw[p5,es,e];rfl
structure TabOk (hs:Nat->Int) (t:SetTable):Prop where
 rise:Rising t.place
 nod:t.dummies=#[]
 bd:∀j,j∈t.place->j<=t.mask
 odd:t.mask%2=1
 full:fY (t.mask+1)
 room:t.place.size<=t.mask
 reach:∀i j,t.place[i]?=some j->∃n,n<10*turns t.mask/\at_ t.mask (hs i) n=j/\∀m,m<n->at_ t.mask (hs i) m∈t.place
theorem TabOk.fits{hs:Nat->Int}{t:SetTable}(k:TabOk hs t){n:Nat}(h:t.place.size=n):t.fits n=true:=by unfold SetTable.fits fill;rw[k.nod];have:=k.room;simp[h];omega
theorem TabOk.gave{hs:Nat->Int}{t:SetTable}(k:TabOk hs t):t.gaveWay=false:=by unfold SetTable.gaveWay;rw[k.odd];rfl
theorem rh:∀(l m:List Nat),l.Nodup->(∀x∈l,x∈m)->l.length<=m.length
 |[],_,_,_=>YF _
 |x::l,m,nd,h=>by
  have hx:=h x Yd;have hn:=Zh.mp nd;have:=rh l (m.erase x) hn.2 fun y hy=>(List.mem_erase_of_ne (fun(z:y=x)=>hn.1 (z ▸ hy))).mpr (h y (Yc _ hy))
  rw[List.length_erase_of_mem hx]at this;have:=List.length_pos_of_mem hx;rw[Yy];omega
theorem mH{t:SetTable}(r:Rising t.place)(bd:∀j,j∈t.place->j<=t.mask)(room:t.place.size<=t.mask):∃j,j<=t.mask/\j∉t.place:=by
 apply XE;intro hn;have hall:∀j,j<=t.mask->j∈t.place:=fun j hj=>XE fun q=>hn ⟨j,hj,q⟩
 have hsub:∀j∈List.range (t.mask+1),j∈t.place.toList:=fun j hj=>Vt.mpr (hall j (by have:=YJ.mp hj;omega))
 have h:=rh (List.range (t.mask+1)) t.place.toList XH hsub;rw[Zk,YC]at h;omega
theorem TabOk.empty{hs:Nat->Int}{t:SetTable}(k:TabOk hs t)(h:Int):∃n,n<10*turns t.mask/\at_ t.mask h n∉t.place:=by obtain⟨j,h1,h2⟩:=mH k.rise k.bd k.room;obtain⟨n,h3,h4⟩:=Bz k.full h h1;exact⟨n,h3,by rw[h4];exact h2⟩
theorem oN{hs:Nat->Int}{t:SetTable}(k:TabOk hs t){hashAt:Nat->Int}{h:Int}{N:Nat}(hN:at_ t.mask h N∉t.place):∀(f n:Nat),n<=N->N-n<f->
  (∃m,n<=m/\m<=N/\at_ t.mask h m∉t.place/\(∀l,n<=l->l<m->∃i,t.place[i]?=some (at_ t.mask h l)/\hashAt i≠h)/\SetTable.probe.go t hashAt h f (aY t.mask (startM t.mask h) n)=some (.empty (at_ t.mask h m) none)) \/
  ∃m i,n<=m/\m<N/\t.place[i]?=some (at_ t.mask h m)/\hashAt i=h/\(∀l,n<=l->l<m->∃i,t.place[i]?=some (at_ t.mask h l)/\hashAt i≠h)/\SetTable.probe.go t hashAt h f (aY t.mask (startM t.mask h) n)=some (.candidate (at_ t.mask h m) i (aY t.mask (startM t.mask h) (m+1)))
 |0,n,_,h2=>by omega
 |f+1,n,h1,h2=>by
  by_cases hm:at_ t.mask h n∈t.place
  ·obtain⟨i,hi,e⟩:=Vu hm;have hp:t.place[i]?=some (at_ t.mask h n):=by rw[Yq hi,e]
   have hne:n≠N:=fun z=>by subst z;exact hN hm
   have hs:=lR k.rise hp;by_cases hh:hashAt i=h
   ·refine .inr ⟨n,i,Yl _,by omega,hp,hh,fun l a b=>by omega,?_⟩;unfold SetTable.probe.go;rw[show t.slot (aY t.mask (startM t.mask h) n).j=.live i from hs];have hb:(hashAt i == h)=true:=by simpa using hh
    simp only[hb,VR];rfl
   ·have go:SetTable.probe.go t hashAt h (f+1) (aY t.mask (startM t.mask h) n)=SetTable.probe.go t hashAt h f (aY t.mask (startM t.mask h) (n+1)):=by
     conv=>lhs;unfold SetTable.probe.go
     rw[show t.slot (aY t.mask (startM t.mask h) n).j=.live i from hs];have hb:(hashAt i == h)=false:=by simpa using hh
     simp only[hb,Zz,Vi];rfl
    have more:∀{m},(∀l,n+1<=l->l<m->∃i,t.place[i]?=some (at_ t.mask h l)/\hashAt i≠h)->∀l,n<=l->l<m->∃i,t.place[i]?=some (at_ t.mask h l)/\hashAt i≠h:=fun{m} q l a b=>by
     by_cases e:l=n
     ·subst e;exact⟨i,hp,hh⟩
     ·exact q l (by omega) b
    rcases oN k hN f (n+1) (by omega) (by omega)with⟨m,a1,a2,a3,a4,a5⟩|⟨m,i',a1,a2,a3,a4,a5,a6⟩
    ·exact .inl ⟨m,by omega,a2,a3,more a4,by rw[go];exact a5⟩
    ·exact .inr ⟨m,i',by omega,a2,a3,a4,more a5,by rw[go];exact a6⟩
  ·refine .inl ⟨n,Yl _,h1,hm,fun l a b=>by omega,?_⟩;unfold SetTable.probe.go;rw[show t.slot (aY t.mask (startM t.mask h) n).j=.empty from rg k.rise k.nod hm];show some (Met.empty _ (aY t.mask (startM t.mask h) n).dummy)=_;rw[fB];rfl
theorem bt{α:Type}(xs:Array α)(p:Nat)(x:α)(h:p<=xs.size):(insertAt xs p x).size=xs.size+1:=by unfold insertAt;simp;omega
theorem bm{α:Type}(xs:Array α)(p:Nat)(x:α)(h:p<=xs.size)(i:Nat):(insertAt xs p x)[i]?=if i<p then xs[i]? else if i=p then some x else xs[i-1]?:=by
 unfold insertAt;have hs:((xs.extract 0 p).push x).size=p+1:=by simp;omega
 rw[Array.getElem?_append,hs];by_cases h1:i<p
 ·rw[if_pos (by omega),if_pos h1,Array.getElem?_push,if_neg (by simp;omega),Array.getElem?_extract,if_pos (by omega)];simp
 ·rw[if_neg h1];by_cases h2:i=p
  ·rw[if_pos h2,if_pos (by omega),Array.getElem?_push,if_pos (by simp;omega)]
  ·rw[if_neg h2,if_neg (by omega),Array.getElem?_extract];by_cases h3:i-(p+1)<min xs.size xs.size-p
   ·rw[if_pos h3,show p+(i-(p+1))=i-1 by omega]
   ·rw[if_neg h3]
    symm
    rw[Array.getElem?_eq_none_iff];simp at h3;omega
theorem l9{α:Type}{xs:Array α}{p:Nat}{x y:α}(h:p<=xs.size):y∈insertAt xs p x↔y=x\/y∈xs:=by
 constructor
 ·intro hy;obtain⟨i,hi,e⟩:=Vu hy;have q:(insertAt xs p x)[i]?=some y:=by rw[Yq hi,e]
  rw[bm xs p x h]at q;split at q
  ·exact .inr (Zx q)
  ·split at q
   ·cases q;exact .inl rfl
   ·exact .inr (Zx q)
 ·rintro (rfl|hy)
  ·exact Zx (i:=p) (by rw[bm xs p y h,if_neg (YX _),if_pos rfl])
  ·obtain⟨i,hi,e⟩:=Vu hy;have q:xs[i]?=some y:=by rw[Yq hi,e]
   by_cases hp:i<p
   ·exact Zx (i:=i) (by rw[bm xs p x h,if_pos hp,q])
   ·exact Zx (i:=i+1) (by rw[bm xs p x h,if_neg (by omega),if_neg (by omega)];exact q)
def wG(hs:Nat->Int)(p:Nat)(h:Int)(i:Nat):Int:=if i<p then hs i else if i=p then h else hs (i-1)
theorem kW(t:SetTable)(j:Nat):(t.put j).1.place=insertAt t.place (below t.place j) j:=rfl
theorem wz(t:SetTable)(j:Nat):(t.put j).1.mask=t.mask:=rfl
theorem qQ{xs:Array Nat}(r:Rising xs){j:Nat}(hj:j∉xs):Rising (insertAt xs (below xs j) j):=by
 obtain⟨b1,b2,b3⟩:=dB r j;constructor;intro a b ha hb hab;rw[bt xs _ _ b1]at ha hb;have ga:=bm xs (below xs j) j b1 a;have gb:=bm xs (below xs j) j b1 b;rw[Yq (by rw[bt xs _ _ b1];exact ha)]at ga;rw[Yq (by rw[bt xs _ _ b1];exact hb)]at gb;have big:∀i (h:i<xs.size),below xs j<=i->j<xs[i]:=fun i h hi=>by
  have:=b3 i h hi;have:j≠xs[i]:=fun z=>hj (by rw[z];exact Array.getElem_mem h)
  omega
 by_cases c1:a<below xs j
 ·rw[if_pos c1,Yq (by omega)]at ga;have ga:=Yr ga;rw[ga];by_cases c2:b<below xs j
  ·rw[if_pos c2,Yq (by omega)]at gb;rw[Yr gb];exact r.lt a b (by omega) (by omega) hab
  ·rw[if_neg c2]at gb;by_cases c3:b=below xs j
   ·rw[if_pos c3]at gb;rw[Yr gb];exact b2 a (by omega) c1
   ·rw[if_neg c3,Yq (by omega)]at gb;rw[Yr gb];exact r.lt a (b-1) (by omega) (by omega) (by omega)
 ·rw[if_neg c1]at ga;rw[if_neg (by omega),if_neg (by omega),Yq (by omega)]at gb;rw[Yr gb];by_cases c2:a=below xs j
  ·rw[if_pos c2]at ga;rw[Yr ga];exact big (b-1) (by omega) (by omega)
  ·rw[if_neg c2,Yq (by omega)]at ga;rw[Yr ga];exact r.lt (a-1) (b-1) (by omega) (by omega) (by omega)
theorem TabOk.put{hs:Nat->Int}{t:SetTable}(k:TabOk hs t){h:Int}{N:Nat}(hN:N<10*turns t.mask)(he:at_ t.mask h N∉t.place)(hb:∀m,m<N->at_ t.mask h m∈t.place)(hj:at_ t.mask h N<=t.mask)(hr:t.place.size+1<=t.mask) :
  TabOk (wG hs (below t.place (at_ t.mask h N)) h) (t.put (at_ t.mask h N)).1:=by
 obtain⟨b1,b2,b3⟩:=dB k.rise (at_ t.mask h N);have mem:∀y,y∈(t.put (at_ t.mask h N)).1.place↔y=at_ t.mask h N\/y∈t.place:=fun y=>l9 b1
 refine⟨qQ k.rise he,?_,fun j hm=>?_,k.odd,k.full,?_,fun i j hij=>?_⟩
 ·show(if has t.dummies _ then _ else t.dummies)=#[];rw[k.nod];have:has (#[]:Array Nat) (at_ t.mask h N)=false:=by unfold has;simp
  rw[this];rfl
 ·rcases(mem j).mp hm with rfl|q
  ·exact hj
  ·exact k.bd j q
 ·show(insertAt t.place _ _).size<=t.mask;rw[bt _ _ _ b1];exact hr
 ·rw[kW,bm _ _ _ b1]at hij;unfold wG;rw[wz];have old:∀i',t.place[i']?=some j->∃n,n<10*turns t.mask/\at_ t.mask (hs i') n=j/\∀m,m<n->at_ t.mask (hs i') m∈(t.put (at_ t.mask h N)).1.place:=fun i' q=>by
   obtain⟨n,a1,a2,a3⟩:=k.reach i' j q;exact⟨n,a1,a2,fun m hm=>(mem _).mpr (.inr (a3 m hm))⟩
  split at hij
  ·rename_i c;simp only[if_pos c];exact old i hij
  ·rename_i c;simp only[if_neg c];split at hij
   ·rename_i c2;cases hij;simp only[if_pos c2];exact⟨N,hN,rfl,fun m hm=>(mem _).mpr (.inr (hb m hm))⟩
   ·rename_i c2;simp only[if_neg c2];exact old (i-1) hij
theorem iJ(mask i pt:Nat):∀k,cC mask i pt (k+1)=cC mask (leap mask i pt).1 (leap mask i pt).2 k
 |0=>rfl
 |k+1=>by
  show leap mask (cC mask i pt (k+1)).1 (cC mask i pt (k+1)).2=_;rw[iJ mask i pt k];rfl
def own(owner:Array (Option Nat))(j:Nat):Option Nat:=owner.getD j (some 0)
theorem rN{mask:Nat}(owner:Array (Option Nat)):∀(f i pt:Nat),(∃k,k<f/\own owner (cC mask i pt k).1=none)->
  ∃n,n<10*f/\layClean.free mask owner f i pt=some (aY mask (bh mask i pt none) n).j/\own owner (aY mask (bh mask i pt none) n).j=none/\∀m,m<n->own owner (aY mask (bh mask i pt none) m).j≠none
 |0,i,pt,⟨k,hk,_⟩=>by omega
 |f+1,i,pt,⟨k,hk,hn⟩=>by
  unfold layClean.free;have hm:=pF mask i;have hle:i<=runEnd mask i:=by unfold runEnd;split<;>omega
  cases q:(List.range (runEnd mask i+1-i)).find? fun k=>(owner.getD (i+k) (some 0)).isNone with
  |some r=>
   have h1:=List.find?_some q;have h2:=YJ.mp (List.mem_of_find?_eq_some q);have e:(aY mask (bh mask i pt none) r).j=i+r:=by rw[ee mask (bh mask i pt none) r (by show r<=runEnd mask i-i;omega)];rfl
   refine⟨r,by omega,by rw[e],by rw[e];unfold own;simpa using h1,fun m hm'=>?_⟩;have e':(aY mask (bh mask i pt none) m).j=i+m:=by rw[ee mask (bh mask i pt none) m (by show m<=runEnd mask i-i;omega)];rfl
   rw[e'];intro z;obtain⟨_,as,bs,e1,e2⟩:=List.find?_eq_some_iff_append.mp q;have hmem:m∈as:=by
    have hr:(List.range (runEnd mask i+1-i))[m]?=some m:=Xn (by omega);have hlen:as.length=r:=by
     have hx:(List.range (runEnd mask i+1-i))[as.length]?=some r:=by rw[e1];simp
     have hl:as.length<runEnd mask i+1-i:=by have:=Zs List.length e1;simp at this;omega
     rw[Xn hl]at hx;exact Yr hx
    rw[e1,Zq (by omega)]at hr;exact YA hr
   have:=e2 m hmem;unfold own at z;rw[z]at this;simp at this
  |none=>
   have hall:=List.find?_eq_none.mp q;have run:∀m,m<=runEnd mask i-i->(aY mask (bh mask i pt none) m).j=i+m/\own owner (i+m)≠none:=fun m hm'=>by
    refine⟨?_,fun z=>?_⟩
    ·rw[ee mask (bh mask i pt none) m (by show m<=runEnd mask i-i;omega)];rfl
    ·have:=hall m (YJ.mpr (by omega));unfold own at z;rw[z]at this;simp at this
   cases k with
   |zero=>exact absurd (show own owner i=none from hn) (by have:=(run 0 (YF _)).2;simpa using this)
   |succ k=>
    rw[iJ]at hn;obtain⟨n,a1,a2,a3,a4⟩:=rN owner f (leap mask i pt).1 (leap mask i pt).2 ⟨k,by omega,hn⟩;have sh:∀m,aY mask (bh mask i pt none) (runEnd mask i-i+1+m)=aY mask (bh mask (leap mask i pt).1 (leap mask i pt).2 none) m:=fun m=>by
     rw[gW,lH]
    refine⟨runEnd mask i-i+1+n,by omega,by rw[sh];exact a2,by rw[sh];exact a3,fun m hm'=>?_⟩;by_cases c:m<=runEnd mask i-i
    ·rw[(run m c).1];exact(run m c).2
    ·have:m=runEnd mask i-i+1+(m-(runEnd mask i-i+1)):=by omega
     rw[this,sh];exact a4 _ (by omega)
theorem lT{mask i:Nat}(h:i<=mask):runEnd mask i<=mask:=by unfold runEnd;split<;>omega
theorem lD(mask i:Nat):i<=runEnd mask i:=by unfold runEnd;split<;>omega
theorem pJ(mask:Nat)(p:Probe)(h:p.j+p.more<=mask):∀n,(aY mask p n).j+(aY mask p n).more<=mask
 |0=>h
 |n+1=>by
  show(kf mask (aY mask p n)).j+(kf mask (aY mask p n)).more<=mask;have ih:=pJ mask p h n;unfold kf;split
  ·rename_i c;show(aY mask p n).j+1+((aY mask p n).more-1)<=mask;omega
  ·show(leap mask _ _).1+(runEnd mask (leap mask _ _).1-(leap mask _ _).1)<=mask;have hl:(leap mask (aY mask p n).i (aY mask p n).perturb).1<=mask:=Zl (Vz _ (Xb _));have:=lT hl;have:=lD mask (leap mask (aY mask p n).i (aY mask p n).perturb).1;omega
theorem rM(mask:Nat)(h:Int)(n:Nat):at_ mask h n<=mask:=by
 have hi:bits h%(mask+1)<=mask:=Zl (Vz _ (Xb _));have:=pJ mask (startM mask h) (by
  show bits h%(mask+1)+(runEnd mask (bits h%(mask+1))-bits h%(mask+1))<=mask;have:=lT hi;have:=lD mask (bits h%(mask+1));omega) n
 unfold at_;omega
def ow(owner:Array (Option Nat))(j:Nat):Option Nat:=owner.getD j none
theorem q_{owner:Array (Option Nat)}{mask j:Nat}(hs:owner.size=mask+1)(hj:j<=mask):own owner j=ow owner j:=by
 unfold own ow;have:j<owner.size:=by omega
 simp[Array.getD,this]
structure LayInv (mask:Nat) (hashes:List Int) (owner:Array (Option Nat)) (k:Nat):Prop where
 sz:owner.size=mask+1
 lt:∀j a,ow owner j=some a->j<=mask/\a<k
 inj:∀j j' a,ow owner j=some a->ow owner j'=some a->j=j'
 surj:∀a,a<k->∃j,ow owner j=some a
 reach:∀j a,ow owner j=some a->∃h,hashes[a]?=some h/\∃n,n<10*turns mask/\at_ mask h n=j/\∀m,m<n->ow owner (at_ mask h m)≠none
theorem Bm{owner:Array (Option Nat)}{mask j:Nat}(hs:owner.size=mask+1)(hj:j<=mask)(v:Option Nat)(i:Nat):ow (owner.setIfInBounds j v) i=if i=j then v else ow owner i:=by
 unfold ow;have hj':j<owner.size:=by omega
 by_cases h:i=j
 ·subst h;simp[Array.getD,hj']
 ·rw[if_neg h];simp only[YW];rw[Array.getElem?_setIfInBounds_ne (fun z=>h z.symm)]
theorem we{mask:Nat}(F:fY (mask+1)){hashes:List Int}{owner:Array (Option Nat)}{k:Nat}(I:LayInv mask hashes owner k){h:Int}(hk:hashes[k]?=some h)(hm:k<=mask) :
  ∃j,layClean.free mask owner (turns mask) (bits h%(mask+1)) (bits h)=some j/\LayInv mask hashes (owner.setIfInBounds j (some k)) (k+1):=by
 -- some place is free
 have hfree:∃j,j<=mask/\ow owner j=none:=by
  apply XE;intro hn;have hall:∀j,j<=mask->∃a,ow owner j=some a:=fun j hj=>by
   cases q:ow owner j with
   |none=>exact absurd ⟨j,hj,q⟩ hn
   |some a=>exact⟨a,rfl⟩
  have nd:((List.range (mask+1)).map fun j=>(ow owner j).getD 0).Nodup:=by rw[XC,Va];refine List.Pairwise.imp_of_mem ?_ (XC.mp XH);intro a b ha hb hab e;obtain⟨x,hx⟩:=hall a (by have:=YJ.mp ha;omega);obtain⟨y,hy⟩:=hall b (by have:=YJ.mp hb;omega);rw[hx,hy]at e;have e:x=y:=e;subst e;exact hab (I.inj a b x hx hy)
  have:=rh _ (List.range k) nd fun x hx=>by
   obtain⟨j,hj,rfl⟩:=Ym.mp hx;obtain⟨a,ha⟩:=hall j (by have:=YJ.mp hj;omega);rw[ha];exact YJ.mpr (I.lt j a ha).2
  rw[Ye,Zk,Zk]at this;omega
 obtain⟨j0,hj0,ej0⟩:=hfree;obtain⟨r,hr,er⟩:=uu F h hj0;obtain⟨n,a1,a2,a3,a4⟩:=rN (mask:=mask) owner (turns mask) (bits h%(mask+1)) (bits h) ⟨r,hr,by rw[er,q_ I.sz hj0];exact ej0⟩;have hj:at_ mask h n<=mask:=rM mask h n;have e:(aY mask (bh mask (bits h%(mask+1)) (bits h) none) n).j=at_ mask h n:=rfl;rw[e]at a2 a3;rw[q_ I.sz hj]at a3;have sw:=Bm (owner:=owner) I.sz hj (some k);refine⟨_,a2,⟨by rw[Array.size_setIfInBounds];exact I.sz,fun j a q=>?_,fun j j' a q q'=>?_,fun a ha=>?_,fun j a q=>?_⟩⟩
 ·rw[sw]at q;split at q
  ·rename_i c;cases q;exact⟨by rw[c];exact hj,ZP _⟩
  ·have:=I.lt j a q;exact⟨this.1,by omega⟩
 ·rw[sw]at q q';split at q<;>split at q'
  ·rename_i c c';rw[c,c']
  ·cases q;have:=(I.lt j' _ q').2;omega
  ·cases q';have:=(I.lt j _ q).2;omega
  ·exact I.inj j j' a q q'
 ·by_cases c:a=k
  ·exact⟨at_ mask h n,by rw[sw,if_pos rfl,c]⟩
  ·obtain⟨j,ej⟩:=I.surj a (by omega);refine⟨j,?_⟩;rw[sw,if_neg]
   ·exact ej
   ·intro z;rw[z,a3]at ej;cases ej
 ·have keep:∀i,ow owner i≠none->ow (owner.setIfInBounds (at_ mask h n) (some k)) i≠none:=fun i hi=>by
   rw[sw];split
   ·simp
   ·exact hi
  rw[sw]at q;split at q
  ·rename_i c;cases q;refine⟨h,hk,n,a1,c.symm,fun m hm'=>keep _ ?_⟩;have:=a4 m hm';have e':(aY mask (bh mask (bits h%(mask+1)) (bits h) none) m).j=at_ mask h m:=rfl;rw[e',q_ I.sz (rM mask h m)]at this;exact this
  ·obtain⟨h',b1,n',b2,b3,b4⟩:=I.reach j a q;exact⟨h',b1,n',b2,b3,fun m hm'=>keep _ (b4 m hm')⟩
theorem sx{mask:Nat}(F:fY (mask+1)){hashes:List Int}(hm:hashes.length<=mask):∀(bD:List Int) (owner:Array (Option Nat)) (k:Nat),hashes.drop k=bD->k+bD.length=hashes.length->LayInv mask hashes owner k->
  ∃owner',(bD.foldl (fun(acc:Option (Array (Option Nat)×Nat)) h=>do
   let (owner,k) <-acc
   let j <-layClean.free mask owner (turns mask) (bits h%(mask+1)) (bits h)
   pure (owner.setIfInBounds j (some k),k+1)) (some (owner,k)))=some (owner',hashes.length)/\LayInv mask hashes owner' hashes.length
 |[],owner,k,_,hl,I=>by
  have:k=hashes.length:=by simpa using hl
  subst this;exact⟨owner,rfl,I⟩
 |h::bD,owner,k,hd,hl,I=>by
  have hk:hashes[k]?=some h:=by have:=Zs (fun l=>l[0]?) hd;simpa using this
  rw[Yy]at hl;obtain⟨j,e,I'⟩:=we F I hk (by omega);obtain⟨owner',e',I''⟩:=sx F hm bD _ (k+1) (by
   have:=Zs List.tail hd;rw[List.tail_drop]at this;exact this) (by omega) I'
  refine⟨owner',?_,I''⟩;rw[List.foldl_cons,<-e']
  congr 1
  show(layClean.free mask owner (turns mask) (bits h%(mask+1)) (bits h)).bind _=_;rw[e];rfl
theorem s_(mask:Nat)(hashes:List Int):LayInv mask hashes (Array.replicate (mask+1) none) 0:=by
 have e:∀j,ow (Array.replicate (mask+1) (none:Option Nat)) j=none:=fun j=>by
  unfold ow;simp only[YW,Array.getElem?_replicate];split<;>rfl
 refine⟨by simp,fun j a q=>?_,fun j j' a q _=>?_,fun a ha=>by omega,fun j a q=>?_⟩
 all_goals rw[e]at q;cases q
theorem oJ{mask:Nat}(F:fY (mask+1)){hashes:Array Int}(hm:hashes.size<=mask):∃owner,layClean mask hashes=some owner/\LayInv mask hashes.toList owner hashes.size:=by obtain⟨owner,e,I⟩:=sx F (hashes:=hashes.toList) (by simpa using hm) hashes.toList _ 0 rfl (by simp) (s_ mask hashes.toList);refine⟨owner,?_,by simpa using I⟩;unfold layClean;rw[<-Array.foldl_toList,e];rfl
def b_(owner:Array (Option Nat))(mask:Nat):List (Nat×Nat):=(List.range (mask+1)).filterMap fun j=>(ow owner j).map (j,·)
theorem dE{owner:Array (Option Nat)}{mask j a:Nat}:(j,a)∈b_ owner mask↔j<=mask/\ow owner j=some a:=by
 unfold b_;rw[VL];constructor
 ·rintro⟨i,hi,e⟩;have:=YJ.mp hi;cases q:ow owner i with
  |none=>rw[q]at e;cases e
  |some b=>rw[q]at e;cases e;exact⟨by omega,q⟩
 ·rintro⟨h1,h2⟩;exact⟨j,YJ.mpr (by omega),by rw[h2];rfl⟩
theorem lF(owner:Array (Option Nat))(mask:Nat):(b_ owner mask).Pairwise fun x y=>x.1<y.1:=by
 unfold b_;rw[List.pairwise_filterMap];refine List.Pairwise.imp ?_ List.pairwise_lt_range;intro a b hab x hx y hy;cases q:ow owner a with
 |none=>rw[q]at hx;cases hx
 |some u=>
  rw[q]at hx;cases q':ow owner b with
  |none=>rw[q']at hy;cases hy
  |some v=>rw[q']at hy;cases hx;cases hy;exact hab
theorem yr{mask:Nat}(F:fY (mask+1))(ho:mask%2=1){hashes:Array Int}(hm:hashes.size<=mask)(finger moves:Nat)(led plain:Bool) :
  ∃(t:SetTable) (order:Array Nat),laid mask finger moves led plain hashes=some (t,order)/\TabOk (fun i=>hashes.getD (order.getD i 0) 0) t/\t.place.size=hashes.size/\order.toList.Perm (List.range hashes.size)/\t.mask=mask/\t.led=led/\t.plain=plain/\t.moves=moves:=by
 obtain⟨owner,e,I⟩:=oJ F hm;have hl:laid mask finger moves led plain hashes=some ({mask,place:=((b_ owner mask).map (·.1)).toArray,dummies:=#[],finger,led,moves,plain},((b_ owner mask).map (·.2)).toArray):=by unfold laid;rw[e];rfl
 have perm:((b_ owner mask).map (·.2)).Perm (List.range hashes.size):=by
  have nd:((b_ owner mask).map (·.2)).Nodup:=by rw[XC,Va];refine List.Pairwise.imp_of_mem ?_ (lF owner mask);rintro⟨a,x⟩ ⟨b,y⟩ ha hb hab q;have hab:a<b:=hab;have q:x=y:=q;subst q;have:=I.inj a b x (dE.mp ha).2 (dE.mp hb).2;omega
  refine(List.perm_ext_iff_of_nodup nd XH).mpr fun x=>?_;rw[Ym,YJ];constructor
  ·rintro⟨⟨j,a⟩,h,rfl⟩;exact(I.lt j a (dE.mp h).2).2
  ·intro hx;obtain⟨j,ej⟩:=I.surj x hx;exact⟨(j,x),dE.mpr ⟨(I.lt j x ej).1,ej⟩,rfl⟩
 have hsz:(b_ owner mask).length=hashes.size:=by have:=perm.length_eq;simpa using this
 have pm:∀j,j∈((b_ owner mask).map (·.1)).toArray↔j<=mask/\ow owner j≠none:=fun j=>by
  rw[List.mem_toArray,Ym];constructor
  ·rintro⟨⟨j',a⟩,h,rfl⟩;obtain⟨h1,h2⟩:=dE.mp h;exact⟨h1,by rw[h2];simp⟩
  ·rintro⟨h1,h2⟩;cases q:ow owner j with
   |none=>exact absurd q h2
   |some a=>exact⟨(j,a),dE.mpr ⟨h1,q⟩,rfl⟩
 refine⟨_,_,hl,⟨⟨fun i j hi hj hij=>?_⟩,rfl,fun j hj=>((pm j).mp hj).1,ho,F,?_,fun i j hij=>?_⟩,?_,?_,rfl,rfl,rfl,rfl⟩
 ·simp only[Yz,Ye]at hi hj;simp only[List.getElem_toArray,List.getElem_map];exact(XD.mp (lF owner mask)) i j hi hj hij
 ·show((b_ owner mask).map (·.1)).toArray.size<=mask;simp[hsz,hm]
 ·have hij':((b_ owner mask).map (·.1)).toArray[i]?=some j:=hij;simp only[List.getElem?_toArray,Yu]at hij';cases q:(b_ owner mask)[i]? with
  |none=>rw[q]at hij';cases hij'
  |some p=>
   rw[q]at hij';obtain⟨j',a⟩:=p;have hij':j'=j:=Yr hij';subst hij';obtain⟨h1,h2⟩:=dE.mp (YA q);obtain⟨h,b1,n,b2,b3,b4⟩:=I.reach j' a h2;have eh:hashes.getD (((b_ owner mask).map (·.2)).toArray.getD i 0) 0=h:=by
    have e1:((b_ owner mask).map (·.2)).toArray.getD i 0=a:=by simp[YW,q]
    rw[e1];have b1':hashes[a]?=some h:=by rw[<-YM];exact b1
    simp[YW,b1']
   show ∃n,n<10*turns mask/\at_ mask (hashes.getD (((b_ owner mask).map (·.2)).toArray.getD i 0) 0) n=j'/\∀m,m<n->at_ mask (hashes.getD (((b_ owner mask).map (·.2)).toArray.getD i 0) 0) m∈((b_ owner mask).map (·.1)).toArray;rw[eh];exact⟨n,b2,b3,fun m hm'=>(pm _).mpr ⟨rM mask h m,b4 m hm'⟩⟩
 ·simp[hsz]
 ·simpa using perm
end L2
namespace L2
open PySem PySem.Spec PyProof.Rows PySem.SetTable
def jO(d:D):Bool:=hkN 8 d&&okN 8 d&&(match d with|.tup _=>true|_=>false)
theorem br{d:D}(h:jO d=true):hkN 8 d=true/\okN 8 d=true/\∃xs,d=.tup xs:=by
 unfold jO at h;rw[Yo,Yo]at h;refine⟨h.1.1,h.1.2,?_⟩;cases d with
 |tup xs=>exact⟨xs,rfl⟩
 |_=>cases h.2
def KeyAt(h:Heap)(u:Value)(d:D):Prop:=jO d=true/\∃as,Reads h u (bG d) as
theorem KeyAt.ref{h:Heap}{u:Value}{d:D}(k:KeyAt h u d):∃a,u=.ref a:=by obtain⟨k,as,r⟩:=k;obtain⟨_,_,xs,rfl⟩:=br k;obtain⟨a,_,_,_,e,_⟩:=dj r;exact⟨a,e⟩
theorem KeyAt.keeps{h h':Heap}{u:Value}{d:D}(k:KeyAt h u d)(hk:∀b o,h.get? b=some o->h'.get? b=some o):KeyAt h' u d:=by obtain⟨k,as,r⟩:=k;exact⟨k,as,PyProof.Rows.Reads.keeps hk r⟩
section
variable{prog:Program}{w:World}{A:Around}{E:Kv}{s:Shared}
theorem Ac{x y:Value}{dx dy:D}{Q:Kb}(hu:A.units+64<cLine)(hx:KeyAt s.heap x dx)(hy:KeyAt s.heap y dy)(h:Q (eqd dx dy) s):wpAny (model prog w) A (eqBool x y) Q E s:=by obtain⟨k1,as,r1⟩:=hx;obtain⟨k2,bs,r2⟩:=hy;obtain⟨l1,p1⟩:=ce 8 dx (br k1).2.1;obtain⟨l2,p2⟩:=ce 8 dy (br k2).2.1;refine XY _ _ A s x y _ _ r1 r2 l1 l2 ?_ prog w E Q h;have:min (bG dx).depth (bG dy).depth<=(bG dx).depth:=VF _ _;omega
theorem yh{x:Value}{dx:D}(hx:KeyAt s.heap x dx){Q:Kb}:∀{stored:List Value},(∀y∈stored,∃d,KeyAt s.heap y d)->Q false s->wpAny (model prog w) A (searchCouldBeSeen x stored) Q E s:=by
 intro stored hst h;obtain⟨k1,as,r1⟩:=hx;unfold searchCouldBeSeen;refine Yb ?_;refine Xr _ (fun bD r s'=>r.1=none/\s'=s/\∀y∈bD,∃d,KeyAt s.heap y d) _ ?_ ?_ _ _ ⟨rfl,rfl,hst⟩
 ·rintro y bD ⟨r1',r2⟩ s' ⟨e,rfl,hl⟩;obtain⟨d,k2,bs,r2'⟩:=hl y Yd;have hrest:∀y∈bD,∃d,KeyAt s'.heap y d:=fun y m=>hl y (Yc _ m)
  dsimp only;have body:∀(c:Prop) [Decidable c] (Z:Sem (ForInStep (Option Bool×Unit))) (R:ForInStep (Option Bool×Unit)->Shared->Prop),R (.yield (none,())) s'->(∀R',R'=R->wpAny (model prog w) A Z R' E s')->wpAny (model prog w) A (if c then pure (.yield (none,()))else Z) R E s':=by
   intro c _ Z R h1 h2;split
   ·exact Yf h1
   ·exact h2 R rfl
  split
  all_goals
   refine body _ _ _ ⟨rfl,rfl,hrest⟩ ?_;rintro _ rfl;refine Yb (oI 8 8 (Yl _) (br k1).1 r1 ?_);refine Yb (oI 8 8 (Yl _) (br k2).1 r2' ?_);refine Yb (uU 8 8 (Yl _) (br k1).1 r1 ?_);refine Yb (uU 8 8 (Yl _) (br k2).1 r2' ?_);exact Yf ⟨rfl,rfl,hrest⟩
 ·rintro⟨r1',r2⟩ s' ⟨e,rfl,_⟩;cases e;exact Yf h
end
def ms(es:Ka)(i:Nat):Int:=(es[i]?.map (·.1)).getD 0
structure SetAt (Pv:Value->D->Prop) (w:World) (h:Heap) (a:Addr) (es:Array (Int×Value)) (t:SetTable) (ds:List D):Prop where
 obj:∃o ep,h.get? a=some o/\o.ExactSet/\o.data=.set es ep t
 tab:TabOk (ms es) t
 siz:t.place.size=es.size
 len:ds.length=es.size
 its:∀(i:Nat) (e:Int×Value) (d:D),es[i]?=some e->ds[i]?=some d->e.1=aA w d/\KeyAt h e.2 d
 pv:∀(i:Nat) (e:Int×Value) (d:D),es[i]?=some e->ds[i]?=some d->Pv e.2 d
theorem Rising.inj{xs:Array Nat}(r:Rising xs){i k j:Nat}(h1:xs[i]?=some j)(h2:xs[k]?=some j):i=k:=by
 obtain⟨a,e1⟩:=Zg.mp h1;obtain⟨b,e2⟩:=Zg.mp h2;rcases Vc i k with q|q|q
 ·have:=r.lt i k a b q;omega
 ·exact q
 ·have:=r.lt k i b a q;omega
section
variable{Pv:Value->D->Prop}{prog:Program}{w:World}{A:Around}{E:Kv}{s:Shared}
theorem SetAt.state{a:Addr}{es:Ka}{t:SetTable}{ds:List D}(S:SetAt Pv w s.heap a es t ds){Q:(Array (Int×Value)×Nat×SetTable)->Shared->Prop}(h:∀ep,Q (es,ep,t) s) :
  wpAny (model prog w) A (setState a) Q E s:=by
 obtain⟨o,ep,h1,h2,h3⟩:=S.obj;exact Vd h1 h3 (S.tab.fits S.siz) (h ep)
theorem SetAt.key{a:Addr}{es:Ka}{t:SetTable}{ds:List D}{h:Heap}(S:SetAt Pv w h a es t ds){i:Nat}{e:Int×Value}(he:es[i]?=some e):∃d,ds[i]?=some d/\e.1=aA w d/\KeyAt h e.2 d:=by
 obtain⟨hi,_⟩:=Zg.mp he;have hd:i<ds.length:=by rw[S.len];exact hi
 exact⟨ds[i],Yi hd,S.its i e _ he (Yi hd)⟩
def Bw(t:SetTable)(es:Ka)(ds:List D)(h:Int)(dx:D)(l:Nat):Prop:=∃i,t.place[i]?=some (at_ t.mask h l)/\(ms es i≠h\/∃d,ds[i]?=some d/\eqd d dx=false)
theorem ui{a:Addr}{es:Ka}{t:SetTable}{ds:List D}{hp:Heap}(S:SetAt Pv w hp a es t ds){dx:D}{m:Nat}(hEq:∀d∈ds,eqd d dx=true->aA w d=aA w dx)
  (hm:at_ t.mask (aA w dx) m∉t.place) (hg:∀l,l<m->Bw t es ds (aA w dx) dx l):∀d∈ds,eqd d dx=false:=by
 intro d hd;cases q:eqd d dx with
 |false=>rfl
 |true=>
  exfalso;have hh:=hEq d hd q;obtain⟨i,hi,e⟩:=ZJ hd;have hi':i<es.size:=by rw[<-S.len];exact hi
  have hp':i<t.place.size:=by rw[S.siz];exact hi'
  have e1:es[i]?=some es[i]:=Yq hi';have e2:ds[i]?=some d:=by rw[Yi hi,e]
  have e3:t.place[i]?=some t.place[i]:=Yq hp';have hs:ms es i=aA w dx:=by unfold ms;rw[e1];exact(S.its i _ d e1 e2).1.trans hh
  obtain⟨n,n1,n2,n3⟩:=S.tab.reach i _ e3;rw[hs]at n2 n3;rcases Vc n m with z|z|z
  ·obtain⟨k,k1,k2⟩:=hg n z;rw[n2]at k1;have:=S.tab.rise.inj k1 e3;subst this;rcases k2 with k2|⟨d',k2,k3⟩
   ·exact k2 hs
   ·rw[e2]at k2;cases k2;rw[q]at k3;cases k3
  ·subst z;rw[n2]at hm;exact hm (Array.getElem_mem hp')
  ·exact hm (n3 m z)
theorem iD{a:Addr}{es:Ka}{t:SetTable}{ds:List D}(S:SetAt Pv w s.heap a es t ds){x:Value}{dx:D}(hx:KeyAt s.heap x dx)(hu:A.units+64<cLine){Q:SetFound->Shared->Prop}{N:Nat}(hN:N<10*turns t.mask)(hN':at_ t.mask (aA w dx) N∉t.place)
  (hEq:∀d∈ds,eqd d dx=true->aA w d=aA w dx)
  (q1:∀d∈ds,eqd d dx=true->Q (.there none) s)
  (q2:∀m,m<=N->at_ t.mask (aA w dx) m∉t.place->(∀l,l<m->at_ t.mask (aA w dx) l∈t.place)->(∀d∈ds,eqd d dx=false)->Q (.free (at_ t.mask (aA w dx) m) false) s) :
  ∀(f n:Nat) (st:Option Probe),st.getD (t.probeStart (aA w dx))=aY t.mask (startM t.mask (aA w dx)) n->n<=N->N-n<f->(∀l,l<n->Bw t es ds (aA w dx) dx l)->
   wpAny (model prog w) A (setSearchFrom a x (aA w dx) true f st) Q E s
 |0,n,st,_,_,h,_=>by omega
 |f+1,n,st,e,hn,hf,hg=>by
  unfold setSearchFrom;refine Yb (S.state fun ep=>?_);dsimp only;rw[S.tab.gave];simp only[Zz,Vi];rw[e];have gone:∀m,n<=m->(∀l,n<=l->l<m->∃i,t.place[i]?=some (at_ t.mask (aA w dx) l)/\ms es i≠aA w dx)->∀l,l<m->Bw t es ds (aA w dx) dx l:=fun m _ h l hl=>by
   rcases XM l n with z|z
   ·exact hg l z
   ·obtain⟨i,i1,i2⟩:=h l z hl;exact⟨i,i1,.inl i2⟩
  rcases oN S.tab (hashAt:=ms es) hN' (10*turns t.mask) n hn (by omega)with⟨m,m1,m2,m3,m4,m5⟩|⟨m,i,m1,m2,m3,m4,m5,m6⟩
  ·generalize hz:t.probe _ (aA w dx) (aY t.mask (startM t.mask (aA w dx)) n)=z;have hz':z=some (.empty (at_ t.mask (aA w dx) m) none):=hz.symm.trans m5;subst hz';have hgo:=gone m m1 m4;refine Yf (q2 m m2 m3 (fun l hl=>?_) (ui S hEq m3 hgo));obtain⟨i,i1,_⟩:=hgo l hl;exact Zx i1
  ·generalize hz:t.probe _ (aA w dx) (aY t.mask (startM t.mask (aA w dx)) n)=z;have hz':z=some (.candidate (at_ t.mask (aA w dx) m) i (aY t.mask (startM t.mask (aA w dx)) (m+1))):=hz.symm.trans m6;subst hz';have hgo:=gone m m1 m5;have hsl:=lR S.tab.rise m3;have hi:i<es.size:=by rw[<-S.siz];obtain⟨h,_⟩:=Zg.mp m3;exact h
   have e1:es[i]?=some es[i]:=Yq hi;obtain⟨d,e2,e3,e4⟩:=S.key e1;obtain⟨ra,era⟩:=e4.ref;have key:∀(U Z:Sem SetFound),wpAny (model prog w) A Z Q E s->wpAny (model prog w) A (if(!t.led)=true then(do
     let b <-searchCouldBeSeen x (List.map (fun x=>x.snd) (Array.filter (fun x=>x.fst == aA w dx) es).toList)
     if b=true then U else Z)else Z) Q E s:=by
    intro U Z hZ;split
    ·refine Yb (yh hx (fun y hy=>?_) ?_)
     ·obtain⟨p,hp,rfl⟩:=Ym.mp hy;have hp':p∈es:=(Array.mem_filter.mp (Vt.mp hp)).1;obtain⟨k,hk⟩:=Array.getElem?_of_mem hp';obtain⟨d,_,_,h⟩:=S.key hk;exact⟨d,h⟩
     ·rw[if_neg Yj];exact hZ
    ·exact hZ
   refine key _ _ ?_;rw[e1];dsimp only;refine Yb (ZK (Ac hu e4 hx ?_));refine Yb (S.state fun ep'=>?_);dsimp only;cases hq:eqd d dx with
   |true=>exact Yf (q1 d (YA e2) hq)
   |false=>
    rw[Bool.and_false,if_neg Yj];have hsm:t.sameMemory t.moves t.mask=some true:=by unfold sameMemory;rw[if_pos (by simp)]
    rw[hsm];dsimp only;rw[if_pos rfl,hsl];dsimp only;rw[e1];dsimp only;rw[era];refine Yb (wpAny_isSame_ref_self ?_);refine Yb (Yf ?_);rw[if_pos rfl];dsimp only;rw[if_neg Yj];refine iD S hx hu hN hN' hEq q1 q2 f (m+1) _ rfl (by omega) (by omega) fun l hl=>?_;rcases XM l m with z|z
    ·exact hgo l z
    ·have:l=m:=by omega
     subst this;exact⟨i,m3,.inr ⟨d,e2,hq⟩⟩
end
theorem uP:∀(n:Nat) {d e:D},hkN n d=true->hkN n e=true->eqd d e=true->d=e:=by
 intro n;induction n with
 |zero=>
  intro d e hd he h;cases d with
  |int i=>
   cases e with
   |int j=>exact Zs D.int (eq_of_beq h)
   |str y=>cases h
   |_=>cases he
  |str x=>
   cases e with
   |str y=>exact Zs D.str (eq_of_beq h)
   |int j=>cases h
   |_=>cases he
  |_=>cases hd
 |succ n ih=>
  have all:∀ds es:List D,(∀d∈ds,hkN n d=true)->(∀d∈es,hkN n d=true)->PyData.eqvAll (bC ds) (bC es)=true->ds=es:=by
   intro ds;induction ds with
   |nil=>
    intro es _ _ h;cases es with
    |nil=>rfl
    |cons _ _=>cases h
   |cons d ds ihl=>
    intro es h1 h2 h;cases es with
    |nil=>cases h
    |cons e es=>
     have h':(PyData.eqv (bG d) (bG e)&&PyData.eqvAll (bC ds) (bC es))=true:=h;rw[Yo]at h';rw[ih (h1 d Yd) (h2 e Yd) h'.1,ihl es (fun d m=>h1 d (Yc _ m)) (fun d m=>h2 d (Yc _ m)) h'.2]
  intro d e hd he h;cases d with
  |int i=>
   cases e with
   |int j=>exact Zs D.int (eq_of_beq h)
   |str y=>cases h
   |tup y=>cases h
   |_=>cases he
  |str x=>
   cases e with
   |str y=>exact Zs D.str (eq_of_beq h)
   |int j=>cases h
   |tup y=>cases h
   |_=>cases he
  |tup xs=>
   cases e with
   |tup ys=>exact Zs D.tup (all xs ys (fun d m=>Yh.mp hd d m) (fun d m=>Yh.mp he d m) h)
   |int j=>cases h
   |str j=>cases h
   |_=>cases he
  |_=>cases hd
theorem lS{h h':Heap}(hk:∀b o vs n,h.get? b=some o->o.data=.seq vs n->h'.get? b=some o):∀(n:Nat) {d:D}{u:Value}{as:List Addr},hkN n d=true->Reads h u (bG d) as->Reads h' u (bG d) as:=by
 intro n;induction n with
 |zero=>
  intro d u as hd r;cases d with
  |int i=>cases r;exact .int _ _
  |str i=>cases r;exact .str _ _
  |_=>cases hd
 |succ n ih=>
  have all:∀(ds:List D) (us:List Value) (as:List Addr),(∀d∈ds,hkN n d=true)->ReadsAll h us (bC ds) as->ReadsAll h' us (bC ds) as:=by
   intro ds;induction ds with
   |nil=>intro us as _ r;cases r;exact .nil
   |cons d ds ihl=>
    intro us as hl r;cases r with
    |cons h1 h2=>exact .cons (ih (hl d Yd) h1) (ihl _ _ (fun d m=>hl d (Yc _ m)) h2)
  intro d u as hd r;cases d with
  |int i=>cases r;exact .int _ _
  |str i=>cases r;exact .str _ _
  |tup ds=>
   obtain⟨a,o,vs,k,rfl,ho,hc,hdt,ra⟩:=dj r;exact .tuple (hk a o _ _ ho hdt) hc hdt (all ds _ _ (fun d m=>Yh.mp hd d m) ra)
  |_=>cases hd
theorem KeyAt.off{h h':Heap}{u:Value}{d:D}(k:KeyAt h u d){a:Addr}{o:Obj}{es:Ka}{ep:Nat}{t:SetTable}(ho:h.get? a=some o)(hd:o.data=.set es ep t)(hk:∀b,b≠a->h'.get? b=h.get? b):KeyAt h' u d:=by
 obtain⟨k,as,r⟩:=k;refine⟨k,as,lS (fun b o' vs n hb hq=>?_) 8 (br k).1 r⟩;rw[hk b (fun e=>?_)]
 ·exact hb
 ·subst e;rw[ho]at hb;cases hb;rw[hd]at hq;cases hq
theorem KeyAt.same{h h':Heap}{u v:Value}{d e:D}(k:KeyAt h u d)(k':KeyAt h' v e)(q:eqd d e=true):d=e:=uP 8 (br k.1).1 (br k'.1).1 q
def qe(t:SetTable)(n:Nat):Prop:=t.mask=7/\n<=4\/t.mask=31/\n<=18\/t.mask=127/\n<=76
def zd(w:World)(t:SetTable):Prop:=(w.params.followText "set-order"=false->t.led=true)/\t.plain=true
def uC(Pv:Value->D->Prop)(w:World)(h:Heap)(a:Addr)(ds:List D):Prop:=∃es t,SetAt Pv w h a es t ds/\qe t es.size/\zd w t
theorem TabOk.plain{hs:Nat->Int}{t:SetTable}(k:TabOk hs t):TabOk hs {t with plain:=false}:=⟨k.rise,k.nod,k.bd,k.odd,k.full,k.room,k.reach⟩
theorem TabOk.congr{hs hs':Nat->Int}{t:SetTable}(k:TabOk hs t)(e:∀i,i<t.place.size->hs i=hs' i):TabOk hs' t:=
 ⟨k.rise,k.nod,k.bd,k.odd,k.full,k.room,fun i j h=>by
  rw[<-e i (Zg.mp h).1];exact k.reach i j h⟩
def o9{α:Type}(l:List α)(p:Nat)(x:α):List α:=(insertAt l.toArray p x).toList
theorem jI{α:Type}(l:List α)(p:Nat)(x:α)(h:p<=l.length)(i:Nat):(o9 l p x)[i]?=if i<p then l[i]? else if i=p then some x else l[i-1]?:=by unfold o9;rw[YM,bm _ _ _ (by simpa using h)];simp
theorem vk{α:Type}(l:List α)(p:Nat)(x:α)(h:p<=l.length):(o9 l p x).length=l.length+1:=by unfold o9;rw[YC,bt _ _ _ (by simpa using h)];simp
theorem tT{α:Type}:∀(l:List α) (p:Nat) (x:α),p<=l.length->(o9 l p x).Perm (x::l):=by
 intro l p x hp;have e:o9 l p x=l.take p++x::l.drop p:=by
  apply XA;intro i;rw[jI _ _ _ hp,List.getElem?_append];have hl:(l.take p).length=p:=by rw[ZQ];omega
  rw[hl];by_cases h1:i<p
  ·rw[if_pos h1,if_pos h1,List.getElem?_take_of_lt h1]
  ·rw[if_neg h1,if_neg h1];by_cases h2:i=p
   ·subst h2;simp
   ·rw[if_neg h2];obtain⟨k,hk⟩:∃k,i-p=k+1:=⟨i-p-1,by omega⟩
    rw[hk,Xo,List.getElem?_drop]
    congr 1
    omega
 rw[e];refine List.perm_middle.trans ?_;rw[Vn]
section
variable{Pv:Value->D->Prop}{prog:Program}{w:World}{A:Around}{E:Kv}{s:Shared}
theorem SetAt.put{h h':Heap}{a:Addr}{es:Ka}{t:SetTable}{ds:List D}(S:SetAt Pv w h a es t ds){x:Value}{dx:D}(hx:KeyAt h x dx)(px:Pv x dx){N:Nat}(hN:N<10*turns t.mask)(he:at_ t.mask (aA w dx) N∉t.place)
  (hb:∀m,m<N->at_ t.mask (aA w dx) m∈t.place) (hr:es.size+1<=t.mask) (b:Bool)
  (ho:h'=h.update a (Obj.putSet (insertAt es (t.put (at_ t.mask (aA w dx) N)).2 (aA w dx,x)) (if b=true then(t.put (at_ t.mask (aA w dx) N)).1 else{ (t.put (at_ t.mask (aA w dx) N)).1 with plain:=false}))) :
  SetAt Pv w h' a (insertAt es (t.put (at_ t.mask (aA w dx) N)).2 (aA w dx,x)) (if b=true then(t.put (at_ t.mask (aA w dx) N)).1 else{ (t.put (at_ t.mask (aA w dx) N)).1 with plain:=false}) (o9 ds (t.put (at_ t.mask (aA w dx) N)).2 dx)/\∀c,c≠a->h'.get? c=h.get? c:=by
 obtain⟨o,ep,h1,h2,h3⟩:=S.obj;have hT:=S.tab.put hN he hb (rM _ _ _) (by rw[S.siz];exact hr);obtain⟨b1,_,_⟩:=dB S.tab.rise (at_ t.mask (aA w dx) N);rw[S.siz]at b1;have ep2:(t.put (at_ t.mask (aA w dx) N)).2=below t.place (at_ t.mask (aA w dx) N):=rfl;have epl:(t.put (at_ t.mask (aA w dx) N)).1.place.size=es.size+1:=by rw[kW,bt _ _ _ (by rw[S.siz];exact b1),S.siz]
 rw[ep2]at ho ⊢;generalize (t.put (at_ t.mask (aA w dx) N)).1=t1 at *;generalize below t.place (at_ t.mask (aA w dx) N)=p at *;have hd:p<=ds.length:=by rw[S.len];exact b1
 have hoff:∀c,c≠a->h'.get? c=h.get? c:=fun c hc=>by rw[ho];exact YI _ _ _ _ hc
 have hself:∀(es':Ka) (t':SetTable),(h.update a (Obj.putSet es' t')).get? a=some {o with data:=.set es' (ep+1) t' }:=fun es' t'=>by
  have:=YU (Obj.putSet es' t') h1 (by rw[putSet_of es' t' h3];rfl);rw[putSet_of es' t' h3]at this;exact this
 have hT':TabOk (ms (insertAt es p (aA w dx,x))) t1:=hT.congr fun i hi=>by
  unfold wG ms;rw[bm _ _ _ b1];by_cases q1:i<p
  ·rw[if_pos q1,if_pos q1]
  ·rw[if_neg q1,if_neg q1];by_cases q2:i=p
   ·rw[if_pos q2,if_pos q2];rfl
   ·rw[if_neg q2,if_neg q2]
 refine⟨⟨?_,?_,?_,?_,?_,?_⟩,hoff⟩
 ·rw[ho];exact⟨_,_,hself _ _,h2,rfl⟩
 ·cases b with
  |true=>exact hT'
  |false=>exact hT'.plain
 ·rw[bt _ _ _ b1];cases b with
  |true=>exact epl
  |false=>exact epl
 ·rw[vk _ _ _ hd,bt _ _ _ b1,S.len]
 ·intro i e d he' hd';rw[bm _ _ _ b1]at he';rw[jI _ _ _ hd]at hd';by_cases q1:i<p
  ·rw[if_pos q1]at he' hd';obtain⟨z1,z2⟩:=S.its i e d he' hd';exact⟨z1,z2.off h1 h3 hoff⟩
  ·rw[if_neg q1]at he' hd';by_cases q2:i=p
   ·rw[if_pos q2]at he' hd';cases he';cases hd';exact⟨rfl,hx.off h1 h3 hoff⟩
   ·rw[if_neg q2]at he' hd';obtain⟨z1,z2⟩:=S.its (i-1) e d he' hd';exact⟨z1,z2.off h1 h3 hoff⟩
 ·intro i e d he' hd';rw[bm _ _ _ b1]at he';rw[jI _ _ _ hd]at hd';by_cases q1:i<p
  ·rw[if_pos q1]at he' hd';exact S.pv i e d he' hd'
  ·rw[if_neg q1]at he' hd';by_cases q2:i=p
   ·rw[if_pos q2]at he' hd';cases he';cases hd';exact px
   ·rw[if_neg q2]at he' hd';exact S.pv (i-1) e d he' hd'
end
theorem jn{α β:Type}{f:α->Option β}:∀(l:List α),(∀k∈l,(f k).isSome=true)->∀i:Nat,(l.filterMap f)[i]?=(l[i]?).bind f
 |[],_,i=>by simp
 |a::l,h,i=>by
  obtain⟨b,hb⟩:=ZO.mp (h a Yd);rw[XN hb];cases i with
  |zero=>simp[hb]
  |succ i=>rw[Xo,Xo];exact jn l (fun k m=>h k (Yc _ m)) i
theorem p9{α β:Type}{f:α->Option β}:∀(l:List α),(∀k∈l,(f k).isSome=true)->(l.filterMap f).length=l.length
 |[],_=>rfl
 |a::l,h=>by
  obtain⟨b,hb⟩:=ZO.mp (h a Yd);rw[XN hb,Yy,Yy,p9 l fun k m=>h k (Yc _ m)]
theorem wX{α:Type}(l:List α):(List.range l.length).filterMap (fun k=>l[k]?)=l:=by
 have hs:∀k∈List.range l.length,(l[k]?).isSome=true:=fun k hk=>by
  rw[Yi (YJ.mp hk)];rfl
 apply XA;intro i;rw[jn _ hs];by_cases h:i<l.length
 ·rw[Xn h];rfl
 ·rw[ZN (by simpa using Nat.not_lt.mp h),ZN (Nat.not_lt.mp h)];rfl
section
variable{Pv:Value->D->Prop}{prog:Program}{w:World}{A:Around}{E:Kv}{s:Shared}
theorem SetAt.relay{a:Addr}{es:Ka}{t:SetTable}{ds:List D}(S:SetAt Pv w s.heap a es t ds){wanted mask:Nat}(hm:sizeAbove wanted=mask+1)(F:fY (mask+1))(ho:mask%2=1)(hz:es.size<=mask)(hz':mask<=1000){Q:Unit->Shared->Prop}
  (q:∀es' t' ds' h',SetAt Pv w h' a es' t' ds'->t'.mask=mask->t'.led=t.led/\t'.plain=t.plain->es'.size=es.size->ds'.Perm ds->(∀c,c≠a->h'.get? c=s.heap.get? c)->Q () {s with heap:=h' }) :
  wpAny (model prog w) A (setRelay a wanted) Q E s:=by
 obtain⟨t',order,o1,o2,o3,o4,o5,o6,o7,_⟩:=yr F ho (hashes:=es.map (·.1)) (by simpa using hz) t.finger (t.movedTo mask) t.led t.plain;have hl:t.relaid (es.map (·.1)) wanted=some (t',order):=by unfold relaid;rw[hm];exact o1
 have hin:∀k∈order.toList,k<es.size:=fun k hk=>by
  have:=o4.mem_iff.mp hk;simpa using this
 have h1:∀k∈order.toList,(es[k]?).isSome=true:=fun k hk=>by rw[Yq (hin k hk)];rfl
 have h2:∀k∈order.toList,(ds[k]?).isSome=true:=fun k hk=>by rw[Yi (by rw[S.len];exact hin k hk)];rfl
 have osz:order.size=es.size:=by have:=o4.length_eq;simpa using this
 have esL:(order.filterMap fun k=>es[k]?).toList=order.toList.filterMap fun k=>es[k]?:=by simp
 have eget:∀i,(order.filterMap fun k=>es[k]?)[i]?=(order[i]?).bind fun k=>es[k]?:=fun i=>by
  rw[<-YM,esL,jn _ h1,YM]
 have esz:(order.filterMap fun k=>es[k]?).size=es.size:=by rw[<-YC,esL,p9 _ h1,YC,osz]
 obtain⟨o,ep,k1,k2,k3⟩:=S.obj;unfold setRelay;refine Yb (S.state fun ep'=>?_);dsimp only;rw[if_neg (by rw[hm];show ¬(mask+1 > 2^24);omega),hl];refine Yb ?_;show wpAny _ _ (if((order.filterMap fun k=>es[k]?).size != es.size)=true then _ else pure ((order.filterMap fun k=>es[k]?),t')) _ _ _;rw[if_neg (by rw[esz];simp)];refine Yf ?_;dsimp only;have hself:∀(es':Ka) (t':SetTable),(s.heap.update a (Obj.putSet es' t')).get? a=some {o with data:=.set es' (ep+1) t' }:=fun es' t'=>by
  have:=YU (Obj.putSet es' t') k1 (by rw[putSet_of es' t' k3];rfl);rw[putSet_of es' t' k3]at this;exact this
 have hoff:∀c,c≠a->(s.heap.update a (Obj.putSet (order.filterMap fun k=>es[k]?) t')).get? c=s.heap.get? c:=fun c hc=>YI _ _ _ _ hc
 refine Ve k1 k3 (q _ t' (order.toList.filterMap fun k=>ds[k]?) _ ⟨⟨_,_,hself _ _,k2,rfl⟩,o2.congr fun i hi=>?_,?_,?_,fun i e d he hd=>?_,fun i e d he hd=>?_⟩ o5 ⟨o6,o7⟩ esz ?_ hoff) (by rw[esz];show es.size<=2^24;omega)
 ·rw[o3]at hi;have hi':i<order.size:=by rw[osz];simpa using hi
  unfold ms;rw[eget i,Yq hi'];simp[YW,Yq hi']
 ·rw[o3,esz];simp
 ·rw[p9 _ h2,esz,YC,osz]
 ·rw[eget i]at he;rw[jn _ h2,YM]at hd;cases z:order[i]? with
  |none=>rw[z]at he;cases he
  |some k=>
   rw[z]at he hd;obtain⟨z1,z2⟩:=S.its k e d he hd;exact⟨z1,z2.off k1 k3 hoff⟩
 ·rw[eget i]at he;rw[jn _ h2,YM]at hd;cases z:order[i]? with
  |none=>rw[z]at he;cases he
  |some k=>
   rw[z]at he hd;exact S.pv k e d he hd
 ·have p:=List.Perm.filterMap (fun k=>ds[k]?) o4;have e:(es.map (·.1)).size=ds.length:=by rw[Array.size_map,S.len]
  rw[e,wX]at p;exact p
end
theorem wo{d:D}(h:jO d=true):eqd d d=true:=PySem.SeqAt.eqv_refl _ (ce 8 d (br h).2.1).1
theorem yL{hs:Nat->Int}{t:SetTable}(k:TabOk hs t):t.fill=t.place.size:=by unfold SetTable.fill;rw[k.nod];rfl
theorem Ei:sizeAbove (grown 5)=31+1:=by decide+kernel
theorem DT:sizeAbove (grown 19)=127+1:=by decide+kernel
section
variable{Pv:Value->D->Prop}{prog:Program}{w:World}{A:Around}{E:Kv}{s:Shared}
theorem qT{a:Addr}{ds:List D}(S:uC Pv w s.heap a ds){x:Value}{dx:D}(hx:KeyAt s.heap x dx)(px:Pv x dx)(hu:A.units+64<cLine)(hn:ds.length<70){f:Nat}{Q:Kb}(q0:dx∈ds->Q false s)
  (q1:dx∉ds->∀ds' h',uC Pv w h' a ds'->ds'.Perm (dx::ds)->(∀c,c≠a->h'.get? c=s.heap.get? c)->Q true {s with heap:=h' }) :
  wpAny (model prog w) A (setAddHashedIn a x (aA w dx) (f+1)) Q E s:=by
 obtain⟨es,t,S,sz,ld⟩:=S;have hk:∀d∈ds,∃u,KeyAt s.heap u d:=fun d hd=>by
  obtain⟨i,hi,e⟩:=ZJ hd;have hi':i<es.size:=by rw[<-S.len];exact hi
  exact⟨_,(S.its i _ d (Yq hi') (by rw[Yi hi,e])).2⟩
 have hsame:∀d∈ds,eqd d dx=true->d=dx:=fun d hd q=>by
  obtain⟨u,k⟩:=hk d hd;exact k.same hx q
 obtain⟨ax,rfl⟩:=hx.ref;have hlt:es.size<70:=by rw[<-S.len];exact hn
 have hmask:es.size+1<=t.mask/\t.mask<=127:=by rcases sz with⟨h1,h2⟩|⟨h1,h2⟩|⟨h1,h2⟩<;>omega
 obtain⟨N,N1,N2⟩:=S.tab.empty (aA w dx);unfold setAddHashedIn;refine Yb (S.state fun ep=>?_);dsimp only;have hb:byScan (.ref ax) es=false:=rfl;rw[hb,if_neg Yj];refine Yb ?_;unfold setSearch;refine iD S hx hu N1 N2 (fun d hd q=>by rw[hsame d hd q]) (fun d hd q=>?_) (fun m m1 m2 m3 m4=>?_) 100000 0 none rfl (YF _) ?_ (fun l hl=>absurd hl (VG _))
 ·exact Yf (q0 (by rw[<-hsame d hd q];exact hd))
 ·have hni:dx∉ds:=fun hd=>by
   have:=m4 dx hd;rw[wo hx.1]at this;cases this
  have hmN:m<10*turns t.mask:=by omega
  refine Yb (S.state fun ep=>?_);dsimp only;obtain⟨b1,_,_⟩:=dB S.tab.rise (at_ t.mask (aA w dx) m);rw[S.siz]at b1;have tail:wpAny (model prog w) A (do
    storeSet a (insertAt es (t.put (at_ t.mask (aA w dx) m)).2 (aA w dx,Value.ref ax)) (t.put (at_ t.mask (aA w dx) m)).1
    if(!false&&(t.put (at_ t.mask (aA w dx) m)).1.tooFull)=true then(do
     setRelay a (grown (es.size+1))
     pure true)else pure true) Q E s:=by
   obtain⟨S',hoff⟩:=S.put hx px hmN m2 m3 hmask.1 true rfl;obtain⟨o,ep',k1,k2,k3⟩:=S.obj;have hp:(t.put (at_ t.mask (aA w dx) m)).2<=ds.length:=by rw[S.len];exact b1
   have pm:=tT ds _ dx hp;have hmk:(t.put (at_ t.mask (aA w dx) m)).1.mask=t.mask:=rfl;have ld':zd w (t.put (at_ t.mask (aA w dx) m)).1:=ld;rw[if_pos rfl]at S';have hsz:(insertAt es (t.put (at_ t.mask (aA w dx) m)).2 (aA w dx,Value.ref ax)).size=es.size+1:=bt _ _ _ b1;generalize (t.put (at_ t.mask (aA w dx) m)).1=tb at *;generalize insertAt es (t.put (at_ t.mask (aA w dx) m)).2 (aA w dx,Value.ref ax)=es1 at *;generalize o9 ds (t.put (at_ t.mask (aA w dx) m)).2 dx=ds1 at *;have hfl:tb.fill=es.size+1:=by rw[yL S'.tab,S'.siz,hsz]
   refine Yb (Ve k1 k3 ?_ (by rw[hsz];show es.size+1<=2^24;omega));have again:∀mask:Nat,sizeAbove (grown (es.size+1))=mask+1->fY (mask+1)->mask%2=1->es.size+1<=mask->mask<=1000->(∀t':SetTable,t'.mask=mask->qe t' (es.size+1))->
     wpAny (model prog w) A (do
      setRelay a (grown (es.size+1))
      pure true) Q E {s with heap:=s.heap.update a (Obj.putSet es1 tb)}:=by
    intro mask c1 c2 c3 c4 c5 c6;refine Yb (SetAt.relay (s:={s with heap:=s.heap.update a (Obj.putSet es1 tb)}) S' c1 c2 c3 (by rw[hsz];exact c4) c5 fun es' t' ds' h' S2 z1 zl z2 z3 z4=>?_);refine Yf (q1 hni ds' h' ⟨es',t',S2,?_,fun z=>zl.1.trans (ld'.1 z),zl.2.trans ld'.2⟩ (z3.trans pm) fun c hc=>(z4 c hc).trans (hoff c hc));rw[z2,hsz];exact c6 t' z1
   have stay:qe tb (es.size+1)->Q true {s with heap:=s.heap.update a (Obj.putSet es1 tb)}:=fun h=>q1 hni ds1 _ ⟨es1,tb,S',by rw[hsz];exact h,ld'⟩ pm hoff
   have tf:tb.tooFull=decide ((es.size+1)*5 ≥ t.mask*3):=by unfold tooFull;rw[hfl,hmk]
   rw[tf,Bool.not_false,Vv];rcases sz with⟨h1,h2⟩|⟨h1,h2⟩|⟨h1,h2⟩
   ·rw[h1];rcases XM es.size 4 with z|z
    ·rw[if_neg (by simp;omega)];exact Yf (stay (.inl ⟨hmk.trans h1,by omega⟩))
    ·have e4:es.size=4:=by omega
     rw[if_pos (by simp;omega)];exact again 31 (by rw[e4];exact Ei) Bn rfl (by omega) (by omega) fun t' h=>.inr (.inl ⟨h,by omega⟩)
   ·rw[h1];rcases XM es.size 18 with z|z
    ·rw[if_neg (by simp;omega)];exact Yf (stay (.inr (.inl ⟨hmk.trans h1,by omega⟩)))
    ·have e4:es.size=18:=by omega
     rw[if_pos (by simp;omega)];exact again 127 (by rw[e4];exact DT) yu rfl (by omega) (by omega) fun t' h=>.inr (.inr ⟨h,by omega⟩)
   ·rw[h1,if_neg (by simp;omega)];exact Yf (stay (.inr (.inr ⟨hmk.trans h1,by omega⟩)))
  obtain⟨as,rx⟩:=hx.2;split
  ·exact Yb (vg 8 8 (Yl _) (br hx.1).1 rx tail)
  ·exact Yb (Yf tail)
 ·have:turns t.mask=t.mask+15:=rfl;omega
end
noncomputable def aL (ds:List D):List D:=ds.foldl (fun acc d=>open Classical in if d∈acc then acc else acc++[d]) []
theorem dm(ds:List D)(d:D):aL (ds++[d])=(open Classical in if d∈aL ds then aL ds else aL ds++[d]):=by unfold aL;rw[List.foldl_append];rfl
theorem c0(ds:List D):(aL ds).length<=ds.length:=by
 have:∀n,∀ds:List D,ds.length=n->(aL ds).length<=n:=by
  intro n;induction n with
  |zero=>intro ds h;rw[YY.mp h];exact Yl _
  |succ n ih=>
   intro ds h;have hne:ds≠[]:=fun e=>by rw[e]at h;cases h
   rw[<-List.dropLast_concat_getLast hne,dm];have:=ih ds.dropLast (by rw[List.length_dropLast];omega);split
   ·omega
   ·rw[Yt,YQ];omega
 exact this _ ds rfl
def SetHas(Pv:Value->D->Prop)(w:World)(h:Heap)(a:Addr)(ds:List D):Prop:=∃ds',uC Pv w h a ds'/\ds'.Perm (aL ds)
theorem SetHas.move{Pv:Value->D->Prop}{w:World}{h h':Heap}{a:Addr}{ds:List D}(S:SetHas Pv w h a ds)(ha:∀o,h.get? a=some o->h'.get? a=some o)(hk:∀b o vs n,h.get? b=some o->o.data=.seq vs n->h'.get? b=some o):SetHas Pv w h' a ds:=by
 obtain⟨ds',⟨es,t,S,sz,ld⟩,p⟩:=S;refine⟨ds',⟨es,t,⟨?_,S.tab,S.siz,S.len,fun i e d he hd=>?_,S.pv⟩,sz,ld⟩,p⟩
 ·obtain⟨o,ep,h1,h2,h3⟩:=S.obj;exact⟨o,ep,ha o h1,h2,h3⟩
 ·obtain⟨z1,z2,as,z3⟩:=S.its i e d he hd;exact⟨z1,z2,as,lS hk 8 (br z2).1 z3⟩
section
variable{Pv:Value->D->Prop}{prog:Program}{w:World}{A:Around}{R:Kr}{I:Addr}{fp wr:List Addr}{G:Array GenState->Array GenState->Prop}{n:Nat}{P:Nat->Value->Prop}{St:Nat->Shared->Prop}
theorem yb{E:Kv}{s:Shared}{a:Addr}{ds:List D}(S:SetHas Pv w s.heap a ds){x:Value}{dx:D}(hx:KeyAt s.heap x dx)(px:Pv x dx)(hu:A.units+64<cLine)(hn:ds.length<70){Q:Kb}
  (q:∀b h' tk,s.toks<=tk->SetHas Pv w h' a (ds++[dx])->(∀c,c≠a->h'.get? c=s.heap.get? c)->Q b {s with heap:=h',toks:=tk}) :
  wpAny (model prog w) A (setAdd a x) Q E s:=by
 obtain⟨ds',S,p⟩:=S;obtain⟨as,rx⟩:=hx.2;unfold setAdd;refine ZK (Yb (yX 8 (by omega) (br hx.1).1 rx fun tk htk=>?_));unfold setAddHashed;refine ZK ?_;have hl:ds'.length<70:=by rw[p.length_eq];exact ZB (c0 ds) hn
 refine qT (s:={s with toks:=tk}) (f:=99999) S hx px hu hl (fun hd=>?_) fun hd ds2 h' S2 p2 off=>?_
 ·refine q false s.heap tk htk ⟨ds',S,?_⟩ fun c _=>rfl;rw[dm,if_pos (p.mem_iff.mp hd)];exact p
 ·refine q true h' tk htk ⟨ds2,S2,?_⟩ off;rw[dm,if_neg (fun z=>hd (p.mem_iff.mpr z))];exact p2.trans ((List.Perm.cons dx p).trans (List.perm_append_singleton dx _).symm)
theorem vA(W:WalksS prog w A.in1 I fp wr G n P St)(S:Addr)(hSf:S∉fp)(h0:Heap)(hnew:∀b o,h0.get? b=some o->b∉S::wr)
  (hI:∀i s,St i s->∀b∈wr,∀o vs k,s.heap.get? b=some o->o.data≠.seq vs k)
  (ds:List D) (hn:ds.length=n) (hn70:n<70) (hval:∀i v,P i v->∃d,ds[i]?=some d/\KeyAt h0 v d/\Pv v d) (hu:A.units+70<cLine) :
  ∀(k i:Nat) (s:Shared),n-i=k->i<=n->St i s->(∀b o,h0.get? b=some o->s.heap.get? b=some o)->SetHas Pv w s.heap S (ds.take i)->
   (∀s',Moved (S::wr) G s s'->SetHas Pv w s'.heap S ds->R (.ok (.ret .none)) s')->
   codeAny (model prog w) A (.builtin "set.update.loop" ⟨[.ref S,.ref I],[]⟩) R s:=by
 have hSw:S∉wr:=fun h=>hSf (W.sub _ h)
 have hsub:∀b∈wr,b∈S::wr:=fun b hb=>Yc _ hb
 have mv:∀{i:Nat}{s s':Shared}{l:List D},St i s->Moved wr G s s'->SetHas Pv w s.heap S l->SetHas Pv w s'.heap S l:=fun st m h=>
  h.move (fun o e=>m.heap S o hSw e) fun b o vs k e z=>m.heap b o (fun hb=>hI _ _ st b hb o vs k e z) e
 intro k;induction k with
 |zero=>
  intro i s hk hi hst h0s hS hR;have hin:i=n:=by omega
  subst hin;refine Zn Xp ?_;rw[ZF ZD _];show wpAny _ A.in1 (pyNext (.ref I)>>=_) _ _ s;refine Yb (W.done s _ _ hst fun s' hm=>?_);show wpAny _ A.in1 (ret Value.none) _ _ s';refine Yf (hR s' (hm.mono hsub) (mv hst hm ?_));rw[<-hn,XI]at hS;exact hS
 |succ k ih=>
  intro i s hk hi hst h0s hS hR;have hlt:i<n:=by omega
  refine Zn Xp ?_;rw[ZF ZD _];show wpAny _ A.in1 (pyNext (.ref I)>>=_) _ _ s;refine Yb (W.item i s _ _ hlt hst fun v s' hP hst' hm=>?_);obtain⟨d,hd,kv,pv⟩:=hval i v hP;have h0s':∀b o,h0.get? b=some o->s'.heap.get? b=some o:=fun b o e=>hm.heap b o (fun hb=>hnew b o e (hsub b hb)) (h0s b o e)
  show wpAny _ A.in1 (holding [v] (setAdd S v)>>=_) _ _ s';refine Yb (ZK (yb (mv hst hm hS) (kv.keeps h0s') pv (by show A.units+1+64<cLine;omega) (by rw[ZQ];omega) fun b h' tk htk hS2 off=>?_));have et:ds.take i++[d]=ds.take (i+1):=by rw[Vf,hd];rfl
  rw[et]at hS2;refine Yf ⟨Vx ZD _,ih (i+1) _ (by omega) hlt (W.frame _ s' _ _ hst' htk fun b hb o e=>?_) (fun b o e=>?_) hS2 fun s'' hm'' hS''=>?_⟩
  ·rw[off b (fun h:b=S=>hSf (by rw[<-h];exact hb))];exact e
  ·show h'.get? b=some o;rw[off b (fun h:b=S=>hnew b o e (by rw[h];exact Yd))];exact h0s' b o e
  ·refine hR s'' (Moved.trans W.gtrans ((hm.mono hsub).then_heap htk fun b o hb e=>?_) hm'') hS'';rw[off b (fun h:b=S=>hb (by rw[h];exact Yd))];exact e
end
end L2
namespace L2
open PySem PySem.Spec PyProof.Rows
abbrev eO(w:World):Obj:={cls:=.type "set",dict:=none,data:=.set #[] 0 (.fresh 0 0 (!w.params.followText "set-order"))}
abbrev zM(l:Addr):Obj:={cls:=.type "list_iterator",data:=.fields #[.ref l,.int 0 0]}
section
variable{prog:Program}{w:World}{A:Around}{E:Kv}{s:Shared}
theorem oF(x:Value){Q₁:Kv}(q:Q₁ (.ref s.heap.objs.size) {s with heap:=s.heap.push (eO w)}) :
  codeAny (model prog w) A (.call (.builtin "set.__new__") ⟨[.type "set",x],[]⟩) (wants Q₁ E) s:=by
 refine codeAny_of_tree (Yb (m:=checkBuiltinCall "set.__new__" ⟨[.type "set",x],[]⟩) (wpAny_of_eq (F.newCall_set_1 x) (Yf ⟨Vx F.plain_set_new _,Zn F.entry_set_new ?_⟩)));rw[ZF F.plain_set_new ⟨[.type "set",x],[]⟩];unfold Builtin.«set.__new__» Builtin.Frozenset.newClass;have hself:=sub_set_self;obtain⟨hp,gg,dd,tt,oo⟩:=s;dsimp only;wp_walk;refine wpAny_askSetting (Yf ?_);dsimp only;simp only[newObj];exact Yb (wpAny_alloc (Yf (Yf q)))
theorem gs{l:Addr}{items:Array Value}{Z:Heap->Prop}{Q:Kv}(hl:s.heap.IsList l items)
  (loop:∀R:Result->Shared->Prop,(∀h' tk,Z h'->(∀b o,s.heap.get? b=some o->h'.get? b=some o)->R (.ok (.ret .none)) {s with heap:=h',toks:=tk})->
   codeAny (model prog w) A.in1.in1 (.builtin "set.update.loop" ⟨[.ref s.heap.objs.size,.ref (s.heap.push (eO w)).objs.size],[]⟩) R {s with heap:=(s.heap.push (eO w)).push (zM l)})
  (q:∀h' tk,Z h'->(∀b o,s.heap.get? b=some o->h'.get? b=some o)->Q (.ref s.heap.objs.size) {s with heap:=h',toks:=tk}) :
  wpAny (model prog w) A (call (.type "set") [.ref l]) Q E s:=by
 have ft:=F.called_set;obtain⟨m0,mr,hm⟩:=ft.mro;have y1:=ft.made;have y2:=ft.sub;have y3:=ft.notType;have y4:=ft.canCreate;have y5:=F.typeCall_set_1 (.ref l);refine wpAny_call (codeAny_of_tree ?_);show wpAny _ _ (callAny (.type "set") ⟨[.ref l],[]⟩) _ _ _;refine Yf ⟨XU _ (by decide+kernel),Zn F.entry_type_call ?_⟩;rw[Around.under_plain (weight_type_call_type "set" [.ref l] []) rfl]
 repeat any_goals first|assumption|wp_step
 refine VM (oF (.ref l) (E:=E) (Q₁:=fun obj s₁=>obj=.ref s.heap.objs.size/\s₁={s with heap:=s.heap.push (eO w)}) ⟨rfl,rfl⟩) fun r s₁ hr=>?_;cases r with
 |error e=>exact hr
 |ok fl=>
  cases fl with
  |ret obj=>
   obtain⟨rfl,rfl⟩:=hr;have hS:(s.heap.push (eO w)).get? s.heap.objs.size=some (eO w):=Yn _ rfl;have hT:Shared.TypeIs {s with heap:=s.heap.push (eO w)} (.ref s.heap.objs.size) "set":=⟨_,hS,rfl⟩
   have y6:=ft.init.lookup;have y7:=ft.init.bind (.ref s.heap.objs.size)
   repeat any_goals first|assumption|wp_step
   refine VM (codeAny_call_builtin (R:=wants (fun r s₂=>r=.none/\∃h' tk,s₂={s with heap:=h',toks:=tk}/\Z h'/\∀b o,s.heap.get? b=some o->h'.get? b=some o) E) ft.init.plain F.entry_set_init (check_set_init_1 hT ?_)) fun r₂ s₂ hr₂=>?_
   ·obtain⟨⟨cl,dc,dt,sl⟩,e1,e2,nl,e3⟩:=hl;simp only at e2 e3;subst e2 e3;have e1':(s.heap.push (eO w)).get? l=some {cls:=.type "list",dict:=dc,data:=.seq items nl,slots:=sl}:=Yg _ e1;have z1:=F.sub_list_set;have z2:=F.sub_list_frozenset;have z3:(Value.type "list" == Value.type "dict")=false:=by decide
    have hl1:(s.heap.push (eO w)).IsList l items:=⟨_,e1',rfl,nl,rfl⟩
    unfold Builtin.«set.__init__» noKeywords Builtin.Frozenset.updateFrom;generalize hPI:pyIter=PI
    wp_walk
    subst hPI;refine wpAny_pyIter_list hl1 (Yb (wpAny_runValue (loop _ fun h' tk hZ hk=>?_)));show wpAny _ _ _ _ _ _;exact Yf (show wpAny _ _ (ret Value.none) _ _ _ from Yf ⟨rfl,h',tk,rfl,hZ,hk⟩)
   ·cases r₂ with
    |error e=>exact hr₂
    |ok fl₂=>
     cases fl₂ with
     |ret v=>
      obtain⟨rfl,h',tk,rfl,hZ,hk⟩:=hr₂
      repeat any_goals first|assumption|wp_step
      exact q _ _ hZ hk
     |_=>exact hr₂.elim
  |_=>exact hr.elim
end
end L2
namespace L2
open PySem PySem.Spec PyProof.Rows PySem.SetTable
theorem yI{α:Type}(next:Nat->Nat):∀(f k:Nat) (left:List α) (out:Array α),left.length<=f->(pickOrder.go next f k left out).toList.Perm (out.toList++left):=by
 intro f;induction f with
 |zero=>
  intro k left out h;obtain rfl:left=[]:=YY.mp (by omega);rw[Za];exact Xt _
 |succ f ih=>
  intro k left out h;unfold pickOrder.go;split
  ·rename_i x hx;obtain⟨hl,ex⟩:=Yk.mp hx;refine(ih (k+1) _ _ (by rw[List.length_eraseIdx_of_lt hl];omega)).trans ?_;rw[Array.toList_push,Xi,<-ex];refine List.Perm.append_left _ ?_;show((left[next k%left.length]::left.eraseIdx (next k%left.length))).Perm left;rw[Vg];have:=Vn (next k%left.length) left;refine List.Perm.trans ?_ (List.Perm.of_eq this);rw[Xe hl];exact List.perm_middle.symm
  ·rename_i hx;have hz:left.length=0:=by
    rcases Nat.eq_zero_or_pos left.length with z|z
    ·exact z
    ·have:=List.getElem?_eq_none_iff.mp hx;have:=Vz (next k) z;omega
   obtain rfl:left=[]:=YY.mp hz;rw[Za]
theorem uk{α:Type}(next:Nat->Nat)(xs:Array α):(pickOrder next xs).toList.Perm xs.toList:=by
 have:=yI next xs.size 0 xs.toList #[] (by simp)
 simpa[pickOrder]using this
def dX(w:World)(S:Addr)(ep:Nat)(es:Ka):Array (Int×Value):=if w.params.followText "set-order"=true then pickOrder (w.params.setOrder S ep) es else es
theorem lN(w:World)(S:Addr)(ep:Nat)(es:Ka):(dX w S ep es).toList.Perm es.toList:=by
 unfold dX;split
 ·exact uk _ _
 ·exact Xt _
theorem ij(w:World)(S:Addr)(ep:Nat)(es:Ka):(dX w S ep es).size=es.size:=by have:=(lN w S ep es).length_eq;simpa using this
structure SObj (w:World) (h:Heap) (S:Addr) (es:Array (Int×Value)) (ep:Nat) (t:SetTable):Prop where
 obj:∃o,h.get? S=some o/\o.cls=.type "set"/\o.data=.set es ep t
 fits:t.fits es.size=true
 siz:t.place.size=es.size
 rise:w.params.followText "set-order"=false->Rising t.place
 led:w.params.followText "set-order"=false->t.led=true
 plain:w.params.followText "set-order"=false->(!t.plain&&decide (es.size > 1))=false
def uL(h:Heap)(I S:Addr)(slot i n ep:Nat):Prop:=∃o,h.get? I=some o/\o.cls=.type "set_iterator"/\o.data=.fields #[.int slot 0,.int i 0,.ref S,.int n 0,.int ep 0]
theorem a9:Slot "set_iterator" "__next__" "set_iterator.__next__":=.of (owner := "set_iterator") (n := "__next__") (by rw[typeLookup_type,builtinLookup_eq_fast];kernel_rfl) (by decide+kernel) (by decide+kernel) (by decide+kernel) (by first|exact .inl (by decide+kernel)|exact .inr (by decide+kernel)) (by rw[isSubtype_type];kernel_rfl)
theorem cR:entryFor table "set_iterator.__next__"=some Builtin.«set_iterator.__next__»:=entryFor_of_fast (by kernel_rfl)
theorem dh(x:Value):argsOk "set_iterator.__next__" ⟨[x],[]⟩:=by unfold argsOk;kernel_rfl
theorem de:Slot "set_iterator" "__iter__" "set_iterator.__iter__":=.of (owner := "set_iterator") (n := "__iter__") (by rw[typeLookup_type,builtinLookup_eq_fast];kernel_rfl) (by decide+kernel) (by decide+kernel) (by decide+kernel) (by first|exact .inl (by decide+kernel)|exact .inr (by decide+kernel)) (by rw[isSubtype_type];kernel_rfl)
theorem fM:entryFor table "set_iterator.__iter__"=some Builtin.«dict_keyiterator.__iter__»:=entryFor_alias (id' := "dict_keyiterator.__iter__") (by kernel_rfl) (by rfl) (by decide+kernel) (by kernel_rfl)
theorem gH(x:Value):argsOk "set_iterator.__iter__" ⟨[x],[]⟩:=by unfold argsOk;kernel_rfl
theorem gL:entryFor table "set.__iter__"=some Builtin.«frozenset.__iter__»:=entryFor_alias (id' := "frozenset.__iter__") (by kernel_rfl) (by rfl) (by decide+kernel) (by kernel_rfl)
theorem jK:isSubtype (.type "StopIteration") (.type "StopIteration")=pure true:=by rw[isSubtype_type];kernel_rfl
section
variable{prog:Program}{w:World}{A:Around}{E:Kv}{s:Shared}
variable{S I:Addr}{es:Ka}{ep:Nat}{t:SetTable}
theorem SObj.state(K:SObj w s.heap S es ep t){Q:(Array (Int×Value)×Nat×SetTable)->Shared->Prop}(h:Q (es,ep,t) s):wpAny (model prog w) A (setState S) Q E s:=by obtain⟨o,h1,h2,h3⟩:=K.obj;exact Vd h1 h3 K.fits h
theorem SObj.entries(K:SObj w s.heap S es ep t){Q:Array (Int×Value)->Shared->Prop}(h:Q es s):wpAny (model prog w) A (setEntries S) Q E s:=by unfold setEntries;exact Yb (K.state (Yf h))
theorem SObj.epoch(K:SObj w s.heap S es ep t){Q:Nat->Shared->Prop}(h:Q ep s):wpAny (model prog w) A (setEpoch S) Q E s:=by unfold setEpoch;exact Yb (K.state (Yf h))
theorem i7{Q:Kb}(h:Q (w.params.followText "set-order") s):wpAny (model prog w) A setsByText Q E s:=by unfold setsByText;exact Yb (wpAny_askSetting (Yf h))
theorem sG(K:SObj w s.heap S es ep t){slot i:Nat}(hs:w.params.followText "set-order"=false->below t.place slot=i){Q:Option (Value×Nat)->Shared->Prop}
  (h1:∀e slot',(dX w S ep es)[i]?=some e->(w.params.followText "set-order"=false->below t.place slot'=i+1)->Q (some (e.2,slot')) s) (h2:(dX w S ep es)[i]?=none->Q none s) :
  wpAny (model prog w) A (setNext S slot i ep) Q E s:=by
 unfold setNext;refine Yb (K.state ?_);dsimp only;refine Yb (i7 ?_);cases hb:w.params.followText "set-order" with
 |true=>
  rw[if_pos rfl,if_neg (by simp)];refine Yb ?_;unfold setWalk;refine Yb (K.state ?_);dsimp only;refine Yb (i7 ?_);rw[hb,if_pos rfl];refine Yb (wpAny_askSetting (Yf (Yf ?_)));have eo:dX w S ep es=pickOrder (w.params.setOrder S ep) es:=by unfold dX;rw[if_pos hb]
  show Q (((pickOrder (w.params.setOrder S ep) es)[i]?).map fun e=>(e.2,slot)) s;rw[<-eo];cases q:(dX w S ep es)[i]? with
  |none=>exact h2 q
  |some e=>exact h1 e slot q fun z=>by rw[hb]at z;cases z
 |false=>
  rw[if_neg Yj];have eo:dX w S ep es=es:=by unfold dX;rw[if_neg (by rw[hb];exact Yj)]
  rw[eo]at h1 h2;have hd:((!t.plain)&&decide (es.size > 1))=false:=K.plain hb;have hl:=K.led hb;have hi:=hs hb;show wpAny _ _ (if((!t.plain)&&decide (es.size > 1))=true then _ else _) _ _ _;rw[hd,if_neg Yj];refine Yb ?_;show wpAny _ _ (if((!t.led)&&!es.isEmpty)=true then _ else _) _ _ _;rw[hl,if_neg (by simp)];refine Yf ?_;show wpAny _ _ (pure (match es[below t.place slot]?,t.place[below t.place slot]? with
   |some (_,x),some j=>some (x,j+1)
   |_,_=>none)) _ _ _
  rw[hi];refine Yf ?_;cases q:es[i]? with
  |none=>exact h2 q
  |some e=>
   have hlt:i<t.place.size:=by rw[K.siz];exact(Zg.mp q).1
   rw[Yq hlt];refine h1 e (t.place[i]+1) q fun _=>?_;obtain⟨b1,b2,b3⟩:=dB (K.rise hb) (t.place[i]+1);generalize below t.place (t.place[i]+1)=b at b1 b2 b3;rcases Vc b (i+1)with z|z|z
   ·have:=b3 i hlt (by omega);omega
   ·exact z
   ·have h':i+1<t.place.size:=by omega
    have g1:=b2 (i+1) h' z;have g2:=(K.rise hb).lt i (i+1) hlt h' (by omega);omega
end
section
variable{prog:Program}{w:World}{A:Around}{E:Kv}{s:Shared}
variable{S I:Addr}{es:Ka}{ep:Nat}{t:SetTable}
theorem SObj.at{h h':Heap}(K:SObj w h S es ep t)(k:∀o,h.get? S=some o->h'.get? S=some o):SObj w h' S es ep t:=by obtain⟨o,h1,h2,h3⟩:=K.obj;exact⟨⟨o,k o h1,h2,h3⟩,K.fits,K.siz,K.rise,K.led,K.plain⟩
theorem xG{slot i:Nat}(hit:uL s.heap I S slot i es.size ep)(K:SObj w s.heap S es ep t)(hs:w.params.followText "set-order"=false->below t.place slot=i){e:Int×Value}(he:(dX w S ep es)[i]?=some e){Q:Ko}
  (q:∀h' slot',uL h' I S slot' (i+1) es.size ep->(w.params.followText "set-order"=false->below t.place slot'=i+1)->(∀b,b≠I->h'.get? b=s.heap.get? b)->Q (some e.2) {s with heap:=h' }) :
  wpAny (model prog w) A (pyNext (.ref I)) Q E s:=by
 obtain⟨o,ho,hc,hd⟩:=id hit;have hT:s.TypeIs (.ref I) "set_iterator":=⟨o,ho,hc⟩
 unfold pyNext;refine Yb (wpAny_attempt (Xq (name:=Str.ofString "__next__") hT a9 (Zt a9 hT cR ?_ (dh _))));unfold Builtin.«set_iterator.__next__»;refine Yb (Yf ?_);refine Yb (wpAny_fieldsOf ho hd ?_);show wpAny _ _ (setEntries S>>=_) _ _ s;refine Yb (K.entries ?_);rw[if_neg (by simp)];show wpAny _ _ (setNext S ((slot:Int).toNat) ((i:Int).toNat) ((ep:Int).toNat)>>=_) _ _ s;rw[Zc,Zc,Zc];refine Yb (sG K hs (fun e' slot' he' hs'=>?_) fun z=>by rw[he]at z;cases z);rw[he]at he';cases he';show wpAny _ _ (setField (.ref I) 0 (rawInt (slot':Nat))>>=_) _ _ s;refine Yb (XF ho hd (by simp) ?_);have ho2:=YU (Obj.mapFields (·.setIfInBounds 0 (rawInt ((slot':Nat):Int)))) ho (Xx (ZE hd _));have hd2:=ZE hd (·.setIfInBounds 0 (rawInt ((slot':Nat):Int)));refine Yb (XF ho2 hd2 (by simp) ?_);have ho3:=YU (Obj.mapFields (·.setIfInBounds 1 (rawInt ((i:Int)+1)))) ho2 (Xx (ZE hd2 _));have hd3:=ZE hd2 (·.setIfInBounds 1 (rawInt ((i:Int)+1)));refine Yf ⟨_,rfl,Yf (q _ slot' ⟨_,ho3,?_,?_⟩ hs' fun b hb=>?_)⟩
 ·rw[Obj.cls_mapFields,Obj.cls_mapFields];exact hc
 ·rw[hd3];simp[rawInt]
 ·rw[YI _ _ _ _ hb,YI _ _ _ _ hb]
theorem yc{slot i:Nat}(nh:A.handled=none)(hit:uL s.heap I S slot i es.size ep)(K:SObj w s.heap S es ep t)(hs:w.params.followText "set-order"=false->below t.place slot=i)(he:(dX w S ep es)[i]?=none){Q:Ko}
  (q:∀h',(∀b o,b≠I->s.heap.get? b=some o->h'.get? b=some o)->Q none {s with heap:=h' }):wpAny (model prog w) A (pyNext (.ref I)) Q E s:=by
 obtain⟨o,ho,hc,hd⟩:=id hit;have hT:s.TypeIs (.ref I) "set_iterator":=⟨o,ho,hc⟩
 unfold pyNext;refine Yb (wpAny_attempt (Xq (name:=Str.ofString "__next__") hT a9 (Zt a9 hT cR ?_ (dh _))));unfold Builtin.«set_iterator.__next__»;refine Yb (Yf ?_);refine Yb (wpAny_fieldsOf ho hd ?_);show wpAny _ _ (setEntries S>>=_) _ _ s;refine Yb (K.entries ?_);rw[if_neg (by simp)];show wpAny _ _ (setNext S ((slot:Int).toNat) ((i:Int).toNat) ((ep:Int).toNat)>>=_) _ _ s;rw[Zc,Zc,Zc];refine Yb (sG K hs (fun e' slot' he' hs'=>by rw[he]at he';cases he') fun _=>?_);show wpAny _ _ (setField (.ref I) 2 .none>>=_) _ _ s;refine Yb (XF ho hd (by simp) ?_);show wpAny _ _ (newExc (.type "StopIteration") []>>=_) _ _ _;refine Yb ?_;simp only[newExc,newTuple];refine Yb (ZV (Yb (m:=firstArgMember _ _) (wpAny_of_eq (a:=Value.none) (by first|rfl|(simp only[firstArgMember];rfl)) ?_)) (by size_fits));refine ZV ?_ (by size_fits);simp only[raiseNew];refine Yb (wpAny_handled ?_);rw[show A.in1.handled=none from nh];refine Yb (Yf (wpAny_throw ?_));refine Yb (XG (b:=true) (T := "StopIteration") ⟨_,Yn _ rfl,rfl⟩ jK ?_);exact Yf (q _ fun b o hb e=>(((Heap.SameBut.update ..).extBut.push _).push _) b o hb e)
theorem wk(nh:A.handled=none)(hne:S≠I)(hl:es.size<=sizeLine):Walks prog w A I [I,S] [I] es.size (fun i v=>∃e,(dX w S ep es)[i]?=some e/\v=e.2)
  (fun i h=>(∃slot,uL h I S slot i es.size ep/\(w.params.followText "set-order"=false->below t.place slot=i))/\SObj w h S es ep t) where
 sub:=fun b hb=>by simp at hb;simp[hb]
 frame:=fun i h h' st hk=>by
  obtain⟨⟨slot,⟨o,h1,h2,h3⟩,hs⟩,K⟩:=st;exact⟨⟨slot,⟨o,hk I (by simp) o h1,h2,h3⟩,hs⟩,K.at fun o e=>hk S (by simp) o e⟩
 item:=fun i s Q E hi st hQ=>by
  obtain⟨⟨slot,hit,hs⟩,K⟩:=st;have hi':i<(dX w S ep es).size:=by rw[ij];exact hi
  have he:(dX w S ep es)[i]?=some (dX w S ep es)[i]:=Yq hi';refine xG hit K hs he fun h' slot' hit' hs' hk=>?_;exact hQ _ h' s.toks ⟨_,he,rfl⟩ ⟨⟨slot',hit',hs'⟩,K.at fun o e=>(hk S hne).trans e⟩ fun b o hb e=>(hk b (fun z=>hb (by simp[z]))).trans e
 done:=fun s Q E st hQ=>by
  obtain⟨⟨slot,hit,hs⟩,K⟩:=st;refine yc nh hit K hs (Xv (by rw[ij];exact Yl _)) fun h' hk=>?_;exact hQ h' s.toks fun b o hb e=>hk b o (fun z=>hb (by simp[z])) e
 self:=fun i s Q E st hQ=>by
  obtain⟨⟨slot,⟨o,h1,h2,h3⟩,hs⟩,K⟩:=st;have hT:s.TypeIs (.ref I) "set_iterator":=⟨o,h1,h2⟩
  refine Vh hT de (Zt de hT fM ?_ (gH _));show wpAny _ _ (ret (.ref I)) _ _ s;exact Yf ⟨_,rfl,"set_iterator",_,hT,a9.lookup,hQ⟩
theorem wN(K:SObj w s.heap S es ep t){Q:Kv}
  (q:Q (.ref s.heap.objs.size) {s with heap:=s.heap.push {cls:=.type "set_iterator",data:=.fields #[.int 0 0,.int 0 0,.ref S,.int es.size 0,.int ep 0]} }):wpAny (model prog w) A (pyIter (.ref S)) Q E s:=by
 obtain⟨o,h1,h2,h3⟩:=id K.obj;have hT:s.TypeIs (.ref S) "set":=⟨o,h1,h2⟩
 refine Vh hT VH (Zt VH hT gL ?_ (F.args_set_iter_1 _));unfold Builtin.«frozenset.__iter__»;refine Yb (Yb (m:=slotArgs _ _ _) (Yf (Yf ?_)));refine Yb (Yb (K.entries (Yf ?_)));refine Yb ?_;unfold setDrawn;refine Yb (K.state ?_);refine Yb (i7 (Yf ?_));have hd:(!w.params.followText "set-order"&&(!t.plain&&decide (es.size > 1)))=false:=by
  cases z:w.params.followText "set-order" with
  |true=>rfl
  |false=>rw[K.plain z];rfl
 show wpAny _ _ (if(!w.params.followText "set-order"&&(!t.plain&&decide (es.size > 1)))=true then _ else _) _ _ s;rw[hd,if_neg Yj];refine Yb (Yf ?_);refine Yb (K.epoch ?_);exact Yb (ZV (Yf ⟨_,rfl,"set_iterator",_,⟨_,Yn _ rfl,rfl⟩,a9.lookup,q⟩))
theorem tY{acc:Array Value}(h:ItemsOf (fun i v=>∃e,(dX w S ep es)[i]?=some e/\v=e.2) acc es.size):acc.toList=(dX w S ep es).toList.map (·.2):=by
 obtain⟨h1,h2⟩:=h;apply XA;intro i;rw[YM,Yu,YM];by_cases hi:i<acc.size
 ·have e:=Yq hi;obtain⟨x,q1,q2⟩:=h2 i _ e;rw[e,q1,q2];rfl
 ·rw[Xv (by omega),Xv (by rw[ij];omega)];rfl
theorem wl(K:SObj w s.heap S es ep t){Q:Kb}(h:Q false s):wpAny (model prog w) A (Builtin.List.listLengthHint (.ref S)) Q E s:=by
 obtain⟨o,h1,h2,h3⟩:=id K.obj;have hT:s.TypeIs (.ref S) "set":=⟨o,h1,h2⟩
 unfold Builtin.List.listLengthHint;refine Yb (Xw hT F.slot_set_len.lookup ?_);generalize hid:("set.__len__":String)=id0
 wp_delta
 rw[show splitId id0=some ("set","__len__")from by subst hid;decide+kernel];subst hid;refine Yb (XG (T := "set") (b:=true) hT sub_set_self ?_);refine Xy (fun z=>absurd z (by decide)) (fun _=>?_);refine Xy (fun _=>?_) (fun z=>absurd (by decide+kernel) z);refine Yb (Vl hT ?_);exact Yf h
theorem qA{R:Kr}{L:Addr}{res:Value}{c₀:Nat}(nh:A.handled=none)(K:SObj w s.heap S es ep t)(hl:es.size<=sizeLine)(hLS:L≠S)(hL:s.heap.get? L=some {cls:=.type "list",data:=.seq #[] c₀})
  (hR:∀h' tk acc' c',(∀b o,b≠L->s.heap.get? b=some o->h'.get? b=some o)->h'.get? L=some {cls:=.type "list",dict:=none,data:=.seq acc' c',slots:=#[]}->acc'.toList=(dX w S ep es).toList.map (·.2)->R (.ok (.ret res)) {s with heap:=h',toks:=tk}) :
  wpAny (model prog w) A.in1 (Builtin.List.listExtendWith (.ref L) (.ref S) res)
   (fun fin s'=>match fin with|.done f=>R (.ok f) s'|.again c'=>c'.quiet=true/\codeAny (model prog w) A c' R s') (fun e s'=>R (.error e) s') s:=by
 obtain⟨o,h1,h2,h3⟩:=id K.obj;have hT:s.TypeIs (.ref S) "set":=⟨o,h1,h2⟩
 unfold Builtin.List.listExtendWith;refine Yb (Vl hT ?_);have g1:Builtin.List.listSameRef (.ref L) (.ref S)=false:=by simp[Builtin.List.listSameRef,hLS]
 have g2:(Value.type "set" == Value.type "list")=false:=by decide
 have g3:(Value.type "set" == Value.type "tuple")=false:=by decide
 simp only[g1,g2,g3,Bool.or_false,Zz,Vi];refine Yb (wN K ?_);have hSlt:S<s.heap.objs.size:=Yp h1;have hLlt:L<s.heap.objs.size:=Yp hL;have K1:SObj w (s.heap.push {cls:=.type "set_iterator",data:=.fields #[.int 0 0,.int 0 0,.ref S,.int es.size 0,.int ep 0]}) S es ep t:=K.at fun o e=>Yg _ e
 have hL1:(s.heap.push {cls:=.type "set_iterator",data:=.fields #[.int 0 0,.int 0 0,.ref S,.int es.size 0,.int ep 0]}).get? L=some {cls:=.type "list",data:=.seq #[] c₀}:=Yg _ hL;have hI1:uL (s.heap.push {cls:=.type "set_iterator",data:=.fields #[.int 0 0,.int 0 0,.ref S,.int es.size 0,.int ep 0]}) s.heap.objs.size S 0 0 es.size ep:=⟨_,Yn _ rfl,rfl,rfl⟩
 have k1:∀b o,s.heap.get? b=some o->(s.heap.push {cls:=.type "set_iterator",data:=.fields #[.int 0 0,.int 0 0,.ref S,.int es.size 0,.int ep 0]}).get? b=some o:=fun b o e=>Yg _ e
 generalize s.heap.push {cls:=.type "set_iterator",data:=.fields #[.int 0 0,.int 0 0,.ref S,.int es.size 0,.int ep 0]}=hp1 at *;refine Yb (ZK (wl (s:={s with heap:=hp1}) K1 ?_));refine Xy (fun _=>?_) (fun z=>absurd (by decide+kernel) z);refine Yb (wpAny_rule (Yb ?_));show wpAny _ _ (updateSeq L (·.push .none)>>=fun _=>updateSeq L (·.pop)) _ _ _;refine Yb (VI hL1 rfl ?_);have hL2:=YU (Obj.mapSeq (·.push Value.none)) hL1 rfl;refine VI (hz:=by seq_fits) hL2 rfl ?_;have hL3:=YU (Obj.mapSeq (·.pop)) hL2 rfl;have oth:∀b,b≠L->((hp1.update L (Obj.mapSeq (·.push Value.none))).update L (Obj.mapSeq (·.pop))).get? b=hp1.get? b:=fun b hb=>by
  rw[YI _ _ _ _ hb,YI _ _ _ _ hb]
 have hIL:s.heap.objs.size≠L:=ZH hLlt;refine Yf ⟨Vx F.plain_extend_loop _,?_⟩;have W:=(wk (prog:=prog) (w:=w) (A:=A.in1) (S:=S) (I:=s.heap.objs.size) (es:=es) (ep:=ep) (t:=t) (by simpa using nh) (Yw hSlt) hl).toS;refine codeAny_extend_loopS W hl L (by simp[ZL hIL,hLS]) res es.size 0 _ #[] _ (Nat.sub_zero _) (YF _) ⟨⟨0,?_,fun z0=>?_⟩,K1.at fun o e=>(oth S (ZL hLS)).trans e⟩ hL3 (ItemsOf.nil _) fun s' acc' c' hm hS' hacc=>?_
 ·obtain⟨o',q1,q2,q3⟩:=hI1;exact⟨o',(oth _ hIL).trans q1,q2,q3⟩
 ·obtain⟨b1,b2,b3⟩:=dB (K.rise z0) 0;rcases Nat.eq_zero_or_pos (below t.place 0)with z|z
  ·exact z
  ·exact absurd (b2 0 (by omega) z) (VG _)
 ·rw[Moved.eq_with hm];refine hR s'.heap s'.toks acc' c' (fun b o hb e=>hm.heap b o (fun z=>?_) ((oth b hb).trans (k1 b o e))) hS' ?_
  ·rcases Yv.mp z with z|z
   ·exact hb z
   ·have:b=s.heap.objs.size:=by simpa using z
    exact absurd (Yp e) (by rw[this];exact YX _)
  ·exact tY hacc
theorem oY(nh:A.handled=none)(K:SObj w s.heap S es ep t)(hl:es.size<=sizeLine){Q:Kl}
  (q:∀h' tk,(∀b o,s.heap.get? b=some o->h'.get? b=some o)->Q ((dX w S ep es).toList.map (·.2)) {s with heap:=h',toks:=tk}):wpAny (model prog w) A (collect (.ref S)) Q E s:=by
 obtain⟨o,h1,h2,h3⟩:=id K.obj;have hlt:S<s.heap.objs.size:=Yp h1;unfold collect;refine Yb (wpAny_runValue (Zn entry_proto_collect' ?_));refine Yb (m:=newList []) (Vw (Yf ⟨XU _ (by decide+kernel),Zn entry_list_iadd' ?_⟩));rw[ZF (show plainId "list.__iadd__"=true by decide+kernel) ⟨[.ref s.heap.objs.size,.ref S],[]⟩];refine qA (R:=fun r s'=>match r with
  |Except.ok (Flow.ret v)=>wpAny (model prog w) A (match v with
   |Value.ref a=>(load a>>=fun o=>match o.data with
    |Data.seq xs _=>pure xs.toList
    |_=>unsupported "internal:collect")
   |_=>unsupported "internal:collect") Q E s'
  |Except.ok _=>False
  |Except.error e=>E e s') (s:={s with heap:=s.heap.push (seqObj "list" #[] 0)}) (A:=A) (L:=s.heap.objs.size) (res:=.ref s.heap.objs.size) (c₀:=0) ?_ (K.at fun o e=>Yg _ e) hl (ZH hlt) (Yn _ rfl) fun h' tk acc' c' hk hL' hacc=>?_
 ·simpa using nh
 ·refine Yb (wpAny_load hL' ?_);show wpAny _ _ (pure acc'.toList) _ _ _;rw[hacc];exact Yf (q h' tk fun b o e=>hk b o (Yw (Yp e)) (Yg _ e))
end
theorem SetHas.fresh{Pv:Value->D->Prop}{w:World}{h:Heap}{a:Addr}{ds:List D}(hget:h.get? a=some (eO w)):SetHas Pv w h a (ds.take 0):=by
 refine⟨[],⟨#[],.fresh 0 0 (!w.params.followText "set-order"),⟨⟨_,0,hget,⟨rfl,rfl,rfl⟩,rfl⟩,⟨⟨fun i j hi=>absurd hi (VG _)⟩,rfl,fun j hj=>?_,by show 7%2=1;decide,by first|exact zk|(show fY 8;exact zk),YF _,fun i j e=>?_⟩,rfl,rfl,fun i e d he=>?_,fun i e d he=>?_⟩,.inl ⟨rfl,YF _⟩,fun z=>?_,rfl⟩,Xt _⟩
 ·cases hj;rename_i q;cases q
 ·cases e
 ·cases he
 ·cases he
 ·show(!w.params.followText "set-order")=true;rw[z];rfl
section
variable{Pv:Value->D->Prop}{prog:Program}{w:World}{A:Around}{E:Kv}{s:Shared}
theorem kK{l:Addr}{items:Array Value}{ds:List D}{Q:Kv}(nh:A.handled=none)(hl:s.heap.IsList l items)(hi:∀(i:Nat) v,items[i]?=some v->∃d,ds[i]?=some d/\KeyAt s.heap v d/\Pv v d)(hlen:ds.length=items.size)(hb:items.size<70)(hu:A.units+80<cLine)
  (q:∀h' tk,SetHas Pv w h' s.heap.objs.size ds->(∀b o,s.heap.get? b=some o->h'.get? b=some o)->Q (.ref s.heap.objs.size) {s with heap:=h',toks:=tk}):wpAny (model prog w) A (call (.type "set") [.ref l]) Q E s:=by
 refine gs (Z:=fun h'=>SetHas Pv w h' s.heap.objs.size ds) hl (fun R hR=>?_) q;obtain⟨ol,hol,_⟩:=id hl;have hlS:l<s.heap.objs.size:=Yp hol;have hsz:(s.heap.push (eO w)).objs.size=s.heap.objs.size+1:=Xd ..;have hne:l≠(s.heap.push (eO w)).objs.size:=by rw[hsz];exact Yw (Zj hlS)
 have hnew:∀b o,s.heap.get? b=some o->b∉s.heap.objs.size::[(s.heap.push (eO w)).objs.size]:=fun b o e=>by
  have:=Yp e;rw[hsz];simp only[Yv,Ze,Xs,or_false,not_or];exact⟨Yw this,Yw (Zj this)⟩
 have hl2:((s.heap.push (eO w)).push (zM l)).IsList l items:=(hl.push _).push _;have nh3:A.in1.in1.in1.handled=none:=by simpa using nh
 refine vA (Pv:=Pv) ((Walks.list nh3 _ l hne items).toS) s.heap.objs.size (by rw[hsz];simp;exact ZH hlS) s.heap hnew (fun i s' st b hb' o vs k e z=>?_) ds hlen hb hi (by show A.units+1+1+70<cLine;omega) (items.size-0) 0 _ (by omega) (YF _)
  ⟨⟨_,Yn _ rfl,rfl,rfl⟩,hl2⟩ (fun b o e=>Yg _ (Yg _ e)) (SetHas.fresh (Yg _ (Yn _ rfl))) fun s' hm hS=>?_
 ·rw[Ze]at hb';subst hb';obtain⟨⟨o',e1,e2,e3⟩,_⟩:=st;rw[e1]at e;cases e;rw[e3]at z;cases z
 ·obtain⟨h',g',d',tk',os'⟩:=s';have eg:g'=s.gens:=hm.gens;have ed:d'=s.drawn:=hm.drawn;have eo:os'=s.os:=hm.os;subst eg ed eo;exact hR h' tk' hS fun b o e=>hm.heap b o (hnew b o e) (Yg _ (Yg _ e))
end
theorem xE(t:SetTable)(es:Ka)(h:Int)(x:Value):(layNew t es h x).2.1.led=t.led:=by
 unfold layNew;split
 ·show(SetTable.orStandIn _ _).led=t.led;unfold SetTable.orStandIn;split<;>rfl
 ·rfl
theorem mP{t t':SetTable}{hs:Array Int}{n:Nat}{order:Array Nat}(h:t.relaid hs n=some (t',order)):t'.led=t.led/\t'.plain=t.plain:=by
 unfold relaid laid at h;cases q:layClean (sizeAbove n-1) hs with
 |none=>rw[q]at h;cases h
 |some ow=>rw[q]at h;cases h;exact⟨rfl,rfl⟩
theorem sW(t:SetTable)(es:Ka)(n:Nat):(relayAll t es n).2.1.led=t.led/\(t.plain=false->(relayAll t es n).2.1.plain=false):=by
 unfold relayAll;split
 ·rename_i t' order hq;obtain⟨a,b⟩:=mP hq;dsimp only;split
  ·exact⟨a,fun z=>b.trans z⟩
  ·exact⟨rfl,fun _=>rfl⟩
 ·exact⟨rfl,fun _=>rfl⟩
def enD(e:Int×Value):D:=match e.2 with|.str x _=>.str x|_=>.non
structure TxAt (w:World) (h:Heap) (a:Addr) (es:Array (Int×Value)) (ep:Nat) (t:SetTable):Prop where
 obj:∃o,h.get? a=some o/\o.ExactSet/\o.data=.set es ep t
 fits:t.fits es.size=true
 led:w.params.followText "set-order"=false->t.led=true
 plain:es.size≠0->t.plain=false
 its:∀e∈es.toList,∃x tk,e=(hashStr w x,.str x tk)
 small:es.size<=1000
def TxHas(w:World)(h:Heap)(a:Addr)(ds:List D):Prop:=∃es ep t,TxAt w h a es ep t/\(es.toList.map enD).Perm (aL ds)
theorem TxAt.at{w:World}{h h':Heap}{a:Addr}{es:Ka}{ep:Nat}{t:SetTable}(K:TxAt w h a es ep t)(k:∀o,h.get? a=some o->h'.get? a=some o):TxAt w h' a es ep t:=by obtain⟨o,h1,h2,h3⟩:=K.obj;exact⟨⟨o,k o h1,h2,h3⟩,K.fits,K.led,K.plain,K.its,K.small⟩
theorem TxHas.move{w:World}{h h':Heap}{a:Addr}{ds:List D}(S:TxHas w h a ds)(k:∀o,h.get? a=some o->h'.get? a=some o):TxHas w h' a ds:=by obtain⟨es,ep,t,K,p⟩:=S;exact⟨es,ep,t,K.at k,p⟩
theorem TxAt.elems{prog:Program}{w:World}{h:Heap}{a:Addr}{es:Ka}{ep:Nat}{t:SetTable}(K:TxAt w h a es ep t):ElemsOf (PySem.strKind prog w) es.toList:=by intro e he;obtain⟨x,tk,rfl⟩:=K.its e he;exact⟨⟨x,by show Value.isStrOf x (.str x tk)=true;simp[Value.isStrOf],rfl⟩,rfl⟩
theorem oW{h:Heap}{a:Addr}{o:Obj}{es:Ka}{ep:Nat}{t:SetTable}(k1:h.get? a=some o)(k3:o.data=.set es ep t)(es':Ka)(t':SetTable):(h.update a (Obj.putSet es' t')).get? a=some {o with data:=.set es' (ep+1) t' }:=by have z:=YU (Obj.putSet es' t') k1 (by rw[putSet_of es' t' k3];rfl);rw[putSet_of es' t' k3]at z;exact z
section
variable{prog:Program}{w:World}{A:Around}{E:Kv}{s:Shared}
theorem Bo{a:Addr}{ds:List D}{x:Str}{tx:Tok}(S:TxHas w s.heap a ds)(hn:ds.length<1000){Q:Kb}
  (q:∀b h' tk,s.toks<=tk->TxHas w h' a (ds++[.str x])->(∀c,c≠a->h'.get? c=s.heap.get? c)->Q b {s with heap:=h',toks:=tk}) :
  wpAny (model prog w) A (setAdd a (.str x tx)) Q E s:=by
 obtain⟨es,ep,t,K,p⟩:=S;obtain⟨o,k1,k2,k3⟩:=K.obj;have hsz:es.size<1000:=by have z:=p.length_eq;rw[Ye,YC]at z;have:=c0 ds;omega
 have hel:ElemsOf (PySem.strKind prog w) es.toList:=K.elems;have hkey:(PySem.strKind prog w).is x (.str x tx)=true:=by show Value.isStrOf x (.str x tx)=true;simp[Value.isStrOf]
 unfold setAdd;refine ZK (Yb (Vp ?_));unfold setAddHashed setAddHashedIn;refine ZK (Yb (Vd (s:={s with toks:=s.toks+1}) k1 k3 K.fits ?_));dsimp only;have hbs:byScan (.str x tx) es=true:=byScan_of (knd:=PySem.strKind prog w) rfl (by unfold scanBound;omega) hel;rw[hbs,if_pos rfl];unfold setAddByScan;refine Yb (Yb (wpAny_rule (Yb (wpAny_setScan_of (s:={s with toks:=s.toks+1}) (knd:=PySem.strKind prog w) (k:=x) hkey k1 k3 K.fits hel ?_))));cases hr:List.findIdx? (fun e=>(PySem.strKind prog w).is x e.2) es.toList with
 |some j=>
  dsimp only;obtain⟨hj,hpj,_⟩:=List.findIdx?_eq_some_iff_getElem.mp hr;have hm:D.str x∈aL ds:=by
   refine p.mem_iff.mp (Ym.mpr ⟨es.toList[j],ZI hj,?_⟩);obtain⟨y,ty,e⟩:=K.its _ (ZI hj);rw[e]at hpj ⊢;have:y=x:=by
    have z:Value.isStrOf x (.str y ty)=true:=hpj;simp[Value.isStrOf]at z
    first|exact z|exact z.symm
   rw[this];rfl
  refine Yf (Yf (q false s.heap (s.toks+1) (ZY _) ⟨es,ep,t,K,?_⟩ fun c _=>rfl));rw[dm,if_pos hm];exact p
 |none=>
  dsimp only;have hm:D.str x∉aL ds:=fun z=>by
   obtain⟨e,he,hx⟩:=Ym.mp (p.mem_iff.mpr z);obtain⟨y,ty,rfl⟩:=K.its e he;have hy:y=x:=by have hx':D.str y=D.str x:=hx;cases hx';rfl
   subst hy;have z:=List.findIdx?_eq_none_iff.mp hr _ he;have z':Value.isStrOf y (.str y ty)=false:=z;simp[Value.isStrOf]at z'
  have gw:∀(b:Bool) (s1:Shared) (Q1:Unit->Shared->Prop),Q1 () s1->wpAny (model prog w) A (match b with|true=>rule "set.scan.the-table-gave-way" |false=>pure ()) Q1 E s1:=by
   intro b s1 Q1 z;cases b
   ·exact Yf z
   ·exact wpAny_rule z
  have c1:=layNew_perm t es (hashStr w x) (.str x tx);have c2:=layNew_fits t es (hashStr w x) (.str x tx);have c3:=xE t es (hashStr w x) (.str x tx);have hL:∃L,layNew t es (hashStr w x) (.str x tx)=L:=⟨_,rfl⟩
  obtain⟨⟨es1,t1,wd,gv⟩,hL⟩:=hL;rw[hL]at c1 c2 c3;rw[hL];dsimp only at c1 c2 c3 ⊢;rw[Array.toList_push]at c1;have sz1:es1.size=es.size+1:=by rw[<-YC,c1.length_eq,Yt,YC];rfl
  refine Yb (gw _ _ _ ?_);have hl1:w.params.followText "set-order"=false->t1.led=true:=fun z=>c3.trans (K.led z)
  have i1:∀e∈es1.toList,∃x tk,e=(hashStr w x,Value.str x tk):=fun e he=>by
   rcases Zy.mp (c1.mem_iff.mp he)with z|z
   ·exact K.its e z
   ·exact⟨x,tx,Ze.mp z⟩
  have d1:(es1.toList.map enD).Perm (aL (ds++[.str x])):=by rw[dm,if_neg hm];refine(c1.map enD).trans ?_;rw[Zd];exact p.append (Xt _)
  have tail:∀t2:SetTable,t2.fits es1.size=true->t2.plain=false->t2.led=t1.led->wpAny (model prog w) A (do
    storeSet a es1 t2
    if(!wd&&t2.tooFull)=true then do
      (match(relayAll t2 es1 (SetTable.grown es1.size)).2.2 with|true=>rule "set.scan.the-table-gave-way" |false=>pure ())
      storeSet a (relayAll t2 es1 (SetTable.grown es1.size)).1 (relayAll t2 es1 (SetTable.grown es1.size)).2.1
      pure (some true)
     else pure (some true)) (fun r s'=>wpAny (model prog w) A (match r with|some added=>pure added|none=>setAddHashedIn a (.str x tx) (hashStr w x) 99999) Q E s') E {s with toks:=s.toks+1}:=by
   intro t2 f2 pl2 ld2;refine Yb (Ve (s:={s with toks:=s.toks+1}) k1 k3 ?_ (by rw[sz1];show es.size+1<=2^24;omega));have g1:=oW k1 k3 es1 t2;have off1:∀c,c≠a->(s.heap.update a (Obj.putSet es1 t2)).get? c=s.heap.get? c:=fun c hc=>YI _ _ _ _ hc
   split
   ·have r1:=relayAll_perm t2 es1 (SetTable.grown es1.size);have r2:=relayAll_fits t2 es1 (SetTable.grown es1.size);have r3:=sW t2 es1 (SetTable.grown es1.size);generalize relayAll t2 es1 (SetTable.grown es1.size)=Rl at r1 r2 r3 ⊢;obtain⟨es2,t3,gv2⟩:=Rl;dsimp only at r1 r2 r3 ⊢;have sz2:es2.size=es1.size:=by rw[<-YC,r1.length_eq,YC]
    refine Yb (gw _ _ _ ?_);refine Yb (Ve (s:={s with heap:=s.heap.update a (Obj.putSet es1 t2),toks:=s.toks+1}) g1 rfl ?_ (by rw[sz2,sz1];show es.size+1<=2^24;omega));have g2:=oW g1 rfl es2 t3;refine Yf (Yf (q true _ (s.toks+1) (ZY _) ⟨es2,_,t3,⟨⟨_,g2,k2,rfl⟩,r2,fun z=>r3.1.trans (ld2.trans (hl1 z)),fun _=>r3.2 pl2,fun e he=>i1 e (r1.mem_iff.mp he),by omega⟩,(r1.map enD).trans d1⟩ fun c hc=>?_));exact(YI _ _ _ _ hc).trans (off1 c hc)
   ·exact Yf (Yf (q true _ (s.toks+1) (ZY _) ⟨es1,_,t2,⟨⟨_,g1,k2,rfl⟩,f2,fun z=>ld2.trans (hl1 z),fun _=>pl2,i1,by omega⟩,d1⟩ off1))
  split
  ·refine Yb ?_;rw[Vm 8 (x:=.str x tx) rfl];refine Yf ?_;exact tail {t1 with plain:=false} (SetTable.fits_plain_off c2) rfl rfl
  ·rename_i hp1;refine Yb (Yf ?_);rw[if_pos rfl];exact tail t1 c2 (by cases z:t1.plain with|true=>exact absurd z hp1|false=>rfl) rfl
end
section
variable{prog:Program}{w:World}{A:Around}{R:Kr}{I:Addr}{fp wr:List Addr}{G:Array GenState->Array GenState->Prop}{n:Nat}{P:Nat->Value->Prop}{St:Nat->Shared->Prop}
theorem xM(W:WalksS prog w A.in1 I fp wr G n P St)(S:Addr)(hSf:S∉fp)(ds:List D)(hn:ds.length=n)(hn70:n<1000)(hval:∀i v,P i v->∃x tk,v=.str x tk/\ds[i]?=some (.str x)) :
  ∀(k i:Nat) (s:Shared),n-i=k->i<=n->St i s->TxHas w s.heap S (ds.take i)->
   (∀s',Moved (S::wr) G s s'->TxHas w s'.heap S ds->R (.ok (.ret .none)) s')->
   codeAny (model prog w) A (.builtin "set.update.loop" ⟨[.ref S,.ref I],[]⟩) R s:=by
 have hSw:S∉wr:=fun h=>hSf (W.sub _ h)
 have hsub:∀b∈wr,b∈S::wr:=fun b hb=>Yc _ hb
 intro k;induction k with
 |zero=>
  intro i s hk hi hst hS hR;have hin:i=n:=by omega
  subst hin;refine Zn Xp ?_;rw[ZF ZD _];show wpAny _ A.in1 (pyNext (.ref I)>>=_) _ _ s;refine Yb (W.done s _ _ hst fun s' hm=>?_);show wpAny _ A.in1 (ret Value.none) _ _ s';refine Yf (hR s' (hm.mono hsub) (TxHas.move ?_ fun o e=>hm.heap S o hSw e));rw[<-hn,XI]at hS;exact hS
 |succ k ih=>
  intro i s hk hi hst hS hR;have hlt:i<n:=by omega
  refine Zn Xp ?_;rw[ZF ZD _];show wpAny _ A.in1 (pyNext (.ref I)>>=_) _ _ s;refine Yb (W.item i s _ _ hlt hst fun v s' hP hst' hm=>?_);obtain⟨x,tx,rfl,hd⟩:=hval i v hP;show wpAny _ A.in1 (holding [Value.str x tx] (setAdd S (.str x tx))>>=_) _ _ s';refine Yb (ZK (Bo (hS.move fun o e=>hm.heap S o hSw e) (by rw[ZQ];omega) fun b h' tk htk hS2 off=>?_));have et:ds.take i++[.str x]=ds.take (i+1):=by rw[Vf,hd];rfl
  rw[et]at hS2;refine Yf ⟨Vx ZD _,ih (i+1) _ (by omega) hlt (W.frame _ s' _ _ hst' htk fun b hb o e=>?_) hS2 fun s'' hm'' hS''=>?_⟩
  ·rw[off b (fun h:b=S=>hSf (by rw[<-h];exact hb))];exact e
  ·refine hR s'' (Moved.trans W.gtrans ((hm.mono hsub).then_heap htk fun b o hb e=>?_) hm'') hS'';rw[off b (fun h:b=S=>hb (by rw[h];exact Yd))];exact e
end
theorem TxHas.fresh{w:World}{h:Heap}{a:Addr}{ds:List D}(hget:h.get? a=some (eO w)):TxHas w h a (ds.take 0):=by refine⟨#[],0,.fresh 0 0 (!w.params.followText "set-order"),⟨⟨_,hget,⟨rfl,rfl,rfl⟩,rfl⟩,rfl,fun z=>?_,fun z=>absurd rfl z,fun e he=>(nomatch he),YF _⟩,Xt _⟩;show(!w.params.followText "set-order")=true;rw[z];rfl
section
variable{prog:Program}{w:World}{A:Around}{E:Kv}{s:Shared}
theorem kF{l:Addr}{items:Array Value}{ds:List D}{Q:Kv}(nh:A.handled=none)(hl:s.heap.IsList l items)(hi:∀(i:Nat) v,items[i]?=some v->∃x tk,v=.str x tk/\ds[i]?=some (.str x))(hlen:ds.length=items.size)(hb:items.size<1000)
  (q:∀h' tk,TxHas w h' s.heap.objs.size ds->(∀b o,s.heap.get? b=some o->h'.get? b=some o)->Q (.ref s.heap.objs.size) {s with heap:=h',toks:=tk}):wpAny (model prog w) A (call (.type "set") [.ref l]) Q E s:=by
 refine gs (Z:=fun h'=>TxHas w h' s.heap.objs.size ds) hl (fun R hR=>?_) q;obtain⟨ol,hol,_⟩:=id hl;have hlS:l<s.heap.objs.size:=Yp hol;have hsz:(s.heap.push (eO w)).objs.size=s.heap.objs.size+1:=Xd ..;have hne:l≠(s.heap.push (eO w)).objs.size:=by rw[hsz];exact Yw (Zj hlS)
 have hnew:∀b o,s.heap.get? b=some o->b∉s.heap.objs.size::[(s.heap.push (eO w)).objs.size]:=fun b o e=>by
  have:=Yp e;rw[hsz];simp only[Yv,Ze,Xs,or_false,not_or];exact⟨Yw this,Yw (Zj this)⟩
 have hl2:((s.heap.push (eO w)).push (zM l)).IsList l items:=(hl.push _).push _;have nh3:A.in1.in1.in1.handled=none:=by simpa using nh
 refine xM ((Walks.list nh3 _ l hne items).toS) s.heap.objs.size (by rw[hsz];simp;exact ZH hlS) ds hlen hb hi (items.size-0) 0 _ (by omega) (YF _)
  ⟨⟨_,Yn _ rfl,rfl,rfl⟩,hl2⟩ (TxHas.fresh (Yg _ (Yn _ rfl))) fun s' hm hS=>?_
 obtain⟨h',g',d',tk',os'⟩:=s';have eg:g'=s.gens:=hm.gens;have ed:d'=s.drawn:=hm.drawn;have eo:os'=s.os:=hm.os;subst eg ed eo;exact hR h' tk' hS fun b o e=>hm.heap b o (hnew b o e) (Yg _ (Yg _ e))
end
theorem ri{M:Model}{A:Around}{E:Kv}{s:Shared}{src:Source}{n:Nat}(hn:n≠0){Q:Nat->Shared->Prop}(h:∀i d,i<n->Q i {s with drawn:=d}):wpAny M A (choose src n) Q E s:=
 fun Γ p hΓ=>⟨hn,h _ _ (Vz _ (Nat.pos_of_ne_zero hn))⟩
theorem yO{M:Model}{A:Around}{E:Kv}{α:Type}:∀(n:Nat) (xs:List α) (s:Shared) (Q:List α->Shared->Prop),xs.length=n->(∀ys d,ys.Perm xs->Q ys {s with drawn:=d})->wpAny M A (drawOrder n xs) Q E s:=by
 intro n;induction n with
 |zero=>
  intro xs s Q hl h;obtain rfl:=YY.mp hl;exact Yf (h [] s.drawn (Xt _))
 |succ n ih=>
  intro xs s Q hl h;cases xs with
  |nil=>cases hl
  |cons x r=>
   unfold drawOrder;refine Yb (ri (by simp) fun i d hi=>?_);have hg:(x::r)[i]?=some (x::r)[i]:=Yi hi;rw[hg];dsimp only;refine Yb (ih ((x::r).eraseIdx i) _ _ (by rw[List.length_eraseIdx_of_lt hi];simpa using hl) fun ys d' p=>?_);refine Yf (h _ d' ?_);refine(List.Perm.cons _ p).trans ?_;rw[Vg];have e:=Vn i (x::r);refine List.Perm.trans ?_ (List.Perm.of_eq e);rw[Xe hi];exact List.perm_middle.symm
def vp(h:Heap)(I S T:Addr)(ord:List Nat)(i n ep:Nat):Prop:=(∃o,h.get? I=some o/\o.cls=.type "set_iterator"/\o.data=.fields #[.ref T,.int i 0,.ref S,.int n 0,.int ep 0])/\∃o c,h.get? T=some o/\o.data=.seq (ord.map fun(j:Nat)=>rawInt (j:Int)).toArray c
def im(es:Ka)(ord:List Nat):List (Int×Value):=ord.filterMap fun j=>es[j]?
theorem v7{es:Ka}{ord:List Nat}(p:ord.Perm (List.range es.size))(i:Nat):(im es ord)[i]?=(ord[i]?).bind fun j=>es[j]?:=by
 unfold im;have:∀l:List Nat,(∀k∈l,k<es.size)->∀i:Nat,(l.filterMap fun j=>es[j]?)[i]?=(l[i]?).bind fun j=>es[j]?:=by
  intro l;induction l with
  |nil=>intro _ i;rfl
  |cons k l ih=>
   intro h i;have hk0:k<es.size:=h k Yd;have hk:es[k]?=some es[k]:=Yq hk0;rw[XN hk];cases i with
   |zero=>simp[hk]
   |succ i=>simpa using ih (fun j hj=>h j (Yc _ hj)) i
 exact this ord (fun k hk=>by simpa using p.mem_iff.mp hk) i
theorem ig{es:Ka}{ord:List Nat}(p:ord.Perm (List.range es.size)):(im es ord).Perm es.toList:=by
 have z:=p.filterMap fun j=>es[j]?
 rw[filterMap_getElem?_range]at z;exact z
section
variable{prog:Program}{w:World}{A:Around}{E:Kv}{s:Shared}
variable{S I T:Addr}{es:Ka}{ep:Nat}{t:SetTable}{ord:List Nat}
theorem TxAt.state(K:TxAt w s.heap S es ep t){Q:(Array (Int×Value)×Nat×SetTable)->Shared->Prop}(h:Q (es,ep,t) s):wpAny (model prog w) A (setState S) Q E s:=by obtain⟨o,h1,h2,h3⟩:=K.obj;exact Vd h1 h3 K.fits h
theorem TxAt.entries(K:TxAt w s.heap S es ep t){Q:Array (Int×Value)->Shared->Prop}(h:Q es s):wpAny (model prog w) A (setEntries S) Q E s:=by unfold setEntries;exact Yb (K.state (Yf h))
theorem TxAt.epoch(K:TxAt w s.heap S es ep t){Q:Nat->Shared->Prop}(h:Q ep s):wpAny (model prog w) A (setEpoch S) Q E s:=by unfold setEpoch;exact Yb (K.state (Yf h))
theorem rb(K:TxAt w s.heap S es ep t)(hb:w.params.followText "set-order"=false)(h2:1<es.size){Q:Kv}
  (q:∀ord d h',ord.Perm (List.range es.size)->(∀b o,s.heap.get? b=some o->h'.get? b=some o)->vp h' (s.heap.objs.size+1) S s.heap.objs.size ord 0 es.size ep->Q (.ref (s.heap.objs.size+1)) {s with heap:=h',drawn:=d}):wpAny (model prog w) A (pyIter (.ref S)) Q E s:=by
 obtain⟨o,h1,⟨hc,_,_⟩,h3⟩:=id K.obj;have hT:s.TypeIs (.ref S) "set":=⟨o,h1,hc⟩
 refine Vh hT VH (Zt VH hT gL ?_ (F.args_set_iter_1 _));unfold Builtin.«frozenset.__iter__»;refine Yb (Yb (m:=slotArgs _ _ _) (Yf (Yf ?_)));refine Yb (Yb (K.entries (Yf ?_)));refine Yb ?_;unfold setDrawn;refine Yb (K.state ?_);refine Yb (i7 (Yf ?_));have hd:(!w.params.followText "set-order"&&(!t.plain&&decide (es.size > 1)))=true:=by rw[hb,K.plain (by omega),YT h2];rfl
 show wpAny _ _ (if(!w.params.followText "set-order"&&(!t.plain&&decide (es.size > 1)))=true then _ else _) _ _ s;rw[hd,if_pos rfl];refine Yb (yO es.size (List.range es.size) _ _ (Zk) fun ord d p=>?_);have hl:ord.length=es.size:=by rw[p.length_eq,Zk]
 refine Yb (wpAny_newTuple (items:=ord.map fun(j:Nat)=>rawInt (j:Int)) ?_ (by rw[Ye,hl];have:=K.small;rw[YK];omega));refine Yb ((K.at (h':=s.heap.push _) fun o e=>Yg _ e).epoch (s:={s with heap:=s.heap.push _,drawn:=d}) ?_);refine Yb (ZV (Yf ⟨_,rfl,"set_iterator",_,⟨_,Yn _ rfl,rfl⟩,a9.lookup,?_⟩));have hz:(s.heap.push {cls:=.type "tuple",data:=.seq (ord.map fun(j:Nat)=>rawInt (j:Int)).toArray}).objs.size=s.heap.objs.size+1:=Xd ..;have z:=q ord d _ p (fun b o e=>Yg _ (Yg _ e)) ⟨⟨{cls:=.type "set_iterator",data:=.fields #[.ref s.heap.objs.size,.int 0 0,.ref S,.int es.size 0,.int ep 0]},by rw[<-hz];exact Yn _ rfl,rfl,rfl⟩,⟨_,_,Yg _ (Yn _ rfl),rfl⟩⟩;rw[<-hz]at z;exact z
theorem za{i:Nat}(hit:vp s.heap I S T ord i es.size ep)(K:TxAt w s.heap S es ep t)(p:ord.Perm (List.range es.size))(hIT:T≠I){e:Int×Value}(he:(im es ord)[i]?=some e){Q:Ko}
  (q:∀h',vp h' I S T ord (i+1) es.size ep->(∀b,b≠I->h'.get? b=s.heap.get? b)->Q (some e.2) {s with heap:=h' }) :
  wpAny (model prog w) A (pyNext (.ref I)) Q E s:=by
 obtain⟨⟨o,ho,hc,hd⟩,oT,cT,hoT,hdT⟩:=id hit;have hT:s.TypeIs (.ref I) "set_iterator":=⟨o,ho,hc⟩
 rw[v7 p]at he;cases hj:ord[i]? with
 |none=>rw[hj]at he;cases he
 |some j=>
 rw[hj]at he;have he':es[j]?=some e:=he;unfold pyNext;refine Yb (wpAny_attempt (Xq (name:=Str.ofString "__next__") hT a9 (Zt a9 hT cR ?_ (dh _))));unfold Builtin.«set_iterator.__next__»;refine Yb (Yf ?_);refine Yb (wpAny_fieldsOf ho hd ?_);show wpAny _ _ (setEntries S>>=_) _ _ s;refine Yb (K.entries ?_);rw[if_neg (by simp)];show wpAny _ _ (seqItems? (.ref T)>>=_) _ _ s;refine Yb (Vj hoT hdT ?_);have hp:(ord.map fun(j:Nat)=>rawInt (j:Int)).toArray[((i:Int)).toNat]?=some (rawInt (j:Int)):=by rw[Zc];simp[hj]
 show wpAny _ _ (match(ord.map fun(j:Nat)=>rawInt (j:Int)).toArray[((i:Int)).toNat]? with|_=>_) _ _ s;rw[hp];show wpAny _ _ (setNextDrawn S ((j:Int).toNat) ((ep:Int).toNat)>>=_) _ _ s;rw[Zc,Zc];unfold setNextDrawn;refine Yb (Yb (K.state ?_));dsimp only;rw[if_neg (by simp)];rw[he'];refine Yf ?_;refine Yb (XF ho hd (by simp) ?_);have ho3:=YU (Obj.mapFields (·.setIfInBounds 1 (rawInt ((i:Int)+1)))) ho (Xx (ZE hd _));have hd3:=ZE hd (·.setIfInBounds 1 (rawInt ((i:Int)+1)));refine Yf ⟨_,rfl,Yf (q _ ⟨⟨_,ho3,?_,?_⟩,oT,cT,?_,hdT⟩ fun b hb=>?_)⟩
 ·rw[Obj.cls_mapFields];exact hc
 ·rw[hd3];simp[rawInt]
 ·rw[YI _ _ _ _ hIT];exact hoT
 ·rw[YI _ _ _ _ hb]
theorem yq{i:Nat}(nh:A.handled=none)(hit:vp s.heap I S T ord i es.size ep)(K:TxAt w s.heap S es ep t)(hi:ord.length<=i){Q:Ko}
  (q:∀h',(∀b o,b≠I->s.heap.get? b=some o->h'.get? b=some o)->Q none {s with heap:=h' }):wpAny (model prog w) A (pyNext (.ref I)) Q E s:=by
 obtain⟨⟨o,ho,hc,hd⟩,oT,cT,hoT,hdT⟩:=id hit;have hT:s.TypeIs (.ref I) "set_iterator":=⟨o,ho,hc⟩
 unfold pyNext;refine Yb (wpAny_attempt (Xq (name:=Str.ofString "__next__") hT a9 (Zt a9 hT cR ?_ (dh _))));unfold Builtin.«set_iterator.__next__»;refine Yb (Yf ?_);refine Yb (wpAny_fieldsOf ho hd ?_);show wpAny _ _ (setEntries S>>=_) _ _ s;refine Yb (K.entries ?_);rw[if_neg (by simp)];show wpAny _ _ (seqItems? (.ref T)>>=_) _ _ s;refine Yb (Vj hoT hdT ?_);have hp:(ord.map fun(j:Nat)=>rawInt (j:Int)).toArray[((i:Int)).toNat]?=none:=by rw[Zc];simp[hi]
 show wpAny _ _ (match(ord.map fun(j:Nat)=>rawInt (j:Int)).toArray[((i:Int)).toNat]? with|_=>_) _ _ s;rw[hp];show wpAny _ _ (setField (.ref I) 0 (rawInt 0)>>=_) _ _ s;refine Yb (XF ho hd (by simp) ?_);have ho2:=YU (Obj.mapFields (·.setIfInBounds 0 (rawInt 0))) ho (Xx (ZE hd _));have hd2:=ZE hd (·.setIfInBounds 0 (rawInt 0));refine Yb (XF ho2 hd2 (by simp) ?_);show wpAny _ _ (newExc (.type "StopIteration") []>>=_) _ _ _;refine Yb ?_;simp only[newExc,newTuple];refine Yb (ZV (Yb (m:=firstArgMember _ _) (wpAny_of_eq (a:=Value.none) (by first|rfl|(simp only[firstArgMember];rfl)) ?_)) (by size_fits));refine ZV ?_ (by size_fits);simp only[raiseNew];refine Yb (wpAny_handled ?_);rw[show A.in1.handled=none from nh];refine Yb (Yf (wpAny_throw ?_));refine Yb (XG (b:=true) (T := "StopIteration") ⟨_,Yn _ rfl,rfl⟩ jK ?_);refine Yf (q _ fun b o hb e=>?_);refine Yg _ (Yg _ ?_);rw[YI _ _ _ _ hb,YI _ _ _ _ hb];exact e
theorem uH(nh:A.handled=none)(p:ord.Perm (List.range es.size))(hS:S≠I)(hIT:T≠I):Walks prog w A I [I,S,T] [I] es.size (fun i v=>∃e,(im es ord)[i]?=some e/\v=e.2)
  (fun i h=>vp h I S T ord i es.size ep/\TxAt w h S es ep t) where
 sub:=fun b hb=>by simp at hb;simp[hb]
 frame:=fun i h h' st hk=>by
  obtain⟨⟨⟨o,h1,h2,h3⟩,oT,cT,h4,h5⟩,K⟩:=st;exact⟨⟨⟨o,hk I (by simp) o h1,h2,h3⟩,oT,cT,hk T (by simp) oT h4,h5⟩,K.at fun o e=>hk S (by simp) o e⟩
 item:=fun i s Q E hi st hQ=>by
  obtain⟨hit,K⟩:=st;have hl:(im es ord).length=es.size:=by rw[(ig p).length_eq,YC]
  have he:(im es ord)[i]?=some (im es ord)[i]:=Yi (by rw[hl];exact hi);refine za hit K p hIT he fun h' hit' hk=>?_;exact hQ _ h' s.toks ⟨_,he,rfl⟩ ⟨hit',K.at fun o e=>(hk S hS).trans e⟩ fun b o hb e=>(hk b (fun z=>hb (by simp[z]))).trans e
 done:=fun s Q E st hQ=>by
  obtain⟨hit,K⟩:=st;refine yq nh hit K (by rw[p.length_eq,Zk];exact Yl _) fun h' hk=>?_;exact hQ h' s.toks fun b o hb e=>hk b o (fun z=>hb (by simp[z])) e
 self:=fun i s Q E st hQ=>by
  obtain⟨⟨⟨o,h1,h2,h3⟩,_⟩,K⟩:=st;have hT:s.TypeIs (.ref I) "set_iterator":=⟨o,h1,h2⟩
  refine Vh hT de (Zt de hT fM ?_ (gH _));show wpAny _ _ (ret (.ref I)) _ _ s;exact Yf ⟨_,rfl,"set_iterator",_,hT,a9.lookup,hQ⟩
end
section
variable{prog:Program}{w:World}{A:Around}{E:Kv}{s:Shared}
variable{S I T:Addr}{es:Ka}{ep:Nat}{t:SetTable}
theorem pd{ord:List Nat}{acc:Array Value}(p:ord.Perm (List.range es.size))(h:ItemsOf (fun i v=>∃e,(im es ord)[i]?=some e/\v=e.2) acc es.size):acc.toList=(im es ord).map (·.2):=by
 obtain⟨h1,h2⟩:=h;have hl:(im es ord).length=es.size:=by rw[(ig p).length_eq,YC]
 apply XA;intro i;rw[YM,Yu];by_cases hi:i<acc.size
 ·have e:=Yq hi;obtain⟨x,q1,q2⟩:=h2 i _ e;rw[e,q1,q2];rfl
 ·rw[Xv (by omega),ZN (by omega)];rfl
theorem y_(K:TxAt w s.heap S es ep t){Q:Kb}(h:Q false s):wpAny (model prog w) A (Builtin.List.listLengthHint (.ref S)) Q E s:=by
 obtain⟨o,h1,⟨h2,_,_⟩,h3⟩:=id K.obj;have hT:s.TypeIs (.ref S) "set":=⟨o,h1,h2⟩
 unfold Builtin.List.listLengthHint;refine Yb (Xw hT F.slot_set_len.lookup ?_);generalize hid:("set.__len__":String)=id0
 wp_delta
 rw[show splitId id0=some ("set","__len__")from by subst hid;decide+kernel];subst hid;refine Yb (XG (T := "set") (b:=true) hT sub_set_self ?_);refine Xy (fun z=>absurd z (by decide)) (fun _=>?_);refine Xy (fun _=>?_) (fun z=>absurd (by decide+kernel) z);refine Yb (Vl hT ?_);exact Yf h
theorem nk{R:Kr}{L:Addr}{res:Value}{c₀:Nat}(nh:A.handled=none)(K:TxAt w s.heap S es ep t)(hb:w.params.followText "set-order"=false)(h2:1<es.size)(hLS:L≠S)(hL:s.heap.get? L=some {cls:=.type "list",data:=.seq #[] c₀})
  (hR:∀ord h' d tk acc' c',ord.Perm (List.range es.size)->(∀b o,b≠L->s.heap.get? b=some o->h'.get? b=some o)->h'.get? L=some {cls:=.type "list",dict:=none,data:=.seq acc' c',slots:=#[]}->acc'.toList=(im es ord).map (·.2)->R (.ok (.ret res)) {s with heap:=h',drawn:=d,toks:=tk}) :
  wpAny (model prog w) A.in1 (Builtin.List.listExtendWith (.ref L) (.ref S) res)
   (fun fin s'=>match fin with|.done f=>R (.ok f) s'|.again c'=>c'.quiet=true/\codeAny (model prog w) A c' R s') (fun e s'=>R (.error e) s') s:=by
 obtain⟨o,h1,⟨hc,_,_⟩,h3⟩:=id K.obj;have hT:s.TypeIs (.ref S) "set":=⟨o,h1,hc⟩
 have hl:es.size<=sizeLine:=by have:=K.small;rw[YK];omega
 unfold Builtin.List.listExtendWith;refine Yb (Vl hT ?_);have g1:Builtin.List.listSameRef (.ref L) (.ref S)=false:=by simp[Builtin.List.listSameRef,hLS]
 have g2:(Value.type "set" == Value.type "list")=false:=by decide
 have g3:(Value.type "set" == Value.type "tuple")=false:=by decide
 simp only[g1,g2,g3,Bool.or_false,Zz,Vi];refine Yb (rb K hb h2 fun ord d hp1 p k1 hit=>?_);have hSlt:S<s.heap.objs.size:=Yp h1;have hLlt:L<s.heap.objs.size:=Yp hL;have K1:TxAt w hp1 S es ep t:=K.at fun o e=>k1 S o e
 have hL1:hp1.get? L=some {cls:=.type "list",data:=.seq #[] c₀}:=k1 L _ hL;refine Yb (ZK (y_ (s:={s with heap:=hp1,drawn:=d}) K1 ?_));refine Xy (fun _=>?_) (fun z=>absurd (by decide+kernel) z);refine Yb (wpAny_rule (Yb ?_));show wpAny _ _ (updateSeq L (·.push .none)>>=fun _=>updateSeq L (·.pop)) _ _ _;refine Yb (VI hL1 rfl ?_);have hL2:=YU (Obj.mapSeq (·.push Value.none)) hL1 rfl;refine VI (hz:=by seq_fits) hL2 rfl ?_;have hL3:=YU (Obj.mapSeq (·.pop)) hL2 rfl;have oth:∀b,b≠L->((hp1.update L (Obj.mapSeq (·.push Value.none))).update L (Obj.mapSeq (·.pop))).get? b=hp1.get? b:=fun b hb=>by
  rw[YI _ _ _ _ hb,YI _ _ _ _ hb]
 have hIL:s.heap.objs.size+1≠L:=ZH (Zj hLlt);have hTL:s.heap.objs.size≠L:=ZH hLlt;refine Yf ⟨Vx F.plain_extend_loop _,?_⟩;have W:=(uH (prog:=prog) (w:=w) (A:=A.in1) (S:=S) (I:=s.heap.objs.size+1) (T:=s.heap.objs.size) (es:=es) (ep:=ep) (t:=t) (ord:=ord) (by simpa using nh) p (Yw (Zj hSlt)) (Yw (ZP _))).toS;refine codeAny_extend_loopS W hl L (by simp[ZL hIL,ZL hTL,hLS]) res es.size 0 _ #[] _ (Nat.sub_zero _) (YF _) ⟨?_,K1.at fun o e=>(oth S (ZL hLS)).trans e⟩ hL3 (ItemsOf.nil _) fun s' acc' c' hm hS' hacc=>?_
 ·obtain⟨⟨o',q1,q2,q3⟩,oT,cT,q4,q5⟩:=hit;exact⟨⟨o',(oth _ hIL).trans q1,q2,q3⟩,oT,cT,(oth _ hTL).trans q4,q5⟩
 ·rw[Moved.eq_with hm];refine hR ord s'.heap d s'.toks acc' c' p (fun b o hb e=>hm.heap b o (fun z=>?_) ((oth b hb).trans (k1 b o e))) hS' (pd p hacc);rcases Yv.mp z with z|z
  ·exact hb z
  ·have z':b=s.heap.objs.size+1:=by simpa using z
   have hlt:=Yp e;rw[z']at hlt;exact absurd (Xa (ZP _) hlt) (YX _)
theorem kH(nh:A.handled=none)(K:TxAt w s.heap S es ep t)(hb:w.params.followText "set-order"=false)(h2:1<es.size){Q:Kl}
  (q:∀ord h' d tk,ord.Perm (List.range es.size)->(∀b o,s.heap.get? b=some o->h'.get? b=some o)->Q ((im es ord).map (·.2)) {s with heap:=h',drawn:=d,toks:=tk}):wpAny (model prog w) A (collect (.ref S)) Q E s:=by
 obtain⟨o,h1,_,h3⟩:=id K.obj;have hlt:S<s.heap.objs.size:=Yp h1;unfold collect;refine Yb (wpAny_runValue (Zn entry_proto_collect' ?_));refine Yb (m:=newList []) (Vw (Yf ⟨XU _ (by decide+kernel),Zn entry_list_iadd' ?_⟩));rw[ZF (show plainId "list.__iadd__"=true by decide+kernel) ⟨[.ref s.heap.objs.size,.ref S],[]⟩];refine nk (R:=fun r s'=>match r with
  |Except.ok (Flow.ret v)=>wpAny (model prog w) A (match v with
   |Value.ref a=>(load a>>=fun o=>match o.data with
    |Data.seq xs _=>pure xs.toList
    |_=>unsupported "internal:collect")
   |_=>unsupported "internal:collect") Q E s'
  |Except.ok _=>False
  |Except.error e=>E e s') (s:={s with heap:=s.heap.push (seqObj "list" #[] 0)}) (A:=A) (L:=s.heap.objs.size) (res:=.ref s.heap.objs.size) (c₀:=0) ?_ (K.at fun o e=>Yg _ e) hb h2 (ZH hlt) (Yn _ rfl) fun ord h' d tk acc' c' p hk hL' hacc=>?_
 ·simpa using nh
 ·refine Yb (wpAny_load hL' ?_);show wpAny _ _ (pure acc'.toList) _ _ _;rw[hacc];exact Yf (q ord h' d tk p fun b o e=>hk b o (Yw (Yp e)) (Yg _ e))
end
theorem Inv.keptD{X:Cx}{pz:Kp}{σ:List (Option V)}{H:Hp}{s:Shared}{h':Heap}{d':Drawn}{t':Nat}(I:Inv X pz σ H s)(k:∀b u,s.heap.get? b=some u->h'.get? b=some u):Inv X pz σ H {s with heap:=h',drawn:=d',toks:=t' }:=by refine I.step (g':=s.gens) (d':=d') (ch:=[]) (fun _ z=>nomatch z) (fun b o _ _ _ e _=>k b o e) (fun b o _ _ _ e _=>⟨o.slots,k b o e⟩) (fun _ _ _ _ n=>n) (fun b o _ e=>⟨o,k b o e⟩) (fun _ _ e=>e) (fun _ _ _ e=>e) (fun b ps e=>⟨#[],by rw[e];simp⟩) (fun m hm=>?_) (I.hok.kept k) I.bare;obtain⟨o,es,ep,ho,r⟩:=hm;exact⟨o,es,ep,k _ o ho,r⟩
theorem TxAt.plainly{w:World}{h:Heap}{a:Addr}{es:Ka}{ep:Nat}{t:SetTable}(K:TxAt w h a es ep t)(hz:w.params.followText "set-order"=true\/es.size<=1):SObj w h a es ep t:=by
 obtain⟨o,h1,⟨h2,_,_⟩,h3⟩:=K.obj;have hf:=K.fits;simp only[SetTable.fits,Yo,Vy,YE]at hf;refine⟨⟨o,h1,h2,h3⟩,K.fits,hf.1,fun z=>⟨fun i j hi hj hij=>?_⟩,K.led,fun z=>?_⟩
 ·rcases hz with y|y
  ·rw[y]at z;cases z
  ·omega
 ·rcases hz with y|y
  ·rw[y]at z;cases z
  ·rw[YB (by omega),Bool.and_false]
end L2
namespace L2
open PySem PySem.Spec PyProof.Rows PySem.W PySem.SetTable
def qz(w:World)(a:Addr)(vs:List V):Heap->Prop:=fun h=>∃es ep t,(SObj w h a es ep t\/(TxAt w h a es ep t/\w.params.followText "set-order"=false/\1<es.size))/\es.size<=76/\Vals vs (es.toList.map (·.2))
def cr(ds:List D):Bool:=decide (ds.length<70)&&ds.all jO
theorem kP{ds:List D}(h:cr ds=true):ds.length<70/\∀d∈ds,jO d=true:=by unfold cr at h;rw[Yo,YE]at h;exact⟨h.1,fun d m=>Yh.mp h.2 d m⟩
def Eb:D->Bool
 |.str _=>true
 |_=>false
def bV(ds:List D):Bool:=decide (ds.length<70)&&ds.all Eb
theorem jb{ds:List D}(h:bV ds=true):ds.length<70/\∀d∈ds,∃x,d=.str x:=by
 unfold bV at h;rw[Yo,YE]at h;refine⟨h.1,fun d m=>?_⟩;have z:=Yh.mp h.2 d m;cases d with
 |str x=>exact⟨x,rfl⟩
 |_=>cases z
theorem lA{K:Kq}{H:Hp}:∀(us:List Value) (ds:List D),us.length=ds.length->(∀(i:Nat) u d,us[i]?=some u->ds[i]?=some d->∃x,RelV x u/\Rep K H x d)->∃vs,Vals vs us/\Reps K H vs ds:=by
 intro us;induction us with
 |nil=>
  intro ds hl _;obtain rfl:ds=[]:=YY.mp hl.symm;exact⟨[],.nil,.nil⟩
 |cons u us ih=>
  intro ds hl h;cases ds with
  |nil=>cases hl
  |cons d ds=>
   obtain⟨x,h1,h2⟩:=h 0 u d rfl rfl;obtain⟨vs,h3,h4⟩:=ih ds (Vo hl) fun i u' d' e1 e2=>h (i+1) u' d' e1 e2
   exact⟨x::vs,.cons h1 h3,.cons h2 h4⟩
theorem tE{K:Kq}{H:Hp}{us us0:List Value}(p:us.Perm us0):∀{vs:List V}{ds:List D},Vals vs us0->Reps K H vs ds->∃vs2 ds2,Vals vs2 us/\Reps K H vs2 ds2/\ds2.Perm ds:=by
 induction p with
 |nil=>
  intro vs ds r1 r2;exact⟨vs,ds,r1,r2,Xt _⟩
 |cons x _ ih=>
  intro vs ds r1 r2;cases r1 with
  |cons a1 a2=>
   cases r2 with
   |cons b1 b2=>
    obtain⟨vs2,ds2,h1,h2,h3⟩:=ih a2 b2;exact⟨_,_,.cons a1 h1,.cons b1 h2,h3.cons _⟩
 |swap x y l=>
  intro vs ds r1 r2;cases r1 with
  |cons a1 a2=>
   cases a2 with
   |cons a2 a3=>
    cases r2 with
    |cons b1 b2=>
     cases b2 with
     |cons b2 b3=>exact⟨_,_,.cons a2 (.cons a1 a3),.cons b2 (.cons b1 b3),List.Perm.swap _ _ _⟩
 |trans _ _ ih1 ih2=>
  intro vs ds r1 r2;obtain⟨vs2,ds2,h1,h2,h3⟩:=ih2 r1 r2;obtain⟨vs3,ds3,h4,h5,h6⟩:=ih1 h1 h2;exact⟨vs3,ds3,h4,h5,h6.trans h3⟩
theorem jE{α:Type}{p:α->Bool}{as bs:List α}(h:as.Perm bs)(hb:bs.all p=true):as.all p=true:=Yh.mpr fun x m=>Yh.mp hb x (h.mem_iff.mp m)
theorem iu{as bs:List D}(h:as.Perm bs)(ok:bA bs=true):bA as=true:=by unfold bA at ok ⊢;simp only[Yo,YE]at ok ⊢;obtain⟨⟨⟨⟨h1,h2⟩,h3⟩,h4⟩,h5⟩:=ok;refine⟨⟨⟨⟨by rw[h.length_eq];exact h1,jE h h2⟩,?_⟩,jE h h4⟩,jE h h5⟩;refine Yh.mpr fun x hx=>Yh.mpr fun y hy=>?_;exact Yh.mp (Yh.mp h3 x (h.mem_iff.mp hx)) y (h.mem_iff.mp hy)
section
variable{X:Cx}
theorem tJ(hu:X.A.units+80<cLine)(hcalm:X.calm=true):CallR X (.type "set") (fun xs H Q=>∃l vs ds F0,xs=[.ref l]/\SqL X.K H l vs/\Same F0 H/\Reps X.K F0 vs ds/\cr ds=true /\
  ∀a vs' ds',H a=none->ds'.Perm (aL ds)->Reps X.K F0 vs' ds'->Q (.ref a) (upd H a (.ext (qz X.w a vs')))):=by
 intro pz s σ H xs us Q I r h;obtain⟨l,vs,ds,F0,rfl,hq,hF,hr,ok,q⟩:=h;obtain⟨u,rfl,ru⟩:=dW r;cases ru;obtain⟨hlen,hk⟩:=kP ok;obtain⟨its,rv,pl,hz⟩:=I.list hq;have l1:=rv.length;have l2:=hr.length;refine kK (Pv:=fun v d=>∃x,RelV x v/\Rep X.K F0 x d) (ds:=ds) (I.ok.hd hcalm) pl.isList (fun i v hv=>?_) (by simp;omega) (by simp;omega) hu fun h' tk S kp=>?_
 ·have hv':its[i]?=some v:=by simpa using hv
  have hi:i<vs.length:=by rw[l1];exact(Yk.mp hv').1
  obtain⟨u',e1,e2⟩:=rv.get (Yi hi);rw[hv']at e1;cases e1;obtain⟨d,e3,e4⟩:=hr.getV (Yi hi);have kd:=hk d (YA e3);exact⟨d,e3,⟨kd,Rep.reads I 8 (e4.same hF) (br kd).2.1 e2⟩,_,e2,e4⟩
 ·obtain⟨ds',⟨es,t,S,sz,ld⟩,p⟩:=S;obtain⟨vs',h1,h2⟩:=lA (K:=X.K) (H:=F0) (es.toList.map (·.2)) ds' (by rw[Ye,YC,S.len]) fun i u d e1 e2=>by
   rw[Yu,YM]at e1;cases z:es[i]? with
   |none=>rw[z]at e1;cases e1
   |some e=>rw[z]at e1;cases e1;exact S.pv i e d z e2
  obtain⟨o,ep,g1,g2,g3⟩:=S.obj;have K:SObj X.w h' s.heap.objs.size es ep t:=⟨⟨o,g1,g2.1,g3⟩,S.tab.fits S.siz,S.siz,fun _=>S.tab.rise,ld.1,fun _=>by rw[ld.2];rfl⟩
  have hsz:es.size<=76:=by rcases sz with⟨_,z⟩|⟨_,z⟩|⟨_,z⟩<;>omega
  refine⟨.ref s.heap.objs.size,_,I.laid (o:=.ext (qz X.w s.heap.objs.size vs')) (t':=tk) kp (Yl _) ⟨⟨es,ep,t,.inl K,hsz,h1⟩,⟨o,g1⟩,fun ha hb hφ hk'=>?_⟩,rfl,q _ vs' ds' (I.hok.fresh (Yl _)) p h2⟩;obtain⟨es',ep',t',K',z1,z2⟩:=hφ;rcases K' with K'|⟨K',y1,y2⟩
  ·exact⟨es',ep',t',.inl (K'.at hk'),z1,z2⟩
  ·exact⟨es',ep',t',.inr ⟨K'.at hk',y1,y2⟩,z1,z2⟩
theorem uw(hu:X.A.units+80<cLine)(hcalm:X.calm=true):CallR X (.type "set") (fun xs H Q=>∃l vs ds F0,xs=[.ref l]/\SqL X.K H l vs/\Same F0 H/\Reps X.K F0 vs ds/\bV ds=true /\
  ∀a vs' ds',H a=none->ds'.Perm (aL ds)->Reps X.K F0 vs' ds'->Q (.ref a) (upd H a (.ext (qz X.w a vs')))):=by
 intro pz s σ H xs us Q I r h;obtain⟨l,vs,ds,F0,rfl,hq,hF,hr,ok,q⟩:=h;obtain⟨u,rfl,ru⟩:=dW r;cases ru;obtain⟨hlen,hk⟩:=jb ok;obtain⟨its,rv,pl,hz⟩:=I.list hq;have l1:=rv.length;have l2:=hr.length;refine kF (ds:=ds) (I.ok.hd hcalm) pl.isList (fun i v hv=>?_) (by simp;omega) (by simp;omega) fun h' tk S kp=>?_
 ·have hv':its[i]?=some v:=by simpa using hv
  have hi:i<vs.length:=by rw[l1];exact(Yk.mp hv').1
  obtain⟨u',e1,e2⟩:=rv.get (Yi hi);rw[hv']at e1;cases e1;obtain⟨d,e3,e4⟩:=hr.getV (Yi hi);obtain⟨x,rfl⟩:=hk d (YA e3);have e5:Rep X.K F0 vs[i] (.str x):=e4;generalize vs[i]=y at e2 e5;cases e5;obtain⟨tx,rfl⟩:=e2;exact⟨x,tx,rfl,e3⟩
 ·obtain⟨es,ep,t,K,p⟩:=S;obtain⟨vs',h1,h2⟩:=lA (K:=X.K) (H:=F0) (es.toList.map (·.2)) (es.toList.map enD) (by rw[Ye,Ye]) fun i u d e1 e2=>by
   rw[Yu]at e1 e2;cases z:es.toList[i]? with
   |none=>rw[z]at e1;cases e1
   |some e=>
    rw[z]at e1 e2;obtain⟨x,tx,rfl⟩:=K.its e (YA z);cases e1;cases e2;exact⟨.str x,⟨tx,rfl⟩,.str⟩
  obtain⟨o,g1,g2,g3⟩:=K.obj;have hsz:es.size<=76:=by have z:=p.length_eq;rw[Ye,YC]at z;have:=c0 ds;omega
  have hK:SObj X.w h' s.heap.objs.size es ep t\/(TxAt X.w h' s.heap.objs.size es ep t/\X.w.params.followText "set-order"=false/\1<es.size):=by
   by_cases z:X.w.params.followText "set-order"=true\/es.size<=1
   ·exact .inl (K.plainly z)
   ·refine .inr ⟨K,?_,?_⟩
    ·cases y:X.w.params.followText "set-order" with
     |true=>exact absurd (.inl y) z
     |false=>rfl
    ·exact Nat.lt_of_not_le fun y=>z (.inr y)
  refine⟨.ref s.heap.objs.size,_,I.laid (o:=.ext (qz X.w s.heap.objs.size vs')) (t':=tk) kp (Yl _) ⟨⟨es,ep,t,hK,hsz,h1⟩,⟨o,g1⟩,fun ha hb hφ hk'=>?_⟩,rfl,q _ vs' _ (I.hok.fresh (Yl _)) p h2⟩;obtain⟨es',ep',t',K',z1,z2⟩:=hφ;rcases K' with K'|⟨K',y1,y2⟩
  ·exact⟨es',ep',t',.inl (K'.at hk'),z1,z2⟩
  ·exact⟨es',ep',t',.inr ⟨K'.at hk',y1,y2⟩,z1,z2⟩
theorem sR(hu:X.A.units+80<cLine)(hcalm:X.calm=true):CallR X (.type "set") (fun xs H Q=>∃l vs ds F0,xs=[.ref l]/\SqL X.K H l vs/\Same F0 H/\Reps X.K F0 vs ds/\(cr ds=true\/bV ds=true) /\
  ∀a vs' ds',H a=none->ds'.Perm (aL ds)->Reps X.K F0 vs' ds'->Q (.ref a) (upd H a (.ext (qz X.w a vs')))):=by
 intro pz s σ H xs us Q I r h;obtain⟨l,vs,ds,F0,e1,e2,e3,e4,ok,e5⟩:=h;rcases ok with ok|ok
 ·exact tJ hu hcalm pz s σ H xs us Q I r ⟨l,vs,ds,F0,e1,e2,e3,e4,ok,e5⟩
 ·exact uw hu hcalm pz s σ H xs us Q I r ⟨l,vs,ds,F0,e1,e2,e3,e4,ok,e5⟩
theorem mZ(hu:X.A.units+64<cLine)(hcalm:X.calm=true):CallR X (.builtin "sorted") (fun xs H Q=>∃a vs ds F0,xs=[.ref a]/\H a=some (.ext (qz X.w a vs))/\Same F0 H/\Reps X.K F0 vs ds/\bA ds=true /\
  ∀l ws,H l=none->Reps X.K F0 ws (aQ ds)->Q (.ref l) (upd H l (.lst ws))):=by
 intro pz s σ H xs us Q I r h;obtain⟨a,vs,ds,F0,rfl,hH,hF,hr,ok,q⟩:=h;obtain⟨u,rfl,ru⟩:=dW r;cases ru;obtain⟨⟨es,ep,t,KK,hsz,rv⟩,_⟩:=I.hok a _ hH;have fin:∀(us:List Value) (h':Heap) (d:Drawn) (tk:Nat),us.Perm (es.toList.map (·.2))->(∀b o,s.heap.get? b=some o->h'.get? b=some o)->i4 X.prog X.w X.A (EP X pz σ Q) us {s with heap:=h',drawn:=d,toks:=tk}:=by
  intro us h' d tk p kp;obtain⟨vs2,ds2,h1,h2,h3⟩:=tE p rv hr;obtain⟨_,hc,_,_⟩:=dw ok;have es2:aQ ds2=aQ ds:=fW h3 hc;refine oE (I.keptD (d':=d) (t':=tk) kp) (h2.same hF) h1 (iu h3 ok) hu fun l pp s' hl b1 b2 b3 I'=>⟨.ref l,_,I',rfl,q l _ hl ?_⟩
  rw[<-es2];by_cases hn:ds2=[]
  ·subst hn;have:pp=[]:=YY.mp b2;rw[this];exact .nil
  ·rw[<-b3];exact h2.perm hn pp b1
 rcases KK with K|⟨K,hb,h2⟩
 ·exact fA (oY (by have:=I.ok.hd hcalm;simpa using this) K (by rw[YK];omega) fun h' tk kp=>fin _ h' s.drawn tk ((lN X.w a ep es).map _) kp)
 ·exact fA (kH (by have:=I.ok.hd hcalm;simpa using this) K hb h2 fun ord h' d tk p kp=>fin _ h' d tk ((ig p).map _) kp)
variable{e:Expr}{p p2 pos pos2:Pos}
noncomputable def gB (fa:Dd):DF->Option (List D):=fun ρ=>match fa ρ with
 |some (.lst ds)=>if(cr ds=true\/bV ds=true)/\bA (aL ds)=true then some (aQ (aL ds))else none
 |_=>none
theorem pP{fa:Dd}(hu:X.A.units+80<cLine)(hcalm:X.calm=true)(hg:Gl X "sorted")(hm:X.mg "sorted"=none)(hg2:Gl X "set")(hm2:X.mg "set"=none)(ha:PDR X e fa)
  (hs:starEach [e] X.env=[(false,eval e X.env)]:=by rfl) (hs2:starEach [.Call (.Name "set" p2) [e] [] pos2] X.env=[(false,eval (.Call (.Name "set" p2) [e] [] pos2) X.env)]:=by rfl)
  (hpl:(backTo pos (starEach [] X.env)).any (·.1)=false:=by rfl) (hpl2:(backTo pos2 (starEach [] X.env)).any (·.1)=false:=by rfl) :
  PDO X (.Call (.Name "sorted" p) [.Call (.Name "set" p2) [e] [] pos2] [] pos) (asL (gB fa)):=
 (fy (mZ (by omega) hcalm) hg hm iB (aT (d6 (sR hu hcalm) hg2 hm2 vL (aT ha bF hs) (by decide) (by decide) hs hpl2) bF hs2) (by decide) (by decide) hs2 hpl).imp fun σ H Q=>un7 fun P F ρ ob hf I k=>by
  unfold asL gB at hf;cases ha:fa ρ with
  |none=>rw[ha]at hf;cases hf
  |some dx=>
  rw[ha]at hf;cases dx with
  |lst ds=>
   dsimp only at hf;split at hf
   ·rename_i ok;cases hf;refine⟨P,F,ρ,_,ha,I,fun x F1 H1 e1 rx=>?_⟩;have I1:=I.evo e1;obtain⟨l,vs,rfl,h1,h2⟩:=dM I1 rx;refine⟨l,vs,ds,F1,rfl,h1,I1.sub,h2,ok.1,fun a vs' ds' na pm r'=>?_⟩;have e2:Evo P F1 H1 F1 (upd H1 a (.ext (qz X.w a vs'))):=Evo.side e1.hp na;obtain⟨_,hc,_,_⟩:=dw ok.2;refine⟨a,vs',ds',F1,rfl,aG,e2.hp.sub,r',iu pm ok.2,fun l2 ws nl rw'=>?_⟩;rw[fW pm hc]at rw';exact k l2 F1 _ ((e1.trans e2).trans (Evo.side e2.hp nl)) ⟨⟨(e1.trans e2).back I.toDHp nl,(e2.hp.free nl).1⟩,_,aG,rw'⟩
   ·cases hf
  |_=>cases hf
end
end L2
namespace L2
open PySem PySem.Spec PyProof.Rows
theorem Room.h80{k:Nat}{A:Around}(r:Room k A):A.units+80<cLine:=by have:=r.un;omega
theorem A8{X:Cx}{scope scope2:Scope}{N:List Str}{s:Shared}{H:Hp}{fp:List Addr}{pz:Kp}(h:xu scope scope2=true):BlkScope (blk X scope N s H fp pz) scope2:=by
 unfold xu at h;simp only[Yo,YE]at h;obtain⟨⟨h1,h2⟩,h3⟩:=h;refine⟨by simpa using h1,h2,fun x hx hk=>?_⟩;have q:=Yh.mp h3 x hx;rw[hk]at q;have e2:(blk X scope N s H fp pz).env.kindOf x.1=(scope.names.lookup x.1).map fun k=>if(k == NameKind.free&&X.env.scope.kind == .function&&X.env.kindOf x.1 == some .cell)then NameKind.cell else k:=eF scope.names
 rw[e2];have q':scope.names.lookup x.1=some .cell\/scope.names.lookup x.1=some .free:=by simpa using q
 rcases q' with z|z
 ·rw[z];exact .inl rfl
 ·rw[z,ZM];split
  ·exact .inl rfl
  ·exact .inr rfl
theorem All2.get{α β:Type}{R:α->β->Prop}{as:List α}{bs:List β}(h:All2 R as bs){j:Nat}{d:β}(e:bs[j]?=some d):∃a,as[j]?=some a/\R a d:=by
 induction h generalizing j with
 |nil=>exact nomatch e
 |cons q _ ih=>
  cases j with
  |zero=>obtain rfl:=Yr e;exact⟨_,rfl,q⟩
  |succ j=>exact ih e
theorem All2.impM{α β:Type}{R S:α->β->Prop}{as:List α}{bs:List β}(h:All2 R as bs)(f:∀a b,a∈as->R a b->S a b):All2 S as bs:=by
 induction h with
 |nil=>exact .nil
 |cons q _ ih=>exact .cons (f _ _ Yd q) (ih fun a b m=>f a b (Yc _ m))
theorem All2.set{α β:Type}{R S:α->β->Prop}{as:List α}{bs:List β}(h:All2 R as bs){j:Nat}{a:α}{d:β}(nd:as.Nodup)(ea:as[j]?=some a)(hS:S a d)(hR:∀b x,b≠a->R b x->S b x):All2 S as (bs.set j d):=by
 induction h generalizing j with
 |nil=>exact nomatch ea
 |@cons a' b' as' bs' q r ih=>
  obtain⟨n1,n2⟩:=Zh.mp nd;cases j with
  |zero=>
   obtain rfl:=Yr ea;exact .cons hS (r.impM fun b x hb=>hR b x fun z=>by subst z;exact n1 hb)
  |succ j=>
   have:a'≠a:=fun z=>by subst z;exact n1 (YA ea)
   exact .cons (hR _ _ this q) (ih n2 ea)
section
variable{X:Cx}{e:Expr}{pos:Pos}
end
def isI:D->Bool
 |.int _=>true
 |_=>false
def toI:D->Int
 |.int i=>i
 |_=>0
theorem gU{K:Kq}{F:Hp}:∀{vs:List V}{ds:List D},Reps K F vs ds->ds.all isI=true->vs=(ds.map toI).map V.int:=by
 intro vs ds h;refine Reps.ind (M:=fun vs ds=>ds.all isI=true->vs=(ds.map toI).map V.int) (fun _=>rfl) (fun{v d vs ds} r _ ih q=>?_) h;rw[XR,Yo]at q;cases d with
 |int i=>
  cases r;rw[ih q.2];rfl
 |_=>cases q.1
section
variable{X:Cx}{e:Expr}{pos pos2 p p2:Pos}
end
section
variable{X:Cx}{e:Expr}{pos p:Pos}
end
section
variable{X:Cx}{l:Expr}{elts:List Expr}{kk:Nat}{tpos pos p:Pos}
end
end L2
namespace L2
open PySem PySem.Spec PySem.Calls PySem.W PyProof.Rows Builtin Builtin.ObjectAttr Builtin.Getset_descriptor
section
variable{K:Kq}{e C:Addr}{prog:Program}{w:World}{A:Around}{E:Kv}{s:Shared}
end
end L2
namespace L2
open PySem PySem.Spec PySem.Calls PySem.W PyProof.Rows
section
variable{P:Program}{w:World}{K:Kq}{mg:Ks}{base:Heap}{N:List Str}{qual:Str}{scope:Scope}{f C:Addr}{cd:Value}{A:Around}{outer:List Env}{s:Shared}{H:Hp}{E:XK}
end
section
variable{X:Cx}{a C:Addr}{ob:Obj}{pz:Kp}{σ:St}{H:Hp}{s:Shared}
end
section
variable{X:Cx}{a C:Addr}{ob:Obj}{pos p p1 p2 p3 p4:Pos}
end
section
variable{P:Program}{w:World}{K:Kq}{mg:Ks}{base:Heap}{N:List Str}{qual:Str}{scope:Scope}{f:Addr}{cl:Nat->Addr}{cd:Value}{A:Around}{outer:List Env}{s:Shared}{H:Hp}{E:XK}
end
section
variable{X:Cx}{cl:Nat->Addr}{E:XK}{st:Stmt}{bD sts:List Stmt}{pos:Pos}
end
end L2
namespace L2
open PySem PySem.Spec PyProof.Rows
section
variable{X:Cx}{e:Expr}{pos:Pos}
theorem DInv.nestL{K:Kq}{P F H:Hp}{ρ:DF}{σ:St}(I:DInv K P F H ρ σ){i j:Nat}{dss:List (List D)}{ds:List D}(q:(∃t,ρ[i]?=some (some (.own (.lst2 dss) t)))\/ρ[i]?=some (some (.bor (.lst2 dss))))(hj:dss[j]?=some ds):∃(a:Addr) (bs:List Addr) (b:Addr) (u:HO),σ[i]?=some (some (.ref a))/\H a=some (.lst (bs.map .ref))/\bs[j]?=some b/\F b=none/\H b=some u/\ORep1 K F (.lst ds) u:=by
 have hs:∃v,σ[i]?=some (some v):=by
  rcases q with⟨t,q⟩|q
  ·obtain⟨v,h1,_⟩:=I.at q;exact⟨v,h1⟩
  ·obtain⟨v,h1,_⟩:=I.at q;exact⟨v,h1⟩
 obtain⟨v,hv⟩:=hs;obtain⟨a,rfl,h2,bs,h3,h4,h5⟩:=I.slot hv q;obtain⟨b,h6,h7,u,h8,h9⟩:=h5.get hj;exact⟨a,bs,b,u,hv,h3,h6,h7,h8,h9⟩
theorem DInv.mutNL{K:Kq}{P F H:Hp}{ρ:DF}{σ:St}(I:DInv K P F H ρ σ){i j:Nat}{dss:List (List D)}{ds ds':List D}{t:Option Addr}(h:ρ[i]?=some (some (.own (.lst2 dss) t)))(hj:dss[j]?=some ds):∃(a:Addr) (bs:List Addr) (b:Addr) (vs:List V),σ[i]?=some (some (.ref a))/\H a=some (.lst (bs.map .ref))/\bs[j]?=some b/\F b=none/\H b=some (.lst vs)/\Reps K F vs ds /\
  ∀F1 H1,Evo P F H F1 H1->∀vs',Reps K F1 vs' ds'->DInv K P F1 (upd H1 b (.lst vs')) (ρ.set i (some (.own (.lst2 (dss.set j ds')) t))) σ:=by
 obtain⟨a,bs,b,u,h1,h2,h3,h4,h5,h6⟩:=I.nestL (.inl ⟨t,h⟩) hj;cases u with
 |lst vs=>
  refine⟨a,bs,b,vs,h1,h2,h3,h4,h5,h6,fun F1 H1 ev vs' hv=>?_⟩;have I1:=I.evo ev;obtain⟨O,hR⟩:=I1.rep;obtain⟨v,g1,a',rfl,⟨g2,bs',g3,g4,g5⟩,ht⟩:=hR i _ h;rw[h1]at g1;cases g1;rw[(ev.keep a _ h2 (by
   obtain⟨v,y1,y2,rfl,⟨⟨y3,_⟩,_⟩,_⟩:=I.at h;rw[h1]at y1;cases y1;exact y3)).1]at g3
  have hb:bs'=bs:=by
   have z:bs.map V.ref=bs'.map V.ref:=HO.lst.inj (Yr g3);have inj:∀x y:List Addr,x.map V.ref=y.map V.ref->x=y:=fun x y e=>by
    have:=Zs (List.map fun v:V=>match v with|.ref a=>a|_=>0) e;rw[Zw,Zw]at this;have e0:((fun v:V=>match v with|.ref a=>a|_=>0) ∘ V.ref)=id:=rfl;rw[e0,XL,XL]at this;exact this
   exact(inj _ _ z).symm
  subst hb;obtain⟨n1,n2⟩:=Zh.mp g4;obtain⟨b',y1,⟨y2,y3,y4⟩,_⟩:=g5.get hj;rw[h3]at y1;cases y1;have hab:a≠b:=fun z=>by subst z;exact n1 (YA h3)
  refine⟨⟨fun c w e=>by rw[au (aH e y2)];exact I1.sub c w e,fun c w e=>by rw[au (aH e y3)];exact I1.pro c w e,I1.dis⟩,by rw[YO];exact I1.len,O,fun m z hm=>?_⟩;rcases df hm with⟨rfl,e,hl⟩|⟨him,hm'⟩
  ·cases e;refine⟨_,h1,a,rfl,⟨g2,bs',by rw[au hab];exact(ev.keep a _ h2 (by
    obtain⟨v,y1,y2,rfl,⟨⟨y3,_⟩,_⟩,_⟩:=I.at h;rw[h1]at y1;cases y1;exact y3)).1,g4,?_⟩,ht⟩
   exact g5.set n2 h3 ⟨⟨y2,y3,y4⟩,.lst vs',aG,hv⟩ fun c x hc ⟨o1,o2,o3,o4⟩=>⟨o1,o2,by rw[au hc];exact o3,o4⟩
  ·obtain⟨w,e1,e2⟩:=hR m z hm';refine⟨w,e1,?_⟩;cases z with
   |v d'=>exact e2
   |own od t'=>(obtain⟨c,rfl,e3,ht'⟩:=e2;exact⟨c,rfl,e3.mono (Same.refl _) fun b w' q hb=>⟨by rw[au (fun z=>by subst z;rw[q.2.2]at y4;exact him (Yr y4).symm)];exact hb,q⟩,ht'⟩)
   |bor od=>exact e2
 |_=>exact h6.elim
end
section
variable{X:Cx}{a b e:Expr}{pos:Pos}
theorem sQ{e1:Expr}{f1:Dl}(h1:PDO X e1 (asL f1))(hs:starEach [e1] X.env=(false,eval e1 X.env)::starEach [] X.env:=by rfl) :
  PDO X (.List [e1] pos) (fun ρ=>(f1 ρ).map fun a=>.lst2 [a]):=
 (qJ (aT h1 bF hs)).imp fun σ H Q=>un7 fun P F ρ o hf0 I k=>by
  have hf:((f1 ρ).map fun a=>OD.lst2 [a])=some o:=hf0;clear hf0;cases q1:f1 ρ with
  |none=>rw[q1]at hf;cases hf
  |some d1=>
   rw[q1]at hf;cases hf;refine⟨P,F,ρ,.lst d1,by unfold asL;rw[q1];rfl,I,fun a F1 H1 ev1 o1=>⟨by rw[YK];exact(show 1<=16777216 by decide),fun p hp=>?_⟩⟩;obtain⟨⟨a1,a2⟩,u,a3,a4⟩:=o1;have ev3:=Evo.side (o:=.lst [.ref a]) ev1.hp hp;have pa:a≠p:=fun z=>by subst z;rw[hp]at a3;cases a3
   have hp0:H p=none:=ev1.back I.toDHp hp;have fp:=ev1.hp.free hp;refine k p F1 _ (ev1.trans ev3) ⟨⟨hp0,fp.1⟩,[a],aG,?_,?_⟩
   ·simp[ZL pa]
   ·exact .cons ⟨⟨a1,a2⟩,u,by rw[au pa];exact a3,a4⟩ .nil
def v9(i:Nat)(f:Dd):DF->Option D:=fun ρ=>(f ρ).bind fun j=>match ρ[i]?,j with
 |some (some (.own (.lst2 dss) _)),.int n=>(atI dss n).map .lst
 |some (some (.bor (.lst2 dss))),.int n=>(atI dss n).map .lst
 |_,_=>none
theorem DInv.nestI{K:Kq}{P F H:Hp}{ρ:DF}{σ:St}(I:DInv K P F H ρ σ){i:Nat}{n:Int}{dss:List (List D)}{ds:List D}(q:(∃t,ρ[i]?=some (some (.own (.lst2 dss) t)))\/ρ[i]?=some (some (.bor (.lst2 dss))))(hj:atI dss n=some ds):∃(a:Addr) (bs:List Addr) (b:Addr) (u:HO),σ[i]?=some (some (.ref a))/\H a=some (.lst (bs.map .ref))/\atI (bs.map V.ref) n=some (.ref b)/\F b=none/\H b=some u/\ORep1 K F (.lst ds) u:=by
 have hs:∃v,σ[i]?=some (some v):=by
  rcases q with⟨t,q⟩|q
  ·obtain⟨v,h1,_⟩:=I.at q;exact⟨v,h1⟩
  ·obtain⟨v,h1,_⟩:=I.at q;exact⟨v,h1⟩
 obtain⟨v,hv⟩:=hs;obtain⟨a,rfl,h2,bs,h3,h4,h5⟩:=I.slot hv q;unfold atI at hj;cases hn:ixN dss.length n with
 |none=>rw[hn]at hj;cases hj
 |some j=>
  rw[hn,Ya]at hj;obtain⟨b,h6,h7,u,h8,h9⟩:=h5.get hj;refine⟨a,bs,b,u,hv,h3,?_,h7,h8,h9⟩;unfold atI;rw[Ye,h5.length,hn,Ya,Yu,h6];rfl
theorem xF(i:Nat){f:Dd}(h:PE X a (dg i))(hb:PDR X b f)(hs:gO b:=by exact fun _ _=>rfl):PDR X (.Subscript a b pos) (v9 i f):=(sq nN h hb hs).imp fun σ H Q=>un7 fun P F ρ d hf I k=>by
 have nested:∀(dss:List (List D)) (n:Int),((∃t,ρ[i]?=some (some (.own (.lst2 dss) t)))\/ρ[i]?=some (some (.bor (.lst2 dss))))->f ρ=some (.int n)->(atI dss n).map D.lst=some d->tOp (rIx X.K) (dg i) (tR X.K f) σ H Q:=fun dss n q hn hf=>by
  cases hj:atI dss n with
  |none=>rw[hj]at hf;cases hf
  |some ds=>
   rw[hj]at hf;cases hf;obtain⟨a,bs,b,u,h1,_⟩:=I.nestI q hj;refine⟨_,h1,P,F,ρ,.int n,hn,I,fun v F' H' ev r=>?_⟩;have r':=r.now ev.hp.sub;cases r';obtain⟨a',bs',b',u',g1,g2,g3,g4,g5,g6⟩:=(I.evo ev).nestI q hj;rw[h1]at g1;cases g1;exact .inl ⟨a,_,n,.ref b',rfl,rfl,SqL.of g2,g3,k _ F' H' ev (.inr ⟨b',.lst ds,u',rfl,g4,g5,g6,rfl,rfl⟩)⟩
 unfold v9 at hf;cases hn:f ρ with
 |none=>rw[hn]at hf;cases hf
 |some j=>
  rw[hn,Ya]at hf;split at hf
  ·rename_i dss t n q;exact nested dss n (.inl ⟨t,q⟩) hn hf
  ·rename_i dss n q;exact nested dss n (.inr q) hn hf
  ·cases hf
def lu(i j:Nat)(f:Do):DF->Option RES:=fun ρ=>match ρ[i]?,ρ[j]? with
 |some (some (.own (.lst2 dss) _)),some (some (.own (.lst ds) _))=>if dss.length<16777216 then(f (ρ.set i none)).map fun o=>.nx ((ρ.set i (some (.own (.lst2 (dss++[ds])) none))).set j (some (.own o none)))else none
 |_,_=>none
theorem All2.app{α β:Type}{R:α->β->Prop}{as as':List α}{bs bs':List β}(h:All2 R as bs)(h':All2 R as' bs'):All2 R (as++as') (bs++bs'):=by
 induction h with
 |nil=>exact h'
 |cons q _ ih=>exact .cons q ih
theorem DInv.move{K:Kq}{P F H:Hp}{ρ:DF}{σ:St}(I:DInv K P F H ρ σ){i j:Nat}{dss:List (List D)}{ds:List D}{t t':Option Addr}(hi:ρ[i]?=some (some (.own (.lst2 dss) t)))(hj:ρ[j]?=some (some (.own (.lst ds) t'))) :
  ∃(a:Addr) (bs:List Addr) (b:Addr),σ[i]?=some (some (.ref a))/\σ[j]?=some (some (.ref b))/\H a=some (.lst (bs.map .ref))/\bs.length=dss.length/\DInv K P F (upd H a (.lst (bs.map .ref++[.ref b]))) (ρ.set i none) σ /\
   ∀F' H' a' o,Evo P F (upd H a (.lst (bs.map .ref++[.ref b]))) F' H'->ORep K F' H' (fun c=>upd H a (.lst (bs.map .ref++[.ref b])) c=none/\F' c=none) o a'->
    DInv K P F' H' ((ρ.set i (some (.own (.lst2 (dss++[ds])) none))).set j (some (.own o none))) (σ.set j (some (.ref a'))):=by
 obtain⟨O,hR⟩:=I.rep;obtain⟨_,h1,a,rfl,⟨⟨fa,pa,oa⟩,bs,h3,h4,h5⟩,_⟩:=hR i _ hi;obtain⟨_,g1,b,rfl,⟨⟨fb,pb,ob⟩,u,g3,g4⟩,_⟩:=hR j _ hj;have hij:i≠j:=fun z=>by subst z;rw[hi]at hj;cases hj
 have ne:∀{c d:Addr}{m n:Nat},O c=some m->O d=some n->m≠n->c≠d:=fun h h' hn z=>by subst z;rw[h]at h';exact hn (Yr h')
 obtain⟨n1,n2⟩:=Zh.mp h4;have others:∀(m:Nat) (z:DV),m≠i->ρ[m]?=some (some z)->∃v,σ[m]?=some (some v)/\DVRep K P F (upd H a (.lst (bs.map .ref++[.ref b]))) (fun c=>O c=some m) z v:=fun m z hm hz=>by
  obtain⟨w,e1,e2⟩:=hR m z hz;refine⟨w,e1,?_⟩;cases z with
  |v d'=>exact e2
  |own od t'=>(obtain⟨c,rfl,e3,ht'⟩:=e2;exact⟨c,rfl,e3.mono (Same.refl _) fun b w' q hb=>⟨by rw[au (ne q.2.2 oa hm)];exact hb,q⟩,ht'⟩)
  |bor od=>exact e2
 have hp4:DHp P F (upd H a (.lst (bs.map .ref++[.ref b]))):=⟨fun c w e=>by rw[au (aH e fa)];exact I.sub c w e,fun c w e=>by rw[au (aH e pa)];exact I.pro c w e,I.dis⟩
 refine⟨a,bs,b,h1,g1,h3,h5.length,⟨hp4,by rw[YO];exact I.len,O,fun m z hm=>?_⟩,fun F' H' a' o ev ho=>?_⟩
 ·rcases df hm with⟨rfl,e,hl⟩|⟨him,hm'⟩
  ·cases e
  ·exact others m z (ZL him) hm'
 ·classical
  refine⟨ev.hp,by rw[YO,YO,YO];exact I.len,fun c=>if upd H a (.lst (bs.map .ref++[.ref b])) c=none then some j else if O c=some j then some i else O c,fun m z hm=>?_⟩;have own_m:∀{c:Addr}{u:HO}{m:Nat},upd H a (.lst (bs.map .ref++[.ref b])) c=some u->O c=some m->m≠j->(if upd H a (.lst (bs.map .ref++[.ref b])) c=none then some j else if O c=some j then some i else O c)=some m:=fun h h' hn=>by
   rw[if_neg (by rw[h];simp),if_neg (by rw[h'];exact fun z=>hn (Yr z)),h']
  rcases df hm with⟨rfl,e,hl⟩|⟨hjm,hm'⟩
  ·cases e;exact⟨.ref a',by rw[YZ (by rw[<-I.len];rw[YO]at hl;exact hl)],a',rfl,ho.mono (Same.refl _) fun c w q hc=>⟨hc,q.2,hp4.pro.free q.1,if_pos q.1⟩,fun _ z=>nomatch z⟩
  ·rcases df hm' with⟨rfl,e,hl⟩|⟨him,hm''⟩
   ·cases e;obtain⟨k1,k2⟩:=ev.keep a _ aG fa;refine⟨.ref a,by rw[YL hjm];exact h1,a,rfl,⟨⟨k2,pa,own_m aG oa hij⟩,bs++[b],by rw[k1,Zd];rfl,?_,?_⟩,fun _ z=>nomatch z⟩
    ·have nb:b∉bs:=fun z=>by
      obtain⟨n,hn⟩:=List.getElem?_of_mem z;have hn':∃x,dss[n]?=some x:=by have:=(Yk.mp hn).1;rw[h5.length]at this;exact⟨_,Yi this⟩
      obtain⟨x,hx⟩:=hn';obtain⟨b',y1,⟨_,_,y2⟩,_⟩:=h5.get hx;rw[hn]at y1;cases y1;exact ne y2 ob hij rfl
     have ab:a≠b:=ne oa ob hij;rw[<-List.cons_append];refine List.nodup_append.mpr ⟨h4,by simp,fun x hx y hy=>?_⟩;rw[Ze]at hy;subst hy;rcases Yv.mp hx with rfl|hx
     ·exact ab
     ·exact fun z=>by subst z;exact nb hx
    ·refine All2.app (h5.impM fun c x hc ⟨⟨c1,c2,c3⟩,w,c4,c5⟩=>?_) (.cons ?_ .nil)
     ·have ca:c≠a:=fun z=>by subst z;exact n1 hc
      have c4':upd H a (.lst (bs.map .ref++[.ref b])) c=some w:=by rw[au ca];exact c4
      obtain⟨z1,z2⟩:=ev.keep c w c4' c1;exact⟨⟨z2,c2,own_m c4' c3 hij⟩,w,z1,c5.same ev.ext⟩
     ·have ba:b≠a:=ne ob oa (ZL hij);have g3':upd H a (.lst (bs.map .ref++[.ref b])) b=some u:=by rw[au ba];exact g3
      obtain⟨z1,z2⟩:=ev.keep b u g3' fb;refine⟨⟨z2,pb,?_⟩,u,z1,ORep1.same (o:=.lst ds) ev.ext g4⟩;show(if upd H a (.lst (bs.map .ref++[.ref b])) b=none then some j else if O b=some j then some i else O b)=some i;rw[if_neg (by rw[g3'];simp),if_pos ob]
   ·obtain⟨w,e1,e2⟩:=others m z (ZL him) hm'';refine⟨w,by rw[YL hjm];exact e1,?_⟩;exact(e2.imp fun c w' _ _ hc q=>own_m hc q (ZL hjm)).evo ev
theorem uG(i j:Nat){o y e5:Expr}{x:Str}{apos cpos pos2 pos':Pos}{f:Do}(h:PE X o (dg i))(hy:PE X y (dg j))(hN:X.N.Nodup)(hi:X.N[j]?=some x)(hx:Loc X.env.scope x)(he:PDO X e5 f)(hbase:attributeBase o "append" X.env (eval o X.env)=eval o X.env:=by rfl)
  (hfew:((backTo cpos (starEach [y] X.env)).all (fun x=>!x.1)&&(backToKw cpos (keywordEach [] X.env)).all (fun x=>x.1.isSome)
   && decide (([y]:List Expr).length+([]:List Keyword).length+(if([]:List Keyword).isEmpty then 0 else 1)<30))=true:=by rfl)
  (hline:(apos.endLine == cpos.line)=true:=by rfl) (hs:starEach [y] X.env=[(false,eval y X.env)]:=by rfl) (hsw:swapsWith (.Call (.Attribute o "append" apos) [y] [] cpos) none pos.line X.env=pure false:=by rfl)
  (hs5:swapsWith e5 (some (.Name x pos')) pos2.line X.env=pure false:=by rfl) (hf5:X.fn x=true\/X.env.scope.names.lookup x=some .local:=by first|exact .inl rfl|exact .inr rfl|assumption) :
  PDS X [.Expr (.Call (.Attribute o "append" apos) [y] [] cpos) pos,.Assign [.Name x pos'] e5 pos2] (lu i j f):=
 PSs.imp (ot (eS (lE Zo Xj Xk dY h (aT hy bF hs) hbase hfew hline hs rfl) hsw) (nc (qu hN hi hx he hs5 hf5))) fun E σ H=>un7 fun P F ρ r hr I k=>by
  unfold lu at hr;split at hr
  ·rename_i dss t ds t' q q';split at hr
   ·rename_i hl;cases q2:f (ρ.set i none)with
    |none=>rw[q2]at hr;cases hr
    |some o=>
     rw[q2]at hr;cases hr;obtain⟨a,bs,b,h1,h2,h3,h4,h5,h6⟩:=I.move q q';refine⟨_,h1,.inl ⟨rfl,_,SqL.of h3⟩,_,h2,a,_,.ref b,rfl,rfl,h3,by rw[YK,Ye,h4];exact hl,?_⟩;exact⟨P,F,_,o,q2,h5,fun a' F' H' ev ho=>k _ F' H' ev.ext (h6 F' H' a' o ev ho)⟩
   ·cases hr
  ·cases hr
def l8(f:Do)(fi:Dd):DF->Option RES:=fun ρ=>match f ρ,fi ρ with
 |some (.lst2 dss),some (.int n)=>(atI dss n).map fun ds=>.rt (.own (.lst ds) none) ρ
 |_,_=>none
theorem wB{f:Do}{fi:Dd}{pos2:Pos}(hs:gO b)(h:PDO X a f)(hb:PDR X b fi):PD1 X (.Return (some (.Subscript a b pos)) pos2) (l8 f fi):=
 PS.imp (l_ (sq nN h hb hs)) fun E σ H=>un7 fun P F ρ r hr I k=>by
  unfold l8 at hr;split at hr
  ·rename_i dss n q q';cases hj:atI dss n with
   |none=>rw[hj]at hr;cases hr
   |some ds=>
    rw[hj]at hr;cases hr;refine⟨P,F,ρ,_,q,I,fun a F1 H1 ev1 ho=>⟨P,F1,ρ,_,q',I.evo ev1,fun v F2 H2 ev2 r=>?_⟩⟩;have r':=r.now ev2.hp.sub;cases r';obtain⟨⟨a1,a2⟩,bs,a3,a4,a5⟩:=ho;obtain⟨k1,k2⟩:=ev2.keep a _ a3 a2;unfold atI at hj;cases hn:ixN dss.length n with
    |none=>rw[hn]at hj;cases hj
    |some j=>
     rw[hn,Ya]at hj;obtain⟨b,h6,⟨h7,h7'⟩,u,h8,h9⟩:=a5.get hj;obtain⟨z1,z2⟩:=ev2.keep b u h8 h7';refine .inl ⟨a,_,n,.ref b,rfl,rfl,SqL.of k1,by unfold atI;rw[Ye,a5.length,hn,Ya,Yu,h6];rfl,?_⟩;exact k _ σ F2 H2 (ev1.ext.trans ev2.ext) ((I.evo ev1).evo ev2) ⟨b,rfl,⟨⟨z2,I.pro.free h7,trivial⟩,u,z1,ORep1.same (o:=.lst ds) ev2.ext h9⟩,fun _ z=>nomatch z⟩
  ·cases hr
end
theorem tW{K:Kq}{P F H H':Hp}{ρ ρ':DF}{σ σ':St}{O:Addr->Option Nat}{A:Addr->Prop}{ia ib:Nat}(hp:DHp P F H)
  (hR:∀(i:Nat) (x:DV),ρ[i]?=some (some x)->∃v,σ[i]?=some (some v)/\DVRep K P F H (fun b=>O b=some i) x v)
  (hA:∀a,A a->F a=none/\P a=none/\(O a=none\/O a=some ia\/O a=some ib)) (hH:∀a,¬A a->H' a=H a)
  (hρ:∀(i:Nat) (x:DV),ρ'[i]?=some (some x)->ρ[i]?=some (some x)/\i≠ia/\i≠ib/\σ'[i]?=σ[i]?) (hl:ρ'.length=σ'.length):DInv K P F H' ρ' σ':=by
 refine⟨⟨fun a u e=>?_,fun a u e=>?_,hp.dis⟩,hl,O,fun i x hx=>?_⟩
 ·rw[hH a fun z=>by rw[(hA a z).1]at e;cases e];exact hp.sub a u e
 ·rw[hH a fun z=>by rw[(hA a z).2.1]at e;cases e];exact hp.pro a u e
 ·obtain⟨h1,h2,h3,h4⟩:=hρ i x hx;obtain⟨v,e1,e2⟩:=hR i x h1;refine⟨v,h4.trans e1,?_⟩;cases x with
  |v d=>exact e2
  |bor o=>exact e2
  |own o t=>
   obtain⟨c,rfl,e3,e4⟩:=e2;refine⟨c,rfl,e3.mono (Same.refl _) fun b w q hb=>⟨?_,q⟩,e4⟩;rw[hH b fun z=>?_]
   ·exact hb
   ·rcases(hA b z).2.2 with y|y|y
    ·rw[q.2.2]at y;cases y
    ·rw[q.2.2]at y;cases y;exact h2 rfl
    ·rw[q.2.2]at y;cases y;exact h3 rfl
theorem All2.mem{α β:Type}{R:α->β->Prop}{as:List α}{bs:List β}(h:All2 R as bs){a:α}(ha:a∈as):∃b∈bs,R a b:=by
 induction h with
 |nil=>cases ha
 |cons q _ ih=>
  rcases Yv.mp ha with rfl|ha
  ·exact⟨_,Yd,q⟩
  ·obtain⟨b,h1,h2⟩:=ih ha;exact⟨b,Yc _ h1,h2⟩
def gA(i ix:Nat):DF->Option RES:=fun ρ=>match ρ[i]? with
 |some (some (.own (.lst2 dss) _))=>if ix<ρ.length/\dss.all (fun ds=>decide (ds.length+dss.length<=16777216))=true then some (.nx ((ρ.set i none).set ix none))else none
 |_=>none
theorem qM{X:Cx}{e1 ev:Expr}{x:Str}{w:V}{p p2 apos cpos epos pos:Pos}(i ix:Nat)(hp:PassesOwn (model X.prog X.w) X.A X.env X.xe)(hc:X.calm=true)
  (h1:PE X e1 (dg i)) (hg:PG X (.Name x p) (io ix)) (hx:PE X (.Name x p2) (dg ix)) (hv:PE X ev (tC w))
  (hbase:attributeBase (.Name x p2) "append" X.env (eval (.Name x p2) X.env)=eval (.Name x p2) X.env:=by rfl)
  (hfew:((backTo cpos (starEach [ev] X.env)).all (fun x=>!x.1)&&(backToKw cpos (keywordEach [] X.env)).all (fun x=>x.1.isSome)
   && decide (([ev]:List Expr).length+([]:List Keyword).length+(if([]:List Keyword).isEmpty then 0 else 1)<30))=true:=by rfl)
  (hline:(apos.endLine == cpos.line)=true:=by rfl) (hs:starEach [ev] X.env=[(false,eval ev X.env)]:=by rfl) (hsw:swapsWith (.Call (.Attribute (.Name x p2) "append" apos) [ev] [] cpos) none epos.line X.env=pure false:=by rfl)
  (hf:∀y,foldedSetIterable e1 X.env y=pure y:=by intro _;rfl) :
  PD1 X (.For (.Name x p) e1 [.Expr (.Call (.Attribute (.Name x p2) "append" apos) [ev] [] cpos) epos] [] pos) (gA i ix):=
 PS.imp (wT hp hc (mV h1) hg
  (nc (eS (lE Zo Xj Xk dY hx (aT hv bF hs) hbase hfew hline hs rfl) hsw)) hf) fun E σ H hh_=>by
  obtain⟨P,F,ρ,r,hr,I,k⟩:=hh_;unfold gA at hr;split at hr
  ·rename_i dss t q1;split at hr
   ·rename_i hl;obtain⟨l0,l1⟩:=hl;cases hr;obtain⟨O,hR⟩:=I.rep;obtain⟨_,s1,a,rfl,⟨⟨fa,pa,oa⟩,bs,a3,a4,a5⟩,_⟩:=hR i _ q1;obtain⟨n1,n2⟩:=Zh.mp a4;have size:∀r'∈bs,∃ys,H r'=some (.lst ys)/\ys.length+bs.length<=sizeLine:=fun r' hr'=>by
     obtain⟨ds,m1,_,u,m2,m3⟩:=a5.mem hr';cases u with
     |lst ys=>exact⟨ys,m2,by rw[YK,a5.length,Reps.length m3];exact ZW (Yh.mp l1 ds m1)⟩
     |_=>exact m3.elim
    refine⟨.ref a,s1,a,rfl,⟨_,SqL.of a3⟩,?_⟩;refine⟨fun j m σ' H'=>m=bs.length-j/\j<=bs.length/\σ'.length=σ.length/\(∀n,n≠ix->σ'[n]?=σ[n]?)/\(∀c,¬c∈bs->H' c=H c)/\∀r'∈bs,∃ys,H' r'=some (.lst ys)/\ys.length+bs.length<=sizeLine+j,
     ⟨_,rfl,YF _,rfl,fun _ _=>rfl,fun _ _=>rfl,size⟩,?_⟩
    rintro j m σ' H' ⟨rfl,hj,hlen,hσ,off,sz⟩;have hq':H' a=some (.lst (bs.map .ref)):=by rw[off a n1];exact a3
    by_cases hlt:j<bs.length
    ·have hgj:bs[j]?=some bs[j]:=Yi hlt;have hr':bs[j]∈bs:=ZI hlt;generalize bs[j]=r' at hgj hr';have hg':(bs.map V.ref)[j]?=some (.ref r'):=by rw[Yu,hgj];rfl
     refine .inr ⟨⟨_,_,SqL.of hq',hg'⟩,fun σ2 H2'=>σ2.length=σ.length/\(∀n,n≠ix->σ2[n]?=σ[n]?)/\(∀c,¬c∈bs->H2' c=H c)/\∀r'∈bs,∃ys,H2' r'=some (.lst ys)/\ys.length+bs.length<=sizeLine+(j+1),
      fun σ2 H2' hh2=>⟨bs.length-(j+1),by omega,rfl,hlt,hh2⟩,fun u H3 hy=>?_⟩
     obtain⟨rfl,hy2⟩:=hy;have t:=hy2 _ (SqL.of hq');rw[hg']at t;cases t;obtain⟨ys,y1,y2⟩:=sz r' hr';have hset:ix<σ'.length:=by rw[hlen,<-I.len];exact l0
     refine⟨.ref r',by rw[YZ hset],.inl ⟨rfl,ys,SqL.of y1⟩,r',ys,w,rfl,rfl,y1,by omega,?_⟩;refine⟨by rw[YO];exact hlen,fun n hn=>by rw[YL (ZL hn)];exact hσ n hn,fun c hc=>by rw[au (fun z:c=r'=>hc (by rw[z];exact hr'))];exact off c hc,fun w' hw=>?_⟩;by_cases hwr:w'=r'
     ·subst hwr;exact⟨_,aG,by rw[Yt,YQ];omega⟩
     ·obtain⟨zs,z1,z2⟩:=sz w' hw;exact⟨zs,by rw[au hwr];exact z1,by omega⟩
    ·refine .inl ⟨⟨_,SqL.of hq',by rw[Ye];omega⟩,k σ' F H' (Same.refl _) ?_⟩;refine tW (A:=fun c=>c∈bs) (O:=O) (ia:=i) (ib:=i) I.toDHp hR (fun c hc=>?_) off (fun m x hx=>?_) (by rw[YO,YO,hlen];exact I.len)
     ·obtain⟨ds,_,⟨z1,z2,z3⟩,_⟩:=a5.mem hc;exact⟨z1,z2,.inr (.inl z3)⟩
     ·have hi:m≠ix:=fun z=>by subst z;rw[List.getElem?_set]at hx;split at hx<;>first|(split at hx<;>cases hx)|exact absurd rfl ‹_›
      rw[YL (ZL hi)]at hx;have hia:m≠i:=fun z=>by subst z;rw[List.getElem?_set]at hx;split at hx<;>first|(split at hx<;>cases hx)|exact absurd rfl ‹_›
      rw[YL (ZL hia)]at hx;exact⟨hx,hia,hia,hσ m hi⟩
   ·cases hr
  ·cases hr
section
variable{X:Cx}{a b e:Expr}{pos:Pos}
def gr(f:Do):DF->Option (List D):=fun ρ=>match f ρ with
 |some (.lst2 dss)=>some (dss.map .lst)
 |some (.lst ds)=>some ds
 |_=>none
theorem yo{K:Kq}{F F2 H:Hp}{ow:Addr->Prop}(hs:Same F F2){bs:List Addr}{dss:List (List D)}(h:All2 (fun b ds=>ow b/\∃u,H b=some u/\ORep1 K F (.lst ds) u) bs dss)(hF:∀b∈bs,∀u,ow b->H b=some u->F2 b=some u):Reps K F2 (bs.map .ref) (dss.map .lst):=by
 induction h with
 |nil=>exact .nil
 |cons q _ ih=>
  obtain⟨q1,u,q2,q3⟩:=q;exact .cons (q3.rep (o:=.lst _) rfl (hF _ Yd u q1 q2) hs) (ih fun b hb u=>hF b (Yc _ hb) u)
theorem kC{f:Do}(h:PDO X e f):PDO X e (asL (gr f)):=PE.imp h fun σ H Q=>un7 fun P F ρ o hf I k=>by
 unfold asL gr at hf;cases q:f ρ with
 |none=>rw[q]at hf;cases hf
 |some o'=>
  rw[q]at hf;cases o' with
  |lst ds=>
   cases hf;exact⟨P,F,ρ,_,q,I,k⟩
  |lst2 dss=>
   cases hf;refine⟨P,F,ρ,_,q,I,fun a F' H' ev ho=>?_⟩;obtain⟨⟨a1,a2⟩,bs,a3,a4,a5⟩:=ho;obtain⟨n1,_⟩:=Zh.mp a4;refine k a _ H' (ev.freeze I.toDHp (fun b=>b∈bs/\H b=none/\F' b=none) fun _ q=>q.2) ⟨⟨a1,by rw[dI fun q=>n1 q.1];exact a2⟩,_,a3,?_⟩;exact yo (bS fun b q=>q.2.2) a5 fun b hb u q hu=>by rw[c7 ⟨hb,q⟩];exact hu
  |_=>cases hf
theorem ue{e1 e2 e3:Expr}{f1 f2 f3:Dl}(h1:PDO X e1 (asL f1))(h2:PDO X e2 (asL f2))(h3:PDO X e3 (asL f3))(hs:starEach [e1,e2,e3] X.env=(false,eval e1 X.env)::starEach [e2,e3] X.env:=by rfl)(hs2:starEach [e2,e3] X.env=(false,eval e2 X.env)::starEach [e3] X.env:=by rfl)(hs3:starEach [e3] X.env=(false,eval e3 X.env)::starEach [] X.env:=by rfl) :
  PDO X (.List [e1,e2,e3] pos) (fun ρ=>(f1 ρ).bind fun a=>(f2 ρ).bind fun b=>(f3 ρ).map fun c=>.lst2 [a,b,c]):=
 (qJ (aT h1 (aT h2 (aT h3 bF hs3) hs2) hs)).imp fun σ H Q=>un7 fun P F ρ o hf0 I k=>by
  have hf:((f1 ρ).bind fun a=>(f2 ρ).bind fun b=>(f3 ρ).map fun c=>OD.lst2 [a,b,c])=some o:=hf0;clear hf0;cases q1:f1 ρ with
  |none=>rw[q1]at hf;cases hf
  |some d1=>
   cases q2:f2 ρ with
   |none=>rw[q1,q2]at hf;cases hf
   |some d2=>
    cases q3:f3 ρ with
    |none=>rw[q1,q2,q3]at hf;cases hf
    |some d3=>
     rw[q1,q2,q3]at hf;cases hf;refine⟨P,F,ρ,.lst d1,by unfold asL;rw[q1];rfl,I,fun a F1 H1 ev1 o1=>⟨P,F1,ρ,.lst d2,by unfold asL;rw[q2];rfl,I.evo ev1,fun b F2 H2 ev2 o2=>⟨P,F2,ρ,.lst d3,by unfold asL;rw[q3];rfl,(I.evo ev1).evo ev2,fun c F3 H3 ev3 o3=>⟨by rw[YK];exact(show 3<=16777216 by decide),fun p hp=>?_⟩⟩⟩⟩;obtain⟨⟨a1,a2⟩,u,a3,a4⟩:=o1;obtain⟨⟨b1,b2⟩,u',b3,b4⟩:=o2;obtain⟨⟨c1,c2⟩,u'',c3,c4⟩:=o3;obtain⟨k1,k2⟩:=ev2.keep a u a3 a2;obtain⟨k3,k4⟩:=ev3.keep a u k1 k2;obtain⟨k5,k6⟩:=ev3.keep b u' b3 b2;have ev4:=Evo.side (o:=.lst [.ref a,.ref b,.ref c]) ev3.hp hp;have pa:a≠p:=fun z=>by subst z;rw[hp]at k3;cases k3
     have pb:b≠p:=fun z=>by subst z;rw[hp]at k5;cases k5
     have pc:c≠p:=fun z=>by subst z;rw[hp]at c3;cases c3
     have ab:a≠b:=fun z=>by subst z;rw[a3]at b1;cases b1
     have ac:a≠c:=fun z=>by subst z;rw[k1]at c1;cases c1
     have bc:b≠c:=fun z=>by subst z;rw[b3]at c1;cases c1
     have I1:=I.evo ev1;have I2:=I1.evo ev2;have hb0:H b=none:=ev1.back I.toDHp b1;have hc0:H c=none:=ev1.back I.toDHp (ev2.back I1.toDHp c1);have hp0:H p=none:=ev1.back I.toDHp (ev2.back I1.toDHp (ev3.back I2.toDHp hp));have fp:=ev3.hp.free hp;refine k p F3 _ (ev1.trans (ev2.trans (ev3.trans ev4))) ⟨⟨hp0,fp.1⟩,[a,b,c],aG,?_,?_⟩
     ·simp[ZL pa,ZL pb,ZL pc,ab,ac,bc]
     ·exact .cons ⟨⟨a1,k4⟩,u,by rw[au pa];exact k3,ORep1.same (o:=.lst d1) (ev2.ext.trans ev3.ext) a4⟩ (.cons ⟨⟨hb0,k6⟩,u',by rw[au pb];exact k5,ORep1.same (o:=.lst d2) ev3.ext b4⟩ (.cons ⟨⟨hc0,c2⟩,u'',by rw[au pc];exact c3,c4⟩ .nil))
def nj(i j:Nat):DF->Option RES:=fun ρ=>match ρ[i]? with
 |some (some (.own (.lst2 dss) t))=>match dss[j]? with
  |some _=>some (.nx (ρ.set i (some (.own (.lst2 (dss.set j [])) t))))
  |none=>none
 |_=>none
theorem vd(i j:Nat){o:Expr}{k}{p ipos apos cpos:Pos}(h:PE X o (dg i))(hp:gO (.Constant (.int (j:Int)) k p):=by exact fun _ _=>rfl)(hbase:attributeBase (.Subscript o (.Constant (.int (j:Int)) k p) ipos) "clear" X.env (eval (.Subscript o (.Constant (.int (j:Int)) k p) ipos) X.env)=eval (.Subscript o (.Constant (.int (j:Int)) k p) ipos) X.env:=by rfl)
  (hline:(apos.endLine == cpos.line)=true:=by rfl) (hsw:swapsWith (.Call (.Attribute (.Subscript o (.Constant (.int (j:Int)) k p) ipos) "clear" apos) [] [] cpos) none pos.line X.env=pure false:=by rfl) :
  PD1 X (.Expr (.Call (.Attribute (.Subscript o (.Constant (.int (j:Int)) k p) ipos) "clear" apos) [] [] cpos) pos) (nj i j):=
 PS.imp (eS (AV Zo PySem.F.slot_list_clear PySem.F.type_list_clear vf (sq nN h qL hp) hbase hline) hsw) fun E σ H=>un7 fun P F ρ r hr I k=>by
  unfold nj at hr;split at hr
  ·rename_i dss t q;split at hr
   ·rename_i ds hj;cases hr;obtain⟨a,bs,b,vs,h1,h2,h3,h4,h5,h6,h7⟩:=I.mutNL (ds':=[]) q hj;refine⟨_,h1,.inl ⟨a,_,_,.ref b,rfl,rfl,SqL.of h2,i5 (by rw[Yu,h3];rfl),?_⟩⟩;exact⟨.inl ⟨rfl,vs,SqL.of h5⟩,b,vs,rfl,rfl,h5,k σ F _ (Same.refl _) (h7 F H (Evo.refl I.toDHp) _ .nil)⟩
   ·cases hr
  ·cases hr
def uF(i:Nat):DF->Option Bool:=fun ρ=>match ρ[i]? with
 |some (some (.own _ _))=>some false
 |some (some (.bor _))=>some false
 |some (some (.v .non))=>some true
 |some (some (.v _))=>some false
 |_=>none
theorem xX(i:Nat){j p}(h:PE X a (dg i)):PDT X (.Compare a [.Is] [.Constant .none j p] pos) (uF i):=(zS (z_ h)).imp fun σ H Q=>un7 fun P F ρ d hf I k=>by
 unfold uF at hf;split at hf
 ·rename_i o t q;cases hf;obtain⟨v,h1,c,rfl,_⟩:=I.at q;exact⟨_,h1,false,rfl,k F H (Evo.refl I.toDHp)⟩
 ·rename_i o q;cases hf;obtain⟨v,h1,c,rfl,_⟩:=I.at q;exact⟨_,h1,false,rfl,k F H (Evo.refl I.toDHp)⟩
 ·rename_i q;cases hf;obtain⟨v,h1,h2⟩:=I.at q;cases h2;exact⟨_,h1,true,rfl,k F H (Evo.refl I.toDHp)⟩
 ·rename_i d' hd q;cases hf;obtain⟨v,h1,h2⟩:=I.at q;refine⟨_,h1,false,?_,k F H (Evo.refl I.toDHp)⟩
  congr 1
  refine YB fun z=>?_;subst z;cases h2;exact hd rfl
 ·cases hf
def c9(i:Nat)(g:Dk):DF->Option Bool:=fun ρ=>match ρ[i]? with
 |some (some (.own o _))=>g (ρ.set i (some (.v o.d)))
 |_=>none
theorem gz(i:Nat){g:Dk}(h:PDT X e g):PDT X e (c9 i g):=PT.imp h fun σ H Q=>un7 fun P F ρ b hf I k=>by
 unfold c9 at hf;split at hf
 ·rename_i o t q;obtain⟨F1,e1,I1⟩:=I.frz q;exact⟨P,F1,_,b,hf,I1,fun F' H' ev=>k F H' ⟨Same.refl _,⟨(e1.trans ev.ext).trans ev.hp.sub,ev.hp.pro,I.dis⟩,fun a u hH hF=>⟨Evo.same I1.toDHp ev a u hH,hF⟩⟩⟩
 ·cases hf
end
end L2
namespace My
open PySem PySem.Spec PyProof.Rows L2
noncomputable section
def top(i:Nat):Stmt:=PySem.Challenge.pw_tieword_k08_rounds_to_a_settled_parting.main.body.getD i (.Pass ⟨0,0,0,0⟩)
abbrev kb:Stmt:=top 28
abbrev jS:Stmt:=top 27
abbrev jD:Stmt:=top 31
abbrev kA:Stmt:=top 37
abbrev jL:Stmt:=top 32
abbrev eW:Stmt:=top 38
abbrev i9:Stmt:=top 36
abbrev kq:Stmt:=top 34
abbrev jf:Stmt:=top 33
abbrev fQ:Stmt:=top 35
abbrev iQ:Stmt:=top 39
abbrev n4:Stmt:=top 18
abbrev qD:Stmt:=top 19
abbrev qq:Stmt:=top 20
abbrev jz:Stmt:=top 21
abbrev jM:Stmt:=top 22
abbrev jT:Stmt:=top 23
abbrev qy:Stmt:=top 24
abbrev ou:Stmt:=nt (top 25) 0
abbrev iN:Stmt:=top 40
abbrev iA:Stmt:=top 41
abbrev iG:Stmt:=top 2
abbrev qP:Stmt:=nt (top 25) 1
abbrev qW:Stmt:=nt (top 25) 2
abbrev mR:Stmt:=top 3
abbrev iP:Stmt:=top 4
abbrev qR:Stmt:=top 5
abbrev jH:Stmt:=top 6
abbrev j4:Stmt:=top 29
abbrev iR:Stmt:=top 30
abbrev jA:Stmt:=top 43
abbrev jo:Stmt:=top 42
abbrev kt:Stmt:=top 7
abbrev re:Stmt:=top 8
abbrev jp:Stmt:=top 44
set_option genInjectivity false
set_option genSizeOf false
set_option genSizeOfSpec false
structure Adr where
 C:Addr
 f_q26:Addr
 d_q26:FuncData
 f_q13:Addr
 d_q13:FuncData
 f_q17:Addr
 d_q17:FuncData
 f_q21:Addr
 d_q21:FuncData
 f_q19:Addr
 d_q19:FuncData
 f_q16:Addr
 d_q16:FuncData
 f_q15:Addr
 d_q15:FuncData
 f_q18:Addr
 d_q18:FuncData
 f_q14:Addr
 d_q14:FuncData
 f_q22:Addr
 d_q22:FuncData
 f_q27:Addr
 d_q27:FuncData
 f_q5:Addr
 d_q5:FuncData
 f_q7:Addr
 d_q7:FuncData
 f_q6:Addr
 d_q6:FuncData
 f_q32:Addr
 d_q32:FuncData
 f_q29:Addr
 d_q29:FuncData
 f_q30:Addr
 d_q30:FuncData
 f_q8:Addr
 d_q8:FuncData
 f_q0:Addr
 d_q0:FuncData
 f_q24:Addr
 d_q24:FuncData
 f_q23:Addr
 d_q23:FuncData
 f_q31:Addr
 d_q31:FuncData
 f_q2:Addr
 d_q2:FuncData
 f_q1:Addr
 d_q1:FuncData
 f_q9:Addr
 d_q9:FuncData
 f_q10:Addr
 d_q10:FuncData
 f_q3:Addr
 d_q3:FuncData
 f_q33:Addr
 d_q33:FuncData
 f_q28:Addr
 d_q28:FuncData
 f_q20:Addr
 d_q20:FuncData
 f_q25:Addr
 d_q25:FuncData
 f_q12:Addr
 d_q12:FuncData
 f_q34:Addr
 d_q34:FuncData
 f_q4:Addr
 d_q4:FuncData
 f_q11:Addr
 d_q11:FuncData
 tk_MOST_PLACES:Tok
 tk_MOST_TIES:Tok
 tk_MOST_LETTERS:Tok
structure Txt (K:PySem.W.Frag) (mg:Str->Option Value) (t:Adr):Prop where
 cl:Cls K t.C
 mkC:Mk K t.C t.f_q0
 mgC:mg "Web"=some (.ref t.C)
 na_joins:NoAttr K t.C "joins"
 na_kinds:NoAttr K t.C "kinds"
 na_ties:NoAttr K t.C "ties"
 fn_q26:Fun K "_law_spread" "_law_spread" kb t.f_q26 t.d_q26
 bd_q26:Binds K t.d_q26 ["_law_cell","_law_factor"] []
 g_q26:mg "_law_spread"=some (.ref t.f_q26)
 fn_q13:Fun K "_law_at" "_law_at" jS t.f_q13 t.d_q13
 bd_q13:Binds K t.d_q13 ["_law_script","_law_k"] []
 g_q13:mg "_law_at"=some (.ref t.f_q13)
 fn_q17:Fun K "_law_fold" "_law_fold" jD t.f_q17 t.d_q17
 bd_q17:Binds K t.d_q17 ["_law_script","_law_bound"] []
 g_q17:mg "_law_fold"=some (.ref t.f_q17)
 fn_q21:Fun K "_law_order" "_law_order" kA t.f_q21 t.d_q21
 bd_q21:Binds K t.d_q21 ["_law_script","_law_size","_law_factor"] []
 g_q21:mg "_law_order"=some (.ref t.f_q21)
 fn_q19:Fun K "_law_kinds" "_law_kinds" jL t.f_q19 t.d_q19
 bd_q19:Binds K t.d_q19 ["_law_script","_law_size"] []
 g_q19:mg "_law_kinds"=some (.ref t.f_q19)
 fn_q16:Fun K "_law_false" "_law_false" eW t.f_q16 t.d_q16
 bd_q16:Binds K t.d_q16 ["_law_script","_law_number","_law_kind","_law_oneway","_law_most"] []
 g_q16:mg "_law_false"=some (.ref t.f_q16)
 fn_q15:Fun K "_law_drawn_ties" "_law_drawn_ties" i9 t.f_q15 t.d_q15
 bd_q15:Binds K t.d_q15 ["_law_script","_law_size"] []
 g_q15:mg "_law_drawn_ties"=some (.ref t.f_q15)
 fn_q18:Fun K "_law_halves" "_law_halves" kq t.f_q18 t.d_q18
 bd_q18:Binds K t.d_q18 ["_law_half"] []
 g_q18:mg "_law_halves"=some (.ref t.f_q18)
 fn_q14:Fun K "_law_crossed" "_law_crossed" jf t.f_q14 t.d_q14
 bd_q14:Binds K t.d_q14 ["_law_size"] []
 g_q14:mg "_law_crossed"=some (.ref t.f_q14)
 fn_q22:Fun K "_law_pairs" "_law_pairs" fQ t.f_q22 t.d_q22
 bd_q22:Binds K t.d_q22 ["_law_size","_law_family"] []
 g_q22:mg "_law_pairs"=some (.ref t.f_q22)
 fn_q27:Fun K "_law_web" "_law_web" iQ t.f_q27 t.d_q27
 bd_q27:Binds K t.d_q27 ["_law_script","_law_most","_law_false_here"] []
 g_q27:mg "_law_web"=some (.ref t.f_q27)
 fn_q5:Fun K "is_place_kind" "is_place_kind" n4 t.f_q5 t.d_q5
 bd_q5:Binds K t.d_q5 ["kind"] []
 g_q5:mg "is_place_kind"=some (.ref t.f_q5)
 fn_q7:Fun K "is_tie_kind" "is_tie_kind" qD t.f_q7 t.d_q7
 bd_q7:Binds K t.d_q7 ["kind"] []
 g_q7:mg "is_tie_kind"=some (.ref t.f_q7)
 fn_q6:Fun K "is_tie" "is_tie" qq t.f_q6 t.d_q6
 bd_q6:Binds K t.d_q6 ["tie","size"] []
 g_q6:mg "is_tie"=some (.ref t.f_q6)
 fn_q32:Fun K "refuse_wrong" "refuse_wrong" jz t.f_q32 t.d_q32
 bd_q32:Binds K t.d_q32 ["kinds","ties"] []
 g_q32:mg "refuse_wrong"=some (.ref t.f_q32)
 fn_q29:Fun K "lesser_first" "lesser_first" jM t.f_q29 t.d_q29
 bd_q29:Binds K t.d_q29 ["tie"] []
 g_q29:mg "lesser_first"=some (.ref t.f_q29)
 fn_q30:Fun K "put_pair" "put_pair" jT t.f_q30 t.d_q30
 bd_q30:Binds K t.d_q30 ["joins","ends","pair"] []
 g_q30:mg "put_pair"=some (.ref t.f_q30)
 fn_q8:Fun K "joins_of" "joins_of" qy t.f_q8 t.d_q8
 bd_q8:Binds K t.d_q8 ["ties"] []
 g_q8:mg "joins_of"=some (.ref t.f_q8)
 fn_q0:Fun K "__init__" "Web.__init__" ou t.f_q0 t.d_q0
 bd_q0:Binds K t.d_q0 ["self","kinds","ties"] []
 fn_q24:Fun K "_law_ranks" "_law_ranks" iN t.f_q24 t.d_q24
 bd_q24:Binds K t.d_q24 ["_law_keys"] []
 g_q24:mg "_law_ranks"=some (.ref t.f_q24)
 fn_q23:Fun K "_law_parting" "_law_parting" iA t.f_q23 t.d_q23
 bd_q23:Binds K t.d_q23 ["_law_script","_law_size"] []
 g_q23:mg "_law_parting"=some (.ref t.f_q23)
 fn_q31:Fun K "ranked" "ranked" iG t.f_q31 t.d_q31
 bd_q31:Binds K t.d_q31 ["keys"] []
 g_q31:mg "ranked"=some (.ref t.f_q31)
 fn_q2:Fun K "size" "Web.size" qP t.f_q2 t.d_q2
 bd_q2:Binds K t.d_q2 ["self"] []
 mt_q2:Meth K t.C "size" t.f_q2
 fn_q1:Fun K "between" "Web.between" qW t.f_q1 t.d_q1
 bd_q1:Binds K t.d_q1 ["self","one","other"] []
 mt_q1:Meth K t.C "between" t.f_q1
 fn_q9:Fun K "key_of" "key_of" mR t.f_q9 t.d_q9
 bd_q9:Binds K t.d_q9 ["web","parting","place"] []
 g_q9:mg "key_of"=some (.ref t.f_q9)
 fn_q10:Fun K "keys_of" "keys_of" iP t.f_q10 t.d_q10
 bd_q10:Binds K t.d_q10 ["web","parting"] []
 g_q10:mg "keys_of"=some (.ref t.f_q10)
 fn_q3:Fun K "finer" "finer" qR t.f_q3 t.d_q3
 bd_q3:Binds K t.d_q3 ["web","parting"] []
 g_q3:mg "finer"=some (.ref t.f_q3)
 fn_q33:Fun K "rounds_of" "rounds_of" jH t.f_q33 t.d_q33
 bd_q33:Binds K t.d_q33 ["web","parting"] []
 g_q33:mg "rounds_of"=some (.ref t.f_q33)
 fn_q28:Fun K "_law_whole" "_law_whole" j4 t.f_q28 t.d_q28
 bd_q28:Binds K t.d_q28 ["_law_found"] []
 g_q28:mg "_law_whole"=some (.ref t.f_q28)
 fn_q20:Fun K "_law_numbers" "_law_numbers" iR t.f_q20 t.d_q20
 bd_q20:Binds K t.d_q20 ["_law_found","_law_due"] []
 g_q20:mg "_law_numbers"=some (.ref t.f_q20)
 fn_q25:Fun K "_law_rounds" "_law_rounds" jA t.f_q25 t.d_q25
 bd_q25:Binds K t.d_q25 ["_law_web_here","_law_parting_here"] []
 g_q25:mg "_law_rounds"=some (.ref t.f_q25)
 fn_q12:Fun K "_law_apart" "_law_apart" jo t.f_q12 t.d_q12
 bd_q12:Binds K t.d_q12 ["_law_parting_here","_law_last"] []
 g_q12:mg "_law_apart"=some (.ref t.f_q12)
 fn_q34:Fun K "settled" "settled" kt t.f_q34 t.d_q34
 bd_q34:Binds K t.d_q34 ["web","parting"] []
 g_q34:mg "settled"=some (.ref t.f_q34)
 fn_q4:Fun K "first_parting" "first_parting" re t.f_q4 t.d_q4
 bd_q4:Binds K t.d_q4 ["web"] []
 g_q4:mg "first_parting"=some (.ref t.f_q4)
 fn_q11:Fun K "law" "law" jp t.f_q11 t.d_q11
 bd_q11:Binds K t.d_q11 ["_law_script"] []
 g_q11:mg "law"=some (.ref t.f_q11)
 b_all:mg "all"=none
 b_bool:mg "bool"=none
 b_enumerate:mg "enumerate"=none
 b_int:mg "int"=none
 b_isinstance:mg "isinstance"=none
 b_len:mg "len"=none
 b_list:mg "list"=none
 b_range:mg "range"=none
 b_set:mg "set"=none
 b_sorted:mg "sorted"=none
 b_tuple:mg "tuple"=none
 c_MOST_PLACES:mg "MOST_PLACES"=some (.int 7 t.tk_MOST_PLACES)
 c_MOST_TIES:mg "MOST_TIES"=some (.int 12 t.tk_MOST_TIES)
 c_MOST_LETTERS:mg "MOST_LETTERS"=some (.int 3 t.tk_MOST_LETTERS)
variable{P:Program}{w:World}{K:Kq}{mg:Ks}{base:Heap}{t:Adr}
abbrev K0:PySem.W.Frag:=[]
abbrev B8:List Str:=["_law_cell","_law_factor"]
theorem Bi:FnScope B8 ["_law_cell","_law_factor"] (defScope kb):=⟨rfl,rfl,rfl,by decide+kernel,rfl,by decide+kernel,by decide+kernel⟩
def g_q26(C:Addr):DF->Option RES:=
  (bw (d2 aN (d2 fL (d2 aP (d2 aN (aa 0) (fun _=>some (.int 2147483647))) (fun _=>some (.int 1))) (aa 1)) (fun _=>some (.int 2147483647))))
def dq(C:Addr):List DV->Option DV:=mOf 2 2 (g_q26 C)
theorem fZ(T:Txt K mg t):FnOk P w K mg base CX0 1 t.f_q26 t.d_q26 ["_law_cell","_law_factor"] (spD K (dq t.C)):=
 T.fn_q26.okD Bi fun cdv A outer s H E hr=>(aj (a_ (aZ (PDE.r (gS (PDE.r (aI (PDE.r (aZ (ag 0 (pv 0)) (PDE.r ae))) (PDE.r ae))) (ag 1 (pv 1)))) (PDE.r ae))))
abbrev Co:List Str:=["_law_script","_law_k"]
theorem An:FnScope Co ["_law_script","_law_k"] (defScope jS):=⟨rfl,rfl,rfl,by decide+kernel,rfl,by decide+kernel,by decide+kernel⟩
def g_q13(C:Addr):DF->Option RES:=
  (am (dIf (asB (d2 ltd (ay 1) (d1 bP (ay 0)))) (bw (d2 ixD (aa 0) (aa 1))) dNx)
  (bw (fun _=>some (.int 0))))
def eV(C:Addr):List DV->Option DV:=mOf 2 2 (g_q13 C)
theorem mT(T:Txt K mg t):FnOk P w K mg base CX0 1 t.f_q13 t.d_q13 ["_law_script","_law_k"] (spD K (eV t.C)):=
 T.fn_q13.okD An fun cdv A outer s H E hr=>(af (bH (ke hr.h64 (aF 1 (pv 1)) (PDE.n (cu rfl T.b_len (aF 0 (pv 0))))) (aj (a_ (a8 (ag 0 (pv 0)) (ag 1 (pv 1))))) aO) (aj (a_ ae)))
abbrev B5:List Str:=["_law_script","_law_bound","_law_number","_law_cell"]
theorem l7:FnScope B5 ["_law_script","_law_bound"] (defScope jD):=⟨rfl,rfl,rfl,by decide+kernel,rfl,by decide+kernel,by decide+kernel⟩
def g_q17(C:Addr):DF->Option RES:=
  (am (aE 2 (fun _=>some (.int 0)))
  (am (dD (cf 0) (setV 3) (aE 2 (d2 aN (d2 aP (d2 fL (aa 2) (fun _=>some (.int 1000003))) (aa 3)) (aa 1))))
  (bw (getV 2))))
def oK(C:Addr):List DV->Option DV:=mOf 4 2 (g_q17 C)
theorem zQ(T:Txt K mg t):FnOk P w K mg base CX0 1 t.f_q17 t.d_q17 ["_law_script","_law_bound"] (spD K (oK t.C)):=
 T.fn_q17.okD l7 fun cdv A outer s H E hr=>(af (aK (i:=2) l7.nd rfl (.inl rfl) ae) (af (cy YR rfl (cE 0 (pv 0)) (aD (i:=3) l7.nd rfl (.inl rfl)) (aj (aK (i:=2) l7.nd rfl (.inl rfl) (aZ (PDE.r (aI (PDE.r (gS (ag 2 (pv 2)) (PDE.r ae))) (ag 3 (pv 3)))) (ag 1 (pv 1)))))) (aj (a_ (ap 2 (pv 2))))))
abbrev CI:List Str:=["_law_script","_law_size","_law_factor","_law_left","_law_order_here","_law_k","_law_number"]
theorem js:FnScope CI ["_law_script","_law_size","_law_factor"] (defScope kA):=⟨rfl,rfl,rfl,by decide+kernel,rfl,by decide+kernel,by decide+kernel⟩
def g_q21(C:Addr):DF->Option RES:=
  (am (bB 3 (asL (pC (getV 1))))
  (am (bB 4 (asL aR))
  (am (dD (cg (aa 1)) (setV 5) (am (aE 6 (ak (dq C) (aV (d2 aP (ak (eV C) (aB 0 (aB 5 (fun _=>some [])))) (d2 fL (aa 5) (aa 5))) (aB 2 (fun _=>some [])))))
  (eP 4 3 (d2 aN (d2 aS (aa 6) (fun _=>some (.int 3))) (d1 bP (ay 3))))))
  (e6 4))))
def kG(C:Addr):List DV->Option DV:=mOf 7 3 (g_q21 C)
theorem uA(T:Txt K mg t):FnOk P w K mg base CX0 2 t.f_q21 t.d_q21 ["_law_script","_law_size","_law_factor"] (spD K (kG t.C)):=
 T.fn_q21.okD js fun cdv A outer s H E hr=>(af (bO (i:=3) js.nd rfl (.inl rfl) (kR rfl rfl T.b_list rfl T.b_range (ap 1 (pv 1)))) (af (bO (i:=4) js.nd rfl (.inl rfl) (cn aw)) (af (cy YR rfl (a7 rfl T.b_range (ag 1 (pv 1))) (aD (i:=5) js.nd rfl (.inl rfl)) (af (aK (i:=6) js.nd rfl (.inl rfl) (ar (fZ T) (hr.mono (by decide)) rfl T.g_q26 T.fn_q26.kp T.bd_q26 (aJ (aI (PDE.r (ar (mT T) (hr.mono (by decide)) rfl T.g_q13 T.fn_q13.kp T.bd_q13 (az 0 (pv 0) (az 5 (pv 5) al)))) (PDE.r (gS (ag 5 (pv 5)) (ag 5 (pv 5))))) (az 2 (pv 2) al)))) (aj (t8 4 3 (pv 4) (pv 3) (aZ (PDE.r (bv (ag 6 (pv 6)) (PDE.r ae))) (PDE.r (cu rfl T.b_len (aF 3 (pv 3))))))))) (aj (dJ 4 (pv 4))))))
abbrev Cu:List Str:=["_law_script","_law_size","_law_number","_law_long","_law_at_here","_law_sign","_law_words","_law_k","_law_letter","_law_many","_law_kinds_here"]
theorem cP:FnScope Cu ["_law_script","_law_size"] (defScope jL):=⟨rfl,rfl,rfl,by decide+kernel,rfl,by decide+kernel,by decide+kernel⟩
def g_q19(C:Addr):DF->Option RES:=
  (am (aE 2 (ak (dq C) (aV (ak (eV C) (aB 0 (aV (fun _=>some (.int 1)) (fun _=>some [])))) (aV (fun _=>some (.int 1207959571)) (fun _=>some [])))))
  (am (aE 3 (d2 aP (fun _=>some (.int 1)) (d2 aN (aa 2) (fun _=>some (.int 3)))))
  (am (aE 4 (d2 aN (d2 aS (aa 2) (fun _=>some (.int 3))) (aa 3)))
  (am (aE 5 (d2 aN (d2 aS (aa 2) (fun _=>some (.int 9))) (fun _=>some (.int 11))))
  (am (bB 6 (asL aR))
  (am (dD (cg (fun _=>some (.int 2))) (setV 7) (am (aE 8 (d2 ixD (fun _=>some (.str "abcdefghijkl")) (d2 aP (aa 5) (aa 7))))
  (di 6 (d2 aP (d2 aP (d2 g7 (fun _=>some (.str "m")) (aa 4)) (aa 8)) (d2 g7 (fun _=>some (.str "m")) (d2 da (d2 da (aa 3) (fun _=>some (.int 1))) (aa 4)))))))
  (am (di 6 (d2 g7 (fun _=>some (.str "m")) (aa 3)))
  (am (dIf (asB (d2 eqD (d2 aN (d2 aS (aa 2) (fun _=>some (.int 396))) (fun _=>some (.int 3))) (fun _=>some (.int 0)))) (am (aE 8 (d2 ixD (fun _=>some (.str "abcdefghijkl")) (aa 5)))
  (bB 6 (asL (ai (d2 ixD (fun _=>some (.str "abcdefghijkl")) (d2 aP (aa 5) (fun _=>some (.int 1)))) (ai (d2 aP (aa 8) (fun _=>some (.str "m"))) (ai (getV 8) aR)))))) dNx)
  (am (aE 9 (d2 ixD (asO (asL (ai (fun _=>some (.int 1)) (ai (fun _=>some (.int 1)) (ai (fun _=>some (.int 2)) (ai (fun _=>some (.int 3)) aR)))))) (d2 aN (d2 aS (aa 2) (fun _=>some (.int 99))) (fun _=>some (.int 4)))))
  (am (bB 10 (asL aR))
  (am (dD (cg (aa 1)) (setV 7) (di 10 (d2 ixD (aa 6) (d2 aN (d2 aS (ak (dq C) (aV (d2 aP (aa 2) (d2 fL (aa 7) (aa 7))) (aV (fun _=>some (.int 1618033989)) (fun _=>some [])))) (fun _=>some (.int 7))) (aa 9)))))
  (e6 10))))))))))))
def iF(C:Addr):List DV->Option DV:=mOf 11 2 (g_q19 C)
theorem wy(T:Txt K mg t):FnOk P w K mg base CX0 2 t.f_q19 t.d_q19 ["_law_script","_law_size"] (spD K (iF t.C)):=
 T.fn_q19.okD cP fun cdv A outer s H E hr=>(af (aK (i:=2) cP.nd rfl (.inl rfl) (ar (fZ T) (hr.mono (by decide)) rfl T.g_q26 T.fn_q26.kp T.bd_q26 (aJ (ar (mT T) (hr.mono (by decide)) rfl T.g_q13 T.fn_q13.kp T.bd_q13 (az 0 (pv 0) (aJ ae al))) (aJ ae al)))) (af (aK (i:=3) cP.nd rfl (.inl rfl) (aI (PDE.r ae) (PDE.r (aZ (ag 2 (pv 2)) (PDE.r ae))))) (af (aK (i:=4) cP.nd rfl (.inl rfl) (aZ (PDE.r (bv (ag 2 (pv 2)) (PDE.r ae))) (ag 3 (pv 3)))) (af (aK (i:=5) cP.nd rfl (.inl rfl) (aZ (PDE.r (bv (ag 2 (pv 2)) (PDE.r ae))) (PDE.r ae))) (af (bO (i:=6) cP.nd rfl (.inl rfl) (cn aw)) (af (cy YR rfl (a7 rfl T.b_range (PDE.r ae)) (aD (i:=7) cP.nd rfl (.inl rfl)) (af (aK (i:=8) cP.nd rfl (.inl rfl) (a8 (PDE.r eE) (PDE.r (aI (ag 5 (pv 5)) (ag 7 (pv 7)))))) (aj (bJ 6 (pv 6) (aI (PDE.r (aI (PDE.r (nu (PDE.r eE) (ag 4 (pv 4)))) (ag 8 (pv 8)))) (PDE.r (nu (PDE.r eE) (PDE.r (fm (PDE.r (fm (ag 3 (pv 3)) (PDE.r ae))) (ag 4 (pv 4))))))))))) (af (bJ 6 (pv 6) (nu (PDE.r eE) (ag 3 (pv 3)))) (af (bH (dN hr.h64 (PDE.n (aZ (PDE.r (bv (ag 2 (pv 2)) (PDE.r ae))) (PDE.r ae))) (PDE.n ae)) (af (aK (i:=8) cP.nd rfl (.inl rfl) (a8 (PDE.r eE) (ag 5 (pv 5)))) (aj (bO (i:=6) cP.nd rfl (.inl rfl) (cn (ah (a8 (PDE.r eE) (PDE.r (aI (ag 5 (pv 5)) (PDE.r ae)))) (ah (aI (ag 8 (pv 8)) (PDE.r eE)) (ah (ap 8 (pv 8)) aw))))))) aO) (af (aK (i:=9) cP.nd rfl (.inl rfl) (a8 (PDE.r (PDO.v (cn (ah ae (ah ae (ah ae (ah ae aw))))))) (PDE.r (aZ (PDE.r (bv (ag 2 (pv 2)) (PDE.r ae))) (PDE.r ae))))) (af (bO (i:=10) cP.nd rfl (.inl rfl) (cn aw)) (af (cy YR rfl (a7 rfl T.b_range (ag 1 (pv 1))) (aD (i:=7) cP.nd rfl (.inl rfl)) (aj (bJ 10 (pv 10) (a8 (ag 6 (pv 6)) (PDE.r (aZ (PDE.r (bv (PDE.r (ar (fZ T) (hr.mono (by decide)) rfl T.g_q26 T.fn_q26.kp T.bd_q26 (aJ (aI (ag 2 (pv 2)) (PDE.r (gS (ag 7 (pv 7)) (ag 7 (pv 7))))) (aJ ae al)))) (PDE.r ae))) (ag 9 (pv 9)))))))) (aj (dJ 10 (pv 10))))))))))))))
abbrev lI:List Str:=["_law_script","_law_number","_law_kind","_law_oneway","_law_most","_law_ties","_law_size","_law_far","_law_order_here","_law_kinds_here"]
theorem dR:FnScope lI ["_law_script","_law_number","_law_kind","_law_oneway","_law_most"] (defScope eW):=⟨rfl,rfl,rfl,by decide+kernel,rfl,by decide+kernel,by decide+kernel⟩
def g_q16(C:Addr):DF->Option RES:=
  (am (aE 5 (asO (asL (aW 1 [2,3] (cg (fun _=>some (.int 6))) (setV 0) bz (asT (ai (getV 0) (ai (d2 aN (d2 aP (aa 0) (fun _=>some (.int 1))) (fun _=>some (.int 6))) (ai (getV 1) (ai (getV 2) aR)))))))))
  (am (aE 6 (fun _=>some (.int 6)))
  (am (dIf (eX (asB (d2 gtI (aa 4) (fun _=>some (.int 6)))) (asB (d2 eqD (d2 aN (aa 1) (fun _=>some (.int 2))) (fun _=>some (.int 0))))) (am (aE 5 (asO (asL (aW 1 [2,3] (cg (fun _=>some (.int 3))) (setV 0) bz (asT (ai (getV 0) (ai (d2 aN (d2 aP (aa 0) (fun _=>some (.int 1))) (fun _=>some (.int 3))) (ai (getV 1) (ai (getV 2) aR)))))))))
  (am (aE 5 (d2 aP (aa 5) (asO (asL (aW 1 [2,3] (cg (fun _=>some (.int 4))) (setV 0) bz (asT (ai (d2 aP (fun _=>some (.int 3)) (aa 0)) (ai (d2 aP (fun _=>some (.int 3)) (d2 aN (d2 aP (aa 0) (fun _=>some (.int 1))) (fun _=>some (.int 4)))) (ai (getV 1) (ai (getV 2) aR))))))))))
  (aE 6 (fun _=>some (.int 7))))) (am (aE 7 (d2 aN (d2 aP (aa 2) (fun _=>some (.int 1))) (d2 kQ (fun _=>some (.int 10)) (fun _=>some (.int 30)))))
  (aE 5 (d2 aP (aa 5) (asO (asL (ai (asT (ai (fun _=>some (.int 0)) (ai (fun _=>some (.int 2)) (ai (getV 7) (ai (fun _=>some (.bl false)) aR))))) (ai (asT (ai (fun _=>some (.int 3)) (ai (fun _=>some (.int 5)) (ai (getV 7) (ai (fun _=>some (.bl false)) aR))))) (ai (asT (ai (fun _=>some (.int 1)) (ai (fun _=>some (.int 4)) (ai (getV 7) (ai (fun _=>some (.bl false)) aR))))) aR)))))))))
  (am (aE 8 (ak (kG C) (aB 0 (aV (getV 6) (aV (fun _=>some (.int 742938285)) (fun _=>some []))))))
  (am (aE 9 (asO (asL (aW 1 [0] (cg (aa 6)) (setV 0) bz (d2 ixD (ak (iF C) (aB 1 (aV (fun _=>some (.int 1)) (fun _=>some [])))) (fun _=>some (.int 0)))))))
  (bw (asT (ai (getV 9) (ai (asO (asL (aW 1 [8] (cf 5) (setV 0) bz (asT (ai (d2 ixD (aa 1) (d2 ixD (aa 0) (fun _=>some (.int 0)))) (ai (d2 ixD (aa 1) (d2 ixD (aa 0) (fun _=>some (.int 1)))) (ai (d2 ixD (aa 0) (fun _=>some (.int 2))) (ai (d2 ixD (aa 0) (fun _=>some (.int 3))) aR)))))))) aR)))))))))
def n0(C:Addr):List DV->Option DV:=mOf 10 5 (g_q16 C)
theorem Ai(T:Txt K mg t):FnOk P w K mg base CX0 3 t.f_q16 t.d_q16 ["_law_script","_law_number","_law_kind","_law_oneway","_law_most"] (spD K (n0 t.C)):=
 T.fn_q16.okD dR fun cdv A outer s H E hr=>(af (cN (i:=5) (N:=["_law_k","_law_kind","_law_oneway"]) (own:=1) (ix:=[2,3]) (is:=[0]) dR.nd rfl (.inl rfl) rfl (cM (defScope eW) rfl (by decide+kernel)) (cD lI rfl (by decide+kernel)) (bW (by decide)) (a7 rfl T.b_range (PDE.r ae)) (fun _ _ _ _=>(aD (i:=0) (show(["_law_k","_law_kind","_law_oneway"]:List Str).Nodup from by decide+kernel) rfl (.inl rfl))) (fun _ _ _ _=>c8) (fun _ _ _ _=>(bf (ah (ap 0 (pv 0)) (ah (aZ (PDE.r (aI (ag 0 (pv 0)) (PDE.r ae))) (PDE.r ae)) (ah (ap 1 (pv 1)) (ah (ap 2 (pv 2)) aw)))))) (by decide+kernel)) (af (aK (i:=6) dR.nd rfl (.inl rfl) ae) (af (bH (PDW.t (fH (kD (ag 4 (pv 4)) (PDE.r ae)) (eB (dN hr.h64 (PDE.n (aZ (ag 1 (pv 1)) (PDE.r ae))) (PDE.n ae))))) (af (cN (i:=5) (N:=["_law_k","_law_kind","_law_oneway"]) (own:=1) (ix:=[2,3]) (is:=[0]) dR.nd rfl (.inl rfl) rfl (cM (defScope eW) rfl (by decide+kernel)) (cD lI rfl (by decide+kernel)) (bW (by decide)) (a7 rfl T.b_range (PDE.r ae)) (fun _ _ _ _=>(aD (i:=0) (show(["_law_k","_law_kind","_law_oneway"]:List Str).Nodup from by decide+kernel) rfl (.inl rfl))) (fun _ _ _ _=>c8) (fun _ _ _ _=>(bf (ah (ap 0 (pv 0)) (ah (aZ (PDE.r (aI (ag 0 (pv 0)) (PDE.r ae))) (PDE.r ae)) (ah (ap 1 (pv 1)) (ah (ap 2 (pv 2)) aw)))))) (by decide+kernel)) (af (aK (i:=5) dR.nd rfl (.inl rfl) (aI (ag 5 (pv 5)) (PDE.r (PDO.v (bU (N:=["_law_k","_law_kind","_law_oneway"]) (own:=1) (ix:=[2,3]) (is:=[0]) rfl (cM (defScope eW) rfl (by decide+kernel)) (cD lI rfl (by decide+kernel)) (bW (by decide)) (a7 rfl T.b_range (PDE.r ae)) (fun _ _ _ _=>(aD (i:=0) (show(["_law_k","_law_kind","_law_oneway"]:List Str).Nodup from by decide+kernel) rfl (.inl rfl))) (fun _ _ _ _=>c8) (fun _ _ _ _=>(bf (ah (aI (PDE.r ae) (ag 0 (pv 0))) (ah (aI (PDE.r ae) (PDE.r (aZ (PDE.r (aI (ag 0 (pv 0)) (PDE.r ae))) (PDE.r ae)))) (ah (ap 1 (pv 1)) (ah (ap 2 (pv 2)) aw)))))) (by decide+kernel)))))) (aj (aK (i:=6) dR.nd rfl (.inl rfl) ae)))) (af (aK (i:=7) dR.nd rfl (.inl rfl) (aZ (PDE.r (aI (ag 2 (pv 2)) (PDE.r ae))) (PDE.r (ni (PDE.r ae) (PDE.r ae))))) (aj (aK (i:=5) dR.nd rfl (.inl rfl) (aI (ag 5 (pv 5)) (PDE.r (PDO.v (cn (ah (bf (ah ae (ah ae (ah (ap 7 (pv 7)) (ah fq aw))))) (ah (bf (ah ae (ah ae (ah (ap 7 (pv 7)) (ah fq aw))))) (ah (bf (ah ae (ah ae (ah (ap 7 (pv 7)) (ah fq aw))))) aw))))))))))) (af (aK (i:=8) dR.nd rfl (.inr rfl) (ar (uA T) (hr.mono (by decide)) rfl T.g_q21 T.fn_q21.kp T.bd_q21 (az 0 (pv 0) (aJ (ap 6 (pv 6)) (aJ ae al))))) (af (cN (i:=9) (N:=["_law_place","_law_script"]) (own:=1) (ix:=[0]) (is:=[0]) dR.nd rfl (.inl rfl) rfl (cM (defScope eW) rfl (by decide+kernel)) (cD lI rfl (by decide+kernel)) (bW (by decide)) (a7 rfl T.b_range (ag 6 (pv 6))) (fun _ _ _ _=>(aD (i:=0) (show(["_law_place","_law_script"]:List Str).Nodup from by decide+kernel) rfl (.inl rfl))) (fun _ _ _ _=>c8) (fun _ _ _ _=>(a8 (PDE.r (ar (wy T) (hr.mono (by decide)) rfl T.g_q19 T.fn_q19.kp T.bd_q19 (az 1 (pv 1) (aJ ae al)))) (PDE.r ae))) (by decide+kernel)) (aj (a_ (bf (ah (ap 9 (pv 9)) (ah (PDO.v (bU (N:=["_law_tie","_law_order_here"]) (own:=1) (ix:=[8]) (is:=[0]) rfl (cM (defScope eW) rfl (by decide+kernel)) (cD lI rfl (by decide+kernel)) (bW (by decide)) (cE 5 (pv 5)) (fun _ _ _ _=>(aD (i:=0) (show(["_law_tie","_law_order_here"]:List Str).Nodup from by decide+kernel) rfl (.inl rfl))) (fun _ _ _ _=>c8) (fun _ _ _ _=>(bf (ah (a8 (ag 1 (pv 1)) (PDE.r (a8 (ag 0 (pv 0)) (PDE.r ae)))) (ah (a8 (ag 1 (pv 1)) (PDE.r (a8 (ag 0 (pv 0)) (PDE.r ae)))) (ah (a8 (ag 0 (pv 0)) (PDE.r ae)) (ah (a8 (ag 0 (pv 0)) (PDE.r ae)) aw)))))) (by decide+kernel))) aw))))))))))
abbrev Dg:List Str:=["_law_script","_law_size","_law_ties","_law_k","_law_cell","_law_number","_law_one","_law_other","_law_kind"]
theorem eI:FnScope Dg ["_law_script","_law_size"] (defScope i9):=⟨rfl,rfl,rfl,by decide+kernel,rfl,by decide+kernel,by decide+kernel⟩
def g_q15(C:Addr):DF->Option RES:=
  (am (bB 2 (asL aR))
  (am (dD (jP (asO (asL (slL (aa 0) (bI (fun _=>some (.int 2))) (bI (fun _=>some (.int 14))))))) (m_ [3,4]) (am (aE 5 (ak (dq C) (aB 4 (aV (fun _=>some (.int 1530421987)) (fun _=>some [])))))
  (dIf (eX (asB (d2 gtI (aa 1) (fun _=>some (.int 1)))) (asB (d2 gtI (d2 aN (aa 5) (fun _=>some (.int 4))) (fun _=>some (.int 0))))) (am (aE 6 (d2 aN (d2 aS (aa 5) (fun _=>some (.int 4))) (aa 1)))
  (am (aE 7 (d2 aN (d2 aP (d2 aP (aa 6) (fun _=>some (.int 1))) (d2 aN (d2 aS (aa 5) (fun _=>some (.int 28))) (d2 da (aa 1) (fun _=>some (.int 1))))) (aa 1)))
  (am (aE 8 (d2 aN (d2 aS (aa 5) (fun _=>some (.int 168))) (fun _=>some (.int 2))))
  (am (dIf (asB (d2 eqD (d2 aN (d2 aS (aa 5) (fun _=>some (.int 336))) (fun _=>some (.int 2))) (fun _=>some (.int 0)))) (aE 8 (d2 aN (d2 aP (aa 4) (aa 3)) (d2 kQ (fun _=>some (.int 10)) (fun _=>some (.int 30))))) dNx)
  (di 2 (asT (ai (getV 6) (ai (getV 7) (ai (getV 8) (ai (d2 eqD (d2 aN (d2 aS (aa 5) (fun _=>some (.int 672))) (fun _=>some (.int 2))) (fun _=>some (.int 1))) aR)))))))))) dNx)))
  (e6 2)))
def lg(C:Addr):List DV->Option DV:=mOf 9 2 (g_q15 C)
theorem wQ(T:Txt K mg t):FnOk P w K mg base CX0 2 t.f_q15 t.d_q15 ["_law_script","_law_size"] (spD K (lg t.C)):=
 T.fn_q15.okD eI fun cdv A outer s H E hr=>(af (bO (i:=2) eI.nd rfl (.inl rfl) (cn aw)) (af (cy YR rfl (wE rfl T.b_enumerate (PDO.v (lU (ag 0 (pv 0)) (vq ae) (vq ae)))) (nD (is:=[3,4]) rfl (cY (cS (i:=3) eI.nd rfl (.inl rfl)) (cY (cS (i:=4) eI.nd rfl (.inl rfl)) mY))) (af (aK (i:=5) eI.nd rfl (.inl rfl) (ar (fZ T) (hr.mono (by decide)) rfl T.g_q26 T.fn_q26.kp T.bd_q26 (az 4 (pv 4) (aJ ae al)))) (aj (bH (PDW.t (fH (kD (ag 1 (pv 1)) (PDE.r ae)) (eB (kD (PDE.r (aZ (ag 5 (pv 5)) (PDE.r ae))) (PDE.r ae))))) (af (aK (i:=6) eI.nd rfl (.inl rfl) (aZ (PDE.r (bv (ag 5 (pv 5)) (PDE.r ae))) (ag 1 (pv 1)))) (af (aK (i:=7) eI.nd rfl (.inl rfl) (aZ (PDE.r (aI (PDE.r (aI (ag 6 (pv 6)) (PDE.r ae))) (PDE.r (aZ (PDE.r (bv (ag 5 (pv 5)) (PDE.r ae))) (PDE.r (fm (ag 1 (pv 1)) (PDE.r ae))))))) (ag 1 (pv 1)))) (af (aK (i:=8) eI.nd rfl (.inl rfl) (aZ (PDE.r (bv (ag 5 (pv 5)) (PDE.r ae))) (PDE.r ae))) (af (bH (dN hr.h64 (PDE.n (aZ (PDE.r (bv (ag 5 (pv 5)) (PDE.r ae))) (PDE.r ae))) (PDE.n ae)) (aj (aK (i:=8) eI.nd rfl (.inl rfl) (aZ (PDE.r (aI (ag 4 (pv 4)) (ag 3 (pv 3)))) (PDE.r (ni (PDE.r ae) (PDE.r ae)))))) aO) (aj (bJ 2 (pv 2) (bf (ah (ap 6 (pv 6)) (ah (ap 7 (pv 7)) (ah (ap 8 (pv 8)) (ah (wK hr.h64 (PDE.n (aZ (PDE.r (bv (ag 5 (pv 5)) (PDE.r ae))) (PDE.r ae))) (PDE.n ae)) aw))))))))))) aO)))) (aj (dJ 2 (pv 2)))))
abbrev CV:List Str:=["_law_half","_law_pairs_here","_law_k"]
theorem p8:FnScope CV ["_law_half"] (defScope kq):=⟨rfl,rfl,rfl,by decide+kernel,rfl,by decide+kernel,by decide+kernel⟩
def g_q18(C:Addr):DF->Option RES:=
  (am (bB 1 (asL aR))
  (am (dD (cg (d2 da (aa 0) (fun _=>some (.int 1)))) (setV 2) (am (di 1 (asT (ai (getV 2) (ai (d2 aP (aa 2) (fun _=>some (.int 1))) aR))))
  (di 1 (asT (ai (d2 aP (aa 0) (aa 2)) (ai (d2 aP (d2 aP (aa 0) (aa 2)) (fun _=>some (.int 1))) aR))))))
  (am (dIf (asB (d2 gtI (aa 0) (fun _=>some (.int 2)))) (am (di 1 (asT (ai (d2 da (aa 0) (fun _=>some (.int 1))) (ai (fun _=>some (.int 0)) aR))))
  (di 1 (asT (ai (d2 da (d2 fL (fun _=>some (.int 2)) (aa 0)) (fun _=>some (.int 1))) (ai (getV 0) aR))))) dNx)
  (e6 1))))
def zt(C:Addr):List DV->Option DV:=mOf 3 1 (g_q18 C)
theorem AI(T:Txt K mg t):FnOk P w K mg base CX0 1 t.f_q18 t.d_q18 ["_law_half"] (spD K (zt t.C)):=
 T.fn_q18.okD p8 fun cdv A outer s H E hr=>(af (bO (i:=1) p8.nd rfl (.inl rfl) (cn aw)) (af (cy YR rfl (a7 rfl T.b_range (PDE.r (fm (ag 0 (pv 0)) (PDE.r ae)))) (aD (i:=2) p8.nd rfl (.inl rfl)) (af (bJ 1 (pv 1) (bf (ah (ap 2 (pv 2)) (ah (aI (ag 2 (pv 2)) (PDE.r ae)) aw)))) (aj (bJ 1 (pv 1) (bf (ah (aI (ag 0 (pv 0)) (ag 2 (pv 2))) (ah (aI (PDE.r (aI (ag 0 (pv 0)) (ag 2 (pv 2)))) (PDE.r ae)) aw))))))) (af (bH (kD (ag 0 (pv 0)) (PDE.r ae)) (af (bJ 1 (pv 1) (bf (ah (fm (ag 0 (pv 0)) (PDE.r ae)) (ah ae aw)))) (aj (bJ 1 (pv 1) (bf (ah (fm (PDE.r (gS (PDE.r ae) (ag 0 (pv 0)))) (PDE.r ae)) (ah (ap 0 (pv 0)) aw)))))) aO) (aj (dJ 1 (pv 1))))))
abbrev BF:List Str:=["_law_size","_law_pairs_here","_law_one","_law_other"]
theorem nH:FnScope BF ["_law_size"] (defScope jf):=⟨rfl,rfl,rfl,by decide+kernel,rfl,by decide+kernel,by decide+kernel⟩
def g_q14(C:Addr):DF->Option RES:=
  (am (bB 1 (asL aR))
  (am (dD (cg (d2 aS (aa 0) (fun _=>some (.int 2)))) (setV 2) (dD (qf (d2 aS (aa 0) (fun _=>some (.int 2))) (aa 0)) (setV 3) (di 1 (asT (ai (getV 2) (ai (getV 3) aR))))))
  (e6 1)))
def zm(C:Addr):List DV->Option DV:=mOf 4 1 (g_q14 C)
theorem Ab(T:Txt K mg t):FnOk P w K mg base CX0 1 t.f_q14 t.d_q14 ["_law_size"] (spD K (zm t.C)):=
 T.fn_q14.okD nH fun cdv A outer s H E hr=>(af (bO (i:=1) nH.nd rfl (.inl rfl) (cn aw)) (af (cy YR rfl (a7 rfl T.b_range (PDE.r (bv (ag 0 (pv 0)) (PDE.r ae)))) (aD (i:=2) nH.nd rfl (.inl rfl)) (aj (cy YR rfl (f7 rfl T.b_range (PDE.r (bv (ag 0 (pv 0)) (PDE.r ae))) (ag 0 (pv 0))) (aD (i:=3) nH.nd rfl (.inl rfl)) (aj (bJ 1 (pv 1) (bf (ah (ap 2 (pv 2)) (ah (ap 3 (pv 3)) aw)))))))) (aj (dJ 1 (pv 1)))))
abbrev rL:List Str:=["_law_size","_law_family"]
theorem zN:FnScope rL ["_law_size","_law_family"] (defScope fQ):=⟨rfl,rfl,rfl,by decide+kernel,rfl,by decide+kernel,by decide+kernel⟩
def g_q22(C:Addr):DF->Option RES:=
  (am (dIf (eX (asB (d2 eqD (ay 1) (fun _=>some (.int 1)))) (asB (d2 gtI (aa 0) (fun _=>some (.int 2))))) (db (asL (aW 1 [0] (cg (aa 0)) (setV 0) bz (asT (ai (getV 0) (ai (d2 aN (d2 aP (aa 0) (fun _=>some (.int 1))) (aa 1)) aR)))))) dNx)
  (am (dIf (asB (d2 eqD (ay 1) (fun _=>some (.int 2)))) (db (asL (aW 1 [] (qf (fun _=>some (.int 1)) (aa 0)) (setV 0) bz (asT (ai (fun _=>some (.int 0)) (ai (getV 0) aR)))))) dNx)
  (am (dIf (asB (d2 eqD (ay 1) (fun _=>some (.int 3)))) (db (cb (zt C) (aV (d2 aS (aa 0) (fun _=>some (.int 2))) (fun _=>some [])))) dNx)
  (am (dIf (eX (asB (d2 eqD (ay 1) (fun _=>some (.int 4)))) (asB (d2 eqD (ay 0) (fun _=>some (.int 5))))) (db (asL (aW 1 [] (cg (fun _=>some (.int 10))) (setV 0) bz (asT (ai (d2 aN (aa 0) (fun _=>some (.int 5))) (ai (d2 aN (d2 aP (d2 aP (aa 0) (fun _=>some (.int 1))) (d2 aS (aa 0) (fun _=>some (.int 5)))) (fun _=>some (.int 5))) aR)))))) dNx)
  (am (dIf (asB (d2 eqD (ay 1) (fun _=>some (.int 5)))) (db (cb (zm C) (aB 0 (fun _=>some [])))) dNx)
  (db (asL aR)))))))
def rF(C:Addr):List DV->Option DV:=mOf 2 2 (g_q22 C)
theorem Bv(T:Txt K mg t):FnOk P w K mg base CX0 2 t.f_q22 t.d_q22 ["_law_size","_law_family"] (spD K (rF t.C)):=
 T.fn_q22.okD zN fun cdv A outer s H E hr=>(af (bH (PDW.t (fH (dN hr.h64 (aF 1 (pv 1)) (PDE.n ae)) (eB (kD (ag 0 (pv 0)) (PDE.r ae))))) (aj (cL (bU (N:=["_law_k","_law_size"]) (own:=1) (ix:=[0]) (is:=[0]) rfl (cM (defScope fQ) rfl (by decide+kernel)) (cD rL rfl (by decide+kernel)) (bW (by decide)) (a7 rfl T.b_range (ag 0 (pv 0))) (fun _ _ _ _=>(aD (i:=0) (show(["_law_k","_law_size"]:List Str).Nodup from by decide+kernel) rfl (.inl rfl))) (fun _ _ _ _=>c8) (fun _ _ _ _=>(bf (ah (ap 0 (pv 0)) (ah (aZ (PDE.r (aI (ag 0 (pv 0)) (PDE.r ae))) (ag 1 (pv 1))) aw)))) (by decide+kernel)))) aO) (af (bH (dN hr.h64 (aF 1 (pv 1)) (PDE.n ae)) (aj (cL (bU (N:=["_law_k"]) (own:=1) (ix:=[]) (is:=[0]) rfl (cM (defScope fQ) rfl (by decide+kernel)) (cD rL rfl (by decide+kernel)) (bW (by decide)) (f7 rfl T.b_range (PDE.r ae) (ag 0 (pv 0))) (fun _ _ _ _=>(aD (i:=0) (show(["_law_k"]:List Str).Nodup from by decide+kernel) rfl (.inl rfl))) (fun _ _ _ _=>c8) (fun _ _ _ _=>(bf (ah ae (ah (ap 0 (pv 0)) aw)))) (by decide+kernel)))) aO) (af (bH (dN hr.h64 (aF 1 (pv 1)) (PDE.n ae)) (aj (cL (bY (AI T) (hr.mono (by decide)) rfl T.g_q18 T.fn_q18.kp T.bd_q18 (aJ (bv (ag 0 (pv 0)) (PDE.r ae)) al)))) aO) (af (bH (PDW.t (fH (dN hr.h64 (aF 1 (pv 1)) (PDE.n ae)) (eB (dN hr.h64 (aF 0 (pv 0)) (PDE.n ae))))) (aj (cL (bU (N:=["_law_k"]) (own:=1) (ix:=[]) (is:=[0]) rfl (cM (defScope fQ) rfl (by decide+kernel)) (cD rL rfl (by decide+kernel)) (bW (by decide)) (a7 rfl T.b_range (PDE.r ae)) (fun _ _ _ _=>(aD (i:=0) (show(["_law_k"]:List Str).Nodup from by decide+kernel) rfl (.inl rfl))) (fun _ _ _ _=>c8) (fun _ _ _ _=>(bf (ah (aZ (ag 0 (pv 0)) (PDE.r ae)) (ah (aZ (PDE.r (aI (PDE.r (aI (ag 0 (pv 0)) (PDE.r ae))) (PDE.r (bv (ag 0 (pv 0)) (PDE.r ae))))) (PDE.r ae)) aw)))) (by decide+kernel)))) aO) (af (bH (dN hr.h64 (aF 1 (pv 1)) (PDE.n ae)) (aj (cL (bY (Ab T) (hr.mono (by decide)) rfl T.g_q14 T.fn_q14.kp T.bd_q14 (az 0 (pv 0) al)))) aO) (aj (cL (cn aw))))))))
abbrev zp:List Str:=["_law_script","_law_most","_law_false_here","_law_number","_law_size","_law_family","_law_kind","_law_oneway","_law_kinds_here","_law_order_here","_law_ties"]
theorem dn:FnScope zp ["_law_script","_law_most","_law_false_here"] (defScope iQ):=⟨rfl,rfl,rfl,by decide+kernel,rfl,by decide+kernel,by decide+kernel⟩
def g_q27(C:Addr):DF->Option RES:=
  (am (aE 3 (ak (dq C) (aV (ak (eV C) (aB 0 (aV (fun _=>some (.int 0)) (fun _=>some [])))) (aV (fun _=>some (.int 1873046521)) (fun _=>some [])))))
  (am (aE 4 (d2 aP (fun _=>some (.int 1)) (d2 aN (aa 3) (aa 1))))
  (am (aE 5 (d2 aN (d2 aS (aa 3) (fun _=>some (.int 7))) (fun _=>some (.int 9))))
  (am (aE 6 (ak (oK C) (aB 0 (aV (d2 kQ (fun _=>some (.int 10)) (fun _=>some (.int 30))) (fun _=>some [])))))
  (am (aE 7 (d2 eqD (d2 aN (d2 aS (aa 3) (fun _=>some (.int 56))) (fun _=>some (.int 2))) (fun _=>some (.int 1))))
  (am (dIf (asB (d2 eqD (d2 aN (aa 5) (fun _=>some (.int 8))) (fun _=>some (.int 0)))) (bw (ak (n0 C) (aB 0 (aV (d2 aS (aa 3) (fun _=>some (.int 112))) (aV (getV 6) (aV (getV 7) (aB 2 (fun _=>some [])))))))) dNx)
  (am (aE 8 (ak (iF C) (aB 0 (aB 4 (fun _=>some [])))))
  (am (dIf (asB (d2 gtI (aa 5) (fun _=>some (.int 5)))) (bw (asT (ai (getV 8) (ai (ak (lg C) (aB 0 (aB 4 (fun _=>some [])))) aR)))) dNx)
  (am (aE 9 (ak (kG C) (aB 0 (aV (getV 4) (aV (fun _=>some (.int 742938285)) (fun _=>some []))))))
  (am (aE 10 (asO (asL (aW 1 [9,6,7] (fP (ak (rF C) (aB 4 (aB 5 (fun _=>some []))))) (setV 0) bz (asT (ai (d2 ixD (aa 1) (d2 ixD (aa 0) (fun _=>some (.int 0)))) (ai (d2 ixD (aa 1) (d2 ixD (aa 0) (fun _=>some (.int 1)))) (ai (getV 2) (ai (getV 3) aR)))))))))
  (am (dIf (asB (d2 eqD (d2 aN (d2 aS (aa 3) (fun _=>some (.int 112))) (fun _=>some (.int 3))) (fun _=>some (.int 0)))) (aE 10 (asO (asL (slL (d2 aP (aa 10) (ak (lg C) (aB 0 (aB 4 (fun _=>some []))))) bNo (bI (fun _=>some (.int 12))))))) dNx)
  (am (dIf (eX (asB (d2 eqD (d2 aN (d2 aS (aa 3) (fun _=>some (.int 112))) (fun _=>some (.int 3))) (fun _=>some (.int 1)))) (asB (d2 ltd (d1 bP (ay 10)) (fun _=>some (.int 7))))) (aE 10 (d2 aP (aa 10) (aa 10))) dNx)
  (bw (asT (ai (getV 8) (ai (getV 10) aR))))))))))))))))
def lv(C:Addr):List DV->Option DV:=mOf 11 3 (g_q27 C)
theorem Ah(T:Txt K mg t):FnOk P w K mg base CX0 4 t.f_q27 t.d_q27 ["_law_script","_law_most","_law_false_here"] (spD K (lv t.C)):=
 T.fn_q27.okD dn fun cdv A outer s H E hr=>(af (aK (i:=3) dn.nd rfl (.inl rfl) (ar (fZ T) (hr.mono (by decide)) rfl T.g_q26 T.fn_q26.kp T.bd_q26 (aJ (ar (mT T) (hr.mono (by decide)) rfl T.g_q13 T.fn_q13.kp T.bd_q13 (az 0 (pv 0) (aJ ae al))) (aJ ae al)))) (af (aK (i:=4) dn.nd rfl (.inl rfl) (aI (PDE.r ae) (PDE.r (aZ (ag 3 (pv 3)) (ag 1 (pv 1)))))) (af (aK (i:=5) dn.nd rfl (.inl rfl) (aZ (PDE.r (bv (ag 3 (pv 3)) (PDE.r ae))) (PDE.r ae))) (af (aK (i:=6) dn.nd rfl (.inr rfl) (ar (zQ T) (hr.mono (by decide)) rfl T.g_q17 T.fn_q17.kp T.bd_q17 (az 0 (pv 0) (aJ (ni (PDE.r ae) (PDE.r ae)) al)))) (af (aK (i:=7) dn.nd rfl (.inr rfl) (wK hr.h64 (PDE.n (aZ (PDE.r (bv (ag 3 (pv 3)) (PDE.r ae))) (PDE.r ae))) (PDE.n ae))) (af (bH (dN hr.h64 (PDE.n (aZ (ag 5 (pv 5)) (PDE.r ae))) (PDE.n ae)) (aj (a_ (ar (Ai T) (hr.mono (by decide)) rfl T.g_q16 T.fn_q16.kp T.bd_q16 (az 0 (pv 0) (aJ (bv (ag 3 (pv 3)) (PDE.r ae)) (aJ (ap 6 (pv 6)) (aJ (ap 7 (pv 7)) (az 2 (pv 2) al)))))))) aO) (af (aK (i:=8) dn.nd rfl (.inl rfl) (ar (wy T) (hr.mono (by decide)) rfl T.g_q19 T.fn_q19.kp T.bd_q19 (az 0 (pv 0) (az 4 (pv 4) al)))) (af (bH (kD (ag 5 (pv 5)) (PDE.r ae)) (aj (a_ (bf (ah (ap 8 (pv 8)) (ah (ar (wQ T) (hr.mono (by decide)) rfl T.g_q15 T.fn_q15.kp T.bd_q15 (az 0 (pv 0) (az 4 (pv 4) al))) aw))))) aO) (af (aK (i:=9) dn.nd rfl (.inr rfl) (ar (uA T) (hr.mono (by decide)) rfl T.g_q21 T.fn_q21.kp T.bd_q21 (az 0 (pv 0) (aJ (ap 4 (pv 4)) (aJ ae al))))) (af (cN (i:=10) (N:=["_law_pair","_law_order_here","_law_kind","_law_oneway"]) (own:=1) (ix:=[9,6,7]) (is:=[0]) dn.nd rfl (.inl rfl) rfl (cM (defScope iQ) rfl (by decide+kernel)) (cD zp rfl (by decide+kernel)) (bW (by decide)) (rC (ar (Bv T) (hr.mono (by decide)) rfl T.g_q22 T.fn_q22.kp T.bd_q22 (az 4 (pv 4) (az 5 (pv 5) al)))) (fun _ _ _ _=>(aD (i:=0) (show(["_law_pair","_law_order_here","_law_kind","_law_oneway"]:List Str).Nodup from by decide+kernel) rfl (.inl rfl))) (fun _ _ _ _=>c8) (fun _ _ _ _=>(bf (ah (a8 (ag 1 (pv 1)) (PDE.r (a8 (ag 0 (pv 0)) (PDE.r ae)))) (ah (a8 (ag 1 (pv 1)) (PDE.r (a8 (ag 0 (pv 0)) (PDE.r ae)))) (ah (ap 2 (pv 2)) (ah (ap 3 (pv 3)) aw)))))) (by decide+kernel)) (af (bH (dN hr.h64 (PDE.n (aZ (PDE.r (bv (ag 3 (pv 3)) (PDE.r ae))) (PDE.r ae))) (PDE.n ae)) (aj (aK (i:=10) dn.nd rfl (.inl rfl) (PDO.v (lU (PDE.r (aI (ag 10 (pv 10)) (PDE.r (ar (wQ T) (hr.mono (by decide)) rfl T.g_q15 T.fn_q15.kp T.bd_q15 (az 0 (pv 0) (az 4 (pv 4) al)))))) zR (vq ae))))) aO) (af (bH (PDW.t (fH (dN hr.h64 (PDE.n (aZ (PDE.r (bv (ag 3 (pv 3)) (PDE.r ae))) (PDE.r ae))) (PDE.n ae)) (eB (ke hr.h64 (PDE.n (cu rfl T.b_len (aF 10 (pv 10)))) (PDE.n ae))))) (aj (aK (i:=10) dn.nd rfl (.inl rfl) (aI (ag 10 (pv 10)) (ag 10 (pv 10))))) aO) (aj (a_ (bf (ah (ap 8 (pv 8)) (ah (ap 10 (pv 10)) aw)))))))))))))))))
abbrev BN:List Str:=["kind","letters_fit"]
theorem zC:FnScope BN ["kind"] (defScope n4):=⟨rfl,rfl,rfl,by decide+kernel,rfl,by decide+kernel,by decide+kernel⟩
def g_q5(C:Addr):DF->Option RES:=
  (am (aE 1 (d1 vU (asO (asL (aW 1 [] (oV (getV 0)) (setV 0) bz (chD leA leA (fun _=>some (.str "a")) (ay 0) (fun _=>some (.str "z"))))))))
  (bw (nz (getV 1) (chD leA leA (fun _=>some (.int 1)) (d1 bP (ay 0)) (fun _=>some (.int 3))))))
def vt(C:Addr):List DV->Option DV:=mOf 2 1 (g_q5 C)
theorem B_(T:Txt K mg t):FnOk P w K mg base CX0 1 t.f_q5 t.d_q5 ["kind"] (spD K (vt t.C)):=
 T.fn_q5.okD zC fun cdv A outer s H E hr=>(af (aK (i:=1) zC.nd rfl (.inl rfl) (uY rfl rfl T.b_all (PDE.n (PDO.v (bU (N:=["letter"]) (own:=1) (ix:=[]) (is:=[0]) rfl (cM (defScope n4) rfl (by decide+kernel)) (cD BN rfl (by decide+kernel)) (bW (by decide)) (zb (ap 0 (pv 0))) (fun _ _ _ _=>(aD (i:=0) (show(["letter"]:List Str).Nodup from by decide+kernel) rfl (.inl rfl))) (fun _ _ _ _=>c8) (fun _ _ _ _=>(sH (PDE.n eE) (aF 0 (pv 0)) (PDE.n eE))) (by decide+kernel)))))) (aj (a_ (gY (ap 1 (pv 1)) (j_ (sH (PDE.n ae) (PDE.n (cu rfl T.b_len (aF 0 (pv 0)))) (PDE.n (mt rfl T.c_MOST_LETTERS))))))))
abbrev DO:List Str:=["kind"]
theorem Cc:FnScope DO ["kind"] (defScope qD):=⟨rfl,rfl,rfl,by decide+kernel,rfl,by decide+kernel,by decide+kernel⟩
def g_q7(C:Addr):DF->Option RES:=
  (bw (chD leA ltI (fun _=>some (.int 0)) (ay 0) (d2 kQ (fun _=>some (.int 10)) (fun _=>some (.int 30)))))
def vO(C:Addr):List DV->Option DV:=mOf 1 1 (g_q7 C)
theorem Df(T:Txt K mg t):FnOk P w K mg base CX0 1 t.f_q7 t.d_q7 ["kind"] (spD K (vO t.C)):=
 T.fn_q7.okD Cc fun cdv A outer s H E hr=>(aj (a_ (nP (PDE.n ae) (aF 0 (pv 0)) (PDE.n (ni (PDE.r ae) (PDE.r ae))))))
abbrev Eu:List Str:=["tie","size","places_fit"]
theorem zx:FnScope Eu ["tie","size"] (defScope qq):=⟨rfl,rfl,rfl,by decide+kernel,rfl,by decide+kernel,by decide+kernel⟩
def g_q6(C:Addr):DF->Option RES:=
  (am (aE 2 (nz (chD leA ltI (fun _=>some (.int 0)) (d2 ixD (aa 0) (fun _=>some (.int 0))) (ay 1)) (chD leA ltI (fun _=>some (.int 0)) (d2 ixD (aa 0) (fun _=>some (.int 1))) (ay 1))))
  (bw (nz (getV 2) (nz (d2 neD (d2 ixD (aa 0) (fun _=>some (.int 0))) (d2 ixD (aa 0) (fun _=>some (.int 1)))) (ak (vO C) (aV (d2 ixD (aa 0) (fun _=>some (.int 2))) (fun _=>some [])))))))
def t9(C:Addr):List DV->Option DV:=mOf 3 2 (g_q6 C)
theorem BE(T:Txt K mg t):FnOk P w K mg base CX0 2 t.f_q6 t.d_q6 ["tie","size"] (spD K (t9 t.C)):=
 T.fn_q6.okD zx fun cdv A outer s H E hr=>(af (aK (i:=2) zx.nd rfl (.inl rfl) (gY (nP (PDE.n ae) (PDE.n (a8 (ag 0 (pv 0)) (PDE.r ae))) (aF 1 (pv 1))) (j_ (nP (PDE.n ae) (PDE.n (a8 (ag 0 (pv 0)) (PDE.r ae))) (aF 1 (pv 1)))))) (aj (a_ (gY (ap 2 (pv 2)) (gY (CK hr.h64 (PDE.n (a8 (ag 0 (pv 0)) (PDE.r ae))) (PDE.n (a8 (ag 0 (pv 0)) (PDE.r ae)))) (j_ (ar (Df T) (hr.mono (by decide)) rfl T.g_q7 T.fn_q7.kp T.bd_q7 (aJ (a8 (ag 0 (pv 0)) (PDE.r ae)) al))))))))
abbrev CJ:List Str:=["kinds","ties","kind","tie"]
theorem qC:FnScope CJ ["kinds","ties"] (defScope jz):=⟨rfl,rfl,rfl,by decide+kernel,rfl,by decide+kernel,by decide+kernel⟩
def g_q32(C:Addr):DF->Option RES:=
  (am (dIf (cI (asB (chD leA leA (fun _=>some (.int 1)) (d1 bP (ay 0)) (fun _=>some (.int 7))))) gQ dNx)
  (am (dIf (asB (d2 gtI (d1 bP (ay 1)) (fun _=>some (.int 12)))) gQ dNx)
  (am (dD (cf 0) (setV 2) (dIf (cI (asB (ak (vt C) (aV (getV 2) (fun _=>some []))))) gQ dNx))
  (dD (cf 1) (setV 3) (dIf (cI (asB (ak (t9 C) (aB 3 (aV (d1 bP (ay 0)) (fun _=>some [])))))) gQ dNx)))))
def oH(C:Addr):List DV->Option DV:=mOf 4 2 (g_q32 C)
theorem zP(T:Txt K mg t):FnOk P w K mg base CX0 3 t.f_q32 t.d_q32 ["kinds","ties"] (spD K (oH t.C)):=
 T.fn_q32.okD qC fun cdv A outer s H E hr=>(af (bH (cV (yv (PDE.n ae) (PDE.n (cu rfl T.b_len (aF 0 (pv 0)))) (PDE.n (mt rfl T.c_MOST_PLACES)))) (aj gl) aO) (af (bH (kD (PDE.r (cu rfl T.b_len (aF 1 (pv 1)))) (PDE.r (mt rfl T.c_MOST_TIES))) (aj gl) aO) (af (cy YR rfl (cE 0 (pv 0)) (aD (i:=2) qC.nd rfl (.inl rfl)) (aj (bH (cV (cx (ar (B_ T) (hr.mono (by decide)) rfl T.g_q5 T.fn_q5.kp T.bd_q5 (aJ (ap 2 (pv 2)) al)))) (aj gl) aO))) (aj (cy YR rfl (cE 1 (pv 1)) (aD (i:=3) qC.nd rfl (.inl rfl)) (aj (bH (cV (cx (ar (BE T) (hr.mono (by decide)) rfl T.g_q6 T.fn_q6.kp T.bd_q6 (az 3 (pv 3) (aJ (cu rfl T.b_len (aF 0 (pv 0))) al))))) (aj gl) aO)))))))
abbrev BH:List Str:=["tie"]
theorem A4:FnScope BH ["tie"] (defScope jM):=⟨rfl,rfl,rfl,by decide+kernel,rfl,by decide+kernel,by decide+kernel⟩
def g_q29(C:Addr):DF->Option RES:=
  (am (dIf (orT (asB (d2 ixD (aa 0) (fun _=>some (.int 3)))) (asB (d2 ltd (d2 ixD (aa 0) (fun _=>some (.int 0))) (d2 ixD (aa 0) (fun _=>some (.int 1)))))) (bw (getV 0)) dNx)
  (bw (asT (ai (d2 ixD (aa 0) (fun _=>some (.int 1))) (ai (d2 ixD (aa 0) (fun _=>some (.int 0))) (ai (d2 ixD (aa 0) (fun _=>some (.int 2))) (ai (d2 ixD (aa 0) (fun _=>some (.int 3))) aR)))))))
def pN(C:Addr):List DV->Option DV:=mOf 1 1 (g_q29 C)
theorem AT(T:Txt K mg t):FnOk P w K mg base CX0 1 t.f_q29 t.d_q29 ["tie"] (spD K (pN t.C)):=
 T.fn_q29.okD A4 fun cdv A outer s H E hr=>(af (bH (PDW.t (fj (cx (a8 (ag 0 (pv 0)) (PDE.r ae))) (fC (ke hr.h64 (PDE.n (a8 (ag 0 (pv 0)) (PDE.r ae))) (PDE.n (a8 (ag 0 (pv 0)) (PDE.r ae))))))) (aj (a_ (ap 0 (pv 0)))) aO) (aj (a_ (bf (ah (a8 (ag 0 (pv 0)) (PDE.r ae)) (ah (a8 (ag 0 (pv 0)) (PDE.r ae)) (ah (a8 (ag 0 (pv 0)) (PDE.r ae)) (ah (a8 (ag 0 (pv 0)) (PDE.r ae)) aw))))))))
abbrev BL:List Str:=["joins","ends","pair"]
theorem Ae:FnScope BL ["joins","ends","pair"] (defScope jT):=⟨rfl,rfl,rfl,by decide+kernel,rfl,by decide+kernel,by decide+kernel⟩
def g_q30(C:Addr):DF->Option RES:=
  (rY 0 (getV 1) (d1 oQ (asO (asL (lY (d2 aP (gf (aa 0) (getV 1) (asT aR)) (asT (ai (getV 2) aR))))))))
def i_(C:Addr):OD->List DV->Option (OD×D):=sX 3 3 (g_q30 C)
theorem wt(T:Txt K mg t):FnOk P w K mg base CX0 1 t.f_q30 t.d_q30 ["joins","ends","pair"] (spM K (i_ t.C)):=
 T.fn_q30.okM Ae sF fun cdv A outer s H E hr=>(aj (yw 0 hr.h64 (pv 0) (ap 1 (pv 1)) (pD rfl T.b_tuple (PDE.r (PDO.v (fT hr.h64 rfl T.b_sorted (PDE.r (aI (PDE.r (oe hr.h64 (ag 0 (pv 0)) (ap 1 (pv 1)) (bf aw))) (PDE.r (bf (ah (ap 2 (pv 2)) aw)))))))))))
abbrev Ed:List Str:=["ties","joins","one","other","kind","oneway"]
theorem li:FnScope Ed ["ties"] (defScope qy):=⟨rfl,rfl,rfl,by decide+kernel,rfl,by decide+kernel,by decide+kernel⟩
def g_q8(C:Addr):DF->Option RES:=
  (am (bB 1 (fun _=>some (.dT [])))
  (am (dD (cf 0) (m_ [2,3,4,5]) (am (e9 K0 1 (i_ C) (aV (asT (ai (getV 2) (ai (getV 3) aR))) (aV (asT (ai (getV 4) (ai (ifV (asB (getV 5)) (fun _=>some (.int 1)) (fun _=>some (.int 0))) aR))) (fun _=>some []))))
  (e9 K0 1 (i_ C) (aV (asT (ai (getV 3) (ai (getV 2) aR))) (aV (asT (ai (getV 4) (ai (ifV (asB (getV 5)) (fun _=>some (.int 2)) (fun _=>some (.int 0))) aR))) (fun _=>some []))))))
  (e6 1)))
def vB(C:Addr):List DV->Option DV:=mOf 6 1 (g_q8 C)
theorem BY(T:Txt K mg t):FnOk P w K mg base CX0 2 t.f_q8 t.d_q8 ["ties"] (spD K (vB t.C)):=
 T.fn_q8.okD li fun cdv A outer s H E hr=>(af (bO (i:=1) li.nd rfl (.inl rfl) tZ) (af (cy YR rfl (cE 0 (pv 0)) (nD (is:=[2,3,4,5]) rfl (cY (cS (i:=2) li.nd rfl (.inl rfl)) (cY (cS (i:=3) li.nd rfl (.inl rfl)) (cY (cS (i:=4) li.nd rfl (.inl rfl)) (cY (cS (i:=5) li.nd rfl (.inl rfl)) mY))))) (af (pE 1 (wt T) (hr.mono (by decide)) rfl T.g_q30 T.fn_q30.kp T.bd_q30 (pv 1) (aJ (bf (ah (ap 2 (pv 2)) (ah (ap 3 (pv 3)) aw))) (aJ (bf (ah (ap 4 (pv 4)) (ah (wu (cx (ap 5 (pv 5))) ae ae) aw))) al))) (aj (pE 1 (wt T) (hr.mono (by decide)) rfl T.g_q30 T.fn_q30.kp T.bd_q30 (pv 1) (aJ (bf (ah (ap 3 (pv 3)) (ah (ap 2 (pv 2)) aw))) (aJ (bf (ah (ap 4 (pv 4)) (ah (wu (cx (ap 5 (pv 5))) ae ae) aw))) al)))))) (aj (dJ 1 (pv 1)))))
abbrev BM:List Str:=["self","kinds","ties"]
theorem BQ:FnScope BM ["self","kinds","ties"] (defScope ou):=⟨rfl,rfl,rfl,by decide+kernel,rfl,by decide+kernel,by decide+kernel⟩
def C0(C:Addr):DF->Option RES:=
  (am (ro (ak (oH C) (aB 1 (aB 2 (fun _=>some [])))))
  (am (lK C 0 "kinds" (asO (asL (cB (aa 1)))))
  (am (lK C 0 "ties" (asO (asL (lY (asO (asL (aW 1 [] (cf 2) (setV 0) bz (ak (pN C) (aV (getV 0) (fun _=>some []))))))))))
  (lK C 0 "joins" (ak (vB C) (aV (d1 (mG C "ties") (aa 0)) (fun _=>some [])))))))
def rR(C:Addr):OD->List DV->Option (OD×D):=sX 3 3 (C0 C)
theorem BC(T:Txt K mg t):FnOk P w K mg base CX0 4 t.f_q0 t.d_q0 ["self","kinds","ties"] (spM K (rR t.C)):=
 T.fn_q0.okM BQ sF fun cdv A outer s H E hr=>(af (yZ (ar (zP T) (hr.mono (by decide)) rfl T.g_q32 T.fn_q32.kp T.bd_q32 (az 1 (pv 1) (az 2 (pv 2) al)))) (af (mw 0 T.cl T.na_kinds (pv 0) (PDO.v (dG rfl T.b_list (ag 1 (pv 1))))) (af (mw 0 T.cl T.na_ties (pv 0) (PDO.v (fT hr.h64 rfl T.b_sorted (PDE.r (PDO.v (bU (N:=["tie"]) (own:=1) (ix:=[]) (is:=[0]) rfl (cM (defScope ou) rfl (by decide+kernel)) (cD BM rfl (by decide+kernel)) (bW (by decide)) (cE 2 (pv 2)) (fun _ _ _ _=>(aD (i:=0) (show(["tie"]:List Str).Nodup from by decide+kernel) rfl (.inl rfl))) (fun _ _ _ _=>c8) (fun _ _ _ _=>(ar (AT T) (hr.mono (by decide)) rfl T.g_q29 T.fn_q29.kp T.bd_q29 (aJ (ap 0 (pv 0)) al))) (by decide+kernel))))))) (aj (mw 0 T.cl T.na_joins (pv 0) (ar (BY T) (hr.mono (by decide)) rfl T.g_q8 T.fn_q8.kp T.bd_q8 (aJ (mJ T.cl T.na_ties (ag 0 (pv 0))) al)))))))
abbrev zh:List Str:=["_law_keys","_law_unlike","_law_key"]
theorem pZ:FnScope zh ["_law_keys"] (defScope iN):=⟨rfl,rfl,rfl,by decide+kernel,rfl,by decide+kernel,by decide+kernel⟩
def g_q24(C:Addr):DF->Option RES:=
  (am (bB 1 (asL aR))
  (am (dD (cf 0) (setV 2) (dIf (asB (d2 f9 (ay 2) (ay 1))) (di 1 (getV 2)) dNx))
  (u4 1 (db (asL (aW 1 [1] (cf 0) (setV 0) bz (d1 bP (asO (asL (aW 1 [0] (fP (getV 1)) (setV 0) (asB (d2 ltd (ay 0) (ay 1))) (getV 0)))))))))))
def n9(C:Addr):List DV->Option DV:=mOf 3 1 (g_q24 C)
theorem Bj(T:Txt K mg t):FnOk P w K mg base CX0 1 t.f_q24 t.d_q24 ["_law_keys"] (spD K (n9 t.C)):=
 T.fn_q24.okD pZ fun cdv A outer s H E hr=>(af (bO (i:=1) pZ.nd rfl (.inr rfl) (cn aw)) (af (cy YR rfl (cE 0 (pv 0)) (aD (i:=2) pZ.nd rfl (.inl rfl)) (aj (bH (wJ hr.h64 (aF 2 (pv 2)) (aF 1 (pv 1))) (aj (bJ 1 (pv 1) (ap 2 (pv 2)))) aO))) (aj (yj 1 (cL (bU (N:=["_law_key","_law_unlike"]) (own:=1) (ix:=[1]) (is:=[0]) rfl (cM (defScope iN) rfl (by decide+kernel)) (cD zh rfl (by decide+kernel)) (bW (by decide)) (cE 0 (pv 0)) (fun _ _ _ _=>(aD (i:=0) (show(["_law_key","_law_unlike"]:List Str).Nodup from by decide+kernel) rfl (.inr rfl))) (fun _ _ _ _=>c8) (fun _ _ _ _=>(cu rfl T.b_len (PDE.n (PDO.v (bU (N:=["_law_other","_law_key"]) (own:=1) (ix:=[0]) (is:=[0]) rfl (A8 (by decide+kernel)) (cD ["_law_key","_law_unlike"] rfl (by decide+kernel)) (bW (by decide)) (rC (ap 1 (pv 1))) (fun _ _ _ _=>(aD (i:=0) (show(["_law_other","_law_key"]:List Str).Nodup from by decide+kernel) rfl (.inl rfl))) (fun _ _ _ _=>(zA (ke hr.h64 (aF 0 (pv 0)) (aF 1 (pv 1))))) (fun _ _ _ _=>(ap 0 (pv 0))) (by decide+kernel)))))) (by decide+kernel)))))))
abbrev zg:List Str:=["_law_script","_law_size","_law_number","_law_many"]
theorem pW:FnScope zg ["_law_script","_law_size"] (defScope iA):=⟨rfl,rfl,rfl,by decide+kernel,rfl,by decide+kernel,by decide+kernel⟩
def g_q23(C:Addr):DF->Option RES:=
  (am (aE 2 (ak (dq C) (aV (ak (eV C) (aB 0 (aV (fun _=>some (.int 14)) (fun _=>some [])))) (aV (fun _=>some (.int 941083987)) (fun _=>some [])))))
  (am (aE 3 (d2 aP (fun _=>some (.int 1)) (d2 aN (aa 2) (fun _=>some (.int 3)))))
  (bw (ak (n9 C) (aV (asO (asL (aW 1 [2,3] (cg (aa 1)) (setV 0) bz (d2 aN (d2 aS (ak (dq C) (aV (d2 aP (aa 1) (d2 fL (aa 0) (aa 0))) (aV (fun _=>some (.int 1726512289)) (fun _=>some [])))) (fun _=>some (.int 5))) (aa 2))))) (fun _=>some []))))))
def lr(C:Addr):List DV->Option DV:=mOf 4 2 (g_q23 C)
theorem zZ(T:Txt K mg t):FnOk P w K mg base CX0 2 t.f_q23 t.d_q23 ["_law_script","_law_size"] (spD K (lr t.C)):=
 T.fn_q23.okD pW fun cdv A outer s H E hr=>(af (aK (i:=2) pW.nd rfl (.inr rfl) (ar (fZ T) (hr.mono (by decide)) rfl T.g_q26 T.fn_q26.kp T.bd_q26 (aJ (ar (mT T) (hr.mono (by decide)) rfl T.g_q13 T.fn_q13.kp T.bd_q13 (az 0 (pv 0) (aJ ae al))) (aJ ae al)))) (af (aK (i:=3) pW.nd rfl (.inr rfl) (aI (PDE.r ae) (PDE.r (aZ (ag 2 (pv 2)) (PDE.r ae))))) (aj (a_ (ar (Bj T) (hr.mono (by decide)) rfl T.g_q24 T.fn_q24.kp T.bd_q24 (aJ (PDO.v (bU (N:=["_law_k","_law_number","_law_many"]) (own:=1) (ix:=[2,3]) (is:=[0]) rfl (cM (defScope iA) rfl (by decide+kernel)) (cD zg rfl (by decide+kernel)) (bW (by decide)) (a7 rfl T.b_range (ag 1 (pv 1))) (fun _ _ _ _=>(aD (i:=0) (show(["_law_k","_law_number","_law_many"]:List Str).Nodup from by decide+kernel) rfl (.inl rfl))) (fun _ _ _ _=>c8) (fun _ _ _ _=>(aZ (PDE.r (bv (PDE.r (ar (fZ T) (hr.mono (by decide)) rfl T.g_q26 T.fn_q26.kp T.bd_q26 (aJ (aI (ag 1 (pv 1)) (PDE.r (gS (ag 0 (pv 0)) (ag 0 (pv 0))))) (aJ ae al)))) (PDE.r ae))) (ag 2 (pv 2)))) (by decide+kernel))) al))))))
abbrev zE:List Str:=["keys","values"]
theorem vH:FnScope zE ["keys"] (defScope iG):=⟨rfl,rfl,rfl,by decide+kernel,rfl,by decide+kernel,by decide+kernel⟩
def g_q31(C:Addr):DF->Option RES:=
  (am (aE 1 (asO (asL (gB (aa 0)))))
  (db (asL (aW 1 [1] (cf 0) (setV 0) bz (d2 ud (ay 1) (ay 0))))))
def gM(C:Addr):List DV->Option DV:=mOf 2 1 (g_q31 C)
theorem qI(T:Txt K mg t):FnOk P w K mg base CX0 1 t.f_q31 t.d_q31 ["keys"] (spD K (gM t.C)):=
 T.fn_q31.okD vH fun cdv A outer s H E hr=>(af (aK (i:=1) vH.nd rfl (.inr rfl) (PDO.v (pP hr.h80 rfl rfl T.b_sorted rfl T.b_set (ag 0 (pv 0))))) (aj (cL (bU (N:=["key","values"]) (own:=1) (ix:=[1]) (is:=[0]) rfl (cM (defScope iG) rfl (by decide+kernel)) (cD zE rfl (by decide+kernel)) (bW (by decide)) (cE 0 (pv 0)) (fun _ _ _ _=>(aD (i:=0) (show(["key","values"]:List Str).Nodup from by decide+kernel) rfl (.inl rfl))) (fun _ _ _ _=>c8) (fun _ _ _ _=>(vy hr.h64 (aF 1 (pv 1)) (aF 0 (pv 0)))) (by decide+kernel)))))
abbrev D0:List Str:=["self"]
theorem CD:FnScope D0 ["self"] (defScope qP):=⟨rfl,rfl,rfl,by decide+kernel,rfl,by decide+kernel,by decide+kernel⟩
def CW(C:Addr):DF->Option RES:=
  (bw (d1 bP (d1 (mG C "kinds") (aa 0))))
def kN(C:Addr):List DV->Option DV:=mOf 1 1 (CW C)
theorem zf(T:Txt K mg t):FnOk P w K mg base CX0 1 t.f_q2 t.d_q2 ["self"] (spD K (kN t.C)):=
 T.fn_q2.okD CD fun cdv A outer s H E hr=>(aj (a_ (cu rfl T.b_len (PDE.n (mJ T.cl T.na_kinds (ag 0 (pv 0)))))))
abbrev Ex:List Str:=["self","one","other"]
theorem BP:FnScope Ex ["self","one","other"] (defScope qW):=⟨rfl,rfl,rfl,by decide+kernel,rfl,by decide+kernel,by decide+kernel⟩
def De(C:Addr):DF->Option RES:=
  (bw (gf (d1 (mG C "joins") (aa 0)) (asT (ai (getV 1) (ai (getV 2) aR))) (asT aR)))
def sY(C:Addr):List DV->Option DV:=mOf 3 3 (De C)
theorem BJ(T:Txt K mg t):FnOk P w K mg base CX0 1 t.f_q1 t.d_q1 ["self","one","other"] (spD K (sY t.C)):=
 T.fn_q1.okD BP fun cdv A outer s H E hr=>(aj (a_ (oe hr.h64 (PDE.r (mJ T.cl T.na_joins (ag 0 (pv 0)))) (bf (ah (ap 1 (pv 1)) (ah (ap 2 (pv 2)) aw))) (bf aw))))
abbrev Ag:List Str:=["web","parting","place","others","pairs"]
theorem wD:FnScope Ag ["web","parting","place"] (defScope mR):=⟨rfl,rfl,rfl,by decide+kernel,rfl,by decide+kernel,by decide+kernel⟩
def g_q9(C:Addr):DF->Option RES:=
  (am (aE 3 (asO (asL (aW 1 [2] (cg (cw C "size" (kN C) (cJ (du 0) g0))) (setV 0) (asB (d2 neD (ay 0) (ay 1))) (getV 0)))))
  (am (aE 4 (asO (asL (aW 1 [1,0,2] (cf 3) (setV 0) bz (asT (ai (d2 ixD (aa 1) (aa 0)) (ai (cw C "between" (sY C) (cJ (du 2) (aV (getV 3) (aV (getV 0) (fun _=>some []))))) aR)))))))
  (bw (asT (ai (d2 ixD (aa 1) (aa 2)) (ai (d1 oQ (asO (asL (lY (aa 4))))) aR))))))
def n5(C:Addr):List DV->Option DV:=mOf 5 3 (g_q9 C)
theorem CB(T:Txt K mg t):FnOk P w K mg base CX0 2 t.f_q9 t.d_q9 ["web","parting","place"] (spD K (n5 t.C)):=
 T.fn_q9.okD wD fun cdv A outer s H E hr=>(af (cN (i:=3) (N:=["other","place"]) (own:=1) (ix:=[2]) (is:=[0]) wD.nd rfl (.inl rfl) rfl (cM (defScope mR) rfl (by decide+kernel)) (cD Ag rfl (by decide+kernel)) (bW (by decide)) (a7 rfl T.b_range (PDE.r (pS (nQ 0 (pv 0)) T.cl T.mt_q2 (zf T) (hr.mono (by decide)) T.bd_q2))) (fun _ _ _ _=>(aD (i:=0) (show(["other","place"]:List Str).Nodup from by decide+kernel) rfl (.inl rfl))) (fun _ _ _ _=>(zA (iz hr.h64 (aF 0 (pv 0)) (aF 1 (pv 1))))) (fun _ _ _ _=>(ap 0 (pv 0))) (by decide+kernel)) (af (cN (i:=4) (N:=["other","parting","web","place"]) (own:=1) (ix:=[1,0,2]) (is:=[0]) wD.nd rfl (.inl rfl) rfl (cM (defScope mR) rfl (by decide+kernel)) (cD Ag rfl (by decide+kernel)) (bW (by decide)) (cE 3 (pv 3)) (fun _ _ _ _=>(aD (i:=0) (show(["other","parting","web","place"]:List Str).Nodup from by decide+kernel) rfl (.inl rfl))) (fun _ _ _ _=>c8) (fun _ _ _ _=>(bf (ah (a8 (ag 1 (pv 1)) (ag 0 (pv 0))) (ah (xj (nQ 2 (pv 2)) T.cl T.mt_q1 (BJ T) (hr.mono (by decide)) T.bd_q1 (aJ (ap 3 (pv 3)) (aJ (ap 0 (pv 0)) al))) aw)))) (by decide+kernel)) (aj (a_ (bf (ah (a8 (ag 1 (pv 1)) (ag 2 (pv 2))) (ah (pD rfl T.b_tuple (PDE.r (PDO.v (fT hr.h64 rfl T.b_sorted (ag 4 (pv 4)))))) aw)))))))
abbrev zj:List Str:=["web","parting"]
theorem Bl:FnScope zj ["web","parting"] (defScope iP):=⟨rfl,rfl,rfl,by decide+kernel,rfl,by decide+kernel,by decide+kernel⟩
def g_q10(C:Addr):DF->Option RES:=
  (db (asL (aW 1 [0,1] (cg (cw C "size" (kN C) (cJ (du 0) g0))) (setV 0) bz (ak (n5 C) (aB 1 (aB 2 (aV (getV 0) (fun _=>some []))))))))
def iE(C:Addr):List DV->Option DV:=mOf 2 2 (g_q10 C)
theorem zH(T:Txt K mg t):FnOk P w K mg base CX0 3 t.f_q10 t.d_q10 ["web","parting"] (spD K (iE t.C)):=
 T.fn_q10.okD Bl fun cdv A outer s H E hr=>(aj (cL (bU (N:=["place","web","parting"]) (own:=1) (ix:=[0,1]) (is:=[0]) rfl (cM (defScope iP) rfl (by decide+kernel)) (cD zj rfl (by decide+kernel)) (bW (by decide)) (a7 rfl T.b_range (PDE.r (pS (nQ 0 (pv 0)) T.cl T.mt_q2 (zf T) (hr.mono (by decide)) T.bd_q2))) (fun _ _ _ _=>(aD (i:=0) (show(["place","web","parting"]:List Str).Nodup from by decide+kernel) rfl (.inl rfl))) (fun _ _ _ _=>c8) (fun _ _ _ _=>(ar (CB T) (hr.mono (by decide)) rfl T.g_q9 T.fn_q9.kp T.bd_q9 (az 1 (pv 1) (az 2 (pv 2) (aJ (ap 0 (pv 0)) al))))) (by decide+kernel))))
abbrev DX:List Str:=["web","parting"]
theorem CT:FnScope DX ["web","parting"] (defScope qR):=⟨rfl,rfl,rfl,by decide+kernel,rfl,by decide+kernel,by decide+kernel⟩
def g_q3(C:Addr):DF->Option RES:=
  (db (cb (gM C) (aV (ak (iE C) (aB 0 (aB 1 (fun _=>some [])))) (fun _=>some []))))
def eY(C:Addr):List DV->Option DV:=mOf 2 2 (g_q3 C)
theorem o0(T:Txt K mg t):FnOk P w K mg base CX0 4 t.f_q3 t.d_q3 ["web","parting"] (spD K (eY t.C)):=
 T.fn_q3.okD CT fun cdv A outer s H E hr=>(aj (cL (bY (qI T) (hr.mono (by decide)) rfl T.g_q31 T.fn_q31.kp T.bd_q31 (aJ (ar (zH T) (hr.mono (by decide)) rfl T.g_q10 T.fn_q10.kp T.bd_q10 (az 0 (pv 0) (az 1 (pv 1) al))) al))))
abbrev CS:List Str:=["web","parting","rounds","following"]
theorem nI:FnScope CS ["web","parting"] (defScope jH):=⟨rfl,rfl,rfl,by decide+kernel,rfl,by decide+kernel,by decide+kernel⟩
def g_q33(C:Addr):DF->Option RES:=
  (am (bB 2 (fun ρ=>((cB (aa 1)) ρ).map fun a=>OD.lst2 [a]))
  (am (bB 3 (cb (eY C) (aB 0 (aB 1 (fun _=>some [])))))
  (am (eR (c9 2 (asB (d2 neD (ay 3) (d2 ixD (aa 2) (d1 eC (fun _=>some (.int 1))))))) (lu 2 3 (cb (eY C) (aB 0 (aB 3 (fun _=>some []))))) 100)
  (e6 2))))
def iH(C:Addr):List DV->Option DV:=mOf 4 2 (g_q33 C)
theorem qS(T:Txt K mg t):FnOk P w K mg base CX0 5 t.f_q33 t.d_q33 ["web","parting"] (spD K (iH t.C)):=
 T.fn_q33.okD nI fun cdv A outer s H E hr=>(af (bO (i:=2) nI.nd rfl (.inl rfl) (sQ (dG rfl T.b_list (ag 1 (pv 1))))) (af (bO (i:=3) nI.nd rfl (.inl rfl) (bY (o0 T) (hr.mono (by decide)) rfl T.g_q3 T.fn_q3.kp T.bd_q3 (az 0 (pv 0) (az 1 (pv 1) al)))) (af (vF 100 YR (gz 2 (iz hr.h64 (aF 3 (pv 3)) (PDE.n (a8 (ag 2 (pv 2)) (PDE.r (jq ae)))))) (uG 2 3 (pv 2) (pv 3) nI.nd rfl (.inl rfl) (bY (o0 T) (hr.mono (by decide)) rfl T.g_q3 T.fn_q3.kp T.bd_q3 (az 0 (pv 0) (az 3 (pv 3) al))))) (aj (dJ 2 (pv 2))))))
abbrev CM:List Str:=["_law_found"]
theorem zL:FnScope CM ["_law_found"] (defScope j4):=⟨rfl,rfl,rfl,by decide+kernel,rfl,by decide+kernel,by decide+kernel⟩
def g_q28(C:Addr):DF->Option RES:=
  (bw (nz (d1 (kg "int") (ay 0)) (AK (d1 (kg "bool") (ay 0)))))
def sr(C:Addr):List DV->Option DV:=mOf 1 1 (g_q28 C)
theorem AG(T:Txt K mg t):FnOk P w K mg base CX0 1 t.f_q28 t.d_q28 ["_law_found"] (spD K (sr t.C)):=
 T.fn_q28.okD zL fun cdv A outer s H E hr=>(aj (a_ (gY (mN rfl T.b_isinstance rfl T.b_int L2.boot_int (aF 0 (pv 0))) (j_ (Bp (mN rfl T.b_isinstance rfl T.b_bool L2.boot_bool (aF 0 (pv 0))))))))
abbrev zB:List Str:=["_law_found","_law_due"]
theorem zI:FnScope zB ["_law_found","_law_due"] (defScope iR):=⟨rfl,rfl,rfl,by decide+kernel,rfl,by decide+kernel,by decide+kernel⟩
def g_q20(C:Addr):DF->Option RES:=
  (am (dIf (orT (cI (asB (d1 (kg "list") (ay 0)))) (asB (d2 neD (d1 bP (ay 0)) (d1 bP (ay 1))))) (bw (fun _=>some (.bl false))) dNx)
  (bw (nz (d1 vU (asO (asL (aW 1 [] (cf 0) (setV 0) bz (ak (sr C) (aB 0 (fun _=>some []))))))) (d2 eqD (ay 0) (ay 1)))))
def d_(C:Addr):List DV->Option DV:=mOf 2 2 (g_q20 C)
theorem i8(T:Txt K mg t):FnOk P w K mg base CX0 2 t.f_q20 t.d_q20 ["_law_found","_law_due"] (spD K (d_ t.C)):=
 T.fn_q20.okD zI fun cdv A outer s H E hr=>(af (bH (PDW.t (fj (cV (cx (mN rfl T.b_isinstance rfl T.b_list L2.boot_list (aF 0 (pv 0))))) (fC (iz hr.h64 (PDE.n (cu rfl T.b_len (aF 0 (pv 0)))) (PDE.n (cu rfl T.b_len (aF 1 (pv 1)))))))) (aj (a_ fq)) aO) (aj (a_ (gY (uY rfl rfl T.b_all (PDE.n (PDO.v (bU (N:=["_law_number"]) (own:=1) (ix:=[]) (is:=[0]) rfl (cM (defScope iR) rfl (by decide+kernel)) (cD zB rfl (by decide+kernel)) (bW (by decide)) (cE 0 (pv 0)) (fun _ _ _ _=>(aD (i:=0) (show(["_law_number"]:List Str).Nodup from by decide+kernel) rfl (.inl rfl))) (fun _ _ _ _=>c8) (fun _ _ _ _=>(ar (AG T) (hr.mono (by decide)) rfl T.g_q28 T.fn_q28.kp T.bd_q28 (az 0 (pv 0) al))) (by decide+kernel))))) (j_ (wK hr.h64 (aF 0 (pv 0)) (aF 1 (pv 1))))))))
abbrev CG:List Str:=["_law_web_here","_law_parting_here","_law_rounds_here","_law_k","_law_last","_law_row"]
theorem jV:FnScope CG ["_law_web_here","_law_parting_here"] (defScope jA):=⟨rfl,rfl,rfl,by decide+kernel,rfl,by decide+kernel,by decide+kernel⟩
def g_q25(C:Addr):DF->Option RES:=
  (am (bB 2 (cb (iH C) (aB 0 (aB 1 (fun _=>some [])))))
  (am (dIf (c9 2 (orT (cI (asB (d1 (kg "list") (ay 2)))) (orT (asB (d2 eqD (d1 bP (ay 2)) (fun _=>some (.int 0)))) (cI (asB (ak (d_ C) (aV (d2 ixD (aa 2) (fun _=>some (.int 0))) (aB 1 (fun _=>some []))))))))) (bw (fun _=>some .non)) dNx)
  (am (dD (qf (fun _=>some (.int 1)) (d1 bP (ay 2))) (setV 3) (dIf (c9 2 (orT (asB (d2 eqD (d2 ixD (aa 2) (aa 3)) (d2 ixD (aa 2) (d2 da (aa 3) (fun _=>some (.int 1)))))) (cI (asB (ak (d_ C) (aV (d2 ixD (aa 2) (aa 3)) (aV (ak (eY C) (aB 0 (aV (d2 ixD (aa 2) (d2 da (aa 3) (fun _=>some (.int 1)))) (fun _=>some [])))) (fun _=>some [])))))))) (bw (fun _=>some .non)) dNx))
  (am (dIf (c9 2 (asB (d2 neD (ak (eY C) (aB 0 (aV (d2 ixD (aa 2) (d1 eC (fun _=>some (.int 1)))) (fun _=>some [])))) (d2 ixD (aa 2) (d1 eC (fun _=>some (.int 1))))))) (bw (fun _=>some .non)) dNx)
  (am (bB 4 (asL (cB (v9 2 (d1 eC (fun _=>some (.int 1)))))))
  (am (gA 2 5)
  (e6 4)))))))
def oM(C:Addr):List DV->Option DV:=mOf 6 2 (g_q25 C)
theorem wA(T:Txt K mg t):FnOk P w K mg base CX0 6 t.f_q25 t.d_q25 ["_law_web_here","_law_parting_here"] (spD K (oM t.C)):=
 T.fn_q25.okD jV fun cdv A outer s H E hr=>(af (bO (i:=2) jV.nd rfl (.inl rfl) (bY (qS T) (hr.mono (by decide)) rfl T.g_q33 T.fn_q33.kp T.bd_q33 (az 0 (pv 0) (az 1 (pv 1) al)))) (af (bH (gz 2 (PDW.t (fj (cV (cx (mN rfl T.b_isinstance rfl T.b_list L2.boot_list (aF 2 (pv 2))))) (fj (dN hr.h64 (PDE.n (cu rfl T.b_len (aF 2 (pv 2)))) (PDE.n ae)) (fC (cV (cx (ar (i8 T) (hr.mono (by decide)) rfl T.g_q20 T.fn_q20.kp T.bd_q20 (aJ (a8 (ag 2 (pv 2)) (PDE.r ae)) (az 1 (pv 1) al)))))))))) (aj (a_ qt)) aO) (af (cy YR rfl (f7 rfl T.b_range (PDE.r ae) (PDE.r (cu rfl T.b_len (aF 2 (pv 2))))) (aD (i:=3) jV.nd rfl (.inl rfl)) (aj (bH (gz 2 (PDW.t (fj (dN hr.h64 (PDE.n (a8 (ag 2 (pv 2)) (ag 3 (pv 3)))) (PDE.n (a8 (ag 2 (pv 2)) (PDE.r (fm (ag 3 (pv 3)) (PDE.r ae)))))) (fC (cV (cx (ar (i8 T) (hr.mono (by decide)) rfl T.g_q20 T.fn_q20.kp T.bd_q20 (aJ (a8 (ag 2 (pv 2)) (ag 3 (pv 3))) (aJ (ar (o0 T) (hr.mono (by decide)) rfl T.g_q3 T.fn_q3.kp T.bd_q3 (az 0 (pv 0) (aJ (a8 (ag 2 (pv 2)) (PDE.r (fm (ag 3 (pv 3)) (PDE.r ae)))) al))) al))))))))) (aj (a_ qt)) aO))) (af (bH (gz 2 (iz hr.h64 (PDE.n (ar (o0 T) (hr.mono (by decide)) rfl T.g_q3 T.fn_q3.kp T.bd_q3 (az 0 (pv 0) (aJ (a8 (ag 2 (pv 2)) (PDE.r (jq ae))) al)))) (PDE.n (a8 (ag 2 (pv 2)) (PDE.r (jq ae)))))) (aj (a_ qt)) aO) (af (bO (i:=4) jV.nd rfl (.inl rfl) (dG rfl T.b_list (xF 2 (pv 2) (PDE.r (jq ae))))) (af (qM 2 5 YR rfl (pv 2) (cS (i:=5) jV.nd rfl (.inl rfl)) (pv 5) qL) (aj (dJ 4 (pv 4)))))))))
abbrev BX:List Str:=["_law_parting_here","_law_last","_law_one","_law_other"]
theorem qX:FnScope BX ["_law_parting_here","_law_last"] (defScope jo):=⟨rfl,rfl,rfl,by decide+kernel,rfl,by decide+kernel,by decide+kernel⟩
def g_q12(C:Addr):DF->Option RES:=
  (am (dD (cg (d1 bP (ay 0))) (setV 2) (dD (cg (d1 bP (ay 0))) (setV 3) (dIf (eX (asB (d2 ltd (d2 ixD (aa 0) (aa 2)) (d2 ixD (aa 0) (aa 3)))) (asB (d2 geI (d2 ixD (aa 1) (aa 2)) (d2 ixD (aa 1) (aa 3))))) (bw (fun _=>some (.bl false))) dNx)))
  (bw (fun _=>some (.bl true))))
def rE(C:Addr):List DV->Option DV:=mOf 4 2 (g_q12 C)
theorem AU(T:Txt K mg t):FnOk P w K mg base CX0 1 t.f_q12 t.d_q12 ["_law_parting_here","_law_last"] (spD K (rE t.C)):=
 T.fn_q12.okD qX fun cdv A outer s H E hr=>(af (cy YR rfl (a7 rfl T.b_range (PDE.r (cu rfl T.b_len (aF 0 (pv 0))))) (aD (i:=2) qX.nd rfl (.inl rfl)) (aj (cy YR rfl (a7 rfl T.b_range (PDE.r (cu rfl T.b_len (aF 0 (pv 0))))) (aD (i:=3) qX.nd rfl (.inl rfl)) (aj (bH (PDW.t (fH (ke hr.h64 (PDE.n (a8 (ag 0 (pv 0)) (ag 2 (pv 2)))) (PDE.n (a8 (ag 0 (pv 0)) (ag 3 (pv 3))))) (eB (Ct (PDE.r (a8 (ag 1 (pv 1)) (ag 2 (pv 2)))) (PDE.r (a8 (ag 1 (pv 1)) (ag 3 (pv 3)))))))) (aj (a_ fq)) aO))))) (aj (a_ fq)))
abbrev BV:List Str:=["web","parting"]
theorem Ao:FnScope BV ["web","parting"] (defScope kt):=⟨rfl,rfl,rfl,by decide+kernel,rfl,by decide+kernel,by decide+kernel⟩
def g_q34(C:Addr):DF->Option RES:=
  (l8 (cb (iH C) (aB 0 (aB 1 (fun _=>some [])))) (d1 eC (fun _=>some (.int 1))))
def gp(C:Addr):List DV->Option DV:=mOf 2 2 (g_q34 C)
theorem ji(T:Txt K mg t):FnOk P w K mg base CX0 6 t.f_q34 t.d_q34 ["web","parting"] (spD K (gp t.C)):=
 T.fn_q34.okD Ao fun cdv A outer s H E hr=>(aj (wB (fun _ _=>rfl) (bY (qS T) (hr.mono (by decide)) rfl T.g_q33 T.fn_q33.kp T.bd_q33 (az 0 (pv 0) (az 1 (pv 1) al))) (PDE.r (jq ae))))
abbrev En:List Str:=["web"]
theorem Cm:FnScope En ["web"] (defScope re):=⟨rfl,rfl,rfl,by decide+kernel,rfl,by decide+kernel,by decide+kernel⟩
def g_q4(C:Addr):DF->Option RES:=
  (db (cb (gp C) (aB 0 (aV (ak (gM C) (aV (d1 (mG C "kinds") (aa 0)) (fun _=>some []))) (fun _=>some [])))))
def u_(C:Addr):List DV->Option DV:=mOf 1 1 (g_q4 C)
theorem zD(T:Txt K mg t):FnOk P w K mg base CX0 7 t.f_q4 t.d_q4 ["web"] (spD K (u_ t.C)):=
 T.fn_q4.okD Cm fun cdv A outer s H E hr=>(aj (cL (bY (ji T) (hr.mono (by decide)) rfl T.g_q34 T.fn_q34.kp T.bd_q34 (az 0 (pv 0) (aJ (ar (qI T) (hr.mono (by decide)) rfl T.g_q31 T.fn_q31.kp T.bd_q31 (aJ (mJ T.cl T.na_kinds (ag 0 (pv 0))) al)) al)))))
abbrev BS:List Str:=["_law_script","_law_kinds_here","_law_ties","_law_web_here","_law_parting_here","_law_handed","_law_last","_law_again","_law_told","_law_first"]
theorem dS:FnScope BS ["_law_script"] (defScope jp):=⟨rfl,rfl,rfl,by decide+kernel,rfl,by decide+kernel,by decide+kernel⟩
def g_q11(C:Addr):DF->Option RES:=
  (am (rV [1,2] (ak (lv C) (aB 0 (aV (fun _=>some (.int 7)) (aV (fun _=>some (.int 7)) (fun _=>some []))))))
  (am (aE 3 (asO (nY C (rR C) (aB 1 (aB 2 (fun _=>some []))))))
  (am (aE 4 (ak (lr C) (aB 0 (aV (d1 bP (ay 1)) (fun _=>some [])))))
  (am (aE 5 (asO (asL (cB (aa 4)))))
  (am (aE 6 (ak (oM C) (aB 3 (aB 5 (fun _=>some [])))))
  (am (dIf (orT (uF 6) (orT (asB (d2 neD (ay 5) (ay 4))) (cI (asB (ak (rE C) (aB 4 (aB 6 (fun _=>some [])))))))) (bw (fun _=>some (.bl false))) dNx)
  (am (dIf (orT (cI (asB (ak (d_ C) (aV (ak (gp C) (aB 3 (aB 5 (fun _=>some [])))) (aB 6 (fun _=>some [])))))) (asB (d2 neD (ay 5) (ay 4)))) (bw (fun _=>some (.bl false))) dNx)
  (am (dIf (asB (d2 neD (ak (oM C) (aB 3 (aB 5 (fun _=>some [])))) (ay 6))) (bw (fun _=>some (.bl false))) dNx)
  (am (bB 7 (asL (cB (aa 6))))
  (am (bB 8 (fun ρ=>((gr (cb (gp C) (aB 3 (aB 7 (fun _=>some []))))) ρ).bind fun a=>((gr (cb (eY C) (aB 3 (aB 7 (fun _=>some []))))) ρ).bind fun b=>((gr (cb (iH C) (aB 3 (aB 7 (fun _=>some []))))) ρ).map fun c=>OD.lst2 [a,b,c]))
  (am (di 7 (fun _=>some (.int 99)))
  (am (dIf (c9 8 (asB (d2 neD (ay 8) (asO (asL (ai (getV 6) (ai (getV 6) (ai (asO (asL (ai (getV 6) aR))) aR)))))))) (bw (fun _=>some (.bl false))) dNx)
  (am (nj 8 0)
  (am (dIf (cI (asB (ak (d_ C) (aV (ak (gp C) (aB 3 (aV (asO (asL (cB (aa 6)))) (fun _=>some [])))) (aB 6 (fun _=>some [])))))) (bw (fun _=>some (.bl false))) dNx)
  (am (bB 9 (cb (u_ C) (aB 3 (fun _=>some []))))
  (am (di 9 (fun _=>some (.int 99)))
  (bw (ak (d_ C) (aV (ak (u_ C) (aB 3 (fun _=>some []))) (aV (ak (gp C) (aB 3 (aV (ak (gM C) (aV (asO (asL (cB (aa 1)))) (fun _=>some []))) (fun _=>some [])))) (fun _=>some [])))))))))))))))))))))
def xa(C:Addr):List DV->Option DV:=mOf 10 1 (g_q11 C)
theorem Br(T:Txt K mg t):FnOk P w K mg base CX0 8 t.f_q11 t.d_q11 ["_law_script"] (spD K (xa t.C)):=
 T.fn_q11.okD dS fun cdv A outer s H E hr=>(af (xK (nD (is:=[1,2]) rfl (cY (cS (i:=1) dS.nd rfl (.inl rfl)) (cY (cS (i:=2) dS.nd rfl (.inl rfl)) mY))) (ar (Ah T) (hr.mono (by decide)) rfl T.g_q27 T.fn_q27.kp T.bd_q27 (az 0 (pv 0) (aJ ae (aJ ae al))))) (af (aK (i:=3) dS.nd rfl (.inl rfl) (PDO.v (wa T.mkC (BC T) (hr.mono (by decide)) rfl T.mgC T.bd_q0 (az 1 (pv 1) (az 2 (pv 2) al))))) (af (aK (i:=4) dS.nd rfl (.inl rfl) (ar (zZ T) (hr.mono (by decide)) rfl T.g_q23 T.fn_q23.kp T.bd_q23 (az 0 (pv 0) (aJ (cu rfl T.b_len (aF 1 (pv 1))) al)))) (af (aK (i:=5) dS.nd rfl (.inl rfl) (PDO.v (dG rfl T.b_list (ag 4 (pv 4))))) (af (aK (i:=6) dS.nd rfl (.inl rfl) (ar (wA T) (hr.mono (by decide)) rfl T.g_q25 T.fn_q25.kp T.bd_q25 (az 3 (pv 3) (az 5 (pv 5) al)))) (af (bH (PDW.t (fj (xX 6 (pv 6)) (fj (iz hr.h64 (aF 5 (pv 5)) (aF 4 (pv 4))) (fC (cV (cx (ar (AU T) (hr.mono (by decide)) rfl T.g_q12 T.fn_q12.kp T.bd_q12 (az 4 (pv 4) (az 6 (pv 6) al))))))))) (aj (a_ fq)) aO) (af (bH (PDW.t (fj (cV (cx (ar (i8 T) (hr.mono (by decide)) rfl T.g_q20 T.fn_q20.kp T.bd_q20 (aJ (ar (ji T) (hr.mono (by decide)) rfl T.g_q34 T.fn_q34.kp T.bd_q34 (az 3 (pv 3) (az 5 (pv 5) al))) (az 6 (pv 6) al))))) (fC (iz hr.h64 (aF 5 (pv 5)) (aF 4 (pv 4)))))) (aj (a_ fq)) aO) (af (bH (iz hr.h64 (PDE.n (ar (wA T) (hr.mono (by decide)) rfl T.g_q25 T.fn_q25.kp T.bd_q25 (az 3 (pv 3) (az 5 (pv 5) al)))) (aF 6 (pv 6))) (aj (a_ fq)) aO) (af (bO (i:=7) dS.nd rfl (.inl rfl) (dG rfl T.b_list (ag 6 (pv 6)))) (af (bO (i:=8) dS.nd rfl (.inl rfl) (ue (kC (bY (ji T) (hr.mono (by decide)) rfl T.g_q34 T.fn_q34.kp T.bd_q34 (az 3 (pv 3) (az 7 (pv 7) al)))) (kC (bY (o0 T) (hr.mono (by decide)) rfl T.g_q3 T.fn_q3.kp T.bd_q3 (az 3 (pv 3) (az 7 (pv 7) al)))) (kC (bY (qS T) (hr.mono (by decide)) rfl T.g_q33 T.fn_q33.kp T.bd_q33 (az 3 (pv 3) (az 7 (pv 7) al)))))) (af (bJ 7 (pv 7) ae) (af (bH (gz 8 (iz hr.h64 (aF 8 (pv 8)) (PDE.n (PDO.v (cn (ah (ap 6 (pv 6)) (ah (ap 6 (pv 6)) (ah (PDO.v (cn (ah (ap 6 (pv 6)) aw))) aw)))))))) (aj (a_ fq)) aO) (af (vd 8 0 (pv 8)) (af (bH (cV (cx (ar (i8 T) (hr.mono (by decide)) rfl T.g_q20 T.fn_q20.kp T.bd_q20 (aJ (ar (ji T) (hr.mono (by decide)) rfl T.g_q34 T.fn_q34.kp T.bd_q34 (az 3 (pv 3) (aJ (PDO.v (dG rfl T.b_list (ag 6 (pv 6)))) al))) (az 6 (pv 6) al))))) (aj (a_ fq)) aO) (af (bO (i:=9) dS.nd rfl (.inl rfl) (bY (zD T) (hr.mono (by decide)) rfl T.g_q4 T.fn_q4.kp T.bd_q4 (az 3 (pv 3) al))) (af (bJ 9 (pv 9) ae) (aj (a_ (ar (i8 T) (hr.mono (by decide)) rfl T.g_q20 T.fn_q20.kp T.bd_q20 (aJ (ar (zD T) (hr.mono (by decide)) rfl T.g_q4 T.fn_q4.kp T.bd_q4 (az 3 (pv 3) al)) (aJ (ar (ji T) (hr.mono (by decide)) rfl T.g_q34 T.fn_q34.kp T.bd_q34 (az 3 (pv 3) (aJ (ar (qI T) (hr.mono (by decide)) rfl T.g_q31 T.fn_q31.kp T.bd_q31 (aJ (PDO.v (dG rfl T.b_list (ag 1 (pv 1)))) al)) al))) al)))))))))))))))))))))
end
theorem eT{st:Dq}{body:Dw}(I:Nat->DF->Prop):∀(ds:List D) (k:Nat) (ρ:DF),I k ρ->
  (∀j d ρ,ds[j]?=some d->I (k+j) ρ->∃ρ1,st d ρ=some ρ1/\∃ρ',body ρ1=some (.nx ρ')/\I (k+j+1) ρ')->∃ρ',gG st body ds ρ=some (.nx ρ')/\I (k+ds.length) ρ'
 |[],k,ρ,h,_=>⟨ρ,rfl,h⟩
 |d::ds,k,ρ,h,hs=>by
  obtain⟨ρ1,e1,ρ',e2,h'⟩:=hs 0 d ρ rfl h;obtain⟨ρ2,e3,h3⟩:=eT I ds (k+1) ρ' h' fun j d' ρ0 hj hI=>by
   have:=hs (j+1) d' ρ0 (by simpa using hj) (by rw[<-Nat.add_assoc,XT];exact hI)
   rwa [show k+(j+1)+1=k+1+j+1 by omega]at this
  refine⟨ρ2,?_,by rw[Yy,show k+(ds.length+1)=k+1+ds.length by omega];exact h3⟩;unfold gG;rw[e1];simp only[e2];exact e3
theorem d8{st:Dq}{body:Dw}(I:DF->Prop){ds:List D}{ρ:DF}(h:I ρ)
  (hs:∀d∈ds,∀ρ,I ρ->∃ρ1,st d ρ=some ρ1/\∃ρ',body ρ1=some (.nx ρ')/\I ρ'):∃ρ',gG st body ds ρ=some (.nx ρ')/\I ρ':=
 eT (fun _=>I) ds 0 ρ h fun j d ρ hj hI=>hs d (YA hj) ρ hI
theorem bT{st:Dq}{c:Dk}{e:Dd}{ρ:DF}{α:Type}(f:α->D)(F:α->D):∀xs:List α,(∀x∈xs,∃ρ1,st (f x) ρ=some ρ1/\c ρ1=some true/\e ρ1=some (F x))->b7 st c e ρ (xs.map f)=some (xs.map F)
 |[],_=>rfl
 |x::xs,h=>by
  obtain⟨ρ1,h1,h2,h3⟩:=h x Yd;rw[YH];unfold b7;rw[h1,Ya,h2,Ya,if_pos rfl,h3,Ya,bT f F xs fun y hy=>h y (Yc _ hy)];rfl
theorem k8{st:Dq}{c:Dk}{e:Dd}{ρ:DF}{α:Type}(f:α->D)(G:α->Prop):∀ds:List D,(∀d∈ds,∃ρ1,st d ρ=some ρ1/\c ρ1=some true/\∃y,e ρ1=some (f y)/\G y)->∃ys:List α,b7 st c e ρ ds=some (ys.map f)/\ys.length=ds.length/\∀y∈ys,G y
 |[],_=>⟨[],rfl,rfl,fun _ h=>by cases h⟩
 |x::xs,h=>by
  obtain⟨ρ1,h1,h2,y,h3,h4⟩:=h x Yd;obtain⟨ys,q1,q2,q3⟩:=k8 f G xs fun y hy=>h y (Yc _ hy)
  refine⟨y::ys,?_,by simp[q2],fun z hz=>?_⟩
  ·unfold b7;rw[h1,Ya,h2,Ya,if_pos rfl,h3,Ya,q1];rfl
  ·rcases Yv.mp hz with rfl|hz
   ·exact h4
   ·exact q3 z hz
theorem mU(i j:Int):eqd (.int i) (.int j)=decide (i=j):=by
 have h:=cq (.int i) (.int j) rfl;by_cases e:i=j
 ·rw[YT e,h,e]
 ·rw[YB e];cases q:eqd (.int i) (.int j)with
  |false=>rfl
  |true=>exact absurd (by simpa using h.mp q) e
theorem zY(i j:Bool):eqd (.bl i) (.bl j)=decide (i=j):=by
 have h:=cq (.bl i) (.bl j) rfl;by_cases e:i=j
 ·rw[YT e,h,e]
 ·rw[YB e];cases q:eqd (.bl i) (.bl j)with
  |false=>rfl
  |true=>exact absurd (by simpa using h.mp q) e
@[simp] theorem yJ(i j:Int):eqD (.int i) (.int j)=some (.bl (decide (i=j))):=by unfold eqD;rw[mU];rfl
@[simp] theorem Ek(i j:Bool):eqD (.bl i) (.bl j)=some (.bl (decide (i=j))):=by unfold eqD;rw[zY];rfl
@[simp] theorem si(i j:Int):neD (.int i) (.int j)=some (.bl (!decide (i=j))):=by unfold neD;rw[mU];rfl
@[simp] theorem Dh(i j:Int):ltd (.int i) (.int j)=some (.bl (decide (i<j))):=rfl
@[simp] theorem Ds(i j:Int):gtI (.int i) (.int j)=some (.bl (decide (j<i))):=rfl
@[simp] theorem Dt(i j:Int):leA (.int i) (.int j)=some (.bl (decide (i<=j))):=rfl
@[simp] theorem DB(i j:Int):ltI (.int i) (.int j)=some (.bl (decide (i<j))):=rfl
@[simp] theorem Dc(i j:Int):aP (.int i) (.int j)=some (.int (i+j)):=rfl
@[simp] theorem vc(i j:Int):da (.int i) (.int j)=some (.int (i-j)):=rfl
theorem fz(i j:Int)(h:(-(2^64)<i/\i<2^64)\/(-(2^64)<j/\j<2^64)):fL (.int i) (.int j)=some (.int (i*j)):=if_pos (YT h)
theorem aU(i j:Int)(h:0<j):aN (.int i) (.int j)=some (.int (i%j)):=if_pos (YT h)
theorem bp(i j:Int)(h:0<j/\j<1073741824):aS (.int i) (.int j)=some (.int (i/j)):=if_pos (YT h)
@[simp] theorem DG:kQ (.int 10) (.int 30)=some (.int 1000000000000000000000000000000):=rfl
section
variable{f fa fb fc:Dd}{fo:Do}{fl:Dl}{fv:Dv}{c c':Dk}{g h:Dw}{ρ:DF}{i j:Nat}{m:Dm}
@[simp] theorem gI:am g h ρ=match g ρ with|some (.nx ρ')=>h ρ'|r=>r:=rfl
@[simp] theorem eJ:aE i f ρ=(f ρ).map fun d=>.nx (ρ.set i (some (.v d))):=rfl
@[simp] theorem eA:bB i fo ρ=(fo ρ).map fun o=>.nx (ρ.set i (some (.own o none))):=rfl
@[simp] theorem DC:bw f ρ=(f ρ).map fun d=>.rt (.v d) ρ:=rfl
@[simp] theorem gC:db fo ρ=(fo ρ).map fun o=>.rt (.own o none) ρ:=rfl
@[simp] theorem Cq:e6 i ρ=match ρ[i]? with|some (some x)=>some (.rt x ρ)|_=>none:=rfl
@[simp] theorem fw:dIf c g h ρ=(c ρ).bind fun b=>if b=true then g ρ else h ρ:=rfl
@[simp] theorem DI:dNx ρ=some (.nx ρ):=rfl
@[simp] theorem Cs:ro f ρ=(f ρ).map fun _=>.nx ρ:=rfl
@[simp] theorem ww{F:D->Option D}:d1 F fa ρ=(fa ρ).bind F:=rfl
@[simp] theorem iy{F:Dy}:d2 F fa fb ρ=(fa ρ).bind fun x=>(fb ρ).bind fun y=>F x y:=rfl
@[simp] theorem Dx:getV i ρ=match ρ[i]? with|some (some (.v d))=>some d|_=>none:=rfl
@[simp] theorem DA:aa i ρ=match ρ[i]? with|some (some (.v d))=>some d|some (some (.own o _))=>if o.flat=true then some o.d else none|some (some (.bor o))=>if o.flat=true then some o.d else none|_=>none:=rfl
@[simp] theorem Dj:ay i ρ=match ρ[i]? with|some (some (.v d))=>some d|some (some (.own o _))=>some o.d|some (some (.bor o))=>some o.d|_=>none:=rfl
@[simp] theorem zw:aB i fv ρ=match ρ[i]? with|some (some (.own o _))=>(fv ρ).map fun xs=>.bor o::xs|some (some (.bor o))=>(fv ρ).map fun xs=>.bor o::xs|some (some (.v d))=>(fv ρ).map fun xs=>.v d::xs|_=>none:=rfl
@[simp] theorem pH:aV f fv ρ=(f ρ).bind fun d=>(fv ρ).map fun xs=>.v d::xs:=rfl
@[simp] theorem gP:ak m fv ρ=(fv ρ).bind fun xs=>(m xs).bind dvD:=rfl
@[simp] theorem jv:cb m fv ρ=(fv ρ).bind fun xs=>(m xs).bind dvO:=rfl
@[simp] theorem gR:asB f ρ=match f ρ with|some (.bl b)=>some b|_=>none:=rfl
@[simp] theorem c_:asL fl ρ=(fl ρ).map .lst:=rfl
@[simp] theorem fX:asO fo ρ=(fo ρ).map OD.d:=rfl
@[simp] theorem Es:asT fl ρ=(fl ρ).map .tup:=rfl
@[simp] theorem C3:ai f fl ρ=(f ρ).bind fun d=>(fl ρ).map fun r=>d::r:=rfl
@[simp] theorem DH:aR ρ=some []:=rfl
@[simp] theorem nR:cI c ρ=(c ρ).map fun b=>!b:=rfl
@[simp] theorem Dn:bz ρ=some true:=rfl
@[simp] theorem yt{d:D}:setV i d ρ=some (ρ.set i (some (.v d))):=rfl
@[simp] theorem D2:ifV c f fa ρ=(c ρ).bind fun b=>if b=true then f ρ else fa ρ:=rfl
@[simp] theorem lC:cB f ρ=(f ρ).bind cG:=rfl
theorem gm:lY f ρ=(f ρ).bind fun d=>(cG d).bind fun ds=>if bA ds=true then some (aQ ds)else none:=rfl
theorem sB{it:Dl}{st:Dq}:dD it st g ρ=(it ρ).bind fun ds=>gG st g ds ρ:=rfl
@[simp] theorem Di:u4 i g ρ=match ρ[i]? with|some (some (.own o none))=>g (ρ.set i (some (.v o.d)))|some (some (.v d))=>g ρ|_=>none:=rfl
theorem bE{own:Nat}{ix:List Nat}{it:Dl}{st:Dq}{e:Dd}:aW own ix it st c e ρ=(it ρ).bind fun ds=>if ds.length<=16777216 then b7 st c e (fJ own ix ρ) ds else none:=rfl
@[simp] theorem DD:eX c c' ρ=(c ρ).bind fun b=>if b=true then c' ρ else some false:=rfl
@[simp] theorem nO:orT c c' ρ=(c ρ).bind fun b=>if b=true then some true else c' ρ:=rfl
@[simp] theorem Dp:nz f fa ρ=match f ρ with|some (.bl true)=>fa ρ|some (.bl false)=>some (.bl false)|_=>none:=rfl
@[simp] theorem D6{F G:Dy}:chD F G fa fb fc ρ=(fa ρ).bind fun x=>(fb ρ).bind fun y=>match F x y with|some (.bl true)=>(fc ρ).bind fun z=>G y z|some (.bl false)=>some (.bl false)|_=>none:=rfl
@[simp] theorem Cl:fP f ρ=match f ρ with|some (.lst ds)=>some ds|_=>none:=rfl
@[simp] theorem CN:cf i ρ=match ρ[i]? with|some (some (.bor (.lst ds)))=>some ds|some (some (.v (.lst ds)))=>some ds|_=>none:=rfl
theorem ya:cg f ρ=match f ρ with|some (.int j)=>if -(2^62)<=j/\j<2^62 then some (cz 0 j.toNat)else none|_=>none:=rfl
theorem AA{b b':DF->Option (Option Int)}:slL f b b' ρ=match f ρ with|some (.lst xs)=>(b ρ).bind fun l=>(b' ρ).map fun h=>gK xs l h|_=>none:=rfl
@[simp] theorem Du:di i f ρ=match ρ[i]? with|some (some (.own (.lst ds) t))=>(f ρ).bind fun d=>if ds.length<16777216 then some (.nx (ρ.set i (some (.own (.lst (ds++[d])) t))))else none|_=>none:=rfl
@[simp] theorem wL{is:List Nat}:rV is f ρ=(f ρ).bind fun d=>(m_ is d ρ).map .nx:=rfl
@[simp] theorem Ey:bI f ρ=match f ρ with|some (.int i)=>some (some i)|_=>none:=rfl
@[simp] theorem D_:bNo ρ=some none:=rfl
end
@[simp] theorem EI{ds:List D}:(OD.lst ds).d=.lst ds:=rfl
@[simp] theorem EB{ds:List (List Key×D)}:(OD.dT ds).d=.dT ds:=rfl
@[simp] theorem ER{ds:List (Key×D)}:(OD.dK ds).d=.dK ds:=rfl
@[simp] theorem EG{C:Addr}{ds:List (Str×D)}:(OD.ins C ds).d=.ins C ds:=rfl
@[simp] theorem EC{ds:List D}:(OD.lst ds).flat=true:=rfl
@[simp] theorem EQ{ds:List (List Key×D)}:(OD.dT ds).flat=true:=rfl
@[simp] theorem ED{ds:List (Key×D)}:(OD.dK ds).flat=true:=rfl
@[simp] theorem EN{C:Addr}{ds:List (Str×D)}:(OD.ins C ds).flat=true:=rfl
@[simp] theorem EE{d:D}:dvD (.v d)=some d:=rfl
@[simp] theorem EO{o:OD}{t:Option Addr}:dvD (.own o t)=some o.d:=rfl
@[simp] theorem EL{o:OD}{t:Option Addr}:dvO (.own o t)=some o:=rfl
@[simp] theorem Ez{x:DV}{ρ:DF}:dC (some (.rt x ρ))=some x:=rfl
@[simp] theorem EH{ρ:DF}:dC (some (.nx ρ))=some (.v .non):=rfl
@[simp] theorem EJ{d:D}:ua (some (.v d))=some (.v d):=rfl
@[simp] theorem EF{o:OD}{t:Option Addr}:ua (some (.own o t))=some (.bor o):=rfl
@[simp] theorem EA{o:OD}:ua (some (.bor o))=some (.bor o):=rfl
@[simp] theorem DE{own:Nat}{ix:List Nat}{ρ:DF}:fJ own ix ρ=List.replicate own none++ix.map fun j=>ua (ρ[j]?).join:=rfl
@[simp] theorem DL{ds:List D}:cG (.lst ds)=some ds:=rfl
@[simp] theorem dF{ds:List D}:cG (.tup ds)=some ds:=rfl
@[simp] theorem EK{ds:List D}:bP (.lst ds)=some (.int ds.length):=rfl
@[simp] theorem EM{ds:List D}:bP (.tup ds)=some (.int ds.length):=rfl
theorem ix1{ds:List D}{i:Int}:ixD (.lst ds) (.int i)=atI ds i:=rfl
theorem ix2{ds:List D}{i:Int}:ixD (.tup ds) (.int i)=atI ds i:=rfl
@[simp] theorem Eh{n p:Nat}{g:Dw}{xs:List DV}:mOf n p g xs=if xs.length=p then dC (g (aM n p xs))else none:=rfl
@[simp] theorem BA{n p:Nat}{xs:List DV}:aM n p xs=xs.map some++List.replicate (n-p) none:=rfl
theorem Bk{x:Int}(h:1<=x/\x<8):x=1\/x=2\/x=3\/x=4\/x=5\/x=6\/x=7:=by
 obtain⟨m,hm⟩:=ZT (show 0<=x-1 by omega);have key:∀m:Fin 7,((m:Nat):Int)+1=1\/((m:Nat):Int)+1=2\/((m:Nat):Int)+1=3\/((m:Nat):Int)+1=4\/((m:Nat):Int)+1=5\/((m:Nat):Int)+1=6\/((m:Nat):Int)+1=7:=by decide
 have:=key ⟨m,by omega⟩
 rwa [show((m:Nat):Int)+1=x by omega]at this
def okW(x:Str):Prop:=1<=x.cps.size/\x.cps.size<=3/\∀c∈x.cps.toList,97<=c/\c<=122
theorem lO{α β:Type}(f:α->β):∀(l:List α) (k:Nat),(l.map f).eraseIdx k=(l.eraseIdx k).map f
 |[],_=>rfl
 |_::_,0=>rfl
 |x::l,k+1=>by rw[YH,XW,XW,YH,lO f l k]
theorem uS{n:Nat}{k:Int}(h0:0<=k)(h1:k<n)(hn:n<1000):rA n (.int k)=some k.toNat:=by
 show(if -(2^63)<=k/\k<2^63 then seqIndex? k n else none)=_;rw[if_pos (by omega)];unfold seqIndex?;simp only;have e:¬k<0:=by omega
 simp[e,h0,h1]
theorem fu{α:Type}:∀(l:List α) (k:Nat) (h:k<l.length),(l[k]::l.eraseIdx k).Perm l
 |x::l,0,_=>.refl _
 |x::l,k+1,h=>by
  have:=fu l k (by simpa using h);rw[List.getElem_cons_succ,XW];exact(List.Perm.swap _ _ _).trans (this.cons x)
def bq(n:Int):List Int:=(List.range n.toNat).map fun i:Nat=>(i:Int)
theorem bj(n:Int):(bq n).length=n.toNat:=by simp[bq]
theorem cX{n i:Int}:i∈bq n↔0<=i/\i<n:=by
 unfold bq;rw[Ym];constructor
 ·rintro⟨k,hk,rfl⟩;have:=YJ.mp hk;omega
 ·rintro⟨h0,h1⟩;exact⟨i.toNat,YJ.mpr (by omega),by omega⟩
theorem qo(n:Int):(bq n).Nodup:=by unfold bq;rw[List.Nodup,Va];exact(XH (n:=n.toNat)).imp fun h e=>h (by omega)
theorem lZ(n:Int):cz 0 n.toNat=(bq n).map D.int:=by unfold cz bq;simp
def dP(p:Int×Int):D:=.tup [.int p.1,.int p.2]
def okP(n:Int)(p:Int×Int):Prop:=0<=p.1/\p.1<n/\0<=p.2/\p.2<n/\p.1≠p.2
theorem sy{n:Nat}{g:Dw}{a:DV}:mOf n 1 g [a]=dC (g (aM n 1 [a])):=rfl
theorem fN{n:Nat}{g:Dw}{a b:DV}:mOf n 2 g [a,b]=dC (g (aM n 2 [a,b])):=rfl
theorem rS{n:Nat}{g:Dw}{a b c:DV}:mOf n 3 g [a,b,c]=dC (g (aM n 3 [a,b,c])):=rfl
theorem rn{n:Int}{j:Nat}{d:D}(h:((bq n).map D.int)[j]?=some d):d=.int (j:Int):=by
 unfold bq at h;rw[Yu,Yu]at h;cases q:(List.range n.toNat)[j]? with
 |none=>rw[q]at h;cases h
 |some k=>
  rw[q]at h;obtain⟨h1,h2⟩:=Yk.mp q;rw[List.getElem_range]at h2;subst h2;cases h;rfl
abbrev T4:=Int×Int×Int×Bool
def dT4(t:T4):D:=.tup [.int t.1,.int t.2.1,.int t.2.2.1,.bl t.2.2.2]
def okT(n:Int)(t:T4):Prop:=0<=t.1/\t.1<n/\0<=t.2.1/\t.2.1<n/\t.1≠t.2.1/\0<=t.2.2.1/\t.2.2.1<1000000000000000000000000000000
theorem jx{α:Type}{l:List α}{i:Int}(h0:0<=i)(h1:i<l.length):atI l i=l[i.toNat]?:=by unfold atI ixN;rw[if_pos h0,if_pos h1];rfl
theorem fG{α β:Type}{l:List α}(f:α->β){i:Int}(h0:0<=i)(h1:i<l.length):∃x,l[i.toNat]?=some x/\atI (l.map f) i=some (f x):=by
 have h:i.toNat<l.length:=by omega
 refine⟨l[i.toNat],Yi h,?_⟩;rw[jx h0 (by rw[Ye];exact h1),Yu,Yi h];rfl
theorem e7{α:Type}(l:List α)(x:α):atI (l++[x]) (-1)=some x:=by
 unfold atI ixN;rw[if_neg (by decide),if_pos (by rw[Yt,YQ];omega),Yt,YQ];have:(-1+((l.length+1:Nat):Int)).toNat=l.length:=by omega
 rw[this,Ya,Zp (Yl _),Nat.sub_self];rfl
theorem rH{n:Int}{out:List Int}(hn:1<=n)(p:out.Perm (bq n)):(out.length:Int)=n/\out.Nodup/\∀x∈out,0<=x/\x<n:=
 ⟨by rw[p.length_eq,bj];omega,p.nodup_iff.mpr (qo n),fun x hx=>cX.mp (p.mem_iff.mp hx)⟩
theorem BD{out:List Int}(h:out.Nodup){i j:Nat}{x y:Int}(hi:out[i]?=some x)(hj:out[j]?=some y)(hij:i≠j):x≠y:=by intro e;subst e;obtain⟨h1,h1'⟩:=Yk.mp hi;obtain⟨h2,h2'⟩:=Yk.mp hj;exact hij ((List.getElem_inj h).mp (h1'.trans h2'.symm))
theorem cU{f:Dd}{ρ:DF}{n:Int}(h:f ρ=some (.int n))(hn:0<=n/\n<=1000):cg f ρ=some ((bq n).map .int):=by
 have hb:-(2^62)<=n/\n<2^62:=by omega
 rw[ya,h];simp only;rw[if_pos hb,lZ]
theorem ao{g h:Dw}{ρ ρ':DF}(e:g ρ=some (.nx ρ')):am g h ρ=h ρ':=by rw[gI,e]
theorem ss{g h:Dw}{ρ ρ':DF}{x:DV}(e:g ρ=some (.rt x ρ')):am g h ρ=some (.rt x ρ'):=by rw[gI,e]
def lf(t:T4):T4:=if t.2.2.2=true\/t.1<t.2.1 then t else(t.2.1,t.1,t.2.2.1,t.2.2.2)
theorem B7{n:Int}{t:T4}(h:okT n t):okT n (lf t):=by
 unfold lf;split
 ·exact h
 ·obtain⟨a,b,c,d,e,f⟩:=h;exact⟨c,d,a,b,fun q=>e q.symm,f⟩
theorem sZ(ts:List T4)(h:ts.length<64):bA (ts.map dT4)=true:=by
 unfold bA;simp only[Yo,YE,Yh,Ye];refine⟨⟨⟨⟨h,?_⟩,?_⟩,?_⟩,?_⟩
 ·intro x hx;obtain⟨t,_,rfl⟩:=Ym.mp hx;rfl
 ·intro x hx y hy;obtain⟨t,_,rfl⟩:=Ym.mp hx;obtain⟨u,_,rfl⟩:=Ym.mp hy;rfl
 ·intro x hx;obtain⟨t,_,rfl⟩:=Ym.mp hx;rfl
 ·intro x hx;obtain⟨t,_,rfl⟩:=Ym.mp hx;rfl
theorem gy{α:Type}(f:α->D)(g:D->α)(hg:∀a,g (f a)=a){l:List D}{ts:List α}(h:l.Perm (ts.map f)):∃us:List α,l=us.map f/\us.Perm ts:=by
 refine⟨l.map g,?_,?_⟩
 ·rw[Zw]
  conv=>lhs;rw[<-XL l]
  refine List.map_congr_left fun x hx=>?_;obtain⟨t,_,rfl⟩:=Ym.mp (h.mem_iff.mp hx);show _=f (g (f t));rw[hg];rfl
 ·have:=h.map g;rw[Zw,show g ∘ f=id from funext hg,XL]at this;exact this
def Eo:D->T4
 |.tup [.int a,.int b,.int k,.bl o]=>(a,b,k,o)
 |_=>(0,0,0,false)
def unI:D->Int
 |.int a=>a
 |_=>0
theorem xO(ts:List T4):∃us:List T4,aQ (ts.map dT4)=us.map dT4/\us.Perm ts:=gy dT4 Eo (fun _=>rfl) (bn _)
theorem jW{κ:Type}[DecidableEq κ](k k':κ)(v:D):∀kvs:List (κ×D),dQ (fK kvs k v) k'=if k=k' then some v else dQ kvs k':=by
 intro kvs;unfold fK;split
 ·rename_i h;induction kvs with
  |nil=>simp at h
  |cons x r ih=>
   obtain⟨q,w⟩:=x;rw[YH];by_cases e:q=k
   ·subst e;by_cases e2:q=k'
    ·simp[bZ,e2]
    ·have hr:∀r:List (κ×D),dQ (r.map fun kv=>if kv.1=q then(kv.1,v)else kv) k'=dQ r k':=by
      intro r;induction r with
      |nil=>rfl
      |cons y r ih=>
       obtain⟨a,b⟩:=y;rw[YH];by_cases e3:a=q
       ·subst e3;simp[bZ,e2,ih]
       ·simp[bZ,e3,ih]
     simp[bZ,e2,hr]
   ·have h':(r.any fun kv=>decide (kv.1=k))=true:=by simpa[e]using h
    have:=ih h';by_cases e2:q=k'
    ·subst e2;simp[bZ,e,show ¬k=q from fun z=>e z.symm]
    ·simp only[e,Vi,bZ,e2];exact this
 ·rename_i h;induction kvs with
  |nil=>simp[bZ,dQ]
  |cons x r ih=>
   obtain⟨q,w⟩:=x;have hq:¬q=k:=by intro z;exact h (by simp[z])
   have hr:¬(r.any fun kv=>decide (kv.1=k))=true:=fun z=>h (by simp only[XQ,z,Bool.or_true])
   have:=ih hr;rw[List.cons_append,bZ,bZ,this];by_cases e:k=k'
   ·subst e;simp[hq]
   ·simp[e]
theorem n6{κ:Type}[DecidableEq κ](k:κ)(v:D)(kvs:List (κ×D)):(fK kvs k v).length<=kvs.length+1:=by
 unfold fK;split
 ·simp
 ·simp
theorem pK{α β:Type}(f:α->β)(l:List α)(a b:Option Int):gK (l.map f) a b=(gK l a b).map f:=by unfold gK;rw[Ye,List.map_take,List.map_drop]
def okK(n:Int)(ks:List Str):Prop:=(ks.length:Int)=n/\∀k∈ks,okW k
def okS(n:Int)(ts:List T4):Prop:=ts.length<=12/\∀t∈ts,okT n t
theorem e8{c:Dk}{ρ:DF}(q:Int->Bool):∀xs:List Int,(∀x∈xs,c (ρ.set 0 (some (.v (.int x))))=some (q x))->0<ρ.length->b7 (setV 0) c (getV 0) ρ (xs.map .int)=some ((xs.filter q).map .int)
 |[],_,_=>rfl
 |x::xs,h,hl=>by
  have ih:=e8 q xs (fun y hy=>h y (Yc _ hy)) hl;have hx:=h x Yd;rw[YH];unfold b7;rw[yt,Ya,hx,Ya,List.filter_cons];cases q x with
  |false=>rw[if_neg (by decide),if_neg (by decide),ih]
  |true=>
   have hg:getV 0 (ρ.set 0 (some (.v (.int x))))=some (.int x):=by unfold getV;rw[YZ hl]
   rw[if_pos rfl,if_pos rfl,hg,Ya,ih];rfl
theorem x_{α:Type}(l:List α){k:Int}(h:0<=k):gK l none (some k)=l.take k.toNat:=by unfold gK HT.sIx;simp only[List.drop_zero,Nat.sub_zero];rw[if_neg (by omega),<-List.take_take,XI]
theorem xc(xs ys:List D)(h:xs.length+ys.length<=16777216):aP (.lst xs) (.lst ys)=some (.lst (xs++ys)):=if_pos h
theorem cF{it:Dl}{st:Dq}{g:Dw}{ρ:DF}{ds:List D}{r:RES}(h:it ρ=some ds)(e:gG st g ds ρ=some r):dD it st g ρ=some r:=by rw[sB,h];exact e
theorem jF(C:Addr)(x:Str)(h:okW x):vt C [.v (.str x)]=some (.v (.bl true)):=by
 obtain⟨h1,h3,hc⟩:=h;have e1:b7 (setV 0) bz (chD leA leA (fun _=>some (.str "a")) (ay 0) (fun _=>some (.str "z"))) [none] (L2.signs x)=some (x.cps.toList.map fun _=>D.bl true):=by
  unfold L2.signs;refine bT (fun c=>D.str ⟨#[c]⟩) (fun _=>D.bl true) _ fun c hm=>?_;obtain⟨c1,c2⟩:=hc c hm;refine⟨[some (.v (.str ⟨#[c]⟩))],rfl,rfl,?_⟩;have l1:leA (.str "a") (.str ⟨#[c]⟩)=some (.bl true):=by
   show some (D.bl (!decide ([c] < [97])))=_;have:¬([c] < [97]):=fun h=>by rcases List.cons_lt_cons_iff.mp h with h|⟨_,h⟩;omega;exact absurd h (List.not_lt_nil _)
   rw[YB this];rfl
  have l2:leA (.str ⟨#[c]⟩) (.str "z")=some (.bl true):=by
   show some (D.bl (!decide ([122] < [c])))=_;have:¬([122] < [c]):=fun h=>by rcases List.cons_lt_cons_iff.mp h with h|⟨_,h⟩;omega;exact absurd h (List.not_lt_nil _)
   rw[YB this];rfl
  simp[l1,l2]
 have hsz:(L2.signs x).length<=16777216:=by unfold L2.signs;rw[Ye,YC];omega
 have e2:vU (.lst (x.cps.toList.map fun _=>D.bl true))=some (.bl true):=by
  have a1:((x.cps.toList.map fun _=>D.bl true).all oq)=true:=by simp[oq]
  have a2:((x.cps.toList.map fun _=>D.bl true).all trD)=true:=by simp[trD]
  show(if((x.cps.toList.map fun _=>D.bl true).all oq)=true then some (D.bl ((x.cps.toList.map fun _=>D.bl true).all trD))else none)=_;rw[if_pos a1,a2]
 have e3:bP (.str x)=some (.int (x.cps.size:Int)):=if_pos (show x.cps.size<=16777216 by omega);have d1':aW 1 [] (oV (getV 0)) (setV 0) bz (chD leA leA (fun _=>some (.str "a")) (ay 0) (fun _=>some (.str "z"))) [some (.v (.str x)),none]=some (x.cps.toList.map fun _=>D.bl true):=by have:oV (getV 0) [some (.v (.str x)),none]=some (L2.signs x):=rfl;rw[bE,this,Ya,if_pos hsz];exact e1
 unfold vt g_q5;have g1:(1:Int)<=(x.cps.size:Int):=by omega
 have g2:(x.cps.size:Int)<=3:=by omega
 generalize (chD leA leA (fun _=>some (.str "a")) (ay 0) (fun _=>some (.str "z")))=E' at d1' ⊢;generalize (x.cps.toList.map fun _=>D.bl true)=L at *;simp[d1',e2,e3,g1,g2]
theorem At(C:Addr)(t:T4)(n:Int)(h:okT n t):t9 C [.v (dT4 t),.v (.int n)]=some (.v (.bl true)):=by
 obtain⟨a,b,k,o⟩:=t;obtain⟨a0,a1,b0,b1,ab,k0,k1⟩:=h;simp only at a0 a1 b0 b1 ab k0 k1;have ea:atI [D.int a,.int b,.int k,.bl o] 0=some (.int a):=rfl;have eb:atI [D.int a,.int b,.int k,.bl o] 1=some (.int b):=rfl;have ek:atI [D.int a,.int b,.int k,.bl o] 2=some (.int k):=rfl;have hk:vO C [.v (.int k)]=some (.v (.bl true)):=by simp[vO,g_q7,k0,k1]
 unfold t9 g_q6;generalize vO C=M at hk ⊢;simp[dT4,ix2,ea,eb,ek,a0,a1,b0,b1,ab,hk]
theorem t4(C:Addr)(ks:List Str)(ts:List T4)(n:Int)(hn:1<=n/\n<=7)(hk:okK n ks)(hs:okS n ts):oH C [.v (.lst (ks.map .str)),.v (.lst (ts.map dT4))]=some (.v .non):=by
 have hP:=jF C;have hT:∀t,okT n t->t9 C [.v (dT4 t),.v (.int n)]=some (.v (.bl true)):=fun t h=>At C t n h
 unfold oH g_q32;generalize vt C=P at hP ⊢;generalize t9 C=T at hT ⊢;have hkl:(ks.length:Int)=n:=hk.1;have g1:1<=n:=hn.1;have g2:n<=7:=hn.2;have g3:¬(12:Int)<(ts.length:Int):=by have:=hs.1;omega
 have q1:∀G,(am (dIf (cI (asB (chD leA leA (fun _=>some (.int 1)) (d1 bP (ay 0)) (fun _=>some (.int 7))))) gQ dNx) (am (dIf (asB (d2 gtI (d1 bP (ay 1)) (fun _=>some (.int 12)))) gQ dNx) G)) (aM 4 2 [.v (.lst (ks.map .str)),.v (.lst (ts.map dT4))])=G [some (.v (.lst (ks.map .str))),some (.v (.lst (ts.map dT4))),none,none]:=by intro G;simp[hkl,g1,g2,g3]
 obtain⟨z1,e1,y2,rfl⟩:=d8 (st:=setV 2) (body:=(dIf (cI (asB (ak P (aV (getV 2) (fun _=>some []))))) gQ dNx)) (fun ρ=>∃x2,ρ=[some (.v (.lst (ks.map .str))),some (.v (.lst (ts.map dT4))),x2,none]) (ds:=ks.map .str) (ρ:=[some (.v (.lst (ks.map .str))),some (.v (.lst (ts.map dT4))),none,none]) ⟨_,rfl⟩ (by
  rintro d hd _ ⟨x2,rfl⟩;obtain⟨k,hk',rfl⟩:=Ym.mp hd;have:=hP k (hk.2 k hk');refine⟨[some (.v (.lst (ks.map .str))),some (.v (.lst (ts.map dT4))),some (.v (.str k)),none],rfl,[some (.v (.lst (ks.map .str))),some (.v (.lst (ts.map dT4))),some (.v (.str k)),none],?_,_,rfl⟩;simp[this])
 obtain⟨z2,e2,y3,rfl⟩:=d8 (st:=setV 3) (body:=(dIf (cI (asB (ak T (aB 3 (aV (d1 bP (ay 0)) (fun _=>some [])))))) gQ dNx)) (fun ρ=>∃x3,ρ=[some (.v (.lst (ks.map .str))),some (.v (.lst (ts.map dT4))),y2,x3]) (ds:=ts.map dT4) (ρ:=[some (.v (.lst (ks.map .str))),some (.v (.lst (ts.map dT4))),y2,none]) ⟨_,rfl⟩ (by
  rintro d hd _ ⟨x2,rfl⟩;obtain⟨k,hk',rfl⟩:=Ym.mp hd;have:=hT k (hs.2 k hk');refine⟨[some (.v (.lst (ks.map .str))),some (.v (.lst (ts.map dT4))),y2,some (.v (dT4 k))],rfl,[some (.v (.lst (ks.map .str))),some (.v (.lst (ts.map dT4))),y2,some (.v (dT4 k))],?_,_,rfl⟩;simp[hkl,this])
 rw[fN,q1,ao (cF (ds:=ks.map D.str) rfl e1),cF (ds:=ts.map dT4) rfl e2];rfl
theorem uj(C:Addr)(t:T4):pN C [.v (dT4 t)]=some (.v (dT4 (lf t))):=by
 obtain⟨a,b,k,o⟩:=t;have ea:atI [D.int a,.int b,.int k,.bl o] 0=some (.int a):=rfl;have eb:atI [D.int a,.int b,.int k,.bl o] 1=some (.int b):=rfl;have ek:atI [D.int a,.int b,.int k,.bl o] 2=some (.int k):=rfl;have eo:atI [D.int a,.int b,.int k,.bl o] 3=some (.bl o):=rfl;unfold pN g_q29;cases o with
 |true=>simp[dT4,ix2,ea,eb,ek,eo,lf]
 |false=>
  by_cases h:a<b
  ·simp[dT4,ix2,ea,eb,ek,eo,lf,h]
  ·simp[dT4,ix2,ea,eb,ek,eo,lf,h]
theorem wU(ts:List (Int×Int))(h:ts.length<64):bA (ts.map dP)=true:=by
 unfold bA;simp only[Yo,YE,Yh,Ye];refine⟨⟨⟨⟨h,?_⟩,?_⟩,?_⟩,?_⟩
 ·intro x hx;obtain⟨t,_,rfl⟩:=Ym.mp hx;rfl
 ·intro x hx y hy;obtain⟨t,_,rfl⟩:=Ym.mp hx;obtain⟨u,_,rfl⟩:=Ym.mp hy;rfl
 ·intro x hx;obtain⟨t,_,rfl⟩:=Ym.mp hx;rfl
 ·intro x hx;obtain⟨t,_,rfl⟩:=Ym.mp hx;rfl
def unP:D->Int×Int
 |.tup [.int a,.int b]=>(a,b)
 |_=>(0,0)
theorem uM{j:Nat}{fk fv:Dd}{ρ:DF}:rY j fk fv ρ=match ρ[j]? with
 |some (some (.own (.dT kvs) t))=>(fv ρ).bind fun v=>(fk ρ).bind fun y=>(mF y).bind fun k=>if kvs.length<16777216 then some (.nx (ρ.set j (some (.own (.dT (fK kvs k v)) t))))else none
 |_=>none:=rfl
theorem jt{fd fk fx:Dd}{ρ:DF}:gf fd fk fx ρ=match fd ρ with
 |some (.dT kvs)=>(fk ρ).bind fun y=>(mF y).bind fun k=>(fx ρ).map fun x=>(dQ kvs k).getD x
 |_=>none:=rfl
def wFs(ks:List Str)(T J:D):List (Str×D):=[("kinds",.lst (ks.map .str)),("ties",T),("joins",J)]
theorem n1:¬(("kinds":Str) = "ties"):=by decide+kernel
theorem n2:¬(("kinds":Str) = "joins"):=by decide+kernel
theorem n3:¬(("ties":Str) = "joins"):=by decide+kernel
theorem b1:(("ties":Str) == "kinds")=false:=by decide+kernel
theorem b2:(("size":Str) == "kinds")=false:=by decide+kernel
theorem b3:(("size":Str) == "ties")=false:=by decide+kernel
theorem b4:(("size":Str) == "joins")=false:=by decide+kernel
theorem mI{C:Addr}{fs:List (Str×D)}{n:Str}:mG C n (.ins C fs)=fs.lookup n:=if_pos rfl
theorem lV(C:Addr)(ks:List Str)(T J:D):mG C "kinds" (.ins C (wFs ks T J))=some (.lst (ks.map .str)):=by rw[mI];unfold wFs;simp
theorem xp(ks:List Str)(T J:D):(wFs ks T J).lookup ("size":Str)=none:=by unfold wFs;simp[List.lookup,b2,b3,b4]
theorem vz{C:Addr}{i:Nat}{n:Str}{fv:Dd}{ρ:DF}:lK C i n fv ρ=match ρ[i]? with
 |some (some (.own (.ins C' fs) t))=>if C'=C then(fv ρ).bind fun d=>if fs.length<1000 then some (.nx (ρ.set i (some (.own (.ins C (jw n d fs)) t))))else none else none
 |_=>none:=rfl
def srt(ts:List T4):List D:=aQ ((ts.map lf).map dT4)
theorem lP(r:List Int):okN 30 (.lst (r.map .int))=true:=by show(r.map D.int).all (okN 29)=true;rw[Yh];intro x hx;obtain⟨t,_,rfl⟩:=Ym.mp hx;rfl
theorem pM:∀a b:List Int,bb (a.map .int) (b.map .int)=true
 |[],_=>rfl
 |_::_,[]=>rfl
 |x::a,y::b=>by
  rw[YH,YH];show(aq (.int x) (.int y)&&bb (a.map .int) (b.map .int))=true;rw[pM a b];rfl
theorem pL{a b:List Int}(h:a.map D.int=b.map D.int):a=b:=by have:=Zs (List.map unI) h;rw[Zw,Zw,show unI ∘ D.int=id from rfl,XL,XL]at this;exact this
theorem jX{α:Type}(f:α->D)(h:∀x y,aq (f x) (f y)=true):∀a b:List α,bb (a.map f) (b.map f)=true
 |[],_=>rfl
 |_::_,[]=>rfl
 |x::a,y::b=>by
  rw[YH,YH];show(aq (f x) (f y)&&bb (a.map f) (b.map f))=true;rw[jX f h a b,h];rfl
theorem pR{α:Type}(f:α->D)(h:∀x y,aq (f x) (f y)=true)(a:List α):eqd (.lst (a.map f)) (.lst (a.map f))=true:=(gt _ _ (jX f h a a)).mpr rfl
theorem wm{x y:D}(hx:okN 30 x=true)(hy:okN 30 y=true):eqD x y=some (.bl (eqd x y)):=if_pos (by rw[hx,hy];rfl)
theorem uD{x y:D}(hx:okN 30 x=true)(hy:okN 30 y=true):neD x y=some (.bl (!eqd x y)):=if_pos (by rw[hx,hy];rfl)
theorem Au(ps:List (Int×Int)):Cmps 28 (ps.map dP):=
 ⟨fun x hx=>by obtain⟨t,_,rfl⟩:=Ym.mp hx;rfl,fun x hx y hy=>by obtain⟨t,_,rfl⟩:=Ym.mp hx;obtain⟨u,_,rfl⟩:=Ym.mp hy;rfl⟩
def prs(i j:Int)(t:T4):List (Int×Int):=(if t.1=i/\t.2.1=j then[(t.2.2.1,if t.2.2.2=true then 1 else 0)]else[])++(if t.2.1=i/\t.1=j then[(t.2.2.1,if t.2.2.2=true then 2 else 0)]else[])
def bN(i j:Int):List T4->List (Int×Int)
 |[]=>[]
 |t::ts=>prs i j t++bN i j ts
def srP(ps:List (Int×Int)):D:=.tup (aQ (ps.map dP))
theorem nT{ps qs:List (Int×Int)}(h:ps.Perm qs):srP ps=srP qs:=by unfold srP;rw[fW (h.map dP) (Au _)]
theorem w4(i j:Int)(ts us:List T4):bN i j (ts++us)=bN i j ts++bN i j us:=by
 induction ts with
 |nil=>rfl
 |cons t ts ih=>
  show prs i j t++bN i j (ts++us)=prs i j t++bN i j ts++bN i j us;rw[ih,Xi]
theorem vI(i j:Int)(ts:List T4)(t:T4):bN i j (ts++[t])=bN i j ts++prs i j t:=by rw[w4];show _++(prs i j t++[])=_;rw[Za]
theorem sP{i j:Int}{ts us:List T4}(h:ts.Perm us):(bN i j ts).Perm (bN i j us):=by
 induction h with
 |nil=>exact .refl _
 |cons t _ ih=>exact ih.append_left _
 |swap a b l=>
  show(prs i j b++(prs i j a++bN i j l)).Perm (prs i j a++(prs i j b++bN i j l));rw[<-Xi,<-Xi];exact List.perm_append_comm.append_right _
 |trans _ _ h1 h2=>exact h1.trans h2
theorem zV(i j:Int)(t:T4)(h:t.1≠t.2.1):prs i j (lf t)=prs i j t:=by
 obtain⟨a,b,k,o⟩:=t;simp only at h;unfold lf;split
 ·rfl
 ·rename_i q;have ho:o=false:=by cases o with|false=>rfl|true=>exact absurd (Or.inl rfl) q
  subst ho;unfold prs;by_cases h1:a=i/\b=j
  ·have h2:¬(b=i/\a=j):=fun z=>h (by rw[h1.1,<-z.1])
   simp[h1,h2];simp[h1]at h2;split
   ·rename_i z;exact absurd z.2 (h2 z.1)
   ·rfl
  ·by_cases h2:b=i/\a=j
   ·simp[h1,h2];simp[h2]at h1;split
    ·rename_i z;exact absurd z.2 (h1 z.1)
    ·rfl
   ·simp[h1,h2]
theorem xv(i j:Int)(ts:List T4)(h:∀t∈ts,t.1≠t.2.1):bN i j (ts.map lf)=bN i j ts:=by
 induction ts with
 |nil=>rfl
 |cons t ts ih=>
  show prs i j (lf t)++bN i j (ts.map lf)=prs i j t++bN i j ts;rw[zV i j t (h t Yd),ih fun u hu=>h u (Yc _ hu)]
theorem ye(i j:Int)(t:T4):(prs i j t).length<=2:=by
 unfold prs;rw[Yt];have h1:∀(c:Prop) [Decidable c] (x:Int×Int),(if c then[x]else[]).length<=1:=fun c _ x=>by split<;>simp
 have:=h1 (t.1=i/\t.2.1=j) (t.2.2.1,if t.2.2.2=true then 1 else 0);have:=h1 (t.2.1=i/\t.1=j) (t.2.2.1,if t.2.2.2=true then 2 else 0);omega
theorem oP(i j:Int)(ts:List T4):(bN i j ts).length<=2*ts.length:=by
 induction ts with
 |nil=>exact Yl _
 |cons t ts ih=>
  show(prs i j t++bN i j ts).length<=2*(ts.length+1);rw[Yt];have:=ye i j t;omega
def JOk(kvs:List (List Key×D))(ts:List T4):Prop:=∀i j:Int,dQ kvs [.inl i,.inl j]=if bN i j ts=[]then none else some (srP (bN i j ts))
theorem JOk.get{kvs:List (List Key×D)}{ts:List T4}(h:JOk kvs ts)(i j:Int):(dQ kvs [.inl i,.inl j]).getD (.tup [])=srP (bN i j ts):=by
 rw[h i j];split
 ·rename_i q;rw[q];rfl
 ·rfl
theorem qG{a b i j:Int}(h:¬(a=i/\b=j)):¬([.inl a,.inl b]:List Key)=[.inl i,.inl j]:=by intro q;injection q with q1 q2;injection q2 with q2 _;exact h ⟨Sum.inl.inj q1,Sum.inl.inj q2⟩
theorem B6(C:Addr)(kvs:List (List Key×D))(a b k f:Int)(ps:List (Int×Int))(hg:(dQ kvs [.inl a,.inl b]).getD (.tup [])=srP ps)(pl:ps.length<=50)(hkl:kvs.length<1000) :
  i_ C (.dT kvs) [.v (.tup [.int a,.int b]),.v (.tup [.int k,.int f])]=some (.dT (fK kvs [.inl a,.inl b] (srP (ps++[(k,f)]))),.non):=by
 obtain⟨us,eu,up⟩:=gy dP unP (fun _=>rfl) (bn (ps.map dP));have hg':(dQ kvs [.inl a,.inl b]).getD (.tup [])=.tup (us.map dP):=hg.trans (Zs D.tup eu);have ul:us.length<=50:=by rw[up.length_eq];exact pl
 have ha:aP (.tup (us.map dP)) (.tup [.tup [.int k,.int f]])=some (.tup ((us++[(k,f)]).map dP)):=by rw[Zd];exact if_pos (by rw[Ye];show us.length+1<=_;omega)
 have hso:=wU (us++[(k,f)]) (by rw[Yt,YQ];omega);have hs:D.tup (aQ ((us++[(k,f)]).map dP))=srP (ps++[(k,f)]):=nT (up.append_right _);rw[<-hs];refine r8 rfl rfl fun ad=>⟨.nx [some (.own (.dT (fK kvs [.inl a,.inl b] (.tup (aQ ((us++[(k,f)]).map dP))))) (some ad)),some (.v (.tup [.int a,.int b])),some (.v (.tup [.int k,.int f]))],?_,rfl,rfl⟩
 have hkl':kvs.length<16777216:=by omega
 generalize (us++[(k,f)]).map dP=L at *;generalize us.map dP=L0 at *;unfold g_q30;simp[uM,jt,mF,fg,yx,hg',ha,gm,hso,oQ,hkl']
theorem B4(a b k:Int)(o:Bool)(hab:a≠b):prs a b (a,b,k,o)=[(k,if o=true then 1 else 0)]:=by show(if a=a/\b=b then[(k,if o=true then(1:Int)else 0)]else[])++(if b=a/\a=b then[(k,if o=true then(2:Int)else 0)]else[])=_;rw[if_pos (⟨rfl,rfl⟩:a=a/\b=b),if_neg (fun z:b=a/\a=b=>hab z.2)];rfl
theorem C1(a b k:Int)(o:Bool)(hab:a≠b):prs b a (a,b,k,o)=[(k,if o=true then 2 else 0)]:=by show(if a=b/\b=a then[(k,if o=true then(1:Int)else 0)]else[])++(if b=b/\a=a then[(k,if o=true then(2:Int)else 0)]else[])=_;rw[if_pos (⟨rfl,rfl⟩:b=b/\a=a),if_neg (fun z:a=b/\b=a=>hab z.1)];rfl
theorem B9(i j a b k:Int)(o:Bool)(h1:¬(b=i/\a=j))(h2:¬(a=i/\b=j)):prs i j (a,b,k,o)=[]:=by show(if a=i/\b=j then[(k,if o=true then(1:Int)else 0)]else[])++(if b=i/\a=j then[(k,if o=true then(2:Int)else 0)]else[])=_;rw[if_neg h2,if_neg h1];rfl
theorem JOk.step{kvs:List (List Key×D)}{ts:List T4}(h:JOk kvs ts)(a b k:Int)(o:Bool)(hab:a≠b) :
  JOk (fK (fK kvs [.inl a,.inl b] (srP (bN a b ts++[(k,if o=true then 1 else 0)]))) [.inl b,.inl a] (srP (bN b a ts++[(k,if o=true then 2 else 0)]))) (ts++[(a,b,k,o)]):=by
 intro i j;rw[vI,jW,jW];by_cases h1:b=i/\a=j
 ·obtain⟨rfl,rfl⟩:=h1;rw[C1 a b k o hab];generalize (k,if o=true then(2:Int)else 0)=q;rw[if_pos rfl,if_neg (by simp)]
 ·rw[if_neg (qG h1)];by_cases h2:a=i/\b=j
  ·obtain⟨rfl,rfl⟩:=h2;rw[B4 a b k o hab];generalize (k,if o=true then(1:Int)else 0)=q;rw[if_pos rfl,if_neg (by simp)]
  ·rw[if_neg (qG h2),h i j,B9 i j a b k o h1 h2,Za]
theorem vR{α:Type}{l:List α}{j:Nat}{x:α}(h:l[j]?=some x):l.take (j+1)=l.take j++[x]:=by rw[Vf,h];rfl
theorem yd(C:Addr)(ts:List T4)(hl:ts.length<=12)(hd:∀t∈ts,t.1≠t.2.1):∃kvs,vB C [.v (.lst (ts.map dT4))]=some (.own (.dT kvs) none)/\JOk kvs ts:=by
 have hM:=B6 C;unfold vB g_q8;generalize i_ C=M at hM ⊢;obtain⟨z,e,kvs,y2,y3,y4,y5,rfl,hk,hJ⟩:=eT (st:=m_ [2,3,4,5]) (body:=(am (e9 K0 1 M (aV (asT (ai (getV 2) (ai (getV 3) aR))) (aV (asT (ai (getV 4) (ai (ifV (asB (getV 5)) (fun _=>some (.int 1)) (fun _=>some (.int 0))) aR))) (fun _=>some []))))
  (e9 K0 1 M (aV (asT (ai (getV 3) (ai (getV 2) aR))) (aV (asT (ai (getV 4) (ai (ifV (asB (getV 5)) (fun _=>some (.int 2)) (fun _=>some (.int 0))) aR))) (fun _=>some []))))))
  (fun j ρ=>∃(kvs:List (List Key×D)) (x2 x3 x4 x5:Option DV),ρ=[some (.v (.lst (ts.map dT4))),some (.own (.dT kvs) none),x2,x3,x4,x5]/\kvs.length<=2*j/\JOk kvs (ts.take j)) (ts.map dT4) 0
  [some (.v (.lst (ts.map dT4))),some (.own (.dT []) none),none,none,none,none] ⟨[],_,_,_,_,rfl,Yl _,fun _ _=>rfl⟩ (by
   rintro j d _ hj ⟨kvs,x2,x3,x4,x5,rfl,hk,hJ⟩;rw[Xc]at hk hJ ⊢;rw[Yu]at hj;cases ht:ts[j]? with
   |none=>rw[ht]at hj;cases hj
   |some t=>
   rw[ht]at hj;cases hj;have hlt:j<ts.length:=(Yk.mp ht).1;obtain⟨a,b,k,o⟩:=t;have hab:a≠b:=hd _ (YA ht);have l1:=oP a b (ts.take j);have l2:=oP b a (ts.take j);have l3:(ts.take j).length<=12:=by rw[ZQ];omega
   have e1:=hM kvs a b k (if o=true then 1 else 0) _ (hJ.get a b) (by omega) (by omega);have l4:=n6 [.inl a,.inl b] (srP (bN a b (ts.take j)++[(k,if o=true then 1 else 0)])) kvs;have g2:(dQ (fK kvs [.inl a,.inl b] (srP (bN a b (ts.take j)++[(k,if o=true then 1 else 0)]))) [.inl b,.inl a]).getD (.tup [])=srP (bN b a (ts.take j)):=by rw[jW,if_neg (qG fun z=>hab z.1)];exact hJ.get b a
   have e2:=hM _ b a k (if o=true then 2 else 0) _ g2 (by omega) (by omega);have hs:=hJ.step a b k o hab;rw[<-vR ht]at hs;have l5:=n6 [.inl b,.inl a] (srP (bN b a (ts.take j)++[(k,if o=true then 2 else 0)])) (fK kvs [.inl a,.inl b] (srP (bN a b (ts.take j)++[(k,if o=true then 1 else 0)])));generalize fK kvs [.inl a,.inl b] (srP (bN a b (ts.take j)++[(k,if o=true then 1 else 0)]))=kvs1 at *;generalize fK kvs1 [.inl b,.inl a] (srP (bN b a (ts.take j)++[(k,if o=true then 2 else 0)]))=kvs2 at *;refine⟨[some (.v (.lst (ts.map dT4))),some (.own (.dT kvs) none),some (.v (.int a)),some (.v (.int b)),some (.v (.int k)),some (.v (.bl o))],rfl,[some (.v (.lst (ts.map dT4))),some (.own (.dT kvs2) none),some (.v (.int a)),some (.v (.int b)),some (.v (.int k)),some (.v (.bl o))],?_,kvs2,_,_,_,_,rfl,by omega,hs⟩;clear g2 hs hJ l1 l2 l3 l4 l5 hM;cases o with
   |true=>
    simp only[VR]at e1 e2;simp[e9,nS,xz,e1,e2]
   |false=>
    simp at e1 e2;simp[e9,nS,xz,e1,e2])
 rw[Xc,Ye,XI]at hJ;refine⟨kvs,?_,hJ⟩;rw[sy];have s0:bB 1 (fun _=>some (.dT [])) (aM 6 1 [.v (.lst (ts.map dT4))])=some (.nx [some (.v (.lst (ts.map dT4))),some (.own (.dT []) none),none,none,none,none]):=rfl;rw[ao s0,ao (cF (ds:=ts.map dT4) rfl e)];rfl
theorem JOk.perm{kvs:List (List Key×D)}{us ts:List T4}(h:JOk kvs us)(p:∀i j,(bN i j us).Perm (bN i j ts)):JOk kvs ts:=by
 intro i j;have hp:=p i j;rw[h i j,nT hp];by_cases q:bN i j us=[]
 ·rw[q]at hp;rw[if_pos q,if_pos hp.symm.eq_nil]
 ·rw[if_neg q,if_neg fun z=>q (by rw[z]at hp;exact hp.eq_nil)]
theorem AH(C:Addr)(ks:List Str)(ts:List T4)(n:Int)(hn:1<=n/\n<=7)(hk:okK n ks)(hs:okS n ts):∃kvs,JOk kvs ts/\rR C (.ins C []) [.v (.lst (ks.map .str)),.v (.lst (ts.map dT4))]=some (.ins C (wFs ks (.lst (srt ts)) (.dT kvs)),.non):=by
 have hR:=t4 C ks ts n hn hk hs;have hL:=uj C;obtain⟨us,eu,up⟩:=xO (ts.map lf);have hd:∀t∈ts,t.1≠t.2.1:=fun t ht=>(hs.2 t ht).2.2.2.2.1
 obtain⟨kvs,hJ,hO⟩:=yd C us (by rw[up.length_eq,Ye];exact hs.1) (fun t ht=>by
  obtain⟨u,hu,rfl⟩:=Ym.mp (up.mem_iff.mp ht);exact(B7 (hs.2 u hu)).2.2.2.2.1)
 have hso:=sZ (ts.map lf) (by rw[Ye];have:=hs.1;omega);refine⟨kvs,hO.perm fun i j=>?_,r8 rfl rfl fun ad=>⟨.nx [some (.own (.ins C (wFs ks (.lst (srt ts)) (.dT kvs))) (some ad)),some (.v (.lst (ks.map .str))),some (.v (.lst (ts.map dT4)))],?_,rfl,rfl⟩⟩
 ·have:=sP (i:=i) (j:=j) up
  rwa [xv i j ts hd]at this
 unfold C0;generalize oH C=R at hR ⊢;generalize pN C=L at hL ⊢;generalize vB C=J at hJ ⊢;have hsr:srt ts=us.map dT4:=eu;rw[hsr];have c1:b7 (setV 0) bz (ak L (aV (getV 0) (fun _=>some []))) [none] (ts.map dT4)=some ((ts.map lf).map dT4):=by
  rw[Zw];refine bT dT4 _ ts fun t _=>⟨[some (.v (dT4 t))],rfl,rfl,?_⟩
  simp[hL]
 have tl:ts.length<=16777216:=by have:=hs.1;omega
 generalize (ak L (aV (getV 0) (fun _=>some [])))=E at c1 ⊢;generalize (ts.map lf).map dT4=X at *;have hf:∀fs:List (Str×D),mG C "ties" (.ins C [("kinds",.lst (ks.map .str)),("ties",.lst (us.map dT4))])=some (.lst (us.map dT4)):=by intro _;rw[mI];simp[List.lookup,b1]
 have hf':=hf [];generalize us.map dT4=Y at *;generalize hX:ts.map dT4=Z at *;have hZ:Z.length<=16777216:=by rw[<-hX,Ye];exact tl
 simp[hR,vz,jw,gm,bE,hZ,c1,hso,eu,hf',hJ,n1,n2,n3,wFs]
theorem AC(C:Addr)(ks:List Str)(ts:List T4)(n:Int)(hn:1<=n/\n<=7)(hk:okK n ks)(hs:okS n ts):∃kvs,JOk kvs ts/\∀(g:Dv) (ρ:DF),g ρ=some [.v (.lst (ks.map .str)),.v (.lst (ts.map dT4))]->nY C (rR C) g ρ=some (.ins C (wFs ks (.lst (srt ts)) (.dT kvs))):=by obtain⟨J,h,e⟩:=AH C ks ts n hn hk hs;refine⟨J,h,fun g ρ h=>?_⟩;unfold nY;rw[h,Ya,e];rfl
theorem b5:(("near":Str) == "kinds")=false:=by decide+kernel
theorem b6:(("near":Str) == "ties")=false:=by decide+kernel
theorem b8:(("between":Str) == "kinds")=false:=by decide+kernel
theorem b9:(("between":Str) == "ties")=false:=by decide+kernel
theorem b10:(("between":Str) == "joins")=false:=by decide+kernel
theorem b11:(("joins":Str) == "kinds")=false:=by decide+kernel
theorem b12:(("joins":Str) == "ties")=false:=by decide+kernel
theorem tj(C:Addr)(ks:List Str)(T J:D):mG C "joins" (.ins C (wFs ks T J))=some J:=by rw[mI];simp[wFs,List.lookup,b11,b12]
theorem jQ(ks:List Str)(T J:D):(wFs ks T J).lookup ("between":Str)=none:=by simp[wFs,List.lookup,b8,b9,b10]
theorem nK{C:Addr}{ks:List Str}{T J:D}{mn:Str}(h:(wFs ks T J).lookup mn=none)(xs:List DV):oS C mn (.v (.ins C (wFs ks T J))::xs)=true:=by show(match(if C=C then some (wFs ks T J)else none)with|some fs=>(fs.lookup mn).isNone|none=>false)=true;rw[if_pos rfl];simp only;rw[h];rfl
theorem iX(C:Addr)(ks:List Str)(T J:D)(n:Int)(hk:(ks.length:Int)=n)(ρ:DF)(h:ρ[0]?=some (some (.v (.ins C (wFs ks T J))))):cw C "size" (kN C) (cJ (du 0) g0) ρ=some (.int n):=by
 have hS:kN C [.v (.ins C (wFs ks T J))]=some (.v (.int n)):=by have:=lV C ks T J;generalize wFs ks T J=F at this;simp[kN,CW,this,hk]
 have hm:cJ (du 0) g0 ρ=some [.v (.ins C (wFs ks T J))]:=by unfold cJ du g0;rw[h];rfl
 unfold cw;rw[hm,Ya,if_pos (nK (xp ks T J) _),hS];rfl
def nr(ts:List T4)(n p:Int):List Int:=(bq n).filter fun o=>!decide (bN p o ts=[])
theorem jg(C:Addr)(ks:List Str)(T:D)(kvs:List (List Key×D))(ts:List T4)(i j:Int)(hJ:JOk kvs ts) :
  sY C [.v (.ins C (wFs ks T (.dT kvs))),.v (.int i),.v (.int j)]=some (.v (srP (bN i j ts))):=by
 have hf:=tj C ks T (.dT kvs);have hg:=hJ.get i j;generalize wFs ks T (.dT kvs)=F at *;generalize srP (bN i j ts)=R at *;simp[sY,De,jt,hf,mF,fg,yx,hg]
theorem cQ(C:Addr)(c f:Int)(hf:0<=f/\f<9223372036854775808):∃r:Int,dq C [.v (.int c),.v (.int f)]=some (.v (.int r))/\0<=r/\r<2147483647:=by have m1:=aU c 2147483647 (by decide);have u1:=fz (c%2147483647+1) f (.inr (by omega));have m2:=aU ((c%2147483647+1)*f) 2147483647 (by decide);exact⟨(c%2147483647+1)*f%2147483647,by simp[dq,g_q26,m1,u1,m2],Zb _ (by decide),YV _ (by decide)⟩
theorem rO(C:Addr)(ns:List Int)(k:Int)(hk:0<=k):∃x:Int,eV C [.v (.lst (ns.map .int)),.v (.int k)]=some (.v (.int x)):=by
 by_cases h:k<(ns.length:Int)
 ·obtain⟨x,_,e⟩:=fG (l:=ns) D.int hk h;exact⟨x,by simp[eV,g_q13,h,ix1,e]⟩
 ·exact⟨0,by simp[eV,g_q13,h]⟩
theorem ym(C:Addr)(ns:List Int):∃r:Int,oK C [.v (.lst (ns.map .int)),.v (.int 1000000000000000000000000000000)]=some (.v (.int r))/\0<=r/\r<1000000000000000000000000000000:=by
 obtain⟨z,e,r,x3,r0,r1,rfl⟩:=d8 (st:=setV 3) (body:=(aE 2 (d2 aN (d2 aP (d2 fL (aa 2) (fun _=>some (.int 1000003))) (aa 3)) (aa 1)))) (fun ρ=>∃r x3,0<=r/\r<1000000000000000000000000000000/\ρ=[some (.v (.lst (ns.map .int))),some (.v (.int 1000000000000000000000000000000)),some (.v (.int r)),x3]) (ds:=ns.map .int)
  (ρ:=[some (.v (.lst (ns.map .int))),some (.v (.int 1000000000000000000000000000000)),some (.v (.int 0)),none]) ⟨0,_,by decide,by decide,rfl⟩ (by
   rintro d hd _ ⟨r,x3,r0,r1,rfl⟩;obtain⟨c,_,rfl⟩:=Ym.mp hd;have u:=fz r 1000003 (.inr (by decide));have m:=aU (r*1000003+c) 1000000000000000000000000000000 (by decide);refine⟨_,rfl,[some (.v (.lst (ns.map .int))),some (.v (.int 1000000000000000000000000000000)),some (.v (.int ((r*1000003+c)%1000000000000000000000000000000))),some (.v (.int c))],?_,_,_,Zb _ (by decide),YV _ (by decide),rfl⟩;generalize ns.map D.int=N;simp[u,m])
 refine⟨r,?_,r0,r1⟩;unfold oK g_q17;rw[fN];have s0:aE 2 (fun _=>some (.int 0)) (aM 4 2 [.v (.lst (ns.map .int)),.v (.int 1000000000000000000000000000000)])=some (.nx [some (.v (.lst (ns.map .int))),some (.v (.int 1000000000000000000000000000000)),some (.v (.int 0)),none]):=rfl;rw[ao s0,ao (cF (ds:=ns.map .int) rfl e)];rfl
theorem ub{i j:Nat}{f:Dd}{ρ:DF}{left order:List Int}{k:Int}(hij:i≠j)(hj:ρ[j]?=some (some (.own (.lst (left.map .int)) none)))(hi:ρ[i]?=some (some (.own (.lst (order.map .int)) none)))(hf:f ρ=some (.int k))(h0:0<=k)(h1:k<(left.length:Int))(hl:left.length<1000)(ho:order.length<1000) :
  ∃(m:Nat) (hm:m<left.length),eP i j f ρ=some (.nx ((ρ.set j (some (.own (.lst ((left.eraseIdx m).map .int)) none))).set i (some (.own (.lst ((order++[left[m]]).map .int)) none)))):=by
 have kl:k.toNat<left.length:=by omega
 have hp:=uS h0 h1 hl;have hget:(left.map D.int)[k.toNat]?=some (.int left[k.toNat]):=by rw[Yu,Yi kl];rfl
 refine⟨k.toNat,kl,?_⟩;have hpop:qB j f ρ=some (ρ.set j (some (.own (.lst ((left.eraseIdx k.toNat).map .int)) none)),.int left[k.toNat]):=by unfold qB;rw[hj];simp only[hf,Ya,Ye,hp,hget,lO];rfl
 unfold eP;rw[hpop,Ya];simp only;rw[YL (ZL hij),hi];simp only;rw[if_pos ⟨hij,by rw[Ye];omega⟩,Zd];rfl
theorem vX(A S:Dm)(N:List D)(n f:Int)(j:Nat)(x r:Int)(left order:List Int)(x6:Option DV)(hj:j<=7)(hx:A [.v (.lst N),.v (.int (j:Int))]=some (.v (.int x)))(hr:S [.v (.int (x+(j:Int)*(j:Int))),.v (.int f)]=some (.v (.int r)))(lp:0<left.length)(ll:left.length<=7)(ol:order.length<=7) :
  ∃(m:Nat) (hm:m<left.length),(am (aE 6 (ak S (aV (d2 aP (ak A (aB 0 (aB 5 (fun _=>some [])))) (d2 fL (aa 5) (aa 5))) (aB 2 (fun _=>some [])))))
  (eP 4 3 (d2 aN (d2 aS (aa 6) (fun _=>some (.int 3))) (d1 bP (ay 3))))) [some (.v (.lst N)),some (.v (.int n)),some (.v (.int f)),some (.own (.lst (left.map .int)) none),some (.own (.lst (order.map .int)) none),some (.v (.int (j:Int))),x6]
   = some (.nx [some (.v (.lst N)),some (.v (.int n)),some (.v (.int f)),some (.own (.lst ((left.eraseIdx m).map .int)) none),some (.own (.lst ((order++[left[m]]).map .int)) none),some (.v (.int (j:Int))),some (.v (.int r))]):=by
 have u:=fz (j:Int) (j:Int) (.inl (by omega));have d3:=bp r 3 (by decide);have ml:=aU (r/3) (left.length:Int) (by omega);have s1:aE 6 (ak S (aV (d2 aP (ak A (aB 0 (aB 5 (fun _=>some [])))) (d2 fL (aa 5) (aa 5))) (aB 2 (fun _=>some [])))) [some (.v (.lst N)),some (.v (.int n)),some (.v (.int f)),some (.own (.lst (left.map .int)) none),some (.own (.lst (order.map .int)) none),some (.v (.int (j:Int))),x6]
   = some (.nx [some (.v (.lst N)),some (.v (.int n)),some (.v (.int f)),some (.own (.lst (left.map .int)) none),some (.own (.lst (order.map .int)) none),some (.v (.int (j:Int))),some (.v (.int r))]):=by
  generalize left.map D.int=U;generalize order.map D.int=V;generalize (j:Int)=jj at hx hr u ⊢;simp -implicitDefEqProofs [hx,u,hr]
 have hk:d2 aN (d2 aS (aa 6) (fun _=>some (.int 3))) (d1 bP (ay 3)) [some (.v (.lst N)),some (.v (.int n)),some (.v (.int f)),some (.own (.lst (left.map .int)) none),some (.own (.lst (order.map .int)) none),some (.v (.int (j:Int))),some (.v (.int r))]=some (.int (r/3%(left.length:Int))):=by have lm:(left.map D.int).length=left.length:=Ye ..;generalize left.map D.int=U at *;simp[d3,lm,ml]
 obtain⟨m,hm,e2⟩:=ub (i:=4) (j:=3) (left:=left) (order:=order) (by decide) rfl rfl hk (Zb _ (by omega)) (YV _ (by omega)) (by omega) (by omega);exact⟨m,hm,(ao s1).trans e2⟩
theorem g_(C:Addr)(ns:List Int)(n f:Int)(hn:1<=n/\n<=7)(hf:0<=f/\f<9223372036854775808):∃out:List Int,kG C [.v (.lst (ns.map .int)),.v (.int n),.v (.int f)]=some (.own (.lst (out.map .int)) none)/\out.Perm (bq n):=by
 have hA:=rO C ns;have hS:=fun c=>cQ C c f hf
 unfold kG g_q21;generalize eV C=A at hA ⊢;generalize dq C=S at hS ⊢;have hN:((bq n).length:Int)=n:=by rw[bj];omega
 obtain⟨z,e,left,order,x5,x6,rfl,hp,hl⟩:=eT (st:=setV 5) (body:=(am (aE 6 (ak S (aV (d2 aP (ak A (aB 0 (aB 5 (fun _=>some [])))) (d2 fL (aa 5) (aa 5))) (aB 2 (fun _=>some [])))))
  (eP 4 3 (d2 aN (d2 aS (aa 6) (fun _=>some (.int 3))) (d1 bP (ay 3)))))) (fun j ρ=>∃left order x5 x6,ρ=[some (.v (.lst (ns.map .int))),some (.v (.int n)),some (.v (.int f)),some (.own (.lst (left.map .int)) none),some (.own (.lst (order.map .int)) none),x5,x6]/\(order++left).Perm (bq n)/\order.length=j) ((bq n).map .int) 0
  [some (.v (.lst (ns.map .int))),some (.v (.int n)),some (.v (.int f)),some (.own (.lst ((bq n).map .int)) none),some (.own (.lst []) none),none,none] ⟨bq n,[],_,_,rfl,.refl _,rfl⟩ (by
   rintro j d _ hj ⟨left,order,x5,x6,rfl,hp,hl⟩;rw[Xc]at hl ⊢;have hjn:j<n.toNat:=by have:=(Yk.mp hj).1;rwa [Ye,bj]at this
   rw[rn hj];have hlen:=hp.length_eq;rw[Yt,bj]at hlen;obtain⟨x,hx⟩:=hA (j:Int) (Int.natCast_nonneg j);obtain⟨r,hr,r0,r1⟩:=hS (x+(j:Int)*(j:Int));obtain⟨m,hm,e2⟩:=vX A S (ns.map .int) n f j x r left order x6 (by omega) hx hr (by omega) (by omega) (by omega);refine⟨_,rfl,_,e2,left.eraseIdx m,order++[left[m]],_,_,rfl,?_,by rw[Yt,YQ,hl]⟩;refine List.Perm.trans ?_ hp;rw[Xi];exact List.Perm.append_left _ (fu _ m hm))
 rw[Xc,Ye,bj]at hl;have hlen:=hp.length_eq;rw[Yt,bj]at hlen;have hnil:left=[]:=YY.mp (by omega);subst hnil;rw[Za]at hp;refine⟨order,?_,hp⟩;rw[rS];have hr:pC (getV 1) (aM 7 3 [.v (.lst (ns.map .int)),.v (.int n),.v (.int f)])=some ((bq n).map .int):=by show(if n<16777216/\-(2^62)<=n then some (cz 0 n.toNat)else none)=_;rw[if_pos (by omega),lZ]
 have s0:bB 3 (asL (pC (getV 1))) (aM 7 3 [.v (.lst (ns.map .int)),.v (.int n),.v (.int f)])=some (.nx [some (.v (.lst (ns.map .int))),some (.v (.int n)),some (.v (.int f)),some (.own (.lst ((bq n).map .int)) none),none,none,none]):=by rw[eA,c_,hr];rfl
 have s1:bB 4 (asL aR) [some (.v (.lst (ns.map .int))),some (.v (.int n)),some (.v (.int f)),some (.own (.lst ((bq n).map .int)) none),none,none,none]=some (.nx [some (.v (.lst (ns.map .int))),some (.v (.int n)),some (.v (.int f)),some (.own (.lst ((bq n).map .int)) none),some (.own (.lst []) none),none,none]):=rfl;rw[ao s0,ao s1,ao (cF (ds:=(bq n).map .int) (cU rfl ⟨by omega,by omega⟩) e)];rfl
theorem El{x:Int}(h:0<=x/\x<4):x=0\/x=1\/x=2\/x=3:=by
 obtain⟨m,rfl⟩:=ZT h.1;have key:∀m:Fin 4,((m:Nat):Int)=0\/((m:Nat):Int)=1\/((m:Nat):Int)=2\/((m:Nat):Int)=3:=by decide
 exact key ⟨m,Int.ofNat_lt.mp h.2⟩
theorem D9{x:Int}(h:0<=x/\x<9):x=0\/x=1\/x=2\/x=3\/x=4\/x=5\/x=6\/x=7\/x=8:=by
 obtain⟨m,rfl⟩:=ZT h.1;have key:∀m:Fin 9,((m:Nat):Int)=0\/((m:Nat):Int)=1\/((m:Nat):Int)=2\/((m:Nat):Int)=3\/((m:Nat):Int)=4\/((m:Nat):Int)=5\/((m:Nat):Int)=6\/((m:Nat):Int)=7\/((m:Nat):Int)=8:=by decide
 exact key ⟨m,Int.ofNat_lt.mp h.2⟩
theorem kU{st:Dq}{body:Dw}{d:D}{ds:List D}{ρ ρ1 ρ2:DF}(h1:st d ρ=some ρ1)(h2:body ρ1=some (.nx ρ2)):gG st body (d::ds) ρ=gG st body ds ρ2:=by
 conv=>lhs;unfold gG
 rw[h1];simp only[h2]
def okL(m:Nat)(x:Str):Prop:=x.cps.size=m/\∀c∈x.cps.toList,97<=c/\c<=122
theorem nq{m k:Nat}{x y:Str}(hx:okL m x)(hy:okL k y)(h:m+k<=100):aP (.str x) (.str y)=some (.str (x++y))/\okL (m+k) (x++y):=by
 have e:(x++y).cps=x.cps++y.cps:=rfl;refine⟨if_pos ?_,?_,?_⟩
 ·show x.cps.size+y.cps.size<=_;rw[hx.1,hy.1];omega
 ·rw[e,VQ,hx.1,hy.1]
 ·intro c hc;rw[e,Array.toList_append]at hc;rcases Zy.mp hc with hc|hc
  ·exact hx.2 c hc
  ·exact hy.2 c hc
theorem ve(k:Int)(h:0<=k/\k<5):∃x,g7 (.str "m") (.int k)=some (.str x)/\okL k.toNat x:=by
 have hm:("m":Str).length<=1000:=by decide
 have e:∀j:Int,0<=j/\j<5->g7 (.str "m") (.int j)=some (.str (ti "m" j)):=fun j hj=>if_pos ⟨by omega,by omega,hm⟩
 refine⟨_,e k h,?_⟩;obtain⟨m,rfl⟩:=ZT h.1;have key:∀m:Fin 5,(ti "m" ((m:Nat):Int)).cps.size=(m:Nat)/\((ti "m" ((m:Nat):Int)).cps.toList.all fun c=>decide (97<=c/\c<=122))=true:=by decide+kernel
 obtain⟨k1,k2⟩:=key ⟨m,by omega⟩;refine⟨k1,fun c hc=>?_⟩;simpa using Yh.mp k2 c hc
theorem mf(i:Int)(h:0<=i/\i<12):∃x,ixD (.str "abcdefghijkl") (.int i)=some (.str x)/\okL 1 x:=by
 obtain⟨m,rfl⟩:=ZT h.1;have key:∀j:Fin 12,(atI ("abcdefghijkl":Str).cps.toList ((j:Nat):Int))=some (97+(j:Nat)):=by decide+kernel
 have k1:=key ⟨m,by omega⟩;refine⟨⟨#[97+m]⟩,?_,rfl,fun c hc=>?_⟩
 ·show(if("abcdefghijkl":Str).length<=16777216 then(atI ("abcdefghijkl":Str).cps.toList ((m:Nat):Int)).map fun c=>D.str ⟨#[c]⟩else none)=_;rw[show atI ("abcdefghijkl":Str).cps.toList ((m:Nat):Int)=some (97+m)from k1];rfl
 ·have:c=97+m:=by simpa using hc
  omega
theorem pj{m:Nat}{x:Str}(h:okL m x)(hm:1<=m/\m<=3):okW x:=⟨by rw[h.1];exact hm.1,by rw[h.1];exact hm.2,h.2⟩
abbrev kdF(N:List D)(n r L a g:Int)(x6 x7 x8 x9 x10:Option DV):DF:=[some (.v (.lst N)),some (.v (.int n)),some (.v (.int r)),some (.v (.int L)),some (.v (.int a)),some (.v (.int g)),x6,x7,x8,x9,x10]
theorem sf(N:List D)(n r L a g k:Int)(ws:List Str)(x8 x9 x10:Option DV)(hL:1<=L/\L<=3)(ha:0<=a/\a<L)(hg:0<=g/\g<=10)(hk:0<=k/\k<=1)(hw:ws.length<=10):∃(w:Str) (y8:Option DV),okW w /\
  (am (aE 8 (d2 ixD (fun _=>some (.str "abcdefghijkl")) (d2 aP (aa 5) (aa 7))))
  (di 6 (d2 aP (d2 aP (d2 g7 (fun _=>some (.str "m")) (aa 4)) (aa 8)) (d2 g7 (fun _=>some (.str "m")) (d2 da (d2 da (aa 3) (fun _=>some (.int 1))) (aa 4))))))
   (kdF N n r L a g (some (.own (.lst (ws.map .str)) none)) (some (.v (.int k))) x8 x9 x10)=some (.nx (kdF N n r L a g (some (.own (.lst ((ws++[w]).map .str)) none)) (some (.v (.int k))) y8 x9 x10)):=by
 obtain⟨x1,e1,o1⟩:=ve a (by omega);obtain⟨x2,e2,o2⟩:=mf (g+k) (by omega);obtain⟨x3,e3,o3⟩:=ve (L-1-a) (by omega);have e:a.toNat+1+(L-1-a).toNat=L.toNat:=by clear e1 e2 e3 o1 o2 o3 hg hk hw;omega
 have l3:L.toNat<=3:=Int.toNat_le.mpr hL.2;have l1:1<=L.toNat:=by rw[<-e];exact YD (Zr 1 _) (Nat.le_add_right _ _)
 have b2:a.toNat+1+(L-1-a).toNat<=100:=YD (ZU e) (YD l3 (by decide));obtain⟨c1,p1⟩:=nq o1 o2 (YD (Nat.le_add_right _ _) b2);obtain⟨c2,p2⟩:=nq p1 o3 b2;rw[e]at p2;have hl:ws.length<16777216:=ZB hw (by decide);refine⟨x1++x2++x3,some (.v (.str x2)),pj p2 ⟨l1,l3⟩,?_⟩;rw[Zd];have lm:(ws.map D.str).length=ws.length:=Ye ..;generalize ws.map D.str=M at *;generalize ("abcdefghijkl":Str)=abc12 at *;generalize ("m":Str)=em at *;simp[e1,e2,e3,c1,c2,lm,hl]
theorem nU(C:Addr)(ns:List Int)(n:Int)(hn:0<=n/\n<=7):∃ks:List Str,iF C [.v (.lst (ns.map .int)),.v (.int n)]=some (.own (.lst (ks.map .str)) none)/\(ks.length:Int)=n/\∀k∈ks,okW k:=by
 obtain⟨x,hx⟩:=rO C ns 1 (by decide);obtain⟨r,hr,r0,r1⟩:=cQ C x 1207959571 (by decide);have hS:=fun c=>cQ C c 1618033989 (by decide)
 unfold iF g_q19;generalize eV C=A at hx ⊢;generalize dq C=S at hr hS ⊢;generalize ns.map D.int=N at *;obtain⟨L,eL⟩:∃L,1+r%3=L:=⟨_,rfl⟩
 have hL:1<=L/\L<=3:=by omega
 obtain⟨a,ea⟩:∃a,r/3%L=a:=⟨_,rfl⟩
 have ha:0<=a/\a<L:=by rw[<-ea];exact⟨Zb _ (Int.ne_of_gt hL.1),YV _ hL.1⟩
 obtain⟨g,eg⟩:∃g,r/9%11=g:=⟨_,rfl⟩
 have hg:0<=g/\g<=10:=by omega
 have m3:=aU r 3 (by decide);have d3:=bp r 3 (by decide);have mL:=aU (r/3) L hL.1;have d9:=bp r 9 (by decide);have m11:=aU (r/9) 11 (by decide);rw[ea]at mL;rw[eg]at m11;have s1:∀G,(am (aE 2 (ak S (aV (ak A (aB 0 (aV (fun _=>some (.int 1)) (fun _=>some [])))) (aV (fun _=>some (.int 1207959571)) (fun _=>some [])))))
  (am (aE 3 (d2 aP (fun _=>some (.int 1)) (d2 aN (aa 2) (fun _=>some (.int 3)))))
  (am (aE 4 (d2 aN (d2 aS (aa 2) (fun _=>some (.int 3))) (aa 3)))
  (am (aE 5 (d2 aN (d2 aS (aa 2) (fun _=>some (.int 9))) (fun _=>some (.int 11))))
  (am (bB 6 (asL aR)) G))))) [some (.v (.lst N)),some (.v (.int n)),none,none,none,none,none,none,none,none,none]=G (kdF N n r L a g (some (.own (.lst []) none)) none none none none):=by
  intro G;simp -implicitDefEqProofs [hx,hr,m3,eL,d3,mL,d9,m11]
 rw[fN];have st:aM 11 2 [.v (.lst N),.v (.int n)]=[some (.v (.lst N)),some (.v (.int n)),none,none,none,none,none,none,none,none,none]:=rfl;rw[st,s1];obtain⟨w0,y8,ow0,e0⟩:=sf N n r L a g 0 [] none none none hL ha hg (by decide) (by decide);obtain⟨w1,z8,ow1,e1⟩:=sf N n r L a g 1 [w0] y8 none none hL ha hg (by decide) (by simp);have f1:dD (cg (fun _=>some (.int 2))) (setV 7) (am (aE 8 (d2 ixD (fun _=>some (.str "abcdefghijkl")) (d2 aP (aa 5) (aa 7))))
  (di 6 (d2 aP (d2 aP (d2 g7 (fun _=>some (.str "m")) (aa 4)) (aa 8)) (d2 g7 (fun _=>some (.str "m")) (d2 da (d2 da (aa 3) (fun _=>some (.int 1))) (aa 4)))))) (kdF N n r L a g (some (.own (.lst []) none)) none none none none)
   = some (.nx (kdF N n r L a g (some (.own (.lst ([w0,w1].map .str)) none)) (some (.v (.int 1))) z8 none none)):=by
  refine cF (ds:=[.int 0,.int 1]) rfl ?_;rw[kU rfl e0,kU rfl e1];rfl
 rw[ao f1];obtain⟨w2,ew2,ow2⟩:=ve L ⟨Int.le_trans (by decide) hL.1,VP hL.2 (by decide)⟩;have f2:di 6 (d2 g7 (fun _=>some (.str "m")) (aa 3)) (kdF N n r L a g (some (.own (.lst ([w0,w1].map .str)) none)) (some (.v (.int 1))) z8 none none)=some (.nx (kdF N n r L a g (some (.own (.lst ([w0,w1,w2].map .str)) none)) (some (.v (.int 1))) z8 none none)):=by generalize ("m":Str)=em at *;simp[ew2]
 rw[ao f2];have f3:∃(ws:List Str) (q8:Option DV),ws.length=3/\(∀w∈ws,okW w)/\dIf (asB (d2 eqD (d2 aN (d2 aS (aa 2) (fun _=>some (.int 396))) (fun _=>some (.int 3))) (fun _=>some (.int 0)))) (am (aE 8 (d2 ixD (fun _=>some (.str "abcdefghijkl")) (aa 5)))
  (bB 6 (asL (ai (d2 ixD (fun _=>some (.str "abcdefghijkl")) (d2 aP (aa 5) (fun _=>some (.int 1)))) (ai (d2 aP (aa 8) (fun _=>some (.str "m"))) (ai (getV 8) aR)))))) dNx (kdF N n r L a g (some (.own (.lst ([w0,w1,w2].map .str)) none)) (some (.v (.int 1))) z8 none none)
   = some (.nx (kdF N n r L a g (some (.own (.lst (ws.map .str)) none)) (some (.v (.int 1))) q8 none none)):=by
  have d396:=bp r 396 (by decide);have mm:=aU (r/396) 3 (by decide);obtain⟨v0,ev0,ov0⟩:=mf g ⟨hg.1,VP hg.2 (by decide)⟩;obtain⟨v1,ev1,ov1⟩:=mf (g+1) ⟨Int.le_trans hg.1 (Int.le_add_of_nonneg_right (by decide)),VP (Int.add_le_add_right hg.2 1) (by decide)⟩;have om:okL 1 "m":=⟨rfl,by decide⟩
  obtain⟨c1,p1⟩:=nq ov0 om (by decide);have ow2':=pj ow2 ⟨(Int.le_toNat (Int.le_trans (by decide) hL.1)).mpr hL.1,Int.toNat_le.mpr hL.2⟩;have ov0':=pj ov0 (by decide);have ov1':=pj ov1 (by decide);have p1':=pj p1 (by decide);by_cases hz:r/396%3=0
  ·refine⟨[v1,v0 ++ "m",v0],some (.v (.str v0)),rfl,?_,?_⟩
   ·intro w hw;simp only[Yv,Xs,or_false]at hw;rcases hw with rfl|rfl|rfl
    ·exact ov1'
    ·exact p1'
    ·exact ov0'
   ·generalize ("abcdefghijkl":Str)=abc12 at *;generalize v0 ++ "m"=v0m at *;generalize ("m":Str)=em at *;simp[d396,mm,hz,ev0,ev1,c1]
  ·refine⟨[w0,w1,w2],z8,rfl,?_,?_⟩
   ·intro w hw;simp only[Yv,Xs,or_false]at hw;rcases hw with rfl|rfl|rfl
    ·exact ow0
    ·exact ow1
    ·exact ow2'
   ·simp[d396,mm,hz]
 obtain⟨ws,q8,hw3,hwo,f3⟩:=f3;rw[ao f3];have f4:∃m:Int,1<=m/\m<=3/\∀G,(am (aE 9 (d2 ixD (asO (asL (ai (fun _=>some (.int 1)) (ai (fun _=>some (.int 1)) (ai (fun _=>some (.int 2)) (ai (fun _=>some (.int 3)) aR)))))) (d2 aN (d2 aS (aa 2) (fun _=>some (.int 99))) (fun _=>some (.int 4)))))
  (am (bB 10 (asL aR)) G)) (kdF N n r L a g (some (.own (.lst (ws.map .str)) none)) (some (.v (.int 1))) q8 none none)=G (kdF N n r L a g (some (.own (.lst (ws.map .str)) none)) (some (.v (.int 1))) q8 (some (.v (.int m))) (some (.own (.lst []) none))):=by
  have d99:=bp r 99 (by decide);have m4:=aU (r/99) 4 (by decide);have h4:=El (x:=r/99%4) ⟨Zb _ (by decide),YV _ (by decide)⟩;generalize r/99%4=q at *;rcases h4 with rfl|rfl|rfl|rfl
  ·exact⟨1,by decide,by decide,fun G=>by simp[d99,m4,ix1,jx]⟩
  ·exact⟨1,by decide,by decide,fun G=>by simp[d99,m4,ix1,jx]⟩
  ·exact⟨2,by decide,by decide,fun G=>by simp[d99,m4,ix1,jx]⟩
  ·exact⟨3,by decide,by decide,fun G=>by simp[d99,m4,ix1,jx]⟩
 obtain⟨m,m1,m2,f4⟩:=f4;rw[f4];obtain⟨z,e,ks,y7,rfl,hk,hko⟩:=eT (st:=setV 7) (body:=(di 10 (d2 ixD (aa 6) (d2 aN (d2 aS (ak S (aV (d2 aP (aa 2) (d2 fL (aa 7) (aa 7))) (aV (fun _=>some (.int 1618033989)) (fun _=>some [])))) (fun _=>some (.int 7))) (aa 9)))))
  (fun j ρ=>∃ks y7,ρ=kdF N n r L a g (some (.own (.lst (ws.map .str)) none)) y7 q8 (some (.v (.int m))) (some (.own (.lst (ks.map .str)) none))/\ks.length=j/\∀k∈ks,okW k) ((bq n).map .int) 0 (kdF N n r L a g (some (.own (.lst (ws.map .str)) none)) (some (.v (.int 1))) q8 (some (.v (.int m))) (some (.own (.lst []) none))) ⟨[],_,rfl,rfl,fun _ h=>by cases h⟩ (by
   rintro j d _ hj ⟨ks,y7,rfl,hk,hko⟩;rw[Xc]at hk ⊢;have hjn:j<n.toNat:=by have:=(Yk.mp hj).1;rwa [Ye,bj]at this
   rw[rn hj];obtain⟨q,hq,q0,q1⟩:=hS (r+(j:Int)*(j:Int));have u:=fz (j:Int) (j:Int) (.inl (by omega));have d7:=bp q 7 (by decide);have mm:=aU (q/7) m m1;have i0:0<=q/7%m:=Zb _ (Int.ne_of_gt m1);have i1:q/7%m<m:=YV _ m1;obtain⟨w,hw,ew⟩:=fG (l:=ws) D.str i0 (by rw[hw3];exact Int.lt_of_lt_of_le i1 m2);have hl:ks.length<16777216:=by rw[hk];exact Ys hjn (YD (Int.toNat_le.mpr hn.2) (by decide))
   refine⟨_,rfl,kdF N n r L a g (some (.own (.lst (ws.map .str)) none)) (some (.v (.int (j:Int)))) q8 (some (.v (.int m))) (some (.own (.lst ((ks++[w]).map .str)) none)),?_,_,_,rfl,by rw[Yt,YQ,hk],fun x hx=>?_⟩
   ·rw[Zd];have lm:(ks.map D.str).length=ks.length:=Ye ..;generalize ks.map D.str=M at *;generalize ws.map D.str=U at *;generalize (j:Int)=jj at *;simp -implicitDefEqProofs [u,hq,d7,mm,ix1,ew,lm,hl]
   ·rcases Zy.mp hx with hx|hx
    ·exact hko x hx
    ·rw[Ze.mp hx];exact hwo w (YA hw))
 rw[Xc,Ye,bj]at hk;refine⟨ks,?_,by rw[hk];exact VJ hn.1,hko⟩;rw[ao (cF (ds:=(bq n).map .int) (cU rfl ⟨hn.1,Int.le_trans hn.2 (by decide)⟩) e)];rfl
theorem bg{n:Int}{ps:List (Int×Int)}(h:(ps.all fun p=>decide (0<=p.1/\p.1<n/\0<=p.2/\p.2<n/\p.1≠p.2))=true):∀p∈ps,okP n p:=fun p hp=>by
 have c:=ZW (Yh.mp h p hp);exact c
theorem sT(C:Addr)(n f:Int)(hn:n=1\/n=2\/n=3\/n=4\/n=5\/n=6\/n=7)(hf:f=0\/f=1\/f=2\/f=3\/f=4\/f=5\/f=6\/f=7\/f=8):∃ps:List (Int×Int),rF C [.v (.int n),.v (.int f)]=some (.own (.lst (ps.map dP)) none)/\ps.length<=12/\∀p∈ps,okP n p:=by
 rcases hf with rfl|rfl|rfl|rfl|rfl|rfl|rfl|rfl|rfl<;>rcases hn with rfl|rfl|rfl|rfl|rfl|rfl|rfl
 ·exact⟨[],rfl,by decide,bg rfl⟩
 ·exact⟨[],rfl,by decide,bg rfl⟩
 ·exact⟨[],rfl,by decide,bg rfl⟩
 ·exact⟨[],rfl,by decide,bg rfl⟩
 ·exact⟨[],rfl,by decide,bg rfl⟩
 ·exact⟨[],rfl,by decide,bg rfl⟩
 ·exact⟨[],rfl,by decide,bg rfl⟩
 ·exact⟨[],rfl,by decide,bg rfl⟩
 ·exact⟨[],rfl,by decide,bg rfl⟩
 ·exact⟨[(0,1),(1,2),(2,0)],rfl,by decide,bg rfl⟩
 ·exact⟨[(0,1),(1,2),(2,3),(3,0)],rfl,by decide,bg rfl⟩
 ·exact⟨[(0,1),(1,2),(2,3),(3,4),(4,0)],rfl,by decide,bg rfl⟩
 ·exact⟨[(0,1),(1,2),(2,3),(3,4),(4,5),(5,0)],rfl,by decide,bg rfl⟩
 ·exact⟨[(0,1),(1,2),(2,3),(3,4),(4,5),(5,6),(6,0)],rfl,by decide,bg rfl⟩
 ·exact⟨[],rfl,by decide,bg rfl⟩
 ·exact⟨[(0,1)],rfl,by decide,bg rfl⟩
 ·exact⟨[(0,1),(0,2)],rfl,by decide,bg rfl⟩
 ·exact⟨[(0,1),(0,2),(0,3)],rfl,by decide,bg rfl⟩
 ·exact⟨[(0,1),(0,2),(0,3),(0,4)],rfl,by decide,bg rfl⟩
 ·exact⟨[(0,1),(0,2),(0,3),(0,4),(0,5)],rfl,by decide,bg rfl⟩
 ·exact⟨[(0,1),(0,2),(0,3),(0,4),(0,5),(0,6)],rfl,by decide,bg rfl⟩
 ·exact⟨[],rfl,by decide,bg rfl⟩
 ·exact⟨[],rfl,by decide,bg rfl⟩
 ·exact⟨[],rfl,by decide,bg rfl⟩
 ·exact⟨[(0,1),(2,3)],rfl,by decide,bg rfl⟩
 ·exact⟨[(0,1),(2,3)],rfl,by decide,bg rfl⟩
 ·exact⟨[(0,1),(3,4),(1,2),(4,5),(2,0),(5,3)],rfl,by decide,bg rfl⟩
 ·exact⟨[(0,1),(3,4),(1,2),(4,5),(2,0),(5,3)],rfl,by decide,bg rfl⟩
 ·exact⟨[],rfl,by decide,bg rfl⟩
 ·exact⟨[],rfl,by decide,bg rfl⟩
 ·exact⟨[],rfl,by decide,bg rfl⟩
 ·exact⟨[],rfl,by decide,bg rfl⟩
 ·exact⟨[(0,1),(1,2),(2,3),(3,4),(4,0),(0,2),(1,3),(2,4),(3,0),(4,1)],rfl,by decide,bg rfl⟩
 ·exact⟨[],rfl,by decide,bg rfl⟩
 ·exact⟨[],rfl,by decide,bg rfl⟩
 ·exact⟨[],rfl,by decide,bg rfl⟩
 ·exact⟨[(0,1)],rfl,by decide,bg rfl⟩
 ·exact⟨[(0,1),(0,2)],rfl,by decide,bg rfl⟩
 ·exact⟨[(0,2),(0,3),(1,2),(1,3)],rfl,by decide,bg rfl⟩
 ·exact⟨[(0,2),(0,3),(0,4),(1,2),(1,3),(1,4)],rfl,by decide,bg rfl⟩
 ·exact⟨[(0,3),(0,4),(0,5),(1,3),(1,4),(1,5),(2,3),(2,4),(2,5)],rfl,by decide,bg rfl⟩
 ·exact⟨[(0,3),(0,4),(0,5),(0,6),(1,3),(1,4),(1,5),(1,6),(2,3),(2,4),(2,5),(2,6)],rfl,by decide,bg rfl⟩
 ·exact⟨[],rfl,by decide,bg rfl⟩
 ·exact⟨[],rfl,by decide,bg rfl⟩
 ·exact⟨[],rfl,by decide,bg rfl⟩
 ·exact⟨[],rfl,by decide,bg rfl⟩
 ·exact⟨[],rfl,by decide,bg rfl⟩
 ·exact⟨[],rfl,by decide,bg rfl⟩
 ·exact⟨[],rfl,by decide,bg rfl⟩
 ·exact⟨[],rfl,by decide,bg rfl⟩
 ·exact⟨[],rfl,by decide,bg rfl⟩
 ·exact⟨[],rfl,by decide,bg rfl⟩
 ·exact⟨[],rfl,by decide,bg rfl⟩
 ·exact⟨[],rfl,by decide,bg rfl⟩
 ·exact⟨[],rfl,by decide,bg rfl⟩
 ·exact⟨[],rfl,by decide,bg rfl⟩
 ·exact⟨[],rfl,by decide,bg rfl⟩
 ·exact⟨[],rfl,by decide,bg rfl⟩
 ·exact⟨[],rfl,by decide,bg rfl⟩
 ·exact⟨[],rfl,by decide,bg rfl⟩
 ·exact⟨[],rfl,by decide,bg rfl⟩
 ·exact⟨[],rfl,by decide,bg rfl⟩
 ·exact⟨[],rfl,by decide,bg rfl⟩
theorem BR(ns:List Int):(gK ns (some 2) (some 14)).length<=12:=by
 show((ns.drop (min 2 ns.length)).take (min 14 ns.length-min 2 ns.length)).length<=12;refine YD (List.length_take_le _ _) (Nat.sub_le_of_le_add ?_);rcases Nat.le_total 2 ns.length with h|h
 ·rw[Nat.min_eq_left h];exact VF 14 _
 ·rw[Nat.min_eq_right h];exact YD (Nat.min_le_right _ _) (Zr _ 12)
theorem CZ{a g n b:Int}(hn:1<n)(a0:0<=a)(a1:a<n)(g0:0<=g)(g1:g<n-1)(hb:(a+1+g)%n=b):a≠b:=by
 by_cases h:a+1+g<n
 ·rw[Int.emod_eq_of_lt (by omega) h]at hb;omega
 ·have:(a+1+g)%n=a+1+g-n:=by rw[<-Int.sub_emod_right (a+1+g) n,Int.emod_eq_of_lt (by omega) (by omega)]
  omega
abbrev dwC:DF->Option Bool:=(eX (asB (d2 gtI (aa 1) (fun _=>some (.int 1)))) (asB (d2 gtI (d2 aN (aa 5) (fun _=>some (.int 4))) (fun _=>some (.int 0)))))
abbrev dwA:DF->Option RES:=(am (aE 6 (d2 aN (d2 aS (aa 5) (fun _=>some (.int 4))) (aa 1)))
  (am (aE 7 (d2 aN (d2 aP (d2 aP (aa 6) (fun _=>some (.int 1))) (d2 aN (d2 aS (aa 5) (fun _=>some (.int 28))) (d2 da (aa 1) (fun _=>some (.int 1))))) (aa 1)))
  (am (aE 8 (d2 aN (d2 aS (aa 5) (fun _=>some (.int 168))) (fun _=>some (.int 2))))
  (am (dIf (asB (d2 eqD (d2 aN (d2 aS (aa 5) (fun _=>some (.int 336))) (fun _=>some (.int 2))) (fun _=>some (.int 0)))) (aE 8 (d2 aN (d2 aP (aa 4) (aa 3)) (d2 kQ (fun _=>some (.int 10)) (fun _=>some (.int 30))))) dNx)
  (di 2 (asT (ai (getV 6) (ai (getV 7) (ai (getV 8) (ai (d2 eqD (d2 aN (d2 aS (aa 5) (fun _=>some (.int 672))) (fun _=>some (.int 2))) (fun _=>some (.int 1))) aR))))))))))
abbrev dwF(N:List D)(n:Int)(ts:List T4)(x3 x4 x5 x6 x7 x8:Option DV):DF:=[some (.v (.lst N)),some (.v (.int n)),some (.own (.lst (ts.map dT4)) none),x3,x4,x5,x6,x7,x8]
theorem qF(S:Dm)(N:List D)(n k c r:Int)(ts:List T4)(x5 x6 x7 x8:Option DV)(hn:1<=n/\n<=7)(hl:ts.length<=12)(ht:∀t∈ts,okT n t)(hr:0<=r)(hS:S [.v (.int c),.v (.int 1530421987)]=some (.v (.int r))) :
  ∃ts' y5 y6 y7 y8,(am (aE 5 (ak S (aB 4 (aV (fun _=>some (.int 1530421987)) (fun _=>some []))))) (dIf dwC dwA dNx)) (dwF N n ts (some (.v (.int k))) (some (.v (.int c))) x5 x6 x7 x8)=some (.nx (dwF N n ts' (some (.v (.int k))) (some (.v (.int c))) y5 y6 y7 y8))/\ts'.length<=ts.length+1/\∀t∈ts',okT n t:=by
 have s1:∀G,(am (aE 5 (ak S (aB 4 (aV (fun _=>some (.int 1530421987)) (fun _=>some []))))) G) (dwF N n ts (some (.v (.int k))) (some (.v (.int c))) x5 x6 x7 x8)=G (dwF N n ts (some (.v (.int k))) (some (.v (.int c))) (some (.v (.int r))) x6 x7 x8):=by intro G;simp[hS]
 rw[s1,fw];have hc:dwC (dwF N n ts (some (.v (.int k))) (some (.v (.int c))) (some (.v (.int r))) x6 x7 x8)=some (decide (1<n)&&decide (0<r%4)):=by have m4:=aU r 4 (by decide);by_cases a:1<n<;>by_cases b:0<r%4<;>simp[m4,a,b]
 rw[hc,Ya];by_cases hq:(decide (1<n)&&decide (0<r%4))=true
 ·rw[if_pos hq];simp only[Yo,YE]at hq;have n1:=hq.1;have d4:=bp r 4 (by decide);have d28:=bp r 28 (by decide);have d168:=bp r 168 (by decide);have d336:=bp r 336 (by decide);have d672:=bp r 672 (by decide);have mn:=fun x=>aU x n (by omega)
  have mn1:=fun x=>aU x (n-1) (by omega)
  have m2:=fun x=>aU x 2 (by decide)
  have mB:=aU (c+k) 1000000000000000000000000000000 (by decide);generalize ha:r/4%n=a;have g0:0<=r/28%(n-1):=Zb _ (by omega);have g1:r/28%(n-1)<n-1:=YV _ (by omega);generalize hb:(a+1+r/28%(n-1))%n=b;have a0:0<=a:=by rw[<-ha];exact Zb _ (by omega)
  have a1:a<n:=by rw[<-ha];exact YV _ (by omega)
  have b0:0<=b:=by rw[<-hb];exact Zb _ (by omega)
  have b1:b<n:=by rw[<-hb];exact YV _ (by omega)
  have ab:=CZ n1 a0 a1 g0 g1 hb;have k0:0<=r/168%2/\r/168%2<2:=⟨Zb _ (by decide),YV _ (by decide)⟩
  have B0:0<=(c+k)%1000000000000000000000000000000:=Zb _ (by decide);have B1:(c+k)%1000000000000000000000000000000<1000000000000000000000000000000:=YV _ (by decide);have hlen:ts.length<16777216:=by omega
  obtain⟨K,K0,K1,hK⟩:∃K:Int,0<=K/\K<1000000000000000000000000000000/\(if r/336%2=0 then(c+k)%1000000000000000000000000000000 else r/168%2)=K:=by
   split
   ·exact⟨_,B0,B1,rfl⟩
   ·exact⟨_,k0.1,by omega,rfl⟩
  refine⟨ts++[(a,b,K,decide (r/672%2=1))],some (.v (.int r)),some (.v (.int a)),some (.v (.int b)),some (.v (.int K)),?_,ZU (by rw[Yt,YQ]),?_⟩
  ·have lm:(ts.map dT4).length=ts.length:=Ye ..;have dt:dT4 (a,b,K,decide (r/672%2=1))=.tup [.int a,.int b,.int K,.bl (decide (r/672%2=1))]:=rfl;show dwA [some (.v (.lst N)),some (.v (.int n)),some (.own (.lst (ts.map dT4)) none),some (.v (.int k)),some (.v (.int c)),some (.v (.int r)),x6,x7,x8]=some (.nx [some (.v (.lst N)),some (.v (.int n)),some (.own (.lst ((ts++[(a,b,K,decide (r/672%2=1))]).map dT4)) none),_,_,_,_,_,_]);rw[Zd,List.map_singleton,dt];generalize ts.map dT4=M at *;by_cases h3:r/336%2=0
   ·rw[if_pos h3]at hK;simp[dwA,d4,d28,d168,d336,d672,mn,mn1,m2,mB,ha,hb,h3,hK,lm,hlen]
   ·rw[if_neg h3]at hK;simp[dwA,d4,d28,d168,d336,d672,mn,mn1,m2,mB,ha,hb,h3,hK,lm,hlen]
  ·intro u hu;rcases Zy.mp hu with hu|hu
   ·exact ht u hu
   ·rw[Ze.mp hu];exact⟨a0,a1,b0,b1,ab,K0,K1⟩
 ·rw[if_neg hq];exact⟨ts,_,_,_,_,rfl,ZY _,ht⟩
theorem vE(C:Addr)(ns:List Int)(n:Int)(hn:1<=n/\n<=7):∃ts:List T4,lg C [.v (.lst (ns.map .int)),.v (.int n)]=some (.own (.lst (ts.map dT4)) none)/\ts.length<=12/\∀t∈ts,okT n t:=by
 have hS:=fun c=>cQ C c 1530421987 (by decide)
 unfold lg g_q15;generalize dq C=S at hS ⊢;have hcut:gK (ns.map D.int) (some 2) (some 14)=(gK ns (some 2) (some 14)).map D.int:=pK _ _ _ _;have h12:=BR ns;generalize gK ns (some 2) (some 14)=cs at hcut h12;have hel:(gJ (cs.map D.int)).length=cs.length:=by unfold gJ;rw[Ye,List.length_zipIdx,Ye]
 obtain⟨z,e,ts,y3,y4,y5,y6,y7,y8,rfl,hl,ht⟩:=eT (st:=m_ [3,4]) (body:=(am (aE 5 (ak S (aB 4 (aV (fun _=>some (.int 1530421987)) (fun _=>some []))))) (dIf dwC dwA dNx)))
  (fun j ρ=>∃ts y3 y4 y5 y6 y7 y8,ρ=dwF (ns.map .int) n ts y3 y4 y5 y6 y7 y8/\ts.length<=j/\∀t∈ts,okT n t) (gJ (cs.map D.int)) 0 (dwF (ns.map .int) n [] none none none none none none) ⟨[],_,_,_,_,_,_,rfl,Yl _,fun _ h=>by cases h⟩ (by
   rintro j d _ hj ⟨ts,y3,y4,y5,y6,y7,y8,rfl,hl,ht⟩;rw[Xc]at hl ⊢;have hjn:j<cs.length:=by have:=(Yk.mp hj).1;rwa [hel]at this
   obtain⟨d0,h0,rfl⟩:=k7 hj;rw[Yu]at h0;cases hc:cs[j]? with
   |none=>rw[hc]at h0;cases h0
   |some c=>
   rw[hc]at h0;cases h0;obtain⟨r,hr,r0,_⟩:=hS c;obtain⟨ts',z5,z6,z7,z8,e,l',o'⟩:=qF S (ns.map .int) n j c r ts y5 y6 y7 y8 hn (by omega) ht r0 hr;exact⟨_,rfl,_,e,ts',_,_,_,_,_,_,rfl,by omega,o'⟩)
 rw[Xc,hel]at hl;refine⟨ts,?_,by omega,ht⟩;rw[fN];have s0:bB 2 (asL aR) (aM 9 2 [.v (.lst (ns.map .int)),.v (.int n)])=some (.nx (dwF (ns.map .int) n [] none none none none none none)):=rfl;have it:jP (asO (asL (slL (aa 0) (bI (fun _=>some (.int 2))) (bI (fun _=>some (.int 14)))))) (dwF (ns.map .int) n [] none none none none none none)=some (gJ (cs.map D.int)):=by
  have:asO (asL (slL (aa 0) (bI (fun _=>some (.int 2))) (bI (fun _=>some (.int 14))))) (dwF (ns.map .int) n [] none none none none none none)=some (.lst (cs.map .int)):=by rw[<-hcut];rfl
  unfold jP;rw[this]
 rw[ao s0,ao (cF it e)];rfl
def ox(out:List Int)(i:Int):Int:=(out[i.toNat]?).getD 0
theorem iC{n:Int}{out:List Int}(hn:1<=n)(p:out.Perm (bq n)){i:Int}(h:0<=i/\i<n):atI (out.map D.int) i=some (.int (ox out i))/\0<=ox out i/\ox out i<n:=by
 obtain⟨hl,_,hm⟩:=rH hn p;obtain⟨x,hx,e⟩:=fG (l:=out) D.int h.1 (by rw[hl];exact h.2);have:ox out i=x:=by unfold ox;rw[hx];rfl
 rw[this];exact⟨e,hm x (YA hx)⟩
theorem zi{n:Int}{out:List Int}(hn:1<=n)(p:out.Perm (bq n)){i j:Int}(hi:0<=i/\i<n)(hj:0<=j/\j<n)(h:i≠j):ox out i≠ox out j:=by obtain⟨hl,hd,_⟩:=rH hn p;obtain⟨x,hx,_⟩:=fG (l:=out) D.int hi.1 (by rw[hl];exact hi.2);obtain⟨y,hy,_⟩:=fG (l:=out) D.int hj.1 (by rw[hl];exact hj.2);unfold ox;rw[hx,hy];exact BD hd hx hy fun z=>h (by rw[<-VJ hi.1,z,VJ hj.1])
def oxT(out:List Int)(t:T4):T4:=(ox out t.1,ox out t.2.1,t.2.2.1,t.2.2.2)
theorem Bg{n:Int}{out:List Int}(hn:1<=n)(p:out.Perm (bq n)){t:T4}(h:okT n t):okT n (oxT out t):=by obtain⟨a0,a1,b0,b1,ab,k⟩:=h;have h1:=iC hn p ⟨a0,a1⟩;have h2:=iC hn p ⟨b0,b1⟩;exact⟨h1.2.1,h1.2.2,h2.2.1,h2.2.2,zi hn p ⟨a0,a1⟩ ⟨b0,b1⟩ ab,k⟩
abbrev oxE:DF->Option D:=(asT (ai (d2 ixD (aa 1) (d2 ixD (aa 0) (fun _=>some (.int 0)))) (ai (d2 ixD (aa 1) (d2 ixD (aa 0) (fun _=>some (.int 1)))) (ai (d2 ixD (aa 0) (fun _=>some (.int 2))) (ai (d2 ixD (aa 0) (fun _=>some (.int 3))) aR)))))
theorem xD{n:Int}{out:List Int}(hn:1<=n)(p:out.Perm (bq n))(ts:List T4)(ht:∀t∈ts,okT n t):b7 (setV 0) bz oxE [none,some (.v (.lst (out.map .int)))] (ts.map dT4)=some ((ts.map (oxT out)).map dT4):=by rw[Zw];refine bT dT4 _ ts fun t h=>?_;obtain⟨a0,a1,b0,b1,_⟩:=ht t h;have h1:=(iC hn p ⟨a0,a1⟩).1;have h2:=(iC hn p ⟨b0,b1⟩).1;have e0:ixD (dT4 t) (.int 0)=some (.int t.1):=rfl;have e1:ixD (dT4 t) (.int 1)=some (.int t.2.1):=rfl;have e2:ixD (dT4 t) (.int 2)=some (.int t.2.2.1):=rfl;have e3:ixD (dT4 t) (.int 3)=some (.bl t.2.2.2):=rfl;have ef:(dT4 ∘ oxT out) t=.tup [.int (ox out t.1),.int (ox out t.2.1),.int t.2.2.1,.bl t.2.2.2]:=rfl;refine⟨[some (.v (dT4 t)),some (.v (.lst (out.map .int)))],rfl,rfl,?_⟩;rw[ef];generalize dT4 t=T at *;generalize out.map D.int=O at *;simp[e0,e1,e2,e3,ix1,h1,h2]
abbrev flF(N:List D)(q kd:Int)(o:Bool)(x5 x6 x7 x8 x9:Option DV):DF:=[some (.v (.lst N)),some (.v (.int q)),some (.v (.int kd)),some (.v (.bl o)),some (.v (.int 7)),x5,x6,x7,x8,x9]
theorem kY(Or Kd:Dm)(N:List D)(q kd n:Int)(o:Bool)(ts:List T4)(x7:Option DV)(out:List Int)(k0:Str)(hn:1<=n/\n<=7)(hl:ts.length<=12)(ht:∀t∈ts,okT n t)(p:out.Perm (bq n))(hO:Or [.v (.lst N),.v (.int n),.v (.int 742938285)]=some (.own (.lst (out.map .int)) none))
  (hK:Kd [.v (.lst N),.v (.int 1)]=some (.own (.lst [.str k0]) none)) (ok:okW k0):∃(ks:List Str) (us:List T4) (z:DF),okK n ks/\okS n us /\
  (am (aE 8 (ak Or (aB 0 (aV (getV 6) (aV (fun _=>some (.int 742938285)) (fun _=>some []))))))
  (am (aE 9 (asO (asL (aW 1 [0] (cg (aa 6)) (setV 0) bz (d2 ixD (ak Kd (aB 1 (aV (fun _=>some (.int 1)) (fun _=>some [])))) (fun _=>some (.int 0)))))))
  (bw (asT (ai (getV 9) (ai (asO (asL (aW 1 [8] (cf 5) (setV 0) bz oxE))) aR))))))
   (flF N q kd o (some (.v (.lst (ts.map dT4)))) (some (.v (.int n))) x7 none none)=some (.rt (.v (.tup [.lst (ks.map .str),.lst (us.map dT4)])) z):=by
 have c1:=xD hn.1 p ts ht;have c2:b7 (setV 0) bz (d2 ixD (ak Kd (aB 1 (aV (fun _=>some (.int 1)) (fun _=>some [])))) (fun _=>some (.int 0))) [none,some (.v (.lst N))] ((bq n).map .int)=some (((bq n).map fun _=>k0).map .str):=by
  rw[Zw];refine bT D.int _ (bq n) fun x _=>⟨[some (.v (.int x)),some (.v (.lst N))],rfl,rfl,?_⟩
  have e0:ixD (.lst [.str k0]) (.int 0)=some (.str k0):=rfl;simp[hK,e0]
 have l1:(ts.map dT4).length<=16777216:=by rw[Ye];omega
 have l2:((bq n).map D.int).length<=16777216:=by rw[Ye,bj];omega
 have hr:∀x8 x9,cg (aa 6) (flF N q kd o (some (.v (.lst (ts.map dT4)))) (some (.v (.int n))) x7 x8 x9)=some ((bq n).map .int):=fun _ _=>cU rfl ⟨by omega,by omega⟩
 refine⟨(bq n).map fun _=>k0,ts.map (oxT out),flF N q kd o (some (.v (.lst (ts.map dT4)))) (some (.v (.int n))) x7 (some (.v (.lst (out.map .int)))) (some (.v (.lst (((bq n).map fun _=>k0).map .str)))),⟨by rw[Ye,bj];omega,fun k hk=>?_⟩,⟨by rw[Ye];exact hl,fun t h=>?_⟩,?_⟩
 ·obtain⟨_,_,rfl⟩:=Ym.mp hk;exact ok
 ·obtain⟨u,hu,rfl⟩:=Ym.mp h;exact Bg hn.1 p (ht u hu)
 ·generalize (d2 ixD (ak Kd (aB 1 (aV (fun _=>some (.int 1)) (fun _=>some [])))) (fun _=>some (.int 0)))=E2 at *;generalize hE:oxE=E1 at *;generalize ((bq n).map fun _=>k0).map D.str=A at *;generalize (ts.map (oxT out)).map dT4=B at *;generalize ts.map dT4=T at *;generalize out.map D.int=O at *;generalize (bq n).map D.int=R at *;simp[hO,bE,hr,l1,l2,c1,c2]
theorem xg(a b:List T4)(h:a.length+b.length<=1000):aP (.lst (a.map dT4)) (.lst (b.map dT4))=some (.lst ((a++b).map dT4)):=by rw[xc _ _ (by rw[Ye,Ye];omega),Zd]
abbrev flI:DF->Option RES:=(dIf (eX (asB (d2 gtI (aa 4) (fun _=>some (.int 6)))) (asB (d2 eqD (d2 aN (aa 1) (fun _=>some (.int 2))) (fun _=>some (.int 0))))) (am (aE 5 (asO (asL (aW 1 [2,3] (cg (fun _=>some (.int 3))) (setV 0) bz (asT (ai (getV 0) (ai (d2 aN (d2 aP (aa 0) (fun _=>some (.int 1))) (fun _=>some (.int 3))) (ai (getV 1) (ai (getV 2) aR)))))))))
  (am (aE 5 (d2 aP (aa 5) (asO (asL (aW 1 [2,3] (cg (fun _=>some (.int 4))) (setV 0) bz (asT (ai (d2 aP (fun _=>some (.int 3)) (aa 0)) (ai (d2 aP (fun _=>some (.int 3)) (d2 aN (d2 aP (aa 0) (fun _=>some (.int 1))) (fun _=>some (.int 4)))) (ai (getV 1) (ai (getV 2) aR))))))))))
  (aE 6 (fun _=>some (.int 7))))) (am (aE 7 (d2 aN (d2 aP (aa 2) (fun _=>some (.int 1))) (d2 kQ (fun _=>some (.int 10)) (fun _=>some (.int 30)))))
  (aE 5 (d2 aP (aa 5) (asO (asL (ai (asT (ai (fun _=>some (.int 0)) (ai (fun _=>some (.int 2)) (ai (getV 7) (ai (fun _=>some (.bl false)) aR))))) (ai (asT (ai (fun _=>some (.int 3)) (ai (fun _=>some (.int 5)) (ai (getV 7) (ai (fun _=>some (.bl false)) aR))))) (ai (asT (ai (fun _=>some (.int 1)) (ai (fun _=>some (.int 4)) (ai (getV 7) (ai (fun _=>some (.bl false)) aR))))) aR)))))))))
theorem mK{n a b k:Int}{o:Bool}(h:0<=a/\a<n/\0<=b/\b<n/\a≠b)(hk:0<=k/\k<1000000000000000000000000000000):okT n (a,b,k,o):=⟨h.1,h.2.1,h.2.2.1,h.2.2.2.1,h.2.2.2.2,hk.1,hk.2⟩
theorem BB{n:Nat}{g:Dw}{a b c d e:DV}:mOf n 5 g [a,b,c,d,e]=dC (g (aM n 5 [a,b,c,d,e])):=rfl
theorem vo(C:Addr)(ns:List Int)(q kd:Int)(o:Bool)(hk:0<=kd/\kd<1000000000000000000000000000000):∃(n:Int) (ks:List Str) (us:List T4),(1<=n/\n<=7)/\okK n ks/\okS n us/\n0 C [.v (.lst (ns.map .int)),.v (.int q),.v (.int kd),.v (.bl o),.v (.int 7)]=some (.v (.tup [.lst (ks.map .str),.lst (us.map dT4)])):=by
 obtain⟨o6,hO6,p6⟩:=g_ C ns 6 742938285 (by decide) (by decide);obtain⟨o7,hO7,p7⟩:=g_ C ns 7 742938285 (by decide) (by decide);obtain⟨k1,hK,kl,ko⟩:=nU C ns 1 (by decide);obtain⟨k0,rfl⟩:∃k0,k1=[k0]:=List.length_eq_one_iff.mp (by omega);have ok:=ko k0 Yd;have hK:iF C [.v (.lst (ns.map .int)),.v (.int 1)]=some (.own (.lst [.str k0]) none):=hK;unfold n0 g_q16;generalize kG C=Or at hO6 hO7 ⊢;generalize iF C=Kd at hK ⊢;generalize ns.map D.int=N at *;have m2:=aU q 2 (by decide);have mB:=aU (kd+1) 1000000000000000000000000000000 (by decide)
 let R6:List T4:=[(0,1,kd,o),(1,2,kd,o),(2,3,kd,o),(3,4,kd,o),(4,5,kd,o),(5,0,kd,o)]
 let R7:List T4:=[(0,1,kd,o),(1,2,kd,o),(2,0,kd,o),(3,4,kd,o),(4,5,kd,o),(5,6,kd,o),(6,3,kd,o)]
 have f0:0<=(kd+1)%1000000000000000000000000000000:=Zb _ (by decide);have f1:(kd+1)%1000000000000000000000000000000<1000000000000000000000000000000:=YV _ (by decide);generalize hF:(kd+1)%1000000000000000000000000000000=fr at *
 let X3:List T4:=[(0,2,fr,false),(3,5,fr,false),(1,4,fr,false)]
 have s1:∀G,(am (aE 5 (asO (asL (aW 1 [2,3] (cg (fun _=>some (.int 6))) (setV 0) bz (asT (ai (getV 0) (ai (d2 aN (d2 aP (aa 0) (fun _=>some (.int 1))) (fun _=>some (.int 6))) (ai (getV 1) (ai (getV 2) aR)))))))))
  (am (aE 6 (fun _=>some (.int 6))) G)) (flF N q kd o none none none none none)=G (flF N q kd o (some (.v (.lst (R6.map dT4)))) (some (.v (.int 6))) none none none):=fun G=>rfl
 rw[BB,show aM 10 5 [.v (.lst N),.v (.int q),.v (.int kd),.v (.bl o),.v (.int 7)]=flF N q kd o none none none none none from rfl,s1];by_cases hq:q%2=0
 ·have s2:flI (flF N q kd o (some (.v (.lst (R6.map dT4)))) (some (.v (.int 6))) none none none)
   = some (.nx (flF N q kd o (some (.v (.lst (R7.map dT4)))) (some (.v (.int 7))) none none none)):=by
   have hc:eX (asB (d2 gtI (aa 4) (fun _=>some (.int 6)))) (asB (d2 eqD (d2 aN (aa 1) (fun _=>some (.int 2))) (fun _=>some (.int 0)))) (flF N q kd o (some (.v (.lst (R6.map dT4)))) (some (.v (.int 6))) none none none)=some true:=by simp[m2,hq]
   unfold flI;rw[fw,hc,Ya,if_pos rfl];rfl
  rw[ao s2];obtain⟨ks,us,z,h1,h2,e⟩:=kY Or Kd N q kd 7 o R7 none o7 k0 (by decide) (by show 7<=12;decide) (fun t ht=>by
   simp only[R7,Yv,Xs,or_false]at ht;rcases ht with rfl|rfl|rfl|rfl|rfl|rfl|rfl<;>exact mK (by decide) hk) p7 hO7 hK ok
  refine⟨7,ks,us,by decide,h1,h2,?_⟩;rw[e];rfl
 ·have s2:flI (flF N q kd o (some (.v (.lst (R6.map dT4)))) (some (.v (.int 6))) none none none)
   = some (.nx (flF N q kd o (some (.v (.lst ((R6++X3).map dT4)))) (some (.v (.int 6))) (some (.v (.int fr))) none none)):=by
   have hc:eX (asB (d2 gtI (aa 4) (fun _=>some (.int 6)))) (asB (d2 eqD (d2 aN (aa 1) (fun _=>some (.int 2))) (fun _=>some (.int 0)))) (flF N q kd o (some (.v (.lst (R6.map dT4)))) (some (.v (.int 6))) none none none)=some false:=by simp[m2,hq]
   unfold flI;rw[fw,hc,Ya,if_neg Yj];have t1:aE 7 (d2 aN (d2 aP (aa 2) (fun _=>some (.int 1))) (d2 kQ (fun _=>some (.int 10)) (fun _=>some (.int 30)))) (flF N q kd o (some (.v (.lst (R6.map dT4)))) (some (.v (.int 6))) none none none)=some (.nx (flF N q kd o (some (.v (.lst (R6.map dT4)))) (some (.v (.int 6))) (some (.v (.int fr))) none none)):=by generalize R6.map dT4=U;simp[mB]
   rw[ao t1];rfl
  rw[ao s2];obtain⟨ks,us,z,h1,h2,e⟩:=kY Or Kd N q kd 6 o (R6++X3) (some (.v (.int fr))) o6 k0 (by decide) (by show 9<=12;decide) (fun t ht=>by
   simp only[R6,X3,List.cons_append,List.nil_append,Yv,Xs,or_false]at ht;rcases ht with rfl|rfl|rfl|rfl|rfl|rfl|rfl|rfl|rfl<;>first|exact mK (by decide) hk|exact mK (by decide) ⟨f0,f1⟩) p6 hO6 hK ok
  refine⟨6,ks,us,by decide,h1,h2,?_⟩;rw[e];rfl
abbrev wxF(N:List D)(r n f K:Int)(o:Bool)(x8 x9 x10:Option DV):DF:=[some (.v (.lst N)),some (.v (.int 7)),some (.v (.int 7)),some (.v (.int r)),some (.v (.int n)),some (.v (.int f)),some (.v (.int K)),some (.v (.bl o)),x8,x9,x10]
theorem DK{A S Fo:Dm}{N:List D}{x r n f K:Int}(hx:A [.v (.lst N),.v (.int 0)]=some (.v (.int x)))(hr:S [.v (.int x),.v (.int 1873046521)]=some (.v (.int r)))(m7:aN (.int r) (.int 7)=some (.int (r%7)))(en:1+r%7=n)(d7:aS (.int r) (.int 7)=some (.int (r/7)))(m9:aN (.int (r/7)) (.int 9)=some (.int f))
  (hF:Fo [.v (.lst N),.v (.int 1000000000000000000000000000000)]=some (.v (.int K))) (d56:aS (.int r) (.int 56)=some (.int (r/56))) (m2:aN (.int (r/56)) (.int 2)=some (.int (r/56%2))) (G:Dw) :
  (am (aE 3 (ak S (aV (ak A (aB 0 (aV (fun _=>some (.int 0)) (fun _=>some [])))) (aV (fun _=>some (.int 1873046521)) (fun _=>some [])))))
  (am (aE 4 (d2 aP (fun _=>some (.int 1)) (d2 aN (aa 3) (aa 1))))
  (am (aE 5 (d2 aN (d2 aS (aa 3) (fun _=>some (.int 7))) (fun _=>some (.int 9))))
  (am (aE 6 (ak Fo (aB 0 (aV (d2 kQ (fun _=>some (.int 10)) (fun _=>some (.int 30))) (fun _=>some [])))))
  (am (aE 7 (d2 eqD (d2 aN (d2 aS (aa 3) (fun _=>some (.int 56))) (fun _=>some (.int 2))) (fun _=>some (.int 1))))
  G))))) [some (.v (.lst N)),some (.v (.int 7)),some (.v (.int 7)),none,none,none,none,none,none,none,none]=G (wxF N r n f K (decide (r/56%2=1)) none none none):=by
 simp[hx,hr,m7,en,d7,m9,hF,d56,m2]
theorem D1{N:List D}{r n f K:Int}{o:Bool}{ks:List D}{ts ds:List T4}{Dr:Dm}{x9:Option DV}(hn:1<=n/\n<=7)(ht:okS n ts)(hd:okS n ds)(hD:Dr [.v (.lst N),.v (.int n)]=some (.own (.lst (ds.map dT4)) none)):∃(us:List T4) (z:DF),okS n us /\
  (am (dIf (asB (d2 eqD (d2 aN (d2 aS (aa 3) (fun _=>some (.int 112))) (fun _=>some (.int 3))) (fun _=>some (.int 0)))) (aE 10 (asO (asL (slL (d2 aP (aa 10) (ak Dr (aB 0 (aB 4 (fun _=>some []))))) bNo (bI (fun _=>some (.int 12))))))) dNx)
  (am (dIf (eX (asB (d2 eqD (d2 aN (d2 aS (aa 3) (fun _=>some (.int 112))) (fun _=>some (.int 3))) (fun _=>some (.int 1)))) (asB (d2 ltd (d1 bP (ay 10)) (fun _=>some (.int 7))))) (aE 10 (d2 aP (aa 10) (aa 10))) dNx)
  (bw (asT (ai (getV 8) (ai (getV 10) aR)))))) (wxF N r n f K o (some (.v (.lst ks))) x9 (some (.v (.lst (ts.map dT4)))))=some (.rt (.v (.tup [.lst ks,.lst (us.map dT4)])) z):=by
 have d112:=bp r 112 (by decide);have m3:=aU (r/112) 3 (by decide);have h1:∃us:List T4,okS n us/\(dIf (asB (d2 eqD (d2 aN (d2 aS (aa 3) (fun _=>some (.int 112))) (fun _=>some (.int 3))) (fun _=>some (.int 0)))) (aE 10 (asO (asL (slL (d2 aP (aa 10) (ak Dr (aB 0 (aB 4 (fun _=>some []))))) bNo (bI (fun _=>some (.int 12))))))) dNx) (wxF N r n f K o (some (.v (.lst ks))) x9 (some (.v (.lst (ts.map dT4)))))=some (.nx (wxF N r n f K o (some (.v (.lst ks))) x9 (some (.v (.lst (us.map dT4))))))/\(r/112%3=1->us=ts):=by
  by_cases h:r/112%3=0
  ·have ha:=xg ts ds (by have:=ht.1;have:=hd.1;omega);have hc:gK ((ts++ds).map dT4) none (some 12)=((ts++ds).take 12).map dT4:=by rw[pK,x_ _ (by decide)];rfl
   refine⟨(ts++ds).take 12,⟨by rw[ZQ];omega,fun t h=>?_⟩,?_,fun z=>by omega⟩
   ·rcases Zy.mp (List.mem_of_mem_take h)with h|h
    ·exact ht.2 t h
    ·exact hd.2 t h
   ·generalize ((ts++ds).take 12).map dT4=W at *;generalize (ts++ds).map dT4=V at *;generalize ds.map dT4=Y at *;generalize ts.map dT4=X at *;simp[d112,m3,h,hD,ha,AA,hc]
  ·refine⟨ts,ht,?_,fun _=>rfl⟩;generalize ts.map dT4=X at *;simp[d112,m3,h]
 obtain⟨us,hu,e1,e1'⟩:=h1;rw[ao e1];have h2:∃vs:List T4,okS n vs/\(dIf (eX (asB (d2 eqD (d2 aN (d2 aS (aa 3) (fun _=>some (.int 112))) (fun _=>some (.int 3))) (fun _=>some (.int 1)))) (asB (d2 ltd (d1 bP (ay 10)) (fun _=>some (.int 7))))) (aE 10 (d2 aP (aa 10) (aa 10))) dNx) (wxF N r n f K o (some (.v (.lst ks))) x9 (some (.v (.lst (us.map dT4)))))=some (.nx (wxF N r n f K o (some (.v (.lst ks))) x9 (some (.v (.lst (vs.map dT4)))))):=by
  have lm:(us.map dT4).length=us.length:=Ye ..;by_cases h:r/112%3=1
  ·by_cases hl:(us.length:Int)<7
   ·have ha:=xg us us (by omega);refine⟨us++us,⟨by rw[Yt];omega,fun t h=>?_⟩,?_⟩
    ·rcases Zy.mp h with h|h
     ·exact hu.2 t h
     ·exact hu.2 t h
    ·generalize (us++us).map dT4=V at *;generalize us.map dT4=X at *;simp[d112,m3,h,lm,hl,ha]
   ·refine⟨us,hu,?_⟩;generalize us.map dT4=X at *;simp[d112,m3,h,lm,hl]
  ·refine⟨us,hu,?_⟩;generalize us.map dT4=X at *;simp[d112,m3,h]
 obtain⟨vs,hv,e2⟩:=h2;rw[ao e2];exact⟨vs,_,hv,rfl⟩
abbrev pxE:DF->Option D:=(asT (ai (d2 ixD (aa 1) (d2 ixD (aa 0) (fun _=>some (.int 0)))) (ai (d2 ixD (aa 1) (d2 ixD (aa 0) (fun _=>some (.int 1)))) (ai (getV 2) (ai (getV 3) aR)))))
def pxT(out:List Int)(K:Int)(o:Bool)(p:Int×Int):T4:=(ox out p.1,ox out p.2,K,o)
theorem y0{n K:Int}{o:Bool}{out:List Int}(hn:1<=n)(p:out.Perm (bq n))(ps:List (Int×Int))(hp:∀q∈ps,okP n q):b7 (setV 0) bz pxE [none,some (.v (.lst (out.map .int))),some (.v (.int K)),some (.v (.bl o))] (ps.map dP)=some ((ps.map (pxT out K o)).map dT4):=by rw[Zw];refine bT dP _ ps fun q h=>?_;obtain⟨a0,a1,b0,b1,_⟩:=hp q h;have h1:=(iC hn p ⟨a0,a1⟩).1;have h2:=(iC hn p ⟨b0,b1⟩).1;have e0:ixD (dP q) (.int 0)=some (.int q.1):=rfl;have e1:ixD (dP q) (.int 1)=some (.int q.2):=rfl;have ef:(dT4 ∘ pxT out K o) q=.tup [.int (ox out q.1),.int (ox out q.2),.int K,.bl o]:=rfl;refine⟨[some (.v (dP q)),some (.v (.lst (out.map .int))),some (.v (.int K)),some (.v (.bl o))],rfl,rfl,?_⟩;rw[ef];generalize dP q=T at *;generalize out.map D.int=O at *;simp[e0,e1,ix1,h1,h2]
theorem DU{N:List D}{r n f K:Int}{o:Bool}{ks:List D}{Or Pr:Dm}{out:List Int}{ps:List (Int×Int)}(hn:1<=n/\n<=7)(p:out.Perm (bq n))(hp:∀q∈ps,okP n q)(hl:ps.length<=12)
  (hO:Or [.v (.lst N),.v (.int n),.v (.int 742938285)]=some (.own (.lst (out.map .int)) none)) (hP:Pr [.v (.int n),.v (.int f)]=some (.own (.lst (ps.map dP)) none)) (G:Dw) :
  (am (aE 9 (ak Or (aB 0 (aV (getV 4) (aV (fun _=>some (.int 742938285)) (fun _=>some []))))))
  (am (aE 10 (asO (asL (aW 1 [9,6,7] (fP (ak Pr (aB 4 (aB 5 (fun _=>some []))))) (setV 0) bz pxE))))
  G)) (wxF N r n f K o (some (.v (.lst ks))) none none)=G (wxF N r n f K o (some (.v (.lst ks))) (some (.v (.lst (out.map .int)))) (some (.v (.lst ((ps.map (pxT out K o)).map dT4))))):=by
 have c1:=y0 (K:=K) (o:=o) hn.1 p ps hp;have l1:(ps.map dP).length<=16777216:=by rw[Ye];omega
 generalize hE:pxE=E1 at *;generalize (ps.map (pxT out K o)).map dT4=B at *;generalize ps.map dP=T at *;generalize out.map D.int=O at *;simp[hO,hP,bE,l1,c1]
theorem yR(C:Addr)(ns:List Int):∃(n:Int) (ks:List Str) (us:List T4),(1<=n/\n<=7)/\okK n ks/\okS n us/\lv C [.v (.lst (ns.map .int)),.v (.int 7),.v (.int 7)]=some (.v (.tup [.lst (ks.map .str),.lst (us.map dT4)])):=by
 obtain⟨x,hx⟩:=rO C ns 0 (by decide);obtain⟨r,hr,r0,_⟩:=cQ C x 1873046521 (by decide);obtain⟨K,hK,K0,K1⟩:=ym C ns;have hn:1<=1+r%7/\1+r%7<=7:=by omega
 obtain⟨n,en⟩:∃n,1+r%7=n:=⟨_,rfl⟩
 rw[en]at hn;have hfb:0<=r/7%9/\r/7%9<9:=by omega
 obtain⟨f,ef⟩:∃f,r/7%9=f:=⟨_,rfl⟩
 rw[ef]at hfb;have m9:=aU (r/7) 9 (by decide);rw[ef]at m9;have hFa:=fun q o=>vo C ns q K o ⟨K0,K1⟩
 obtain⟨ks,hKd,kl,ko⟩:=nU C ns n (by omega);obtain⟨ds,hDr,dl,dk⟩:=vE C ns n hn;obtain⟨out,hOr,p⟩:=g_ C ns n 742938285 hn (by decide);obtain⟨ps,hPr,pl,pk⟩:=sT C n f (Bk ⟨hn.1,Int.lt_add_one_of_le hn.2⟩) (D9 hfb);unfold lv g_q27;generalize dq C=S at hr ⊢;generalize eV C=A at hx ⊢;generalize oK C=Fo at hK ⊢;generalize n0 C=Fa at hFa ⊢;generalize iF C=Kd at hKd ⊢;generalize lg C=Dr at hDr ⊢;generalize kG C=Or at hOr ⊢;generalize rF C=Pr at hPr ⊢;generalize ns.map D.int=N at *;rw[rS,show aM 11 3 [.v (.lst N),.v (.int 7),.v (.int 7)]=[some (.v (.lst N)),some (.v (.int 7)),some (.v (.int 7)),none,none,none,none,none,none,none,none]from rfl,DK hx hr (aU _ _ (by decide)) en (bp _ _ (by decide)) m9 hK (bp _ _ (by decide)) (aU _ _ (by decide))];generalize decide (r/56%2=1)=o at *;have m8:=aU f 8 (by decide);have d112:=bp r 112 (by decide);by_cases h8:f%8=0
 ·obtain⟨n',ks',us',hn',hk',hu',e⟩:=hFa (r/112) o;refine⟨n',ks',us',hn',hk',hu',?_⟩;have s1:(dIf (asB (d2 eqD (d2 aN (aa 5) (fun _=>some (.int 8))) (fun _=>some (.int 0)))) (bw (ak Fa (aB 0 (aV (d2 aS (aa 3) (fun _=>some (.int 112))) (aV (getV 6) (aV (getV 7) (aB 2 (fun _=>some [])))))))) dNx) (wxF N r n f K o none none none)=some (.rt (.v (.tup [.lst (ks'.map .str),.lst (us'.map dT4)])) (wxF N r n f K o none none none)):=by generalize ks'.map D.str=X at *;generalize us'.map dT4=Y at *;simp[m8,h8,d112,e]
  rw[ss s1];rfl
 ·have s1:(dIf (asB (d2 eqD (d2 aN (aa 5) (fun _=>some (.int 8))) (fun _=>some (.int 0)))) (bw (ak Fa (aB 0 (aV (d2 aS (aa 3) (fun _=>some (.int 112))) (aV (getV 6) (aV (getV 7) (aB 2 (fun _=>some [])))))))) dNx) (wxF N r n f K o none none none)=some (.nx (wxF N r n f K o none none none)):=by simp[m8,h8]
  have s2:(aE 8 (ak Kd (aB 0 (aB 4 (fun _=>some []))))) (wxF N r n f K o none none none)=some (.nx (wxF N r n f K o (some (.v (.lst (ks.map .str)))) none none)):=by generalize ks.map D.str=X at *;simp[hKd]
  rw[ao s1,ao s2];by_cases h5:5<f
  ·refine⟨n,ks,ds,hn,⟨kl,ko⟩,⟨dl,dk⟩,?_⟩;have s3:(dIf (asB (d2 gtI (aa 5) (fun _=>some (.int 5)))) (bw (asT (ai (getV 8) (ai (ak Dr (aB 0 (aB 4 (fun _=>some [])))) aR)))) dNx) (wxF N r n f K o (some (.v (.lst (ks.map .str)))) none none)=some (.rt (.v (.tup [.lst (ks.map .str),.lst (ds.map dT4)])) (wxF N r n f K o (some (.v (.lst (ks.map .str)))) none none)):=by generalize ks.map D.str=X at *;generalize ds.map dT4=Y at *;simp[h5,hDr]
   rw[ss s3];rfl
  ·have s3:(dIf (asB (d2 gtI (aa 5) (fun _=>some (.int 5)))) (bw (asT (ai (getV 8) (ai (ak Dr (aB 0 (aB 4 (fun _=>some [])))) aR)))) dNx) (wxF N r n f K o (some (.v (.lst (ks.map .str)))) none none)=some (.nx (wxF N r n f K o (some (.v (.lst (ks.map .str)))) none none)):=by simp[h5]
   have ht:okS n (ps.map (pxT out K o)):=⟨by rw[Ye];exact pl,fun t h=>by
    obtain⟨q,hq,rfl⟩:=Ym.mp h;obtain⟨a0,a1,b0,b1,ab⟩:=pk q hq;have h1:=iC hn.1 p ⟨a0,a1⟩;have h2:=iC hn.1 p ⟨b0,b1⟩;exact⟨h1.2.1,h1.2.2,h2.2.1,h2.2.2,zi hn.1 p ⟨a0,a1⟩ ⟨b0,b1⟩ ab,K0,K1⟩⟩
   obtain⟨us,z,hu,e⟩:=D1 (N:=N) (r:=r) (f:=f) (K:=K) (o:=o) (ks:=ks.map .str) (x9:=some (.v (.lst (out.map .int)))) hn ht ⟨dl,dk⟩ hDr;refine⟨n,ks,us,hn,⟨kl,ko⟩,hu,?_⟩;rw[ao s3,DU hn p pk pl hOr hPr,e];rfl
end My
namespace L2
open PySem PySem.Spec PyProof.Rows
noncomputable def vn (acc:List D)(d:D):List D:=open Classical in if d∈acc then acc else acc++[d]
theorem uI(ds:List D):∀acc:List D,(∀d,d∈ds.foldl vn acc↔d∈acc\/d∈ds)/\(acc.Nodup->(ds.foldl vn acc).Nodup):=by
 induction ds with
 |nil=>exact fun acc=>⟨fun d=>by simp,fun h=>h⟩
 |cons x r ih=>
  intro acc;rw[List.foldl_cons];by_cases hx:x∈acc
  ·rw[show vn acc x=acc from if_pos hx];obtain⟨h1,h2⟩:=ih acc;refine⟨fun d=>(h1 d).trans ⟨fun z=>z.imp id (Yc _),fun z=>?_⟩,h2⟩;rcases z with z|z
   ·exact .inl z
   ·rcases Yv.mp z with rfl|z
    ·exact .inl hx
    ·exact .inr z
  ·rw[show vn acc x=acc++[x]from if_neg hx];obtain⟨h1,h2⟩:=ih (acc++[x]);refine⟨fun d=>(h1 d).trans ?_,fun nd=>h2 (List.nodup_append.mpr ⟨nd,by simp,fun a ha b hb=>?_⟩)⟩
   ·rw[Zy,Ze,Yv];constructor
    ·rintro ((z|z)|z)
     ·exact .inl z
     ·exact .inr (.inl z)
     ·exact .inr (.inr z)
    ·rintro (z|z|z)
     ·exact .inl (.inl z)
     ·exact .inl (.inr z)
     ·exact .inr z
   ·rw[Ze]at hb;subst hb;rintro rfl;exact hx ha
theorem bR{ds:List D}{d:D}:d∈aL ds↔d∈ds:=by have:=(uI ds []).1 d;rw[show aL ds=ds.foldl vn []from rfl,this];simp
theorem ka(ds:List D):(aL ds).Nodup:=(uI ds []).2 List.nodup_nil
def rkD(L:List D)(d:D):Nat:=(L.filter fun x=>ltD x d).length
theorem wR{L M:List D}(p:L.Perm M)(d:D):rkD L d=rkD M d:=(p.filter _).length_eq
theorem nZ{n:Nat}{d:D}:∀{L:List D},Cmps n L->L.Pairwise (fun a b=>ltD b a=false)->L.Nodup->d∈L->gc d L=some (rkD L d)
 |[],_,_,_,h=>by cases h
 |x::r,hc,hs,nd,h=>by
  have hx:okN n x=true:=hc.1 x Yd;obtain⟨s1,s2⟩:=ZC.mp hs;obtain⟨n1,n2⟩:=Zh.mp nd;have irr:ltD x x=false:=by
   cases q:ltD x x with
   |false=>rfl
   |true=>have:=(eG n x x hx hx (hc.2 x Yd x Yd)).as q;rw[q]at this;cases this
  unfold gc rkD;rcases Yv.mp h with rfl|hr
  ·rw[if_pos ((cq _ _ (hc.2 _ Yd _ Yd)).mpr rfl),List.filter_cons_of_neg (by rw[irr];exact Yj)];rw[List.filter_eq_nil_iff.mpr fun y hy=>by rw[s1 y hy];exact Yj];rfl
  ·have hne:x≠d:=fun z=>n1 (z ▸ hr)
   have hm:d∈x::r:=h;have hlt:ltD x d=true:=by
    cases q:ltD x d with
    |true=>rfl
    |false=>exact absurd ((eG n x d hx (hc.1 d hm) (hc.2 x Yd d hm)).an q (s1 d hr)) hne
   rw[if_neg fun z=>hne ((cq _ _ (hc.2 x Yd d hm)).mp z),List.filter_cons_of_pos (p:=fun x=>ltD x d) hlt];rw[nZ (hc.sub fun y hy=>Yc _ hy) s2 n2 hr];rfl
theorem sd{n:Nat}{ds:List D}(hc:Cmps n ds){d:D}(hd:d∈ds):gc d (aQ (aL ds))=some (rkD (aL ds) d):=by
 have hc':Cmps n (aL ds):=hc.sub fun x hx=>bR.mp hx
 have p:=bn (aL ds);rw[nZ (hc'.perm p.symm) (cK hc') ((p.nodup_iff).mpr (ka ds)) (p.mem_iff.mpr (bR.mpr hd)),wR p]
end L2
namespace My
open PySem PySem.Spec PyProof.Rows L2
noncomputable def rks (ds:List D):List Int:=ds.map fun d=>(rkD (aL ds) d:Int)
theorem fD(ds:List D):(rks ds).length=ds.length:=Ye ..
theorem lM{c:Dk}{ρ:DF}(q:D->Bool):∀xs:List D,(∀x∈xs,c (ρ.set 0 (some (.v x)))=some (q x))->0<ρ.length->b7 (setV 0) c (getV 0) ρ xs=some (xs.filter q)
 |[],_,_=>rfl
 |x::xs,h,hl=>by
  have h0:getV 0 (ρ.set 0 (some (.v x)))=some x:=by unfold getV;rw[YZ hl]
  unfold b7;rw[show setV 0 x ρ=some (ρ.set 0 (some (.v x)))from rfl,Ya,h x Yd,Ya,lM q xs (fun y hy=>h y (Yc _ hy)) hl];cases hq:q x with
  |true=>rw[if_pos rfl,h0,List.filter_cons_of_pos hq];rfl
  |false=>rw[if_neg Yj,List.filter_cons_of_neg (by rw[hq];exact Yj)]
theorem yF{n:Nat}{acc:List D}{d:D}(hc:Cmps n (d::acc)):(acc.any fun z=>eqd z d)=true↔d∈acc:=by
 rw[List.any_eq_true];constructor
 ·rintro⟨z,hz,e⟩
  rwa [<-(cq z d (hc.2 z (Yc _ hz) d Yd)).mp e]
 ·exact fun h=>⟨d,h,(cq d d (hc.2 d Yd d Yd)).mpr rfl⟩
theorem u7:∀(n:Nat) (d:D),okN n d=true->okN (n+1) d=true:=by
 intro n;induction n with
 |zero=>
  intro d h;cases d with
  |tup xs=>cases xs with
   |nil=>rfl
   |cons x r=>cases h
  |lst xs=>cases xs with
   |nil=>rfl
   |cons x r=>cases h
  |_=>exact h
 |succ n ih=>
  intro d h;cases d with
  |tup xs=>exact Yh.mpr fun x hx=>ih x (Yh.mp h x hx)
  |lst xs=>exact Yh.mpr fun x hx=>ih x (Yh.mp h x hx)
  |_=>exact h
theorem f6{n m:Nat}(h:n<=m){d:D}(hd:okN n d=true):okN m d=true:=by
 induction h with
 |refl=>exact hd
 |step _ ih=>exact u7 _ _ ih
abbrev rkB:DF->Option RES:=(dIf (asB (d2 f9 (ay 2) (ay 1))) (di 1 (getV 2)) dNx)
theorem vZ(C:Addr)(ds:List D)(x:DV)(hx:x=.v (.lst ds)\/x=.bor (.lst ds))(hc:Cmps 28 ds)(hl:ds.length<=100):n9 C [x]=some (.own (.lst ((rks ds).map .int)) none):=by
 have hb:∀x1 x2,cf 0 [some x,x1,x2]=some ds:=fun x1 x2=>by rcases hx with rfl|rfl<;>rfl
 have o29:∀d∈ds,okN 29 d=true:=fun d hd=>f6 (by decide) (hc.1 d hd)
 have o30:∀d∈ds,okN 30 d=true:=fun d hd=>f6 (by decide) (hc.1 d hd)
 obtain⟨ρ',e1,x2,hρ⟩:=eT (st:=setV 2) (body:=rkB) (fun k ρ=>∃x2,ρ=[some x,some (.own (.lst (aL (ds.take k))) none),x2]) ds 0 [some x,some (.own (.lst []) none),none] ⟨none,rfl⟩ (by
  rintro j d ρ hd ⟨x2,rfl⟩;refine⟨_,rfl,?_⟩;have hm:d∈ds:=YA hd;have hsub:∀z∈aL (ds.take (0+j)),z∈ds:=fun z hz=>List.mem_of_mem_take (bR.mp hz)
  have hall:(aL (ds.take (0+j))).all (okN 29)=true:=Yh.mpr fun z hz=>o29 z (hsub z hz)
  have hcc:Cmps 28 (d::aL (ds.take (0+j))):=hc.sub fun z hz=>by
   rcases Yv.mp hz with rfl|hz
   ·exact hm
   ·exact hsub z hz
  have ha:=yF hcc;have hlen:(aL (ds.take (0+j))).length<=100:=YD (c0 _) (YD (by rw[ZQ];omega) hl);have et:ds.take (0+j+1)=ds.take (0+j)++[d]:=by rw[Vf,Xc,hd];rfl
  have en:f9 d (.lst (aL (ds.take (0+j))))=some (.bl (!(aL (ds.take (0+j))).any fun z=>eqd z d)):=by unfold f9;show(if(okN 30 d&&(aL (ds.take (0+j))).all (okN 29))=true then _ else _)=_;rw[o30 d hm,hall];rfl
  rw[et,dm];generalize aL (ds.take (0+j))=acc at *;by_cases hq:d∈acc
  ·have:(acc.any fun z=>eqd z d)=true:=ha.mpr hq;rw[this]at en;refine⟨_,?_,⟨some (.v d),rfl⟩⟩;rw[if_pos hq];simp[rkB,en,OD.d]
  ·have:(acc.any fun z=>eqd z d)=false:=by
    cases z:acc.any fun z=>eqd z d with
    |false=>rfl
    |true=>exact absurd (ha.mp z) hq
   rw[this]at en;refine⟨_,?_,⟨some (.v d),rfl⟩⟩;rw[if_neg hq];have hl':acc.length<16777216:=by omega
   simp[rkB,en,OD.d,di,hl'])
 rw[Xc,XI]at hρ;subst hρ;have hU:∀u∈aL ds,u∈ds:=fun u hu=>bR.mp hu
 have hUl:(aL ds).length<=16777216:=YD (c0 ds) (by omega);have inner:∀d∈ds,aW 1 [0] (fP (getV 1)) (setV 0) (asB (d2 ltd (ay 0) (ay 1))) (getV 0) [some (.v d),some (.v (.lst (aL ds)))]=some ((aL ds).filter fun u=>ltD u d):=fun d hd=>by
  rw[bE];show(if(aL ds).length<=16777216 then b7 _ _ _ [none,some (.v d)] (aL ds)else none)=_;rw[if_pos hUl];refine lM (fun u=>ltD u d) _ (fun u hu=>?_) (by simp);have hlt:ltd u d=some (.bl (ltD u d)):=by unfold ltd;rw[o30 u (hU u hu),o30 d hd,hc.2 u (hU u hu) d hd];rfl
  show(match ltd u d with|some (.bl b)=>some b|_=>none)=_;rw[hlt]
 have outer:b7 (setV 0) bz (d1 bP (asO (asL (aW 1 [0] (fP (getV 1)) (setV 0) (asB (d2 ltd (ay 0) (ay 1))) (getV 0))))) [none,some (.v (.lst (aL ds)))] ds=some ((rks ds).map .int):=by
  have:=bT (st:=setV 0) (c:=bz) (e:=d1 bP (asO (asL (aW 1 [0] (fP (getV 1)) (setV 0) (asB (d2 ltd (ay 0) (ay 1))) (getV 0))))) (ρ:=[none,some (.v (.lst (aL ds)))]) id (fun d=>D.int (rkD (aL ds) d:Int)) ds fun d hd=>⟨_,rfl,rfl,by
   have q:=inner d hd;rw[ww,fX,c_];show(((aW _ _ _ _ _ _ [some (.v d),some (.v (.lst (aL ds)))]).map OD.lst).map OD.d).bind bP=_;rw[q];rfl⟩
  rw[XL]at this;rw[this];unfold rks;rw[Zw];rfl
 have hl2:ds.length<=16777216:=by omega
 unfold n9 g_q24;rw[sy,show aM 3 1 [x]=[some x,none,none]from rfl];rw[gI,show bB 1 (asL aR) [some x,none,none]=some (.nx [some x,some (.own (.lst []) none),none])from rfl];show dC (am (dD (cf 0) (setV 2) rkB) _ [some x,some (.own (.lst []) none),none])=_;rw[gI,sB,hb,Ya,e1];show dC (db _ [some x,some (.v (.lst (aL ds))),x2])=_;rw[gC,c_,bE,hb,Ya,if_pos hl2];show dC (((b7 _ _ _ [none,some (.v (.lst (aL ds)))] ds).map OD.lst).map _)=_;rw[outer];rfl
theorem fE(C:Addr)(ds:List D)(hk:cr ds=true\/bV ds=true)(hs:bA (aL ds)=true)(hc:Cmps 28 ds)(hl:ds.length<=100):gM C [.v (.lst ds)]=some (.own (.lst ((rks ds).map .int)) none):=by
 have hm:∀d∈aQ (aL ds),d∈ds:=fun d hd=>bR.mp ((bn _).mem_iff.mp hd)
 have hall:(aQ (aL ds)).all (okN 29)=true:=Yh.mpr fun d hd=>f6 (by decide) (hc.1 d (hm d hd))
 have hix:∀d∈ds,ud (.lst (aQ (aL ds))) d=some (.int (rkD (aL ds) d:Int)):=fun d hd=>by
  show(if((aQ (aL ds)).all (okN 29)&&okN 30 d)=true then(gc d (aQ (aL ds))).map (fun(j:Nat)=>D.int (j:Int))else none)=_;rw[hall,f6 (by decide) (hc.1 d hd),Bool.and_self,if_pos rfl,sd hc hd];rfl
 have cm:b7 (setV 0) bz (d2 ud (ay 1) (ay 0)) [none,some (.v (.lst (aQ (aL ds))))] ds=some ((rks ds).map .int):=by
  have:=bT (st:=setV 0) (c:=bz) (e:=d2 ud (ay 1) (ay 0)) (ρ:=[none,some (.v (.lst (aQ (aL ds))))]) id (fun d=>D.int (rkD (aL ds) d:Int)) ds fun d hd=>⟨_,rfl,rfl,by
   show ud (.lst (aQ (aL ds))) d=_;exact hix d hd⟩
  rw[XL]at this;rw[this];unfold rks;rw[Zw];rfl
 have hset:gB (aa 0) [some (.v (.lst ds)),none]=some (aQ (aL ds)):=by show(if(cr ds=true\/bV ds=true)/\bA (aL ds)=true then some (aQ (aL ds))else none)=_;rw[if_pos ⟨hk,hs⟩]
 have hl2:ds.length<=16777216:=by omega
 unfold gM g_q31;rw[sy,show aM 2 1 [.v (.lst ds)]=[some (.v (.lst ds)),none]from rfl,gI,eJ,fX,c_,hset];show dC (db _ [some (.v (.lst ds)),some (.v (.lst (aQ (aL ds))))])=_;rw[gC,c_,bE];show dC ((((if ds.length<=16777216 then b7 _ _ _ [none,some (.v (.lst (aQ (aL ds))))] ds else none)).map OD.lst).map _)=_;rw[if_pos hl2,cm];rfl
def prD(ps:List Int)(ts:List T4)(i j:Int):D:=.tup [.int (ox ps j),srP (bN i j ts)]
def oth(n i:Int):List Int:=(bq n).filter fun j=>!decide (j=i)
def kyD(ps:List Int)(ts:List T4)(n i:Int):D:=.tup [.int (ox ps i),.tup (aQ ((oth n i).map (prD ps ts i)))]
theorem rX{ps:List Int}{n i:Int}(hl:(ps.length:Int)=n)(h:0<=i/\i<n):ixD (.lst (ps.map .int)) (.int i)=some (.int (ox ps i)):=by obtain⟨x,h1,h2⟩:=fG (l:=ps) D.int h.1 (by omega);rw[ix1,h2];unfold ox;rw[h1];rfl
theorem rQ{n i j:Int}:j∈oth n i↔(0<=j/\j<n)/\j≠i:=by unfold oth;rw[VA,cX];simp
theorem rG{m:Nat}(ps:List (Int×Int))(P:D->Prop)(h:∀p,P (dP p)):∀d∈aQ (ps.map dP),P d:=fun d hd=>by
 obtain⟨p,_,rfl⟩:=Ym.mp ((bn _).mem_iff.mp hd);exact h p
theorem yP(ps:List (Int×Int)):okN 2 (srP ps)=true:=Yh.mpr (rG (m:=0) ps (fun d=>okN 1 d=true) fun p=>rfl)
theorem yS(ps:List (Int×Int)):hkN 2 (srP ps)=true:=Yh.mpr (rG (m:=0) ps (fun d=>hkN 1 d=true) fun p=>rfl)
theorem fR:∀(xs ys:List D),(∀x∈xs,∀y∈ys,aq x y=true)->bb xs ys=true
 |[],_,_=>by simp[bb]
 |_::_,[],_=>by simp[bb]
 |x::xs,y::ys,h=>by
  rw[bb,Yo];exact⟨h x Yd y Yd,fR xs ys fun a ha b hb=>h a (Yc _ ha) b (Yc _ hb)⟩
theorem uq(a b:List (Int×Int)):aq (srP a) (srP b)=true:=fR _ _ fun x hx y hy=>by
 obtain⟨p,_,rfl⟩:=Ym.mp ((bn _).mem_iff.mp hx);obtain⟨q,_,rfl⟩:=Ym.mp ((bn _).mem_iff.mp hy);rfl
theorem rJ(ps:List Int)(ts:List T4)(i j:Int):okN 3 (prD ps ts i j)=true:=by show(true&&(okN 2 (srP (bN i j ts))&&true))=true;rw[yP];rfl
theorem yn(ps:List Int)(ts:List T4)(i j:Int):hkN 3 (prD ps ts i j)=true:=by show(true&&(hkN 2 (srP (bN i j ts))&&true))=true;rw[yS];rfl
theorem ln(ps:List Int)(ts:List T4)(i j i' j':Int):aq (prD ps ts i j) (prD ps ts i' j')=true:=by show(true&&(aq (srP (bN i j ts)) (srP (bN i' j' ts))&&true))=true;rw[uq];rfl
theorem nJ{ps:List Int}{ts:List T4}{n i:Int}{d:D}(h:d∈aQ ((oth n i).map (prD ps ts i))):∃j,d=prD ps ts i j:=by obtain⟨j,_,rfl⟩:=Ym.mp ((bn _).mem_iff.mp h);exact⟨j,rfl⟩
theorem sA(ps:List Int)(ts:List T4)(n i:Int):okN 5 (kyD ps ts n i)=true:=by
 show(true&&(okN 4 (.tup (aQ ((oth n i).map (prD ps ts i))))&&true))=true;have:okN 4 (.tup (aQ ((oth n i).map (prD ps ts i))))=true:=Yh.mpr fun d hd=>by obtain⟨j,rfl⟩:=nJ hd;exact rJ ps ts i j
 rw[this];rfl
theorem xR(ps:List Int)(ts:List T4)(n i:Int):hkN 8 (kyD ps ts n i)=true:=by
 have up:∀(m:Nat) (d:D),hkN m d=true->hkN (m+1) d=true:=by
  intro m;induction m with
  |zero=>intro d h;cases d with
   |int x=>rfl
   |_=>cases h
  |succ m ih=>intro d h;cases d with
   |int x=>rfl
   |tup xs=>exact Yh.mpr fun x hx=>ih x (Yh.mp h x hx)
   |_=>cases h
 have h5:hkN 5 (kyD ps ts n i)=true:=by
  show(true&&(hkN 4 (.tup (aQ ((oth n i).map (prD ps ts i))))&&true))=true;have:hkN 4 (.tup (aQ ((oth n i).map (prD ps ts i))))=true:=Yh.mpr fun d hd=>by obtain⟨j,rfl⟩:=nJ hd;exact yn ps ts i j
  rw[this];rfl
 exact up _ _ (up _ _ (up _ _ h5))
theorem sU(ps:List Int)(ts:List T4)(n i j:Int):aq (kyD ps ts n i) (kyD ps ts n j)=true:=by
 show(true&&(bb (aQ ((oth n i).map (prD ps ts i))) (aQ ((oth n j).map (prD ps ts j)))&&true))=true;rw[fR _ _ fun x hx y hy=>by
  obtain⟨a,rfl⟩:=nJ hx;obtain⟨b,rfl⟩:=nJ hy;exact ln ps ts i a j b]
 rfl
def kys(ps:List Int)(ts:List T4)(n:Int):List D:=(bq n).map (kyD ps ts n)
theorem iY(ps:List Int)(ts:List T4)(n:Int)(hn:1<=n/\n<=7):(kys ps ts n).length<=7:=by unfold kys;rw[Ye,bj];omega
theorem dH(ps:List Int)(ts:List T4)(n:Int):Cmps 28 (kys ps ts n):=by
 refine⟨fun d hd=>?_,fun x hx y hy=>?_⟩
 ·obtain⟨i,_,rfl⟩:=Ym.mp hd;exact f6 (by decide) (sA ps ts n i)
 ·obtain⟨i,_,rfl⟩:=Ym.mp hx;obtain⟨j,_,rfl⟩:=Ym.mp hy;exact sU ps ts n i j
theorem jY(ps:List Int)(ts:List T4)(n:Int)(hn:1<=n/\n<=7):cr (kys ps ts n)=true:=by have:=iY ps ts n hn;unfold cr;rw[Yo,YE];refine⟨by omega,Yh.mpr fun d hd=>?_⟩;obtain⟨i,_,rfl⟩:=Ym.mp hd;unfold jO;rw[xR,f6 (n:=5) (by decide) (sA ps ts n i)];rfl
theorem lQ{ds:List D}(hl:ds.length<64)(hc:Cmps 28 ds)(h1:∀d∈ds,∃(x:Int) (r:List D),d=.tup (.int x::r)):bA ds=true:=by
 unfold bA;simp only[Yo,YE];refine⟨⟨⟨⟨hl,Yh.mpr hc.1⟩,Yh.mpr fun x hx=>Yh.mpr fun y hy=>hc.2 x hx y hy⟩,Yh.mpr fun d hd=>?_⟩,Yh.mpr fun d hd=>?_⟩
 ·obtain⟨x,r,rfl⟩:=h1 d hd;rfl
 ·obtain⟨x,r,rfl⟩:=h1 d hd;rfl
theorem jJ(ps:List Int)(ts:List T4)(n:Int)(hn:1<=n/\n<=7):bA (aL (kys ps ts n))=true:=by have h1:=iY ps ts n hn;have h2:=c0 (kys ps ts n);refine lQ (by omega) ((dH ps ts n).sub fun x hx=>bR.mp hx) fun d hd=>?_;obtain⟨i,_,rfl⟩:=Ym.mp (bR.mp hd);exact⟨_,_,rfl⟩
theorem mX(n i:Int)(hn:1<=n/\n<=7):(oth n i).length<=7:=by have:(oth n i).length<=(bq n).length:=List.length_filter_le _ _;rw[bj]at this;omega
theorem lw(ps:List Int)(ts:List T4)(n i:Int)(hn:1<=n/\n<=7):bA ((oth n i).map (prD ps ts i))=true:=by
 have:=mX n i hn;refine lQ (by rw[Ye];omega) ⟨fun d hd=>?_,fun x hx y hy=>?_⟩ fun d hd=>?_
 ·obtain⟨j,_,rfl⟩:=Ym.mp hd;exact f6 (by decide) (rJ ps ts i j)
 ·obtain⟨a,_,rfl⟩:=Ym.mp hx;obtain⟨b,_,rfl⟩:=Ym.mp hy;exact ln ps ts i a i b
 ·obtain⟨j,_,rfl⟩:=Ym.mp hd;exact⟨_,_,rfl⟩
abbrev kcE(C:Addr)(Bt:Dm):DF->Option D:=(asT (ai (d2 ixD (aa 1) (aa 0)) (ai (cw C "between" Bt (cJ (du 2) (aV (getV 3) (aV (getV 0) (fun _=>some []))))) aR)))
theorem ug(C:Addr)(ks:List Str)(T:D)(kvs:List (List Key×D))(ts:List T4)(ps:List Int)(n i:Int)(hn:1<=n/\n<=7)(hk:(ks.length:Int)=n)(hp:(ps.length:Int)=n)(hi:0<=i/\i<n)(hJ:JOk kvs ts) :
  n5 C [.v (.ins C (wFs ks T (.dT kvs))),.v (.lst (ps.map .int)),.v (.int i)]=some (.v (kyD ps ts n i)):=by
 have hB:=fun j=>jg C ks T kvs ts i j hJ
 have hS:=fun xs=>nK (C:=C) (jQ ks T (.dT kvs)) xs
 have hsz:=fun x3 x4=>iX C ks T (.dT kvs) n hk [some (.v (.ins C (wFs ks T (.dT kvs)))),some (.v (.lst (ps.map .int))),some (.v (.int i)),x3,x4] rfl
 have hox:=fun j (h:0<=j/\j<n)=>rX (i:=j) hp h
 have hso:=lw ps ts n i hn;have hol:=mX n i hn;have hoi:=hox i hi;unfold n5 g_q9;generalize sY C=Bt at hB ⊢;generalize (cw C "size" (kN C) (cJ (du 0) g0))=Sz at hsz ⊢;generalize wFs ks T (.dT kvs)=F at *;have c1:aW 1 [2] (cg Sz) (setV 0) (asB (d2 neD (ay 0) (ay 1))) (getV 0) [some (.v (.ins C F)),some (.v (.lst (ps.map .int))),some (.v (.int i)),none,none]=some ((oth n i).map .int):=by
  rw[bE,cU (hsz _ _) (by omega),Ya,if_pos (by rw[Ye,bj];omega)];exact e8 (ρ:=[none,some (.v (.int i))]) (fun j=>!decide (j=i)) (bq n) (fun x _=>by
   show(match neD (.int x) (.int i)with|some (.bl b)=>some b|_=>none)=_;rw[si]) (by simp)
 have c2:b7 (setV 0) bz (kcE C Bt) [none,some (.v (.lst (ps.map .int))),some (.v (.ins C F)),some (.v (.int i))] ((oth n i).map .int)=some ((oth n i).map (prD ps ts i)):=by
  refine bT D.int _ (oth n i) fun j hj=>⟨[some (.v (.int j)),some (.v (.lst (ps.map .int))),some (.v (.ins C F)),some (.v (.int i))],rfl,rfl,?_⟩
  have h1:=hB j;have h2:=hS [.v (.int i),.v (.int j)];have h3:=hox j (rQ.mp hj).1;unfold prD;generalize srP (bN i j ts)=V at *;generalize ps.map D.int=P at *;simp[kcE,cw,cJ,du,h2,h1,h3]
 rw[rS,show aM 5 3 [.v (.ins C F),.v (.lst (ps.map .int)),.v (.int i)]=[some (.v (.ins C F)),some (.v (.lst (ps.map .int))),some (.v (.int i)),none,none]from rfl];have s3:aE 3 (asO (asL (aW 1 [2] (cg Sz) (setV 0) (asB (d2 neD (ay 0) (ay 1))) (getV 0)))) [some (.v (.ins C F)),some (.v (.lst (ps.map .int))),some (.v (.int i)),none,none]=some (.nx [some (.v (.ins C F)),some (.v (.lst (ps.map .int))),some (.v (.int i)),some (.v (.lst ((oth n i).map .int))),none]):=by rw[eJ,fX,c_,c1];rfl
 have s4:aE 4 (asO (asL (aW 1 [1,0,2] (cf 3) (setV 0) bz (kcE C Bt)))) [some (.v (.ins C F)),some (.v (.lst (ps.map .int))),some (.v (.int i)),some (.v (.lst ((oth n i).map .int))),none]=some (.nx [some (.v (.ins C F)),some (.v (.lst (ps.map .int))),some (.v (.int i)),some (.v (.lst ((oth n i).map .int))),some (.v (.lst ((oth n i).map (prD ps ts i))))]):=by
  have hc:aW 1 [1,0,2] (cf 3) (setV 0) bz (kcE C Bt) [some (.v (.ins C F)),some (.v (.lst (ps.map .int))),some (.v (.int i)),some (.v (.lst ((oth n i).map .int))),none]=some ((oth n i).map (prD ps ts i)):=by rw[bE];show(if((oth n i).map D.int).length<=16777216 then b7 (setV 0) bz (kcE C Bt) [none,some (.v (.lst (ps.map .int))),some (.v (.ins C F)),some (.v (.int i))] ((oth n i).map .int)else none)=_;rw[if_pos (by rw[Ye];omega),c2]
  rw[eJ,fX,c_,hc];rfl
 rw[ao s3,ao s4];unfold kyD;generalize (oth n i).map (prD ps ts i)=L at *;generalize (oth n i).map D.int=O at *;generalize ps.map D.int=P at *;simp[gm,hso,hoi,cG,oQ]
theorem xP(C:Addr)(ks:List Str)(T:D)(kvs:List (List Key×D))(ts:List T4)(ps:List Int)(n:Int)(hn:1<=n/\n<=7)(hk:(ks.length:Int)=n)(hp:(ps.length:Int)=n)(hJ:JOk kvs ts) :
  iE C [.v (.ins C (wFs ks T (.dT kvs))),.v (.lst (ps.map .int))]=some (.own (.lst (kys ps ts n)) none):=by
 have hK:=fun i h=>ug C ks T kvs ts ps n i hn hk hp h hJ
 have hsz:=iX C ks T (.dT kvs) n hk [some (.v (.ins C (wFs ks T (.dT kvs)))),some (.v (.lst (ps.map .int)))] rfl;unfold iE g_q10;generalize n5 C=Kf at hK ⊢;generalize (cw C "size" (kN C) (cJ (du 0) g0))=Sz at hsz ⊢;generalize wFs ks T (.dT kvs)=F at *;have c1:b7 (setV 0) bz (ak Kf (aB 1 (aB 2 (aV (getV 0) (fun _=>some []))))) [none,some (.v (.ins C F)),some (.v (.lst (ps.map .int)))] ((bq n).map .int)=some (kys ps ts n):=by
  refine bT D.int _ (bq n) fun j hj=>⟨[some (.v (.int j)),some (.v (.ins C F)),some (.v (.lst (ps.map .int)))],rfl,rfl,?_⟩
  have h1:=hK j (cX.mp hj);generalize kyD ps ts n j=V at *;generalize ps.map D.int=P at *;simp[h1,dvD]
 rw[fN,show aM 2 2 [.v (.ins C F),.v (.lst (ps.map .int))]=[some (.v (.ins C F)),some (.v (.lst (ps.map .int)))]from rfl];rw[gC,c_,bE,cU hsz (by omega),Ya,if_pos (by rw[Ye,bj];omega)];show dC (((b7 _ _ _ [none,some (.v (.ins C F)),some (.v (.lst (ps.map .int)))] ((bq n).map .int)).map OD.lst).map _)=_;rw[c1];rfl
theorem uK(C:Addr)(ks:List Str)(T:D)(kvs:List (List Key×D))(ts:List T4)(ps:List Int)(n:Int)(hn:1<=n/\n<=7)(hk:(ks.length:Int)=n)(hp:(ps.length:Int)=n)(hJ:JOk kvs ts) :
  eY C [.v (.ins C (wFs ks T (.dT kvs))),.v (.lst (ps.map .int))]=some (.own (.lst ((rks (kys ps ts n)).map .int)) none):=by
 have h1:=xP C ks T kvs ts ps n hn hk hp hJ;have h2:=fE C (kys ps ts n) (.inl (jY ps ts n hn)) (jJ ps ts n hn) (dH ps ts n) (by have:=iY ps ts n hn;omega);unfold eY g_q3;generalize iE C=Kf at h1 ⊢;generalize gM C=Rf at h2 ⊢;generalize wFs ks T (.dT kvs)=F at *;generalize kys ps ts n=L at *;generalize (rks L).map D.int=R at *;generalize ps.map D.int=P at *;simp[h1,h2,dvD,dvO,OD.d]
theorem rf(C:Addr)(ks:List Str)(T:D)(kvs:List (List Key×D))(ts:List T4)(ps:List Int)(n i:Int)(hn:1<=n/\n<=7)(hk:(ks.length:Int)=n)(hp:(ps.length:Int)=n)(hi:0<=i/\i<n)(hJ:JOk kvs ts) :
  n5 C [.v (.ins C (wFs ks T (.dT kvs))),.bor (.lst (ps.map .int)),.v (.int i)]=some (.v (kyD ps ts n i)):=by
 have hB:=fun j=>jg C ks T kvs ts i j hJ
 have hS:=fun xs=>nK (C:=C) (jQ ks T (.dT kvs)) xs
 have hsz:=fun x3 x4=>iX C ks T (.dT kvs) n hk [some (.v (.ins C (wFs ks T (.dT kvs)))),some (.bor (.lst (ps.map .int))),some (.v (.int i)),x3,x4] rfl
 have hox:=fun j (h:0<=j/\j<n)=>rX (i:=j) hp h
 have hso:=lw ps ts n i hn;have hol:=mX n i hn;have hoi:=hox i hi;unfold n5 g_q9;generalize sY C=Bt at hB ⊢;generalize (cw C "size" (kN C) (cJ (du 0) g0))=Sz at hsz ⊢;generalize wFs ks T (.dT kvs)=F at *;have c1:aW 1 [2] (cg Sz) (setV 0) (asB (d2 neD (ay 0) (ay 1))) (getV 0) [some (.v (.ins C F)),some (.bor (.lst (ps.map .int))),some (.v (.int i)),none,none]=some ((oth n i).map .int):=by
  rw[bE,cU (hsz _ _) (by omega),Ya,if_pos (by rw[Ye,bj];omega)];exact e8 (ρ:=[none,some (.v (.int i))]) (fun j=>!decide (j=i)) (bq n) (fun x _=>by
   show(match neD (.int x) (.int i)with|some (.bl b)=>some b|_=>none)=_;rw[si]) (by simp)
 have c2:b7 (setV 0) bz (kcE C Bt) [none,some (.bor (.lst (ps.map .int))),some (.v (.ins C F)),some (.v (.int i))] ((oth n i).map .int)=some ((oth n i).map (prD ps ts i)):=by
  refine bT D.int _ (oth n i) fun j hj=>⟨[some (.v (.int j)),some (.bor (.lst (ps.map .int))),some (.v (.ins C F)),some (.v (.int i))],rfl,rfl,?_⟩
  have h1:=hB j;have h2:=hS [.v (.int i),.v (.int j)];have h3:=hox j (rQ.mp hj).1;unfold prD;generalize srP (bN i j ts)=V at *;generalize ps.map D.int=P at *;simp[aa,OD.flat,OD.d,kcE,cw,cJ,du,h2,h1,h3]
 rw[rS,show aM 5 3 [.v (.ins C F),.bor (.lst (ps.map .int)),.v (.int i)]=[some (.v (.ins C F)),some (.bor (.lst (ps.map .int))),some (.v (.int i)),none,none]from rfl];have s3:aE 3 (asO (asL (aW 1 [2] (cg Sz) (setV 0) (asB (d2 neD (ay 0) (ay 1))) (getV 0)))) [some (.v (.ins C F)),some (.bor (.lst (ps.map .int))),some (.v (.int i)),none,none]=some (.nx [some (.v (.ins C F)),some (.bor (.lst (ps.map .int))),some (.v (.int i)),some (.v (.lst ((oth n i).map .int))),none]):=by rw[eJ,fX,c_,c1];rfl
 have s4:aE 4 (asO (asL (aW 1 [1,0,2] (cf 3) (setV 0) bz (kcE C Bt)))) [some (.v (.ins C F)),some (.bor (.lst (ps.map .int))),some (.v (.int i)),some (.v (.lst ((oth n i).map .int))),none]=some (.nx [some (.v (.ins C F)),some (.bor (.lst (ps.map .int))),some (.v (.int i)),some (.v (.lst ((oth n i).map .int))),some (.v (.lst ((oth n i).map (prD ps ts i))))]):=by
  have hc:aW 1 [1,0,2] (cf 3) (setV 0) bz (kcE C Bt) [some (.v (.ins C F)),some (.bor (.lst (ps.map .int))),some (.v (.int i)),some (.v (.lst ((oth n i).map .int))),none]=some ((oth n i).map (prD ps ts i)):=by rw[bE];show(if((oth n i).map D.int).length<=16777216 then b7 (setV 0) bz (kcE C Bt) [none,some (.bor (.lst (ps.map .int))),some (.v (.ins C F)),some (.v (.int i))] ((oth n i).map .int)else none)=_;rw[if_pos (by rw[Ye];omega),c2]
  rw[eJ,fX,c_,hc];rfl
 rw[ao s3,ao s4];unfold kyD;generalize (oth n i).map (prD ps ts i)=L at *;generalize (oth n i).map D.int=O at *;generalize ps.map D.int=P at *;simp[aa,OD.flat,OD.d,gm,hso,hoi,cG,oQ]
theorem wM(C:Addr)(ks:List Str)(T:D)(kvs:List (List Key×D))(ts:List T4)(ps:List Int)(n:Int)(hn:1<=n/\n<=7)(hk:(ks.length:Int)=n)(hp:(ps.length:Int)=n)(hJ:JOk kvs ts) :
  iE C [.v (.ins C (wFs ks T (.dT kvs))),.bor (.lst (ps.map .int))]=some (.own (.lst (kys ps ts n)) none):=by
 have hK:=fun i h=>rf C ks T kvs ts ps n i hn hk hp h hJ
 have hsz:=iX C ks T (.dT kvs) n hk [some (.v (.ins C (wFs ks T (.dT kvs)))),some (.bor (.lst (ps.map .int)))] rfl;unfold iE g_q10;generalize n5 C=Kf at hK ⊢;generalize (cw C "size" (kN C) (cJ (du 0) g0))=Sz at hsz ⊢;generalize wFs ks T (.dT kvs)=F at *;have c1:b7 (setV 0) bz (ak Kf (aB 1 (aB 2 (aV (getV 0) (fun _=>some []))))) [none,some (.v (.ins C F)),some (.bor (.lst (ps.map .int)))] ((bq n).map .int)=some (kys ps ts n):=by
  refine bT D.int _ (bq n) fun j hj=>⟨[some (.v (.int j)),some (.v (.ins C F)),some (.bor (.lst (ps.map .int)))],rfl,rfl,?_⟩
  have h1:=hK j (cX.mp hj);generalize kyD ps ts n j=V at *;generalize ps.map D.int=P at *;simp[aB,OD.flat,OD.d,h1,dvD]
 rw[fN,show aM 2 2 [.v (.ins C F),.bor (.lst (ps.map .int))]=[some (.v (.ins C F)),some (.bor (.lst (ps.map .int)))]from rfl];rw[gC,c_,bE,cU hsz (by omega),Ya,if_pos (by rw[Ye,bj];omega)];show dC (((b7 _ _ _ [none,some (.v (.ins C F)),some (.bor (.lst (ps.map .int)))] ((bq n).map .int)).map OD.lst).map _)=_;rw[c1];rfl
theorem sM(C:Addr)(ks:List Str)(T:D)(kvs:List (List Key×D))(ts:List T4)(ps:List Int)(n:Int)(hn:1<=n/\n<=7)(hk:(ks.length:Int)=n)(hp:(ps.length:Int)=n)(hJ:JOk kvs ts) :
  eY C [.v (.ins C (wFs ks T (.dT kvs))),.bor (.lst (ps.map .int))]=some (.own (.lst ((rks (kys ps ts n)).map .int)) none):=by
 have h1:=wM C ks T kvs ts ps n hn hk hp hJ;have h2:=fE C (kys ps ts n) (.inl (jY ps ts n hn)) (jJ ps ts n hn) (dH ps ts n) (by have:=iY ps ts n hn;omega);unfold eY g_q3;generalize iE C=Kf at h1 ⊢;generalize gM C=Rf at h2 ⊢;generalize wFs ks T (.dT kvs)=F at *;generalize kys ps ts n=L at *;generalize (rks L).map D.int=R at *;generalize ps.map D.int=P at *;simp[aB,h1,h2,dvD,dvO,OD.d]
theorem Bh(xs:List Int):Cmps 28 (xs.map D.int):=⟨fun d hd=>by obtain⟨x,_,rfl⟩:=Ym.mp hd;rfl,fun x hx y hy=>by obtain⟨a,_,rfl⟩:=Ym.mp hx;obtain⟨b,_,rfl⟩:=Ym.mp hy;rfl⟩
theorem fV(C:Addr)(xs:List Int)(hl:xs.length<=100):d_ C [.v (.lst (xs.map .int)),.v (.lst (xs.map .int))]=some (.v (.bl true)):=by
 have hw:∀x:Int,sr C [.v (.int x)]=some (.v (.bl true)):=fun x=>rfl
 have e1:eqD (.lst (xs.map .int)) (.lst (xs.map .int))=some (.bl true):=by rw[wm (lP xs) (lP xs),pR D.int (fun _ _=>rfl)]
 have e2:vU (.lst (xs.map fun _=>D.bl true))=some (.bl true):=by
  have h1:(xs.map fun _=>D.bl true).all oq=true:=Yh.mpr fun d hd=>by obtain⟨x,_,rfl⟩:=Ym.mp hd;rfl
  have h2:(xs.map fun _=>D.bl true).all trD=true:=Yh.mpr fun d hd=>by obtain⟨x,_,rfl⟩:=Ym.mp hd;rfl
  show(if(xs.map fun _=>D.bl true).all oq=true then some (D.bl ((xs.map fun _=>D.bl true).all trD))else none)=_;rw[if_pos h1,h2]
 unfold d_ g_q20;generalize sr C=Wf at hw ⊢;have c1:b7 (setV 0) bz (ak Wf (aB 0 (fun _=>some []))) [none] (xs.map .int)=some (xs.map fun _=>D.bl true):=by
  refine bT D.int _ xs fun x _=>⟨[some (.v (.int x))],rfl,rfl,?_⟩
  simp[hw,dvD]
 have hl2:(xs.map D.int).length<=16777216:=by rw[Ye];omega
 have c2:aW 1 [] (cf 0) (setV 0) bz (ak Wf (aB 0 (fun _=>some []))) [some (.v (.lst (xs.map .int))),some (.v (.lst (xs.map .int)))]=some (xs.map fun _=>D.bl true):=by rw[bE];show(if(xs.map D.int).length<=16777216 then b7 _ _ _ [none] (xs.map .int)else none)=_;rw[if_pos hl2,c1]
 generalize aW 1 [] (cf 0) (setV 0) bz (ak Wf (aB 0 (fun _=>some [])))=Z at c2 ⊢;generalize (xs.map fun _=>D.bl true)=B at *;generalize xs.map D.int=X at *;have e3:kg "list" (.lst X)=some (.bl true):=rfl;simp[e1,e2,e3,c2,bP,OD.d]
theorem qU(C:Addr)(ns:List Int)(n:Int)(hn:1<=n/\n<=7):∃ps:List Int,(ps.length:Int)=n/\(∃ys:List Int,ps=rks (ys.map .int))/\lr C [.v (.lst (ns.map .int)),.v (.int n)]=some (.v (.lst (ps.map .int))):=by
 obtain⟨x,hx⟩:=rO C ns 14 (by decide);obtain⟨q,hq,q0,q1⟩:=cQ C x 941083987 (by decide);have hsp:=fun c=>cQ C c 1726512289 (by decide)
 have hR:=fun ds x hx hc hl=>vZ C ds x hx hc hl
 have m3:=aU q 3 (by decide);have g0:0<=q%3:=Zb _ (by decide);unfold lr g_q23;generalize eV C=A at hx ⊢;generalize dq C=S at hq hsp ⊢;generalize n9 C=Rk at hR ⊢;obtain⟨ys,c1,c2,_⟩:=k8 (st:=setV 0) (c:=bz) (e:=(d2 aN (d2 aS (ak S (aV (d2 aP (aa 1) (d2 fL (aa 0) (aa 0))) (aV (fun _=>some (.int 1726512289)) (fun _=>some [])))) (fun _=>some (.int 5))) (aa 2))) (ρ:=[none,some (.v (.int q)),some (.v (.int (1+q%3)))]) D.int (fun _=>True) ((bq n).map .int) fun d hd=>by
  obtain⟨j,hj,rfl⟩:=Ym.mp hd;have hj':=cX.mp hj;obtain⟨r,hr,r0,r1⟩:=hsp (q+j*j);have mj:=fz j j (.inl ⟨by omega,by omega⟩);have d5:=bp r 5 (by decide);have mm:=aU (r/5) (1+q%3) (by omega);generalize 1+q%3=m at *;refine⟨[some (.v (.int j)),some (.v (.int q)),some (.v (.int m))],rfl,rfl,r/5%m,?_,trivial⟩;simp[mj,hr,dvD,d5,mm]
 have hyl:ys.length=n.toNat:=by rw[c2,Ye,bj]
 have hr:=hR (ys.map .int) (.v (.lst (ys.map .int))) (.inl rfl) (Bh ys) (by rw[Ye];omega);refine⟨rks (ys.map .int),by rw[fD,Ye];omega,⟨ys,rfl⟩,?_⟩;have hrg:cg (aa 1) [some (.v (.lst (ns.map .int))),some (.v (.int n)),some (.v (.int q)),some (.v (.int (1+q%3)))]=some ((bq n).map .int):=cU rfl (by omega);have cc:aW 1 [2,3] (cg (aa 1)) (setV 0) bz (d2 aN (d2 aS (ak S (aV (d2 aP (aa 1) (d2 fL (aa 0) (aa 0))) (aV (fun _=>some (.int 1726512289)) (fun _=>some [])))) (fun _=>some (.int 5))) (aa 2)) [some (.v (.lst (ns.map .int))),some (.v (.int n)),some (.v (.int q)),some (.v (.int (1+q%3)))]=some (ys.map .int):=by rw[bE,hrg,Ya,if_pos (by rw[Ye,bj];omega)];exact c1
 generalize aW 1 [2,3] (cg (aa 1)) (setV 0) bz (d2 aN (d2 aS (ak S (aV (d2 aP (aa 1) (d2 fL (aa 0) (aa 0))) (aV (fun _=>some (.int 1726512289)) (fun _=>some [])))) (fun _=>some (.int 5))) (aa 2))=Z at cc ⊢;generalize (rks (ys.map D.int)).map D.int=R at *;generalize ys.map D.int=Y at *;generalize ns.map D.int=N at *;generalize hm:1+q%3=m at *;simp[hx,hq,dvD,m3,hm,cc,hr,OD.d]
theorem pq{α:Type}:∀(l m:List α),l.Nodup->(∀x∈l,x∈m)->l.length<=m.length
 |[],_,_,_=>YF _
 |x::l,m,nd,h=>by
  obtain⟨n1,n2⟩:=Zh.mp nd;obtain⟨a,b,rfl⟩:=List.append_of_mem (h x Yd);have:=pq l (a++b) n2 fun y hy=>by
   rcases Zy.mp (h y (Yc _ hy))with z|z
   ·exact Vs _ z
   ·rcases Yv.mp z with z|z
    ·exact absurd (z ▸ hy) n1
    ·exact YS _ z
  simp only[Yt,Yy]at this ⊢;omega
theorem pf{n:Nat}{e:D}:∀{L:List D}{k:Nat},Cmps n (e::L)->gc e L=some k->L[k]?=some e
 |[],k,_,h=>by cases h
 |x::r,k,hc,h=>by
  unfold gc at h;have he:e∈e::x::r:=Yd;have hx:x∈e::x::r:=Yc _ Yd;by_cases q:eqd x e=true
  ·rw[if_pos q]at h;cases h;rw[(cq _ _ (hc.2 x hx e he)).mp q];rfl
  ·rw[if_neg q]at h;cases z:gc e r with
   |none=>rw[z]at h;cases h
   |some j=>
    rw[z]at h;cases h;rw[Xo];exact pf (hc.sub fun y hy=>by
     rcases Yv.mp hy with w|w
     ·rw[w];exact he
     ·exact Yc _ (Yc _ w)) z
theorem jZ{n:Nat}{ds:List D}(hc:Cmps n ds){d:D}(hd:d∈ds):(aQ (aL ds))[rkD (aL ds) d]?=some d:=by
 have p:=bn (aL ds);refine pf (n:=n) (hc.sub fun y hy=>?_) (sd hc hd);rcases Yv.mp hy with w|w
 ·rw[w];exact hd
 ·exact bR.mp (p.mem_iff.mp w)
theorem vj{α:Type}{L:List α}(nd:L.Nodup){i j:Nat}{x:α}(h1:L[i]?=some x)(h2:L[j]?=some x):i=j:=by obtain⟨a,e1⟩:=Yk.mp h1;obtain⟨b,e2⟩:=Yk.mp h2;exact(List.getElem_inj nd).mp (e1.trans e2.symm)
def Can(ps:List Int):Prop:=(∀x∈ps,0<=x/\x<ps.length)/\∀x∈ps,∀r,0<=r->r<x->r∈ps
theorem y9{n:Nat}{ds:List D}(hc:Cmps n ds):Can (rks ds):=by
 have p:=bn (aL ds);have nd:(aQ (aL ds)).Nodup:=p.nodup_iff.mpr (ka ds);have hlen:(aQ (aL ds)).length<=ds.length:=by rw[p.length_eq];exact c0 ds
 refine⟨fun x hx=>?_,fun x hx r r0 r1=>?_⟩
 ·obtain⟨d,hd,rfl⟩:=Ym.mp hx;have h1:=(Yk.mp (jZ hc hd)).1;rw[fD];omega
 ·obtain⟨d,hd,rfl⟩:=Ym.mp hx;have h1:=(Yk.mp (jZ hc hd)).1;have hr:r.toNat<(aQ (aL ds)).length:=by omega
  have he:=Yi hr;have hm:(aQ (aL ds))[r.toNat]∈ds:=bR.mp (p.mem_iff.mp (ZI hr));have h2:=vj nd he (jZ hc hm);refine Ym.mpr ⟨_,hm,?_⟩;omega
noncomputable def fin (ps:List Int)(ts:List T4)(n:Int):List Int:=rks (kys ps ts n)
theorem eK{ps:List Int}{ts:List T4}{n:Int}(hn:1<=n):((fin ps ts n).length:Int)=n:=by unfold fin kys;rw[fD,Ye,bj];omega
theorem iZ(ps:List Int)(ts:List T4)(n:Int):Can (fin ps ts n):=y9 (dH ps ts n)
theorem zv{ps:List Int}{ts:List T4}{n i j:Int}(h:ox ps j<ox ps i):ltD (kyD ps ts n j) (kyD ps ts n i)=true:=by
 have e:eqd (.int (ox ps j)) (.int (ox ps i))=false:=by rw[mU,YB (by omega)]
 show(if eqd (.int (ox ps j)) (.int (ox ps i))=true then _ else ltD (.int (ox ps j)) (.int (ox ps i)))=true;rw[e,if_neg Yj];exact YT h
theorem AN{ps:List Int}{n i:Int}(hl:(ps.length:Int)=n)(h:0<=i/\i<n):ox ps i∈ps:=by
 unfold ox;have hi:i.toNat<ps.length:=by omega
 rw[Yi hi];exact ZI hi
theorem Aw{ps:List Int}{n r:Int}(hl:(ps.length:Int)=n)(h:r∈ps):∃j,(0<=j/\j<n)/\ox ps j=r:=by obtain⟨k,hk,e⟩:=ZJ h;refine⟨(k:Int),by omega,?_⟩;unfold ox;rw[Zc,Yi hk,e];rfl
theorem qw{ds:List D}{i:Int}(h:i.toNat<ds.length):ox (rks ds) i=(rkD (aL ds) ds[i.toNat]:Int):=by unfold ox rks;rw[Yu,Yi h];rfl
theorem qE{ps:List Int}{ts:List T4}{n i:Int}(h:0<=i/\i<n):∃hl:i.toNat<(kys ps ts n).length,(kys ps ts n)[i.toNat]=kyD ps ts n i:=by
 have hl:i.toNat<(kys ps ts n).length:=by unfold kys;rw[Ye,bj];omega
 refine⟨hl,?_⟩;unfold kys bq;simp;have:max i 0=i:=by omega
 rw[this]
theorem Ak{ps:List Int}{ts:List T4}{n i:Int}(hl:(ps.length:Int)=n)(hc:Can ps)(h:0<=i/\i<n):ox ps i<=ox (fin ps ts n) i:=by
 obtain⟨hk,ek⟩:=qE (ps:=ps) (ts:=ts) h;unfold fin;rw[qw hk,ek];have hm:=AN hl h;obtain⟨m0,m1⟩:=hc.1 _ hm;have hj:∀r:Nat,(r:Int)<ox ps i->∃j,(0<=j/\j<n)/\ox ps j=(r:Int):=fun r hr=>Aw hl (hc.2 _ hm _ (by omega) hr)
 have hf:∃f:Nat->Int,∀r:Nat,(r:Int)<ox ps i->(0<=f r/\f r<n)/\ox ps (f r)=(r:Int):=by
  classical
  refine⟨fun r=>if q:(r:Int)<ox ps i then Classical.choose (hj r q)else 0,fun r hr=>?_⟩;simp only[dif_pos hr];exact Classical.choose_spec (hj r hr)
 obtain⟨f,hf⟩:=hf;have hb:((List.range (ox ps i).toNat).map fun r=>kyD ps ts n (f r)).length<=((aL (kys ps ts n)).filter fun x=>ltD x (kyD ps ts n i)).length:=by
  refine pq _ _ ?_ fun d hd=>?_
  ·refine List.Pairwise.map _ (fun r r' hne e=>?_) ((XH (n:=(ox ps i).toNat)).imp_of_mem (S:=fun a b:Nat=>a≠b/\a<(ox ps i).toNat/\b<(ox ps i).toNat) fun ha hb hne=>⟨hne,YJ.mp ha,YJ.mp hb⟩);obtain⟨hne,ha,hb⟩:=hne;have e1:=(hf r (by omega)).2;have e2:=(hf r' (by omega)).2;have e3:ox ps (f r)=ox ps (f r'):=by have:=Zs (fun d=>match d with|.tup (.int a::_)=>a|_=>0) e;exact this
   omega
  ·obtain⟨r,hr,rfl⟩:=Ym.mp hd;have hr:=YJ.mp hr;obtain⟨h1,h2⟩:=hf r (by omega);refine VA.mpr ⟨bR.mpr (Ym.mpr ⟨f r,cX.mpr h1,rfl⟩),zv (by omega)⟩
 rw[Ye,Zk]at hb;unfold rkD;omega
def sm(ps:List Int):Int:=ps.foldr (· + ·) 0
theorem zo:∀(a b:List Int),a.length=b.length->(∀(k:Nat) (x y:Int),a[k]?=some x->b[k]?=some y->x<=y)->sm a<=sm b/\(sm a=sm b->a=b)
 |[],[],_,_=>⟨Int.le_refl _,fun _=>rfl⟩
 |x::a,y::b,hl,h=>by
  obtain⟨h1,h2⟩:=zo a b (Vo hl) fun k u v e1 e2=>h (k+1) u v e1 e2
  have h0:=h 0 x y rfl rfl;have e1:sm (x::a)=x+sm a:=rfl;have e2:sm (y::b)=y+sm b:=rfl;refine⟨by omega,fun e=>?_⟩;rw[h2 (by omega),show x=y by omega]
theorem u5:∀(a:List Int) (m:Int),(∀x∈a,x<=m)->sm a<=a.length*m
 |[],m,_=>by simp[sm]
 |x::a,m,h=>by
  have h1:=u5 a m fun y hy=>h y (Yc _ hy)
  have h2:=h x Yd;have e1:sm (x::a)=x+sm a:=rfl;rw[e1,Yy,Int.natCast_add,Int.add_mul];omega
theorem zy:∀(a:List Int),(∀x∈a,0<=x)->0<=sm a
 |[],_=>Int.le_refl _
 |x::a,h=>by
  have h1:=zy a fun y hy=>h y (Yc _ hy)
  have h2:=h x Yd;have e1:sm (x::a)=x+sm a:=rfl;omega
theorem w_{ps:List Int}{n:Int}(hn:1<=n/\n<=7)(hl:(ps.length:Int)=n)(hc:Can ps):0<=sm ps/\sm ps<=42:=by
 refine⟨zy ps fun x hx=>(hc.1 x hx).1,?_⟩;have h1:=u5 ps (n-1) fun x hx=>by have:=(hc.1 x hx).2;omega
 rw[hl]at h1;have:n*(n-1)<=7*6:=Int.mul_le_mul hn.2 (by omega) (by omega) (by omega);omega
theorem zJ{ps:List Int}{ts:List T4}{n:Int}(hn:1<=n)(hl:(ps.length:Int)=n)(hc:Can ps):sm ps<=sm (fin ps ts n)/\(sm ps=sm (fin ps ts n)->ps=fin ps ts n):=by have hf:=eK (ps:=ps) (ts:=ts) hn;refine zo _ _ (by omega) fun k x y e1 e2=>?_;have hk:=(Yk.mp e1).1;have:=Ak (ts:=ts) hl hc (i:=(k:Int)) (by omega);unfold ox at this;rw[Zc,e1,e2]at this;exact this
end My
set_option maxHeartbeats 800000
namespace My
open PySem PySem.Spec PyProof.Rows L2
abbrev dL(ps:List Int):D:=.lst (ps.map .int)
theorem vm(a b:List Int):eqd (dL a) (dL b)=decide (a=b):=by
 by_cases h:a=b
 ·rw[h,YT rfl];exact pR D.int (fun _ _=>rfl) b
 ·rw[YB h];cases q:eqd (dL a) (dL b)with
  |false=>rfl
  |true=>exact absurd (pL ((gt _ _ (pM a b)).mp q)) h
theorem r6(a b:List Int):neD (dL a) (dL b)=some (.bl (!decide (a=b))):=by rw[uD (lP a) (lP b),vm]
theorem Cb(a b:List Int):eqD (dL a) (dL b)=some (.bl (decide (a=b))):=by rw[wm (lP a) (lP b),vm]
noncomputable def rl (ts:List T4)(n:Int):Nat->List Int->List (List Int)
 |0,q=>[q]
 |k+1,q=>if fin q ts n=q then[q]else q::rl ts n k (fin q ts n)
noncomputable def stl (ts:List T4)(n:Int):Nat->List Int->List Int
 |0,q=>q
 |k+1,q=>if fin q ts n=q then q else stl ts n k (fin q ts n)
def ie(ts:List T4)(n:Int):Nat->List Int->Prop
 |0,_=>False
 |k+1,q=>fin q ts n=q\/ie ts n k (fin q ts n)
theorem mW(ts:List T4)(n:Int):∀(k:Nat) (q:List Int),∃pre,rl ts n k q=pre++[stl ts n k q]
 |0,q=>⟨[],rfl⟩
 |k+1,q=>by
  unfold rl stl;by_cases h:fin q ts n=q
  ·rw[if_pos h,if_pos h];exact⟨[],rfl⟩
  ·rw[if_neg h,if_neg h];obtain⟨pre,e⟩:=mW ts n k (fin q ts n);exact⟨q::pre,by rw[e];rfl⟩
theorem iV(ts:List T4)(n:Int):∀(k:Nat) (q:List Int),ie ts n k q->fin (stl ts n k q) ts n=stl ts n k q
 |0,q,h=>h.elim
 |k+1,q,h=>by
  unfold stl;by_cases z:fin q ts n=q
  ·rw[if_pos z];exact z
  ·rw[if_neg z];exact iV ts n k _ (h.resolve_left z)
theorem i3(ts:List T4)(n:Int)(hn:1<=n):∀(k:Nat) (q:List Int),(q.length:Int)=n->((stl ts n k q).length:Int)=n
 |0,q,h=>h
 |k+1,q,h=>by
  unfold stl;by_cases z:fin q ts n=q
  ·rw[if_pos z];exact h
  ·rw[if_neg z];exact i3 ts n hn k _ (eK hn)
theorem oG(ts:List T4)(n:Int)(hn:1<=n/\n<=7):∀(k:Nat) (q:List Int),(q.length:Int)=n->Can q->43-sm q<=(k:Int)->ie ts n k q
 |0,q,hl,hc,h=>by have:=(w_ hn hl hc).2;omega
 |k+1,q,hl,hc,h=>by
  by_cases z:fin q ts n=q
  ·exact .inl z
  ·obtain⟨h1,h2⟩:=zJ (ts:=ts) hn.1 hl hc;refine .inr (oG ts n hn k _ (eK hn.1) (iZ q ts n) ?_);have:sm q≠sm (fin q ts n):=fun e=>z (h2 e).symm
   omega
theorem gu(ts:List T4)(n:Int)(hn:1<=n/\n<=7)(q:List Int):ie ts n 100 q:=
 .inr (oG ts n hn 99 _ (eK hn.1) (iZ q ts n) (by have:=(w_ hn (eK hn.1) (iZ q ts n)).1;omega))
abbrev iL(ps:List Int):List D:=ps.map .int
abbrev bL(ps:List Int):DV:=.bor (.lst (iL ps))
abbrev oL(ps:List Int):DV:=.own (.lst (iL ps)) none
theorem gT{i:Nat}{g:Dk}{ρ:DF}{o:OD}{t:Option Addr}(h:ρ[i]?=some (some (.own o t))):c9 i g ρ=g (ρ.set i (some (.v o.d))):=by unfold c9;rw[h]
abbrev roF(w:D)(x1:Option DV)(R:List (List D))(f:List D):DF:=[some (.v w),x1,some (.own (.lst2 R) none),some (.own (.lst f) none)]
theorem gk{Fi:Dm}{w:D}{x1:Option DV}{ts:List T4}{n:Int}(hn:1<=n)(hF:∀ps:List Int,(ps.length:Int)=n->Fi [.v w,bL ps]=some (oL (fin ps ts n))) :
  ∀(k:Nat) (pre:List (List Int)) (q:List Int),(q.length:Int)=n->ie ts n k q->pre.length+k<=1000->∃f,eR (c9 2 (asB (d2 neD (ay 3) (d2 ixD (aa 2) (d1 eC (fun _=>some (.int 1))))))) (lu 2 3 (cb Fi (aB 0 (aB 3 (fun _=>some []))))) k (roF w x1 ((pre++[q]).map iL) (iL (fin q ts n)))=some (.nx (roF w x1 ((pre++rl ts n k q).map iL) f))
 |0,pre,q,_,h,_=>h.elim
 |k+1,pre,q,hl,h,hz=>by
  have hat:atI (((pre++[q]).map iL).map D.lst) (-1)=some (dL q):=by rw[Zd,Zd];exact e7 _ _
  have hneg:eC (.int 1)=some (.int (-1)):=rfl;have hne:=r6 (fin q ts n) q;unfold eR;have hc:(c9 2 (asB (d2 neD (ay 3) (d2 ixD (aa 2) (d1 eC (fun _=>some (.int 1))))))) (roF w x1 ((pre++[q]).map iL) (iL (fin q ts n)))=some (!decide (fin q ts n=q)):=by
   rw[gT (o:=.lst2 ((pre++[q]).map iL)) (t:=none) rfl];show asB _ [some (.v w),x1,some (.v (.lst (((pre++[q]).map iL).map D.lst))),some (.own (.lst (iL (fin q ts n))) none)]=_;have e:D.lst (iL (fin q ts n))=dL (fin q ts n):=rfl;generalize iL (fin q ts n)=Y at e ⊢;generalize dL (fin q ts n)=a at hne e;subst e;generalize dL q=b at hne hat
   generalize ((pre++[q]).map iL).map D.lst=R at hat ⊢;simp[ix1,hneg,hat,hne]
  rw[hc];by_cases z:fin q ts n=q
  ·refine⟨iL (fin q ts n),?_⟩;rw[YT z];unfold rl;rw[if_pos z];rfl
  ·rw[YB z];have hl2:((fin q ts n).length:Int)=n:=eK hn;have hf:=hF _ hl2;obtain⟨f,e⟩:=gk (x1:=x1) hn hF k (pre++[q]) (fin q ts n) hl2 (h.resolve_left z) (by rw[Yt,YQ];omega);refine⟨f,?_⟩;have hb:(lu 2 3 (cb Fi (aB 0 (aB 3 (fun _=>some []))))) (roF w x1 ((pre++[q]).map iL) (iL (fin q ts n)))=some (.nx (roF w x1 ((pre++[q]++[fin q ts n]).map iL) (iL (fin (fin q ts n) ts n)))):=by
    have hlen:((pre++[q]).map iL).length<16777216:=by rw[Ye,Yt,YQ];omega
    rw[Zd (l₁:=pre++[q])];show _=some (RES.nx (roF w x1 ((pre++[q]).map iL++[iL (fin q ts n)]) (iL (fin (fin q ts n) ts n))));generalize (pre++[q]).map iL=R at hlen ⊢;unfold bL oL at hf;generalize iL (fin (fin q ts n) ts n)=Y at hf ⊢;generalize iL (fin q ts n)=a at hf ⊢;simp[lu,hlen,hf,dvO]
   simp only[Bool.not_false,hb];unfold rl;rw[if_neg z,show pre++q::rl ts n k (fin q ts n)=pre++[q]++rl ts n k (fin q ts n)by simp];exact e
def Ar(x:DV)(ps:List Int):Prop:=x=.v (dL ps)\/x=bL ps
def FOk(Fi:Dm)(w:D)(ts:List T4)(n:Int):Prop:=∀(ps:List Int) (x:DV),(ps.length:Int)=n->Ar x ps->Fi [.v w,x]=some (oL (fin ps ts n))
theorem ic{C:Addr}{w:D}{ts:List T4}{n:Int}(hn:1<=n/\n<=7)(hF:FOk (eY C) w ts n)(ps:List Int)(x:DV)(hl:(ps.length:Int)=n)(hx:Ar x ps) :
  iH C [.v w,x]=some (.own (.lst2 ((rl ts n 100 ps).map iL)) none):=by
 unfold iH g_q33;generalize eY C=Fi at hF ⊢;obtain⟨f,e⟩:=gk (x1:=some x) hn.1 (fun ps hp=>hF ps _ hp (.inr rfl)) 100 [] ps hl (gu ts n hn ps) (by simp);rw[List.nil_append,List.nil_append,List.map_singleton]at e;have hf:=hF ps x hl hx;have h1:aa 1 [some (.v w),some x,none,none]=some (dL ps):=by rcases hx with rfl|rfl<;>rfl
 have h2:∀y2 y3,aB 0 (aB 1 (fun _=>some [])) [some (.v w),some x,y2,y3]=some [.v w,x]:=fun _ _=>by rcases hx with rfl|rfl<;>rfl
 rw[fN,show aM 4 2 [.v w,x]=[some (.v w),some x,none,none]from rfl,
  ao (ρ':=[some (.v w),some x,some (.own (.lst2 [iL ps]) none),none]) (by rw[eA,lC,h1];rfl),
  ao (ρ':=roF w (some x) [iL ps] (iL (fin ps ts n))) (by rw[eA,jv,h2,Ya,hf];rfl),ao e]
 rfl
theorem dA{C:Addr}{w:D}{ts:List T4}{n:Int}(hn:1<=n/\n<=7)(hF:FOk (eY C) w ts n)(ps:List Int)(x:DV)(hl:(ps.length:Int)=n)(hx:Ar x ps) :
  gp C [.v w,x]=some (oL (stl ts n 100 ps)):=by
 have hr:=ic hn hF ps x hl hx;obtain⟨pre,e⟩:=mW ts n 100 ps;have hat:atI ((rl ts n 100 ps).map iL) (-1)=some (iL (stl ts n 100 ps)):=by rw[e,Zd];exact e7 _ _
 have hneg:eC (.int 1)=some (.int (-1)):=rfl;have h2:aB 0 (aB 1 (fun _=>some [])) [some (.v w),some x]=some [.v w,x]:=by rcases hx with rfl|rfl<;>rfl
 unfold gp g_q34;generalize iH C=Ro at hr ⊢;unfold oL;generalize (rl ts n 100 ps).map iL=R at *;generalize iL (stl ts n 100 ps)=z at *;rw[fN,show aM 2 2 [.v w,x]=[some (.v w),some x]from rfl];have h3:cb Ro (aB 0 (aB 1 (fun _=>some []))) [some (.v w),some x]=some (.lst2 R):=by rw[jv,h2,Ya,hr];rfl
 have h4:d1 eC (fun _=>some (.int 1)) [some (.v w),some x]=some (.int (-1)):=rfl;unfold l8;rw[h3,h4];simp only[hat];rfl
theorem Cp{x:Str}(h:okW x):okN 28 (.str x)=true:=by show PyData.strOk x=true;unfold PyData.strOk;rw[<-Array.all_toList,Yh];intro c hc;have:=h.2.2 c hc;simp;omega
theorem rk{n:Int}{ks:List Str}(h:okK n ks):Cmps 28 (ks.map D.str):=⟨fun d hd=>by obtain⟨x,hx,rfl⟩:=Ym.mp hd;exact Cp (h.2 x hx),fun x hx y hy=>by obtain⟨a,_,rfl⟩:=Ym.mp hx;obtain⟨b,_,rfl⟩:=Ym.mp hy;rfl⟩
theorem nW{n:Int}{ks:List Str}(hn:n<=7)(h:okK n ks):bA (aL (ks.map D.str))=true:=by
 have hc:=(rk h).sub fun d (hd:d∈aL (ks.map D.str))=>bR.mp hd
 have hx:∀d∈aL (ks.map D.str),∃x,d=.str x:=fun d hd=>by obtain⟨x,_,rfl⟩:=Ym.mp (bR.mp hd);exact⟨x,rfl⟩
 have hl:=c0 (ks.map D.str);rw[Ye]at hl;have:=h.1;unfold bA;simp only[Yo,YE];refine⟨⟨⟨⟨by omega,Yh.mpr hc.1⟩,Yh.mpr fun x hx=>Yh.mpr fun y hy=>hc.2 x hx y hy⟩,Yh.mpr fun d hd=>?_⟩,Yh.mpr fun d hd=>?_⟩
 ·obtain⟨x,rfl⟩:=hx d hd;rfl
 ·obtain⟨x,rfl⟩:=hx d hd;rfl
theorem kZ{n:Int}{ks:List Str}(hn:n<=7)(h:okK n ks):bV (ks.map D.str)=true:=by unfold bV;rw[Yo,YE,Ye];have:=h.1;exact⟨by omega,Yh.mpr fun d hd=>by obtain⟨x,_,rfl⟩:=Ym.mp hd;rfl⟩
noncomputable def fpt (ks:List Str)(ts:List T4)(n:Int):List Int:=stl ts n 100 (rks (ks.map D.str))
theorem wY{C:Addr}{ks:List Str}{T J:D}{ts:List T4}{n:Int}(hn:1<=n/\n<=7)(hk:okK n ks)(hF:FOk (eY C) (.ins C (wFs ks T J)) ts n) :
  u_ C [.v (.ins C (wFs ks T J))]=some (oL (fpt ks ts n)):=by
 have hkl:=hk.1;have hr:=fE C (ks.map D.str) (.inr (kZ hn.2 hk)) (nW hn.2 hk) (rk hk) (by rw[Ye];omega);have hs:=dA hn hF (rks (ks.map D.str)) _ (by rw[fD,Ye];exact hkl) (.inl rfl);have fk:=lV C ks T J;unfold u_ g_q4 fpt;generalize gM C=Ra at hr ⊢;generalize gp C=Se at hs ⊢;generalize wFs ks T J=F at *;generalize stl ts n 100 (rks (ks.map D.str))=z at *;have e:dL (rks (ks.map D.str))=.lst ((rks (ks.map D.str)).map .int):=rfl;rw[e]at hs;generalize (rks (ks.map D.str)).map D.int=R at *;generalize ks.map D.str=K at *;unfold oL at *;generalize iL z=y at *;simp[fk,hr,hs,dvO,dvD]
theorem xl{ks:List Str}{ts:List T4}{n:Int}(hn:1<=n/\n<=7)(hk:okK n ks):((fpt ks ts n).length:Int)=n/\Can (fpt ks ts n):=by have hkl:=hk.1;refine⟨i3 ts n hn.1 100 _ (by rw[fD,Ye];exact hkl),?_⟩;have:=iV ts n 100 (rks (ks.map D.str)) (gu ts n hn _);unfold fpt;rw[<-this];exact iZ _ ts n
theorem Aj{ps:List Int}{ts:List T4}{n i j:Int}(hi:0<=i/\i<n)(hj:0<=j/\j<n)(h:ox ps j<ox ps i):ox (fin ps ts n) j<ox (fin ps ts n) i:=by
 obtain⟨ki,ei⟩:=qE (ps:=ps) (ts:=ts) hi;obtain⟨kj,ej⟩:=qE (ps:=ps) (ts:=ts) hj;have mi:kyD ps ts n i∈kys ps ts n:=by rw[<-ei];exact ZI ki
 have mj:kyD ps ts n j∈kys ps ts n:=by rw[<-ej];exact ZI kj
 have gi:=jZ (dH ps ts n) mi;have gj:=jZ (dH ps ts n) mj;have hs:=cK ((dH ps ts n).sub fun d (hd:d∈aL (kys ps ts n))=>bR.mp hd);have hlt:=zv (ts:=ts) (n:=n) h;unfold fin;rw[qw ki,qw kj,ei,ej];generalize rkD (aL (kys ps ts n)) (kyD ps ts n i)=a at *;generalize rkD (aL (kys ps ts n)) (kyD ps ts n j)=b at *;rcases Vc b a with q|q|q
 ·omega
 ·subst q;rw[gi]at gj;have e:=Yr gj;have e3:ox ps i=ox ps j:=Zs (fun d=>match d with|.tup (.int a::_)=>a|_=>0) e;omega
 ·obtain⟨l1,z1⟩:=Yk.mp gi;obtain⟨l2,z2⟩:=Yk.mp gj;have:=(XD.mp hs) a b l1 l2 q;rw[z1,z2,hlt]at this;cases this
theorem vG{ts:List T4}{n i j:Int}(hi:0<=i/\i<n)(hj:0<=j/\j<n):∀(k:Nat) (q:List Int),ox q j<ox q i->ox (stl ts n k q) j<ox (stl ts n k q) i
 |0,q,h=>h
 |k+1,q,h=>by
  unfold stl;by_cases z:fin q ts n=q
  ·rw[if_pos z];exact h
  ·rw[if_neg z];exact vG hi hj k _ (Aj hi hj h)
theorem rW(i j:Int):geI (.int i) (.int j)=some (.bl (decide (j<=i))):=rfl
theorem wv(C:Addr){ps ls:List Int}{n:Int}(hn:0<=n/\n<=1000)(hp:(ps.length:Int)=n)(hl:(ls.length:Int)=n)(h:∀i j,(0<=i/\i<n)->(0<=j/\j<n)->ox ps j<ox ps i->ox ls j<ox ls i) :
  rE C [.v (dL ps),.v (dL ls)]=some (.v (.bl true)):=by
 have hlen:∀x2 x3,d1 bP (ay 0) [some (.v (dL ps)),some (.v (dL ls)),x2,x3]=some (.int n):=fun _ _=>by
  show some (D.int ((ps.map D.int).length:Int))=_;rw[Ye,hp]
 have h1:=fun i (hi:0<=i/\i<n)=>rX (i:=i) hp hi
 have h2:=fun i (hi:0<=i/\i<n)=>rX (i:=i) hl hi
 have body:∀i j,(0<=i/\i<n)->(0<=j/\j<n)->(dIf (eX (asB (d2 ltd (d2 ixD (aa 0) (aa 2)) (d2 ixD (aa 0) (aa 3)))) (asB (d2 geI (d2 ixD (aa 1) (aa 2)) (d2 ixD (aa 1) (aa 3))))) (bw (fun _=>some (.bl false))) dNx) [some (.v (dL ps)),some (.v (dL ls)),some (.v (.int i)),some (.v (.int j))]=some (.nx [some (.v (dL ps)),some (.v (dL ls)),some (.v (.int i)),some (.v (.int j))]):=fun i j hi hj=>by
  have a1:=h1 i hi;have a2:=h1 j hj;have b1:=h2 i hi;have b2:=h2 j hj;have c:=h j i hj hi;show _=some (RES.nx [some (.v (.lst (ps.map .int))),some (.v (.lst (ls.map .int))),some (.v (.int i)),some (.v (.int j))]);have e1:dL ps=.lst (ps.map .int):=rfl;have e2:dL ls=.lst (ls.map .int):=rfl;rw[e1,e2];generalize D.lst (ps.map .int)=p at *;generalize D.lst (ls.map .int)=l at *;by_cases q:ox ps i<ox ps j
  ·have c':=c q;simp[a1,a2,b1,b2,rW,q,c']
  ·simp[a1,a2,b1,b2,rW,q]
 unfold rE g_q12;rw[fN,show aM 4 2 [.v (dL ps),.v (dL ls)]=[some (.v (dL ps)),some (.v (dL ls)),none,none]from rfl];obtain⟨z,e,x2,x3,rfl⟩:=d8 (st:=setV 2) (body:=(dD (cg (d1 bP (ay 0))) (setV 3) (dIf (eX (asB (d2 ltd (d2 ixD (aa 0) (aa 2)) (d2 ixD (aa 0) (aa 3)))) (asB (d2 geI (d2 ixD (aa 1) (aa 2)) (d2 ixD (aa 1) (aa 3))))) (bw (fun _=>some (.bl false))) dNx))) (fun ρ=>∃x2 x3,ρ=[some (.v (dL ps)),some (.v (dL ls)),x2,x3]) (ds:=(bq n).map .int) (ρ:=[some (.v (dL ps)),some (.v (dL ls)),none,none]) ⟨_,_,rfl⟩ (by
  rintro d hd _ ⟨x2,x3,rfl⟩;obtain⟨i,hi,rfl⟩:=Ym.mp hd;have hi:=cX.mp hi;obtain⟨z,e,x3',rfl⟩:=d8 (st:=setV 3) (body:=(dIf (eX (asB (d2 ltd (d2 ixD (aa 0) (aa 2)) (d2 ixD (aa 0) (aa 3)))) (asB (d2 geI (d2 ixD (aa 1) (aa 2)) (d2 ixD (aa 1) (aa 3))))) (bw (fun _=>some (.bl false))) dNx)) (fun ρ=>∃x3,ρ=[some (.v (dL ps)),some (.v (dL ls)),some (.v (.int i)),x3]) (ds:=(bq n).map .int) (ρ:=[some (.v (dL ps)),some (.v (dL ls)),some (.v (.int i)),x3]) ⟨_,rfl⟩ (by
   rintro d hd _ ⟨x3,rfl⟩;obtain⟨j,hj,rfl⟩:=Ym.mp hd;exact⟨_,rfl,_,body i j hi (cX.mp hj),_,rfl⟩)
  exact⟨[some (.v (dL ps)),some (.v (dL ls)),some (.v (.int i)),x3],rfl,_,cF (cU (hlen _ _) hn) e,_,_,rfl⟩)
 rw[ao (cF (cU (hlen _ _) hn) e)];rfl
theorem rZ(ts:List T4)(n:Int)(k:Nat)(q:List Int):∃r,rl ts n k q=q::r:=by
 cases k with
 |zero=>exact⟨[],rfl⟩
 |succ k=>
  unfold rl;by_cases z:fin q ts n=q
  ·rw[if_pos z];exact⟨[],rfl⟩
  ·rw[if_neg z];exact⟨_,rfl⟩
theorem vD(ts:List T4)(n:Int):∀(k:Nat) (q:List Int),(rl ts n k q).length<=k+1
 |0,q=>Yl _
 |k+1,q=>by
  unfold rl;by_cases z:fin q ts n=q
  ·rw[if_pos z];show 1<=k+1+1;omega
  ·rw[if_neg z];exact Vq (vD ts n k _)
theorem sg(ts:List T4)(n:Int):∀(k:Nat) (q:List Int) (m:Nat) (a b:List Int),(rl ts n k q)[m]?=some a->(rl ts n k q)[m+1]?=some b->b=fin a ts n/\b≠a
 |0,q,m,a,b,_,hb=>by cases hb
 |k+1,q,m,a,b,ha,hb=>by
  unfold rl at ha hb;by_cases z:fin q ts n=q
  ·rw[if_pos z]at hb;cases hb
  ·rw[if_neg z]at ha hb;cases m with
   |zero=>
    cases ha;obtain⟨r,e⟩:=rZ ts n k (fin q ts n);rw[e]at hb;cases hb;exact⟨rfl,z⟩
   |succ m=>exact sg ts n k _ m a b ha hb
theorem sC(ts:List T4)(n:Int)(hn:1<=n):∀(k:Nat) (q:List Int),(q.length:Int)=n->∀a∈rl ts n k q,(a.length:Int)=n
 |0,q,h,a,ha=>by rw[Ze.mp ha];exact h
 |k+1,q,h,a,ha=>by
  unfold rl at ha;by_cases z:fin q ts n=q
  ·rw[if_pos z]at ha;rw[Ze.mp ha];exact h
  ·rw[if_neg z]at ha;rcases Yv.mp ha with rfl|ha
   ·exact h
   ·exact sC ts n hn k _ (eK hn) a ha
abbrev lrF(w x:D)(x2 x3 x4:Option DV):DF:=[some (.v w),some (.v x),x2,x3,x4,none]
theorem mS{w x:D}{R:List (List Int)}{x3 x4:Option DV}{g:Dk}:c9 2 g (lrF w x (some (.own (.lst2 (R.map iL)) none)) x3 x4)=g (lrF w x (some (.v (.lst (R.map dL)))) x3 x4):=by
 rw[gT (o:=.lst2 (R.map iL)) (t:=none) rfl];have e:(R.map iL).map D.lst=R.map dL:=by rw[Zw];rfl
 show g [some (.v w),some (.v x),some (.v (.lst ((R.map iL).map D.lst))),x3,x4,none]=_;rw[e]
theorem vQ{Nu:Dm}{w x:D}{R:List D}{x3 x4:Option DV}(h0:atI R 0=some x)(hR:R.length≠0)(hN:Nu [.v x,.v x]=some (.v (.bl true))) :
  (orT (cI (asB (d1 (kg "list") (ay 2)))) (orT (asB (d2 eqD (d1 bP (ay 2)) (fun _=>some (.int 0)))) (cI (asB (ak Nu (aV (d2 ixD (aa 2) (fun _=>some (.int 0))) (aB 1 (fun _=>some [])))))))) (lrF w x (some (.v (.lst R))) x3 x4)=some false:=by
 have hl:bP (.lst R)=some (.int (R.length:Int)):=rfl;have hz:¬((R.length:Int)=0):=by omega
 have hi:kg "list" (.lst R)=some (.bl true):=rfl;have h1:(cI (asB (d1 (kg "list") (ay 2)))) (lrF w x (some (.v (.lst R))) x3 x4)=some false:=by rw[nR,gR,ww,show ay 2 (lrF w x (some (.v (.lst R))) x3 x4)=some (.lst R)from rfl,Ya,hi];rfl
 have h2:(asB (d2 eqD (d1 bP (ay 2)) (fun _=>some (.int 0)))) (lrF w x (some (.v (.lst R))) x3 x4)=some false:=by rw[gR,iy,ww,show ay 2 (lrF w x (some (.v (.lst R))) x3 x4)=some (.lst R)from rfl,Ya,hl,Ya];show(match eqD (.int (R.length:Int)) (.int 0)with|some (.bl b)=>some b|_=>none)=_;rw[yJ,YB hz]
 have h3:(cI (asB (ak Nu (aV (d2 ixD (aa 2) (fun _=>some (.int 0))) (aB 1 (fun _=>some [])))))) (lrF w x (some (.v (.lst R))) x3 x4)=some false:=by rw[nR,gR,gP,pH,iy,show aa 2 (lrF w x (some (.v (.lst R))) x3 x4)=some (.lst R)from rfl,Ya,Ya,ix1,h0,Ya];show((match(Nu [.v x,.v x]).bind dvD with|some (.bl b)=>some b|_=>none):Option Bool).map _=_;rw[hN];rfl
 rw[nO,h1,Ya,if_neg (by decide),nO,h2,Ya,if_neg (by decide),h3]
theorem yV{Nu Fi:Dm}{w x:D}{R:List D}{x4:Option DV}{k:Int}{a b:List Int}(ha:atI R (k-1)=some (dL a))(hb:atI R k=some (dL b))(hne:b≠a)(hF:Fi [.v w,.v (dL a)]=some (oL b))(hN:Nu [.v (dL b),.v (dL b)]=some (.v (.bl true))) :
  (orT (asB (d2 eqD (d2 ixD (aa 2) (aa 3)) (d2 ixD (aa 2) (d2 da (aa 3) (fun _=>some (.int 1)))))) (cI (asB (ak Nu (aV (d2 ixD (aa 2) (aa 3)) (aV (ak Fi (aB 0 (aV (d2 ixD (aa 2) (d2 da (aa 3) (fun _=>some (.int 1)))) (fun _=>some [])))) (fun _=>some []))))))) (lrF w x (some (.v (.lst R))) (some (.v (.int k))) x4)=some false:=by
 have g2:aa 2 (lrF w x (some (.v (.lst R))) (some (.v (.int k))) x4)=some (.lst R):=rfl;have g3:aa 3 (lrF w x (some (.v (.lst R))) (some (.v (.int k))) x4)=some (.int k):=rfl;have ik:d2 ixD (aa 2) (aa 3) (lrF w x (some (.v (.lst R))) (some (.v (.int k))) x4)=some (dL b):=by rw[iy,g2,Ya,g3,Ya,ix1,hb]
 have ik1:d2 ixD (aa 2) (d2 da (aa 3) (fun _=>some (.int 1))) (lrF w x (some (.v (.lst R))) (some (.v (.int k))) x4)=some (dL a):=by rw[iy,g2,Ya,iy,g3,Ya,Ya,vc,Ya,ix1,ha]
 have h1:(asB (d2 eqD (d2 ixD (aa 2) (aa 3)) (d2 ixD (aa 2) (d2 da (aa 3) (fun _=>some (.int 1)))))) (lrF w x (some (.v (.lst R))) (some (.v (.int k))) x4)=some false:=by rw[gR,iy,ik,Ya,ik1,Ya,Cb,YB hne]
 have h2:(cI (asB (ak Nu (aV (d2 ixD (aa 2) (aa 3)) (aV (ak Fi (aB 0 (aV (d2 ixD (aa 2) (d2 da (aa 3) (fun _=>some (.int 1)))) (fun _=>some [])))) (fun _=>some [])))))) (lrF w x (some (.v (.lst R))) (some (.v (.int k))) x4)=some false:=by
  have hc:ak Fi (aB 0 (aV (d2 ixD (aa 2) (d2 da (aa 3) (fun _=>some (.int 1)))) (fun _=>some []))) (lrF w x (some (.v (.lst R))) (some (.v (.int k))) x4)=some (dL b):=by rw[gP,zw];show((aV _ _ _).map fun xs=>DV.v w::xs).bind _=_;rw[pH,ik1];show(Fi [.v w,.v (dL a)]).bind dvD=_;rw[hF];rfl
  rw[nR,gR,gP,pH,ik,Ya,pH,hc];show((match(Nu [.v (dL b),.v (dL b)]).bind dvD with|some (.bl b)=>some b|_=>none):Option Bool).map _=_;rw[hN];rfl
 rw[nO,h1,Ya,if_neg (by decide),h2]
theorem yN{Fi:Dm}{w x:D}{R:List D}{x3 x4:Option DV}{a:List Int}(ha:atI R (-1)=some (dL a))(hF:Fi [.v w,.v (dL a)]=some (oL a)) :
  (asB (d2 neD (ak Fi (aB 0 (aV (d2 ixD (aa 2) (d1 eC (fun _=>some (.int 1)))) (fun _=>some [])))) (d2 ixD (aa 2) (d1 eC (fun _=>some (.int 1)))))) (lrF w x (some (.v (.lst R))) x3 x4)=some false:=by
 have g2:aa 2 (lrF w x (some (.v (.lst R))) x3 x4)=some (.lst R):=rfl;have ik:d2 ixD (aa 2) (d1 eC (fun _=>some (.int 1))) (lrF w x (some (.v (.lst R))) x3 x4)=some (dL a):=by rw[iy,g2,Ya,show d1 eC (fun _=>some (.int 1)) (lrF w x (some (.v (.lst R))) x3 x4)=some (.int (-1))from rfl,Ya,ix1,ha]
 have hc:ak Fi (aB 0 (aV (d2 ixD (aa 2) (d1 eC (fun _=>some (.int 1)))) (fun _=>some []))) (lrF w x (some (.v (.lst R))) x3 x4)=some (dL a):=by rw[gP,zw];show((aV _ _ _).map fun xs=>DV.v w::xs).bind _=_;rw[pH,ik];show(Fi [.v w,.v (dL a)]).bind dvD=_;rw[hF];rfl
 rw[gR,iy,hc,Ya,ik,Ya,r6,YT rfl];rfl
theorem kL{C:Addr}{w:D}{ts:List T4}{n:Int}(hn:1<=n/\n<=7)(hF:FOk (eY C) w ts n)(ps:List Int)(hl:(ps.length:Int)=n) :
  oM C [.v w,.v (dL ps)]=some (oL (stl ts n 100 ps)):=by
 have hr:=ic hn hF ps (.v (dL ps)) hl (.inl rfl);have hN:∀q:List Int,(q.length:Int)=n->d_ C [.v (dL q),.v (dL q)]=some (.v (.bl true)):=fun q hq=>fV C q (by omega)
 obtain⟨pre,el⟩:=mW ts n 100 ps;obtain⟨r,eh⟩:=rZ ts n 100 ps;have hfew:=vD ts n 100 ps;have hnx:=sg ts n 100 ps;have hw:=sC ts n hn.1 100 ps hl;have hfix:=iV ts n 100 ps (gu ts n hn ps);have hsl:=i3 ts n hn.1 100 ps hl;generalize stl ts n 100 ps=L at *;generalize rl ts n 100 ps=R at *;have hlast:atI (R.map dL) (-1)=some (dL L):=by rw[el,Zd];exact e7 _ _
 have hlast2:atI (R.map iL) (-1)=some (iL L):=by rw[el,Zd];exact e7 _ _
 have h0:atI (R.map dL) 0=some (dL ps):=by rw[eh];exact i5 (j:=0) rfl
 have hR0:(R.map dL).length≠0:=by rw[eh];simp
 have hNp:=hN ps hl;have hFL:=hF L _ hsl (.inl rfl);rw[hfix]at hFL;have each:∀m:Nat,1+m<R.length->∃a b:List Int,atI (R.map dL) ((1+m:Nat)-1:Int)=some (dL a)/\atI (R.map dL) ((1+m:Nat):Int)=some (dL b)/\b≠a/\eY C [.v w,.v (dL a)]=some (oL b)/\d_ C [.v (dL b),.v (dL b)]=some (.v (.bl true)):=fun m hm=>by
  have ha:R[m]?=some R[m]:=Yi (by omega);have hb:R[m+1]?=some R[m+1]:=Yi (by omega);generalize R[m]=a at ha;generalize R[m+1]=b at hb;obtain⟨e1,e2⟩:=hnx m a b ha hb;refine⟨a,b,?_,?_,e2,?_,hN b (hw b (YA hb))⟩
  ·rw[show(((1+m:Nat):Int)-1)=((m:Nat):Int)by omega];exact i5 (by rw[Yu,ha];rfl)
  ·exact i5 (by rw[Yu,show 1+m=m+1 by omega,hb];rfl)
  ·rw[e1];exact hF a _ (hw a (YA ha)) (.inl rfl)
 unfold oM g_q25;generalize eY C=Fi at *;generalize iH C=Ro at *;generalize d_ C=Nu at *;have hlen:∀x3 x4,d1 bP (ay 2) (lrF w (dL ps) (some (.own (.lst2 (R.map iL)) none)) x3 x4)=some (.int (R.length:Int)):=fun _ _=>by
  show some (D.int (((R.map iL).map D.lst).length:Int))=_;rw[Ye,Ye]
 have s2:(dIf (c9 2 (orT (cI (asB (d1 (kg "list") (ay 2)))) (orT (asB (d2 eqD (d1 bP (ay 2)) (fun _=>some (.int 0)))) (cI (asB (ak Nu (aV (d2 ixD (aa 2) (fun _=>some (.int 0))) (aB 1 (fun _=>some []))))))))) (bw (fun _=>some .non)) dNx) (lrF w (dL ps) (some (.own (.lst2 (R.map iL)) none)) none none)=some (.nx (lrF w (dL ps) (some (.own (.lst2 (R.map iL)) none)) none none)):=by rw[fw,mS,vQ h0 hR0 hNp];rfl
 obtain⟨z,e3,x3,rfl⟩:=d8 (st:=setV 3) (body:=(dIf (c9 2 (orT (asB (d2 eqD (d2 ixD (aa 2) (aa 3)) (d2 ixD (aa 2) (d2 da (aa 3) (fun _=>some (.int 1)))))) (cI (asB (ak Nu (aV (d2 ixD (aa 2) (aa 3)) (aV (ak Fi (aB 0 (aV (d2 ixD (aa 2) (d2 da (aa 3) (fun _=>some (.int 1)))) (fun _=>some [])))) (fun _=>some [])))))))) (bw (fun _=>some .non)) dNx)) (fun ρ=>∃x3,ρ=lrF w (dL ps) (some (.own (.lst2 (R.map iL)) none)) x3 none) (ds:=cz 1 ((R.length:Int)-1).toNat) (ρ:=lrF w (dL ps) (some (.own (.lst2 (R.map iL)) none)) none none) ⟨_,rfl⟩ (by
  rintro d hd _ ⟨x3,rfl⟩;obtain⟨m,hm⟩:=List.getElem?_of_mem hd;obtain⟨hm,rfl⟩:=kh hm;obtain⟨a,b,q1,q2,q3,q4,q5⟩:=each m (by omega);rw[show(1:Int)+(m:Int)=((1+m:Nat):Int)by omega];refine⟨lrF w (dL ps) (some (.own (.lst2 (R.map iL)) none)) (some (.v (.int ((1+m:Nat):Int)))) none,rfl,lrF w (dL ps) (some (.own (.lst2 (R.map iL)) none)) (some (.v (.int ((1+m:Nat):Int)))) none,?_,_,rfl⟩;rw[fw,mS,yV q1 q2 q3 q4 q5];rfl)
 have s3:(dD (qf (fun _=>some (.int 1)) (d1 bP (ay 2))) (setV 3) (dIf (c9 2 (orT (asB (d2 eqD (d2 ixD (aa 2) (aa 3)) (d2 ixD (aa 2) (d2 da (aa 3) (fun _=>some (.int 1)))))) (cI (asB (ak Nu (aV (d2 ixD (aa 2) (aa 3)) (aV (ak Fi (aB 0 (aV (d2 ixD (aa 2) (d2 da (aa 3) (fun _=>some (.int 1)))) (fun _=>some [])))) (fun _=>some [])))))))) (bw (fun _=>some .non)) dNx)) (lrF w (dL ps) (some (.own (.lst2 (R.map iL)) none)) none none)=some (.nx (lrF w (dL ps) (some (.own (.lst2 (R.map iL)) none)) x3 none)):=by refine cF ?_ e3;unfold qf;rw[hlen];show(if -(2^62)<=(1:Int)/\(1:Int)<2^62/\-(2^62)<=(R.length:Int)/\(R.length:Int)<2^62 then _ else none)=_;rw[if_pos (by omega)]
 have s4:(dIf (c9 2 (asB (d2 neD (ak Fi (aB 0 (aV (d2 ixD (aa 2) (d1 eC (fun _=>some (.int 1)))) (fun _=>some [])))) (d2 ixD (aa 2) (d1 eC (fun _=>some (.int 1))))))) (bw (fun _=>some .non)) dNx) (lrF w (dL ps) (some (.own (.lst2 (R.map iL)) none)) x3 none)=some (.nx (lrF w (dL ps) (some (.own (.lst2 (R.map iL)) none)) x3 none)):=by rw[fw,mS,yN hlast hFL];rfl
 have s5:(bB 4 (asL (cB (v9 2 (d1 eC (fun _=>some (.int 1))))))) (lrF w (dL ps) (some (.own (.lst2 (R.map iL)) none)) x3 none)=some (.nx (lrF w (dL ps) (some (.own (.lst2 (R.map iL)) none)) x3 (some (oL L)))):=by rw[eA,c_,lC,show v9 2 (d1 eC (fun _=>some (.int 1))) (lrF w (dL ps) (some (.own (.lst2 (R.map iL)) none)) x3 none)=(atI (R.map iL) (-1)).map D.lst from rfl,hlast2];rfl
 have s6:gA 2 5 (lrF w (dL ps) (some (.own (.lst2 (R.map iL)) none)) x3 (some (oL L)))=some (.nx [some (.v w),some (.v (dL ps)),none,x3,some (oL L),none]):=by
  have hall:(R.map iL).all (fun ds=>decide (ds.length+(R.map iL).length<=16777216))=true:=by refine Yh.mpr fun ds hd=>YT ?_;obtain⟨a,ha,rfl⟩:=Ym.mp hd;have:=hw a ha;rw[Ye,Ye];omega
  show(if 5<6/\(R.map iL).all (fun ds=>decide (ds.length+(R.map iL).length<=16777216))=true then _ else none)=_;rw[if_pos ⟨by decide,hall⟩];rfl
 rw[fN,show aM 6 2 [.v w,.v (dL ps)]=lrF w (dL ps) none none none from rfl,
  ao (ρ':=lrF w (dL ps) (some (.own (.lst2 (R.map iL)) none)) none none) (by
   rw[eA,jv];show(((Ro [.v w,.v (dL ps)]).bind dvO).map _)=_;rw[hr];rfl),ao s2,ao s3,ao s4,ao s5,ao s6]
 rfl
abbrev l8F(N KS TS:List D)(w:D)(x4 x5 x6 x7 x8 x9:Option DV):DF:=[some (.v (.lst N)),some (.v (.lst KS)),some (.v (.lst TS)),some (.v w),x4,x5,x6,x7,x8,x9]
theorem Ew{Nu Se Lr Ap:Dm}{N KS TS P Q:List D}{w:D}(hLr:Lr [.v w,.v (.lst P)]=some (.own (.lst Q) none))(hAp:Ap [.v (.lst P),.v (.lst Q)]=some (.v (.bl true)))(hSe:Se [.v w,.v (.lst P)]=some (.own (.lst Q) none))(hN:Nu [.v (.lst Q),.v (.lst Q)]=some (.v (.bl true)))(hP:neD (.lst P) (.lst P)=some (.bl false))(hQ:neD (.lst Q) (.lst Q)=some (.bl false)) :
  (aE 5 (asO (asL (cB (aa 4))))) (l8F N KS TS w (some (.v (.lst P))) none none none none none)=some (.nx (l8F N KS TS w (some (.v (.lst P))) (some (.v (.lst P))) none none none none)) /\
  (aE 6 (ak Lr (aB 3 (aB 5 (fun _=>some []))))) (l8F N KS TS w (some (.v (.lst P))) (some (.v (.lst P))) none none none none)=some (.nx (l8F N KS TS w (some (.v (.lst P))) (some (.v (.lst P))) (some (.v (.lst Q))) none none none)) /\
  (dIf (orT (uF 6) (orT (asB (d2 neD (ay 5) (ay 4))) (cI (asB (ak Ap (aB 4 (aB 6 (fun _=>some [])))))))) (bw (fun _=>some (.bl false))) dNx) (l8F N KS TS w (some (.v (.lst P))) (some (.v (.lst P))) (some (.v (.lst Q))) none none none)=some (.nx (l8F N KS TS w (some (.v (.lst P))) (some (.v (.lst P))) (some (.v (.lst Q))) none none none)) /\
  (dIf (orT (cI (asB (ak Nu (aV (ak Se (aB 3 (aB 5 (fun _=>some [])))) (aB 6 (fun _=>some [])))))) (asB (d2 neD (ay 5) (ay 4)))) (bw (fun _=>some (.bl false))) dNx) (l8F N KS TS w (some (.v (.lst P))) (some (.v (.lst P))) (some (.v (.lst Q))) none none none)=some (.nx (l8F N KS TS w (some (.v (.lst P))) (some (.v (.lst P))) (some (.v (.lst Q))) none none none)) /\
  (dIf (asB (d2 neD (ak Lr (aB 3 (aB 5 (fun _=>some [])))) (ay 6))) (bw (fun _=>some (.bl false))) dNx) (l8F N KS TS w (some (.v (.lst P))) (some (.v (.lst P))) (some (.v (.lst Q))) none none none)=some (.nx (l8F N KS TS w (some (.v (.lst P))) (some (.v (.lst P))) (some (.v (.lst Q))) none none none)):=by
 have hn:uF 6 (l8F N KS TS w (some (.v (.lst P))) (some (.v (.lst P))) (some (.v (.lst Q))) none none none)=some false:=rfl;refine⟨rfl,by simp[hLr,dvD],?_,?_,?_⟩
 ·rw[fw,nO,hn];simp[hP,hAp,dvD]
 ·simp[hSe,hN,hP,dvD]
 ·simp[hLr,hQ,dvD]
theorem DQ{Nu Se Fi Ro:Dm}{N KS TS Q:List D}{w:D}{x4 x5:Option DV}(hSb:Se [.v w,.bor (.lst Q)]=some (.own (.lst Q) none))(hFb:Fi [.v w,.bor (.lst Q)]=some (.own (.lst Q) none))(hRb:Ro [.v w,.bor (.lst Q)]=some (.own (.lst2 [Q]) none))(hSv:Se [.v w,.v (.lst Q)]=some (.own (.lst Q) none))(hN:Nu [.v (.lst Q),.v (.lst Q)]=some (.v (.bl true)))
  (hT:neD (.lst [.lst Q,.lst Q,.lst [.lst Q]]) (.lst [.lst Q,.lst Q,.lst [.lst Q]])=some (.bl false)) (hl:Q.length<16777216) :
  (bB 7 (asL (cB (aa 6)))) (l8F N KS TS w x4 x5 (some (.v (.lst Q))) none none none)=some (.nx (l8F N KS TS w x4 x5 (some (.v (.lst Q))) (some (.own (.lst Q) none)) none none)) /\
  (bB 8 (fun ρ=>((gr (cb Se (aB 3 (aB 7 (fun _=>some []))))) ρ).bind fun a=>((gr (cb Fi (aB 3 (aB 7 (fun _=>some []))))) ρ).bind fun b=>((gr (cb Ro (aB 3 (aB 7 (fun _=>some []))))) ρ).map fun c=>OD.lst2 [a,b,c])) (l8F N KS TS w x4 x5 (some (.v (.lst Q))) (some (.own (.lst Q) none)) none none)=some (.nx (l8F N KS TS w x4 x5 (some (.v (.lst Q))) (some (.own (.lst Q) none)) (some (.own (.lst2 [Q,Q,[.lst Q]]) none)) none)) /\
  (di 7 (fun _=>some (.int 99))) (l8F N KS TS w x4 x5 (some (.v (.lst Q))) (some (.own (.lst Q) none)) (some (.own (.lst2 [Q,Q,[.lst Q]]) none)) none)=some (.nx (l8F N KS TS w x4 x5 (some (.v (.lst Q))) (some (.own (.lst (Q++[.int 99])) none)) (some (.own (.lst2 [Q,Q,[.lst Q]]) none)) none)) /\
  (dIf (c9 8 (asB (d2 neD (ay 8) (asO (asL (ai (getV 6) (ai (getV 6) (ai (asO (asL (ai (getV 6) aR))) aR)))))))) (bw (fun _=>some (.bl false))) dNx) (l8F N KS TS w x4 x5 (some (.v (.lst Q))) (some (.own (.lst (Q++[.int 99])) none)) (some (.own (.lst2 [Q,Q,[.lst Q]]) none)) none)=some (.nx (l8F N KS TS w x4 x5 (some (.v (.lst Q))) (some (.own (.lst (Q++[.int 99])) none)) (some (.own (.lst2 [Q,Q,[.lst Q]]) none)) none)) /\
  (nj 8 0) (l8F N KS TS w x4 x5 (some (.v (.lst Q))) (some (.own (.lst (Q++[.int 99])) none)) (some (.own (.lst2 [Q,Q,[.lst Q]]) none)) none)=some (.nx (l8F N KS TS w x4 x5 (some (.v (.lst Q))) (some (.own (.lst (Q++[.int 99])) none)) (some (.own (.lst2 [[],Q,[.lst Q]]) none)) none)) /\
  (dIf (cI (asB (ak Nu (aV (ak Se (aB 3 (aV (asO (asL (cB (aa 6)))) (fun _=>some [])))) (aB 6 (fun _=>some [])))))) (bw (fun _=>some (.bl false))) dNx) (l8F N KS TS w x4 x5 (some (.v (.lst Q))) (some (.own (.lst (Q++[.int 99])) none)) (some (.own (.lst2 [[],Q,[.lst Q]]) none)) none)=some (.nx (l8F N KS TS w x4 x5 (some (.v (.lst Q))) (some (.own (.lst (Q++[.int 99])) none)) (some (.own (.lst2 [[],Q,[.lst Q]]) none)) none)):=by
 refine⟨rfl,?_,by simp[hl],?_,rfl,by simp[hSv,hN,dvD]⟩
 ·have a1:∀(m:Dm),cb m (aB 3 (aB 7 (fun _=>some []))) (l8F N KS TS w x4 x5 (some (.v (.lst Q))) (some (.own (.lst Q) none)) none none)=(m [.v w,.bor (.lst Q)]).bind dvO:=fun _=>rfl
  rw[eA];unfold gr;simp only[a1,hSb,hFb,hRb,dvO,Ya];rfl
 ·rw[fw,gT (o:=.lst2 [Q,Q,[.lst Q]]) (t:=none) rfl];show((asB (d2 neD (ay 8) _) [some (.v (.lst N)),some (.v (.lst KS)),some (.v (.lst TS)),some (.v w),x4,x5,some (.v (.lst Q)),some (.own (.lst (Q++[.int 99])) none),some (.v (.lst [.lst Q,.lst Q,.lst [.lst Q]])),none]).bind _)=_;have e:((match neD (.lst [.lst Q,.lst Q,.lst [.lst Q]]) (.lst [.lst Q,.lst Q,.lst [.lst Q]])with|some (.bl b)=>some b|_=>none):Option Bool)=some false:=by rw[hT]
  exact(Zs (fun z:Option Bool=>z.bind _) e)
theorem Em{Nu Se Fp Ra:Dm}{N KS TS Y Z:List D}{w:D}{x4 x5 x6 x7 x8:Option DV}(hFp:Fp [.v w]=some (.own (.lst Y) none))(hRa:Ra [.v (.lst KS)]=some (.own (.lst Z) none))(hSz:Se [.v w,.v (.lst Z)]=some (.own (.lst Y) none))(hN:Nu [.v (.lst Y),.v (.lst Y)]=some (.v (.bl true)))(hl:Y.length<16777216) :
  (bB 9 (cb Fp (aB 3 (fun _=>some [])))) (l8F N KS TS w x4 x5 x6 x7 x8 none)=some (.nx (l8F N KS TS w x4 x5 x6 x7 x8 (some (.own (.lst Y) none)))) /\
  (di 9 (fun _=>some (.int 99))) (l8F N KS TS w x4 x5 x6 x7 x8 (some (.own (.lst Y) none)))=some (.nx (l8F N KS TS w x4 x5 x6 x7 x8 (some (.own (.lst (Y++[.int 99])) none)))) /\
  (bw (ak Nu (aV (ak Fp (aB 3 (fun _=>some []))) (aV (ak Se (aB 3 (aV (ak Ra (aV (asO (asL (cB (aa 1)))) (fun _=>some []))) (fun _=>some [])))) (fun _=>some []))))) (l8F N KS TS w x4 x5 x6 x7 x8 (some (.own (.lst (Y++[.int 99])) none)))=some (.rt (.v (.bl true)) (l8F N KS TS w x4 x5 x6 x7 x8 (some (.own (.lst (Y++[.int 99])) none)))):=by
 refine⟨by simp[hFp,dvO],by simp[hl],by simp[hFp,hRa,hSz,hN,dvD,cG]⟩
theorem zq(n:Nat)(r:List Int):okN (n+1) (.lst (r.map .int))=true:=by show(r.map D.int).all (okN n)=true;rw[Yh];intro x hx;obtain⟨t,_,rfl⟩:=Ym.mp hx;cases n<;>rfl
theorem xU(r:List Int):neD (.lst [dL r,dL r,.lst [dL r]]) (.lst [dL r,dL r,.lst [dL r]])=some (.bl false):=by
 have h1:=zq 28 r;have h2:=zq 27 r;have h3:eqd (dL r) (dL r)=true:=by rw[vm,YT rfl]
 have ok:okN 30 (.lst [dL r,dL r,.lst [dL r]])=true:=by
  show[dL r,dL r,.lst [dL r]].all (okN 29)=true;have h4:okN 29 (.lst [dL r])=true:=by show[dL r].all (okN 28)=true;rw[XR,h2];rfl
  rw[XR,XR,XR,h1,h4];rfl
 rw[uD ok ok];have e:eqd (.lst [dL r,dL r,.lst [dL r]]) (.lst [dL r,dL r,.lst [dL r]])=true:=by unfold eqd at h3 ⊢;simp only[bG,bC]at h3 ⊢;generalize bC (r.map D.int)=q at h3 ⊢;simp only[PyData.eqv]at h3 ⊢;simp[PyData.eqvAll,PyData.eqv,h3]
 rw[e];rfl
theorem law_true(C:Addr)(ns:List Int)(hl:ns.length<=63):xa C [.v (.lst (ns.map L2.D.int))]=some (.v (.bl true)):=by
 obtain⟨n,ks,ts,hn,hk,hs,hW⟩:=yR C ns;obtain⟨kvs,hJ,hmk⟩:=AC C ks ts n hn hk hs;obtain⟨ps,hp,_,hP⟩:=qU C ns n hn;have hF:FOk (eY C) (.ins C (wFs ks (.lst (srt ts)) (.dT kvs))) ts n:=fun ps x hp hx=>by
  rcases hx with rfl|rfl
  ·exact uK C ks (.lst (srt ts)) kvs ts ps n hn hk.1 hp hJ
  ·exact sM C ks (.lst (srt ts)) kvs ts ps n hn hk.1 hp hJ
 have hkl:((ks.map D.str).length:Int)=n:=by rw[Ye];exact hk.1
 have hfix:=iV ts n 100 ps (gu ts n hn ps);have hsl:=i3 ts n hn.1 100 ps hp;have hS2:stl ts n 100 (stl ts n 100 ps)=stl ts n 100 ps:=by generalize stl ts n 100 ps=L at hfix ⊢;show(if fin L ts n=L then L else _)=L;rw[if_pos hfix]
 have hR2:rl ts n 100 (stl ts n 100 ps)=[stl ts n 100 ps]:=by
  generalize stl ts n 100 ps=L at hfix ⊢;show(if fin L ts n=L then[L]else _)=[L]
  rw[if_pos hfix]
 have hLr:=kL hn hF ps hp;have hAp:=wv C (ps:=ps) (ls:=stl ts n 100 ps) (by omega) hp hsl fun i j hi hj h=>vG hi hj 100 ps h
 have hSe:=dA hn hF ps _ hp (.inl rfl);have hSb:=dA hn hF (stl ts n 100 ps) _ hsl (.inr rfl);have hSv:=dA hn hF (stl ts n 100 ps) _ hsl (.inl rfl);have hFb:=hF (stl ts n 100 ps) _ hsl (.inr rfl);have hRb:=ic hn hF (stl ts n 100 ps) _ hsl (.inr rfl);rw[hS2]at hSb hSv;rw[hfix]at hFb;rw[hR2]at hRb;have hFp:=wY hn hk hF;have hRa:=fE C (ks.map D.str) (.inr (kZ hn.2 hk)) (nW hn.2 hk) (rk hk) (by rw[Ye];have:=hk.1;omega);have hSz:=dA hn hF (rks (ks.map D.str)) _ (by rw[fD,Ye];exact hk.1) (.inl rfl);have hfl:((fpt ks ts n).length:Int)=n:=(xl hn hk).1;have hNQ:d_ C [.v (dL (stl ts n 100 ps)),.v (dL (stl ts n 100 ps))]=some (.v (.bl true)):=fV C _ (by omega);have hNY:d_ C [.v (dL (fpt ks ts n)),.v (dL (fpt ks ts n))]=some (.v (.bl true)):=fV C _ (by omega);have hP0:neD (dL ps) (dL ps)=some (.bl false):=by rw[r6,YT rfl];rfl
 have hQ0:neD (dL (stl ts n 100 ps)) (dL (stl ts n 100 ps))=some (.bl false):=by rw[r6,YT rfl];rfl
 have hT:=xU (stl ts n 100 ps);have hQl:(iL (stl ts n 100 ps)).length<16777216:=by rw[Ye];omega
 have hYl:(iL (fpt ks ts n)).length<16777216:=by rw[Ye];omega
 have A:=Ew (N:=ns.map .int) (KS:=ks.map .str) (TS:=ts.map dT4) hLr hAp hSe hNQ hP0 hQ0;have B:=DQ (N:=ns.map .int) (KS:=ks.map .str) (TS:=ts.map dT4) (x4:=some (.v (dL ps))) (x5:=some (.v (dL ps))) hSb hFb hRb hSv hNQ hT hQl;have E:=fun x6 x7 x8=>Em (N:=ns.map .int) (TS:=ts.map dT4) (x4:=some (.v (dL ps))) (x5:=some (.v (dL ps))) (x6:=x6) (x7:=x7) (x8:=x8) hFp hRa hSz hNY hYl
 clear hLr hAp hSe hSb hSv hFb hRb hFp hRa hSz hNQ hNY hF;obtain⟨a1,a2,a3,a4,a5⟩:=A;obtain⟨b1,b2,b3,b4,b5,b6⟩:=B;unfold xa g_q11;generalize wFs ks (.lst (srt ts)) (.dT kvs)=Fw at *;generalize ns.map D.int=N at *;generalize ks.map D.str=KS at *;generalize ts.map dT4=TS at *;rw[sy,show aM 10 1 [.v (.lst N)]=[some (.v (.lst N)),none,none,none,none,none,none,none,none,none]from rfl,
  ao (ρ':=[some (.v (.lst N)),some (.v (.lst KS)),some (.v (.lst TS)),none,none,none,none,none,none,none]) (by
   rw[wL,show ak (lv C) (aB 0 (aV (fun _=>some (.int 7)) (aV (fun _=>some (.int 7)) (fun _=>some [])))) [some (.v (.lst N)),none,none,none,none,none,none,none,none,none]=some (.tup [.lst KS,.lst TS])by
    show(lv C [.v (.lst N),.v (.int 7),.v (.int 7)]).bind dvD=_;rw[hW];rfl]
   rfl),
  ao (ρ':=l8F N KS TS (.ins C Fw) none none none none none none) (by
   rw[eJ,fX,hmk _ _ rfl];rfl),
  ao (ρ':=l8F N KS TS (.ins C Fw) (some (.v (dL ps))) none none none none none) (by
   rw[eJ,show ak (lr C) (aB 0 (aV (d1 bP (ay 1)) (fun _=>some []))) (l8F N KS TS (.ins C Fw) none none none none none none)=some (dL ps)by
    show(lr C [.v (.lst N),.v (.int (KS.length:Int))]).bind dvD=_;rw[hkl,hP];rfl]
   rfl),
  ao a1,ao a2,ao a3,ao a4,ao a5,ao b1,ao b2,ao b3,ao b4,ao b5,ao b6]
 obtain⟨c1,c2,c3⟩:=E (some (.v (dL (stl ts n 100 ps)))) (some (.own (.lst (iL (stl ts n 100 ps)++[.int 99])) none)) (some (.own (.lst2 [[],iL (stl ts n 100 ps),[dL (stl ts n 100 ps)]]) none));rw[ao c1,ao c2,c3];rfl
def spLaw(K:Kq):Sp:=fun vs H Q _=>∃(a:Addr) (ns:List Int),vs=[.ref a]/\SqL K H a (ns.map V.int)/\ns.length<=63/\∀H',Q (.bl true) H'
theorem gU{K:Kq}{H:Hp}:∀ns:List Int,Reps K H (ns.map V.int) (ns.map D.int)
 |[]=>.nil
 |_::ns=>.cons .int (gU ns)
theorem um{K:Kq}{m:Dm}(hm:∀ns:List Int,ns.length<=63->m [.v (.lst (ns.map D.int))]=some (.v (.bl true))):∀vs H Q E,spLaw K vs H Q E->spD K m vs H Q E:=by rintro vs H Q E ⟨a,ns,rfl,hS,hl,hQ⟩;refine⟨fun _=>none,H,_,_,hm ns hl,⟨fun _ _ e=>e,fun _ _ e=>(by cases e),fun _ _ e=>(by cases e)⟩,.cons rfl (show Rep K H _ _ from .lst hS (gU ns)) .nil,fun v F' H' _ _ r=>?_⟩;cases r;exact hQ H'
theorem dZ{α:Type}{us:List α}(h:us.length=1):∃a,us=[a]:=List.length_eq_one_iff.mp h
theorem cZ{α:Type}{us:List α}(h:us.length=2):∃a1 a2,us=[a1,a2]:=by
 cases us with
 |nil=>cases h
 |cons a r=>
  obtain⟨a2,rfl⟩:=dZ (Vo h);exact⟨a,a2,rfl⟩
theorem je{α:Type}{us:List α}(h:us.length=3):∃a1 a2 a3,us=[a1,a2,a3]:=by
 cases us with
 |nil=>cases h
 |cons a r=>
  obtain⟨a2,a3,rfl⟩:=cZ (Vo h);exact⟨a,a2,a3,rfl⟩
theorem B3{α:Type}{us:List α}(h:us.length=4):∃a1 a2 a3 a4,us=[a1,a2,a3,a4]:=by
 cases us with
 |nil=>cases h
 |cons a r=>
  obtain⟨a2,a3,a4,rfl⟩:=je (Vo h);exact⟨a,a2,a3,a4,rfl⟩
theorem Cj{α:Type}{us:List α}(h:us.length=5):∃a1 a2 a3 a4 a5,us=[a1,a2,a3,a4,a5]:=by
 cases us with
 |nil=>cases h
 |cons a r=>
  obtain⟨a2,a3,a4,a5,rfl⟩:=B3 (Vo h);exact⟨a,a2,a3,a4,a5,rfl⟩
def kE(P:Params)(x:Str)(t:Nat)(v:Value):DictEntry:=⟨PyData.keyHash P x,.str x t,v⟩
def fO(n q:Str)(s:Stmt)(m:Str)(t c:Nat):Obj:=⟨.type "function",none,.func (PySem.W.fnOf n q (defArgs s) (defBody s) (defScope s) .none .none .none (.str m t) none (.ref c) .none),#[]⟩
def cO(n:Str)(t:Nat)(q:Str)(u v:Nat)(l a f:Int)(r:Nat)(g:Int)(r2 r3:Nat)(h l2:Int)(y:Nat)(c d:Value:=.none):Obj:={cls:=.type "code",data:=.fields #[.str n t,.str q u,.str "/claim/cut.py" v,.int l 0,.int a 0,.int 0 0,.int 0 0,.int f 0,.ref r,.bool true,.int g 0,.ref r2,.none,c,d,.ref r3,.int h 0,.int l2 0,.str "/claim/cut.py" y]}
def kz:Str := "__doc__"
def KK:Params->PySem.W.Frag:=fun P=>(fun(_:kz = "__doc__")=>
(nat_lit 3,{cls:=.type "dict",data:=.dict #[kE P "__name__" 165 (.str "law_tieword_k08_rounds_to_a_settled_parting" 436),kE P "__doc__" 166 (.none),kE P "__package__" 167 (.none),kE P "__loader__" 168 (.builtin "__main__.__loader__#opaque"),kE P "__spec__" 169 (.none),kE P "__annotations__" 170 (.ref 6),kE P "__builtins__" 171 (.ref 4),kE P "__file__" 173 (.str "/claim/cut.py" 172),kE P "__cached__" 174 (.none),kE P "_wall" 193 (.ref 21),kE P "ranked" 201 (.ref 26),kE P "key_of" 207 (.ref 31),kE P "keys_of" 213 (.ref 36),kE P "finer" 221 (.ref 43),kE P "rounds_of" 231 (.ref 50),kE P "settled" 239 (.ref 57),kE P "first_parting" 246 (.ref 64),kE P "WebError" 266 (.ref 74),kE P "TooGreat" 282 (.ref 87),kE P "BadPlace" 298 (.ref 99),kE P "BadTie" 314 (.ref 111),kE P "MOST_PLACES" 318 (.int 7 317),kE P "MOST_TIES" 320 (.int 12 319),kE P "MOST_LETTERS" 322 (.int 3 321),kE P "is_place_kind" 328 (.ref 118),kE P "is_tie_kind" 335 (.ref 125),kE P "is_tie" 344 (.ref 132),kE P "refuse_wrong" 354 (.ref 139),kE P "lesser_first" 361 (.ref 146),kE P "put_pair" 370 (.ref 153),kE P "joins_of" 382 (.ref 160),kE P "Web" 435 (.ref 196),kE P "_law_at" 445 (.ref 207),kE P "_law_spread" 453 (.ref 214),kE P "_law_whole" 460 (.ref 221),kE P "_law_numbers" 466 (.ref 226),kE P "_law_fold" 476 (.ref 233),kE P "_law_kinds" 493 (.ref 240),kE P "_law_crossed" 503 (.ref 247),kE P "_law_halves" 512 (.ref 254),kE P "_law_pairs" 518 (.ref 259),kE P "_law_drawn_ties" 533 (.ref 266),kE P "_law_order" 546 (.ref 273),kE P "_law_false" 552 (.ref 278),kE P "_law_web" 558 (.ref 283),kE P "_law_ranks" 564 (.ref 288),kE P "_law_parting" 570 (.ref 293),kE P "_law_apart" 580 (.ref 300),kE P "_law_rounds" 592 (.ref 307),kE P "law" 608 (.ref 314)] 50}) ::
(nat_lit 25,cO "ranked" 196 "ranked" 197 198 5 1 3 22 181 23 24 199 5 200) ::
(nat_lit 26,fO "ranked" "ranked" iG "tieword.parting" 194 25) ::
(nat_lit 30,cO "key_of" 202 "key_of" 203 204 8 3 3 27 181 28 29 205 8 206) ::
(nat_lit 31,fO "key_of" "key_of" mR "tieword.parting" 194 30) ::
(nat_lit 35,cO "keys_of" 208 "keys_of" 209 210 12 2 3 32 181 33 34 211 12 212) ::
(nat_lit 36,fO "keys_of" "keys_of" iP "tieword.parting" 194 35) ::
(nat_lit 42,cO "finer" 214 "finer" 215 216 14 2 3 37 181 38 41 219 14 220 (.ref 39) (.ref 40)) ::
(nat_lit 43,fO "finer" "finer" qR "tieword.parting" 194 42) ::
(nat_lit 49,cO "rounds_of" 222 "rounds_of" 223 224 16 2 3 44 181 45 48 229 16 230 (.ref 46) (.ref 47)) ::
(nat_lit 50,fO "rounds_of" "rounds_of" jH "tieword.parting" 194 49) ::
(nat_lit 56,cO "settled" 232 "settled" 233 234 23 2 3 51 181 52 55 237 23 238 (.ref 53) (.ref 54)) ::
(nat_lit 57,fO "settled" "settled" kt "tieword.parting" 194 56) ::
(nat_lit 63,cO "first_parting" 240 "first_parting" 241 242 25 1 3 58 181 59 62 244 25 245 (.ref 60) (.ref 61)) ::
(nat_lit 64,fO "first_parting" "first_parting" re "tieword.parting" 194 63) ::
(nat_lit 117,cO "is_place_kind" 323 "is_place_kind" 324 325 40 1 3 114 181 115 116 326 40 327) ::
(nat_lit 118,fO "is_place_kind" "is_place_kind" n4 "tieword.webs" 315 117) ::
(nat_lit 124,cO "is_tie_kind" 329 "is_tie_kind" 330 331 43 1 3 119 181 120 123 333 43 334 (.ref 121) (.ref 122)) ::
(nat_lit 125,fO "is_tie_kind" "is_tie_kind" qD "tieword.webs" 315 124) ::
(nat_lit 131,cO "is_tie" 336 "is_tie" 337 338 45 2 3 126 181 127 130 342 45 343 (.ref 128) (.ref 129)) ::
(nat_lit 132,fO "is_tie" "is_tie" qq "tieword.webs" 315 131) ::
(nat_lit 138,cO "refuse_wrong" 345 "refuse_wrong" 346 347 48 2 3 133 181 134 137 352 48 353 (.ref 135) (.ref 136)) ::
(nat_lit 139,fO "refuse_wrong" "refuse_wrong" jz "tieword.webs" 315 138) ::
(nat_lit 145,cO "lesser_first" 355 "lesser_first" 356 357 59 1 3 140 181 141 144 359 59 360 (.ref 142) (.ref 143)) ::
(nat_lit 146,fO "lesser_first" "lesser_first" jM "tieword.webs" 315 145) ::
(nat_lit 152,cO "put_pair" 362 "put_pair" 363 364 63 3 3 147 181 148 151 368 63 369 (.ref 149) (.ref 150)) ::
(nat_lit 153,fO "put_pair" "put_pair" jT "tieword.webs" 315 152) ::
(nat_lit 159,cO "joins_of" 371 "joins_of" 372 373 65 1 3 154 181 155 158 380 65 381 (.ref 156) (.ref 157)) ::
(nat_lit 160,fO "joins_of" "joins_of" qy "tieword.webs" 315 159) ::
(nat_lit 171,cO "__init__" 395 "Web.__init__" 396 397 73 3 3 168 181 169 170 398 73 399) ::
(nat_lit 172,fO "__init__" "Web.__init__" ou "tieword.webs" 315 171) ::
(nat_lit 178,cO "size" 401 "Web.size" 402 403 79 1 3 173 181 174 177 405 79 406 (.ref 175) (.ref 176)) ::
(nat_lit 179,fO "size" "Web.size" qP "tieword.webs" 315 178) ::
(nat_lit 185,cO "between" 408 "Web.between" 409 410 82 3 3 180 181 181 184 414 82 415 (.ref 182) (.ref 183)) ::
(nat_lit 186,fO "between" "Web.between" qW "tieword.webs" 315 185) ::
(nat_lit 195,{cls:=.type "dict",data:=.dict #[kE P "__module__" 390 (.str "tieword.webs" 315),kE P "__firstlineno__" 394 (.int 71 393),kE P "__init__" 400 (.ref 172),kE P "size" 407 (.ref 179),kE P "between" 416 (.ref 186),kE P "near" 424 (.ref 193),kE P "__static_attributes__" 428 (.ref 194),kE P "__dict__" 430 (.ref 197),kE P "__weakref__" 432 (.ref 198),kE P "__doc__" 433 (.none)] 4}) ::
(nat_lit 196,{cls:=.type "type",data:=.cls {name := "Web",bases:=[.type "object"],mro:=[.ref 196,.type "object"],ns:=195,qualname := "Web" },slots:=#[none,none,some (.str "Web" 383),some (.str "Web" 391),some (.builtin "object.__new__"),some (.bool true)]}) ::
(nat_lit 206,cO "_law_at" 438 "_law_at" 439 440 88 2 3 201 181 202 205 443 88 444 (.ref 203) (.ref 204)) ::
(nat_lit 207,fO "_law_at" "_law_at" jS "law_tieword_k08_rounds_to_a_settled_parting" 436 206) ::
(nat_lit 213,cO "_law_spread" 446 "_law_spread" 447 448 92 2 3 208 181 209 212 451 92 452 (.ref 210) (.ref 211)) ::
(nat_lit 214,fO "_law_spread" "_law_spread" kb "law_tieword_k08_rounds_to_a_settled_parting" 436 213) ::
(nat_lit 220,cO "_law_whole" 454 "_law_whole" 455 456 94 1 3 215 181 216 219 458 94 459 (.ref 217) (.ref 218)) ::
(nat_lit 221,fO "_law_whole" "_law_whole" j4 "law_tieword_k08_rounds_to_a_settled_parting" 436 220) ::
(nat_lit 225,cO "_law_numbers" 461 "_law_numbers" 462 463 96 2 3 222 181 223 224 464 96 465) ::
(nat_lit 226,fO "_law_numbers" "_law_numbers" iR "law_tieword_k08_rounds_to_a_settled_parting" 436 225) ::
(nat_lit 232,cO "_law_fold" 467 "_law_fold" 468 469 100 2 3 227 181 228 231 474 100 475 (.ref 229) (.ref 230)) ::
(nat_lit 233,fO "_law_fold" "_law_fold" jD "law_tieword_k08_rounds_to_a_settled_parting" 436 232) ::
(nat_lit 239,cO "_law_kinds" 477 "_law_kinds" 478 479 105 2 3 234 181 235 238 491 105 492 (.ref 236) (.ref 237)) ::
(nat_lit 240,fO "_law_kinds" "_law_kinds" jL "law_tieword_k08_rounds_to_a_settled_parting" 436 239) ::
(nat_lit 246,cO "_law_crossed" 494 "_law_crossed" 495 496 123 1 3 241 181 242 245 501 123 502 (.ref 243) (.ref 244)) ::
(nat_lit 247,fO "_law_crossed" "_law_crossed" jf "law_tieword_k08_rounds_to_a_settled_parting" 436 246) ::
(nat_lit 253,cO "_law_halves" 504 "_law_halves" 505 506 129 1 3 248 181 249 252 510 129 511 (.ref 250) (.ref 251)) ::
(nat_lit 254,fO "_law_halves" "_law_halves" kq "law_tieword_k08_rounds_to_a_settled_parting" 436 253) ::
(nat_lit 258,cO "_law_pairs" 513 "_law_pairs" 514 515 138 2 3 255 181 256 257 516 138 517) ::
(nat_lit 259,fO "_law_pairs" "_law_pairs" fQ "law_tieword_k08_rounds_to_a_settled_parting" 436 258) ::
(nat_lit 265,cO "_law_drawn_ties" 519 "_law_drawn_ties" 520 521 150 2 3 260 181 261 264 531 150 532 (.ref 262) (.ref 263)) ::
(nat_lit 266,fO "_law_drawn_ties" "_law_drawn_ties" i9 "law_tieword_k08_rounds_to_a_settled_parting" 436 265) ::
(nat_lit 272,cO "_law_order" 534 "_law_order" 535 536 162 3 3 267 181 268 271 544 162 545 (.ref 269) (.ref 270)) ::
(nat_lit 273,fO "_law_order" "_law_order" kA "law_tieword_k08_rounds_to_a_settled_parting" 436 272) ::
(nat_lit 277,cO "_law_false" 547 "_law_false" 548 549 169 5 3 274 181 275 276 550 169 551) ::
(nat_lit 278,fO "_law_false" "_law_false" eW "law_tieword_k08_rounds_to_a_settled_parting" 436 277) ::
(nat_lit 282,cO "_law_web" 553 "_law_web" 554 555 182 3 3 279 181 280 281 556 182 557) ::
(nat_lit 283,fO "_law_web" "_law_web" iQ "law_tieword_k08_rounds_to_a_settled_parting" 436 282) ::
(nat_lit 287,cO "_law_ranks" 559 "_law_ranks" 560 561 200 1 3 284 181 285 286 562 200 563) ::
(nat_lit 288,fO "_law_ranks" "_law_ranks" iN "law_tieword_k08_rounds_to_a_settled_parting" 436 287) ::
(nat_lit 292,cO "_law_parting" 565 "_law_parting" 566 567 206 2 3 289 181 290 291 568 206 569) ::
(nat_lit 293,fO "_law_parting" "_law_parting" iA "law_tieword_k08_rounds_to_a_settled_parting" 436 292) ::
(nat_lit 299,cO "_law_apart" 571 "_law_apart" 572 573 210 2 3 294 181 295 298 578 210 579 (.ref 296) (.ref 297)) ::
(nat_lit 300,fO "_law_apart" "_law_apart" jo "law_tieword_k08_rounds_to_a_settled_parting" 436 299) ::
(nat_lit 306,cO "_law_rounds" 581 "_law_rounds" 582 583 216 2 3 301 181 302 305 590 216 591 (.ref 303) (.ref 304)) ::
(nat_lit 307,fO "_law_rounds" "_law_rounds" jA "law_tieword_k08_rounds_to_a_settled_parting" 436 306) ::
(nat_lit 313,cO "law" 593 "law" 594 595 229 1 3 308 181 309 312 606 229 607 (.ref 310) (.ref 311)) ::
(nat_lit 314,fO "law" "law" jp "law_tieword_k08_rounds_to_a_settled_parting" 436 313)::[]) rfl
set_option autoImplicit true in
set_option relaxedAutoImplicit true in
theorem all_mk{l:PySem.W.OpenLaw}{w:World}{K:Kq}{h:Heap}{mg:Ks}{fa C:Addr}(X:K.In h)(G:h.Ns mainGlobals mg)(hfa:mg "law"=some (.ref fa))
  (aC:PySem.W.nsIn K mainGlobals "Web"=some (some (.ref C)))
  (a_q26:PySem.W.nsIn K mainGlobals "_law_spread"=some (some (.ref f_q26)))
  (l_q26:K.lookup f_q26=some ⟨oc_q26,od_q26,.func (PySem.W.fnOf "_law_spread" "_law_spread" (defArgs kb) (defBody kb) (defScope kb) .none kV_q26 dc_q26 pm_q26 an_q26 cd_q26 ct_q26),sl_q26⟩)
  (c_q26:PySem.W.codeIn K cd_q26 "_law_spread"=true)
  (k_q26:PySem.W.keepIn K (.ref f_q26)=true)
  (a_q13:PySem.W.nsIn K mainGlobals "_law_at"=some (some (.ref f_q13)))
  (l_q13:K.lookup f_q13=some ⟨oc_q13,od_q13,.func (PySem.W.fnOf "_law_at" "_law_at" (defArgs jS) (defBody jS) (defScope jS) .none kV_q13 dc_q13 pm_q13 an_q13 cd_q13 ct_q13),sl_q13⟩)
  (c_q13:PySem.W.codeIn K cd_q13 "_law_at"=true)
  (k_q13:PySem.W.keepIn K (.ref f_q13)=true)
  (a_q17:PySem.W.nsIn K mainGlobals "_law_fold"=some (some (.ref f_q17)))
  (l_q17:K.lookup f_q17=some ⟨oc_q17,od_q17,.func (PySem.W.fnOf "_law_fold" "_law_fold" (defArgs jD) (defBody jD) (defScope jD) .none kV_q17 dc_q17 pm_q17 an_q17 cd_q17 ct_q17),sl_q17⟩)
  (c_q17:PySem.W.codeIn K cd_q17 "_law_fold"=true)
  (k_q17:PySem.W.keepIn K (.ref f_q17)=true)
  (a_q21:PySem.W.nsIn K mainGlobals "_law_order"=some (some (.ref f_q21)))
  (l_q21:K.lookup f_q21=some ⟨oc_q21,od_q21,.func (PySem.W.fnOf "_law_order" "_law_order" (defArgs kA) (defBody kA) (defScope kA) .none kV_q21 dc_q21 pm_q21 an_q21 cd_q21 ct_q21),sl_q21⟩)
  (c_q21:PySem.W.codeIn K cd_q21 "_law_order"=true)
  (k_q21:PySem.W.keepIn K (.ref f_q21)=true)
  (a_q19:PySem.W.nsIn K mainGlobals "_law_kinds"=some (some (.ref f_q19)))
  (l_q19:K.lookup f_q19=some ⟨oc_q19,od_q19,.func (PySem.W.fnOf "_law_kinds" "_law_kinds" (defArgs jL) (defBody jL) (defScope jL) .none kV_q19 dc_q19 pm_q19 an_q19 cd_q19 ct_q19),sl_q19⟩)
  (c_q19:PySem.W.codeIn K cd_q19 "_law_kinds"=true)
  (k_q19:PySem.W.keepIn K (.ref f_q19)=true)
  (a_q16:PySem.W.nsIn K mainGlobals "_law_false"=some (some (.ref f_q16)))
  (l_q16:K.lookup f_q16=some ⟨oc_q16,od_q16,.func (PySem.W.fnOf "_law_false" "_law_false" (defArgs eW) (defBody eW) (defScope eW) .none kV_q16 dc_q16 pm_q16 an_q16 cd_q16 ct_q16),sl_q16⟩)
  (c_q16:PySem.W.codeIn K cd_q16 "_law_false"=true)
  (k_q16:PySem.W.keepIn K (.ref f_q16)=true)
  (a_q15:PySem.W.nsIn K mainGlobals "_law_drawn_ties"=some (some (.ref f_q15)))
  (l_q15:K.lookup f_q15=some ⟨oc_q15,od_q15,.func (PySem.W.fnOf "_law_drawn_ties" "_law_drawn_ties" (defArgs i9) (defBody i9) (defScope i9) .none kV_q15 dc_q15 pm_q15 an_q15 cd_q15 ct_q15),sl_q15⟩)
  (c_q15:PySem.W.codeIn K cd_q15 "_law_drawn_ties"=true)
  (k_q15:PySem.W.keepIn K (.ref f_q15)=true)
  (a_q18:PySem.W.nsIn K mainGlobals "_law_halves"=some (some (.ref f_q18)))
  (l_q18:K.lookup f_q18=some ⟨oc_q18,od_q18,.func (PySem.W.fnOf "_law_halves" "_law_halves" (defArgs kq) (defBody kq) (defScope kq) .none kV_q18 dc_q18 pm_q18 an_q18 cd_q18 ct_q18),sl_q18⟩)
  (c_q18:PySem.W.codeIn K cd_q18 "_law_halves"=true)
  (k_q18:PySem.W.keepIn K (.ref f_q18)=true)
  (a_q14:PySem.W.nsIn K mainGlobals "_law_crossed"=some (some (.ref f_q14)))
  (l_q14:K.lookup f_q14=some ⟨oc_q14,od_q14,.func (PySem.W.fnOf "_law_crossed" "_law_crossed" (defArgs jf) (defBody jf) (defScope jf) .none kV_q14 dc_q14 pm_q14 an_q14 cd_q14 ct_q14),sl_q14⟩)
  (c_q14:PySem.W.codeIn K cd_q14 "_law_crossed"=true)
  (k_q14:PySem.W.keepIn K (.ref f_q14)=true)
  (a_q22:PySem.W.nsIn K mainGlobals "_law_pairs"=some (some (.ref f_q22)))
  (l_q22:K.lookup f_q22=some ⟨oc_q22,od_q22,.func (PySem.W.fnOf "_law_pairs" "_law_pairs" (defArgs fQ) (defBody fQ) (defScope fQ) .none kV_q22 dc_q22 pm_q22 an_q22 cd_q22 ct_q22),sl_q22⟩)
  (c_q22:PySem.W.codeIn K cd_q22 "_law_pairs"=true)
  (k_q22:PySem.W.keepIn K (.ref f_q22)=true)
  (a_q27:PySem.W.nsIn K mainGlobals "_law_web"=some (some (.ref f_q27)))
  (l_q27:K.lookup f_q27=some ⟨oc_q27,od_q27,.func (PySem.W.fnOf "_law_web" "_law_web" (defArgs iQ) (defBody iQ) (defScope iQ) .none kV_q27 dc_q27 pm_q27 an_q27 cd_q27 ct_q27),sl_q27⟩)
  (c_q27:PySem.W.codeIn K cd_q27 "_law_web"=true)
  (k_q27:PySem.W.keepIn K (.ref f_q27)=true)
  (a_q5:PySem.W.nsIn K mainGlobals "is_place_kind"=some (some (.ref f_q5)))
  (l_q5:K.lookup f_q5=some ⟨oc_q5,od_q5,.func (PySem.W.fnOf "is_place_kind" "is_place_kind" (defArgs n4) (defBody n4) (defScope n4) .none kV_q5 dc_q5 pm_q5 an_q5 cd_q5 ct_q5),sl_q5⟩)
  (c_q5:PySem.W.codeIn K cd_q5 "is_place_kind"=true)
  (k_q5:PySem.W.keepIn K (.ref f_q5)=true)
  (a_q7:PySem.W.nsIn K mainGlobals "is_tie_kind"=some (some (.ref f_q7)))
  (l_q7:K.lookup f_q7=some ⟨oc_q7,od_q7,.func (PySem.W.fnOf "is_tie_kind" "is_tie_kind" (defArgs qD) (defBody qD) (defScope qD) .none kV_q7 dc_q7 pm_q7 an_q7 cd_q7 ct_q7),sl_q7⟩)
  (c_q7:PySem.W.codeIn K cd_q7 "is_tie_kind"=true)
  (k_q7:PySem.W.keepIn K (.ref f_q7)=true)
  (a_q6:PySem.W.nsIn K mainGlobals "is_tie"=some (some (.ref f_q6)))
  (l_q6:K.lookup f_q6=some ⟨oc_q6,od_q6,.func (PySem.W.fnOf "is_tie" "is_tie" (defArgs qq) (defBody qq) (defScope qq) .none kV_q6 dc_q6 pm_q6 an_q6 cd_q6 ct_q6),sl_q6⟩)
  (c_q6:PySem.W.codeIn K cd_q6 "is_tie"=true)
  (k_q6:PySem.W.keepIn K (.ref f_q6)=true)
  (a_q32:PySem.W.nsIn K mainGlobals "refuse_wrong"=some (some (.ref f_q32)))
  (l_q32:K.lookup f_q32=some ⟨oc_q32,od_q32,.func (PySem.W.fnOf "refuse_wrong" "refuse_wrong" (defArgs jz) (defBody jz) (defScope jz) .none kV_q32 dc_q32 pm_q32 an_q32 cd_q32 ct_q32),sl_q32⟩)
  (c_q32:PySem.W.codeIn K cd_q32 "refuse_wrong"=true)
  (k_q32:PySem.W.keepIn K (.ref f_q32)=true)
  (a_q29:PySem.W.nsIn K mainGlobals "lesser_first"=some (some (.ref f_q29)))
  (l_q29:K.lookup f_q29=some ⟨oc_q29,od_q29,.func (PySem.W.fnOf "lesser_first" "lesser_first" (defArgs jM) (defBody jM) (defScope jM) .none kV_q29 dc_q29 pm_q29 an_q29 cd_q29 ct_q29),sl_q29⟩)
  (c_q29:PySem.W.codeIn K cd_q29 "lesser_first"=true)
  (k_q29:PySem.W.keepIn K (.ref f_q29)=true)
  (a_q30:PySem.W.nsIn K mainGlobals "put_pair"=some (some (.ref f_q30)))
  (l_q30:K.lookup f_q30=some ⟨oc_q30,od_q30,.func (PySem.W.fnOf "put_pair" "put_pair" (defArgs jT) (defBody jT) (defScope jT) .none kV_q30 dc_q30 pm_q30 an_q30 cd_q30 ct_q30),sl_q30⟩)
  (c_q30:PySem.W.codeIn K cd_q30 "put_pair"=true)
  (k_q30:PySem.W.keepIn K (.ref f_q30)=true)
  (a_q8:PySem.W.nsIn K mainGlobals "joins_of"=some (some (.ref f_q8)))
  (l_q8:K.lookup f_q8=some ⟨oc_q8,od_q8,.func (PySem.W.fnOf "joins_of" "joins_of" (defArgs qy) (defBody qy) (defScope qy) .none kV_q8 dc_q8 pm_q8 an_q8 cd_q8 ct_q8),sl_q8⟩)
  (c_q8:PySem.W.codeIn K cd_q8 "joins_of"=true)
  (k_q8:PySem.W.keepIn K (.ref f_q8)=true)
  (a_q0:PySem.W.findIn K (.ref C) "__init__"=some (some (.ref f_q0)))
  (i_q0:PySem.W.isFn K (.ref f_q0)=true)
  (l_q0:K.lookup f_q0=some ⟨oc_q0,od_q0,.func (PySem.W.fnOf "__init__" "Web.__init__" (defArgs ou) (defBody ou) (defScope ou) .none kV_q0 dc_q0 pm_q0 an_q0 cd_q0 ct_q0),sl_q0⟩)
  (c_q0:PySem.W.codeIn K cd_q0 "Web.__init__"=true)
  (k_q0:PySem.W.keepIn K (.ref f_q0)=true)
  (a_q24:PySem.W.nsIn K mainGlobals "_law_ranks"=some (some (.ref f_q24)))
  (l_q24:K.lookup f_q24=some ⟨oc_q24,od_q24,.func (PySem.W.fnOf "_law_ranks" "_law_ranks" (defArgs iN) (defBody iN) (defScope iN) .none kV_q24 dc_q24 pm_q24 an_q24 cd_q24 ct_q24),sl_q24⟩)
  (c_q24:PySem.W.codeIn K cd_q24 "_law_ranks"=true)
  (k_q24:PySem.W.keepIn K (.ref f_q24)=true)
  (a_q23:PySem.W.nsIn K mainGlobals "_law_parting"=some (some (.ref f_q23)))
  (l_q23:K.lookup f_q23=some ⟨oc_q23,od_q23,.func (PySem.W.fnOf "_law_parting" "_law_parting" (defArgs iA) (defBody iA) (defScope iA) .none kV_q23 dc_q23 pm_q23 an_q23 cd_q23 ct_q23),sl_q23⟩)
  (c_q23:PySem.W.codeIn K cd_q23 "_law_parting"=true)
  (k_q23:PySem.W.keepIn K (.ref f_q23)=true)
  (a_q31:PySem.W.nsIn K mainGlobals "ranked"=some (some (.ref f_q31)))
  (l_q31:K.lookup f_q31=some ⟨oc_q31,od_q31,.func (PySem.W.fnOf "ranked" "ranked" (defArgs iG) (defBody iG) (defScope iG) .none kV_q31 dc_q31 pm_q31 an_q31 cd_q31 ct_q31),sl_q31⟩)
  (c_q31:PySem.W.codeIn K cd_q31 "ranked"=true)
  (k_q31:PySem.W.keepIn K (.ref f_q31)=true)
  (a_q2:PySem.W.findIn K (.ref C) "size"=some (some (.ref f_q2)))
  (i_q2:PySem.W.isFn K (.ref f_q2)=true)
  (l_q2:K.lookup f_q2=some ⟨oc_q2,od_q2,.func (PySem.W.fnOf "size" "Web.size" (defArgs qP) (defBody qP) (defScope qP) .none kV_q2 dc_q2 pm_q2 an_q2 cd_q2 ct_q2),sl_q2⟩)
  (c_q2:PySem.W.codeIn K cd_q2 "Web.size"=true)
  (k_q2:PySem.W.keepIn K (.ref f_q2)=true)
  (a_q1:PySem.W.findIn K (.ref C) "between"=some (some (.ref f_q1)))
  (i_q1:PySem.W.isFn K (.ref f_q1)=true)
  (l_q1:K.lookup f_q1=some ⟨oc_q1,od_q1,.func (PySem.W.fnOf "between" "Web.between" (defArgs qW) (defBody qW) (defScope qW) .none kV_q1 dc_q1 pm_q1 an_q1 cd_q1 ct_q1),sl_q1⟩)
  (c_q1:PySem.W.codeIn K cd_q1 "Web.between"=true)
  (k_q1:PySem.W.keepIn K (.ref f_q1)=true)
  (a_q9:PySem.W.nsIn K mainGlobals "key_of"=some (some (.ref f_q9)))
  (l_q9:K.lookup f_q9=some ⟨oc_q9,od_q9,.func (PySem.W.fnOf "key_of" "key_of" (defArgs mR) (defBody mR) (defScope mR) .none kV_q9 dc_q9 pm_q9 an_q9 cd_q9 ct_q9),sl_q9⟩)
  (c_q9:PySem.W.codeIn K cd_q9 "key_of"=true)
  (k_q9:PySem.W.keepIn K (.ref f_q9)=true)
  (a_q10:PySem.W.nsIn K mainGlobals "keys_of"=some (some (.ref f_q10)))
  (l_q10:K.lookup f_q10=some ⟨oc_q10,od_q10,.func (PySem.W.fnOf "keys_of" "keys_of" (defArgs iP) (defBody iP) (defScope iP) .none kV_q10 dc_q10 pm_q10 an_q10 cd_q10 ct_q10),sl_q10⟩)
  (c_q10:PySem.W.codeIn K cd_q10 "keys_of"=true)
  (k_q10:PySem.W.keepIn K (.ref f_q10)=true)
  (a_q3:PySem.W.nsIn K mainGlobals "finer"=some (some (.ref f_q3)))
  (l_q3:K.lookup f_q3=some ⟨oc_q3,od_q3,.func (PySem.W.fnOf "finer" "finer" (defArgs qR) (defBody qR) (defScope qR) .none kV_q3 dc_q3 pm_q3 an_q3 cd_q3 ct_q3),sl_q3⟩)
  (c_q3:PySem.W.codeIn K cd_q3 "finer"=true)
  (k_q3:PySem.W.keepIn K (.ref f_q3)=true)
  (a_q33:PySem.W.nsIn K mainGlobals "rounds_of"=some (some (.ref f_q33)))
  (l_q33:K.lookup f_q33=some ⟨oc_q33,od_q33,.func (PySem.W.fnOf "rounds_of" "rounds_of" (defArgs jH) (defBody jH) (defScope jH) .none kV_q33 dc_q33 pm_q33 an_q33 cd_q33 ct_q33),sl_q33⟩)
  (c_q33:PySem.W.codeIn K cd_q33 "rounds_of"=true)
  (k_q33:PySem.W.keepIn K (.ref f_q33)=true)
  (a_q28:PySem.W.nsIn K mainGlobals "_law_whole"=some (some (.ref f_q28)))
  (l_q28:K.lookup f_q28=some ⟨oc_q28,od_q28,.func (PySem.W.fnOf "_law_whole" "_law_whole" (defArgs j4) (defBody j4) (defScope j4) .none kV_q28 dc_q28 pm_q28 an_q28 cd_q28 ct_q28),sl_q28⟩)
  (c_q28:PySem.W.codeIn K cd_q28 "_law_whole"=true)
  (k_q28:PySem.W.keepIn K (.ref f_q28)=true)
  (a_q20:PySem.W.nsIn K mainGlobals "_law_numbers"=some (some (.ref f_q20)))
  (l_q20:K.lookup f_q20=some ⟨oc_q20,od_q20,.func (PySem.W.fnOf "_law_numbers" "_law_numbers" (defArgs iR) (defBody iR) (defScope iR) .none kV_q20 dc_q20 pm_q20 an_q20 cd_q20 ct_q20),sl_q20⟩)
  (c_q20:PySem.W.codeIn K cd_q20 "_law_numbers"=true)
  (k_q20:PySem.W.keepIn K (.ref f_q20)=true)
  (a_q25:PySem.W.nsIn K mainGlobals "_law_rounds"=some (some (.ref f_q25)))
  (l_q25:K.lookup f_q25=some ⟨oc_q25,od_q25,.func (PySem.W.fnOf "_law_rounds" "_law_rounds" (defArgs jA) (defBody jA) (defScope jA) .none kV_q25 dc_q25 pm_q25 an_q25 cd_q25 ct_q25),sl_q25⟩)
  (c_q25:PySem.W.codeIn K cd_q25 "_law_rounds"=true)
  (k_q25:PySem.W.keepIn K (.ref f_q25)=true)
  (a_q12:PySem.W.nsIn K mainGlobals "_law_apart"=some (some (.ref f_q12)))
  (l_q12:K.lookup f_q12=some ⟨oc_q12,od_q12,.func (PySem.W.fnOf "_law_apart" "_law_apart" (defArgs jo) (defBody jo) (defScope jo) .none kV_q12 dc_q12 pm_q12 an_q12 cd_q12 ct_q12),sl_q12⟩)
  (c_q12:PySem.W.codeIn K cd_q12 "_law_apart"=true)
  (k_q12:PySem.W.keepIn K (.ref f_q12)=true)
  (a_q34:PySem.W.nsIn K mainGlobals "settled"=some (some (.ref f_q34)))
  (l_q34:K.lookup f_q34=some ⟨oc_q34,od_q34,.func (PySem.W.fnOf "settled" "settled" (defArgs kt) (defBody kt) (defScope kt) .none kV_q34 dc_q34 pm_q34 an_q34 cd_q34 ct_q34),sl_q34⟩)
  (c_q34:PySem.W.codeIn K cd_q34 "settled"=true)
  (k_q34:PySem.W.keepIn K (.ref f_q34)=true)
  (a_q4:PySem.W.nsIn K mainGlobals "first_parting"=some (some (.ref f_q4)))
  (l_q4:K.lookup f_q4=some ⟨oc_q4,od_q4,.func (PySem.W.fnOf "first_parting" "first_parting" (defArgs re) (defBody re) (defScope re) .none kV_q4 dc_q4 pm_q4 an_q4 cd_q4 ct_q4),sl_q4⟩)
  (c_q4:PySem.W.codeIn K cd_q4 "first_parting"=true)
  (k_q4:PySem.W.keepIn K (.ref f_q4)=true)
  (a_q11:PySem.W.nsIn K mainGlobals "law"=some (some (.ref f_q11)))
  (l_q11:K.lookup f_q11=some ⟨oc_q11,od_q11,.func (PySem.W.fnOf "law" "law" (defArgs jp) (defBody jp) (defScope jp) .none kV_q11 dc_q11 pm_q11 an_q11 cd_q11 ct_q11),sl_q11⟩)
  (c_q11:PySem.W.codeIn K cd_q11 "law"=true)
  (k_q11:PySem.W.keepIn K (.ref f_q11)=true)
  (pg:PySem.W.plainGet K C Str.empty=true)
  (hd:PySem.W.hasDictIn K C=true)
  (po:PySem.W.plainOver K C=true)
  (sa:PySem.W.findIn K (.ref C) "__setattr__"=some (some (.builtin "object.__setattr__")))
  (mkc:PySem.W.makesIn K C=true)
  (kc:PySem.W.keepIn K (.ref C)=true)
  (n_joins:PySem.W.findIn K (.ref C) "joins"=some none)
  (n_kinds:PySem.W.findIn K (.ref C) "kinds"=some none)
  (n_ties:PySem.W.findIn K (.ref C) "ties"=some none)
  (z_all:PySem.W.nsIn K mainGlobals "all"=some none)
  (z_bool:PySem.W.nsIn K mainGlobals "bool"=some none)
  (z_enumerate:PySem.W.nsIn K mainGlobals "enumerate"=some none)
  (z_int:PySem.W.nsIn K mainGlobals "int"=some none)
  (z_isinstance:PySem.W.nsIn K mainGlobals "isinstance"=some none)
  (z_len:PySem.W.nsIn K mainGlobals "len"=some none)
  (z_list:PySem.W.nsIn K mainGlobals "list"=some none)
  (z_range:PySem.W.nsIn K mainGlobals "range"=some none)
  (z_set:PySem.W.nsIn K mainGlobals "set"=some none)
  (z_sorted:PySem.W.nsIn K mainGlobals "sorted"=some none)
  (z_tuple:PySem.W.nsIn K mainGlobals "tuple"=some none)
  (t_MOST_PLACES:PySem.W.nsIn K mainGlobals "MOST_PLACES"=some (some (.int 7 tk_MOST_PLACES)))
  (t_MOST_TIES:PySem.W.nsIn K mainGlobals "MOST_TIES"=some (some (.int 12 tk_MOST_TIES)))
  (t_MOST_LETTERS:PySem.W.nsIn K mainGlobals "MOST_LETTERS"=some (some (.int 3 tk_MOST_LETTERS))) :
  ∃fd:FuncData,(∀(s:Shared) (v:Value),BindsTo s fd ⟨[v],[]⟩ [("_law_script",v)])/\∀base:Heap,K.In base->base.Ns mainGlobals mg->FnOk l.prog w K mg base CX0 8 fa fd ["_law_script"] (spLaw K):=by
 have e:=hfa.symm.trans (Yx X G a_q11);cases e;have F_q26:=aX (st:=kb) l_q26 c_q26 k_q26;have F_q13:=aX (st:=jS) l_q13 c_q13 k_q13;have F_q17:=aX (st:=jD) l_q17 c_q17 k_q17;have F_q21:=aX (st:=kA) l_q21 c_q21 k_q21;have F_q19:=aX (st:=jL) l_q19 c_q19 k_q19;have F_q16:=aX (st:=eW) l_q16 c_q16 k_q16;have F_q15:=aX (st:=i9) l_q15 c_q15 k_q15;have F_q18:=aX (st:=kq) l_q18 c_q18 k_q18;have F_q14:=aX (st:=jf) l_q14 c_q14 k_q14;have F_q22:=aX (st:=fQ) l_q22 c_q22 k_q22;have F_q27:=aX (st:=iQ) l_q27 c_q27 k_q27;have F_q5:=aX (st:=n4) l_q5 c_q5 k_q5;have F_q7:=aX (st:=qD) l_q7 c_q7 k_q7;have F_q6:=aX (st:=qq) l_q6 c_q6 k_q6;have F_q32:=aX (st:=jz) l_q32 c_q32 k_q32;have F_q29:=aX (st:=jM) l_q29 c_q29 k_q29;have F_q30:=aX (st:=jT) l_q30 c_q30 k_q30;have F_q8:=aX (st:=qy) l_q8 c_q8 k_q8;have F_q0:=aX (st:=ou) l_q0 c_q0 k_q0;have F_q24:=aX (st:=iN) l_q24 c_q24 k_q24;have F_q23:=aX (st:=iA) l_q23 c_q23 k_q23;have F_q31:=aX (st:=iG) l_q31 c_q31 k_q31;have F_q2:=aX (st:=qP) l_q2 c_q2 k_q2;have F_q1:=aX (st:=qW) l_q1 c_q1 k_q1;have F_q9:=aX (st:=mR) l_q9 c_q9 k_q9;have F_q10:=aX (st:=iP) l_q10 c_q10 k_q10;have F_q3:=aX (st:=qR) l_q3 c_q3 k_q3;have F_q33:=aX (st:=jH) l_q33 c_q33 k_q33;have F_q28:=aX (st:=j4) l_q28 c_q28 k_q28;have F_q20:=aX (st:=iR) l_q20 c_q20 k_q20;have F_q25:=aX (st:=jA) l_q25 c_q25 k_q25;have F_q12:=aX (st:=jo) l_q12 c_q12 k_q12;have F_q34:=aX (st:=kt) l_q34 c_q34 k_q34;have F_q4:=aX (st:=re) l_q4 c_q4 k_q4;have F_q11:=aX (st:=jp) l_q11 c_q11 k_q11;have T:Txt K mg ⟨C,f_q26,_,f_q13,_,f_q17,_,f_q21,_,f_q19,_,f_q16,_,f_q15,_,f_q18,_,f_q14,_,f_q22,_,f_q27,_,f_q5,_,f_q7,_,f_q6,_,f_q32,_,f_q29,_,f_q30,_,f_q8,_,f_q0,_,f_q24,_,f_q23,_,f_q31,_,f_q2,_,f_q1,_,f_q9,_,f_q10,_,f_q3,_,f_q33,_,f_q28,_,f_q20,_,f_q25,_,f_q12,_,f_q34,_,f_q4,_,f_q11,_,tk_MOST_PLACES,tk_MOST_TIES,tk_MOST_LETTERS⟩:={
  cl:=⟨pg,hd,po,sa⟩
  mkC:=⟨mkc,a_q0,i_q0,kc⟩
  mgC:=Yx X G aC
  na_joins:=n_joins
  na_kinds:=n_kinds
  na_ties:=n_ties
  fn_q26:=F_q26
  bd_q26:=F_q26.binds fun _ _ _ _ _ _ us hl=>by obtain⟨v0,v1,rfl⟩:=cZ hl;rfl
  g_q26:=Yx X G a_q26
  fn_q13:=F_q13
  bd_q13:=F_q13.binds fun _ _ _ _ _ _ us hl=>by obtain⟨v0,v1,rfl⟩:=cZ hl;rfl
  g_q13:=Yx X G a_q13
  fn_q17:=F_q17
  bd_q17:=F_q17.binds fun _ _ _ _ _ _ us hl=>by obtain⟨v0,v1,rfl⟩:=cZ hl;rfl
  g_q17:=Yx X G a_q17
  fn_q21:=F_q21
  bd_q21:=F_q21.binds fun _ _ _ _ _ _ us hl=>by obtain⟨v0,v1,v2,rfl⟩:=je hl;rfl
  g_q21:=Yx X G a_q21
  fn_q19:=F_q19
  bd_q19:=F_q19.binds fun _ _ _ _ _ _ us hl=>by obtain⟨v0,v1,rfl⟩:=cZ hl;rfl
  g_q19:=Yx X G a_q19
  fn_q16:=F_q16
  bd_q16:=F_q16.binds fun _ _ _ _ _ _ us hl=>by obtain⟨v0,v1,v2,v3,v4,rfl⟩:=Cj hl;rfl
  g_q16:=Yx X G a_q16
  fn_q15:=F_q15
  bd_q15:=F_q15.binds fun _ _ _ _ _ _ us hl=>by obtain⟨v0,v1,rfl⟩:=cZ hl;rfl
  g_q15:=Yx X G a_q15
  fn_q18:=F_q18
  bd_q18:=F_q18.binds fun _ _ _ _ _ _ us hl=>by obtain⟨v0,rfl⟩:=dZ hl;rfl
  g_q18:=Yx X G a_q18
  fn_q14:=F_q14
  bd_q14:=F_q14.binds fun _ _ _ _ _ _ us hl=>by obtain⟨v0,rfl⟩:=dZ hl;rfl
  g_q14:=Yx X G a_q14
  fn_q22:=F_q22
  bd_q22:=F_q22.binds fun _ _ _ _ _ _ us hl=>by obtain⟨v0,v1,rfl⟩:=cZ hl;rfl
  g_q22:=Yx X G a_q22
  fn_q27:=F_q27
  bd_q27:=F_q27.binds fun _ _ _ _ _ _ us hl=>by obtain⟨v0,v1,v2,rfl⟩:=je hl;rfl
  g_q27:=Yx X G a_q27
  fn_q5:=F_q5
  bd_q5:=F_q5.binds fun _ _ _ _ _ _ us hl=>by obtain⟨v0,rfl⟩:=dZ hl;rfl
  g_q5:=Yx X G a_q5
  fn_q7:=F_q7
  bd_q7:=F_q7.binds fun _ _ _ _ _ _ us hl=>by obtain⟨v0,rfl⟩:=dZ hl;rfl
  g_q7:=Yx X G a_q7
  fn_q6:=F_q6
  bd_q6:=F_q6.binds fun _ _ _ _ _ _ us hl=>by obtain⟨v0,v1,rfl⟩:=cZ hl;rfl
  g_q6:=Yx X G a_q6
  fn_q32:=F_q32
  bd_q32:=F_q32.binds fun _ _ _ _ _ _ us hl=>by obtain⟨v0,v1,rfl⟩:=cZ hl;rfl
  g_q32:=Yx X G a_q32
  fn_q29:=F_q29
  bd_q29:=F_q29.binds fun _ _ _ _ _ _ us hl=>by obtain⟨v0,rfl⟩:=dZ hl;rfl
  g_q29:=Yx X G a_q29
  fn_q30:=F_q30
  bd_q30:=F_q30.binds fun _ _ _ _ _ _ us hl=>by obtain⟨v0,v1,v2,rfl⟩:=je hl;rfl
  g_q30:=Yx X G a_q30
  fn_q8:=F_q8
  bd_q8:=F_q8.binds fun _ _ _ _ _ _ us hl=>by obtain⟨v0,rfl⟩:=dZ hl;rfl
  g_q8:=Yx X G a_q8
  fn_q0:=F_q0
  bd_q0:=F_q0.binds fun _ _ _ _ _ _ us hl=>by obtain⟨v0,v1,v2,rfl⟩:=je hl;rfl
  fn_q24:=F_q24
  bd_q24:=F_q24.binds fun _ _ _ _ _ _ us hl=>by obtain⟨v0,rfl⟩:=dZ hl;rfl
  g_q24:=Yx X G a_q24
  fn_q23:=F_q23
  bd_q23:=F_q23.binds fun _ _ _ _ _ _ us hl=>by obtain⟨v0,v1,rfl⟩:=cZ hl;rfl
  g_q23:=Yx X G a_q23
  fn_q31:=F_q31
  bd_q31:=F_q31.binds fun _ _ _ _ _ _ us hl=>by obtain⟨v0,rfl⟩:=dZ hl;rfl
  g_q31:=Yx X G a_q31
  fn_q2:=F_q2
  bd_q2:=F_q2.binds fun _ _ _ _ _ _ us hl=>by obtain⟨v0,rfl⟩:=dZ hl;rfl
  mt_q2:=⟨a_q2,i_q2,k_q2⟩
  fn_q1:=F_q1
  bd_q1:=F_q1.binds fun _ _ _ _ _ _ us hl=>by obtain⟨v0,v1,v2,rfl⟩:=je hl;rfl
  mt_q1:=⟨a_q1,i_q1,k_q1⟩
  fn_q9:=F_q9
  bd_q9:=F_q9.binds fun _ _ _ _ _ _ us hl=>by obtain⟨v0,v1,v2,rfl⟩:=je hl;rfl
  g_q9:=Yx X G a_q9
  fn_q10:=F_q10
  bd_q10:=F_q10.binds fun _ _ _ _ _ _ us hl=>by obtain⟨v0,v1,rfl⟩:=cZ hl;rfl
  g_q10:=Yx X G a_q10
  fn_q3:=F_q3
  bd_q3:=F_q3.binds fun _ _ _ _ _ _ us hl=>by obtain⟨v0,v1,rfl⟩:=cZ hl;rfl
  g_q3:=Yx X G a_q3
  fn_q33:=F_q33
  bd_q33:=F_q33.binds fun _ _ _ _ _ _ us hl=>by obtain⟨v0,v1,rfl⟩:=cZ hl;rfl
  g_q33:=Yx X G a_q33
  fn_q28:=F_q28
  bd_q28:=F_q28.binds fun _ _ _ _ _ _ us hl=>by obtain⟨v0,rfl⟩:=dZ hl;rfl
  g_q28:=Yx X G a_q28
  fn_q20:=F_q20
  bd_q20:=F_q20.binds fun _ _ _ _ _ _ us hl=>by obtain⟨v0,v1,rfl⟩:=cZ hl;rfl
  g_q20:=Yx X G a_q20
  fn_q25:=F_q25
  bd_q25:=F_q25.binds fun _ _ _ _ _ _ us hl=>by obtain⟨v0,v1,rfl⟩:=cZ hl;rfl
  g_q25:=Yx X G a_q25
  fn_q12:=F_q12
  bd_q12:=F_q12.binds fun _ _ _ _ _ _ us hl=>by obtain⟨v0,v1,rfl⟩:=cZ hl;rfl
  g_q12:=Yx X G a_q12
  fn_q34:=F_q34
  bd_q34:=F_q34.binds fun _ _ _ _ _ _ us hl=>by obtain⟨v0,v1,rfl⟩:=cZ hl;rfl
  g_q34:=Yx X G a_q34
  fn_q4:=F_q4
  bd_q4:=F_q4.binds fun _ _ _ _ _ _ us hl=>by obtain⟨v0,rfl⟩:=dZ hl;rfl
  g_q4:=Yx X G a_q4
  fn_q11:=F_q11
  bd_q11:=F_q11.binds fun _ _ _ _ _ _ us hl=>by obtain⟨v0,rfl⟩:=dZ hl;rfl
  g_q11:=Yx X G a_q11
  b_all:=Zf X G z_all
  b_bool:=Zf X G z_bool
  b_enumerate:=Zf X G z_enumerate
  b_int:=Zf X G z_int
  b_isinstance:=Zf X G z_isinstance
  b_len:=Zf X G z_len
  b_list:=Zf X G z_list
  b_range:=Zf X G z_range
  b_set:=Zf X G z_set
  b_sorted:=Zf X G z_sorted
  b_tuple:=Zf X G z_tuple
  c_MOST_PLACES:=Yx X G t_MOST_PLACES
  c_MOST_TIES:=Yx X G t_MOST_TIES
  c_MOST_LETTERS:=Yx X G t_MOST_LETTERS}
 exact⟨_,fun s v=>.of_eq rfl,fun base _ _=>(Br T).imp (um (law_true _))⟩
end My
namespace PySem.W.Fast
theorem tw5744673021623665696:True:=.intro
theorem tw8619530766971978816:True:=.intro
theorem tw1796828757022244000:True:=.intro
theorem tw8858129697440181440:True:=.intro
theorem tw170453304970710304:True:=.intro
theorem tw2556173675452744000:True:=.intro
theorem tw10301970128377296352:True:=.intro
theorem tw9550398612747343424:True:=.intro
theorem tw14400848114947396224:True:=.intro
theorem tw8617405687664519872:True:=.intro
theorem tw4122535469591765696:True:=.intro
theorem tw1079410653812627200:True:=.intro
theorem tw9503716751673312:True:=.intro
theorem tw13388749039794263041:True:=.intro
theorem tw4541573034932869121:True:=.intro
theorem tw17383082081936569537:True:=.intro
theorem tw14531596118462001505:True:=.intro
theorem tw8137920259724283553:True:=.intro
theorem tw1225373581441749697:True:=.intro
theorem tw4228933321828335393:True:=.intro
theorem tw6709456696852205345:True:=.intro
theorem tw13360453822405804897:True:=.intro
theorem tw9623435591085829025:True:=.intro
theorem tw3071683399039624161:True:=.intro
theorem tw4803291157311727650:True:=.intro
theorem tw6751056966642809058:True:=.intro
theorem tw7275613073959420610:True:=.intro
theorem tw4752401828807271234:True:=.intro
theorem tw5562279229545236290:True:=.intro
theorem tw14978405735961899938:True:=.intro
theorem tw6782988863855372226:True:=.intro
theorem tw5589626220088077443:True:=.intro
theorem tw6276861123697539331:True:=.intro
theorem tw4612576043142025571:True:=.intro
theorem tw182651156041693891:True:=.intro
theorem tw3711784330738875331:True:=.intro
theorem tw13941895616530910179:True:=.intro
theorem tw16649286134500759844:True:=.intro
theorem tw1301123252489514308:True:=.intro
theorem tw11343616942493353476:True:=.intro
theorem tw9009562700873970340:True:=.intro
theorem tw11790061534952753860:True:=.intro
theorem tw10140561286207993604:True:=.intro
theorem tw11763942573757573092:True:=.intro
theorem tw5480299891579763749:True:=.intro
theorem tw9738128534174691397:True:=.intro
theorem tw18119855690905893989:True:=.intro
theorem tw7410614209180991653:True:=.intro
theorem tw4899540007195480261:True:=.intro
theorem tw16885126228484689125:True:=.intro
theorem tw9846296223814170149:True:=.intro
theorem tw1339435660372915813:True:=.intro
theorem tw8127813146438426405:True:=.intro
theorem tw6767384366624567077:True:=.intro
theorem tw16076493756961403910:True:=.intro
theorem tw9800591272397455398:True:=.intro
theorem tw8468459580272780582:True:=.intro
theorem tw13513249719531009382:True:=.intro
theorem tw9443441160132786630:True:=.intro
theorem tw7829852589649204806:True:=.intro
theorem tw17232958977439716998:True:=.intro
theorem tw7175209146409093766:True:=.intro
theorem tw2808980440199447398:True:=.intro
theorem tw10808812830610339782:True:=.intro
theorem tw14137988539539429318:True:=.intro
theorem tw5708270902083446791:True:=.intro
theorem tw14257086547389899815:True:=.intro
theorem tw4402013700987786471:True:=.intro
theorem tw3783479829717086567:True:=.intro
theorem tw7561443367286169575:True:=.intro
theorem tw5934197580237023272:True:=.intro
theorem tw18417279076902107304:True:=.intro
theorem tw12320833751277361640:True:=.intro
theorem tw17754916220420156008:True:=.intro
theorem tw2109346961533981320:True:=.intro
theorem tw5249496145291709128:True:=.intro
theorem tw2112074410889178345:True:=.intro
theorem tw18299442196546724617:True:=.intro
theorem tw11518478545364843562:True:=.intro
theorem tw5860624793766583434:True:=.intro
theorem tw6744840718259562762:True:=.intro
theorem tw5224607744202636618:True:=.intro
theorem tw1699416048786006538:True:=.intro
theorem tw13284321919135112746:True:=.intro
theorem tw11336177314814606922:True:=.intro
theorem tw14645252264829735626:True:=.intro
theorem tw10683510129861011274:True:=.intro
theorem tw4973062426468819882:True:=.intro
theorem tw16830335243748395371:True:=.intro
theorem tw11818262774601243147:True:=.intro
theorem tw5997997412647399179:True:=.intro
theorem tw2539959219793413995:True:=.intro
theorem tw16356931153239803755:True:=.intro
theorem tw2382450315088817067:True:=.intro
theorem tw10139056152947603660:True:=.intro
theorem tw17588554102357085420:True:=.intro
theorem tw16019732573431523756:True:=.intro
theorem tw13790867916866513388:True:=.intro
theorem tw16816166560818688684:True:=.intro
theorem tw17465164907785316076:True:=.intro
theorem tw17043189937111353100:True:=.intro
theorem tw5896493741641857900:True:=.intro
theorem tw12572247408528141228:True:=.intro
theorem tw10608855271886913677:True:=.intro
theorem tw12961494216510389421:True:=.intro
theorem tw1102105832776839437:True:=.intro
theorem tw253399128278748813:True:=.intro
theorem tw7364571612509425421:True:=.intro
theorem tw15832838245086541741:True:=.intro
theorem tw8333463422761923533:True:=.intro
theorem tw6374217501451609294:True:=.intro
theorem tw13653961762765842670:True:=.intro
theorem tw4357801633674320110:True:=.intro
theorem tw5994588282254404846:True:=.intro
theorem tw2780934751188608366:True:=.intro
theorem tw2976190782222120526:True:=.intro
theorem tw8567080376418391790:True:=.intro
theorem tw17560889226980680462:True:=.intro
theorem tw9159517639482274831:True:=.intro
theorem tw3480242259790436495:True:=.intro
theorem tw6827543004015677615:True:=.intro
theorem tw8089714199781466383:True:=.intro
theorem tw1715772704959138063:True:=.intro
theorem tw11540430046019468623:True:=.intro
theorem tw17181517579113910767:True:=.intro
theorem tw5223829045868262319:True:=.intro
theorem tw9941149699454238992:True:=.intro
theorem tw4668671616585950640:True:=.intro
theorem tw4779736386457902544:True:=.intro
theorem tw3297829540375870128:True:=.intro
theorem tw2966740038270782352:True:=.intro
theorem tw2317726845419083889:True:=.intro
theorem tw15057493123064821905:True:=.intro
theorem tw15726861576294053169:True:=.intro
theorem tw99514980578849265:True:=.intro
theorem tw244656713535932977:True:=.intro
theorem tw2104531434003883633:True:=.intro
theorem tw17673783517366621969:True:=.intro
theorem tw4486436944266934354:True:=.intro
theorem tw4645195058407909522:True:=.intro
theorem tw6915617091573653746:True:=.intro
theorem tw3944313542568426866:True:=.intro
theorem tw15635967930085233138:True:=.intro
theorem tw15652950753459371570:True:=.intro
theorem tw13079917041203822290:True:=.intro
theorem tw569665359523105490:True:=.intro
theorem tw3012656479041046322:True:=.intro
theorem tw13070143356560210834:True:=.intro
theorem tw13448353993336308915:True:=.intro
theorem tw16500322015978441971:True:=.intro
theorem tw18159141346403021075:True:=.intro
theorem tw2174260639566744883:True:=.intro
theorem tw11450468273261555187:True:=.intro
theorem tw3142491006801336851:True:=.intro
theorem tw424902610214981139:True:=.intro
theorem tw10420805369628406355:True:=.intro
theorem tw14973182492511503987:True:=.intro
theorem tw9961900894715595411:True:=.intro
theorem tw12011308835600006931:True:=.intro
theorem tw1228190056369082163:True:=.intro
theorem tw8673423998819907507:True:=.intro
theorem tw9947805290790393843:True:=.intro
theorem tw17868433036725290100:True:=.intro
theorem tw13194376333627957524:True:=.intro
theorem tw6403257646902986260:True:=.intro
theorem tw356846703357601428:True:=.intro
theorem tw2201909633252497076:True:=.intro
theorem tw5542113813952502644:True:=.intro
theorem tw17813838084773860244:True:=.intro
theorem tw7816389760732304501:True:=.intro
theorem tw733140430404885717:True:=.intro
theorem tw537151677575533109:True:=.intro
theorem tw16761250155186726773:True:=.intro
theorem tw16749618276300237974:True:=.intro
theorem tw14213334860234661174:True:=.intro
theorem tw10261680962213169654:True:=.intro
theorem tw18129355246107631350:True:=.intro
theorem tw7282874965959790390:True:=.intro
theorem tw5427275331535913463:True:=.intro
theorem tw328334685715686263:True:=.intro
theorem tw10234389336095177591:True:=.intro
theorem tw808480912429235095:True:=.intro
theorem tw227110662945870775:True:=.intro
theorem tw12103197746064122807:True:=.intro
theorem tw14088680709071483032:True:=.intro
theorem tw8040638232060257848:True:=.intro
theorem tw2444449354712474584:True:=.intro
theorem tw6217770279432388600:True:=.intro
theorem tw15911216234323358841:True:=.intro
theorem tw1603573786811840665:True:=.intro
theorem tw13228588832110617849:True:=.intro
theorem tw1451763356134204825:True:=.intro
theorem tw13062524882879152665:True:=.intro
theorem tw17928332834979583577:True:=.intro
theorem tw701662670491192057:True:=.intro
theorem tw11787600194457855801:True:=.intro
theorem tw16124996809428687002:True:=.intro
theorem tw12680660818799851770:True:=.intro
theorem tw5178295412100792602:True:=.intro
theorem tw16690326414963969466:True:=.intro
theorem tw2910946071836748378:True:=.intro
theorem tw2807036513706368666:True:=.intro
theorem tw15762378771580537594:True:=.intro
theorem tw10174713087740087323:True:=.intro
theorem tw8673646608393515259:True:=.intro
theorem tw6769943171079219547:True:=.intro
theorem tw8967506999319393659:True:=.intro
theorem tw10066257692271691323:True:=.intro
theorem tw5509400460350011963:True:=.intro
theorem tw11379678597602987611:True:=.intro
theorem tw17960828307765380859:True:=.intro
theorem tw15303996291148595131:True:=.intro
theorem tw5525018542372261596:True:=.intro
theorem tw17648562552467173340:True:=.intro
theorem tw5921274062588833756:True:=.intro
theorem tw10148418366864407869:True:=.intro
theorem tw15704784771555448189:True:=.intro
theorem tw13218532436120877597:True:=.intro
theorem tw11910531160508341885:True:=.intro
theorem tw12488863966246818461:True:=.intro
theorem tw14944833845406377086:True:=.intro
theorem tw5851566439746956510:True:=.intro
theorem tw3948860808892568862:True:=.intro
theorem tw18257891582039080254:True:=.intro
theorem tw8649407982531726878:True:=.intro
theorem tw14273052526904872510:True:=.intro
theorem tw9744286334016619262:True:=.intro
theorem tw14725101566424119294:True:=.intro
theorem tw9834620706661613759:True:=.intro
theorem tw4224715706701896991:True:=.intro
theorem tw14952427905098463583:True:=.intro
theorem tw17902981252711543231:True:=.intro
theorem tw7463096032619254303:True:=.intro
theorem tw10762576113398143551:True:=.intro
theorem tw16887846816732786239:True:=.intro
theorem tw14333015148343075455:True:=.intro
theorem tw2239266588582323967:True:=.intro
theorem tw3604636322818909983:True:=.intro
theorem tw18161564408679943007:True:=.intro
theorem tw3355817455571829759:True:=.intro
end PySem.W.Fast
open PySem PySem.W PyProof.Rows
set_option maxRecDepth 100000 in
set_option maxHeartbeats 0 in
theorem PySem.Challenge.cw_tieword_k08_rounds_to_a_settled_parting_holds : PySem.Challenge.rw_tieword_k08_rounds_to_a_settled_parting.Holds := by
  w_on; refine PySem.W.holds_law (by decide +kernel) fun said=>?_; o_head (PySem.W.kHook My.KK [3,25,26,30,31,35,36,42,43,49,50,56,57,63,64,117,118,124,125,131,132,138,139,145,146,152,153,159,160,171,172,178,179,185,186,195,196,206,207,213,214,220,221,225,226,232,233,239,240,246,247,253,254,258,259,265,266,272,273,277,278,282,283,287,288,292,293,299,300,306,307,313,314] (fun _=>by kernel_rfl)); (case hw=>w_witness2)
  k_fill
  refine L2.walk_ofK (l:=PySem.Challenge.rw_tieword_k08_rounds_to_a_settled_parting) (n:=63) (k:=8) (x := "_law_script") (CX:=L2.CX0) (sp:=My.spLaw) rfl (by decide) rfl ⟨rfl,by decide,by decide⟩ (fun w h Y=>PySem.W.kIn_of Y) ?F (fun K H a ns hl _ hS=>⟨a,ns,rfl,hS,hl,fun _=>rfl⟩) fun _ _ _ _ z=>z
  case F=>
    intro w mg fa h KX G hmg
    refine' My.all_mk KX G hmg ..
    all_goals (try k_is)
    all_goals kernel_rfl
