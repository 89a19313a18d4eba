import PyProof.Rows.All
import Wide.All
import OpenK.AllK
import Wide.FinOn
import Lean
import PyProof.EqAt
import PyProof.EqKinds
import PyProof.TupleCall
import PyProof.EnumFor
import PyProof.EnumMake
import PyProof.ZipIter
import KE.KRevIter
import PyProof.ListRange
import PyProof.FactsAll.range_iterator_1
import PyProof.StrOps2
import PySem.SetOps
import PyProof.Rows.SetFrom
import PyProof.CollectWalk
import PyProof.Rows.SortShell
import PyProof.SetRoads
import PyProof.Rows.MinMaxN
import PySem.Challenge.RW_tieword_k10_whole_parted_alike
set_option Elab.async false
set_option linter.all false
set_option maxRecDepth 100000
set_option compiler.extract_closed false
set_option bootstrap.genMatcherCode false
set_option genSizeOf false
set_option genSizeOfSpec false
namespace L2
def Ya:=@PySem.wpAny_bind
def Yb:=@Option.bind_some
def Yc:=@List.mem_cons_of_mem
def Yd:=@List.length_map
def Ye:=@List.mem_cons_self
def Yf:=@List.getElem?_eq_getElem
def Yg:=@PySem.wpAny_pure
def Yh:=@PySem.Heap.get?_push_of_some
def Yi:=@List.all_eq_true
def Yj:=@Bool.false_ne_true
def Yk:=@List.mem_map
def Yl:=@Nat.le_refl
def Ym:=@PySem.Heap.get?_push_size
def Yn:=@List.getElem?_eq_some_iff
def Yo:=@Bool.and_eq_true
def Yp:=@PySem.Heap.lt_size
def Yq:=@Array.getElem?_eq_getElem
def Yr:=@List.mem_cons
def Ys:=@List.getElem?_map
def Yt:=@Nat.lt_of_lt_of_le
def Yu:=@List.length_append
def Yv:=@PySem.W.mg_of
def Yw:=@List.length_cons
def Yx:=@List.size_toArray
def Yy:=@Option.some.inj
def Yz:=@Array.length_toList
def YA:=@Nat.ne_of_lt
def YB:=@decide_eq_false
def YC:=@Nat.le_trans
def YD:=@List.mem_of_getElem?
def YE:=@decide_eq_true_eq
def YF:=@Nat.zero_le
def YG:=@List.map_cons
def YH:=@List.length_replicate
def YI:=@List.mem_range
def YJ:=@PySem.Heap.get?_update_ne
def YK:=@decide_eq_true
def YL:=@List.map_map
def YM:=@List.length_singleton
def YN:=@Array.getElem?_toList
def YO:=@List.getD_eq_getElem?_getD
def YQ:=@Int.toNat_natCast
def YR:=@PySem.sizeLine_eq
def YS:=@List.getElem?_eq_none
def YT:=@Int.emod_lt_of_pos
def YU:=@List.mem_singleton
def YV:=@List.length_eq_zero_iff
def YW:=@List.mem_append_right
def YX:=@PySem.Heap.get?_update_self
def YY:=@of_decide_eq_true
def YZ:=@List.length_range
def Za:=@PySem.W.mg_none_of
def Zb:=@Array.getD_eq_getD_getElem?
def Zc:=@PySem.PassesOwn.never
def Zd:=@Nat.lt_irrefl
def Ze:=@Int.emod_nonneg
def Zf:=@List.append_nil
def Zg:=@Array.getElem?_eq_some_iff
def Zh:=@Nat.le_antisymm
def Zi:=@Nat.lt_succ_of_lt
def Zj:=@Nat.le_of_lt_succ
def Zk:=@Classical.byContradiction
def Zl:=@List.getElem?_set_ne
def Zm:=@List.pairwise_cons
def Zn:=@List.length_nil
def Zo:=@List.getElem?_range
def Zp:=@PySem.codeAny_builtin
def Zq:=@List.map_append
def Zr:=@List.getElem?_append_right
def Zs:=@congrArg
def Zt:=@List.getElem?_set_self
def Zu:=@List.getElem?_append_left
def Zv:=@Nat.le_add_left
def Zw:=@List.Perm.refl
def Zx:=@PySem.wpAny_call_entry
def Zy:=@PySem.mem_of_lookup
def Zz:=@PySem.wpAny_truthy_bool
def ZA:=@Array.mem_of_getElem?
def ZB:=@Nat.zero_add
def ZC:=@List.mem_append
def ZD:=@PyProof.Rows.callWith_type1
def ZE:=@Bool.false_eq_true
def ZF:=@List.length_set
def ZG:=@Nat.lt_of_le_of_ne
def ZH:=@Nat.lt_of_le_of_lt
def ZI:=@PyProof.Rows.F.plain_set_update_loop
def ZJ:=@PySem.Obj.data_mapFields
def ZK:=@PySem.Around.under_plainId
def ZL:=@Nat.le_of_lt
def ZM:=@Nat.ne_of_gt
def ZN:=@List.length_take
def ZO:=@List.ext_getElem?
def ZP:=@List.getElem_of_mem
def ZQ:=@List.map_congr_left
def ZR:=@PySem.wpAny_holding
def ZS:=@List.mem_filter
def ZT:=@Nat.le_of_eq
def ZU:=@List.nodup_cons
def ZV:=@Option.map_some
def ZW:=@Option.isSome_iff_exists
def ZX:=@Nat.lt_succ_self
def ZY:=@Nat.le_of_not_lt
def ZZ:=@PySem.F.plainAttrs_list
def Xa:=@decide_eq_false_iff_not
def Xb:=@Int.eq_ofNat_of_zero_le
def Xc:=@PySem.wpAny_newObj_type
def Xd:=@Nat.le_succ
def Xe:=@List.find?_cons
def Xf:=@List.getElem_mem
def Xg:=@Nat.lt_trans
def Xh:=@Nat.succ_pos
def Xi:=@PySem.Heap.size_push
def Xj:=@List.drop_eq_getElem_cons
def Xk:=@Nat.le_sub_one_of_lt
def Xl:=@PySem.wpAny_mono
def Xm:=@PySem.wpAny_passesOwn
def Xn:=@List.append_assoc
def Xo:=@beq_eq_false_iff_ne
def Xp:=@List.getElem?_replicate
def Xq:=@List.getElem?_cons_succ
def Xr:=@PyProof.Rows.F.entry_set_update_loop
def Xs:=@PySem.wpAny_callSpecial?_slot
def Xt:=@Int.toNat_of_nonneg
def Xu:=@PySem.wpAny_forIn_list
def Xv:=@List.take_length
def Xw:=@List.not_mem_nil
def Xx:=@PySem.W.cellsFrom_some
def Xy:=@Array.getElem?_eq_none
def Xz:=@Nat.add_right_comm
def XA:=@PySem.wpAny_specialOf
def XB:=@PySem.Obj.isFreed_of_fields
def XC:=@PySem.wpAny_ite_split
def XD:=@PySem.Heap.get?_push_ne
def XE:=@PySem.F.slot_tuple_hash
def XF:=@List.take_add_one
def XG:=@List.nodup_iff_pairwise_ne
def XH:=@List.perm_ext_iff_of_nodup
def XI:=@PySem.wpAny_setField
def XJ:=@PySem.wpAny_isInstance
def XL:=@List.nodup_range
def XM:=@Ne.symm
def XN:=@Nat.add_sub_cancel'
def XO:=@Nat.lt_or_ge
def XQ:=@List.filterMap_cons_some
def XR:=@PySem.wpAny_Call_Name_kw
def XS:=@List.any_cons
def XT:=@Nat.lt_add_of_pos_right
def XU:=@PySem.Code.quiet_builtin
def XV:=@Array.forIn_toList
def XW:=@List.eraseIdx_cons_succ
def XX:=@List.filter_cons_of_neg
def XY:=@List.filter_cons_of_pos
def XZ:=@PySem.SeqAt.eqAt_reads
def Va:=@List.pairwise_lt_range
def Vb:=@Nat.le_of_succ_le
def Vc:=@List.pairwise_map
def Vd:=@PySem.eqIsQuiet_byValue
def Ve:=@PySem.wpAny_setState_of
def Vf:=@PySem.wpAny_storeSet_of
def Vg:=@List.eraseIdx_eq_take_drop_succ
def Vh:=@PySem.wpAny_pyIter_slot
def Vi:=@List.map_id
def Vj:=@List.Pairwise.map
def Vk:=@if_false
def Vl:=@PySem.wpAny_seqItems
def Vm:=@PySem.F.slot_dict_get
def Vn:=@PySem.wpAny_typeOf
def Vo:=@PySem.hashByValue_scannable
def Vp:=@List.take_append_drop
def Vq:=@Nat.succ.inj
def Vr:=@PySem.wpAny_pyHash_str
def Vs:=@PySem.Heap.size_update
def Vt:=@List.mem_append_left
def Vu:=@Array.mem_toList_iff
def Vv:=@Array.getElem_of_mem
def Vw:=@Bool.true_and
def Vx:=@PySem.wpAny_newList
def Vy:=@PySem.plainId_quiet
def Vz:=@beq_iff_eq
def VA:=@Nat.mod_lt
def VB:=@List.filterMap_cons
def VC:=@PySem.wpAny_execs_nil
def VD:=@PySem.W.plainGet_of
def VE:=@PySem.pushCells_keeps
def VF:=@Nat.min_le_left
def VG:=@Nat.not_lt_zero
def VH:=@PySem.F.slot_set_iter
def VI:=@PySem.wpAny_updateSeq
def VJ:=@List.map_eq_nil_iff
def VL:=@List.mem_filterMap
def VM:=@PySem.codeAny_mono
def VN:=@PySem.W.callWith_K
def VO:=@List.zip_cons_cons
def VP:=@List.find?_eq_none
def VQ:=@Nat.eq_zero_or_pos
def VR:=@Int.le_trans
def VS:=@Int.lt_of_le_of_lt
def VT:=@Array.size_append
def VU:=@Nat.lt_trichotomy
def VV:=@if_true
def VW:=@Nat.sub_lt
end L2
namespace L2
open PySem PySem.Spec PyProof.Rows
abbrev Kq:=PySem.W.Frag
abbrev Kv:=Value->Shared->Prop
abbrev Kp:=List (Addr×Obj)
abbrev Ks:=Str->Option Value
abbrev Ka:=Array (Int×Value)
abbrev Kb:=Bool->Shared->Prop
abbrev Ko:=Option Value->Shared->Prop
abbrev Kl:=List Value->Shared->Prop
abbrev Kr:=Result->Shared->Prop
abbrev Key:=Sum Int Str
def kQ:Key->Value->Bool
 |.inl k,v=>Value.isInt k v
 |.inr x,v=>Value.isStrOf x v
def E5(w:World):Key->Int
 |.inl k=>hashInt k
 |.inr x=>hashStr w x
theorem bR:∀{k:Key}{v:Value},kQ k v=true->(∃i t,k=Sum.inl i/\v=Value.int i t)\/(∃x t,k=Sum.inr x/\v=Value.str x t)
 |.inl i,v,h=>by
  obtain⟨t,e⟩:=Value.isInt_shape (k:=i) (v:=v) h;exact .inl ⟨i,t,rfl,e⟩
 |.inr x,v,h=>by
  obtain⟨t,e⟩:=Value.isStrOf_shape (x:=x) (v:=v) h;exact .inr ⟨x,t,rfl,e⟩
theorem tY(i:Int)(t:Tok):kQ (.inl i) (.int i t)=true:=by simp[kQ,Value.isInt]
theorem tF(x:Str)(t:Tok):kQ (.inr x) (.str x t)=true:=by simp[kQ,Value.isStrOf]
theorem AU(a b:Int):decide ((Sum.inl a:Key)=Sum.inl b)=(a == b):=by
 by_cases e:a=b
 ·subst e;simp
 ·have h:¬(Sum.inl a:Key)=Sum.inl b:=fun q=>e (Sum.inl.inj q)
  rw[YB h];exact(Xo.mpr e).symm
theorem AJ(a b:Str):decide ((Sum.inr a:Key)=Sum.inr b)=decide (a=b):=by
 by_cases e:a=b
 ·subst e;simp
 ·have h:¬(Sum.inr a:Key)=Sum.inr b:=fun q=>e (Sum.inr.inj q)
  rw[YB h,YB e]
theorem A0(a:Int)(b:Str):decide ((Sum.inl a:Key)=Sum.inr b)=false:=YB (fun q=>nomatch q)
theorem Ag(a:Str)(b:Int):decide ((Sum.inr a:Key)=Sum.inl b)=false:=YB (fun q=>nomatch q)
def bT(prog:Program)(w:World):PySem.KeyKind prog w Key where
 is:=kQ
 hash:=E5 w
 inj:=fun v a b ha hb=>by
  rcases bR ha with⟨i,t,rfl,rfl⟩|⟨x,t,rfl,rfl⟩
  ·rcases bR hb with⟨j,u,rfl,e⟩|⟨y,u,rfl,e⟩
   ·injection e with e1 _;rw[e1]
   ·exact nomatch e
  ·rcases bR hb with⟨j,u,rfl,e⟩|⟨y,u,rfl,e⟩
   ·exact nomatch e
   ·injection e with e1 _;rw[e1]
 byValue:=fun k v h=>by
  rcases bR h with⟨i,t,rfl,rfl⟩|⟨x,t,rfl,rfl⟩<;>rfl
 pyHash:=fun hv h=>by
  rcases bR hv with⟨i,t,rfl,rfl⟩|⟨x,t,rfl,rfl⟩
  ·exact wpAny_pyHash_int h
  ·exact Vr h
 eqBool:=fun hu hv h=>by
  rcases bR hu with⟨i,t,rfl,rfl⟩|⟨x,t,rfl,rfl⟩
  ·rcases bR hv with⟨j,u,rfl,rfl⟩|⟨y,u,rfl,rfl⟩
   ·rw[AU]at h;exact wpAny_eqBool_int h
   ·rw[A0]at h;exact SeqAt.EqAt.int_str i t y u _ _ _ _ h
  ·rcases bR hv with⟨j,u,rfl,rfl⟩|⟨y,u,rfl,rfl⟩
   ·rw[Ag]at h;exact SeqAt.EqAt.str_int x t j u _ _ _ _ h
   ·rw[AJ]at h;exact wpAny_eqBool_str h
 «strs»:=fun k x t v h=>by
  rcases bR h with⟨i,u,rfl,e⟩|⟨y,u,rfl,e⟩
  ·exact nomatch e
  ·injection e with e1 _;subst e1;cases v<;>rfl
theorem ot(prog:Program)(w:World)(i:Int)(t:Tok):(bT prog w).is (.inl i) (.int i t)=true:=tY i t
theorem pH(prog:Program)(w:World)(x:Str)(t:Tok):(bT prog w).is (.inr x) (.str x t)=true:=tF x t
inductive V where
 |non|bl (b:Bool)|int (i:Int)|str (x:Str)|byt (b:Array UInt8)|flt (b:UInt64)|ref (a:Addr)|ty (n:String)
def RelV:V->Value->Prop
 |.non,u=>u=Value.none
 |.bl b,u=>u=Value.bool b
 |.int i,u=>∃t,u=Value.int i t
 |.str x,u=>∃t,u=Value.str x t
 |.byt b,u=>∃t,u=Value.bytes b t
 |.flt b,u=>∃t,u=Value.float b t
 |.ref a,u=>u=Value.ref a
 |.ty n,u=>u=Value.type n
abbrev Vals:List V->List Value->Prop:=Paired RelV
theorem Vals.length{xs:List V}{us:List Value}(r:Vals xs us):xs.length=us.length:=Paired.length r
theorem Vals.get:∀{xs:List V}{us:List Value}{i:Nat}{x:V},Vals xs us->xs[i]?=some x->∃u,us[i]?=some u/\RelV x u
 |_,_,_,_,.nil,e=>by simp at e
 |_,_,0,_,.cons r _,e=>by simp at e;subst e;exact⟨_,rfl,r⟩
 |_,_,i+1,x,.cons _ t,e=>by
  obtain⟨u,h1,h2⟩:=Vals.get (i:=i) (x:=x) t (by simpa using e);exact⟨u,by simpa using h1,h2⟩
theorem Vals.append{xs ys:List V}{us ws:List Value}(h:Vals xs us)(s:Vals ys ws):Vals (xs++ys) (us++ws):=by
 induction h with
 |nil=>exact s
 |cons r _ ih=>exact .cons r ih
theorem Vals.take:∀{xs:List V}{us:List Value} (n:Nat),Vals xs us->Vals (xs.take n) (us.take n)
 |_,_,0,_=>.nil
 |_,_,_+1,.nil=>.nil
 |_,_,n+1,.cons r t=>.cons r (Vals.take n t)
theorem Vals.drop:∀{xs:List V}{us:List Value} (n:Nat),Vals xs us->Vals (xs.drop n) (us.drop n)
 |_,_,0,r=>r
 |_,_,_+1,.nil=>.nil
 |_,_,n+1,.cons _ t=>Vals.drop n t
def RelO:Option V->Option Value->Prop
 |some v,some u=>RelV v u
 |none,none=>True
 |_,_=>False
def KV{κ:Type}:List (κ×V)->List (κ×Value)->Prop:=Paired fun(p:κ×V) (q:κ×Value)=>p.1=q.1/\RelV p.2 q.2
def kV:Key->V
 |.inl i=>.int i
 |.inr x=>.str x
inductive HO where
 /-- a list -/
 |lst (xs:List V)
 /-- a tuple (never changes) -/
 |tup (xs:List V)
 /-- a dict whose keys are ints and texts;one whose keys are tuples of ints and texts (the empty one is both) -/
 |dK (kvs:List (Key×V))|dT (kvs:List (List Key×V))
 /-- a set of ints: its members,its size -/
 |set (S:Int->Bool) (n:Nat)
 /-- an instance of the class at C,its dict at dx,its attributes -/
 |ins (C dx:Addr) (fs:List (Str×V))
 /-- the dict of the instance at x -/
 |own (x:Addr)
 /-- the dict of an exception -/
 |xd (fs:List (Str×V))
 /-- a bound method,f of x -/
 |met (f x:Addr)
 /-- a range object lo,lo+1,.. below hi -/
 |rng (lo hi:Int)
 /-- a thing that is known to the object (the script;a dict while a loop walks it): read,never written while it is so -/
 |frz (o:Obj) (u:HO)
 /-- a code object's table -/
 |tbl (ps:Array Value)
 /-- any other thing,by what is true of its one object (a def of one's own: SetO a S n:=HO.ext fun h=>..) -/
 |ext (φ:Heap->Prop)
abbrev Hp:=Addr->Option HO
def upd(H:Hp)(a:Addr)(o:HO):Hp:=fun b=>if b=a then some o else H b
theorem aX{H:Hp}{a:Addr}{o:HO}:upd H a o a=some o:=by unfold upd;rw[if_pos rfl]
theorem aK{H:Hp}{a b:Addr}{o:HO}(h:b≠a):upd H a o b=H b:=by unfold upd;rw[if_neg h]
theorem Da{H:Hp}{a b:Addr}{o u:HO}(h:H a=some o)(h':H b=some u)(d:o≠u):a≠b:=by intro e;subst e;rw[h]at h';exact d (Yy h')
theorem a8{H:Hp}{a b:Addr}{o:HO}(h:H a=some o)(h':H b=none):a≠b:=by intro e;subst e;rw[h]at h';cases h'
def NoD(h:Heap)(a:Addr):Prop:=∃o,h.get? a=some o/\o.dict=none
theorem NoD.new(h:Heap)(items:Array Value):NoD (h.push {cls:=.type "tuple",data:=.seq items}) h.objs.size:=⟨_,Ym _ rfl,rfl⟩
section
variable(P:Program) (w:World)
def ObjOk(H:Hp)(h:Heap)(a:Addr):HO->Prop
 |.lst xs=>xs.length<=sizeLine/\∃(its:List Value) (n:Nat),Vals xs its/\h.get? a=some {cls:=.type "list",data:=.seq its.toArray n}
 |.tup xs=>xs.length<=sizeLine/\∃its:List Value,Vals xs its/\IsTup h a its.toArray/\NoD h a
 |.dK kvs=>kvs.length<=sizeLine/\(a == sysModules)=false/\∃vs,KV kvs vs/\h.DictOf (bT P w) a vs
 |.dT kvs=>kvs.length<=sizeLine/\(a == sysModules)=false/\∃xs:List (List Key×Addr×Value),
   Paired (fun(p:List Key×V) (q:List Key×Addr×Value)=>p.1=q.1/\H q.2.1=some (.tup (p.1.map kV))/\RelV p.2 q.2.2) kvs xs /\
   ∃o es ep,h.get? a=some o/\o.ExactDict/\o.data=.dict es ep/\es.toList=xs.map (entryOfKey (tupleKind (bT P w)))/\(xs.map (·.1)).Nodup
 |.set S n=>h.SetOf (intKind P w) a S n
 |.ins C dx fs=>H dx=some (.own a)/\fs.length<=1000/\dx≠a/\h.get? a=some (PySem.W.instObj C dx) /\
   ∃mA,h.Ns1 dx mA/\(∀f,RelO (fs.lookup f) (mA f))/\PySem.Within mA (fs.map (·.1))
 |.own _=>∃o,h.get? a=some o
 |.xd fs=>∃mA,h.Ns1 a mA/\∀f,RelO (fs.lookup f) (mA f)
 |.rng lo hi=>∃t u v,h.get? a=some {cls:=.type "range",data:=.fields #[.int lo t,.int hi u,.int 1 v]}
 |.frz o u=>h.get? a=some o/\ObjOk H h a u
 |.tbl ps=>h.get? a=some {cls:=.none,data:=.fields ps}
 |.met f x=>h.get? a=some (PySem.W.methodObj (.ref f) (.ref x))
 |.ext φ=>φ h/\(∃o,h.get? a=some o)/\∀h1 h2:Heap,φ h1->(∀o,h1.get? a=some o->h2.get? a=some o)->φ h2
def HOk(H:Hp)(h:Heap):Prop:=∀a o,H a=some o->ObjOk P w H h a o
end
section
variable{P:Program}{w:World}{H H':Hp}{h h':Heap}{a:Addr}{o:HO}
theorem ObjOk.lt(x:ObjOk P w H h a o):a<h.objs.size:=by
 cases o with
 |lst xs=>obtain⟨_,_,_,_,e⟩:=x;exact Yp e
 |tup xs=>obtain⟨_,_,_,p,_⟩:=x;exact p.lt
 |dK kvs=>obtain⟨_,_,_,_,o,_,_,e,_⟩:=x;exact Yp e
 |dT kvs=>obtain⟨_,_,_,_,o,_,_,e,_⟩:=x;exact Yp e
 |set S n=>obtain⟨o,_,_,_,e,_⟩:=x;exact Yp e
 |ins C dx fs=>obtain⟨_,_,_,e,_⟩:=x;exact Yp e
 |own y=>obtain⟨_,e⟩:=x;exact Yp e
 |xd fs=>obtain⟨_,⟨_,_,_,e,_⟩,_⟩:=x;exact Yp e
 |rng lo hi=>obtain⟨_,_,_,e⟩:=x;exact Yp e
 |frz ob u=>obtain⟨e,_⟩:=x;exact Yp e
 |tbl ps=>exact Yp (show h.get? a=some _ from x)
 |met f y=>exact Yp (show h.get? a=some _ from x)
 |ext φ=>obtain⟨_,⟨_,e⟩,_⟩:=x;exact Yp e
theorem Paired.mapP{α β:Type}{F G:α->β->Prop}{l₁:List α}{l₂:List β}(h:Paired F l₁ l₂)(f:∀a b,F a b->G a b):Paired G l₁ l₂:=by
 induction h with
 |nil=>exact .nil
 |cons r _ ih=>exact .cons (f _ _ r) ih
theorem ObjOk.stay(x:ObjOk P w H h a o)(k:∀b u,(b=a\/H b=some (.own a))->h.get? b=some u->h'.get? b=some u)
  (ho:∀b,H b=some (.own a)->H' b=some (.own a)) (ht:∀b xs,H b=some (.tup xs)->H' b=some (.tup xs)):ObjOk P w H' h' a o:=by
 induction o with
 |lst xs=>obtain⟨z,its,n,r,e⟩:=x;exact⟨z,its,n,r,k _ _ (.inl rfl) e⟩
 |tup xs=>obtain⟨z,its,r,⟨ob,e,c⟩,ob2,e2,c2⟩:=x;exact⟨z,its,r,⟨ob,k _ _ (.inl rfl) e,c⟩,ob2,k _ _ (.inl rfl) e2,c2⟩
 |dK kvs=>obtain⟨z,y,vs,r,ob,es,ep,e,c⟩:=x;exact⟨z,y,vs,r,ob,es,ep,k _ _ (.inl rfl) e,c⟩
 |dT kvs=>
  obtain⟨z,y,xs,r,ob,es,ep,e,c⟩:=x;exact⟨z,y,xs,Paired.mapP r fun p q z=>⟨z.1,ht _ _ z.2.1,z.2.2⟩,ob,es,ep,k _ _ (.inl rfl) e,c⟩
 |set S n=>obtain⟨ob,es,ep,t,e,c⟩:=x;exact⟨ob,es,ep,t,k _ _ (.inl rfl) e,c⟩
 |ins C dx fs=>
  obtain⟨d,z,ne,e,mA,⟨od,es,ep,e2,c⟩,r⟩:=x;exact⟨ho _ d,z,ne,k _ _ (.inl rfl) e,mA,⟨od,es,ep,k _ _ (.inr d) e2,c⟩,r⟩
 |own y=>obtain⟨ob,e⟩:=x;exact⟨ob,k _ _ (.inl rfl) e⟩
 |xd fs=>obtain⟨mA,⟨od,es,ep,e,c⟩,r⟩:=x;exact⟨mA,⟨od,es,ep,k _ _ (.inl rfl) e,c⟩,r⟩
 |rng lo hi=>obtain⟨t,u,v,e⟩:=x;exact⟨t,u,v,k _ _ (.inl rfl) e⟩
 |frz ob u ih=>obtain⟨e,q⟩:=x;exact⟨k _ _ (.inl rfl) e,ih q⟩
 |tbl ps=>
  have e:h.get? a=some {cls:=.none,data:=.fields ps}:=x;show h'.get? a=some {cls:=.none,data:=.fields ps};exact k a _ (.inl rfl) e
 |met f y=>
  have e:h.get? a=some (PySem.W.methodObj (.ref f) (.ref y)):=x;show h'.get? a=some (PySem.W.methodObj (.ref f) (.ref y));exact k a _ (.inl rfl) e
 |ext φ=>obtain⟨p,⟨o,e⟩,st⟩:=x;exact⟨st _ _ p fun o q=>k _ _ (.inl rfl) q,⟨o,k _ _ (.inl rfl) e⟩,st⟩
theorem HOk.lt(x:HOk P w H h)(e:H a=some o):a<h.objs.size:=(x a o e).lt
theorem HOk.fresh(x:HOk P w H h)(e:h.objs.size<=a):H a=none:=by
 cases q:H a with
 |none=>rfl
 |some u=>exact absurd (Yt (x.lt q) e) (Zd _)
theorem HOk.kept(x:HOk P w H h)(k:∀b u,h.get? b=some u->h'.get? b=some u):HOk P w H h':=fun a o e=>
 (x a o e).stay (fun b u _ q=>k b u q) (fun _ q=>q) fun _ _ q=>q
theorem HOk.laid(x:HOk P w H h)(k:∀b u,h.get? b=some u->h'.get? b=some u)(hp:h.objs.size<=a)(new:ObjOk P w (upd H a o) h' a o):HOk P w (upd H a o) h':=fun b u e=>by
 have hn:=x.fresh hp;by_cases hb:b=a
 ·subst hb;rw[aX]at e;cases e;exact new
 ·rw[aK hb]at e;exact(x b u e).stay (fun c v _ q=>k c v q) (fun c q=>by rw[aK (a8 q hn)];exact q) fun c xs q=>by rw[aK (a8 q hn)];exact q
end
def Rd(H:Hp)(a:Addr)(u:HO):Prop:=H a=some u\/∃o,H a=some (.frz o u)
theorem Rd.ok{P:Program}{w:World}{H:Hp}{h:Heap}{a:Addr}{u:HO}(r:Rd H a u)(x:HOk P w H h):ObjOk P w H h a u:=by
 rcases r with r|⟨o,r⟩
 ·exact x a u r
 ·obtain⟨_,q⟩:=x a _ r;exact q
def Mut:Option HO->Prop
 |some (.lst _)=>True
 |some (.dK _)=>True
 |some (.dT _)=>True
 |some (.set _ _)=>True
 |some (.ins _ _ _)=>True
 |some (.ext _)=>True
 |_=>False
section
variable{P:Program}{w:World}{H:Hp}{h h':Heap}{x e:Addr}{o':HO}
theorem HOk.write(ok:HOk P w H h)(mu:Mut (H x))(he:e=x\/H e=some (.own x))(k:∀b u,b≠e->h.get? b=some u->h'.get? b=some u)(heo:∃u,h'.get? e=some u)
  (new:ObjOk P w (upd H x o') h' x o'):HOk P w (upd H x o') h':=fun b u q=>by
 have nown:∀c y,H c=some (.own y)->c≠x:=fun c y r z=>by subst z;rw[r]at mu;exact mu
 have ntup:∀c xs,H c=some (.tup xs)->c≠x:=fun c xs r z=>by subst z;rw[r]at mu;exact mu
 by_cases hb:b=x
 ·subst hb;rw[aX]at q;cases q;exact new
 ·rw[aK hb]at q;by_cases hbe:b=e
  ·have q':H b=some (.own x):=by
    rcases he with z|z
    ·exact absurd (hbe.trans z) hb
    ·rw[hbe];exact z
   rw[q]at q';cases q';obtain⟨v,hv⟩:=heo;exact⟨v,by rw[hbe];exact hv⟩
  ·refine(ok b u q).stay (fun c v hc r=>k c v ?_ r) (fun c r=>by rw[aK (nown c b r)];exact r) fun c xs r=>by rw[aK (ntup c xs r)];exact r
   rcases hc with rfl|hc
   ·exact hbe
   ·rintro rfl;rcases he with z|z
    ·exact nown c b hc z
    ·rw[hc]at z;cases z;exact hb rfl
end
structure Un (fs ex:List Addr) (H H':Hp) (h h':Heap):Prop where
 keep:∀b o,h.get? b=some o->H b=none->b∉fs->b∉ex->h'.get? b=some o
 slot:∀b o,h.get? b=some o->H b=none->b∈fs->b∉ex->∃sl,h'.get? b=some {o with slots:=sl}
 free:∀b o,h.get? b=some o->H b=none->b∉ex->H' b=none
 there:∀b o,h.get? b=some o->b∉ex->∃o',h'.get? b=some o'
 tups:∀b xs,H b=some (.tup xs)->H' b=some (.tup xs)
 frzs:∀b o u,H b=some (.frz o u)->H' b=some (.frz o u)
 tbls:∀b ps,H b=some (.tbl ps)->∃more,H' b=some (.tbl (ps++more))
section
variable{fs fs' ex ex':List Addr}{H H1 H2:Hp}{h h1 h2 h':Heap}{a x e:Addr}{o:HO}
theorem Un.any(u:Un fs ex H H1 h h1){b:Addr}{ob:Obj}(q:h.get? b=some ob)(n:H b=none)(hx:b∉ex):∃sl,h1.get? b=some {ob with slots:=sl}:=by
 by_cases hb:b∈fs
 ·exact u.slot b ob q n hb hx
 ·exact⟨ob.slots,u.keep b ob q n hb hx⟩
theorem Un.kept(k:∀b u,h.get? b=some u->h'.get? b=some u):Un fs ex H H h h':=
 ⟨fun b ob q _ _ _=>k b ob q,fun b ob q _ _ _=>⟨ob.slots,k b ob q⟩,fun _ _ _ n _=>n,fun b ob q _=>⟨ob,k b ob q⟩,fun _ _ q=>q,fun _ _ _ q=>q,fun _ ps q=>⟨#[],by rw[q];simp⟩⟩
theorem Un.refl:Un fs ex H H h h:=Un.kept fun _ _ q=>q
theorem Un.laid(k:∀b u,h.get? b=some u->h'.get? b=some u)(hp:h.objs.size<=a)(hn:H a=none):Un fs ex H (upd H a o) h h' where
 keep:=fun b u q _ _ _=>k b u q
 slot:=fun b u q _ _ _=>⟨u.slots,k b u q⟩
 free:=fun b u q n _=>by rw[aK (YA (Yt (Yp q) hp))];exact n
 there:=fun b u q _=>⟨u,k b u q⟩
 tups:=fun b xs q=>by rw[aK (a8 q hn)];exact q
 frzs:=fun b u xs q=>by rw[aK (a8 q hn)];exact q
 tbls:=fun b ps q=>⟨#[],by rw[aK (a8 q hn),q];simp⟩
theorem Un.write(mu:Mut (H x))(he:e=x\/H e=some (.own x))(k:∀b u,b≠e->h.get? b=some u->h'.get? b=some u)(heo:∃u,h'.get? e=some u):Un fs ex H (upd H x o) h h':=by
 have hx:∀b,H b=none->b≠x:=fun b n z=>by subst z;rw[n]at mu;exact mu
 have hb:∀b,H b=none->b≠e:=fun b n z=>by
  subst z;rcases he with r|r
  ·exact hx b n r
  ·rw[n]at r;cases r
 have hm:∀b u,H b=some u->¬Mut (some u)->b≠x:=fun b u q nm z=>by subst z;rw[q]at mu;exact nm mu
 refine⟨fun b u q n _ _=>k b u (hb b n) q,fun b u q n _ _=>⟨u.slots,k b u (hb b n) q⟩,fun b u q n _=>by rw[aK (hx b n)];exact n,fun b u q _=>?_,
  fun b xs q=>by rw[aK (hm b _ q fun z=>z)];exact q,fun b u xs q=>by rw[aK (hm b _ q fun z=>z)];exact q,fun b ps q=>⟨#[],by rw[aK (hm b _ q fun z=>z),q];simp⟩⟩
 by_cases hbe:b=e
 ·subst hbe;exact heo
 ·exact⟨u,k b u hbe q⟩
end
def trk(h:Heap)(H:Hp):List Addr:=(List.range h.objs.size).filter fun a=>(H a).isSome
def lW(h:Heap)(H:Hp):Heap:=PySem.W.hideAll h (trk h H)
theorem ua(h:Heap)(H:Hp):(lW h H).objs.size=h.objs.size:=PySem.W.hideAll_size _ _
theorem wB{h:Heap}{H:Hp}{b:Addr}{o:Obj}(e:h.get? b=some o)(n:H b=none):(lW h H).get? b=some o:=
 PySem.W.hideAll_get _ e fun hm=>by
  have q:(H b).isSome=true:=(ZS.mp hm).2;rw[n]at q;simp at q
theorem yd{h:Heap}{H:Hp}{b:Addr}{o:Obj}(e:(lW h H).get? b=some o):h.get? b=some o/\H b=none:=by
 have e':h.get? b=some o:=PySem.W.of_hideAll (trk h H) e;refine⟨e',?_⟩;cases q:H b with
 |none=>rfl
 |some x=>
  have hm:b∈trk h H:=ZS.mpr ⟨YI.mpr (Yp e'),by simp[q]⟩;have z:(lW h H).get? b=none:=PySem.W.hideAll_none (trk h H) hm;rw[z]at e;cases e
def xB(g h:Heap)(L:Addr):List (Addr×Obj):=(List.range h.objs.size).filterMap fun a=>if a=L\/(g.get? a).isSome=true then none else(h.get? a).map fun o=>(a,o)
def bH(g h:Heap)(L d:Addr):List (Addr×Obj):=(xB g h L).filter fun p=>decide (p.1≠d)
structure Mod (K:PySem.W.Frag) (mg:Str->Option Value) (base:Heap):Prop where
 kin:K.In base
 glob:base.Ns mainGlobals mg
 blt:∃mb,base.Ns builtinsNs mb/\∀x:Str,x ≠ "__name__"->mb x=bootBuiltins x
 nolimit:base.NoLimit
structure Cx where
 prog:Program
 w:World
 K:PySem.W.Frag
 mg:Str->Option Value
 base:Heap
 A:Around
 N:List Str
 s₀:Shared
 H₀:Hp
 env:Env
 outer:List Env
 stack:List Env
 ex:List Addr
 fn:Str->Bool
 calm:Bool
 pn:List (Addr×Obj)
 xe:Value->Shared->Prop
def frs(l:List Env):List Addr:=l.filterMap (·.frame)
abbrev Cx.fs(X:Cx):List Addr:=frs X.outer
def Vis(sc:Scope)(x:Str):Prop:=sc.names.lookup x=some .local\/sc.names.lookup x=some .cell\/sc.names.lookup x=some .free
def Loc(sc:Scope)(x:Str):Prop:=sc.names.lookup x=some .local\/sc.names.lookup x=some .cell
def ED(env:Env)(h:Heap)(m:Ks)(x:Str)(u:Value):Prop:=
 (env.kindOf x=some .local/\m x=some u)\/((env.kindOf x=some .cell\/env.kindOf x=some .free)/\∃c,env.cells.lookup x=some c/\h.IsCell c (some u))
structure Cx.Ok (X:Cx):Prop where
 mod:Mod X.K X.mg X.base
 kind:X.env.scope.kind=.function
 glob:X.env.globals=mainGlobals
 blt:X.env.builtins=builtinsNs
 above:X.s₀.heap.objs.size<=X.env.locals
 inj:∀x y c,X.env.cells.lookup x=some c->X.env.cells.lookup y=some c->x=y
 has:∀x,(X.env.kindOf x=some .cell\/X.env.kindOf x=some .free)->∃c,X.env.cells.lookup x=some c
 cab:∀x c,X.fn x=true->X.env.cells.lookup x=some c->X.s₀.heap.objs.size<=c
 hd:X.calm=true->X.A.handled=none
 frames:X.A.frames=some X.stack
 stk:X.stack=X.outer\/(X.stack=X.env::X.outer/\X.env.frame=some X.env.locals)
 exf:∀b∈X.ex,b≠X.env.locals/\∀x c,X.env.cells.lookup x=some c->c≠b
 bs:∀b o,X.base.get? b=some o->X.s₀.heap.get? b=some o/\X.H₀ b=none
 bsz:X.base.objs.size<=X.s₀.heap.objs.size
 noex:∀b o,X.base.get? b=some o->b∉X.ex
 exfs:∀b∈X.ex,b∉X.fs
 funs:X.s₀.heap.FunFrames X.base X.outer
 frf:∀b∈X.fs,X.H₀ b=none
structure Inv (X:Cx) (pz:List (Addr×Obj)) (σ:List (Option V)) (H:Hp) (s:Shared):Prop where
 ok:X.Ok
 os:s.os=X.s₀.os
 bare:AllBare s.gens
 base:Un X.fs X.ex X.H₀ H X.s₀.heap s.heap
 loc:∃m,s.heap.Ns X.env.locals m/\∀(i:Nat) (x:Str) (v:V),X.N[i]?=some x->σ[i]?=some (some v)->Vis X.env.scope x->∃u,RelV v u/\ED X.env s.heap m x u
 cell:∀x c,X.env.cells.lookup x=some c->∃v,s.heap.IsCell c v
 free:H X.env.locals=none
 freeC:∀x c,X.env.cells.lookup x=some c->H c=none
 pin:∀p∈X.pn++pz,s.heap.get? p.1=some p.2/\H p.1=none/\p.1≠X.env.locals/\p.1∉X.fs/\∀v,p.2.data≠.cell v
 hok:HOk X.prog X.w H s.heap
 len:σ.length=X.N.length
section
variable{X:Cx}{pz:Kp}{σ:List (Option V)}{H H':Hp}{s:Shared}{h':Heap}
theorem Cx.Ok.nofr(ok:X.Ok){b:Addr}{o:Obj}(e:X.base.get? b=some o):b∉X.fs:=fun hb=>by
 have:=(ok.funs.mem hb).1;rw[e]at this;cases this
theorem Inv.bs(I:Inv X pz σ H s):∀b o,X.base.get? b=some o->s.heap.get? b=some o/\H b=none:=fun b o e=>
 ⟨I.base.keep b o (I.ok.bs b o e).1 (I.ok.bs b o e).2 (I.ok.nofr e) (I.ok.noex b o e),I.base.free b o (I.ok.bs b o e).1 (I.ok.bs b o e).2 (I.ok.noex b o e)⟩
theorem Inv.bk(I:Inv X pz σ H s):∀b o,X.base.get? b=some o->s.heap.get? b=some o:=fun b o e=>(I.bs b o e).1
theorem Inv.mod(I:Inv X pz σ H s):Mod X.K X.mg X.base:=I.ok.mod
theorem Inv.kIn(I:Inv X pz σ H s):X.K.In s.heap:=I.ok.mod.kin.keeps I.bk
theorem Inv.lt(I:Inv X pz σ H s):X.env.locals<s.heap.objs.size:=let ⟨_,hn,_⟩:=I.loc;hn.lt
theorem Inv.sz(I:Inv X pz σ H s):X.s₀.heap.objs.size<=s.heap.objs.size:=YC I.ok.above (ZL I.lt)
theorem Inv.nofs(I:Inv X pz σ H s){a:Addr}(h:s.heap.objs.size<=a):a∉X.fs:=fun hb=>by
 obtain⟨_,o,ho,_⟩:=I.ok.funs.mem hb;exact absurd (Yt (Yp ho) (YC I.sz h)) (Zd _)
theorem Inv.cne(I:Inv X pz σ H s):∀x c,X.env.cells.lookup x=some c->c≠X.env.locals:=fun x c e z=>by
 obtain⟨v,o,ho,hd⟩:=I.cell x c e;obtain⟨m,⟨o',es,ep,ho',hd',_⟩,_⟩:=I.loc;rw[z,ho']at ho;cases ho;rw[hd']at hd;cases hd
theorem Inv.funs(I:Inv X pz σ H s):s.heap.FunFrames X.base X.outer:=by
 have all:∀(l:List Env),(∀b∈frs l,b∈X.fs)->X.s₀.heap.FunFrames X.base l->s.heap.FunFrames X.base l:=by
  intro l;induction l with
  |nil=>intro _ _;trivial
  |cons env r ih=>
   intro hs hl;obtain⟨hk,⟨L,o,hf,hn,ho,hd⟩,hr⟩:=hl;have hL:L∈X.fs:=hs L (by unfold frs;rw[VB,hf];exact Ye);obtain⟨sl,e⟩:=I.base.slot L o ho (I.ok.frf L hL) hL fun z=>I.ok.exfs L z hL
   exact⟨hk,⟨L,_,hf,hn,e,hd⟩,ih (fun b hb=>hs b (by unfold frs;rw[VB,hf];exact Yc _ hb)) hr⟩
 exact all X.outer (fun _ hb=>hb) I.ok.funs
theorem Inv.stack(I:Inv X pz σ H s):s.heap.FunFrames X.base X.stack:=by
 rcases I.ok.stk with e|⟨e,hf⟩
 ·rw[e];exact I.funs
 ·rw[e];obtain⟨m,hn,_⟩:=I.loc;refine .cons (by rw[I.ok.kind];decide) hf hn ?_ I.funs;exact Heap.get?_none_of_le (YC I.ok.bsz I.ok.above)
theorem Inv.stkSub(I:Inv X pz σ H s):∀b∈frs X.stack,b∈X.env.locals::X.fs:=fun b hb=>by
 rcases I.ok.stk with e|⟨e,hf⟩
 ·rw[e]at hb;exact Yc _ hb
 ·rw[e]at hb;unfold frs at hb;rw[VB,hf]at hb;exact hb
theorem Inv.stkFree(I:Inv X pz σ H s):∀b∈frs X.stack,H b=none:=fun b hb=>by
 rcases Yr.mp (I.stkSub b hb)with e|hb
 ·rw[e];exact I.free
 ·obtain⟨_,o,ho,_⟩:=I.ok.funs.mem hb;exact I.base.free b o ho (I.ok.frf b hb) fun z=>I.ok.exfs b z hb
theorem Inv.step{g':Array GenState}{t':Nat}{d':Drawn}{ch:List Addr}(I:Inv X pz σ H s)
  (hch:∀b∈ch,(b∈X.ex\/X.s₀.heap.objs.size<=b)/\b≠X.env.locals/\(∀x c,X.env.cells.lookup x=some c->c≠b)/\∀p∈X.pn++pz,p.1≠b)
  (keep:∀b o,b≠X.env.locals->b∉X.fs->b∉ch->s.heap.get? b=some o->H b=none->h'.get? b=some o)
  (slot:∀b o,b≠X.env.locals->b∈X.fs->b∉ch->s.heap.get? b=some o->H b=none->∃sl,h'.get? b=some {o with slots:=sl}) (free:∀b o,b∉ch->s.heap.get? b=some o->H b=none->H' b=none)
  (there:∀b o,b∉ch->s.heap.get? b=some o->∃o',h'.get? b=some o')
  (tups:∀b xs,H b=some (.tup xs)->H' b=some (.tup xs)) (frzs:∀b o u,H b=some (.frz o u)->H' b=some (.frz o u)) (tbls:∀b ps,H b=some (.tbl ps)->∃more,H' b=some (.tbl (ps++more)))
  (ns:∀m,s.heap.Ns X.env.locals m->h'.Ns X.env.locals m) (hok:HOk X.prog X.w H' h') (hg:AllBare g') :
  Inv X pz σ H' {s with heap:=h',gens:=g',drawn:=d',toks:=t' }:=by
 have neL:∀b o,X.s₀.heap.get? b=some o->b≠X.env.locals:=fun b o e=>YA (Yt (Yp e) I.ok.above)
 have neC:∀b o,X.s₀.heap.get? b=some o->b∉X.ex->b∉ch:=fun b o e hx hb=>by
  rcases(hch b hb).1 with z|z
  ·exact hx z
  ·exact absurd (Yt (Yp e) z) (Zd _)
 have cellK:∀x c,X.env.cells.lookup x=some c->∀v,s.heap.IsCell c v->h'.IsCell c v:=fun x c e v hh_=>by
  obtain⟨o,ho,hd⟩:=hh_;have nch:c∉ch:=fun z=>(hch c z).2.2.1 x c e rfl
  by_cases hc:c∈X.fs
  ·obtain⟨sl,q⟩:=slot c o (I.cne x c e) hc nch ho (I.freeC x c e);exact⟨_,q,hd⟩
  ·exact⟨o,keep c o (I.cne x c e) hc nch ho (I.freeC x c e),hd⟩
 refine⟨I.ok,I.os,hg,⟨fun b o e n hb hx=>?_,fun b o e n hb hx=>?_,fun b o e n hx=>?_,fun b o e hx=>?_,fun b xs e=>tups b xs (I.base.tups b xs e),fun b o xs e=>frzs b o xs (I.base.frzs b o xs e),fun b ps e=>?_⟩,?_,fun x c e=>?_,?_,fun x c e=>?_,fun p hp=>?_,hok,I.len⟩
 ·exact keep b o (neL b o e) hb (neC b o e hx) (I.base.keep b o e n hb hx) (I.base.free b o e n hx)
 ·obtain⟨sl,e1⟩:=I.base.slot b o e n hb hx;obtain⟨sl',e2⟩:=slot b _ (neL b o e) hb (neC b o e hx) e1 (I.base.free b o e n hx);exact⟨sl',e2⟩
 ·obtain⟨o',e1⟩:=I.base.there b o e hx;exact free b o' (neC b o e hx) e1 (I.base.free b o e n hx)
 ·obtain⟨o',e1⟩:=I.base.there b o e hx;exact there b o' (neC b o e hx) e1
 ·obtain⟨m1,e1⟩:=I.base.tbls b ps e;obtain⟨m2,e2⟩:=tbls b _ e1;exact⟨m1++m2,by rw[e2,Array.append_assoc]⟩
 ·obtain⟨m,hn,hl⟩:=I.loc;refine⟨m,ns m hn,fun i x v e1 e2 e3=>?_⟩;obtain⟨u,r,l⟩:=hl i x v e1 e2 e3;refine⟨u,r,?_⟩;rcases l with l|⟨k,c,e,z⟩
  ·exact .inl l
  ·exact .inr ⟨k,c,e,cellK x c e _ z⟩
 ·obtain⟨v,z⟩:=I.cell x c e;exact⟨v,cellK x c e v z⟩
 ·obtain⟨m,⟨o,_,_,ho,_⟩,_⟩:=I.loc;exact free _ o (fun z=>(hch _ z).2.1 rfl) ho I.free
 ·obtain⟨v,o,ho,hd⟩:=I.cell x c e;exact free c o (fun z=>(hch c z).2.2.1 x c e rfl) ho (I.freeC x c e)
 ·obtain⟨e,n,ne,nf,d⟩:=I.pin p hp;have nch:p.1∉ch:=fun z=>(hch p.1 z).2.2.2 p hp rfl
  exact⟨keep p.1 p.2 ne nf nch e n,free p.1 p.2 nch e n,ne,nf,d⟩
theorem Inv.un{t':Nat}(I:Inv X pz σ H s)(u:Un X.fs [] H H' s.heap h')(hok:HOk X.prog X.w H' h'):Inv X pz σ H' {s with heap:=h',toks:=t' }:=by
 obtain⟨m,⟨o,es,ep,ho,r⟩,_⟩:=id I.loc;obtain⟨sl,hL⟩:=u.any ho I.free (by simp);exact I.step (g':=s.gens) (d':=s.drawn) (ch:=[]) (fun _ z=>nomatch z) (fun b o _ hb _ e n=>u.keep b o e n hb (by simp)) (fun b o _ hb _ e n=>u.slot b o e n hb (by simp)) (fun b o _ e n=>u.free b o e n (by simp)) (fun b o _ e=>u.there b o e (by simp)) u.tups u.frzs u.tbls (fun m' hm=>by
  obtain⟨o',es',ep',ho',r'⟩:=hm;rw[ho]at ho';cases ho';exact⟨_,es',ep',hL,r'⟩) hok I.bare
theorem Inv.call{g':Array GenState}{t':Nat}{d':Drawn}{ch:List Addr}(I:Inv X pz σ H s)(u:Un (frs X.stack) ch H H' s.heap h')(hok:HOk X.prog X.w H' h')(hg:AllBare g')
  (hch:∀b∈ch,(b∈X.ex\/X.s₀.heap.objs.size<=b)/\b≠X.env.locals/\(∀x c,X.env.cells.lookup x=some c->c≠b)/\∀p∈X.pn++pz,p.1≠b) :
  Inv X pz σ H' {s with heap:=h',gens:=g',drawn:=d',toks:=t' }:=by
 obtain⟨m,⟨o,es,ep,ho,r⟩,_⟩:=id I.loc;obtain⟨sl,hL⟩:=u.any ho I.free fun z=>(hch _ z).2.1 rfl
 exact I.step (ch:=ch) hch (fun b o hL hb hc e n=>u.keep b o e n (fun z=>(Yr.mp (I.stkSub b z)).elim hL hb) hc) (fun b o _ _ hc e n=>u.any e n hc) (fun b o hc e n=>u.free b o e n hc) (fun b o hc e=>u.there b o e hc) u.tups u.frzs u.tbls (fun m' hm=>by
  obtain⟨o',es',ep',ho',r'⟩:=hm;rw[ho]at ho';cases ho';exact⟨_,es',ep',hL,r'⟩) hok hg
theorem Inv.turned{t':Nat}{it:Addr}(I:Inv X pz σ H s)(k:∀b o,b≠it->s.heap.get? b=some o->h'.get? b=some o)(hn:H it=none)(hL:it≠X.env.locals)
  (h1:it∈X.ex\/X.s₀.heap.objs.size<=it) (h2:∀x c,X.env.cells.lookup x=some c->c≠it) (h3:∀p∈X.pn++pz,p.1≠it):Inv X pz σ H {s with heap:=h',toks:=t' }:=by
 have nit:∀b u,H b=some u->b≠it:=fun b u e z=>by rw[z,hn]at e;cases e
 refine I.step (g':=s.gens) (d':=s.drawn) (ch:=[it]) (fun b hb=>?_) (fun b o _ _ hc e _=>k b o (fun z=>hc (by simp[z])) e) (fun b o _ _ hc e _=>⟨o.slots,k b o (fun z=>hc (by simp[z])) e⟩) (fun _ _ _ _ n=>n)
  (fun b o hc e=>⟨o,k b o (fun z=>hc (by simp[z])) e⟩) (fun _ _ e=>e) (fun _ _ _ e=>e) (fun b ps e=>⟨#[],by rw[e];simp⟩) (fun m hm=>?_) (fun b u e=>?_) I.bare
 ·have e:b=it:=by simpa using hb
  subst e;exact⟨h1,hL,h2,h3⟩
 ·obtain⟨o,es,ep,ho,r⟩:=hm;exact⟨o,es,ep,k _ o (XM hL) ho,r⟩
 ·refine(I.hok b u e).stay (fun c v hc q=>k c v ?_ q) (fun _ q=>q) fun _ _ q=>q;rcases hc with z|z
  ·rw[z];exact nit b u e
  ·exact nit c _ z
theorem Inv.tok(I:Inv X pz σ H s)(t:Nat):Inv X pz σ H {s with toks:=t}:=I.un (h':=s.heap) (t':=t) Un.refl I.hok
theorem Inv.kept{t':Nat}(I:Inv X pz σ H s)(k:∀b u,s.heap.get? b=some u->h'.get? b=some u):Inv X pz σ H {s with heap:=h',toks:=t' }:=I.un (Un.kept k) (I.hok.kept k)
theorem Inv.laid{a:Addr}{o:HO}{t':Nat}(I:Inv X pz σ H s)(k:∀b u,s.heap.get? b=some u->h'.get? b=some u)(hp:s.heap.objs.size<=a)(new:ObjOk X.prog X.w (upd H a o) h' a o) :
  Inv X pz σ (upd H a o) {s with heap:=h',toks:=t' }:=I.un (Un.laid k hp (I.hok.fresh hp)) (I.hok.laid k hp new)
theorem Inv.write{x e:Addr}{o:HO}{t':Nat}(I:Inv X pz σ H s)(mu:Mut (H x))(he:e=x\/H e=some (.own x))(k:∀b u,b≠e->s.heap.get? b=some u->h'.get? b=some u)(heo:∃u,h'.get? e=some u)
  (new:ObjOk X.prog X.w (upd H x o) h' x o):Inv X pz σ (upd H x o) {s with heap:=h',toks:=t' }:=I.un (Un.write mu he k heo) (I.hok.write mu he k heo new)
theorem Inv.weak{σ':List (Option V)}(I:Inv X pz σ H s)(hl:σ'.length=σ.length)(w:∀(i:Nat) v,σ'[i]?=some (some v)->σ[i]?=some (some v)):Inv X pz σ' H s:=
 ⟨I.ok,I.os,I.bare,I.base,let ⟨m,hn,hl'⟩:=I.loc;⟨m,hn,fun i x v e1 e2 e3=>hl' i x v e1 (w i v e2) e3⟩,I.cell,I.free,I.freeC,I.pin,I.hok,hl.trans I.len⟩
theorem Inv.pins_of{pz':Kp}(I:Inv X pz σ H s)(h:∀p∈pz',s.heap.get? p.1=some p.2/\H p.1=none/\p.1≠X.env.locals/\p.1∉X.fs/\∀v,p.2.data≠.cell v):Inv X pz' σ H s:=
 ⟨I.ok,I.os,I.bare,I.base,I.loc,I.cell,I.free,I.freeC,fun p hp=>(ZC.mp hp).elim (fun z=>I.pin p (Vt _ z)) (h p),I.hok,I.len⟩
theorem pJ{N:List Str}(hN:N.Nodup){i j:Nat}{x:Str}(a:N[i]?=some x)(b:N[j]?=some x):i=j:=by obtain⟨h1,e1⟩:=Yn.mp a;obtain⟨h2,e2⟩:=Yn.mp b;exact(List.getElem_inj hN).mp (e1.trans e2.symm)
theorem la{M:Model}{A:Around}{E:Kv}{i:Nat}{x:Str}{v:V}{u:Value}{Q:Unit->Shared->Prop}(I:Inv X pz σ H s)(hN:X.N.Nodup)(hi:X.N[i]?=some x)(hx:Loc X.env.scope x)(r:RelV v u)
  (h:∀s',Inv X pz (σ.set i (some v)) H s'->(∃a,Heap.SameBut a s.heap s'.heap/\(a=X.env.locals\/X.env.cells.lookup x=some a))->Q () s') (hf:X.fn x=true\/X.env.scope.names.lookup x=some .local:=by first|exact .inl rfl|exact .inr rfl|assumption):wpAny M A (storeName X.env x u) Q E s:=by
 obtain⟨m,hn,hl⟩:=id I.loc;have hcls:(X.env.scope.kind == .class||(X.env.scope.kind == .module&&X.env.locals != X.env.globals))=false:=by rw[I.ok.kind];rfl
 have hiσ:i<σ.length:=by rw[I.len];exact(Yn.mp hi).1
 have cne:=I.cne;have tracked:∀{a:Addr}{h':Heap},(∃o,s.heap.get? a=some o/\H a=none)->Heap.SameBut a s.heap h'->HOk X.prog X.w H h':=fun{a h'} ha hs b ob e=>by
  obtain⟨_,_,hfree⟩:=ha;refine(I.hok b ob e).stay (fun c w' hc q=>(hs.2 c ?_).trans q) (fun _ q=>q) fun _ _ q=>q;rintro rfl;rcases hc with rfl|hc
  ·rw[hfree]at e;cases e
  ·rw[hfree]at hc;cases hc
 rcases hx with hk|hk
 ·refine wpAny_storeName_local hk hn (fun h' hn' hs=>?_) hcls;obtain⟨oL,_,_,hoL,_⟩:=id hn;refine h _ ⟨I.ok,I.os,I.bare,⟨fun b o e n hb hx=>?_,fun b o e n hb hx=>?_,I.base.free,fun b o e hx=>?_,I.base.tups,I.base.frzs,I.base.tbls⟩,⟨_,hn',fun j y v' e1 e2 e3=>?_⟩,fun y c e=>?_,I.free,I.freeC,fun p hp=>?_,tracked ⟨oL,hoL,I.free⟩ hs,by simpa using I.len⟩ ⟨_,hs,.inl rfl⟩
  ·exact(hs.2 b (YA (Yt (Yp e) I.ok.above))).trans (I.base.keep b o e n hb hx)
  ·obtain⟨sl,e1⟩:=I.base.slot b o e n hb hx;exact⟨sl,(hs.2 b (YA (Yt (Yp e) I.ok.above))).trans e1⟩
  ·obtain⟨o',e1⟩:=I.base.there b o e hx;exact⟨o',(hs.2 b (YA (Yt (Yp e) I.ok.above))).trans e1⟩
  ·by_cases hj:j=i
   ·subst hj;rw[hi]at e1;cases e1;rw[Zt hiσ]at e2;cases e2;exact⟨u,r,.inl ⟨hk,by simp⟩⟩
   ·rw[Zl (XM hj)]at e2;obtain⟨u',r',q⟩:=hl j y v' e1 e2 e3;refine⟨u',r',?_⟩;rcases q with⟨k,e⟩|⟨k,c,e,z⟩
    ·refine .inl ⟨k,?_⟩;have:y≠x:=fun e=>hj (pJ hN e1 (e ▸ hi))
     simp[this,e]
    ·exact .inr ⟨k,c,e,z.sameBut hs (cne y c e)⟩
  ·obtain⟨w',z⟩:=I.cell y c e;exact⟨w',z.sameBut hs (cne y c e)⟩
  ·obtain⟨e,n,ne,nf,d⟩:=I.pin p hp;exact⟨(hs.2 p.1 ne).trans e,n,ne,nf,d⟩
 ·have hfn:X.fn x=true:=by
   rcases hf with z|z
   ·exact z
   ·rw[z]at hk;cases hk
  obtain⟨c,hc⟩:=I.ok.has x (.inl hk);obtain⟨w',z⟩:=I.cell x c hc;refine wpAny_storeName_cell I.ok.kind hk hc z (fun h' hc' hs=>?_);obtain⟨oc,hoc,hocd⟩:=id z;refine h {s with heap:=h' } ⟨I.ok,I.os,I.bare,⟨fun b o e n hb hx=>?_,fun b o e n hb hx=>?_,I.base.free,fun b o e hx=>?_,I.base.tups,I.base.frzs,I.base.tbls⟩,⟨m,hn.sameBut hs (XM (cne x c hc)),fun j y v' e1 e2 e3=>?_⟩,fun y c' e=>?_,I.free,I.freeC,fun p hp=>?_,tracked ⟨oc,hoc,I.freeC x c hc⟩ hs,by simpa using I.len⟩ ⟨c,hs,.inr hc⟩
  ·exact(hs.2 b (YA (Yt (Yp e) (I.ok.cab x c hfn hc)))).trans (I.base.keep b o e n hb hx)
  ·obtain⟨sl,e1⟩:=I.base.slot b o e n hb hx;exact⟨sl,(hs.2 b (YA (Yt (Yp e) (I.ok.cab x c hfn hc)))).trans e1⟩
  ·obtain⟨o',e1⟩:=I.base.there b o e hx;exact⟨o',(hs.2 b (YA (Yt (Yp e) (I.ok.cab x c hfn hc)))).trans e1⟩
  ·by_cases hj:j=i
   ·subst hj;rw[hi]at e1;cases e1;rw[Zt hiσ]at e2;cases e2;exact⟨u,r,.inr ⟨.inl hk,c,hc,hc'⟩⟩
   ·rw[Zl (XM hj)]at e2;obtain⟨u',r',q⟩:=hl j y v' e1 e2 e3;refine⟨u',r',?_⟩;rcases q with q|⟨k,c',e,z'⟩
    ·exact .inl q
    ·refine .inr ⟨k,c',e,z'.sameBut hs ?_⟩;rintro rfl;exact hj (pJ hN e1 (I.ok.inj _ _ _ e hc ▸ hi))
  ·by_cases hcc:c'=c
   ·subst hcc;exact⟨_,hc'⟩
   ·obtain⟨w2,z2⟩:=I.cell y c' e;exact⟨w2,z2.sameBut hs hcc⟩
  ·obtain⟨e,n,ne,nf,d⟩:=I.pin p hp;refine⟨(hs.2 p.1 ?_).trans e,n,ne,nf,d⟩;intro q;rw[q,hoc]at e;have q':oc=p.2:=Yy e;exact d w' (by rw[<-q'];exact hocd)
theorem oY{M:Model}{A:Around}{E:Kv}{i:Nat}{x:Str}{v:V}{u:Value}{Q:Unit->Shared->Prop}(I:Inv X pz σ H s)(hN:X.N.Nodup)(hi:X.N[i]?=some x)(hx:Loc X.env.scope x)(r:RelV v u)
  (h:∀s',Inv X pz (σ.set i (some v)) H s'->Q () s') (hf:X.fn x=true\/X.env.scope.names.lookup x=some .local:=by first|exact .inl rfl|exact .inr rfl|assumption):wpAny M A (storeName X.env x u) Q E s:=
 la I hN hi hx r (fun s' I' _=>h s' I') hf
theorem Inv.call'{s':Shared}{ch:List Addr}(I:Inv X pz σ H s)(ho:s'.os=s.os)(u:Un (frs X.stack) ch H H' s.heap s'.heap)(hok:HOk X.prog X.w H' s'.heap)(hg:AllBare s'.gens)
  (hch:∀b∈ch,(b∈X.ex\/X.s₀.heap.objs.size<=b)/\b≠X.env.locals/\(∀x c,X.env.cells.lookup x=some c->c≠b)/\∀p∈X.pn++pz,p.1≠b):Inv X pz σ H' s':=by
 obtain⟨h',g',d',t',o'⟩:=s';have e:o'=s.os:=ho;subst e;exact I.call (g':=g') (t':=t') (d':=d') u hok hg hch
end
abbrev XK:=Value->Option Addr->Hp->Prop
abbrev St:=List (Option V)
abbrev VK:=V->Hp->Prop
abbrev TE:=St->Hp->VK->Prop
abbrev TT:=St->Hp->(Bool->Hp->Prop)->Prop
abbrev TA:=St->Hp->(List V->Hp->Prop)->Prop
structure h_ where
 nx:St->Hp->Prop
 rt:VK
 bk:St->Hp->Prop:=fun _ _=>False
 ct:St->Hp->Prop:=fun _ _=>False
abbrev TS:=h_->St->Hp->Prop
def EP(X:Cx)(pz:Kp)(σ:St)(Q:VK)(u:Value)(s':Shared):Prop:=∃v H',Inv X pz σ H' s'/\RelV v u/\Q v H'
def TP(X:Cx)(pz:Kp)(σ:St)(Q:Bool->Hp->Prop)(b:Bool)(s':Shared):Prop:=∃H',Inv X pz σ H' s'/\Q b H'
def AP(X:Cx)(pz:Kp)(σ:St)(Q:List V->Hp->Prop)(us:List Value)(s':Shared):Prop:=∃vs H',Inv X pz σ H' s'/\Vals vs us/\Q vs H'
def SP(X:Cx)(pz:Kp)(D:h_)(f:Flow)(s':Shared):Prop:=
 match f with
 |.next=>∃σ' H',Inv X pz σ' H' s'/\D.nx σ' H'
 |.brk=>∃σ' H',Inv X pz σ' H' s'/\D.bk σ' H'
 |.cont=>∃σ' H',Inv X pz σ' H' s'/\D.ct σ' H'
 |.ret u=>∃v σ' H',Inv X pz σ' H' s'/\RelV v u/\D.rt v H'
def PE(X:Cx)(e:Expr)(t:TE):Prop:=
 ∀(pz:Kp) (s:Shared) (σ:St) (H:Hp) (Q:VK),Inv X pz σ H s->t σ H Q->wpAny (model X.prog X.w) X.A (eval e X.env) (EP X pz σ Q) X.xe s
def PT(X:Cx)(e:Expr)(t:TT):Prop:=
 ∀(pz:Kp) (s:Shared) (σ:St) (H:Hp) (Q:Bool->Hp->Prop),Inv X pz σ H s->t σ H Q->wpAny (model X.prog X.w) X.A (isTrue e X.env (eval e X.env)) (TP X pz σ Q) X.xe s
def PW(X:Cx)(e:Expr)(t:TT):Prop:=
 ∀(whole:Sem Value) (pz:Kp) (s:Shared) (σ:St) (H:Hp) (Q:Bool->Hp->Prop),Inv X pz σ H s->t σ H Q->wpAny (model X.prog X.w) X.A (isTrue e X.env whole) (TP X pz σ Q) X.xe s
theorem PW.pt{X:Cx}{e:Expr}{t:TT}(h:PW X e t):PT X e t:=h _
def PA(X:Cx)(es:List Expr)(t:TA):Prop:=
 ∀(pos:Pos) (pz:Kp) (s:Shared) (σ:St) (H:Hp) (Q:List V->Hp->Prop),Inv X pz σ H s->t σ H Q->wpAny (model X.prog X.w) X.A (spliced (backTo pos (starEach es X.env))) (AP X pz σ Q) X.xe s
def PS(X:Cx)(st:Stmt)(t:TS):Prop:=
 ∀(pz:Kp) (s:Shared) (σ:St) (H:Hp) (D:h_),Inv X pz σ H s->t D σ H->wpAny (model X.prog X.w) X.A (exec st X.env) (SP X pz D) X.xe s
def PSs(X:Cx)(st:List Stmt)(t:TS):Prop:=
 ∀(pz:Kp) (s:Shared) (σ:St) (H:Hp) (D:h_),Inv X pz σ H s->t D σ H->wpAny (model X.prog X.w) X.A (execs st X.env) (SP X pz D) X.xe s
theorem thn{α:Type}{t:Sem α}{Q Q':α->Shared->Prop}{M:Model}{A:Around}{E:Kv}{s:Shared}(h:wpAny M A t Q E s)(hQ:∀a s,Q a s->Q' a s):wpAny M A t Q' E s:=Xl h hQ fun _ _ x=>x
theorem bC{α β:Type}{X:Cx}{pz:Kp}{σ:St}{t:Sem β}{R:α->β->Prop}{Q:α->Hp->Prop}{T:β->Shared->Prop}{M:Model}{A:Around}{E:Kv}{s:Shared}
  (h:wpAny M A t (fun u s1=>∃x H1,Inv X pz σ H1 s1/\R x u/\Q x H1) E s) (k:∀u s1 x H1,Inv X pz σ H1 s1->R x u->Q x H1->T u s1):wpAny M A t T E s:=
 thn h fun u s1 z=>by obtain⟨x,H1,a,b,c⟩:=z;exact k u s1 x H1 a b c
theorem un7{β γ δ α:Type}{B A Z:β->γ->δ->α->Prop}{C:Prop}(k:∀P F ρ d,B P F ρ d->A P F ρ d->Z P F ρ d->C)(h:∃P F ρ d,B P F ρ d/\A P F ρ d/\Z P F ρ d):C:=by obtain⟨P,F,ρ,d,a,b,c⟩:=h;exact k P F ρ d a b c
section
variable{X:Cx}
def e9(i:Nat):TE:=fun σ H Q=>∃v,σ[i]?=some (some v)/\Q v H
def tC(v:V):TE:=fun _ H Q=>Q v H
theorem AH{i:Nat}{x:Str}{pos:Pos}(hN:X.N[i]?=some x)(hv:Vis X.env.scope x)(hd:(x == ("__debug__":Str))=false:=by decide)(hcd:(x == ("__classdict__":Str))=false:=by decide):PE X (.Name x pos) (e9 i):=by
 intro pz s σ H Q I h;obtain⟨v,e,h⟩:=h;obtain⟨m,hn,hl⟩:=I.loc;obtain⟨u,r,l⟩:=hl i x v hN e hv;have fin:EP X pz σ Q u s:=⟨v,H,I,r,h⟩
 rcases l with⟨hk,hm⟩|⟨hk,c,hc,hcell⟩
 ·exact wpAny_Name (wpAny_loadName_local I.ok.kind hk hn hm fin) hd
 ·rcases hk with hk|hk
  ·exact wpAny_Name (wpAny_loadName_cell I.ok.kind hk hc hcell fin) hd
  ·exact wpAny_Name (wpAny_loadName_free I.ok.kind hk hc hcell fin hcd) hd
theorem An{i j pos}:PE X (.Constant (.int i) j pos) (tC (.int i)):=fun _ _ _ H _ I h=>wpAny_Constant_int ⟨.int i,H,I.tok _,⟨_,rfl⟩,h⟩
theorem DB{b j pos}:PE X (.Constant (.bool b) j pos) (tC (.bl b)):=fun _ _ _ H _ I h=>Constant_bool ⟨.bl b,H,I,rfl,h⟩
theorem B3{x j pos}:PE X (.Constant (.str x) j pos) (tC (.str x)):=fun _ _ _ H _ I h=>Calls.Constant_str ⟨.str x,H,I.tok _,⟨_,rfl⟩,h⟩
def Gl(X:Cx)(x:Str):Prop:=X.env.kindOf x=some .globalImplicit
theorem l9{E:Kv}{pz:Kp}{s:Shared}{σ:St}{H:Hp}{x:Str}{u:Value}{pos:Pos}{Q:Kv}(I:Inv X pz σ H s)(hg:Gl X x)(hm:X.mg x=some u)(h:Q u s)
  (hd:(x == ("__debug__":Str))=false:=by decide):wpAny (model X.prog X.w) X.A (eval (.Name x pos) X.env) Q E s:=
 Calls.Name_function_global I.ok.kind hg (Calls.loadGlobal_global (by rw[I.ok.glob];exact I.mod.glob.keeps I.bk) hm h) hd
theorem fT{E:Kv}{pz:Kp}{s:Shared}{σ:St}{H:Hp}{x:Str}{u:Value}{pos:Pos}{Q:Kv}(I:Inv X pz σ H s)(hg:Gl X x)(hm:X.mg x=none)(hv:bootBuiltins x=some u)(h:Q u s)
  (hn:x ≠ "__name__":=by decide) (hd:(x == ("__debug__":Str))=false:=by decide):wpAny (model X.prog X.w) X.A (eval (.Name x pos) X.env) Q E s:=by
 obtain⟨mb,h1,h2⟩:=I.mod.blt;exact Calls.Name_function_global I.ok.kind hg (Calls.loadGlobal_builtin (by rw[I.ok.glob];exact I.mod.glob.keeps I.bk) hm (by rw[I.ok.blt];exact h1.keeps I.bk) ((h2 x hn).trans hv) h) hd
theorem y9{x:Str}{v:V}{u:Value}{pos:Pos}(hg:Gl X x)(hm:X.mg x=some u)(r:RelV v u)(hd:(x == ("__debug__":Str))=false:=by decide):PE X (.Name x pos) (tC v):=
 fun _ _ _ H _ I h=>l9 I hg hm ⟨v,H,I,r,h⟩ hd
theorem yw{x:Str}{v:V}{u:Value}{pos:Pos}(hg:Gl X x)(hm:X.mg x=none)(hv:bootBuiltins x=some u)(r:RelV v u)(hn:x ≠ "__name__":=by decide)(hd:(x == ("__debug__":Str))=false:=by decide):PE X (.Name x pos) (tC v):=
 fun _ _ _ H _ I h=>fT I hg hm hv ⟨v,H,I,r,h⟩ hn hd
variable{a b:Expr}{ta tb:TE}{pos:Pos}
def tB(t:TE):TT:=fun σ H Q=>t σ H fun x H1=>∃c,x=.bl c/\Q c H1
theorem Bo{e:Expr}{t:TE}(h:PE X e t)(he:∀whole,isTrue e X.env whole=(do let v <-whole;standAt e.pos;holding [v] (truthy v)):=by intro _;rfl):PT X e (tB t):=by intro pz s σ H Q I hw;refine isTrue_plain (bC (h pz s σ H _ I hw) fun v s1 x H1 I1 r1 q1=>?_) (he _);obtain⟨d,rfl,q⟩:=q1;cases r1;exact Zz ⟨H1,I1,q⟩
variable{tA tB':TT}{bH:List Expr}
def E9(t u:TT):TT:=fun σ H Q=>t σ H fun c H1=>if c=true then u σ H1 Q else Q false H1
def tOr(t u:TT):TT:=fun σ H Q=>t σ H fun c H1=>if c=true then Q true H1 else u σ H1 Q
def EH(t:TT):TT:=fun σ H Q=>t σ H fun c H1=>Q (!c) H1
theorem xJ(ha:PT X a tA):PW X (.BoolOp .And [a] pos) tA:=by
 intro wh pz s σ H Q I h;refine isTrue_and (thn (ha pz s σ H Q I h) fun c s1 e=>?_);cases c with
 |true=>exact isTrue_and_nil e
 |false=>exact e
theorem BD(ha:PT X a tA):PW X (.BoolOp .Or [a] pos) tA:=by
 intro wh pz s σ H Q I h;refine isTrue_or (thn (ha pz s σ H Q I h) fun c s1 e=>?_);cases c with
 |false=>exact isTrue_or_nil e
 |true=>exact e
theorem Ar(ha:PT X a tA)(hb:PW X (.BoolOp .And (b::bH) pos) tB'):PW X (.BoolOp .And (a::b::bH) pos) (E9 tA tB'):=by
 intro wh pz s σ H Q I h;refine isTrue_and (thn (ha pz s σ H _ I h) fun c s1 hh_=>?_);obtain⟨H1,I1,q1⟩:=hh_;cases c with
 |true=>exact hb wh pz s1 σ H1 Q I1 q1
 |false=>exact⟨H1,I1,q1⟩
theorem Db(ha:PT X a tA)(hb:PW X (.BoolOp .Or (b::bH) pos) tB'):PW X (.BoolOp .Or (a::b::bH) pos) (tOr tA tB'):=by
 intro wh pz s σ H Q I h;refine isTrue_or (thn (ha pz s σ H _ I h) fun c s1 hh_=>?_);obtain⟨H1,I1,q1⟩:=hh_;cases c with
 |true=>exact⟨H1,I1,q1⟩
 |false=>exact hb wh pz s1 σ H1 Q I1 q1
theorem Al(ha:PT X a tA):PT X (.UnaryOp .Not a pos) (EH tA):=by intro pz s σ H Q I h;exact isTrue_not (ha pz s σ H (fun c H1=>Q (!c) H1) I h)
def CM(ta tb:TE):TE:=fun σ H Q=>ta σ H fun x H1=>∃c,x=.bl c/\if c=true then tb σ H1 Q else Q (.bl false) H1
def CF(ta:TE):TE:=fun σ H Q=>ta σ H fun x H1=>∃c,x=.bl c/\Q (.bl (!c)) H1
theorem BK{op}{t:TE}(h:PE X a t):PE X (.BoolOp op [a] pos) t:=fun pz s σ H Q I hw=>BoolOp_one (h pz s σ H Q I hw)
theorem Bj(ha:PE X a ta)(hb:PE X (.BoolOp .And (b::bH) pos) tb):PE X (.BoolOp .And (a::b::bH) pos) (CM ta tb):=by
 intro pz s σ H Q I h;refine BoolOp_and (bC (ha pz s σ H _ I h) fun v s1 x H1 I1 r1 q1=>?_);obtain⟨c,rfl,q1⟩:=q1;cases r1;refine Zz ?_;cases c with
 |true=>exact hb pz s1 σ H1 Q I1 q1
 |false=>exact⟨.bl false,H1,I1,rfl,q1⟩
theorem Bm(ha:PE X a ta):PE X (.UnaryOp .Not a pos) (CF ta):=by intro pz s σ H Q I h;refine UnaryOp_ (bC (ha pz s σ H _ I h) fun v s1 x H1 I1 r1 q1=>?_);obtain⟨c,rfl,q1⟩:=q1;cases r1;exact not_of (Zz ⟨.bl (!c),H1,I1,rfl,q1⟩)
def tIf(t:TT)(ta tb:TE):TE:=fun σ H Q=>t σ H fun c H1=>if c=true then ta σ H1 Q else tb σ H1 Q
theorem u9{c:Expr}(hc:PT X c tA)(ha:PE X a ta)(hb:PE X b tb):PE X (.IfExp c a b pos) (tIf tA ta tb):=by
 intro pz s σ H Q I h;refine wpAny_IfExp (thn (hc pz s σ H _ I h) fun d s1 hh_=>?_);obtain⟨H1,I1,q1⟩:=hh_;cases d with
 |true=>exact ha pz s1 σ H1 Q I1 q1
 |false=>exact hb pz s1 σ H1 Q I1 q1
end
def SqL(K:Kq)(H:Hp)(a:Addr)(xs:List V):Prop:=
 Rd H a (.lst xs) \/
  ∃(o:Obj) (its:Array Value) (n:Nat),K.lookup a=some o/\o.cls=.type "list"/\o.dict=none/\o.data=.seq its n/\its.size<=sizeLine/\Vals xs its.toList
def SqT(K:Kq)(H:Hp)(a:Addr)(xs:List V):Prop:=
 Rd H a (.tup xs) \/
  ∃(o:Obj) (its:Array Value) (n:Nat),K.lookup a=some o/\o.cls=.type "tuple"/\o.data=.seq its n/\its.size<=sizeLine/\Vals xs its.toList
def EU:Value->Option V
 |.none=>some .non
 |.bool b=>some (.bl b)
 |.int i _=>some (.int i)
 |.str x _=>some (.str x)
 |.bytes b _=>some (.byt b)
 |.float b _=>some (.flt b)
 |.ref a=>some (.ref a)
 |.type n=>some (.ty n)
 |_=>none
theorem RelV.abs{x:V}{u:Value}(r:RelV x u):EU u=some x:=by
 cases x with
 |non=>cases r;rfl
 |bl _=>cases r;rfl
 |int _=>obtain⟨t,rfl⟩:=r;rfl
 |str _=>obtain⟨t,rfl⟩:=r;rfl
 |byt _=>obtain⟨t,rfl⟩:=r;rfl
 |flt _=>obtain⟨t,rfl⟩:=r;rfl
 |ref _=>cases r;rfl
 |ty _=>cases r;rfl
theorem RelV.inj{x y:V}{u:Value}(r:RelV x u)(q:RelV y u):x=y:=Yy (r.abs.symm.trans q.abs)
theorem Vals.inj{xs ys:List V}{us:List Value}(h:Vals xs us):Vals ys us->xs=ys:=by
 induction h generalizing ys with
 |nil=>intro q;cases q;rfl
 |cons r _ ih=>
  intro q;cases q with
  |cons r' t'=>rw[r.inj r',ih t']
section
variable{X:Cx}{pz:Kp}{σ:St}{H:Hp}{s:Shared}{a:Addr}{xs ys:List V}
theorem SqL.of{K:Kq}(h:H a=some (.lst xs)):SqL K H a xs:=.inl (.inl h)
theorem SqT.of{K:Kq}(h:H a=some (.tup xs)):SqT K H a xs:=.inl (.inl h)
theorem Inv.list(I:Inv X pz σ H s)(h:SqL X.K H a xs):∃its:List Value,Vals xs its/\PlainL s.heap a its.toArray/\xs.length<=sizeLine:=by
 rcases h with h|⟨o,its,n,hk,hc,hd,hs,hz,r⟩
 ·obtain⟨z,its,n,r,e⟩:=h.ok I.hok;exact⟨its,r,⟨_,n,e,rfl,rfl,rfl⟩,z⟩
 ·refine⟨its.toList,r,⟨o,n,I.kIn a o hk,hc,hd,by simpa using hs⟩,?_⟩;have e:=r.length;simp only[Yz]at e;omega
theorem Inv.tuple(I:Inv X pz σ H s)(h:SqT X.K H a xs):∃its:List Value,Vals xs its/\IsTup s.heap a its.toArray/\xs.length<=sizeLine:=by
 rcases h with h|⟨o,its,n,hk,hc,hs,hz,r⟩
 ·obtain⟨z,its,r,p,_⟩:=h.ok I.hok;exact⟨its,r,p,z⟩
 ·refine⟨its.toList,r,⟨o,I.kIn a o hk,hc,n,by simpa using hs⟩,?_⟩;have e:=r.length;simp only[Yz]at e;omega
theorem Inv.list_inj(I:Inv X pz σ H s)(h:SqL X.K H a xs)(h':SqL X.K H a ys):xs=ys:=by
 obtain⟨its,r,⟨o,n,e,_,_,d⟩,_⟩:=I.list h;obtain⟨its',r',⟨o',n',e',_,_,d'⟩,_⟩:=I.list h';rw[e]at e';cases e';rw[d]at d';injection d' with d1 _;have:its=its':=by simpa using Zs Array.toList d1
 subst this;exact r.inj r'
end
abbrev Cx.wish(X:Cx)(E:Kv):Cx:={X with xe:=E}
abbrev Cx.nox(X:Cx):Cx:=X.wish fun _ _=>False
theorem Cx.Ok.wish{X:Cx}(ok:X.Ok)(E:Kv):(X.wish E).Ok:=
 ⟨ok.mod,ok.kind,ok.glob,ok.blt,ok.above,ok.inj,ok.has,ok.cab,ok.hd,ok.frames,ok.stk,ok.exf,ok.bs,ok.bsz,ok.noex,ok.exfs,ok.funs,ok.frf⟩
theorem Cx.Ok.unwish{X:Cx}{E:Kv}(ok:(X.wish E).Ok):X.Ok:=
 ⟨ok.mod,ok.kind,ok.glob,ok.blt,ok.above,ok.inj,ok.has,ok.cab,ok.hd,ok.frames,ok.stk,ok.exf,ok.bs,ok.bsz,ok.noex,ok.exfs,ok.funs,ok.frf⟩
section
variable{X:Cx}{pz:Kp}{σ:St}{H:Hp}{s:Shared}{E:Kv}
theorem Inv.wish(I:Inv X pz σ H s)(E:Kv):Inv (X.wish E) pz σ H s:=⟨I.ok.wish E,I.os,I.bare,I.base,I.loc,I.cell,I.free,I.freeC,I.pin,I.hok,I.len⟩
theorem Inv.unwish(I:Inv (X.wish E) pz σ H s):Inv X pz σ H s:=⟨I.ok.unwish,I.os,I.bare,I.base,I.loc,I.cell,I.free,I.freeC,I.pin,I.hok,I.len⟩
theorem SP.unwish{D:h_}{f:Flow}{s':Shared}(h:SP (X.wish E) pz D f s'):SP X pz D f s':=by
 cases f with
 |next=>obtain⟨σ',H',I,q⟩:=h;exact⟨σ',H',I.unwish,q⟩
 |brk=>obtain⟨σ',H',I,q⟩:=h;exact⟨σ',H',I.unwish,q⟩
 |cont=>obtain⟨σ',H',I,q⟩:=h;exact⟨σ',H',I.unwish,q⟩
 |ret u=>obtain⟨v,σ',H',I,r,q⟩:=h;exact⟨v,σ',H',I.unwish,r,q⟩
theorem PSs.nox{st:List Stmt}{t:TS}(h:PSs X.nox st t):PSs X st t:=fun pz s σ H D I hw=>
 Xl (h pz s σ H D (I.wish _) hw) (fun _ _ q=>q.unwish) fun _ _ z=>False.elim z
end
section
variable{X:Cx}{st:Stmt}{bH:List Stmt}{t u:TS}{e:Expr}{te:TE}{pos:Pos}
def DE:TS:=fun D σ H=>D.nx σ H
def E6(t u:TS):TS:=fun D σ H=>t {D with nx:=u D} σ H
theorem zo:PSs X [] DE:=fun _ _ σ H _ I h=>VC ⟨σ,H,I,h⟩
theorem vp(h1:PS X st t)(h2:PSs X bH u):PSs X (st::bH) (E6 t u):=by
 intro pz s σ H D I h;refine wpAny_execs_cons (thn (h1 pz s σ H {D with nx:=u D} I h) fun f s1 q=>?_);cases f with
 |next=>
  obtain⟨σ',H',I',q⟩:=q;exact h2 pz s1 σ' H' D I' q
 |ret v=>exact q
 |brk=>exact q
 |cont=>exact q
theorem yP(h1:PS X st t):PSs X [st] t:=by
 intro pz s σ H D I h;refine wpAny_execs_cons (thn (h1 pz s σ H D I h) fun f s1 q=>?_);cases f with
 |next=>exact VC q
 |ret v=>exact q
 |brk=>exact q
 |cont=>exact q
theorem Inv.quiet{pz:Kp}{σ:St}{H:Hp}{s:Shared}(I:Inv X pz σ H s):interactive X.env=false:=by simp[interactive,I.ok.kind]
def Dn(te:TE):TS:=fun D σ H=>te σ H fun _ H1=>D.nx σ H1
theorem iU(he:PE X e te)(hs:swapsWith e none pos.line X.env=pure false:=by rfl):PS X (.Expr e pos) (Dn te):=by intro pz s σ H D I h;exact wpAny_Expr_any (bC (he pz s σ H _ I h) fun v s1 x H1 I1 r1 q1=>⟨σ,H1,I1,q1⟩) I.quiet hs
def EV(te:TE):TS:=fun D σ H=>te σ H D.rt
theorem qP(he:PE X e te):PS X (.Return (some e) pos) (EV te):=by intro pz s σ H D I h;exact wpAny_Return_some (bC (he pz s σ H _ I h) fun v s1 x H1 I1 r1 q1=>⟨x,σ,H1,I1,r1,q1⟩)
def Fc(c:TT)(t u:TS):TS:=fun D σ H=>c σ H fun b H1=>if b=true then t D σ H1 else u D σ H1
theorem CU{c:Expr}{a b:List Stmt}{tc:TT}(hc:PT X c tc)(ha:PSs X a t)(hb:PSs X b u):PS X (.If c a b pos) (Fc tc t u):=by
 intro pz s σ H D I h;refine wpAny_If (thn (hc pz s σ H _ I h) fun d s1 hh_=>?_);obtain⟨H1,I1,q1⟩:=hh_;cases d with
 |true=>exact ha pz s1 σ H1 D I1 q1
 |false=>exact hb pz s1 σ H1 D I1 q1
def AC:TS:=fun _ _ _=>False
theorem xw:PS X st AC:=fun _ _ _ _ _ _ h=>h.elim
end
abbrev TG:=V->St->Hp->(St->Hp->Prop)->Prop
abbrev TGs:=List V->St->Hp->(St->Hp->Prop)->Prop
def PG(X:Cx)(target:Expr)(t:TG):Prop:=
 ∀(pz:Kp) (s:Shared) (σ:St) (H:Hp) (v:V) (u:Value) (Q:St->Hp->Prop),Inv X pz σ H s->RelV v u->t v σ H Q->
  wpAny (model X.prog X.w) X.A (assign target X.env u) (fun _ s'=>∃σ' H',Inv X pz σ' H' s'/\Q σ' H') X.xe s
def PGs(X:Cx)(ts:List Expr)(t:TGs):Prop:=
 ∀(pz:Kp) (s:Shared) (σ:St) (H:Hp) (vs:List V) (us:List Value) (Q:St->Hp->Prop),Inv X pz σ H s->Vals vs us->t vs σ H Q->
  wpAny (model X.prog X.w) X.A (assignInOrder ((assignEach ts X.env).map (·.2)) us) (fun _ s'=>∃σ' H',Inv X pz σ' H' s'/\Q σ' H') X.xe s
section
variable{X:Cx}{pos:Pos}
def ke(i:Nat):TG:=fun v σ H Q=>Q (σ.set i (some v)) H
theorem cv{i:Nat}{x:Str}(hN:X.N.Nodup)(hi:X.N[i]?=some x)(hx:Loc X.env.scope x)(hf:X.fn x=true\/X.env.scope.names.lookup x=some .local:=by first|exact .inl rfl|exact .inr rfl|assumption):PG X (.Name x pos) (ke i):=by intro pz s σ H v u Q I r h;exact wpAny_assign_Name (oY I hN hi hx r (fun s' I'=>⟨_,H,I',h⟩) hf)
def D8:TGs:=fun vs σ H Q=>vs=[]/\Q σ H
def zG(t:TG)(u:TGs):TGs:=fun vs σ H Q=>∃v r,vs=v::r/\t v σ H fun σ' H'=>u r σ' H' Q
theorem gG:PGs X [] D8:=by intro pz s σ H vs us Q I r h;obtain⟨e,h⟩:=h;subst e;cases r;exact assignInOrder_nil ⟨σ,H,I,h⟩
theorem ca{e:Expr}{es:List Expr}{t:TG}{u:TGs}(h1:PG X e t)(h2:PGs X es u)
  (hs:(assignEach (e::es) X.env).map (·.2)=assign e X.env::(assignEach es X.env).map (·.2):=by rfl):PGs X (e::es) (zG t u):=by
 intro pz s σ H vs us Q I r h;obtain⟨v,vr,e1,h⟩:=h;subst e1;cases r with
 |cons r rr=>
  rw[hs];refine assignInOrder_cons (thn (h1 pz s σ H _ _ _ I r h) fun _ s1 hh_=>?_);obtain⟨σ1,H1,I1,q1⟩:=hh_;exact h2 pz s1 σ1 H1 _ _ Q I1 rr q1
def Ex(K:Kq)(n:Nat)(t:TGs):TG:=fun v σ H Q=>∃a xs,v=.ref a/\SqT K H a xs/\xs.length=n/\t xs σ H Q
theorem BZ{es:List Expr}{k:Nat}{t:TGs}{n:Nat}(hc:X.calm=true)(h:PGs X es t)
  (hn:(assignEach es X.env).length=n:=by rfl) (hst:(assignEach es X.env).findIdx? (·.1)=none:=by rfl):PG X (.Tuple es k pos) (Ex X.K n t):=by
 intro pz s σ H v u Q I r hw;obtain⟨a,xs,e1,hq,hl,hw⟩:=hw;subst e1;cases r;obtain⟨its,rv,ht,hz⟩:=I.tuple hq;refine assign_Tuple_tuple (I.ok.hd hc) ht (by simp[hn,<-hl,rv.length]) hst fun h' hx=>?_;have I1:Inv X pz σ H {s with heap:=h' }:=I.kept (t':=s.toks) fun b o e=>hx b o (YA (Yp e)) e
 exact h pz _ σ H xs _ Q I1 (by simpa using rv) hw
def xk(te:TE)(g:TG):TS:=fun D σ H=>te σ H fun x H1=>g x σ H1 D.nx
theorem Ce{tg e:Expr}{te:TE}{g:TG}(he:PE X e te)(hg:PG X tg g)(hs:swapsWithSole [tg] e pos.line X.env=pure false:=by rfl)(hw:swappedStores [tg] e X.env=pure none:=by rfl)
  (h1:(assignEach [tg] X.env).map (·.2)=[assign tg X.env]:=by rfl):PS X (.Assign [tg] e pos) (xk te g):=by
 intro pz s σ H D I h;refine wpAny_Assign_stores (bC (he pz s σ H _ I h) fun v s1 x H1 I1 r1 q1=>?_) hs hw;rw[h1];exact thn (hg pz s1 σ H1 x v _ I1 r1 q1) fun _ s2 q=>q
theorem vC{i:Nat}{x:Str}{e:Expr}{te:TE}{pos':Pos}(hN:X.N.Nodup)(hi:X.N[i]?=some x)(hx:Loc X.env.scope x)(he:PE X e te)(hs:swapsWith e (some (.Name x pos')) pos.line X.env=pure false:=by rfl)(hf:X.fn x=true\/X.env.scope.names.lookup x=some .local:=by first|exact .inl rfl|exact .inr rfl|assumption) :
  PS X (.Assign [.Name x pos'] e pos) (xk te (ke i)):=by
 intro pz s σ H D I h;refine wpAny_Assign_Name (bC (he pz s σ H _ I h) fun v s1 y H1 I1 r1 q1=>?_) hs;exact oY I1 hN hi hx r1 (fun s2 I2=>⟨_,H1,I2,q1⟩) hf
end
section
variable{X:Cx}{pos:Pos}
def Ap(c:TT)(tb:TS):TS:=fun D σ H=>∃W:Nat->St->Hp->Prop,(∃m,W m σ H)/\∀m σ H,W m σ H->
 c σ H fun b H1=>if b=true then ∃N:St->Hp->Prop,(∀σ' H',N σ' H'->∃m',m' < m/\W m' σ' H')/\tb {D with nx:=N,ct:=N,bk:=D.nx} σ H1 else D.nx σ H1
theorem wa{c:Expr}{body:List Stmt}{tc:TT}{tb:TS}(hp:PassesOwn (model X.prog X.w) X.A X.env X.xe)(hc:PT X c tc)(hb:PSs X body tb):PS X (.While c body [] pos) (Ap tc tb):=by
 intro pz s σ H D I h;obtain⟨W,⟨m0,w0⟩,turn⟩:=h;refine wpAny_While (codeAny_whileLoop (fun n s'=>∃σ' H',Inv X pz σ' H' s'/\W n σ' H') ?_ m0 ⟨σ,H,I,w0⟩);rintro n s1 ⟨σ1,H1,I1,w1⟩;refine Xm hp (thn (hc pz s1 σ1 H1 _ I1 (turn n σ1 H1 w1)) fun b s2 hh_=>?_);obtain⟨H2,I2,q2⟩:=hh_;cases b with
 |true=>
  obtain⟨N,hN,q2⟩:=q2;rw[if_pos rfl];refine Xm hp (thn (hb pz s2 σ1 H2 _ I2 q2) fun f s3 q3=>?_);cases f with
  |next=>
   obtain⟨σ3,H3,I3,n3⟩:=q3;obtain⟨m',hm,w3⟩:=hN σ3 H3 n3;exact⟨m',hm,σ3,H3,I3,w3⟩
  |cont=>
   obtain⟨σ3,H3,I3,n3⟩:=q3;obtain⟨m',hm,w3⟩:=hN σ3 H3 n3;exact⟨m',hm,σ3,H3,I3,w3⟩
  |brk=>exact q3
  |ret v=>exact q3
 |false=>
  rw[if_neg Yj];exact VC ⟨σ1,H2,I2,q2⟩
end
structure It where
 go:Nat->Hp->Prop
 yld:Nat->Hp->V->Hp->Prop
 stop:Nat->Hp->Prop
def fV(X:Cx)(pz:Kp)(H:Hp)(b:Addr):Prop:=
 H b=none/\b≠X.env.locals/\b∉X.fs/\(b∈X.ex\/X.s₀.heap.objs.size<=b)/\(∀x c,X.env.cells.lookup x=some c->c≠b)/\∀p∈X.pn++pz,p.1≠b
theorem Inv.fpOk{X:Cx}{pz:Kp}{σ:St}{H H':Hp}{s:Shared}{b:Addr}(I:Inv X pz σ H s)(hb:s.heap.objs.size<=b)(hn:H' b=none):fV X pz H' b:=by
 refine⟨hn,ZM (Yt I.lt hb),I.nofs hb,.inr (YC I.sz hb),fun x c e z=>?_,fun p hp z=>?_⟩
 ·obtain⟨v,q⟩:=I.cell x c e;exact absurd (Yt q.lt (by rw[z];exact hb)) (Zd _)
 ·exact absurd (Yt (Yp (I.pin p hp).1) (by rw[z];exact hb)) (Zd _)
structure Turn (P:Program) (w:World) (K:PySem.W.Frag) (tg:Expr) (J:It) (fp:List Addr) (it:Addr) (tn:Nat->Heap->Prop):Prop where
 mem:it∈fp
 obj:∀i h,tn i h->∀b∈fp,∃o,h.get? b=some o/\∀v,o.data≠.cell v
 keep:∀i h h',tn i h->(∀b∈fp,∀o,h.get? b=some o->h'.get? b=some o)->tn i h'
 item:∀(X:Cx),X.prog=P->X.w=w->X.K=K->X.calm=true->∀(i:Nat) (pz:Kp) (s:Shared) (σ:St) (H:Hp) (E:Kv),Inv X pz σ H s->(∀b∈fp,fV X pz H b)->tn i s.heap->J.go i H->
  wpAny (model P w) X.A (pyNext (.ref it)) (fun r s1=>∃u,r=some u /\
   wpAny (model P w) X.A (letOwnedTupleGo tg (.ref it) u) (fun _ s2=>∃x H',Inv X pz σ H' s2/\RelV x u/\J.yld i H x H'/\tn (i+1) s2.heap/\∀b∈fp,H' b=none) E s1) E s
 done:∀(X:Cx),X.prog=P->X.w=w->X.K=K->X.calm=true->∀(i:Nat) (pz:Kp) (s:Shared) (σ:St) (H:Hp) (E:Kv),Inv X pz σ H s->(∀b∈fp,fV X pz H b)->tn i s.heap->J.stop i H->
  wpAny (model P w) X.A (pyNext (.ref it)) (fun r s1=>r=none/\Inv X pz σ H s1) E s
 self:∀(A:Around) (i:Nat) (s:Shared) (Q:Kv) (E:Kv),tn i s.heap->Q (.ref it) s->wpAny (model P w) A (pyIter (.ref it)) Q E s
abbrev TI:=St->Hp->(It->Hp->Prop)->Prop
def PIE(X:Cx)(pz:Kp)(σ:St)(tg:Expr)(R:It->Hp->Prop)(itv:Value)(s2:Shared):Prop:=
 ∃(it:Addr) (fp:List Addr) (tn:Nat->Heap->Prop) (J:It) (H':Hp),itv=.ref it/\Inv X pz σ H' s2/\Turn X.prog X.w X.K tg J fp it tn/\tn 0 s2.heap/\(∀b∈fp,fV X pz H' b)/\R J H'
def PI(X:Cx)(tg iter:Expr)(wi:TI):Prop:=
 ∀(pz:Kp) (s:Shared) (σ:St) (H:Hp) (R:It->Hp->Prop),Inv X pz σ H s->wi σ H R->
  wpAny (model X.prog X.w) X.A (eval iter X.env) (fun v s1=>wpAny (model X.prog X.w) X.A (pyIter v) (PIE X pz σ tg R) X.xe s1) X.xe s
theorem sN{M:Model}{A:Around}{E:Kv}{s:Shared}{tg:Expr}{it:Addr}{u:Value}{o:Obj}{n:String}{vs:Array Value}{Q:Unit->Shared->Prop}(ho:s.heap.get? it=some o)(hc:o.cls=.type n)(hd:o.data=.fields vs)
  (hn:["enumerate","zip","dict_itemiterator","dict_reverseitemiterator","odict_iterator","itertools.zip_longest","itertools.pairwise"].contains n=false) (hQ:Q () s):wpAny M A (letOwnedTupleGo tg (.ref it) u) Q E s:=by
 unfold letOwnedTupleGo;cases tg<;>first
  |exact Yg hQ
  |(cases u<;>first
    |exact Yg hQ
    |(
     refine Ya (wpAny_load ho ?_);rw[hc,hd];show wpAny M A (if(["enumerate","zip","dict_itemiterator","dict_reverseitemiterator","odict_iterator","itertools.zip_longest","itertools.pairwise"].contains n&&vs[0]? == some (rawInt _))=true then _ else _) Q E s;rw[if_neg (by intro h;rw[hn,Bool.false_and]at h;cases h)];exact Yg hQ))
def Itl(K:Kq)(a:Addr):It:=
 ⟨fun i H=>∃xs x,SqL K H a xs/\xs[i]?=some x,fun i H x H'=>H'=H/\∀xs,SqL K H a xs->xs[i]?=some x,fun i H=>∃xs,SqL K H a xs/\xs.length<=i⟩
def Itr(lo:Int)(n:Nat):It:=⟨fun i _=>i<n,fun i H x H'=>H'=H/\x=.int (lo+i),fun i _=>n<=i⟩
theorem uE{P:Program}{w:World}{K:Kq}{tg:Expr}(a it:Addr):Turn P w K tg (Itl K a) [it] it (fun i h=>h.IsListIter it a i) where
 mem:=by simp
 obj:=fun i h st b hb=>by
  have e:b=it:=by simpa using hb
  subst e;obtain⟨o,e,c,d⟩:=st;exact⟨o,e,fun v z=>by rw[d]at z;cases z⟩
 keep:=fun i h h' st k=>st.at fun o e=>k it (by simp) o e
 item:=by intro X hP hw hK hc i pz s σ H E I hf st hg;subst hP hw hK;obtain⟨xs,x,hq,hx⟩:=hg;obtain⟨its,rv,p,hz⟩:=I.list hq;obtain⟨u,hu,ru⟩:=rv.get hx;obtain⟨f0,f1,f2,f3,f4,f5⟩:=hf it (by simp);refine wpAny_pyNext_list_item st p.isList (x:=u) (by simpa using hu) fun h' st' sb=>?_;have I1:Inv X pz σ H {s with heap:=h' }:=I.turned (t':=s.toks) (fun b o hb e=>(sb.2 b hb).trans e) f0 f1 f3 f4 f5;obtain⟨o,e,c,d⟩:=id st';exact⟨u,rfl,sN (s:={s with heap:=h' }) e c d (by decide) ⟨x,H,I1,ru,⟨rfl,fun ys hy=>by rw[I.list_inj hy hq];exact hx⟩,st',fun b hb=>(hf b hb).1⟩⟩
 done:=by intro X hP hw hK hc i pz s σ H E I hf st hg;subst hP hw hK;obtain⟨xs,hq,hx⟩:=hg;obtain⟨its,rv,p,hz⟩:=I.list hq;obtain⟨f0,f1,f2,f3,f4,f5⟩:=hf it (by simp);have hl:=rv.length;exact wpAny_pyNext_list_end (I.ok.hd hc) st p.isList (by simp;omega) fun h' eb=>⟨rfl,I.turned (t':=s.toks) (fun b o hb e=>eb b o hb e) f0 f1 f3 f4 f5⟩
 self:=fun _ _ _ _ _ st h=>wpAny_pyIter_listiter st h
theorem qT{P:Program}{w:World}{K:Kq}{tg:Expr}(it:Addr)(lo:Int)(n:Nat):Turn P w K tg (Itr lo n) [it] it (fun i h=>IsRangeIter h it (lo+(i:Nat)*1) ((n:Int)-(i:Nat)) 1) where
 mem:=by simp
 obj:=fun i h st b hb=>by
  have e:b=it:=by simpa using hb
  subst e;exact⟨_,st,fun v z=>by
   have z':Data.fields _=Data.cell v:=z;cases z'⟩
 keep:=fun i h h' st k=>k it (by simp) _ st
 item:=by intro X hP hw hK hc i pz s σ H E I hf st hg;subst hP hw hK;obtain⟨f0,f1,f2,f3,f4,f5⟩:=hf it (by simp);have W:=Walks.range (prog:=X.prog) (w:=X.w) (I.ok.hd hc) it lo 1 n;refine W.item i s _ _ hg st fun v h' tk hv st' kk=>?_;obtain⟨t,rfl⟩:=hv;have I1:Inv X pz σ H {s with heap:=h',toks:=tk}:=I.turned (fun b o hb e=>kk b o (by simpa using hb) e) f0 f1 f3 f4 f5;refine⟨_,rfl,sN (s:={s with heap:=h',toks:=tk}) (n := "range_iterator") st' rfl rfl (by decide) ⟨.int (lo+i),H,I1,⟨t,?_⟩,⟨rfl,rfl⟩,st',fun b hb=>(hf b hb).1⟩⟩;rw[Int.mul_one]
 done:=by intro X hP hw hK hc i pz s σ H E I hf st hg;subst hP hw hK;obtain⟨f0,f1,f2,f3,f4,f5⟩:=hf it (by simp);exact wpAny_pyNext_range_end (I.ok.hd hc) st (by have:n<=i:=hg;omega) fun h' eb=>⟨rfl,I.turned (t':=s.toks) (fun b o hb e=>eb b o hb e) f0 f1 f3 f4 f5⟩
 self:=fun _ _ _ _ _ st h=>wpAny_pyIter_rangeiter st h
section
variable{X:Cx}{tg:Expr}
def DM(K:Kq)(tl:TE):TI:=fun σ H R=>tl σ H fun x H1=>∃a,x=.ref a/\(∃xs,SqL K H1 a xs)/\R (Itl K a) H1
theorem sY{l:Expr}{tl:TE}(hl:PE X l tl):PI X tg l (DM X.K tl):=by
 intro pz s σ H R I h;refine bC (hl pz s σ H _ I h) fun v s1 x H1 I1 r1 q1=>?_;obtain⟨a,e,⟨xs,hq⟩,q⟩:=q1;subst e;cases r1;obtain⟨its,rv,p,hz⟩:=I1.list hq;refine wpAny_pyIter_list p.isList ?_;refine⟨s1.heap.objs.size,[s1.heap.objs.size],_,_,H1,rfl,I1.kept (t':=s1.toks) fun b o e=>Yh _ e,uE a _,⟨_,Ym _ rfl,rfl,rfl⟩,fun b hb=>?_,q⟩;have e:b=s1.heap.objs.size:=by simpa using hb
 subst e;exact I1.fpOk (Yl _) (I1.hok.fresh (Yl _))
theorem pM{pz:Kp}{σ:St}{H:Hp}{s:Shared}{R:It->Hp->Prop}{E:Kv}{lo hi:Int}{t u v:Tok}{tk:Nat}(I:Inv X pz σ H s)(h1:-(2^62)<=lo)(h2:lo<2^62)(h3:-(2^62)<=hi)(h4:hi<2^62)
  (q:R (Itr lo (hi-lo).toNat) H):wpAny (model X.prog X.w) X.A (pyIter (.ref s.heap.objs.size)) (PIE X pz σ tg R) E {s with heap:=s.heap.push {cls:=.type "range",data:=.fields #[.int lo t,.int hi u,.int 1 v]},toks:=tk}:=by
 refine wpAny_pyIter_range (IsRange.new ..) (small_one h1 h2 h3 h4) ?_;have I1:Inv X pz σ H {s with heap:=s.heap.push {cls:=.type "range",data:=.fields #[.int lo t,.int hi u,.int 1 v]},toks:=tk}:=I.kept fun b o e=>Yh _ e
 refine⟨(s.heap.push {cls:=.type "range",data:=.fields #[.int lo t,.int hi u,.int 1 v]}).objs.size,[(s.heap.push {cls:=.type "range",data:=.fields #[.int lo t,.int hi u,.int 1 v]}).objs.size],_,_,H,rfl,
  I1.kept (t':=tk) fun b o e=>Yh _ e,qT _ lo (hi-lo).toNat,?_,fun b hb=>?_,q⟩
 ·have e1:lo+((0:Nat):Int)*1=lo:=by simp
  have e2:(((hi-lo).toNat:Nat):Int)-((0:Nat):Int)=Builtin.Range.rangeSize lo hi 1:=by rw[rangeSize_one];split<;>omega
  show IsRangeIter _ _ (lo+((0:Nat):Int)*1) ((((hi-lo).toNat:Nat):Int)-((0:Nat):Int)) 1;rw[e1,e2];exact Ym _ rfl
 ·have e:b=(s.heap.push {cls:=.type "range",data:=.fields #[.int lo t,.int hi u,.int 1 v]}).objs.size:=by simpa using hb
  subst e;exact I1.fpOk (Yl _) (I1.hok.fresh (Yl _))
def CY(ta:TA):TI:=fun σ H R=>ta σ H fun vs H1=>∃j:Int,vs=[.int j]/\-(2^62)<=j/\j<2^62/\R (Itr 0 j.toNat) H1
def DJ(ta:TA):TI:=fun σ H R=>ta σ H fun vs H1=>∃i j:Int,vs=[.int i,.int j]/\(-(2^62)<=i/\i<2^62/\-(2^62)<=j/\j<2^62)/\R (Itr i (j-i).toNat) H1
theorem uh{a:Expr}{ta:TA}{p pos:Pos}(hg:Gl X "range")(hm:X.mg "range"=none)(ha:PA X [a] ta)(hs:starEach [a] X.env=[(false,eval a X.env)]:=by rfl):PI X tg (.Call (.Name "range" p) [a] [] pos) (CY ta):=by
 intro pz s σ H R I h;refine Call_ (fT I hg hm boot_range (ZD (bC (ha pos pz s σ H _ I h) fun us s1 vs H1 I1 r1 q1=>?_) hs rfl));obtain⟨j,e,q1,q2,q⟩:=q1;subst e;cases r1 with
 |cons r rr=>
  cases rr;obtain⟨t,rfl⟩:=r;exact call_range_1 (pM I1 (by omega) (by omega) q1 q2 (by simpa using q))
theorem uB{a b:Expr}{ta:TA}{p pos:Pos}(hg:Gl X "range")(hm:X.mg "range"=none)(ha:PA X [a,b] ta)(hs:starEach [a,b] X.env=[(false,eval a X.env),(false,eval b X.env)]:=by rfl)(hs2:starEach [b] X.env=[(false,eval b X.env)]:=by rfl) :
  PI X tg (.Call (.Name "range" p) [a,b] [] pos) (DJ ta):=by
 intro pz s σ H R I h;refine Call_ (fT I hg hm boot_range (ZD (bC (ha pos pz s σ H _ I h) fun us s1 vs H1 I1 r1 q1=>?_) (by rw[hs,hs2]) (by rw[hs2];rfl)));obtain⟨i,j,e,⟨q1,q2,q3,q4⟩,q⟩:=q1;subst e;cases r1 with
 |cons r rr=>
  cases rr with
  |cons r' rr=>
   cases rr;obtain⟨t,rfl⟩:=r;obtain⟨t',rfl⟩:=r';exact call_range_2 (pM I1 q1 q2 q3 q4 q)
def Ez(wi:TI)(g:TG)(tb:TS):TS:=fun D σ H=>wi σ H fun J H1=>∃W:Nat->Nat->St->Hp->Prop,(∃m,W 0 m σ H1)/\∀i m σ H,W i m σ H->
 (J.stop i H/\D.nx σ H)\/(J.go i H/\∃N:St->Hp->Prop,(∀σ' H',N σ' H'->∃m',m' < m/\W (i+1) m' σ' H')/\∀x H',J.yld i H x H'->g x σ H' fun σ2 H2=>tb {D with nx:=N,ct:=N,bk:=D.nx} σ2 H2)
def jU(fp:List Addr)(h:Heap):List (Addr×Obj):=fp.filterMap fun b=>(h.get? b).map fun o=>(b,o)
theorem eN{fp:List Addr}{h:Heap}{b:Addr}{o:Obj}(hb:b∈fp)(e:h.get? b=some o):(b,o)∈jU fp h:=VL.mpr ⟨b,hb,by rw[e];rfl⟩
theorem tV{fp:List Addr}{h:Heap}{p:Addr×Obj}(hp:p∈jU fp h):p.1∈fp/\h.get? p.1=some p.2:=by
 obtain⟨b,hb,e⟩:=VL.mp hp;cases q:h.get? b with
 |none=>rw[q]at e;cases e
 |some o=>
  rw[q]at e;have e':(b,o)=p:=Yy e;subst e';exact⟨hb,q⟩
theorem Inv.pinned{pz:Kp}{σ:St}{H:Hp}{s:Shared}{fp:List Addr}(I:Inv X pz σ H s)(hf:∀b∈fp,fV X pz H b)(ho:∀b∈fp,∃o,s.heap.get? b=some o/\∀v,o.data≠.cell v):Inv X (pz++jU fp s.heap) σ H s:=
 I.pins_of fun p hp=>(ZC.mp hp).elim (fun z=>I.pin p (YW _ z)) fun z=>by
  obtain⟨hb,e⟩:=tV z;obtain⟨f0,f1,f2,_⟩:=hf p.1 hb;obtain⟨o,e',d⟩:=ho p.1 hb;rw[e]at e';cases e';exact⟨e,f0,f1,f2,d⟩
theorem Inv.unpinned{pz pl:Kp}{σ:St}{H:Hp}{s:Shared}(I:Inv X (pz++pl) σ H s):Inv X pz σ H s:=I.pins_of fun p hp=>I.pin p (YW _ (Vt _ hp))
theorem A9{iter:Expr}{body:List Stmt}{wi:TI}{g:TG}{tb:TS}{pos:Pos}(hp:PassesOwn (model X.prog X.w) X.A X.env X.xe)(hc:X.calm=true)(hi:PI X tg iter wi)(hg:PG X tg g)(hb:PSs X body tb)
  (hs:∀x,foldedSetIterable iter X.env x=pure x:=by intro _;rfl):PS X (.For tg iter body [] pos) (Ez wi g tb):=by
 intro pz s σ H D I h;refine wpAny_For (thn (hi pz s σ H _ I h) fun v s1 h1=>thn h1 fun itv s2 h2=>?_) hs;obtain⟨it,fp,tn,J,H2,e,I2,T,st2,f2,W,⟨m0,w0⟩,turn⟩:=h2;subst e
 -- what stays true of the iterator's objects through the loop
 have stat:∀{H':Hp},(∀b∈fp,H' b=none)->∀b∈fp,fV X pz H' b:=fun hn b hb=>⟨hn b hb,(f2 b hb).2⟩
 refine codeAny_forLoop_any (fun n s'=>∃i σ' H',Inv X pz σ' H' s'/\tn i s'.heap/\(∀b∈fp,H' b=none)/\W i n σ' H') ?_ m0 ⟨0,σ,H2,I2,st2,fun b hb=>(f2 b hb).1,w0⟩;rintro n s3 ⟨i,σ3,H3,I3,st3,fr3,w3⟩;rcases turn i n σ3 H3 w3 with⟨stop,qn⟩|⟨go,N,hN,step⟩
 ·refine Xm hp (thn (T.done X rfl rfl rfl hc i pz s3 σ3 H3 X.xe I3 (stat fr3) st3 stop) fun r s4 ⟨hr,I4⟩=>?_);subst hr;exact VC ⟨σ3,H3,I4,qn⟩
 ·refine Xm hp (thn (T.item X rfl rfl rfl hc i pz s3 σ3 H3 X.xe I3 (stat fr3) st3 go) fun r s4 ⟨u,hr,h4⟩=>?_);subst hr;refine Xm hp (thn h4 fun _ s5 hh_=>?_);obtain⟨x,H5,I5,r5,y5,st5,fr5⟩:=hh_;have I5':=I5.pinned (stat fr5) (T.obj _ _ st5);refine Xm hp (thn (hg _ s5 σ3 H5 x u _ I5' r5 (step x H5 y5)) fun _ s6 hh_=>?_);obtain⟨σ6,H6,I6,q6⟩:=hh_;refine Xm hp (thn (hb _ s6 σ6 H6 _ I6 q6) fun f s7 q7=>?_);have again:∀{σ7:St}{H7:Hp},Inv X (pz++jU fp s5.heap) σ7 H7 s7->N σ7 H7->∃m,m<n/\∃i σ' H',Inv X pz σ' H' s7/\tn i s7.heap/\(∀b∈fp,H' b=none)/\W i m σ' H':=fun{σ7 H7} I7 n7=>by
   obtain⟨m',hm,w7⟩:=hN σ7 H7 n7;refine⟨m',hm,i+1,σ7,H7,I7.unpinned,T.keep _ _ _ st5 fun b hb o e=>(I7.pin (b,o) (YW _ (YW _ (eN hb e)))).1,fun b hb=>?_,w7⟩;obtain⟨o,e,d⟩:=T.obj _ _ st5 b hb;exact(I7.pin (b,o) (YW _ (YW _ (eN hb e)))).2.1
  cases f with
  |next=>obtain⟨σ7,H7,I7,n7⟩:=q7;exact again I7 n7
  |cont=>obtain⟨σ7,H7,I7,n7⟩:=q7;exact again I7 n7
  |brk=>obtain⟨σ7,H7,I7,q7⟩:=q7;exact⟨σ7,H7,I7.unpinned,q7⟩
  |ret v=>obtain⟨x7,σ7,H7,I7,r7,q7⟩:=q7;exact⟨x7,σ7,H7,I7.unpinned,r7,q7⟩
end
abbrev R2:=V->V->Hp->VK->Prop
def OpR(X:Cx)(f:Value->Value->Sem Value)(r:R2):Prop:=
 ∀(pz:Kp) (s:Shared) (σ:St) (H:Hp) (x y:V) (v u:Value) (Q:VK),Inv X pz σ H s->RelV x v->RelV y u->r x y H Q->
  wpAny (model X.prog X.w) X.A (f v u) (EP X pz σ Q) X.xe s
def UnR(X:Cx)(f:Value->Sem Value)(r:V->Hp->VK->Prop):Prop:=
 ∀(pz:Kp) (s:Shared) (σ:St) (H:Hp) (x:V) (v:Value) (Q:VK),Inv X pz σ H s->RelV x v->r x H Q->
  wpAny (model X.prog X.w) X.A (f v) (EP X pz σ Q) X.xe s
def CallR(X:Cx)(f:Value)(r:List V->Hp->VK->Prop):Prop:=
 ∀(pz:Kp) (s:Shared) (σ:St) (H:Hp) (xs:List V) (us:List Value) (Q:VK),Inv X pz σ H s->Vals xs us->r xs H Q->
  wpAny (model X.prog X.w) X.A (call f us) (EP X pz σ Q) X.xe s
def E3(X:Cx)(r:V->Hp->(Bool->Hp->Prop)->Prop):Prop:=
 ∀(pz:Kp) (s:Shared) (σ:St) (H:Hp) (x:V) (v:Value) (Q:Bool->Hp->Prop),Inv X pz σ H s->RelV x v->r x H Q->
  wpAny (model X.prog X.w) X.A (truthy v) (TP X pz σ Q) X.xe s
def tOp(r:R2)(ta tb:TE):TE:=fun σ H Q=>ta σ H fun x H1=>tb σ H1 fun y H2=>r x y H2 Q
def tUn(r:V->Hp->VK->Prop)(ta:TE):TE:=fun σ H Q=>ta σ H fun x H1=>r x H1 Q
def rI(C:Int->Int->Prop)(g:Int->Int->V):R2:=fun x y H Q=>∃i j,x=.int i/\y=.int j/\C i j/\Q (g i j) H
def rI0(g:Int->Int->V):R2:=fun x y H Q=>∃i j,x=.int i/\y=.int j/\Q (g i j) H
def rU(g:Int->V):V->Hp->VK->Prop:=fun x H Q=>∃i,x=.int i/\Q (g i) H
section
variable{X:Cx}{a b c:Expr}{ta tb tc:TE}{pos:Pos}
theorem AW(ha:PE X a ta)(hb:PE X b tb){pz:Kp}{s:Shared}{σ:St}{H:Hp}{R:V->V->Hp->Prop}(I:Inv X pz σ H s)
  (h:ta σ H fun x H1=>tb σ H1 fun y H2=>R x y H2) {Q:Kv}{f:Value->Value->Sem Value}
  (hf:∀v u s2 x y H2,Inv X pz σ H2 s2->RelV x v->RelV y u->R x y H2->wpAny (model X.prog X.w) X.A (f v u) Q X.xe s2) :
  wpAny (model X.prog X.w) X.A (eval a X.env) (fun v s₁=>wpAny (model X.prog X.w) X.A (eval b X.env) (fun u s₂=>wpAny (model X.prog X.w) X.A (f v u) Q X.xe s₂) X.xe s₁) X.xe s:=by
 refine bC (ha pz s σ H _ I h) fun v s1 x H1 I1 r1 q1=>?_;refine bC (hb pz s1 σ H1 _ I1 q1) fun u s2 y H2 I2 r2 q2=>?_;exact hf v u s2 x y H2 I2 r1 r2 q2
theorem D3{op:Operator}{r:R2}(ho:OpR X (binaryOp op) r)(ha:PE X a ta)(hb:PE X b tb):PE X (.BinOp a op b pos) (tOp r ta tb):=by intro pz s σ H Q I h;exact wpAny_BinOp (AW ha hb I h fun v u s2 x y H2 I2 rx ry q=>ho pz s2 σ H2 x y v u Q I2 rx ry q)
theorem DW{op:UnaryOp}{r:V->Hp->VK->Prop}(ho:UnR X (unaryOp op) r)(ha:PE X a ta):PE X (.UnaryOp op a pos) (tUn r ta):=by intro pz s σ H Q I h;exact UnaryOp_ (bC (ha pz s σ H _ I h) fun v s1 x H1 I1 r1 q1=>ho pz s1 σ H1 x v Q I1 r1 q1)
theorem opI{f:Value->Value->Sem Value}{C:Int->Int->Prop}{g:Int->Int->Int}
  (rule:∀(i j:Int) (t u:Tok) (s:Shared) (Q:Kv) (E:Kv),C i j->Q (.int (g i j) s.toks) {s with toks:=s.toks+1}->wpAny (model X.prog X.w) X.A (f (.int i t) (.int j u)) Q E s) :
  OpR X f (rI C fun i j=>.int (g i j)):=by
 intro pz s σ H x y v u Q I rx ry h;obtain⟨i,j,rfl,rfl,hc,q⟩:=h;obtain⟨t,rfl⟩:=rx;obtain⟨t',rfl⟩:=ry;exact rule i j t t' s _ _ hc ⟨.int (g i j),H,I.tok _,⟨_,rfl⟩,q⟩
theorem D2{f:Value->Value->Sem Value}{g:Int->Int->Int}
  (rule:∀(i j:Int) (t u:Tok) (s:Shared) (Q:Kv) (E:Kv),Q (.int (g i j) s.toks) {s with toks:=s.toks+1}->wpAny (model X.prog X.w) X.A (f (.int i t) (.int j u)) Q E s) :
  OpR X f (rI0 fun i j=>.int (g i j)):=by
 intro pz s σ H x y v u Q I rx ry h;obtain⟨i,j,rfl,rfl,q⟩:=h;obtain⟨t,rfl⟩:=rx;obtain⟨t',rfl⟩:=ry;exact rule i j t t' s _ _ ⟨.int (g i j),H,I.tok _,⟨_,rfl⟩,q⟩
theorem Cd{f:Value->Value->Sem Value}{g:Int->Int->Bool}
  (rule:∀(i j:Int) (t u:Tok) (s:Shared) (Q:Kv) (E:Kv),Q (.bool (g i j)) s->wpAny (model X.prog X.w) X.A (f (.int i t) (.int j u)) Q E s) :
  OpR X f (rI0 fun i j=>.bl (g i j)):=by
 intro pz s σ H x y v u Q I rx ry h;obtain⟨i,j,rfl,rfl,q⟩:=h;obtain⟨t,rfl⟩:=rx;obtain⟨t',rfl⟩:=ry;exact rule i j t t' s _ _ ⟨.bl (g i j),H,I,rfl,q⟩
def E8(i j:Int):Prop:=0<j/\j<1073741824
def EN(i j:Int):Prop:=0<=j/\j<=1000000/\i.natAbs<2^64
def CMul(i j:Int):Prop:=(-(2^64)<i/\i<2^64)\/(-(2^64)<j/\j<2^64)
theorem CMul.ok{i j:Int}(h:CMul i j):IntMulOk i j:=by
 rcases h with⟨h1,h2⟩|⟨h1,h2⟩
 ·exact .of_left (intBits_le_64 h1 h2)
 ·exact .of_right (intBits_le_64 h1 h2)
theorem B5:OpR X (binaryOp .Add) (rI0 fun i j=>.int (i+j)):=D2 fun _ _ _ _ _ _ _ q=>add_int q
theorem Ay:OpR X (binaryOp .Sub) (rI0 fun i j=>.int (i-j)):=D2 fun _ _ _ _ _ _ _ q=>sub_int q
theorem BO:OpR X (binaryOp .Mult) (rI CMul fun i j=>.int (i*j)):=opI fun _ _ _ _ _ _ _ hc q=>mul_int q hc.ok
theorem x_:OpR X (binaryOp .FloorDiv) (rI E8 fun i j=>.int (i/j)):=opI fun i j _ _ _ _ _ hc q=>by
 have h1:(0:Int)<j:=hc.1;have h2:j<1073741824:=hc.2;exact floordiv_int (by omega) (by rw[Int.fdiv_eq_ediv_of_nonneg i (by omega)];exact q) (.inl (PyProof.noPylong_small (by omega)))
theorem Bg:OpR X (binaryOp .Mod) (rI (fun _ j=>0<j) fun i j=>.int (i%j)):=opI fun i j _ _ _ _ _ hc q=>by
 have h1:(0:Int)<j:=hc;exact mod_int' (by omega) (by rw[Int.fmod_eq_emod_of_nonneg i (by omega)];exact q)
theorem Bc:OpR X (binaryOp .Pow) (rI EN fun i j=>.int (i^j.toNat)):=opI fun _ _ _ _ _ _ _ hc q=>pow_int_small hc.1 hc.2.1 hc.2.2 q
theorem unI{f:Value->Sem Value}{g:Int->Int}
  (rule:∀(i:Int) (t:Tok) (s:Shared) (Q:Kv) (E:Kv),Q (.int (g i) s.toks) {s with toks:=s.toks+1}->wpAny (model X.prog X.w) X.A (f (.int i t)) Q E s) :
  UnR X f (rU fun i=>.int (g i)):=by
 intro pz s σ H x v Q I rx h;obtain⟨i,rfl,q⟩:=h;obtain⟨t,rfl⟩:=rx;exact rule i t s _ _ ⟨.int (g i),H,I.tok _,⟨_,rfl⟩,q⟩
theorem AT:UnR X (unaryOp .USub) (rU fun i=>.int (-i)):=unI fun _ _ _ _ _ q=>neg_int q
end
section
variable{X:Cx}{a b c:Expr}{ta tb tc:TE}{pos:Pos}
theorem CZ:OpR X (compareOp .Lt) (rI0 fun i j=>.bl (decide (i<j))):=Cd fun _ _ _ _ _ _ _ q=>lt_int q
theorem DA:OpR X (compareOp .LtE) (rI0 fun i j=>.bl (decide (i<=j))):=Cd fun _ _ _ _ _ _ _ q=>le_int q
theorem Cw:OpR X (compareOp .Gt) (rI0 fun i j=>.bl (decide (j<i))):=Cd fun _ _ _ _ _ _ _ q=>gt_int q
theorem OpR.or{f:Value->Value->Sem Value}{r r':R2}(h:OpR X f r)(h':OpR X f r'):OpR X f (fun x y H Q=>r x y H Q\/r' x y H Q):=by
 intro pz s σ H x y v u Q I rx ry q;rcases q with q|q
 ·exact h pz s σ H x y v u Q I rx ry q
 ·exact h' pz s σ H x y v u Q I rx ry q
theorem gM(b:Expr){op:CmpOp}(h:op≠.In:=by decide)(h2:op≠.NotIn:=by decide):behindInMarks op b=false:=by
 have e1:(op == CmpOp.In)=false:=by cases op<;>first|rfl|exact absurd rfl h
 have e2:(op == CmpOp.NotIn)=false:=by cases op<;>first|rfl|exact absurd rfl h2
 cases b<;>simp[behindInMarks,e1,e2]
theorem zw{op:CmpOp}{r:R2}(ho:OpR X (compareOp op) r)(ha:PE X a ta)(hb:PE X b tb)(hm:behindInMarks op b=false):PE X (.Compare a [op] [b] pos) (tOp r ta tb):=by intro pz s σ H Q I h;exact wpAny_Compare1 (AW ha hb I h fun v u s2 x y H2 I2 rx ry q=>ho pz s2 σ H2 x y v u Q I2 rx ry q) hm
def vx(t:TE):TT:=fun σ H Q=>t σ H fun x H'=>∃k,x=.bl k/\Q k H'
theorem rT{op:CmpOp}{r:R2}(ho:OpR X (compareOp op) r)(ha:PE X a ta)(hb:PE X b tb)(hm:behindInMarks op b=false):PT X (.Compare a [op] [b] pos) (vx (tOp r ta tb)):=by
 intro pz s σ H Q I h;refine wpAny_isTrue_Compare1 (bC (ha pz s σ H _ I h) fun v s1 x H1 I1 r1 q1=>bC (hb pz s1 σ H1 _ I1 q1) fun u s2 y H2 I2 r2 q2=>
  bC (ho pz s2 σ H2 x y v u _ I2 r1 r2 q2) fun c s3 z H3 I3 r3 ⟨k,e,q3⟩=>?_) hm
 subst e;cases r3;exact Zz ⟨H3,I3,q3⟩
def qV(r r':R2)(ta tb tc:TE):TE:=fun σ H Q=>ta σ H fun x H1=>tb σ H1 fun y H2=>r x y H2 fun z H3=>∃k,z=.bl k /\
 (if k=true then tc σ H3 fun w' H4=>r' y w' H4 Q else Q (.bl false) H3)
theorem nK{op op':CmpOp}{r r':R2}(ho:OpR X (compareOp op) r)(ho':OpR X (compareOp op') r')(ha:PE X a ta)(hb:PE X b tb)(hc:PE X c tc)
  (hm:lastMarks [op,op'] [b,c]=false:=by with_unfolding_all rfl):PE X (.Compare a [op,op'] [b,c] pos) (qV r r' ta tb tc):=by
 intro pz s σ H Q I h;refine Compare_chain (bC (ha pz s σ H _ I h) fun v s1 x H1 I1 r1 q1=>chain_link (bC (hb pz s1 σ H1 _ I1 q1) fun u s2 y H2 I2 r2 q2=>
  bC (ho pz s2 σ H2 x y v u _ I2 r1 r2 q2) fun d s3 z H3 I3 r3 ⟨k,e,q3⟩=>?_)) hm
 subst e;cases r3;refine Zz ?_;cases k with
 |false=>exact ite_ff ⟨.bl false,H3,I3,rfl,q3⟩
 |true=>exact ite_tt (chain_last (bC (hc pz s3 σ H3 _ I3 q3) fun w' s4 z' H4 I4 r4 q4=>ho' pz s4 σ H4 y z' u w' Q I4 r2 r4 q4))
theorem xa{op op':CmpOp}{r r':R2}(ho:OpR X (compareOp op) r)(ho':OpR X (compareOp op') r')(ha:PE X a ta)(hb:PE X b tb)(hc:PE X c tc)
  (hm:lastMarks [op,op'] [b,c]=false:=by with_unfolding_all rfl):PT X (.Compare a [op,op'] [b,c] pos) (vx (qV r r' ta tb tc)):=by
 intro pz s σ H Q I h;refine isTrue_chain (bC (ha pz s σ H _ I h) fun v s1 x H1 I1 r1 q1=>test_link (bC (hb pz s1 σ H1 _ I1 q1) fun u s2 y H2 I2 r2 q2=>
  bC (ho pz s2 σ H2 x y v u _ I2 r1 r2 q2) fun d s3 z H3 I3 r3 ⟨k,e,q3⟩=>?_)) hm
 subst e;cases r3;refine Zz ?_;cases k with
 |false=>
  obtain⟨k',e',q'⟩:=q3;cases e';exact ite_ff ⟨H3,I3,q'⟩
 |true=>
  refine ite_tt (test_last (bC (hc pz s3 σ H3 _ I3 q3) fun w' s4 z' H4 I4 r4 q4=>bC (ho' pz s4 σ H4 y z' u w' _ I4 r2 r4 q4) fun d' s5 z2 H5 I5 r5 hh_=>?_));obtain⟨k2,e2,q5⟩:=hh_;subst e2;cases r5;exact Zz ⟨H5,I5,q5⟩
def Di(K:Kq)(x:V)(H:Hp)(k:Bool):Prop:=
 match x with
 |.non=>k=false
 |.bl b=>k=b
 |.int i=>k=(i != 0)
 |.str y=>y.length<=sizeLine/\k=((y.length:Int) != 0)
 |.byt y=>y.size<=sizeLine/\k=((y.size:Int) != 0)
 |.ref p=>(∃xs,SqL K H p xs/\k=!xs.isEmpty)\/(∃xs,SqT K H p xs/\k=!xs.isEmpty)\/∃kvs,H p=some (.dK kvs)/\k=!kvs.isEmpty
 |_=>False
theorem qf{κ:Type}{kvs:List (κ×V)}{vs:List (κ×Value)}(r:KV kvs vs):(!vs.isEmpty)=!kvs.isEmpty:=by cases r<;>rfl
theorem jD{xs:List V}{its:List Value}(r:Vals xs its):(!its.toArray.isEmpty)=!xs.isEmpty:=by cases r<;>simp
theorem gR:(sizeLine:Nat)<2^63:=by rw[YR];decide
theorem AI:E3 X (fun x H Q=>∃k,Di X.K x H k/\Q k H):=by
 intro pz s σ H x v Q I rx h;obtain⟨k,e,q⟩:=h;have hl:=gR;have hs:sizeLine=16777216:=YR;cases x with
 |non=>
  cases rx;have e':k=false:=e;subst e';exact truthy_none ⟨H,I,q⟩
 |bl b=>
  cases rx;have e':k=b:=e;subst e';exact Zz ⟨H,I,q⟩
 |int i=>
  obtain⟨t,rfl⟩:=rx;have e':k=(i != 0):=e;subst e';exact PySem.P.truthy_int ⟨H,I,q⟩
 |str y=>
  obtain⟨t,rfl⟩:=rx;obtain⟨hy,e'⟩:y.length<=sizeLine/\k=((y.length:Int) != 0):=e;subst e';exact PySem.P.truthy_str (by omega) ⟨H,I.tok _,q⟩
 |byt y=>
  obtain⟨t,rfl⟩:=rx;obtain⟨hy,e'⟩:y.size<=sizeLine/\k=((y.size:Int) != 0):=e;subst e';exact PySem.W.truthy_bytes (by omega) ⟨H,I.tok _,q⟩
 |ref p=>
  cases rx;have e':(∃xs,SqL X.K H p xs/\k=!xs.isEmpty)\/(∃xs,SqT X.K H p xs/\k=!xs.isEmpty)\/∃kvs,H p=some (.dK kvs)/\k=!kvs.isEmpty:=e;rcases e' with⟨xs,hx,e'⟩|⟨xs,hx,e'⟩|⟨kvs,hx,e'⟩
  ·subst e';obtain⟨its,r,pl,hz⟩:=I.list hx;have hlen:=r.length;exact wpAny_truthy_list pl.isList (by simp only[Yx];omega) ⟨H,I.tok _,by rw[jD r];exact q⟩
  ·subst e';obtain⟨its,r,pl,hz⟩:=I.tuple hx;have hlen:=r.length;exact truthy_tuple pl (by simp only[Yx];omega) ⟨H,I.tok _,by rw[jD r];exact q⟩
  ·subst e';obtain⟨hz,hS,vs,r,m⟩:kvs.length<=sizeLine/\(p == sysModules)=false/\∃vs,KV kvs vs/\s.heap.DictOf (bT X.prog X.w) p vs:=I.hok p _ hx;have hlen:kvs.length=vs.length:=Paired.length r;exact wpAny_truthy_dict hS m (by omega) ⟨H,I.tok _,by rw[qf r];exact q⟩
 |_=>exact(show False from e).elim
theorem uM(ha:PE X a ta)(he:∀whole,isTrue a X.env whole=(do let v <-whole;standAt a.pos;holding [v] (truthy v))) :
  PT X a (fun σ H Q=>ta σ H fun x H'=>∃k,Di X.K x H' k/\Q k H'):=by
 intro pz s σ H Q I h;exact isTrue_plain (bC (ha pz s σ H _ I h) fun v s1 x H1 I1 r1 q1=>AI pz s1 σ H1 x v Q I1 r1 q1) (he _)
theorem qF:OpR X (binaryOp .Add) (fun x y H Q=>∃i j,x=.str i/\y=.str j/\i.length+j.length<=sizeLine/\Q (.str (i++j)) H):=by intro pz s σ H x y v u Q I rx ry h;obtain⟨i,j,rfl,rfl,hz,q⟩:=h;obtain⟨t,rfl⟩:=rx;obtain⟨t',rfl⟩:=ry;exact add_str (fun t' tk=>⟨.str (i++j),H,I.tok _,⟨_,rfl⟩,q⟩) hz
theorem dI{x:V}{us:List Value}(r:Vals [x] us):∃u,us=[u]/\RelV x u:=by
 cases r with
 |cons r1 r2=>cases r2;exact⟨_,rfl,r1⟩
theorem DZ{x y:V}{us:List Value}(r:Vals [x,y] us):∃u w',us=[u,w']/\RelV x u/\RelV y w':=by
 cases r with
 |cons r1 r2=>
  cases r2 with
  |cons r3 r4=>cases r4;exact⟨_,_,rfl,r1,r3⟩
end
structure ObjM (h:Heap) (x dx C:Addr) (mA:Str->Option Value):Prop where
 obj:h.get? x=some (PySem.W.instObj C dx)
 ns:h.Ns1 dx mA
 ne:dx≠x
theorem uf{h:Heap}{dx:Addr}{mA:Ks}(n:h.Ns1 dx mA):∃od,h.get? dx=some od/\∀name,PySem.W.lookIn name od=some (mA name):=by
 obtain⟨o,es,ep,ho,hd,hk,_,hm⟩:=n;refine⟨o,ho,fun name=>?_⟩;have e:=hm name;unfold nsFind findBy at e;rw[<-Array.find?_toList]at e;unfold PySem.W.lookIn;rw[hd];dsimp only;split
 ·rename_i y q;rw[q]at e;exact Zs some e
 ·rename_i q;rw[q]at e;have a:es.toList.any (·.refKey)=false:=by rw[List.any_eq_false];intro y hy;obtain⟨z,t,hkey⟩:=hk y (Vu.mp hy);simp[DictEntry.refKey,hkey]
  have a':¬es.toList.any (·.refKey)=true:=by rw[a];exact Yj
  rw[if_neg a'];exact Zs some e
theorem ObjM.look{h:Heap}{x dx C:Addr}{mA:Ks}(I:ObjM h x dx C mA):∃od,PySem.W.InstAt h x (PySem.W.instObj C dx) C (some od)/\∀name,PySem.W.lookIn name od=some (mA name):=
 let ⟨od,ho,hl⟩:=uf I.ns
 ⟨od,⟨I.obj,rfl,rfl,ho⟩,hl⟩
section
variable{prog:Program}{w:World}{A:Around}{E:Kv}{s:Shared}{K:Kq}{x dx C f:Addr}{mA:Ks}{name:Str}{v:Value}
theorem yS{expr:Bool}{Q:Kv}(X:K.In s.heap)(I:ObjM s.heap x dx C mA)(hg:PySem.W.plainGet K C name=true)(hh:PySem.W.hasDictIn K C=true)
  (ha:PySem.W.findIn K (.ref C) name=some none) (hv:mA name=some v) (hv':PySem.W.handedIn v=true) (h:Q v {s with toks:=s.toks+1}) :
  wpAny (model prog w) A (getAttr (.ref x) name expr) Q E s:=by
 obtain⟨od,J,hl⟩:=I.look;exact PySem.W.get_value X J (VD hg).1 (PySem.W.findObj_own hh ha rfl (by rw[hl,hv])) hv' h
theorem vQ{pl:Sem Bool}{Q:Value×List Value->Shared->Prop}(X:K.In s.heap)(I:ObjM s.heap x dx C mA)(hg:PySem.W.plainGet K C name=true)
  (hf:PySem.W.findIn K (.ref C) name=some (some (.ref f))) (ht:PySem.W.isFn K (.ref f)=true) (hv:mA name=none) (h:Q (.ref f,[.ref x]) s) :
  wpAny (model prog w) A (getMethod (.ref x) name pl) Q E s:=by
 obtain⟨od,J,hl⟩:=I.look;exact PySem.W.method_fn X J (VD hg).1 (VD hg).2 hf (Vz.mp ht) (by show(PySem.W.lookIn name od).map (·.isSome)=some false;rw[hl,hv];rfl) h
theorem yi{ns:List Str}{Q:Unit->Shared->Prop}(X:K.In s.heap)(I:ObjM s.heap x dx C mA)
  (hs:PySem.W.findIn K (.ref C) "__setattr__"=some (some (.builtin "object.__setattr__"))) (hp:PySem.W.plainOver K C=true) (ht:PySem.W.takerIn K C name=some none) (hh:PySem.W.hasDictIn K C=true)
  (hw:PySem.Within mA ns) (hsz:ns.length<=sizeLine)
  (h:∀h',ObjM h' x dx C (fun y=>if y=name then some v else mA y)->Heap.SameBut dx s.heap h'->Q () {s with heap:=h',toks:=s.toks+2}) :
  wpAny (model prog w) A (setAttr (.ref x) name v) Q E s:=by
 obtain⟨od,J,hl⟩:=I.look;refine PySem.W.set_plain X J hs (PySem.W.osa_open (s:={s with toks:=s.toks+1}) (r:=none) X J hp ht fun b=>?_);obtain⟨cd,hc,hd'⟩:=PySem.W.any_some hh;have hx:s.heap.get? x=some ⟨.ref C,some dx,.plain,#[]⟩:=I.obj;refine Ya (Yg (Ya (Ya (wpAny_loadPart hx (Ya (PySem.W.Looks.here (s:={s with toks:=s.toks+1}) (PySem.W.looks_clsIn X hc) ?_))))));rw[hd'];refine Yg (a:=some dx) (Ya (Yg (Ya ?_)));refine wpAny_nsSet1 (s:={s with toks:=s.toks+1}) I.ns fun h' hn2 hs2=>?_;obtain⟨oD,esD,epD,hoD,hdD,hcD⟩:=hn2.count (PySem.Within.cons name v hw);refine Ya (wpAny_lookBehind hoD (by rw[hdD];exact pastItsLine_dict (YC hcD (by rw[Yw];omega))) ?_);exact Yg (h _ ⟨(hs2.2 _ (XM I.ne)).trans I.obj,hn2,I.ne⟩ hs2)
theorem wx{R:Kr}{vs:List Value}{kw:List (Str×Value)}(X:K.In s.heap)(hm:PySem.W.makesIn K C=true)
  (hi:PySem.W.findIn K (.ref C) "__init__"=some (some (.ref f))) (hf:PySem.W.typeIn K (.ref f)=some (.type "function"))
  (h:codeAny (model prog w) (A.under (.builtin "type.__call__" ⟨.ref C::vs,kw⟩)) (.call (.ref f) ⟨.ref (s.heap.objs.size+1)::vs,kw⟩) (PySem.W.InitBack (s.heap.objs.size+1) R)
   {s with heap:=(s.heap.push PySem.W.emptyDict).push (PySem.W.instObj C s.heap.objs.size)}) :
  codeAny (model prog w) A (.call (.ref C) ⟨vs,kw⟩) R s:=by
 obtain⟨hh,g,d,t,os⟩:=s;exact PySem.W.make_core (PySem.W.makes_of X hm) (PySem.W.looks_findIn X hi) (fun self=>PySem.W.bind_fn X self hf) (.inl rfl) h
end
def eJ(f:Str)(v:V):List (Str×V)->List (Str×V)
 |[]=>[(f,v)]
 |(g,x)::r=>if g=f then(g,v)::r else(g,x)::eJ f v r
theorem iB(f g:Str)(v:V):∀fs:List (Str×V),(eJ f v fs).lookup g=if g=f then some v else fs.lookup g
 |[]=>by
  show List.lookup g [(f,v)]=_;by_cases h:g=f
  ·have hb:(g == f)=true:=Vz.mpr h;simp only[List.lookup,hb,if_pos h]
  ·have hb:(g == f)=false:=Xo.mpr h;simp only[List.lookup,hb,if_neg h]
 |(k,x)::r=>by
  have ih:=iB f g v r;rw[show eJ f v ((k,x)::r)=(if k=f then(k,v)::r else(k,x)::eJ f v r)from rfl];by_cases hk:k=f
  ·rw[if_pos hk];by_cases h:g=k
   ·have hb:(g == k)=true:=Vz.mpr h;simp only[List.lookup,hb,if_pos (h.trans hk)]
   ·have hb:(g == k)=false:=Xo.mpr h;simp only[List.lookup,hb,if_neg (fun e:g=f=>h (e.trans hk.symm))]
  ·rw[if_neg hk];by_cases h:g=k
   ·have hb:(g == k)=true:=Vz.mpr h;simp only[List.lookup,hb,if_neg (fun e:g=f=>hk (h.symm.trans e))]
   ·have hb:(g == k)=false:=Xo.mpr h;simp only[List.lookup,hb];exact ih
theorem gX(f:Str)(v:V):∀fs:List (Str×V),f∈(eJ f v fs).map (·.1)/\∀g,g∈fs.map (·.1)->g∈(eJ f v fs).map (·.1)
 |[]=>⟨by simp[eJ],fun g h=>by simp at h⟩
 |(k,x)::r=>by
  obtain⟨i1,i2⟩:=gX f v r;rw[show eJ f v ((k,x)::r)=(if k=f then(k,v)::r else(k,x)::eJ f v r)from rfl];by_cases hk:k=f
  ·rw[if_pos hk];subst hk;exact⟨by simp,fun g h=>by simpa using h⟩
  ·rw[if_neg hk];refine⟨?_,fun g h=>?_⟩
   ·rw[YG];exact Yc _ i1
   ·rw[YG]at h ⊢;rcases Yr.mp h with e|e
    ·exact Yr.mpr (.inl e)
    ·exact Yc _ (i2 g e)
theorem iI(f:Str)(v:V):∀fs:List (Str×V),(eJ f v fs).length<=fs.length+1
 |[]=>by simp[eJ]
 |(k,x)::r=>by
  have ih:=iI f v r;rw[show eJ f v ((k,x)::r)=(if k=f then(k,v)::r else(k,x)::eJ f v r)from rfl];by_cases hk:k=f
  ·rw[if_pos hk,Yw,Yw];omega
  ·rw[if_neg hk,Yw,Yw];omega
theorem RelO.some_of{v:V}{o:Option Value}(r:RelO (some v) o):∃u,o=some u/\RelV v u:=by
 cases o with
 |none=>exact(show False from r).elim
 |some u=>exact⟨u,rfl,r⟩
theorem RelO.none_of{o:Option Value}(r:RelO none o):o=none:=by
 cases o with
 |none=>rfl
 |some u=>exact(show False from r).elim
theorem tp{v:V}{u:Value}(r:RelV v u):PySem.W.handedIn u=true:=by
 cases v with
 |non=>cases(show u=Value.none from r);rfl
 |bl b=>cases(show u=Value.bool b from r);rfl
 |int i=>obtain⟨t,e⟩:=(show ∃t,u=Value.int i t from r);cases e;rfl
 |str x=>obtain⟨t,e⟩:=(show ∃t,u=Value.str x t from r);cases e;rfl
 |byt b=>obtain⟨t,e⟩:=(show ∃t,u=Value.bytes b t from r);cases e;rfl
 |flt b=>obtain⟨t,e⟩:=(show ∃t,u=Value.float b t from r);cases e;rfl
 |ref a=>cases(show u=Value.ref a from r);rfl
 |ty n=>cases(show u=Value.type n from r);rfl
section
variable{P:Program}{w:World}{H H':Hp}{h h':Heap}{a C dx:Addr}{fs fs':List (Str×V)}
theorem l0(hok:HOk P w H h)(e:H a=some (.ins C dx fs)):∃mA,ObjM h a dx C mA/\(∀f,RelO (fs.lookup f) (mA f))/\PySem.Within mA (fs.map (·.1))/\fs.length<=1000/\H dx=some (.own a):=by
 obtain⟨d,z,ne,ob,mA,n,r,q⟩:=(show ObjOk P w H h a (.ins C dx fs)from hok a _ e)
 exact⟨mA,⟨ob,n,ne⟩,r,q,z,d⟩
end
structure Cls (K:PySem.W.Frag) (C:Addr):Prop where
 pg:PySem.W.plainGet K C Str.empty=true
 hd:PySem.W.hasDictIn K C=true
 po:PySem.W.plainOver K C=true
 sa:PySem.W.findIn K (.ref C) "__setattr__"=some (some (.builtin "object.__setattr__"))
theorem Cls.get{K:Kq}{C:Addr}(c:Cls K C)(f:Str):PySem.W.plainGet K C f=true:=c.pg
def NoAttr(K:Kq)(C:Addr)(f:Str):Prop:=PySem.W.findIn K (.ref C) f=some none
theorem NoAttr.taker{K:Kq}{C:Addr}{f:Str}(n:NoAttr K C f):PySem.W.takerIn K C f=some none:=by unfold PySem.W.takerIn;rw[show PySem.W.findIn K (.ref C) f=some none from n];rfl
structure Meth (K:PySem.W.Frag) (C:Addr) (m:Str) (f:Addr):Prop where
 at_:PySem.W.findIn K (.ref C) m=some (some (.ref f))
 fn:PySem.W.isFn K (.ref f)=true
 kp:PySem.W.keepIn K (.ref f)=true
section
variable{X:Cx}{pz:Kp}{σ:St}{H:Hp}{s:Shared}{a C dx:Addr}{fs:List (Str×V)}{f:Str}{v:V}{A:Around}{E:Kv}
theorem pR{b:Bool}{Q:Kv}(I:Inv X pz σ H s)(e:H a=some (.ins C dx fs))(c:Cls X.K C)(n:NoAttr X.K C f)(l:fs.lookup f=some v)
  (h:∀u s',Inv X pz σ H s'->RelV v u->Q u s'):wpAny (model X.prog X.w) A (getAttr (.ref a) f b) Q E s:=by
 obtain⟨mA,O,r,_,_,_⟩:=l0 I.hok e;obtain⟨u,hu,ru⟩:=RelO.some_of (v:=v) (o:=mA f) (by rw[<-l];exact r f);exact yS I.kIn O (c.get f) c.hd n hu (tp ru) (h u _ (I.tok _) ru)
theorem kt{m:Str}{g:Addr}{pl:Sem Bool}{Q:Value×List Value->Shared->Prop}(I:Inv X pz σ H s)(e:H a=some (.ins C dx fs))(c:Cls X.K C)(k:Meth X.K C m g)(l:fs.lookup m=none)
  (h:Q (.ref g,[.ref a]) s):wpAny (model X.prog X.w) A (getMethod (.ref a) m pl) Q E s:=by
 obtain⟨mA,O,r,_,_,_⟩:=l0 I.hok e;have hn:mA m=none:=RelO.none_of (by rw[<-l];exact r m);exact vQ I.kIn O (c.get m) k.at_ k.fn hn h
theorem qM{y:V}{u:Value}{Q:Unit->Shared->Prop}(I:Inv X pz σ H s)(e:H a=some (.ins C dx fs))(c:Cls X.K C)(n:NoAttr X.K C f)(hl:fs.length<1000)(ry:RelV y u)
  (h:∀s',Inv X pz σ (upd H a (.ins C dx (eJ f y fs))) s'->Q () s'):wpAny (model X.prog X.w) A (setAttr (.ref a) f u) Q E s:=by
 obtain⟨mA,O,r,wi,_,ho⟩:=l0 I.hok e;have hz:(fs.map (·.1)).length<=sizeLine:=by rw[Yd,YR];omega
 refine yi I.kIn O c.sa c.po n.taker c.hd wi hz fun h' O' sb=>h _ ?_;have hd:∃o,h'.get? dx=some o:=let ⟨o,_,_,e',_⟩:=O'.ns;⟨o,e'⟩
 refine I.write (x:=a) (e:=dx) (by rw[e];exact True.intro) (.inr ho) (fun b q hb z=>(sb.2 b hb).trans z) hd ?_;refine⟨by rw[aK O.ne];exact ho,?_,O.ne,O'.obj,_,O'.ns,fun g=>?_,fun g hg=>?_⟩
 ·have:=iI f y fs;omega
 ·show RelO ((eJ f y fs).lookup g) (if g=f then some u else mA g);rw[iB];by_cases q:g=f
  ·rw[if_pos q,if_pos q];exact ry
  ·rw[if_neg q,if_neg q];exact r g
 ·by_cases q:g=f
  ·rw[q];exact(gX f y fs).1
  ·refine(gX f y fs).2 g (wi g fun z=>hg ?_);show(if g=f then some u else mA g)=none;rw[if_neg q];exact z
theorem Inv.made(I:Inv X pz σ H s):Inv X pz σ (upd (upd H s.heap.objs.size (.own (s.heap.objs.size+1))) (s.heap.objs.size+1) (.ins C s.heap.objs.size []))
  {s with heap:=(s.heap.push PySem.W.emptyDict).push (PySem.W.instObj C s.heap.objs.size)}:=by
 have e1:(s.heap.push PySem.W.emptyDict).get? s.heap.objs.size=some PySem.W.emptyDict:=Ym s.heap rfl;have e2:((s.heap.push PySem.W.emptyDict).push (PySem.W.instObj C s.heap.objs.size)).get? (s.heap.objs.size+1)=some (PySem.W.instObj C s.heap.objs.size):=by
  have:=Ym (s.heap.push PySem.W.emptyDict) (o:=PySem.W.instObj C s.heap.objs.size) rfl
  rwa [Xi]at this
 have e3:(s.heap.push PySem.W.emptyDict).Ns s.heap.objs.size (fun _=>none):=⟨PySem.W.emptyDict,#[],_,e1,rfl,(fun e he=>absurd he (by simp)),fun _=>rfl⟩
 have I1:=I.laid (a:=s.heap.objs.size) (o:=.own (s.heap.objs.size+1)) (h':=s.heap.push PySem.W.emptyDict) (t':=s.toks) (fun b u q=>Yh _ q) (Yl _) ⟨_,e1⟩;refine I1.laid (a:=s.heap.objs.size+1) (o:=.ins C s.heap.objs.size []) (t':=s.toks) (fun b u q=>Yh _ q) (ZT (Xi _ _)) ?_;have ne:s.heap.objs.size≠s.heap.objs.size+1:=YA (ZX _);refine⟨by rw[aK ne,aX],YF _,ne,e2,fun _=>none,(Heap.Ns1.of_empty e3).at fun o q=>Yh _ q,fun _=>True.intro,fun y hy=>absurd rfl hy⟩
theorem yy{prog:Program}{w:World}{env:Env}{e:Expr}{f:Str}{pos:Pos}{s:Shared}{Q:Kv}(hb:attributeBase e f env (eval e env)=eval e env)
  (h:wpAny (model prog w) A (eval e env) (fun o s₁=>wpAny (model prog w) A (getAttr o f true) Q E s₁) E s):wpAny (model prog w) A (eval (.Attribute e f pos) env) Q E s:=
 Attribute_any_ h (by rw[arm_eval_Attribute,hb])
end
def Ev(K:Kq)(ta:TE)(f:Str):TE:=fun σ H Q=>ta σ H fun x H1=>∃a C dx fs v,x=.ref a/\H1 a=some (.ins C dx fs)/\Cls K C/\NoAttr K C f/\fs.lookup f=some v/\Q v H1
def Eu(K:Kq)(ta tv:TE)(f:Str):TS:=fun D σ H=>tv σ H fun y H1=>ta σ H1 fun x H2=>∃a C dx fs,x=.ref a/\H2 a=some (.ins C dx fs)/\Cls K C/\NoAttr K C f/\fs.length<1000 /\
 D.nx σ (upd H2 a (.ins C dx (eJ f y fs)))
section
variable{X:Cx}{o e value:Expr}{f:Str}{pos pos' tpos:Pos}{ta tv:TE}
theorem Ad(he:PE X e ta)(hb:attributeBase e f X.env (eval e X.env)=eval e X.env):PE X (.Attribute e f pos) (Ev X.K ta f):=by intro pz s σ H Q I h;refine yy hb (bC (he pz s σ H _ I h) fun u s1 x H1 I1 rx hh_=>?_);obtain⟨a,C,dx,fs,v,ex,ea,c,n,l,q⟩:=hh_;subst ex;obtain rfl:u=Value.ref a:=rx;exact pR I1 ea c n l fun u' s2 I2 ru=>⟨v,H1,I2,ru,q⟩
theorem BQ(ha:PE X o ta)(hv:PE X value tv)(hs:swapsWith value (some (.Attribute o f pos')) pos.line X.env=pure false):PS X (.Assign [.Attribute o f pos'] value pos) (Eu X.K ta tv f):=by intro pz s σ H D I h;refine plainObj_wpAny_Assign_Attribute (bC (hv pz s σ H _ I h) fun u s1 y H1 I1 ry q=>bC (ha pz s1 σ H1 _ I1 q) fun ov s2 x H2 I2 rx hh_=>?_) hs;obtain⟨a,C,dx,fs,ex,ea,c,n,l,q2⟩:=hh_;subst ex;obtain rfl:ov=Value.ref a:=rx;exact qM I2 ea c n l ry fun s3 I3=>⟨σ,_,I3,q2⟩
end
section
variable{X:Cx}{pz:Kp}{σ:St}{H:Hp}{s:Shared}{A:Around}{E:Kv}{Q:Kv}{c:Value}{b:Bool}
end
structure Room (k:Nat) (A:Around):Prop where
 hd:A.handled=none
 dp:A.depth+3*k+5<recursionLimit
 un:A.units+16*k+200<cLine
theorem Room.mono{j k:Nat}{A:Around}(r:Room k A)(h:j<=k):Room j A:=⟨r.hd,by have:=r.dp;omega,by have:=r.un;omega⟩
theorem Room.deeper{k:Nat}{A:Around}(r:Room (k+1) A)(env:Env):Room k (A.deeper env):=
 ⟨r.hd,by have:=r.dp;show A.depth+1+3*k+5<_;omega,by have:=r.un;show A.units+3+16*k+200<_;omega⟩
theorem rh{A:Around}{C:Addr}{us:List Value}{kw:List (Str×Value)}:(A.under (.builtin "type.__call__" ⟨.ref C::us,kw⟩)).depth=A.depth+1:=by
 first|rfl|simp[Around.under,Code.weight,Code.isCreation,Code.isGuard,Code.isCaller,Code.frames,Code.isFrame,guardIds]
theorem pT{A:Around}{C:Addr}{us:List Value}{kw:List (Str×Value)}:(A.under (.builtin "type.__call__" ⟨.ref C::us,kw⟩)).units=A.units+1:=by
 first|rfl|simp[Around.under,Code.cUnits,Code.frames,Code.isFrame]
theorem Room.make{k:Nat}{A:Around}(r:Room (k+1) A)(C:Addr)(us:List Value)(kw:List (Str×Value)):Room k (A.under (.builtin "type.__call__" ⟨.ref C::us,kw⟩)):=
 ⟨r.hd,by have:=r.dp;rw[rh];omega,by have:=r.un;rw[pT];omega⟩
theorem Room.depth{k:Nat}{A:Around}(r:Room k A):A.depth<recursionLimit:=by have:=r.dp;omega
def tE:TA:=fun _ H Q=>Q [] H
def oW(ta:TE)(tr:TA):TA:=fun σ H Q=>ta σ H fun x H1=>tr σ H1 fun xs H2=>Q (x::xs) H2
section
variable{X:Cx}{e:Expr}{es:List Expr}{te:TE}{t:TA}{pos:Pos}
theorem bK:PA X [] tE:=fun _ _ _ _ H Q I h=>Calls.spliced_nil ⟨[],H,I,.nil,h⟩
theorem ba(ha:PE X e te)(hr:PA X es t)(hs:starEach (e::es) X.env=(false,eval e X.env)::starEach es X.env:=by rfl):PA X (e::es) (oW te t):=by intro pos pz s σ H Q I h;rw[hs];show wpAny _ _ (spliced ((false,eval e X.env)::backTo pos (starEach es X.env))) _ _ s;refine Calls.spliced_cons (bC (ha pz s σ H _ I h) fun u s1 x H1 I1 r1 q1=>?_);exact bC (hr pos pz s1 σ H1 _ I1 q1) fun us s2 xs H2 I2 r2 q2=>⟨x::xs,H2,I2,.cons r1 r2,q2⟩
def EO(t:TA):TE:=fun σ H Q=>t σ H fun xs H1=>xs.length<=sizeLine/\∀p,H1 p=none->Q (.ref p) (upd H1 p (.tup xs))
def Et(t:TA):TE:=fun σ H Q=>t σ H fun xs H1=>xs.length<=sizeLine/\∀p,H1 p=none->Q (.ref p) (upd H1 p (.lst xs))
theorem Az{x1}(h:PA X es t):PE X (.Tuple es x1 pos) (EO t):=by intro pz s σ H Q I hq;refine wpAny_Tuple_spliced (bC (h pos pz s σ H _ I hq) fun us s1 xs H1 I1 r ⟨z,q⟩=>⟨by rw[<-r.length];exact z,?_⟩);have hf:H1 s1.heap.objs.size=none:=I1.hok.fresh (Yl _);refine⟨.ref s1.heap.objs.size,upd H1 s1.heap.objs.size (.tup xs),I1.laid (t':=s1.toks) (fun b u e=>Yh _ e) (Yl _) ?_,rfl,q _ hf⟩;exact⟨z,us,r,⟨_,Ym _ rfl,rfl,_,rfl⟩,_,Ym _ rfl,rfl⟩
theorem As(h:PA X es t):PE X (.List es pos) (Et t):=by intro pz s σ H Q I hq;refine wpAny_List_spliced (bC (h pos pz s σ H _ I hq) fun us s1 xs H1 I1 r ⟨z,q⟩=>⟨by rw[<-r.length];exact z,?_⟩);have hf:H1 s1.heap.objs.size=none:=I1.hok.fresh (Yl _);refine⟨.ref s1.heap.objs.size,upd H1 s1.heap.objs.size (.lst xs),I1.laid (t':=s1.toks) (fun b u e=>Yh _ e) (Yl _) ?_,rfl,q _ hf⟩;exact⟨z,us,0,r,Ym _ rfl⟩
end
abbrev Sp:=List V->Hp->VK->XK->Prop
abbrev CXT:=List Env->Hp->Shared->XK->Value->Shared->Prop
structure Env0 (P:Program) (w:World) (K:PySem.W.Frag) (mg:Str->Option Value) (base:Heap) (A:Around) (outer:List Env) (s:Shared) (H:Hp):Prop where
 frames:A.frames=some outer
 mod:Mod K mg base
 bs:∀b o,base.get? b=some o->s.heap.get? b=some o/\H b=none
 bsz:base.objs.size<=s.heap.objs.size
 funs:s.heap.FunFrames base outer
 frf:∀b∈frs outer,H b=none
 hok:HOk P w H s.heap
 bare:AllBare s.gens
def CE(outer:List Env)(P:Program)(w:World)(H:Hp)(s:Shared)(Q:VK)(u:Value)(s':Shared):Prop:=
 ∃v H',s'.os=s.os/\AllBare s'.gens/\Un (frs outer) [] H H' s.heap s'.heap/\HOk P w H' s'.heap/\RelV v u/\Q v H'
def CR(CX:CXT)(outer:List Env)(P:Program)(w:World)(H:Hp)(s:Shared)(Q:VK)(E:XK)(r:Result)(s':Shared):Prop:=
 match r with
 |.ok (.ret u)=>CE outer P w H s Q u s'
 |.ok _=>False
 |.error e=>CX outer H s E e s'
structure FnOk (P:Program) (w:World) (K:PySem.W.Frag) (mg:Str->Option Value) (base:Heap) (CX:CXT) (k:Nat) (f:Addr) (fd:FuncData) (ps:List Str) (sp:Sp):Prop where
 len:∀vs H Q E,sp vs H Q E->vs.length=ps.length
 run:∀(A:Around) (outer:List Env) (s:Shared) (H:Hp) (args:Args) (us:List Value) (vs:List V) (Q:VK) (E:XK),Room k A->Env0 P w K mg base A outer s H->BindsTo s fd args (ps.zip us)->Vals vs us->sp vs H Q E->
  codeAny (model P w) A (.call (.ref f) args) (CR CX outer P w H s Q E) s
theorem FnOk.imp{P:Program}{w:World}{K:Kq}{mg:Ks}{base:Heap}{CX:CXT}{k:Nat}{f:Addr}{fd:FuncData}{ps:List Str}{sp sp':Sp}(F:FnOk P w K mg base CX k f fd ps sp)
  (h:∀vs H Q E,sp' vs H Q E->sp vs H Q E):FnOk P w K mg base CX k f fd ps sp':=
 ⟨fun vs H Q E q=>F.len vs H Q E (h _ _ _ _ q),fun A outer s H args us vs Q E hr he hb hv hs=>F.run A outer s H args us vs Q E hr he hb hv (h _ _ _ _ hs)⟩
theorem Env0.make{P:Program}{w:World}{K:Kq}{mg:Ks}{base:Heap}{A:Around}{outer:List Env}{s:Shared}{H:Hp}(e:Env0 P w K mg base A outer s H)(C:Addr)(us:List Value)(kw:List (Str×Value)) :
  Env0 P w K mg base (A.under (.builtin "type.__call__" ⟨.ref C::us,kw⟩)) outer s H:=⟨by first|exact e.frames|(simpa[Around.under,Code.envs,Code.isFrame,pushEnvs]using e.frames),e.mod,e.bs,e.bsz,e.funs,e.frf,e.hok,e.bare⟩
section
variable{X:Cx}{pz:Kp}{σ:St}{H:Hp}{s s':Shared}
theorem Inv.env0(I:Inv X pz σ H s):Env0 X.prog X.w X.K X.mg X.base X.A X.stack s H:=
 ⟨I.ok.frames,I.ok.mod,I.bs,YC I.ok.bsz I.sz,I.stack,I.stkFree,I.hok,I.bare⟩
theorem Inv.after{Q:VK}{u:Value}(I:Inv X pz σ H s)(h:CE X.stack X.prog X.w H s Q u s'):EP X pz σ Q u s':=by obtain⟨v,H',os,bare,un,hok,r,q⟩:=h;obtain⟨hh,g,d,t,os'⟩:=s';obtain rfl:os'=s.os:=os;exact⟨v,H',I.call (h':=hh) (g':=g) (d':=d) (t':=t) (ch:=[]) un hok bare (fun b z=>absurd z (by simp)),r,q⟩
end
def xc(sp:Sp)(dvs:List V)(E:XK)(t:TA):TE:=fun σ H Q=>t σ H fun vs H1=>sp (vs++dvs) H1 Q E
def rN(C:Addr)(m:Str)(sp:Sp)(dvs:List V)(E:XK)(ta:TE)(t:TA):TE:=fun σ H Q=>ta σ H fun x H1=>∃a dx fs,x=.ref a/\H1 a=some (.ins C dx fs)/\fs.lookup m=none /\
 t σ H1 fun vs H2=>sp (x::(vs++dvs)) H2 Q E
def CT(C:Addr)(sp:Sp)(dvs:List V)(E:XK)(t:TA):TE:=fun σ H Q=>t σ H fun vs H1=>∀x dx,H1 x=none->H1 dx=none->dx≠x->
 sp (.ref x::(vs++dvs)) (upd (upd H1 dx (.own x)) x (.ins C dx [])) (fun v H2=>v=.non/\Q (.ref x) H2) E
def Binds(K:Kq)(fd:FuncData)(ps:List Str)(ds:List Value):Prop:=
 ∀(s:Shared) (us:List Value),K.In s.heap->(us++ds).length=ps.length->BindsTo s fd ⟨us,[]⟩ (ps.zip (us++ds))
theorem Binds.all{K:Kq}{fd:FuncData}{ps:List Str}(h:∀us:List Value,us.length=ps.length->bindArgs fd ⟨us,[]⟩=pure (ps.zip us)):Binds K fd ps []:=fun s us _ hl=>by
 rw[Zf]at hl ⊢;exact .of_eq (h us hl)
def f7(CX:CXT)(X:Cx)(E:XK):Prop:=∀(pz:Kp) (σ:St) (H:Hp) (s:Shared) (e:Value) (s':Shared),Inv X pz σ H s->CX X.stack H s E e s'->X.xe e s'
section
variable{X:Cx}{CX:CXT}{k:Nat}{f C:Addr}{fd:FuncData}{ps:List Str}{sp:Sp}{dvs:List V}{ds:List Value}{E:XK}{x m:Str}{p pos apos:Pos}{e o:Expr}{es:List Expr}{ta:TE}{t:TA}
theorem rm{pz:Kp}{σ:St}{H:Hp}{s:Shared}{Q:VK}{us:List Value}{vs:List V}(F:FnOk X.prog X.w X.K X.mg X.base CX k f fd ps sp)(hr:Room k X.A)(hb:Binds X.K fd ps ds)(hd:Vals dvs ds)(hx:f7 CX X E)
  (I:Inv X pz σ H s) (r:Vals vs us) (h:sp (vs++dvs) H Q E):wpAny (model X.prog X.w) X.A (call (.ref f) us) (EP X pz σ Q) X.xe s:=by
 have r2:Vals (vs++dvs) (us++ds):=r.append hd;have hl:(us++ds).length=ps.length:=by rw[<-r2.length];exact F.len _ _ _ _ h
 refine wpAny_call (VM (F.run X.A X.stack s H ⟨us,[]⟩ (us++ds) (vs++dvs) Q E hr I.env0 (hb s us I.kIn hl) r2 h) fun r s' hq=>?_);cases r with
 |error e=>exact hx pz σ H s e s' I hq
 |ok fl=>
  cases fl with
  |ret u=>exact I.after hq
  |next=>exact False.elim hq
  |brk=>exact False.elim hq
  |cont=>exact False.elim hq
theorem nk(F:FnOk X.prog X.w X.K X.mg X.base CX k f fd ps sp)(hr:Room k X.A)(hg:Gl X x)(hm:X.mg x=some (.ref f))(hk:PySem.W.keepIn X.K (.ref f)=true)(hb:Binds X.K fd ps ds)(hd:Vals dvs ds)(hx:f7 CX X E)
  (ha:PA X (e::es) t) (hdb:(x == ("__debug__":Str))=false:=by decide) (he:starEach (e::es) X.env=(false,eval e X.env)::starEach es X.env:=by rfl) (hpl:(backTo pos (starEach es X.env)).any (·.1)=false:=by rfl) :
  PE X (.Call (.Name x p) (e::es) [] pos) (xc sp dvs E t):=by
 intro pz s σ H Q I h;refine XR (l9 I hg hm ?_ hdb);refine VN (h₀:=X.base) I.ok.mod.kin hk (bC (ha pos pz s σ H _ I h) fun us s1 vs H1 I1 r q=>⟨I1.kIn,?_⟩) he hpl;exact rm F hr hb hd hx I1 r q
theorem xN{pl:Sem Bool}(he:PE X o ta)(c:Cls X.K C)(hm:Meth X.K C m f)(F:FnOk X.prog X.w X.K X.mg X.base CX k f fd ps sp)(hr:Room k X.A)(hb:Binds X.K fd ps ds)(hd:Vals dvs ds)(hx:f7 CX X E)(ha:PA X (e::es) t)
  (hst:starEach (e::es) X.env=(false,eval e X.env)::starEach es X.env:=by rfl) (hpl:(backTo pos (starEach es X.env)).any (·.1)=false:=by rfl)
  (ht:eval (.Call (.Attribute o m apos) (e::es) [] pos) X.env=(do
   let ov <-eval o X.env
   standAt apos.atName
   let (f,first) <-holding [ov] (getMethod ov m pl)
   callWith pos f first (backTo pos (starEach (e::es) X.env)) (backToKw pos (keywordEach [] X.env))):=by rfl) :
  PE X (.Call (.Attribute o m apos) (e::es) [] pos) (rN C m sp dvs E ta t):=by
 intro pz s σ H Q I h;refine PySem.W.methodCall_KW (pl:=pl) (bC (he pz s σ H _ I h) fun u s1 x H1 I1 rx hh_=>?_) ht;obtain⟨a,dx,fs,ex,ea,l,q⟩:=hh_;subst ex;obtain rfl:u=Value.ref a:=rx;refine kt I1 ea c hm l ?_;refine VN (first:=[.ref a]) (h₀:=X.base) I.ok.mod.kin hm.kp (bC (ha pos pz s1 σ H1 _ I1 q) fun us s2 vs H2 I2 r q2=>⟨I2.kIn,?_⟩) hst hpl;exact rm (us:=.ref a::us) (vs:=.ref a::vs) F hr hb hd hx I2 (.cons rfl r) q2
theorem vZ{pl:Sem Bool}(he:PE X o ta)(c:Cls X.K C)(hm:Meth X.K C m f)(F:FnOk X.prog X.w X.K X.mg X.base CX k f fd ps sp)(hr:Room k X.A)(hb:Binds X.K fd ps ds)(hd:Vals dvs ds)(hx:f7 CX X E)
  (ht:eval (.Call (.Attribute o m apos) [] [] pos) X.env=(do
   let ov <-eval o X.env
   standAt apos.atName
   let (f,first) <-holding [ov] (getMethod ov m pl)
   callWith pos f first (backTo pos (starEach [] X.env)) (backToKw pos (keywordEach [] X.env))):=by rfl) :
  PE X (.Call (.Attribute o m apos) [] [] pos) (rN C m sp dvs E ta tE):=by
 intro pz s σ H Q I h;refine PySem.W.methodCall_KW (pl:=pl) (bC (he pz s σ H _ I h) fun u s1 x H1 I1 rx hh_=>?_) ht;obtain⟨a,dx,fs,ex,ea,l,q⟩:=hh_;subst ex;obtain rfl:u=Value.ref a:=rx;refine kt I1 ea c hm l ?_;exact PySem.W.callWith_K0 (first:=[.ref a]) I1.kIn hm.kp (rm (us:=[.ref a]) (vs:=[.ref a]) F hr hb hd hx I1 (.cons rfl .nil) q)
structure Mk (K:PySem.W.Frag) (C f:Addr):Prop where
 makes:PySem.W.makesIn K C=true
 init:PySem.W.findIn K (.ref C) "__init__"=some (some (.ref f))
 fn:PySem.W.isFn K (.ref f)=true
 kp:PySem.W.keepIn K (.ref C)=true
theorem u7{pz:Kp}{σ:St}{H:Hp}{s:Shared}{Q:VK}{us:List Value}{vs:List V}(M:Mk X.K C f)(F:FnOk X.prog X.w X.K X.mg X.base CX k f fd ps sp)(hr:Room (k+1) X.A)(hb:Binds X.K fd ps ds)(hd:Vals dvs ds)
  (hx:f7 CX X E) (I:Inv X pz σ H s) (r:Vals vs us)
  (h:∀x dx,H x=none->H dx=none->dx≠x->sp (.ref x::(vs++dvs)) (upd (upd H dx (.own x)) x (.ins C dx [])) (fun v H2=>v=.non/\Q (.ref x) H2) E) :
  wpAny (model X.prog X.w) X.A (call (.ref C) us) (EP X pz σ Q) X.xe s:=by
 have hq:=h (s.heap.objs.size+1) s.heap.objs.size (I.hok.fresh (Xd _)) (I.hok.fresh (Yl _)) (YA (ZX _));have I2:=Inv.made (C:=C) I;have r2:Vals (V.ref (s.heap.objs.size+1)::(vs++dvs)) (Value.ref (s.heap.objs.size+1)::(us++ds)):=.cons rfl (r.append hd);have hl:(Value.ref (s.heap.objs.size+1)::us++ds).length=ps.length:=by have e:=r2.length;rw[F.len _ _ _ _ hq]at e;exact e.symm
 refine wpAny_call (wx (f:=f) I.kIn M.makes M.init (Vz.mp M.fn) (VM (F.run _ X.stack _ _ ⟨Value.ref (s.heap.objs.size+1)::us,[]⟩ (Value.ref (s.heap.objs.size+1)::(us++ds)) _ _ E (hr.make C us [])
  (I2.env0.make C us []) (hb _ (Value.ref (s.heap.objs.size+1)::us) I2.kIn hl) r2 hq) fun r s' hq'=>?_))
 cases r with
 |error e=>exact hx pz σ _ _ e s' I2 hq'
 |ok fl=>
  cases fl with
  |ret u=>
   obtain⟨v,H',I3,rv,ev,q3⟩:=I2.after hq';subst ev;exact⟨rv,⟨V.ref (s.heap.objs.size+1),H',I3,rfl,q3⟩⟩
  |next=>exact False.elim hq'
  |brk=>exact False.elim hq'
  |cont=>exact False.elim hq'
theorem xU(M:Mk X.K C f)(F:FnOk X.prog X.w X.K X.mg X.base CX k f fd ps sp)(hr:Room (k+1) X.A)(hg:Gl X x)(hm:X.mg x=some (.ref C))(hb:Binds X.K fd ps ds)(hd:Vals dvs ds)(hx:f7 CX X E)
  (ha:PA X (e::es) t) (hdb:(x == ("__debug__":Str))=false:=by decide) (he:starEach (e::es) X.env=(false,eval e X.env)::starEach es X.env:=by rfl) (hpl:(backTo pos (starEach es X.env)).any (·.1)=false:=by rfl) :
  PE X (.Call (.Name x p) (e::es) [] pos) (CT C sp dvs E t):=by
 intro pz s σ H Q I h;refine XR (l9 I hg hm ?_ hdb);refine VN (h₀:=X.base) I.ok.mod.kin M.kp (bC (ha pos pz s σ H _ I h) fun us s1 vs H1 I1 r q=>⟨I1.kIn,?_⟩) he hpl;exact u7 M F hr hb hd hx I1 r q
end
section
variable{X:Cx}{CX:CXT}{k:Nat}{f C:Addr}{fd:FuncData}{ps ks:List Str}{sp:Sp}{E:XK}{x m:Str}{p pos apos kpos:Pos}{e o:Expr}{es:List Expr}{kws:List Keyword}{te ta:TE}{t tk:TA}{nm:Option Str}
variable{g:List Value->List Value->List Value}{gV:List V->List V->List V}
end
structure FnScope (N P:List Str) (sc:Scope):Prop where
 kind:sc.kind=.function
 co:sc.isCoroutine=false
 gen:sc.isGenerator=false
 nd:N.Nodup
 pre:N.take P.length=P
 par:∀x∈P,sc.names.lookup x=some .local\/sc.names.lookup x=some .cell
 nofree:∀y∈sc.names,y.2≠.free
theorem lJ{kindOf:Str->Option NameKind}{x:Str}:∀{binds:List (Str×Value)}{m:Ks},(∀v,(x,v)∉binds)->bindL kindOf binds m x=m x
 |[],_,_=>rfl
 |(n,v)::r,m,h=>by
  unfold bindL;rw[lJ fun w hw=>h w (Yc _ hw)];split
  ·have:x≠n:=by rintro rfl;exact h v Ye
   simp[this]
  ·rfl
theorem ln{kindOf:Str->Option NameKind}{x:Str}:∀{binds:List (Str×Value)}{m:Ks},(∀v,(x,v)∉binds)->bindC kindOf binds m x=m x
 |[],_,_=>rfl
 |(n,v)::r,m,h=>by
  unfold bindC;rw[ln fun w hw=>h w (Yc _ hw)];split
  ·rfl
  ·have:x≠n:=by rintro rfl;exact h v Ye
   simp[this]
theorem kS{kindOf:Str->Option NameKind}{x:Str}{v:Value}:∀{P:List Str}{vs:List Value}{i:Nat}{m:Ks},P.Nodup->P[i]?=some x->vs[i]?=some v->kindOf x=some .local->
  bindL kindOf (P.zip vs) m x=some v
 |[],_,_,_,_,h,_,_=>by simp at h
 |_::_,[],_,_,_,_,h,_=>by simp at h
 |p::P,w::vs,0,m,nd,h1,h2,hk=>by
  simp at h1 h2;subst h1;subst h2;show bindL kindOf ((p,w)::P.zip vs) m p=_;unfold bindL;rw[lJ fun v hv=>(ZU.mp nd).1 (List.of_mem_zip hv).1,if_pos hk];simp
 |p::P,w::vs,i+1,m,nd,h1,h2,hk=>by
  show bindL kindOf ((p,w)::P.zip vs) m x=_;unfold bindL;exact kS (i:=i) (ZU.mp nd).2 (by simpa using h1) (by simpa using h2) hk
theorem kP{kindOf:Str->Option NameKind}{x:Str}{v:Value}:∀{P:List Str}{vs:List Value}{i:Nat}{m:Ks},P.Nodup->P[i]?=some x->vs[i]?=some v->kindOf x≠some .local->
  bindC kindOf (P.zip vs) m x=some v
 |[],_,_,_,_,h,_,_=>by simp at h
 |_::_,[],_,_,_,_,h,_=>by simp at h
 |p::P,w::vs,0,m,nd,h1,h2,hk=>by
  simp at h1 h2;subst h1;subst h2;show bindC kindOf ((p,w)::P.zip vs) m p=_;unfold bindC;rw[ln fun v hv=>(ZU.mp nd).1 (List.of_mem_zip hv).1,if_neg hk];simp
 |p::P,w::vs,i+1,m,nd,h1,h2,hk=>by
  show bindC kindOf ((p,w)::P.zip vs) m x=_;unfold bindC;exact kP (i:=i) (ZU.mp nd).2 (by simpa using h1) (by simpa using h2) hk
def start(N:List Str)(vs:List V):St:=vs.map some++List.replicate (N.length-vs.length) none
def nR(CX:CXT)(P:Program)(w:World)(K:Kq)(mg:Ks)(base:Heap)(N:List Str)(qual:Str)(scope:Scope)(f:Addr)(cd:Value)(A:Around)(outer:List Env)(s:Shared)(H:Hp)(E:XK):Cx where
 prog:=P
 w:=w
 K:=K
 mg:=mg
 base:=base
 A:=A.deeper (envOfC qual scope s.heap.objs.size f cd)
 N:=N
 s₀:=s
 H₀:=H
 env:=envOfC qual scope s.heap.objs.size f cd
 outer:=outer
 stack:=envOfC qual scope s.heap.objs.size f cd::outer
 ex:=[]
 calm:=true
 fn:=fun _=>true
 pn:=[]
 xe:=fun e s'=>wpAny (model P w) (A.deeper (envOfC qual scope s.heap.objs.size f cd)) (leaving (envOfC qual scope s.heap.objs.size f cd) e) (fun _ s''=>CX outer H s E e s'') (fun e' s''=>CX outer H s E e' s'') s'
theorem ph{sc:Scope}{n:Nat}{x:Str}(h:sc.names.lookup x=some .cell):∃c,(cellsFrom n sc.names []).lookup x=some c:=by have q:=Xx sc.names n [] (.inl h);exact ZW.mp q
theorem uH{CX:CXT}{P:Program}{w:World}{K:Kq}{mg:Ks}{base:Heap}{N ps:List Str}{qual:Str}{scope:Scope}{f:Addr}{cd:Value}{A:Around}{outer:List Env}{s s1:Shared}{H:Hp}{E:XK}{us:List Value}{vs:List V}
  (S:FnScope N ps scope) (hd:A.handled=none) (e0:Env0 P w K mg base A outer s H) (hl:vs.length=ps.length) (r:Vals vs us)
  (x:InCallC s s.heap.objs.size (bindL (envOfC qual scope s.heap.objs.size f cd).kindOf (ps.zip us) fun _=>none) (cellsFrom (s.heap.objs.size+1) scope.names []) (bindC (envOfC qual scope s.heap.objs.size f cd).kindOf (ps.zip us) fun _=>none) s1) :
  Inv (nR CX P w K mg base N qual scope f cd A outer s H E) [] (start N vs) H s1:=by
 have hpl:ps.length<=N.length:=by have:=Zs List.length S.pre;rw[ZN]at this;omega
 obtain⟨h1,tk,rfl,hk⟩:=x.done;have noA:∀b:Addr,b∉(nR CX P w K mg base N qual scope f cd A outer s H E).ex:=fun b z=>absurd (show b∈([]:List Addr)from z) (by simp)
 refine⟨⟨e0.mod,S.kind,rfl,rfl,Yl _,fun y z c h1 h2=>?_,fun y hy=>?_,fun y c _ h=>?_,fun _=>hd,Around.frames_deeper e0.frames,.inr ⟨rfl,rfl⟩,fun b z=>absurd z (noA b),e0.bs,e0.bsz,fun b _ _=>noA b,fun b z=>absurd z (noA b),e0.funs,e0.frf⟩,
  rfl,e0.bare,Un.kept hk,⟨_,x.toInCall.ns,fun i y v h1 h2 h3=>?_⟩,fun y c h=>⟨_,x.cell y c h⟩,e0.hok.fresh (Yl _),fun y c h=>?_,fun p hp=>absurd (show p∈([]:Kp)from hp) (by simp),e0.hok.kept hk,?_⟩
 ·exact name_of_addr x.apart (Zy h1) (Zy h2)
 ·have hy:scope.names.lookup y=some .cell\/scope.names.lookup y=some .free:=hy;rcases hy with hy|hy
  ·exact ph hy
  ·exact absurd rfl (S.nofree _ (Zy hy))
 ·exact ZL (x.above y c (Zy h))
 ·have hi:i<vs.length:=by
   unfold start at h2;by_cases hi:i<vs.length
   ·exact hi
   ·rw[Zr (by simpa using hi)]at h2;rw[Xp]at h2;split at h2<;>cases h2
  have ha:vs[i]?=some v:=by
   unfold start at h2;rw[Zu (by simpa using hi),Ys]at h2;cases e:vs[i]? with
   |none=>rw[e]at h2;cases h2
   |some a=>rw[e]at h2;cases h2;rfl
  obtain⟨u,hu,rv⟩:=r.get ha;have hp:ps[i]?=some y:=by rw[<-S.pre,List.getElem?_take_of_lt (by omega)];exact h1
  have ndP:ps.Nodup:=by rw[<-S.pre];exact S.nd.sublist (List.take_sublist _ _)
  refine⟨u,rv,?_⟩;rcases S.par y (YD hp)with k|k
  ·exact .inl ⟨k,kS ndP hp hu k⟩
  ·obtain⟨c,e⟩:=ph (n:=s.heap.objs.size+1) k;refine .inr ⟨.inl k,c,e,?_⟩;have q:=x.cell y c e;rw[kP ndP hp hu (by show scope.names.lookup y≠_;rw[k];decide)]at q;exact q
 ·exact e0.hok.fresh (ZL (x.above y c (Zy h)))
 ·unfold start;show _=N.length;rw[Yu,Yd,YH];omega
theorem C8{CX:CXT}{P:Program}{w:World}{K:Kq}{mg:Ks}{base:Heap}{k:Nat}{f:Addr}{name qual:Str}{params:Arguments}{body:List Stmt}{scope:Scope}{dV kV doc pm cdv ct oc:Value}{an od:Option Addr}
  {osl:Array (Option Value)}{N ps:List Str}{sp:Sp} (lk:K.lookup f=some ⟨oc,od,.func (PySem.W.fnOf name qual params body scope dV kV doc pm an cdv ct),osl⟩) (hcd:PySem.W.codeIn K cdv qual=true) (S:FnScope N ps scope)
  (len:∀vs H Q E,sp vs H Q E->vs.length=ps.length)
  (hbody:∀(A:Around) (outer:List Env) (s:Shared) (H:Hp) (vs:List V) (Q:VK) (E:XK),Room k (A.deeper (envOfC qual scope s.heap.objs.size f cdv))->sp vs H Q E->
   ∃t,PSs (nR CX P w K mg base N qual scope f cdv A outer s H E) body t/\t {nx:=fun _ H'=>Q .non H',rt:=Q} (start N vs) H) :
  FnOk P w K mg base CX (k+1) f (PySem.W.fnOf name qual params body scope dV kV doc pm an cdv ct) ps sp:=by
 refine⟨len,fun A outer s H args us vs Q E hr e0 hb r hsp=>?_⟩;have hl:=len _ _ _ _ hsp;have KX:K.In s.heap:=e0.mod.kin.keeps fun b o e=>(e0.bs b o e).1
 have lim:s.heap.NoLimit:=e0.mod.nolimit.keeps fun b o e=>(e0.bs b o e).1
 have hkind:∀y∈ps.zip us,scope.names.lookup y.1=some .local\/(scope.names.lookup y.1=some .cell/\((cellsFrom (s.heap.objs.size+1) scope.names []).lookup y.1).isSome=true):=fun⟨n,v⟩ hy=>by
  rcases S.par n (List.of_mem_zip hy).1 with q|q
  ·exact .inl q
  ·exact .inr ⟨q,Xx _ _ _ (.inl q)⟩
 refine codeAny_call_function hr.depth (KX _ _ lk) rfl S.co S.gen rfl (PySem.W.codeRec_of KX hcd) (hb _ _ _ _ ?_);refine wpAny_newFunctionEnv_cells S.kind hkind fun env he s1 x=>?_;subst he;refine⟨lim.keeps x.toInCall.keep,codeAny_func ?_⟩;obtain⟨t,ht,hq⟩:=hbody A outer s H vs Q E (hr.deeper _) hsp;have I:Inv (nR CX P w K mg base N qual scope f cdv A outer s H E) [] (start N vs) H s1:=uH S hr.hd e0 hl r x;refine Xl (ht [] s1 (start N vs) H _ I hq) (fun fl s' hs=>?_) fun e s' hs=>hs;have fin:∀{σ':St}{H':Hp}{v:V}{u:Value},Inv (nR CX P w K mg base N qual scope f cdv A outer s H E) [] σ' H' s'->RelV v u->Q v H'->CE outer P w H s Q u s':=
  fun{σ' H' v u} J rv q=>⟨v,H',J.os,J.bare,J.base,J.hok,rv,q⟩
 cases fl with
 |ret u=>
  obtain⟨v,σ',H',J,rv,q⟩:=hs;exact fin J rv q
 |next=>
  obtain⟨σ',H',J,q⟩:=hs;exact fin (v:=V.non) (u:=Value.none) J rfl q
 |brk=>
  obtain⟨_,_,_,q⟩:=hs;exact False.elim q
 |cont=>
  obtain⟨_,_,_,q⟩:=hs;exact False.elim q
section
variable{X:Cx}{x:Str}{p pos:Pos}{e:Expr}{es:List Expr}{t:TA}{id T:String}{r:List V->Hp->VK->Prop}
def tCB(r:List V->Hp->VK->Prop)(t:TA):TE:=fun σ H Q=>t σ H fun vs H1=>r vs H1 Q
theorem dX(hc:CallR X (.builtin id) r)(hg:Gl X x)(hm:X.mg x=none)(hv:bootBuiltins x=some (.builtin id))(ha:PA X (e::es) t)(hn:x ≠ "__name__":=by decide)(hdb:(x == ("__debug__":Str))=false:=by decide)
  (he:starEach (e::es) X.env=(false,eval e X.env)::starEach es X.env:=by rfl) (hpl:(backTo pos (starEach es X.env)).any (·.1)=false:=by rfl):PE X (.Call (.Name x p) (e::es) [] pos) (tCB r t):=by
 intro pz s σ H Q I h;refine XR (fT I hg hm hv ?_ hn hdb);exact PyProof.Rows.callWith_builtin1 (bC (ha pos pz s σ H _ I h) fun us s1 vs H1 I1 r1 q1=>hc pz s1 σ H1 vs us Q I1 r1 q1) he hpl
theorem dZ(hc:CallR X (.type T) r)(hg:Gl X x)(hm:X.mg x=none)(hv:bootBuiltins x=some (.type T))(ha:PA X (e::es) t)(hn:x ≠ "__name__":=by decide)(hdb:(x == ("__debug__":Str))=false:=by decide)
  (he:starEach (e::es) X.env=(false,eval e X.env)::starEach es X.env:=by rfl) (hpl:(backTo pos (starEach es X.env)).any (·.1)=false:=by rfl):PE X (.Call (.Name x p) (e::es) [] pos) (tCB r t):=by
 intro pz s σ H Q I h;refine XR (fT I hg hm hv ?_ hn hdb);exact ZD (bC (ha pos pz s σ H _ I h) fun us s1 vs H1 I1 r1 q1=>hc pz s1 σ H1 vs us Q I1 r1 q1) he hpl
end
end L2
namespace HT
open PySem PyProof.Rows
theorem rcLt_int(A:Around)(s:Shared)(a:Int)(t:Tok)(c:Int)(u:Tok)(prog:Program)(w:World)(E:Value->Shared->Prop)(Q:Value->Shared->Prop)(h:Q (.bool (decide (a<c))) s) :
  wpAny (model prog w) A (richCompare .Lt (.int a t) (.int c u)) Q E s:=
 (PyProof.Rows.lt_int h:wpAny (model prog w) A (compareOp .Lt (.int a t) (.int c u)) Q E s)
section
open PySem.SeqAt
open PySem.AutoSeq1 (wpAny_loadPart')
open PySem.MeetsSeq PySem.MeetsSeq2 PySem.MeetsSeq3
end
section
variable{prog:Program}{w:World}{A:Around}{E:Value->Shared->Prop}{s:Shared}
theorem cat_tup{t b:Addr}{vs ws:List Value}{Q:Value->Shared->Prop}(ht:IsTup s.heap t vs.toArray)(hb:IsTup s.heap b ws.toArray)(hv:vs≠[])
  (h1:ws=[]->Q (.ref t) s) (h2:ws≠[]->Q (.ref s.heap.objs.size) {s with heap:=s.heap.push {cls:=.type "tuple",data:=.seq (vs++ws).toArray} })
  (hsz:vs.length+ws.length<=sizeLine):wpAny (model prog w) A (binaryOp .Add (.ref t) (.ref b)) Q E s:=by
 obtain⟨⟨cls,dd,data,sl⟩,ho,hc,n,hd⟩:=id ht;obtain⟨⟨cls2,dd2,data2,sl2⟩,ho2,hc2,n2,hd2⟩:=id hb;simp only at hc hd hc2 hd2;subst hc hd hc2 hd2;have e:vs.toArray++ws.toArray=(vs++ws).toArray:=by simp
 by_cases hw:ws=[]
 ·exact concat_meets ⟨_,ho,rfl⟩ ⟨_,ho2,rfl⟩ noFill_tuple_add seq_tuple_add PySem.F.slot_tuple_add PySem.F.entry_tuple_add (PySem.F.args_tuple_add_2 _ _)
   (tuple_addW1 t b vs.toArray ws.toArray n n2 dd dd2 sl sl2 (by simpa using hv) (by simp[hw])) ⟨ho,ho2,h1 hw⟩
 ·refine concat_meets ⟨_,ho,rfl⟩ ⟨_,ho2,rfl⟩ noFill_tuple_add seq_tuple_add PySem.F.slot_tuple_add PySem.F.entry_tuple_add (PySem.F.args_tuple_add_2 _ _)
   (tuple_addW2 t b vs.toArray ws.toArray n n2 dd dd2 sl sl2 (by simpa using hv) (by simpa using hw) (by rw[List.size_toArray,List.size_toArray];exact hsz)) ⟨ho,ho2,?_⟩
  rw[e];exact h2 hw
def sIx(n d:Nat):Option Int->Nat
 |none=>d
 |some v=>if v<0 then(v+(n:Int)).toNat else min v.toNat n
end
end HT
namespace L2
open PySem PySem.Spec PyProof.Rows
abbrev TO:=St->Hp->(Option Int->Hp->Prop)->Prop
def PO(X:Cx)(e:Option Expr)(t:TO):Prop:=
 ∀(pz:Kp) (s:Shared) (σ:St) (H:Hp) (Q:Option Int->Hp->Prop),Inv X pz σ H s->t σ H Q->
  wpAny (model X.prog X.w) X.A (evalPart e X.env) (fun u s'=>∃o H',Inv X pz σ H' s'/\IsPart u o/\Q o H') X.xe s
def yp:TO:=fun _ H Q=>Q none H
def Cq(t:TE):TO:=fun σ H Q=>t σ H fun x H1=>∃i,x=.int i/\Q (some i) H1
section
variable{X:Cx}{e:Expr}{te:TE}{lo hi:Option Expr}{tl th:TO}{pos p2:Pos}
theorem xG:PO X none yp:=by intro pz s σ H Q I h;rw[evalPart_none];exact Yg ⟨none,H,I,.none,h⟩
theorem yH(h:PE X e te):PO X (some e) (Cq te):=by intro pz s σ H Q I hw;rw[evalPart_some];refine bC (h pz s σ H _ I hw) fun u s1 x H1 I1 r1 q1=>?_;obtain⟨i,rfl,q⟩:=q1;obtain⟨t,rfl⟩:=r1;exact⟨some i,H1,I1,.int i t,q⟩
def SlR(X:Cx)(r:V->Option Int->Option Int->Hp->VK->Prop):Prop:=
 ∀(pz:Kp) (s:Shared) (σ:St) (H:Hp) (x:V) (v vl vu:Value) (lo hi:Option Int) (sl:Addr) (Q:VK),Inv X pz σ H s->RelV x v->s.heap.IsSliceOf sl vl vu .none->IsPart vl lo->IsPart vu hi->r x lo hi H Q->
  ∃T id,typeLookup (.type T) "__getitem__"=pure (some (.builtin id))/\s.TypeIs v T/\wpAny (model X.prog X.w) X.A (getItem v (.ref sl)) (EP X pz σ Q) X.xe s
def tSl(r:V->Option Int->Option Int->Hp->VK->Prop)(te:TE)(tl th:TO):TE:=fun σ H Q=>te σ H fun x H1=>tl σ H1 fun l H2=>th σ H2 fun u H3=>r x l u H3 Q
theorem wC{r:V->Option Int->Option Int->Hp->VK->Prop}(hr:SlR X r)(he:PE X e te)(hl:PO X lo tl)(hu:PO X hi th):PE X (.Subscript e (.Slice lo hi none p2) pos) (tSl r te tl th):=by
 intro pz s σ H Q I h;refine Subscript_ (bC (he pz s σ H _ I h) fun v s1 x H1 I1 r1 q1=>?_);refine wpAny_Slice (bC (hl pz s1 σ H1 _ I1 q1) fun vl s2 l H2 I2 pl q2=>bC (hu pz s2 σ H2 _ I2 q2) fun vu s3 u H3 I3 pu q3=>?_);rw[evalPart_none];refine Yg ?_;have I4:Inv X pz σ H3 {s3 with heap:=s3.heap.push {cls:=.type "slice",data:=.fields #[vl,vu,.none]} }:=I3.kept (t':=s3.toks) fun b ob q=>Yh _ q
 obtain⟨T,id,hT,ht,hg⟩:=hr pz {s3 with heap:=s3.heap.push {cls:=.type "slice",data:=.fields #[vl,vu,.none]} } σ H3 x v vl vu l u s3.heap.objs.size Q I4 r1 (Heap.IsSliceOf.new ..) pl pu q3;show wpAny (model X.prog X.w) X.A (subscriptTail e (.Slice lo hi none p2) v (.ref s3.heap.objs.size)) (EP X pz σ Q) X.xe {s3 with heap:=s3.heap.push {cls:=.type "slice",data:=.fields #[vl,vu,.none]} };exact tail_any (ops:=[.ref s3.heap.objs.size,v]) ht hT hg (by with_unfolding_all rfl)
def tz(xs:List V)(lo hi:Option Int):List V:=(xs.drop (HT.sIx xs.length 0 lo)).take (HT.sIx xs.length xs.length hi-HT.sIx xs.length 0 lo)
theorem oJ(xs:List V)(lo hi:Option Int):(tz xs lo hi).length<=xs.length:=by unfold tz;rw[ZN,List.length_drop];omega
def DG(K:Kq):R2:=fun x y H Q=>∃a b xs ys,x=.ref a/\y=.ref b/\SqT K H a xs/\SqT K H b ys/\xs≠[]/\xs.length+ys.length<=sizeLine /\
 (ys=[]->Q (.ref a) H)/\(ys≠[]->∀p,H p=none->Q (.ref p) (upd H p (.tup (xs++ys))))
theorem Vals.nil_iff{xs:List V}{us:List Value}(r:Vals xs us):us=[]↔xs=[]:=by
 cases r with
 |nil=>simp
 |cons _ _=>simp
theorem xT:OpR X (binaryOp .Add) (DG X.K):=by intro pz s σ H x y v u Q I rx ry h;obtain⟨a,b,xs,ys,rfl,rfl,ha,hb,hx,hz,q1,q2⟩:=h;cases rx;cases ry;obtain⟨its,r1,p1,_⟩:=I.tuple ha;obtain⟨its2,r2,p2,_⟩:=I.tuple hb;refine HT.cat_tup p1 p2 (fun z=>hx (r1.nil_iff.mp z)) (fun z=>⟨.ref a,H,I,rfl,q1 (r2.nil_iff.mp z)⟩) (fun z=>?_) (by rw[<-r1.length,<-r2.length];exact hz);refine⟨.ref s.heap.objs.size,_,I.laid (t':=s.toks) (o:=.tup (xs++ys)) (fun b ob q=>Yh _ q) (Yl _) ?_,rfl,q2 (fun w=>z (r2.nil_iff.mpr w)) _ (I.hok.fresh (Yl _))⟩;exact⟨by rw[Yu];exact hz,_,r1.append r2,IsTup.new _ _,NoD.new _ _⟩
end
def ixN(n:Nat)(i:Int):Option Nat:=if 0<=i then(if i<n then some i.toNat else none)else if -(n:Int)<=i then some (i+n).toNat else none
def atI{α:Type}(xs:List α)(i:Int):Option α:=(ixN xs.length i).bind fun j=>xs[j]?
theorem yU{n:Nat}{i:Int}{j:Nat}(h:ixN n i=some j):seqIndex? i n=some j/\j<n/\-(n:Int)<=i/\i<n:=by
 unfold ixN at h;by_cases h0:0<=i
 ·rw[if_pos h0]at h;by_cases h1:i<n
  ·rw[if_pos h1]at h;have e:i.toNat=j:=Yy h;exact⟨by rw[seqIndex_of h0 h1,e],by omega,by omega,h1⟩
  ·rw[if_neg h1]at h;cases h
 ·rw[if_neg h0]at h;by_cases h1:-(n:Int)<=i
  ·rw[if_pos h1]at h;have e:(i+n).toNat=j:=Yy h;exact⟨by rw[seqIndex_neg (by omega) h1,e],by omega,h1,by omega⟩
  ·rw[if_neg h1]at h;cases h
theorem mq{α:Type}{xs:List α}{i:Int}{v:α}(h:atI xs i=some v):∃j,seqIndex? i xs.length=some j/\xs[j]?=some v/\j<xs.length/\-(xs.length:Int)<=i/\i<xs.length:=by
 unfold atI at h;cases e:ixN xs.length i with
 |none=>rw[e]at h;cases h
 |some j=>
  rw[e]at h;obtain⟨h1,h2,h3,h4⟩:=yU e;exact⟨j,h1,h,h2,h3,h4⟩
theorem kg{α:Type}(xs:List α)(v:α):atI (xs++[v]) (-1)=some v:=by
 have hl:(xs++[v]).length=xs.length+1:=by simp
 have e:ixN (xs++[v]).length (-1)=some xs.length:=by
  unfold ixN;rw[hl,if_neg (by decide),if_pos (by omega)]
  congr 1
  omega
 unfold atI;rw[e];show(xs++[v])[xs.length]?=some v;simp
def rX(b:Expr):Prop:=∀o i,subscripted b false o i=operate [o,i] (getItem o i)
def IxR(X:Cx)(r:R2):Prop:=
 ∀(value slice:Expr) (pz:Kp) (s:Shared) (σ:St) (H:Hp) (x y:V) (v u:Value) (Q:VK),Inv X pz σ H s->RelV x v->RelV y u->r x y H Q->
  subscripted slice false v u=operate [v,u] (getItem v u)->wpAny (model X.prog X.w) X.A (subscriptTail value slice v u) (EP X pz σ Q) X.xe s
def MtR(X:Cx)(id:String)(r:V->List V->Hp->VK->Prop):Prop:=
 ∀(pz:Kp) (s:Shared) (σ:St) (H:Hp) (x:V) (xs:List V) (v:Value) (us:List Value) (Q:VK),Inv X pz σ H s->RelV x v->Vals xs us->r x xs H Q->
  wpAny (model X.prog X.w) X.A (call (.builtin id) (v::us)) (EP X pz σ Q) X.xe s
section
variable{X:Cx}{a b:Expr}{ta tb:TE}{pos:Pos}
theorem IxR.or{r r':R2}(h:IxR X r)(h':IxR X r'):IxR X (fun x y H Q=>r x y H Q\/r' x y H Q):=by
 intro value slice pz s σ H x y v u Q I rx ry q hs;rcases q with q|q
 ·exact h value slice pz s σ H x y v u Q I rx ry q hs
 ·exact h' value slice pz s σ H x y v u Q I rx ry q hs
theorem Dg{r:R2}(hr:IxR X r)(ha:PE X a ta)(hb:PE X b tb)(hs:rX b):PE X (.Subscript a b pos) (tOp r ta tb):=by intro pz s σ H Q I h;exact Subscript_ (AW ha hb I h fun v u s2 x y H2 I2 rx ry q=>hr a b pz s2 σ H2 x y v u Q I2 rx ry q (hs _ _))
def CP(K:Kq):R2:=fun x y H Q=>∃p xs i v,x=.ref p/\y=.int i/\SqL K H p xs/\atI xs i=some v/\Q v H
def Cv(K:Kq):R2:=fun x y H Q=>∃p xs i v,x=.ref p/\y=.int i/\SqT K H p xs/\atI xs i=some v/\Q v H
def D5:R2:=fun x y H Q=>∃z i c,x=.str z/\y=.int i/\z.length<=sizeLine/\atI z.cps.toList i=some c/\Q (.str ⟨#[c]⟩) H
theorem yC:IxR X (CP X.K):=by
 intro value slice pz s σ H x y v u Q I rx ry h hs;obtain⟨p,xs,i,z,rfl,rfl,hq,he,q⟩:=h;cases rx;obtain⟨t,rfl⟩:=ry;obtain⟨its,r,pl,hz⟩:=I.list hq;obtain⟨j,h1,h2,h3,h4,h5⟩:=mq he;obtain⟨w,ew,rw'⟩:=r.get h2;have hl:=r.length;have hn:=gR;have fin:EP X pz σ Q w s:=⟨z,H,I,rw',q⟩
 by_cases h0:0<=i
 ·have hj:i.toNat=j:=by rw[seqIndex_of h0 h5]at h1;exact Yy h1
  exact item_listR pl.isList h0 (by omega) (by rw[hj];simpa using ew) fin hs
 ·have hj:(i+(its.toArray.size:Int)).toNat=j:=by rw[seqIndex_neg (by omega) h4]at h1;rw[Yx,<-hl];exact Yy h1
  exact subscriptTail_builtinR (x:=w) pl.isList.typeIs slot_list_getitem.lookup
   (wpAny_getItem_list_neg (Q:=fun r s'=>r=w/\EP X pz σ Q r s') pl.isList (by omega) (by rw[Yx]<;>omega) (by omega) (by rw[hj];simpa using ew) ⟨rfl,fin⟩) hs
theorem Af:IxR X (Cv X.K):=by
 intro value slice pz s σ H x y v u Q I rx ry h hs;obtain⟨p,xs,i,z,rfl,rfl,hq,he,q⟩:=h;cases rx;obtain⟨t,rfl⟩:=ry;obtain⟨its,r,pl,hz⟩:=I.tuple hq;obtain⟨j,h1,h2,h3,h4,h5⟩:=mq he;obtain⟨w,ew,rw'⟩:=r.get h2;have hl:=r.length;have hn:=gR;have fin:EP X pz σ Q w s:=⟨z,H,I,rw',q⟩
 exact subscriptTail_builtinR (x:=w) pl.typeIs slot_tuple_getitem.lookup
  (getItem_tuple (j:=j) (Q:=fun r s'=>r=w/\EP X pz σ Q r s') pl (by omega) (by omega) (by rw[Yx,<-hl];exact h1) (by simpa using ew) ⟨rfl,fin⟩) hs
theorem Cb:IxR X D5:=by
 intro value slice pz s σ H x y v u Q I rx ry h hs;obtain⟨z,i,c,rfl,rfl,hz,he,q⟩:=h;obtain⟨t,rfl⟩:=rx;obtain⟨t',rfl⟩:=ry;obtain⟨j,h1,h2,h3,h4,h5⟩:=mq he;have hl:z.cps.toList.length=z.length:=by simp[Str.length]
 rw[hl]at h1 h4 h5;have hn:=gR;exact tail_any (typeIs_str s z t) slot_str_getitem.lookup (getItem_str (c:=c) (by
  have e1:decide (i < -(2^63:Int))=false:=YB (by omega);have e2:decide (i ≥ 2^63)=false:=YB (by omega);rw[e1,e2,Bool.or_false]) (by rw[h1];simpa using h2) ⟨.str ⟨#[c]⟩,H,I.tok _,⟨_,rfl⟩,q⟩) hs
def rIx(K:Kq):R2:=fun x y H Q=>CP K x y H Q\/Cv K x y H Q\/D5 x y H Q
theorem Bv:IxR X (rIx X.K):=yC.or (Af.or Cb)
theorem lS(lo hi:Option Int)(n:Nat):(sliceBounds lo hi none n).1=((HT.sIx n 0 lo:Nat):Int)/\(sliceBounds lo hi none n).2.1=((HT.sIx n n hi:Nat):Int)/\(sliceBounds lo hi none n).2.2=1:=by
 refine⟨?_,?_,rfl⟩
 ·cases lo with
  |none=>simp[sliceBounds,HT.sIx]
  |some i=>
   simp only[sliceBounds,HT.sIx,Option.getD_none,show(1:Int) > 0 by decide,VV];by_cases h:i<0
   ·simp only[h,VV]<;>omega
   ·simp only[h,Vk]<;>omega
 ·cases hi with
  |none=>simp[sliceBounds,HT.sIx]
  |some i=>
   simp only[sliceBounds,HT.sIx,Option.getD_none,show(1:Int) > 0 by decide,VV];by_cases h:i<0
   ·simp only[h,VV]<;>omega
   ·simp only[h,Vk]<;>omega
theorem kI(its:List Value)(lo hi:Option Int):slicePick its.toArray lo hi none=((its.drop (HT.sIx its.length 0 lo)).take (HT.sIx its.length its.length hi-HT.sIx its.length 0 lo)).toArray:=by obtain⟨h1,h2,h3⟩:=lS lo hi its.toArray.size;unfold slicePick;rw[h1,h2,h3];simp only[sliceRange_one,pick_run,Yx]<;>rfl
def EZ(K:Kq):V->Option Int->Option Int->Hp->VK->Prop:=fun x lo hi H Q=>∃a xs,x=.ref a/\SqL K H a xs/\∀p,H p=none->Q (.ref p) (upd H p (.lst (tz xs lo hi)))
theorem zb:SlR X (EZ X.K):=by intro pz s σ H x v vl vu lo hi sl Q I rx hs pl pu h;obtain⟨a,xs,rfl,hx,q⟩:=h;cases rx;obtain⟨its,r,ht,hz⟩:=I.list hx;have hlen:=r.length;refine⟨"list",_,slot_list_getitem.lookup,ht.isList.typeIs,?_⟩;refine wpAny_getItem_list_slice ht.isList hs pl pu .none (by simp) ?_ (by rw[Yx]<;>omega);rw[kI,<-hlen];refine⟨.ref s.heap.objs.size,_,I.laid (t':=s.toks) (o:=.lst (tz xs lo hi)) (fun b ob q=>Yh _ q) (Yl _) ?_,rfl,q _ (I.hok.fresh (Yl _))⟩;exact⟨YC (oJ xs lo hi) hz,_,0,(r.drop (HT.sIx xs.length 0 lo)).take (HT.sIx xs.length xs.length hi-HT.sIx xs.length 0 lo),Ym _ rfl⟩
theorem mQ:CallR X (.builtin "len") (fun xs H Q=>∃p ys,xs=[.ref p]/\(SqL X.K H p ys\/SqT X.K H p ys)/\Q (.int ys.length) H):=by
 intro pz s σ H xs us Q I r h;obtain⟨p,ys,rfl,hq,q⟩:=h;obtain⟨u,rfl,rx⟩:=dI r;cases rx;have hn:=gR;rcases hq with hq|hq
 ·obtain⟨its,r',pl,hz⟩:=I.list hq;have hlen:=r'.length;exact Calls.call_len_list pl.isList (by simp only[Yx]<;>omega) ⟨.int ys.length,H,I.tok _,⟨s.toks+1,by rw[Yx,hlen]⟩,q⟩
 ·obtain⟨its,r',pl,hz⟩:=I.tuple hq;have hlen:=r'.length;exact len_tuple pl (by simp only[Yx]<;>omega) ⟨.int ys.length,H,I.tok _,⟨s.toks+1,by rw[Yx,hlen]⟩,q⟩
theorem mt:CallR X (.builtin "len") (fun xs H Q=>∃z,xs=[.str z]/\z.length<=sizeLine/\Q (.int z.length) H):=by intro pz s σ H xs us Q I r h;obtain⟨z,rfl,hz,q⟩:=h;obtain⟨u,rfl,t,rfl⟩:=dI r;have hn:=gR;exact len_str (by omega) ⟨.int z.length,H,I.tok _,⟨_,rfl⟩,q⟩
theorem CallR.or{f:Value}{r r':List V->Hp->VK->Prop}(h:CallR X f r)(h':CallR X f r'):CallR X f (fun xs H Q=>r xs H Q\/r' xs H Q):=by
 intro pz s σ H xs us Q I rs q;rcases q with q|q
 ·exact h pz s σ H xs us Q I rs q
 ·exact h' pz s σ H xs us Q I rs q
theorem mI:CallR X (.type "list") (fun xs H Q=>∃p ys,xs=[.ref p]/\(SqL X.K H p ys\/SqT X.K H p ys)/\∀l,H l=none->Q (.ref l) (upd H l (.lst ys))):=by
 intro pz s σ H xs us Q I r h;obtain⟨p,ys,rfl,hq,q⟩:=h;obtain⟨u,rfl,rx⟩:=dI r;cases rx;have fin:∀(its:List Value),Vals ys its->ys.length<=sizeLine->∀(h':Heap) (c':Nat),(∀b o',s.heap.get? b=some o'->h'.get? b=some o')->
   h'.get? s.heap.objs.size=some {cls:=.type "list",dict:=none,data:=.seq its.toArray c',slots:=#[]}->EP X pz σ Q (.ref s.heap.objs.size) {s with heap:=h' }:=fun its r' hz h' c' kp e=>
  ⟨.ref s.heap.objs.size,_,I.laid (t':=s.toks) kp (Yl _) (show ObjOk X.prog X.w _ h' _ (.lst ys)from⟨hz,its,c',r',e⟩),rfl,q _ (I.hok.fresh (Yl _))⟩
 rcases hq with hq|hq
 ·obtain⟨its,r',pl,hz⟩:=I.list hq;have hlen:=r'.length;obtain⟨o,ho,hc,n,hd⟩:=pl.isList;exact call_list_seq p (.inl rfl) ho hc hd (fun h' c' kp e=>fin its r' hz h' c' kp e) (by simp only[Yx]<;>omega)
 ·obtain⟨its,r',pl,hz⟩:=I.tuple hq;have hlen:=r'.length;obtain⟨o,ho,hc,n,hd⟩:=pl;exact call_list_seq p (.inr rfl) ho hc hd (fun h' c' kp e=>fin its r' hz h' c' kp e) (by simp only[Yx]<;>omega)
theorem kC:CallR X (.type "tuple") (fun xs H Q=>∃p ys,xs=[.ref p]/\((SqL X.K H p ys/\∀l,H l=none->Q (.ref l) (upd H l (.tup ys)))\/(SqT X.K H p ys/\Q (.ref p) H))):=by
 intro pz s σ H xs us Q I r h;obtain⟨p,ys,rfl,h⟩:=h;obtain⟨u,rfl,rx⟩:=dI r;cases rx;rcases h with⟨hq,q⟩|⟨hq,q⟩
 ·obtain⟨its,r',pl,hz⟩:=I.list hq;have hlen:=r'.length;refine call_tuple_list pl.isList (fun h' kp=>?_) (by simp only[Yx]<;>omega);have I1:Inv X pz σ H {s with heap:=h' }:=I.kept (t':=s.toks) kp;have I2:Inv X pz σ (upd H h'.objs.size (.tup ys)) {s with heap:=h'.push {cls:=.type "tuple",data:=.seq its.toArray} }:=
   I1.laid (t':=s.toks) (fun b o e=>Yh _ e) (Yl _) (show ObjOk X.prog X.w _ _ _ (.tup ys)from⟨hz,its,r',IsTup.new _ _,NoD.new _ _⟩)
  exact⟨.ref h'.objs.size,_,I2,rfl,q _ (I1.hok.fresh (Yl _))⟩
 ·obtain⟨its,r',pl,hz⟩:=I.tuple hq;exact call_tuple_same pl ⟨.ref p,H,I,rfl,q⟩
def tyV(K:Kq)(T:String)(x:V)(H:Hp):Prop:=match x with
 |.str _=>T = "str"
 |.int _=>T = "int"
 |.ref p=>(T = "list"/\∃xs,SqL K H p xs)\/(T = "tuple"/\∃o,K.lookup p=some o/\o.cls=.type "tuple"/\o.dict=none) \/
   (T = "dict"/\((∃kvs,H p=some (.dK kvs))\/∃kvs,H p=some (.dT kvs)))\/(T = "set"/\∃S n,H p=some (.set S n))
 |_=>False
theorem Bk{pz:Kp}{σ:St}{H:Hp}{s:Shared}{T:String}{x:V}{v:Value}(I:Inv X pz σ H s)(r:RelV x v)(ty:tyV X.K T x H) :
  s.TypeIs v T/\∀a,v=.ref a->∃ob,s.heap.get? a=some ob/\ob.dict=none:=by
 cases x with
 |str z=>
  obtain⟨t,rfl⟩:=r;cases(show T = "str" from ty);exact⟨typeIs_str s z t,fun _ e=>nomatch e⟩
 |int i=>
  obtain⟨t,rfl⟩:=r;cases(show T = "int" from ty);exact⟨typeIs_int s i t,fun _ e=>nomatch e⟩
 |ref p=>
  cases r;rcases ty with⟨rfl,xs,hq⟩|⟨rfl,o,hk,hc,hd⟩|⟨rfl,hk⟩|⟨rfl,S,n,hk⟩
  ·obtain⟨its,_,pl,_⟩:=I.list hq;refine⟨pl.isList.typeIs,fun a e=>?_⟩;cases e;obtain⟨o,n,e,c,hd,_⟩:=pl;exact⟨o,e,hd⟩
  ·refine⟨⟨o,I.kIn p o hk,hc⟩,fun a e=>?_⟩;cases e;exact⟨o,I.kIn _ o hk,hd⟩
  ·have z:∃o,s.heap.get? p=some o/\o.ExactDict:=by
    rcases hk with⟨kvs,hk⟩|⟨kvs,hk⟩
    ·obtain⟨_,_,_,_,o,_,_,e,ex,_⟩:=I.hok p _ hk;exact⟨o,e,ex⟩
    ·obtain⟨_,_,_,_,o,_,_,e,ex,_⟩:=I.hok p _ hk;exact⟨o,e,ex⟩
   obtain⟨o,e,ex⟩:=z;refine⟨⟨o,e,ex.1⟩,fun a e2=>?_⟩;cases e2;exact⟨o,e,ex.2.1⟩
  ·obtain⟨o,_,_,_,e,ex,_⟩:=I.hok p _ hk;refine⟨⟨o,e,ex.1⟩,fun a e2=>?_⟩;cases e2;exact⟨o,e,ex.2.1⟩
 |_=>exact False.elim ty
def tBM(K:Kq)(T:String)(r:V->List V->Hp->VK->Prop)(to:TE)(t:TA):TE:=fun σ H Q=>to σ H fun x H1=>tyV K T x H1/\t σ H1 fun xs H2=>r x xs H2 Q
variable{o e:Expr}{es:List Expr}{to:TE}{t:TA}{name:Str}{apos cpos:Pos}{T id:String}{r:V->List V->Hp->VK->Prop}
theorem oG(pa:PlainAttrs T)(slot:Slot T name id)(hty:typeOf (.builtin id)=pure (.type "method_descriptor"))(hm:MtR X id r)(ho:PE X o to)(ha:PA X (e::es) t)
  (hbase:attributeBase o name X.env (eval o X.env)=eval o X.env:=by rfl)
  (hfew:((backTo cpos (starEach (e::es) X.env)).all (fun x=>!x.1)&&(backToKw cpos (keywordEach [] X.env)).all (fun x=>x.1.isSome)
   && decide ((e::es).length+([]:List Keyword).length+(if([]:List Keyword).isEmpty then 0 else 1)<30))=true:=by rfl)
  (hline:(apos.endLine == cpos.line)=true:=by rfl) (hs:starEach (e::es) X.env=(false,eval e X.env)::starEach es X.env:=by rfl) (hplain:(backTo cpos (starEach es X.env)).any (·.1)=false:=by rfl) :
  PE X (.Call (.Attribute o name apos) (e::es) [] cpos) (tBM X.K T r to t):=by
 intro pz s σ H Q I h;refine wpAny_Call_method_late hbase hfew hline rfl (bC (ho pz s σ H _ I h) fun v s1 x H1 I1 r1 hh_=>?_);obtain⟨ty,q1⟩:=hh_;obtain⟨h1,h2⟩:=Bk I1 r1 ty;refine⟨T,id,pa,slot,hty,h1,h2,?_⟩;have hA:=ha cpos pz s1 σ H1 _ I1 q1;rw[hs]at hA ⊢;refine Calls.callWith_builtin (by show(false||(backTo cpos (starEach es X.env)).any (·.1))=false;rw[hplain]<;>rfl) (Calls.evalArgs_plain ?_);exact bC hA fun us s2 vs H2 I2 r2 q2=>hm pz s2 σ H2 x vs v us Q I2 r1 r2 q2
end
def MtM(X:Cx)(id:String)(r:V->List V->Hp->VK->Prop):Prop:=
 ∀(pz:Kp) (s:Shared) (σ:St) (H:Hp) (x:V) (xs:List V) (v:Value) (us:List Value) (Q:VK),Inv X pz σ H s->RelV x v->Vals xs us->r x xs H Q->
  wpAny (model X.prog X.w) X.A (call (.builtin id) (v::us)) (EP X pz σ Q) X.xe s
theorem Vals.one{x:V}{us:List Value}(h:Vals [x] us):∃u,us=[u]/\RelV x u:=dI h
theorem Vals.eraseIdx:∀{xs:List V}{us:List Value} (i:Nat),Vals xs us->Vals (xs.eraseIdx i) (us.eraseIdx i)
 |_,_,_,.nil=>.nil
 |_,_,0,.cons _ t=>t
 |_,_,i+1,.cons r t=>.cons r (Vals.eraseIdx i t)
theorem lb{α:Type}:∀(l:List α) (i:Nat),(l.eraseIdx i).length<=l.length
 |[],_=>Yl _
 |_::_,0=>Xd _
 |_::r,i+1=>Nat.succ_le_succ (lb r i)
section
variable{X:Cx}{pz:Kp}{σ:St}{H:Hp}{s:Shared}{l b:Addr}{xs ys zs:List V}
theorem Inv.lset{its its':List Value}{n:Nat}{f:Array Value->Array Value}{t':Nat}(I:Inv X pz σ H s)(hH:H l=some (.lst xs))
  (e:s.heap.get? l=some {cls:=.type "list",data:=.seq its.toArray n}) (hf:f its.toArray=its'.toArray) (hv:Vals ys its') (hz:ys.length<=sizeLine) :
  Inv X pz σ (upd H l (.lst ys)) {s with heap:=s.heap.update l (Obj.mapSeq f),toks:=t' }:=by
 have q:=PySem.IsL.update e f;rw[hf]at q;refine I.write (x:=l) (e:=l) (by rw[hH];exact trivial) (.inl rfl) (fun b' u hb hu=>(Heap.get?_update_other s.heap (Obj.mapSeq f) (XM hb)).trans hu) ⟨_,q⟩ ?_;exact⟨hz,its',_,hv,q⟩
theorem Inv.lnew{its:List Value}{t':Nat}(I:Inv X pz σ H s)(hv:Vals ys its)(hz:ys.length<=sizeLine) :
  Inv X pz σ (upd H s.heap.objs.size (.lst ys)) {s with heap:=s.heap.push {cls:=.type "list",data:=.seq its.toArray},toks:=t' }:=
 I.laid (fun _ _ q=>Yh _ q) (Yl _) ⟨hz,its,0,hv,Ym _ rfl⟩
theorem Inv.fresh(I:Inv X pz σ H s):H s.heap.objs.size=none:=I.hok.fresh (Yl _)
theorem Inv.lstM(I:Inv X pz σ H s)(hH:H l=some (.lst xs)):xs.length<=sizeLine/\∃(its:List Value) (n:Nat),Vals xs its/\xs.length=its.length/\s.heap.get? l=some {cls:=.type "list",data:=.seq its.toArray n}:=by obtain⟨z,its,n,r,e⟩:=I.hok l _ hH;exact⟨z,its,n,r,r.length,e⟩
end
section
variable{X:Cx}
def yV:V->List V->Hp->VK->Prop:=fun x vs H Q=>∃l xs y,x=.ref l/\vs=[y]/\H l=some (.lst xs)/\xs.length<sizeLine/\Q .non (upd H l (.lst (xs++[y])))
theorem gO:MtM X "list.append" yV:=by intro pz s σ H x vs v us Q I rx rv h;obtain⟨l,xs,y,rfl,rfl,hH,hz,q⟩:=h;cases rx;obtain⟨u,rfl,ru⟩:=rv.one;obtain⟨z,its,n,r,hl,e⟩:=I.lstM hH;refine call_meets F.slot_list_append ⟨_,e,rfl⟩ F.entry_list_append (F.args_list_append_2 _ _) (PySem.list_append l its.toArray n u (by rw[Yx];omega)) ⟨e,?_⟩;refine⟨.non,_,I.lset (its':=its++[u]) hH e (by simp) (r.append (.cons ru .nil)) ?_,rfl,q⟩;rw[Yu,YM];omega
def vh:V->List V->Hp->VK->Prop:=fun x vs H Q=>∃l xs i k y,x=.ref l/\vs=[.int i]/\H l=some (.lst xs)/\-(2^63)<=i/\i<2^63/\seqIndex? i xs.length=some k/\xs[k]?=some y/\Q y (upd H l (.lst (xs.eraseIdx k)))
theorem u4:MtM X "list.pop" vh:=by
 intro pz s σ H x vs v us Q I rx rv h;obtain⟨l,xs,i,k,y,rfl,rfl,hH,h1,h2,hk,hy,q⟩:=h;cases rx;obtain⟨u,rfl,ru⟩:=rv.one;obtain⟨t,rfl⟩:=ru;obtain⟨z,its,n,r,hl,e⟩:=I.lstM hH;obtain⟨w,hw,rw'⟩:=r.get hy;refine call_meets F.slot_list_pop ⟨_,e,rfl⟩ F.entry_list_pop (F.args_list_pop_2 _ _)
  (MeetsSeq.list_pop_at l its.toArray n i t k w (fitsIndex_both h1 h2) (by rw[Yx,<-hl];exact hk) (by rw[<-YN];exact hw) (by rw[Yx];omega)) ⟨e,?_⟩
 refine⟨y,_,I.lset (its':=its.eraseIdx k) hH e ?_ (r.eraseIdx k) ?_,rw',q⟩
 ·show its.toArray.eraseIdxIfInBounds k=(its.eraseIdx k).toArray;rw[List.eraseIdxIfInBounds_toArray]
 ·have:=lb xs k;omega
end
section
variable{prog:Program}{w:World}{A:Around}{E:Kv}{s:Shared}
set_option maxRecDepth 100000 in
end
section
variable{X:Cx}
end
end L2
namespace Att
open PySem PySem.W PySem.Calls PyProof.Rows
theorem iL{P:Params}{h:Heap}:∀(ns:List Int) (vs:List Value),WellAll P h vs (ns.map WData.int)->IntsAre vs ns:=by
 intro ns;induction ns with
 |nil=>
  intro vs w;rw[List.map_nil]at w;cases w;exact .nil
 |cons n ns ih=>
  intro vs w;rw[List.map_cons]at w;cases w with
  |cons a b=>
   cases a;exact .cons _ _ (ih _ b)
theorem tK{l:OpenLaw}{n:Nat}(hn:l.most=some n){P:Params}{h:Heap}{args:List WData}{vals:List Value}
  (hpre:l.row.toRowW.claim.pre args=true) (hwl:WellAll P h vals args) :
  ∃a vs ns,vals=[Value.ref a]/\args=[WData.list (ns.map WData.int)]/\h.get? a=some {cls:=.type "list",data:=.seq vs.toArray}/\IntsAre vs ns/\ns.length<=n:=by
 have hsh:WShape.hasAll [] args [.list .int]=true:=(pre_splitW hpre).1;have hc:l.pre.holds [] {args:=args}=true:=(pre_splitW hpre).2;obtain⟨d,r,rfl,h1,h2⟩:=hasAllW_cons hsh;obtain rfl:=hasAllW_nil h2;obtain⟨xs,rfl,h3⟩:=hasW_list h1;obtain⟨ns,rfl⟩:=items_int h3;have hlen:ns.length<=n:=by
  unfold OpenLaw.pre at hc;have h4:(WTm.not (.lt (.lit (.int (n:Int))) (.len (.arg 0)))).holds [] {args:=[.list (ns.map .int)]}=true:=by have h4:=(holds_andW hc).1;rw[hn]at h4;exact h4
  have h5:=condW_of h4 (w_not (w_lt w_lit (w_len_list (w_arg rfl))));rw[List.length_map]at h5;refine Nat.le_of_not_lt fun q=>?_;have q':(n:Int)<((ns.length:Nat):Int):=by omega
  first
   |(rw[decide_eq_true q']at h5;exact absurd h5 (by decide))
   |(simp at h5;omega)
 cases hwl with
 |cons w1 w2=>
  cases w2;cases w1 with
  |list ho hall=>exact⟨_,_,ns,rfl,rfl,ho,iL ns _ hall,hlen⟩
theorem tH(l:OpenLaw)(args:List WData):l.row.toRowW.claim.post args (.bool true) args=true:=
 postW_of (r:=l.row.toRowW) (X:=(true == true))
  (show WShape.has [] (.bool true) .bool=true by first|rfl|decide|simp[WShape.has,WShape.arms,WShape.armsAll])
  (show(WTm.eq .res (.lit (.bool true))).value [] {args:=args,res:=some (.bool true),after:=args}=some (.bool (true == true))from w_eq_bool (w_res rfl) w_lit) rfl
theorem attach_call{l:OpenLaw}{n:Nat}{q:Program}{loose:List Str}{XP:(Str->Option Value)->Heap->Prop}{YP:World->Heap->Prop}{d:DefRec}
  (hn:l.most=some n) (hdf:d.params.defaults=[])
  (call:∀(w:World) (s₀ s₁:Shared) (mg mb:Str->Option Value) (fa:Addr) (o:Obj) (pm cd doc:Value) (a:Addr) (vs:List Value) (ns:List Int),
   Ground q loose [] XP w s₀ mg mb s₁.heap->YP w s₁.heap->
   s₁.heap.get? fa=some o->o.data=.func (docDef d.name d.params d.body d.scope pm cd doc)->s₁.heap.CodeRec cd d.name->mg d.name=some (.ref fa)->
   s₁.heap.get? a=some {cls:=.type "list",data:=.seq vs.toArray}->IntsAre vs ns->ns.length<=n->s₁.gens=#[]->
   codeAny (model l.prog w) callerA (.call (.ref fa) ⟨[.ref a],[]⟩) (fun r s'=>r=.ok (.ret (.bool true))/\OldK s₁.heap s'.heap/\s'.os=s₁.os/\AllBare s'.gens) s₁) :
  WalkO q loose XP YP l.row.toRowW d [] (fun f vs=>PySem.call f vs):=by
 intro w s₀ s₁ mg mb G Y fa o pm cd doc dV kV ho hd hcd hD hmg hg args vals as hpre hlay hrd hwl hlo;obtain rfl:dV=.none:=Dflts.none hD hdf;obtain rfl:kV=.none:=Dflts.noKw hD;obtain⟨a,vs,ns,rfl,rfl,hobj,hints,hlen⟩:=tK hn hpre hwl;refine enter_call (codeAny_mono (call w s₀ s₁ mg mb fa o pm cd doc a vs ns G Y ho (fd_plain hd) hcd hmg hobj hints hlen hg) fun r s' hq=>?_);obtain⟨rfl,h2,h3,h4⟩:=hq;exact⟨.inl ⟨.bool true,.bool true,[],rfl,fun _=>rfl,.bool true,tH l _,fun _=>⟨List.Pairwise.nil,fun _ hm=>(nomatch hm)⟩⟩,h2,h3,h4⟩
section
variable{prog:Program}{w:World}{A:Around}{E:Value->Shared->Prop}{s:Shared}{K:Frag}
end
end Att
namespace L2
open PySem PySem.Spec PyProof.Rows
theorem li:∀{vs:List Value}{ns:List Int},IntsAre vs ns->Vals (ns.map V.int) vs
 |_,_,.nil=>.nil
 |_,_,.cons n t h=>.cons ⟨t,rfl⟩ (li h)
def yL(H:Hp):Prop:=∀b,H b=none\/∃o xs,H b=some (.frz o (.lst xs))
theorem xb{P:Program}{w:World}{K:Kq}{mg mb:Ks}{CX:CXT}{k:Nat}{fa a:Addr}{fd:FuncData}{x:Str}{sp:Sp}{s₁:Shared}{vs:List Value}{ns:List Int}
  (KX:K.In s₁.heap) (hns:s₁.heap.Ns mainGlobals mg) (hb:s₁.heap.Ns builtinsNs mb) (hbb:∀x:Str,x ≠ "__name__"->mb x=bootBuiltins x) (hlim:s₁.heap.NoLimit) (hg:s₁.gens=#[])
  (ha:s₁.heap.get? a=some {cls:=.type "list",data:=.seq vs.toArray}) (hi:IntsAre vs ns) (hl:ns.length<=sizeLine) (hr:Room k callerA)
  (F:∀base:Heap,K.In base->base.Ns mainGlobals mg->FnOk P w K mg base CX k fa fd [x] sp) (hbind:∀(s:Shared) (u:Value),BindsTo s fd ⟨[u],[]⟩ [(x,u)])
  (hsp:∀H:Hp,yL H->SqL K H a (ns.map V.int)->sp [.ref a] H (fun v _=>v=.bl true) fun _ _ _=>False)
  (hCX:∀H e s',CX [] H s₁ (fun _ _ _=>False) e s'->False) :
  codeAny (model P w) callerA (.call (.ref fa) ⟨[.ref a],[]⟩) (fun r s'=>r=.ok (.ret (.bool true))/\OldK s₁.heap s'.heap/\s'.os=s₁.os/\AllBare s'.gens) s₁:=by
 have rv:=li hi;have lenV:=hi.length
 -- from an abstract heap in which nothing but the script may be tracked
 have core:∀H:Hp,yL H->SqL K H a (ns.map V.int)->HOk P w H s₁.heap->(∀b,H b≠none->b=a)->(H a≠none->K.lookup a=none)->
   codeAny (model P w) callerA (.call (.ref fa) ⟨[.ref a],[]⟩) (fun r s'=>r=.ok (.ret (.bool true))/\OldK s₁.heap s'.heap/\s'.os=s₁.os/\AllBare s'.gens) s₁:=by
  intro H hO hS hok hA hK;have base_of:∀{b:Addr}{o:Obj},s₁.heap.get? b=some o->H b=none->(lW s₁.heap H).get? b=some o:=fun e n=>wB e n
  have noA:∀{b:Addr}{o:Obj}{es:Array DictEntry}{ep:Nat},s₁.heap.get? b=some o->o.data=.dict es ep->H b=none:=fun{b o es ep} e d=>by
   cases q:H b with
   |none=>rfl
   |some u=>
    have e':b=a:=hA b (by rw[q];simp);subst e';rw[ha]at e;cases e;have d':Data.seq vs.toArray _=Data.dict es ep:=d;cases d'
  have nsK:∀{b:Addr}{m:Ks},s₁.heap.Ns b m->(lW s₁.heap H).Ns b m:=fun{b m} ⟨o,es,ep,e,d,r⟩=>⟨o,es,ep,base_of e (noA e d),d,r⟩
  have hKb:K.In (lW s₁.heap H):=fun b o e=>base_of (KX b o e) (by
   cases q:H b with
   |none=>rfl
   |some u=>
    have e':b=a:=hA b (by rw[q];simp);subst e';rw[hK (by rw[q];simp)]at e;cases e)
  have hM:Mod K mg (lW s₁.heap H):=⟨hKb,nsK hns,⟨mb,nsK hb,hbb⟩,let ⟨mc,h1,h2⟩:=hlim;⟨mc,nsK h1,h2⟩⟩
  have e0:Env0 P w K mg (lW s₁.heap H) callerA [] s₁ H:=⟨rfl,hM,fun b o e=>yd e,ZT (ua _ _),trivial,fun b hb=>absurd (show b∈([]:List Addr)from hb) (by simp),hok,.of_eq hg⟩
  refine VM ((F _ hKb (nsK hns)).run callerA [] s₁ H ⟨[.ref a],[]⟩ [.ref a] [.ref a] _ _ hr e0 (hbind s₁ (.ref a)) (.cons rfl .nil) (hsp H hO hS)) fun r s' h=>?_;cases r with
  |error e=>exact(hCX H e s' h).elim
  |ok fl=>
   cases fl with
   |next=>exact False.elim h
   |brk=>exact False.elim h
   |cont=>exact False.elim h
   |ret u=>
    obtain⟨v,H',os,bare,un,hok',r',q⟩:=h;have q':v=.bl true:=q;subst q';obtain rfl:u=Value.bool true:=r';refine⟨rfl,OldK.of_keep fun b o e=>?_,os,bare⟩;cases q:H b with
    |none=>exact un.keep b o e q (by intro z;exact absurd (show b∈([]:List Addr)from z) (by simp)) (by simp)
    |some u=>
     rcases hO b with z|⟨ob,xs,z⟩
     ·rw[q]at z;cases z
     ·have z2:=un.frzs b ob _ z;obtain⟨e1,_⟩:=hok b _ z;obtain⟨e2,_⟩:=hok' b _ z2;rw[e]at e1;cases e1;exact e2
 cases hk:K.lookup a with
 |some o=>
  -- the script is one of the module's own objects
  have e:=KX a o hk;rw[ha]at e;cases e;refine core (fun _=>none) (fun _=>.inl rfl) (.inr ⟨_,vs.toArray,_,hk,rfl,rfl,rfl,by rw[Yx,lenV];exact hl,by simpa using rv⟩) (fun b u z=>by have z':(none:Option HO)=some u:=z;cases z') (fun b z=>absurd rfl z) fun z=>absurd rfl z
 |none=>
  refine core (fun b=>if b=a then some (.frz {cls:=.type "list",data:=.seq vs.toArray} (.lst (ns.map V.int)))else none) (fun b=>?_) (.inl (.inr ⟨{cls:=.type "list",data:=.seq vs.toArray},if_pos rfl⟩)) (fun b u z=>?_) (fun b z=>?_) fun _=>hk
  ·by_cases hb:b=a
   ·exact .inr ⟨_,_,if_pos hb⟩
   ·exact .inl (if_neg hb)
  ·by_cases hb:b=a
   ·have z':=(if_pos hb).symm.trans z;cases z';subst hb;exact⟨ha,by rw[Yd];exact hl,vs,_,rv,ha⟩
   ·have z':=(if_neg hb).symm.trans z;cases z'
  ·by_cases hb:b=a
   ·exact hb
   ·exact absurd (if_neg hb) z
theorem zk{l:PySem.W.OpenLaw}{n k:Nat}{q:Program}{loose:List Str}{XP:(Str->Option Value)->Heap->Prop}{YP:World->Heap->Prop}{d:DefRec}{K:Params->PySem.W.Frag}{CX:World->CXT}{sp:World->Sp}{x:Str}
  (hn:l.most=some n) (hn2:n<=sizeLine) (hdf:d.params.defaults=[]) (hr:Room k callerA)
  (hY:∀(w:World) (h:Heap),YP w h->(K w.params).In h)
  (F:∀(w:World) (mg:Ks) (fa:Addr) (h:Heap),(K w.params).In h->h.Ns mainGlobals mg->mg d.name=some (.ref fa)->
   ∃fd:FuncData,(∀(s:Shared) (u:Value),BindsTo s fd ⟨[u],[]⟩ [(x,u)]) /\
    ∀base:Heap,(K w.params).In base->base.Ns mainGlobals mg->FnOk l.prog w (K w.params) mg base (CX w) k fa fd [x] (sp w))
  (hsp:∀(w:World) (H:Hp) (a:Addr) (ns:List Int),ns.length<=n->yL H->SqL (K w.params) H a (ns.map V.int)->sp w [.ref a] H (fun v _=>v=.bl true) fun _ _ _=>False)
  (hCX:∀(w:World) (H:Hp) (s:Shared) (e:Value) (s':Shared),CX w [] H s (fun _ _ _=>False) e s'->False) :
  PySem.W.WalkO q loose XP YP l.row.toRowW d [] (fun f vs=>PySem.call f vs):=by
 refine Att.attach_call hn hdf fun w s₀ s₁ mg mb fa o pm cd doc a vs ns G Y ho hd hcd hmg hobj hints hlen hg=>?_;have KX:=hY w _ Y;obtain⟨fd,hb,hF⟩:=F w mg fa _ KX G.T.g hmg;exact xb KX G.T.g G.T.b G.T.builtins G.T.nolimit hg hobj hints (YC hlen hn2) hr hF hb (fun H hO hS=>hsp w H a ns hlen hO hS) fun H e s'=>hCX w H s₁ e s'
theorem walk_ofK{l:PySem.W.OpenLaw}{n k:Nat}{q:Program}{loose:List Str}{XP:(Str->Option Value)->Heap->Prop}{YP:World->Heap->Prop}{d:DefRec}{K:Params->PySem.W.Frag}{CX:CXT}{sp:PySem.W.Frag->Sp}{x:Str}
  (hn:l.most=some n) (hn2:n<=sizeLine) (hdf:d.params.defaults=[]) (hr:Room k callerA)
  (hY:∀(w:World) (h:Heap),YP w h->(K w.params).In h)
  (F:∀(w:World) (mg:Ks) (fa:Addr) (h:Heap),(K w.params).In h->h.Ns mainGlobals mg->mg d.name=some (.ref fa)->
   ∃fd:FuncData,(∀(s:Shared) (u:Value),BindsTo s fd ⟨[u],[]⟩ [(x,u)]) /\
    ∀base:Heap,(K w.params).In base->base.Ns mainGlobals mg->FnOk l.prog w (K w.params) mg base CX k fa fd [x] (sp (K w.params)))
  (hsp:∀(K:Kq) (H:Hp) (a:Addr) (ns:List Int),ns.length<=n->yL H->SqL K H a (ns.map V.int)->sp K [.ref a] H (fun v _=>v=.bl true) fun _ _ _=>False)
  (hCX:∀(H:Hp) (s:Shared) (e:Value) (s':Shared),CX [] H s (fun _ _ _=>False) e s'->False) :
  PySem.W.WalkO q loose XP YP l.row.toRowW d [] (fun f vs=>PySem.call f vs):=
 zk (K:=K) (CX:=fun _=>CX) (sp:=fun w=>sp (K w.params)) hn hn2 hdf hr hY F (fun w H a ns h1 h2 h3=>hsp (K w.params) H a ns h1 h2 h3) fun _ H s e s'=>hCX H s e s'
def nb(s:Stmt)(j:Nat):Stmt:=match s with
 |.ClassDef _ _ _ body _ _ _ _ _ _ _=>body.getD j (.Pass ⟨0,0,0,0⟩)
 |_=>.Pass ⟨0,0,0,0⟩
def defArgs(s:Stmt):Arguments:=match s with
 |.FunctionDef _ a _ _ _ _ _ _ _ _=>a
 |_=>{posonlyargs:=[],args:=[],vararg:=none,kwonlyargs:=[],kw_defaults:=[],kwarg:=none,defaults:=[]}
def defBody(s:Stmt):List Stmt:=match s with
 |.FunctionDef _ _ b _ _ _ _ _ _ _=>b
 |_=>[]
def defScope(s:Stmt):Scope:=match s with
 |.FunctionDef _ _ _ _ _ _ sc _ _ _=>sc
 |_=>{kind:=.function,names:=[],isGenerator:=false,isCoroutine:=false}
abbrev CX0:CXT:=fun _ _ _ _ _ _=>False
abbrev E0:XK:=fun _ _ _=>False
theorem lD{X:Cx}:f7 CX0 X E0:=fun _ _ _ _ _ _ _ h=>h.elim
structure Fun (K:PySem.W.Frag) (x qual:Str) (st:Stmt) (f:Addr) (fd:FuncData):Prop where
 ex:∃(oc:Value) (od:Option Addr) (kV doc pm:Value) (an:Option Addr) (cdv ct:Value) (osl:Array (Option Value)),
  fd=PySem.W.fnOf x qual (defArgs st) (defBody st) (defScope st) .none kV doc pm an cdv ct/\K.lookup f=some ⟨oc,od,.func fd,osl⟩/\PySem.W.codeIn K cdv qual=true
 kp:PySem.W.keepIn K (.ref f)=true
section
variable{P:Program}{w:World}{K:Kq}{mg:Ks}{base:Heap}
theorem Fun.ok{x qual:Str}{st:Stmt}{f:Addr}{fd:FuncData}{N ps:List Str}{k:Nat}{sp:Sp}(F:Fun K x qual st f fd)(S:FnScope N ps (defScope st))(len:∀vs H Q E,sp vs H Q E->vs.length=ps.length)
  (hbody:∀(cdv:Value) (A:Around) (outer:List Env) (s:Shared) (H:Hp) (vs:List V) (Q:VK) (E:XK),Room k (A.deeper (envOfC qual (defScope st) s.heap.objs.size f cdv))->sp vs H Q E->
   ∃t,PSs (nR CX0 P w K mg base N qual (defScope st) f cdv A outer s H E).nox (defBody st) t/\t {nx:=fun _ H'=>Q .non H',rt:=Q} (start N vs) H):FnOk P w K mg base CX0 (k+1) f fd ps sp:=by
 obtain⟨oc,od,kV,doc,pm,an,cdv,ct,osl,rfl,lk,hcd⟩:=F.ex;refine C8 lk hcd S len fun A outer s H vs Q E hr hsp=>?_;obtain⟨t,h,q⟩:=hbody cdv A outer s H vs Q E hr hsp;exact⟨t,h.nox,q⟩
theorem Fun.binds{x qual:Str}{st:Stmt}{f:Addr}{fd:FuncData}{ps:List Str}(F:Fun K x qual st f fd)
  (h:∀(kV doc pm:Value) (an:Option Addr) (cdv ct:Value) (us:List Value),us.length=ps.length->bindArgs (PySem.W.fnOf x qual (defArgs st) (defBody st) (defScope st) .none kV doc pm an cdv ct) ⟨us,[]⟩=pure (ps.zip us)):Binds K fd ps []:=by
 obtain⟨oc,od,kV,doc,pm,an,cdv,ct,osl,rfl,lk,hcd⟩:=F.ex;exact .all (h kV doc pm an cdv ct)
theorem aU{x qual:Str}{st:Stmt}{f:Addr}{oc:Value}{od an:Option Addr}{osl:Array (Option Value)}{kV doc pm cdv ct:Value}(l:K.lookup f=some ⟨oc,od,.func (PySem.W.fnOf x qual (defArgs st) (defBody st) (defScope st) .none kV doc pm an cdv ct),osl⟩)
  (c:PySem.W.codeIn K cdv qual=true) (k:PySem.W.keepIn K (.ref f)=true):Fun K x qual st f (PySem.W.fnOf x qual (defArgs st) (defBody st) (defScope st) .none kV doc pm an cdv ct):=⟨⟨oc,od,kV,doc,pm,an,cdv,ct,osl,rfl,l,c⟩,k⟩
end
section
variable{X:Cx}
theorem pv(i:Nat){x:Str}{pos:Pos}(hN:X.N[i]?=some x:=by rfl)(hv:Vis X.env.scope x:=by first|exact Or.inl rfl|exact Or.inr (Or.inl rfl)|exact Or.inr (Or.inr rfl))(hd:(x == ("__debug__":Str))=false:=by decide)
  (hcd:(x == ("__classdict__":Str))=false:=by decide):PE X (.Name x pos) (e9 i):=AH hN hv hd hcd
end
def Same(H H':Hp):Prop:=∀b o,H b=some o->H' b=some o
theorem Same.refl(H:Hp):Same H H:=fun _ _ h=>h
theorem Same.trans{H H1 H2:Hp}(a:Same H H1)(b:Same H1 H2):Same H H2:=fun c o h=>b c o (a c o h)
theorem Same.free{H H':Hp}(e:Same H H'){l:Addr}(h:H' l=Option.none):H l=Option.none:=by
 cases q:H l with
 |none=>rfl
 |some o=>
  rw[e l o q]at h;cases h
theorem Same.seq{K:Kq}{H H':Hp}{a:Addr}{xs:List V}(e:Same H H')(h:SqL K H a xs):SqL K H' a xs:=by
 rcases h with (h|⟨o,h⟩)|h
 ·exact .inl (.inl (e _ _ h))
 ·exact .inl (.inr ⟨o,e _ _ h⟩)
 ·exact .inr h
end L2
set_option maxHeartbeats 4000000
namespace L2
open PySem PySem.Spec PyProof.Rows
def cz(cs:List (Str×Addr)):List (Str×NameKind)->List (Str×Addr)->List (Str×Addr)
 |[],acc=>acc
 |(n,k)::r,acc=>if k == .free then cz cs r ((n,(cs.lookup n).getD 0)::acc)else cz cs r acc
theorem jO{scope:Scope}{env:Env}(h:∀x∈scope.names,x.2=.free->∃c,env.cells.lookup x.1=some c):closureFor scope env=pure (cz env.cells scope.names []):=by
 have key:∀(names:List (Str×NameKind)) (acc:List (Str×Addr)) (f:Str×NameKind->List (Str×Addr)->Sem (ForInStep (List (Str×Addr)))),
   (∀n k r,f (n,k) r=if k == .free then(cellOf env n>>=fun c=>pure (.yield ((n,c)::r)))else pure (.yield r))->
   (∀x∈names,x.2=.free->∃c,env.cells.lookup x.1=some c)->forIn names acc f=pure (cz env.cells names acc):=by
  intro names;induction names with
  |nil=>intro acc f _ _;rfl
  |cons x r ih=>
   intro acc f hf hx;obtain⟨n,k⟩:=x;rw[List.forIn_cons,hf];unfold cz;by_cases hk:(k == NameKind.free)=true
   ·rw[if_pos hk,if_pos hk];obtain⟨c,hc⟩:=hx (n,k) Ye (by simpa using hk);have e:cellOf env n=pure c:=by unfold cellOf;rw[hc]
    rw[e,pure_bind,pure_bind,hc];exact ih _ f hf fun y hy=>hx y (Yc _ hy)
   ·rw[if_neg hk,if_neg hk,pure_bind];exact ih _ f hf fun y hy=>hx y (Yc _ hy)
 unfold closureFor;show(forIn scope.names ([]:List (Str×Addr)) _>>=fun cs=>pure cs)=_;rw[key scope.names [] _ (fun n k r=>by
  by_cases hk:(k == NameKind.free)=true
  ·simp only[hk,VV]
  ·simp only[hk]) h]
 rfl
theorem bE{α:Type}(y n:Str)(c:α)(l:List (Str×α)):((n,c)::l).lookup y=if y=n then some c else l.lookup y:=by
 rw[List.lookup_cons];by_cases h:y=n
 ·subst h;simp
 ·have:(y == n)=false:=by simpa using h
  rw[this,if_neg h]
theorem cG{cs:List (Str×Addr)}:∀(names:List (Str×NameKind)) (acc:List (Str×Addr)) (y:Str) (c:Addr),
  (∀x∈names,x.2=.free->∃c,cs.lookup x.1=some c)->(∀y c,acc.lookup y=some c->cs.lookup y=some c)->(cz cs names acc).lookup y=some c->cs.lookup y=some c
 |[],acc,y,c,_,h,e=>h y c e
 |(n,k)::r,acc,y,c,hx,h,e=>by
  unfold cz at e;have hr:∀x∈r,x.2=.free->∃c,cs.lookup x.1=some c:=fun x hm=>hx x (Yc _ hm)
  by_cases hk:(k == NameKind.free)=true
  ·rw[if_pos hk]at e;refine cG r _ y c hr (fun z d ez=>?_) e;obtain⟨c',hc'⟩:=hx (n,k) Ye (by simpa using hk);rw[bE]at ez;split at ez
   ·rename_i q;subst q;cases ez;rw[hc'];rfl
   ·exact h z d ez
  ·rw[if_neg hk]at e;exact cG r acc y c hr h e
theorem eM{cs:List (Str×Addr)}:∀(names:List (Str×NameKind)) (acc:List (Str×Addr)) (y:Str) (c:Addr),
  (cz cs names acc).lookup y=some c->(y,NameKind.free)∈names\/acc.lookup y=some c
 |[],acc,y,c,e=>.inr e
 |(n,k)::r,acc,y,c,e=>by
  unfold cz at e;by_cases hk:(k == NameKind.free)=true
  ·rw[if_pos hk]at e;have hk':k=.free:=by simpa using hk
   rcases eM r _ y c e with q|q
   ·exact .inl (Yc _ q)
   ·rw[bE]at q;split at q
    ·rename_i z;subst z;subst hk';exact .inl Ye
    ·exact .inr q
  ·rw[if_neg hk]at e;rcases eM r acc y c e with q|q
   ·exact .inl (Yc _ q)
   ·exact .inr q
theorem eP{cs:List (Str×Addr)}:∀(names:List (Str×NameKind)) (acc:List (Str×Addr)) (y:Str),
  ((y,NameKind.free)∈names\/∃c,acc.lookup y=some c)->∃c,(cz cs names acc).lookup y=some c
 |[],acc,y,h=>h.elim (fun z=>by cases z) id
 |(n,k)::r,acc,y,h=>by
  unfold cz;by_cases hk:(k == NameKind.free)=true
  ·rw[if_pos hk];refine eP r _ y ?_;rcases h with h|⟨c,h⟩
   ·rcases Yr.mp h with q|q
    ·cases q;exact .inr ⟨_,by rw[bE,if_pos rfl]⟩
    ·exact .inl q
   ·refine .inr ?_;by_cases q:y=n
    ·exact⟨_,by rw[bE,if_pos q]⟩
    ·exact⟨c,by rw[bE,if_neg q];exact h⟩
  ·rw[if_neg hk];refine eP r acc y ?_;rcases h with h|h
   ·rcases Yr.mp h with q|q
    ·cases q;exact absurd rfl hk
    ·exact .inl q
   ·exact .inr h
theorem lR:∀(names:List (Str×NameKind)) (h:Heap) (acc:List (Str×Addr)) (y:Str) (c:Addr),(cellsFrom h.objs.size names acc).lookup y=some c->
  (h.objs.size<=c/\(pushCells h names).IsCell c none/\(y,NameKind.cell)∈names)\/acc.lookup y=some c
 |[],_,_,_,_,e=>.inr e
 |(n,k)::r,h,acc,y,c,e=>by
  unfold cellsFrom at e;unfold pushCells;by_cases hk:(k == NameKind.cell)=true
  ·rw[if_pos hk]at e ⊢;have hk':k=.cell:=by simpa using hk
   have hz:(h.push {cls:=.type "cell",data:=.cell none}).objs.size=h.objs.size+1:=Xi ..;rw[<-hz]at e;rcases lR r _ _ y c e with⟨q1,q2,q3⟩|q
   ·exact .inl ⟨by rw[hz]at q1;omega,q2,Yc _ q3⟩
   ·rw[bE]at q;split at q
    ·rename_i z;subst z;cases q;subst hk';exact .inl ⟨Yl _,⟨_,VE r _ _ _ (Ym _ rfl),rfl⟩,Ye⟩
    ·exact .inr q
  ·rw[if_neg hk]at e ⊢;rcases lR r h acc y c e with⟨q1,q2,q3⟩|q
   ·exact .inl ⟨q1,q2,Yc _ q3⟩
   ·exact .inr q
theorem pX{y:Str}:∀(names:List (Str×NameKind)) (n:Nat) (acc:List (Str×Addr)),(∀k,(y,k)∈names->k≠.cell)->(cellsFrom n names acc).lookup y=acc.lookup y
 |[],_,_,_=>rfl
 |(m,k)::r,n,acc,h=>by
  unfold cellsFrom;have hr:∀k,(y,k)∈r->k≠.cell:=fun k hk=>h k (Yc _ hk)
  by_cases hk:(k == NameKind.cell)=true
  ·rw[if_pos hk,pX r _ _ hr,bE,if_neg];rintro rfl;exact h k Ye (by simpa using hk)
  ·rw[if_neg hk];exact pX r n acc hr
theorem qC:∀(names:List (Str×NameKind)) (n:Nat) (acc:List (Str×Addr)),(∀y c,acc.lookup y=some c->c<n)->(∀y z c,acc.lookup y=some c->acc.lookup z=some c->y=z)->
  ∀y z c,(cellsFrom n names acc).lookup y=some c->(cellsFrom n names acc).lookup z=some c->y=z
 |[],_,_,_,h=>h
 |(m,k)::r,n,acc,hlt,h=>by
  unfold cellsFrom;by_cases hk:(k == NameKind.cell)=true
  ·rw[if_pos hk];refine qC r (n+1) _ (fun y c e=>?_) fun y z c e e'=>?_
   ·rw[bE]at e;split at e
    ·cases e;exact ZX _
    ·exact Zi (hlt y c e)
   ·rw[bE]at e e';split at e<;>split at e'
    ·rename_i a b;rw[a,b]
    ·cases e;exact absurd (hlt z _ e') (Zd _)
    ·cases e';exact absurd (hlt y _ e) (Zd _)
    ·exact h y z c e e'
  ·rw[if_neg hk];exact qC r n acc hlt h
def fB(env:Env)(scope:Scope)(C:Addr):Env:=
 {scope:=relabel scope env,locals:=C,globals:=env.globals,cells:=cellsFrom (C+1) scope.names (cz env.cells scope.names []),qual:=env.qual,func:=none,code:=env.code,frame:=env.frame,builtins:=env.builtins}
def blk(X:Cx)(scope:Scope)(N:List Str)(s:Shared)(H:Hp)(fp:List Addr)(pz:Kp):Cx where
 prog:=X.prog
 w:=X.w
 K:=X.K
 mg:=X.mg
 base:=X.base
 A:=X.A
 N:=N
 s₀:=s
 H₀:=H
 env:=fB X.env scope s.heap.objs.size
 outer:=X.stack
 stack:=X.stack
 ex:=fp
 fn:=fun x=>scope.names.lookup x == some .local||scope.names.lookup x == some .cell
 calm:=X.calm
 pn:=X.pn++pz
 xe:=fun _ _=>False
structure BlkScope (X:Cx) (scope:Scope):Prop where
 kind:scope.kind=.function
 nd:(scope.names.map (·.1)).Nodup
 free:∀x∈scope.names,x.2=.free->X.env.kindOf x.1=some .cell\/X.env.kindOf x.1=some .free
theorem dS{α:Type}:∀{l:List (Str×α)}{n:Str}{c:α},(l.map (·.1)).Nodup->(n,c)∈l->l.lookup n=some c
 |[],_,_,_,h=>by cases h
 |(k,v)::r,n,c,nd,h=>by
  rw[bE];rcases Yr.mp h with q|q
  ·cases q;rw[if_pos rfl]
  ·have nd':=ZU.mp nd;rw[if_neg]
   ·exact dS nd'.2 q
   ·rintro rfl;exact nd'.1 (Yk.mpr ⟨_,q,rfl⟩)
theorem eB{env:Env}{x:Str}:∀(names:List (Str×NameKind)),
  (names.map fun(n,k)=>if(k == NameKind.free&&env.scope.kind == .function&&env.kindOf n == some .cell)then(n,NameKind.cell)else(n,k)).lookup x =
   (names.lookup x).map fun k=>if(k == NameKind.free&&env.scope.kind == .function&&env.kindOf x == some .cell)then NameKind.cell else k
 |[]=>rfl
 |(n,k)::r=>by
  show List.lookup x ((if(k == NameKind.free&&env.scope.kind == .function&&env.kindOf n == some .cell)=true then(n,NameKind.cell)else(n,k))::_)=_;have e:(if(k == NameKind.free&&env.scope.kind == .function&&env.kindOf n == some .cell)=true then(n,NameKind.cell)else(n,k)) =
    (n,if(k == NameKind.free&&env.scope.kind == .function&&env.kindOf n == some .cell)=true then NameKind.cell else k):=by split<;>rfl
  rw[e,bE,bE];split
  ·rename_i q;subst q;rfl
  ·exact eB r
theorem jL{env:Env}{scope:Scope}{C:Addr}(x:Str):(fB env scope C).kindOf x =
  (scope.names.lookup x).map fun k=>if(k == NameKind.free&&env.scope.kind == .function&&env.kindOf x == some .cell)then NameKind.cell else k:=eB scope.names
section
variable{X:Cx}{pz:Kp}{σ:St}{H:Hp}{s:Shared}{scope:Scope}{N:List Str}{fp:List Addr}
theorem BlkScope.cl(b:BlkScope X scope)(ok:X.Ok):∀x∈scope.names,x.2=.free->∃c,X.env.cells.lookup x.1=some c:=fun x hx e=>ok.has x.1 (b.free x hx e)
theorem ee(b:BlkScope X scope)(I:Inv X pz σ H s){y:Str}{c:Addr}(e:(fB X.env scope s.heap.objs.size).cells.lookup y=some c) :
  (s.heap.objs.size<c/\(pushCells (s.heap.push {cls:=.type "dict",data:=.dict #[]}) scope.names).IsCell c none/\(y,NameKind.cell)∈scope.names)\/(X.env.cells.lookup y=some c/\(y,NameKind.free)∈scope.names):=by
 have hz:(s.heap.push {cls:=.type "dict",data:=.dict #[]}).objs.size=s.heap.objs.size+1:=Xi ..;have e':(cellsFrom (s.heap.push {cls:=.type "dict",data:=.dict #[]}).objs.size scope.names (cz X.env.cells scope.names [])).lookup y=some c:=by rw[hz];exact e
 rcases lR _ _ _ _ _ e' with⟨h1,h2,h3⟩|h
 ·exact .inl ⟨by rw[hz]at h1;omega,h2,h3⟩
 ·refine .inr ⟨cG _ _ y c (b.cl I.ok) (fun _ _ z=>by cases z) h,?_⟩;rcases eM _ _ _ _ h with q|q
  ·exact q
  ·cases q
theorem AN(b:BlkScope X scope)(I:Inv X pz σ H s)(hf:∀a∈fp,fV X pz H a)(hlt:∀a∈fp,a<s.heap.objs.size):(blk X scope N s H fp pz).Ok:=by
 have clt:∀y c,X.env.cells.lookup y=some c->c<s.heap.objs.size:=fun y c e=>by obtain⟨v,q⟩:=I.cell y c e;exact q.lt
 refine⟨I.ok.mod,b.kind,I.ok.glob,I.ok.blt,Yl _,fun x y c e e'=>?_,fun x hx=>?_,fun x c hx e=>?_,I.ok.hd,I.ok.frames,.inl rfl,fun a ha=>⟨YA (hlt a ha),fun x c e=>?_⟩,I.bs,YC I.ok.bsz I.sz,fun a o e ha=>?_,fun a ha=>?_,I.stack,I.stkFree⟩
 ·refine qC scope.names (s.heap.objs.size+1) _ (fun y c q=>?_) (fun y z c q q'=>?_) x y c e e'
  ·exact Zi (clt y c (cG _ _ y c (b.cl I.ok) (fun _ _ z=>by cases z) q))
  ·exact I.ok.inj y z c (cG _ _ y c (b.cl I.ok) (fun _ _ z=>by cases z) q) (cG _ _ z c (b.cl I.ok) (fun _ _ z=>by cases z) q')
 ·have hx':(fB X.env scope s.heap.objs.size).kindOf x=some .cell\/(fB X.env scope s.heap.objs.size).kindOf x=some .free:=hx;rw[jL]at hx';show ∃c,(cellsFrom (s.heap.objs.size+1) scope.names (cz X.env.cells scope.names [])).lookup x=some c;cases q:scope.names.lookup x with
  |none=>rw[q]at hx';rcases hx' with z|z<;>cases z
  |some k=>
   have hm:(x,k)∈scope.names:=Zy q;cases k with
   |cell=>exact ZW.mp (Xx scope.names _ _ (.inl q))
   |free=>
    obtain⟨c,hc⟩:=eP (cs:=X.env.cells) scope.names [] x (.inl hm);exact ZW.mp (Xx scope.names _ _ (.inr (by rw[hc];rfl)))
   |_=>rw[q]at hx';exfalso;revert hx';simp
 ·rcases ee b I e with⟨h1,_,_⟩|⟨_,h2⟩
  ·exact ZL h1
  ·exfalso;have q:=dS b.nd h2;have hx':(scope.names.lookup x == some .local||scope.names.lookup x == some .cell)=true:=hx;rw[q]at hx';revert hx';decide
 ·rcases ee b I e with⟨h1,_,_⟩|⟨h1,_⟩
  ·intro z;subst z;exact absurd (Xg (hlt _ ha) h1) (Zd _)
  ·exact(hf a ha).2.2.2.2.1 x c h1
 ·have h4:=(hf a ha).2.2.2.1;rcases h4 with z|z
  ·exact I.ok.noex a o e z
  ·exact absurd (Yt (Yp e) (YC I.ok.bsz z)) (Zd _)
 ·intro z;rcases Yr.mp (I.stkSub a z)with q|q
  ·exact(hf a ha).2.1 q
  ·exact(hf a ha).2.2.1 q
def da(own:Nat)(ix:List Nat)(σ:St):St:=List.replicate own none++ix.map fun j=>(σ[j]?).join
theorem fH(own:Nat)(ix:List Nat)(σ:St):(da own ix σ).length=own+ix.length:=by unfold da;rw[Yu,YH,Yd]
theorem kY{own:Nat}{ix:List Nat}{σ:St}{i:Nat}{v:V}(h:(da own ix σ)[i]?=some (some v)):own<=i/\∃j,ix[i-own]?=some j/\σ[j]?=some (some v):=by
 unfold da at h;by_cases hi:i<own
 ·rw[Zu (by rw[YH];exact hi),Xp,if_pos hi]at h;cases h
 ·rw[Zr (by rw[YH];omega),YH,Ys]at h;refine⟨by omega,?_⟩;cases q:ix[i-own]? with
  |none=>rw[q]at h;cases h
  |some j=>
   rw[q]at h;refine⟨j,rfl,?_⟩;cases q2:σ[j]? with
   |none=>rw[ZV,q2]at h;cases h
   |some o=>
    rw[ZV,q2]at h;cases o with
    |none=>cases h
    |some v'=>rw[Option.join_some]at h;cases h;rfl
structure Caps (X:Cx) (scope:Scope) (N:List Str) (own:Nat) (ix:List Nat):Prop where
 len:N.length=own+ix.length
 cap:∀(i:Nat) (j:Nat) (x:Str),N[own+i]?=some x->ix[i]?=some j->X.N[j]?=some x/\scope.names.lookup x=some .free
theorem uz{own:Nat}{ix:List Nat}(b:BlkScope X scope)(cp:Caps X scope N own ix)(I:Inv X pz σ H s)(hf:∀a∈fp,fV X pz H a)(hlt:∀a∈fp,a<s.heap.objs.size) :
  Inv (blk X scope N s H fp pz) [] (da own ix σ) H {s with heap:=pushCells (s.heap.push {cls:=.type "dict",data:=.dict #[]}) scope.names}:=by
 have kp:∀a o,s.heap.get? a=some o->(pushCells (s.heap.push {cls:=.type "dict",data:=.dict #[]}) scope.names).get? a=some o:=fun a o e=>VE _ _ a o (Yh _ e)
 refine⟨AN b I hf hlt,rfl,I.bare,Un.kept kp,⟨_,(Heap.Ns.new s.heap (.type "dict")).keeps (VE _ _),fun i x v e1 e2 e3=>?_⟩,fun y c e=>?_,I.fresh,fun y c e=>?_,fun p hp=>?_,I.hok.kept kp,?_⟩
 ·obtain⟨ho,j,ej,ev⟩:=kY e2;have e1':N[own+(i-own)]?=some x:=by rw[show own+(i-own)=i by omega];exact e1
  obtain⟨hN,hfree⟩:=cp.cap (i-own) j x e1' ej;obtain⟨m,hn,hl⟩:=I.loc;have hk:X.env.kindOf x=some .cell\/X.env.kindOf x=some .free:=b.free (x,.free) (Zy hfree) rfl;have hv:Vis X.env.scope x:=hk.elim (fun z=>.inr (.inl z)) fun z=>.inr (.inr z)
  obtain⟨u,r,lk⟩:=hl j x v hN ev hv;refine⟨u,r,.inr ⟨?_,?_⟩⟩
  ·show(fB X.env scope s.heap.objs.size).kindOf x=some .cell\/(fB X.env scope s.heap.objs.size).kindOf x=some .free;rw[jL,hfree];show some (if _ then NameKind.cell else NameKind.free)=some .cell\/some (if _ then NameKind.cell else NameKind.free)=some .free;split
   ·exact .inl rfl
   ·exact .inr rfl
  ·rcases lk with⟨k,_⟩|⟨_,c,ec,z⟩
   ·rw[k]at hk;rcases hk with z|z<;>cases z
   ·refine⟨c,?_,z.keeps kp⟩;show(cellsFrom (s.heap.objs.size+1) scope.names (cz X.env.cells scope.names [])).lookup x=some c;rw[pX]
    ·obtain⟨c',hc'⟩:=eP (cs:=X.env.cells) scope.names [] x (.inl (Zy hfree));have:=cG _ _ x c' (b.cl I.ok) (fun _ _ z=>by cases z) hc';rw[ec]at this;cases this;exact hc'
    ·intro k hk' z;rw[dS b.nd hk']at hfree;cases hfree;cases z
 ·rcases ee b I e with⟨_,h2,_⟩|⟨h1,_⟩
  ·exact⟨_,h2⟩
  ·obtain⟨v,z⟩:=I.cell y c h1;exact⟨v,z.keeps kp⟩
 ·rcases ee b I e with⟨h1,_,_⟩|⟨h1,_⟩
  ·exact I.hok.fresh (ZL h1)
  ·exact I.freeC y c h1
 ·have hp':p∈X.pn++pz:=by
   have:p∈(X.pn++pz)++[]:=hp
   rwa [Zf]at this
  obtain⟨e,n,ne,nf,d⟩:=I.pin p hp';refine⟨kp _ _ e,n,YA (Yp e),fun z=>?_,d⟩;rcases Yr.mp (I.stkSub p.1 z)with q|q
  ·exact ne q
  ·exact nf q
 ·rw[fH];exact cp.len.symm
theorem n5{σ':St}{H':Hp}{s':Shared}{h':Heap}{pl:Kp}(I:Inv X pz σ H s)(hf:∀a∈fp,fV X pz H a)(J:Inv (blk X scope N s H fp pz) pl σ' H' s')(hs:Heap.SameBut s.heap.objs.size s'.heap h') :
  Inv X pz σ H' {s' with heap:=h' }:=by
 have hC:H' s.heap.objs.size=none:=J.free;have ne:∀a o,s.heap.get? a=some o->a≠s.heap.objs.size:=fun a o e=>YA (Yp e)
 have u:Un (frs X.stack) fp H H' s.heap s'.heap:=J.base;refine I.call' (ch:=fp) (s':={s' with heap:=h' }) J.os ⟨fun a o e n h1 h2=>(hs.2 a (ne a o e)).trans (u.keep a o e n h1 h2),fun a o e n h1 h2=>?_,fun a o e n h2=>u.free a o e n h2,fun a o e h2=>?_,u.tups,u.frzs,u.tbls⟩ (fun a o e=>?_) J.bare fun a ha=>?_
 ·obtain⟨sl,q⟩:=u.slot a o e n h1 h2;exact⟨sl,(hs.2 a (ne a o e)).trans q⟩
 ·obtain⟨o',q⟩:=u.there a o e h2;exact⟨o',(hs.2 a (ne a o e)).trans q⟩
 ·refine(J.hok a o e).stay (fun c v hc q=>(hs.2 c ?_).trans q) (fun _ q=>q) fun _ _ q=>q;rintro rfl;rcases hc with rfl|hc
  ·rw[hC]at e;cases e
  ·rw[hC]at hc;cases hc
 ·obtain⟨_,h2,_,h4,h5,h6⟩:=hf a ha;exact⟨h4,h2,h5,h6⟩
theorem wA{pl:Kp}{H':Hp}(b:BlkScope X scope)(I:Inv X pz σ H s)(hf:∀a∈fp,fV X pz H a)(hlt:∀a∈fp,a<s.heap.objs.size)(hn:∀a∈fp,H' a=none) :
  ∀a∈fp,fV (blk X scope N s H fp pz) [] H' a:=fun a ha=>by
 obtain⟨_,h2,h3,h4,h5,h6⟩:=hf a ha;refine⟨hn a ha,YA (hlt a ha),fun z=>?_,.inl ha,fun x c e=>?_,fun p hp=>?_⟩
 ·rcases Yr.mp (I.stkSub a z)with q|q
  ·exact h2 q
  ·exact h3 q
 ·rcases ee b I e with⟨q,_,_⟩|⟨q,_⟩
  ·intro z;subst z;exact absurd (Xg (hlt _ ha) q) (Zd _)
  ·exact h5 x c q
 ·have hp':p∈X.pn++pz:=by
   have:p∈(X.pn++pz)++[]:=hp
   rwa [Zf]at this
  exact h6 p hp'
end
theorem pU{M:Model}{A:Around}{E:Kv}{s:Shared}{scope:Scope}{env:Env}{Q:Env->Shared->Prop}(cl:List (Str×Addr))
  (h:∀cenv:Env,cenv={scope:=scope,locals:=s.heap.objs.size,globals:=env.globals,cells:=cellsFrom (s.heap.objs.size+1) scope.names cl,qual:=env.qual,func:=none,code:=env.code,frame:=env.frame,builtins:=env.builtins}->
   Q cenv {s with heap:=pushCells (s.heap.push {cls:=.type "dict",data:=.dict #[]}) scope.names}) :
  wpAny M A (newFunctionEnv scope env.globals cl [] env.qual none .none (some env)) Q E s:=by
 simp only[newFunctionEnv,Option.isSome_some,VV];refine Ya (wpAny_alloc ?_);refine Ya (wpAny_layCells _ (fun name kind cells=>by cases hkc:kind == NameKind.cell<;>simp[hkc]) _ _ _ _ ?_);rw[show({s with heap:=s.heap.push {cls:=.type "dict",data:=.dict #[]} }:Shared).heap.objs.size=s.heap.objs.size+1 from Xi ..];refine Ya ?_;rw[List.forIn_nil];exact Yg (Yg (h _ rfl))
theorem tX{prog:Program}{w:World}{A:Around}{R:Kr}{s:Shared}{elt target iter:Expr}{ifs:List Expr}{scope:Scope}{pos:Pos}{it acc:Value}{env:Env}(I:Nat->Shared->Prop)
  (turn:∀n s,I n s->wpAny (model prog w) A (pyNext it) (fun r s₁=>match r with
   |none=>R (.ok .next) s₁
   |some v=>wpAny (model prog w) A (letOwnedTupleGo target it v) (fun _ s₁=>wpAny (model prog w) A (assign target env v) (fun _ s₂=>
     wpAny (model prog w) A (forIn ifs true fun c r=>if r=true then do let ok <-isTrue c env (eval c env);pure (ForInStep.yield ok)else pure (ForInStep.yield r)) (fun ok s₃=>
      if ok=true then wpAny (model prog w) A (eval elt env) (fun x s₄=>
       wpAny (model prog w) A (call (.builtin "list.append") [acc,x]) (fun _ s₅=>∃m,m<n/\I m s₅) (fun _ _=>False) s₄) (fun _ _=>False) s₃
      else ∃m,m<n/\I m s₃) (fun _ _=>False) s₂) (fun _ _=>False) s₁) (fun _ _=>False) s₁) (fun _ _=>False) s)
  (n:Nat) (h:I n s) :
  codeAny (model prog w) A (.compLoop (.ListComp elt [⟨target,iter,ifs,0⟩] scope pos) 0 it acc env) R s:=by
 refine codeAny_loop rfl I (fun n s hI=>?_) n h;show wpAny _ A ((compTurn (.ListComp elt [⟨target,iter,ifs,0⟩] scope pos) 0 it acc env).onRaise (fun x=>do noteFrame x env;theTreesLotGoes x)) _ _ s;refine wpAny_noted ?_;rw[compTurn_list];refine Ya (wpAny_standAt (Ya (Xl (turn n s hI) (fun r s₁ h₁=>?_) fun _ _ h'=>h'.elim)));cases r with
 |none=>exact Yg h₁
 |some v=>
  refine Ya (Xl h₁ (fun _ s₁' h₁'=>?_) fun _ _ h'=>h'.elim);refine Ya (Xl h₁' (fun _ s₂ h₂=>Ya (Xl h₂ (fun ok s₃ h₃=>?_) fun _ _ h'=>h'.elim)) fun _ _ h'=>h'.elim);cases ok with
  |true=>
   rw[if_pos rfl]at h₃;simp only[VV];exact Ya (Ya (Xl h₃ (fun x s₄ h₄=>Ya (Xl h₄ (fun _ s₅ h₅=>Yg (Yg ⟨rfl,h₅⟩)) fun _ _ h'=>h'.elim)) fun _ _ h'=>h'.elim))
  |false=>
   rw[if_neg Yj]at h₃;simp only[ZE,Vk];exact Yg ⟨rfl,h₃⟩
def Ew:TT:=fun _ H Q=>Q true H
def ms(X:Cx)(ifs:List Expr)(t:TT):Prop:=
 ∀(pz:Kp) (s:Shared) (σ:St) (H:Hp) (Q:Bool->Hp->Prop),Inv X pz σ H s->t σ H Q->
  wpAny (model X.prog X.w) X.A (forIn ifs true fun c r=>if r=true then do let ok <-isTrue c X.env (eval c X.env);pure (ForInStep.yield ok)else pure (ForInStep.yield r)) (TP X pz σ Q) X.xe s
theorem vD{X:Cx}:ms X [] Ew:=fun _ _ _ H _ I h=>Yg ⟨H,I,h⟩
theorem wI{X:Cx}{c:Expr}{t:TT}(h:PT X c t):ms X [c] t:=fun pz s σ H Q I q=>wpAny_tests_one (h pz s σ H Q I q)
def xg(own:Nat)(ix:List Nat)(wi:TI)(g:TG)(tc:TT)(te:TE):TE:=fun σ H Q=>wi σ H fun J H1=>∀acc,H1 acc=none->∃W:Nat->Nat->List V->Hp->Prop,
 (∃m,W 0 m [] (upd H1 acc (.lst [])))/\∀i m ys H,W i m ys H->
  (J.stop i H/\Q (.ref acc) H)\/(J.go i H/\∃N:List V->Hp->Prop,(∀ys' H',N ys' H'->∃m',m' < m/\W (i+1) m' ys' H')/\∀x H',J.yld i H x H'->g x (da own ix σ) H' fun σ2 H2=>
   (σ2.length=own+ix.length/\∀(j:Nat) v,(da own ix σ)[j]?=some (some v)->σ2[j]?=some (some v)) /\
   tc σ2 H2 fun ok H3=>if ok=true then te σ2 H3 fun y H4=>H4 acc=some (.lst ys)/\ys.length<sizeLine/\N (ys++[y]) (upd H4 acc (.lst (ys++[y])))else N ys H3)
section
variable{X:Cx}{elt tg iter:Expr}{ifs:List Expr}{scope:Scope}{pos:Pos}{N:List Str}{own:Nat}{ix:List Nat}{wi:TI}{g:TG}{tc:TT}{te:TE}
theorem i5{pz:Kp}{σ:St}{s:Shared}{Q:VK}{itv:Value}{RR:Value->Addr->Result->Shared->Prop}{E:Kv}(hcalm:X.calm=true)(b:BlkScope X scope)(cp:Caps X scope N own ix)
  (hg:∀s H fp pz,PG (blk X scope N s H fp pz) tg g) (hc:∀s H fp pz,ms (blk X scope N s H fp pz) ifs tc) (he:∀s H fp pz,PE (blk X scope N s H fp pz) elt te)
  (hp:PIE X pz σ tg (fun J H1=>∀acc,H1 acc=none->∃W:Nat->Nat->List V->Hp->Prop,
   (∃m,W 0 m [] (upd H1 acc (.lst [])))/\∀i m ys H,W i m ys H->
    (J.stop i H/\Q (.ref acc) H)\/(J.go i H/\∃N:List V->Hp->Prop,(∀ys' H',N ys' H'->∃m',m' < m/\W (i+1) m' ys' H')/\∀x H',J.yld i H x H'->g x (da own ix σ) H' fun σ2 H2=>
     (σ2.length=own+ix.length/\∀(j:Nat) v,(da own ix σ)[j]?=some (some v)->σ2[j]?=some (some v)) /\
     tc σ2 H2 fun ok H3=>if ok=true then te σ2 H3 fun y H4=>H4 acc=some (.lst ys)/\ys.length<sizeLine/\N (ys++[y]) (upd H4 acc (.lst (ys++[y])))else N ys H3)) itv s)
  (hR:∀(s3:Shared) (H3:Hp) (fp:List Addr) (acc:Addr) (σ':St) (H':Hp) (s':Shared),Inv X pz σ H3 s3->(∀a∈fp,fV X pz H3 a)->Inv (blk X scope N s3 H3 fp pz) [] σ' H' s'->Q (.ref acc) H'->RR (.ref acc) s3.heap.objs.size (.ok .next) s') :
  wpAny (model X.prog X.w) X.A (newList []) (fun acc s₃=>wpAny (model X.prog X.w) X.A (newFunctionEnv scope X.env.globals (cz X.env.cells scope.names []) [] X.env.qual none .none (some X.env)) (fun cenv s₄=>
   codeAny (model X.prog X.w) X.A (.compStart (.ListComp elt [⟨tg,iter,ifs,0⟩] scope pos) 0 itv acc {cenv with scope:=relabel scope X.env}) (RR acc cenv.locals) s₄) E s₃) E s:=by
 obtain⟨it,fp,tn,J,H1,rfl,I1,T,st1,f1,hacc⟩:=hp;refine Xc ?_
 -- the list
 have I3:Inv X pz σ (upd H1 s.heap.objs.size (.lst [])) {s with heap:=s.heap.push {cls:=.type "list",dict:=none,data:=.seq ([]:List Value).toArray} }:=I1.lnew (ys:=[]) (its:=[]) .nil (YF _);generalize hs3:({s with heap:=s.heap.push {cls:=.type "list",dict:=none,data:=.seq ([]:List Value).toArray} }:Shared)=s3 at I3 ⊢;have kp3:∀a o,s.heap.get? a=some o->s3.heap.get? a=some o:=fun a o e=>by rw[<-hs3];exact Yh _ e
 have st3:tn 0 s3.heap:=T.keep _ _ _ st1 fun a _ o e=>kp3 a o e
 have lt1:∀a∈fp,a<s.heap.objs.size:=fun a ha=>by obtain⟨o,e,_⟩:=T.obj _ _ st1 a ha;exact Yp e
 have f3:∀a∈fp,fV X pz (upd H1 s.heap.objs.size (.lst [])) a:=fun a ha=>⟨by rw[aK (YA (lt1 a ha))];exact(f1 a ha).1,(f1 a ha).2⟩
 have lt3:∀a∈fp,a<s3.heap.objs.size:=fun a ha=>by obtain⟨o,e,_⟩:=T.obj _ _ st3 a ha;exact Yp e
 obtain⟨W,⟨m0,w0⟩,turn⟩:=hacc s.heap.objs.size I1.fresh;generalize hH3:upd H1 s.heap.objs.size (.lst [])=H3 at I3 f3 w0;generalize hacc':s.heap.objs.size=acc at w0 turn ⊢;refine pU _ fun cenv hc'=>?_;subst hc';have J0:=uz (N:=N) (fp:=fp) b cp I3 f3 lt3;have st4:tn 0 (pushCells (s3.heap.push {cls:=.type "dict",data:=.dict #[]}) scope.names):=T.keep _ _ _ st3 fun a _ o e=>VE _ _ a o (Yh _ e)
 generalize hs4:({s3 with heap:=pushCells (s3.heap.push {cls:=.type "dict",data:=.dict #[]}) scope.names}:Shared)=s4 at J0 ⊢;have st4':tn 0 s4.heap:=by rw[<-hs4];exact st4
 -- the loop
 have loop:codeAny (model X.prog X.w) X.A (.compLoop (.ListComp elt [⟨tg,iter,ifs,0⟩] scope pos) 0 (.ref it) (.ref acc) (fB X.env scope s3.heap.objs.size)) (RR (.ref acc) s3.heap.objs.size) s4:=by
  refine tX (fun n s'=>∃i ys H',Inv (blk X scope N s3 H3 fp pz) [] (da own ix σ) H' s'/\tn i s'.heap/\(∀a∈fp,H' a=none)/\W i n ys H') ?_ m0 ⟨0,[],H3,J0,st4',fun a ha=>(f3 a ha).1,w0⟩;rintro n s5 ⟨i,ys,H5,J5,st5,fr5,w5⟩;have fp5:=wA (pl:=[]) (N:=N) b I3 f3 lt3 fr5;rcases turn i n ys H5 w5 with⟨stop,q⟩|⟨go,NN,hN,step⟩
  ·refine thn (T.done (blk X scope N s3 H3 fp pz) rfl rfl rfl hcalm i [] s5 _ H5 _ J5 fp5 st5 stop) fun r s6 ⟨hr,J6⟩=>?_;subst hr;exact hR s3 H3 fp acc _ H5 s6 I3 f3 J6 q
  ·refine thn (T.item (blk X scope N s3 H3 fp pz) rfl rfl rfl hcalm i [] s5 _ H5 _ J5 fp5 st5 go) fun r s6 ⟨u,hr,h6⟩=>?_;subst hr;refine thn h6 fun _ s7 hh_=>?_;obtain⟨x,H7,J7,r7,y7,st7,fr7⟩:=hh_;have fp7:=wA (pl:=[]) (N:=N) b I3 f3 lt3 fr7;have J7':=J7.pinned fp7 (T.obj _ _ st7);have back:∀{σ8:St}{H8:Hp}{s8:Shared}{zs:List V},Inv (blk X scope N s3 H3 fp pz) ([]++jU fp s7.heap) σ8 H8 s8->(σ8.length=own+ix.length/\∀(j:Nat) v,(da own ix σ)[j]?=some (some v)->σ8[j]?=some (some v))->NN zs H8->
     ∃m,m<n/\∃i ys H',Inv (blk X scope N s3 H3 fp pz) [] (da own ix σ) H' s8/\tn i s8.heap/\(∀a∈fp,H' a=none)/\W i m ys H':=fun{σ8 H8 s8 zs} J8 hw n8=>by
    obtain⟨m',hm,w8⟩:=hN zs H8 n8;refine⟨m',hm,i+1,zs,H8,(J8.unpinned).weak (by rw[fH,hw.1]) hw.2,T.keep _ _ _ st7 fun a ha o e=>(J8.pin (a,o) (YW _ (YW _ (eN ha e)))).1,fun a ha=>?_,w8⟩;obtain⟨o,e,d⟩:=T.obj _ _ st7 a ha;exact(J8.pin (a,o) (YW _ (YW _ (eN ha e)))).2.1
   refine thn (hg s3 H3 fp pz _ s7 _ H7 x u _ J7' r7 (step x H7 y7)) fun _ s8 hh_=>?_;obtain⟨σ8,H8,J8,hw,q8⟩:=hh_;refine thn (hc s3 H3 fp pz _ s8 σ8 H8 _ J8 q8) fun ok s9 hh_=>?_;obtain⟨H9,J9,q9⟩:=hh_;cases ok with
   |false=>
    rw[if_neg Yj]at q9 ⊢;exact back J9 hw q9
   |true=>
    rw[if_pos rfl]at q9 ⊢;refine thn (he s3 H3 fp pz _ s9 σ8 H9 _ J9 q9) fun y s10 hh_=>?_;obtain⟨z,H10,J10,rz,e10,hlt,n10⟩:=hh_;refine thn (gO (X:=blk X scope N s3 H3 fp pz) _ s10 σ8 H10 (.ref acc) [z] (.ref acc) [y] (fun v H'=>v=.non/\H'=upd H10 acc (.lst (ys++[z]))) J10 rfl (.cons rz .nil) ⟨acc,ys,z,rfl,rfl,e10,hlt,rfl,rfl⟩) fun _ s11 hh_=>?_;obtain⟨_,H11,J11,_,_,e11⟩:=hh_;subst e11;exact back J11 hw n10
 subst hs4;exact codeAny_compStart_list loop (T.self _ _ _ _ _ st4' loop)
theorem yb(hcalm:X.calm=true)(b:BlkScope X scope)(cp:Caps X scope N own ix)(hi:PI X tg iter wi)
  (hg:∀s H fp pz,PG (blk X scope N s H fp pz) tg g) (hc:∀s H fp pz,ms (blk X scope N s H fp pz) ifs tc) (he:∀s H fp pz,PE (blk X scope N s H fp pz) elt te)
  (hnames:∀y∈scope.names,y.2=.local->scope.names.lookup y.1=some .local:=by decide)
  (hs:∀x,foldedSetIterable iter X.env x=pure x:=by intro _;rfl):PE X (.ListComp elt [⟨tg,iter,ifs,0⟩] scope pos) (xg own ix wi g tc te):=by
 intro pz s σ H Q I h;rw[eval_ListComp];refine wpAny_comprehension_free (use:=none) rfl hs (jO (b.cl I.ok)) b.kind hnames (thn (hi pz s σ H _ I h) fun v s1 h1=>thn h1 fun itv s2 h2=>?_);refine i5 (RR:=fun acc C=>compPost (model X.prog X.w) X.A X.xe none (EP X pz σ Q) acc C) hcalm b cp hg hc he h2 ?_;intro s3 H3 fp acc σ' H' s' I3 f3 J q;obtain⟨m,hn,_⟩:=id J.loc;exact⟨m,hn,fun h' hs'=>⟨.ref acc,H',n5 I3 f3 J hs',rfl,q⟩⟩
theorem rc{i:Nat}{y:Str}{py spos:Pos}(hcalm:X.calm=true)(hN:X.N.Nodup)(hiN:X.N[i]?=some y)(hx:Loc X.env.scope y)(b:BlkScope X scope)(cp:Caps X scope N own ix)(hi:PI X tg iter wi)
  (hg:∀s H fp pz,PG (blk X scope N s H fp pz) tg g) (hc:∀s H fp pz,ms (blk X scope N s H fp pz) ifs tc) (he:∀s H fp pz,PE (blk X scope N s H fp pz) elt te)
  (hsw:swapsWith (.ListComp elt [⟨tg,iter,ifs,0⟩] scope pos) (some (.Name y py)) spos.line X.env=pure true:=by rfl)
  (hnames:∀y∈scope.names,y.2=.local->scope.names.lookup y.1=some .local:=by decide)
  (hs:∀x,foldedSetIterable iter X.env x=pure x:=by intro _;rfl)
  (hf:X.fn y=true\/X.env.scope.names.lookup y=some .local:=by first|exact .inl rfl|exact .inr rfl|assumption) :
  PS X (.Assign [.Name y py] (.ListComp elt [⟨tg,iter,ifs,0⟩] scope pos) spos) (xk (xg own ix wi g tc te) (ke i)):=by
 intro pz s σ H D I h;rw[exec_Assign_Name_used _ _ _ _ hsw];refine Ya (wpAny_standAt (Ya ?_));show wpAny _ X.A (do let _ <-comprehension (.ListComp elt [⟨tg,iter,ifs,0⟩] scope pos) scope X.env _ (newList []) false (eval iter X.env) (some (assign (.Name y py) X.env))) _ _ s;refine Ya (Xl (wpAny_comprehension_free (use:=some (assign (.Name y py) X.env)) (Q:=fun _ s'=>SP X pz D .next s') rfl hs (jO (b.cl I.ok)) b.kind hnames
  (thn (hi pz s σ H _ I h) fun v s1 h1=>thn h1 fun itv s2 h2=>?_)) (fun _ s' hq=>Yg (Yg hq)) fun _ _ e=>e)
 refine i5 (Q:=fun x H1=>ke i x σ H1 D.nx) (RR:=fun acc C=>compPost (model X.prog X.w) X.A X.xe (some (assign (.Name y py) X.env)) (fun _ s'=>SP X pz D .next s') acc C) hcalm b cp hg hc he h2 ?_;intro s3 H3 fp acc σ' H' s' I3 f3 J q;obtain⟨m,hn,_⟩:=id J.loc;have hn:s'.heap.Ns s3.heap.objs.size m:=hn;have I':Inv X pz σ H' s':=n5 I3 f3 J (Heap.SameBut.refl ..);show wpAny _ X.A (assign (.Name y py) X.env (.ref acc)) _ _ s';refine wpAny_assign_Name (la (v:=.ref acc) I' hN hiN hx rfl (fun s'' I'' hh_=>?_) hf);obtain⟨a,hsb,ha⟩:=hh_;have hne:s3.heap.objs.size≠a:=by
  rcases ha with ha|ha
  ·rw[ha];exact ZM I3.lt
  ·obtain⟨v,z⟩:=I3.cell y a ha;exact ZM z.lt
 refine⟨m,hn.sameBut hsb hne,fun h' hs'=>?_⟩;refine⟨σ.set i (some (.ref acc)),H',?_,q⟩;exact I''.turned (h':=h') (t':=s''.toks) (it:=s3.heap.objs.size) (fun c o hc e=>(hs'.2 c hc).trans e) J.free (ZM I3.lt) (.inr I3.sz) (fun x c e=>by obtain⟨v,z⟩:=I3.cell x c e;exact YA z.lt) fun p hp=>YA (Yp (I3.pin p hp).1)
end
section
variable{κ:Type} [DecidableEq κ]
def eZ(kvs:List (κ×V))(k:κ):Option V:=(kvs.find? fun kv=>decide (kv.1=k)).map (·.2)
def gN(kvs:List (κ×V))(k:κ)(v:V):List (κ×V):=
 if(kvs.any fun kv=>decide (kv.1=k))=true then kvs.map (fun kv=>if kv.1=k then(kv.1,v)else kv)else kvs++[(k,v)]
theorem jn{p:κ×V}{r:List (κ×V)}{k:κ}(e:p.1=k):eZ (p::r) k=some p.2:=by simp[eZ,Xe,e]
theorem j8{p:κ×V}{r:List (κ×V)}{k:κ}(e:¬p.1=k):eZ (p::r) k=eZ r k:=by simp[eZ,Xe,e]
theorem nS(k:κ):∀kvs:List (κ×V),(kvs.any fun kv=>decide (kv.1=k))=(eZ kvs k).isSome
 |[]=>rfl
 |p::r=>by
  rw[XS];by_cases e:p.1=k
  ·simp only[jn e,YK e,Bool.true_or,Option.isSome_some]
  ·rw[j8 e,YB e,Bool.false_or];exact nS k r
theorem iA(kvs:List (κ×V))(k:κ)(v:V):(gN kvs k v).length<=kvs.length+1:=by
 unfold gN;split
 ·rw[Yd];omega
 ·rw[Yu,Yw,Zn];omega
theorem RelO.isSome_eq{o:Option V}{u:Option Value}(r:RelO o u):o.isSome=u.isSome:=by
 cases o with
 |none=>cases u with
  |none=>rfl
  |some _=>exact(show False from r).elim
 |some _=>cases u with
  |none=>exact(show False from r).elim
  |some _=>rfl
theorem RelO.getD{o:Option V}{u:Option Value}{d:V}{d':Value}(r:RelO o u)(rd:RelV d d'):RelV (o.getD d) (u.getD d'):=by
 cases o with
 |none=>cases u with
  |none=>exact rd
  |some _=>exact(show False from r).elim
 |some _=>cases u with
  |none=>exact(show False from r).elim
  |some _=>exact r
theorem KV.val{kvs:List (κ×V)}{vs:List (κ×Value)}(r:KV kvs vs)(k:κ):RelO (eZ kvs k) (valueAt vs k):=by
 unfold KV at r;induction r with
 |nil=>exact True.intro
 |@cons p q ps qs h t ih=>
  obtain⟨h1,h2⟩:=h;by_cases e:p.1=k
  ·have e':q.1=k:=h1.symm.trans e;have b:valueAt (q::qs) k=some q.2:=by simp[valueAt,Xe,e']
   rw[jn e,b];exact h2
  ·have e':¬q.1=k:=fun z=>e (h1.trans z)
   have b:valueAt (q::qs) k=valueAt qs k:=by simp[valueAt,Xe,e']
   rw[j8 e,b];exact ih
theorem KV.any{kvs:List (κ×V)}{vs:List (κ×Value)}(r:KV kvs vs)(k:κ):(kvs.any fun kv=>decide (kv.1=k))=vs.any fun kv=>decide (kv.1=k):=by
 unfold KV at r;induction r with
 |nil=>rfl
 |cons h t ih=>rw[XS,XS,ih,h.1]
theorem KV.repl{kvs:List (κ×V)}{vs:List (κ×Value)}(r:KV kvs vs)(k:κ){y:V}{u:Value}(ry:RelV y u) :
  KV (kvs.map fun kv=>if kv.1=k then(kv.1,y)else kv) (vs.map fun kv=>if kv.1=k then(kv.1,u)else kv):=by
 unfold KV at r ⊢;induction r with
 |nil=>exact .nil
 |@cons p q ps qs h t ih=>
  rw[YG,YG];refine .cons ?_ ih;obtain⟨h1,h2⟩:=h;by_cases e:p.1=k
  ·rw[if_pos e,if_pos (h1.symm.trans e)];exact⟨h1,ry⟩
  ·rw[if_neg e,if_neg (fun z=>e (h1.trans z))];exact⟨h1,h2⟩
theorem KV.put{kvs:List (κ×V)}{vs:List (κ×Value)}(r:KV kvs vs)(k:κ){y:V}{u:Value}(ry:RelV y u):KV (gN kvs k y) (stored vs k u):=by
 unfold gN stored;rw[r.any k];by_cases e:(vs.any fun kv=>decide (kv.1=k))=true
 ·rw[if_pos e,if_pos e];exact r.repl k ry
 ·rw[if_neg e,if_neg e];exact Paired.snoc r ⟨rfl,ry⟩
theorem KV.length{kvs:List (κ×V)}{vs:List (κ×Value)}(r:KV kvs vs):kvs.length=vs.length:=Paired.length r
end
theorem u5{P:Program}{w:World}{k:Key}{u:Value}(r:RelV (kV k) u):(bT P w).is k u=true:=by
 cases k with
 |inl i=>obtain⟨t,e⟩:=(show ∃t,u=Value.int i t from r);subst e;exact ot P w i t
 |inr x=>obtain⟨t,e⟩:=(show ∃t,u=Value.str x t from r);subst e;exact pH P w x t
theorem lC{P:Program}{w:World}:∀{ks:List Key}{us:List Value},Vals (ks.map kV) us->ItemsAre (bT P w) ks us
 |[],_,r=>by rw[List.map_nil]at r;cases r;exact .nil
 |k::ks,_,r=>by
  rw[YG]at r;cases r with
  |cons h t=>exact .cons (u5 h) (lC t)
abbrev KT(H:Hp):List (List Key×V)->List (List Key×Addr×Value)->Prop:=Paired fun p q=>p.1=q.1/\H q.2.1=some (.tup (p.1.map kV))/\RelV p.2 q.2.2
theorem KT.val{H:Hp}{kvs:List (List Key×V)}{xs:List (List Key×Addr×Value)}(r:KT H kvs xs)(k:List Key):RelO (eZ kvs k) ((atKey xs k).map (·.2)):=by
 induction r with
 |nil=>exact True.intro
 |@cons p q ps qs h t ih=>
  obtain⟨h1,_,h2⟩:=h;by_cases e:p.1=k
  ·have e':q.1=k:=h1.symm.trans e;have b:atKey (q::qs) k=some q.2:=by simp[atKey,Xe,e']
   rw[jn e,b];exact h2
  ·have e':¬q.1=k:=fun z=>e (h1.trans z)
   have b:atKey (q::qs) k=atKey qs k:=by simp[atKey,Xe,e']
   rw[j8 e,b];exact ih
theorem KT.repl{H:Hp}{kvs:List (List Key×V)}{xs:List (List Key×Addr×Value)}(r:KT H kvs xs)(k:List Key){y:V}{u:Value}(ry:RelV y u) :
  KT H (kvs.map fun kv=>if kv.1=k then(kv.1,y)else kv) (xs.map (putAt k u)):=by
 induction r with
 |nil=>exact .nil
 |@cons p q ps qs h t ih=>
  rw[YG,YG];refine .cons ?_ ih;obtain⟨h1,h2,h3⟩:=h;unfold putAt;by_cases e:p.1=k
  ·rw[if_pos e,if_pos (h1.symm.trans e)];exact⟨h1,h2,ry⟩
  ·rw[if_neg e,if_neg (fun z=>e (h1.trans z))];exact⟨h1,h2,h3⟩
theorem KT.put{H:Hp}{kvs:List (List Key×V)}{xs:List (List Key×Addr×Value)}(r:KT H kvs xs)(k:List Key){b:Addr}{y:V}{u:Value}(hb:H b=some (.tup (k.map kV)))(ry:RelV y u) :
  KT H (gN kvs k y) (storedH xs k b u):=by
 have e:(kvs.any fun kv=>decide (kv.1=k))=(atKey xs k).isSome:=by rw[nS,(r.val k).isSome_eq,Option.isSome_map]
 unfold gN storedH;rw[e];by_cases q:(atKey xs k).isSome=true
 ·rw[if_pos q,if_pos q];exact r.repl k ry
 ·rw[if_neg q,if_neg q];exact Paired.snoc r ⟨rfl,hb,ry⟩
theorem KT.keeps{H H':Hp}{kvs:List (List Key×V)}{xs:List (List Key×Addr×Value)}(r:KT H kvs xs)(ht:∀b ys,H b=some (.tup ys)->H' b=some (.tup ys)):KT H' kvs xs:=
 Paired.mapP r fun _ _ z=>⟨z.1,ht _ _ z.2.1,z.2.2⟩
section
variable{P:Program}{w:World}{H:Hp}{h:Heap}{a:Addr}
theorem zM{u:HO}(ok:HOk P w H h)(e:Rd H a u):ObjOk P w H h a u:=e.ok ok
theorem uS{kvs:List (Key×V)}(ok:HOk P w H h)(e:Rd H a (.dK kvs)):kvs.length<=sizeLine/\(a == sysModules)=false/\∃vs,KV kvs vs/\h.DictOf (bT P w) a vs:=
 show ObjOk P w H h a (.dK kvs)from zM ok e
theorem Ds{kvs:List (Key×V)}(ok:HOk P w H h)(e:H a=some (.dK kvs)):kvs.length<=sizeLine/\(a == sysModules)=false/\∃vs,KV kvs vs/\h.DictOf (bT P w) a vs:=uS ok (.inl e)
theorem qG{ks:List Key}(ok:HOk P w H h)(e:H a=some (.tup (ks.map kV))):(tupleKind (bT P w)).is h ks a:=by
 obtain⟨_,its,r,⟨o,h1,h2,n,h3⟩,_⟩:=(show ObjOk P w H h a (.tup (ks.map kV))from ok a _ e)
 exact⟨o,its.toArray,n,h1,h2,h3,by simpa using lC r⟩
theorem uL{kvs:List (List Key×V)}(ok:HOk P w H h)(e:Rd H a (.dT kvs)):kvs.length<=sizeLine/\(a == sysModules)=false /\
  ∃xs,KT H kvs xs/\h.DictOfH (tupleKind (bT P w)) a xs:=by
 obtain⟨z,y,xs,r,o,es,ep,h1,h2,h3,h4,h5⟩:=(show ObjOk P w H h a (.dT kvs)from zM ok e)
 refine⟨z,y,xs,r,o,es,ep,h1,h2,h3,h4,fun x hx=>?_,h5⟩;have all:∀{l:List (List Key×V)}{m:List (List Key×Addr×Value)},KT H l m->∀x∈m,(tupleKind (bT P w)).is h x.1 x.2.1:=by
  intro l m q;induction q with
  |nil=>intro x hx;exact nomatch hx
  |@cons p q ps qs hq t ih=>
   intro x hx;rcases Yr.mp hx with e|hx
   ·subst e;exact qG ok (by rw[<-hq.1];exact hq.2.1)
   ·exact ih x hx
 exact all r x hx
theorem D_{kvs:List (List Key×V)}(ok:HOk P w H h)(e:H a=some (.dT kvs)):kvs.length<=sizeLine/\(a == sysModules)=false /\
  ∃xs,KT H kvs xs/\h.DictOfH (tupleKind (bT P w)) a xs:=uL ok (.inl e)
end
def DGet(H:Hp)(a:Addr)(y:V)(r:Option V):Prop:=
 (∃kvs k,Rd H a (.dK kvs)/\y=kV k/\r=eZ kvs k)\/∃kvs k b,Rd H a (.dT kvs)/\y=.ref b/\H b=some (.tup (k.map kV))/\r=eZ kvs k
def DPut(H:Hp)(a:Addr)(y v:V)(H':Hp):Prop:=
 (∃kvs k,H a=some (.dK kvs)/\y=kV k/\kvs.length<sizeLine/\H'=upd H a (.dK (gN kvs k v))) \/
 ∃kvs k b,H a=some (.dT kvs)/\y=.ref b/\H b=some (.tup (k.map kV))/\kvs.length<sizeLine/\H'=upd H a (.dT (gN kvs k v))
theorem DGet.t{H:Hp}{a b:Addr}{kvs:List (List Key×V)}{k:List Key}(e:H a=some (.dT kvs))(eb:H b=some (.tup (k.map kV))):DGet H a (.ref b) (eZ kvs k):=.inr ⟨kvs,k,b,.inl e,rfl,eb,rfl⟩
theorem DPut.t{H:Hp}{a b:Addr}{kvs:List (List Key×V)}{k:List Key}{v:V}(e:H a=some (.dT kvs))(eb:H b=some (.tup (k.map kV)))(hl:kvs.length<sizeLine) :
  DPut H a (.ref b) v (upd H a (.dT (gN kvs k v))):=.inr ⟨kvs,k,b,e,rfl,eb,hl,rfl⟩
section
variable{X:Cx}{pz:Kp}{σ:St}{H:Hp}{s:Shared}{a:Addr}{y v:V}{u r:Value}{o:Option V}{A:Around}{E:Kv}
theorem Inv.big(I:Inv X pz σ H s):sysModules<s.heap.objs.size:=by have h:mainGlobals<s.heap.objs.size:=(I.mod.glob.keeps I.bk).lt;exact Xg (by decide) h
theorem rG{h':Heap}{t':Nat}{ob:HO}(I:Inv X pz σ H s)(mu:Mut (H a))(hs:Heap.SameBut a s.heap h')(he:∃q,h'.get? a=some q)(new:ObjOk X.prog X.w (upd H a ob) h' a ob) :
  Inv X pz σ (upd H a ob) {s with heap:=h',toks:=t' }:=
 I.write (x:=a) (e:=a) mu (.inl rfl) (fun b q hb z=>(hs.2 b hb).trans z) he new
theorem Bf{P:Program}{w:World}{H':Hp}{h':Heap}{kvs:List (Key×V)}{vs:List (Key×Value)}(z:kvs.length<=sizeLine)(hd:(a == sysModules)=false)(rel:KV kvs vs)(dd:h'.DictOf (bT P w) a vs) :
  ObjOk P w H' h' a (.dK kvs):=⟨z,hd,vs,rel,dd⟩
theorem t8{H':Hp}{Q:Unit->Shared->Prop}(hu:A.units+1<cLine)(I:Inv X pz σ H s)(g:DPut H a y v H')(ry:RelV y u)(rv:RelV v r)(h:∀s',Inv X pz σ H' s'->Q () s') :
  wpAny (model X.prog X.w) A (setItem (.ref a) u r) Q E s:=by
 rcases g with⟨kvs,k,e,ey,l,eH⟩|⟨kvs,k,b,e,ey,eb,l,eH⟩
 ·subst ey eH;obtain⟨z,hd,vs,rel,dd⟩:=Ds I.hok e;have hz:vs.length<=sizeLine:=by rw[<-rel.length];exact z
  have hl:(gN kvs k v).length<=sizeLine:=by have:=iA kvs k v;omega
  refine wpAny_setItem_pairs (hsz:=hz) (u5 ry) dd fun h' dd' hs=>h _ ?_;have he:∃q,h'.get? a=some q:=let ⟨q,_,_,hq,_⟩:=dd';⟨q,hq⟩
  exact rG I (by rw[e];exact True.intro) hs he (Bf hl hd (rel.put k rv) dd')
 ·subst ey eH;cases(show u=Value.ref b from ry);obtain⟨z,hd,xs,rel,dd⟩:=D_ I.hok e;have hz:xs.length<=sizeLine:=by rw[<-Paired.length rel];exact z
  have hl:(gN kvs k v).length<=sizeLine:=by have:=iA kvs k v;omega
  refine wpAny_setItem_heap (hsz:=hz) (tupleKind_room_in1 hu) (qG I.hok eb) dd fun h' dd' hs=>h _ ?_;obtain⟨q,es,ep,hq,h2,h3,h4,_,h5⟩:=dd';refine rG I (by rw[e];exact True.intro) hs ⟨q,hq⟩ ⟨hl,hd,_,(rel.put k eb rv).keeps fun c ys ec=>?_,q,es,ep,hq,h2,h3,h4,h5⟩;rw[aK (Da ec e (fun z=>nomatch z))];exact ec
end
section
variable{X:Cx}{pz:Kp}{σ:St}{H:Hp}{s:Shared}{a:Addr}{kvs:List (Key×V)}{k:Key}{u:Value}{A:Around}{E:Kv}
end
def C3(td ty tv:TE):TS:=fun D σ H=>tv σ H fun v H1=>td σ H1 fun x H2=>ty σ H2 fun y H3=>∃a H4,x=.ref a/\DPut H3 a y v H4/\D.nx σ H4
section
variable{X:Cx}{o i e value:Expr}{pos pos' tpos:Pos}{td ty tv:TE}
theorem yk(hu:X.A.units+1<cLine)(ho:PE X o td)(hi:PE X i ty)(hv:PE X value tv)(hs:swapsWith value (some (.Subscript o i pos')) pos.line X.env=pure false) :
  PS X (.Assign [.Subscript o i pos'] value pos) (C3 td ty tv):=by
 intro pz s σ H D I h;refine wpAny_Assign_Subscript (bC (hv pz s σ H _ I h) fun r s1 v H1 I1 rv q1=>bC (ho pz s1 σ H1 _ I1 q1) fun u s2 x H2 I2 rx q2=>bC (hi pz s2 σ H2 _ I2 q2) fun iv s3 y H3 I3 ry hh_=>?_) hs;obtain⟨a,H4,ex,g,q3⟩:=hh_;subst ex;obtain rfl:u=Value.ref a:=rx;exact t8 hu I3 g ry rv fun s4 I4=>⟨σ,H4,I4,q3⟩
end
theorem vK{P:Program}{w:World}{H:Hp}(h:Heap)(hb:sysModules<h.objs.size):ObjOk P w H (h.push {cls:=.type "dict",data:=.dict #[]}) h.objs.size (.dT []):=
 ⟨YF _,Xo.mpr (XM (YA hb)),[],.nil,_,#[],0,Ym _ rfl,⟨rfl,rfl,rfl⟩,rfl,rfl,List.nodup_nil⟩
def Ae:TE:=fun _ H Q=>∀p,H p=none->Q (.ref p) (upd H p (.dT []))
section
variable{X:Cx}{pos:Pos}
theorem wf:PE X (.Dict [] [] pos) Ae:=fun pz s σ H Q I h=>
 wpAny_Dict_empty ⟨.ref s.heap.objs.size,_,I.laid (a:=s.heap.objs.size) (o:=.dT []) (t':=s.toks) (fun _ _ q=>Yh _ q) (Yl _) (vK s.heap I.big),rfl,h _ (I.hok.fresh (Yl _))⟩
end
structure M2 (X:Cx) (o:Expr) (m:Str) (apos:Pos) (e f:Expr) (cpos:Pos):Prop where
 base:attributeBase o m X.env (eval o X.env)=eval o X.env
 few:((backTo cpos (starEach [e,f] X.env)).all (fun x=>!x.1)&&(backToKw cpos (keywordEach [] X.env)).all (fun x=>x.1.isSome)
  && decide (([e,f]:List Expr).length+([]:List Keyword).length+(if([]:List Keyword).isEmpty then 0 else 1)<30))=true
 line:(apos.endLine == cpos.line)=true
 trees:backTo cpos (starEach [e,f] X.env)=[(false,eval e X.env),(false,eval f X.env)]
def IsD(H:Hp)(a:Addr):Prop:=(∃kvs,Rd H a (.dK kvs))\/∃kvs,Rd H a (.dT kvs)
theorem Cg{X:Cx}{pz:Kp}{σ:St}{H:Hp}{s:Shared}{a:Addr}(I:Inv X pz σ H s)(d:IsD H a) :
  s.TypeIs (.ref a) "dict"/\(∀b,Value.ref a=.ref b->∃ob,s.heap.get? b=some ob/\ob.dict=none)/\(a == sysModules)=false:=by
 rcases d with⟨kvs,e⟩|⟨kvs,e⟩
 ·obtain⟨_,hd,vs,_,dd⟩:=uS I.hok e;refine⟨dd.typeIs,fun b q=>?_,hd⟩;cases q;obtain⟨ob,_,_,h1,h2,_⟩:=dd;exact⟨ob,h1,h2.2.1⟩
 ·obtain⟨_,hd,xs,_,dd⟩:=uL I.hok e;refine⟨dd.typeIs,fun b q=>?_,hd⟩;cases q;obtain⟨ob,_,_,h1,h2,_⟩:=dd;exact⟨ob,h1,h2.2.1⟩
section
variable{X:Cx}{pz:Kp}{σ:St}{H:Hp}{s:Shared}{a:Addr}{y d:V}{u r:Value}{o:Option V}{A:Around}{E:Kv}
theorem Ah{Q:Kv}(hu:A.units+1<cLine)(I:Inv X pz σ H s)(g:DGet H a y o)(ry:RelV y u)(rd:RelV d r)(h:∀w' s',Inv X pz σ H s'->RelV (o.getD d) w'->Q w' s') :
  wpAny (model X.prog X.w) A (call (.builtin "dict.get") [.ref a,u,r]) Q E s:=by
 rcases g with⟨kvs,k,e,ey,l⟩|⟨kvs,k,b,e,ey,eb,l⟩
 ·subst ey;obtain⟨z,hd,vs,rel,dd⟩:=uS I.hok e;refine call_meetsIn Vm dd.typeIs PySem.F.entry_dict_get (PySem.F.args_dict_get_3 _ _ _) (meets_dict_get_default (bT X.prog X.w) a (u5 ry) hd r) ⟨_,dd.mapOf,h _ _ (I.tok _) ?_⟩;rw[l];exact(rel.val k).getD rd
 ·subst ey;cases(show u=Value.ref b from ry);obtain⟨z,hd,xs,rel,dd⟩:=uL I.hok e;refine call_meetsIn Vm dd.typeIs PySem.F.entry_dict_get (PySem.F.args_dict_get_3 _ _ _) (meetsH_dict_get_default (tupleKind (bT X.prog X.w)) a b hd r) ⟨tupleKind_room_in1 hu,k,xs,qG I.hok eb,dd,h _ _ (I.tok _) ?_⟩;rw[l];exact(rel.val k).getD rd
end
def AY(td ty tx:TE):TE:=fun σ H Q=>td σ H fun x H1=>∃a,x=.ref a/\IsD H1 a/\ty σ H1 fun y H2=>tx σ H2 fun z H3=>∃o,DGet H3 a y o/\Q (o.getD z) H3
section
variable{X:Cx}{o e f:Expr}{apos cpos:Pos}{td ty tx:TE}
theorem wL(hu:X.A.units+1<cLine)(ho:PE X o td)(he:PE X e ty)(hf:PE X f tx)(m:M2 X o "get" apos e f cpos):PE X (.Call (.Attribute o "get" apos) [e,f] [] cpos) (AY td ty tx):=by
 intro pz s σ H Q I h;refine wpAny_Call_method m.base m.few m.line PySem.F.plainAttrs_dict Vm PySem.F.type_dict_get (bC (ho pz s σ H _ I h) fun u s1 x H1 I1 rx hh_=>?_);obtain⟨a,ex,d,q1⟩:=hh_;subst ex;obtain rfl:u=Value.ref a:=rx;obtain⟨t1,t2,_⟩:=Cg I1 d;refine⟨t1,t2,?_⟩;rw[m.trees];refine Calls.callWith_builtin rfl (Calls.evalArgs_plain (Calls.spliced_cons (bC (he pz s1 σ H1 _ I1 q1) fun iv s2 y H2 I2 ry q2=>
  Calls.spliced_cons (bC (hf pz s2 σ H2 _ I2 q2) fun fv s3 z H3 I3 rz ⟨ov,g,q3⟩=>Calls.spliced_nil ?_))))
 exact Ah hu I3 g ry rz fun w' s4 I4 rw'=>⟨_,H3,I4,rw',q3⟩
end
section
variable{X:Cx}{pz:Kp}{σ:St}{H:Hp}{s:Shared}{a:Addr}{kvs:List (Key×V)}{A:Around}{E:Kv}
end
section
variable{X:Cx}{pz:Kp}{σ:St}{H:Hp}{s:Shared}{a:Addr}{y:V}{u:Value}{A:Around}{E:Kv}
end
section
variable{κ:Type} [DecidableEq κ]
end
inductive D where
 |non|bl (b:Bool)|int (i:Int)|str (x:Str)
 |tup (xs:List D)|lst (xs:List D)
 |dT (kvs:List (List Key×D))|dK (kvs:List (Key×D))
 |ins (C:Addr) (fs:List (Str×D))
mutual
inductive Rep (K:PySem.W.Frag) (H:Hp):V->D->Prop
 |non:Rep K H .non .non
 |bl {b:Bool}:Rep K H (.bl b) (.bl b)
 |int {i:Int}:Rep K H (.int i) (.int i)
 |str {x:Str}:Rep K H (.str x) (.str x)
 |tup {a:Addr}{vs:List V}{ds:List D}:H a=some (.tup vs)->Reps K H vs ds->Rep K H (.ref a) (.tup ds)
 |lst {a:Addr}{vs:List V}{ds:List D}:SqL K H a vs->Reps K H vs ds->Rep K H (.ref a) (.lst ds)
 |dT {a:Addr}{vs:List (List Key×V)}{ds:List (List Key×D)}:H a=some (.dT vs)->RepsT K H vs ds->Rep K H (.ref a) (.dT ds)
 |dK {a:Addr}{vs:List (Key×V)}{ds:List (Key×D)}:H a=some (.dK vs)->RepsK K H vs ds->Rep K H (.ref a) (.dK ds)
 |ins {a C dx:Addr}{vs:List (Str×V)}{ds:List (Str×D)}:H a=some (.ins C dx vs)->RepsF K H vs ds->Rep K H (.ref a) (.ins C ds)
inductive Reps (K:PySem.W.Frag) (H:Hp):List V->List D->Prop
 |nil:Reps K H [] []
 |cons {v:V}{d:D}{vs:List V}{ds:List D}:Rep K H v d->Reps K H vs ds->Reps K H (v::vs) (d::ds)
inductive RepsT (K:PySem.W.Frag) (H:Hp):List (List Key×V)->List (List Key×D)->Prop
 |nil:RepsT K H [] []
 |cons {k:List Key}{v:V}{d:D}{vs:List (List Key×V)}{ds:List (List Key×D)}:Rep K H v d->RepsT K H vs ds->RepsT K H ((k,v)::vs) ((k,d)::ds)
inductive RepsK (K:PySem.W.Frag) (H:Hp):List (Key×V)->List (Key×D)->Prop
 |nil:RepsK K H [] []
 |cons {k:Key}{v:V}{d:D}{vs:List (Key×V)}{ds:List (Key×D)}:Rep K H v d->RepsK K H vs ds->RepsK K H ((k,v)::vs) ((k,d)::ds)
inductive RepsF (K:PySem.W.Frag) (H:Hp):List (Str×V)->List (Str×D)->Prop
 |nil:RepsF K H [] []
 |cons {k:Str}{v:V}{d:D}{vs:List (Str×V)}{ds:List (Str×D)}:Rep K H v d->RepsF K H vs ds->RepsF K H ((k,v)::vs) ((k,d)::ds)
end
section
variable{K:Kq}{H H':Hp}
theorem Rep.same(e:Same H H'){v:V}{d:D}(h:Rep K H v d):Rep K H' v d:=
 Rep.rec (motive_1:=fun v d _=>Rep K H' v d) (motive_2:=fun v d _=>Reps K H' v d) (motive_3:=fun v d _=>RepsT K H' v d) (motive_4:=fun v d _=>RepsK K H' v d) (motive_5:=fun v d _=>RepsF K H' v d) .non .bl .int .str (fun h _ i=>.tup (e _ _ h) i) (fun h _ i=>.lst (e.seq h) i) (fun h _ i=>.dT (e _ _ h) i) (fun h _ i=>.dK (e _ _ h) i) (fun h _ i=>.ins (e _ _ h) i) .nil (fun _ _ a b=>.cons a b) .nil (fun _ _ a b=>.cons a b) .nil (fun _ _ a b=>.cons a b) .nil (fun _ _ a b=>.cons a b) h
theorem Reps.same(e:Same H H'){v:List V}{d:List D}(h:Reps K H v d):Reps K H' v d:=
 Reps.rec (motive_1:=fun v d _=>Rep K H' v d) (motive_2:=fun v d _=>Reps K H' v d) (motive_3:=fun v d _=>RepsT K H' v d) (motive_4:=fun v d _=>RepsK K H' v d) (motive_5:=fun v d _=>RepsF K H' v d) .non .bl .int .str (fun h _ i=>.tup (e _ _ h) i) (fun h _ i=>.lst (e.seq h) i) (fun h _ i=>.dT (e _ _ h) i) (fun h _ i=>.dK (e _ _ h) i) (fun h _ i=>.ins (e _ _ h) i) .nil (fun _ _ a b=>.cons a b) .nil (fun _ _ a b=>.cons a b) .nil (fun _ _ a b=>.cons a b) .nil (fun _ _ a b=>.cons a b) h
theorem RepsT.same(e:Same H H'){v:List (List Key×V)}{d:List (List Key×D)}(h:RepsT K H v d):RepsT K H' v d:=
 RepsT.rec (motive_1:=fun v d _=>Rep K H' v d) (motive_2:=fun v d _=>Reps K H' v d) (motive_3:=fun v d _=>RepsT K H' v d) (motive_4:=fun v d _=>RepsK K H' v d) (motive_5:=fun v d _=>RepsF K H' v d) .non .bl .int .str (fun h _ i=>.tup (e _ _ h) i) (fun h _ i=>.lst (e.seq h) i) (fun h _ i=>.dT (e _ _ h) i) (fun h _ i=>.dK (e _ _ h) i) (fun h _ i=>.ins (e _ _ h) i) .nil (fun _ _ a b=>.cons a b) .nil (fun _ _ a b=>.cons a b) .nil (fun _ _ a b=>.cons a b) .nil (fun _ _ a b=>.cons a b) h
theorem RepsK.same(e:Same H H'){v:List (Key×V)}{d:List (Key×D)}(h:RepsK K H v d):RepsK K H' v d:=
 RepsK.rec (motive_1:=fun v d _=>Rep K H' v d) (motive_2:=fun v d _=>Reps K H' v d) (motive_3:=fun v d _=>RepsT K H' v d) (motive_4:=fun v d _=>RepsK K H' v d) (motive_5:=fun v d _=>RepsF K H' v d) .non .bl .int .str (fun h _ i=>.tup (e _ _ h) i) (fun h _ i=>.lst (e.seq h) i) (fun h _ i=>.dT (e _ _ h) i) (fun h _ i=>.dK (e _ _ h) i) (fun h _ i=>.ins (e _ _ h) i) .nil (fun _ _ a b=>.cons a b) .nil (fun _ _ a b=>.cons a b) .nil (fun _ _ a b=>.cons a b) .nil (fun _ _ a b=>.cons a b) h
theorem RepsF.same(e:Same H H'){v:List (Str×V)}{d:List (Str×D)}(h:RepsF K H v d):RepsF K H' v d:=
 RepsF.rec (motive_1:=fun v d _=>Rep K H' v d) (motive_2:=fun v d _=>Reps K H' v d) (motive_3:=fun v d _=>RepsT K H' v d) (motive_4:=fun v d _=>RepsK K H' v d) (motive_5:=fun v d _=>RepsF K H' v d) .non .bl .int .str (fun h _ i=>.tup (e _ _ h) i) (fun h _ i=>.lst (e.seq h) i) (fun h _ i=>.dT (e _ _ h) i) (fun h _ i=>.dK (e _ _ h) i) (fun h _ i=>.ins (e _ _ h) i) .nil (fun _ _ a b=>.cons a b) .nil (fun _ _ a b=>.cons a b) .nil (fun _ _ a b=>.cons a b) .nil (fun _ _ a b=>.cons a b) h
end
section
variable{K:Kq}{H H':Hp}
theorem Reps.ind{M:List V->List D->Prop}(n:M [] [])(c:∀{v:V}{d:D}{vs:List V}{ds:List D},Rep K H v d->Reps K H vs ds->M vs ds->M (v::vs) (d::ds)){vs:List V}{ds:List D}(h:Reps K H vs ds):M vs ds:=
 Reps.rec (motive_1:=fun _ _ _=>True) (motive_2:=fun vs ds _=>M vs ds) (motive_3:=fun _ _ _=>True) (motive_4:=fun _ _ _=>True) (motive_5:=fun _ _ _=>True) trivial trivial trivial trivial (fun _ _ _=>trivial) (fun _ _ _=>trivial) (fun _ _ _=>trivial) (fun _ _ _=>trivial) (fun _ _ _=>trivial) n (fun h q _ ih=>c h q ih) trivial (fun _ _ _ _=>trivial) trivial (fun _ _ _ _=>trivial) trivial (fun _ _ _ _=>trivial) h
theorem RepsT.ind{M:List (List Key×V)->List (List Key×D)->Prop}(n:M [] [])(c:∀{k:List Key}{v:V}{d:D}{vs:List (List Key×V)}{ds:List (List Key×D)},Rep K H v d->RepsT K H vs ds->M vs ds->M ((k,v)::vs) ((k,d)::ds)){vs:List (List Key×V)}{ds:List (List Key×D)}(h:RepsT K H vs ds):M vs ds:=
 RepsT.rec (motive_1:=fun _ _ _=>True) (motive_2:=fun _ _ _=>True) (motive_3:=fun vs ds _=>M vs ds) (motive_4:=fun _ _ _=>True) (motive_5:=fun _ _ _=>True) trivial trivial trivial trivial (fun _ _ _=>trivial) (fun _ _ _=>trivial) (fun _ _ _=>trivial) (fun _ _ _=>trivial) (fun _ _ _=>trivial) trivial (fun _ _ _ _=>trivial) n (fun h q _ ih=>c h q ih) trivial (fun _ _ _ _=>trivial) trivial (fun _ _ _ _=>trivial) h
theorem RepsF.ind{M:List (Str×V)->List (Str×D)->Prop}(n:M [] [])(c:∀{k:Str}{v:V}{d:D}{vs:List (Str×V)}{ds:List (Str×D)},Rep K H v d->RepsF K H vs ds->M vs ds->M ((k,v)::vs) ((k,d)::ds)){vs:List (Str×V)}{ds:List (Str×D)}(h:RepsF K H vs ds):M vs ds:=
 RepsF.rec (motive_1:=fun _ _ _=>True) (motive_2:=fun _ _ _=>True) (motive_3:=fun _ _ _=>True) (motive_4:=fun _ _ _=>True) (motive_5:=fun vs ds _=>M vs ds) trivial trivial trivial trivial (fun _ _ _=>trivial) (fun _ _ _=>trivial) (fun _ _ _=>trivial) (fun _ _ _=>trivial) (fun _ _ _=>trivial) trivial (fun _ _ _ _=>trivial) trivial (fun _ _ _ _=>trivial) trivial (fun _ _ _ _=>trivial) n (fun h q _ ih=>c h q ih) h
theorem Reps.length{vs:List V}{ds:List D}(h:Reps K H vs ds):vs.length=ds.length:=Reps.ind (M:=fun vs ds=>vs.length=ds.length) rfl (fun _ _ ih=>Zs Nat.succ ih) h
theorem Reps.get{vs:List V}{ds:List D}{i:Nat}{d:D}(h:Reps K H vs ds):ds[i]?=some d->∃v,vs[i]?=some v/\Rep K H v d:=
 Reps.ind (M:=fun vs ds=>∀i:Nat,ds[i]?=some d->∃v,vs[i]?=some v/\Rep K H v d) (fun _ e=>nomatch e) (fun r _ ih i e=>by
  cases i with
  |zero=>obtain rfl:=Yy e;exact⟨_,rfl,r⟩
  |succ i=>exact ih i e) h i
theorem Reps.getV{vs:List V}{ds:List D}{i:Nat}{v:V}(h:Reps K H vs ds):vs[i]?=some v->∃d,ds[i]?=some d/\Rep K H v d:=
 Reps.ind (M:=fun vs ds=>∀i:Nat,vs[i]?=some v->∃d,ds[i]?=some d/\Rep K H v d) (fun _ e=>nomatch e) (fun r _ ih i e=>by
  cases i with
  |zero=>obtain rfl:=Yy e;exact⟨_,rfl,r⟩
  |succ i=>exact ih i e) h i
theorem Reps.append{vs ws:List V}{ds es:List D}(h:Reps K H vs ds)(s:Reps K H ws es):Reps K H (vs++ws) (ds++es):=Reps.ind (M:=fun vs ds=>Reps K H (vs++ws) (ds++es)) s (fun r _ ih=>.cons r ih) h
theorem Reps.take{vs:List V}{ds:List D}(n:Nat)(h:Reps K H vs ds):Reps K H (vs.take n) (ds.take n):=Reps.ind (M:=fun vs ds=>∀n,Reps K H (vs.take n) (ds.take n)) (fun n=>by cases n<;>exact .nil) (fun r _ ih n=>by
  cases n with
  |zero=>exact .nil
  |succ n=>exact .cons r (ih n)) h n
theorem Reps.drop{vs:List V}{ds:List D}(n:Nat)(h:Reps K H vs ds):Reps K H (vs.drop n) (ds.drop n):=Reps.ind (M:=fun vs ds=>∀n,Reps K H (vs.drop n) (ds.drop n)) (fun n=>by cases n<;>exact .nil) (fun r q ih n=>by
  cases n with
  |zero=>exact .cons r q
  |succ n=>exact ih n) h n
theorem Reps.eraseIdx{vs:List V}{ds:List D}(i:Nat)(h:Reps K H vs ds):Reps K H (vs.eraseIdx i) (ds.eraseIdx i):=Reps.ind (M:=fun vs ds=>∀i,Reps K H (vs.eraseIdx i) (ds.eraseIdx i)) (fun _=>.nil) (fun q t ih i=>by
  cases i with
  |zero=>exact t
  |succ i=>exact .cons q (ih i)) h i
theorem Reps.one{v:V}{d:D}(r:Rep K H v d):Reps K H [v] [d]:=.cons r .nil
end
inductive OD where
 |lst (ds:List D)|lst2 (dss:List (List D))|tup2 (dss:List (List D))|dT (kvs:List (List Key×D))|dK (kvs:List (Key×D))|ins (C:Addr) (fs:List (Str×D))
def OD.d:OD->D
 |.lst ds=>.lst ds
 |.lst2 dss=>.lst (dss.map .lst)
 |.tup2 dss=>.tup (dss.map .lst)
 |.dT kvs=>.dT kvs
 |.dK kvs=>.dK kvs
 |.ins C fs=>.ins C fs
def OD.flat:OD->Bool
 |.lst2 _=>false
 |.tup2 _=>false
 |_=>true
inductive All2 {α β:Type} (R:α->β->Prop):List α->List β->Prop
 |nil:All2 R [] []
 |cons {a:α}{b:β}{as:List α}{bs:List β}:R a b->All2 R as bs->All2 R (a::as) (b::bs)
theorem All2.imp{α β:Type}{R S:α->β->Prop}(f:∀a b,R a b->S a b){as:List α}{bs:List β}(h:All2 R as bs):All2 S as bs:=by
 induction h with
 |nil=>exact .nil
 |cons h _ ih=>exact .cons (f _ _ h) ih
def ORep1(K:Kq)(F:Hp):OD->HO->Prop
 |.lst ds,.lst vs=>Reps K F vs ds
 |.dT ds,.dT vs=>RepsT K F vs ds
 |.dK ds,.dK vs=>RepsK K F vs ds
 |.ins C fs,.ins C' _ vs=>C=C'/\RepsF K F vs fs
 |_,_=>False
def ORep(K:Kq)(F H:Hp)(ow:Addr->Prop):OD->Addr->Prop
 |.lst2 dss,a=>ow a/\∃bs,H a=some (.lst (bs.map .ref))/\(a::bs).Nodup/\All2 (fun b ds=>ow b/\∃u,H b=some u/\ORep1 K F (.lst ds) u) bs dss
 |.tup2 dss,a=>ow a/\∃bs,H a=some (.tup (bs.map .ref))/\(a::bs).Nodup/\All2 (fun b ds=>ow b/\∃u,H b=some u/\ORep1 K F (.lst ds) u) bs dss
 |o,a=>ow a/\∃u,H a=some u/\ORep1 K F o u
theorem ORep1.same{K:Kq}{F F':Hp}(e:Same F F'){o:OD}{u:HO}(h:ORep1 K F o u):ORep1 K F' o u:=by cases o<;>cases u<;>first|exact h.elim|exact Reps.same e h|exact RepsT.same e h|exact RepsK.same e h|exact⟨h.1,RepsF.same e h.2⟩
theorem ORep.flat{K:Kq}{F H:Hp}{ow:Addr->Prop}{o:OD}{a:Addr}(f:o.flat=true):ORep K F H ow o a↔ow a/\∃u,H a=some u/\ORep1 K F o u:=by cases o<;>first|exact Iff.rfl|cases f
theorem ORep.mono{K:Kq}{F F' H H':Hp}{ow ow':Addr->Prop}{o:OD}{a:Addr}(e:Same F F')(k:∀b u,ow b->H b=some u->H' b=some u/\ow' b)(h:ORep K F H ow o a):ORep K F' H' ow' o a:=by
 by_cases f:o.flat=true
 ·obtain⟨h1,u,h2,h3⟩:=(ORep.flat f).mp h;obtain⟨k1,k2⟩:=k a u h1 h2;exact(ORep.flat f).mpr ⟨k2,u,k1,h3.same e⟩
 ·cases o with
  |lst2 dss=>
   obtain⟨h1,bs,h2,h3,h4⟩:=h;obtain⟨k1,k2⟩:=k a _ h1 h2;exact⟨k2,bs,k1,h3,h4.imp fun b ds ⟨q1,u,q2,q3⟩=>by obtain⟨c1,c2⟩:=k b u q1 q2;exact⟨c2,u,c1,q3.same e⟩⟩
  |tup2 dss=>
   obtain⟨h1,bs,h2,h3,h4⟩:=h;obtain⟨k1,k2⟩:=k a _ h1 h2;exact⟨k2,bs,k1,h3,h4.imp fun b ds ⟨q1,u,q2,q3⟩=>by obtain⟨c1,c2⟩:=k b u q1 q2;exact⟨c2,u,c1,q3.same e⟩⟩
  |_=>exact absurd rfl f
theorem ORep1.rep{K:Kq}{F H:Hp}{o:OD}{u:HO}{a:Addr}(f:o.flat=true)(h:ORep1 K F o u)(hH:H a=some u)(e:Same F H):Rep K H (.ref a) o.d:=by
 cases o with
 |lst ds=>cases u with|lst vs=>exact .lst (SqL.of hH) (Reps.same e h)|_=>exact h.elim
 |dT ds=>cases u with|dT vs=>exact .dT hH (RepsT.same e h)|_=>exact h.elim
 |dK ds=>cases u with|dK vs=>exact .dK hH (RepsK.same e h)|_=>exact h.elim
 |ins C fs=>cases u with|ins C' dx vs=>(obtain⟨rfl,h⟩:=h;exact .ins hH (RepsF.same e h))|_=>exact h.elim
 |lst2 _=>cases f
 |tup2 _=>cases f
theorem ORep.rep{K:Kq}{F H G:Hp}{ow:Addr->Prop}{o:OD}{a:Addr}(h:ORep K F H ow o a)(e:Same F G)(k:∀b u,ow b->H b=some u->G b=some u):Rep K G (.ref a) o.d:=by
 by_cases f:o.flat=true
 ·obtain⟨h1,u,h2,h3⟩:=(ORep.flat f).mp h;exact h3.rep f (k a u h1 h2) e
 ·cases o with
  |lst2 dss=>
   obtain⟨h1,bs,h2,h3,h4⟩:=h;refine .lst (SqL.of (k a _ h1 h2)) ?_;clear h2 h1 h3 f;induction h4 with
   |nil=>exact .nil
   |cons q r ih=>
    obtain⟨q1,u,q2,q3⟩:=q;exact .cons (q3.rep (o:=.lst _) rfl (k _ u q1 q2) e) ih
  |tup2 dss=>
   obtain⟨h1,bs,h2,h3,h4⟩:=h;refine .tup (k a _ h1 h2) ?_;clear h2 h1 h3 f;induction h4 with
   |nil=>exact .nil
   |cons q r ih=>
    obtain⟨q1,u,q2,q3⟩:=q;exact .cons (q3.rep (o:=.lst _) rfl (k _ u q1 q2) e) ih
  |_=>exact absurd rfl f
inductive DV where
 |v (d:D)|own (o:OD) (t:Option Addr)|bor (o:OD)
abbrev DF:=List (Option DV)
def DVRep(K:Kq)(P F H:Hp)(ow:Addr->Prop):DV->V->Prop
 |.v d,x=>Rep K F x d
 |.own o t,x=>∃a,x=.ref a/\ORep K F H (fun b=>F b=none/\P b=none/\ow b) o a/\∀b,t=some b->b=a
 |.bor o,x=>∃a,x=.ref a/\ORep K F P (fun _=>True) o a
def qe:Addr->Prop:=fun _=>True
structure DHp (P F H:Hp):Prop where
 sub:Same F H
 pro:Same P H
 dis:∀a o,P a=some o->F a=none
structure DInv (K:PySem.W.Frag) (P F H:Hp) (ρ:DF) (σ:St):Prop extends DHp P F H where
 len:ρ.length=σ.length
 rep:∃O:Addr->Option Nat,∀(i:Nat) (x:DV),ρ[i]?=some (some x)->∃v,σ[i]?=some (some v)/\DVRep K P F H (fun b=>O b=some i) x v
structure Evo (P F H F' H':Hp):Prop where
 ext:Same F F'
 hp:DHp P F' H'
 keep:∀a o,H a=some o->F a=none->H' a=some o/\F' a=none
theorem Evo.same{P F H F' H':Hp}(h:DHp P F H)(e:Evo P F H F' H'):Same H H':=fun a o q=>by
 cases c:F a with
 |none=>exact(e.keep a o q c).1
 |some u=>
  have:=h.sub a u c;rw[q]at this;cases this;exact e.hp.sub a o (e.ext a o c)
theorem DVRep.evo{K:Kq}{P F H F' H':Hp}{ow:Addr->Prop}(e:Evo P F H F' H'){x:DV}{v:V}(r:DVRep K P F H ow x v):DVRep K P F' H' ow x v:=by
 cases x with
 |v d=>exact Rep.same e.ext r
 |own o t=>
  obtain⟨a,rfl,h,ht⟩:=r;exact⟨a,rfl,h.mono e.ext fun b u ⟨q1,q2,q3⟩ hb=>by(obtain⟨k1,k2⟩:=e.keep b u hb q1;exact⟨k1,k2,q2,q3⟩),ht⟩
 |bor o=>
  obtain⟨a,rfl,h⟩:=r;exact⟨a,rfl,h.mono e.ext fun b u q hb=>⟨hb,q⟩⟩
theorem DVRep.imp{K:Kq}{P F H:Hp}{ow ow':Addr->Prop}(f:∀b u,F b=none->P b=none->H b=some u->ow b->ow' b){x:DV}{v:V}(r:DVRep K P F H ow x v):DVRep K P F H ow' x v:=by
 cases x with
 |v d=>exact r
 |own o t=>
  obtain⟨a,rfl,h,ht⟩:=r;exact⟨a,rfl,h.mono (Same.refl _) fun b u ⟨q1,q2,q3⟩ hb=>⟨hb,q1,q2,f b u q1 q2 hb q3⟩,ht⟩
 |bor o=>exact r
theorem DInv.evo{K:Kq}{P F H F' H':Hp}{ρ:DF}{σ:St}(I:DInv K P F H ρ σ)(e:Evo P F H F' H'):DInv K P F' H' ρ σ:=
 ⟨e.hp,I.len,by obtain⟨O,h⟩:=I.rep;exact⟨O,fun i x hx=>by obtain⟨v,h1,h2⟩:=h i x hx;exact⟨v,h1,h2.evo e⟩⟩⟩
theorem DInv.at{K:Kq}{P F H:Hp}{ρ:DF}{σ:St}(I:DInv K P F H ρ σ){i:Nat}{x:DV}(h:ρ[i]?=some (some x)):∃v,σ[i]?=some (some v)/\DVRep K P F H qe x v:=by obtain⟨O,k⟩:=I.rep;obtain⟨v,h1,h2⟩:=k i x h;exact⟨v,h1,h2.imp fun _ _ _ _ _ _=>trivial⟩
theorem Evo.refl{P F H:Hp}(h:DHp P F H):Evo P F H F H:=⟨Same.refl _,h,fun _ _ a b=>⟨a,b⟩⟩
theorem Evo.trans{P F H F1 H1 F2 H2:Hp}(a:Evo P F H F1 H1)(b:Evo P F1 H1 F2 H2):Evo P F H F2 H2:=
 ⟨a.ext.trans b.ext,b.hp,fun c o h n=>by obtain⟨h1,n1⟩:=a.keep c o h n;exact b.keep c o h1 n1⟩
theorem Evo.laid{P F H:Hp}(h:DHp P F H){a:Addr}{o:HO}(hn:H a=none):Evo P F H (upd F a o) (upd H a o) where
 ext:=fun b u e=>by rw[aK (fun z=>by subst z;rw[h.sub _ _ e]at hn;cases hn)];exact e
 hp:=⟨fun b u e=>by
   by_cases hb:b=a
   ·subst hb;rw[aX]at e ⊢;exact e
   ·rw[aK hb]at e ⊢;exact h.sub b u e,
  fun b u e=>by rw[aK (fun z=>by subst z;rw[h.pro _ _ e]at hn;cases hn)];exact h.pro b u e,
  fun b u e=>by rw[aK (fun z=>by subst z;rw[h.pro _ _ e]at hn;cases hn)];exact h.dis b u e⟩
 keep:=fun b u e n=>by
  have hb:b≠a:=fun z=>by subst z;rw[e]at hn;cases hn
  rw[aK hb,aK hb];exact⟨e,n⟩
theorem Evo.side{P F H:Hp}(h:DHp P F H){a:Addr}{o:HO}(hn:H a=none):Evo P F H F (upd H a o) where
 ext:=Same.refl _
 hp:=⟨fun b u e=>by rw[aK (fun z=>by subst z;rw[h.sub _ _ e]at hn;cases hn)];exact h.sub b u e,
  fun b u e=>by rw[aK (fun z=>by subst z;rw[h.pro _ _ e]at hn;cases hn)];exact h.pro b u e,h.dis⟩
 keep:=fun b u e n=>by
  have hb:b≠a:=fun z=>by subst z;rw[e]at hn;cases hn
  rw[aK hb];exact⟨e,n⟩
theorem DHp.free{P F H:Hp}(h:DHp P F H){a:Addr}(hn:H a=none):F a=none/\P a=none:=⟨h.sub.free hn,h.pro.free hn⟩
def RepS(K:Kq)(H F:Hp)(v:V)(d:D):Prop:=
 Rep K F v d\/∃(a:Addr) (o:OD) (u:HO),v=.ref a/\F a=none/\H a=some u/\ORep1 K F o u/\o.flat=true/\d=o.d
theorem RepS.evo{K:Kq}{P F H F' H':Hp}{v:V}{d:D}(r:RepS K H F v d)(e:Evo P F H F' H'):RepS K H' F' v d:=
 r.imp (Rep.same e.ext) fun⟨a,o,u,h1,h2,h3,h4,h5⟩=>⟨a,o,u,h1,(e.keep a u h3 h2).2,(e.keep a u h3 h2).1,h4.same e.ext,h5⟩
theorem DInv.slot{K:Kq}{P F H:Hp}{ρ:DF}{σ:St}(I:DInv K P F H ρ σ){i:Nat}{o:OD}{v:V}(hv:σ[i]?=some (some v))(h:(∃t,ρ[i]?=some (some (.own o t)))\/ρ[i]?=some (some (.bor o))):∃a,v=.ref a/\ORep K F H (fun b=>F b=none) o a:=by
 rcases h with⟨t,h⟩|h
 ·obtain⟨v',h1,a,rfl,h2,_⟩:=I.at h;rw[hv]at h1;cases h1;exact⟨a,rfl,h2.mono (Same.refl _) fun b u q hb=>⟨hb,q.1⟩⟩
 ·obtain⟨v',h1,a,rfl,h2⟩:=I.at h;rw[hv]at h1;cases h1;exact⟨a,rfl,h2.mono (Same.refl _) fun b u q hb=>⟨I.pro b u hb,I.dis b u hb⟩⟩
theorem RepS.now{K:Kq}{F H:Hp}{v:V}{d:D}(I:Same F H)(r:RepS K H F v d):Rep K H v d:=by
 rcases r with r|⟨a,o,u,rfl,_,h3,h4,hfl,rfl⟩
 ·exact r.same I
 ·exact h4.rep hfl h3 I
theorem RepS.slot{K:Kq}{P F H:Hp}{ρ:DF}{σ:St}(I:DInv K P F H ρ σ){i:Nat}{o:OD}{v:V}(hv:σ[i]?=some (some v))(h:(∃t,ρ[i]?=some (some (.own o t)))\/ρ[i]?=some (some (.bor o)))(hfl:o.flat=true):RepS K H F v o.d:=by obtain⟨a,rfl,h2⟩:=I.slot hv h;obtain⟨h3,u,h4,h5⟩:=(ORep.flat hfl).mp h2;exact .inr ⟨a,o,u,rfl,h3,h4,h5,hfl,rfl⟩
def tD(K:Kq)(f:DF->Option D):TE:=fun σ H Q=>∃P F ρ d,f ρ=some d/\DInv K P F H ρ σ/\∀v F' H',Evo P F H F' H'->Rep K F' v d->Q v H'
def tR(K:Kq)(f:DF->Option D):TE:=fun σ H Q=>∃P F ρ d,f ρ=some d/\DInv K P F H ρ σ/\∀v F' H',Evo P F H F' H'->RepS K H' F' v d->Q v H'
def tN(K:Kq)(f:DF->Option D):TE:=fun σ H Q=>∃P F ρ d,f ρ=some d/\DInv K P F H ρ σ/\∀v F' H',Evo P F H F' H'->Rep K H' v d->Q v H'
def tB'(K:Kq)(f:DF->Option Bool):TT:=fun σ H Q=>∃P F ρ b,f ρ=some b/\DInv K P F H ρ σ/\∀F' H',Evo P F H F' H'->Q b H'
def tL(K:Kq)(f:DF->Option (List D)):TA:=fun σ H Q=>∃P F ρ ds,f ρ=some ds/\DInv K P F H ρ σ/\∀vs F' H',Evo P F H F' H'->Reps K F' vs ds->Q vs H'
def PDE(X:Cx)(e:Expr)(f:DF->Option D):Prop:=PE X e (tD X.K f)
def PDR(X:Cx)(e:Expr)(f:DF->Option D):Prop:=PE X e (tR X.K f)
def PDN(X:Cx)(e:Expr)(f:DF->Option D):Prop:=PE X e (tN X.K f)
def PDT(X:Cx)(e:Expr)(f:DF->Option Bool):Prop:=PT X e (tB' X.K f)
def PDA(X:Cx)(es:List Expr)(f:DF->Option (List D)):Prop:=PA X es (tL X.K f)
section
variable{X:Cx}{e a b c:Expr}{es:List Expr}{pos:Pos}
theorem PE.imp{t t':TE}(h:PE X e t)(i:∀σ H Q,t' σ H Q->t σ H Q):PE X e t':=fun pz s σ H Q I q=>h pz s σ H Q I (i σ H Q q)
theorem PT.imp{t t':TT}(h:PT X e t)(i:∀σ H Q,t' σ H Q->t σ H Q):PT X e t':=fun pz s σ H Q I q=>h pz s σ H Q I (i σ H Q q)
theorem PA.imp{t t':TA}(h:PA X es t)(i:∀σ H Q,t' σ H Q->t σ H Q):PA X es t':=fun pos pz s σ H Q I q=>h pos pz s σ H Q I (i σ H Q q)
def getV(i:Nat)(ρ:DF):Option D:=match ρ[i]? with
 |some (some (.v d))=>some d
 |_=>none
def aa(i:Nat)(ρ:DF):Option D:=match ρ[i]? with
 |some (some (.v d))=>some d
 |some (some (.own o _))=>if o.flat=true then some o.d else none
 |some (some (.bor o))=>if o.flat=true then some o.d else none
 |_=>none
def ap(i:Nat)(ρ:DF):Option D:=match ρ[i]? with
 |some (some (.v d))=>some d
 |some (some (.own o _))=>some o.d
 |some (some (.bor o))=>some o.d
 |_=>none
theorem yX{i:Nat}{ρ:DF}{d:D}(h:getV i ρ=some d):ρ[i]?=some (some (.v d)):=by
 unfold getV at h;split at h
 ·rename_i q;cases h;exact q
 ·cases h
theorem au(i:Nat)(h:PE X e (e9 i)):PDE X e (getV i):=h.imp fun σ H Q=>un7 fun P F ρ d hf I k=>by
 obtain⟨v,h1,h2⟩:=I.at (yX hf)
 exact⟨v,h1,k v F H (Evo.refl I.toDHp) h2⟩
theorem af(i:Nat)(h:PE X e (e9 i)):PDR X e (aa i):=h.imp fun σ H Q=>un7 fun P F ρ d hf I k=>by
 unfold aa at hf;split at hf
 ·rename_i d' q;cases hf;obtain⟨v,h1,h2⟩:=I.at q;exact⟨v,h1,k v F H (Evo.refl I.toDHp) (.inl h2)⟩
 ·rename_i o t q;split at hf
  ·rename_i hfl;cases hf;obtain⟨v,h1,h2⟩:=I.at q;exact⟨v,h1,k v F H (Evo.refl I.toDHp) (RepS.slot I h1 (.inl ⟨t,q⟩) hfl)⟩
  ·cases hf
 ·rename_i o q;split at hf
  ·rename_i hfl;cases hf;obtain⟨v,h1,h2⟩:=I.at q;exact⟨v,h1,k v F H (Evo.refl I.toDHp) (RepS.slot I h1 (.inr q) hfl)⟩
  ·cases hf
 ·cases hf
theorem ay(i:Nat)(h:PE X e (e9 i)):PDN X e (ap i):=h.imp fun σ H Q=>un7 fun P F ρ d hf I k=>by
 unfold ap at hf;split at hf
 ·rename_i d' q;cases hf;obtain⟨v,h1,h2⟩:=I.at q;exact⟨v,h1,k v F H (Evo.refl I.toDHp) (Rep.same I.sub h2)⟩
 ·rename_i o t q;cases hf;obtain⟨v,h1,_⟩:=I.at q;obtain⟨a,rfl,h2⟩:=I.slot h1 (.inl ⟨t,q⟩);exact⟨_,h1,k _ F H (Evo.refl I.toDHp) (h2.rep I.sub fun _ _ _ q=>q)⟩
 ·rename_i o q;cases hf;obtain⟨v,h1,_⟩:=I.at q;obtain⟨a,rfl,h2⟩:=I.slot h1 (.inr q);exact⟨_,h1,k _ F H (Evo.refl I.toDHp) (h2.rep I.sub fun _ _ _ q=>q)⟩
 ·cases hf
theorem PDE.r{f:DF->Option D}(h:PDE X e f):PDR X e f:=PE.imp h fun σ H Q=>un7 fun P F ρ d hf I k=>⟨P,F,ρ,d,hf,I,fun v F' H' ev r=>k v F' H' ev (.inl r)⟩
theorem PDR.n{f:DF->Option D}(h:PDR X e f):PDN X e f:=PE.imp h fun σ H Q=>un7 fun P F ρ d hf I k=>⟨P,F,ρ,d,hf,I,fun v F' H' ev r=>k v F' H' ev (r.now ev.hp.sub)⟩
theorem PDE.n{f:DF->Option D}(h:PDE X e f):PDN X e f:=h.r.n
theorem sr{d:D}{v:V}(h:PE X e (tC v))(r:∀F,Rep X.K F v d):PDE X e (fun _=>some d):=h.imp fun σ H Q=>un7 fun P F ρ d' hf I k=>by
 cases hf;exact k v F H (Evo.refl I.toDHp) (r F)
theorem ac{i j p}:PDE X (.Constant (.int i) j p) (fun _=>some (.int i)):=sr An fun _=>.int
theorem dY{i j p}:PDE X (.Constant (.bool i) j p) (fun _=>some (.bl i)):=sr DB fun _=>.bl
theorem eR{i j p}:PDE X (.Constant (.str i) j p) (fun _=>some (.str i)):=sr B3 fun _=>.str
def OpN2(K:Kq)(r:R2)(f:D->D->Option D):Prop:=
 ∀(P F H:Hp) (x y:V) (dx dy d:D) (Q:VK),f dx dy=some d->DHp P F H->Rep K H x dx->Rep K H y dy->(∀v F' H',Evo P F H F' H'->Rep K F' v d->Q v H')->r x y H Q
def d2(f:D->D->Option D)(fa fb:DF->Option D):DF->Option D:=fun ρ=>(fa ρ).bind fun x=>(fb ρ).bind fun y=>f x y
theorem vJ{K:Kq}{r:R2}{f:D->D->Option D}{fa fb:DF->Option D}(ho:OpN2 K r f):∀σ H Q,tD K (d2 f fa fb) σ H Q->tOp r (tN K fa) (tN K fb) σ H Q:=fun σ H Q=>un7 fun P F ρ d hf I k=>by
 unfold d2 at hf;cases ha:fa ρ with
 |none=>rw[ha]at hf;cases hf
 |some dx=>
  rw[ha]at hf;cases hb:fb ρ with
  |none=>rw[Yb,hb]at hf;cases hf
  |some dy=>
   rw[Yb,hb,Yb]at hf;refine⟨P,F,ρ,dx,ha,I,fun x F1 H1 e1 rx=>⟨P,F1,ρ,dy,hb,I.evo e1,fun y F2 H2 e2 ry=>?_⟩⟩;exact ho P F2 H2 x y dx dy d Q hf e2.hp (rx.same (e2.same e1.hp)) ry fun v F3 H3 e3 rv=>k v F3 H3 ((e1.trans e2).trans e3) rv
theorem xf{op:CmpOp}{r:R2}{f:D->D->Option D}{fa fb:DF->Option D}(ho:OpR X (compareOp op) r)(hf:OpN2 X.K r f)(ha:PDN X a fa)(hb:PDN X b fb)(hm:behindInMarks op b=false):PDE X (.Compare a [op] [b] pos) (d2 f fa fb):=
 (zw ho ha hb hm).imp (vJ hf)
def oU(K:Kq)(r:R2)(f:D->D->Option D):Prop:=
 ∀(P F H:Hp) (ρ:DF) (σ:St) (x y:V) (dx dy d:D) (Q:VK),f dx dy=some d->DInv K P F H ρ σ->RepS K H F x dx->RepS K H F y dy->(∀v F' H',Evo P F H F' H'->Rep K F' v d->Q v H')->r x y H Q
theorem qg{K:Kq}{r:R2}{f:D->D->Option D}{fa fb:DF->Option D}(ho:oU K r f):∀σ H Q,tD K (d2 f fa fb) σ H Q->tOp r (tR K fa) (tR K fb) σ H Q:=fun σ H Q=>un7 fun P F ρ d hf I k=>by
 unfold d2 at hf;cases ha:fa ρ with
 |none=>rw[ha]at hf;cases hf
 |some dx=>
  rw[ha]at hf;cases hb:fb ρ with
  |none=>rw[Yb,hb]at hf;cases hf
  |some dy=>
   rw[Yb,hb,Yb]at hf;refine⟨P,F,ρ,dx,ha,I,fun x F1 H1 e1 rx=>⟨P,F1,ρ,dy,hb,I.evo e1,fun y F2 H2 e2 ry=>?_⟩⟩;exact ho P F2 H2 ρ σ x y dx dy d Q hf ((I.evo e1).evo e2) (rx.evo e2) ry fun v F3 H3 e3 rv=>k v F3 H3 ((e1.trans e2).trans e3) rv
theorem fZ{op:Operator}{r:R2}{f:D->D->Option D}{fa fb:DF->Option D}(ho:OpR X (binaryOp op) r)(hf:oU X.K r f)(ha:PDR X a fa)(hb:PDR X b fb):PDE X (.BinOp a op b pos) (d2 f fa fb):=
 (D3 ho ha hb).imp (qg hf)
def asB(f:DF->Option D):DF->Option Bool:=fun ρ=>match f ρ with
 |some (.bl b)=>some b
 |_=>none
theorem A7{f:DF->Option D}{ρ:DF}{b:Bool}(h:asB f ρ=some b):f ρ=some (.bl b):=by
 unfold asB at h;split at h
 ·rename_i q;cases h;exact q
 ·cases h
theorem gc{K:Kq}{t:TE}{f:DF->Option D}(h:∀σ H Q,tD K f σ H Q->t σ H Q):∀σ H Q,tB' K (asB f) σ H Q->vx t σ H Q:=fun σ H Q=>un7 fun P F ρ b hf I k=>by
 refine h σ H _ ⟨P,F,ρ,.bl b,A7 hf,I,fun v F' H' ev r=>?_⟩;cases r;exact⟨b,rfl,k F' H' ev⟩
theorem xK{op:CmpOp}{r:R2}{f:D->D->Option D}{fa fb:DF->Option D}(ho:OpR X (compareOp op) r)(hf:oU X.K r f)(ha:PDR X a fa)(hb:PDR X b fb)(hm:behindInMarks op b=false):PDT X (.Compare a [op] [b] pos) (asB (d2 f fa fb)):=
 (rT ho ha hb hm).imp (gc (qg hf))
theorem iW{op:CmpOp}{r:R2}{f:D->D->Option D}{fa fb:DF->Option D}(ho:OpR X (compareOp op) r)(hf:OpN2 X.K r f)(ha:PDN X a fa)(hb:PDN X b fb)(hm:behindInMarks op b=false):PDT X (.Compare a [op] [b] pos) (asB (d2 f fa fb)):=
 (rT ho ha hb hm).imp (gc (vJ hf))
theorem cw{f:DF->Option D}(h:PDE X e f)(he:∀whole,isTrue e X.env whole=(do let v <-whole;standAt e.pos;holding [v] (truthy v)):=by intro _;rfl):PDT X e (asB f):=
 (Bo h he).imp (gc (t:=tD X.K f) fun _ _ _ q=>q)
theorem cr{K:Kq}{H F:Hp}{x:V}{i:Int}(r:RepS K H F x (.int i)):x=.int i:=by
 rcases r with r|⟨_,o,_,_,_,_,_,_,z⟩
 ·cases r;rfl
 ·cases o<;>cases z
theorem iQ{K:Kq}{H F:Hp}{x:V}{i:Str}(r:RepS K H F x (.str i)):x=.str i:=by
 rcases r with r|⟨_,o,_,_,_,_,_,_,z⟩
 ·cases r;rfl
 ·cases o<;>cases z
theorem c7{K:Kq}{P F H:Hp}{ρ:DF}{σ:St}{x:V}{ds:List D}(I:DInv K P F H ρ σ)(r:RepS K H F x (.lst ds)):∃a vs,x=.ref a/\SqL K H a vs/\Reps K F vs ds:=by
 rcases r with r|⟨a,o,u,rfl,_,h3,h4,hfl,z⟩
 ·cases r with|lst h q=>exact⟨_,_,rfl,I.sub.seq h,q⟩
 ·cases o with
  |lst ds'=>
   cases z;cases u with
   |lst vs=>exact⟨a,vs,rfl,SqL.of h3,h4⟩
   |_=>exact h4.elim
  |lst2 _=>cases hfl
  |tup2 _=>cases hfl
  |_=>cases z
theorem gs{K:Kq}{P F H:Hp}{ρ:DF}{σ:St}{x:V}{ds:List D}(I:DInv K P F H ρ σ)(r:RepS K H F x (.tup ds)):∃a vs,x=.ref a/\SqT K H a vs/\Reps K F vs ds:=by
 rcases r with r|⟨a,o,u,rfl,_,h3,h4,hfl,z⟩
 ·cases r with|tup h q=>exact⟨_,_,rfl,SqT.of (I.sub _ _ h),q⟩
 ·cases o<;>first|(cases z;done)|cases hfl
theorem vF{K:Kq}{P F H:Hp}{ρ:DF}{σ:St}{x:V}{ds:List (List Key×D)}(I:DInv K P F H ρ σ)(r:RepS K H F x (.dT ds)):∃a vs,x=.ref a/\H a=some (.dT vs)/\RepsT K F vs ds:=by
 rcases r with r|⟨a,o,u,rfl,_,h3,h4,hfl,z⟩
 ·cases r with|dT h q=>exact⟨_,_,rfl,I.sub _ _ h,q⟩
 ·cases o with
  |dT ds'=>
   cases z;cases u with
   |dT vs=>exact⟨a,vs,rfl,h3,h4⟩
   |_=>exact h4.elim
  |lst2 _=>cases hfl
  |tup2 _=>cases hfl
  |_=>cases z
theorem mN{K:Kq}{P F H:Hp}{ρ:DF}{σ:St}{x:V}{C:Addr}{fs:List (Str×D)}(I:DInv K P F H ρ σ)(r:RepS K H F x (.ins C fs)):∃a dx vs,x=.ref a/\H a=some (.ins C dx vs)/\RepsF K F vs fs:=by
 rcases r with r|⟨a,o,u,rfl,_,h3,h4,hfl,z⟩
 ·cases r with|ins h q=>exact⟨_,_,_,rfl,I.sub _ _ h,q⟩
 ·cases o with
  |ins C' fs'=>
   cases z;cases u with
   |ins C'' dx vs=>(obtain⟨rfl,h4⟩:=h4;exact⟨a,dx,vs,rfl,h3,h4⟩)
   |_=>exact h4.elim
  |lst2 _=>cases hfl
  |tup2 _=>cases hfl
  |_=>cases z
def fI(C:Int->Int->Bool)(g:Int->Int->D):D->D->Option D
 |.int i,.int j=>if C i j=true then some (g i j)else none
 |_,_=>none
theorem m_{K:Kq}{C:Int->Int->Prop}{C':Int->Int->Bool}{g:Int->Int->V}{g':Int->Int->D}(hC:∀i j,C' i j=true->C i j)(hg:∀F i j,Rep K F (g i j) (g' i j)):oU K (rI C g) (fI C' g'):=by
 intro P F H ρ σ x y dx dy d Q hf I rx ry k;unfold fI at hf;split at hf
 ·rename_i i j;split at hf
  ·rename_i hc;cases hf;exact⟨i,j,cr rx,cr ry,hC i j hc,k _ F H (Evo.refl I.toDHp) (hg F i j)⟩
  ·cases hf
 ·cases hf
def fI0(g:Int->Int->D):D->D->Option D
 |.int i,.int j=>some (g i j)
 |_,_=>none
theorem sn{K:Kq}{g:Int->Int->V}{g':Int->Int->D}(hg:∀F i j,Rep K F (g i j) (g' i j)):oU K (rI0 g) (fI0 g'):=by
 intro P F H ρ σ x y dx dy d Q hf I rx ry k;unfold fI0 at hf;split at hf
 ·rename_i i j;cases hf;exact⟨i,j,cr rx,cr ry,k _ F H (Evo.refl I.toDHp) (hg F i j)⟩
 ·cases hf
def gS:=fI0 fun i j=>.int (i-j)
def fK:=fI (fun i j=>decide ((-(2^64)<i/\i<2^64)\/(-(2^64)<j/\j<2^64))) fun i j=>.int (i*j)
def aW:=fI (fun _ j=>decide (0<j/\j<1073741824)) fun i j=>.int (i/j)
def aL:=fI (fun _ j=>decide (0<j)) fun i j=>.int (i%j)
def kB:=fI (fun i j=>decide (0<=j/\j<=1000000/\i.natAbs<2^64)) fun i j=>.int (i^j.toNat)
def ltI:=fI0 fun i j=>.bl (decide (i<j))
def leI:=fI0 fun i j=>.bl (decide (i<=j))
def gtI:=fI0 fun i j=>.bl (decide (j<i))
theorem ic{fa fb:DF->Option D}(ha:PDR X a fa)(hb:PDR X b fb):PDE X (.BinOp a .Sub b pos) (d2 gS fa fb):=fZ Ay (sn fun _ _ _=>.int) ha hb
theorem gQ{fa fb:DF->Option D}(ha:PDR X a fa)(hb:PDR X b fb):PDE X (.BinOp a .Mult b pos) (d2 fK fa fb):=fZ BO (m_ (fun _ _ h=>by have q:=YY h;exact q) fun _ _ _=>.int) ha hb
theorem bv{fa fb:DF->Option D}(ha:PDR X a fa)(hb:PDR X b fb):PDE X (.BinOp a .FloorDiv b pos) (d2 aW fa fb):=fZ x_ (m_ (fun _ _ h=>by have q:=YY h;exact q) fun _ _ _=>.int) ha hb
theorem aY{fa fb:DF->Option D}(ha:PDR X a fa)(hb:PDR X b fb):PDE X (.BinOp a .Mod b pos) (d2 aL fa fb):=fZ Bg (m_ (fun _ _ h=>by have q:=YY h;exact q) fun _ _ _=>.int) ha hb
theorem ni{fa fb:DF->Option D}(ha:PDR X a fa)(hb:PDR X b fb):PDE X (.BinOp a .Pow b pos) (d2 kB fa fb):=fZ Bc (m_ (fun _ _ h=>by have q:=YY h;exact q) fun _ _ _=>.int) ha hb
end
def tO(K:Kq)(f:DF->Option OD):TE:=fun σ H Q=>∃P F ρ o,f ρ=some o/\DInv K P F H ρ σ /\
 ∀a F' H',Evo P F H F' H'->ORep K F' H' (fun b=>H b=none/\F' b=none) o a->Q (.ref a) H'
def PDO(X:Cx)(e:Expr)(f:DF->Option OD):Prop:=PE X e (tO X.K f)
def asO(f:DF->Option OD):DF->Option D:=fun ρ=>(f ρ).map OD.d
theorem Evo.back{P F H F' H':Hp}(h:DHp P F H)(e:Evo P F H F' H'){a:Addr}(n:H' a=none):H a=none:=by
 cases q:H a with
 |none=>rfl
 |some o=>rw[e.same h a o q]at n;cases n
open Classical in
noncomputable def vB (F H:Hp)(ow:Addr->Prop):Hp:=fun b=>if ow b then H b else F b
theorem dE{F H:Hp}{ow:Addr->Prop}{b:Addr}(h:ow b):vB F H ow b=H b:=if_pos h
theorem eK{F H:Hp}{ow:Addr->Prop}{b:Addr}(h:¬ow b):vB F H ow b=F b:=if_neg h
theorem cb{F H:Hp}{ow:Addr->Prop}(h:∀b,ow b->F b=none):Same F (vB F H ow):=fun b u e=>by
 by_cases q:ow b
 ·rw[h b q]at e;cases e
 ·rw[eK q];exact e
theorem Evo.freeze{P F H F' H':Hp}(h0:DHp P F H)(e:Evo P F H F' H')(ow:Addr->Prop)(hn:∀b,ow b->H b=none/\F' b=none):Evo P F H (vB F' H' ow) H' where
 ext:=e.ext.trans (cb fun b q=>(hn b q).2)
 hp:=⟨fun b u h=>by
   by_cases q:ow b
   ·rw[dE q]at h;exact h
   ·rw[eK q]at h;exact e.hp.sub b u h,e.hp.pro,fun b u h=>by
   rw[eK fun q=>by rw[(h0.pro.free (hn b q).1)]at h;cases h];exact e.hp.dis b u h⟩
 keep:=fun b u h n=>by
  obtain⟨k1,k2⟩:=e.keep b u h n;refine⟨k1,?_⟩;rw[eK fun q=>by rw[(hn b q).1]at h;cases h];exact k2
theorem gI{F:Hp}{a:Addr}{o:HO}(h:F a=none):Same F (upd F a o):=fun b u e=>by rw[aK (a8 e h)];exact e
section
variable{X:Cx}{e:Expr}{es:List Expr}{st:Stmt}{sts bH:List Stmt}{pos:Pos}
theorem PDO.v{f:DF->Option OD}(h:PDO X e f):PDE X e (asO f):=PE.imp h fun σ H Q=>un7 fun P F ρ d hf I k=>by
 unfold asO at hf;cases q:f ρ with
 |none=>rw[q]at hf;cases hf
 |some o=>
  rw[q]at hf;cases hf;refine⟨P,F,ρ,o,q,I,fun a F' H' ev ho=>?_⟩;have hn:∀b,(H b=none/\F' b=none)->H b=none/\F' b=none:=fun _ q=>q
  exact k (.ref a) _ H' (ev.freeze I.toDHp (fun b=>H b=none/\F' b=none) hn) (ho.rep (cb fun b q=>q.2) fun b u q hb=>by rw[dE q];exact hb)
def asL(f:DF->Option (List D)):DF->Option OD:=fun ρ=>(f ρ).map .lst
inductive RES where
 |nx (ρ:DF)|rt (x:DV) (ρ:DF)|bk (ρ:DF)|ct (ρ:DF)
abbrev Dd:=DF->Option D
abbrev Dw:=DF->Option RES
abbrev Dk:=DF->Option Bool
abbrev Dv:=DF->Option (List DV)
abbrev Dl:=DF->Option (List D)
abbrev Dm:=List DV->Option DV
abbrev Dq:=D->DF->Option DF
abbrev Do:=DF->Option OD
abbrev Dz:=OD->List DV->Option (OD×D)
abbrev Dy:=D->D->Option D
def EndsD(K:Kq)(P F:Hp)(E:h_):RES->Prop
 |.nx ρ=>∀σ F' H',Same F F'->DInv K P F' H' ρ σ->E.nx σ H'
 |.bk ρ=>∀σ F' H',Same F F'->DInv K P F' H' ρ σ->E.bk σ H'
 |.ct ρ=>∀σ F' H',Same F F'->DInv K P F' H' ρ σ->E.ct σ H'
 |.rt x ρ=>∀v σ F' H',Same F F'->DInv K P F' H' ρ σ->DVRep K P F' H' qe x v->E.rt v H'
theorem EndsD.ext{K:Kq}{P F F1:Hp}{E:h_}{r:RES}(h:EndsD K P F E r)(e:Same F F1):EndsD K P F1 E r:=by
 cases r with
 |nx ρ=>exact fun σ F' H' e' I=>h σ F' H' (e.trans e') I
 |bk ρ=>exact fun σ F' H' e' I=>h σ F' H' (e.trans e') I
 |ct ρ=>exact fun σ F' H' e' I=>h σ F' H' (e.trans e') I
 |rt x ρ=>exact fun v σ F' H' e' I r=>h v σ F' H' (e.trans e') I r
def tS(K:Kq)(g:Dw):TS:=fun E σ H=>∃P F ρ r,g ρ=some r/\DInv K P F H ρ σ/\EndsD K P F E r
def PD1(X:Cx)(st:Stmt)(g:Dw):Prop:=PS X st (tS X.K g)
def PDS(X:Cx)(sts:List Stmt)(g:Dw):Prop:=PSs X sts (tS X.K g)
theorem PS.imp{t t':TS}(h:PS X st t)(i:∀E σ H,t' E σ H->t E σ H):PS X st t':=fun pz s σ H E I q=>h pz s σ H E I (i E σ H q)
theorem PSs.imp{t t':TS}(h:PSs X sts t)(i:∀E σ H,t' E σ H->t E σ H):PSs X sts t':=fun pz s σ H E I q=>h pz s σ H E I (i E σ H q)
def dNx:DF->Option RES:=fun ρ=>some (.nx ρ)
theorem D9{K:Kq}:∀E σ H,tS K dNx E σ H->E.nx σ H:=fun E σ H=>un7 fun P F ρ r hg I k=>by
 cases hg;exact k σ F H (Same.refl _) I
theorem aM:PDS X [] dNx:=PSs.imp zo D9
def ak(g h:Dw):DF->Option RES:=fun ρ=>match g ρ with
 |some (.nx ρ')=>h ρ'
 |r=>r
theorem ae{g h:Dw}(h1:PD1 X st g)(h2:PDS X bH h):PDS X (st::bH) (ak g h):=PSs.imp (vp h1 h2) fun E σ H=>un7 fun P F ρ r hg I k=>by
 unfold ak at hg;split at hg
 ·rename_i ρ' q;exact⟨P,F,ρ,_,q,I,fun σ' F' H' e I'=>⟨P,F',ρ',r,hg,I',k.ext e⟩⟩
 ·rename_i q;refine⟨P,F,ρ,r,hg,I,?_⟩;cases r with
  |nx ρ'=>exact absurd hg (q ρ')
  |bk ρ=>exact k
  |ct ρ=>exact k
  |rt x ρ=>exact k
theorem aj{g:Dw}(h1:PD1 X st g):PDS X [st] g:=PSs.imp (yP h1) fun _ _ _ q=>q
def bf(f:Dd):DF->Option RES:=fun ρ=>(f ρ).map fun d=>.rt (.v d) ρ
theorem aZ{f:Dd}(h:PDE X e f):PD1 X (.Return (some e) pos) (bf f):=PS.imp (qP h) fun E σ H=>un7 fun P F ρ r hg I k=>by
 unfold bf at hg;cases q:f ρ with
 |none=>rw[q]at hg;cases hg
 |some d=>
  rw[q]at hg;cases hg;exact⟨P,F,ρ,d,q,I,fun v F' H' ev rv=>k v σ F' H' ev.ext (I.evo ev) rv⟩
def cN(f:Do):DF->Option RES:=fun ρ=>(f ρ).map fun o=>.rt (.own o none) ρ
theorem cg{f:Do}(h:PDO X e f):PD1 X (.Return (some e) pos) (cN f):=PS.imp (qP h) fun E σ H=>un7 fun P F ρ r hg I k=>by
 unfold cN at hg;cases q:f ρ with
 |none=>rw[q]at hg;cases hg
 |some o=>
  rw[q]at hg;cases hg;exact⟨P,F,ρ,o,q,I,fun a F' H' ev ho=>k (.ref a) σ F' H' ev.ext (I.evo ev) ⟨a,rfl,ho.mono (Same.refl _) fun b u q hb=>⟨hb,q.2,I.pro.free q.1,trivial⟩,fun _ z=>nomatch z⟩⟩
def fR(i:Nat):DF->Option RES:=fun ρ=>match ρ[i]? with
 |some (some x)=>some (.rt x ρ)
 |_=>none
theorem eF(i:Nat)(h:PE X e (e9 i)):PD1 X (.Return (some e) pos) (fR i):=PS.imp (qP h) fun E σ H=>un7 fun P F ρ r hg I k=>by
 unfold fR at hg;split at hg
 ·rename_i x q;cases hg;obtain⟨v,h1,h2⟩:=I.at q;exact⟨v,h1,k v σ F H (Same.refl _) I h2⟩
 ·cases hg
theorem gz{α:Type}{l:List α}{i j:Nat}{x y:α}(h:(l.set i x)[j]?=some y):(i=j/\y=x/\i<l.length)\/(i≠j/\l[j]?=some y):=by
 by_cases hj:i=j
 ·subst hj;have hl:i<l.length:=by have:=(Yn.mp h).1;rwa [ZF]at this
  rw[Zt hl]at h;exact .inl ⟨rfl,(Yy h).symm,hl⟩
 ·rw[Zl hj]at h;exact .inr ⟨hj,h⟩
theorem DInv.setO{K:Kq}{P F H:Hp}{ρ:DF}{σ:St}(I:DInv K P F H ρ σ)(i:Nat){v:V}{x:DV}(nw:Addr->Prop)(hn:∀(j:Nat) (y:DV) (w:V) (O:Addr->Option Nat),j≠i->ρ[j]?=some (some y)->DVRep K P F H (fun b=>O b=some j) y w->DVRep K P F H (fun b=>O b=some j/\¬nw b) y w)(r:DVRep K P F H nw x v) :
  DInv K P F H (ρ.set i (some x)) (σ.set i (some v)):=by
 obtain⟨O,h⟩:=I.rep;refine⟨I.toDHp,by rw[ZF,ZF];exact I.len,?_⟩
 classical
 refine⟨fun b=>if nw b then some i else if O b=some i then none else O b,fun j y hj=>?_⟩;rcases gz hj with⟨rfl,e,hl⟩|⟨hij,hj'⟩
 ·cases e;refine⟨v,by rw[Zt (by rw[<-I.len];exact hl)],r.imp fun b u _ _ _ q=>if_pos q⟩
 ·obtain⟨w,h1,h2⟩:=h j y hj';refine⟨w,by rw[Zl hij];exact h1,(hn j y w O (XM hij) hj' h2).imp fun b u _ _ _ q=>?_⟩;show(if nw b then some i else if O b=some i then none else O b)=some j;rw[if_neg q.2,if_neg (by rw[q.1];intro z;exact hij (Yy z).symm),q.1]
theorem DInv.setV{K:Kq}{P F H:Hp}{ρ:DF}{σ:St}(I:DInv K P F H ρ σ)(i:Nat){v:V}{d:D}(r:Rep K F v d):DInv K P F H (ρ.set i (some (.v d))) (σ.set i (some v)):=
 I.setO i (fun _=>False) (fun j y w O _ _ q=>q.imp fun b u _ _ _ z=>⟨z,id⟩) r
theorem DInv.setN{K:Kq}{P F H F' H':Hp}{ρ:DF}{σ:St}(I:DInv K P F H ρ σ)(ev:Evo P F H F' H')(i:Nat){a:Addr}{o:OD}(ho:ORep K F' H' (fun b=>H b=none/\F' b=none) o a):DInv K P F' H' (ρ.set i (some (.own o none))) (σ.set i (some (.ref a))):=by
 obtain⟨O,h⟩:=I.rep;refine⟨ev.hp,by rw[ZF,ZF];exact I.len,?_⟩
 classical
 refine⟨fun b=>if H b=none then some i else if O b=some i then none else O b,fun j y hj=>?_⟩;rcases gz hj with⟨rfl,e,hl⟩|⟨hij,hj'⟩
 ·cases e;refine⟨.ref a,by rw[Zt (by rw[<-I.len];exact hl)],a,rfl,ho.mono (Same.refl _) fun b u q hb=>⟨hb,q.2,I.pro.free q.1,if_pos q.1⟩,fun _ z=>nomatch z⟩
 ·obtain⟨w,h1,h2⟩:=h j y hj';refine⟨w,by rw[Zl hij];exact h1,?_⟩;have h3:DVRep K P F H (fun b=>(if H b=none then some i else if O b=some i then none else O b)=some j) y w:=h2.imp fun b u _ _ hb q=>by
   show(if H b=none then some i else if O b=some i then none else O b)=some j;rw[if_neg (by rw[hb];simp),if_neg (by rw[q];intro z;exact hij (Yy z).symm),q]
  exact h3.evo ev
def setV(i:Nat)(d:D)(ρ:DF):Option DF:=some (ρ.set i (some (.v d)))
def aq(i:Nat)(f:Dd):DF->Option RES:=fun ρ=>(f ρ).map fun d=>.nx (ρ.set i (some (.v d)))
theorem vN{K:Kq}{i:Nat}{f:Dd}:∀E σ H,tS K (aq i f) E σ H->xk (tD K f) (ke i) E σ H:=fun E σ H=>un7 fun P F ρ r hg I k=>by
 unfold aq at hg;cases q:f ρ with
 |none=>rw[q]at hg;cases hg
 |some d=>
  rw[q]at hg;cases hg;exact⟨P,F,ρ,d,q,I,fun v F' H' ev rv=>k _ F' H' ev.ext ((I.evo ev).setV i rv)⟩
theorem aE{i:Nat}{x:Str}{pos':Pos}{f:Dd}(hN:X.N.Nodup)(hi:X.N[i]?=some x)(hx:Loc X.env.scope x)(he:PDE X e f)(hs:swapsWith e (some (.Name x pos')) pos.line X.env=pure false:=by rfl)(hf:X.fn x=true\/X.env.scope.names.lookup x=some .local:=by first|exact .inl rfl|exact .inr rfl|assumption) :
  PD1 X (.Assign [.Name x pos'] e pos) (aq i f):=PS.imp (vC hN hi hx he hs hf) vN
def cn(i:Nat)(f:Do):DF->Option RES:=fun ρ=>(f ρ).map fun o=>.nx (ρ.set i (some (.own o none)))
theorem Bn{K:Kq}{i:Nat}{f:Do}:∀E σ H,tS K (cn i f) E σ H->xk (tO K f) (ke i) E σ H:=fun E σ H=>un7 fun P F ρ r hg I k=>by
 unfold cn at hg;cases q:f ρ with
 |none=>rw[q]at hg;cases hg
 |some o=>
  rw[q]at hg;cases hg;exact⟨P,F,ρ,o,q,I,fun a F' H' ev ho=>k _ F' H' ev.ext (I.setN ev i ho)⟩
theorem cD{i:Nat}{x:Str}{pos':Pos}{f:Do}(hN:X.N.Nodup)(hi:X.N[i]?=some x)(hx:Loc X.env.scope x)(he:PDO X e f)(hs:swapsWith e (some (.Name x pos')) pos.line X.env=pure false:=by rfl)(hf:X.fn x=true\/X.env.scope.names.lookup x=some .local:=by first|exact .inl rfl|exact .inr rfl|assumption) :
  PD1 X (.Assign [.Name x pos'] e pos) (cn i f):=PS.imp (vC hN hi hx he hs hf) Bn
def rj(i:Nat)(g:Dw):DF->Option RES:=fun ρ=>match ρ[i]? with
 |some (some (.own o none))=>g (ρ.set i (some (.v o.d)))
 |some (some (.v d))=>g ρ
 |_=>none
theorem DInv.frz{K:Kq}{P F H:Hp}{ρ:DF}{σ:St}(I:DInv K P F H ρ σ){i:Nat}{o:OD}{t:Option Addr}(h:ρ[i]?=some (some (.own o t))):∃F',Same F F'/\DInv K P F' H (ρ.set i (some (.v o.d))) σ:=by
 obtain⟨O,hr⟩:=I.rep;have hn:∀b,(F b=none/\P b=none/\O b=some i)->F b=none:=fun b q=>q.1
 refine⟨vB F H (fun b=>F b=none/\P b=none/\O b=some i),cb hn,⟨fun b u q=>?_,I.pro,fun b u q=>?_⟩,by rw[ZF];exact I.len,O,fun j y hj=>?_⟩
 ·by_cases c:F b=none/\P b=none/\O b=some i
  ·rw[dE (ow:=fun b=>F b=none/\P b=none/\O b=some i) c]at q;exact q
  ·rw[eK (ow:=fun b=>F b=none/\P b=none/\O b=some i) c]at q;exact I.sub b u q
 ·rw[eK (ow:=fun b=>F b=none/\P b=none/\O b=some i) fun c=>by rw[c.2.1]at q;cases q];exact I.dis b u q
 ·rcases gz hj with⟨rfl,e,hl⟩|⟨hij,hj'⟩
  ·cases e;obtain⟨v,h1,a,rfl,h2,_⟩:=hr i _ h;exact⟨_,h1,h2.rep (cb hn) fun b u q hb=>by rw[dE (ow:=fun b=>F b=none/\P b=none/\O b=some i) q];exact hb⟩
  ·obtain⟨v,h1,h2⟩:=hr j y hj';refine⟨v,h1,?_⟩;cases y with
   |v d=>exact Rep.same (cb hn) h2
   |own o' t'=>
    obtain⟨a,rfl,h3,ht⟩:=h2;exact⟨a,rfl,h3.mono (cb hn) fun b u q hb=>⟨hb,by
     rw[eK (ow:=fun b=>F b=none/\P b=none/\O b=some i) fun c=>by rw[q.2.2]at c;exact hij (Yy c.2.2).symm];exact q.1,q.2⟩,ht⟩
   |bor o'=>
    obtain⟨a,rfl,h3⟩:=h2;exact⟨a,rfl,h3.mono (cb hn) fun b u q hb=>⟨hb,q⟩⟩
theorem Aj{K:Kq}{i:Nat}{g:Dw}:∀E σ H,tS K (rj i g) E σ H->tS K g E σ H:=fun E σ H=>un7 fun P F ρ r hg I k=>by
 unfold rj at hg;split at hg
 ·rename_i o q;obtain⟨F',e,I'⟩:=I.frz q;exact⟨P,F',_,r,hg,I',k.ext e⟩
 ·exact⟨P,F,ρ,r,hg,I,k⟩
 ·cases hg
theorem sA(i:Nat){g:Dw}(h:PD1 X st g):PD1 X st (rj i g):=PS.imp h Aj
def gi:DF->Option RES:=fun _=>none
theorem gn:PD1 X st gi:=PS.imp xw fun _ _ _ ⟨_,_,_,_,h,_⟩=>by cases h
def sP(f:Dd):DF->Option RES:=fun ρ=>(f ρ).map fun _=>.nx ρ
theorem zh{f:Dd}(h:PDE X e f)(hs:swapsWith e none pos.line X.env=pure false:=by rfl):PD1 X (.Expr e pos) (sP f):=PS.imp (iU h hs) fun E σ H=>un7 fun P F ρ r hg I k=>by
 unfold sP at hg;cases q:f ρ with
 |none=>rw[q]at hg;cases hg
 |some d=>
  rw[q]at hg;cases hg;exact⟨P,F,ρ,d,q,I,fun v F' H' ev _=>k σ F' H' ev.ext (I.evo ev)⟩
def dIf(c:Dk)(g h:Dw):DF->Option RES:=fun ρ=>(c ρ).bind fun b=>if b=true then g ρ else h ρ
theorem bF{c:Expr}{a b:List Stmt}{fc:Dk}{g h:Dw}(hc:PDT X c fc)(ha:PDS X a g)(hb:PDS X b h):PD1 X (.If c a b pos) (dIf fc g h):=PS.imp (CU hc ha hb) fun E σ H=>un7 fun P F ρ r hg I k=>by
 unfold dIf at hg;cases q:fc ρ with
 |none=>rw[q]at hg;cases hg
 |some b=>
  rw[q,Yb]at hg;refine⟨P,F,ρ,b,q,I,fun F' H' ev=>?_⟩;cases b with
  |true=>
   rw[if_pos rfl]at hg ⊢;exact⟨P,F',ρ,r,hg,I.evo ev,k.ext ev.ext⟩
  |false=>
   rw[if_neg Yj]at hg ⊢;exact⟨P,F',ρ,r,hg,I.evo ev,k.ext ev.ext⟩
def qD(K:Kq)(P:Hp)(J:It)(F:Hp)(ds:List D):Prop:=
 ∀F' H',Same F F'->DHp P F' H'->∀i:Nat,(∀d,ds[i]?=some d->J.go i H'/\∀x H2,J.yld i H' x H2->∃F2,Evo P F' H' F2 H2/\Rep K F2 x d)/\(ds.length<=i->J.stop i H')
def tI(K:Kq)(f:Dl):TI:=fun σ H R=>∃P F ρ ds,f ρ=some ds/\DInv K P F H ρ σ/\∀(J:It) F' H',Evo P F H F' H'->qD K P J F' ds->R J H'
def PDI(X:Cx)(tg iter:Expr)(f:Dl):Prop:=PI X tg iter (tI X.K f)
theorem PI.imp{tg iter:Expr}{t t':TI}(h:PI X tg iter t)(i:∀σ H R,t' σ H R->t σ H R):PI X tg iter t':=fun pz s σ H R I q=>h pz s σ H R I (i σ H R q)
def tG(K:Kq)(is:List Nat)(st:Dq):TG:=fun v σ H Q=>∃P F ρ d ρ',st d ρ=some ρ'/\DInv K P F H ρ σ/\Rep K F v d/\∀σ' F' H',Evo P F H F' H'->DInv K P F' H' ρ' σ'->σ'.length=σ.length->(∀j,j∉is->σ'[j]?=σ[j]?)->Q σ' H'
def PDG(X:Cx)(tg:Expr)(is:List Nat)(st:Dq):Prop:=PG X tg (tG X.K is st)
theorem PG.imp{tg:Expr}{t t':TG}(h:PG X tg t)(i:∀v σ H Q,t' v σ H Q->t v σ H Q):PG X tg t':=fun pz s σ H v u Q I r q=>h pz s σ H v u Q I r (i v σ H Q q)
theorem aD{i:Nat}{x:Str}(hN:X.N.Nodup)(hi:X.N[i]?=some x)(hx:Loc X.env.scope x)(hf:X.fn x=true\/X.env.scope.names.lookup x=some .local:=by first|exact .inl rfl|exact .inr rfl|assumption):PDG X (.Name x pos) [i] (setV i):=
 PG.imp (cv hN hi hx hf) fun v σ H Q hh_=>by
  obtain⟨P,F,ρ,d,ρ',hs,I,r,k⟩:=hh_;cases hs;exact k _ F H (Evo.refl I.toDHp) (I.setV i r) (ZF ..) fun j hj=>by rw[Zl (fun z=>hj (by rw[z];exact List.mem_singleton_self _))]
def eO(st:Dq)(body:Dw):List D->DF->Option RES
 |[],ρ=>some (.nx ρ)
 |d::ds,ρ=>match st d ρ with
  |none=>none
  |some ρ1=>match body ρ1 with
   |some (.nx ρ')=>eO st body ds ρ'
   |some (.ct ρ')=>eO st body ds ρ'
   |some (.bk ρ')=>some (.nx ρ')
   |r=>r
def dJ(it:Dl)(st:Dq)(body:Dw):DF->Option RES:=fun ρ=>(it ρ).bind fun ds=>eO st body ds ρ
theorem cF{tg iter:Expr}{body:List Stmt}{f:Dl}{is:List Nat}{st:Dq}{g:Dw}(hp:PassesOwn (model X.prog X.w) X.A X.env X.xe)(hc:X.calm=true)(hi:PDI X tg iter f)(hg:PDG X tg is st)(hb:PDS X body g)
  (hs:∀x,foldedSetIterable iter X.env x=pure x:=by intro _;rfl):PD1 X (.For tg iter body [] pos) (dJ f st g):=PS.imp (A9 hp hc hi hg hb hs) fun E σ H=>un7 fun P F ρ r hr I k=>by
 unfold dJ at hr;cases q:f ρ with
 |none=>rw[q]at hr;cases hr
 |some ds=>
  rw[q,Yb]at hr;refine⟨P,F,ρ,ds,q,I,fun J F1 H1 ev ok=>?_⟩;refine⟨fun i m σ' H'=>m=ds.length-i/\i<=ds.length/\∃F' ρ',Same F1 F'/\DInv X.K P F' H' ρ' σ'/\eO st g (ds.drop i) ρ'=some r,⟨_,rfl,YF _,F1,ρ,Same.refl _,I.evo ev,hr⟩,?_⟩;rintro i m σ' H' ⟨rfl,hil,F',ρ',se,I',hf⟩;obtain⟨ok1,ok2⟩:=ok F' H' se I'.toDHp i;by_cases hlt:i<ds.length
  ·have hd:ds[i]?=some ds[i]:=Yf hlt;obtain⟨go,yl⟩:=ok1 _ hd;have hdrop:ds.drop i=ds[i]::ds.drop (i+1):=Xj hlt;rw[hdrop]at hf;unfold eO at hf;cases hst:st ds[i] ρ' with
   |none=>rw[hst]at hf;cases hf
   |some ρ1=>
    rw[hst]at hf;dsimp only at hf;have hE:Same F F':=ev.ext.trans se;refine .inr ⟨go,fun σ2 H2=>∃F2 ρ2,Same F1 F2/\DInv X.K P F2 H2 ρ2 σ2/\eO st g (ds.drop (i+1)) ρ2=some r,fun σ2 H2 ⟨F2,ρ2,s2,I2,hf2⟩=>⟨ds.length-(i+1),by omega,rfl,hlt,F2,ρ2,s2,I2,hf2⟩,fun x H2 hy=>?_⟩;obtain⟨F2,ev2,rx⟩:=yl x H2 hy;refine⟨P,F2,ρ',ds[i],ρ1,hst,I'.evo ev2,rx,fun σ3 F3 H3 ev3 I3 _ _=>?_⟩;have s13:Same F1 F3:=se.trans (ev2.ext.trans ev3.ext);cases hb':g ρ1 with
    |none=>rw[hb']at hf;cases hf
    |some res=>
     rw[hb']at hf;refine⟨P,F3,ρ1,res,hb',I3,?_⟩;cases res with
     |nx ρ4=>exact fun σ4 F4 H4 e4 I4=>⟨F4,ρ4,s13.trans e4,I4,hf⟩
     |ct ρ4=>exact fun σ4 F4 H4 e4 I4=>⟨F4,ρ4,s13.trans e4,I4,hf⟩
     |bk ρ4=>
      cases hf;exact fun σ4 F4 H4 e4 I4=>k σ4 F4 H4 (ev.ext.trans (s13.trans e4)) I4
     |rt x4 ρ4=>
      cases hf;exact fun v4 σ4 F4 H4 e4 I4 r4=>k v4 σ4 F4 H4 (ev.ext.trans (s13.trans e4)) I4 r4
  ·have hz:ds.drop i=[]:=List.drop_eq_nil_of_le (by omega);rw[hz]at hf;cases hf;exact .inl ⟨ok2 (by omega),k σ' F' H' (ev.ext.trans se) I'⟩
def eA(c:Dk)(body:Dw):Nat->DF->Option RES
 |0,_=>none
 |n+1,ρ=>match c ρ with
  |none=>none
  |some false=>some (.nx ρ)
  |some true=>match body ρ with
   |some (.nx ρ')=>eA c body n ρ'
   |some (.ct ρ')=>eA c body n ρ'
   |some (.bk ρ')=>some (.nx ρ')
   |r=>r
theorem xp(n:Nat){c:Expr}{body:List Stmt}{fc:Dk}{g:Dw}(hp:PassesOwn (model X.prog X.w) X.A X.env X.xe)(hc:PDT X c fc)(hb:PDS X body g):PD1 X (.While c body [] pos) (eA fc g n):=PS.imp (wa hp hc hb) fun E σ H=>un7 fun P F ρ r hr I k=>by
 refine⟨fun m σ' H'=>∃F' ρ',Same F F'/\DInv X.K P F' H' ρ' σ'/\eA fc g m ρ'=some r,⟨n,F,ρ,Same.refl _,I,hr⟩,?_⟩;rintro m σ' H' ⟨F',ρ',se,I',hf⟩;cases m with
 |zero=>cases hf
 |succ m=>
  unfold eA at hf;cases hc':fc ρ' with
  |none=>rw[hc']at hf;cases hf
  |some b=>
   rw[hc']at hf;refine⟨P,F',ρ',b,hc',I',fun F2 H2 ev2=>?_⟩;cases b with
   |false=>
    rw[if_neg Yj];cases hf;exact k σ' F2 H2 (se.trans ev2.ext) (I'.evo ev2)
   |true=>
    rw[if_pos rfl];refine⟨fun σ3 H3=>∃F3 ρ3,Same F F3/\DInv X.K P F3 H3 ρ3 σ3/\eA fc g m ρ3=some r,fun σ3 H3 h=>⟨m,ZX m,h⟩,?_⟩;have s2:Same F F2:=se.trans ev2.ext;dsimp only at hf;cases hb':g ρ' with
    |none=>rw[hb']at hf;cases hf
    |some res=>
     rw[hb']at hf;refine⟨P,F2,ρ',res,hb',I'.evo ev2,?_⟩;cases res with
     |nx ρ4=>exact fun σ4 F4 H4 e4 I4=>⟨F4,ρ4,s2.trans e4,I4,hf⟩
     |ct ρ4=>exact fun σ4 F4 H4 e4 I4=>⟨F4,ρ4,s2.trans e4,I4,hf⟩
     |bk ρ4=>
      cases hf;exact fun σ4 F4 H4 e4 I4=>k σ4 F4 H4 (s2.trans e4) I4
     |rt x4 ρ4=>
      cases hf;exact fun v4 σ4 F4 H4 e4 I4 r4=>k v4 σ4 F4 H4 (s2.trans e4) I4 r4
end
def gd(F H:Hp):Hp:=fun a=>match F a with
 |none=>H a
 |some _=>none
theorem ge{F H:Hp}{a:Addr}{o:HO}:gd F H a=some o↔F a=none/\H a=some o:=by
 unfold gd;cases q:F a with
 |none=>simp
 |some u=>simp
theorem iK{F H:Hp}(s:Same F H):DHp (gd F H) F H:=⟨s,fun a o e=>(ge.mp e).2,fun a o e=>(ge.mp e).1⟩
theorem DHp.gd{P F H F' H':Hp}(h:DHp P F H)(e:Same F F')(g:DHp (gd F H) F' H'):Evo P F H F' H' where
 ext:=e
 hp:=⟨g.sub,fun a o q=>g.pro a o (ge.mpr ⟨h.dis a o q,h.pro a o q⟩),fun a o q=>g.dis a o (ge.mpr ⟨h.dis a o q,h.pro a o q⟩)⟩
 keep:=fun a o q n=>⟨g.pro a o (ge.mpr ⟨n,q⟩),g.dis a o (ge.mpr ⟨n,q⟩)⟩
theorem Evo.change{P P1 F H F' H':Hp}(e:Evo P F H F' H')(h:DHp P1 F H):Evo P1 F H F' H':=
 ⟨e.ext,⟨e.hp.sub,fun a o q=>(e.keep a o (h.pro a o q) (h.dis a o q)).1,fun a o q=>(e.keep a o (h.pro a o q) (h.dis a o q)).2⟩,e.keep⟩
def Ab:DV->Bool
 |.own _ _=>true
 |_=>false
inductive DVs (K:PySem.W.Frag) (P F H:Hp):List DV->List V->Prop
 |nil:DVs K P F H [] []
 |cons {x:DV}{v:V}{xs:List DV}{vs:List V}:Ab x=false->DVRep K P F H qe x v->DVs K P F H xs vs->DVs K P F H (x::xs) (v::vs)
theorem DVs.length{K:Kq}{P F H:Hp}{xs:List DV}{vs:List V}(h:DVs K P F H xs vs):xs.length=vs.length:=by
 induction h with
 |nil=>rfl
 |cons _ _ _ ih=>exact Zs Nat.succ ih
theorem DVs.get{K:Kq}{P F H:Hp}{xs:List DV}{vs:List V}{i:Nat}{x:DV}(h:DVs K P F H xs vs)(e:xs[i]?=some x):Ab x=false/\∃v,vs[i]?=some v/\DVRep K P F H qe x v:=by
 induction h generalizing i with
 |nil=>exact nomatch e
 |cons h r _ ih=>
  cases i with
  |zero=>obtain rfl:=Yy e;exact⟨h,_,rfl,r⟩
  |succ i=>exact ih e
def spD(K:Kq)(m:Dm):Sp:=fun vs H Q _=>∃P F xs x,m xs=some x/\DHp P F H/\DVs K P F H xs vs/\∀v F' H',Same F F'->DHp P F' H'->DVRep K P F' H' qe x v->Q v H'
def aR(n p:Nat)(xs:List DV):DF:=xs.map some++List.replicate (n-p) none
def cB:Option RES->Option DV
 |some (.rt x _)=>some x
 |some (.nx _)=>some (.v .non)
 |_=>none
def mOf(n p:Nat)(g:Dw):List DV->Option DV:=fun xs=>if xs.length=p then cB (g (aR n p xs))else none
theorem jK{n p:Nat}{xs:List DV}{i:Nat}{x:DV}(h:(aR n p xs)[i]?=some (some x)):xs[i]?=some x:=by
 unfold aR at h;by_cases hi:i<xs.length
 ·rw[Zu (by simpa using hi),Ys]at h;cases q:xs[i]? with
  |none=>rw[q]at h;cases h
  |some y=>rw[q]at h;cases h;rfl
 ·rw[Zr (by simpa using hi),Xp]at h;split at h<;>cases h
theorem gW{N:List Str}{vs:List V}{i:Nat}{v:V}(h:vs[i]?=some v):(start N vs)[i]?=some (some v):=by unfold start;have hi:i<vs.length:=(Yn.mp h).1;rw[Zu (by simpa using hi),Ys,h];rfl
theorem DInv.start{K:Kq}{P F H:Hp}{xs:List DV}{vs:List V}(N:List Str)(p:Nat)(h:DHp P F H)(r:DVs K P F H xs vs)(hp:xs.length=p):DInv K P F H (aR N.length p xs) (start N vs):=by
 refine⟨h,?_,fun _=>none,fun i x e=>?_⟩
 ·unfold aR L2.start;rw[Yu,Yu,Yd,Yd,YH,YH,r.length,<-r.length,hp]
 ·obtain⟨ho,v,h1,h2⟩:=r.get (jK e);refine⟨v,gW h1,?_⟩;cases x with
  |own o t=>cases ho
  |v d=>exact h2
  |bor o=>exact h2
theorem Fun.okD{P:Program}{w:World}{K:Kq}{mg:Ks}{base:Heap}{x qual:Str}{st:Stmt}{f:Addr}{fd:FuncData}{N ps:List Str}{k:Nat}{g:Dw}(F:Fun K x qual st f fd)(S:FnScope N ps (defScope st))
  (hbody:∀(cdv:Value) (A:Around) (outer:List Env) (s:Shared) (H:Hp) (E:XK),Room k (A.deeper (envOfC qual (defScope st) s.heap.objs.size f cdv))->
   PDS (nR CX0 P w K mg base N qual (defScope st) f cdv A outer s H E).nox (defBody st) g):FnOk P w K mg base CX0 (k+1) f fd ps (spD K (mOf N.length ps.length g)):=by
 have lens:∀vs H Q E,spD K (mOf N.length ps.length g) vs H Q E->vs.length=ps.length:=fun vs H Q E hh_=>by
  obtain⟨P',F',xs,x',hm,hp,hv,_⟩:=hh_;unfold mOf at hm;split at hm
  ·rename_i h;rw[<-hv.length];exact h
  ·cases hm
 refine F.ok S lens fun cdv A outer s H vs Q E hr h=>?_;refine⟨_,hbody cdv A outer s H E hr,?_⟩;obtain⟨P',F',xs,x',hm,hp,hv,hQ⟩:=h;unfold mOf at hm;split at hm
 ·rename_i hl;have I:DInv K P' F' H (aR N.length ps.length xs) (start N vs):=DInv.start N ps.length hp hv hl;cases q:g (aR N.length ps.length xs)with
  |none=>rw[q]at hm;cases hm
  |some r=>
   rw[q]at hm;refine⟨P',F',_,r,q,I,?_⟩;cases r with
   |rt y ρ=>cases hm;exact fun v σ F2 H2 e h r=>hQ v F2 H2 e h.toDHp r
   |nx ρ=>cases hm;exact fun σ F2 H2 e I2=>hQ .non F2 H2 e I2.toDHp .non
   |bk ρ=>cases hm
   |ct ρ=>cases hm
 ·cases hm
inductive ArgsS (K:PySem.W.Frag) (ρ:DF) (σ:St) (F:Hp):List DV->List V->Prop
 |nil:ArgsS K ρ σ F [] []
 |v {d:D}{v:V}{xs:List DV}{vs:List V}:Rep K F v d->ArgsS K ρ σ F xs vs->ArgsS K ρ σ F (.v d::xs) (v::vs)
 |b {o:OD}{v:V}{xs:List DV}{vs:List V} (i:Nat):σ[i]?=some (some v)->((∃t,ρ[i]?=some (some (.own o t)))\/ρ[i]?=some (some (.bor o)))->ArgsS K ρ σ F xs vs->ArgsS K ρ σ F (.bor o::xs) (v::vs)
theorem ArgsS.dvs{K:Kq}{P F H:Hp}{ρ:DF}{σ:St}(I:DInv K P F H ρ σ){xs:List DV}{vs:List V}(h:ArgsS K ρ σ F xs vs):DVs K (gd F H) F H xs vs:=by
 induction h with
 |nil=>exact .nil
 |v h _ ih=>exact .cons rfl h ih
 |b i h1 h2 _ ih=>
  obtain⟨a,rfl,h3⟩:=I.slot h1 h2;exact .cons rfl ⟨a,rfl,h3.mono (Same.refl _) fun b u q hb=>⟨ge.mpr ⟨q,hb⟩,trivial⟩⟩ ih
def tLV(K:Kq)(f:Dv):TA:=fun σ H Q=>∃P F ρ xs,f ρ=some xs/\DInv K P F H ρ σ/\∀vs F' H',Evo P F H F' H'->ArgsS K ρ σ F' xs vs->Q vs H'
def kx(X:Cx)(es:List Expr)(f:Dv):Prop:=PA X es (tLV X.K f)
section
variable{X:Cx}{e:Expr}{es:List Expr}{pos:Pos}
theorem al:kx X [] (fun _=>some []):=PA.imp bK fun σ H Q=>un7 fun P F ρ xs hf I k=>by
 cases hf;exact k [] F H (Evo.refl I.toDHp) .nil
def aV(f:Dd)(g:Dv):DF->Option (List DV):=fun ρ=>(f ρ).bind fun d=>(g ρ).map fun xs=>.v d::xs
theorem aG{f:Dd}{g:Dv}(h:PDE X e f)(hr:kx X es g)(hs:starEach (e::es) X.env=(false,eval e X.env)::starEach es X.env:=by rfl):kx X (e::es) (aV f g):=PA.imp (ba h hr hs) fun σ H Q=>un7 fun P F ρ xs hf I k=>by
 unfold aV at hf;cases q:f ρ with
 |none=>rw[q]at hf;cases hf
 |some d=>
  rw[q,Yb]at hf;cases q2:g ρ with
  |none=>rw[q2]at hf;cases hf
  |some ys=>
   rw[q2]at hf;cases hf;exact⟨P,F,ρ,d,q,I,fun v F1 H1 e1 r1=>⟨P,F1,ρ,ys,q2,I.evo e1,fun vs F2 H2 e2 r2=>k (v::vs) F2 H2 (e1.trans e2) (.v (r1.same e2.ext) r2)⟩⟩
def aB(i:Nat)(g:Dv):DF->Option (List DV):=fun ρ=>match ρ[i]? with
 |some (some (.own o _))=>(g ρ).map fun xs=>.bor o::xs
 |some (some (.bor o))=>(g ρ).map fun xs=>.bor o::xs
 |some (some (.v d))=>(g ρ).map fun xs=>.v d::xs
 |_=>none
theorem az(i:Nat){g:Dv}(h:PE X e (e9 i))(hr:kx X es g)(hs:starEach (e::es) X.env=(false,eval e X.env)::starEach es X.env:=by rfl):kx X (e::es) (aB i g):=PA.imp (ba h hr hs) fun σ H Q=>un7 fun P F ρ xs hf I k=>by
 unfold aB at hf;split at hf
 ·rename_i o t q;obtain⟨v,h1,h2⟩:=I.at q;cases q2:g ρ with
  |none=>rw[q2]at hf;cases hf
  |some ys=>
   rw[q2]at hf;cases hf;exact⟨v,h1,P,F,ρ,ys,q2,I,fun vs F2 H2 e2 r2=>k (v::vs) F2 H2 e2 (.b i h1 (.inl ⟨t,q⟩) r2)⟩
 ·rename_i o q;obtain⟨v,h1,h2⟩:=I.at q;cases q2:g ρ with
  |none=>rw[q2]at hf;cases hf
  |some ys=>
   rw[q2]at hf;cases hf;exact⟨v,h1,P,F,ρ,ys,q2,I,fun vs F2 H2 e2 r2=>k (v::vs) F2 H2 e2 (.b i h1 (.inr q) r2)⟩
 ·rename_i d q;obtain⟨v,h1,h2⟩:=I.at q;cases q2:g ρ with
  |none=>rw[q2]at hf;cases hf
  |some ys=>
   rw[q2]at hf;cases hf;exact⟨v,h1,P,F,ρ,ys,q2,I,fun vs F2 H2 e2 r2=>k (v::vs) F2 H2 e2 (.v (Rep.same e2.ext h2) r2)⟩
 ·cases hf
def dvD:DV->Option D
 |.v d=>some d
 |.own o _=>some o.d
 |.bor _=>none
def ai(m:Dm)(g:Dv):DF->Option D:=fun ρ=>(g ρ).bind fun xs=>(m xs).bind dvD
def dvO:DV->Option OD
 |.own o _=>some o
 |_=>none
def jy(m:Dm)(g:Dv):DF->Option OD:=fun ρ=>(g ρ).bind fun xs=>(m xs).bind dvO
theorem AE{F H:Hp}{F':Hp}{a:Addr}(e:Same F F')(h1:F' a=none)(h2:gd F H a=none):H a=none:=by
 unfold gd at h2;have:F a=none:=by
  cases q:F a with
  |none=>rfl
  |some o=>rw[e a o q]at h1;cases h1
 rw[this]at h2;exact h2
theorem lU{K:Kq}{F1 H1 F2 H2:Hp}{o:OD}{a:Addr}(e2:Same F1 F2)(h:ORep K F2 H2 (fun b=>F2 b=none/\gd F1 H1 b=none/\qe b) o a):ORep K F2 H2 (fun b=>H1 b=none/\F2 b=none) o a:=
 h.mono (Same.refl _) fun b u q hb=>⟨hb,AE e2 q.1 q.2.1,q.1⟩
theorem xP{K:Kq}{m:Dm}{g:Dv}{E:XK}:∀σ H Q,tD K (ai m g) σ H Q->xc (spD K m) [] E (tLV K g) σ H Q:=fun σ H Q=>un7 fun P F ρ d hf I k=>by
 unfold ai at hf;cases q:g ρ with
 |none=>rw[q]at hf;cases hf
 |some xs=>
  rw[q,Yb]at hf;cases q2:m xs with
  |none=>rw[q2]at hf;cases hf
  |some x=>
   rw[q2,Yb]at hf;refine⟨P,F,ρ,xs,q,I,fun vs F1 H1 e1 r1=>?_⟩;have I1:=I.evo e1;refine⟨gd F1 H1,F1,xs,x,q2,iK I1.sub,by rw[Zf];exact r1.dvs I1,fun v F2 H2 e2 hp2 r2=>?_⟩;have ev:Evo P F1 H1 F2 H2:=I1.toDHp.gd e2 hp2;cases x with
   |v d'=>cases hf;exact k v F2 H2 (e1.trans ev) r2
   |own o t=>
    cases hf;obtain⟨a,rfl,ho,_⟩:=r2;have ho':=lU e2 ho;exact k _ _ H2 (e1.trans (ev.freeze I1.toDHp (fun b=>H1 b=none/\F2 b=none) fun _ q=>q)) (ho'.rep (cb fun b q=>q.2) fun b u q hb=>by rw[dE q];exact hb)
   |bor o=>cases hf
theorem yW{K:Kq}{m:Dm}{g:Dv}{E:XK}:∀σ H Q,tO K (jy m g) σ H Q->xc (spD K m) [] E (tLV K g) σ H Q:=fun σ H Q=>un7 fun P F ρ d hf I k=>by
 unfold jy at hf;cases q:g ρ with
 |none=>rw[q]at hf;cases hf
 |some xs=>
  rw[q,Yb]at hf;cases q2:m xs with
  |none=>rw[q2]at hf;cases hf
  |some x=>
   rw[q2,Yb]at hf;refine⟨P,F,ρ,xs,q,I,fun vs F1 H1 e1 r1=>?_⟩;have I1:=I.evo e1;refine⟨gd F1 H1,F1,xs,x,q2,iK I1.sub,by rw[Zf];exact r1.dvs I1,fun v F2 H2 e2 hp2 r2=>?_⟩;have ev:Evo P F1 H1 F2 H2:=I1.toDHp.gd e2 hp2;cases x with
   |own o t=>
    cases hf;obtain⟨a,rfl,ho,_⟩:=r2;exact k a F2 H2 (e1.trans ev) ((lU e2 ho).mono (Same.refl _) fun b u q hb=>⟨hb,e1.back I.toDHp q.1,q.2⟩)
   |_=>cases hf
section
variable{k:Nat}{f:Addr}{fd:FuncData}{ps:List Str}{m:Dm}{x:Str}{p:Pos}{g:Dv}
theorem am(F:FnOk X.prog X.w X.K X.mg X.base CX0 k f fd ps (spD X.K m))(hr:Room k X.A)(hg:Gl X x)(hm:X.mg x=some (.ref f))(hk:PySem.W.keepIn X.K (.ref f)=true)(hb:Binds X.K fd ps [])(ha:kx X (e::es) g)
  (hd:(x == ("__debug__":Str))=false:=by decide) (he:starEach (e::es) X.env=(false,eval e X.env)::starEach es X.env:=by rfl) (hpl:(backTo pos (starEach es X.env)).any (·.1)=false:=by rfl):PDE X (.Call (.Name x p) (e::es) [] pos) (ai m g):=
 (nk F hr hg hm hk hb .nil lD ha hd he hpl).imp xP
theorem i4(F:FnOk X.prog X.w X.K X.mg X.base CX0 k f fd ps (spD X.K m))(hr:Room k X.A)(hg:Gl X x)(hm:X.mg x=some (.ref f))(hk:PySem.W.keepIn X.K (.ref f)=true)(hb:Binds X.K fd ps [])(ha:kx X (e::es) g)
  (hd:(x == ("__debug__":Str))=false:=by decide) (he:starEach (e::es) X.env=(false,eval e X.env)::starEach es X.env:=by rfl) (hpl:(backTo pos (starEach es X.env)).any (·.1)=false:=by rfl):PDO X (.Call (.Name x p) (e::es) [] pos) (jy m g):=
 (nk F hr hg hm hk hb .nil lD ha hd he hpl).imp yW
end
end
def i9:Option DV->Option DV
 |some (.v d)=>some (.v d)
 |some (.own o _)=>some (.bor o)
 |some (.bor o)=>some (.bor o)
 |_=>none
def fJ(own:Nat)(ix:List Nat)(ρ:DF):DF:=List.replicate own none++ix.map fun j=>i9 (ρ[j]?).join
def bD(st:Dq)(c:Dk)(e:Dd)(ρ:DF):List D->Option (List D)
 |[]=>some []
 |d::ds=>(st d ρ).bind fun ρ1=>(c ρ1).bind fun b=>if b=true then(e ρ1).bind fun y=>(bD st c e ρ ds).map fun r=>y::r else bD st c e ρ ds
def aJ(own:Nat)(ix:List Nat)(it:Dl)(st:Dq)(c:Dk)(e:Dd):DF->Option (List D):=
 fun ρ=>(it ρ).bind fun ds=>if ds.length<=16777216 then bD st c e (fJ own ix ρ) ds else none
def bb:DF->Option Bool:=fun _=>some true
theorem pw{own:Nat}{ix:List Nat}{ρ:DF}{i:Nat}{x:DV}(h:(fJ own ix ρ)[i]?=some (some x)):own<=i/\∃j y,ix[i-own]?=some j/\ρ[j]?=some (some y)/\i9 (some y)=some x:=by
 unfold fJ at h;by_cases hi:i<own
 ·rw[Zu (by rw[YH];exact hi),Xp,if_pos hi]at h;cases h
 ·rw[Zr (by rw[YH];omega),YH,Ys]at h;refine⟨by omega,?_⟩;cases q:ix[i-own]? with
  |none=>rw[q]at h;cases h
  |some j=>
   rw[q,ZV]at h;have h':=Yy h;cases q2:ρ[j]? with
   |none=>rw[q2]at h';cases h'
   |some o=>
    rw[q2,Option.join_some]at h';cases o with
    |none=>cases h'
    |some y=>exact⟨j,y,rfl,q2,h'⟩
theorem uQ{own:Nat}{ix:List Nat}{σ:St}{i j:Nat}{v:V}(hi:own<=i)(h:ix[i-own]?=some j)(hv:σ[j]?=some (some v)):(da own ix σ)[i]?=some (some v):=by unfold da;rw[Zr (by rw[YH];exact hi),YH,Ys,h,ZV,hv];rfl
theorem DInv.cap{K:Kq}{P F H:Hp}{ρ:DF}{σ:St}(I:DInv K P F H ρ σ)(own:Nat)(ix:List Nat):DInv K (gd F H) F H (fJ own ix ρ) (da own ix σ):=by
 refine⟨iK I.sub,?_,fun _=>none,fun i x h=>?_⟩
 ·rw[fH];unfold fJ;rw[Yu,YH,Yd]
 ·obtain⟨hi,j,y,h1,h2,h3⟩:=pw h;obtain⟨v,q1,q2⟩:=I.at h2;refine⟨v,uQ hi h1 q1,?_⟩;have bo:∀o,((∃t,ρ[j]?=some (some (.own o t)))\/ρ[j]?=some (some (.bor o)))->DVRep K (gd F H) F H (fun b=>none=some i) (.bor o) v:=fun o ho=>by
   obtain⟨a,rfl,h3⟩:=I.slot q1 ho;exact⟨a,rfl,h3.mono (Same.refl _) fun b u q hb=>⟨ge.mpr ⟨q,hb⟩,trivial⟩⟩
  cases y with
  |v d=>cases h3;exact q2
  |own o t=>cases h3;exact bo o (.inl ⟨t,h2⟩)
  |bor o=>cases h3;exact bo o (.inr h2)
theorem wS{K:Kq}{G F H F2 H2:Hp}{own:Nat}{ix:List Nat}{ρ:DF}{τ:St}(B:DInv K G F H (fJ own ix ρ) τ)(e:Same F F2)(hp:DHp G F2 H2):DInv K G F2 H2 (fJ own ix ρ) τ:=by
 obtain⟨O,h⟩:=B.rep;refine⟨hp,B.len,O,fun i x hx=>?_⟩;obtain⟨v,h1,h2⟩:=h i x hx;refine⟨v,h1,?_⟩;cases x with
 |v d=>exact Rep.same e h2
 |bor o=>obtain⟨a,rfl,h3⟩:=h2;exact⟨a,rfl,h3.mono e fun b u q hb=>⟨hb,q⟩⟩
 |own o t=>(obtain⟨_,j,y,_,_,h3⟩:=pw hx;cases y<;>cases h3)
section
variable{X:Cx}{elt tg iter:Expr}{ifs:List Expr}{scope:Scope}{pos:Pos}{N:List Str}{own:Nat}{ix is:List Nat}{f:Dl}{st:Dq}{c:Dk}{e:Dd}
theorem sB{K:Kq}(his:∀j∈is,j<own):∀σ H Q,tO K (asL (aJ own ix f st c e)) σ H Q->xg own ix (tI K f) (tG K is st) (tB' K c) (tD K e) σ H Q:=fun σ H Q=>un7 fun P F ρ ob hf I k=>by
 unfold asL at hf;cases hout:aJ own ix f st c e ρ with
 |none=>rw[hout]at hf;cases hf
 |some out=>
 rw[hout]at hf;cases hf;have hf:=hout;unfold aJ at hf;cases q:f ρ with
 |none=>rw[q]at hf;cases hf
 |some ds=>
  rw[q,Yb]at hf;split at hf
  rotate_left
  ·cases hf
  rename_i hlen;refine⟨P,F,ρ,ds,q,I,fun J F1 H1 ev ok acc hacc=>?_⟩;have I1:=I.evo ev;have hp1:DHp (gd F1 H1) F1 H1:=iK I1.sub;have hg:gd F1 H1 acc=none:=by unfold gd;rw[I1.sub.free hacc];exact hacc
  have B1:DInv K (gd F1 H1) F1 H1 (fJ own ix ρ) (da own ix σ):=I1.cap own ix;have hP:∀{F' H':Hp},Same F1 F'->DHp (gd F1 H1) F' H'->DHp P F' H':=fun s h=>(I1.toDHp.gd s h).hp
  refine⟨fun i m ys H'=>m=ds.length-i/\i<=ds.length/\∃F',Same F1 F'/\DHp (gd F1 H1) F' H'/\F' acc=none/\H' acc=some (.lst ys)/\ys.length<=i/\∃pre,Reps K F' ys pre/\(bD st c e (fJ own ix ρ) (ds.drop i)).map (fun r=>pre++r)=some out,
   ⟨_,rfl,YF _,F1,Same.refl _,(Evo.side hp1 hacc).hp,I1.sub.free hacc,aX,Yl _,[],.nil,by rw[List.drop_zero,hf];rfl⟩,?_⟩
  rintro i m ys H' ⟨rfl,hi,F',se,hp',fa,ha,hy,pre,rp,hm⟩;obtain⟨ok1,ok2⟩:=ok F' H' se (hP se hp') i;by_cases hlt:i<ds.length
  ·have hd:ds[i]?=some ds[i]:=Yf hlt;obtain⟨go,yl⟩:=ok1 _ hd;have hdrop:ds.drop i=ds[i]::ds.drop (i+1):=Xj hlt;rw[hdrop]at hm;unfold bD at hm;cases hst:st ds[i] (fJ own ix ρ)with
   |none=>rw[hst]at hm;cases hm
   |some ρ1=>
    rw[hst,Yb]at hm;refine .inr ⟨go,fun ys' H2=>∃F2,Same F1 F2/\DHp (gd F1 H1) F2 H2/\F2 acc=none/\H2 acc=some (.lst ys')/\ys'.length<=i+1/\∃pre',Reps K F2 ys' pre'/\(bD st c e (fJ own ix ρ) (ds.drop (i+1))).map (fun r=>pre'++r)=some out,
     fun ys' H2 h=>⟨ds.length-(i+1),by omega,rfl,hlt,h⟩,fun x H2 hyl=>?_⟩
    obtain⟨F2,ev2,rx⟩:=yl x H2 hyl;have ev2':Evo (gd F1 H1) F' H' F2 H2:=ev2.change hp';obtain⟨a2,fa2⟩:=ev2'.keep acc _ ha fa;have B2:DInv K (gd F1 H1) F2 H2 (fJ own ix ρ) (da own ix σ):=wS B1 (se.trans ev2.ext) ev2'.hp;refine⟨gd F1 H1,F2,fJ own ix ρ,ds[i],ρ1,hst,B2,rx,fun σ3 F3 H3 ev3 I3 hl3 hσ=>?_⟩;refine⟨⟨?_,fun j v hj=>?_⟩,?_⟩
    ·rw[hl3,fH]
    ·rw[hσ j]
     ·exact hj
     ·intro hj';obtain⟨ho,_⟩:=kY hj;have:=his j hj';omega
    obtain⟨a3,fa3⟩:=ev3.keep acc _ a2 fa2;cases hc:c ρ1 with
    |none=>rw[hc]at hm;cases hm
    |some b=>
     rw[hc,Yb]at hm;refine⟨gd F1 H1,F3,ρ1,b,hc,I3,fun F4 H4 ev4=>?_⟩;obtain⟨a4,fa4⟩:=ev4.keep acc _ a3 fa3;have s14:Same F' F4:=ev2.ext.trans (ev3.ext.trans ev4.ext);cases b with
     |false=>
      rw[if_neg Yj]at hm ⊢;exact⟨F4,se.trans s14,ev4.hp,fa4,a4,by omega,pre,rp.same s14,hm⟩
     |true=>
      rw[if_pos rfl]at hm ⊢;cases he:e ρ1 with
      |none=>rw[he]at hm;cases hm
      |some y=>
       rw[he,Yb]at hm;refine⟨gd F1 H1,F4,ρ1,y,he,I3.evo ev4,fun v F5 H5 ev5 rv=>?_⟩;obtain⟨a5,fa5⟩:=ev5.keep acc _ a4 fa4;have s15:Same F' F5:=s14.trans ev5.ext;refine⟨a5,by rw[YR];omega,F5,se.trans s15,⟨fun b u h=>by rw[aK (a8 h fa5)];exact ev5.hp.sub b u h,fun b u h=>by rw[aK (a8 h hg)];exact ev5.hp.pro b u h,ev5.hp.dis⟩,fa5,aX,by rw[Yu,YM];omega,pre++[y],(rp.same s15).append (.one rv),?_⟩;cases hmm:bD st c e (fJ own ix ρ) (ds.drop (i+1))with
       |none=>rw[hmm]at hm;cases hm
       |some r=>
        rw[hmm]at hm;simp only[ZV]at hm ⊢;rw[Xn];exact hm
  ·have hz:ds.drop i=[]:=List.drop_eq_nil_of_le (by omega);rw[hz]at hm;unfold bD at hm;rw[ZV,Zf]at hm;cases hm;exact .inl ⟨ok2 (by omega),k acc F' H' (ev.trans (I1.toDHp.gd se hp')) ⟨⟨ev.back I.toDHp hacc,fa⟩,_,ha,rp⟩⟩
theorem bw(hcalm:X.calm=true)(b:BlkScope X scope)(cp:Caps X scope N own ix)(his:∀j∈is,j<own)(hi:PDI X tg iter f)
  (hg:∀s H fp pz,PDG (blk X scope N s H fp pz) tg is st) (hc:∀s H fp pz,ms (blk X scope N s H fp pz) ifs (tB' X.K c)) (he:∀s H fp pz,PDE (blk X scope N s H fp pz) elt e)
  (hnames:∀y∈scope.names,y.2=.local->scope.names.lookup y.1=some .local:=by decide)
  (hs:∀x,foldedSetIterable iter X.env x=pure x:=by intro _;rfl):PDO X (.ListComp elt [⟨tg,iter,ifs,0⟩] scope pos) (asL (aJ own ix f st c e)):=
 (yb (g:=tG X.K is st) (tc:=tB' X.K c) (te:=tD X.K e) hcalm b cp hi hg hc he hnames hs).imp (sB his)
end
section
variable{X:Cx}{e a b c:Expr}{es:List Expr}{pos:Pos}
def CQ(n:Nat)(f:Dl):Prop:=∀ρ ds,f ρ=some ds->ds.length=n
def PDL(X:Cx)(es:List Expr)(n:Nat)(f:Dl):Prop:=PDA X es f/\CQ n f
def aH:DF->Option (List D):=fun _=>some []
def ah(f:Dd)(g:Dl):DF->Option (List D):=fun ρ=>(f ρ).bind fun d=>(g ρ).map fun r=>d::r
theorem aw:PDL X [] 0 aH:=⟨PA.imp bK fun σ H Q=>un7 fun P F ρ xs hf I k=>by
 cases hf;exact k [] F H (Evo.refl I.toDHp) .nil,fun ρ ds h=>by cases h;rfl⟩
theorem ag{f:Dd}{n:Nat}{g:Dl}(h:PDE X e f)(hr:PDL X es n g)(hs:starEach (e::es) X.env=(false,eval e X.env)::starEach es X.env:=by rfl):PDL X (e::es) (n+1) (ah f g):=
 ⟨PA.imp (ba h hr.1 hs) fun σ H Q=>un7 fun P F ρ xs hf I k=>by
  unfold ah at hf;cases q:f ρ with
  |none=>rw[q]at hf;cases hf
  |some d=>
   rw[q,Yb]at hf;cases q2:g ρ with
   |none=>rw[q2]at hf;cases hf
   |some ys=>
    rw[q2]at hf;cases hf;exact⟨P,F,ρ,d,q,I,fun v F1 H1 e1 r1=>⟨P,F1,ρ,ys,q2,I.evo e1,fun vs F2 H2 e2 r2=>k (v::vs) F2 H2 (e1.trans e2) (.cons (r1.same e2.ext) r2)⟩⟩,fun ρ ds hf=>by
  unfold ah at hf;cases q:f ρ with
  |none=>rw[q]at hf;cases hf
  |some d=>
   rw[q,Yb]at hf;cases q2:g ρ with
   |none=>rw[q2]at hf;cases hf
   |some ys=>
    rw[q2]at hf;cases hf;rw[Yw,hr.2 ρ ys q2]⟩
def asT(f:Dl):DF->Option D:=fun ρ=>(f ρ).map .tup
theorem a7{x1}{n:Nat}{f:Dl}(h:PDL X es n f)(hn:n<=16777216:=by decide):PDE X (.Tuple es x1 pos) (asT f):=(Az h.1).imp fun σ H Q=>un7 fun P F ρ d hf I k=>by
 unfold asT at hf;cases q:f ρ with
 |none=>rw[q]at hf;cases hf
 |some ds=>
  rw[q]at hf;cases hf;refine⟨P,F,ρ,ds,q,I,fun vs F1 H1 e1 r1=>⟨by rw[r1.length,h.2 ρ ds q,YR];exact hn,fun p hp=>?_⟩⟩;exact k (.ref p) _ _ (e1.trans (Evo.laid e1.hp hp)) (.tup aX (r1.same (gI (e1.hp.free hp).1)))
theorem bU{n:Nat}{f:Dl}(h:PDL X es n f)(hn:n<=16777216:=by decide):PDO X (.List es pos) (asL f):=(As h.1).imp fun σ H Q=>un7 fun P F ρ ob hf I k=>by
 unfold asL at hf;cases q:f ρ with
 |none=>rw[q]at hf;cases hf
 |some ds=>
 rw[q]at hf;cases hf;refine⟨P,F,ρ,ds,q,I,fun vs F1 H1 e1 r1=>⟨by rw[r1.length,h.2 ρ ds q,YR];exact hn,fun p hp=>?_⟩⟩;exact k p F1 _ (e1.trans (Evo.side e1.hp hp)) ⟨⟨e1.back I.toDHp hp,(e1.hp.free hp).1⟩,_,aX,r1⟩
theorem Reps.atI{K:Kq}{F:Hp}{vs:List V}{ds:List D}{i:Int}{d:D}(r:Reps K F vs ds)(h:atI ds i=some d):∃v,atI vs i=some v/\Rep K F v d:=by
 unfold L2.atI at h ⊢;rw[r.length];cases q:ixN ds.length i with
 |none=>rw[q]at h;cases h
 |some j=>
  rw[q,Yb]at h;obtain⟨v,h1,h2⟩:=r.get h;exact⟨v,h1,h2⟩
def ixD:D->D->Option D
 |.lst ds,.int i=>atI ds i
 |.tup ds,.int i=>atI ds i
 |.str z,.int i=>if z.length<=16777216 then(atI z.cps.toList i).map fun c=>.str ⟨#[c]⟩else none
 |_,_=>none
theorem C6{K:Kq}:oU K (rIx K) ixD:=by
 intro P F H ρ σ x y dx dy d Q hf I rx ry k;unfold ixD at hf;split at hf
 ·obtain⟨p,vs,rfl,h1,h2⟩:=c7 I rx;obtain⟨v,h3,h4⟩:=h2.atI hf;exact .inl ⟨p,vs,_,v,rfl,cr ry,h1,h3,k v F H (Evo.refl I.toDHp) h4⟩
 ·obtain⟨p,vs,rfl,h1,h2⟩:=gs I rx;obtain⟨v,h3,h4⟩:=h2.atI hf;exact .inr (.inl ⟨p,vs,_,v,rfl,cr ry,h1,h3,k v F H (Evo.refl I.toDHp) h4⟩)
 ·split at hf
  ·rename_i z i hz;cases q:atI z.cps.toList i with
   |none=>rw[q]at hf;cases hf
   |some c=>
    rw[q]at hf;cases hf;exact .inr (.inr ⟨z,i,c,iQ rx,cr ry,by rw[YR];exact hz,q,k _ F H (Evo.refl I.toDHp) .str⟩)
  ·cases hf
 ·cases hf
theorem aN{fa fb:Dd}(ha:PDR X a fa)(hb:PDR X b fb)(hs:rX b:=by exact fun _ _=>rfl):PDE X (.Subscript a b pos) (d2 ixD fa fb):=(Dg Bv ha hb hs).imp (qg C6)
def Du:R2:=fun x y H Q=>(∃i j,x=.int i/\y=.int j/\Q (.int (i+j)) H)\/∃i j,x=.str i/\y=.str j/\i.length+j.length<=sizeLine/\Q (.str (i++j)) H
theorem iy{fa fb:Dd}(ha:PDR X a fa)(hb:PDR X b fb):PDT X (.Compare a [.Gt] [b] pos) (asB (d2 gtI fa fb)):=xK Cw (sn fun _ _ _=>.bl) ha hb (gM _)
def eX(f g:Dk):DF->Option Bool:=fun ρ=>(f ρ).bind fun b=>if b=true then g ρ else some false
def orT(f g:Dk):DF->Option Bool:=fun ρ=>(f ρ).bind fun b=>if b=true then some true else g ρ
def cI(f:Dk):DF->Option Bool:=fun ρ=>(f ρ).map fun b=>!b
def PDW(X:Cx)(e:Expr)(f:Dk):Prop:=PW X e (tB' X.K f)
theorem PDW.t{f:Dk}(h:PDW X e f):PDT X e f:=PW.pt h
theorem PW.imp{t t':TT}(h:PW X e t)(i:∀σ H Q,t' σ H Q->t σ H Q):PW X e t':=fun w pz s σ H Q I q=>h w pz s σ H Q I (i σ H Q q)
theorem d6{f:Dk}(h:PDT X a f):PDW X (.BoolOp .And [a] pos) f:=xJ h
theorem iR{f:Dk}(h:PDT X a f):PDW X (.BoolOp .Or [a] pos) f:=BD h
theorem fD{bH:List Expr}{f g:Dk}(ha:PDT X a f)(hb:PDW X (.BoolOp .And (b::bH) pos) g):PDW X (.BoolOp .And (a::b::bH) pos) (eX f g):=PW.imp (Ar ha hb) fun σ H Q=>un7 fun P F ρ r hf I k=>by
 unfold eX at hf;cases q:f ρ with
 |none=>rw[q]at hf;cases hf
 |some x=>
  rw[q,Yb]at hf;refine⟨P,F,ρ,x,q,I,fun F1 H1 e1=>?_⟩;cases x with
  |true=>rw[if_pos rfl]at hf ⊢;exact⟨P,F1,ρ,r,hf,I.evo e1,fun F2 H2 e2=>k F2 H2 (e1.trans e2)⟩
  |false=>rw[if_neg Yj]at hf ⊢;cases hf;exact k F1 H1 e1
theorem nj{bH:List Expr}{f g:Dk}(ha:PDT X a f)(hb:PDW X (.BoolOp .Or (b::bH) pos) g):PDW X (.BoolOp .Or (a::b::bH) pos) (orT f g):=PW.imp (Db ha hb) fun σ H Q=>un7 fun P F ρ r hf I k=>by
 unfold orT at hf;cases q:f ρ with
 |none=>rw[q]at hf;cases hf
 |some x=>
  rw[q,Yb]at hf;refine⟨P,F,ρ,x,q,I,fun F1 H1 e1=>?_⟩;cases x with
  |true=>rw[if_pos rfl]at hf ⊢;cases hf;exact k F1 H1 e1
  |false=>rw[if_neg Yj]at hf ⊢;exact⟨P,F1,ρ,r,hf,I.evo e1,fun F2 H2 e2=>k F2 H2 (e1.trans e2)⟩
theorem cE{f:Dk}(ha:PDT X a f):PDT X (.UnaryOp .Not a pos) (cI f):=(Al ha).imp fun σ H Q=>un7 fun P F ρ r hf I k=>by
 unfold cI at hf;cases q:f ρ with
 |none=>rw[q]at hf;cases hf
 |some x=>rw[q]at hf;cases hf;exact⟨P,F,ρ,x,q,I,fun F1 H1 e1=>k F1 H1 e1⟩
def ji(f g:Dd):DF->Option D:=fun ρ=>match f ρ with
 |some (.bl true)=>g ρ
 |some (.bl false)=>some (.bl false)
 |_=>none
def Ca(f:Dd):DF->Option D:=fun ρ=>match f ρ with
 |some (.bl b)=>some (.bl (!b))
 |_=>none
theorem g6{op}{f:Dd}(h:PDE X a f):PDE X (.BoolOp op [a] pos) f:=BK h
theorem fS{bH:List Expr}{f g:Dd}(ha:PDE X a f)(hb:PDE X (.BoolOp .And (b::bH) pos) g):PDE X (.BoolOp .And (a::b::bH) pos) (ji f g):=(Bj ha hb).imp fun σ H Q=>un7 fun P F ρ r hf I k=>by
 unfold ji at hf;split at hf
 ·rename_i q;refine⟨P,F,ρ,_,q,I,fun v F1 H1 e1 r1=>?_⟩;cases r1;exact⟨true,rfl,by rw[if_pos rfl];exact⟨P,F1,ρ,r,hf,I.evo e1,fun v F2 H2 e2 r2=>k v F2 H2 (e1.trans e2) r2⟩⟩
 ·rename_i q;refine⟨P,F,ρ,_,q,I,fun v F1 H1 e1 r1=>?_⟩;cases r1;cases hf;exact⟨false,rfl,by rw[if_neg Yj];exact k _ F1 H1 e1 .bl⟩
 ·cases hf
theorem BB{f:Dd}(ha:PDE X a f):PDE X (.UnaryOp .Not a pos) (Ca f):=(Bm ha).imp fun σ H Q=>un7 fun P F ρ r hf I k=>by
 unfold Ca at hf;split at hf
 ·rename_i q;cases hf;refine⟨P,F,ρ,_,q,I,fun v F1 H1 e1 r1=>?_⟩;cases r1;exact⟨_,rfl,k _ F1 H1 e1 .bl⟩
 ·cases hf
def ifV(c:Dk)(f g:Dd):DF->Option D:=fun ρ=>(c ρ).bind fun b=>if b=true then f ρ else g ρ
theorem qw{fc:Dk}{f g:Dd}(hc:PDT X c fc)(ha:PDE X a f)(hb:PDE X b g):PDE X (.IfExp c a b pos) (ifV fc f g):=(u9 hc ha hb).imp fun σ H Q=>un7 fun P F ρ r hf I k=>by
 unfold ifV at hf;cases q:fc ρ with
 |none=>rw[q]at hf;cases hf
 |some x=>
  rw[q,Yb]at hf;refine⟨P,F,ρ,x,q,I,fun F1 H1 e1=>?_⟩;cases x with
  |true=>rw[if_pos rfl]at hf ⊢;exact⟨P,F1,ρ,r,hf,I.evo e1,fun v F2 H2 e2 r2=>k v F2 H2 (e1.trans e2) r2⟩
  |false=>rw[if_neg Yj]at hf ⊢;exact⟨P,F1,ρ,r,hf,I.evo e1,fun v F2 H2 e2 r2=>k v F2 H2 (e1.trans e2) r2⟩
def DN(K:Kq)(r:List V->Hp->VK->Prop)(f:D->Option D):Prop:=
 ∀(P F H:Hp) (ρ:DF) (σ:St) (x:V) (dx d:D) (Q:VK),f dx=some d->DInv K P F H ρ σ->RepS K H F x dx->(∀v F' H',Evo P F H F' H'->Rep K F' v d->Q v H')->r [x] H Q
def d1(f:D->Option D)(fa:Dd):DF->Option D:=fun ρ=>(fa ρ).bind f
theorem AS{K:Kq}{r:List V->Hp->VK->Prop}{f:D->Option D}{fa:Dd}(ho:DN K r f):∀σ H Q,tD K (d1 f fa) σ H Q->tCB r (oW (tR K fa) tE) σ H Q:=fun σ H Q=>un7 fun P F ρ d hf I k=>by
 unfold d1 at hf;cases ha:fa ρ with
 |none=>rw[ha]at hf;cases hf
 |some dx=>
  rw[ha,Yb]at hf;exact⟨P,F,ρ,dx,ha,I,fun x F1 H1 e1 rx=>ho P F1 H1 ρ σ x dx d Q hf (I.evo e1) rx fun v F2 H2 e2 rv=>k v F2 H2 (e1.trans e2) rv⟩
def bu:D->Option D
 |.lst ds=>some (.int ds.length)
 |.tup ds=>some (.int ds.length)
 |.str z=>if z.length<=16777216 then some (.int z.length)else none
 |_=>none
def C9(K:Kq):List V->Hp->VK->Prop:=fun xs H Q=>(∃p ys,xs=[.ref p]/\(SqL K H p ys\/SqT K H p ys)/\Q (.int ys.length) H)\/∃z,xs=[.str z]/\z.length<=sizeLine/\Q (.int z.length) H
end
mutual
def bM:D->PyData
 |.non=>.none
 |.bl b=>.bool b
 |.int i=>.int i
 |.str x=>.str x
 |.tup xs=>.tuple (bN xs)
 |.lst xs=>.list (bN xs)
 |.dT _=>.none
 |.dK _=>.none
 |.ins _ _=>.none
def bN:List D->List PyData
 |[]=>[]
 |d::ds=>bM d::bN ds
end
def okN:Nat->D->Bool
 |_,.non=>true
 |_,.bl _=>true
 |_,.int _=>true
 |_,.str x=>PyData.strOk x
 |n+1,.tup xs=>xs.all (okN n)
 |n+1,.lst xs=>xs.all (okN n)
 |_,_=>false
theorem bL{n:Nat}:∀{ds:List D},ds.all (okN n)=true->∀d∈ds,okN n d=true:=fun h d hd=>Yi.mp h d hd
theorem ck:∀(n:Nat) (d:D),okN n d=true->(bM d).canLay0=true/\(bM d).depth<=n+1:=by
 intro n;induction n with
 |zero=>
  intro d h;cases d with
  |non=>exact⟨rfl,by simp[bM,PyData.depth]⟩
  |bl b=>exact⟨rfl,by simp[bM,PyData.depth]⟩
  |int b=>exact⟨rfl,by simp[bM,PyData.depth]⟩
  |str b=>exact⟨h,by simp[bM,PyData.depth]⟩
  |_=>cases h
 |succ n ih=>
  have all:∀ds:List D,ds.all (okN n)=true->PyData.canLayAll0 (bN ds)=true/\PyData.depthAll (bN ds)<=n+1:=by
   intro ds;induction ds with
   |nil=>intro _;exact⟨rfl,by simp[bN,PyData.depthAll]⟩
   |cons x r ihr=>
    intro h;rw[List.all_cons,Yo]at h;obtain⟨h1,h2⟩:=ih x h.1;obtain⟨h3,h4⟩:=ihr h.2;refine⟨?_,?_⟩
    ·show(PyData.canLay0 (bM x)&&PyData.canLayAll0 (bN r))=true;rw[h1,h3];rfl
    ·show PyData.depthAll (bM x::bN r)<=n+1;simp only[PyData.depthAll];omega
  intro d h;cases d with
  |non=>exact⟨rfl,by simp[bM,PyData.depth]⟩
  |bl b=>exact⟨rfl,by simp[bM,PyData.depth]⟩
  |int b=>exact⟨rfl,by simp[bM,PyData.depth]⟩
  |str b=>exact⟨h,by simp[bM,PyData.depth]⟩
  |tup xs=>
   obtain⟨h1,h2⟩:=all xs h;exact⟨h1,by simp only[bM,PyData.depth];omega⟩
  |lst xs=>
   obtain⟨h1,h2⟩:=all xs h;exact⟨h1,by simp only[bM,PyData.depth];omega⟩
  |_=>cases h
section
variable{X:Cx}{pz:Kp}{σ:St}{H:Hp}{s:Shared}
theorem Reps.readsOf{n:Nat}(ih:∀{v:V}{d:D}{u:Value},Rep X.K H v d->okN n d=true->RelV v u->∃as,Reads s.heap u (bM d) as){vs:List V}{ds:List D}(h:Reps X.K H vs ds):∀us:List Value,(∀d∈ds,okN n d=true)->Vals vs us->∃as,ReadsAll s.heap us (bN ds) as:=
 Reps.ind (M:=fun vs ds=>∀us:List Value,(∀d∈ds,okN n d=true)->Vals vs us->∃as,ReadsAll s.heap us (bN ds) as) (fun us _ r=>by cases r;exact⟨_,.nil⟩) (fun h _ i us ho r=>by
  cases r with
  |cons r t=>
   obtain⟨a1,r1⟩:=ih h (ho _ Ye) r;obtain⟨a2,r2⟩:=i _ (fun d hd=>ho d (Yc _ hd)) t;exact⟨_,.cons r1 r2⟩) h
theorem Rep.reads1(I:Inv X pz σ H s)(n:Nat)(ih:∀m,n=m+1->∀{v:V}{d:D}{u:Value},Rep X.K H v d->okN m d=true->RelV v u->∃as,Reads s.heap u (bM d) as){v:V}{d:D}{u:Value}(h:Rep X.K H v d)(ho:okN n d=true)(r:RelV v u):∃as,Reads s.heap u (bM d) as:=by
 cases h with
 |non=>cases(show u=Value.none from r);exact⟨_,.none⟩
 |bl=>cases(show u=Value.bool _ from r);exact⟨_,.bool _⟩
 |int=>obtain⟨t,rfl⟩:=(show ∃t,u=Value.int _ t from r);exact⟨_,.int _ _⟩
 |str=>obtain⟨t,rfl⟩:=(show ∃t,u=Value.str _ t from r);exact⟨_,.str _ _⟩
 |tup h q=>
  cases n with
  |zero=>cases ho
  |succ m=>
   cases(show u=Value.ref _ from r);obtain⟨its,rv,ht,_⟩:=I.tuple (SqT.of h);obtain⟨as,ra⟩:=Reps.readsOf (ih m rfl) q _ (bL ho) rv;obtain⟨o,h1,h2,m,h3⟩:=ht;exact⟨_,.tuple h1 h2 h3 (by simpa using ra)⟩
 |lst h q=>
  cases n with
  |zero=>cases ho
  |succ m=>
   cases(show u=Value.ref _ from r);obtain⟨its,rv,ht,_⟩:=I.list h;obtain⟨as,ra⟩:=Reps.readsOf (ih m rfl) q _ (bL ho) rv;obtain⟨o,m,h1,h2,_,h3⟩:=ht;exact⟨_,.list h1 h2 h3 (by simpa using ra)⟩
 |_=>cases n<;>cases ho
theorem Rep.reads(I:Inv X pz σ H s)(n:Nat):∀{v:V}{d:D}{u:Value},Rep X.K H v d->okN n d=true->RelV v u->∃as,Reads s.heap u (bM d) as:=by
 induction n with
 |zero=>exact fun h ho r=>Rep.reads1 I 0 (fun m e=>by cases e) h ho r
 |succ n ih=>exact fun h ho r=>Rep.reads1 I (n+1) (fun m e=>by cases e;exact ih) h ho r
end
def eqd(x y:D):Bool:=PyData.eqv (bM x) (bM y)
def eqD(x y:D):Option D:=if(okN 30 x&&okN 30 y)=true then some (.bl (eqd x y))else none
def neD(x y:D):Option D:=if(okN 30 x&&okN 30 y)=true then some (.bl (!eqd x y))else none
def yq(K:Kq)(g:Bool->Bool):R2:=fun x y H Q=>∃dx dy,Rep K H x dx/\Rep K H y dy/\okN 30 dx=true/\okN 30 dy=true/\Q (.bl (g (eqd dx dy))) H
section
variable{X:Cx}{e a b c:Expr}{es:List Expr}{pos:Pos}
theorem vj(hu:X.A.units+64<cLine):OpR X (compareOp .Eq) (yq X.K fun b=>b):=by
 intro pz s σ H x y v u Q I rx ry h;obtain⟨dx,dy,h1,h2,o1,o2,q⟩:=h;obtain⟨a1,r1⟩:=h1.reads I 30 o1 rx;obtain⟨a2,r2⟩:=h2.reads I 30 o2 ry;obtain⟨l1,p1⟩:=ck 30 dx o1;obtain⟨l2,p2⟩:=ck 30 dy o2;refine PySem.SeqAt.compareEq_shaped r1 r2 ?_ ?_ hu ⟨.bl _,H,I,rfl,q⟩
 ·unfold PySem.SeqAt.shaped;rw[l1,Vw,YE];omega
 ·unfold PySem.SeqAt.shaped;rw[l2,Vw,YE];omega
theorem uV(hu:X.A.units+64<cLine):OpR X (compareOp .NotEq) (yq X.K fun b=>!b):=by
 intro pz s σ H x y v u Q I rx ry h;obtain⟨dx,dy,h1,h2,o1,o2,q⟩:=h;obtain⟨a1,r1⟩:=h1.reads I 30 o1 rx;obtain⟨a2,r2⟩:=h2.reads I 30 o2 ry;obtain⟨l1,p1⟩:=ck 30 dx o1;obtain⟨l2,p2⟩:=ck 30 dy o2;refine PySem.SeqAt.compareNe_shaped r1 r2 ?_ ?_ hu ⟨.bl _,H,I,rfl,q⟩
 ·unfold PySem.SeqAt.shaped;rw[l1,Vw,YE];omega
 ·unfold PySem.SeqAt.shaped;rw[l2,Vw,YE];omega
theorem wT{K:Kq}:OpN2 K (yq K fun b=>b) eqD:=by
 intro P F H x y dx dy d Q hf hp rx ry k;unfold eqD at hf;split at hf
 ·rename_i h;rw[Yo]at h;cases hf;exact⟨dx,dy,rx,ry,h.1,h.2,k _ F H (Evo.refl hp) .bl⟩
 ·cases hf
theorem uO{K:Kq}:OpN2 K (yq K fun b=>!b) neD:=by
 intro P F H x y dx dy d Q hf hp rx ry k;unfold neD at hf;split at hf
 ·rename_i h;rw[Yo]at h;cases hf;exact⟨dx,dy,rx,ry,h.1,h.2,k _ F H (Evo.refl hp) .bl⟩
 ·cases hf
theorem oh{fa fb:Dd}(hu:X.A.units+64<cLine)(ha:PDN X a fa)(hb:PDN X b fb):PDE X (.Compare a [.Eq] [b] pos) (d2 eqD fa fb):=xf (vj hu) wT ha hb (gM _)
theorem CL{fa fb:Dd}(hu:X.A.units+64<cLine)(ha:PDN X a fa)(hb:PDN X b fb):PDE X (.Compare a [.NotEq] [b] pos) (d2 neD fa fb):=xf (uV hu) uO ha hb (gM _)
theorem c9{fa fb:Dd}(hu:X.A.units+64<cLine)(ha:PDN X a fa)(hb:PDN X b fb):PDT X (.Compare a [.Eq] [b] pos) (asB (d2 eqD fa fb)):=iW (vj hu) wT ha hb (gM _)
theorem lK{fa fb:Dd}(hu:X.A.units+64<cLine)(ha:PDN X a fa)(hb:PDN X b fb):PDT X (.Compare a [.NotEq] [b] pos) (asB (d2 neD fa fb)):=iW (uV hu) uO ha hb (gM _)
def df:D->Option (List D)
 |.lst ds=>some ds
 |.tup ds=>some ds
 |_=>none
def fY(x y:D):Option D:=(df y).bind fun ds=>if(okN 30 x&&ds.all (okN 29))=true then some (.bl (!ds.any fun z=>eqd z x))else none
def CD(K:Kq)(g:Bool->Bool):R2:=fun x y H Q=>∃dx dy ds,Rep K H x dx/\Rep K H y dy/\df dy=some ds/\okN 30 dx=true/\ds.all (okN 29)=true/\Q (.bl (g (ds.any fun z=>eqd z dx))) H
theorem gU(x:D):∀ds:List D,(bN ds).any (fun y=>PyData.eqv y (bM x))=ds.any fun z=>eqd z x
 |[]=>rfl
 |d::ds=>by
  show((PyData.eqv (bM d) (bM x))||(bN ds).any _)=_;rw[gU x ds];rfl
theorem uq(hu:X.A.units+64<cLine):OpR X (compareOp .NotIn) (CD X.K fun b=>!b):=by
 intro pz s σ H x y v u Q I rx ry h;obtain⟨dx,dy,ds,h1,h2,hi,o1,o2,q⟩:=h;obtain⟨a1,r1⟩:=h1.reads I 30 o1 rx;obtain⟨l1,p1⟩:=ck 30 dx o1;have hm:min (PyData.depthAll (bN ds)) (bM dx).depth<=31:=YC (Nat.min_le_right _ _) p1;cases dy with
 |lst xs=>
  cases hi;obtain⟨a2,r2⟩:=h2.reads I 30 (d:=.lst ds) o2 ry;obtain⟨l2,p2⟩:=ck 30 (.lst ds) o2;exact PySem.SeqAt.notIn_list_reads r2 r1 l2 l1 (by omega) ⟨.bl _,H,I,(by show Value.bool _=Value.bool _;rw[gU]),q⟩
 |tup xs=>
  cases hi;obtain⟨a2,r2⟩:=h2.reads I 30 (d:=.tup ds) o2 ry;obtain⟨l2,p2⟩:=ck 30 (.tup ds) o2;exact PySem.SeqAt.notIn_tuple_reads r2 r1 l2 l1 (by omega) ⟨.bl _,H,I,(by show Value.bool _=Value.bool _;rw[gU]),q⟩
 |_=>cases hi
theorem ue{K:Kq}:OpN2 K (CD K fun b=>!b) fY:=by
 intro P F H x y dx dy d Q hf hp rx ry k;unfold fY at hf;cases q:df dy with
 |none=>rw[q]at hf;cases hf
 |some ds=>
  rw[q,Yb]at hf;split at hf
  ·rename_i h;rw[Yo]at h;cases hf;exact⟨dx,dy,ds,rx,ry,q,h.1,h.2,k _ F H (Evo.refl hp) .bl⟩
  ·cases hf
theorem wW{fa fb:Dd}(hu:X.A.units+64<cLine)(ha:PDN X a fa)(hb:PDN X b fb)(hm:behindInMarks .NotIn b=false:=by with_unfolding_all rfl):PDT X (.Compare a [.NotIn] [b] pos) (asB (d2 fY fa fb)):=iW (uq hu) ue ha hb hm
end
section
variable{X:Cx}{tg e a b l:Expr}{pos p:Pos}
def dF(f:Dd):DF->Option (List D):=fun ρ=>match f ρ with
 |some (.lst ds)=>some ds
 |_=>none
theorem xj{f:Dd}{ρ:DF}{ds:List D}(h:dF f ρ=some ds):f ρ=some (.lst ds):=by
 unfold dF at h;split at h
 ·rename_i q;cases h;exact q
 ·cases h
theorem lL{K:Kq}{P F:Hp}{a:Addr}{vs:List V}{ds:List D}(h:SqL K F a vs)(r:Reps K F vs ds):qD K P (Itl K a) F ds:=by intro F' H' e hp i;have hv:SqL K H' a vs:=hp.sub.seq (e.seq h);refine⟨fun d hd=>?_,fun hl=>⟨vs,hv,by rw[r.length];exact hl⟩⟩;obtain⟨v,h1,h2⟩:=r.get hd;refine⟨⟨vs,v,hv,h1⟩,fun x H2 hy=>?_⟩;obtain⟨rfl,hx⟩:=hy;have:=hx vs hv;rw[h1]at this;cases this;exact⟨F',Evo.refl hp,h2.same e⟩
theorem nu{f:Dd}(h:PDE X l f):PDI X tg l (dF f):=PI.imp (sY h) fun σ H R=>un7 fun P F ρ ds hf I k=>by
 refine⟨P,F,ρ,_,xj hf,I,fun v F' H' ev rv=>?_⟩;cases rv with
 |lst h1 h2=>exact⟨_,rfl,⟨_,ev.hp.sub.seq h1⟩,k _ F' H' ev (lL h1 h2)⟩
def bG(i:Nat):DF->Option (List D):=fun ρ=>match ρ[i]? with
 |some (some (.bor (.lst ds)))=>some ds
 |some (some (.v (.lst ds)))=>some ds
 |_=>none
theorem xh{K:Kq}{P F:Hp}{a:Addr}{vs:List V}{ds:List D}(h:P a=some (.lst vs))(r:Reps K F vs ds):qD K P (Itl K a) F ds:=by intro F' H' e hp i;have hv:SqL K H' a vs:=SqL.of (hp.pro _ _ h);refine⟨fun d hd=>?_,fun hl=>⟨vs,hv,by rw[r.length];exact hl⟩⟩;obtain⟨v,h1,h2⟩:=r.get hd;refine⟨⟨vs,v,hv,h1⟩,fun x H2 hy=>?_⟩;obtain⟨rfl,hx⟩:=hy;have:=hx vs hv;rw[h1]at this;cases this;exact⟨F',Evo.refl hp,h2.same e⟩
theorem b6(i:Nat)(h:PE X l (e9 i)):PDI X tg l (bG i):=PI.imp (sY h) fun σ H R=>un7 fun P F ρ ds hf I k=>by
 unfold bG at hf;split at hf
 ·rename_i ds' q;cases hf;obtain⟨v,h1,a,rfl,_,u,h3,h4⟩:=I.at q;cases u with
  |lst vs=>exact⟨_,h1,a,rfl,⟨vs,SqL.of (I.pro _ _ h3)⟩,k _ F H (Evo.refl I.toDHp) (xh h3 h4)⟩
  |_=>exact h4.elim
 ·rename_i ds' q;cases hf;obtain⟨v,h1,h2⟩:=I.at q;cases h2 with
  |lst h3 h4=>exact⟨_,h1,_,rfl,⟨_,I.sub.seq h3⟩,k _ F H (Evo.refl I.toDHp) (lL h3 h4)⟩
 ·cases hf
def cP(lo:Int)(n:Nat):List D:=(List.range n).map fun i:Nat=>.int (lo+(i:Int))
theorem rB{lo:Int}{n i:Nat}{d:D}(h:(cP lo n)[i]?=some d):i<n/\d=.int (lo+(i:Int)):=by
 unfold cP at h;rw[Ys]at h;by_cases hi:i<n
 ·rw[Zo hi,ZV]at h;cases h;exact⟨hi,rfl⟩
 ·rw[YS (by rw[YZ];omega)]at h;cases h
theorem ql(lo:Int)(n:Nat):(cP lo n).length=n:=by unfold cP;rw[Yd,YZ]
theorem jX{K:Kq}{P F:Hp}(lo:Int)(n:Nat):qD K P (Itr lo n) F (cP lo n):=by intro F' H' e hp i;refine⟨fun d hd=>?_,fun hl=>by rw[ql]at hl;exact hl⟩;obtain⟨hi,rfl⟩:=rB hd;refine⟨hi,fun x H2 hy=>?_⟩;obtain⟨rfl,rfl⟩:=hy;exact⟨F',Evo.refl hp,.int⟩
def cy(f:Dd):DF->Option (List D):=fun ρ=>match f ρ with
 |some (.int j)=>if -(2^62)<=j/\j<2^62 then some (cP 0 j.toNat)else none
 |_=>none
def xO(f g:Dd):DF->Option (List D):=fun ρ=>match f ρ,g ρ with
 |some (.int i),some (.int j)=>if -(2^62)<=i/\i<2^62/\-(2^62)<=j/\j<2^62 then some (cP i (j-i).toNat)else none
 |_,_=>none
theorem a9{f:Dd}(hg:Gl X "range")(hm:X.mg "range"=none)(ha:PDR X a f)(hs:starEach [a] X.env=[(false,eval a X.env)]:=by rfl):PDI X tg (.Call (.Name "range" p) [a] [] pos) (cy f):=
 PI.imp (uh hg hm (ba ha bK hs) hs) fun σ H R=>un7 fun P F ρ ds hf I k=>by
  unfold cy at hf;split at hf
  ·rename_i j q;split at hf
   ·rename_i hj;cases hf;refine⟨P,F,ρ,_,q,I,fun v F1 H1 e1 r1=>⟨j,by rw[cr r1],hj.1,hj.2,k _ F1 H1 e1 (jX 0 _)⟩⟩
   ·cases hf
  ·cases hf
theorem jg{f g:Dd}(hg:Gl X "range")(hm:X.mg "range"=none)(ha:PDR X a f)(hb:PDR X b g)(hs:starEach [a,b] X.env=[(false,eval a X.env),(false,eval b X.env)]:=by rfl)(hs2:starEach [b] X.env=[(false,eval b X.env)]:=by rfl):PDI X tg (.Call (.Name "range" p) [a,b] [] pos) (xO f g):=
 PI.imp (uB hg hm (ba ha (ba hb bK hs2) (by rw[hs,hs2])) hs hs2) fun σ H R=>un7 fun P F ρ ds hf I k=>by
  unfold xO at hf;split at hf
  ·rename_i i j q1 q2;split at hf
   ·rename_i hj;cases hf;refine⟨P,F,ρ,_,q1,I,fun v F1 H1 e1 r1=>⟨P,F1,ρ,_,q2,I.evo e1,fun v2 F2 H2 e2 r2=>⟨i,j,by rw[cr r1,cr r2],hj,k _ F2 H2 (e1.trans e2) (jX i _)⟩⟩⟩
   ·cases hf
  ·cases hf
def sv:List Nat->List D->DF->Option DF
 |[],[],ρ=>some ρ
 |i::is,d::ds,ρ=>sv is ds (ρ.set i (some (.v d)))
 |_,_,_=>none
def h9(is:List Nat)(d:D)(ρ:DF):Option DF:=match d with
 |.tup ds=>sv is ds ρ
 |_=>none
def qh:List Nat->TGs
 |[]=>D8
 |i::is=>zG (ke i) (qh is)
theorem kX{K:Kq}{P F H:Hp}{Q:St->Hp->Prop}:∀(is:List Nat) (vs:List V) (ds:List D) (ρ ρ':DF) (σ:St),Reps K F vs ds->sv is ds ρ=some ρ'->DInv K P F H ρ σ->
  (∀σ',DInv K P F H ρ' σ'->σ'.length=σ.length->(∀j,j∉is->σ'[j]?=σ[j]?)->Q σ' H)->qh is vs σ H Q
 |[],vs,ds,ρ,ρ',σ,r,hs,I,k=>by
  cases r with
  |nil=>cases hs;exact⟨rfl,k σ I rfl fun _ _=>rfl⟩
  |cons _ _=>cases hs
 |i::is,vs,ds,ρ,ρ',σ,r,hs,I,k=>by
  cases r with
  |nil=>cases hs
  |cons h q=>
   refine⟨_,_,rfl,kX is _ _ _ ρ' _ q hs (I.setV i h) fun σ' I' hl hj=>k σ' I' (by rw[hl,ZF]) fun j hn=>?_⟩;rw[hj j (fun z=>hn (Yc _ z)),Zl (fun z=>hn (by rw[z];exact Ye))]
theorem lc:∀(is:List Nat) (ds:List D) (ρ ρ':DF),sv is ds ρ=some ρ'->ds.length=is.length
 |[],[],_,_,_=>rfl
 |[],_::_,_,_,h=>by cases h
 |_::_,[],_,_,h=>by cases h
 |i::is,d::ds,ρ,ρ',h=>by rw[Yw,Yw,lc is ds _ _ h]
theorem gE{es:List Expr}{k:Nat}{is:List Nat}(hc:X.calm=true)(h:PGs X es (qh is))(hn:(assignEach es X.env).length=is.length:=by rfl)(hst:(assignEach es X.env).findIdx? (·.1)=none:=by rfl):PDG X (.Tuple es k pos) is (h9 is):=
 PG.imp (BZ (n:=is.length) hc h hn hst) fun v σ H Q hh_=>by
  obtain⟨P,F,ρ,d,ρ',hs,I,r,kk⟩:=hh_;cases d with
  |tup ds=>
   cases r with
   |tup h1 h2=>
    exact⟨_,_,rfl,SqT.of (I.sub _ _ h1),by rw[h2.length];exact lc is ds ρ ρ' hs,kX is _ ds ρ ρ' σ h2 hs I fun σ' I' hl hj=>kk σ' F H (Evo.refl I.toDHp) I' hl hj⟩
  |_=>cases hs
def nU(is:List Nat)(f:Dd):DF->Option RES:=fun ρ=>(f ρ).bind fun d=>(h9 is d ρ).map .nx
theorem ym{es:List Expr}{k:Nat}{pos':Pos}{is:List Nat}{f:Dd}(hg:PDG X (.Tuple es k pos') is (h9 is))(he:PDE X e f)(hs:swapsWithSole [.Tuple es k pos'] e pos.line X.env=pure false:=by rfl)(hw:swappedStores [.Tuple es k pos'] e X.env=pure none:=by rfl)
  (h1:(assignEach [.Tuple es k pos'] X.env).map (·.2)=[assign (.Tuple es k pos') X.env]:=by rfl):PD1 X (.Assign [.Tuple es k pos'] e pos) (nU is f):=PS.imp (Ce he hg hs hw h1) fun E σ H=>un7 fun P F ρ r hr I kk=>by
 unfold nU at hr;cases q:f ρ with
 |none=>rw[q]at hr;cases hr
 |some d=>
  rw[q,Yb]at hr;cases q2:h9 is d ρ with
  |none=>rw[q2]at hr;cases hr
  |some ρ'=>
   rw[q2]at hr;cases hr;exact⟨P,F,ρ,d,q,I,fun v F1 H1 e1 r1=>⟨P,F1,ρ,d,ρ',q2,I.evo e1,r1,fun σ' F2 H2 e2 I2 _ _=>kk σ' F2 H2 (e1.ext.trans e2.ext) I2⟩⟩
end
theorem DInv.mut{K:Kq}{P F H:Hp}{ρ:DF}{σ:St}(I:DInv K P F H ρ σ){i:Nat}{o o':OD}{t:Option Addr}{a:Addr}{u:HO}(h:ρ[i]?=some (some (.own o t)))(hf:o.flat=true)(hf':o'.flat=true)(hs:σ[i]?=some (some (.ref a)))(hr:ORep1 K F o' u) :
  DInv K P F (upd H a u) (ρ.set i (some (.own o' t))) σ:=by
 obtain⟨O,hR⟩:=I.rep;obtain⟨v,h1,b,rfl,h2,ht⟩:=hR i _ h;rw[hs]at h1;cases h1;obtain⟨⟨q1,q2,q3⟩,u',q4,_⟩:=(ORep.flat hf).mp h2;refine⟨⟨fun c w e=>by rw[aK (a8 e q1)];exact I.sub c w e,fun c w e=>by rw[aK (a8 e q2)];exact I.pro c w e,I.dis⟩,by rw[ZF];exact I.len,O,fun j z hj=>?_⟩;rcases gz hj with⟨rfl,e,hl⟩|⟨hij,hj'⟩
 ·cases e;exact⟨_,hs,a,rfl,(ORep.flat hf').mpr ⟨⟨q1,q2,q3⟩,u,aX,hr⟩,ht⟩
 ·obtain⟨w,e1,e2⟩:=hR j z hj';refine⟨w,e1,?_⟩;cases z with
  |v d'=>exact e2
  |own od t'=>(obtain⟨c,rfl,e3,ht'⟩:=e2;exact⟨c,rfl,e3.mono (Same.refl _) fun b w' q hb=>⟨by rw[aK (fun z=>by subst z;rw[q.2.2]at q3;exact hij (Yy q3).symm)];exact hb,q⟩,ht'⟩)
  |bor od=>exact e2
section
variable{X:Cx}{o e:Expr}{pos apos cpos:Pos}
def cQ(i:Nat)(f:Dd):DF->Option RES:=fun ρ=>match ρ[i]? with
 |some (some (.own (.lst ds) t))=>(f ρ).bind fun d=>if ds.length<16777216 then some (.nx (ρ.set i (some (.own (.lst (ds++[d])) t))))else none
 |_=>none
theorem mw{K:Kq}{P F H:Hp}{ρ:DF}{σ:St}(I:DInv K P F H ρ σ){i:Nat}{ds:List D}{t:Option Addr}(q:ρ[i]?=some (some (.own (.lst ds) t))):∃a vs,σ[i]?=some (some (.ref a))/\F a=none/\P a=none/\H a=some (.lst vs)/\Reps K F vs ds:=by
 obtain⟨v,h1,a,rfl,⟨⟨q1,q2,_⟩,u,q3,q4⟩,_⟩:=I.at q;cases u with
 |lst vs=>exact⟨a,vs,h1,q1,q2,q3,q4⟩
 |_=>exact q4.elim
theorem bP(i:Nat){f:Dd}(h:PE X o (e9 i))(ha:PDE X e f)(hbase:attributeBase o "append" X.env (eval o X.env)=eval o X.env:=by rfl)
  (hfew:((backTo cpos (starEach [e] X.env)).all (fun x=>!x.1)&&(backToKw cpos (keywordEach [] X.env)).all (fun x=>x.1.isSome)
   && decide (([e]:List Expr).length+([]:List Keyword).length+(if([]:List Keyword).isEmpty then 0 else 1)<30))=true:=by rfl)
  (hline:(apos.endLine == cpos.line)=true:=by rfl) (hs:starEach [e] X.env=[(false,eval e X.env)]:=by rfl) (hsw:swapsWith (.Call (.Attribute o "append" apos) [e] [] cpos) none pos.line X.env=pure false:=by rfl) :
  PD1 X (.Expr (.Call (.Attribute o "append" apos) [e] [] cpos) pos) (cQ i f):=
 PS.imp (iU (oG ZZ PySem.F.slot_list_append PySem.F.type_list_append gO h (ba ha bK hs) hbase hfew hline hs rfl) hsw) fun E σ H=>un7 fun P F ρ r hr I k=>by
  unfold cQ at hr;split at hr
  ·rename_i ds t q;cases q2:f ρ with
   |none=>rw[q2]at hr;cases hr
   |some d=>
    rw[q2,Yb]at hr;split at hr
    ·rename_i hl;cases hr;obtain⟨a,vs,h1,h2,h3,h4,h5⟩:=mw I q;refine⟨_,h1,.inl ⟨rfl,vs,SqL.of h4⟩,P,F,ρ,d,q2,I,fun v F1 H1 e1 r1=>?_⟩;obtain⟨k1,k2⟩:=e1.keep a _ h4 h2;have I1:=I.evo e1;refine⟨a,vs,v,rfl,rfl,k1,by rw[YR,h5.length];exact hl,k σ F1 _ e1.ext ?_⟩;exact I1.mut (o':=.lst _) (u:=.lst _) q rfl rfl h1 ((h5.same e1.ext).append (.one r1))
    ·cases hr
  ·cases hr
end
mutual
def ltD:D->D->Bool
 |.int i,.int j=>decide (i<j)
 |.bl a,.bl b=>!a&&b
 |.str x,.str y=>decide (x.cps.toList<y.cps.toList)
 |.tup xs,.tup ys=>bS xs ys
 |_,_=>false
def bS:List D->List D->Bool
 |[],[]=>false
 |[],_::_=>true
 |_::_,[]=>false
 |x::xs,y::ys=>if eqd x y=true then bS xs ys else ltD x y
end
mutual
def aA:D->D->Bool
 |.int _,.int _=>true
 |.bl _,.bl _=>true
 |.str _,.str _=>true
 |.tup xs,.tup ys=>bi xs ys
 |_,_=>false
def bi:List D->List D->Bool
 |x::xs,y::ys=>aA x y&&bi xs ys
 |_,_=>true
end
def vT(A:Around)(s:Shared)(y x:Value)(b:Bool):Prop:=
 ∀(prog:Program) (w:World) (E:Kv) (Q:Kv),Q (.bool b) s->wpAny (model prog w) A (richCompare .Lt y x) Q E s
inductive LexOk (A:Around) (s:Shared):List Value->List Value->List D->List D->Prop
 |nl {ws:List Value}{es:List D}:ws.length=es.length->LexOk A s [] ws [] es
 |nr {vs:List Value}{ds:List D}:vs.length=ds.length->LexOk A s vs [] ds []
 |cons {v w:Value}{d e:D}{vs ws:List Value}{ds es:List D}:SeqAt.EqAt A s v w (eqd d e)->(eqd d e=false->vT A s v w (ltD d e))->LexOk A s vs ws ds es->LexOk A s (v::vs) (w::ws) (d::ds) (e::es)
theorem LexOk.len{A:Around}{s:Shared}{vs ws:List Value}{ds es:List D}(h:LexOk A s vs ws ds es):vs.length=ds.length/\ws.length=es.length:=by
 induction h with
 |nl h=>exact⟨rfl,h⟩
 |nr h=>exact⟨h,rfl⟩
 |cons _ _ _ ih=>exact⟨Zs Nat.succ ih.1,Zs Nat.succ ih.2⟩
section
open PySem.SeqAt
open PySem.AutoSeq1 (wpAny_loadPart')
open PySem.MeetsSeq PySem.MeetsSeq2 PySem.MeetsSeq3
theorem nC(l b:Addr)(items dA:Array Value)(n n2:Nat)(dd dd2:Option Addr)(sl sl2:Array (Option Value))(ds es:List D) :
  Meets (Builtin.«tuple.__lt__» ⟨[.ref l,.ref b],[]⟩)
   (fun A R s=>LexOk A.in1 s items.toList dA.toList ds es/\s.heap.get? l=some {cls:=.type "tuple",dict:=dd,data:=.seq items n,slots:=sl}/\s.heap.get? b=some {cls:=.type "tuple",dict:=dd2,data:=.seq dA n2,slots:=sl2} /\
    R (.ok (.ret (.bool (bS ds es)))) s):=
 .of_wp fun prog w A R s h=>by
  obtain⟨hp,g,d,tk,os⟩:=s;obtain⟨hlex,hl,hb,h⟩:=h;have f2:=AutoSeq1.sub_tuple_tuple;have z1:items.size=ds.length:=by rw[<-hlex.len.1];simp
  have z2:dA.size=es.length:=by rw[<-hlex.len.2];simp
  wp_walk using wpAny_loadPart' hl,wpAny_loadPart' hb,Xu _ (fun bH b s'=>b.1=none/\s'=⟨hp,g,d,tk,os⟩/\∃(vs ws:List Value) (ds' es':List D),bH=vs.zip ws /\
   LexOk A.in1 ⟨hp,g,d,tk,os⟩ vs ws ds' es'/\ds'.length+dA.size=es'.length+items.size/\R (.ok (.ret (.bool (bS ds' es')))) ⟨hp,g,d,tk,os⟩) _
  case turn=>
   rintro⟨y,x⟩ bH b s' ⟨hb',rfl,vs,ws,ds',es',hz,hx,hlen,hR⟩;cases hx with
   |nl _=>rw[List.zip_nil_left]at hz;cases hz
   |nr _=>rw[List.zip_nil_right]at hz;cases hz
   |@cons v w' dd' ee' vs' ws' ds'' es'' he hlt hx'=>
    rw[VO]at hz;injection hz with hyx hrest;injection hyx with hy hxx;subst hy hxx;simp only[Yw]at hlen;refine Ya (he prog w _ _ ?_);cases q:eqd dd' ee' with
    |true=>
     have hR':R (.ok (.ret (.bool (bS ds'' es'')))) ⟨hp,g,d,tk,os⟩:=by rw[bS,if_pos q]at hR;exact hR
     wp_walk
     exact⟨rfl,rfl,_,_,_,_,hrest,hx',by omega,hR'⟩
    |false=>
     have hR':R (.ok (.ret (.bool (ltD dd' ee')))) ⟨hp,g,d,tk,os⟩:=by rw[bS,if_neg (by rw[q];exact Yj)]at hR;exact hR
     have hri:=hlt q prog w
     wp_walk using hri
     exact⟨_,rfl,by simpa using hR'⟩
  case fin=>
   rintro⟨b1,b2⟩ s' ⟨hb',rfl,vs,ws,ds',es',hz,hx,hlen,hR⟩;simp only at hb';subst hb';have hv:bS ds' es'=decide (items.size<dA.size):=by
    cases hx with
    |nl hw=>
     cases es' with
     |nil=>
      simp only[Zn]at hlen;rw[show bS [] []=false by simp[bS]];exact(YB (by omega)).symm
     |cons c u=>
      simp only[Zn,Yw]at hlen;rw[show bS [] (c::u)=true by simp[bS]];exact(YK (by omega)).symm
    |nr hw=>
     cases ds' with
     |nil=>
      simp only[Zn]at hlen;rw[show bS [] []=false by simp[bS]];exact(YB (by omega)).symm
     |cons c u=>
      simp only[Zn,Yw]at hlen;rw[show bS (c::u) []=false by simp[bS]];exact(YB (by omega)).symm
    |cons _ _ _=>
     rw[VO]at hz;cases hz
   rw[hv]at hR
   wp_walk
   exact⟨_,rfl,by simpa[Builtin.Tuple.tupleCompareSizes]using hR⟩
  case h=>
   exact⟨rfl,rfl,items.toList,dA.toList,ds,es,rfl,hlex,by omega,h⟩
end
theorem tm{A:Around}{s:Shared}{l b:Addr}{items dA:Array Value}{ds es:List D}(hl:IsTup s.heap l items)(hb:IsTup s.heap b dA)(hx:LexOk A.in1 s items.toList dA.toList ds es)(hu:A.units<cLine) :
  vT A s (.ref l) (.ref b) (bS ds es):=by
 intro prog w E Q h;obtain⟨⟨cls,dd,data,sl⟩,ho,hc,n,hd⟩:=id hl;obtain⟨⟨cls2,dd2,data2,sl2⟩,ho2,hc2,n2,hd2⟩:=id hb;simp only at hc hd hc2 hd2;subst hc hd hc2 hd2;exact richCompare_meets_room (op:=.Lt) ⟨_,ho,rfl⟩ ⟨_,ho2,rfl⟩ PySem.F.slot_tuple_lt PySem.F.entry_tuple_lt (PySem.F.args_tuple_lt_2 _ _) (nC l b items dA n n2 dd dd2 sl sl2 ds es)
  ⟨hx,ho,ho2,show Value.bool (bS ds es)≠Value.notImplemented/\Q (.bool (bS ds es)) s from⟨(fun x=>nomatch x),h⟩⟩ hu
section
variable{X:Cx}{pz:Kp}{σ:St}{H:Hp}{s:Shared}
def gA:D->Bool
 |.tup _=>true
 |_=>false
theorem Rep.ltS(A:Around){x y:V}{d e:D}{u w:Value}(h1:Rep X.K H x d)(h2:Rep X.K H y e)(c:aA d e=true)(hd:gA d=false)(r1:RelV x u)(r2:RelV y w):vT A s u w (ltD d e):=by
 cases d with
 |int i=>
  cases e with
  |int j=>
   cases h1;cases h2;obtain⟨t,rfl⟩:=(show ∃t,u=Value.int _ t from r1)
   obtain⟨t',rfl⟩:=(show ∃t,w=Value.int _ t from r2)
   intro prog w' E Q h;exact HT.rcLt_int A s _ _ _ _ prog w' E Q (by rw[ltD]at h;exact h)
  |_=>exact absurd c Yj
 |bl b1=>
  cases e with
  |bl b2=>
   cases h1;cases h2;cases(show u=Value.bool _ from r1);cases(show w=Value.bool _ from r2);intro prog w' E Q h;exact(PyProof.Rows.lt_bool (by cases b1<;>cases b2<;>(rw[ltD]at h;exact h)):wpAny (model prog w') A (compareOp .Lt (.bool b1) (.bool b2)) Q E s)
  |_=>exact absurd c Yj
 |str x1=>
  cases e with
  |str x2=>
   cases h1;cases h2;obtain⟨t,rfl⟩:=(show ∃t,u=Value.str _ t from r1)
   obtain⟨t',rfl⟩:=(show ∃t,w=Value.str _ t from r2)
   intro prog w' E Q h;exact(PyProof.Rows.lt_str (by rw[ltD]at h;exact h):wpAny (model prog w') A (compareOp .Lt (.str x1 t) (.str x2 t')) Q E s)
  |_=>exact absurd c Yj
 |tup xs=>cases hd
 |_=>exact absurd c Yj
theorem Reps.lex(I:Inv X pz σ H s)(n:Nat)(A:Around)(hu:A.units+n+2<cLine)
  (ih:∀{x y:V}{d e:D}{u w:Value},Rep X.K H x d->Rep X.K H y e->okN n d=true->okN n e=true->aA d e=true->RelV x u->RelV y w->vT A s u w (ltD d e)) :
  ∀{xs ys:List V}{ds es:List D}{us ws:List Value},Reps X.K H xs ds->Reps X.K H ys es->(∀d∈ds,okN n d=true)->(∀d∈es,okN n d=true)->bi ds es=true->Vals xs us->Vals ys ws->LexOk A s us ws ds es:=by
 intro xs ys ds;induction ds generalizing xs ys with
 |nil=>
  intro es us ws q1 q2 _ _ _ r1 r2;cases q1;cases r1;exact .nl (by rw[<-r2.length,q2.length])
 |cons d ds ihd=>
  intro es us ws q1 q2 o1 o2 c r1 r2;cases es with
  |nil=>
   cases q2;cases r2;exact .nr (by rw[<-r1.length,q1.length])
  |cons e es=>
   cases q1 with
   |cons h q=>
    cases q2 with
    |cons h' q'=>
     cases r1 with
     |cons r t=>
      cases r2 with
      |cons r' t'=>
       rw[bi,Yo]at c;have a1:=o1 _ Ye;have a2:=o2 _ Ye;obtain⟨x1,p1⟩:=h.reads I n a1 r;obtain⟨x2,p2⟩:=h'.reads I n a2 r';obtain⟨l1,m1⟩:=ck n _ a1;obtain⟨l2,m2⟩:=ck n _ a2;refine .cons (XZ _ _ A s _ _ _ _ p1 p2 l1 l2 ?_) (fun _=>ih h h' a1 a2 c.1 r r') (ihd q q' (fun d hd=>o1 d (Yc _ hd)) (fun d hd=>o2 d (Yc _ hd)) c.2 t t');have:min (bM d).depth (bM e).depth<=n+1:=YC (VF _ _) m1;omega
theorem Rep.lt(I:Inv X pz σ H s):∀(n:Nat) (A:Around),A.units+n+2<cLine->∀{x y:V}{d e:D}{u w:Value},Rep X.K H x d->Rep X.K H y e->okN n d=true->okN n e=true->aA d e=true->RelV x u->RelV y w->vT A s u w (ltD d e):=by
 intro n;induction n with
 |zero=>
  intro A hu x y d e u w h1 h2 o1 o2 c r1 r2;refine h1.ltS A h2 c ?_ r1 r2;cases d<;>first|rfl|(simp[okN]at o1)
 |succ n ihn=>
  intro A hu x y d e u w h1 h2 o1 o2 c r1 r2;cases hd:gA d with
  |false=>exact h1.ltS A h2 c hd r1 r2
  |true=>
   cases d with
   |tup ds=>
    cases e with
    |tup es=>
     cases h1 with
     |tup h1 q1=>
      cases h2 with
      |tup h2 q2=>
       cases(show u=Value.ref _ from r1);cases(show w=Value.ref _ from r2);obtain⟨its1,rv1,ht1,_⟩:=I.tuple (SqT.of h1);obtain⟨its2,rv2,ht2,_⟩:=I.tuple (SqT.of h2);rw[ltD];have hu':A.in1.units+n+2<cLine:=by show A.units+1+n+2<cLine;omega
       exact tm ht1 ht2 (Reps.lex I n A.in1 hu' (ihn A.in1 hu') q1 q2 (bL o1) (bL o2) (by rw[aA]at c;exact c) rv1 rv2) (by omega)
    |_=>exact absurd c Yj
   |_=>cases hd
end
def ltd(x y:D):Option D:=if(okN 30 x&&okN 30 y&&aA x y)=true then some (.bl (ltD x y))else none
def DY(K:Kq):R2:=fun x y H Q=>∃dx dy,Rep K H x dx/\Rep K H y dy/\okN 30 dx=true/\okN 30 dy=true/\aA dx dy=true/\Q (.bl (ltD dx dy)) H
section
variable{X:Cx}{a b:Expr}{pos:Pos}
theorem BE(hu:X.A.units+64<cLine):OpR X (compareOp .Lt) (DY X.K):=by intro pz s σ H x y v u Q I rx ry h;obtain⟨dx,dy,h1,h2,o1,o2,c,q⟩:=h;exact Rep.lt I 30 X.A (by omega) h1 h2 o1 o2 c rx ry X.prog X.w X.xe _ ⟨.bl _,H,I,rfl,q⟩
theorem Bl{K:Kq}:OpN2 K (DY K) ltd:=by
 intro P F H x y dx dy d Q hf hp rx ry k;unfold ltd at hf;split at hf
 ·rename_i h;rw[Yo,Yo]at h;cases hf;exact⟨dx,dy,rx,ry,h.1.1,h.1.2,h.2,k _ F H (Evo.refl hp) .bl⟩
 ·cases hf
theorem kb{fa fb:Dd}(hu:X.A.units+64<cLine)(ha:PDN X a fa)(hb:PDN X b fb):PDT X (.Compare a [.Lt] [b] pos) (asB (d2 ltd fa fb)):=iW (BE hu) Bl ha hb (gM _)
end
end L2
namespace L2
open PySem PySem.Spec PyProof.Rows PySem.W
def kok{α:Type}(n:Nat)(lt:Nat->Nat->Bool):KasT α->(α->Prop)->Prop
 |.ret a,Q=>Q a
 |.ask i j k,Q=>i<n/\j<n/\kok n lt (k (lt i j)) Q
theorem fq{α β:Type}{n:Nat}{lt:Nat->Nat->Bool}{f:α->KasT β}{Q:β->Prop}(t:KasT α):kok n lt t (fun a=>kok n lt (f a) Q)->kok n lt (t.bind f) Q:=by
 induction t with
 |ret a=>exact fun h=>h
 |ask i j k ih=>exact fun h=>⟨h.1,h.2.1,ih _ h.2.2⟩
theorem cL{α:Type}{n:Nat}{lt:Nat->Nat->Bool}{Q Q':α->Prop}(hq:∀a,Q a->Q' a)(t:KasT α):kok n lt t Q->kok n lt t Q':=by
 induction t with
 |ret a=>exact hq a
 |ask i j k ih=>exact fun h=>⟨h.1,h.2.1,ih _ h.2.2⟩
theorem Ba{α:Type}{n:Nat}{lt:Nat->Nat->Bool}{cmp:Nat->Nat->(Bool->Shared->Prop)->Shared->Prop}{s:Shared}{Q:α->Prop}{G:α->Shared->Prop}(hc:∀i j C,i<n->j<n->C (lt i j) s->cmp i j C s)(hG:∀a,Q a->G a s)(t:KasT α):kok n lt t Q->t.kasWp cmp G s:=by
 induction t with
 |ret a=>exact hG a
 |ask i j k ih=>exact fun h=>hc i j _ h.1 h.2.1 (ih _ h.2.2)
structure Ord (lt:Nat->Nat->Bool):Prop where
 asym:∀i j,lt i j=true->lt j i=false
 trans:∀i j k,lt j i=false->lt k j=false->lt k i=false
section
variable{n:Nat}{lt:Nat->Nat->Bool}
structure PermN (n:Nat) (p:Array Nat):Prop where
 size:p.size=n
 perm:p.toList.Perm (List.range n)
theorem PermN.bd{p:Array Nat}(h:PermN n p){i:Nat}(hi:i<n):p.getD i 0<n:=by
 have hs:i<p.size:=by rw[h.size];exact hi
 have e:p.getD i 0=p[i]:=by simp[Array.getD,hs]
 rw[e];have hm:p[i]∈p.toList:=by simp
 exact YI.mp (h.perm.mem_iff.mp hm)
theorem PermN.rev{p:Array Nat}(h:PermN n p)(i j:Nat):PermN n (kas_rev p i j):=
 ⟨by unfold kas_rev;rw[mirror_size,h.size],((Array.perm_iff_toList_perm.mp (mirror_perm _ _ _ _)).trans h.perm)⟩
theorem PermN.bub{p:Array Nat}(h:PermN n p)(i j:Nat):PermN n (bubble p i j):=
 ⟨by rw[bubble_size,h.size],((Array.perm_iff_toList_perm.mp (bubble_perm _ _ _)).trans h.perm)⟩
theorem gm{p q:Array Nat}{i j:Nat}(h:p[i]?=q[j]?):p.getD i 0=q.getD j 0:=by simp only[Zb,h]
theorem dM{p:Array Nat}(h:PermN n p){i j:Nat}(hj:j<=n)(k:Nat):(kas_rev p i j).getD k 0=if i<=k/\k<j then p.getD (i+j-1-k) 0 else p.getD k 0:=by
 have e:=getElem?_mirror_all (xs:=p) (i:=i) (j:=j) (by rw[h.size];exact hj) k;unfold kas_rev;split
 ·rename_i q;rw[if_pos q]at e;exact gm e
 ·rename_i q;rw[if_neg q]at e;exact gm e
def Ris(lt:Nat->Nat->Bool)(p:Array Nat)(b:Nat):Prop:=∀i j,i<=j->j<b->lt (p.getD j 0) (p.getD i 0)=false
def Fal(lt:Nat->Nat->Bool)(p:Array Nat)(b:Nat):Prop:=∀i j,i<=j->j<b->lt (p.getD i 0) (p.getD j 0)=false
def Eqs(lt:Nat->Nat->Bool)(p:Array Nat)(a b:Nat):Prop:=∀i j,a<=i->i<b->a<=j->j<b->lt (p.getD i 0) (p.getD j 0)=false
theorem Ord.irr(o:Ord lt)(i:Nat):lt i i=false:=by
 cases q:lt i i with
 |false=>rfl
 |true=>have:=o.asym i i q;rw[q]at this;cases this
theorem iO{a b i:Nat}(h:a<=i/\i<b):a<=a+b-1-i/\a+b-1-i<b:=by omega
theorem xz(o:Ord lt){p:Array Nat}(hp:PermN n p):∀(f k:Nat),1<=k->k+f<=n->Ris lt p k->kok n lt (kas_asc p f k) (fun m=>k<=m/\m<=k+f/\Ris lt p m/\(m=k+f\/lt (p.getD m 0) (p.getD (m-1) 0)=true)):=by
 intro f;induction f with
 |zero=>exact fun k _ _ hr=>⟨Yl _,Yl _,hr,.inl rfl⟩
 |succ f ih=>
  intro k h1 hk hr;have kn:k<n:=Yt (XT (Xh f)) hk;have k1:k-1<k:=VW h1 Nat.one_pos;have ek:=Xz k 1 f;unfold kas_asc;refine⟨hp.bd kn,hp.bd (Xg k1 kn),?_⟩;cases c:lt (p.getD k 0) (p.getD (k-1) 0)with
  |true=>
   (try dsimp only);rw[if_pos rfl]
   exact⟨Yl _,Nat.le_add_right _ _,hr,.inr c⟩
  |false=>
   (try dsimp only);rw[if_neg Yj]
   refine cL (fun m h=>⟨Vb h.1,YC h.2.1 (ZT ek),h.2.2.1,h.2.2.2.imp (fun e=>e.trans ek) id⟩) _ (ih (k+1) (Zv 1 k) (YC (ZT ek) hk) fun i j hij hj=>?_);by_cases hjk:j<k
   ·exact hr i j hij hjk
   ·have:j=k:=Zh (Zj hj) (ZY hjk);subst this;by_cases hik:i=j
    ·subst hik;exact o.irr _
    ·exact o.trans _ _ _ (hr i (j-1) (Xk (ZG hij hik)) k1) c
theorem sF{p:Array Nat}(hp:PermN n p){a b:Nat}(hb:b<=n)(he:Eqs lt p a b)(o:Ord lt)(hf:Fal lt p b):Fal lt (kas_rev p a b) b:=by
 intro i j hij hj;rw[dM hp hb,dM hp hb];by_cases hi:a<=i/\i<b
 ·rw[if_pos hi];have hj':a<=j/\j<b:=⟨YC hi.1 hij,hj⟩
  rw[if_pos hj'];exact he _ _ (iO hi).1 (iO hi).2 (iO hj').1 (iO hj').2
 ·rw[if_neg hi];have hia:i<a:=Nat.lt_of_not_le fun z=>hi ⟨z,ZH hij hj⟩
  by_cases hj':a<=j/\j<b
  ·rw[if_pos hj'];exact hf _ _ (YC (ZL hia) (iO hj').1) (iO hj').2
  ·rw[if_neg hj'];exact hf i j hij hj
theorem j_(o:Ord lt){p':Array Nat}{k:Nat}(h1:1<=k)(hf':Fal lt p' k)(hc:lt (p'.getD (k-1) 0) (p'.getD k 0)=false):Fal lt p' (k+1):=by
 intro i j hij hj;by_cases hjk:j<k
 ·exact hf' i j hij hjk
 ·have:j=k:=Zh (Zj hj) (ZY hjk);subst this;by_cases hik:i=j
  ·subst hik;exact o.irr _
  ·exact o.trans _ _ _ hc (hf' i (j-1) (Xk (ZG hij hik)) (VW h1 Nat.one_pos))
theorem mW(o:Ord lt)(p':Array Nat)(k:Nat):Eqs lt p' (k+1-(0+1)) (k+1):=by intro i j a1 a2 a3 a4;have e1:i=k:=Zh (Zj a2) a1;have e2:j=k:=Zh (Zj a4) a3;subst e1;subst e2;exact o.irr _
theorem vz(o:Ord lt){p:Array Nat}{k q:Nat}(hb:k-(q+1)<=k-1/\k-1<k)(he:Eqs lt p (k-(q+1)) k)(c:lt (p.getD k 0) (p.getD (k-1) 0)=false)(d:lt (p.getD (k-1) 0) (p.getD k 0)=false):Eqs lt p (k+1-(q+1+1)) (k+1):=by
 have e1:∀i,k+1-(q+1+1)<=i->i<k+1->lt (p.getD i 0) (p.getD k 0)=false/\lt (p.getD k 0) (p.getD i 0)=false:=fun i b1 b2=>by
  rw[Nat.add_sub_add_right]at b1;by_cases hik:i=k
  ·subst hik;exact⟨o.irr _,o.irr _⟩
  ·have il:i<k:=ZG (Zj b2) hik;exact⟨o.trans _ _ _ d (he i (k-1) b1 il hb.1 hb.2),o.trans _ _ _ (he (k-1) i hb.1 hb.2 b1 il) c⟩
 exact fun i j a1 a2 a3 a4=>o.trans _ _ _ (e1 j a3 a4).2 (e1 i a1 a2).1
theorem za(o:Ord lt):∀(f:Nat) (p:Array Nat) (k q:Nat),PermN n p->1<=k->k+f<=n->q+1<=k->Fal lt p k->Eqs lt p (k-(q+1)) k->
  kok n lt (kas_desc f p k q) (fun r=>PermN n r.1/\k<=r.2.1/\r.2.1<=n/\r.2.2+1<=r.2.1/\Fal lt r.1 r.2.1/\Eqs lt r.1 (r.2.1-(r.2.2+1)) r.2.1):=by
 intro f;induction f with
 |zero=>exact fun p k q hp h1 hk hq hf he=>⟨hp,Yl _,hk,hq,hf,he⟩
 |succ f ih=>
  intro p k q hp h1 hk hq hf he;have kn:k<n:=Yt (XT (Xh f)) hk;have k1:k-1<k:=VW h1 Nat.one_pos;have hk':k+1+f<=n:=YC (ZT (Xz k 1 f)) hk;have hb:k-(q+1)<=k-1/\k-1<k:=⟨Nat.sub_le_sub_left (Nat.succ_le_succ (YF q)) k,k1⟩
  unfold kas_desc;refine⟨hp.bd kn,hp.bd (Xg k1 kn),?_⟩;cases c:lt (p.getD k 0) (p.getD (k-1) 0)with
  |true=>
   (try dsimp only);rw[if_pos rfl]
   have hc:lt (p.getD (k-1) 0) (p.getD k 0)=false:=o.asym _ _ c;by_cases hq0:q > 0
   ·rw[if_pos hq0];have hf':=sF hp (ZL kn) he o hf;have hc':lt ((kas_rev p (k-(q+1)) k).getD (k-1) 0) ((kas_rev p (k-(q+1)) k).getD k 0)=false:=by rw[dM hp (ZL kn),dM hp (ZL kn),if_pos hb,if_neg (fun z=>Zd _ z.2)];exact o.trans _ _ _ hc (he _ _ (iO hb).1 (iO hb).2 hb.1 hb.2)
    exact cL (fun r h=>⟨h.1,Vb h.2.1,h.2.2⟩) _ (ih _ (k+1) 0 (hp.rev _ _) (Zv 1 k) hk' (Zv 1 k) (j_ o h1 hf' hc') (mW o _ k))
   ·rw[if_neg hq0];exact cL (fun r h=>⟨h.1,Vb h.2.1,h.2.2⟩) _ (ih _ (k+1) 0 hp (Zv 1 k) hk' (Zv 1 k) (j_ o h1 hf hc) (mW o _ k))
  |false=>
   (try dsimp only);rw[if_neg Yj]
   refine⟨hp.bd (Xg k1 kn),hp.bd kn,?_⟩;cases d:lt (p.getD (k-1) 0) (p.getD k 0)with
   |true=>
    (try dsimp only);rw[if_pos rfl]
    exact⟨hp,Yl _,ZL kn,hq,hf,he⟩
   |false=>
    (try dsimp only);rw[if_neg Yj]
    exact cL (fun r h=>⟨h.1,Vb h.2.1,h.2.2⟩) _ (ih p (k+1) (q+1) hp (Zv 1 k) hk' (Nat.succ_le_succ hq) (j_ o h1 hf d) (vz o hb he c d))
theorem yt{p:Array Nat}(hp:PermN n p){b:Nat}(hb:b<=n)(hf:Fal lt p b):Ris lt (kas_rev p 0 b) b:=by
 intro i j hij hj;have hi:0<=i/\i<b:=⟨YF _,ZH hij hj⟩
 rw[dM hp hb,dM hp hb,if_pos ⟨YF _,hj⟩,if_pos hi];exact hf _ _ (Nat.sub_le_sub_left hij _) (iO hi).2
theorem nI(o:Ord lt){p:Array Nat}(hp:PermN n p){k:Nat}(h1:1<=k)(hk:k<=n)(hf:Fal lt p k):kok n lt (kas_tail3 k n p) (fun r=>1<=r.1/\r.1<=n/\PermN n r.2/\Ris lt r.2 r.1):=by unfold kas_tail3;have e:=ZT (XN hk);exact fq _ (cL (fun m h=>⟨YC h1 h.1,YC h.2.1 e,hp.rev _ _,h.2.2.1⟩) _ (xz o (hp.rev 0 k) (n-k) k h1 e (yt hp hk hf)))
theorem iu(o:Ord lt){p:Array Nat}(hp:PermN n p){k:Nat}(h1:1<=k)(hk:k<n)(hf:Fal lt p (k+1)):kok n lt (kas_descPart k n p) (fun r=>1<=r.1/\r.1<=n/\PermN n r.2/\Ris lt r.2 r.1):=by
 unfold kas_descPart;refine fq _ (cL ?_ _ (za o (n-(k+1)) p (k+1) 0 hp (Zv 1 k) (ZT (XN hk)) (Zv 1 k) hf (mW o p k)));intro r h;obtain⟨a1,a2,a3,a4,a5,a6⟩:=h;have h1':=YC (Zv 1 k) a2;by_cases hq:r.2.2 > 0
 ·rw[if_pos hq];exact nI o (a1.rev _ _) h1' a3 (sF a1 a3 a6 o a5)
 ·rw[if_neg hq];exact nI o a1 h1' a3 a5
theorem v6(o:Ord lt){p:Array Nat}(hp:PermN n p)(hn:1<=n):kok n lt (kas_count n p) (fun r=>1<=r.1/\r.1<=n/\PermN n r.2/\Ris lt r.2 r.1):=by
 unfold kas_count;have en:=XN hn;refine fq _ (cL (fun k hh_=>?_) _ (xz o hp (n-1) 1 (Yl _) (ZT en) fun i j hij hj=>by
  have e2:j=0:=Nat.lt_one_iff.mp hj;subst e2;have e1:i=0:=Nat.le_zero.mp hij;subst e1;exact o.irr _))
 obtain⟨a1,a2,a3,a4⟩:=hh_;have a2:k<=n:=YC a2 (ZT en);by_cases hk:(k == n)=true
 ·rw[if_pos hk];exact⟨a1,a2,hp,a3⟩
 ·rw[if_neg hk];have hkn:k≠n:=by simpa using hk
  have kn:k<n:=ZG a2 hkn;have k1:k-1<k:=VW a1 Nat.one_pos;have hlt:lt (p.getD k 0) (p.getD (k-1) 0)=true:=by
   rcases a4 with e|e
   ·exact absurd (e.trans en) hkn
   ·exact e
  have hc:=o.asym _ _ hlt;by_cases h1:k > 1
  ·rw[if_pos h1];refine⟨hp.bd (Yt Nat.one_pos hn),hp.bd (Xg k1 kn),?_⟩;cases c:lt (p.getD 0 0) (p.getD (k-1) 0)with
   |true=>
    (try dsimp only);rw[if_pos rfl]
    exact⟨a1,a2,hp,a3⟩
   |false=>
    (try dsimp only);rw[if_neg Yj]
    have alike:∀i j,i<k->j<k->lt (p.getD i 0) (p.getD j 0)=false:=fun i j hi hj=>
     o.trans _ _ _ (o.trans _ _ _ (a3 j (k-1) (Xk hj) k1) c) (a3 0 i (YF _) hi)
    refine iu o (hp.rev _ _) a1 kn fun i j hij hj=>?_;rw[dM hp a2,dM hp a2];by_cases hjk:j<k
    ·have hi:0<=i/\i<k:=⟨YF _,ZH hij hjk⟩
     rw[if_pos hi,if_pos ⟨YF _,hjk⟩];exact alike _ _ (iO hi).2 (iO ⟨YF _,hjk⟩).2
    ·have ej:j=k:=Zh (Zj hj) (ZY hjk);subst ej;rw[if_neg (fun z:0<=j/\j<j=>Zd _ z.2)];by_cases hij':i<j
     ·rw[if_pos ⟨YF _,hij'⟩];exact o.trans _ _ _ hc (alike _ _ (iO ⟨YF _,hij'⟩).2 k1)
     ·rw[if_neg fun z=>hij' z.2];have:i=j:=Zh hij (ZY hij');subst this;exact o.irr _
  ·rw[if_neg h1];have ek:k=1:=Zh (ZY h1) a1;subst ek;refine iu o hp (Yl _) kn fun i j hij hj=>?_;by_cases hij':i=j
   ·subst hij';exact o.irr _
   ·have lj:i<j:=ZG hij hij';have e2:j=1:=Zh (Zj hj) (ZH (YF i) lj);subst e2;have e1:i=0:=Nat.lt_one_iff.mp lj;subst e1;exact hc
theorem kj(o:Ord lt){p:Array Nat}(hp:PermN n p){k:Nat}(hk:k<n)(hr:Ris lt p k):∀(f l r:Nat),l<=r->r<=k->r-l<=f->(∀i,i<l->lt (p.getD k 0) (p.getD i 0)=false)->(∀i,r<=i->i<k->lt (p.getD k 0) (p.getD i 0)=true)->
  kok n lt (kas_place p k f l r) (fun m=>m<=k/\(∀i,i<m->lt (p.getD k 0) (p.getD i 0)=false)/\∀i,m<=i->i<k->lt (p.getD k 0) (p.getD i 0)=true):=by
 intro f;induction f with
 |zero=>
  intro l r h1 h2 h3 h4 h5;have e:l=r:=Zh h1 (Nat.le_of_sub_eq_zero (Nat.le_zero.mp h3));subst e;exact⟨h2,h4,h5⟩
 |succ f ih=>
  intro l r h1 h2 h3 h4 h5;unfold kas_place;by_cases hlr:l ≥ r
  ·rw[if_pos hlr];have e:l=r:=Zh h1 hlr;subst e;exact⟨h2,h4,h5⟩
  ·rw[if_neg hlr];have mid:l<=(l+r)/2/\(l+r)/2<r/\(l+r)/2-l<=f/\r-((l+r)/2+1)<=f:=by clear h4 h5 hr hp ih h2 hk;omega
   obtain⟨m1,m2,m3,m4⟩:=mid;refine⟨hp.bd hk,hp.bd (Xg (Yt m2 h2) hk),?_⟩;cases c:lt (p.getD k 0) (p.getD ((l+r)/2) 0)with
   |true=>
    (try dsimp only);rw[if_pos rfl]
    refine ih l _ m1 (YC (ZL m2) h2) m3 h4 fun i a1 a2=>?_;cases q:lt (p.getD k 0) (p.getD i 0)with
    |true=>rfl
    |false=>
     have:=o.trans _ _ _ (hr ((l+r)/2) i a1 a2) q;rw[c]at this;cases this
   |false=>
    (try dsimp only);rw[if_neg Yj]
    exact ih _ r m2 h2 m4 (fun i a1=>o.trans _ _ _ (hr i ((l+r)/2) (Zj a1) (Yt m2 h2)) c) h5
theorem sW{p:Array Nat}(hp:PermN n p){k l:Nat}(hk:k<n)(hl:l<=k)(i:Nat):(bubble p k (k-l)).getD i 0=if i=l then p.getD k 0 else if l<i/\i<=k then p.getD (i-1) 0 else p.getD i 0:=by
 have e:=getElem?_bubble (xs:=p) (src:=k) (by rw[hp.size];exact hk) (k-l) (Nat.sub_le _ _) i;rw[Nat.sub_sub_self hl]at e;by_cases h1:i=l
 ·rw[if_pos h1]at e ⊢;exact gm e
 ·rw[if_neg h1]at e ⊢;by_cases h2:l<i/\i<=k
  ·rw[if_pos h2]at e ⊢;exact gm e
  ·rw[if_neg h2]at e ⊢;exact gm e
theorem yD(o:Ord lt){p:Array Nat}(hp:PermN n p){k l:Nat}(kn:k<n)(hr:Ris lt p k)(a1:l<=k)(a2:∀i,i<l->lt (p.getD k 0) (p.getD i 0)=false)(a3:∀i,l<=i->i<k->lt (p.getD k 0) (p.getD i 0)=true):Ris lt (bubble p k (k-l)) (k+1):=by
 intro i j hij hj;have jk:j<=k:=Zj hj;have jl:l<j->j-1<k:=fun z=>Yt (VW (ZH (YF l) z) Nat.one_pos) jk
 rw[sW hp kn a1,sW hp kn a1];by_cases ei:i=l
 ·rw[if_pos ei];by_cases ej:j=l
  ·rw[if_pos ej];exact o.irr _
  ·have lj:l<j:=ZG (ei ▸ hij) (XM ej);rw[if_neg ej,if_pos ⟨lj,jk⟩];exact o.asym _ _ (a3 (j-1) (Xk lj) (jl lj))
 ·rw[if_neg ei];by_cases ej:j=l
  ·have il:i<=l:=ej ▸ hij;rw[if_pos ej,if_neg fun z=>Zd _ (Yt z.1 il)];exact a2 i (ZG il ei)
  ·rw[if_neg ej];by_cases ci:l<i/\i<=k
   ·have lj:=Yt ci.1 hij;rw[if_pos ci,if_pos ⟨lj,jk⟩];exact hr _ _ (Nat.sub_le_sub_right hij 1) (jl lj)
   ·rw[if_neg ci];by_cases cj:l<j/\j<=k
    ·rw[if_pos cj];exact hr _ _ (Xk (ZH (ZY fun z=>ci ⟨z,YC hij jk⟩) cj.1)) (jl cj.1)
    ·rw[if_neg cj];exact hr _ _ hij (Yt (ZG (ZY fun z=>cj ⟨z,jk⟩) ej) a1)
theorem Aw(o:Ord lt):∀(f:Nat) (p:Array Nat) (k:Nat),PermN n p->k+f=n->Ris lt p k->kok n lt (kas_bin f p k) (fun r=>PermN n r/\Ris lt r n):=by
 intro f;induction f with
 |zero=>exact fun p k hp hk hr=>⟨hp,by rw[<-hk];exact hr⟩
 |succ f ih=>
  intro p k hp hk hr;have kn:k<n:=hk ▸ XT (Xh f);unfold kas_bin;refine fq _ (cL (fun l hh_=>?_) _ (kj o hp kn hr k 0 k (YF _) (Yl _) (Yl _) (fun i hi=>absurd hi (VG _)) fun i h1 h2=>absurd h2 (Nat.not_lt_of_le h1)));obtain⟨a1,a2,a3⟩:=hh_;exact ih _ (k+1) (hp.bub _ _) ((Xz k 1 f).trans hk) (yD o hp kn hr a1 a2 a3)
theorem jc(n:Nat):PermN n (List.toArray (List.range n)):=⟨by simp,by simp⟩
theorem pK(o:Ord lt)(hn:1<=n):kok n lt (kas_sort n) (fun r=>PermN n r/\Ris lt r n):=by
 unfold kas_sort;refine fq _ (cL (fun r hh_=>?_) _ (v6 o (jc n) hn));obtain⟨a1,a2,a3,a4⟩:=hh_;by_cases hr:r.1<n
 ·rw[if_pos hr];have e:max r.1 1=r.1:=Nat.max_eq_left a1;rw[e];exact Aw o _ _ _ a3 (XN a2) a4
 ·rw[if_neg hr];have e:r.1=n:=Zh a2 (ZY hr);rw[e]at a4;exact⟨a3,a4⟩
end
section
variable{prog:Program}{w:World}{A:Around}{E:Kv}{s:Shared}
def iq(vs:List Value)(p:Array Nat):Array Value:=(p.toList.map fun i=>vs.getD i Value.none).toArray
theorem tj(vs:List Value)(h:vs.length<2):iq vs (List.toArray (List.range vs.length))=(vs.toArray.zip vs.toArray).map (·.2):=by
 cases vs with
 |nil=>simp[iq]
 |cons v r=>
  cases r with
  |nil=>simp[iq,List.range,List.range.loop]
  |cons _ _=>simp at h;omega
theorem kH{a:Addr}{vs:List Value}{n:Nat}{P:PySem.Fin->Shared->Prop}(ho:s.heap.get? a=some (seqObj "list" vs.toArray n))(h64:vs.length<64)(κ:SortKind)(lt:Nat->Nat->Bool)(o:Ord lt)
  (hk:2<=vs.length->∀h',(∀b u,b≠a->s.heap.get? b=some u->h'.get? b=some u)->∀Q:SortKind->Shared->Prop,Q κ {s with heap:=h' }->wpAny (model prog w) A (keyKind' vs.toArray) Q E {s with heap:=h' })
  (hc:∀h',(∀b u,b≠a->s.heap.get? b=some u->h'.get? b=some u)->∀i j C,i<vs.length->j<vs.length->C (lt i j) {s with heap:=h' }->kas_ask prog w A κ vs i j C {s with heap:=h' })
  (h:∀p,PermN vs.length p->Ris lt p vs.length->P (.done (.ret .none)) {s with heap:=sortedHeap s.heap a vs (iq vs p)}) :
  wpAny (model prog w) A (Builtin.«list.sort» ⟨[.ref a],[]⟩) P E s:=by
 rw[list_sort_plain];have ha:a<s.heap.objs.size:=Yp ho;refine Ya (listItems_at ho rfl ?_);refine Ya (listUpdate_at ho rfl ?_ (by rw[Yx,YR];omega) (YF _));obtain⟨e1,ho1⟩:∃e1,(s.heap.update a (Obj.mapSeq fun _=>(#[]:Array Value))).get? a=some (seqObj "list" #[] e1):=⟨_,get?_update_seq ho (fun _=>#[])⟩
 refine Ya (seqEpoch_at ho1 rfl ?_);refine Ya (wpAny_newTuple ?_ (by show vs.length<=_;rw[YR];omega));refine Ya (Vx ?_ (YF _));refine ZR ?_;have ho6:(((s.heap.update a (Obj.mapSeq fun _=>(#[]:Array Value))).push (seqObj "tuple" vs.toArray 0)).push (seqObj "list" #[] 0)).get? a=some (seqObj "list" #[] e1):=by rw[XD _ _ _ (by rw[size_push',Vs];exact YA (Zi ha)),XD _ _ _ (by rw[Vs];exact YA ha)];exact ho1
 have kept:∀b u,b≠a->s.heap.get? b=some u->(((s.heap.update a (Obj.mapSeq fun _=>(#[]:Array Value))).push (seqObj "tuple" vs.toArray 0)).push (seqObj "list" #[] 0)).get? b=some u:=fun b u hb e=>by
  have hlt:b<s.heap.objs.size:=Yp e;rw[XD _ _ _ (by rw[size_push',Vs];exact YA (Zi hlt)),XD _ _ _ (by rw[Vs];exact YA hlt),YJ _ _ _ _ hb];exact e
 show wpAny (model prog w) A _ P E {s with heap:=((s.heap.update a (Obj.mapSeq fun _=>(#[]:Array Value))).push (seqObj "tuple" vs.toArray 0)).push (seqObj "list" #[] 0)};dsimp only;have hsz:vs.toArray.size=vs.length:=by simp
 by_cases h2:vs.toArray.size<2
 ·rw[if_pos h2,if_pos h2];refine Ya (Yg ?_);rw[StateT.run_pure];refine Ya (Yg ?_);dsimp only;refine Ya (seqEpoch_at ho6 rfl ?_);refine Ya (listUpdate_at ho6 rfl ?_ (YF _) (by rw[Array.size_map];show(pairsOf vs).size<=_;rw[pairsOf_size,YR];omega));simp only[bne_self_eq_false,ZE,Vk];have q:=h (List.toArray (List.range vs.length)) (jc _) (fun i j hij hj=>by
   have e1:i=j:=by omega
   subst e1;exact o.irr _)
  have e:iq vs (List.toArray (List.range vs.length))=(vs.toArray.zip vs.toArray).map (·.2):=by exact tj vs (by omega)
  rw[e]at q;exact Yg q
 ·rw[if_neg h2,if_neg h2];have h2':2<=vs.length:=by omega
  refine Ya (hk h2' _ kept _ ?_);refine Ya (Xl (kat_run (Q:=fun st' s'=>s'={s with heap:=((s.heap.update a (Obj.mapSeq fun _=>(#[]:Array Value))).push (seqObj "tuple" vs.toArray 0)).push (seqObj "list" #[] 0)}/\∃p:Array Nat,PermN vs.length p/\Ris lt p vs.length/\arrOf st'=p.map (kas_item (vs.toArray.zip vs.toArray))/\failedOf st'=none)
   (G:=fun p s'=>s'={s with heap:=((s.heap.update a (Obj.mapSeq fun _=>(#[]:Array Value))).push (seqObj "tuple" vs.toArray 0)).push (seqObj "list" #[] 0)}/\PermN vs.length p/\Ris lt p vs.length)
   rfl h2' h64 (fun p st' s' a1 a2 a3 ⟨b1,b2,b3⟩=>⟨b1,p,b2,b3,a2,a3⟩) (Ba (hc _ kept) (fun p ⟨b2,b3⟩=>⟨rfl,b2,b3⟩) _ (pK o (by omega)))) ?_ fun _ _ e=>e)
  rintro⟨⟨⟩,st'⟩ s' ⟨rfl,p,hp,hr,har,hf⟩;dsimp only;have hout:=kat_snds rfl har;rw[hout];refine Ya (seqEpoch_at ho6 rfl ?_);refine Ya (listUpdate_at ho6 rfl ?_ (YF _) (by rw[Yx,Yd,Yz,hp.size,YR];omega));rw[hf];simp only[bne_self_eq_false,ZE,Vk];exact Yg (h p hp hr)
end
theorem yE{x y:Str}(h:x.cps.toList=y.cps.toList):x=y:=by
 cases x;cases y
 congr
 exact Array.toList_inj.mp h
mutual
theorem cu:∀x y:D,aA x y=true->(eqd x y=true↔x=y)
 |.int i,.int j,_=>by simp[eqd,bM,PyData.eqv]
 |.bl a,.bl b,_=>by simp[eqd,bM,PyData.eqv]
 |.str a,.str b,_=>by simp[eqd,bM,PyData.eqv]
 |.tup xs,.tup ys,h=>by
  have:=gl xs ys (by simpa[aA]using h);simp only[eqd,bM,PyData.eqv,D.tup.injEq];exact this
 |.non,y,h=>by cases y<;>simp[aA]at h
 |.lst _,y,h=>by cases y<;>simp[aA]at h
 |.dT _,y,h=>by cases y<;>simp[aA]at h
 |.dK _,y,h=>by cases y<;>simp[aA]at h
 |.ins _ _,y,h=>by cases y<;>simp[aA]at h
 |.int _,.non,h=>by simp[aA]at h
 |.int _,.bl _,h=>by simp[aA]at h
 |.int _,.str _,h=>by simp[aA]at h
 |.int _,.tup _,h=>by simp[aA]at h
 |.int _,.lst _,h=>by simp[aA]at h
 |.int _,.dT _,h=>by simp[aA]at h
 |.int _,.dK _,h=>by simp[aA]at h
 |.int _,.ins _ _,h=>by simp[aA]at h
 |.bl _,.non,h=>by simp[aA]at h
 |.bl _,.int _,h=>by simp[aA]at h
 |.bl _,.str _,h=>by simp[aA]at h
 |.bl _,.tup _,h=>by simp[aA]at h
 |.bl _,.lst _,h=>by simp[aA]at h
 |.bl _,.dT _,h=>by simp[aA]at h
 |.bl _,.dK _,h=>by simp[aA]at h
 |.bl _,.ins _ _,h=>by simp[aA]at h
 |.str _,.non,h=>by simp[aA]at h
 |.str _,.bl _,h=>by simp[aA]at h
 |.str _,.int _,h=>by simp[aA]at h
 |.str _,.tup _,h=>by simp[aA]at h
 |.str _,.lst _,h=>by simp[aA]at h
 |.str _,.dT _,h=>by simp[aA]at h
 |.str _,.dK _,h=>by simp[aA]at h
 |.str _,.ins _ _,h=>by simp[aA]at h
 |.tup _,.non,h=>by simp[aA]at h
 |.tup _,.bl _,h=>by simp[aA]at h
 |.tup _,.int _,h=>by simp[aA]at h
 |.tup _,.str _,h=>by simp[aA]at h
 |.tup _,.lst _,h=>by simp[aA]at h
 |.tup _,.dT _,h=>by simp[aA]at h
 |.tup _,.dK _,h=>by simp[aA]at h
 |.tup _,.ins _ _,h=>by simp[aA]at h
theorem gl:∀xs ys:List D,bi xs ys=true->(PyData.eqvAll (bN xs) (bN ys)=true↔xs=ys)
 |[],[],_=>by simp[bN,PyData.eqvAll]
 |[],_::_,_=>by simp[bN,PyData.eqvAll]
 |_::_,[],_=>by simp[bN,PyData.eqvAll]
 |x::xs,y::ys,h=>by
  rw[bi,Yo]at h;have h1:=cu x y h.1;have h2:=gl xs ys h.2;simp only[bN,PyData.eqvAll,Yo,List.cons.injEq];rw[h2];unfold eqd at h1;rw[h1]
end
structure Fc2 {α:Type} (l:α->α->Bool) (x y:α):Prop where
 as:l x y=true->l y x=false
 an:l x y=false->l y x=false->x=y
def Fc3{α:Type}(l:α->α->Bool)(x y z:α):Prop:=l x y=true->l y z=true->l x z=true
theorem bq{x y:D}(h:aA x y=true):(∃i j,x=.int i/\y=.int j)\/(∃i j,x=.bl i/\y=.bl j)\/(∃i j,x=.str i/\y=.str j)\/∃i j,x=.tup i/\y=.tup j/\bi i j=true:=by
 cases x with
 |int i=>
  refine .inl ?_;cases y with
  |int j=>exact⟨_,_,rfl,rfl⟩
  |_=>exact absurd h Yj
 |bl i=>
  refine .inr (.inl ?_);cases y with
  |bl j=>exact⟨_,_,rfl,rfl⟩
  |_=>exact absurd h Yj
 |str i=>
  refine .inr (.inr (.inl ?_));cases y with
  |str j=>exact⟨_,_,rfl,rfl⟩
  |_=>exact absurd h Yj
 |tup i=>
  refine .inr (.inr (.inr ?_));cases y with
  |tup j=>exact⟨_,_,rfl,rfl,h⟩
  |_=>exact absurd h Yj
 |_=>exact absurd h Yj
theorem ui{a b:List Nat}(h:a<b):¬b<a:=fun h'=>List.lt_irrefl a (List.lt_trans h h')
theorem gK{x y:D}(h1:aA x y=true)(ht:gA x=false):Fc2 ltD x y:=by
 rcases bq h1 with⟨i,j,rfl,rfl⟩|⟨i,j,rfl,rfl⟩|⟨i,j,rfl,rfl⟩|⟨i,j,rfl,rfl,_⟩
 ·refine⟨fun h=>?_,fun h h'=>?_⟩
  ·simp only[ltD,YE,Xa]at h ⊢;omega
  ·simp only[ltD,Xa]at h h';rw[show i=j by omega]
 ·refine⟨fun h=>?_,fun h h'=>?_⟩
  ·cases i<;>cases j<;>simp_all [ltD]
  ·cases i<;>cases j<;>simp_all [ltD]
 ·refine⟨fun h=>?_,fun h h'=>?_⟩
  ·simp only[ltD,YE,Xa]at h ⊢;exact ui h
  ·simp only[ltD,Xa]at h h';rw[yE (List.le_antisymm h' h)]
 ·cases ht
theorem gp{x y z:D}(h1:aA x y=true)(h2:aA y z=true)(ht:gA x=false):Fc3 ltD x y z:=by
 rcases bq h1 with⟨i,j,rfl,rfl⟩|⟨i,j,rfl,rfl⟩|⟨i,j,rfl,rfl⟩|⟨i,j,rfl,rfl,_⟩
 ·rcases bq h2 with⟨j',k,e,rfl⟩|⟨j',k,e,rfl⟩|⟨j',k,e,rfl⟩|⟨j',k,e,rfl,_⟩<;>cases e;intro h h';simp only[ltD,YE]at h h' ⊢;omega
 ·rcases bq h2 with⟨j',k,e,rfl⟩|⟨j',k,e,rfl⟩|⟨j',k,e,rfl⟩|⟨j',k,e,rfl,_⟩<;>cases e;intro h h';cases i<;>cases j<;>cases k<;>simp_all [ltD]
 ·rcases bq h2 with⟨j',k,e,rfl⟩|⟨j',k,e,rfl⟩|⟨j',k,e,rfl⟩|⟨j',k,e,rfl,_⟩<;>cases e;intro h h';simp only[ltD,YE]at h h' ⊢;exact List.lt_trans h h'
 ·cases ht
theorem uw(n:Nat):∀x y:D,okN n x=true->aA x y=true->aA y x=true:=by
 induction n with
 |zero=>
  intro x y o h;rcases bq h with⟨i,j,rfl,rfl⟩|⟨i,j,rfl,rfl⟩|⟨i,j,rfl,rfl⟩|⟨i,j,rfl,rfl,_⟩
  ·rfl
  ·rfl
  ·rfl
  ·simp[okN]at o
 |succ n ih=>
  intro x y o h;rcases bq h with⟨i,j,rfl,rfl⟩|⟨i,j,rfl,rfl⟩|⟨i,j,rfl,rfl⟩|⟨i,j,rfl,rfl,hc⟩
  ·rfl
  ·rfl
  ·rfl
  ·have key:∀(xs ys:List D),(∀d∈xs,okN n d=true)->bi xs ys=true->bi ys xs=true:=by
    intro xs;induction xs with
    |nil=>intro ys _ _;cases ys<;>simp[bi]
    |cons x xs ihx=>
     intro ys ho hc;cases ys with
     |nil=>simp[bi]
     |cons y ys=>
      rw[bi,Yo]at hc ⊢;exact⟨ih x y (ho x Ye) hc.1,ihx ys (fun d hd=>ho d (Yc _ hd)) hc.2⟩
   rw[aA];exact key i j (bL o) hc
theorem zx{n:Nat}(ih:∀x y:D,okN n x=true->okN n y=true->aA x y=true->Fc2 ltD x y) :
  ∀(xs ys:List D),(∀d∈xs,okN n d=true)->(∀d∈ys,okN n d=true)->bi xs ys=true->Fc2 bS xs ys:=by
 intro xs;induction xs with
 |nil=>
  intro ys _ _ _;refine⟨fun h=>?_,fun h h'=>?_⟩
  ·cases ys<;>simp_all [bS]
  ·cases ys<;>simp_all [bS]
 |cons x xs ihx=>
  intro ys ox oy c1;cases ys with
  |nil=>
   refine⟨fun h=>?_,fun h h'=>?_⟩
   ·simp[bS]at h
   ·simp[bS]at h'
  |cons y ys=>
   rw[bi,Yo]at c1;have px:=ox x Ye;have py:=oy y Ye;have exy:=cu x y c1.1;have eyx:=cu y x (uw n x y px c1.1);have G:=ihx ys (fun d hd=>ox d (Yc _ hd)) (fun d hd=>oy d (Yc _ hd)) c1.2;refine⟨fun h=>?_,fun h h'=>?_⟩
   ·rw[bS]at h ⊢;by_cases hxy:x=y
    ·rw[if_pos (exy.mpr hxy)]at h;rw[if_pos (eyx.mpr hxy.symm)];exact G.as h
    ·rw[if_neg (fun q=>hxy (exy.mp q))]at h;rw[if_neg (fun q=>hxy (eyx.mp q).symm)];exact(ih x y px py c1.1).as h
   ·rw[bS]at h h';by_cases hxy:x=y
    ·rw[if_pos (exy.mpr hxy)]at h;rw[if_pos (eyx.mpr hxy.symm)]at h';rw[hxy,G.an h h']
    ·rw[if_neg (fun q=>hxy (exy.mp q))]at h;rw[if_neg (fun q=>hxy (eyx.mp q).symm)]at h';exact absurd ((ih x y px py c1.1).an h h') hxy
theorem eG(n:Nat):∀x y:D,okN n x=true->okN n y=true->aA x y=true->Fc2 ltD x y:=by
 induction n with
 |zero=>
  intro x y ox oy c1;refine gK c1 ?_;cases x<;>first|rfl|(simp[okN]at ox)
 |succ n ih=>
  intro x y ox oy c1;rcases bq c1 with⟨i,j,rfl,rfl⟩|⟨i,j,rfl,rfl⟩|⟨i,j,rfl,rfl⟩|⟨i,j,rfl,rfl,d1⟩
  ·exact gK c1 rfl
  ·exact gK c1 rfl
  ·exact gK c1 rfl
  ·have F:=zx ih i j (bL ox) (bL oy) d1;refine⟨fun h=>?_,fun h h'=>?_⟩
   ·rw[ltD]at h ⊢;exact F.as h
   ·rw[ltD]at h h';rw[F.an h h']
theorem zm{n:Nat}(ih:∀x y z:D,okN n x=true->okN n y=true->okN n z=true->aA x y=true->aA y z=true->aA x z=true->Fc3 ltD x y z) :
  ∀(xs ys zs:List D),(∀d∈xs,okN n d=true)->(∀d∈ys,okN n d=true)->(∀d∈zs,okN n d=true)->bi xs ys=true->bi ys zs=true->bi xs zs=true->Fc3 bS xs ys zs:=by
 intro xs;induction xs with
 |nil=>
  intro ys zs _ _ _ _ _ _ h h';cases ys<;>cases zs<;>simp_all [bS]
 |cons x xs ihx=>
  intro ys zs ox oy oz c1 c2 c3 h h';cases ys with
  |nil=>simp[bS]at h
  |cons y ys=>
   rw[bi,Yo]at c1;have px:=ox x Ye;have py:=oy y Ye;have exy:=cu x y c1.1;cases zs with
   |nil=>simp[bS]at h'
   |cons z zs=>
    rw[bi,Yo]at c2 c3;have pz:=oz z Ye;have eyz:=cu y z c2.1;have exz:=cu x z c3.1;have F:=ih x y z px py pz c1.1 c2.1 c3.1;rw[bS]at h h' ⊢;by_cases hxy:x=y
    ·rw[if_pos (exy.mpr hxy)]at h;by_cases hyz:y=z
     ·rw[if_pos (eyz.mpr hyz)]at h';rw[if_pos (exz.mpr (hxy.trans hyz))];exact ihx ys zs (fun d hd=>ox d (Yc _ hd)) (fun d hd=>oy d (Yc _ hd)) (fun d hd=>oz d (Yc _ hd)) c1.2 c2.2 c3.2 h h'
     ·rw[if_neg (fun q=>hyz (eyz.mp q))]at h';rw[if_neg (fun q=>hyz (hxy.symm.trans (exz.mp q)))];rw[hxy];exact h'
    ·rw[if_neg (fun q=>hxy (exy.mp q))]at h;by_cases hyz:y=z
     ·rw[if_neg (fun q=>hxy ((exz.mp q).trans hyz.symm))];rw[<-hyz];exact h
     ·rw[if_neg (fun q=>hyz (eyz.mp q))]at h';have hxz:=F h h';by_cases he:x=z
      ·subst he;have:=(eG n x y px py c1.1).as h;rw[h']at this;cases this
      ·rw[if_neg (fun q=>he (exz.mp q))];exact hxz
theorem xD(n:Nat):∀x y z:D,okN n x=true->okN n y=true->okN n z=true->aA x y=true->aA y z=true->aA x z=true->Fc3 ltD x y z:=by
 induction n with
 |zero=>
  intro x y z ox oy oz c1 c2 c3;refine gp c1 c2 ?_;cases x<;>first|rfl|(simp[okN]at ox)
 |succ n ih=>
  intro x y z ox oy oz c1 c2 c3;rcases bq c1 with⟨i,j,rfl,rfl⟩|⟨i,j,rfl,rfl⟩|⟨i,j,rfl,rfl⟩|⟨i,j,rfl,rfl,d1⟩
  ·exact gp c1 c2 rfl
  ·exact gp c1 c2 rfl
  ·exact gp c1 c2 rfl
  ·rcases bq c2 with⟨j',k,e,rfl⟩|⟨j',k,e,rfl⟩|⟨j',k,e,rfl⟩|⟨j',k,e,rfl,d2⟩<;>cases e;have F:=zm ih i j k (bL ox) (bL oy) (bL oz) d1 d2 (by simpa[aA]using c3);intro h h';rw[ltD]at h h' ⊢;exact F h h'
def t7(x:D):List D->List D
 |[]=>[x]
 |y::r=>if ltD x y=true then x::y::r else y::t7 x r
def aP:List D->List D
 |[]=>[]
 |x::r=>t7 x (aP r)
theorem g_(x:D):∀l:List D,(t7 x l).Perm (x::l)
 |[]=>.refl _
 |y::r=>by
  unfold t7;split
  ·exact .refl _
  ·exact((g_ x r).cons y).trans (.swap x y r)
theorem bt:∀l:List D,(aP l).Perm l
 |[]=>.refl _
 |x::r=>(g_ x (aP r)).trans ((bt r).cons x)
def Cmps(n:Nat)(ds:List D):Prop:=(∀d∈ds,okN n d=true)/\∀x∈ds,∀y∈ds,aA x y=true
theorem oV{n:Nat}:∀{as bs:List D},as.Perm bs->Cmps n as->as.Pairwise (fun x y=>ltD y x=false)->bs.Pairwise (fun x y=>ltD y x=false)->as=bs:=by
 intro as;induction as with
 |nil=>intro bs hp _ _ _;exact(List.Perm.nil_eq hp)
 |cons a as ih=>
  intro bs hp hc pa pb;cases bs with
  |nil=>exact absurd hp.symm (List.not_perm_nil_cons _ _)
  |cons b bs=>
   have ma:a∈b::bs:=hp.mem_iff.mp Ye;have mb:b∈a::as:=hp.mem_iff.mpr Ye;have e:a=b:=by
    rcases Yr.mp ma with h|h
    ·exact h
    ·rcases Yr.mp mb with h'|h'
     ·exact h'.symm
     ·have l1:=(Zm.mp pa).1 b h';have l2:=(Zm.mp pb).1 a h;exact(eG n a b (hc.1 a Ye) (hc.1 b mb) (hc.2 a Ye b mb)).an l2 l1
   subst e;rw[ih (List.Perm.cons_inv hp) ⟨fun d hd=>hc.1 d (Yc _ hd),fun x hx y hy=>hc.2 x (Yc _ hx) y (Yc _ hy)⟩ (Zm.mp pa).2 (Zm.mp pb).2]
theorem Cmps.perm{n:Nat}{as bs:List D}(h:Cmps n as)(p:as.Perm bs):Cmps n bs:=⟨fun d hd=>h.1 d (p.mem_iff.mpr hd),fun x hx y hy=>h.2 x (p.mem_iff.mpr hx) y (p.mem_iff.mpr hy)⟩
theorem ly{n:Nat}{x y z:D}(ox:okN n x=true)(oy:okN n y=true)(oz:okN n z=true)(cxy:aA x y=true)(cyz:aA y z=true)(cxz:aA x z=true)(cyx:aA y x=true)(czy:aA z y=true)(czx:aA z x=true)
  (h1:ltD y x=false) (h2:ltD z y=false):ltD z x=false:=by
 cases q:ltD z x with
 |false=>rfl
 |true=>
  -- z<x;x<=y
  by_cases hxy:ltD x y=true
  ·have:=xD n z x y oz ox oy czx cxy czy q hxy;rw[h2]at this;cases this
  ·have e:x=y:=(eG n x y ox oy cxy).an (by simpa using hxy) h1;subst e;rw[h2]at q;cases q
theorem iD{n:Nat}{x:D}:∀{l:List D},Cmps n (x::l)->l.Pairwise (fun a b=>ltD b a=false)->(t7 x l).Pairwise (fun a b=>ltD b a=false)
 |[],_,_=>List.pairwise_singleton _ _
 |y::r,hc,hp=>by
  have mx:x∈x::y::r:=Ye;have my:y∈x::y::r:=Yc _ Ye;obtain⟨h1,h2⟩:=Zm.mp hp;unfold t7;split
  ·rename_i q;refine Zm.mpr ⟨fun z hz=>?_,hp⟩;have hyx:ltD y x=false:=(eG n x y (hc.1 x mx) (hc.1 y my) (hc.2 x mx y my)).as q;rcases Yr.mp hz with rfl|hz
   ·exact hyx
   ·have mz:z∈x::y::r:=Yc _ (Yc _ hz);exact ly (hc.1 x mx) (hc.1 y my) (hc.1 z mz) (hc.2 x mx y my) (hc.2 y my z mz) (hc.2 x mx z mz) (hc.2 y my x mx) (hc.2 z mz y my) (hc.2 z mz x mx) hyx (h1 z hz)
  ·rename_i q;refine Zm.mpr ⟨fun z hz=>?_,iD (x:=x) ⟨fun d hd=>hc.1 d ?_,fun a ha b hb=>hc.2 a ?_ b ?_⟩ h2⟩
   ·rcases Yr.mp ((g_ x r).mem_iff.mp hz)with rfl|hz
    ·simpa using q
    ·exact h1 z hz
   all_goals
    first
     |(
      rcases Yr.mp hd with rfl|hd
      ·exact mx
      ·exact Yc _ (Yc _ hd))
     |(
      rcases Yr.mp ha with rfl|ha
      ·exact mx
      ·exact Yc _ (Yc _ ha))
     |(
      rcases Yr.mp hb with rfl|hb
      ·exact mx
      ·exact Yc _ (Yc _ hb))
theorem Cmps.sub{n:Nat}{as bs:List D}(h:Cmps n bs)(k:∀x∈as,x∈bs):Cmps n as:=⟨fun d hd=>h.1 d (k d hd),fun x hx y hy=>h.2 x (k x hx) y (k y hy)⟩
theorem dj{n:Nat}:∀{l:List D},Cmps n l->(aP l).Pairwise (fun a b=>ltD b a=false)
 |[],_=>.nil
 |x::r,hc=>iD (hc.sub fun y hy=>by
   rcases Yr.mp hy with rfl|hy
   ·exact Ye
   ·exact Yc _ ((bt r).mem_iff.mp hy)) (dj (hc.sub fun y hy=>Yc _ hy))
theorem eE{n:Nat}{as bs:List D}(hp:as.Perm bs)(hc:Cmps n bs)(hs:as.Pairwise (fun x y=>ltD y x=false)):as=aP bs:=
 oV (hp.trans (bt bs).symm) (hc.perm hp.symm) hs (dj hc)
theorem cU{n:Nat}{as bs:List D}(hp:as.Perm bs)(hc:Cmps n bs):aP as=aP bs:=
 eE ((bt as).trans hp) hc (dj (hc.perm hp.symm))
end L2
namespace L2
open PySem PySem.Spec PyProof.Rows
section
variable{X:Cx}{e a b c o:Expr}{es:List Expr}{pos p:Pos}
theorem nV{K:Kq}{H:Hp}{x:V}{i:Int}(r:Rep K H x (.int i)):x=.int i:=by cases r;rfl
theorem jA{K:Kq}{H:Hp}{x:V}{i:Str}(r:Rep K H x (.str i)):x=.str i:=by cases r;rfl
theorem sg{K:Kq}{g:Int->Int->V}{g':Int->Int->D}(hg:∀F i j,Rep K F (g i j) (g' i j)):OpN2 K (rI0 g) (fI0 g'):=by
 intro P F H x y dx dy d Q hf hp rx ry k;unfold fI0 at hf;split at hf
 ·rename_i i j;cases hf;exact⟨i,j,nV rx,nV ry,k _ F H (Evo.refl hp) (hg F i j)⟩
 ·cases hf
theorem OpN2.or{K:Kq}{r r':R2}{f g:Dy}(h:OpN2 K r f)(h':OpN2 K r' g):OpN2 K (fun x y H Q=>r x y H Q\/r' x y H Q) (fun x y=>(f x y).or (g x y)):=by
 intro P F H x y dx dy d Q hf hp rx ry k;dsimp only at hf;cases q:f dx dy with
 |some d'=>rw[q]at hf;have hf:=Yy hf;subst hf;exact .inl (h P F H x y dx dy _ Q q hp rx ry k)
 |none=>rw[q]at hf;exact .inr (h' P F H x y dx dy d Q hf hp rx ry k)
def leS:D->D->Option D
 |.str x,.str y=>some (.bl (!decide (y.cps.toList<x.cps.toList)))
 |_,_=>none
def xX:R2:=fun x y H Q=>∃i j,x=.str i/\y=.str j/\Q (.bl (!decide (j.cps.toList<i.cps.toList))) H
theorem uc:OpR X (compareOp .LtE) xX:=by intro pz s σ H x y v u Q I rx ry h;obtain⟨i,j,rfl,rfl,q⟩:=h;obtain⟨t,rfl⟩:=rx;obtain⟨t',rfl⟩:=ry;exact PySem.P.le_str ⟨.bl _,H,I,rfl,q⟩
theorem BM{K:Kq}:OpN2 K xX leS:=by
 intro P F H x y dx dy d Q hf hp rx ry k;unfold leS at hf;split at hf
 ·cases hf;exact⟨_,_,jA rx,jA ry,k _ F H (Evo.refl hp) .bl⟩
 ·cases hf
def leA(x y:D):Option D:=(leI x y).or (leS x y)
theorem jE:OpR X (compareOp .LtE) (fun x y H Q=>rI0 (fun i j=>.bl (decide (i<=j))) x y H Q\/xX x y H Q):=DA.or uc
theorem jb{K:Kq}:OpN2 K (fun x y H Q=>rI0 (fun i j=>.bl (decide (i<=j))) x y H Q\/xX x y H Q) leA:=(sg fun _ _ _=>.bl).or BM
def chD(f g:Dy)(fa fb fc:Dd):DF->Option D:=fun ρ=>(fa ρ).bind fun x=>(fb ρ).bind fun y=>match f x y with
 |some (.bl true)=>(fc ρ).bind fun z=>g y z
 |some (.bl false)=>some (.bl false)
 |_=>none
theorem iZ{K:Kq}{r r':R2}{f g:Dy}{fa fb fc:Dd}(ho:OpN2 K r f)(ho':OpN2 K r' g):∀σ H Q,tD K (chD f g fa fb fc) σ H Q->qV r r' (tN K fa) (tN K fb) (tN K fc) σ H Q:=fun σ H Q=>un7 fun P F ρ d hf I k=>by
 unfold chD at hf;cases ha:fa ρ with
 |none=>rw[ha]at hf;cases hf
 |some dx=>
 cases hb:fb ρ with
 |none=>rw[ha,Yb,hb]at hf;cases hf
 |some dy=>
 rw[ha,Yb,hb,Yb]at hf;split at hf
 ·rename_i hxy;cases hc:fc ρ with
  |none=>rw[hc]at hf;cases hf
  |some dz=>
   rw[hc,Yb]at hf;refine⟨P,F,ρ,dx,ha,I,fun x F1 H1 e1 rx=>⟨P,F1,ρ,dy,hb,I.evo e1,fun y F2 H2 e2 ry=>?_⟩⟩;refine ho P F2 H2 x y dx dy _ _ hxy e2.hp (rx.same (e2.same e1.hp)) ry fun v F3 H3 e3 rv=>?_;cases rv;refine⟨true,rfl,?_⟩;rw[if_pos rfl];have e123:=(e1.trans e2).trans e3;refine⟨P,F3,ρ,dz,hc,I.evo e123,fun z F4 H4 e4 rz=>?_⟩;exact ho' P F4 H4 y z dy dz d Q hf e4.hp ((ry.same (e3.same e2.hp)).same (e4.same e3.hp)) rz fun v F5 H5 e5 rv=>k v F5 H5 ((e123.trans e4).trans e5) rv
 ·rename_i hxy;cases hf;refine⟨P,F,ρ,dx,ha,I,fun x F1 H1 e1 rx=>⟨P,F1,ρ,dy,hb,I.evo e1,fun y F2 H2 e2 ry=>?_⟩⟩;refine ho P F2 H2 x y dx dy _ _ hxy e2.hp (rx.same (e2.same e1.hp)) ry fun v F3 H3 e3 rv=>?_;cases rv;refine⟨false,rfl,?_⟩;rw[if_neg Yj];exact k _ F3 H3 ((e1.trans e2).trans e3) .bl
 ·cases hf
theorem rJ{fa fb fc:Dd}(ha:PDN X a fa)(hb:PDN X b fb)(hc:PDN X c fc)(hm:lastMarks [CmpOp.LtE,CmpOp.LtE] [b,c]=false:=by with_unfolding_all rfl):PDE X (.Compare a [.LtE,.LtE] [b,c] pos) (chD leA leA fa fb fc):=(nK jE jE ha hb hc hm).imp (iZ jb jb)
theorem mK{fa fb fc:Dd}(ha:PDN X a fa)(hb:PDN X b fb)(hc:PDN X c fc)(hm:lastMarks [CmpOp.LtE,CmpOp.Lt] [b,c]=false:=by with_unfolding_all rfl):PDE X (.Compare a [.LtE,.Lt] [b,c] pos) (chD leA ltI fa fb fc):=(nK jE CZ ha hb hc hm).imp (iZ jb (sg fun _ _ _=>.bl))
theorem zv{fa fb fc:Dd}(ha:PDN X a fa)(hb:PDN X b fb)(hc:PDN X c fc)(hm:lastMarks [CmpOp.LtE,CmpOp.LtE] [b,c]=false:=by with_unfolding_all rfl):PDT X (.Compare a [.LtE,.LtE] [b,c] pos) (asB (chD leA leA fa fb fc)):=(xa jE jE ha hb hc hm).imp (gc (iZ jb jb))
def C5(K:Kq)(r:List V->Hp->VK->Prop)(f:D->Option D):Prop:=
 ∀(P F H:Hp) (x:V) (dx d:D) (Q:VK),f dx=some d->DHp P F H->Rep K H x dx->(∀v F' H',Evo P F H F' H'->Rep K F' v d->Q v H')->r [x] H Q
theorem xv{K:Kq}{r:List V->Hp->VK->Prop}{f:D->Option D}{fa:Dd}(ho:C5 K r f):∀σ H Q,tD K (d1 f fa) σ H Q->tCB r (oW (tN K fa) tE) σ H Q:=fun σ H Q=>un7 fun P F ρ d hf I k=>by
 unfold d1 at hf;cases ha:fa ρ with
 |none=>rw[ha]at hf;cases hf
 |some dx=>
  rw[ha,Yb]at hf;exact⟨P,F,ρ,dx,ha,I,fun x F1 H1 e1 rx=>ho P F1 H1 x dx d Q hf e1.hp rx fun v F2 H2 e2 rv=>k v F2 H2 (e1.trans e2) rv⟩
theorem BA{K:Kq}:C5 K (C9 K) bu:=by
 intro P F H x dx d Q hf hp rx k;unfold bu at hf;split at hf
 ·cases hf;cases rx with|lst h1 h2=>exact .inl ⟨_,_,rfl,.inl h1,by rw[h2.length];exact k _ F H (Evo.refl hp) .int⟩
 ·cases hf;cases rx with|tup h1 h2=>exact .inl ⟨_,_,rfl,.inr (SqT.of h1),by rw[h2.length];exact k _ F H (Evo.refl hp) .int⟩
 ·split at hf
  ·rename_i h;cases hf;exact .inr ⟨_,by rw[jA rx],by rw[YR];exact h,k _ F H (Evo.refl hp) .int⟩
  ·cases hf
 ·cases hf
theorem bO{fa:Dd}(hg:Gl X "len")(hm:X.mg "len"=none)(ha:PDN X e fa)(hs:starEach [e] X.env=[(false,eval e X.env)]:=by rfl)(hpl:(backTo pos (starEach [] X.env)).any (·.1)=false:=by rfl) :
  PDE X (.Call (.Name "len" p) [e] [] pos) (d1 bu fa):=
 (dX (mQ.or mt) hg hm PySem.boot_len (ba ha bK hs) (by decide) (by decide) hs hpl).imp (xv BA)
theorem boot_int:bootBuiltins "int"=some (.type "int"):=by rfl
theorem boot_list:bootBuiltins "list"=some (.type "list"):=by rfl
theorem qm:bootBuiltins "tuple"=some (.type "tuple"):=by rfl
theorem boot_bool:bootBuiltins "bool"=some (.type "bool"):=by rfl
theorem xi:bootBuiltins "set"=some (.type "set"):=by rfl
theorem iN:bootBuiltins "isinstance"=some (.builtin "isinstance"):=by rfl
theorem vY:bootBuiltins "all"=some (.builtin "all"):=by rfl
theorem vM:bootBuiltins "min"=some (.builtin "min"):=by rfl
theorem ip:bootBuiltins "sorted"=some (.builtin "sorted"):=by rfl
def re:D->Option D
 |.lst ds=>some (.tup ds)
 |.tup ds=>some (.tup ds)
 |_=>none
theorem BX{K:Kq}:DN K (fun xs H Q=>∃p ys,xs=[.ref p]/\((SqL K H p ys/\∀l,H l=none->Q (.ref l) (upd H l (.tup ys)))\/(SqT K H p ys/\Q (.ref p) H))) re:=by
 intro P F H ρ σ x dx d Q hf I rx k;unfold re at hf;split at hf
 ·cases hf;obtain⟨p,vs,rfl,h1,h2⟩:=c7 I rx;refine⟨p,vs,rfl,.inl ⟨h1,fun l hl=>?_⟩⟩;exact k _ _ _ (Evo.laid I.toDHp hl) (.tup aX (h2.same (gI (I.toDHp.free hl).1)))
 ·cases hf;rcases rx with rx|⟨_,ob,_,_,_,_,_,hfl,z⟩
  ·cases rx with|tup h1 h2=>exact⟨_,_,rfl,.inr ⟨SqT.of (I.sub _ _ h1),k _ F H (Evo.refl I.toDHp) (.tup h1 h2)⟩⟩
  ·cases ob<;>first|(cases z;done)|cases hfl
 ·cases hf
theorem nZ{fa:Dd}(hg:Gl X "tuple")(hm:X.mg "tuple"=none)(ha:PDR X e fa)(hs:starEach [e] X.env=[(false,eval e X.env)]:=by rfl) :
  PDE X (.Call (.Name "tuple" p) [e] [] pos) (d1 re fa):=
 (dZ kC hg hm qm (ba ha bK hs) (he:=hs)).imp (AS BX)
def g9(f:Dd):DF->Option (List D):=fun ρ=>(f ρ).bind df
theorem jG{fa:Dd}(hg:Gl X "list")(hm:X.mg "list"=none)(ha:PDR X e fa)(hs:starEach [e] X.env=[(false,eval e X.env)]:=by rfl) :
  PDO X (.Call (.Name "list" p) [e] [] pos) (asL (g9 fa)):=
 (dZ mI hg hm boot_list (ba ha bK hs) (he:=hs)).imp fun σ H Q=>un7 fun P F ρ ob hf I k=>by
  unfold asL g9 at hf;cases ha:fa ρ with
  |none=>rw[ha]at hf;cases hf
  |some dx=>
   rw[ha,Yb]at hf;cases hi:df dx with
   |none=>rw[hi]at hf;cases hf
   |some ds=>
    rw[hi]at hf;cases hf;refine⟨P,F,ρ,dx,ha,I,fun x F1 H1 e1 rx=>?_⟩;have I1:=I.evo e1;have fin:∀vs,Reps X.K F1 vs ds->∀l,H1 l=none->Q (.ref l) (upd H1 l (.lst vs)):=fun vs r l hl=>
     k l F1 _ (e1.trans (Evo.side e1.hp hl)) ⟨⟨e1.back I.toDHp hl,(e1.hp.free hl).1⟩,_,aX,r⟩
    cases dx with
    |lst ds'=>
     cases hi;obtain⟨q,vs,rfl,h1,h2⟩:=c7 I1 rx;exact⟨q,vs,rfl,.inl h1,fin vs h2⟩
    |tup ds'=>
     cases hi;obtain⟨q,vs,rfl,h1,h2⟩:=gs I1 rx;exact⟨q,vs,rfl,.inr h1,fin vs h2⟩
    |_=>cases hi
def zD(K:Kq):R2:=fun x y H Q=>∃l b xs zs,x=.ref l/\y=.ref b/\SqL K H l xs/\SqL K H b zs/\xs.length+zs.length<=sizeLine/\∀p,H p=none->Q (.ref p) (upd H p (.lst (xs++zs)))
theorem yQ:OpR X (binaryOp .Add) (zD X.K):=by
 intro pz s σ H x y v u Q I rx ry h;obtain⟨l,b,xs,zs,rfl,rfl,hH,hB,hz,q⟩:=h;cases rx;cases ry;obtain⟨its,r,p1,_⟩:=I.list hH;obtain⟨its2,r2,p2,_⟩:=I.list hB;obtain⟨⟨cls,dd,data,sl⟩,n,ho,hc,hdd,hd⟩:=p1;obtain⟨⟨cls2,dd2,data2,sl2⟩,n2,ho2,hc2,hdd2,hd2⟩:=p2;simp only at hc hd hc2 hd2;subst hc hd hc2 hd2;have e1:=r.length;have e2:=r2.length;refine concat_meets ⟨_,ho,rfl⟩ ⟨_,ho2,rfl⟩ PySem.noFill_list_add PySem.seq_list_add PySem.F.slot_list_add PySem.F.entry_list_add (PySem.F.args_list_add_2 _ _) (list_addW l b its.toArray its2.toArray n n2 dd dd2 sl sl2 (by rw[Yx,Yx];omega)) ⟨ho,ho2,?_⟩;have ea:its.toArray++its2.toArray=(its++its2).toArray:=by simp
 rw[ea];exact⟨.ref _,_,I.lnew (t':=s.toks) (r.append r2) (by rw[Yu];omega),rfl,q _ I.fresh⟩
end
def spM(K:Kq)(f:Dz):Sp:=fun vs H Q _=>∃P F a vs' o xs o' d,vs=.ref a::vs'/\f o xs=some (o',d)/\DHp P F H/\F a=none/\P a=none/\o.flat=true/\(∃u,H a=some u/\ORep1 K F o u)/\DVs K P F H xs vs' /\
 ∀v F' H',Same F F'->DHp P F' H'->F' a=none->(∃u',H' a=some u'/\ORep1 K F' o' u')->o'.flat=true->Rep K F' v d->Q v H'
def lw(a:Addr)(o':OD)(d:D):RES->Prop
 |.nx ρ=>ρ[0]?=some (some (.own o' (some a)))/\d=.non
 |.rt x ρ=>x=.v d/\ρ[0]?=some (some (.own o' (some a)))
 |_=>False
theorem DInv.startM{K:Kq}{P F H:Hp}{xs:List DV}{vs:List V}{a:Addr}{o:OD}(N:List Str)(p:Nat)(h:DHp P F H)(hf:F a=none)(hp:P a=none)(fl:o.flat=true)(ho:∃u,H a=some u/\ORep1 K F o u)(r:DVs K P F H xs vs)(hl:xs.length+1=p) :
  DInv K P F H (aR N.length p (.own o (some a)::xs)) (L2.start N (.ref a::vs)):=by
 refine⟨h,?_,fun b=>if b=a then some 0 else none,fun i x e=>?_⟩
 ·unfold aR L2.start;rw[Yu,Yu,Yd,Yd,YH,YH,Yw,Yw,<-r.length,hl]
 ·have e':=jK e;cases i with
  |zero=>
   cases e';refine⟨.ref a,gW (i:=0) rfl,a,rfl,(ORep.flat fl).mpr ⟨⟨hf,hp,if_pos rfl⟩,ho⟩,fun b z=>by cases z;rfl⟩
  |succ i=>
   obtain⟨hno,v,h1,h2⟩:=r.get (i:=i) (x:=x) e';refine⟨v,gW (i:=i+1) (by simpa using h1),?_⟩;cases x with
   |own o t=>cases hno
   |v d=>exact h2
   |bor o=>exact h2
theorem Fun.okM{P:Program}{w:World}{K:Kq}{mg:Ks}{base:Heap}{x qual:Str}{st:Stmt}{f:Addr}{fd:FuncData}{N ps:List Str}{k:Nat}{g:Dw}{m:Dz}(F:Fun K x qual st f fd)(S:FnScope N ps (defScope st))
  (hm:∀a o xs o' d,m o xs=some (o',d)->xs.length+1=ps.length/\o'.flat=true/\∃r,g (aR N.length ps.length (.own o (some a)::xs))=some r/\lw a o' d r)
  (hbody:∀(cdv:Value) (A:Around) (outer:List Env) (s:Shared) (H:Hp) (E:XK),Room k (A.deeper (envOfC qual (defScope st) s.heap.objs.size f cdv))->
   PDS (nR CX0 P w K mg base N qual (defScope st) f cdv A outer s H E).nox (defBody st) g):FnOk P w K mg base CX0 (k+1) f fd ps (spM K m):=by
 refine F.ok S (fun vs H Q E hh_=>?_) fun cdv A outer s H vs Q E hr h=>?_
 ·obtain⟨P',F',a,vs',o,xs,o',d,e,h1,_,_,_,_,_,hv,_⟩:=hh_;rw[e,Yw,<-hv.length];exact(hm 0 o xs o' d h1).1
 ·refine⟨_,hbody cdv A outer s H E hr,?_⟩;obtain⟨P',F',a,vs',o,xs,o',d,rfl,h1,hp,hf,hP,fl,ho,hv,hQ⟩:=h;obtain⟨hl,fl',r,hg,he⟩:=hm a o xs o' d h1;have I:=DInv.startM N ps.length hp hf hP fl ho hv hl;refine⟨P',F',_,r,hg,I,?_⟩;have fin:∀(ρ:DF) (σ:St) (F2 H2:Hp) (v:V),ρ[0]?=some (some (.own o' (some a)))->Same F' F2->DInv K P' F2 H2 ρ σ->Rep K F2 v d->Q v H2:=fun ρ σ F2 H2 v h0 e I2 rv=>by
   obtain⟨v',_,a',rfl,h3,h4⟩:=I2.at h0;have ea:=h4 a rfl;subst ea;obtain⟨⟨q1,q2,_⟩,u,q3,q4⟩:=(ORep.flat fl').mp h3;exact hQ v F2 H2 e I2.toDHp q1 ⟨u,q3,q4⟩ fl' rv
  cases r with
  |nx ρ=>(obtain⟨h0,rfl⟩:=he;exact fun σ F2 H2 e I2=>fin ρ σ F2 H2 .non h0 e I2 .non)
  |rt x ρ=>(obtain⟨rfl,h0⟩:=he;exact fun v σ F2 H2 e I2 rv=>fin ρ σ F2 H2 v h0 e I2 rv)
  |bk ρ=>exact he.elim
  |ct ρ=>exact he.elim
def gdx(F H:Hp)(a:Addr):Hp:=fun b=>if b=a then none else gd F H b
theorem mX{F H:Hp}{a b:Addr}{o:HO}:gdx F H a b=some o↔b≠a/\F b=none/\H b=some o:=by
 unfold gdx;by_cases h:b=a
 ·rw[if_pos h];simp[h]
 ·rw[if_neg h,ge];simp[h]
theorem AX{F H:Hp}(s:Same F H)(a:Addr):DHp (gdx F H a) F H:=⟨s,fun b o e=>(mX.mp e).2.2,fun b o e=>(mX.mp e).2.1⟩
theorem ArgsS.dvx{K:Kq}{P F H:Hp}{ρ:DF}{σ:St}(I:DInv K P F H ρ σ){i:Nat}{o:OD}{t:Option Addr}{a:Addr}(hi:ρ[i]?=some (some (.own o t)))(hs:σ[i]?=some (some (.ref a)))(fl:o.flat=true):∀{xs:List DV}{vs:List V},ArgsS K ρ σ F xs vs->(∀x∈xs,∃d,x=.v d)->DVs K (gdx F H a) F H xs vs:=by
 intro xs vs h;induction h with
 |nil=>exact fun _=>.nil
 |v h _ ih=>exact fun hx=>.cons rfl h (ih fun x m=>hx x (Yc _ m))
 |b j h1 h2 _ ih=>
  intro hx;obtain⟨d,e⟩:=hx _ Ye;cases e
def yu(xs:List DV):Bool:=xs.all fun x=>match x with
 |.v _=>true
 |_=>false
theorem Bu{xs:List DV}(h:yu xs=true):∀x∈xs,∃d,x=.v d:=fun x m=>by
 have:=Yi.mp h x m;cases x with
 |v d=>exact⟨d,rfl⟩
 |_=>cases this
def mo(K:Kq)(i:Nat)(m:Dz)(g:Dv):DF->Option (DF×D):=fun ρ=>match ρ[i]? with
 |some (some (.own o t))=>if o.flat=true then(g ρ).bind fun xs=>if yu xs=true then(m o xs).map fun r=>(ρ.set i (some (.own r.1 t)),r.2)else none else none
 |_=>none
def fA(K:Kq)(i:Nat)(m:Dz)(g:Dv):DF->Option RES:=fun ρ=>(mo K i m g ρ).map fun r=>.nx r.1
theorem qX{K:Kq}{P F1 H1 F2 H2:Hp}{ρ:DF}{σ:St}{i:Nat}{o o':OD}{t:Option Addr}{a:Addr}(I:DInv K P F1 H1 ρ σ)(hi:ρ[i]?=some (some (.own o t)))(hs:σ[i]?=some (some (.ref a)))(fl:o.flat=true)(fl':o'.flat=true)
  (e2:Same F1 F2) (hp2:DHp (gdx F1 H1 a) F2 H2) (f2:F2 a=none) (ho:∃u',H2 a=some u'/\ORep1 K F2 o' u'):DInv K P F2 H2 (ρ.set i (some (.own o' t))) σ:=by
 obtain⟨O,hR⟩:=I.rep;obtain⟨v,h1,b,rfl,h2,ht⟩:=hR i _ hi;rw[hs]at h1;cases h1;obtain⟨⟨q1,q2,q3⟩,u,q4,_⟩:=(ORep.flat fl).mp h2;have keep:∀b u,b≠a->F1 b=none->H1 b=some u->H2 b=some u/\F2 b=none:=fun b u hb n q=>⟨hp2.pro b u (mX.mpr ⟨hb,n,q⟩),hp2.dis b u (mX.mpr ⟨hb,n,q⟩)⟩
 refine⟨⟨hp2.sub,fun b u q=>(keep b u (fun z=>by subst z;rw[q2]at q;cases q) (I.dis b u q) (I.pro b u q)).1,fun b u q=>(keep b u (fun z=>by subst z;rw[q2]at q;cases q) (I.dis b u q) (I.pro b u q)).2⟩,by rw[ZF];exact I.len,O,fun j z hj=>?_⟩;rcases gz hj with⟨rfl,e,hl⟩|⟨hij,hj'⟩
 ·cases e;exact⟨_,hs,a,rfl,(ORep.flat fl').mpr ⟨⟨f2,q2,q3⟩,ho⟩,ht⟩
 ·obtain⟨w,e1,e3⟩:=hR j z hj';refine⟨w,e1,?_⟩;cases z with
  |v d'=>exact Rep.same e2 e3
  |own od t'=>
   obtain⟨c,rfl,e4,ht'⟩:=e3;refine⟨c,rfl,e4.mono e2 fun b w' q hb=>?_,ht'⟩;obtain⟨k1,k2⟩:=keep b w' (fun z=>by subst z;rw[q.2.2]at q3;exact hij (Yy q3).symm) q.1 hb;exact⟨k1,k2,q.2⟩
  |bor od=>(obtain⟨c,rfl,e4⟩:=e3;exact⟨c,rfl,e4.mono e2 fun b u q hb=>⟨hb,q⟩⟩)
section
variable{X:Cx}{k:Nat}{f C:Addr}{fd:FuncData}{ps:List Str}{m:Dm}{mM:Dz}{x mn:Str}{p pos apos spos:Pos}{e o:Expr}{es:List Expr}{g:Dv}
theorem n_(i:Nat)(G:FnOk X.prog X.w X.K X.mg X.base CX0 k f fd ps (spM X.K mM))(hr:Room k X.A)(hg:Gl X x)(hm:X.mg x=some (.ref f))(hk:PySem.W.keepIn X.K (.ref f)=true)(hb:Binds X.K fd ps [])(h0:PE X e (e9 i))(ha:kx X es g)
  (hd:(x == ("__debug__":Str))=false:=by decide) (he:starEach (e::es) X.env=(false,eval e X.env)::starEach es X.env:=by rfl) (hpl:(backTo pos (starEach es X.env)).any (·.1)=false:=by rfl) (hsw:swapsWith (.Call (.Name x p) (e::es) [] pos) none spos.line X.env=pure false:=by rfl) :
  PD1 X (.Expr (.Call (.Name x p) (e::es) [] pos) spos) (fA X.K i mM g):=
 PS.imp (iU (nk G hr hg hm hk hb .nil lD (ba h0 ha he) hd he hpl) hsw) fun E σ H=>un7 fun P F ρ r hr I k=>by
  unfold fA mo at hr;split at hr
  ·rename_i od t q;split at hr
   ·rename_i fl;cases q2:g ρ with
    |none=>rw[q2]at hr;cases hr
    |some xs=>
     rw[q2,Yb]at hr;split at hr
     ·rename_i av;cases q3:mM od xs with
      |none=>rw[q3]at hr;cases hr
      |some res=>
       rw[q3]at hr;cases hr;obtain⟨v,h1,a,rfl,h2,h3⟩:=I.at q;obtain⟨⟨a1,a2,_⟩,u,a3,a4⟩:=(ORep.flat fl).mp h2;refine⟨_,h1,P,F,ρ,xs,q2,I,fun vs F1 H1 e1 r1=>?_⟩;have I1:=I.evo e1;obtain⟨k1,k2⟩:=e1.keep a u a3 a1;refine⟨gdx F1 H1 a,F1,a,vs,od,xs,res.1,res.2,by simp,q3,AX I1.sub a,k2,by unfold gdx;rw[if_pos rfl],fl,⟨u,k1,a4.same e1.ext⟩,r1.dvx I1 q h1 fl (Bu av),fun v F2 H2 e2 hp2 f2 ho fl' rv=>?_⟩;exact k σ F2 H2 (e1.ext.trans e2) (qX I1 q h1 fl fl' e2 hp2 f2 ho)
     ·cases hr
   ·cases hr
  ·cases hr
theorem RepsF.look{K:Kq}{H:Hp}{n:Str}{vs:List (Str×V)}{ds:List (Str×D)}{d:D}(h:RepsF K H vs ds):ds.lookup n=some d->∃v,vs.lookup n=some v/\Rep K H v d:=
 RepsF.ind (M:=fun vs ds=>ds.lookup n=some d->∃v,vs.lookup n=some v/\Rep K H v d) (fun e=>by cases e) (fun h _ ih e=>by
  rw[bE]at e ⊢;split at e
  ·rename_i q;cases e;rw[if_pos q];exact⟨_,rfl,h⟩
  ·rename_i q;rw[if_neg q];exact ih e) h
theorem RepsF.no{K:Kq}{H:Hp}{n:Str}{vs:List (Str×V)}{ds:List (Str×D)}(h:RepsF K H vs ds):ds.lookup n=none->vs.lookup n=none:=
 RepsF.ind (M:=fun vs ds=>ds.lookup n=none->vs.lookup n=none) (fun _=>rfl) (fun _ _ ih e=>by
  rw[bE]at e ⊢;split at e
  ·cases e
  ·rename_i q;rw[if_neg q];exact ih e) h
def l7(C:Addr)(n:Str):D->Option D
 |.ins C' fs=>if C'=C then fs.lookup n else none
 |_=>none
theorem nz{fa:Dd}{n:Str}(c:Cls X.K C)(hn:NoAttr X.K C n)(h:PDR X e fa)(hb:attributeBase e n X.env (eval e X.env)=eval e X.env:=by rfl):PDE X (.Attribute e n pos) (d1 (l7 C n) fa):=
 (Ad h hb).imp fun σ H Q=>un7 fun P F ρ d hf I k=>by
  unfold d1 at hf;cases q:fa ρ with
  |none=>rw[q]at hf;cases hf
  |some dx=>
   rw[q,Yb]at hf;refine⟨P,F,ρ,dx,q,I,fun y F1 H1 e1 rx=>?_⟩;cases dx with
   |ins C' fs=>
    have hf':(if C'=C then fs.lookup n else none)=some d:=hf;split at hf'
    ·rename_i hC;subst hC;obtain⟨a,dx,vs,rfl,h1,h2⟩:=mN (I.evo e1) rx;obtain⟨v,h3,h4⟩:=h2.look hf';exact⟨a,C',dx,vs,v,rfl,h1,c,hn,h3,k v F1 H1 e1 h4⟩
    ·cases hf'
   |_=>cases hf
def jI(f:Str)(v:D):List (Str×D)->List (Str×D)
 |[]=>[(f,v)]
 |(g,x)::r=>if g=f then(g,v)::r else(g,x)::jI f v r
theorem RepsF.put{K:Kq}{H:Hp}{n:Str}{v:V}{d:D}(rv:Rep K H v d){vs:List (Str×V)}{ds:List (Str×D)}(h:RepsF K H vs ds):RepsF K H (eJ n v vs) (jI n d ds):=
 RepsF.ind (M:=fun vs ds=>RepsF K H (eJ n v vs) (jI n d ds)) (.cons rv .nil) (fun{k _ _ _ _} h r ih=>by
  unfold eJ jI;by_cases q:k=n
  ·rw[if_pos q,if_pos q];exact .cons rv r
  ·rw[if_neg q,if_neg q];exact .cons h ih) h
theorem RepsF.length{K:Kq}{H:Hp}{vs:List (Str×V)}{ds:List (Str×D)}(h:RepsF K H vs ds):vs.length=ds.length:=RepsF.ind (M:=fun vs ds=>vs.length=ds.length) rfl (fun _ _ ih=>Zs Nat.succ ih) h
def lG(C:Addr)(i:Nat)(n:Str)(fv:Dd):DF->Option RES:=fun ρ=>match ρ[i]? with
 |some (some (.own (.ins C' fs) t))=>if C'=C then(fv ρ).bind fun d=>if fs.length<1000 then some (.nx (ρ.set i (some (.own (.ins C (jI n d fs)) t))))else none else none
 |_=>none
theorem mC{value:Expr}{n:Str}{fv:Dd}{pos':Pos}(i:Nat)(c:Cls X.K C)(hn:NoAttr X.K C n)(ho:PE X o (e9 i))(hv:PDE X value fv)(hs:swapsWith value (some (.Attribute o n pos')) pos.line X.env=pure false:=by rfl) :
  PD1 X (.Assign [.Attribute o n pos'] value pos) (lG C i n fv):=PS.imp (BQ ho hv hs) fun E σ H=>un7 fun P F ρ r hr I k=>by
 unfold lG at hr;split at hr
 ·rename_i C' fs t q;split at hr
  ·rename_i hC;subst hC;cases q2:fv ρ with
   |none=>rw[q2]at hr;cases hr
   |some d=>
    rw[q2,Yb]at hr;split at hr
    ·rename_i hl;cases hr;obtain⟨v,h1,a,rfl,⟨⟨a1,a2,_⟩,u,a3,a4⟩,_⟩:=I.at q;cases u with
     |ins C'' dx vs=>
      obtain⟨rfl,a4⟩:=a4;refine⟨P,F,ρ,d,q2,I,fun y F1 H1 e1 ry=>⟨_,h1,a,C',dx,vs,rfl,(e1.keep a _ a3 a1).1,c,hn,by rw[a4.length];exact hl,k σ F1 _ e1.ext ?_⟩⟩;exact(I.evo e1).mut (o':=.ins C' _) (u:=.ins C' dx _) q rfl rfl h1 ⟨rfl,(RepsF.same e1.ext a4).put ry⟩
     |_=>exact a4.elim
    ·cases hr
  ·cases hr
 ·cases hr
def rF(C:Addr):DV->Option (List (Str×D))
 |.v (.ins C' fs)=>if C'=C then some fs else none
 |.bor (.ins C' fs)=>if C'=C then some fs else none
 |_=>none
def pG(C:Addr)(mn:Str):List DV->Bool
 |x::_=>match rF C x with
  |some fs=>(fs.lookup mn).isNone
  |none=>false
 |[]=>false
def cS(C:Addr)(mn:Str)(m:Dm)(g:Dv):DF->Option D:=fun ρ=>(g ρ).bind fun xs=>if pG C mn xs=true then(m xs).bind dvD else none
end
theorem DVs.heap{K:Kq}{P F H H':Hp}{xs:List DV}{vs:List V}(h:DVs K P F H xs vs):DVs K P F H' xs vs:=by
 induction h with
 |nil=>exact .nil
 |@cons x _ _ _ h r _ ih=>
  refine .cons h ?_ ih;cases x with
  |v d=>exact r
  |bor o=>exact r
  |own o t=>cases h
def eU(i:Nat):DF->Option DV:=fun ρ=>match ρ[i]? with
 |some (some (.own o _))=>some (.bor o)
 |some (some (.bor o))=>some (.bor o)
 |some (some (.v d))=>some (.v d)
 |_=>none
def dh(s:DF->Option DV)(g:Dv):DF->Option (List DV):=fun ρ=>(s ρ).bind fun x=>(g ρ).map fun xs=>x::xs
def g0:DF->Option (List DV):=fun _=>some []
def Self1(K:Kq)(ρ:DF)(σ:St)(F:Hp)(x:DV)(v:V):Prop:=ArgsS K ρ σ F [x] [v]
theorem Self1.cons{K:Kq}{ρ:DF}{σ:St}{F F':Hp}{x:DV}{v:V}{xs:List DV}{vs:List V}(h:Self1 K ρ σ F x v)(e:Same F F')(r:ArgsS K ρ σ F' xs vs):ArgsS K ρ σ F' (x::xs) (v::vs):=by
 cases h with
 |v h _=>exact .v (h.same e) r
 |b i h1 h2 _=>exact .b i h1 h2 r
theorem Self1.ins{K:Kq}{P F H:Hp}{ρ:DF}{σ:St}{x:DV}{v:V}{C:Addr}{fs:List (Str×D)}(I:DInv K P F H ρ σ)(h:Self1 K ρ σ F x v)(hi:rF C x=some fs):∃a dx vs,v=.ref a/\H a=some (.ins C dx vs)/\RepsF K F vs fs:=by
 cases h with
 |@v d _ _ _ h _=>
  cases d with
  |ins C' fs'=>
   have hi':(if C'=C then some fs' else none)=some fs:=hi;split at hi'
   ·rename_i hC;subst hC;cases hi';exact mN I (.inl h)
   ·cases hi'
  |_=>cases hi
 |@b o _ _ _ i h1 h2 _=>
  cases o with
  |ins C' fs'=>
   have hi':(if C'=C then some fs' else none)=some fs:=hi;split at hi'
   ·rename_i hC;subst hC;cases hi';exact mN I (RepS.slot I h1 h2 rfl)
   ·cases hi'
  |_=>cases hi
def w9(K:Kq)(s:DF->Option DV):TE:=fun σ H Q=>∃P F ρ x,s ρ=some x/\DInv K P F H ρ σ/\∀v F' H',Evo P F H F' H'->Self1 K ρ σ F' x v->Q v H'
def rk(X:Cx)(e:Expr)(s:DF->Option DV):Prop:=PE X e (w9 X.K s)
section
variable{X:Cx}{k:Nat}{f C:Addr}{fd:FuncData}{ps:List Str}{m:Dm}{mM:Dz}{x mn:Str}{p pos apos spos:Pos}{e o:Expr}{es:List Expr}{g:Dv}{s:DF->Option DV}
theorem lY(i:Nat)(h:PE X e (e9 i)):rk X e (eU i):=PE.imp h fun σ H Q=>un7 fun P F ρ x hf I k=>by
 unfold eU at hf;split at hf
 ·rename_i o t q;cases hf;obtain⟨v,h1,_⟩:=I.at q;exact⟨v,h1,k v F H (Evo.refl I.toDHp) (.b i h1 (.inl ⟨t,q⟩) .nil)⟩
 ·rename_i o q;cases hf;obtain⟨v,h1,_⟩:=I.at q;exact⟨v,h1,k v F H (Evo.refl I.toDHp) (.b i h1 (.inr q) .nil)⟩
 ·rename_i d q;cases hf;obtain⟨v,h1,h2⟩:=I.at q;exact⟨v,h1,k v F H (Evo.refl I.toDHp) (.v h2 .nil)⟩
 ·cases hf
theorem qd{C:Addr}{mn:Str}{x:DV}{xs:List DV}(h:pG C mn (x::xs)=true):∃fs,rF C x=some fs/\fs.lookup mn=none:=by
 unfold pG at h;cases q:rF C x with
 |none=>simp[q]at h
 |some fs=>exact⟨fs,rfl,by simpa[q]using h⟩
theorem wp{K:Kq}{E:XK}{σ:St}{H:Hp}{Q:VK}{P F:Hp}{ρ:DF}{xs:List DV}{y:DV}(hg:dh s g ρ=some xs)(hs:pG C mn xs=true)(hm:m xs=some y)(I:DInv K P F H ρ σ)
  (k:∀v F1 H1 F2 H2,Evo P F H F1 H1->Same F1 F2->DHp (gd F1 H1) F2 H2->DVRep K (gd F1 H1) F2 H2 qe y v->Q v H2):rN C mn (spD K m) [] E (w9 K s) (tLV K g) σ H Q:=by
 unfold dh at hg;cases q:s ρ with
 |none=>rw[q]at hg;cases hg
 |some x=>
  rw[q,Yb]at hg;cases q2:g ρ with
  |none=>rw[q2]at hg;cases hg
  |some ys=>
   rw[q2]at hg;cases hg;obtain⟨fs,hi,hl⟩:=qd hs;refine⟨P,F,ρ,x,q,I,fun v F1 H1 e1 r1=>?_⟩;have I1:=I.evo e1;obtain⟨a,dx,vs,rfl,h1,h2⟩:=r1.ins I1 hi;refine⟨a,dx,vs,rfl,h1,h2.no hl,P,F1,ρ,ys,q2,I1,fun ws F2 H2 e2 r2=>?_⟩;have I2:=I1.evo e2;refine⟨gd F2 H2,F2,x::ys,y,hm,iK I2.sub,by rw[Zf];exact(r1.cons e2.ext r2).dvs I2,fun w F3 H3 e3 hp3 r3=>k w F2 H2 F3 H3 (e1.trans e2) e3 hp3 r3⟩
theorem rL{K:Kq}{E:XK}:∀σ H Q,tD K (cS C mn m (dh s g)) σ H Q->rN C mn (spD K m) [] E (w9 K s) (tLV K g) σ H Q:=fun σ H Q=>un7 fun P F ρ d hf I k=>by
 unfold cS at hf;cases q:dh s g ρ with
 |none=>rw[q]at hf;cases hf
 |some xs=>
  rw[q,Yb]at hf;split at hf
  ·rename_i hs;cases q2:m xs with
   |none=>rw[q2]at hf;cases hf
   |some y=>
    rw[q2,Yb]at hf;refine wp q hs q2 I fun v F1 H1 F2 H2 e1 e2 hp2 r2=>?_;have I1:=I.evo e1;have ev:Evo P F1 H1 F2 H2:=I1.toDHp.gd e2 hp2;cases y with
    |v d'=>cases hf;exact k v F2 H2 (e1.trans ev) r2
    |own o t=>
     cases hf;obtain⟨a,rfl,ho,_⟩:=r2;have ho':=lU e2 ho;exact k _ _ H2 (e1.trans (ev.freeze I1.toDHp (fun b=>H1 b=none/\F2 b=none) fun _ q=>q)) (ho'.rep (cb fun b q=>q.2) fun b u q hb=>by rw[dE q];exact hb)
    |bor o=>cases hf
  ·cases hf
theorem zi{pl:Sem Bool}(he:rk X o s)(c:Cls X.K C)(hm:Meth X.K C mn f)(G:FnOk X.prog X.w X.K X.mg X.base CX0 k f fd ps (spD X.K m))(hr:Room k X.A)(hb:Binds X.K fd ps [])(ha:kx X (e::es) g)
  (hst:starEach (e::es) X.env=(false,eval e X.env)::starEach es X.env:=by rfl) (hpl:(backTo pos (starEach es X.env)).any (·.1)=false:=by rfl)
  (ht:eval (.Call (.Attribute o mn apos) (e::es) [] pos) X.env=(do
   let ov <-eval o X.env
   standAt apos.atName
   let (f,first) <-holding [ov] (getMethod ov mn pl)
   callWith pos f first (backTo pos (starEach (e::es) X.env)) (backToKw pos (keywordEach [] X.env))):=by rfl):PDE X (.Call (.Attribute o mn apos) (e::es) [] pos) (cS C mn m (dh s g)):=
 (xN he c hm G hr hb .nil lD ha hst hpl ht).imp rL
theorem nG{pl:Sem Bool}(he:rk X o s)(c:Cls X.K C)(hm:Meth X.K C mn f)(G:FnOk X.prog X.w X.K X.mg X.base CX0 k f fd ps (spD X.K m))(hr:Room k X.A)(hb:Binds X.K fd ps [])
  (ht:eval (.Call (.Attribute o mn apos) [] [] pos) X.env=(do
   let ov <-eval o X.env
   standAt apos.atName
   let (f,first) <-holding [ov] (getMethod ov mn pl)
   callWith pos f first (backTo pos (starEach [] X.env)) (backToKw pos (keywordEach [] X.env))):=by rfl):PDE X (.Call (.Attribute o mn apos) [] [] pos) (cS C mn m (dh s g0)):=
 (vZ he c hm G hr hb .nil lD ht).imp fun σ H Q h=>by
  have:=rL (K:=X.K) (E:=E0) σ H Q h;obtain⟨P,F,ρ,x,h1,h2,h3⟩:=this;refine⟨P,F,ρ,x,h1,h2,fun v F' H' ev r=>?_⟩;obtain⟨a,dx,fs,ex,ea,l,P2,F2,ρ2,xs,hx,I2,h4⟩:=h3 v F' H' ev r;cases hx;exact⟨a,dx,fs,ex,ea,l,h4 [] F2 H' (Evo.refl I2.toDHp) .nil⟩
def fQ(C:Addr)(mM:Dz)(g:Dv):DF->Option OD:=fun ρ=>(g ρ).bind fun xs=>match mM (.ins C []) xs with
 |some (o',.non)=>if o'.flat=true then some o' else none
 |_=>none
theorem n9(M:Mk X.K C f)(G:FnOk X.prog X.w X.K X.mg X.base CX0 k f fd ps (spM X.K mM))(hr:Room (k+1) X.A)(hg:Gl X x)(hm:X.mg x=some (.ref C))(hb:Binds X.K fd ps [])(ha:kx X (e::es) g)
  (hdb:(x == ("__debug__":Str))=false:=by decide) (he:starEach (e::es) X.env=(false,eval e X.env)::starEach es X.env:=by rfl) (hpl:(backTo pos (starEach es X.env)).any (·.1)=false:=by rfl):PDO X (.Call (.Name x p) (e::es) [] pos) (fQ C mM g):=
 (xU M G hr hg hm hb .nil lD ha hdb he hpl).imp fun σ H Q=>un7 fun P F ρ ob hf I k=>by
  unfold fQ at hf;cases q:g ρ with
  |none=>rw[q]at hf;cases hf
  |some xs=>
   rw[q,Yb]at hf;split at hf
   ·rename_i o' q2;split at hf
    ·rename_i fl;cases hf;refine⟨P,F,ρ,xs,q,I,fun vs F1 H1 e1 r1 y dx hy hdx hne=>?_⟩;have I1:=I.evo e1;have sm:Same H1 (upd (upd H1 dx (.own y)) y (.ins C dx [])):=fun b u z=>by rw[aK (a8 z hy),aK (a8 z hdx)];exact z
     refine⟨gd F1 H1,F1,y,vs,.ins C [],xs,ob,.non,by simp,q2,⟨I1.sub.trans sm,fun b u z=>sm b u ((iK I1.sub).pro b u z),(iK I1.sub).dis⟩,I1.sub.free hy,(iK I1.sub).pro.free hy,rfl,⟨_,aX,rfl,.nil⟩,(r1.dvs I1).heap,fun v F2 H2 e2 hp2 f2 ho fl' rv=>?_⟩;cases rv;exact⟨rfl,k y F2 H2 (e1.trans (I1.toDHp.gd e2 hp2)) ((ORep.flat fl).mpr ⟨⟨e1.back I.toDHp hy,f2⟩,ho⟩)⟩
    ·cases hf
   ·cases hf
end
section
variable{κ:Type} [DecidableEq κ]
def dU(kvs:List (κ×D))(k:κ):Option D:=(kvs.find? fun kv=>decide (kv.1=k)).map (·.2)
def fL(kvs:List (κ×D))(k:κ)(v:D):List (κ×D):=
 if(kvs.any fun kv=>decide (kv.1=k))=true then kvs.map (fun kv=>if kv.1=k then(kv.1,v)else kv)else kvs++[(k,v)]
end
theorem uj{k k':List Key}{v:V}{vs:List (List Key×V)}:eZ ((k',v)::vs) k=if k'=k then some v else eZ vs k:=by unfold eZ;by_cases q:k'=k<;>simp[Xe,q]
theorem ce{κ:Type}[DecidableEq κ]{k k':κ}{v:D}{vs:List (κ×D)}:dU ((k',v)::vs) k=if k'=k then some v else dU vs k:=by unfold dU;by_cases q:k'=k<;>simp[Xe,q]
theorem RepsT.val{K:Kq}{H:Hp}{k:List Key}{vs:List (List Key×V)}{ds:List (List Key×D)}(h:RepsT K H vs ds):(eZ vs k=none/\dU ds k=none)\/∃v d,eZ vs k=some v/\dU ds k=some d/\Rep K H v d:=
 RepsT.ind (M:=fun vs ds=>(eZ vs k=none/\dU ds k=none)\/∃v d,eZ vs k=some v/\dU ds k=some d/\Rep K H v d) (.inl ⟨rfl,rfl⟩) (fun{k' v d vs ds} h _ ih=>by
  rw[uj,ce];by_cases q:k'=k
  ·rw[if_pos q,if_pos q];exact .inr ⟨v,d,rfl,rfl,h⟩
  ·rw[if_neg q,if_neg q];exact ih) h
theorem RepsT.any{K:Kq}{H:Hp}{k:List Key}{vs:List (List Key×V)}{ds:List (List Key×D)}(h:RepsT K H vs ds):(vs.any fun kv=>decide (kv.1=k))=ds.any fun kv=>decide (kv.1=k):=
 RepsT.ind (M:=fun vs ds=>(vs.any fun kv=>decide (kv.1=k))=ds.any fun kv=>decide (kv.1=k)) rfl (fun _ _ ih=>by rw[XS,XS,ih]) h
theorem RepsT.map{K:Kq}{H:Hp}{k:List Key}{v:V}{d:D}(rv:Rep K H v d){vs:List (List Key×V)}{ds:List (List Key×D)}(h:RepsT K H vs ds):RepsT K H (vs.map fun kv=>if kv.1=k then(kv.1,v)else kv) (ds.map fun kv=>if kv.1=k then(kv.1,d)else kv):=
 RepsT.ind (M:=fun vs ds=>RepsT K H (vs.map fun kv=>if kv.1=k then(kv.1,v)else kv) (ds.map fun kv=>if kv.1=k then(kv.1,d)else kv)) .nil (fun{k' v' d' vs ds} h _ ih=>by
  rw[YG,YG];by_cases q:k'=k
  ·rw[if_pos (show(k',v').1=k from q),if_pos (show(k',d').1=k from q)];exact .cons rv ih
  ·rw[if_neg (show ¬(k',v').1=k from q),if_neg (show ¬(k',d').1=k from q)];exact .cons h ih) h
theorem RepsT.snoc{K:Kq}{H:Hp}{k:List Key}{v:V}{d:D}(rv:Rep K H v d){vs:List (List Key×V)}{ds:List (List Key×D)}(h:RepsT K H vs ds):RepsT K H (vs++[(k,v)]) (ds++[(k,d)]):=
 RepsT.ind (M:=fun vs ds=>RepsT K H (vs++[(k,v)]) (ds++[(k,d)])) (.cons rv .nil) (fun h _ ih=>.cons h ih) h
theorem RepsT.put{K:Kq}{H:Hp}{k:List Key}{v:V}{d:D}{vs:List (List Key×V)}{ds:List (List Key×D)}(rv:Rep K H v d)(r:RepsT K H vs ds):RepsT K H (gN vs k v) (fL ds k d):=by
 unfold gN fL;rw[r.any (k:=k)];split
 ·exact r.map rv
 ·exact r.snoc rv
theorem RepsT.length{K:Kq}{H:Hp}{vs:List (List Key×V)}{ds:List (List Key×D)}(h:RepsT K H vs ds):vs.length=ds.length:=RepsT.ind (M:=fun vs ds=>vs.length=ds.length) rfl (fun _ _ ih=>Zs Nat.succ ih) h
def yM:D->Option Key
 |.int i=>some (.inl i)
 |.str x=>some (.inr x)
 |_=>none
def fi:List D->Option (List Key)
 |[]=>some []
 |d::ds=>(yM d).bind fun k=>(fi ds).map fun r=>k::r
def mV:D->Option (List Key)
 |.tup ds=>fi ds
 |_=>none
theorem Reps.keys{K:Kq}{H:Hp}{vs:List V}{ds:List D}{ks:List Key}(h:Reps K H vs ds):fi ds=some ks->vs=ks.map kV:=
 Reps.ind (M:=fun vs ds=>∀ks:List Key,fi ds=some ks->vs=ks.map kV) (fun ks e=>by cases e;rfl) (fun{v d vs ds} h _ ih ks e=>by
  unfold fi at e;cases q:yM d with
  |none=>rw[q]at e;cases e
  |some k=>
   rw[q,Yb]at e;cases q2:fi ds with
   |none=>rw[q2]at e;cases e
   |some kr=>
    rw[q2]at e;cases e;rw[ih _ q2,YG];cases d with
    |int i=>cases q;cases h;rfl
    |str i=>cases q;cases h;rfl
    |_=>cases q) h ks
theorem sE{K:Kq}{P F H:Hp}{y:V}{dy:D}{ks:List Key}(hp:DHp P F H)(r:Rep K F y dy)(h:mV dy=some ks):∃b,y=.ref b/\H b=some (.tup (ks.map kV)):=by
 cases dy with
 |tup ds=>cases r with|tup h1 h2=>exact⟨_,rfl,by rw[hp.sub _ _ h1,h2.keys h]⟩
 |_=>cases h
section
variable{X:Cx}{a b o i e f:Expr}{pos pos' apos cpos:Pos}{fd fk fx fv:Dd}
def gq(fd fk fx:Dd):DF->Option D:=fun ρ=>match fd ρ with
 |some (.dT kvs)=>(fk ρ).bind fun y=>(mV y).bind fun k=>(fx ρ).map fun x=>(dU kvs k).getD x
 |_=>none
theorem nF(hu:X.A.units+64<cLine)(ho:PDR X o fd)(hi:PDE X e fk)(hx:PDE X f fx)(m:M2 X o "get" apos e f cpos:=by exact⟨rfl,rfl,rfl,rfl⟩):PDE X (.Call (.Attribute o "get" apos) [e,f] [] cpos) (gq fd fk fx):=(wL (by omega) ho hi hx m).imp fun σ H Q=>un7 fun P F ρ d hf I k=>by
 unfold gq at hf;split at hf
 ·rename_i kvs qa;cases qb:fk ρ with
  |none=>rw[qb]at hf;cases hf
  |some dy=>
   rw[qb,Yb]at hf;cases qk:mV dy with
   |none=>rw[qk]at hf;cases hf
   |some ks=>
    rw[qk,Yb]at hf;cases qx:fx ρ with
    |none=>rw[qx]at hf;cases hf
    |some dz=>
     rw[qx]at hf;cases hf;refine⟨P,F,ρ,_,qa,I,fun x F1 H1 e1 rx=>?_⟩;obtain⟨p,vs,rfl,h1,h2⟩:=vF (I.evo e1) rx;refine⟨p,rfl,.inr ⟨vs,.inl h1⟩,P,F1,ρ,_,qb,I.evo e1,fun y F2 H2 e2 ry=>⟨P,F2,ρ,_,qx,(I.evo e1).evo e2,fun z F3 H3 e3 rz=>?_⟩⟩;have I3:=((I.evo e1).evo e2).evo e3;obtain⟨p',vs',ep,h1',h2'⟩:=vF I3 ((rx.evo e2).evo e3);cases ep;obtain⟨q,rfl,h3⟩:=sE e3.hp (ry.same e3.ext) qk;refine⟨_,DGet.t h1' h3,?_⟩;have e123:=(e1.trans e2).trans e3;rcases h2'.val (k:=ks)with⟨z1,z2⟩|⟨v,d',z1,z2,z3⟩
     ·rw[z1];exact k _ F3 H3 e123 (by show Rep X.K F3 z ((dU kvs ks).getD dz);rw[z2];exact rz)
     ·rw[z1];exact k _ F3 H3 e123 (by show Rep X.K F3 v ((dU kvs ks).getD dz);rw[z2];exact z3)
 ·cases hf
theorem tJ:PDO X (.Dict [] [] pos) (fun _=>some (.dT [])):=wf.imp fun σ H Q=>un7 fun P F ρ ob hf I k=>by
 cases hf;exact fun p hp=>k p F _ (Evo.side I.toDHp hp) ⟨⟨hp,(I.toDHp.free hp).1⟩,_,aX,.nil⟩
def sd(j:Nat)(fk fv:Dd):DF->Option RES:=fun ρ=>match ρ[j]? with
 |some (some (.own (.dT kvs) t))=>(fv ρ).bind fun v=>(fk ρ).bind fun y=>(mV y).bind fun k=>if kvs.length<16777216 then some (.nx (ρ.set j (some (.own (.dT (fL kvs k v)) t))))else none
 |_=>none
theorem yn(j:Nat)(hu:X.A.units+64<cLine)(ho:PE X o (e9 j))(hi:PDE X i fk)(hv:PDE X e fv)(hs:swapsWith e (some (.Subscript o i pos')) pos.line X.env=pure false:=by rfl):PD1 X (.Assign [.Subscript o i pos'] e pos) (sd j fk fv):=
 PS.imp (yk (by omega) ho hi hv hs) fun E σ H=>un7 fun P F ρ r hr I k=>by
  unfold sd at hr;split at hr
  ·rename_i kvs t q;cases qv:fv ρ with
   |none=>rw[qv]at hr;cases hr
   |some dv=>
   rw[qv,Yb]at hr;cases qb:fk ρ with
   |none=>rw[qb]at hr;cases hr
   |some dy=>
   rw[qb,Yb]at hr;cases qk:mV dy with
   |none=>rw[qk]at hr;cases hr
   |some ks=>
   rw[qk,Yb]at hr;split at hr
   ·rename_i hl;cases hr;obtain⟨v,h1,p,rfl,⟨⟨a1,a2,_⟩,u,a3,a4⟩,_⟩:=I.at q;cases u with
    |dT vs=>
     have a4:RepsT X.K F vs kvs:=a4;refine⟨P,F,ρ,_,qv,I,fun v F1 H1 e1 rv=>⟨_,h1,P,F1,ρ,_,qb,I.evo e1,fun y F2 H2 e2 ry=>?_⟩⟩;have e12:=e1.trans e2;obtain⟨k1,k2⟩:=e12.keep p _ a3 a1;obtain⟨b',rfl,h3⟩:=sE e12.hp ry qk;refine⟨p,_,rfl,DPut.t k1 h3 (by rw[YR,a4.length];exact hl),k σ F2 _ e12.ext ?_⟩;exact(I.evo e12).mut (o':=.dT _) (u:=.dT _) q rfl rfl h1 ((RepsT.same e12.ext a4).put (rv.same e2.ext))
    |_=>exact a4.elim
   ·cases hr
  ·cases hr
end
end L2
namespace L2
open PySem PySem.Spec PyProof.Rows PySem.W
section
variable{prog:Program}{w:World}{A:Around}{E:Kv}{s:Shared}
def iP(prog:Program)(w:World)(A:Around)(Q:Kv)(vs:List Value)(s1:Shared):Prop:=
 vs.length<64/\∃(κ:SortKind) (lt:Nat->Nat->Bool),Ord lt /\
  (2<=vs.length->∀h',(∀b u,s1.heap.get? b=some u->h'.get? b=some u)->∀(Q:SortKind->Shared->Prop) (E:Kv),Q κ {s1 with heap:=h' }->wpAny (model prog w) A.in1.in1 (keyKind' vs.toArray) Q E {s1 with heap:=h' }) /\
  (∀h',(∀b u,s1.heap.get? b=some u->h'.get? b=some u)->∀i j C,i<vs.length->j<vs.length->C (lt i j) {s1 with heap:=h' }->kas_ask prog w A.in1.in1 κ vs i j C {s1 with heap:=h' }) /\
  ∀p,PermN vs.length p->Ris lt p vs.length->∀(a:Addr) (h':Heap) (e:Nat),(∀b u,s1.heap.get? b=some u->h'.get? b=some u)->s1.heap.objs.size<=a->h'.get? a=some (seqObj "list" (iq vs p) e)->Q (.ref a) {s1 with heap:=h' }
theorem fz{v:Value}{Q:Kv}(hcol:wpAny (model prog w) A.in1 (collect v) (iP prog w A Q) E s) :
  wpAny (model prog w) A (call (.builtin "sorted") [v]) Q E s:=by
 refine Calls.call_function_entry kind_sorted plain_sorted entry_sorted (args_sorted1 _) ?_;unfold Builtin.«sorted»;refine Ya (m:=checkCount "sorted" 1 1 _) (Yg ?_);refine Ya (Xl hcol (fun vs s1 hh_=>?_) fun _ _ e=>e);obtain⟨h64,κ,lt,o,hk,hc,h⟩:=hh_;refine Ya (Vx ?_ (by rw[YR];omega));have hoL:(s1.heap.push (seqObj "list" vs.toArray 0)).get? s1.heap.objs.size=some (seqObj "list" vs.toArray 0):=Ym _ rfl;have keep:∀b u,s1.heap.get? b=some u->(s1.heap.push (seqObj "list" vs.toArray 0)).get? b=some u:=fun b u q=>Yh _ q
 show wpAny _ _ _ _ _ {s1 with heap:=s1.heap.push (seqObj "list" vs.toArray 0)};have lift:∀h':Heap,(∀b u,b≠s1.heap.objs.size->(s1.heap.push (seqObj "list" vs.toArray 0)).get? b=some u->h'.get? b=some u)->∀b u,s1.heap.get? b=some u->h'.get? b=some u:=fun h' k b u e=>
  k b u (YA (Yp e)) (keep b u e)
 refine Ya (ZR (Zx slot_list_sort ⟨_,hoL,rfl⟩ entry_list_sort ?body (args_list_sort _)))
 case body=>
  refine kH hoL h64 κ lt o (fun h2 h' k Q q=>hk h2 h' (lift h' k) Q _ q) (fun h' k=>hc h' (lift h' k)) fun p hp hr=>⟨_,rfl,?_⟩
  obtain⟨e,he⟩:=sortedHeap_at (out:=iq vs p) hoL;refine Yg ⟨_,rfl,h p hp hr s1.heap.objs.size _ e (fun b u q=>?_) (Yl _) he⟩;have hlt:b<s1.heap.objs.size:=Yp q;show(sortedHeap (s1.heap.push (seqObj "list" vs.toArray 0)) s1.heap.objs.size vs (iq vs p)).get? b=some u;rw[sortedHeap_old (YA hlt) (by rw[size_push'];exact Zi hlt)];exact keep b u q
theorem kL{l:Addr}{vs:List Value}{Q:Kl}(hl:IsTup s.heap l vs.toArray)
  (h:Q vs {s with heap:=(s.heap.push (seqObj "list" #[] 0)).update s.heap.objs.size (Obj.mapSeq (·++vs.toArray))}) (hsz:vs.length<=sizeLine) :
  wpAny (model prog w) A (collect (.ref l)) Q E s:=by
 obtain⟨o,ho,hc,n,hd⟩:=id hl;unfold collect;refine Ya (wpAny_runValue (Zp entry_proto_collect' ?_));show wpAny _ _ (do again (.builtin "list.__iadd__" ⟨[<-newList [],.ref l],[]⟩)) _ _ s;refine Ya (Vx (Yg ⟨XU _ (by decide+kernel),Zp entry_list_iadd' ?_⟩));show wpAny _ _ (Builtin.List.listExtendWith (.ref s.heap.objs.size) (.ref l) (.ref s.heap.objs.size)) _ _ {s with heap:=s.heap.push (seqObj "list" #[] 0)};unfold Builtin.List.listExtendWith;have ho':(s.heap.push (seqObj "list" #[] 0)).get? l=some o:=Yh _ ho;refine Ya (Vn (T := "tuple") ⟨o,ho',hc⟩ ?_);rw[if_pos (by
  have ht:(Value.type "tuple" == Value.type "tuple")=true:=by rfl
  rw[ht];simp)]
 refine Ya (listItems_at ho' hd ?_);refine Ya (listItems_at (xs:=#[]) (n:=0) (Ym _ rfl) rfl ?_);rw[if_neg (by simp)];refine Ya (listUpdate_at (xs:=#[]) (n:=0) (Ym _ rfl) rfl ?_ (YF _) (by show(#[]++vs.toArray).size<=sizeLine+1;simp only[VT,Yx,Zn];omega));refine Yg ?_;show wpAny (model prog w) A (do
   let o <-load s.heap.objs.size
   match o.data with
   |.seq xs _=>pure xs.toList
   |_=>unsupported "internal:collect") Q E {s with heap:=(s.heap.push (seqObj "list" #[] 0)).update s.heap.objs.size (Obj.mapSeq (·++vs.toArray))}
 refine Ya (wpAny_load (get?_update_seq (Ym _ rfl) _) ?_);show wpAny _ _ (pure ((#[]:Array Value)++vs.toArray).toList) Q E _;rw[show((#[]:Array Value)++vs.toArray).toList=vs by simp];exact Yg h
theorem jQ{h:Heap}{vs:List Value}{b:Addr}{u:Obj}(q:h.get? b=some u):((h.push (seqObj "list" #[] 0)).update h.objs.size (Obj.mapSeq (·++vs.toArray))).get? b=some u:=by have hlt:b<h.objs.size:=Yp q;rw[YJ _ _ _ _ (YA hlt),XD _ _ _ (YA hlt)];exact q
end
def sk:D->Bool
 |.int _=>true
 |.str _=>true
 |.tup (_::_)=>true
 |_=>false
def fk:D->Bool
 |.int _=>true
 |.str _=>true
 |.tup _=>true
 |_=>false
def rE:D->Bool
 |.tup (d::_)=>fk d
 |_=>true
def bh(ds:List D):Bool:=decide (ds.length<64)&&ds.all (okN 28)&&(ds.all fun x=>ds.all fun y=>aA x y)&&ds.all sk&&ds.all rE
theorem cV{ds:List D}(h:bh ds=true):ds.length<64/\Cmps 28 ds/\(∀d∈ds,sk d=true)/\∀d∈ds,rE d=true:=by unfold bh at h;simp only[Yo,YE]at h;obtain⟨⟨⟨⟨h1,h2⟩,h3⟩,h4⟩,h5⟩:=h;exact⟨h1,⟨fun d hd=>Yi.mp h2 d hd,fun x hx y hy=>Yi.mp (Yi.mp h3 x hx) y hy⟩,fun d hd=>Yi.mp h4 d hd,fun d hd=>Yi.mp h5 d hd⟩
def dAt(ds:List D)(i:Nat):D:=ds.getD i (ds.headD (.int 0))
theorem nn{ds:List D}(h:ds≠[])(i:Nat):dAt ds i∈ds:=by
 unfold dAt;cases ds with
 |nil=>exact absurd rfl h
 |cons d r=>
  rw[YO];cases q:(d::r)[i]? with
  |none=>exact Ye
  |some x=>exact YD q
theorem mJ{ds:List D}{i:Nat}(h:i<ds.length):ds[i]?=some (dAt ds i):=by unfold dAt;rw[YO,Yf h];rfl
theorem B4{n:Nat}{ds:List D}(hc:Cmps n ds):Ord fun i j=>ltD (dAt ds i) (dAt ds j):=by
 by_cases hn:ds=[]
 ·subst hn;have e:∀i,dAt [] i=.int 0:=fun i=>by simp[dAt]
  refine⟨fun i j h=>?_,fun i j k h1 h2=>?_⟩
  ·rw[e,e]at h;simp[ltD]at h
  ·rw[e,e];simp[ltD]
 ·have m:=fun i=>nn hn i
  refine⟨fun i j h=>?_,fun i j k h1 h2=>?_⟩
  ·exact(eG n _ _ (hc.1 _ (m i)) (hc.1 _ (m j)) (hc.2 _ (m i) _ (m j))).as h
  ·exact ly (hc.1 _ (m i)) (hc.1 _ (m j)) (hc.1 _ (m k)) (hc.2 _ (m i) _ (m j)) (hc.2 _ (m j) _ (m k)) (hc.2 _ (m i) _ (m k)) (hc.2 _ (m j) _ (m i)) (hc.2 _ (m k) _ (m j)) (hc.2 _ (m k) _ (m i)) h1 h2
theorem qI{n:Nat}{ds:List D}(hc:Cmps n ds){p:Array Nat}(hp:PermN ds.length p)(hr:Ris (fun i j=>ltD (dAt ds i) (dAt ds j)) p ds.length):p.toList.map (dAt ds)=aP ds:=by
 refine eE (n:=n) ?_ hc ?_
 ·have h1:(p.toList.map (dAt ds)).Perm ((List.range ds.length).map (dAt ds)):=hp.perm.map _;have h2:(List.range ds.length).map (dAt ds)=ds:=by
   apply ZO;intro i;rw[Ys];by_cases h:i<ds.length
   ·rw[Zo h,ZV,mJ h]
   ·rw[YS (by rw[YZ];omega),YS (by omega)];rfl
  rw[h2]at h1;exact h1
 ·rw[Vc,List.pairwise_iff_getElem];intro i j hi hj hij;have hs:=hp.size;rw[Yz]at hi hj;have:=hr i j (ZL hij) (by omega);have e:∀k (h:k<p.size),p.getD k 0=p[k]:=fun k h=>by simp[Array.getD,h]
  rw[e i hi,e j hj]at this;simpa using this
theorem Reps.perm{K:Kq}{H:Hp}{vs:List V}{ds:List D}(r:Reps K H vs ds)(hn:ds≠[]):∀(l:List Nat),(∀i∈l,i<ds.length)->Reps K H (l.map fun i=>vs.getD i .non) (l.map (dAt ds))
 |[],_=>.nil
 |i::l,h=>by
  obtain⟨v,h1,h2⟩:=r.get (mJ (h i Ye));have e:vs.getD i .non=v:=by rw[YO,h1];rfl
  rw[YG,YG];show Reps K H (vs.getD i .non::_) _;rw[e];exact .cons h2 (Reps.perm r hn l fun j hj=>h j (Yc _ hj))
theorem Vals.perm{vs:List V}{us:List Value}(r:Vals vs us):∀(l:List Nat),(∀i∈l,i<vs.length)->Vals (l.map fun i=>vs.getD i .non) (l.map fun i=>us.getD i Value.none)
 |[],_=>.nil
 |i::l,h=>by
  have hi:=h i Ye;obtain⟨u,h1,h2⟩:=r.get (Yf hi);have e1:vs.getD i .non=vs[i]:=by rw[YO,Yf hi];rfl
  have e2:us.getD i Value.none=u:=by rw[YO,h1];rfl
  rw[YG,YG];show Vals (vs.getD i .non::_) (us.getD i Value.none::_);rw[e1,e2];exact .cons h2 (Vals.perm r l fun j hj=>h j (Yc _ hj))
def tyD:D->Value
 |.int _=>.type "int"
 |.str _=>.type "str"
 |_=>.type "tuple"
section
variable{X:Cx}{pz:Kp}{σ:St}{H:Hp}{s:Shared}
theorem Rep.ty(I:Inv X pz σ H s){v:V}{d:D}{u:Value}(h:Rep X.K H v d)(hk:fk d=true)(r:RelV v u)(M:Model):Looks M s.heap (typeOf u) (tyD d):=by
 cases d with
 |int i=>cases h;obtain⟨t,rfl⟩:=(show ∃t,u=Value.int _ t from r);exact Looks.of_pure rfl
 |str i=>cases h;obtain⟨t,rfl⟩:=(show ∃t,u=Value.str _ t from r);exact Looks.of_pure rfl
 |tup ds=>
  cases h with
  |tup h1 h2=>
   cases(show u=Value.ref _ from r);obtain⟨its,rv,⟨o,ho,hc,n,hd⟩,_⟩:=I.tuple (SqT.of h1);have:=(Looks.ld (M:=M) (part:=none) ho).andThen (f:=fun o=>pure o.cls) .now;rw[hc]at this;exact this
 |_=>cases hk
theorem ri{x y:D}(h:aA x y=true)(hx:fk x=true):tyD x=tyD y:=by
 rcases bq h with⟨i,j,rfl,rfl⟩|⟨i,j,rfl,rfl⟩|⟨i,j,rfl,rfl⟩|⟨i,j,rfl,rfl,_⟩
 ·rfl
 ·cases hx
 ·rfl
 ·rfl
def k4:List D->SortKind
 |.tup (d::_)::_=>tuples' (tyD d != .type "tuple")
 |_=>oneType'
theorem qU(I:Inv X pz σ H s):∀{vs:List V}{ds:List D}{us:List Value},Reps X.K H vs ds->Vals vs us->(∀d∈ds,∃x r,d=.tup (x::r)/\fk x=true)->∀T:Value,(∀x r,.tup (x::r)∈ds->tyD x=T)->
  ∃fs:List Value,KatTups s.heap us fs/\fs.length=us.length/\∀M,∀v∈fs,Looks M s.heap (typeOf v) T:=by
 intro vs ds us h;exact Reps.ind (M:=fun vs ds=>∀us:List Value,Vals vs us->(∀d∈ds,∃x r,d=.tup (x::r)/\fk x=true)->∀T:Value,(∀x r,.tup (x::r)∈ds->tyD x=T) ->     ∃fs:List Value,KatTups s.heap us fs/\fs.length=us.length/\∀M,∀v∈fs,Looks M s.heap (typeOf v) T) (fun us r _ _ _=>by cases r;exact⟨[],.nil,rfl,fun _ _ h=>by cases h⟩) (fun h _ ih us r0 hd T hT=>by
  cases r0 with
  |cons r t=>
  obtain⟨x,rr,rfl,hx⟩:=hd _ Ye;obtain⟨fs,f1,f2,f3⟩:=ih _ t (fun d m=>hd d (Yc _ m)) T fun x r m=>hT x r (Yc _ m)
  cases h with
  |tup h1 h2=>
   cases(show _=Value.ref _ from r);obtain⟨its,rv,⟨o,ho,hc,n,hdt⟩,_⟩:=I.tuple (SqT.of h1);cases h2 with
   |cons g1 g2=>
    cases rv with
    |cons k1 k2=>
     refine⟨_::fs,KatTups.cons ho hc hdt (by simp;rfl) f1,by rw[Yw,Yw,f2],fun M v hv=>?_⟩;rcases Yr.mp hv with rfl|hv
     ·rw[<-hT x rr Ye];exact g1.ty I hx k1 M
     ·exact f3 M v hv) h us
theorem np{d:D}(h:sk d=true)(ht:gA d=false):fk d=true:=by cases d<;>first|rfl|cases h|cases ht
theorem yG(I:Inv X pz σ H s){vs:List V}{ds:List D}{us:List Value}(r:Reps X.K H vs ds)(rv:Vals vs us)(ok:bh ds=true)(h2:2<=us.length){A:Around}{M:Model}{Q:SortKind->Shared->Prop}{E:Kv}(hQ:Q (k4 ds) s) :
  wpAny M A (keyKind' us.toArray) Q E s:=by
 obtain⟨hl,hc,hs,hf⟩:=cV ok;have l1:=r.length;have l2:=rv.length;cases ds with
 |nil=>rw[Zn]at l1;omega
 |cons d dr=>
  have md:d∈d::dr:=Ye;cases ht:gA d with
  |true=>
   cases d with
   |tup xs=>
    cases xs with
    |nil=>have:=hs _ md;cases this
    |cons x rr=>
     have hx:fk x=true:=hf _ md;have all:∀d'∈(D.tup (x::rr)::dr),∃y r',d'=.tup (y::r')/\fk y=true/\tyD y=tyD x:=fun d' m=>by
      have hcm:=hc.2 _ md _ m;rcases bq hcm with⟨i,j,e,_⟩|⟨i,j,e,_⟩|⟨i,j,e,_⟩|⟨i,j,e,e2,hcs⟩
      ·cases e
      ·cases e
      ·cases e
      ·cases e;subst e2;cases j with
       |nil=>have:=hs _ m;cases this
       |cons y r'=>
        rw[bi,Yo]at hcs;exact⟨y,r',rfl,hf _ m,(ri hcs.1 hx).symm⟩
     obtain⟨fs,f1,f2,f3⟩:=qU I r rv (fun d' m=>by obtain⟨y,r',e,h,_⟩:=all d' m;exact⟨y,r',e,h⟩) (tyD x) fun y r' m=>by
      obtain⟨y',r'',e,_,h⟩:=all _ m;cases e;exact h
     exact kat_kind f1 (by omega) (f3 M) (by cases x<;>rfl) hQ
   |_=>cases ht
  |false=>
   have hd:fk d=true:=np (hs d md) ht;have e:k4 (d::dr)=oneType':=by cases d<;>first|rfl|cases ht
   rw[e]at hQ;have hT:∀u∈us,Looks M s.heap (typeOf u) (tyD d):=fun u hu=>by
    obtain⟨i,hi,eu⟩:=ZP hu;have hiv:i<vs.length:=by omega
    obtain⟨u',e1,e2⟩:=rv.get (Yf hiv);rw[Yf hi,eu]at e1;cases e1;obtain⟨d',e3,e4⟩:=r.getV (Yf hiv);have m:=YD e3;have hcm:=hc.2 _ md _ m;rw[ri hcm hd];refine e4.ty I ?_ e2 M;refine np (hs d' m) ?_;rcases bq hcm with⟨i,j,rfl,rfl⟩|⟨i,j,rfl,rfl⟩|⟨i,j,rfl,rfl⟩|⟨i,j,rfl,rfl,_⟩
    ·rfl
    ·rfl
    ·rfl
    ·cases ht
   refine kas_kind h2 hT ?_ ?_ hQ
   ·cases d<;>first|rfl|(simp[fk]at hd;done)|(simp[gA]at ht;done)
   ·cases d<;>rfl
theorem zc{A:Around}{prog:Program}{w:World}{b:Bool}{Q:Kb}{n1 n2:Nat}:∀{us ws:List Value}{ds es:List D} (i:Nat),LexOk A s us ws ds es->(b=true->i=0->∀u w' d e ur wr dr er,us=u::ur->ws=w'::wr->ds=d::dr->es=e::er->∀(Q:Kb) (E:Kv),Q (ltD d e) s->wpAny (model prog w) A (oneLt' true u w') Q E s)->
  us.length+n2=ws.length+n1->Q (bS ds es) s->KatLex prog w A b (decide (n1<n2)) Q (us.zip ws) i s:=by
 intro us ws ds es i h;induction h generalizing i with
 |@nl ws es hl=>
  intro _ hn hQ;rw[List.zip_nil_left];refine kat_nil ?_;rw[Zn]at hn;cases es with
  |nil=>
   rw[Zn]at hl;rw[show bS [] []=false by simp[bS]]at hQ;rw[YB (by omega)];exact hQ
  |cons c r=>
   rw[Yw]at hl;rw[show bS [] (c::r)=true by simp[bS]]at hQ;rw[YK (by omega)];exact hQ
 |@nr vs ds hl=>
  intro _ hn hQ;rw[List.zip_nil_right];refine kat_nil ?_;rw[Zn]at hn;cases ds with
  |nil=>
   rw[Zn]at hl;rw[show bS [] []=false by simp[bS]]at hQ;rw[YB (by omega)];exact hQ
  |cons c r=>
   rw[Yw]at hl;rw[show bS (c::r) []=false by simp[bS]]at hQ;rw[YB (by omega)];exact hQ
 |@cons v w' d e _ _ _ _ he hlt hx ih=>
  intro h1 hn hQ;rw[VO];rw[Yw,Yw]at hn;refine kat_cons (he prog w _ _ ?_);cases q:eqd d e with
  |true=>
   rw[bS,if_pos q]at hQ;exact kat_yes (ih (i+1) (fun _ z=>by omega) (by omega) hQ)
  |false=>
   rw[bS,if_neg (by rw[q];exact Yj)]at hQ;refine kat_no ?_;cases hb:(b&&i == 0)with
   |true=>
    rw[Yo]at hb;exact h1 hb.1 (by simpa using hb.2) _ _ _ _ _ _ _ _ rfl rfl rfl rfl _ _ hQ
   |false=>exact kat_one _ _ (hlt q prog w _ _ hQ)
theorem wM{A:Around}{prog:Program}{w:World}{x y:V}{d e:D}{u v:Value}(h1:Rep X.K H x d)(h2:Rep X.K H y e)(c:aA d e=true)(hd:fk d=true)(ht:gA d=false)(r1:RelV x u)(r2:RelV y v){Q:Kb}{E:Kv}(hQ:Q (ltD d e) s) :
  wpAny (model prog w) A (oneLt' true u v) Q E s:=by
 rcases bq c with⟨i,j,rfl,rfl⟩|⟨i,j,rfl,rfl⟩|⟨i,j,rfl,rfl⟩|⟨i,j,rfl,rfl,_⟩
 ·cases h1;cases h2;obtain⟨t,rfl⟩:=(show ∃t,u=Value.int _ t from r1)
  obtain⟨t',rfl⟩:=(show ∃t,v=Value.int _ t from r2)
  exact oneLt_int (by rw[ltD]at hQ;exact hQ)
 ·cases hd
 ·cases h1;cases h2;obtain⟨t,rfl⟩:=(show ∃t,u=Value.str _ t from r1)
  obtain⟨t',rfl⟩:=(show ∃t,v=Value.str _ t from r2)
  exact oneLt_str (by rw[ltD]at hQ;exact hQ)
 ·cases ht
theorem A6(I:Inv X pz σ H s){vs:List V}{ds:List D}{us:List Value}(r:Reps X.K H vs ds)(rv:Vals vs us)(ok:bh ds=true){A:Around}(hu:A.units+60<cLine){prog:Program}{w:World}{i j:Nat}{C:Kb}(hi:i<us.length)(hj:j<us.length)(hQ:C (ltD (dAt ds i) (dAt ds j)) s) :
  kas_ask prog w A (k4 ds) us i j C s:=by
 obtain⟨hl,hc,hs,hf⟩:=cV ok;have l1:=r.length;have l2:=rv.length;obtain⟨v,e1,r1⟩:=r.get (mJ (show i<ds.length by omega));obtain⟨v',e2,r2⟩:=r.get (mJ (show j<ds.length by omega));obtain⟨u,e3,k1⟩:=rv.get e1;obtain⟨u',e4,k2⟩:=rv.get e2;have hn:ds≠[]:=fun z=>by rw[z,Zn]at l1;omega
 have mi:=nn hn i;have mj:=nn hn j;have hcm:=hc.2 _ mi _ mj;unfold kas_ask;have g1:us.getD i Value.none=u:=by rw[YO,e3];rfl
 have g2:us.getD j Value.none=u':=by rw[YO,e4];rfl
 rw[g1,g2];generalize hx:dAt ds i=x at *;generalize hy:dAt ds j=y at *;cases ht:gA x with
 |false=>
  have e:k4 ds=oneType':=by
   cases ds with
   |nil=>exact absurd rfl hn
   |cons d dr=>
    have:=hc.2 _ mi d Ye;rcases bq this with⟨i,j,rfl,rfl⟩|⟨i,j,rfl,rfl⟩|⟨i,j,rfl,rfl⟩|⟨i,j,rfl,rfl,_⟩
    ·rfl
    ·rfl
    ·rfl
    ·cases ht
  rw[e,keyLt'_oneType];exact wM r1 r2 hcm (np (hs _ mi) ht) ht k1 k2 hQ
 |true=>
  cases x with
  |tup xs=>
   cases xs with
   |nil=>have:=hs _ mi;cases this
   |cons x0 xr=>
    rcases bq hcm with⟨_,_,e,_⟩|⟨_,_,e,_⟩|⟨_,_,e,_⟩|⟨xs',ys,e,rfl,hcs⟩
    ·cases e
    ·cases e
    ·cases e
    ·cases e;have ek:k4 ds=tuples' (tyD x0 != .type "tuple"):=by
      cases ds with
      |nil=>exact absurd rfl hn
      |cons d dr=>
       have:=hc.2 _ mi d Ye;rcases bq this with⟨_,_,e,_⟩|⟨_,_,e,_⟩|⟨_,_,e,_⟩|⟨_,zs,e,rfl,hz⟩
       ·cases e
       ·cases e
       ·cases e
       ·cases e;cases zs with
        |nil=>have:=hs (.tup []) Ye;cases this
        |cons z0 zr=>
         rw[bi,Yo]at hz;show tuples' (tyD z0 != _)=_;rw[ri hz.1 (hf _ mi)]
     rw[ek];cases r1 with
     |tup a1 a2=>
      cases r2 with
      |tup b1 b2=>
       cases(show u=Value.ref _ from k1);cases(show u'=Value.ref _ from k2);obtain⟨its1,rv1,⟨o1,ho1,hc1,n1,hd1⟩,_⟩:=I.tuple (SqT.of a1);obtain⟨its2,rv2,⟨o2,ho2,hc2,n2,hd2⟩,_⟩:=I.tuple (SqT.of b1);have oi:okN 28 (.tup (x0::xr))=true:=hc.1 _ mi;have oj:okN 28 (.tup ys)=true:=hc.1 _ mj;have hlex:=Reps.lex I 27 A (by omega) (Rep.lt I 27 A (by omega)) a2 b2 (bL oi) (bL oj) hcs rv1 rv2;refine kat_lt ho1 hd1 ho2 hd2 ?_;simp only[Yx];refine zc 0 hlex (fun hb _ u0 w0 d0 e0 ur wr dr er q1 q2 q3 q4 Q E hq=>?_) (by omega) (by rw[ltD]at hQ;exact hQ);subst q1 q2 q4;cases q3;cases a2 with
       |cons a3 a4=>
        cases b2 with
        |cons b3 b4=>
         cases rv1 with
         |cons c1 c2=>
          cases rv2 with
          |cons c3 c4=>
           rw[bi,Yo]at hcs;refine wM a3 b3 hcs.1 (hf _ mi) ?_ c1 c3 hq;cases x0<;>first|rfl|(simp[tyD]at hb)
  |_=>cases ht
theorem nE(I:Inv X pz σ H s){vs:List V}{ds:List D}{us:List Value}(r:Reps X.K H vs ds)(rv:Vals vs us)(ok:bh ds=true)(hu:X.A.units+64<cLine){Q:Kv}
  (hQ:∀(a:Addr) (p:List Nat) (s':Shared),H a=none->(∀i∈p,i<ds.length)->p.length=ds.length->p.map (dAt ds)=aP ds->Inv X pz σ (upd H a (.lst (p.map fun i=>vs.getD i .non))) s'->Q (.ref a) s'):iP X.prog X.w X.A Q us s:=by
 obtain⟨hl,hc,_,_⟩:=cV ok;have l1:=r.length;have l2:=rv.length;refine⟨by omega,k4 ds,_,B4 hc,fun h2 h' k Q E q=>yG (I.kept (t':=s.toks) k) r rv ok h2 q,fun h' k i j C hi hj hq=>?_,fun p hp hr a h' e k hsz hget=>?_⟩
 ·have hu':X.A.in1.in1.units+60<cLine:=by show X.A.units+1+1+60<cLine;omega
  exact A6 (I.kept (t':=s.toks) k) r rv ok hu' hi hj hq
 ·have hp':PermN ds.length p:=by rw[<-l1,l2];exact hp
  have hr':Ris (fun i j=>ltD (dAt ds i) (dAt ds j)) p ds.length:=by rw[<-l1,l2];exact hr
  have eo:=qI hc hp' hr';have bd:∀i∈p.toList,i<ds.length:=fun i hi=>YI.mp (hp'.perm.mem_iff.mp hi)
  have hna:H a=none:=I.hok.fresh hsz;have lenp:p.toList.length=ds.length:=by rw[Yz];exact hp'.size
  refine hQ a p.toList _ hna bd lenp eo (I.laid (t':=s.toks) k hsz ⟨?_,p.toList.map fun i=>us.getD i Value.none,e,Vals.perm rv p.toList fun i hi=>by rw[l1];exact bd i hi,?_⟩)
  ·rw[Yd,lenp,YR];omega
  ·exact hget
end
section
variable{X:Cx}{e:Expr}{p pos:Pos}{fa:Dd}
theorem oK(hu:X.A.units+64<cLine):CallR X (.builtin "sorted") (fun xs H Q=>∃a vs ds,xs=[.ref a]/\(SqL X.K H a vs\/SqT X.K H a vs)/\Reps X.K H vs ds/\bh ds=true/\∀l (p:List Nat),H l=none->(∀i∈p,i<ds.length)->p.length=ds.length->p.map (dAt ds)=aP ds->Q (.ref l) (upd H l (.lst (p.map fun i=>vs.getD i .non)))):=by
 intro pz s σ H xs us Q I r h;obtain⟨a,vs,ds,rfl,hq,hr,ok,q⟩:=h;obtain⟨u,rfl,ru⟩:=dI r;cases ru;refine fz ?_;have fin:∀its:List Value,Vals vs its->iP X.prog X.w X.A (EP X pz σ Q) its {s with heap:=(s.heap.push (seqObj "list" #[] 0)).update s.heap.objs.size (Obj.mapSeq (·++its.toArray))}:=fun its rv=>
  nE (I.kept (t':=s.toks) fun b u e=>jQ e) hr rv ok hu fun l p s' hl b1 b2 b3 I'=>⟨.ref l,_,I',rfl,q l p hl b1 b2 b3⟩
 rcases hq with hq|hq
 ·obtain⟨its,rv,pl,hz⟩:=I.list hq;exact collect_list pl.isList (fin its rv) (by rw[<-rv.length];exact hz)
 ·obtain⟨its,rv,pl,hz⟩:=I.tuple hq;exact kL pl (fin its rv) (by rw[<-rv.length];exact hz)
def dC(fa:Dd):DF->Option (List D):=fun ρ=>(fa ρ).bind fun d=>(df d).bind fun ds=>if bh ds=true then some (aP ds)else none
theorem dD(hu:X.A.units+64<cLine)(hg:Gl X "sorted")(hm:X.mg "sorted"=none)(ha:PDR X e fa)(hs:starEach [e] X.env=[(false,eval e X.env)]:=by rfl)(hpl:(backTo pos (starEach [] X.env)).any (·.1)=false:=by rfl) :
  PDO X (.Call (.Name "sorted" p) [e] [] pos) (asL (dC fa)):=
 (dX (oK hu) hg hm ip (ba ha bK hs) (by decide) (by decide) hs hpl).imp fun σ H Q=>un7 fun P F ρ ob hf I k=>by
  unfold asL dC at hf;cases ha:fa ρ with
  |none=>rw[ha]at hf;cases hf
  |some dx=>
  rw[ha,Yb]at hf;cases hi:df dx with
  |none=>rw[hi]at hf;cases hf
  |some ds=>
  rw[hi,Yb]at hf;split at hf
  ·rename_i ok;cases hf;refine⟨P,F,ρ,dx,ha,I,fun x F1 H1 e1 rx=>?_⟩;have I1:=I.evo e1;have fin:∀(vs:List V),Reps X.K F1 vs ds->∀l (p:List Nat),H1 l=none->(∀i∈p,i<ds.length)->p.length=ds.length->p.map (dAt ds)=aP ds->Q (.ref l) (upd H1 l (.lst (p.map fun i=>vs.getD i .non))):=fun vs r l p hl b1 b2 b3=>by
    refine k l F1 _ (e1.trans (Evo.side e1.hp hl)) ⟨⟨e1.back I.toDHp hl,(e1.hp.free hl).1⟩,_,aX,?_⟩;show Reps X.K F1 _ (aP ds);by_cases hn:ds=[]
    ·subst hn;have:p=[]:=YV.mp b2;rw[this];exact .nil
    ·rw[<-b3];exact r.perm hn p b1
   cases dx with
   |lst ds'=>
    cases hi;obtain⟨q,vs,rfl,h1,h2⟩:=c7 I1 rx;exact⟨q,vs,ds,rfl,.inl h1,h2.same I1.sub,ok,fin vs h2⟩
   |tup ds'=>
    cases hi;obtain⟨q,vs,rfl,h1,h2⟩:=gs I1 rx;exact⟨q,vs,ds,rfl,.inr h1,h2.same I1.sub,ok,fin vs h2⟩
   |_=>cases hi
  ·cases hf
end
end L2
namespace L2
open PySem PySem.Spec PyProof.Rows
def gJ{α:Type}(xs:List α)(lo hi:Option Int):List α:=(xs.drop (HT.sIx xs.length 0 lo)).take (HT.sIx xs.length xs.length hi-HT.sIx xs.length 0 lo)
theorem Reps.cut{K:Kq}{F:Hp}{vs:List V}{ds:List D}(r:Reps K F vs ds)(lo hi:Option Int):Reps K F (tz vs lo hi) (gJ ds lo hi):=by unfold tz gJ;rw[r.length];exact(r.drop _).take _
def tOI(K:Kq)(f:DF->Option (Option Int)):TO:=fun σ H Q=>∃P F ρ b,f ρ=some b/\DInv K P F H ρ σ/\∀F' H',Evo P F H F' H'->Q b H'
def PDB(X:Cx)(e:Option Expr)(f:DF->Option (Option Int)):Prop:=PO X e (tOI X.K f)
def bNo:DF->Option (Option Int):=fun _=>some none
def bI(f:Dd):DF->Option (Option Int):=fun ρ=>match f ρ with
 |some (.int i)=>some (some i)
 |_=>none
section
variable{X:Cx}{e a b c o:Expr}{es:List Expr}{pos p p2:Pos}{lo hi:Option Expr}{fe fa fb:Dd}{fl fh:DF->Option (Option Int)}
theorem PO.imp{t t':TO}{e:Option Expr}(h:PO X e t)(i:∀σ H Q,t' σ H Q->t σ H Q):PO X e t':=fun pz s σ H Q I q=>h pz s σ H Q I (i σ H Q q)
theorem AZ:PDB X none bNo:=PO.imp xG fun σ H Q=>un7 fun P F ρ b hf I k=>by
 cases hf;exact k F H (Evo.refl I.toDHp)
theorem vR{f:Dd}(h:PDE X e f):PDB X (some e) (bI f):=PO.imp (yH h) fun σ H Q=>un7 fun P F ρ b hf I k=>by
 unfold bI at hf;split at hf
 ·rename_i i q;cases hf;refine⟨P,F,ρ,_,q,I,fun v F' H' ev r=>?_⟩;cases r;exact⟨i,rfl,k F' H' ev⟩
 ·cases hf
def slL(fe:Dd)(fl fh:DF->Option (Option Int)):DF->Option (List D):=fun ρ=>match fe ρ with
 |some (.lst xs)=>(fl ρ).bind fun l=>(fh ρ).map fun h=>gJ xs l h
 |_=>none
theorem lz(he:PDR X e fe)(hl:PDB X lo fl)(hh:PDB X hi fh):PDO X (.Subscript e (.Slice lo hi none p2) pos) (asL (slL fe fl fh)):=(wC zb he hl hh).imp fun σ H Q=>un7 fun P F ρ ob hf I k=>by
 unfold asL at hf;cases q:slL fe fl fh ρ with
 |none=>rw[q]at hf;cases hf
 |some out=>
 rw[q]at hf;cases hf;unfold slL at q;split at q
 ·rename_i xs q1;cases q2:fl ρ with
  |none=>rw[q2]at q;cases q
  |some l=>
  rw[q2,Yb]at q;cases q3:fh ρ with
  |none=>rw[q3]at q;cases q
  |some h=>
  rw[q3]at q;cases q;refine⟨P,F,ρ,_,q1,I,fun x F1 H1 e1 rx=>⟨P,F1,ρ,l,q2,I.evo e1,fun F2 H2 e2=>⟨P,F2,ρ,h,q3,(I.evo e1).evo e2,fun F3 H3 e3=>?_⟩⟩⟩;have e123:=(e1.trans e2).trans e3;obtain⟨l',vs,rfl,h1,h2⟩:=c7 (I.evo e123) ((rx.evo e2).evo e3);exact⟨l',vs,rfl,h1,fun p hp=>k p F3 _ (e123.trans (Evo.side e123.hp hp)) ⟨⟨e123.back I.toDHp hp,(e123.hp.free hp).1⟩,_,aX,h2.cut l h⟩⟩
 ·cases q
def wt(K:Kq):R2:=fun x y H Q=>∃a b xs ys,x=.ref a/\y=.ref b/\SqT K H a xs/\SqT K H b ys/\xs.length+ys.length<=sizeLine /\
 (xs=[]->Q (.ref b) H)/\(xs≠[]->ys=[]->Q (.ref a) H)/\(xs≠[]->ys≠[]->∀p,H p=none->Q (.ref p) (upd H p (.tup (xs++ys))))
theorem uU:OpR X (binaryOp .Add) (wt X.K):=by
 intro pz s σ H x y v u Q I rx ry h;obtain⟨a,b,xs,ys,rfl,rfl,ha,hb,hz,q0,q1,q2⟩:=h;by_cases hx:xs=[]
 ·cases rx;cases ry;obtain⟨its,r1,p1,_⟩:=I.tuple ha;obtain⟨its2,r2,p2,_⟩:=I.tuple hb;have hi:its=[]:=r1.nil_iff.mpr hx;obtain⟨⟨cls,dd,data,sl⟩,ho,hc,n,hd⟩:=id p1;obtain⟨⟨cls2,dd2,data2,sl2⟩,ho2,hc2,n2,hd2⟩:=id p2;simp only at hc hd hc2 hd2;subst hc hd hc2 hd2;exact concat_meets ⟨_,ho,rfl⟩ ⟨_,ho2,rfl⟩ noFill_tuple_add seq_tuple_add PySem.F.slot_tuple_add PySem.F.entry_tuple_add (PySem.F.args_tuple_add_2 _ _)
   (tuple_addW0 a b its.toArray its2.toArray n n2 dd dd2 sl sl2 (by simp[hi])) ⟨ho,ho2,⟨.ref b,H,I,rfl,q0 hx⟩⟩
 ·exact xT pz s σ H _ _ v u Q I rx ry ⟨a,b,xs,ys,rfl,rfl,ha,hb,hx,hz,q1 hx,q2 hx⟩
def aQ:D->D->Option D
 |.int i,.int j=>some (.int (i+j))
 |.str x,.str y=>if x.length+y.length<=16777216 then some (.str (x++y))else none
 |.lst xs,.lst ys=>if xs.length+ys.length<=16777216 then some (.lst (xs++ys))else none
 |.tup xs,.tup ys=>if xs.length+ys.length<=16777216 then some (.tup (xs++ys))else none
 |_,_=>none
theorem Reps.nil_iff{K:Kq}{H:Hp}{vs:List V}{ds:List D}(r:Reps K H vs ds):vs=[]↔ds=[]:=by
 cases r with
 |nil=>simp
 |cons _ _=>simp
theorem xF{K:Kq}:oU K (fun x y H Q=>Du x y H Q\/(zD K x y H Q\/wt K x y H Q)) aQ:=by
 intro P F H ρ σ x y dx dy d Q hf I rx ry k;unfold aQ at hf;split at hf
 ·cases hf;exact .inl (.inl ⟨_,_,cr rx,cr ry,k _ F H (Evo.refl I.toDHp) .int⟩)
 ·split at hf
  ·rename_i h;cases hf;exact .inl (.inr ⟨_,_,iQ rx,iQ ry,by rw[YR];exact h,k _ F H (Evo.refl I.toDHp) .str⟩)
  ·cases hf
 ·split at hf
  ·rename_i hz;cases hf;obtain⟨l,vs,rfl,h1,h2⟩:=c7 I rx;obtain⟨l2,vs2,rfl,h3,h4⟩:=c7 I ry;exact .inr (.inl ⟨l,l2,vs,vs2,rfl,rfl,h1,h3,by rw[h2.length,h4.length,YR];exact hz,fun p hp=>k _ _ _ (Evo.laid I.toDHp hp) (.lst (SqL.of aX) ((h2.append h4).same (gI (I.toDHp.free hp).1)))⟩)
  ·cases hf
 ·split at hf
  ·rename_i xs ys hz;cases hf;obtain⟨l,vs,rfl,h1,h2⟩:=gs I rx;obtain⟨l2,vs2,rfl,h3,h4⟩:=gs I ry;have tr:∀{y:V}{ds:List D},RepS K H F y (.tup ds)->Rep K F y (.tup ds):=fun h=>by
    rcases h with h|⟨_,ob,_,_,_,_,_,hfl,z⟩
    ·exact h
    ·cases ob<;>first|(cases z;done)|cases hfl
   refine .inr (.inr ⟨l,l2,vs,vs2,rfl,rfl,h1,h3,by rw[h2.length,h4.length,YR];exact hz,fun z=>?_,fun _ z=>?_,fun _ _ p hp=>?_⟩)
   ·have:xs=[]:=h2.nil_iff.mp z;subst this;exact k _ F H (Evo.refl I.toDHp) (tr ry)
   ·have:ys=[]:=h4.nil_iff.mp z;subst this;rw[Zf]at k;exact k _ F H (Evo.refl I.toDHp) (tr rx)
   ·exact k _ _ _ (Evo.laid I.toDHp hp) (.tup aX ((h2.append h4).same (gI (I.toDHp.free hp).1)))
  ·cases hf
 ·cases hf
theorem aI(ha:PDR X a fa)(hb:PDR X b fb):PDE X (.BinOp a .Add b pos) (d2 aQ fa fb):=fZ ((B5.or qF).or (yQ.or uU)) xF ha hb
def isT:String->D->Option Bool
 | "int",.int _=>some true
 | "bool",.int _=>some false
 | "list",.lst _=>some true
 |_,_=>none
def Fe(K:Kq):List V->Hp->VK->Prop:=fun xs H Q=>∃x T d b,xs=[x,.ty T]/\Rep K H x d/\isT T d=some b/\Q (.bl b) H
theorem vL:CallR X (.builtin "isinstance") (Fe X.K):=by
 intro pz s σ H xs us Q I r h;obtain⟨x,T,d,b,rfl,hr,ht,q⟩:=h;obtain⟨u,w',rfl,r1,r2⟩:=DZ r;cases(show w'=Value.type T from r2);have f1:EP X pz σ Q (.bool b) s:=⟨.bl b,H,I,rfl,q⟩
 have f2:EP X pz σ Q (.bool b) {s with toks:=s.toks+1}:=⟨.bl b,H,I.tok _,rfl,q⟩
 unfold isT at ht;split at ht<;>cases ht<;>cases hr
 ·obtain⟨t,rfl⟩:=(show ∃t,u=Value.int _ t from r1);exact PySem.IsiPair.int_int f1
 ·obtain⟨t,rfl⟩:=(show ∃t,u=Value.int _ t from r1);exact PySem.IsiPair.int_bool f2
 ·cases(show u=Value.ref _ from r1);rename_i hs _;obtain⟨_,_,⟨o,n,e,c,_⟩,_⟩:=I.list hs;exact PySem.IsiPair.list_list e c f1
def nM(T:String)(d:D):Option D:=(isT T d).map .bl
theorem mG{x:Str}{T:String}{p1:Pos}(hg:Gl X "isinstance")(hm:X.mg "isinstance"=none)(hgt:Gl X x)(hmt:X.mg x=none)(hv:bootBuiltins x=some (.type T))(ha:PDN X a fa)(hn:x ≠ "__name__":=by decide)(hd:(x == ("__debug__":Str))=false:=by decide)
  (hs:starEach [a,.Name x p1] X.env=[(false,eval a X.env),(false,eval (.Name x p1) X.env)]:=by rfl) (hs2:starEach [.Name x p1] X.env=[(false,eval (.Name x p1) X.env)]:=by rfl) (hpl:(backTo pos (starEach [.Name x p1] X.env)).any (·.1)=false:=by rfl) :
  PDE X (.Call (.Name "isinstance" p) [a,.Name x p1] [] pos) (d1 (nM T) fa):=
 (dX vL hg hm iN (ba ha (ba (yw (v:=.ty T) hgt hmt hv rfl hn hd) bK hs2) (by rw[hs,hs2])) (by decide) (by decide) (by rw[hs,hs2]) hpl).imp fun σ H Q=>un7 fun P F ρ d hf I k=>by
  unfold d1 nM at hf;cases q:fa ρ with
  |none=>rw[q]at hf;cases hf
  |some dx=>
   rw[q,Yb]at hf;cases q2:isT T dx with
   |none=>rw[q2]at hf;cases hf
   |some b=>
    rw[q2]at hf;cases hf;exact⟨P,F,ρ,dx,q,I,fun y F1 H1 e1 r1=>⟨y,T,dx,b,rfl,r1,q2,k _ F1 H1 e1 .bl⟩⟩
end
section
variable{X:Cx}{pz:Kp}{σ:St}{H:Hp}{s:Shared}
theorem o8(I:Inv X pz σ H s){a:Addr}{xs ys:List V}(h1:SqT X.K H a xs)(h2:SqL X.K H a ys):False:=by obtain⟨_,_,⟨o,e,c,_⟩,_⟩:=I.tuple h1;obtain⟨_,_,⟨o',n,e',c',_⟩,_⟩:=I.list h2;rw[e]at e';cases e';rw[c]at c';injection c' with z;exact absurd z (by decide)
theorem Reps.detOf{n:Nat}(ih:∀{v:V}{d d':D},okN n d=true->okN n d'=true->Rep X.K H v d->Rep X.K H v d'->d=d'){vs:List V}{ds:List D}(h:Reps X.K H vs ds):∀ds':List D,(∀d∈ds,okN n d=true)->(∀d∈ds',okN n d=true)->Reps X.K H vs ds'->ds=ds':=
 Reps.ind (M:=fun vs ds=>∀ds':List D,(∀d∈ds,okN n d=true)->(∀d∈ds',okN n d=true)->Reps X.K H vs ds'->ds=ds') (fun ds' _ _ r=>by cases r;rfl) (fun a _ i ds' h h' r=>by
  cases r with
  |cons a' r'=>rw[ih (h _ Ye) (h' _ Ye) a a',i _ (fun d m=>h d (Yc _ m)) (fun d m=>h' d (Yc _ m)) r']) h
theorem Rep.det1(I:Inv X pz σ H s)(n:Nat)(ih:∀m,n=m+1->∀{v:V}{d d':D},okN m d=true->okN m d'=true->Rep X.K H v d->Rep X.K H v d'->d=d'){v:V}{d d':D}(h:okN n d=true)(h':okN n d'=true)(q:Rep X.K H v d)(r:Rep X.K H v d'):d=d':=by
 cases q with
 |non=>cases r;rfl
 |bl=>cases r;rfl
 |int=>cases r;rfl
 |str=>cases r;rfl
 |tup a1 a2=>
  cases r with
  |tup b1 b2=>
   rw[a1]at b1;cases b1;cases n with
   |zero=>cases h
   |succ n=>rw[Reps.detOf (ih n rfl) a2 _ (bL h) (bL h') b2]
  |lst b1 b2=>exact(o8 I (SqT.of a1) b1).elim
  |dT b1 b2=>rw[a1]at b1;cases b1
  |dK b1 b2=>rw[a1]at b1;cases b1
  |ins b1 b2=>rw[a1]at b1;cases b1
 |lst a1 a2=>
  cases r with
  |tup b1 b2=>exact(o8 I (SqT.of b1) a1).elim
  |lst b1 b2=>
   have e:=I.list_inj a1 b1;subst e;cases n with
   |zero=>cases h
   |succ n=>rw[Reps.detOf (ih n rfl) a2 _ (bL h) (bL h') b2]
  |_=>cases n<;>cases h'
 |_=>cases n<;>cases h
theorem Rep.det(I:Inv X pz σ H s)(n:Nat):∀{v:V}{d d':D},okN n d=true->okN n d'=true->Rep X.K H v d->Rep X.K H v d'->d=d':=by
 induction n with
 |zero=>exact fun h h' q r=>Rep.det1 I 0 (fun m e=>by cases e) h h' q r
 |succ n ih=>exact fun h h' q r=>Rep.det1 I (n+1) (fun m e=>by cases e;exact ih) h h' q r
theorem ve{v v':V}{u:Value}(h:RelV v u)(h':RelV v' u):v=v':=RelV.inj h h'
open Classical in
noncomputable def p4 (us:List Value)(ds:List D)(dy:D)(u:Value):Bool:=decide (∃(i:Nat) (d:D),us[i]?=some u/\ds[i]?=some d/\eqd d dy=true)
open Classical in
theorem lV(I:Inv X pz σ H s){n:Nat}{vs:List V}{ds:List D}{us:List Value}{dy:D}(r:Reps X.K H vs ds)(rv:Vals vs us)(ok:∀d∈ds,okN n d=true){i:Nat}{u:Value}{d:D}(hu:us[i]?=some u)(hd:ds[i]?=some d):p4 us ds dy u=eqd d dy:=by
 unfold p4;cases q:eqd d dy with
 |true=>exact YK ⟨i,d,hu,hd,q⟩
 |false=>
  refine YB ?_;rintro⟨j,d',h1,h2,h3⟩;obtain⟨v,a1,a2⟩:=r.get hd;obtain⟨v',b1,b2⟩:=r.get h2;obtain⟨u1,c1,c2⟩:=rv.get a1;obtain⟨u2,c3,c4⟩:=rv.get b1;rw[hu]at c1;cases c1;rw[h1]at c3;cases c3;have e:=ve c2 c4;subst e;have:=a2.det I n (ok d (YD hd)) (ok d' (YD h2)) b2;rw[this,h3]at q;cases q
theorem pN(I:Inv X pz σ H s){vs:List V}{ds:List D}{us:List Value}{y:V}{dy:D}{uy:Value}(r:Reps X.K H vs ds)(rv:Vals vs us)(ok:∀d∈ds,okN 29 d=true)(ry:Rep X.K H y dy)(oy:okN 30 dy=true)(ky:RelV y uy){A:Around}(hu:A.units+60<cLine) :
  ∀u∈us,SeqAt.EqAt A s u uy (p4 us ds dy u):=fun u hu'=>by
 obtain⟨i,hi,eu⟩:=ZP hu';have l1:=r.length;have l2:=rv.length;have hiv:i<vs.length:=by omega
 obtain⟨u',e1,k1⟩:=rv.get (Yf hiv);rw[Yf hi,eu]at e1;cases e1;obtain⟨d,e2,r2⟩:=r.getV (Yf hiv);rw[lV I r rv ok (by rw[Yf hi,eu]) e2];have od:=ok d (YD e2);obtain⟨a1,p1⟩:=r2.reads I 29 od k1;obtain⟨a2,p2⟩:=ry.reads I 30 oy ky;obtain⟨l1',m1⟩:=ck 29 d od;obtain⟨l2',m2⟩:=ck 30 dy oy;refine XZ _ _ A s _ _ _ _ p1 p2 l1' l2' ?_;have:min (bM d).depth (bM dy).depth<=30:=YC (VF _ _) m1;omega
end
def eY(dy:D):List D->Option Nat
 |[]=>none
 |d::r=>if eqd d dy=true then some 0 else(eY dy r).map (· + 1)
theorem k_{dy:D}:∀{ds:List D}{j:Nat},eY dy ds=some j->(∃d,ds[j]?=some d/\eqd d dy=true)/\∀m,m<j->∃d,ds[m]?=some d/\eqd d dy=false
 |[],_,h=>by cases h
 |d::r,j,h=>by
  unfold eY at h;split at h
  ·rename_i q;cases h;exact⟨⟨d,rfl,q⟩,fun m hm=>by omega⟩
  ·rename_i q;cases q2:eY dy r with
   |none=>rw[q2]at h;cases h
   |some k=>
    rw[q2]at h;have h:=Yy h;have h:k+1=j:=h;subst h;obtain⟨h1,h2⟩:=k_ q2;refine⟨by simpa using h1,fun m hm=>?_⟩;cases m with
    |zero=>exact⟨d,rfl,by simpa using q⟩
    |succ m=>simpa using h2 m (by omega)
def Er(K:Kq):V->List V->Hp->VK->Prop:=fun x vs H Q=>∃l xs ds y dy j,x=.ref l/\vs=[y]/\SqL K H l xs/\Reps K H xs ds/\Rep K H y dy/\ds.all (okN 29)=true/\okN 30 dy=true/\eY dy ds=some j/\Q (.int j) H
def Ep(K:Kq):V->List V->Hp->VK->Prop:=fun x vs H Q=>∃l xs ds y dy,x=.ref l/\vs=[y]/\SqL K H l xs/\Reps K H xs ds/\Rep K H y dy/\ds.all (okN 29)=true/\okN 30 dy=true/\Q (.int (ds.countP (fun d=>eqd d dy))) H
section
variable{X:Cx}{e a b c o:Expr}{es:List Expr}{pos p apos cpos:Pos}{fe fa fb:Dd}
theorem vW(hu:X.A.units+64<cLine):MtR X "list.index" (Er X.K):=by
 intro pz s σ H x vs v us Q I rx rvv h;obtain⟨l,xs,ds,y,dy,j,rfl,rfl,hq,r,ry,ok,oy,hj,q⟩:=h;cases rx;obtain⟨u,rfl,ru⟩:=rvv.one;obtain⟨its,rv,pl,hz⟩:=I.list hq;obtain⟨⟨cls,dd,data,sl⟩,n,ho,hc,hdd,hd⟩:=pl;simp only at hc hd;subst hc hd;obtain⟨⟨d0,j1,j2⟩,j3⟩:=k_ hj;have l1:=r.length;have l2:=rv.length;have hjl:j<ds.length:=(Yn.mp j1).1;have hlt:j<its.toArray.size:=by rw[Yx];omega
 have ok':=bL ok;have at':∀(m:Nat) (hm:m<its.toArray.size) d,ds[m]?=some d->p4 its ds dy its.toArray[m]=eqd d dy:=fun m hm d hd=>lV I r rv ok' (by simp) hd
 refine call_meets PySem.F.slot_list_index ⟨_,ho,rfl⟩ PySem.F.entry_list_index (PySem.F.args_list_index_2 _ _)
  (PySem.SeqAt.list_indexAt l its.toArray n dd sl u (p4 its ds dy) j hlt (by have:=YR;omega) (by rw[at' j hlt d0 j1];exact j2) fun m hm hmj=>?_) ⟨ho,fun z hz=>pN I r rv ok' ry oy ru (A:=X.A.in1) (by show X.A.units+1+60<cLine;omega) z (by simpa using hz),⟨.int j,H,I.tok _,⟨_,rfl⟩,q⟩⟩
 obtain⟨d,e1,e2⟩:=j3 m hmj;rw[at' m hm d e1];exact e2
theorem pW{ds:List D}{dy:D}{us:List Value}{f:Value->Bool}(hl:us.length=ds.length)(h:∀(i:Nat) u d,us[i]?=some u->ds[i]?=some d->f u=eqd d dy):us.countP f=ds.countP (fun d=>eqd d dy):=by
 induction us generalizing ds with
 |nil=>cases ds with|nil=>rfl|cons _ _=>simp at hl
 |cons u us ih=>
  cases ds with
  |nil=>simp at hl
  |cons d ds=>
   rw[List.countP_cons,List.countP_cons,ih (by simpa using hl) fun i u d h1 h2=>h (i+1) u d (by simpa using h1) (by simpa using h2),h 0 u d rfl rfl]
theorem uY(hu:X.A.units+64<cLine):MtR X "list.count" (Ep X.K):=by
 intro pz s σ H x vs v us Q I rx rvv h;obtain⟨l,xs,ds,y,dy,rfl,rfl,hq,r,ry,ok,oy,q⟩:=h;cases rx;obtain⟨u,rfl,ru⟩:=rvv.one;obtain⟨its,rv,pl,hz⟩:=I.list hq;obtain⟨⟨cls,dd,data,sl⟩,n,ho,hc,hdd,hd⟩:=pl;simp only at hc hd;subst hc hd;have ok':=bL ok;refine call_meets PySem.F.slot_list_count ⟨_,ho,rfl⟩ PySem.F.entry_list_count (PySem.F.args_list_count_2 _ _) (PySem.SeqAt.list_countAt l its.toArray n dd sl u (p4 its ds dy))
  ⟨ho,fun z hz=>pN I r rv ok' ry oy ru (A:=X.A.in1) (by show X.A.units+1+60<cLine;omega) z (by simpa using hz),?_⟩
 refine⟨.int _,H,I.tok _,⟨s.toks,?_⟩,q⟩;show Value.int ((its.countP (p4 its ds dy):Nat):Int) s.toks=_;rw[pW (ds:=ds) (by rw[<-rv.length,r.length]) fun i u d h1 h2=>lV I r rv ok' h1 h2]
def iM:D->D->Option D
 |.lst ds,y=>if(ds.all (okN 29)&&okN 30 y)=true then(eY y ds).map (fun(j:Nat)=>D.int (j:Int))else none
 |_,_=>none
def kM:D->D->Option D
 |.lst ds,y=>if(ds.all (okN 29)&&okN 30 y)=true then some (.int (ds.countP (fun d=>eqd d y)))else none
 |_,_=>none
theorem wJ{K:Kq}{r:V->List V->Hp->VK->Prop}{f:Dy}{fa fb:Dd}(hl:∀dx dy d,f dx dy=some d->∃ds,dx=.lst ds)
  (ho:∀(P F H:Hp) (l:Addr) (vs:List V) (y:V) (ds:List D) (dy d:D) (Q:VK),f (.lst ds) dy=some d->DHp P F H->SqL K H l vs->Reps K H vs ds->Rep K H y dy->(∀v F' H',Evo P F H F' H'->Rep K F' v d->Q v H')->r (.ref l) [y] H Q) :
  ∀σ H Q,tD K (d2 f fa fb) σ H Q->tBM K "list" r (tN K fa) (oW (tN K fb) tE) σ H Q:=fun σ H Q=>un7 fun P F ρ d hf I k=>by
 unfold d2 at hf;cases ha:fa ρ with
 |none=>rw[ha]at hf;cases hf
 |some dx=>
  rw[ha]at hf;cases hb:fb ρ with
  |none=>rw[Yb,hb]at hf;cases hf
  |some dy=>
   rw[Yb,hb,Yb]at hf;obtain⟨ds,rfl⟩:=hl dx dy d hf;refine⟨P,F,ρ,_,ha,I,fun x F1 H1 e1 rx=>?_⟩;cases rx with
   |lst h1 h2=>
    refine⟨.inl ⟨rfl,_,h1⟩,P,F1,ρ,dy,hb,I.evo e1,fun y F2 H2 e2 ry=>?_⟩;have sm:=e2.same e1.hp;exact ho P F2 H2 _ _ y ds dy d Q hf e2.hp (sm.seq h1) (h2.same sm) ry fun v F3 H3 e3 rv=>k v F3 H3 ((e1.trans e2).trans e3) rv
theorem ka(hu:X.A.units+64<cLine)(ho:PDN X o fa)(ha:PDN X e fb)(hbase:attributeBase o "index" X.env (eval o X.env)=eval o X.env:=by rfl)
  (hfew:((backTo cpos (starEach [e] X.env)).all (fun x=>!x.1)&&(backToKw cpos (keywordEach [] X.env)).all (fun x=>x.1.isSome)
   && decide (([e]:List Expr).length+([]:List Keyword).length+(if([]:List Keyword).isEmpty then 0 else 1)<30))=true:=by rfl)
  (hline:(apos.endLine == cpos.line)=true:=by rfl) (hs:starEach [e] X.env=[(false,eval e X.env)]:=by rfl) :
  PDE X (.Call (.Attribute o "index" apos) [e] [] cpos) (d2 iM fa fb):=
 (oG ZZ PySem.F.slot_list_index PySem.F.type_list_index (vW hu) ho (ba ha bK hs) hbase hfew hline hs rfl).imp (wJ (fun dx dy d h=>by cases dx<;>first|exact⟨_,rfl⟩|cases h)
  fun P F H l vs y ds dy d Q hf hp h1 h2 h3 k=>by
   have hf:(if(ds.all (okN 29)&&okN 30 dy)=true then(eY dy ds).map (fun(j:Nat)=>D.int (j:Int))else none)=some d:=hf;split at hf
   ·rename_i c;rw[Yo]at c;cases q:eY dy ds with
    |none=>rw[q]at hf;cases hf
    |some j=>rw[q]at hf;cases hf;exact⟨l,vs,ds,y,dy,j,rfl,rfl,h1,h2,h3,c.1,c.2,q,k _ F H (Evo.refl hp) .int⟩
   ·cases hf)
theorem oA(hu:X.A.units+64<cLine)(ho:PDN X o fa)(ha:PDN X e fb)(hbase:attributeBase o "count" X.env (eval o X.env)=eval o X.env:=by rfl)
  (hfew:((backTo cpos (starEach [e] X.env)).all (fun x=>!x.1)&&(backToKw cpos (keywordEach [] X.env)).all (fun x=>x.1.isSome)
   && decide (([e]:List Expr).length+([]:List Keyword).length+(if([]:List Keyword).isEmpty then 0 else 1)<30))=true:=by rfl)
  (hline:(apos.endLine == cpos.line)=true:=by rfl) (hs:starEach [e] X.env=[(false,eval e X.env)]:=by rfl) :
  PDE X (.Call (.Attribute o "count" apos) [e] [] cpos) (d2 kM fa fb):=
 (oG ZZ PySem.F.slot_list_count PySem.F.type_list_count (uY hu) ho (ba ha bK hs) hbase hfew hline hs rfl).imp (wJ (fun dx dy d h=>by cases dx<;>first|exact⟨_,rfl⟩|cases h)
  fun P F H l vs y ds dy d Q hf hp h1 h2 h3 k=>by
   have hf:(if(ds.all (okN 29)&&okN 30 dy)=true then some (D.int (ds.countP (fun d=>eqd d dy)))else none)=some d:=hf;split at hf
   ·rename_i c;rw[Yo]at c;cases hf;exact⟨l,vs,ds,y,dy,rfl,rfl,h1,h2,h3,c.1,c.2,k _ F H (Evo.refl hp) .int⟩
   ·cases hf)
end
section
variable{X:Cx}{tg e a b c o l:Expr}{es:List Expr}{pos p apos cpos spos:Pos}{fe fa fb fc:Dd}
def qQ:D->Option D
 |.int i=>some (.int (-i))
 |_=>none
theorem wR(h:PDE X a fa):PDE X (.UnaryOp .USub a pos) (d1 qQ fa):=(DW AT h).imp fun σ H Q=>un7 fun P F ρ d hf I k=>by
 unfold d1 at hf;cases q:fa ρ with
 |none=>rw[q]at hf;cases hf
 |some dx=>
  rw[q,Yb]at hf;cases dx with
  |int i=>
   cases hf;refine⟨P,F,ρ,_,q,I,fun v F1 H1 e1 r1=>?_⟩;cases r1;exact⟨i,rfl,k _ F1 H1 e1 .int⟩
  |_=>cases hf
theorem nc{x:Str}{i:Int}{t:Tok}(hg:Gl X x)(hm:X.mg x=some (.int i t))(hd:(x == ("__debug__":Str))=false:=by decide):PDE X (.Name x pos) (fun _=>some (.int i)):=sr (y9 hg hm (v:=.int i) ⟨t,rfl⟩ hd) fun _=>.int
def og:D->Bool
 |.bl _=>true
 |_=>false
def trD:D->Bool
 |.bl b=>b
 |_=>false
def uN:D->Option D
 |.lst ds=>if ds.all og=true then some (.bl (ds.all trD))else none
 |_=>none
def EB(K:Kq):List V->Hp->VK->Prop:=fun xs H Q=>∃l vs ds,xs=[.ref l]/\SqL K H l vs/\Reps K H vs ds/\ds.all og=true/\Q (.bl (ds.all trD)) H
theorem tZ{ds:List D}:(List.range ds.length).all (fun i=>trD (ds.getD i .non))=ds.all trD:=by
 rw[Bool.eq_iff_iff,Yi,Yi];constructor
 ·intro h d hd;obtain⟨i,hi,e⟩:=ZP hd;have:=h i (YI.mpr hi);rw[YO,Yf hi,e]at this;exact this
 ·intro h i hi;have hi:=YI.mp hi;rw[YO,Yf hi];exact h _ (Xf hi)
theorem uC(hc:X.calm=true):CallR X (.builtin "all") (EB X.K):=by
 intro pz s σ H xs us Q I r h;obtain⟨l,vs,ds,rfl,hq,hr,hb,q⟩:=h;obtain⟨u,rfl,ru⟩:=dI r;cases ru;obtain⟨its,rv,pl,hz⟩:=I.list hq;have ho:=pl.isList;have l1:=hr.length;have l2:=rv.length;refine call_all_walk (wpAny_pyIter_list ho ?_);have hlt:l<s.heap.objs.size:=by obtain⟨o,e,_⟩:=ho;exact Yp e
 refine⟨s.heap.objs.size,[s.heap.objs.size,l],[s.heap.objs.size],its.toArray.size,_,_,fun i=>trD (ds.getD i .non),rfl,Walks.list (by show X.A.in1.handled=none;exact I.ok.hd hc) s.heap.objs.size l (YA hlt) its.toArray,⟨⟨_,Ym _ rfl,rfl,rfl⟩,ho.at fun o e=>Yh _ e⟩,fun i v s' Q' E' hv hq'=>?_,fun h' tk k=>?_⟩
 ·have hv:its[i]?=some v:=by simpa using hv
  have hi:i<its.length:=(Yn.mp hv).1;have hid:i<ds.length:=by omega
  obtain⟨w',a1,a2⟩:=hr.get (Yf hid);obtain⟨u',a3,a4⟩:=rv.get a1;rw[hv]at a3;cases a3;have hbd:=Yi.mp hb _ (Xf hid);have eg:ds.getD i .non=ds[i]:=by rw[YO,Yf hid];rfl
  have hq':Q' (trD (ds.getD i .non)) s':=hq';rw[eg]at hq';generalize ds[i]=d at *;cases d with
  |bl b=>cases a2;cases(show v=Value.bool _ from a4);exact Zz hq'
  |_=>cases hbd
 ·have e:its.toArray.size=ds.length:=by rw[Yx];omega
  rw[e,tZ];refine⟨.bl _,H,I.kept (t':=tk) fun b o e=>k b o (fun z=>?_) (Yh _ e),rfl,q⟩;have z:b=s.heap.objs.size:=by simpa using z
  rw[z]at e;exact absurd (Yp e) (Zd _)
theorem vO(hc:X.calm=true)(hg:Gl X "all")(hm:X.mg "all"=none)(ha:PDN X e fa)(hs:starEach [e] X.env=[(false,eval e X.env)]:=by rfl)(hpl:(backTo pos (starEach [] X.env)).any (·.1)=false:=by rfl) :
  PDE X (.Call (.Name "all" p) [e] [] pos) (d1 uN fa):=
 (dX (uC hc) hg hm vY (ba ha bK hs) (by decide) (by decide) hs hpl).imp (xv fun P F H x dx d Q hf hp rx k=>by
  cases dx with
  |lst ds=>
   have hf:(if ds.all og=true then some (D.bl (ds.all trD))else none)=some d:=hf;split at hf
   ·rename_i hb;cases hf;cases rx with|lst h1 h2=>exact⟨_,_,ds,rfl,h1,h2,hb,k _ F H (Evo.refl hp) .bl⟩
   ·cases hf
  |_=>cases hf)
def Its(x:Str):It:=⟨fun i _=>i<x.cps.size,fun i H v H'=>H'=H/\v=.str ⟨#[x.cps.getD i 0]⟩,fun i _=>x.cps.size<=i⟩
theorem uZ{P:Program}{w:World}{K:Kq}{tg:Expr}(it:Addr)(x:Str)(t:Tok)(ty:String)(hty:["enumerate","zip","dict_itemiterator","dict_reverseitemiterator","odict_iterator","itertools.zip_longest","itertools.pairwise"].contains ty=false)(W:∀A:Around,A.handled=none->Walks P w A it [it] [it] x.cps.size (SignAt x) (fun i h=>h.IsStrIter it ty x t i))
  (hself:∀(A:Around) (i:Nat) (s:Shared) (Q:Kv) (E:Kv),s.heap.IsStrIter it ty x t i->Q (.ref it) s->wpAny (model P w) A (pyIter (.ref it)) Q E s):Turn P w K tg (Its x) [it] it (fun i h=>h.IsStrIter it ty x t i/\i<=x.cps.size) where
 mem:=by simp
 obj:=fun i h st b hb=>by
  have e:b=it:=by simpa using hb
  subst e;obtain⟨⟨o,e,c,d⟩,_⟩:=st;exact⟨o,e,fun v z=>by rw[d]at z;cases z⟩
 keep:=fun i h h' st k=>by obtain⟨⟨o,e,r⟩,hl⟩:=st;exact⟨⟨o,k it (by simp) o e,r⟩,hl⟩
 item:=by
  intro X hP hw hK hc i pz s σ H E I hf st hg;subst hP hw hK;obtain⟨f0,f1,f2,f3,f4,f5⟩:=hf it (by simp);have hg:i<x.cps.size:=hg;refine(W X.A (I.ok.hd hc)).item i s _ _ hg st.1 fun v h' tk hv st' kk=>?_;obtain⟨c,u,hcs,rfl⟩:=hv;have I1:Inv X pz σ H {s with heap:=h',toks:=tk}:=I.turned (fun b o hb e=>kk b o (by simpa using hb) e) f0 f1 f3 f4 f5;obtain⟨o,ho,hoc,hod⟩:=id st';have ec:x.cps.getD i 0=c:=by simp[Zb,hcs]
  refine⟨_,rfl,sN (s:={s with heap:=h',toks:=tk}) (n:=ty) ho hoc hod hty ⟨.str ⟨#[c]⟩,H,I1,⟨u,rfl⟩,⟨rfl,by rw[ec]⟩,⟨st',hg⟩,fun b hb=>(hf b hb).1⟩⟩
 done:=by intro X hP hw hK hc i pz s σ H E I hf st hg;subst hP hw hK;obtain⟨f0,f1,f2,f3,f4,f5⟩:=hf it (by simp);have hg:x.cps.size<=i:=hg;have hi:i=x.cps.size:=Zh st.2 hg;subst hi;exact(W X.A (I.ok.hd hc)).done s _ _ st.1 fun h' tk kk=>⟨rfl,I.turned (fun b o hb e=>kk b o (by simpa using hb) e) f0 f1 f3 f4 f5⟩
 self:=fun A i s Q E st h=>hself A i s Q E st.1 h
def EK(tl:TE):TI:=fun σ H R=>tl σ H fun x H1=>∃z,x=.str z/\R (Its z) H1
theorem AQ{tl:TE}(hl:PE X l tl):PI X tg l (EK tl):=by
 intro pz s σ H R I h;refine bC (hl pz s σ H _ I h) fun v s1 x H1 I1 r1 hh_=>?_;obtain⟨z,e,q⟩:=hh_;subst e;obtain⟨t,rfl⟩:=r1;have fin:∀(ob:Obj) (ty:String),["enumerate","zip","dict_itemiterator","dict_reverseitemiterator","odict_iterator","itertools.zip_longest","itertools.pairwise"].contains ty=false->(∀A:Around,A.handled=none->Walks X.prog X.w A s1.heap.objs.size [s1.heap.objs.size] [s1.heap.objs.size] z.cps.size (SignAt z) (fun i h=>h.IsStrIter s1.heap.objs.size ty z t i))->
   (∀(A:Around) (i:Nat) (s:Shared) (Q:Kv) (E:Kv),s.heap.IsStrIter s1.heap.objs.size ty z t i->Q (.ref s1.heap.objs.size) s->wpAny (model X.prog X.w) A (pyIter (.ref s1.heap.objs.size)) Q E s)->
   (s1.heap.push ob).IsStrIter s1.heap.objs.size ty z t 0->PIE X pz σ tg R (.ref s1.heap.objs.size) {s1 with heap:=s1.heap.push ob}:=fun ob ty h1 h2 h3 h4=>by
  refine⟨s1.heap.objs.size,[s1.heap.objs.size],_,_,H1,rfl,I1.kept (t':=s1.toks) fun b o e=>Yh _ e,uZ _ z t ty h1 h2 h3,⟨h4,YF _⟩,fun b hb=>?_,q⟩;have e:b=s1.heap.objs.size:=by simpa using hb
  subst e;exact I1.fpOk (Yl _) (I1.hok.fresh (Yl _))
 cases ha:z.cps.all (· < 128)
 ·exact wpAny_pyIter_wide ha (fin _ "str_iterator" (by decide) (fun A' hA=>Walks.strWide hA _ z t) (fun A i s Q E st h=>wpAny_pyIter_striter_wide st h) ⟨_,Ym _ rfl,rfl,rfl⟩)
 ·exact wpAny_pyIter_ascii ha (fin _ "str_ascii_iterator" (by decide) (fun A' hA=>Walks.strAscii hA _ z t) (fun A i s Q E st h=>wpAny_pyIter_striter_ascii st h) ⟨_,Ym _ rfl,rfl,rfl⟩)
def signs(x:Str):List D:=x.cps.toList.map fun c=>.str ⟨#[c]⟩
def pB(f:Dd):DF->Option (List D):=fun ρ=>match f ρ with
 |some (.str x)=>some (signs x)
 |_=>none
theorem zu(h:PDE X l fa):PDI X tg l (pB fa):=PI.imp (AQ h) fun σ H R=>un7 fun P F ρ ds hf I k=>by
 unfold pB at hf;split at hf
 ·rename_i x q;cases hf;refine⟨P,F,ρ,_,q,I,fun v F1 H1 e1 r1=>?_⟩;cases r1;refine⟨x,rfl,k _ F1 H1 e1 fun F' H' e hp i=>⟨fun d hd=>?_,fun hl=>?_⟩⟩
  ·unfold signs at hd;rw[Ys]at hd;cases qc:x.cps.toList[i]? with
   |none=>rw[qc]at hd;cases hd
   |some c=>
    rw[qc]at hd;cases hd;have hi:i<x.cps.size:=by have:=(Yn.mp qc).1;simpa using this
    refine⟨hi,fun y H2 hy=>?_⟩;obtain⟨rfl,rfl⟩:=hy;have ec:x.cps.getD i 0=c:=by
     have:x.cps[i]?=some c:=by rw[<-YN];exact qc
     simp[Zb,this]
    rw[ec];exact⟨F',Evo.refl hp,.str⟩
  ·unfold signs at hl;rw[Yd,Yz]at hl;exact hl
 ·cases hf
end
section
variable{X:Cx}{tg e a b c o l r:Expr}{es:List Expr}{pos p p' apos cpos spos apos' cpos':Pos}{f fe fa fb fc:Dd}
theorem ug:CallR X (.type "range") (fun xs H Q=>∃j:Int,xs=[.int j]/\∀q,H q=none->Q (.ref q) (upd H q (.rng 0 j))):=by intro pz s σ H xs us Q I r h;obtain⟨j,rfl,q⟩:=h;obtain⟨u,rfl,t,rfl⟩:=dI r;exact call_range_1 ⟨.ref s.heap.objs.size,_,I.laid (o:=.rng 0 j) (fun b ob z=>Yh _ z) (Yl _) ⟨_,_,_,Ym _ rfl⟩,rfl,q _ (I.hok.fresh (Yl _))⟩
def uP(lo:Int)(n:Nat):List V:=(List.range n).map fun i:Nat=>.int (lo+(i:Int))
theorem kD(hc:X.calm=true):CallR X (.type "list") (fun xs H Q=>∃(q:Addr) (lo hi:Int),xs=[.ref q]/\H q=some (.rng lo hi)/\(-(2^62)<=lo/\lo<2^62/\-(2^62)<=hi/\hi<2^62)/\(hi-lo).toNat<=16777216/\∀l,H l=none->Q (.ref l) (upd H l (.lst (uP lo (hi-lo).toNat)))):=by
 intro pz s σ H xs us Q I r h;obtain⟨q,lo,hi,rfl,hq,⟨h1,h2,h3,h4⟩,hn,k⟩:=h;obtain⟨u,rfl,ru⟩:=dI r;cases ru;obtain⟨t,u,v,ho⟩:=I.hok q _ hq;have hsz:Builtin.Range.rangeSize lo hi 1=((hi-lo).toNat:Int):=by rw[rangeSize_one];split<;>omega
 refine call_list_range (I.ok.hd hc) (n:=(hi-lo).toNat) ho (small_one h1 h2 h3 h4) hsz (by omega) fun h' tk acc' c' kp hget hit=>?_;refine⟨.ref s.heap.objs.size,_,I.laid (t':=tk) (o:=.lst (uP lo (hi-lo).toNat)) kp (Yl _) ⟨?_,acc'.toList,c',?_,?_⟩,rfl,k _ (I.hok.fresh (Yl _))⟩
 ·unfold uP;rw[Yd,YZ,YR];exact hn
 ·obtain⟨hs,hv⟩:=hit;have key:∀(n:Nat) (lo:Int) (vs:List Value),vs.length=n->(∀(j:Nat) v,vs[j]?=some v->∃t,v=Value.int (lo+(j:Int)) t)->Vals ((List.range n).map fun i:Nat=>V.int (lo+(i:Int))) vs:=by
   intro n;induction n with
   |zero=>intro lo vs hl _;rw[YV.mp hl];exact .nil
   |succ n ih=>
    intro lo vs hl hv;cases vs with
    |nil=>simp at hl
    |cons v vs=>
     rw[List.range_succ_eq_map,YG,YL];refine .cons ?_ ?_
     ·obtain⟨t,e⟩:=hv 0 v rfl;exact⟨t,e⟩
     ·have:=ih (lo+1) vs (by simpa using hl) fun j w hw=>by
       obtain⟨t,e⟩:=hv (j+1) w (by simpa using hw);exact⟨t,by rw[e];congr 1;push_cast;omega⟩
      have ef:((fun i:Nat=>V.int (lo+(i:Int))) ∘ Nat.succ)=fun i:Nat=>V.int (lo+1+(i:Int)):=by
       funext i;show V.int (lo+((i+1:Nat):Int))=_
       congr 1;push_cast;omega
      rw[ef];exact this
  refine key _ lo _ (by simpa using hs) fun j v hj=>?_;obtain⟨t,e⟩:=hv j v (by rw[<-YN];exact hj);exact⟨t,by rw[e];congr 1;omega⟩
 ·simpa using hget
theorem s_{K:Kq}{F:Hp}(lo:Int)(n:Nat):Reps K F (uP lo n) (cP lo n):=by
 unfold uP cP;generalize List.range n=l;induction l with
 |nil=>exact .nil
 |cons i l ih=>exact .cons .int ih
def fw(f:Dd):DF->Option (List D):=fun ρ=>match f ρ with
 |some (.int j)=>if j<16777216/\-(2^62)<=j then some (cP 0 j.toNat)else none
 |_=>none
theorem fP(hc:X.calm=true)(hg:Gl X "list")(hm:X.mg "list"=none)(hg2:Gl X "range")(hm2:X.mg "range"=none)(ha:PDE X a fa)(hs0:starEach [a] X.env=[(false,eval a X.env)]:=by rfl)
  (hs:starEach [.Call (.Name "range" p') [a] [] cpos] X.env=[(false,eval (.Call (.Name "range" p') [a] [] cpos) X.env)]:=by rfl):PDO X (.Call (.Name "list" p) [.Call (.Name "range" p') [a] [] cpos] [] pos) (asL (fw fa)):=
 (dZ (kD hc) hg hm boot_list (ba (dZ ug hg2 hm2 boot_range (ba ha bK hs0) (he:=hs0)) bK hs) (he:=hs)).imp fun σ H Q=>un7 fun P F ρ ob hf I k=>by
  unfold asL fw at hf;cases q:fa ρ with
  |none=>rw[q]at hf;cases hf
  |some dx=>
   rw[q]at hf;cases dx with
   |int j=>
    dsimp only at hf;split at hf
    ·rename_i hj;cases hf;refine⟨P,F,ρ,_,q,I,fun v F1 H1 e1 r1=>?_⟩;cases r1;refine⟨j,rfl,fun q1 hq1=>⟨q1,0,j,rfl,aX,⟨by omega,by omega,hj.2,by omega⟩,by omega,fun l hl=>?_⟩⟩;have e2:=e1.trans (Evo.side e1.hp (o:=.rng 0 j) hq1);have ej:(j-0).toNat=j.toNat:=by omega
     rw[ej];exact k l F1 _ (e2.trans (Evo.side e2.hp hl)) ⟨⟨e2.back I.toDHp hl,(e2.hp.free hl).1⟩,_,aX,s_ 0 _⟩
    ·cases hf
   |_=>cases hf
def rO(n:Nat):D->Option Nat
 |.int k=>if -(2^63)<=k/\k<2^63 then seqIndex? k n else none
 |_=>none
def qK(j:Nat)(f:Dd):DF->Option (DF×D):=fun ρ=>match ρ[j]? with
 |some (some (.own (.lst ds) t))=>(f ρ).bind fun dk=>(rO ds.length dk).bind fun k=>(ds[k]?).map fun d=>(ρ.set j (some (.own (.lst (ds.eraseIdx k)) t)),d)
 |_=>none
theorem ye{K:Kq}{j:Nat}{f:Dd}{σ:St}{H:Hp}{Q:VK}{P F:Hp}{ρ ρ':DF}{d:D}(hp:qK j f ρ=some (ρ',d))(I:DInv K P F H ρ σ)(k:∀v F' H',Same F F'->DInv K P F' H' ρ' σ->Rep K F' v d->Q v H') :
  tBM K "list" vh (e9 j) (oW (tD K f) tE) σ H Q:=by
 unfold qK at hp;split at hp
 ·rename_i ds t q;cases q2:f ρ with
  |none=>rw[q2]at hp;cases hp
  |some dk=>
   rw[q2,Yb]at hp;cases q3:rO ds.length dk with
   |none=>rw[q3]at hp;cases hp
   |some kk=>
    rw[q3,Yb]at hp;cases q4:ds[kk]? with
    |none=>rw[q4]at hp;cases hp
    |some d'=>
     rw[q4]at hp;cases hp;cases dk with
     |int i=>
      have q3':(if -(2^63)<=i/\i<2^63 then seqIndex? i ds.length else none)=some kk:=q3;split at q3'
      ·rename_i hb;obtain⟨a,vs,h1,h2,h3,h4,h5⟩:=mw I q;refine⟨_,h1,.inl ⟨rfl,vs,SqL.of h4⟩,P,F,ρ,_,q2,I,fun v F1 H1 e1 r1=>?_⟩;cases r1;obtain⟨k1,k2⟩:=e1.keep a _ h4 h2;have r5:=h5.same e1.ext;obtain⟨y,y1,y2⟩:=r5.get q4;refine⟨a,vs,i,kk,y,rfl,rfl,k1,hb.1,hb.2,by rw[h5.length];exact q3',y1,?_⟩;exact k y F1 _ e1.ext ((I.evo e1).mut (o':=.lst _) (u:=.lst _) q rfl rfl h1 (r5.eraseIdx kk)) y2
      ·cases q3'
     |_=>cases q3
 ·cases hp
def eC(i j:Nat)(f:Dd):DF->Option RES:=fun ρ=>(qK j f ρ).bind fun r=>match r.1[i]? with
 |some (some (.own (.lst ds) t))=>if i≠j/\ds.length<16777216 then some (.nx (r.1.set i (some (.own (.lst (ds++[r.2])) t))))else none
 |_=>none
theorem tq(i j:Nat)(ho:PE X o (e9 i))(hr:PE X r (e9 j))(ha:PDE X e f)(hbase:attributeBase o "append" X.env (eval o X.env)=eval o X.env:=by rfl)(hbase':attributeBase r "pop" X.env (eval r X.env)=eval r X.env:=by rfl)
  (hfew':((backTo cpos' (starEach [e] X.env)).all (fun x=>!x.1)&&(backToKw cpos' (keywordEach [] X.env)).all (fun x=>x.1.isSome)
   && decide (([e]:List Expr).length+([]:List Keyword).length+(if([]:List Keyword).isEmpty then 0 else 1)<30))=true:=by rfl)
  (hfew:((backTo cpos (starEach [.Call (.Attribute r "pop" apos') [e] [] cpos'] X.env)).all (fun x=>!x.1)&&(backToKw cpos (keywordEach [] X.env)).all (fun x=>x.1.isSome)
   && decide (([.Call (.Attribute r "pop" apos') [e] [] cpos']:List Expr).length+([]:List Keyword).length+(if([]:List Keyword).isEmpty then 0 else 1)<30))=true:=by rfl)
  (hline:(apos.endLine == cpos.line)=true:=by rfl) (hline':(apos'.endLine == cpos'.line)=true:=by rfl) (hs':starEach [e] X.env=[(false,eval e X.env)]:=by rfl)
  (hs:starEach [.Call (.Attribute r "pop" apos') [e] [] cpos'] X.env=[(false,eval (.Call (.Attribute r "pop" apos') [e] [] cpos') X.env)]:=by rfl) (hsw:swapsWith (.Call (.Attribute o "append" apos) [.Call (.Attribute r "pop" apos') [e] [] cpos'] [] cpos) none pos.line X.env=pure false:=by rfl) :
  PD1 X (.Expr (.Call (.Attribute o "append" apos) [.Call (.Attribute r "pop" apos') [e] [] cpos'] [] cpos) pos) (eC i j f):=
 PS.imp (iU (oG ZZ PySem.F.slot_list_append PySem.F.type_list_append gO ho (ba (oG ZZ PySem.F.slot_list_pop PySem.F.type_list_pop u4 hr (ba ha bK hs') hbase' hfew' hline' hs' rfl) bK hs) hbase hfew hline hs rfl) hsw) fun E σ H=>un7 fun P F ρ res hres I k=>by
  unfold eC at hres;cases q:qK j f ρ with
  |none=>rw[q]at hres;cases hres
  |some pr=>
   rw[q,Yb]at hres;split at hres
   ·rename_i ds t qi;split at hres
    ·rename_i hc;cases hres
     -- the i-th slot is not touched by the pop
     have qi0:ρ[i]?=some (some (.own (.lst ds) t)):=by
      have q':=q;unfold qK at q';split at q'
      ·rename_i ds' t' qj;cases z1:f ρ with
       |none=>rw[z1]at q';cases q'
       |some dk=>
        rw[z1,Yb]at q';cases z2:rO ds'.length dk with
        |none=>rw[z2]at q';cases q'
        |some kk=>
         rw[z2,Yb]at q';cases z3:ds'[kk]? with
         |none=>rw[z3]at q';cases q'
         |some d'=>
          rw[z3]at q';cases q';rw[Zl (fun z=>hc.1 z.symm)]at qi;exact qi
      ·cases q'
     obtain⟨a,vs,h1,h2,h3,h4,h5⟩:=mw I qi0;refine⟨_,h1,.inl ⟨rfl,vs,SqL.of h4⟩,?_⟩;refine ye q I fun v F' H' e I' rv=>?_;obtain⟨a',vs',g1,g2,g3,g4,g5⟩:=mw I' qi;rw[h1]at g1;cases g1;refine⟨a,vs',v,rfl,rfl,g4,by rw[YR,g5.length];exact hc.2,k σ F' _ e ?_⟩;exact I'.mut (o':=.lst _) (u:=.lst _) qi rfl rfl h1 (g5.append (.one rv))
    ·cases hres
   ·cases hres
end
section
variable{X:Cx}{tg a b c o i e f:Expr}{pos pos' apos cpos p:Pos}{fd fk fx fv fa fb fc:Dd}
end
theorem Room.h64{k:Nat}{A:Around}(r:Room k A):A.units+64<cLine:=by have:=r.un;omega
def yK(sc0 scope:Scope):Bool:=scope.kind == .function&&(scope.names.map (·.1)).Nodup&&(scope.names.all fun x=>x.2 != .free||(sc0.names.lookup x.1 == some .cell||sc0.names.lookup x.1 == some .free))
theorem bY{X:Cx}{scope:Scope}(sc0:Scope)(e:X.env.scope=sc0)(h:yK sc0 scope=true):BlkScope X scope:=by
 unfold yK at h;simp only[Yo,YE]at h;obtain⟨⟨h1,h2⟩,h3⟩:=h;refine⟨by simpa using h1,h2,fun x hx hk=>?_⟩;have:=Yi.mp h3 x hx;rw[hk]at this;have e2:X.env.kindOf x.1=sc0.names.lookup x.1:=by show X.env.scope.names.lookup x.1=_;rw[e]
 rw[e2];simpa using this
def Cr(N0:List Str)(scope:Scope)(N:List Str)(own:Nat)(ix:List Nat):Bool:=
 decide (N.length=own+ix.length)&&(List.range ix.length).all fun i=>match N[own+i]?,ix[i]? with
  |some x,some j=>N0[j]? == some x&&scope.names.lookup x == some .free
  |_,_=>true
theorem bW{X:Cx}{scope:Scope}{N:List Str}{own:Nat}{ix:List Nat}(N0:List Str)(e:X.N=N0)(h:Cr N0 scope N own ix=true):Caps X scope N own ix:=by unfold Cr at h;rw[Yo,YE]at h;refine⟨h.1,fun i j x h1 h2=>?_⟩;have hi:i<ix.length:=(Yn.mp h2).1;have:=Yi.mp h.2 i (YI.mpr hi);rw[h1,h2]at this;simp only[Yo,Vz]at this;rw[e];exact this
section
variable{X:Cx}
theorem cq:ms X [] (tB' X.K bb):=fun pz s σ H Q I hh_=>by
 obtain⟨P,F,ρ,b,hf,J,k⟩:=hh_;cases hf;exact vD pz s σ H Q I (k F H (Evo.refl J.toDHp))
theorem sf{c:Expr}{f:Dk}(h:PDT X c f):ms X [c] (tB' X.K f):=wI h
end
theorem bx{is:List Nat}{own:Nat}(h:(is.all fun j=>decide (j<own))=true):∀j∈is,j<own:=fun j m=>YY (Yi.mp h j m)
theorem zf{K:Kq}{f:Do}:∀σ H Q,tD K (asO f) σ H Q->tO K f σ H Q:=fun σ H Q=>un7 fun P F ρ d hf I k=>by
 unfold asO at hf;cases q:f ρ with
 |none=>rw[q]at hf;cases hf
 |some o=>
  rw[q]at hf;cases hf;refine⟨P,F,ρ,o,q,I,fun a F' H' ev ho=>?_⟩;exact k (.ref a) _ H' (ev.freeze I.toDHp (fun b=>H b=none/\F' b=none) fun _ q=>q) (ho.rep (cb fun b q=>q.2) fun b u q hb=>by rw[dE q];exact hb)
section
variable{X:Cx}{tg iter elt:Expr}{ifs:List Expr}{scope:Scope}{pos:Pos}{N:List Str}{own:Nat}{ix is:List Nat}{f:Dl}{st:Dq}{c:Dk}{e:Dd}
theorem b5{i:Nat}{y:Str}{py spos:Pos}(hN:X.N.Nodup)(hiN:X.N[i]?=some y)(hx:Loc X.env.scope y)(hcalm:X.calm=true)(b:BlkScope X scope)(cp:Caps X scope N own ix)(his:∀j∈is,j<own)(hi:PDI X tg iter f)
  (hg:∀s H fp pz,PDG (blk X scope N s H fp pz) tg is st) (hc:∀s H fp pz,ms (blk X scope N s H fp pz) ifs (tB' X.K c)) (he:∀s H fp pz,PDE (blk X scope N s H fp pz) elt e)
  (hnames:∀y∈scope.names,y.2=.local->scope.names.lookup y.1=some .local)
  (hsw:swapsWith (.ListComp elt [⟨tg,iter,ifs,0⟩] scope pos) (some (.Name y py)) spos.line X.env=pure true:=by rfl)
  (hs:∀x,foldedSetIterable iter X.env x=pure x:=by intro _;rfl)
  (hf:X.fn y=true\/X.env.scope.names.lookup y=some .local:=by first|exact .inl rfl|exact .inr rfl|assumption) :
  PD1 X (.Assign [.Name y py] (.ListComp elt [⟨tg,iter,ifs,0⟩] scope pos) spos) (aq i (asO (asL (aJ own ix f st c e)))):=
 PS.imp (rc (g:=tG X.K is st) (tc:=tB' X.K c) (te:=tD X.K e) hcalm hN hiN hx b cp hi hg hc he hsw hnames hs hf) fun E σ H q=>sB his σ H _ (zf σ H _ (vN E σ H q))
end
def DO(n p:Nat)(g:Dw)(o:OD)(xs:List DV)(q:OD×D):Prop:=xs.length+1=p/\q.1.flat=true/\∀a,∃r,g (aR n p (.own o (some a)::xs))=some r/\lw a q.1 q.2 r
noncomputable def tU (n p:Nat)(g:Dw)(o:OD)(xs:List DV):Option (OD×D):=
 open Classical in if h:∃q,DO n p g o xs q then some h.choose else none
theorem rR{n p:Nat}{g:Dw}:∀a o xs o' d,tU n p g o xs=some (o',d)->xs.length+1=p/\o'.flat=true/\∃r,g (aR n p (.own o (some a)::xs))=some r/\lw a o' d r:=by
 intro a o xs o' d h;unfold tU at h;split at h
 ·rename_i hq;obtain⟨h1,h2,h3⟩:=hq.choose_spec;rw[Yy h]at h2 h3;exact⟨h1,h2,h3 a⟩
 ·cases h
theorem uG{a:Addr}{o o':OD}{d d':D}{r:RES}(h:lw a o d r)(h':lw a o' d' r):(o,d)=(o',d'):=by
 cases r with
 |nx ρ=>obtain⟨h1,h2⟩:=h;obtain⟨h3,h4⟩:=h';rw[h1]at h3;cases h3;rw[h2,h4]
 |rt x ρ=>obtain⟨h1,h2⟩:=h;obtain⟨h3,h4⟩:=h';rw[h2]at h4;cases h4;rw[h1]at h3;cases h3;rfl
 |bk ρ=>cases h
 |ct ρ=>cases h
theorem sC{n p:Nat}{g:Dw}{o:OD}{xs:List DV}{o':OD}{d:D}(hl:xs.length+1=p)(hf:o'.flat=true)(h:∀a,∃r,g (aR n p (.own o (some a)::xs))=some r/\lw a o' d r):tU n p g o xs=some (o',d):=by
 have hq:∃q,DO n p g o xs q:=⟨(o',d),hl,hf,h⟩
 unfold tU;rw[dif_pos hq];obtain⟨_,_,h3⟩:=hq.choose_spec;obtain⟨r,e,q⟩:=h3 0;obtain⟨r',e',q'⟩:=h 0;rw[e']at e;cases e;exact Zs some (uG q q')
section
variable{X:Cx}{pz:Kp}{σ:List (Option V)}{H:Hp}{s:Shared}{h':Heap}
theorem Inv.turnedL{t':Nat}{fp:List Addr}(I:Inv X pz σ H s)(k:∀b o,b∉fp->s.heap.get? b=some o->h'.get? b=some o)(hf:∀b∈fp,fV X pz H b):Inv X pz σ H {s with heap:=h',toks:=t' }:=by
 have nit:∀b u,H b=some u->b∉fp:=fun b u e z=>by rw[(hf b z).1]at e;cases e
 refine I.step (g':=s.gens) (d':=s.drawn) (ch:=fp) (fun b hb=>?_) (fun b o _ _ hc e _=>k b o hc e) (fun b o _ _ hc e _=>⟨o.slots,k b o hc e⟩) (fun _ _ _ _ n=>n)
  (fun b o hc e=>⟨o,k b o hc e⟩) (fun _ _ e=>e) (fun _ _ _ e=>e) (fun b ps e=>⟨#[],by rw[e];simp⟩) (fun m hm=>?_) (fun b u e=>?_) I.bare
 ·obtain⟨_,hL,_,h1,h2,h3⟩:=hf b hb;exact⟨h1,hL,h2,h3⟩
 ·obtain⟨o,es,ep,ho,r⟩:=hm;exact⟨o,es,ep,k _ o (fun z=>(hf _ z).2.1 rfl) ho,r⟩
 ·refine(I.hok b u e).stay (fun c v hc q=>k c v ?_ q) (fun _ q=>q) fun _ _ q=>q;rcases hc with z|z
  ·rw[z];exact nit b u e
  ·exact nit c _ z
theorem Inv.turnedLaid{t':Nat}{fp:List Addr}{a:Addr}{o:HO}(I:Inv X pz σ H s)(k:∀b o,b∉fp->s.heap.get? b=some o->h'.get? b=some o)(hf:∀b∈fp,fV X pz H b)(hp:s.heap.objs.size<=a)(new:ObjOk X.prog X.w (upd H a o) h' a o) :
  Inv X pz σ (upd H a o) {s with heap:=h',toks:=t' }:=by
 have hn:H a=none:=I.hok.fresh hp;have nit:∀b u,H b=some u->b∉fp:=fun b u e z=>by rw[(hf b z).1]at e;cases e
 have ne1:∀b u,s.heap.get? b=some u->b≠a:=fun b u q=>YA (Yt (Yp q) hp)
 refine I.step (g':=s.gens) (d':=s.drawn) (ch:=fp) (fun b hb=>?_) (fun b o _ _ hc e _=>k b o hc e) (fun b o _ _ hc e _=>⟨o.slots,k b o hc e⟩) (fun b u _ q n=>by rw[aK (ne1 b u q)];exact n)
  (fun b o hc e=>⟨o,k b o hc e⟩) (fun b xs e=>by rw[aK (a8 e hn)];exact e) (fun b _ _ e=>by rw[aK (a8 e hn)];exact e) (fun b ps e=>⟨#[],by rw[aK (a8 e hn),e];simp⟩) (fun m hm=>?_) (fun b u e=>?_) I.bare
 ·obtain⟨_,hL,_,h1,h2,h3⟩:=hf b hb;exact⟨h1,hL,h2,h3⟩
 ·obtain⟨o,es,ep,ho,r⟩:=hm;exact⟨o,es,ep,k _ o (fun z=>(hf _ z).2.1 rfl) ho,r⟩
 ·by_cases hb:b=a
  ·subst hb;rw[aX]at e;cases e;exact new
  ·rw[aK hb]at e;refine(I.hok b u e).stay (fun c v hc q=>k c v ?_ q) (fun c q=>by rw[aK (a8 q hn)];exact q) fun c xs q=>by rw[aK (a8 q hn)];exact q
   rcases hc with z|z
   ·rw[z];exact nit b u e
   ·exact nit c _ z
end
def Ite(K:Kq)(a:Addr):It:=
 ⟨fun i H=>∃xs x,SqL K H a xs/\xs[i]?=some x,fun i H x H'=>∃p v,H p=none/\x=.ref p/\H'=upd H p (.tup [.int (i:Nat),v])/\∀xs,SqL K H a xs->xs[i]?=some v,fun i H=>∃xs,SqL K H a xs/\xs.length<=i⟩
theorem t_{P:Program}{w:World}{K:Kq}{elts:List Expr}{kk:Nat}{pos:Pos}(a e it:Addr)(hne:e≠it):Turn P w K (.Tuple elts kk pos) (Ite K a) [e,it] e (fun i h=>(∃old,IsEnum h e it i old)/\h.IsListIter it a i) where
 mem:=by simp
 obj:=fun i h st b hb=>by
  obtain⟨⟨old,he⟩,o,eo,c,d⟩:=st;have hb':b=e\/b=it:=by simpa using hb
  rcases hb' with rfl|rfl
  ·exact⟨_,he,fun v z=>by cases z⟩
  ·exact⟨o,eo,fun v z=>by rw[d]at z;cases z⟩
 keep:=fun i h h' st k=>by
  obtain⟨⟨old,he⟩,hit⟩:=st;exact⟨⟨old,k e (by simp) _ he⟩,hit.at fun o x=>k it (by simp) o x⟩
 item:=by
  intro X hP hw hK hc i pz s σ H E I hf st hg;subst hP hw hK;obtain⟨⟨old,he⟩,hit⟩:=st;obtain⟨xs,x,hq,hx⟩:=hg;obtain⟨its,rv,p,hz⟩:=I.list hq;obtain⟨u,hu,ru⟩:=rv.get hx;refine wpAny_pyNext_enum_item he hit p.isList (x:=u) (by simpa using hu) hne fun h' ho hit' hT hsz hk=>?_;refine⟨_,rfl,wpAny_letOwnedTupleGo_enum ho fun h2 he2 hs2=>?_⟩;have kk2:∀b o,b∉[e,it]->s.heap.get? b=some o->h2.get? b=some o:=fun b o hb q=>by
   have hb1:b≠e:=fun z=>hb (by simp[z])
   have hb2:b≠it:=fun z=>hb (by simp[z])
   exact(hs2.2 b hb1).trans (hk b o hb1 hb2 q)
  have helt:e<s.heap.objs.size:=Yp he;have hilt:it<s.heap.objs.size:=by obtain⟨_,x,_⟩:=hit;exact Yp x
  have hTe:s.heap.objs.size≠e:=ZM helt;have hT2:h2.get? s.heap.objs.size=some {cls:=.type "tuple",data:=.seq #[.int i s.toks,u]}:=(hs2.2 _ hTe).trans hT;have I2:Inv X pz σ (upd H s.heap.objs.size (.tup [.int (i:Nat),x])) {s with heap:=h2,toks:=s.toks+1}:=
   I.turnedLaid (t':=s.toks+1) kk2 hf (Yl _) ⟨show 2<=sizeLine by decide,[.int i s.toks,u],.cons ⟨_,rfl⟩ (.cons ru .nil),⟨_,hT2,rfl,_,rfl⟩,_,hT2,rfl⟩
  have hn:H s.heap.objs.size=none:=I.hok.fresh (Yl _);refine⟨.ref s.heap.objs.size,_,I2,rfl,⟨_,x,hn,rfl,rfl,fun ys hy=>by rw[I.list_inj hy hq];exact hx⟩,⟨⟨_,by simpa using he2⟩,hit'.at fun o q=>(hs2.2 it (XM hne)).trans q⟩,fun b hb=>?_⟩;have hb':b=e\/b=it:=by simpa using hb
  rw[aK (by rcases hb' with rfl|rfl;exact YA helt;exact YA hilt)];exact(hf b hb).1
 done:=by intro X hP hw hK hc i pz s σ H E I hf st hg;subst hP hw hK;obtain⟨⟨old,he⟩,hit⟩:=st;obtain⟨xs,hq,hx⟩:=hg;obtain⟨its,rv,p,hz⟩:=I.list hq;have hl:=rv.length;exact wpAny_pyNext_enum_end (I.ok.hd hc) he hit p.isList (by simp;omega) fun h' eb=>⟨rfl,I.turnedL (t':=s.toks) (fun b o hb q=>eb b o (fun z=>hb (by simp[z])) q) hf⟩
 self:=fun _ _ _ _ _ st h=>by
  obtain⟨⟨old,he⟩,_⟩:=st;exact wpAny_pyIter_enum he h
section
variable{X:Cx}{l:Expr}{elts:List Expr}{kk:Nat}{tpos pos p:Pos}
def Dx(K:Kq)(ta:TA):TI:=fun σ H R=>ta σ H fun vs H1=>∃a,vs=[.ref a]/\(∃xs,SqL K H1 a xs)/\R (Ite K a) H1
theorem jZ:bootBuiltins "enumerate"=some (.type "enumerate"):=by rfl
theorem sD{ta:TA}(hg:Gl X "enumerate")(hm:X.mg "enumerate"=none)(ha:PA X [l] ta)(hs:starEach [l] X.env=[(false,eval l X.env)]:=by rfl):PI X (.Tuple elts kk tpos) (.Call (.Name "enumerate" p) [l] [] pos) (Dx X.K ta):=by
 intro pz s σ H R I h;refine Call_ (fT I hg hm jZ (ZD (thn (ha pos pz s σ H _ I h) fun us s1 ⟨vs,H1,I1,r1,q1⟩=>?_) hs rfl));obtain⟨a,e,⟨xs,hq⟩,q⟩:=q1;subst e;obtain⟨u,rfl,rx⟩:=dI r1;cases(show u=Value.ref a from rx);obtain⟨its,rv,pl,hz⟩:=I1.list hq;refine call_enumerate_list pl.isList fun h' he hit hsz kp=>?_;have I2:Inv X pz σ H1 {s1 with heap:=h' }:=I1.kept (t':=s1.toks) kp;refine wpAny_pyIter_enum he ?_;refine⟨s1.heap.objs.size+1,[s1.heap.objs.size+1,s1.heap.objs.size],_,_,H1,rfl,I2,t_ a _ _ (ZM (ZX _)),⟨⟨_,he⟩,hit⟩,fun b hb=>?_,q⟩;have hb':b=s1.heap.objs.size+1\/b=s1.heap.objs.size:=by simpa using hb
 rcases hb' with rfl|rfl
 ·exact I1.fpOk (Xd _) (I1.hok.fresh (Xd _))
 ·exact I1.fpOk (Yl _) (I1.hok.fresh (Yl _))
def di(ds:List D):List D:=ds.zipIdx.map fun x=>.tup [.int (x.2:Int),x.1]
def j5(f:Dd):DF->Option (List D):=fun ρ=>match f ρ with
 |some (.lst ds)=>some (di ds)
 |_=>none
theorem gT{ds:List D}{i:Nat}{d:D}(h:(di ds)[i]?=some d):∃d0,ds[i]?=some d0/\d=.tup [.int (i:Int),d0]:=by
 unfold di at h;rw[Ys,List.getElem?_zipIdx]at h;cases q:ds[i]? with
 |none=>rw[q]at h;cases h
 |some d0=>rw[q]at h;cases h;exact⟨d0,rfl,by simp⟩
theorem kR{K:Kq}{P F:Hp}{a:Addr}{vs:List V}{ds:List D}(h:SqL K F a vs)(r:Reps K F vs ds):qD K P (Ite K a) F (di ds):=by intro F' H' e hp i;have hv:SqL K H' a vs:=hp.sub.seq (e.seq h);refine⟨fun d hd=>?_,fun hl=>⟨vs,hv,by rw[r.length];simpa[di]using hl⟩⟩;obtain⟨d0,hd0,rfl⟩:=gT hd;obtain⟨v,h1,h2⟩:=r.get hd0;refine⟨⟨vs,v,hv,h1⟩,fun x H2 hy=>?_⟩;obtain⟨q,v',hn,rfl,rfl,hx⟩:=hy;have:=hx vs hv;rw[h1]at this;cases this;have ev:=Evo.laid hp (o:=.tup [.int (i:Nat),v]) hn;exact⟨_,ev,.tup aX (.cons .int (.cons ((h2.same e).same ev.ext) .nil))⟩
theorem wE{f:Dd}(hg:Gl X "enumerate")(hm:X.mg "enumerate"=none)(h:PDE X l f)(hs:starEach [l] X.env=[(false,eval l X.env)]:=by rfl):PDI X (.Tuple elts kk tpos) (.Call (.Name "enumerate" p) [l] [] pos) (j5 f):=PI.imp (sD hg hm (ba h bK hs) hs) fun σ H R ⟨P,F,ρ,ds,hf,I,k⟩=>by
 unfold j5 at hf;split at hf
 ·rename_i ds0 q;cases hf;refine⟨P,F,ρ,_,q,I,fun v F' H' ev rv=>?_⟩;cases rv with
  |lst h1 h2=>exact⟨_,rfl,⟨_,ev.hp.sub.seq h1⟩,k _ F' H' ev (kR h1 h2)⟩
 ·cases hf
end
section
variable{prog:Program}{w:World}{A:Around}{E:Kv}{s:Shared}
end
section
variable{prog:Program}{w:World}{A:Around}{E:Kv}{s:Shared}
end
section
variable{prog:Program}{w:World}{A:Around}{E:Kv}{s:Shared}
end
section
variable{X:Cx}{e1 e2:Expr}{elts:List Expr}{kk:Nat}{tpos pos p:Pos}
end
section
variable{prog:Program}{w:World}{A:Around}{s:Shared}{R:Kr}
variable{I:Addr}{fp wr:List Addr}{n:Nat}{P:Nat->Value->Prop}{St:Nat->Heap->Prop}{T:String}
end
section
variable{prog:Program}{w:World}{A:Around}{E:Kv}{s:Shared}
variable{I:Addr}{fp wr:List Addr}{n:Nat}{P:Nat->Value->Prop}{St:Nat->Heap->Prop}{T:String}
end
section
variable{prog:Program}{w:World}{A:Around}{E:Kv}{s:Shared}
end
section
variable{X:Cx}{e a:Expr}{p p' p2 pos cpos rpos:Pos}{t:TA}
theorem kJ:bootBuiltins "reversed"=some (.type "reversed"):=by decide+kernel
variable{fa:Dd}
theorem Reps.app{K:Kq}{F:Hp}:∀{as bs:List V}{cs es:List D},Reps K F as cs->Reps K F bs es->Reps K F (as++bs) (cs++es)
 |_,_,_,_,.nil,h=>h
 |_,_,_,_,.cons r q,h=>.cons r (Reps.app q h)
theorem Reps.rev{K:Kq}{F:Hp}:∀{vs:List V}{ds:List D},Reps K F vs ds->Reps K F vs.reverse ds.reverse
 |_,_,.nil=>.nil
 |_,_,.cons r q=>by
  rw[List.reverse_cons,List.reverse_cons];exact Reps.app (Reps.rev q) (.cons r .nil)
end
def uk(x:Str)(n:Int):Str:=if n<1 then Str.empty else if(n == 1||x.length == 0)=true then x else⟨(List.replicate n.toNat x.cps).foldl (·++·) #[]⟩
def gP:D->D->Option D
 |.str x,.int n=>if -(2^62)<=n/\n<1000/\x.length<=1000 then some (.str (uk x n))else none
 |_,_=>none
def zz:R2:=fun x y H Q=>∃z n,x=.str z/\y=.int n/\(-(2^62)<=n/\n<1000/\z.length<=1000)/\Q (.str (uk z n)) H
theorem pF(c:Array Nat):∀(k:Nat) (acc:Array Nat),((List.replicate k c).foldl (·++·) acc).size=acc.size+k*c.size
 |0,acc=>by simp
 |k+1,acc=>by
  rw[List.replicate_succ,List.foldl_cons,pF c k,VT,Nat.succ_mul];omega
section
variable{X:Cx}{a b:Expr}{pos:Pos}{fa fb:Dd}
theorem xS:OpR X (binaryOp .Mult) zz:=by
 intro pz s σ H x y v u Q I rx ry h;obtain⟨z,n,rfl,rfl,⟨b1,b2,b3⟩,q⟩:=h;obtain⟨t,rfl⟩:=rx;obtain⟨t',rfl⟩:=ry;refine PySem.P.mul_str (by rw[YB (show ¬n < -(2^63:Int)by omega),YB (show ¬n ≥ 2^63 by omega)];rfl) (fun h1 _=>?_) (fun h1 _=>?_) ?_
 ·have h3:1000<=(2^63-1:Int)/n:=Int.le_ediv_of_mul_le (by omega) (by omega);have h4:(z.length:Int)<=1000:=Int.ofNat_le.mpr b3;omega
 ·have h3:z.length*n.toNat<=1000*1000:=Nat.mul_le_mul b3 (by omega);show decide (z.length*n.toNat > sizeLine)=false;rw[Xa,YR];omega
 ·unfold uk at q;split
  ·rename_i h1;rw[if_pos h1]at q;exact⟨by decide,⟨.str Str.empty,H,I.tok _,⟨_,rfl⟩,q⟩⟩
  ·rename_i h1;rw[if_neg h1]at q;split
   ·rename_i h2;rw[if_pos h2]at q;exact⟨.str z,H,I,⟨_,rfl⟩,q⟩
   ·rename_i h2;rw[if_neg h2]at q;refine⟨?_,⟨.str _,H,I.tok _,⟨_,rfl⟩,q⟩⟩;show((List.replicate n.toNat z.cps).foldl (·++·) #[]).size<=sizeLine;rw[pF,YR];have h3:n.toNat*z.cps.size<=1000*1000:=Nat.mul_le_mul (by omega) b3;show 0+n.toNat*z.cps.size<=_;omega
theorem xL{K:Kq}:oU K zz gP:=by
 intro P F H ρ σ x y dx dy d Q hf I rx ry k;unfold gP at hf;split at hf
 ·rename_i z n;split at hf
  ·rename_i hb;cases hf;exact⟨z,n,iQ rx,cr ry,hb,k _ F H (Evo.refl I.toDHp) .str⟩
  ·cases hf
 ·cases hf
theorem mO(ha:PDR X a fa)(hb:PDR X b fb):PDE X (.BinOp a .Mult b pos) (d2 gP fa fb):=fZ xS xL ha hb
end
mutual
def aF(w:World):D->Int
 |.int i=>hashInt i
 |.str x=>hashStr w x
 |.tup xs=>reduceHash (Builtin.Tuple.tupleHashOf (jp w xs))
 |_=>0
def jp(w:World):List D->List Int
 |[]=>[]
 |d::ds=>aF w d::jp w ds
end
theorem jM(w:World):∀ds,jp w ds=ds.map (aF w)
 |[]=>rfl
 |d::ds=>by rw[YG,<-jM w ds];rfl
def hkN:Nat->D->Bool
 |_,.int _=>true
 |n+1,.tup xs=>xs.all (hkN n)
 |_,_=>false
section
variable{prog:Program}{w:World}
theorem du{h:Heap}{ds:List D}{u:Value}{as:List Addr}(r:Reads h u (bM (.tup ds)) as):∃a o vs n,u=.ref a/\h.get? a=some o/\o.cls=.type "tuple"/\o.data=.seq vs n/\ReadsAll h vs.toList (bN ds) as:=by
 cases r with
 |tuple h1 h2 h3 h4=>exact⟨_,_,_,_,rfl,h1,h2,h3,h4⟩
theorem yg:∀(n:Nat) {A:Around}{E:Kv}{s:Shared}{d:D}{u:Value}{as:List Addr}{Q:Int->Shared->Prop},A.units+n<cLine->hkN n d=true->Reads s.heap u (bM d) as->
  (∀tk,s.toks<=tk->Q (aF w d) {s with toks:=tk})->wpAny (model prog w) A (pyHash u) Q E s:=by
 intro n;induction n with
 |zero=>
  intro A E s d u as Q hu hd r h;cases d with
  |int i=>cases r;exact wpAny_pyHash_int (h _ (Xd _))
  |str x=>cases r;exact Vr (h _ (Xd _))
  |_=>cases hd
 |succ n ih=>
  intro A E s d u as Q hu hd r h;cases d with
  |int i=>cases r;exact wpAny_pyHash_int (h _ (Xd _))
  |str x=>cases r;exact Vr (h _ (Xd _))
  |tup ds=>
   obtain⟨a,o,vs,m,rfl,ho,hc,hdt,ra⟩:=du r;have hT:s.TypeIs (.ref a) "tuple":=⟨o,ho,hc⟩
   have hall:∀d∈ds,hkN n d=true:=fun d m=>Yi.mp hd d m
   unfold pyHash;unfold pyHashByItsType;refine Ya (wpAny_cRoomFor_or (.inr (by omega)) ?_);refine Ya (XA hT XE.lookup ?_);show wpAny _ _ (if(some (Value.builtin "tuple.__hash__") == some Value.none)=true then _ else _) Q E s;rw[if_neg (by rw[beq_builtin_none];exact Yj)];refine Ya (XA hT XE.lookup ?_);show wpAny _ _ (callSpecialIfBoundUnlessNone? (.ref a) "__hash__" _>>=_) Q E s;refine Ya (wpAny_callSpecialIfBoundUnlessNone?_slot hT XE (Zx XE hT F.entry_tuple_hash ?_ (F.args_tuple_hash_1 _)));show wpAny _ _ (Builtin.Tuple.tupleItemsOf (.ref a)>>=_) _ _ s;refine Ya (wpAny_tupleItemsOf ho hdt ?_);refine Ya ?_;rw[<-XV];refine Xu _
    (fun bH (b:Array Int) s'=>∃done left bs tk,ds=done++left/\ReadsAll s.heap bH (bN left) bs/\b.toList=done.map (aF w)/\s.toks<=tk/\s'={s with toks:=tk})
    _ ?_ ?_ _ _ ⟨[],ds,_,_,rfl,ra,rfl,Yl _,rfl⟩
   ·rintro x bH b s' ⟨done,left,bs,tk,e,hl,hb,hk,rfl⟩;cases left with
    |nil=>cases hl
    |cons d0 left=>
     cases hl with
     |cons h1 h2=>
      refine Ya (ih (by show A.units+1+n<cLine;omega) (hall d0 (by rw[e];simp)) h1 fun tk' hk'=>?_)
      first
       |exact Yg ⟨done++[d0],left,_,_,by simp[e],h2,by simp[hb],YC hk hk',rfl⟩
       |exact Ya (Yg (Yg ⟨done++[d0],left,_,_,by simp[e],h2,by simp[hb],YC hk hk',rfl⟩))
   ·rintro b s' ⟨done,left,bs,tk,e,hl,hb,hk,rfl⟩;cases left with
    |cons _ _=>cases hl
    |nil=>
    rw[Zf]at e;subst e;show wpAny _ _ (retInt (Builtin.Tuple.tupleHashOf b.toList)) _ _ _;rw[hb,<-jM];refine wpAny_ret_mkInt ?_;have h':∀tk,s.toks<=tk->Q (reduceHash (Builtin.Tuple.tupleHashOf (jp w ds))) {s with toks:=tk}:=h;generalize Builtin.Tuple.tupleHashOf (jp w ds)=z at h';show wpAny _ _ (if(decide (-(2:Int)^63<=z)&&decide (z<2^63))=true then _ else _) Q E _;unfold reduceHash at h';by_cases hr:(decide (-(2:Int)^63<=z)&&decide (z<2^63))=true
    ·rw[if_pos hr];rw[if_pos hr]at h';exact Yg (h' _ (by show s.toks<=_;first|exact hk|(simp only[];omega)))
    ·rw[if_neg hr];rw[if_neg hr]at h';exact Ya (wpAny_rule (Yg (h' _ (by show s.toks<=_;first|exact hk|(simp only[];omega)))))
  |_=>cases hd
end
section
variable{prog:Program}{w:World}
theorem pf:∀(n m:Nat) {A:Around}{E:Kv}{s:Shared}{d:D}{u:Value}{as:List Addr}{Q:Kb},n<=m->hkN n d=true->Reads s.heap u (bM d) as->Q true s->
  wpAny (model prog w) A (eqIsQuiet m u) Q E s:=by
 intro n;induction n with
 |zero=>
  intro m A E s d u as Q hm hd r h;cases d with
  |int i=>cases r;rw[Vd _ rfl];exact Yg h
  |str x=>cases r;rw[Vd _ rfl];exact Yg h
  |_=>cases hd
 |succ n ih=>
  intro m A E s d u as Q hm hd r h;cases d with
  |int i=>cases r;rw[Vd _ rfl];exact Yg h
  |str x=>cases r;rw[Vd _ rfl];exact Yg h
  |tup ds=>
   obtain⟨a,o,vs,k,rfl,ho,hc,hdt,ra⟩:=du r;have hT:s.TypeIs (.ref a) "tuple":=⟨o,ho,hc⟩
   have hall:∀d∈ds,hkN n d=true:=fun d m=>Yi.mp hd d m
   obtain⟨m,rfl⟩:∃m',m=m' + 1:=⟨m-1,by omega⟩
   unfold eqIsQuiet;refine Ya (XA hT F.slot_tuple_eq.lookup ?_);show wpAny _ _ (isInstance (.ref a) (.type "tuple")>>=_) Q E s;refine Ya (XJ hT isSubtype_tuple_tuple ?_);show wpAny _ _ (seqItems? (.ref a)>>=_) Q E s;refine Ya (Vl ho hdt ?_);show wpAny _ _ (forIn vs _ _>>=_) Q E s;refine Ya ?_;rw[<-XV];refine Xu _ (fun bH r s'=>r.1=none/\s'=s/\∃left bs,(∀d∈left,hkN n d=true)/\ReadsAll s.heap bH (bN left) bs) _ ?_ ?_ _ _ ⟨rfl,rfl,ds,_,hall,ra⟩
   ·rintro x bH ⟨r1,r2⟩ s' ⟨e,rfl,left,bs,hl,hr⟩;cases left with
    |nil=>cases hr
    |cons d0 left=>
     cases hr with
     |cons h1 h2=>
      refine Ya (ih m (by omega) (hl d0 Ye) h1 ?_);exact Yg ⟨rfl,rfl,left,_,fun d m=>hl d (Yc _ m),h2⟩
   ·rintro⟨r1,r2⟩ s' ⟨e,rfl,_⟩;cases e;exact Yg h
  |_=>cases hd
theorem wX:∀(n m:Nat) {A:Around}{E:Kv}{s:Shared}{d:D}{u:Value}{as:List Addr}{Q:Kb},n<=m->hkN n d=true->Reads s.heap u (bM d) as->Q true s->
  wpAny (model prog w) A (hashByValue m u) Q E s:=by
 intro n;induction n with
 |zero=>
  intro m A E s d u as Q hm hd r h;cases d with
  |int i=>cases r;rw[Vo _ rfl];exact Yg h
  |_=>cases hd
 |succ n ih=>
  intro m A E s d u as Q hm hd r h;cases d with
  |int i=>cases r;rw[Vo _ rfl];exact Yg h
  |tup ds=>
   obtain⟨a,o,vs,k,rfl,ho,hc,hdt,ra⟩:=du r;have hT:s.TypeIs (.ref a) "tuple":=⟨o,ho,hc⟩
   have hall:∀d∈ds,hkN n d=true:=fun d m=>Yi.mp hd d m
   obtain⟨m,rfl⟩:∃m',m=m' + 1:=⟨m-1,by omega⟩
   unfold hashByValue;refine Ya (XA hT XE.lookup ?_);show wpAny _ _ (seqItems? (.ref a)>>=_) Q E s;refine Ya (Vl ho hdt ?_);show wpAny _ _ (forIn vs _ _>>=_) Q E s;refine Ya ?_;rw[<-XV];refine Xu _ (fun bH r s'=>r.1=none/\s'=s/\∃left bs,(∀d∈left,hkN n d=true)/\ReadsAll s.heap bH (bN left) bs) _ ?_ ?_ _ _ ⟨rfl,rfl,ds,_,hall,ra⟩
   ·rintro x bH ⟨r1,r2⟩ s' ⟨e,rfl,left,bs,hl,hr⟩;cases left with
    |nil=>cases hr
    |cons d0 left=>
     cases hr with
     |cons h1 h2=>
      refine Ya (ih m (by omega) (hl d0 Ye) h1 ?_);exact Yg ⟨rfl,rfl,left,_,fun d m=>hl d (Yc _ m),h2⟩
   ·rintro⟨r1,r2⟩ s' ⟨e,rfl,_⟩;cases e;exact Yg h
  |_=>cases hd
theorem wF:∀(n m:Nat) {A:Around}{E:Kv}{s:Shared}{d:D}{u:Value}{as:List Addr}{Q:Kb},n<=m->hkN n d=true->Reads s.heap u (bM d) as->Q false s->
  wpAny (model prog w) A (ofAClassStatement m u) Q E s:=by
 intro n;induction n with
 |zero=>
  intro m A E s d u as Q hm hd r h;cases d with
  |int i=>cases r;unfold ofAClassStatement;exact Yg h
  |str x=>cases r;unfold ofAClassStatement;exact Yg h
  |_=>cases hd
 |succ n ih=>
  intro m A E s d u as Q hm hd r h;cases d with
  |int i=>cases r;unfold ofAClassStatement;exact Yg h
  |str x=>cases r;unfold ofAClassStatement;exact Yg h
  |tup ds=>
   obtain⟨a,o,vs,k,rfl,ho,hc,hdt,ra⟩:=du r;have hT:s.TypeIs (.ref a) "tuple":=⟨o,ho,hc⟩
   have hall:∀d∈ds,hkN n d=true:=fun d m=>Yi.mp hd d m
   obtain⟨m,rfl⟩:∃m',m=m' + 1:=⟨m-1,by omega⟩
   unfold ofAClassStatement;refine Ya (Vn hT ?_);show wpAny _ _ ((if("tuple" == "tuple")=true then pure true else isSubtype (.type "tuple") (.type "tuple"))>>=_) Q E s;rw[if_pos (show("tuple" == "tuple")=true by decide)];refine Ya (Yg ?_);show wpAny _ _ (seqItems? (.ref a)>>=_) Q E s;refine Ya (Vl ho hdt ?_);show wpAny _ _ (forIn vs _ _>>=_) Q E s;refine Ya ?_;rw[<-XV];refine Xu _ (fun bH r s'=>r.1=none/\s'=s/\∃left bs,(∀d∈left,hkN n d=true)/\ReadsAll s.heap bH (bN left) bs) _ ?_ ?_ _ _ ⟨rfl,rfl,ds,_,hall,ra⟩
   ·rintro x bH ⟨r1,r2⟩ s' ⟨e,rfl,left,bs,hl,hr⟩;cases left with
    |nil=>cases hr
    |cons d0 left=>
     cases hr with
     |cons h1 h2=>
      refine Ya (ih m (by omega) (hl d0 Ye) h1 ?_);exact Yg ⟨rfl,rfl,left,_,fun d m=>hl d (Yc _ m),h2⟩
   ·rintro⟨r1,r2⟩ s' ⟨e,rfl,_⟩;cases e;exact Yg h
  |_=>cases hd
end
end L2
namespace L2
open PySem PySem.SetTable
structure Rising (xs:Array Nat):Prop where
 lt:∀i j (hi:i<xs.size) (hj:j<xs.size),i<j->xs[i]<xs[j]
theorem kh{xs:Array Nat}{j:Nat}(r:Rising xs):∀(f lo hi:Nat),lo<=hi->hi<=xs.size->hi-lo<=f->(∀i (h:i<xs.size),i<lo->xs[i]<j)->(∀i (h:i<xs.size),hi<=i->j<=xs[i])->
  ∃k,below.go xs j f lo hi=k/\k<=xs.size/\(∀i (h:i<xs.size),i<k->xs[i]<j)/\∀i (h:i<xs.size),k<=i->j<=xs[i]
 |0,lo,hi,h1,h2,h3,h4,h5=>by
  have e:lo=hi:=by omega
  subst e;exact⟨lo,rfl,h2,h4,h5⟩
 |f+1,lo,hi,h1,h2,h3,h4,h5=>by
  unfold below.go;by_cases hlt:lo<hi
  ·rw[if_pos hlt];have hm:(lo+hi)/2<xs.size:=by omega
   have eg:xs.getD ((lo+hi)/2) j=xs[(lo+hi)/2]:=by simp[Array.getD,hm]
   dsimp only;rw[eg];by_cases hc:xs[(lo+hi)/2]<j
   ·rw[if_pos hc];refine kh r f _ _ (by omega) h2 (by omega) (fun i h hi'=>?_) h5;by_cases e:i=(lo+hi)/2
    ·subst e;exact hc
    ·exact Xg (r.lt i _ h hm (by omega)) hc
   ·rw[if_neg hc];refine kh r f _ _ (by omega) (by omega) (by omega) h4 (fun i h hi'=>?_);by_cases e:i=(lo+hi)/2
    ·subst e;omega
    ·exact YC (by omega) (ZL (r.lt _ i hm h (by omega)))
  ·rw[if_neg hlt];have e:lo=hi:=by omega
   subst e;exact⟨lo,rfl,h2,h4,h5⟩
theorem dH{xs:Array Nat}(r:Rising xs)(j:Nat):below xs j<=xs.size/\(∀i (h:i<xs.size),i<below xs j->xs[i]<j)/\∀i (h:i<xs.size),below xs j<=i->j<=xs[i]:=by obtain⟨k,h1,h2,h3,h4⟩:=kh (j:=j) r xs.size 0 xs.size (YF _) (Yl _) (by omega) (fun i h z=>by omega) (fun i h z=>by omega);have e:below xs j=k:=h1;rw[e];exact⟨h2,h3,h4⟩
theorem ww{xs:Array Nat}(r:Rising xs){i:Nat}(h:i<xs.size):below xs xs[i]=i:=by
 obtain⟨h1,h2,h3⟩:=dH r xs[i];apply Zh
 ·rcases XO i (below xs xs[i])with q|q
  ·exact absurd (h2 i h q) (Zd _)
  ·exact q
 ·rcases XO (below xs xs[i]) i with q|q
  ·have hb:below xs xs[i]<xs.size:=by omega
   have:=r.lt _ i hb h q;have:=h3 _ hb (Yl _);omega
  ·exact q
theorem lu{t:SetTable}(r:Rising t.place){i j:Nat}(h:t.place[i]?=some j):t.slot j=.live i:=by
 obtain⟨hi,e⟩:=Zg.mp h;unfold slot;have eb:below t.place j=i:=by rw[<-e];exact ww r hi
 dsimp only;rw[eb,h];simp
theorem rq{t:SetTable}(r:Rising t.place)(hd:t.dummies=#[]){j:Nat}(h:j∉t.place):t.slot j=.empty:=by
 unfold slot;dsimp only;have hn:(t.place[below t.place j]? == some j)=false:=by
  cases q:t.place[below t.place j]? with
  |none=>rfl
  |some k=>
   have:k≠j:=fun z=>by subst z;exact h (ZA q)
   simpa using this
 rw[hn];simp only[ZE,Vk];have:has t.dummies j=false:=by unfold has;rw[hd];simp
 rw[this];simp
def ju(mask:Nat)(p:Probe):Probe:=
 if p.more > 0 then{p with j:=p.j+1,more:=p.more-1}else
 let (i,perturb):=leap mask p.i p.perturb
 {p with j:=i,more:=runEnd mask i-i,i,perturb}
def startM(mask:Nat)(h:Int):Probe:=
 let i:=bits h%(mask+1)
 {j:=i,more:=runEnd mask i-i,i,perturb:=bits h,dummy:=none}
def a_(mask:Nat)(p:Probe):Nat->Probe
 |0=>p
 |n+1=>ju mask (a_ mask p n)
def at_(mask:Nat)(h:Int)(n:Nat):Nat:=(a_ mask (startM mask h) n).j
theorem g8(mask:Nat)(p:Probe)(m:Nat):∀n,a_ mask p (m+n)=a_ mask (a_ mask p m) n
 |0=>rfl
 |n+1=>by show ju mask (a_ mask p (m+n))=_;rw[g8 mask p m n];rfl
theorem e7(mask:Nat)(p:Probe):∀n,(a_ mask p n).dummy=p.dummy
 |0=>rfl
 |n+1=>by
  show(ju mask (a_ mask p n)).dummy=_;unfold ju;split
  ·exact e7 mask p n
  ·exact e7 mask p n
theorem d8(mask:Nat)(p:Probe):∀n,n<=p.more->a_ mask p n={p with j:=p.j+n,more:=p.more-n}
 |0,_=>rfl
 |n+1,h=>by
  show ju mask (a_ mask p n)=_;rw[d8 mask p n (by omega)];unfold ju;have:(p.more-n) > 0:=by omega
  rw[if_pos (show({p with j:=p.j+n,more:=p.more-n}:Probe).more > 0 from this)];simp only[Probe.mk.injEq,and_true,true_and];omega
def cK(mask:Nat)(i perturb:Nat):Nat->Nat×Nat
 |0=>(i,perturb)
 |k+1=>let (i',p'):=cK mask i perturb k;leap mask i' p'
def bn(mask:Nat)(i perturb:Nat)(d:Option Nat):Probe:={j:=i,more:=runEnd mask i-i,i,perturb,dummy:=d}
theorem pE(mask i:Nat):runEnd mask i-i<=9:=by unfold runEnd;split<;>omega
theorem lM(mask i pt:Nat)(d:Option Nat):a_ mask (bn mask i pt d) (runEnd mask i-i+1)=bn mask (leap mask i pt).1 (leap mask i pt).2 d:=by show ju mask (a_ mask (bn mask i pt d) (runEnd mask i-i))=_;rw[d8 mask (bn mask i pt d) (runEnd mask i-i) (Yl _)];unfold ju;rw[if_neg (by show ¬(runEnd mask i-i-(runEnd mask i-i) > 0);omega)];rfl
theorem iz(mask i pt:Nat)(d:Option Nat):∀k,∃n,n<=10*k/\a_ mask (bn mask i pt d) n=bn mask (cK mask i pt k).1 (cK mask i pt k).2 d
 |0=>⟨0,Yl _,rfl⟩
 |k+1=>by
  obtain⟨n,h1,h2⟩:=iz mask i pt d k;refine⟨n+(runEnd mask (cK mask i pt k).1-(cK mask i pt k).1+1),?_,?_⟩
  ·have:=pE mask (cK mask i pt k).1;omega
  ·rw[g8,h2,lM];rfl
def lcg(m:Nat)(i:Nat):Nat->Nat
 |0=>i
 |k+1=>(lcg m i k*5+1)%m
theorem gu(m i a:Nat):∀b,lcg m i (a+b)=lcg m (lcg m i a) b
 |0=>rfl
 |b+1=>by show(lcg m i (a+b)*5+1)%m=_;rw[gu m i a b];rfl
def fW(m:Nat):Prop:=(∀j,j<m->∃k,k<m/\lcg m 0 k=j)/\lcg m 0 m=0
theorem sV{m:Nat}(hm:0<m)(F:fW m){i j:Nat}(hi:i<m)(hj:j<m):∃k,k<m/\lcg m i k=j:=by
 obtain⟨a,ha,ea⟩:=F.1 i hi;obtain⟨b,hb,eb⟩:=F.1 j hj;by_cases h:a<=b
 ·refine⟨b-a,by omega,?_⟩;rw[<-ea,<-gu,show a+(b-a)=b by omega,eb]
 ·refine⟨m-a+b,by omega,?_⟩;rw[<-ea,<-gu,show a+(m-a+b)=m+b by omega,gu,F.2,eb]
def oe(m:Nat):Nat->Nat->List Nat
 |0,_=>[]
 |n+1,i=>i::oe m n ((i*5+1)%m)
theorem jJ(m:Nat):∀(n i k:Nat),k<n->(oe m n i)[k]?=some (lcg m i k)
 |0,_,_,h=>by omega
 |n+1,i,0,_=>rfl
 |n+1,i,k+1,h=>by
  show(oe m n ((i*5+1)%m))[k]?=_;rw[jJ m n _ k (by omega)];rw[show k+1=1+k by omega,gu];rfl
theorem nq(m:Nat)(h:((List.range m).all fun j=>(oe m m 0).contains j)=true)(h0:(oe m (m+1) 0)[m]?=some 0):fW m:=by
 refine⟨fun j hj=>?_,?_⟩
 ·have hc:=Yi.mp h j (YI.mpr hj);have hm:j∈oe m m 0:=by simpa using hc
  obtain⟨k,hk,e⟩:=ZP hm;have hl:∀n i,(oe m n i).length=n:=by
   intro n;induction n with
   |zero=>intro i;rfl
   |succ n ih=>intro i;show(oe m n _).length+1=n+1;rw[ih]
  have hk':k<m:=by rw[hl]at hk;exact hk
  refine⟨k,hk',?_⟩;have:=jJ m m 0 k hk';rw[Yf hk,e]at this;exact(Yy this).symm
 ·rw[jJ m (m+1) 0 m (by omega)]at h0;exact Yy h0
theorem zL:fW 8:=nq 8 (by decide) (by decide)
theorem BG:fW 32:=nq 32 (by decide+kernel) (by decide+kernel)
theorem yO:fW 128:=nq 128 (by decide+kernel) (by decide+kernel)
theorem o0(mask i pt:Nat):∀k,(cK mask i pt k).2=pt/32^k
 |0=>by simp[cK]
 |k+1=>by
  show(cK mask i pt k).2/32=_;rw[o0 mask i pt k,Nat.div_div_eq_div_mul,Nat.pow_succ]
theorem ia(mask i pt:Nat)(a:Nat)(h:pt/32^(a+1)=0):∀k,(cK mask i pt (a+k)).1=lcg (mask+1) (cK mask i pt a).1 k
 |0=>rfl
 |k+1=>by
  show(leap mask (cK mask i pt (a+k)).1 (cK mask i pt (a+k)).2).1=_;unfold leap;rw[o0,ia mask i pt a h k];have:pt/32^(a+k)/32=0:=by
   rw[Nat.div_div_eq_div_mul,<-Nat.pow_succ];have h1:32^(a+1)<=32^(a+k+1):=Nat.pow_le_pow_right (by omega) (by omega);have h2:pt<32^(a+1):=by
    rcases XO pt (32^(a+1))with q|q
    ·exact q
    ·have:=Nat.div_pos q (Nat.pow_pos (by omega:0<32));omega
   exact Nat.div_eq_of_lt (Yt h2 h1)
  rw[this];rfl
theorem oP(mask i pt:Nat)(h:i<mask+1):∀k,(cK mask i pt k).1<mask+1
 |0=>h
 |k+1=>VA _ (Xh _)
theorem sI(h:Int):bits h<2^64:=by unfold bits;have h1:=Ze h (by decide:(2^64:Int)≠0);have h2:=YT h (by decide:(0:Int)<2^64);omega
theorem rA(mask:Nat)(h:Int):startM mask h=bn mask (bits h%(mask+1)) (bits h) none:=rfl
theorem sZ{mask:Nat}(F:fW (mask+1))(h:Int){j:Nat}(hj:j<=mask):∃k,k<turns mask/\(cK mask (bits h%(mask+1)) (bits h) k).1=j:=by have hz:bits h/32^(12+1)=0:=Nat.div_eq_of_lt (Yt (sI h) (by decide));have hi:bits h%(mask+1)<mask+1:=VA _ (Xh _);obtain⟨k,hk,ek⟩:=sV (Xh mask) F (oP mask _ (bits h) hi 12) (show j<mask+1 by omega);have e:=ia mask (bits h%(mask+1)) (bits h) 12 hz k;rw[ek]at e;exact⟨12+k,by unfold turns;omega,e⟩
theorem Be{mask:Nat}(F:fW (mask+1))(h:Int){j:Nat}(hj:j<=mask):∃n,n<10*turns mask/\at_ mask h n=j:=by
 have hz:bits h/32^(12+1)=0:=Nat.div_eq_of_lt (Yt (sI h) (by decide));have hi:bits h%(mask+1)<mask+1:=VA _ (Xh _);obtain⟨k,hk,ek⟩:=sV (Xh mask) F (oP mask _ (bits h) hi 12) (show j<mask+1 by omega);have e:=ia mask (bits h%(mask+1)) (bits h) 12 hz k;rw[ek]at e;obtain⟨n,hn,es⟩:=iz mask (bits h%(mask+1)) (bits h) none (12+k);refine⟨n,?_,?_⟩
 ·unfold turns;omega
 ·unfold at_;rw[rA,es,e];rfl
structure TabOk (hs:Nat->Int) (t:SetTable):Prop where
 rise:Rising t.place
 nod:t.dummies=#[]
 bd:∀j,j∈t.place->j<=t.mask
 odd:t.mask%2=1
 full:fW (t.mask+1)
 room:t.place.size<=t.mask
 reach:∀i j,t.place[i]?=some j->∃n,n<10*turns t.mask/\at_ t.mask (hs i) n=j/\∀m,m<n->at_ t.mask (hs i) m∈t.place
theorem TabOk.fits{hs:Nat->Int}{t:SetTable}(k:TabOk hs t){n:Nat}(h:t.place.size=n):t.fits n=true:=by unfold SetTable.fits fill;rw[k.nod];have:=k.room;simp[h];omega
theorem TabOk.gave{hs:Nat->Int}{t:SetTable}(k:TabOk hs t):t.gaveWay=false:=by unfold SetTable.gaveWay;rw[k.odd];rfl
theorem qz:∀(l m:List Nat),l.Nodup->(∀x∈l,x∈m)->l.length<=m.length
 |[],_,_,_=>YF _
 |x::l,m,nd,h=>by
  have hx:=h x Ye;have hn:=ZU.mp nd;have:=qz l (m.erase x) hn.2 fun y hy=>(List.mem_erase_of_ne (fun(z:y=x)=>hn.1 (z ▸ hy))).mpr (h y (Yc _ hy))
  rw[List.length_erase_of_mem hx]at this;have:=List.length_pos_of_mem hx;rw[Yw];omega
theorem l_{t:SetTable}(r:Rising t.place)(bd:∀j,j∈t.place->j<=t.mask)(room:t.place.size<=t.mask):∃j,j<=t.mask/\j∉t.place:=by
 apply Zk;intro hn;have hall:∀j,j<=t.mask->j∈t.place:=fun j hj=>Zk fun q=>hn ⟨j,hj,q⟩
 have hsub:∀j∈List.range (t.mask+1),j∈t.place.toList:=fun j hj=>Vu.mpr (hall j (by have:=YI.mp hj;omega))
 have h:=qz (List.range (t.mask+1)) t.place.toList XL hsub;rw[YZ,Yz]at h;omega
theorem TabOk.empty{hs:Nat->Int}{t:SetTable}(k:TabOk hs t)(h:Int):∃n,n<10*turns t.mask/\at_ t.mask h n∉t.place:=by obtain⟨j,h1,h2⟩:=l_ k.rise k.bd k.room;obtain⟨n,h3,h4⟩:=Be k.full h h1;exact⟨n,h3,by rw[h4];exact h2⟩
theorem ou{hs:Nat->Int}{t:SetTable}(k:TabOk hs t){hashAt:Nat->Int}{h:Int}{N:Nat}(hN:at_ t.mask h N∉t.place):∀(f n:Nat),n<=N->N-n<f->
  (∃m,n<=m/\m<=N/\at_ t.mask h m∉t.place/\(∀l,n<=l->l<m->∃i,t.place[i]?=some (at_ t.mask h l)/\hashAt i≠h)/\SetTable.probe.go t hashAt h f (a_ t.mask (startM t.mask h) n)=some (.empty (at_ t.mask h m) none)) \/
  ∃m i,n<=m/\m<N/\t.place[i]?=some (at_ t.mask h m)/\hashAt i=h/\(∀l,n<=l->l<m->∃i,t.place[i]?=some (at_ t.mask h l)/\hashAt i≠h)/\SetTable.probe.go t hashAt h f (a_ t.mask (startM t.mask h) n)=some (.candidate (at_ t.mask h m) i (a_ t.mask (startM t.mask h) (m+1)))
 |0,n,_,h2=>by omega
 |f+1,n,h1,h2=>by
  by_cases hm:at_ t.mask h n∈t.place
  ·obtain⟨i,hi,e⟩:=Vv hm;have hp:t.place[i]?=some (at_ t.mask h n):=by rw[Yq hi,e]
   have hne:n≠N:=fun z=>by subst z;exact hN hm
   have hs:=lu k.rise hp;by_cases hh:hashAt i=h
   ·refine .inr ⟨n,i,Yl _,by omega,hp,hh,fun l a b=>by omega,?_⟩;unfold SetTable.probe.go;rw[show t.slot (a_ t.mask (startM t.mask h) n).j=.live i from hs];have hb:(hashAt i == h)=true:=by simpa using hh
    simp only[hb,VV];rfl
   ·have go:SetTable.probe.go t hashAt h (f+1) (a_ t.mask (startM t.mask h) n)=SetTable.probe.go t hashAt h f (a_ t.mask (startM t.mask h) (n+1)):=by
     conv=>lhs;unfold SetTable.probe.go
     rw[show t.slot (a_ t.mask (startM t.mask h) n).j=.live i from hs];have hb:(hashAt i == h)=false:=by simpa using hh
     simp only[hb,ZE,Vk];rfl
    have more:∀{m},(∀l,n+1<=l->l<m->∃i,t.place[i]?=some (at_ t.mask h l)/\hashAt i≠h)->∀l,n<=l->l<m->∃i,t.place[i]?=some (at_ t.mask h l)/\hashAt i≠h:=fun{m} q l a b=>by
     by_cases e:l=n
     ·subst e;exact⟨i,hp,hh⟩
     ·exact q l (by omega) b
    rcases ou k hN f (n+1) (by omega) (by omega)with⟨m,a1,a2,a3,a4,a5⟩|⟨m,i',a1,a2,a3,a4,a5,a6⟩
    ·exact .inl ⟨m,by omega,a2,a3,more a4,by rw[go];exact a5⟩
    ·exact .inr ⟨m,i',by omega,a2,a3,a4,more a5,by rw[go];exact a6⟩
  ·refine .inl ⟨n,Yl _,h1,hm,fun l a b=>by omega,?_⟩;unfold SetTable.probe.go;rw[show t.slot (a_ t.mask (startM t.mask h) n).j=.empty from rq k.rise k.nod hm];show some (Met.empty _ (a_ t.mask (startM t.mask h) n).dummy)=_;rw[e7];rfl
theorem bA{α:Type}(xs:Array α)(p:Nat)(x:α)(h:p<=xs.size):(insertAt xs p x).size=xs.size+1:=by unfold insertAt;simp;omega
theorem br{α:Type}(xs:Array α)(p:Nat)(x:α)(h:p<=xs.size)(i:Nat):(insertAt xs p x)[i]?=if i<p then xs[i]? else if i=p then some x else xs[i-1]?:=by
 unfold insertAt;have hs:((xs.extract 0 p).push x).size=p+1:=by simp;omega
 rw[Array.getElem?_append,hs];by_cases h1:i<p
 ·rw[if_pos (by omega),if_pos h1,Array.getElem?_push,if_neg (by simp;omega),Array.getElem?_extract,if_pos (by omega)];simp
 ·rw[if_neg h1];by_cases h2:i=p
  ·rw[if_pos h2,if_pos (by omega),Array.getElem?_push,if_pos (by simp;omega)]
  ·rw[if_neg h2,if_neg (by omega),Array.getElem?_extract];by_cases h3:i-(p+1)<min xs.size xs.size-p
   ·rw[if_pos h3,show p+(i-(p+1))=i-1 by omega]
   ·rw[if_neg h3]
    symm
    rw[Array.getElem?_eq_none_iff];simp at h3;omega
theorem mR{α:Type}{xs:Array α}{p:Nat}{x y:α}(h:p<=xs.size):y∈insertAt xs p x↔y=x\/y∈xs:=by
 constructor
 ·intro hy;obtain⟨i,hi,e⟩:=Vv hy;have q:(insertAt xs p x)[i]?=some y:=by rw[Yq hi,e]
  rw[br xs p x h]at q;split at q
  ·exact .inr (ZA q)
  ·split at q
   ·cases q;exact .inl rfl
   ·exact .inr (ZA q)
 ·rintro (rfl|hy)
  ·exact ZA (i:=p) (by rw[br xs p y h,if_neg (Zd _),if_pos rfl])
  ·obtain⟨i,hi,e⟩:=Vv hy;have q:xs[i]?=some y:=by rw[Yq hi,e]
   by_cases hp:i<p
   ·exact ZA (i:=i) (by rw[br xs p x h,if_pos hp,q])
   ·exact ZA (i:=i+1) (by rw[br xs p x h,if_neg (by omega),if_neg (by omega)];exact q)
def vw(hs:Nat->Int)(p:Nat)(h:Int)(i:Nat):Int:=if i<p then hs i else if i=p then h else hs (i-1)
theorem kU(t:SetTable)(j:Nat):(t.put j).1.place=insertAt t.place (below t.place j) j:=rfl
theorem vE(t:SetTable)(j:Nat):(t.put j).1.mask=t.mask:=rfl
theorem qr{xs:Array Nat}(r:Rising xs){j:Nat}(hj:j∉xs):Rising (insertAt xs (below xs j) j):=by
 obtain⟨b1,b2,b3⟩:=dH r j;constructor;intro a b ha hb hab;rw[bA xs _ _ b1]at ha hb;have ga:=br xs (below xs j) j b1 a;have gb:=br xs (below xs j) j b1 b;rw[Yq (by rw[bA xs _ _ b1];exact ha)]at ga;rw[Yq (by rw[bA xs _ _ b1];exact hb)]at gb;have big:∀i (h:i<xs.size),below xs j<=i->j<xs[i]:=fun i h hi=>by
  have:=b3 i h hi;have:j≠xs[i]:=fun z=>hj (by rw[z];exact Array.getElem_mem h)
  omega
 by_cases c1:a<below xs j
 ·rw[if_pos c1,Yq (by omega)]at ga;have ga:=Yy ga;rw[ga];by_cases c2:b<below xs j
  ·rw[if_pos c2,Yq (by omega)]at gb;rw[Yy gb];exact r.lt a b (by omega) (by omega) hab
  ·rw[if_neg c2]at gb;by_cases c3:b=below xs j
   ·rw[if_pos c3]at gb;rw[Yy gb];exact b2 a (by omega) c1
   ·rw[if_neg c3,Yq (by omega)]at gb;rw[Yy gb];exact r.lt a (b-1) (by omega) (by omega) (by omega)
 ·rw[if_neg c1]at ga;rw[if_neg (by omega),if_neg (by omega),Yq (by omega)]at gb;rw[Yy gb];by_cases c2:a=below xs j
  ·rw[if_pos c2]at ga;rw[Yy ga];exact big (b-1) (by omega) (by omega)
  ·rw[if_neg c2,Yq (by omega)]at ga;rw[Yy ga];exact r.lt (a-1) (b-1) (by omega) (by omega) (by omega)
theorem TabOk.put{hs:Nat->Int}{t:SetTable}(k:TabOk hs t){h:Int}{N:Nat}(hN:N<10*turns t.mask)(he:at_ t.mask h N∉t.place)(hb:∀m,m<N->at_ t.mask h m∈t.place)(hj:at_ t.mask h N<=t.mask)(hr:t.place.size+1<=t.mask) :
  TabOk (vw hs (below t.place (at_ t.mask h N)) h) (t.put (at_ t.mask h N)).1:=by
 obtain⟨b1,b2,b3⟩:=dH k.rise (at_ t.mask h N);have mem:∀y,y∈(t.put (at_ t.mask h N)).1.place↔y=at_ t.mask h N\/y∈t.place:=fun y=>mR b1
 refine⟨qr k.rise he,?_,fun j hm=>?_,k.odd,k.full,?_,fun i j hij=>?_⟩
 ·show(if has t.dummies _ then _ else t.dummies)=#[];rw[k.nod];have:has (#[]:Array Nat) (at_ t.mask h N)=false:=by unfold has;simp
  rw[this];rfl
 ·rcases(mem j).mp hm with rfl|q
  ·exact hj
  ·exact k.bd j q
 ·show(insertAt t.place _ _).size<=t.mask;rw[bA _ _ _ b1];exact hr
 ·rw[kU,br _ _ _ b1]at hij;unfold vw;rw[vE];have old:∀i',t.place[i']?=some j->∃n,n<10*turns t.mask/\at_ t.mask (hs i') n=j/\∀m,m<n->at_ t.mask (hs i') m∈(t.put (at_ t.mask h N)).1.place:=fun i' q=>by
   obtain⟨n,a1,a2,a3⟩:=k.reach i' j q;exact⟨n,a1,a2,fun m hm=>(mem _).mpr (.inr (a3 m hm))⟩
  split at hij
  ·rename_i c;simp only[if_pos c];exact old i hij
  ·rename_i c;simp only[if_neg c];split at hij
   ·rename_i c2;cases hij;simp only[if_pos c2];exact⟨N,hN,rfl,fun m hm=>(mem _).mpr (.inr (hb m hm))⟩
   ·rename_i c2;simp only[if_neg c2];exact old (i-1) hij
theorem iF(mask i pt:Nat):∀k,cK mask i pt (k+1)=cK mask (leap mask i pt).1 (leap mask i pt).2 k
 |0=>rfl
 |k+1=>by
  show leap mask (cK mask i pt (k+1)).1 (cK mask i pt (k+1)).2=_;rw[iF mask i pt k];rfl
def own(owner:Array (Option Nat))(j:Nat):Option Nat:=owner.getD j (some 0)
theorem sU{mask:Nat}(owner:Array (Option Nat)):∀(f i pt:Nat),(∃k,k<f/\own owner (cK mask i pt k).1=none)->
  ∃n,n<10*f/\layClean.free mask owner f i pt=some (a_ mask (bn mask i pt none) n).j/\own owner (a_ mask (bn mask i pt none) n).j=none/\∀m,m<n->own owner (a_ mask (bn mask i pt none) m).j≠none
 |0,i,pt,⟨k,hk,_⟩=>by omega
 |f+1,i,pt,⟨k,hk,hn⟩=>by
  unfold layClean.free;have hm:=pE mask i;have hle:i<=runEnd mask i:=by unfold runEnd;split<;>omega
  cases q:(List.range (runEnd mask i+1-i)).find? fun k=>(owner.getD (i+k) (some 0)).isNone with
  |some r=>
   have h1:=List.find?_some q;have h2:=YI.mp (List.mem_of_find?_eq_some q);have e:(a_ mask (bn mask i pt none) r).j=i+r:=by rw[d8 mask (bn mask i pt none) r (by show r<=runEnd mask i-i;omega)];rfl
   refine⟨r,by omega,by rw[e],by rw[e];unfold own;simpa using h1,fun m hm'=>?_⟩;have e':(a_ mask (bn mask i pt none) m).j=i+m:=by rw[d8 mask (bn mask i pt none) m (by show m<=runEnd mask i-i;omega)];rfl
   rw[e'];intro z;obtain⟨_,as,bs,e1,e2⟩:=List.find?_eq_some_iff_append.mp q;have hmem:m∈as:=by
    have hr:(List.range (runEnd mask i+1-i))[m]?=some m:=Zo (by omega);have hlen:as.length=r:=by
     have hx:(List.range (runEnd mask i+1-i))[as.length]?=some r:=by rw[e1];simp
     have hl:as.length<runEnd mask i+1-i:=by have:=Zs List.length e1;simp at this;omega
     rw[Zo hl]at hx;exact Yy hx
    rw[e1,Zu (by omega)]at hr;exact YD hr
   have:=e2 m hmem;unfold own at z;rw[z]at this;simp at this
  |none=>
   have hall:=VP.mp q;have run:∀m,m<=runEnd mask i-i->(a_ mask (bn mask i pt none) m).j=i+m/\own owner (i+m)≠none:=fun m hm'=>by
    refine⟨?_,fun z=>?_⟩
    ·rw[d8 mask (bn mask i pt none) m (by show m<=runEnd mask i-i;omega)];rfl
    ·have:=hall m (YI.mpr (by omega));unfold own at z;rw[z]at this;simp at this
   cases k with
   |zero=>exact absurd (show own owner i=none from hn) (by have:=(run 0 (YF _)).2;simpa using this)
   |succ k=>
    rw[iF]at hn;obtain⟨n,a1,a2,a3,a4⟩:=sU owner f (leap mask i pt).1 (leap mask i pt).2 ⟨k,by omega,hn⟩;have sh:∀m,a_ mask (bn mask i pt none) (runEnd mask i-i+1+m)=a_ mask (bn mask (leap mask i pt).1 (leap mask i pt).2 none) m:=fun m=>by
     rw[g8,lM]
    refine⟨runEnd mask i-i+1+n,by omega,by rw[sh];exact a2,by rw[sh];exact a3,fun m hm'=>?_⟩;by_cases c:m<=runEnd mask i-i
    ·rw[(run m c).1];exact(run m c).2
    ·have:m=runEnd mask i-i+1+(m-(runEnd mask i-i+1)):=by omega
     rw[this,sh];exact a4 _ (by omega)
theorem kN{mask i:Nat}(h:i<=mask):runEnd mask i<=mask:=by unfold runEnd;split<;>omega
theorem lO(mask i:Nat):i<=runEnd mask i:=by unfold runEnd;split<;>omega
theorem pD(mask:Nat)(p:Probe)(h:p.j+p.more<=mask):∀n,(a_ mask p n).j+(a_ mask p n).more<=mask
 |0=>h
 |n+1=>by
  show(ju mask (a_ mask p n)).j+(ju mask (a_ mask p n)).more<=mask;have ih:=pD mask p h n;unfold ju;split
  ·rename_i c;show(a_ mask p n).j+1+((a_ mask p n).more-1)<=mask;omega
  ·show(leap mask _ _).1+(runEnd mask (leap mask _ _).1-(leap mask _ _).1)<=mask;have hl:(leap mask (a_ mask p n).i (a_ mask p n).perturb).1<=mask:=Zj (VA _ (Xh _));have:=kN hl;have:=lO mask (leap mask (a_ mask p n).i (a_ mask p n).perturb).1;omega
theorem sH(mask:Nat)(h:Int)(n:Nat):at_ mask h n<=mask:=by
 have hi:bits h%(mask+1)<=mask:=Zj (VA _ (Xh _));have:=pD mask (startM mask h) (by
  show bits h%(mask+1)+(runEnd mask (bits h%(mask+1))-bits h%(mask+1))<=mask;have:=kN hi;have:=lO mask (bits h%(mask+1));omega) n
 unfold at_;omega
def ow(owner:Array (Option Nat))(j:Nat):Option Nat:=owner.getD j none
theorem qA{owner:Array (Option Nat)}{mask j:Nat}(hs:owner.size=mask+1)(hj:j<=mask):own owner j=ow owner j:=by
 unfold own ow;have:j<owner.size:=by omega
 simp[Array.getD,this]
structure LayInv (mask:Nat) (hashes:List Int) (owner:Array (Option Nat)) (k:Nat):Prop where
 sz:owner.size=mask+1
 lt:∀j a,ow owner j=some a->j<=mask/\a<k
 inj:∀j j' a,ow owner j=some a->ow owner j'=some a->j=j'
 surj:∀a,a<k->∃j,ow owner j=some a
 reach:∀j a,ow owner j=some a->∃h,hashes[a]?=some h/\∃n,n<10*turns mask/\at_ mask h n=j/\∀m,m<n->ow owner (at_ mask h m)≠none
theorem BT{owner:Array (Option Nat)}{mask j:Nat}(hs:owner.size=mask+1)(hj:j<=mask)(v:Option Nat)(i:Nat):ow (owner.setIfInBounds j v) i=if i=j then v else ow owner i:=by
 unfold ow;have hj':j<owner.size:=by omega
 by_cases h:i=j
 ·subst h;simp[Array.getD,hj']
 ·rw[if_neg h];simp only[Zb];rw[Array.getElem?_setIfInBounds_ne (fun z=>h z.symm)]
theorem vI{mask:Nat}(F:fW (mask+1)){hashes:List Int}{owner:Array (Option Nat)}{k:Nat}(I:LayInv mask hashes owner k){h:Int}(hk:hashes[k]?=some h)(hm:k<=mask) :
  ∃j,layClean.free mask owner (turns mask) (bits h%(mask+1)) (bits h)=some j/\LayInv mask hashes (owner.setIfInBounds j (some k)) (k+1):=by
 -- some place is free
 have hfree:∃j,j<=mask/\ow owner j=none:=by
  apply Zk;intro hn;have hall:∀j,j<=mask->∃a,ow owner j=some a:=fun j hj=>by
   cases q:ow owner j with
   |none=>exact absurd ⟨j,hj,q⟩ hn
   |some a=>exact⟨a,rfl⟩
  have nd:((List.range (mask+1)).map fun j=>(ow owner j).getD 0).Nodup:=by rw[XG,Vc];refine List.Pairwise.imp_of_mem ?_ (XG.mp XL);intro a b ha hb hab e;obtain⟨x,hx⟩:=hall a (by have:=YI.mp ha;omega);obtain⟨y,hy⟩:=hall b (by have:=YI.mp hb;omega);rw[hx,hy]at e;have e:x=y:=e;subst e;exact hab (I.inj a b x hx hy)
  have:=qz _ (List.range k) nd fun x hx=>by
   obtain⟨j,hj,rfl⟩:=Yk.mp hx;obtain⟨a,ha⟩:=hall j (by have:=YI.mp hj;omega);rw[ha];exact YI.mpr (I.lt j a ha).2
  rw[Yd,YZ,YZ]at this;omega
 obtain⟨j0,hj0,ej0⟩:=hfree;obtain⟨r,hr,er⟩:=sZ F h hj0;obtain⟨n,a1,a2,a3,a4⟩:=sU (mask:=mask) owner (turns mask) (bits h%(mask+1)) (bits h) ⟨r,hr,by rw[er,qA I.sz hj0];exact ej0⟩;have hj:at_ mask h n<=mask:=sH mask h n;have e:(a_ mask (bn mask (bits h%(mask+1)) (bits h) none) n).j=at_ mask h n:=rfl;rw[e]at a2 a3;rw[qA I.sz hj]at a3;have sw:=BT (owner:=owner) I.sz hj (some k);refine⟨_,a2,⟨by rw[Array.size_setIfInBounds];exact I.sz,fun j a q=>?_,fun j j' a q q'=>?_,fun a ha=>?_,fun j a q=>?_⟩⟩
 ·rw[sw]at q;split at q
  ·rename_i c;cases q;exact⟨by rw[c];exact hj,ZX _⟩
  ·have:=I.lt j a q;exact⟨this.1,by omega⟩
 ·rw[sw]at q q';split at q<;>split at q'
  ·rename_i c c';rw[c,c']
  ·cases q;have:=(I.lt j' _ q').2;omega
  ·cases q';have:=(I.lt j _ q).2;omega
  ·exact I.inj j j' a q q'
 ·by_cases c:a=k
  ·exact⟨at_ mask h n,by rw[sw,if_pos rfl,c]⟩
  ·obtain⟨j,ej⟩:=I.surj a (by omega);refine⟨j,?_⟩;rw[sw,if_neg]
   ·exact ej
   ·intro z;rw[z,a3]at ej;cases ej
 ·have keep:∀i,ow owner i≠none->ow (owner.setIfInBounds (at_ mask h n) (some k)) i≠none:=fun i hi=>by
   rw[sw];split
   ·simp
   ·exact hi
  rw[sw]at q;split at q
  ·rename_i c;cases q;refine⟨h,hk,n,a1,c.symm,fun m hm'=>keep _ ?_⟩;have:=a4 m hm';have e':(a_ mask (bn mask (bits h%(mask+1)) (bits h) none) m).j=at_ mask h m:=rfl;rw[e',qA I.sz (sH mask h m)]at this;exact this
  ·obtain⟨h',b1,n',b2,b3,b4⟩:=I.reach j a q;exact⟨h',b1,n',b2,b3,fun m hm'=>keep _ (b4 m hm')⟩
theorem si{mask:Nat}(F:fW (mask+1)){hashes:List Int}(hm:hashes.length<=mask):∀(bH:List Int) (owner:Array (Option Nat)) (k:Nat),hashes.drop k=bH->k+bH.length=hashes.length->LayInv mask hashes owner k->
  ∃owner',(bH.foldl (fun(acc:Option (Array (Option Nat)×Nat)) h=>do
   let (owner,k) <-acc
   let j <-layClean.free mask owner (turns mask) (bits h%(mask+1)) (bits h)
   pure (owner.setIfInBounds j (some k),k+1)) (some (owner,k)))=some (owner',hashes.length)/\LayInv mask hashes owner' hashes.length
 |[],owner,k,_,hl,I=>by
  have:k=hashes.length:=by simpa using hl
  subst this;exact⟨owner,rfl,I⟩
 |h::bH,owner,k,hd,hl,I=>by
  have hk:hashes[k]?=some h:=by have:=Zs (fun l=>l[0]?) hd;simpa using this
  rw[Yw]at hl;obtain⟨j,e,I'⟩:=vI F I hk (by omega);obtain⟨owner',e',I''⟩:=si F hm bH _ (k+1) (by
   have:=Zs List.tail hd;rw[List.tail_drop]at this;exact this) (by omega) I'
  refine⟨owner',?_,I''⟩;rw[List.foldl_cons,<-e']
  congr 1
  show(layClean.free mask owner (turns mask) (bits h%(mask+1)) (bits h)).bind _=_;rw[e];rfl
theorem uA(mask:Nat)(hashes:List Int):LayInv mask hashes (Array.replicate (mask+1) none) 0:=by
 have e:∀j,ow (Array.replicate (mask+1) (none:Option Nat)) j=none:=fun j=>by
  unfold ow;simp only[Zb,Array.getElem?_replicate];split<;>rfl
 refine⟨by simp,fun j a q=>?_,fun j j' a q _=>?_,fun a ha=>by omega,fun j a q=>?_⟩
 all_goals rw[e]at q;cases q
theorem nT{mask:Nat}(F:fW (mask+1)){hashes:Array Int}(hm:hashes.size<=mask):∃owner,layClean mask hashes=some owner/\LayInv mask hashes.toList owner hashes.size:=by obtain⟨owner,e,I⟩:=si F (hashes:=hashes.toList) (by simpa using hm) hashes.toList _ 0 rfl (by simp) (uA mask hashes.toList);refine⟨owner,?_,by simpa using I⟩;unfold layClean;rw[<-Array.foldl_toList,e];rfl
def cf(owner:Array (Option Nat))(mask:Nat):List (Nat×Nat):=(List.range (mask+1)).filterMap fun j=>(ow owner j).map (j,·)
theorem dG{owner:Array (Option Nat)}{mask j a:Nat}:(j,a)∈cf owner mask↔j<=mask/\ow owner j=some a:=by
 unfold cf;rw[VL];constructor
 ·rintro⟨i,hi,e⟩;have:=YI.mp hi;cases q:ow owner i with
  |none=>rw[q]at e;cases e
  |some b=>rw[q]at e;cases e;exact⟨by omega,q⟩
 ·rintro⟨h1,h2⟩;exact⟨j,YI.mpr (by omega),by rw[h2];rfl⟩
theorem k6(owner:Array (Option Nat))(mask:Nat):(cf owner mask).Pairwise fun x y=>x.1<y.1:=by
 unfold cf;rw[List.pairwise_filterMap];refine List.Pairwise.imp ?_ Va;intro a b hab x hx y hy;cases q:ow owner a with
 |none=>rw[q]at hx;cases hx
 |some u=>
  rw[q]at hx;cases q':ow owner b with
  |none=>rw[q']at hy;cases hy
  |some v=>rw[q']at hy;cases hx;cases hy;exact hab
theorem yz{mask:Nat}(F:fW (mask+1))(ho:mask%2=1){hashes:Array Int}(hm:hashes.size<=mask)(finger moves:Nat)(led plain:Bool) :
  ∃(t:SetTable) (order:Array Nat),laid mask finger moves led plain hashes=some (t,order)/\TabOk (fun i=>hashes.getD (order.getD i 0) 0) t/\t.place.size=hashes.size/\order.toList.Perm (List.range hashes.size)/\t.mask=mask/\t.led=led/\t.plain=plain/\t.moves=moves:=by
 obtain⟨owner,e,I⟩:=nT F hm;have hl:laid mask finger moves led plain hashes=some ({mask,place:=((cf owner mask).map (·.1)).toArray,dummies:=#[],finger,led,moves,plain},((cf owner mask).map (·.2)).toArray):=by unfold laid;rw[e];rfl
 have perm:((cf owner mask).map (·.2)).Perm (List.range hashes.size):=by
  have nd:((cf owner mask).map (·.2)).Nodup:=by rw[XG,Vc];refine List.Pairwise.imp_of_mem ?_ (k6 owner mask);rintro⟨a,x⟩ ⟨b,y⟩ ha hb hab q;have hab:a<b:=hab;have q:x=y:=q;subst q;have:=I.inj a b x (dG.mp ha).2 (dG.mp hb).2;omega
  refine(XH nd XL).mpr fun x=>?_;rw[Yk,YI];constructor
  ·rintro⟨⟨j,a⟩,h,rfl⟩;exact(I.lt j a (dG.mp h).2).2
  ·intro hx;obtain⟨j,ej⟩:=I.surj x hx;exact⟨(j,x),dG.mpr ⟨(I.lt j x ej).1,ej⟩,rfl⟩
 have hsz:(cf owner mask).length=hashes.size:=by have:=perm.length_eq;simpa using this
 have pm:∀j,j∈((cf owner mask).map (·.1)).toArray↔j<=mask/\ow owner j≠none:=fun j=>by
  rw[List.mem_toArray,Yk];constructor
  ·rintro⟨⟨j',a⟩,h,rfl⟩;obtain⟨h1,h2⟩:=dG.mp h;exact⟨h1,by rw[h2];simp⟩
  ·rintro⟨h1,h2⟩;cases q:ow owner j with
   |none=>exact absurd q h2
   |some a=>exact⟨(j,a),dG.mpr ⟨h1,q⟩,rfl⟩
 refine⟨_,_,hl,⟨⟨fun i j hi hj hij=>?_⟩,rfl,fun j hj=>((pm j).mp hj).1,ho,F,?_,fun i j hij=>?_⟩,?_,?_,rfl,rfl,rfl,rfl⟩
 ·simp only[Yx,Yd]at hi hj;simp only[List.getElem_toArray,List.getElem_map];exact(List.pairwise_iff_getElem.mp (k6 owner mask)) i j hi hj hij
 ·show((cf owner mask).map (·.1)).toArray.size<=mask;simp[hsz,hm]
 ·have hij':((cf owner mask).map (·.1)).toArray[i]?=some j:=hij;simp only[List.getElem?_toArray,Ys]at hij';cases q:(cf owner mask)[i]? with
  |none=>rw[q]at hij';cases hij'
  |some p=>
   rw[q]at hij';obtain⟨j',a⟩:=p;have hij':j'=j:=Yy hij';subst hij';obtain⟨h1,h2⟩:=dG.mp (YD q);obtain⟨h,b1,n,b2,b3,b4⟩:=I.reach j' a h2;have eh:hashes.getD (((cf owner mask).map (·.2)).toArray.getD i 0) 0=h:=by
    have e1:((cf owner mask).map (·.2)).toArray.getD i 0=a:=by simp[Zb,q]
    rw[e1];have b1':hashes[a]?=some h:=by rw[<-YN];exact b1
    simp[Zb,b1']
   show ∃n,n<10*turns mask/\at_ mask (hashes.getD (((cf owner mask).map (·.2)).toArray.getD i 0) 0) n=j'/\∀m,m<n->at_ mask (hashes.getD (((cf owner mask).map (·.2)).toArray.getD i 0) 0) m∈((cf owner mask).map (·.1)).toArray;rw[eh];exact⟨n,b2,b3,fun m hm'=>(pm _).mpr ⟨sH mask h m,b4 m hm'⟩⟩
 ·simp[hsz]
 ·simpa using perm
end L2
namespace L2
open PySem PySem.Spec PyProof.Rows PySem.SetTable
def jB(d:D):Bool:=hkN 8 d&&okN 8 d&&(match d with|.tup _=>true|_=>false)
theorem bz{d:D}(h:jB d=true):hkN 8 d=true/\okN 8 d=true/\∃xs,d=.tup xs:=by
 unfold jB at h;rw[Yo,Yo]at h;refine⟨h.1.1,h.1.2,?_⟩;cases d with
 |tup xs=>exact⟨xs,rfl⟩
 |_=>cases h.2
def KeyAt(h:Heap)(u:Value)(d:D):Prop:=jB d=true/\∃as,Reads h u (bM d) as
theorem KeyAt.ref{h:Heap}{u:Value}{d:D}(k:KeyAt h u d):∃a,u=.ref a:=by obtain⟨k,as,r⟩:=k;obtain⟨_,_,xs,rfl⟩:=bz k;obtain⟨a,_,_,_,e,_⟩:=du r;exact⟨a,e⟩
theorem KeyAt.keeps{h h':Heap}{u:Value}{d:D}(k:KeyAt h u d)(hk:∀b o,h.get? b=some o->h'.get? b=some o):KeyAt h' u d:=by obtain⟨k,as,r⟩:=k;exact⟨k,as,PyProof.Rows.Reads.keeps hk r⟩
section
variable{prog:Program}{w:World}{A:Around}{E:Kv}{s:Shared}
theorem AD{x y:Value}{dx dy:D}{Q:Kb}(hu:A.units+64<cLine)(hx:KeyAt s.heap x dx)(hy:KeyAt s.heap y dy)(h:Q (eqd dx dy) s):wpAny (model prog w) A (eqBool x y) Q E s:=by obtain⟨k1,as,r1⟩:=hx;obtain⟨k2,bs,r2⟩:=hy;obtain⟨l1,p1⟩:=ck 8 dx (bz k1).2.1;obtain⟨l2,p2⟩:=ck 8 dy (bz k2).2.1;refine XZ _ _ A s x y _ _ r1 r2 l1 l2 ?_ prog w E Q h;have:min (bM dx).depth (bM dy).depth<=(bM dx).depth:=VF _ _;omega
theorem yx{x:Value}{dx:D}(hx:KeyAt s.heap x dx){Q:Kb}:∀{stored:List Value},(∀y∈stored,∃d,KeyAt s.heap y d)->Q false s->wpAny (model prog w) A (searchCouldBeSeen x stored) Q E s:=by
 intro stored hst h;obtain⟨k1,as,r1⟩:=hx;unfold searchCouldBeSeen;refine Ya ?_;refine Xu _ (fun bH r s'=>r.1=none/\s'=s/\∀y∈bH,∃d,KeyAt s.heap y d) _ ?_ ?_ _ _ ⟨rfl,rfl,hst⟩
 ·rintro y bH ⟨r1',r2⟩ s' ⟨e,rfl,hl⟩;obtain⟨d,k2,bs,r2'⟩:=hl y Ye;have hrest:∀y∈bH,∃d,KeyAt s'.heap y d:=fun y m=>hl y (Yc _ m)
  dsimp only;have body:∀(c:Prop) [Decidable c] (Z:Sem (ForInStep (Option Bool×Unit))) (R:ForInStep (Option Bool×Unit)->Shared->Prop),R (.yield (none,())) s'->(∀R',R'=R->wpAny (model prog w) A Z R' E s')->wpAny (model prog w) A (if c then pure (.yield (none,()))else Z) R E s':=by
   intro c _ Z R h1 h2;split
   ·exact Yg h1
   ·exact h2 R rfl
  split
  all_goals
   refine body _ _ _ ⟨rfl,rfl,hrest⟩ ?_;rintro _ rfl;refine Ya (pf 8 8 (Yl _) (bz k1).1 r1 ?_);refine Ya (pf 8 8 (Yl _) (bz k2).1 r2' ?_);refine Ya (wF 8 8 (Yl _) (bz k1).1 r1 ?_);refine Ya (wF 8 8 (Yl _) (bz k2).1 r2' ?_);exact Yg ⟨rfl,rfl,hrest⟩
 ·rintro⟨r1',r2⟩ s' ⟨e,rfl,_⟩;cases e;exact Yg h
end
def lZ(es:Ka)(i:Nat):Int:=(es[i]?.map (·.1)).getD 0
structure SetAt (Pv:Value->D->Prop) (w:World) (h:Heap) (a:Addr) (es:Array (Int×Value)) (t:SetTable) (ds:List D):Prop where
 obj:∃o ep,h.get? a=some o/\o.ExactSet/\o.data=.set es ep t
 tab:TabOk (lZ es) t
 siz:t.place.size=es.size
 len:ds.length=es.size
 its:∀(i:Nat) (e:Int×Value) (d:D),es[i]?=some e->ds[i]?=some d->e.1=aF w d/\KeyAt h e.2 d
 pv:∀(i:Nat) (e:Int×Value) (d:D),es[i]?=some e->ds[i]?=some d->Pv e.2 d
theorem Rising.inj{xs:Array Nat}(r:Rising xs){i k j:Nat}(h1:xs[i]?=some j)(h2:xs[k]?=some j):i=k:=by
 obtain⟨a,e1⟩:=Zg.mp h1;obtain⟨b,e2⟩:=Zg.mp h2;rcases VU i k with q|q|q
 ·have:=r.lt i k a b q;omega
 ·exact q
 ·have:=r.lt k i b a q;omega
section
variable{Pv:Value->D->Prop}{prog:Program}{w:World}{A:Around}{E:Kv}{s:Shared}
theorem SetAt.state{a:Addr}{es:Ka}{t:SetTable}{ds:List D}(S:SetAt Pv w s.heap a es t ds){Q:(Array (Int×Value)×Nat×SetTable)->Shared->Prop}(h:∀ep,Q (es,ep,t) s) :
  wpAny (model prog w) A (setState a) Q E s:=by
 obtain⟨o,ep,h1,h2,h3⟩:=S.obj;exact Ve h1 h3 (S.tab.fits S.siz) (h ep)
theorem SetAt.key{a:Addr}{es:Ka}{t:SetTable}{ds:List D}{h:Heap}(S:SetAt Pv w h a es t ds){i:Nat}{e:Int×Value}(he:es[i]?=some e):∃d,ds[i]?=some d/\e.1=aF w d/\KeyAt h e.2 d:=by
 obtain⟨hi,_⟩:=Zg.mp he;have hd:i<ds.length:=by rw[S.len];exact hi
 exact⟨ds[i],Yf hd,S.its i e _ he (Yf hd)⟩
def A5(t:SetTable)(es:Ka)(ds:List D)(h:Int)(dx:D)(l:Nat):Prop:=∃i,t.place[i]?=some (at_ t.mask h l)/\(lZ es i≠h\/∃d,ds[i]?=some d/\eqd d dx=false)
theorem ud{a:Addr}{es:Ka}{t:SetTable}{ds:List D}{hp:Heap}(S:SetAt Pv w hp a es t ds){dx:D}{m:Nat}(hEq:∀d∈ds,eqd d dx=true->aF w d=aF w dx)
  (hm:at_ t.mask (aF w dx) m∉t.place) (hg:∀l,l<m->A5 t es ds (aF w dx) dx l):∀d∈ds,eqd d dx=false:=by
 intro d hd;cases q:eqd d dx with
 |false=>rfl
 |true=>
  exfalso;have hh:=hEq d hd q;obtain⟨i,hi,e⟩:=ZP hd;have hi':i<es.size:=by rw[<-S.len];exact hi
  have hp':i<t.place.size:=by rw[S.siz];exact hi'
  have e1:es[i]?=some es[i]:=Yq hi';have e2:ds[i]?=some d:=by rw[Yf hi,e]
  have e3:t.place[i]?=some t.place[i]:=Yq hp';have hs:lZ es i=aF w dx:=by unfold lZ;rw[e1];exact(S.its i _ d e1 e2).1.trans hh
  obtain⟨n,n1,n2,n3⟩:=S.tab.reach i _ e3;rw[hs]at n2 n3;rcases VU n m with z|z|z
  ·obtain⟨k,k1,k2⟩:=hg n z;rw[n2]at k1;have:=S.tab.rise.inj k1 e3;subst this;rcases k2 with k2|⟨d',k2,k3⟩
   ·exact k2 hs
   ·rw[e2]at k2;cases k2;rw[q]at k3;cases k3
  ·subst z;rw[n2]at hm;exact hm (Array.getElem_mem hp')
  ·exact hm (n3 m z)
theorem ik{a:Addr}{es:Ka}{t:SetTable}{ds:List D}(S:SetAt Pv w s.heap a es t ds){x:Value}{dx:D}(hx:KeyAt s.heap x dx)(hu:A.units+64<cLine){Q:SetFound->Shared->Prop}{N:Nat}(hN:N<10*turns t.mask)(hN':at_ t.mask (aF w dx) N∉t.place)
  (hEq:∀d∈ds,eqd d dx=true->aF w d=aF w dx)
  (q1:∀d∈ds,eqd d dx=true->Q (.there none) s)
  (q2:∀m,m<=N->at_ t.mask (aF w dx) m∉t.place->(∀l,l<m->at_ t.mask (aF w dx) l∈t.place)->(∀d∈ds,eqd d dx=false)->Q (.free (at_ t.mask (aF w dx) m) false) s) :
  ∀(f n:Nat) (st:Option Probe),st.getD (t.probeStart (aF w dx))=a_ t.mask (startM t.mask (aF w dx)) n->n<=N->N-n<f->(∀l,l<n->A5 t es ds (aF w dx) dx l)->
   wpAny (model prog w) A (setSearchFrom a x (aF w dx) true f st) Q E s
 |0,n,st,_,_,h,_=>by omega
 |f+1,n,st,e,hn,hf,hg=>by
  unfold setSearchFrom;refine Ya (S.state fun ep=>?_);dsimp only;rw[S.tab.gave];simp only[ZE,Vk];rw[e];have gone:∀m,n<=m->(∀l,n<=l->l<m->∃i,t.place[i]?=some (at_ t.mask (aF w dx) l)/\lZ es i≠aF w dx)->∀l,l<m->A5 t es ds (aF w dx) dx l:=fun m _ h l hl=>by
   rcases XO l n with z|z
   ·exact hg l z
   ·obtain⟨i,i1,i2⟩:=h l z hl;exact⟨i,i1,.inl i2⟩
  rcases ou S.tab (hashAt:=lZ es) hN' (10*turns t.mask) n hn (by omega)with⟨m,m1,m2,m3,m4,m5⟩|⟨m,i,m1,m2,m3,m4,m5,m6⟩
  ·generalize hz:t.probe _ (aF w dx) (a_ t.mask (startM t.mask (aF w dx)) n)=z;have hz':z=some (.empty (at_ t.mask (aF w dx) m) none):=hz.symm.trans m5;subst hz';have hgo:=gone m m1 m4;refine Yg (q2 m m2 m3 (fun l hl=>?_) (ud S hEq m3 hgo));obtain⟨i,i1,_⟩:=hgo l hl;exact ZA i1
  ·generalize hz:t.probe _ (aF w dx) (a_ t.mask (startM t.mask (aF w dx)) n)=z;have hz':z=some (.candidate (at_ t.mask (aF w dx) m) i (a_ t.mask (startM t.mask (aF w dx)) (m+1))):=hz.symm.trans m6;subst hz';have hgo:=gone m m1 m5;have hsl:=lu S.tab.rise m3;have hi:i<es.size:=by rw[<-S.siz];obtain⟨h,_⟩:=Zg.mp m3;exact h
   have e1:es[i]?=some es[i]:=Yq hi;obtain⟨d,e2,e3,e4⟩:=S.key e1;obtain⟨ra,era⟩:=e4.ref;have key:∀(U Z:Sem SetFound),wpAny (model prog w) A Z Q E s->wpAny (model prog w) A (if(!t.led)=true then(do
     let b <-searchCouldBeSeen x (List.map (fun x=>x.snd) (Array.filter (fun x=>x.fst == aF w dx) es).toList)
     if b=true then U else Z)else Z) Q E s:=by
    intro U Z hZ;split
    ·refine Ya (yx hx (fun y hy=>?_) ?_)
     ·obtain⟨p,hp,rfl⟩:=Yk.mp hy;have hp':p∈es:=(Array.mem_filter.mp (Vu.mp hp)).1;obtain⟨k,hk⟩:=Array.getElem?_of_mem hp';obtain⟨d,_,_,h⟩:=S.key hk;exact⟨d,h⟩
     ·rw[if_neg Yj];exact hZ
    ·exact hZ
   refine key _ _ ?_;rw[e1];dsimp only;refine Ya (ZR (AD hu e4 hx ?_));refine Ya (S.state fun ep'=>?_);dsimp only;cases hq:eqd d dx with
   |true=>exact Yg (q1 d (YD e2) hq)
   |false=>
    rw[Bool.and_false,if_neg Yj];have hsm:t.sameMemory t.moves t.mask=some true:=by unfold sameMemory;rw[if_pos (by simp)]
    rw[hsm];dsimp only;rw[if_pos rfl,hsl];dsimp only;rw[e1];dsimp only;rw[era];refine Ya (wpAny_isSame_ref_self ?_);refine Ya (Yg ?_);rw[if_pos rfl];dsimp only;rw[if_neg Yj];refine ik S hx hu hN hN' hEq q1 q2 f (m+1) _ rfl (by omega) (by omega) fun l hl=>?_;rcases XO l m with z|z
    ·exact hgo l z
    ·have:l=m:=by omega
     subst this;exact⟨i,m3,.inr ⟨d,e2,hq⟩⟩
end
theorem wG:∀(n:Nat) {d e:D},hkN n d=true->hkN n e=true->eqd d e=true->d=e:=by
 intro n;induction n with
 |zero=>
  intro d e hd he h;cases d with
  |int i=>
   cases e with
   |int j=>exact Zs D.int (eq_of_beq h)
   |str y=>cases h
   |_=>cases he
  |str x=>
   cases e with
   |str y=>exact Zs D.str (eq_of_beq h)
   |int j=>cases h
   |_=>cases he
  |_=>cases hd
 |succ n ih=>
  have all:∀ds es:List D,(∀d∈ds,hkN n d=true)->(∀d∈es,hkN n d=true)->PyData.eqvAll (bN ds) (bN es)=true->ds=es:=by
   intro ds;induction ds with
   |nil=>
    intro es _ _ h;cases es with
    |nil=>rfl
    |cons _ _=>cases h
   |cons d ds ihl=>
    intro es h1 h2 h;cases es with
    |nil=>cases h
    |cons e es=>
     have h':(PyData.eqv (bM d) (bM e)&&PyData.eqvAll (bN ds) (bN es))=true:=h;rw[Yo]at h';rw[ih (h1 d Ye) (h2 e Ye) h'.1,ihl es (fun d m=>h1 d (Yc _ m)) (fun d m=>h2 d (Yc _ m)) h'.2]
  intro d e hd he h;cases d with
  |int i=>
   cases e with
   |int j=>exact Zs D.int (eq_of_beq h)
   |str y=>cases h
   |tup y=>cases h
   |_=>cases he
  |str x=>
   cases e with
   |str y=>exact Zs D.str (eq_of_beq h)
   |int j=>cases h
   |tup y=>cases h
   |_=>cases he
  |tup xs=>
   cases e with
   |tup ys=>exact Zs D.tup (all xs ys (fun d m=>Yi.mp hd d m) (fun d m=>Yi.mp he d m) h)
   |int j=>cases h
   |str j=>cases h
   |_=>cases he
  |_=>cases hd
theorem lN{h h':Heap}(hk:∀b o vs n,h.get? b=some o->o.data=.seq vs n->h'.get? b=some o):∀(n:Nat) {d:D}{u:Value}{as:List Addr},hkN n d=true->Reads h u (bM d) as->Reads h' u (bM d) as:=by
 intro n;induction n with
 |zero=>
  intro d u as hd r;cases d with
  |int i=>cases r;exact .int _ _
  |str i=>cases r;exact .str _ _
  |_=>cases hd
 |succ n ih=>
  have all:∀(ds:List D) (us:List Value) (as:List Addr),(∀d∈ds,hkN n d=true)->ReadsAll h us (bN ds) as->ReadsAll h' us (bN ds) as:=by
   intro ds;induction ds with
   |nil=>intro us as _ r;cases r;exact .nil
   |cons d ds ihl=>
    intro us as hl r;cases r with
    |cons h1 h2=>exact .cons (ih (hl d Ye) h1) (ihl _ _ (fun d m=>hl d (Yc _ m)) h2)
  intro d u as hd r;cases d with
  |int i=>cases r;exact .int _ _
  |str i=>cases r;exact .str _ _
  |tup ds=>
   obtain⟨a,o,vs,k,rfl,ho,hc,hdt,ra⟩:=du r;exact .tuple (hk a o _ _ ho hdt) hc hdt (all ds _ _ (fun d m=>Yi.mp hd d m) ra)
  |_=>cases hd
theorem KeyAt.off{h h':Heap}{u:Value}{d:D}(k:KeyAt h u d){a:Addr}{o:Obj}{es:Ka}{ep:Nat}{t:SetTable}(ho:h.get? a=some o)(hd:o.data=.set es ep t)(hk:∀b,b≠a->h'.get? b=h.get? b):KeyAt h' u d:=by
 obtain⟨k,as,r⟩:=k;refine⟨k,as,lN (fun b o' vs n hb hq=>?_) 8 (bz k).1 r⟩;rw[hk b (fun e=>?_)]
 ·exact hb
 ·subst e;rw[ho]at hb;cases hb;rw[hd]at hq;cases hq
theorem KeyAt.same{h h':Heap}{u v:Value}{d e:D}(k:KeyAt h u d)(k':KeyAt h' v e)(q:eqd d e=true):d=e:=wG 8 (bz k.1).1 (bz k'.1).1 q
def p9(t:SetTable)(n:Nat):Prop:=t.mask=7/\n<=4\/t.mask=31/\n<=18\/t.mask=127/\n<=76
def zE(w:World)(t:SetTable):Prop:=(w.params.followText "set-order"=false->t.led=true)/\t.plain=true
def vX(Pv:Value->D->Prop)(w:World)(h:Heap)(a:Addr)(ds:List D):Prop:=∃es t,SetAt Pv w h a es t ds/\p9 t es.size/\zE w t
theorem TabOk.plain{hs:Nat->Int}{t:SetTable}(k:TabOk hs t):TabOk hs {t with plain:=false}:=⟨k.rise,k.nod,k.bd,k.odd,k.full,k.room,k.reach⟩
theorem TabOk.congr{hs hs':Nat->Int}{t:SetTable}(k:TabOk hs t)(e:∀i,i<t.place.size->hs i=hs' i):TabOk hs' t:=
 ⟨k.rise,k.nod,k.bd,k.odd,k.full,k.room,fun i j h=>by
  rw[<-e i (Zg.mp h).1];exact k.reach i j h⟩
def oq{α:Type}(l:List α)(p:Nat)(x:α):List α:=(insertAt l.toArray p x).toList
theorem j6{α:Type}(l:List α)(p:Nat)(x:α)(h:p<=l.length)(i:Nat):(oq l p x)[i]?=if i<p then l[i]? else if i=p then some x else l[i-1]?:=by unfold oq;rw[YN,br _ _ _ (by simpa using h)];simp
theorem vq{α:Type}(l:List α)(p:Nat)(x:α)(h:p<=l.length):(oq l p x).length=l.length+1:=by unfold oq;rw[Yz,bA _ _ _ (by simpa using h)];simp
theorem t9{α:Type}:∀(l:List α) (p:Nat) (x:α),p<=l.length->(oq l p x).Perm (x::l):=by
 intro l p x hp;have e:oq l p x=l.take p++x::l.drop p:=by
  apply ZO;intro i;rw[j6 _ _ _ hp,List.getElem?_append];have hl:(l.take p).length=p:=by rw[ZN];omega
  rw[hl];by_cases h1:i<p
  ·rw[if_pos h1,if_pos h1,List.getElem?_take_of_lt h1]
  ·rw[if_neg h1,if_neg h1];by_cases h2:i=p
   ·subst h2;simp
   ·rw[if_neg h2];obtain⟨k,hk⟩:∃k,i-p=k+1:=⟨i-p-1,by omega⟩
    rw[hk,Xq,List.getElem?_drop]
    congr 1
    omega
 rw[e];refine List.perm_middle.trans ?_;rw[Vp]
section
variable{Pv:Value->D->Prop}{prog:Program}{w:World}{A:Around}{E:Kv}{s:Shared}
theorem SetAt.put{h h':Heap}{a:Addr}{es:Ka}{t:SetTable}{ds:List D}(S:SetAt Pv w h a es t ds){x:Value}{dx:D}(hx:KeyAt h x dx)(px:Pv x dx){N:Nat}(hN:N<10*turns t.mask)(he:at_ t.mask (aF w dx) N∉t.place)
  (hb:∀m,m<N->at_ t.mask (aF w dx) m∈t.place) (hr:es.size+1<=t.mask) (b:Bool)
  (ho:h'=h.update a (Obj.putSet (insertAt es (t.put (at_ t.mask (aF w dx) N)).2 (aF w dx,x)) (if b=true then(t.put (at_ t.mask (aF w dx) N)).1 else{ (t.put (at_ t.mask (aF w dx) N)).1 with plain:=false}))) :
  SetAt Pv w h' a (insertAt es (t.put (at_ t.mask (aF w dx) N)).2 (aF w dx,x)) (if b=true then(t.put (at_ t.mask (aF w dx) N)).1 else{ (t.put (at_ t.mask (aF w dx) N)).1 with plain:=false}) (oq ds (t.put (at_ t.mask (aF w dx) N)).2 dx)/\∀c,c≠a->h'.get? c=h.get? c:=by
 obtain⟨o,ep,h1,h2,h3⟩:=S.obj;have hT:=S.tab.put hN he hb (sH _ _ _) (by rw[S.siz];exact hr);obtain⟨b1,_,_⟩:=dH S.tab.rise (at_ t.mask (aF w dx) N);rw[S.siz]at b1;have ep2:(t.put (at_ t.mask (aF w dx) N)).2=below t.place (at_ t.mask (aF w dx) N):=rfl;have epl:(t.put (at_ t.mask (aF w dx) N)).1.place.size=es.size+1:=by rw[kU,bA _ _ _ (by rw[S.siz];exact b1),S.siz]
 rw[ep2]at ho ⊢;generalize (t.put (at_ t.mask (aF w dx) N)).1=t1 at *;generalize below t.place (at_ t.mask (aF w dx) N)=p at *;have hd:p<=ds.length:=by rw[S.len];exact b1
 have hoff:∀c,c≠a->h'.get? c=h.get? c:=fun c hc=>by rw[ho];exact YJ _ _ _ _ hc
 have hself:∀(es':Ka) (t':SetTable),(h.update a (Obj.putSet es' t')).get? a=some {o with data:=.set es' (ep+1) t' }:=fun es' t'=>by
  have:=YX (Obj.putSet es' t') h1 (by rw[putSet_of es' t' h3];rfl);rw[putSet_of es' t' h3]at this;exact this
 have hT':TabOk (lZ (insertAt es p (aF w dx,x))) t1:=hT.congr fun i hi=>by
  unfold vw lZ;rw[br _ _ _ b1];by_cases q1:i<p
  ·rw[if_pos q1,if_pos q1]
  ·rw[if_neg q1,if_neg q1];by_cases q2:i=p
   ·rw[if_pos q2,if_pos q2];rfl
   ·rw[if_neg q2,if_neg q2]
 refine⟨⟨?_,?_,?_,?_,?_,?_⟩,hoff⟩
 ·rw[ho];exact⟨_,_,hself _ _,h2,rfl⟩
 ·cases b with
  |true=>exact hT'
  |false=>exact hT'.plain
 ·rw[bA _ _ _ b1];cases b with
  |true=>exact epl
  |false=>exact epl
 ·rw[vq _ _ _ hd,bA _ _ _ b1,S.len]
 ·intro i e d he' hd';rw[br _ _ _ b1]at he';rw[j6 _ _ _ hd]at hd';by_cases q1:i<p
  ·rw[if_pos q1]at he' hd';obtain⟨z1,z2⟩:=S.its i e d he' hd';exact⟨z1,z2.off h1 h3 hoff⟩
  ·rw[if_neg q1]at he' hd';by_cases q2:i=p
   ·rw[if_pos q2]at he' hd';cases he';cases hd';exact⟨rfl,hx.off h1 h3 hoff⟩
   ·rw[if_neg q2]at he' hd';obtain⟨z1,z2⟩:=S.its (i-1) e d he' hd';exact⟨z1,z2.off h1 h3 hoff⟩
 ·intro i e d he' hd';rw[br _ _ _ b1]at he';rw[j6 _ _ _ hd]at hd';by_cases q1:i<p
  ·rw[if_pos q1]at he' hd';exact S.pv i e d he' hd'
  ·rw[if_neg q1]at he' hd';by_cases q2:i=p
   ·rw[if_pos q2]at he' hd';cases he';cases hd';exact px
   ·rw[if_neg q2]at he' hd';exact S.pv (i-1) e d he' hd'
end
theorem j9{α β:Type}{f:α->Option β}:∀(l:List α),(∀k∈l,(f k).isSome=true)->∀i:Nat,(l.filterMap f)[i]?=(l[i]?).bind f
 |[],_,i=>by simp
 |a::l,h,i=>by
  obtain⟨b,hb⟩:=ZW.mp (h a Ye);rw[XQ hb];cases i with
  |zero=>simp[hb]
  |succ i=>rw[Xq,Xq];exact j9 l (fun k m=>h k (Yc _ m)) i
theorem rg{α β:Type}{f:α->Option β}:∀(l:List α),(∀k∈l,(f k).isSome=true)->(l.filterMap f).length=l.length
 |[],_=>rfl
 |a::l,h=>by
  obtain⟨b,hb⟩:=ZW.mp (h a Ye);rw[XQ hb,Yw,Yw,rg l fun k m=>h k (Yc _ m)]
theorem xu{α:Type}(l:List α):(List.range l.length).filterMap (fun k=>l[k]?)=l:=by
 have hs:∀k∈List.range l.length,(l[k]?).isSome=true:=fun k hk=>by
  rw[Yf (YI.mp hk)];rfl
 apply ZO;intro i;rw[j9 _ hs];by_cases h:i<l.length
 ·rw[Zo h];rfl
 ·rw[YS (by simpa using Nat.not_lt.mp h),YS (Nat.not_lt.mp h)];rfl
section
variable{Pv:Value->D->Prop}{prog:Program}{w:World}{A:Around}{E:Kv}{s:Shared}
theorem SetAt.relay{a:Addr}{es:Ka}{t:SetTable}{ds:List D}(S:SetAt Pv w s.heap a es t ds){wanted mask:Nat}(hm:sizeAbove wanted=mask+1)(F:fW (mask+1))(ho:mask%2=1)(hz:es.size<=mask)(hz':mask<=1000){Q:Unit->Shared->Prop}
  (q:∀es' t' ds' h',SetAt Pv w h' a es' t' ds'->t'.mask=mask->t'.led=t.led/\t'.plain=t.plain->es'.size=es.size->ds'.Perm ds->(∀c,c≠a->h'.get? c=s.heap.get? c)->Q () {s with heap:=h' }) :
  wpAny (model prog w) A (setRelay a wanted) Q E s:=by
 obtain⟨t',order,o1,o2,o3,o4,o5,o6,o7,_⟩:=yz F ho (hashes:=es.map (·.1)) (by simpa using hz) t.finger (t.movedTo mask) t.led t.plain;have hl:t.relaid (es.map (·.1)) wanted=some (t',order):=by unfold relaid;rw[hm];exact o1
 have hin:∀k∈order.toList,k<es.size:=fun k hk=>by
  have:=o4.mem_iff.mp hk;simpa using this
 have h1:∀k∈order.toList,(es[k]?).isSome=true:=fun k hk=>by rw[Yq (hin k hk)];rfl
 have h2:∀k∈order.toList,(ds[k]?).isSome=true:=fun k hk=>by rw[Yf (by rw[S.len];exact hin k hk)];rfl
 have osz:order.size=es.size:=by have:=o4.length_eq;simpa using this
 have esL:(order.filterMap fun k=>es[k]?).toList=order.toList.filterMap fun k=>es[k]?:=by simp
 have eget:∀i,(order.filterMap fun k=>es[k]?)[i]?=(order[i]?).bind fun k=>es[k]?:=fun i=>by
  rw[<-YN,esL,j9 _ h1,YN]
 have esz:(order.filterMap fun k=>es[k]?).size=es.size:=by rw[<-Yz,esL,rg _ h1,Yz,osz]
 obtain⟨o,ep,k1,k2,k3⟩:=S.obj;unfold setRelay;refine Ya (S.state fun ep'=>?_);dsimp only;rw[if_neg (by rw[hm];show ¬(mask+1 > 2^24);omega),hl];refine Ya ?_;show wpAny _ _ (if((order.filterMap fun k=>es[k]?).size != es.size)=true then _ else pure ((order.filterMap fun k=>es[k]?),t')) _ _ _;rw[if_neg (by rw[esz];simp)];refine Yg ?_;dsimp only;have hself:∀(es':Ka) (t':SetTable),(s.heap.update a (Obj.putSet es' t')).get? a=some {o with data:=.set es' (ep+1) t' }:=fun es' t'=>by
  have:=YX (Obj.putSet es' t') k1 (by rw[putSet_of es' t' k3];rfl);rw[putSet_of es' t' k3]at this;exact this
 have hoff:∀c,c≠a->(s.heap.update a (Obj.putSet (order.filterMap fun k=>es[k]?) t')).get? c=s.heap.get? c:=fun c hc=>YJ _ _ _ _ hc
 refine Vf k1 k3 (q _ t' (order.toList.filterMap fun k=>ds[k]?) _ ⟨⟨_,_,hself _ _,k2,rfl⟩,o2.congr fun i hi=>?_,?_,?_,fun i e d he hd=>?_,fun i e d he hd=>?_⟩ o5 ⟨o6,o7⟩ esz ?_ hoff) (by rw[esz];show es.size<=2^24;omega)
 ·rw[o3]at hi;have hi':i<order.size:=by rw[osz];simpa using hi
  unfold lZ;rw[eget i,Yq hi'];simp[Zb,Yq hi']
 ·rw[o3,esz];simp
 ·rw[rg _ h2,esz,Yz,osz]
 ·rw[eget i]at he;rw[j9 _ h2,YN]at hd;cases z:order[i]? with
  |none=>rw[z]at he;cases he
  |some k=>
   rw[z]at he hd;obtain⟨z1,z2⟩:=S.its k e d he hd;exact⟨z1,z2.off k1 k3 hoff⟩
 ·rw[eget i]at he;rw[j9 _ h2,YN]at hd;cases z:order[i]? with
  |none=>rw[z]at he;cases he
  |some k=>
   rw[z]at he hd;exact S.pv k e d he hd
 ·have p:=List.Perm.filterMap (fun k=>ds[k]?) o4;have e:(es.map (·.1)).size=ds.length:=by rw[Array.size_map,S.len]
  rw[e,xu]at p;exact p
end
theorem xl{d:D}(h:jB d=true):eqd d d=true:=PySem.SeqAt.eqv_refl _ (ck 8 d (bz h).2.1).1
theorem xW{hs:Nat->Int}{t:SetTable}(k:TabOk hs t):t.fill=t.place.size:=by unfold SetTable.fill;rw[k.nod];rfl
theorem EF:sizeAbove (grown 5)=31+1:=by decide+kernel
theorem EL:sizeAbove (grown 19)=127+1:=by decide+kernel
section
variable{Pv:Value->D->Prop}{prog:Program}{w:World}{A:Around}{E:Kv}{s:Shared}
theorem qY{a:Addr}{ds:List D}(S:vX Pv w s.heap a ds){x:Value}{dx:D}(hx:KeyAt s.heap x dx)(px:Pv x dx)(hu:A.units+64<cLine)(hn:ds.length<70){f:Nat}{Q:Kb}(q0:dx∈ds->Q false s)
  (q1:dx∉ds->∀ds' h',vX Pv w h' a ds'->ds'.Perm (dx::ds)->(∀c,c≠a->h'.get? c=s.heap.get? c)->Q true {s with heap:=h' }) :
  wpAny (model prog w) A (setAddHashedIn a x (aF w dx) (f+1)) Q E s:=by
 obtain⟨es,t,S,sz,ld⟩:=S;have hk:∀d∈ds,∃u,KeyAt s.heap u d:=fun d hd=>by
  obtain⟨i,hi,e⟩:=ZP hd;have hi':i<es.size:=by rw[<-S.len];exact hi
  exact⟨_,(S.its i _ d (Yq hi') (by rw[Yf hi,e])).2⟩
 have hsame:∀d∈ds,eqd d dx=true->d=dx:=fun d hd q=>by
  obtain⟨u,k⟩:=hk d hd;exact k.same hx q
 obtain⟨ax,rfl⟩:=hx.ref;have hlt:es.size<70:=by rw[<-S.len];exact hn
 have hmask:es.size+1<=t.mask/\t.mask<=127:=by rcases sz with⟨h1,h2⟩|⟨h1,h2⟩|⟨h1,h2⟩<;>omega
 obtain⟨N,N1,N2⟩:=S.tab.empty (aF w dx);unfold setAddHashedIn;refine Ya (S.state fun ep=>?_);dsimp only;have hb:byScan (.ref ax) es=false:=rfl;rw[hb,if_neg Yj];refine Ya ?_;unfold setSearch;refine ik S hx hu N1 N2 (fun d hd q=>by rw[hsame d hd q]) (fun d hd q=>?_) (fun m m1 m2 m3 m4=>?_) 100000 0 none rfl (YF _) ?_ (fun l hl=>absurd hl (VG _))
 ·exact Yg (q0 (by rw[<-hsame d hd q];exact hd))
 ·have hni:dx∉ds:=fun hd=>by
   have:=m4 dx hd;rw[xl hx.1]at this;cases this
  have hmN:m<10*turns t.mask:=by omega
  refine Ya (S.state fun ep=>?_);dsimp only;obtain⟨b1,_,_⟩:=dH S.tab.rise (at_ t.mask (aF w dx) m);rw[S.siz]at b1;have tail:wpAny (model prog w) A (do
    storeSet a (insertAt es (t.put (at_ t.mask (aF w dx) m)).2 (aF w dx,Value.ref ax)) (t.put (at_ t.mask (aF w dx) m)).1
    if(!false&&(t.put (at_ t.mask (aF w dx) m)).1.tooFull)=true then(do
     setRelay a (grown (es.size+1))
     pure true)else pure true) Q E s:=by
   obtain⟨S',hoff⟩:=S.put hx px hmN m2 m3 hmask.1 true rfl;obtain⟨o,ep',k1,k2,k3⟩:=S.obj;have hp:(t.put (at_ t.mask (aF w dx) m)).2<=ds.length:=by rw[S.len];exact b1
   have pm:=t9 ds _ dx hp;have hmk:(t.put (at_ t.mask (aF w dx) m)).1.mask=t.mask:=rfl;have ld':zE w (t.put (at_ t.mask (aF w dx) m)).1:=ld;rw[if_pos rfl]at S';have hsz:(insertAt es (t.put (at_ t.mask (aF w dx) m)).2 (aF w dx,Value.ref ax)).size=es.size+1:=bA _ _ _ b1;generalize (t.put (at_ t.mask (aF w dx) m)).1=tb at *;generalize insertAt es (t.put (at_ t.mask (aF w dx) m)).2 (aF w dx,Value.ref ax)=es1 at *;generalize oq ds (t.put (at_ t.mask (aF w dx) m)).2 dx=ds1 at *;have hfl:tb.fill=es.size+1:=by rw[xW S'.tab,S'.siz,hsz]
   refine Ya (Vf k1 k3 ?_ (by rw[hsz];show es.size+1<=2^24;omega));have again:∀mask:Nat,sizeAbove (grown (es.size+1))=mask+1->fW (mask+1)->mask%2=1->es.size+1<=mask->mask<=1000->(∀t':SetTable,t'.mask=mask->p9 t' (es.size+1))->
     wpAny (model prog w) A (do
      setRelay a (grown (es.size+1))
      pure true) Q E {s with heap:=s.heap.update a (Obj.putSet es1 tb)}:=by
    intro mask c1 c2 c3 c4 c5 c6;refine Ya (SetAt.relay (s:={s with heap:=s.heap.update a (Obj.putSet es1 tb)}) S' c1 c2 c3 (by rw[hsz];exact c4) c5 fun es' t' ds' h' S2 z1 zl z2 z3 z4=>?_);refine Yg (q1 hni ds' h' ⟨es',t',S2,?_,fun z=>zl.1.trans (ld'.1 z),zl.2.trans ld'.2⟩ (z3.trans pm) fun c hc=>(z4 c hc).trans (hoff c hc));rw[z2,hsz];exact c6 t' z1
   have stay:p9 tb (es.size+1)->Q true {s with heap:=s.heap.update a (Obj.putSet es1 tb)}:=fun h=>q1 hni ds1 _ ⟨es1,tb,S',by rw[hsz];exact h,ld'⟩ pm hoff
   have tf:tb.tooFull=decide ((es.size+1)*5 ≥ t.mask*3):=by unfold tooFull;rw[hfl,hmk]
   rw[tf,Bool.not_false,Vw];rcases sz with⟨h1,h2⟩|⟨h1,h2⟩|⟨h1,h2⟩
   ·rw[h1];rcases XO es.size 4 with z|z
    ·rw[if_neg (by simp;omega)];exact Yg (stay (.inl ⟨hmk.trans h1,by omega⟩))
    ·have e4:es.size=4:=by omega
     rw[if_pos (by simp;omega)];exact again 31 (by rw[e4];exact EF) BG rfl (by omega) (by omega) fun t' h=>.inr (.inl ⟨h,by omega⟩)
   ·rw[h1];rcases XO es.size 18 with z|z
    ·rw[if_neg (by simp;omega)];exact Yg (stay (.inr (.inl ⟨hmk.trans h1,by omega⟩)))
    ·have e4:es.size=18:=by omega
     rw[if_pos (by simp;omega)];exact again 127 (by rw[e4];exact EL) yO rfl (by omega) (by omega) fun t' h=>.inr (.inr ⟨h,by omega⟩)
   ·rw[h1,if_neg (by simp;omega)];exact Yg (stay (.inr (.inr ⟨hmk.trans h1,by omega⟩)))
  obtain⟨as,rx⟩:=hx.2;split
  ·exact Ya (wX 8 8 (Yl _) (bz hx.1).1 rx tail)
  ·exact Ya (Yg tail)
 ·have:turns t.mask=t.mask+15:=rfl;omega
end
noncomputable def aO (ds:List D):List D:=ds.foldl (fun acc d=>open Classical in if d∈acc then acc else acc++[d]) []
theorem dw(ds:List D)(d:D):aO (ds++[d])=(open Classical in if d∈aO ds then aO ds else aO ds++[d]):=by unfold aO;rw[List.foldl_append];rfl
theorem db(ds:List D):(aO ds).length<=ds.length:=by
 have:∀n,∀ds:List D,ds.length=n->(aO ds).length<=n:=by
  intro n;induction n with
  |zero=>intro ds h;rw[YV.mp h];exact Yl _
  |succ n ih=>
   intro ds h;have hne:ds≠[]:=fun e=>by rw[e]at h;cases h
   rw[<-List.dropLast_concat_getLast hne,dw];have:=ih ds.dropLast (by rw[List.length_dropLast];omega);split
   ·omega
   ·rw[Yu,YM];omega
 exact this _ ds rfl
def SetHas(Pv:Value->D->Prop)(w:World)(h:Heap)(a:Addr)(ds:List D):Prop:=∃ds',vX Pv w h a ds'/\ds'.Perm (aO ds)
theorem SetHas.move{Pv:Value->D->Prop}{w:World}{h h':Heap}{a:Addr}{ds:List D}(S:SetHas Pv w h a ds)(ha:∀o,h.get? a=some o->h'.get? a=some o)(hk:∀b o vs n,h.get? b=some o->o.data=.seq vs n->h'.get? b=some o):SetHas Pv w h' a ds:=by
 obtain⟨ds',⟨es,t,S,sz,ld⟩,p⟩:=S;refine⟨ds',⟨es,t,⟨?_,S.tab,S.siz,S.len,fun i e d he hd=>?_,S.pv⟩,sz,ld⟩,p⟩
 ·obtain⟨o,ep,h1,h2,h3⟩:=S.obj;exact⟨o,ep,ha o h1,h2,h3⟩
 ·obtain⟨z1,z2,as,z3⟩:=S.its i e d he hd;exact⟨z1,z2,as,lN hk 8 (bz z2).1 z3⟩
section
variable{Pv:Value->D->Prop}{prog:Program}{w:World}{A:Around}{R:Kr}{I:Addr}{fp wr:List Addr}{G:Array GenState->Array GenState->Prop}{n:Nat}{P:Nat->Value->Prop}{St:Nat->Shared->Prop}
theorem zq{E:Kv}{s:Shared}{a:Addr}{ds:List D}(S:SetHas Pv w s.heap a ds){x:Value}{dx:D}(hx:KeyAt s.heap x dx)(px:Pv x dx)(hu:A.units+64<cLine)(hn:ds.length<70){Q:Kb}
  (q:∀b h' tk,s.toks<=tk->SetHas Pv w h' a (ds++[dx])->(∀c,c≠a->h'.get? c=s.heap.get? c)->Q b {s with heap:=h',toks:=tk}) :
  wpAny (model prog w) A (setAdd a x) Q E s:=by
 obtain⟨ds',S,p⟩:=S;obtain⟨as,rx⟩:=hx.2;unfold setAdd;refine ZR (Ya (yg 8 (by omega) (bz hx.1).1 rx fun tk htk=>?_));unfold setAddHashed;refine ZR ?_;have hl:ds'.length<70:=by rw[p.length_eq];exact ZH (db ds) hn
 refine qY (s:={s with toks:=tk}) (f:=99999) S hx px hu hl (fun hd=>?_) fun hd ds2 h' S2 p2 off=>?_
 ·refine q false s.heap tk htk ⟨ds',S,?_⟩ fun c _=>rfl;rw[dw,if_pos (p.mem_iff.mp hd)];exact p
 ·refine q true h' tk htk ⟨ds2,S2,?_⟩ off;rw[dw,if_neg (fun z=>hd (p.mem_iff.mpr z))];exact p2.trans ((List.Perm.cons dx p).trans (List.perm_append_singleton dx _).symm)
theorem u_(W:WalksS prog w A.in1 I fp wr G n P St)(S:Addr)(hSf:S∉fp)(h0:Heap)(hnew:∀b o,h0.get? b=some o->b∉S::wr)
  (hI:∀i s,St i s->∀b∈wr,∀o vs k,s.heap.get? b=some o->o.data≠.seq vs k)
  (ds:List D) (hn:ds.length=n) (hn70:n<70) (hval:∀i v,P i v->∃d,ds[i]?=some d/\KeyAt h0 v d/\Pv v d) (hu:A.units+70<cLine) :
  ∀(k i:Nat) (s:Shared),n-i=k->i<=n->St i s->(∀b o,h0.get? b=some o->s.heap.get? b=some o)->SetHas Pv w s.heap S (ds.take i)->
   (∀s',Moved (S::wr) G s s'->SetHas Pv w s'.heap S ds->R (.ok (.ret .none)) s')->
   codeAny (model prog w) A (.builtin "set.update.loop" ⟨[.ref S,.ref I],[]⟩) R s:=by
 have hSw:S∉wr:=fun h=>hSf (W.sub _ h)
 have hsub:∀b∈wr,b∈S::wr:=fun b hb=>Yc _ hb
 have mv:∀{i:Nat}{s s':Shared}{l:List D},St i s->Moved wr G s s'->SetHas Pv w s.heap S l->SetHas Pv w s'.heap S l:=fun st m h=>
  h.move (fun o e=>m.heap S o hSw e) fun b o vs k e z=>m.heap b o (fun hb=>hI _ _ st b hb o vs k e z) e
 intro k;induction k with
 |zero=>
  intro i s hk hi hst h0s hS hR;have hin:i=n:=by omega
  subst hin;refine Zp Xr ?_;rw[ZK ZI _];show wpAny _ A.in1 (pyNext (.ref I)>>=_) _ _ s;refine Ya (W.done s _ _ hst fun s' hm=>?_);show wpAny _ A.in1 (ret Value.none) _ _ s';refine Yg (hR s' (hm.mono hsub) (mv hst hm ?_));rw[<-hn,Xv]at hS;exact hS
 |succ k ih=>
  intro i s hk hi hst h0s hS hR;have hlt:i<n:=by omega
  refine Zp Xr ?_;rw[ZK ZI _];show wpAny _ A.in1 (pyNext (.ref I)>>=_) _ _ s;refine Ya (W.item i s _ _ hlt hst fun v s' hP hst' hm=>?_);obtain⟨d,hd,kv,pv⟩:=hval i v hP;have h0s':∀b o,h0.get? b=some o->s'.heap.get? b=some o:=fun b o e=>hm.heap b o (fun hb=>hnew b o e (hsub b hb)) (h0s b o e)
  show wpAny _ A.in1 (holding [v] (setAdd S v)>>=_) _ _ s';refine Ya (ZR (zq (mv hst hm hS) (kv.keeps h0s') pv (by show A.units+1+64<cLine;omega) (by rw[ZN];omega) fun b h' tk htk hS2 off=>?_));have et:ds.take i++[d]=ds.take (i+1):=by rw[XF,hd];rfl
  rw[et]at hS2;refine Yg ⟨Vy ZI _,ih (i+1) _ (by omega) hlt (W.frame _ s' _ _ hst' htk fun b hb o e=>?_) (fun b o e=>?_) hS2 fun s'' hm'' hS''=>?_⟩
  ·rw[off b (fun h:b=S=>hSf (by rw[<-h];exact hb))];exact e
  ·show h'.get? b=some o;rw[off b (fun h:b=S=>hnew b o e (by rw[h];exact Ye))];exact h0s' b o e
  ·refine hR s'' (Moved.trans W.gtrans ((hm.mono hsub).then_heap htk fun b o hb e=>?_) hm'') hS'';rw[off b (fun h:b=S=>hb (by rw[h];exact Ye))];exact e
end
end L2
namespace L2
open PySem PySem.Spec PyProof.Rows
abbrev eT(w:World):Obj:={cls:=.type "set",dict:=none,data:=.set #[] 0 (.fresh 0 0 (!w.params.followText "set-order"))}
abbrev AK(l:Addr):Obj:={cls:=.type "list_iterator",data:=.fields #[.ref l,.int 0 0]}
section
variable{prog:Program}{w:World}{A:Around}{E:Kv}{s:Shared}
theorem oS(x:Value){Q₁:Kv}(q:Q₁ (.ref s.heap.objs.size) {s with heap:=s.heap.push (eT w)}) :
  codeAny (model prog w) A (.call (.builtin "set.__new__") ⟨[.type "set",x],[]⟩) (wants Q₁ E) s:=by
 refine codeAny_of_tree (Ya (m:=checkBuiltinCall "set.__new__" ⟨[.type "set",x],[]⟩) (wpAny_of_eq (F.newCall_set_1 x) (Yg ⟨Vy F.plain_set_new _,Zp F.entry_set_new ?_⟩)));rw[ZK F.plain_set_new ⟨[.type "set",x],[]⟩];unfold Builtin.«set.__new__» Builtin.Frozenset.newClass;have hself:=sub_set_self;obtain⟨hp,gg,dd,tt,oo⟩:=s;dsimp only;wp_walk;refine wpAny_askSetting (Yg ?_);dsimp only;simp only[newObj];exact Ya (wpAny_alloc (Yg (Yg q)))
theorem gr{l:Addr}{items:Array Value}{Z:Heap->Prop}{Q:Kv}(hl:s.heap.IsList l items)
  (loop:∀R:Result->Shared->Prop,(∀h' tk,Z h'->(∀b o,s.heap.get? b=some o->h'.get? b=some o)->R (.ok (.ret .none)) {s with heap:=h',toks:=tk})->
   codeAny (model prog w) A.in1.in1 (.builtin "set.update.loop" ⟨[.ref s.heap.objs.size,.ref (s.heap.push (eT w)).objs.size],[]⟩) R {s with heap:=(s.heap.push (eT w)).push (AK l)})
  (q:∀h' tk,Z h'->(∀b o,s.heap.get? b=some o->h'.get? b=some o)->Q (.ref s.heap.objs.size) {s with heap:=h',toks:=tk}) :
  wpAny (model prog w) A (call (.type "set") [.ref l]) Q E s:=by
 have ft:=F.called_set;obtain⟨m0,mr,hm⟩:=ft.mro;have y1:=ft.made;have y2:=ft.sub;have y3:=ft.notType;have y4:=ft.canCreate;have y5:=F.typeCall_set_1 (.ref l);refine wpAny_call (codeAny_of_tree ?_);show wpAny _ _ (callAny (.type "set") ⟨[.ref l],[]⟩) _ _ _;refine Yg ⟨XU _ (by decide+kernel),Zp F.entry_type_call ?_⟩;rw[Around.under_plain (weight_type_call_type "set" [.ref l] []) rfl]
 repeat any_goals first|assumption|wp_step
 refine VM (oS (.ref l) (E:=E) (Q₁:=fun obj s₁=>obj=.ref s.heap.objs.size/\s₁={s with heap:=s.heap.push (eT w)}) ⟨rfl,rfl⟩) fun r s₁ hr=>?_;cases r with
 |error e=>exact hr
 |ok fl=>
  cases fl with
  |ret obj=>
   obtain⟨rfl,rfl⟩:=hr;have hS:(s.heap.push (eT w)).get? s.heap.objs.size=some (eT w):=Ym _ rfl;have hT:Shared.TypeIs {s with heap:=s.heap.push (eT w)} (.ref s.heap.objs.size) "set":=⟨_,hS,rfl⟩
   have y6:=ft.init.lookup;have y7:=ft.init.bind (.ref s.heap.objs.size)
   repeat any_goals first|assumption|wp_step
   refine VM (codeAny_call_builtin (R:=wants (fun r s₂=>r=.none/\∃h' tk,s₂={s with heap:=h',toks:=tk}/\Z h'/\∀b o,s.heap.get? b=some o->h'.get? b=some o) E) ft.init.plain F.entry_set_init (check_set_init_1 hT ?_)) fun r₂ s₂ hr₂=>?_
   ·obtain⟨⟨cl,dc,dt,sl⟩,e1,e2,nl,e3⟩:=hl;simp only at e2 e3;subst e2 e3;have e1':(s.heap.push (eT w)).get? l=some {cls:=.type "list",dict:=dc,data:=.seq items nl,slots:=sl}:=Yh _ e1;have z1:=F.sub_list_set;have z2:=F.sub_list_frozenset;have z3:(Value.type "list" == Value.type "dict")=false:=by decide
    have hl1:(s.heap.push (eT w)).IsList l items:=⟨_,e1',rfl,nl,rfl⟩
    unfold Builtin.«set.__init__» noKeywords Builtin.Frozenset.updateFrom;generalize hPI:pyIter=PI
    wp_walk
    subst hPI;refine wpAny_pyIter_list hl1 (Ya (wpAny_runValue (loop _ fun h' tk hZ hk=>?_)));show wpAny _ _ _ _ _ _;exact Yg (show wpAny _ _ (ret Value.none) _ _ _ from Yg ⟨rfl,h',tk,rfl,hZ,hk⟩)
   ·cases r₂ with
    |error e=>exact hr₂
    |ok fl₂=>
     cases fl₂ with
     |ret v=>
      obtain⟨rfl,h',tk,rfl,hZ,hk⟩:=hr₂
      repeat any_goals first|assumption|wp_step
      exact q _ _ hZ hk
     |_=>exact hr₂.elim
  |_=>exact hr.elim
end
end L2
namespace L2
open PySem PySem.Spec PyProof.Rows PySem.SetTable
theorem xY{α:Type}(next:Nat->Nat):∀(f k:Nat) (left:List α) (out:Array α),left.length<=f->(pickOrder.go next f k left out).toList.Perm (out.toList++left):=by
 intro f;induction f with
 |zero=>
  intro k left out h;obtain rfl:left=[]:=YV.mp (by omega);rw[Zf];exact Zw _
 |succ f ih=>
  intro k left out h;unfold pickOrder.go;split
  ·rename_i x hx;obtain⟨hl,ex⟩:=Yn.mp hx;refine(ih (k+1) _ _ (by rw[List.length_eraseIdx_of_lt hl];omega)).trans ?_;rw[Array.toList_push,Xn,<-ex];refine List.Perm.append_left _ ?_;show((left[next k%left.length]::left.eraseIdx (next k%left.length))).Perm left;rw[Vg];have:=Vp (next k%left.length) left;refine List.Perm.trans ?_ (List.Perm.of_eq this);rw[Xj hl];exact List.perm_middle.symm
  ·rename_i hx;have hz:left.length=0:=by
    rcases VQ left.length with z|z
    ·exact z
    ·have:=List.getElem?_eq_none_iff.mp hx;have:=VA (next k) z;omega
   obtain rfl:left=[]:=YV.mp hz;rw[Zf]
theorem ub{α:Type}(next:Nat->Nat)(xs:Array α):(pickOrder next xs).toList.Perm xs.toList:=by
 have:=xY next xs.size 0 xs.toList #[] (by simp)
 simpa[pickOrder]using this
def dW(w:World)(S:Addr)(ep:Nat)(es:Ka):Array (Int×Value):=if w.params.followText "set-order"=true then pickOrder (w.params.setOrder S ep) es else es
theorem lA(w:World)(S:Addr)(ep:Nat)(es:Ka):(dW w S ep es).toList.Perm es.toList:=by
 unfold dW;split
 ·exact ub _ _
 ·exact Zw _
theorem gL(w:World)(S:Addr)(ep:Nat)(es:Ka):(dW w S ep es).size=es.size:=by have:=(lA w S ep es).length_eq;simpa using this
structure SObj (w:World) (h:Heap) (S:Addr) (es:Array (Int×Value)) (ep:Nat) (t:SetTable):Prop where
 obj:∃o,h.get? S=some o/\o.cls=.type "set"/\o.data=.set es ep t
 fits:t.fits es.size=true
 siz:t.place.size=es.size
 rise:w.params.followText "set-order"=false->Rising t.place
 led:w.params.followText "set-order"=false->t.led=true
 plain:w.params.followText "set-order"=false->(!t.plain&&decide (es.size > 1))=false
def wo(h:Heap)(I S:Addr)(slot i n ep:Nat):Prop:=∃o,h.get? I=some o/\o.cls=.type "set_iterator"/\o.data=.fields #[.int slot 0,.int i 0,.ref S,.int n 0,.int ep 0]
theorem bg:Slot "set_iterator" "__next__" "set_iterator.__next__":=.of (owner := "set_iterator") (n := "__next__") (by rw[typeLookup_type,builtinLookup_eq_fast];kernel_rfl) (by decide+kernel) (by decide+kernel) (by decide+kernel) (by first|exact .inl (by decide+kernel)|exact .inr (by decide+kernel)) (by rw[isSubtype_type];kernel_rfl)
theorem cX:entryFor table "set_iterator.__next__"=some Builtin.«set_iterator.__next__»:=entryFor_of_fast (by kernel_rfl)
theorem dn(x:Value):argsOk "set_iterator.__next__" ⟨[x],[]⟩:=by unfold argsOk;kernel_rfl
theorem dm:Slot "set_iterator" "__iter__" "set_iterator.__iter__":=.of (owner := "set_iterator") (n := "__iter__") (by rw[typeLookup_type,builtinLookup_eq_fast];kernel_rfl) (by decide+kernel) (by decide+kernel) (by decide+kernel) (by first|exact .inl (by decide+kernel)|exact .inr (by decide+kernel)) (by rw[isSubtype_type];kernel_rfl)
theorem fM:entryFor table "set_iterator.__iter__"=some Builtin.«dict_keyiterator.__iter__»:=entryFor_alias (id' := "dict_keyiterator.__iter__") (by kernel_rfl) (by rfl) (by decide+kernel) (by kernel_rfl)
theorem gF(x:Value):argsOk "set_iterator.__iter__" ⟨[x],[]⟩:=by unfold argsOk;kernel_rfl
theorem gD:entryFor table "set.__iter__"=some Builtin.«frozenset.__iter__»:=entryFor_alias (id' := "frozenset.__iter__") (by kernel_rfl) (by rfl) (by decide+kernel) (by kernel_rfl)
theorem i6:isSubtype (.type "StopIteration") (.type "StopIteration")=pure true:=by rw[isSubtype_type];kernel_rfl
section
variable{prog:Program}{w:World}{A:Around}{E:Kv}{s:Shared}
variable{S I:Addr}{es:Ka}{ep:Nat}{t:SetTable}
theorem SObj.state(K:SObj w s.heap S es ep t){Q:(Array (Int×Value)×Nat×SetTable)->Shared->Prop}(h:Q (es,ep,t) s):wpAny (model prog w) A (setState S) Q E s:=by obtain⟨o,h1,h2,h3⟩:=K.obj;exact Ve h1 h3 K.fits h
theorem SObj.entries(K:SObj w s.heap S es ep t){Q:Array (Int×Value)->Shared->Prop}(h:Q es s):wpAny (model prog w) A (setEntries S) Q E s:=by unfold setEntries;exact Ya (K.state (Yg h))
theorem SObj.epoch(K:SObj w s.heap S es ep t){Q:Nat->Shared->Prop}(h:Q ep s):wpAny (model prog w) A (setEpoch S) Q E s:=by unfold setEpoch;exact Ya (K.state (Yg h))
theorem iT{Q:Kb}(h:Q (w.params.followText "set-order") s):wpAny (model prog w) A setsByText Q E s:=by unfold setsByText;exact Ya (wpAny_askSetting (Yg h))
theorem rQ(K:SObj w s.heap S es ep t){slot i:Nat}(hs:w.params.followText "set-order"=false->below t.place slot=i){Q:Option (Value×Nat)->Shared->Prop}
  (h1:∀e slot',(dW w S ep es)[i]?=some e->(w.params.followText "set-order"=false->below t.place slot'=i+1)->Q (some (e.2,slot')) s) (h2:(dW w S ep es)[i]?=none->Q none s) :
  wpAny (model prog w) A (setNext S slot i ep) Q E s:=by
 unfold setNext;refine Ya (K.state ?_);dsimp only;refine Ya (iT ?_);cases hb:w.params.followText "set-order" with
 |true=>
  rw[if_pos rfl,if_neg (by simp)];refine Ya ?_;unfold setWalk;refine Ya (K.state ?_);dsimp only;refine Ya (iT ?_);rw[hb,if_pos rfl];refine Ya (wpAny_askSetting (Yg (Yg ?_)));have eo:dW w S ep es=pickOrder (w.params.setOrder S ep) es:=by unfold dW;rw[if_pos hb]
  show Q (((pickOrder (w.params.setOrder S ep) es)[i]?).map fun e=>(e.2,slot)) s;rw[<-eo];cases q:(dW w S ep es)[i]? with
  |none=>exact h2 q
  |some e=>exact h1 e slot q fun z=>by rw[hb]at z;cases z
 |false=>
  rw[if_neg Yj];have eo:dW w S ep es=es:=by unfold dW;rw[if_neg (by rw[hb];exact Yj)]
  rw[eo]at h1 h2;have hd:((!t.plain)&&decide (es.size > 1))=false:=K.plain hb;have hl:=K.led hb;have hi:=hs hb;show wpAny _ _ (if((!t.plain)&&decide (es.size > 1))=true then _ else _) _ _ _;rw[hd,if_neg Yj];refine Ya ?_;show wpAny _ _ (if((!t.led)&&!es.isEmpty)=true then _ else _) _ _ _;rw[hl,if_neg (by simp)];refine Yg ?_;show wpAny _ _ (pure (match es[below t.place slot]?,t.place[below t.place slot]? with
   |some (_,x),some j=>some (x,j+1)
   |_,_=>none)) _ _ _
  rw[hi];refine Yg ?_;cases q:es[i]? with
  |none=>exact h2 q
  |some e=>
   have hlt:i<t.place.size:=by rw[K.siz];exact(Zg.mp q).1
   rw[Yq hlt];refine h1 e (t.place[i]+1) q fun _=>?_;obtain⟨b1,b2,b3⟩:=dH (K.rise hb) (t.place[i]+1);generalize below t.place (t.place[i]+1)=b at b1 b2 b3;rcases VU b (i+1)with z|z|z
   ·have:=b3 i hlt (by omega);omega
   ·exact z
   ·have h':i+1<t.place.size:=by omega
    have g1:=b2 (i+1) h' z;have g2:=(K.rise hb).lt i (i+1) hlt h' (by omega);omega
end
section
variable{prog:Program}{w:World}{A:Around}{E:Kv}{s:Shared}
variable{S I:Addr}{es:Ka}{ep:Nat}{t:SetTable}
theorem SObj.at{h h':Heap}(K:SObj w h S es ep t)(k:∀o,h.get? S=some o->h'.get? S=some o):SObj w h' S es ep t:=by obtain⟨o,h1,h2,h3⟩:=K.obj;exact⟨⟨o,k o h1,h2,h3⟩,K.fits,K.siz,K.rise,K.led,K.plain⟩
theorem yF{slot i:Nat}(hit:wo s.heap I S slot i es.size ep)(K:SObj w s.heap S es ep t)(hs:w.params.followText "set-order"=false->below t.place slot=i){e:Int×Value}(he:(dW w S ep es)[i]?=some e){Q:Ko}
  (q:∀h' slot',wo h' I S slot' (i+1) es.size ep->(w.params.followText "set-order"=false->below t.place slot'=i+1)->(∀b,b≠I->h'.get? b=s.heap.get? b)->Q (some e.2) {s with heap:=h' }) :
  wpAny (model prog w) A (pyNext (.ref I)) Q E s:=by
 obtain⟨o,ho,hc,hd⟩:=id hit;have hT:s.TypeIs (.ref I) "set_iterator":=⟨o,ho,hc⟩
 unfold pyNext;refine Ya (wpAny_attempt (Xs (name:=Str.ofString "__next__") hT bg (Zx bg hT cX ?_ (dn _))));unfold Builtin.«set_iterator.__next__»;refine Ya (Yg ?_);refine Ya (wpAny_fieldsOf ho hd ?_);show wpAny _ _ (setEntries S>>=_) _ _ s;refine Ya (K.entries ?_);rw[if_neg (by simp)];show wpAny _ _ (setNext S ((slot:Int).toNat) ((i:Int).toNat) ((ep:Int).toNat)>>=_) _ _ s;rw[YQ,YQ,YQ];refine Ya (rQ K hs (fun e' slot' he' hs'=>?_) fun z=>by rw[he]at z;cases z);rw[he]at he';cases he';show wpAny _ _ (setField (.ref I) 0 (rawInt (slot':Nat))>>=_) _ _ s;refine Ya (XI ho hd (by simp) ?_);have ho2:=YX (Obj.mapFields (·.setIfInBounds 0 (rawInt ((slot':Nat):Int)))) ho (XB (ZJ hd _));have hd2:=ZJ hd (·.setIfInBounds 0 (rawInt ((slot':Nat):Int)));refine Ya (XI ho2 hd2 (by simp) ?_);have ho3:=YX (Obj.mapFields (·.setIfInBounds 1 (rawInt ((i:Int)+1)))) ho2 (XB (ZJ hd2 _));have hd3:=ZJ hd2 (·.setIfInBounds 1 (rawInt ((i:Int)+1)));refine Yg ⟨_,rfl,Yg (q _ slot' ⟨_,ho3,?_,?_⟩ hs' fun b hb=>?_)⟩
 ·rw[Obj.cls_mapFields,Obj.cls_mapFields];exact hc
 ·rw[hd3];simp[rawInt]
 ·rw[YJ _ _ _ _ hb,YJ _ _ _ _ hb]
theorem xV{slot i:Nat}(nh:A.handled=none)(hit:wo s.heap I S slot i es.size ep)(K:SObj w s.heap S es ep t)(hs:w.params.followText "set-order"=false->below t.place slot=i)(he:(dW w S ep es)[i]?=none){Q:Ko}
  (q:∀h',(∀b o,b≠I->s.heap.get? b=some o->h'.get? b=some o)->Q none {s with heap:=h' }):wpAny (model prog w) A (pyNext (.ref I)) Q E s:=by
 obtain⟨o,ho,hc,hd⟩:=id hit;have hT:s.TypeIs (.ref I) "set_iterator":=⟨o,ho,hc⟩
 unfold pyNext;refine Ya (wpAny_attempt (Xs (name:=Str.ofString "__next__") hT bg (Zx bg hT cX ?_ (dn _))));unfold Builtin.«set_iterator.__next__»;refine Ya (Yg ?_);refine Ya (wpAny_fieldsOf ho hd ?_);show wpAny _ _ (setEntries S>>=_) _ _ s;refine Ya (K.entries ?_);rw[if_neg (by simp)];show wpAny _ _ (setNext S ((slot:Int).toNat) ((i:Int).toNat) ((ep:Int).toNat)>>=_) _ _ s;rw[YQ,YQ,YQ];refine Ya (rQ K hs (fun e' slot' he' hs'=>by rw[he]at he';cases he') fun _=>?_);show wpAny _ _ (setField (.ref I) 2 .none>>=_) _ _ s;refine Ya (XI ho hd (by simp) ?_);show wpAny _ _ (newExc (.type "StopIteration") []>>=_) _ _ _;refine Ya ?_;simp only[newExc,newTuple];refine Ya (Xc (Ya (m:=firstArgMember _ _) (wpAny_of_eq (a:=Value.none) (by first|rfl|(simp only[firstArgMember];rfl)) ?_)) (by size_fits));refine Xc ?_ (by size_fits);simp only[raiseNew];refine Ya (wpAny_handled ?_);rw[show A.in1.handled=none from nh];refine Ya (Yg (wpAny_throw ?_));refine Ya (XJ (b:=true) (T := "StopIteration") ⟨_,Ym _ rfl,rfl⟩ i6 ?_);exact Yg (q _ fun b o hb e=>(((Heap.SameBut.update ..).extBut.push _).push _) b o hb e)
theorem wQ(nh:A.handled=none)(hne:S≠I)(hl:es.size<=sizeLine):Walks prog w A I [I,S] [I] es.size (fun i v=>∃e,(dW w S ep es)[i]?=some e/\v=e.2)
  (fun i h=>(∃slot,wo h I S slot i es.size ep/\(w.params.followText "set-order"=false->below t.place slot=i))/\SObj w h S es ep t) where
 sub:=fun b hb=>by simp at hb;simp[hb]
 frame:=fun i h h' st hk=>by
  obtain⟨⟨slot,⟨o,h1,h2,h3⟩,hs⟩,K⟩:=st;exact⟨⟨slot,⟨o,hk I (by simp) o h1,h2,h3⟩,hs⟩,K.at fun o e=>hk S (by simp) o e⟩
 item:=fun i s Q E hi st hQ=>by
  obtain⟨⟨slot,hit,hs⟩,K⟩:=st;have hi':i<(dW w S ep es).size:=by rw[gL];exact hi
  have he:(dW w S ep es)[i]?=some (dW w S ep es)[i]:=Yq hi';refine yF hit K hs he fun h' slot' hit' hs' hk=>?_;exact hQ _ h' s.toks ⟨_,he,rfl⟩ ⟨⟨slot',hit',hs'⟩,K.at fun o e=>(hk S hne).trans e⟩ fun b o hb e=>(hk b (fun z=>hb (by simp[z]))).trans e
 done:=fun s Q E st hQ=>by
  obtain⟨⟨slot,hit,hs⟩,K⟩:=st;refine xV nh hit K hs (Xy (by rw[gL];exact Yl _)) fun h' hk=>?_;exact hQ h' s.toks fun b o hb e=>hk b o (fun z=>hb (by simp[z])) e
 self:=fun i s Q E st hQ=>by
  obtain⟨⟨slot,⟨o,h1,h2,h3⟩,hs⟩,K⟩:=st;have hT:s.TypeIs (.ref I) "set_iterator":=⟨o,h1,h2⟩
  refine Vh hT dm (Zx dm hT fM ?_ (gF _));show wpAny _ _ (ret (.ref I)) _ _ s;exact Yg ⟨_,rfl,"set_iterator",_,hT,bg.lookup,hQ⟩
theorem wD(K:SObj w s.heap S es ep t){Q:Kv}
  (q:Q (.ref s.heap.objs.size) {s with heap:=s.heap.push {cls:=.type "set_iterator",data:=.fields #[.int 0 0,.int 0 0,.ref S,.int es.size 0,.int ep 0]} }):wpAny (model prog w) A (pyIter (.ref S)) Q E s:=by
 obtain⟨o,h1,h2,h3⟩:=id K.obj;have hT:s.TypeIs (.ref S) "set":=⟨o,h1,h2⟩
 refine Vh hT VH (Zx VH hT gD ?_ (F.args_set_iter_1 _));unfold Builtin.«frozenset.__iter__»;refine Ya (Ya (m:=slotArgs _ _ _) (Yg (Yg ?_)));refine Ya (Ya (K.entries (Yg ?_)));refine Ya ?_;unfold setDrawn;refine Ya (K.state ?_);refine Ya (iT (Yg ?_));have hd:(!w.params.followText "set-order"&&(!t.plain&&decide (es.size > 1)))=false:=by
  cases z:w.params.followText "set-order" with
  |true=>rfl
  |false=>rw[K.plain z];rfl
 show wpAny _ _ (if(!w.params.followText "set-order"&&(!t.plain&&decide (es.size > 1)))=true then _ else _) _ _ s;rw[hd,if_neg Yj];refine Ya (Yg ?_);refine Ya (K.epoch ?_);exact Ya (Xc (Yg ⟨_,rfl,"set_iterator",_,⟨_,Ym _ rfl,rfl⟩,bg.lookup,q⟩))
theorem uu{acc:Array Value}(h:ItemsOf (fun i v=>∃e,(dW w S ep es)[i]?=some e/\v=e.2) acc es.size):acc.toList=(dW w S ep es).toList.map (·.2):=by
 obtain⟨h1,h2⟩:=h;apply ZO;intro i;rw[YN,Ys,YN];by_cases hi:i<acc.size
 ·have e:=Yq hi;obtain⟨x,q1,q2⟩:=h2 i _ e;rw[e,q1,q2];rfl
 ·rw[Xy (by omega),Xy (by rw[gL];omega)];rfl
theorem vU(K:SObj w s.heap S es ep t){Q:Kb}(h:Q false s):wpAny (model prog w) A (Builtin.List.listLengthHint (.ref S)) Q E s:=by
 obtain⟨o,h1,h2,h3⟩:=id K.obj;have hT:s.TypeIs (.ref S) "set":=⟨o,h1,h2⟩
 unfold Builtin.List.listLengthHint;refine Ya (XA hT F.slot_set_len.lookup ?_);generalize hid:("set.__len__":String)=id0
 wp_delta
 rw[show splitId id0=some ("set","__len__")from by subst hid;decide+kernel];subst hid;refine Ya (XJ (T := "set") (b:=true) hT sub_set_self ?_);refine XC (fun z=>absurd z (by decide)) (fun _=>?_);refine XC (fun _=>?_) (fun z=>absurd (by decide+kernel) z);refine Ya (Vn hT ?_);exact Yg h
theorem qu{R:Kr}{L:Addr}{res:Value}{c₀:Nat}(nh:A.handled=none)(K:SObj w s.heap S es ep t)(hl:es.size<=sizeLine)(hLS:L≠S)(hL:s.heap.get? L=some {cls:=.type "list",data:=.seq #[] c₀})
  (hR:∀h' tk acc' c',(∀b o,b≠L->s.heap.get? b=some o->h'.get? b=some o)->h'.get? L=some {cls:=.type "list",dict:=none,data:=.seq acc' c',slots:=#[]}->acc'.toList=(dW w S ep es).toList.map (·.2)->R (.ok (.ret res)) {s with heap:=h',toks:=tk}) :
  wpAny (model prog w) A.in1 (Builtin.List.listExtendWith (.ref L) (.ref S) res)
   (fun fin s'=>match fin with|.done f=>R (.ok f) s'|.again c'=>c'.quiet=true/\codeAny (model prog w) A c' R s') (fun e s'=>R (.error e) s') s:=by
 obtain⟨o,h1,h2,h3⟩:=id K.obj;have hT:s.TypeIs (.ref S) "set":=⟨o,h1,h2⟩
 unfold Builtin.List.listExtendWith;refine Ya (Vn hT ?_);have g1:Builtin.List.listSameRef (.ref L) (.ref S)=false:=by simp[Builtin.List.listSameRef,hLS]
 have g2:(Value.type "set" == Value.type "list")=false:=by decide
 have g3:(Value.type "set" == Value.type "tuple")=false:=by decide
 simp only[g1,g2,g3,Bool.or_false,ZE,Vk];refine Ya (wD K ?_);have hSlt:S<s.heap.objs.size:=Yp h1;have hLlt:L<s.heap.objs.size:=Yp hL;have K1:SObj w (s.heap.push {cls:=.type "set_iterator",data:=.fields #[.int 0 0,.int 0 0,.ref S,.int es.size 0,.int ep 0]}) S es ep t:=K.at fun o e=>Yh _ e
 have hL1:(s.heap.push {cls:=.type "set_iterator",data:=.fields #[.int 0 0,.int 0 0,.ref S,.int es.size 0,.int ep 0]}).get? L=some {cls:=.type "list",data:=.seq #[] c₀}:=Yh _ hL;have hI1:wo (s.heap.push {cls:=.type "set_iterator",data:=.fields #[.int 0 0,.int 0 0,.ref S,.int es.size 0,.int ep 0]}) s.heap.objs.size S 0 0 es.size ep:=⟨_,Ym _ rfl,rfl,rfl⟩
 have k1:∀b o,s.heap.get? b=some o->(s.heap.push {cls:=.type "set_iterator",data:=.fields #[.int 0 0,.int 0 0,.ref S,.int es.size 0,.int ep 0]}).get? b=some o:=fun b o e=>Yh _ e
 generalize s.heap.push {cls:=.type "set_iterator",data:=.fields #[.int 0 0,.int 0 0,.ref S,.int es.size 0,.int ep 0]}=hp1 at *;refine Ya (ZR (vU (s:={s with heap:=hp1}) K1 ?_));refine XC (fun _=>?_) (fun z=>absurd (by decide+kernel) z);refine Ya (wpAny_rule (Ya ?_));show wpAny _ _ (updateSeq L (·.push .none)>>=fun _=>updateSeq L (·.pop)) _ _ _;refine Ya (VI hL1 rfl ?_);have hL2:=YX (Obj.mapSeq (·.push Value.none)) hL1 rfl;refine VI (hz:=by seq_fits) hL2 rfl ?_;have hL3:=YX (Obj.mapSeq (·.pop)) hL2 rfl;have oth:∀b,b≠L->((hp1.update L (Obj.mapSeq (·.push Value.none))).update L (Obj.mapSeq (·.pop))).get? b=hp1.get? b:=fun b hb=>by
  rw[YJ _ _ _ _ hb,YJ _ _ _ _ hb]
 have hIL:s.heap.objs.size≠L:=ZM hLlt;refine Yg ⟨Vy F.plain_extend_loop _,?_⟩;have W:=(wQ (prog:=prog) (w:=w) (A:=A.in1) (S:=S) (I:=s.heap.objs.size) (es:=es) (ep:=ep) (t:=t) (by simpa using nh) (YA hSlt) hl).toS;refine codeAny_extend_loopS W hl L (by simp[XM hIL,hLS]) res es.size 0 _ #[] _ (Nat.sub_zero _) (YF _) ⟨⟨0,?_,fun z0=>?_⟩,K1.at fun o e=>(oth S (XM hLS)).trans e⟩ hL3 (ItemsOf.nil _) fun s' acc' c' hm hS' hacc=>?_
 ·obtain⟨o',q1,q2,q3⟩:=hI1;exact⟨o',(oth _ hIL).trans q1,q2,q3⟩
 ·obtain⟨b1,b2,b3⟩:=dH (K.rise z0) 0;rcases VQ (below t.place 0)with z|z
  ·exact z
  ·exact absurd (b2 0 (by omega) z) (VG _)
 ·rw[Moved.eq_with hm];refine hR s'.heap s'.toks acc' c' (fun b o hb e=>hm.heap b o (fun z=>?_) ((oth b hb).trans (k1 b o e))) hS' ?_
  ·rcases Yr.mp z with z|z
   ·exact hb z
   ·have:b=s.heap.objs.size:=by simpa using z
    exact absurd (Yp e) (by rw[this];exact Zd _)
  ·exact uu hacc
theorem n0(nh:A.handled=none)(K:SObj w s.heap S es ep t)(hl:es.size<=sizeLine){Q:Kl}
  (q:∀h' tk,(∀b o,s.heap.get? b=some o->h'.get? b=some o)->Q ((dW w S ep es).toList.map (·.2)) {s with heap:=h',toks:=tk}):wpAny (model prog w) A (collect (.ref S)) Q E s:=by
 obtain⟨o,h1,h2,h3⟩:=id K.obj;have hlt:S<s.heap.objs.size:=Yp h1;unfold collect;refine Ya (wpAny_runValue (Zp entry_proto_collect' ?_));refine Ya (m:=newList []) (Vx (Yg ⟨XU _ (by decide+kernel),Zp entry_list_iadd' ?_⟩));rw[ZK (show plainId "list.__iadd__"=true by decide+kernel) ⟨[.ref s.heap.objs.size,.ref S],[]⟩];refine qu (R:=fun r s'=>match r with
  |Except.ok (Flow.ret v)=>wpAny (model prog w) A (match v with
   |Value.ref a=>(load a>>=fun o=>match o.data with
    |Data.seq xs _=>pure xs.toList
    |_=>unsupported "internal:collect")
   |_=>unsupported "internal:collect") Q E s'
  |Except.ok _=>False
  |Except.error e=>E e s') (s:={s with heap:=s.heap.push (seqObj "list" #[] 0)}) (A:=A) (L:=s.heap.objs.size) (res:=.ref s.heap.objs.size) (c₀:=0) ?_ (K.at fun o e=>Yh _ e) hl (ZM hlt) (Ym _ rfl) fun h' tk acc' c' hk hL' hacc=>?_
 ·simpa using nh
 ·refine Ya (wpAny_load hL' ?_);show wpAny _ _ (pure acc'.toList) _ _ _;rw[hacc];exact Yg (q h' tk fun b o e=>hk b o (YA (Yp e)) (Yh _ e))
end
theorem SetHas.fresh{Pv:Value->D->Prop}{w:World}{h:Heap}{a:Addr}{ds:List D}(hget:h.get? a=some (eT w)):SetHas Pv w h a (ds.take 0):=by
 refine⟨[],⟨#[],.fresh 0 0 (!w.params.followText "set-order"),⟨⟨_,0,hget,⟨rfl,rfl,rfl⟩,rfl⟩,⟨⟨fun i j hi=>absurd hi (VG _)⟩,rfl,fun j hj=>?_,by show 7%2=1;decide,by first|exact zL|(show fW 8;exact zL),YF _,fun i j e=>?_⟩,rfl,rfl,fun i e d he=>?_,fun i e d he=>?_⟩,.inl ⟨rfl,YF _⟩,fun z=>?_,rfl⟩,Zw _⟩
 ·cases hj;rename_i q;cases q
 ·cases e
 ·cases he
 ·cases he
 ·show(!w.params.followText "set-order")=true;rw[z];rfl
section
variable{Pv:Value->D->Prop}{prog:Program}{w:World}{A:Around}{E:Kv}{s:Shared}
theorem kG{l:Addr}{items:Array Value}{ds:List D}{Q:Kv}(nh:A.handled=none)(hl:s.heap.IsList l items)(hi:∀(i:Nat) v,items[i]?=some v->∃d,ds[i]?=some d/\KeyAt s.heap v d/\Pv v d)(hlen:ds.length=items.size)(hb:items.size<70)(hu:A.units+80<cLine)
  (q:∀h' tk,SetHas Pv w h' s.heap.objs.size ds->(∀b o,s.heap.get? b=some o->h'.get? b=some o)->Q (.ref s.heap.objs.size) {s with heap:=h',toks:=tk}):wpAny (model prog w) A (call (.type "set") [.ref l]) Q E s:=by
 refine gr (Z:=fun h'=>SetHas Pv w h' s.heap.objs.size ds) hl (fun R hR=>?_) q;obtain⟨ol,hol,_⟩:=id hl;have hlS:l<s.heap.objs.size:=Yp hol;have hsz:(s.heap.push (eT w)).objs.size=s.heap.objs.size+1:=Xi ..;have hne:l≠(s.heap.push (eT w)).objs.size:=by rw[hsz];exact YA (Zi hlS)
 have hnew:∀b o,s.heap.get? b=some o->b∉s.heap.objs.size::[(s.heap.push (eT w)).objs.size]:=fun b o e=>by
  have:=Yp e;rw[hsz];simp only[Yr,YU,Xw,or_false,not_or];exact⟨YA this,YA (Zi this)⟩
 have hl2:((s.heap.push (eT w)).push (AK l)).IsList l items:=(hl.push _).push _;have nh3:A.in1.in1.in1.handled=none:=by simpa using nh
 refine u_ (Pv:=Pv) ((Walks.list nh3 _ l hne items).toS) s.heap.objs.size (by rw[hsz];simp;exact ZM hlS) s.heap hnew (fun i s' st b hb' o vs k e z=>?_) ds hlen hb hi (by show A.units+1+1+70<cLine;omega) (items.size-0) 0 _ (by omega) (YF _)
  ⟨⟨_,Ym _ rfl,rfl,rfl⟩,hl2⟩ (fun b o e=>Yh _ (Yh _ e)) (SetHas.fresh (Yh _ (Ym _ rfl))) fun s' hm hS=>?_
 ·rw[YU]at hb';subst hb';obtain⟨⟨o',e1,e2,e3⟩,_⟩:=st;rw[e1]at e;cases e;rw[e3]at z;cases z
 ·obtain⟨h',g',d',tk',os'⟩:=s';have eg:g'=s.gens:=hm.gens;have ed:d'=s.drawn:=hm.drawn;have eo:os'=s.os:=hm.os;subst eg ed eo;exact hR h' tk' hS fun b o e=>hm.heap b o (hnew b o e) (Yh _ (Yh _ e))
end
theorem ze(t:SetTable)(es:Ka)(h:Int)(x:Value):(layNew t es h x).2.1.led=t.led:=by
 unfold layNew;split
 ·show(SetTable.orStandIn _ _).led=t.led;unfold SetTable.orStandIn;split<;>rfl
 ·rfl
theorem nA{t t':SetTable}{hs:Array Int}{n:Nat}{order:Array Nat}(h:t.relaid hs n=some (t',order)):t'.led=t.led/\t'.plain=t.plain:=by
 unfold relaid laid at h;cases q:layClean (sizeAbove n-1) hs with
 |none=>rw[q]at h;cases h
 |some ow=>rw[q]at h;cases h;exact⟨rfl,rfl⟩
theorem uo(t:SetTable)(es:Ka)(n:Nat):(relayAll t es n).2.1.led=t.led/\(t.plain=false->(relayAll t es n).2.1.plain=false):=by
 unfold relayAll;split
 ·rename_i t' order hq;obtain⟨a,b⟩:=nA hq;dsimp only;split
  ·exact⟨a,fun z=>b.trans z⟩
  ·exact⟨rfl,fun _=>rfl⟩
 ·exact⟨rfl,fun _=>rfl⟩
def enD(e:Int×Value):D:=match e.2 with|.str x _=>.str x|_=>.non
structure TxAt (w:World) (h:Heap) (a:Addr) (es:Array (Int×Value)) (ep:Nat) (t:SetTable):Prop where
 obj:∃o,h.get? a=some o/\o.ExactSet/\o.data=.set es ep t
 fits:t.fits es.size=true
 led:w.params.followText "set-order"=false->t.led=true
 plain:es.size≠0->t.plain=false
 its:∀e∈es.toList,∃x tk,e=(hashStr w x,.str x tk)
 small:es.size<=1000
def TxHas(w:World)(h:Heap)(a:Addr)(ds:List D):Prop:=∃es ep t,TxAt w h a es ep t/\(es.toList.map enD).Perm (aO ds)
theorem TxAt.at{w:World}{h h':Heap}{a:Addr}{es:Ka}{ep:Nat}{t:SetTable}(K:TxAt w h a es ep t)(k:∀o,h.get? a=some o->h'.get? a=some o):TxAt w h' a es ep t:=by obtain⟨o,h1,h2,h3⟩:=K.obj;exact⟨⟨o,k o h1,h2,h3⟩,K.fits,K.led,K.plain,K.its,K.small⟩
theorem TxHas.move{w:World}{h h':Heap}{a:Addr}{ds:List D}(S:TxHas w h a ds)(k:∀o,h.get? a=some o->h'.get? a=some o):TxHas w h' a ds:=by obtain⟨es,ep,t,K,p⟩:=S;exact⟨es,ep,t,K.at k,p⟩
theorem TxAt.elems{prog:Program}{w:World}{h:Heap}{a:Addr}{es:Ka}{ep:Nat}{t:SetTable}(K:TxAt w h a es ep t):ElemsOf (PySem.strKind prog w) es.toList:=by intro e he;obtain⟨x,tk,rfl⟩:=K.its e he;exact⟨⟨x,by show Value.isStrOf x (.str x tk)=true;simp[Value.isStrOf],rfl⟩,rfl⟩
theorem pC{h:Heap}{a:Addr}{o:Obj}{es:Ka}{ep:Nat}{t:SetTable}(k1:h.get? a=some o)(k3:o.data=.set es ep t)(es':Ka)(t':SetTable):(h.update a (Obj.putSet es' t')).get? a=some {o with data:=.set es' (ep+1) t' }:=by have z:=YX (Obj.putSet es' t') k1 (by rw[putSet_of es' t' k3];rfl);rw[putSet_of es' t' k3]at z;exact z
section
variable{prog:Program}{w:World}{A:Around}{E:Kv}{s:Shared}
theorem BN{a:Addr}{ds:List D}{x:Str}{tx:Tok}(S:TxHas w s.heap a ds)(hn:ds.length<1000){Q:Kb}
  (q:∀b h' tk,s.toks<=tk->TxHas w h' a (ds++[.str x])->(∀c,c≠a->h'.get? c=s.heap.get? c)->Q b {s with heap:=h',toks:=tk}) :
  wpAny (model prog w) A (setAdd a (.str x tx)) Q E s:=by
 obtain⟨es,ep,t,K,p⟩:=S;obtain⟨o,k1,k2,k3⟩:=K.obj;have hsz:es.size<1000:=by have z:=p.length_eq;rw[Yd,Yz]at z;have:=db ds;omega
 have hel:ElemsOf (PySem.strKind prog w) es.toList:=K.elems;have hkey:(PySem.strKind prog w).is x (.str x tx)=true:=by show Value.isStrOf x (.str x tx)=true;simp[Value.isStrOf]
 unfold setAdd;refine ZR (Ya (Vr ?_));unfold setAddHashed setAddHashedIn;refine ZR (Ya (Ve (s:={s with toks:=s.toks+1}) k1 k3 K.fits ?_));dsimp only;have hbs:byScan (.str x tx) es=true:=byScan_of (knd:=PySem.strKind prog w) rfl (by unfold scanBound;omega) hel;rw[hbs,if_pos rfl];unfold setAddByScan;refine Ya (Ya (wpAny_rule (Ya (wpAny_setScan_of (s:={s with toks:=s.toks+1}) (knd:=PySem.strKind prog w) (k:=x) hkey k1 k3 K.fits hel ?_))));cases hr:List.findIdx? (fun e=>(PySem.strKind prog w).is x e.2) es.toList with
 |some j=>
  dsimp only;obtain⟨hj,hpj,_⟩:=List.findIdx?_eq_some_iff_getElem.mp hr;have hm:D.str x∈aO ds:=by
   refine p.mem_iff.mp (Yk.mpr ⟨es.toList[j],Xf hj,?_⟩);obtain⟨y,ty,e⟩:=K.its _ (Xf hj);rw[e]at hpj ⊢;have:y=x:=by
    have z:Value.isStrOf x (.str y ty)=true:=hpj;simp[Value.isStrOf]at z
    first|exact z|exact z.symm
   rw[this];rfl
  refine Yg (Yg (q false s.heap (s.toks+1) (Xd _) ⟨es,ep,t,K,?_⟩ fun c _=>rfl));rw[dw,if_pos hm];exact p
 |none=>
  dsimp only;have hm:D.str x∉aO ds:=fun z=>by
   obtain⟨e,he,hx⟩:=Yk.mp (p.mem_iff.mpr z);obtain⟨y,ty,rfl⟩:=K.its e he;have hy:y=x:=by have hx':D.str y=D.str x:=hx;cases hx';rfl
   subst hy;have z:=List.findIdx?_eq_none_iff.mp hr _ he;have z':Value.isStrOf y (.str y ty)=false:=z;simp[Value.isStrOf]at z'
  have gw:∀(b:Bool) (s1:Shared) (Q1:Unit->Shared->Prop),Q1 () s1->wpAny (model prog w) A (match b with|true=>rule "set.scan.the-table-gave-way" |false=>pure ()) Q1 E s1:=by
   intro b s1 Q1 z;cases b
   ·exact Yg z
   ·exact wpAny_rule z
  have c1:=layNew_perm t es (hashStr w x) (.str x tx);have c2:=layNew_fits t es (hashStr w x) (.str x tx);have c3:=ze t es (hashStr w x) (.str x tx);have hL:∃L,layNew t es (hashStr w x) (.str x tx)=L:=⟨_,rfl⟩
  obtain⟨⟨es1,t1,wd,gv⟩,hL⟩:=hL;rw[hL]at c1 c2 c3;rw[hL];dsimp only at c1 c2 c3 ⊢;rw[Array.toList_push]at c1;have sz1:es1.size=es.size+1:=by rw[<-Yz,c1.length_eq,Yu,Yz];rfl
  refine Ya (gw _ _ _ ?_);have hl1:w.params.followText "set-order"=false->t1.led=true:=fun z=>c3.trans (K.led z)
  have i1:∀e∈es1.toList,∃x tk,e=(hashStr w x,Value.str x tk):=fun e he=>by
   rcases ZC.mp (c1.mem_iff.mp he)with z|z
   ·exact K.its e z
   ·exact⟨x,tx,YU.mp z⟩
  have d1:(es1.toList.map enD).Perm (aO (ds++[.str x])):=by rw[dw,if_neg hm];refine(c1.map enD).trans ?_;rw[Zq];exact p.append (Zw _)
  have tail:∀t2:SetTable,t2.fits es1.size=true->t2.plain=false->t2.led=t1.led->wpAny (model prog w) A (do
    storeSet a es1 t2
    if(!wd&&t2.tooFull)=true then do
      (match(relayAll t2 es1 (SetTable.grown es1.size)).2.2 with|true=>rule "set.scan.the-table-gave-way" |false=>pure ())
      storeSet a (relayAll t2 es1 (SetTable.grown es1.size)).1 (relayAll t2 es1 (SetTable.grown es1.size)).2.1
      pure (some true)
     else pure (some true)) (fun r s'=>wpAny (model prog w) A (match r with|some added=>pure added|none=>setAddHashedIn a (.str x tx) (hashStr w x) 99999) Q E s') E {s with toks:=s.toks+1}:=by
   intro t2 f2 pl2 ld2;refine Ya (Vf (s:={s with toks:=s.toks+1}) k1 k3 ?_ (by rw[sz1];show es.size+1<=2^24;omega));have g1:=pC k1 k3 es1 t2;have off1:∀c,c≠a->(s.heap.update a (Obj.putSet es1 t2)).get? c=s.heap.get? c:=fun c hc=>YJ _ _ _ _ hc
   split
   ·have r1:=relayAll_perm t2 es1 (SetTable.grown es1.size);have r2:=relayAll_fits t2 es1 (SetTable.grown es1.size);have r3:=uo t2 es1 (SetTable.grown es1.size);generalize relayAll t2 es1 (SetTable.grown es1.size)=Rl at r1 r2 r3 ⊢;obtain⟨es2,t3,gv2⟩:=Rl;dsimp only at r1 r2 r3 ⊢;have sz2:es2.size=es1.size:=by rw[<-Yz,r1.length_eq,Yz]
    refine Ya (gw _ _ _ ?_);refine Ya (Vf (s:={s with heap:=s.heap.update a (Obj.putSet es1 t2),toks:=s.toks+1}) g1 rfl ?_ (by rw[sz2,sz1];show es.size+1<=2^24;omega));have g2:=pC g1 rfl es2 t3;refine Yg (Yg (q true _ (s.toks+1) (Xd _) ⟨es2,_,t3,⟨⟨_,g2,k2,rfl⟩,r2,fun z=>r3.1.trans (ld2.trans (hl1 z)),fun _=>r3.2 pl2,fun e he=>i1 e (r1.mem_iff.mp he),by omega⟩,(r1.map enD).trans d1⟩ fun c hc=>?_));exact(YJ _ _ _ _ hc).trans (off1 c hc)
   ·exact Yg (Yg (q true _ (s.toks+1) (Xd _) ⟨es1,_,t2,⟨⟨_,g1,k2,rfl⟩,f2,fun z=>ld2.trans (hl1 z),fun _=>pl2,i1,by omega⟩,d1⟩ off1))
  split
  ·refine Ya ?_;rw[Vo 8 (x:=.str x tx) rfl];refine Yg ?_;exact tail {t1 with plain:=false} (SetTable.fits_plain_off c2) rfl rfl
  ·rename_i hp1;refine Ya (Yg ?_);rw[if_pos rfl];exact tail t1 c2 (by cases z:t1.plain with|true=>exact absurd z hp1|false=>rfl) rfl
end
section
variable{prog:Program}{w:World}{A:Around}{R:Kr}{I:Addr}{fp wr:List Addr}{G:Array GenState->Array GenState->Prop}{n:Nat}{P:Nat->Value->Prop}{St:Nat->Shared->Prop}
theorem yr(W:WalksS prog w A.in1 I fp wr G n P St)(S:Addr)(hSf:S∉fp)(ds:List D)(hn:ds.length=n)(hn70:n<1000)(hval:∀i v,P i v->∃x tk,v=.str x tk/\ds[i]?=some (.str x)) :
  ∀(k i:Nat) (s:Shared),n-i=k->i<=n->St i s->TxHas w s.heap S (ds.take i)->
   (∀s',Moved (S::wr) G s s'->TxHas w s'.heap S ds->R (.ok (.ret .none)) s')->
   codeAny (model prog w) A (.builtin "set.update.loop" ⟨[.ref S,.ref I],[]⟩) R s:=by
 have hSw:S∉wr:=fun h=>hSf (W.sub _ h)
 have hsub:∀b∈wr,b∈S::wr:=fun b hb=>Yc _ hb
 intro k;induction k with
 |zero=>
  intro i s hk hi hst hS hR;have hin:i=n:=by omega
  subst hin;refine Zp Xr ?_;rw[ZK ZI _];show wpAny _ A.in1 (pyNext (.ref I)>>=_) _ _ s;refine Ya (W.done s _ _ hst fun s' hm=>?_);show wpAny _ A.in1 (ret Value.none) _ _ s';refine Yg (hR s' (hm.mono hsub) (TxHas.move ?_ fun o e=>hm.heap S o hSw e));rw[<-hn,Xv]at hS;exact hS
 |succ k ih=>
  intro i s hk hi hst hS hR;have hlt:i<n:=by omega
  refine Zp Xr ?_;rw[ZK ZI _];show wpAny _ A.in1 (pyNext (.ref I)>>=_) _ _ s;refine Ya (W.item i s _ _ hlt hst fun v s' hP hst' hm=>?_);obtain⟨x,tx,rfl,hd⟩:=hval i v hP;show wpAny _ A.in1 (holding [Value.str x tx] (setAdd S (.str x tx))>>=_) _ _ s';refine Ya (ZR (BN (hS.move fun o e=>hm.heap S o hSw e) (by rw[ZN];omega) fun b h' tk htk hS2 off=>?_));have et:ds.take i++[.str x]=ds.take (i+1):=by rw[XF,hd];rfl
  rw[et]at hS2;refine Yg ⟨Vy ZI _,ih (i+1) _ (by omega) hlt (W.frame _ s' _ _ hst' htk fun b hb o e=>?_) hS2 fun s'' hm'' hS''=>?_⟩
  ·rw[off b (fun h:b=S=>hSf (by rw[<-h];exact hb))];exact e
  ·refine hR s'' (Moved.trans W.gtrans ((hm.mono hsub).then_heap htk fun b o hb e=>?_) hm'') hS'';rw[off b (fun h:b=S=>hb (by rw[h];exact Ye))];exact e
end
theorem TxHas.fresh{w:World}{h:Heap}{a:Addr}{ds:List D}(hget:h.get? a=some (eT w)):TxHas w h a (ds.take 0):=by refine⟨#[],0,.fresh 0 0 (!w.params.followText "set-order"),⟨⟨_,hget,⟨rfl,rfl,rfl⟩,rfl⟩,rfl,fun z=>?_,fun z=>absurd rfl z,fun e he=>(nomatch he),YF _⟩,Zw _⟩;show(!w.params.followText "set-order")=true;rw[z];rfl
section
variable{prog:Program}{w:World}{A:Around}{E:Kv}{s:Shared}
theorem jW{l:Addr}{items:Array Value}{ds:List D}{Q:Kv}(nh:A.handled=none)(hl:s.heap.IsList l items)(hi:∀(i:Nat) v,items[i]?=some v->∃x tk,v=.str x tk/\ds[i]?=some (.str x))(hlen:ds.length=items.size)(hb:items.size<1000)
  (q:∀h' tk,TxHas w h' s.heap.objs.size ds->(∀b o,s.heap.get? b=some o->h'.get? b=some o)->Q (.ref s.heap.objs.size) {s with heap:=h',toks:=tk}):wpAny (model prog w) A (call (.type "set") [.ref l]) Q E s:=by
 refine gr (Z:=fun h'=>TxHas w h' s.heap.objs.size ds) hl (fun R hR=>?_) q;obtain⟨ol,hol,_⟩:=id hl;have hlS:l<s.heap.objs.size:=Yp hol;have hsz:(s.heap.push (eT w)).objs.size=s.heap.objs.size+1:=Xi ..;have hne:l≠(s.heap.push (eT w)).objs.size:=by rw[hsz];exact YA (Zi hlS)
 have hnew:∀b o,s.heap.get? b=some o->b∉s.heap.objs.size::[(s.heap.push (eT w)).objs.size]:=fun b o e=>by
  have:=Yp e;rw[hsz];simp only[Yr,YU,Xw,or_false,not_or];exact⟨YA this,YA (Zi this)⟩
 have hl2:((s.heap.push (eT w)).push (AK l)).IsList l items:=(hl.push _).push _;have nh3:A.in1.in1.in1.handled=none:=by simpa using nh
 refine yr ((Walks.list nh3 _ l hne items).toS) s.heap.objs.size (by rw[hsz];simp;exact ZM hlS) ds hlen hb hi (items.size-0) 0 _ (by omega) (YF _)
  ⟨⟨_,Ym _ rfl,rfl,rfl⟩,hl2⟩ (TxHas.fresh (Yh _ (Ym _ rfl))) fun s' hm hS=>?_
 obtain⟨h',g',d',tk',os'⟩:=s';have eg:g'=s.gens:=hm.gens;have ed:d'=s.drawn:=hm.drawn;have eo:os'=s.os:=hm.os;subst eg ed eo;exact hR h' tk' hS fun b o e=>hm.heap b o (hnew b o e) (Yh _ (Yh _ e))
end
theorem pY{M:Model}{A:Around}{E:Kv}{s:Shared}{src:Source}{n:Nat}(hn:n≠0){Q:Nat->Shared->Prop}(h:∀i d,i<n->Q i {s with drawn:=d}):wpAny M A (choose src n) Q E s:=
 fun Γ p hΓ=>⟨hn,h _ _ (VA _ (Nat.pos_of_ne_zero hn))⟩
theorem zj{M:Model}{A:Around}{E:Kv}{α:Type}:∀(n:Nat) (xs:List α) (s:Shared) (Q:List α->Shared->Prop),xs.length=n->(∀ys d,ys.Perm xs->Q ys {s with drawn:=d})->wpAny M A (drawOrder n xs) Q E s:=by
 intro n;induction n with
 |zero=>
  intro xs s Q hl h;obtain rfl:=YV.mp hl;exact Yg (h [] s.drawn (Zw _))
 |succ n ih=>
  intro xs s Q hl h;cases xs with
  |nil=>cases hl
  |cons x r=>
   unfold drawOrder;refine Ya (pY (by simp) fun i d hi=>?_);have hg:(x::r)[i]?=some (x::r)[i]:=Yf hi;rw[hg];dsimp only;refine Ya (ih ((x::r).eraseIdx i) _ _ (by rw[List.length_eraseIdx_of_lt hi];simpa using hl) fun ys d' p=>?_);refine Yg (h _ d' ?_);refine(List.Perm.cons _ p).trans ?_;rw[Vg];have e:=Vp i (x::r);refine List.Perm.trans ?_ (List.Perm.of_eq e);rw[Xj hi];exact List.perm_middle.symm
def wn(h:Heap)(I S T:Addr)(ord:List Nat)(i n ep:Nat):Prop:=(∃o,h.get? I=some o/\o.cls=.type "set_iterator"/\o.data=.fields #[.ref T,.int i 0,.ref S,.int n 0,.int ep 0])/\∃o c,h.get? T=some o/\o.data=.seq (ord.map fun(j:Nat)=>rawInt (j:Int)).toArray c
def hV(es:Ka)(ord:List Nat):List (Int×Value):=ord.filterMap fun j=>es[j]?
theorem wv{es:Ka}{ord:List Nat}(p:ord.Perm (List.range es.size))(i:Nat):(hV es ord)[i]?=(ord[i]?).bind fun j=>es[j]?:=by
 unfold hV;have:∀l:List Nat,(∀k∈l,k<es.size)->∀i:Nat,(l.filterMap fun j=>es[j]?)[i]?=(l[i]?).bind fun j=>es[j]?:=by
  intro l;induction l with
  |nil=>intro _ i;rfl
  |cons k l ih=>
   intro h i;have hk0:k<es.size:=h k Ye;have hk:es[k]?=some es[k]:=Yq hk0;rw[XQ hk];cases i with
   |zero=>simp[hk]
   |succ i=>simpa using ih (fun j hj=>h j (Yc _ hj)) i
 exact this ord (fun k hk=>by simpa using p.mem_iff.mp hk) i
theorem gZ{es:Ka}{ord:List Nat}(p:ord.Perm (List.range es.size)):(hV es ord).Perm es.toList:=by
 have z:=p.filterMap fun j=>es[j]?
 rw[filterMap_getElem?_range]at z;exact z
section
variable{prog:Program}{w:World}{A:Around}{E:Kv}{s:Shared}
variable{S I T:Addr}{es:Ka}{ep:Nat}{t:SetTable}{ord:List Nat}
theorem TxAt.state(K:TxAt w s.heap S es ep t){Q:(Array (Int×Value)×Nat×SetTable)->Shared->Prop}(h:Q (es,ep,t) s):wpAny (model prog w) A (setState S) Q E s:=by obtain⟨o,h1,h2,h3⟩:=K.obj;exact Ve h1 h3 K.fits h
theorem TxAt.entries(K:TxAt w s.heap S es ep t){Q:Array (Int×Value)->Shared->Prop}(h:Q es s):wpAny (model prog w) A (setEntries S) Q E s:=by unfold setEntries;exact Ya (K.state (Yg h))
theorem TxAt.epoch(K:TxAt w s.heap S es ep t){Q:Nat->Shared->Prop}(h:Q ep s):wpAny (model prog w) A (setEpoch S) Q E s:=by unfold setEpoch;exact Ya (K.state (Yg h))
theorem ro(K:TxAt w s.heap S es ep t)(hb:w.params.followText "set-order"=false)(h2:1<es.size){Q:Kv}
  (q:∀ord d h',ord.Perm (List.range es.size)->(∀b o,s.heap.get? b=some o->h'.get? b=some o)->wn h' (s.heap.objs.size+1) S s.heap.objs.size ord 0 es.size ep->Q (.ref (s.heap.objs.size+1)) {s with heap:=h',drawn:=d}):wpAny (model prog w) A (pyIter (.ref S)) Q E s:=by
 obtain⟨o,h1,⟨hc,_,_⟩,h3⟩:=id K.obj;have hT:s.TypeIs (.ref S) "set":=⟨o,h1,hc⟩
 refine Vh hT VH (Zx VH hT gD ?_ (F.args_set_iter_1 _));unfold Builtin.«frozenset.__iter__»;refine Ya (Ya (m:=slotArgs _ _ _) (Yg (Yg ?_)));refine Ya (Ya (K.entries (Yg ?_)));refine Ya ?_;unfold setDrawn;refine Ya (K.state ?_);refine Ya (iT (Yg ?_));have hd:(!w.params.followText "set-order"&&(!t.plain&&decide (es.size > 1)))=true:=by rw[hb,K.plain (by omega),YK h2];rfl
 show wpAny _ _ (if(!w.params.followText "set-order"&&(!t.plain&&decide (es.size > 1)))=true then _ else _) _ _ s;rw[hd,if_pos rfl];refine Ya (zj es.size (List.range es.size) _ _ (YZ) fun ord d p=>?_);have hl:ord.length=es.size:=by rw[p.length_eq,YZ]
 refine Ya (wpAny_newTuple (items:=ord.map fun(j:Nat)=>rawInt (j:Int)) ?_ (by rw[Yd,hl];have:=K.small;rw[YR];omega));refine Ya ((K.at (h':=s.heap.push _) fun o e=>Yh _ e).epoch (s:={s with heap:=s.heap.push _,drawn:=d}) ?_);refine Ya (Xc (Yg ⟨_,rfl,"set_iterator",_,⟨_,Ym _ rfl,rfl⟩,bg.lookup,?_⟩));have hz:(s.heap.push {cls:=.type "tuple",data:=.seq (ord.map fun(j:Nat)=>rawInt (j:Int)).toArray}).objs.size=s.heap.objs.size+1:=Xi ..;have z:=q ord d _ p (fun b o e=>Yh _ (Yh _ e)) ⟨⟨{cls:=.type "set_iterator",data:=.fields #[.ref s.heap.objs.size,.int 0 0,.ref S,.int es.size 0,.int ep 0]},by rw[<-hz];exact Ym _ rfl,rfl,rfl⟩,⟨_,_,Yh _ (Ym _ rfl),rfl⟩⟩;rw[<-hz]at z;exact z
theorem xI{i:Nat}(hit:wn s.heap I S T ord i es.size ep)(K:TxAt w s.heap S es ep t)(p:ord.Perm (List.range es.size))(hIT:T≠I){e:Int×Value}(he:(hV es ord)[i]?=some e){Q:Ko}
  (q:∀h',wn h' I S T ord (i+1) es.size ep->(∀b,b≠I->h'.get? b=s.heap.get? b)->Q (some e.2) {s with heap:=h' }) :
  wpAny (model prog w) A (pyNext (.ref I)) Q E s:=by
 obtain⟨⟨o,ho,hc,hd⟩,oT,cT,hoT,hdT⟩:=id hit;have hT:s.TypeIs (.ref I) "set_iterator":=⟨o,ho,hc⟩
 rw[wv p]at he;cases hj:ord[i]? with
 |none=>rw[hj]at he;cases he
 |some j=>
 rw[hj]at he;have he':es[j]?=some e:=he;unfold pyNext;refine Ya (wpAny_attempt (Xs (name:=Str.ofString "__next__") hT bg (Zx bg hT cX ?_ (dn _))));unfold Builtin.«set_iterator.__next__»;refine Ya (Yg ?_);refine Ya (wpAny_fieldsOf ho hd ?_);show wpAny _ _ (setEntries S>>=_) _ _ s;refine Ya (K.entries ?_);rw[if_neg (by simp)];show wpAny _ _ (seqItems? (.ref T)>>=_) _ _ s;refine Ya (Vl hoT hdT ?_);have hp:(ord.map fun(j:Nat)=>rawInt (j:Int)).toArray[((i:Int)).toNat]?=some (rawInt (j:Int)):=by rw[YQ];simp[hj]
 show wpAny _ _ (match(ord.map fun(j:Nat)=>rawInt (j:Int)).toArray[((i:Int)).toNat]? with|_=>_) _ _ s;rw[hp];show wpAny _ _ (setNextDrawn S ((j:Int).toNat) ((ep:Int).toNat)>>=_) _ _ s;rw[YQ,YQ];unfold setNextDrawn;refine Ya (Ya (K.state ?_));dsimp only;rw[if_neg (by simp)];rw[he'];refine Yg ?_;refine Ya (XI ho hd (by simp) ?_);have ho3:=YX (Obj.mapFields (·.setIfInBounds 1 (rawInt ((i:Int)+1)))) ho (XB (ZJ hd _));have hd3:=ZJ hd (·.setIfInBounds 1 (rawInt ((i:Int)+1)));refine Yg ⟨_,rfl,Yg (q _ ⟨⟨_,ho3,?_,?_⟩,oT,cT,?_,hdT⟩ fun b hb=>?_)⟩
 ·rw[Obj.cls_mapFields];exact hc
 ·rw[hd3];simp[rawInt]
 ·rw[YJ _ _ _ _ hIT];exact hoT
 ·rw[YJ _ _ _ _ hb]
theorem yA{i:Nat}(nh:A.handled=none)(hit:wn s.heap I S T ord i es.size ep)(K:TxAt w s.heap S es ep t)(hi:ord.length<=i){Q:Ko}
  (q:∀h',(∀b o,b≠I->s.heap.get? b=some o->h'.get? b=some o)->Q none {s with heap:=h' }):wpAny (model prog w) A (pyNext (.ref I)) Q E s:=by
 obtain⟨⟨o,ho,hc,hd⟩,oT,cT,hoT,hdT⟩:=id hit;have hT:s.TypeIs (.ref I) "set_iterator":=⟨o,ho,hc⟩
 unfold pyNext;refine Ya (wpAny_attempt (Xs (name:=Str.ofString "__next__") hT bg (Zx bg hT cX ?_ (dn _))));unfold Builtin.«set_iterator.__next__»;refine Ya (Yg ?_);refine Ya (wpAny_fieldsOf ho hd ?_);show wpAny _ _ (setEntries S>>=_) _ _ s;refine Ya (K.entries ?_);rw[if_neg (by simp)];show wpAny _ _ (seqItems? (.ref T)>>=_) _ _ s;refine Ya (Vl hoT hdT ?_);have hp:(ord.map fun(j:Nat)=>rawInt (j:Int)).toArray[((i:Int)).toNat]?=none:=by rw[YQ];simp[hi]
 show wpAny _ _ (match(ord.map fun(j:Nat)=>rawInt (j:Int)).toArray[((i:Int)).toNat]? with|_=>_) _ _ s;rw[hp];show wpAny _ _ (setField (.ref I) 0 (rawInt 0)>>=_) _ _ s;refine Ya (XI ho hd (by simp) ?_);have ho2:=YX (Obj.mapFields (·.setIfInBounds 0 (rawInt 0))) ho (XB (ZJ hd _));have hd2:=ZJ hd (·.setIfInBounds 0 (rawInt 0));refine Ya (XI ho2 hd2 (by simp) ?_);show wpAny _ _ (newExc (.type "StopIteration") []>>=_) _ _ _;refine Ya ?_;simp only[newExc,newTuple];refine Ya (Xc (Ya (m:=firstArgMember _ _) (wpAny_of_eq (a:=Value.none) (by first|rfl|(simp only[firstArgMember];rfl)) ?_)) (by size_fits));refine Xc ?_ (by size_fits);simp only[raiseNew];refine Ya (wpAny_handled ?_);rw[show A.in1.handled=none from nh];refine Ya (Yg (wpAny_throw ?_));refine Ya (XJ (b:=true) (T := "StopIteration") ⟨_,Ym _ rfl,rfl⟩ i6 ?_);refine Yg (q _ fun b o hb e=>?_);refine Yh _ (Yh _ ?_);rw[YJ _ _ _ _ hb,YJ _ _ _ _ hb];exact e
theorem wj(nh:A.handled=none)(p:ord.Perm (List.range es.size))(hS:S≠I)(hIT:T≠I):Walks prog w A I [I,S,T] [I] es.size (fun i v=>∃e,(hV es ord)[i]?=some e/\v=e.2)
  (fun i h=>wn h I S T ord i es.size ep/\TxAt w h S es ep t) where
 sub:=fun b hb=>by simp at hb;simp[hb]
 frame:=fun i h h' st hk=>by
  obtain⟨⟨⟨o,h1,h2,h3⟩,oT,cT,h4,h5⟩,K⟩:=st;exact⟨⟨⟨o,hk I (by simp) o h1,h2,h3⟩,oT,cT,hk T (by simp) oT h4,h5⟩,K.at fun o e=>hk S (by simp) o e⟩
 item:=fun i s Q E hi st hQ=>by
  obtain⟨hit,K⟩:=st;have hl:(hV es ord).length=es.size:=by rw[(gZ p).length_eq,Yz]
  have he:(hV es ord)[i]?=some (hV es ord)[i]:=Yf (by rw[hl];exact hi);refine xI hit K p hIT he fun h' hit' hk=>?_;exact hQ _ h' s.toks ⟨_,he,rfl⟩ ⟨hit',K.at fun o e=>(hk S hS).trans e⟩ fun b o hb e=>(hk b (fun z=>hb (by simp[z]))).trans e
 done:=fun s Q E st hQ=>by
  obtain⟨hit,K⟩:=st;refine yA nh hit K (by rw[p.length_eq,YZ];exact Yl _) fun h' hk=>?_;exact hQ h' s.toks fun b o hb e=>hk b o (fun z=>hb (by simp[z])) e
 self:=fun i s Q E st hQ=>by
  obtain⟨⟨⟨o,h1,h2,h3⟩,_⟩,K⟩:=st;have hT:s.TypeIs (.ref I) "set_iterator":=⟨o,h1,h2⟩
  refine Vh hT dm (Zx dm hT fM ?_ (gF _));show wpAny _ _ (ret (.ref I)) _ _ s;exact Yg ⟨_,rfl,"set_iterator",_,hT,bg.lookup,hQ⟩
end
section
variable{prog:Program}{w:World}{A:Around}{E:Kv}{s:Shared}
variable{S I T:Addr}{es:Ka}{ep:Nat}{t:SetTable}
theorem pd{ord:List Nat}{acc:Array Value}(p:ord.Perm (List.range es.size))(h:ItemsOf (fun i v=>∃e,(hV es ord)[i]?=some e/\v=e.2) acc es.size):acc.toList=(hV es ord).map (·.2):=by
 obtain⟨h1,h2⟩:=h;have hl:(hV es ord).length=es.size:=by rw[(gZ p).length_eq,Yz]
 apply ZO;intro i;rw[YN,Ys];by_cases hi:i<acc.size
 ·have e:=Yq hi;obtain⟨x,q1,q2⟩:=h2 i _ e;rw[e,q1,q2];rfl
 ·rw[Xy (by omega),YS (by omega)];rfl
theorem zt(K:TxAt w s.heap S es ep t){Q:Kb}(h:Q false s):wpAny (model prog w) A (Builtin.List.listLengthHint (.ref S)) Q E s:=by
 obtain⟨o,h1,⟨h2,_,_⟩,h3⟩:=id K.obj;have hT:s.TypeIs (.ref S) "set":=⟨o,h1,h2⟩
 unfold Builtin.List.listLengthHint;refine Ya (XA hT F.slot_set_len.lookup ?_);generalize hid:("set.__len__":String)=id0
 wp_delta
 rw[show splitId id0=some ("set","__len__")from by subst hid;decide+kernel];subst hid;refine Ya (XJ (T := "set") (b:=true) hT sub_set_self ?_);refine XC (fun z=>absurd z (by decide)) (fun _=>?_);refine XC (fun _=>?_) (fun z=>absurd (by decide+kernel) z);refine Ya (Vn hT ?_);exact Yg h
theorem mH{R:Kr}{L:Addr}{res:Value}{c₀:Nat}(nh:A.handled=none)(K:TxAt w s.heap S es ep t)(hb:w.params.followText "set-order"=false)(h2:1<es.size)(hLS:L≠S)(hL:s.heap.get? L=some {cls:=.type "list",data:=.seq #[] c₀})
  (hR:∀ord h' d tk acc' c',ord.Perm (List.range es.size)->(∀b o,b≠L->s.heap.get? b=some o->h'.get? b=some o)->h'.get? L=some {cls:=.type "list",dict:=none,data:=.seq acc' c',slots:=#[]}->acc'.toList=(hV es ord).map (·.2)->R (.ok (.ret res)) {s with heap:=h',drawn:=d,toks:=tk}) :
  wpAny (model prog w) A.in1 (Builtin.List.listExtendWith (.ref L) (.ref S) res)
   (fun fin s'=>match fin with|.done f=>R (.ok f) s'|.again c'=>c'.quiet=true/\codeAny (model prog w) A c' R s') (fun e s'=>R (.error e) s') s:=by
 obtain⟨o,h1,⟨hc,_,_⟩,h3⟩:=id K.obj;have hT:s.TypeIs (.ref S) "set":=⟨o,h1,hc⟩
 have hl:es.size<=sizeLine:=by have:=K.small;rw[YR];omega
 unfold Builtin.List.listExtendWith;refine Ya (Vn hT ?_);have g1:Builtin.List.listSameRef (.ref L) (.ref S)=false:=by simp[Builtin.List.listSameRef,hLS]
 have g2:(Value.type "set" == Value.type "list")=false:=by decide
 have g3:(Value.type "set" == Value.type "tuple")=false:=by decide
 simp only[g1,g2,g3,Bool.or_false,ZE,Vk];refine Ya (ro K hb h2 fun ord d hp1 p k1 hit=>?_);have hSlt:S<s.heap.objs.size:=Yp h1;have hLlt:L<s.heap.objs.size:=Yp hL;have K1:TxAt w hp1 S es ep t:=K.at fun o e=>k1 S o e
 have hL1:hp1.get? L=some {cls:=.type "list",data:=.seq #[] c₀}:=k1 L _ hL;refine Ya (ZR (zt (s:={s with heap:=hp1,drawn:=d}) K1 ?_));refine XC (fun _=>?_) (fun z=>absurd (by decide+kernel) z);refine Ya (wpAny_rule (Ya ?_));show wpAny _ _ (updateSeq L (·.push .none)>>=fun _=>updateSeq L (·.pop)) _ _ _;refine Ya (VI hL1 rfl ?_);have hL2:=YX (Obj.mapSeq (·.push Value.none)) hL1 rfl;refine VI (hz:=by seq_fits) hL2 rfl ?_;have hL3:=YX (Obj.mapSeq (·.pop)) hL2 rfl;have oth:∀b,b≠L->((hp1.update L (Obj.mapSeq (·.push Value.none))).update L (Obj.mapSeq (·.pop))).get? b=hp1.get? b:=fun b hb=>by
  rw[YJ _ _ _ _ hb,YJ _ _ _ _ hb]
 have hIL:s.heap.objs.size+1≠L:=ZM (Zi hLlt);have hTL:s.heap.objs.size≠L:=ZM hLlt;refine Yg ⟨Vy F.plain_extend_loop _,?_⟩;have W:=(wj (prog:=prog) (w:=w) (A:=A.in1) (S:=S) (I:=s.heap.objs.size+1) (T:=s.heap.objs.size) (es:=es) (ep:=ep) (t:=t) (ord:=ord) (by simpa using nh) p (YA (Zi hSlt)) (YA (ZX _))).toS;refine codeAny_extend_loopS W hl L (by simp[XM hIL,XM hTL,hLS]) res es.size 0 _ #[] _ (Nat.sub_zero _) (YF _) ⟨?_,K1.at fun o e=>(oth S (XM hLS)).trans e⟩ hL3 (ItemsOf.nil _) fun s' acc' c' hm hS' hacc=>?_
 ·obtain⟨⟨o',q1,q2,q3⟩,oT,cT,q4,q5⟩:=hit;exact⟨⟨o',(oth _ hIL).trans q1,q2,q3⟩,oT,cT,(oth _ hTL).trans q4,q5⟩
 ·rw[Moved.eq_with hm];refine hR ord s'.heap d s'.toks acc' c' p (fun b o hb e=>hm.heap b o (fun z=>?_) ((oth b hb).trans (k1 b o e))) hS' (pd p hacc);rcases Yr.mp z with z|z
  ·exact hb z
  ·have z':b=s.heap.objs.size+1:=by simpa using z
   have hlt:=Yp e;rw[z']at hlt;exact absurd (Xg (ZX _) hlt) (Zd _)
theorem kA(nh:A.handled=none)(K:TxAt w s.heap S es ep t)(hb:w.params.followText "set-order"=false)(h2:1<es.size){Q:Kl}
  (q:∀ord h' d tk,ord.Perm (List.range es.size)->(∀b o,s.heap.get? b=some o->h'.get? b=some o)->Q ((hV es ord).map (·.2)) {s with heap:=h',drawn:=d,toks:=tk}):wpAny (model prog w) A (collect (.ref S)) Q E s:=by
 obtain⟨o,h1,_,h3⟩:=id K.obj;have hlt:S<s.heap.objs.size:=Yp h1;unfold collect;refine Ya (wpAny_runValue (Zp entry_proto_collect' ?_));refine Ya (m:=newList []) (Vx (Yg ⟨XU _ (by decide+kernel),Zp entry_list_iadd' ?_⟩));rw[ZK (show plainId "list.__iadd__"=true by decide+kernel) ⟨[.ref s.heap.objs.size,.ref S],[]⟩];refine mH (R:=fun r s'=>match r with
  |Except.ok (Flow.ret v)=>wpAny (model prog w) A (match v with
   |Value.ref a=>(load a>>=fun o=>match o.data with
    |Data.seq xs _=>pure xs.toList
    |_=>unsupported "internal:collect")
   |_=>unsupported "internal:collect") Q E s'
  |Except.ok _=>False
  |Except.error e=>E e s') (s:={s with heap:=s.heap.push (seqObj "list" #[] 0)}) (A:=A) (L:=s.heap.objs.size) (res:=.ref s.heap.objs.size) (c₀:=0) ?_ (K.at fun o e=>Yh _ e) hb h2 (ZM hlt) (Ym _ rfl) fun ord h' d tk acc' c' p hk hL' hacc=>?_
 ·simpa using nh
 ·refine Ya (wpAny_load hL' ?_);show wpAny _ _ (pure acc'.toList) _ _ _;rw[hacc];exact Yg (q ord h' d tk p fun b o e=>hk b o (YA (Yp e)) (Yh _ e))
end
theorem Inv.keptD{X:Cx}{pz:Kp}{σ:List (Option V)}{H:Hp}{s:Shared}{h':Heap}{d':Drawn}{t':Nat}(I:Inv X pz σ H s)(k:∀b u,s.heap.get? b=some u->h'.get? b=some u):Inv X pz σ H {s with heap:=h',drawn:=d',toks:=t' }:=by refine I.step (g':=s.gens) (d':=d') (ch:=[]) (fun _ z=>nomatch z) (fun b o _ _ _ e _=>k b o e) (fun b o _ _ _ e _=>⟨o.slots,k b o e⟩) (fun _ _ _ _ n=>n) (fun b o _ e=>⟨o,k b o e⟩) (fun _ _ e=>e) (fun _ _ _ e=>e) (fun b ps e=>⟨#[],by rw[e];simp⟩) (fun m hm=>?_) (I.hok.kept k) I.bare;obtain⟨o,es,ep,ho,r⟩:=hm;exact⟨o,es,ep,k _ o ho,r⟩
theorem TxAt.plainly{w:World}{h:Heap}{a:Addr}{es:Ka}{ep:Nat}{t:SetTable}(K:TxAt w h a es ep t)(hz:w.params.followText "set-order"=true\/es.size<=1):SObj w h a es ep t:=by
 obtain⟨o,h1,⟨h2,_,_⟩,h3⟩:=K.obj;have hf:=K.fits;simp only[SetTable.fits,Yo,Vz,YE]at hf;refine⟨⟨o,h1,h2,h3⟩,K.fits,hf.1,fun z=>⟨fun i j hi hj hij=>?_⟩,K.led,fun z=>?_⟩
 ·rcases hz with y|y
  ·rw[y]at z;cases z
  ·omega
 ·rcases hz with y|y
  ·rw[y]at z;cases z
  ·rw[YB (by omega),Bool.and_false]
end L2
namespace L2
open PySem PySem.Spec PyProof.Rows PySem.W PySem.SetTable
def pV(w:World)(a:Addr)(vs:List V):Heap->Prop:=fun h=>∃es ep t,(SObj w h a es ep t\/(TxAt w h a es ep t/\w.params.followText "set-order"=false/\1<es.size))/\es.size<=76/\Vals vs (es.toList.map (·.2))
def cx(ds:List D):Bool:=decide (ds.length<70)&&ds.all jB
theorem kK{ds:List D}(h:cx ds=true):ds.length<70/\∀d∈ds,jB d=true:=by unfold cx at h;rw[Yo,YE]at h;exact⟨h.1,fun d m=>Yi.mp h.2 d m⟩
def EJ:D->Bool
 |.str _=>true
 |_=>false
def b_(ds:List D):Bool:=decide (ds.length<70)&&ds.all EJ
theorem jV{ds:List D}(h:b_ ds=true):ds.length<70/\∀d∈ds,∃x,d=.str x:=by
 unfold b_ at h;rw[Yo,YE]at h;refine⟨h.1,fun d m=>?_⟩;have z:=Yi.mp h.2 d m;cases d with
 |str x=>exact⟨x,rfl⟩
 |_=>cases z
theorem lr{K:Kq}{H:Hp}:∀(us:List Value) (ds:List D),us.length=ds.length->(∀(i:Nat) u d,us[i]?=some u->ds[i]?=some d->∃x,RelV x u/\Rep K H x d)->∃vs,Vals vs us/\Reps K H vs ds:=by
 intro us;induction us with
 |nil=>
  intro ds hl _;obtain rfl:ds=[]:=YV.mp hl.symm;exact⟨[],.nil,.nil⟩
 |cons u us ih=>
  intro ds hl h;cases ds with
  |nil=>cases hl
  |cons d ds=>
   obtain⟨x,h1,h2⟩:=h 0 u d rfl rfl;obtain⟨vs,h3,h4⟩:=ih ds (Vq hl) fun i u' d' e1 e2=>h (i+1) u' d' e1 e2
   exact⟨x::vs,.cons h1 h3,.cons h2 h4⟩
theorem uI{K:Kq}{H:Hp}{us us0:List Value}(p:us.Perm us0):∀{vs:List V}{ds:List D},Vals vs us0->Reps K H vs ds->∃vs2 ds2,Vals vs2 us/\Reps K H vs2 ds2/\ds2.Perm ds:=by
 induction p with
 |nil=>
  intro vs ds r1 r2;exact⟨vs,ds,r1,r2,Zw _⟩
 |cons x _ ih=>
  intro vs ds r1 r2;cases r1 with
  |cons a1 a2=>
   cases r2 with
   |cons b1 b2=>
    obtain⟨vs2,ds2,h1,h2,h3⟩:=ih a2 b2;exact⟨_,_,.cons a1 h1,.cons b1 h2,h3.cons _⟩
 |swap x y l=>
  intro vs ds r1 r2;cases r1 with
  |cons a1 a2=>
   cases a2 with
   |cons a2 a3=>
    cases r2 with
    |cons b1 b2=>
     cases b2 with
     |cons b2 b3=>exact⟨_,_,.cons a2 (.cons a1 a3),.cons b2 (.cons b1 b3),List.Perm.swap _ _ _⟩
 |trans _ _ ih1 ih2=>
  intro vs ds r1 r2;obtain⟨vs2,ds2,h1,h2,h3⟩:=ih2 r1 r2;obtain⟨vs3,ds3,h4,h5,h6⟩:=ih1 h1 h2;exact⟨vs3,ds3,h4,h5,h6.trans h3⟩
theorem ja{α:Type}{p:α->Bool}{as bs:List α}(h:as.Perm bs)(hb:bs.all p=true):as.all p=true:=Yi.mpr fun x m=>Yi.mp hb x (h.mem_iff.mp m)
theorem iE{as bs:List D}(h:as.Perm bs)(ok:bh bs=true):bh as=true:=by unfold bh at ok ⊢;simp only[Yo,YE]at ok ⊢;obtain⟨⟨⟨⟨h1,h2⟩,h3⟩,h4⟩,h5⟩:=ok;refine⟨⟨⟨⟨by rw[h.length_eq];exact h1,ja h h2⟩,?_⟩,ja h h4⟩,ja h h5⟩;refine Yi.mpr fun x hx=>Yi.mpr fun y hy=>?_;exact Yi.mp (Yi.mp h3 x (h.mem_iff.mp hx)) y (h.mem_iff.mp hy)
section
variable{X:Cx}
theorem tW(hu:X.A.units+80<cLine)(hcalm:X.calm=true):CallR X (.type "set") (fun xs H Q=>∃l vs ds F0,xs=[.ref l]/\SqL X.K H l vs/\Same F0 H/\Reps X.K F0 vs ds/\cx ds=true /\
  ∀a vs' ds',H a=none->ds'.Perm (aO ds)->Reps X.K F0 vs' ds'->Q (.ref a) (upd H a (.ext (pV X.w a vs')))):=by
 intro pz s σ H xs us Q I r h;obtain⟨l,vs,ds,F0,rfl,hq,hF,hr,ok,q⟩:=h;obtain⟨u,rfl,ru⟩:=dI r;cases ru;obtain⟨hlen,hk⟩:=kK ok;obtain⟨its,rv,pl,hz⟩:=I.list hq;have l1:=rv.length;have l2:=hr.length;refine kG (Pv:=fun v d=>∃x,RelV x v/\Rep X.K F0 x d) (ds:=ds) (I.ok.hd hcalm) pl.isList (fun i v hv=>?_) (by simp;omega) (by simp;omega) hu fun h' tk S kp=>?_
 ·have hv':its[i]?=some v:=by simpa using hv
  have hi:i<vs.length:=by rw[l1];exact(Yn.mp hv').1
  obtain⟨u',e1,e2⟩:=rv.get (Yf hi);rw[hv']at e1;cases e1;obtain⟨d,e3,e4⟩:=hr.getV (Yf hi);have kd:=hk d (YD e3);exact⟨d,e3,⟨kd,Rep.reads I 8 (e4.same hF) (bz kd).2.1 e2⟩,_,e2,e4⟩
 ·obtain⟨ds',⟨es,t,S,sz,ld⟩,p⟩:=S;obtain⟨vs',h1,h2⟩:=lr (K:=X.K) (H:=F0) (es.toList.map (·.2)) ds' (by rw[Yd,Yz,S.len]) fun i u d e1 e2=>by
   rw[Ys,YN]at e1;cases z:es[i]? with
   |none=>rw[z]at e1;cases e1
   |some e=>rw[z]at e1;cases e1;exact S.pv i e d z e2
  obtain⟨o,ep,g1,g2,g3⟩:=S.obj;have K:SObj X.w h' s.heap.objs.size es ep t:=⟨⟨o,g1,g2.1,g3⟩,S.tab.fits S.siz,S.siz,fun _=>S.tab.rise,ld.1,fun _=>by rw[ld.2];rfl⟩
  have hsz:es.size<=76:=by rcases sz with⟨_,z⟩|⟨_,z⟩|⟨_,z⟩<;>omega
  refine⟨.ref s.heap.objs.size,_,I.laid (o:=.ext (pV X.w s.heap.objs.size vs')) (t':=tk) kp (Yl _) ⟨⟨es,ep,t,.inl K,hsz,h1⟩,⟨o,g1⟩,fun ha hb hφ hk'=>?_⟩,rfl,q _ vs' ds' (I.hok.fresh (Yl _)) p h2⟩;obtain⟨es',ep',t',K',z1,z2⟩:=hφ;rcases K' with K'|⟨K',y1,y2⟩
  ·exact⟨es',ep',t',.inl (K'.at hk'),z1,z2⟩
  ·exact⟨es',ep',t',.inr ⟨K'.at hk',y1,y2⟩,z1,z2⟩
theorem uv(hu:X.A.units+80<cLine)(hcalm:X.calm=true):CallR X (.type "set") (fun xs H Q=>∃l vs ds F0,xs=[.ref l]/\SqL X.K H l vs/\Same F0 H/\Reps X.K F0 vs ds/\b_ ds=true /\
  ∀a vs' ds',H a=none->ds'.Perm (aO ds)->Reps X.K F0 vs' ds'->Q (.ref a) (upd H a (.ext (pV X.w a vs')))):=by
 intro pz s σ H xs us Q I r h;obtain⟨l,vs,ds,F0,rfl,hq,hF,hr,ok,q⟩:=h;obtain⟨u,rfl,ru⟩:=dI r;cases ru;obtain⟨hlen,hk⟩:=jV ok;obtain⟨its,rv,pl,hz⟩:=I.list hq;have l1:=rv.length;have l2:=hr.length;refine jW (ds:=ds) (I.ok.hd hcalm) pl.isList (fun i v hv=>?_) (by simp;omega) (by simp;omega) fun h' tk S kp=>?_
 ·have hv':its[i]?=some v:=by simpa using hv
  have hi:i<vs.length:=by rw[l1];exact(Yn.mp hv').1
  obtain⟨u',e1,e2⟩:=rv.get (Yf hi);rw[hv']at e1;cases e1;obtain⟨d,e3,e4⟩:=hr.getV (Yf hi);obtain⟨x,rfl⟩:=hk d (YD e3);have e5:Rep X.K F0 vs[i] (.str x):=e4;generalize vs[i]=y at e2 e5;cases e5;obtain⟨tx,rfl⟩:=e2;exact⟨x,tx,rfl,e3⟩
 ·obtain⟨es,ep,t,K,p⟩:=S;obtain⟨vs',h1,h2⟩:=lr (K:=X.K) (H:=F0) (es.toList.map (·.2)) (es.toList.map enD) (by rw[Yd,Yd]) fun i u d e1 e2=>by
   rw[Ys]at e1 e2;cases z:es.toList[i]? with
   |none=>rw[z]at e1;cases e1
   |some e=>
    rw[z]at e1 e2;obtain⟨x,tx,rfl⟩:=K.its e (YD z);cases e1;cases e2;exact⟨.str x,⟨tx,rfl⟩,.str⟩
  obtain⟨o,g1,g2,g3⟩:=K.obj;have hsz:es.size<=76:=by have z:=p.length_eq;rw[Yd,Yz]at z;have:=db ds;omega
  have hK:SObj X.w h' s.heap.objs.size es ep t\/(TxAt X.w h' s.heap.objs.size es ep t/\X.w.params.followText "set-order"=false/\1<es.size):=by
   by_cases z:X.w.params.followText "set-order"=true\/es.size<=1
   ·exact .inl (K.plainly z)
   ·refine .inr ⟨K,?_,?_⟩
    ·cases y:X.w.params.followText "set-order" with
     |true=>exact absurd (.inl y) z
     |false=>rfl
    ·exact Nat.lt_of_not_le fun y=>z (.inr y)
  refine⟨.ref s.heap.objs.size,_,I.laid (o:=.ext (pV X.w s.heap.objs.size vs')) (t':=tk) kp (Yl _) ⟨⟨es,ep,t,hK,hsz,h1⟩,⟨o,g1⟩,fun ha hb hφ hk'=>?_⟩,rfl,q _ vs' _ (I.hok.fresh (Yl _)) p h2⟩;obtain⟨es',ep',t',K',z1,z2⟩:=hφ;rcases K' with K'|⟨K',y1,y2⟩
  ·exact⟨es',ep',t',.inl (K'.at hk'),z1,z2⟩
  ·exact⟨es',ep',t',.inr ⟨K'.at hk',y1,y2⟩,z1,z2⟩
theorem tP(hu:X.A.units+80<cLine)(hcalm:X.calm=true):CallR X (.type "set") (fun xs H Q=>∃l vs ds F0,xs=[.ref l]/\SqL X.K H l vs/\Same F0 H/\Reps X.K F0 vs ds/\(cx ds=true\/b_ ds=true) /\
  ∀a vs' ds',H a=none->ds'.Perm (aO ds)->Reps X.K F0 vs' ds'->Q (.ref a) (upd H a (.ext (pV X.w a vs')))):=by
 intro pz s σ H xs us Q I r h;obtain⟨l,vs,ds,F0,e1,e2,e3,e4,ok,e5⟩:=h;rcases ok with ok|ok
 ·exact tW hu hcalm pz s σ H xs us Q I r ⟨l,vs,ds,F0,e1,e2,e3,e4,ok,e5⟩
 ·exact uv hu hcalm pz s σ H xs us Q I r ⟨l,vs,ds,F0,e1,e2,e3,e4,ok,e5⟩
theorem ny(hu:X.A.units+64<cLine)(hcalm:X.calm=true):CallR X (.builtin "sorted") (fun xs H Q=>∃a vs ds F0,xs=[.ref a]/\H a=some (.ext (pV X.w a vs))/\Same F0 H/\Reps X.K F0 vs ds/\bh ds=true /\
  ∀l ws,H l=none->Reps X.K F0 ws (aP ds)->Q (.ref l) (upd H l (.lst ws))):=by
 intro pz s σ H xs us Q I r h;obtain⟨a,vs,ds,F0,rfl,hH,hF,hr,ok,q⟩:=h;obtain⟨u,rfl,ru⟩:=dI r;cases ru;obtain⟨⟨es,ep,t,KK,hsz,rv⟩,_⟩:=I.hok a _ hH;have fin:∀(us:List Value) (h':Heap) (d:Drawn) (tk:Nat),us.Perm (es.toList.map (·.2))->(∀b o,s.heap.get? b=some o->h'.get? b=some o)->iP X.prog X.w X.A (EP X pz σ Q) us {s with heap:=h',drawn:=d,toks:=tk}:=by
  intro us h' d tk p kp;obtain⟨vs2,ds2,h1,h2,h3⟩:=uI p rv hr;obtain⟨_,hc,_,_⟩:=cV ok;have es2:aP ds2=aP ds:=cU h3 hc;refine nE (I.keptD (d':=d) (t':=tk) kp) (h2.same hF) h1 (iE h3 ok) hu fun l pp s' hl b1 b2 b3 I'=>⟨.ref l,_,I',rfl,q l _ hl ?_⟩
  rw[<-es2];by_cases hn:ds2=[]
  ·subst hn;have:pp=[]:=YV.mp b2;rw[this];exact .nil
  ·rw[<-b3];exact h2.perm hn pp b1
 rcases KK with K|⟨K,hb,h2⟩
 ·exact fz (n0 (by have:=I.ok.hd hcalm;simpa using this) K (by rw[YR];omega) fun h' tk kp=>fin _ h' s.drawn tk ((lA X.w a ep es).map _) kp)
 ·exact fz (kA (by have:=I.ok.hd hcalm;simpa using this) K hb h2 fun ord h' d tk p kp=>fin _ h' d tk ((gZ p).map _) kp)
variable{e:Expr}{p p2 pos pos2:Pos}
noncomputable def gB (fa:Dd):DF->Option (List D):=fun ρ=>match fa ρ with
 |some (.lst ds)=>if(cx ds=true\/b_ ds=true)/\bh (aO ds)=true then some (aP (aO ds))else none
 |_=>none
theorem oM{fa:Dd}(hu:X.A.units+80<cLine)(hcalm:X.calm=true)(hg:Gl X "sorted")(hm:X.mg "sorted"=none)(hg2:Gl X "set")(hm2:X.mg "set"=none)(ha:PDR X e fa)
  (hs:starEach [e] X.env=[(false,eval e X.env)]:=by rfl) (hs2:starEach [.Call (.Name "set" p2) [e] [] pos2] X.env=[(false,eval (.Call (.Name "set" p2) [e] [] pos2) X.env)]:=by rfl)
  (hpl:(backTo pos (starEach [] X.env)).any (·.1)=false:=by rfl) (hpl2:(backTo pos2 (starEach [] X.env)).any (·.1)=false:=by rfl) :
  PDO X (.Call (.Name "sorted" p) [.Call (.Name "set" p2) [e] [] pos2] [] pos) (asL (gB fa)):=
 (dX (ny (by omega) hcalm) hg hm ip (ba (dZ (tP hu hcalm) hg2 hm2 xi (ba ha bK hs) (by decide) (by decide) hs hpl2) bK hs2) (by decide) (by decide) hs2 hpl).imp fun σ H Q=>un7 fun P F ρ ob hf I k=>by
  unfold asL gB at hf;cases ha:fa ρ with
  |none=>rw[ha]at hf;cases hf
  |some dx=>
  rw[ha]at hf;cases dx with
  |lst ds=>
   dsimp only at hf;split at hf
   ·rename_i ok;cases hf;refine⟨P,F,ρ,_,ha,I,fun x F1 H1 e1 rx=>?_⟩;have I1:=I.evo e1;obtain⟨l,vs,rfl,h1,h2⟩:=c7 I1 rx;refine⟨l,vs,ds,F1,rfl,h1,I1.sub,h2,ok.1,fun a vs' ds' na pm r'=>?_⟩;have e2:Evo P F1 H1 F1 (upd H1 a (.ext (pV X.w a vs'))):=Evo.side e1.hp na;obtain⟨_,hc,_,_⟩:=cV ok.2;refine⟨a,vs',ds',F1,rfl,aX,e2.hp.sub,r',iE pm ok.2,fun l2 ws nl rw'=>?_⟩;rw[cU pm hc]at rw';exact k l2 F1 _ ((e1.trans e2).trans (Evo.side e2.hp nl)) ⟨⟨(e1.trans e2).back I.toDHp nl,(e2.hp.free nl).1⟩,_,aX,rw'⟩
   ·cases hf
  |_=>cases hf
end
end L2
namespace L2
open PySem PySem.Spec PyProof.Rows
theorem Room.h80{k:Nat}{A:Around}(r:Room k A):A.units+80<cLine:=by have:=r.un;omega
theorem Bi{X:Cx}{scope scope2:Scope}{N:List Str}{s:Shared}{H:Hp}{fp:List Addr}{pz:Kp}(h:yK scope scope2=true):BlkScope (blk X scope N s H fp pz) scope2:=by
 unfold yK at h;simp only[Yo,YE]at h;obtain⟨⟨h1,h2⟩,h3⟩:=h;refine⟨by simpa using h1,h2,fun x hx hk=>?_⟩;have q:=Yi.mp h3 x hx;rw[hk]at q;have e2:(blk X scope N s H fp pz).env.kindOf x.1=(scope.names.lookup x.1).map fun k=>if(k == NameKind.free&&X.env.scope.kind == .function&&X.env.kindOf x.1 == some .cell)then NameKind.cell else k:=eB scope.names
 rw[e2];have q':scope.names.lookup x.1=some .cell\/scope.names.lookup x.1=some .free:=by simpa using q
 rcases q' with z|z
 ·rw[z];exact .inl rfl
 ·rw[z,ZV];split
  ·exact .inl rfl
  ·exact .inr rfl
section
variable{X:Cx}{e:Expr}{pos:Pos}
end
def isI:D->Bool
 |.int _=>true
 |_=>false
def toI:D->Int
 |.int i=>i
 |_=>0
theorem zd{ns:List Int}{us:List Value}(h:Vals (ns.map V.int) us):IntsAre us ns:=by
 induction ns generalizing us with
 |nil=>cases h;exact .nil
 |cons n ns ih=>
  cases h with
  |cons r t=>
   obtain⟨tk,rfl⟩:=r;exact .cons n tk (ih t)
theorem fF{K:Kq}{F:Hp}:∀{vs:List V}{ds:List D},Reps K F vs ds->ds.all isI=true->vs=(ds.map toI).map V.int:=by
 intro vs ds h;refine Reps.ind (M:=fun vs ds=>ds.all isI=true->vs=(ds.map toI).map V.int) (fun _=>rfl) (fun{v d vs ds} r _ ih q=>?_) h;rw[List.all_cons,Yo]at q;cases d with
 |int i=>
  cases r;rw[ih q.2];rfl
 |_=>cases q.1
section
variable{X:Cx}{e:Expr}{pos pos2 p p2:Pos}
end
def eI:List Int->Int
 |[]=>0
 |[a]=>a
 |a::b::r=>if a<=eI (b::r)then a else eI (b::r)
theorem l8:∀(ns:List Int),ns≠[]->eI ns∈ns/\∀a∈ns,eI ns<=a
 |[],h=>absurd rfl h
 |[a],_=>⟨YU.mpr rfl,fun b hb=>by rw[YU.mp hb];exact Int.le_refl _⟩
 |a::b::r,_=>by
  obtain⟨h1,h2⟩:=l8 (b::r) (by simp);unfold eI;by_cases q:a<=eI (b::r)
  ·rw[if_pos q];refine⟨Ye,fun c hc=>?_⟩;rcases Yr.mp hc with z|z
   ·rw[z];exact Int.le_refl _
   ·exact VR q (h2 c z)
  ·rw[if_neg q];refine⟨Yc _ h1,fun c hc=>?_⟩;rcases Yr.mp hc with z|z
   ·rw[z];omega
   ·exact h2 c z
def oN:D->Option D
 |.lst ds=>if(ds.all isI&&!ds.isEmpty)=true then some (.int (eI (ds.map toI)))else none
 |_=>none
section
variable{X:Cx}{e:Expr}{pos p:Pos}
theorem ti(hcalm:X.calm=true):CallR X (.builtin "min") (fun xs H Q=>∃l ns,xs=[.ref l]/\SqL X.K H l (ns.map V.int)/\ns≠[]/\Q (.int (eI ns)) H):=by
 intro pz s σ H xs us Q I r h;obtain⟨l,ns,rfl,hq,hne,q⟩:=h;obtain⟨u,rfl,ru⟩:=dI r;cases ru;obtain⟨its,rv,pl,hz⟩:=I.list hq;have hi:IntsAre its ns:=zd rv;obtain⟨xs,e⟩:=hi.allInts.items;have hns:ns=xs.toList.map (·.1):=by rw[<-hi.numsOf,<-nums_intItems,<-e]
 have hsz:0<xs.size:=by
  rcases VQ xs.size with z|z
  ·exact absurd (by rw[hns,VJ];exact YV.mp (by rw[Yz];exact z)) hne
  ·exact z
 have hl:=pl.isList;rw[e]at hl;refine min_intList (I.ok.hd hcalm) hl hsz fun v h' tk hv hk=>?_;obtain⟨t,rfl⟩:=intItems_at hv;obtain⟨h1,h2⟩:=argBest_lt (numAt xs) (xs.size-1);obtain⟨m1,m2⟩:=l8 ns hne;have hm:numAt xs (argBest (fun i j=>decide (numAt xs i<numAt xs j)) (xs.size-1))=eI ns:=by
  have a1:numAt xs (argBest (fun i j=>decide (numAt xs i<numAt xs j)) (xs.size-1))∈ns:=by rw[hns,numAt_eq];exact getD_mem (by rw[Yd,Yz];omega)
  have a2:=m2 _ a1;rw[hns]at m1;obtain⟨j,hj,ej⟩:=mem_getD m1;rw[Yd,Yz]at hj;have a3:=h2 j (by omega);rw[numAt_eq xs j]at a3;rw[<-hns]at ej a3;omega
 rw[hm];exact⟨.int (eI ns),H,I.kept (t':=tk) hk,⟨t,rfl⟩,q⟩
theorem yh{fa:Dd}(hcalm:X.calm=true)(hg:Gl X "min")(hm:X.mg "min"=none)(ha:PDR X e fa)
  (hs:starEach [e] X.env=[(false,eval e X.env)]:=by rfl) (hpl:(backTo pos (starEach [] X.env)).any (·.1)=false:=by rfl) :
  PDE X (.Call (.Name "min" p) [e] [] pos) (d1 oN fa):=
 (dX (ti hcalm) hg hm vM (ba ha bK hs) (by decide) (by decide) hs hpl).imp fun σ H Q=>un7 fun P F ρ d hf I k=>by
  unfold d1 at hf;cases ha:fa ρ with
  |none=>rw[ha]at hf;cases hf
  |some dx=>
  rw[ha,Yb]at hf;cases dx with
  |lst ds=>
   unfold oN at hf;dsimp only at hf;split at hf
   ·rename_i ok;rw[Yo]at ok;cases hf;refine⟨P,F,ρ,_,ha,I,fun x F1 H1 e1 rx=>?_⟩;have I1:=I.evo e1;obtain⟨l,vs,rfl,h1,h2⟩:=c7 I1 rx;have hv:=fF h2 ok.1;rw[hv]at h1;refine⟨l,ds.map toI,rfl,h1,fun z=>?_,k _ F1 _ e1 .int⟩;rw[VJ]at z;rw[z]at ok;cases ok.2
   ·cases hf
  |_=>cases hf
def yB(f:Dd):DF->Option Bool:=fun ρ=>match f ρ with
 |some (.lst ds)=>some (!ds.isEmpty)
 |_=>none
theorem zp{fa:Dd}(ha:PDR X e fa)(he:∀whole,isTrue e X.env whole=(do let v <-whole;standAt e.pos;holding [v] (truthy v)):=by intro _;rfl):PDT X e (yB fa):=
 (uM ha he).imp fun σ H Q=>un7 fun P F ρ d hf I k=>by
  unfold yB at hf;cases ha:fa ρ with
  |none=>rw[ha]at hf;cases hf
  |some dx=>
  rw[ha]at hf;cases dx with
  |lst ds=>
   cases hf;refine⟨P,F,ρ,_,ha,I,fun x F1 H1 e1 rx=>?_⟩;have I1:=I.evo e1;obtain⟨l,vs,rfl,h1,h2⟩:=c7 I1 rx;refine⟨!ds.isEmpty,.inl ⟨vs,h1,?_⟩,k F1 H1 e1⟩;have:=h2.length;cases vs<;>cases ds<;>first|rfl|cases this
  |_=>cases hf
end
section
variable{X:Cx}{l:Expr}{elts:List Expr}{kk:Nat}{tpos pos p:Pos}
theorem pS{K:Kq}{P F:Hp}{a:Addr}{vs:List V}{ds:List D}(h:P a=some (.lst vs))(r:Reps K F vs ds):qD K P (Ite K a) F (di ds):=by intro F' H' e hp i;have hv:SqL K H' a vs:=SqL.of (hp.pro _ _ h);refine⟨fun d hd=>?_,fun hl=>⟨vs,hv,by rw[r.length];simpa[di]using hl⟩⟩;obtain⟨d0,hd0,rfl⟩:=gT hd;obtain⟨v,h1,h2⟩:=r.get hd0;refine⟨⟨vs,v,hv,h1⟩,fun x H2 hy=>?_⟩;obtain⟨q,v',hn,rfl,rfl,hx⟩:=hy;have:=hx vs hv;rw[h1]at this;cases this;have ev:=Evo.laid hp (o:=.tup [.int (i:Nat),v]) hn;exact⟨_,ev,.tup aX (.cons .int (.cons ((h2.same e).same ev.ext) .nil))⟩
def eD(i:Nat):DF->Option (List D):=fun ρ=>(bG i ρ).map di
theorem lH(i:Nat)(hg:Gl X "enumerate")(hm:X.mg "enumerate"=none)(h:PE X l (e9 i))(hs:starEach [l] X.env=[(false,eval l X.env)]:=by rfl):PDI X (.Tuple elts kk tpos) (.Call (.Name "enumerate" p) [l] [] pos) (eD i):=PI.imp (sD hg hm (ba h bK hs) hs) fun σ H R=>un7 fun P F ρ ds hf I k=>by
 unfold eD bG at hf;split at hf
 ·rename_i ds' q;cases hf;obtain⟨v,h1,a,rfl,_,u,h3,h4⟩:=I.at q;cases u with
  |lst vs=>exact⟨_,h1,a,rfl,⟨vs,SqL.of (I.pro _ _ h3)⟩,k _ F H (Evo.refl I.toDHp) (pS h3 h4)⟩
  |_=>exact h4.elim
 ·rename_i ds' q;cases hf;obtain⟨v,h1,h2⟩:=I.at q;cases h2 with
  |lst h3 h4=>exact⟨_,h1,_,rfl,⟨_,I.sub.seq h3⟩,k _ F H (Evo.refl I.toDHp) (kR h3 h4)⟩
 ·cases hf
end
def Au(K:Kq)(a:Addr)(n:Nat):It:=
 ⟨fun i H=>∃xs x,SqL K H a xs/\xs.length=n/\xs.reverse[i]?=some x,fun i H x H'=>H'=H/\∀xs,SqL K H a xs->xs.reverse[i]?=some x,fun i H=>∃xs,SqL K H a xs/\xs.length=n/\n<=i⟩
theorem uT{P:Program}{w:World}{K:Kq}{tg:Expr}(a it:Addr)(n:Nat):Turn P w K tg (Au K a n) [it] it (fun i h=>i<=n/\h.IsRevIter it a ((n:Int)-1-(i:Int))) where
 mem:=by simp
 obj:=fun i h st b hb=>by
  have e:b=it:=by simpa using hb
  subst e;obtain⟨_,o,e,c,d⟩:=st;exact⟨o,e,fun v z=>by rw[d]at z;cases z⟩
 keep:=fun i h h' st k=>⟨st.1,st.2.at fun o e=>k it (by simp) o e⟩
 item:=by
  intro X hP hw hK hc i pz s σ H E I hf st hg;subst hP hw hK;obtain⟨hin,hit⟩:=st;obtain⟨xs,x,hq,hn,hx⟩:=hg;obtain⟨its,rv,p,hz⟩:=I.list hq;have hi:i<xs.length:=by have:=(Yn.mp hx).1;rwa [List.length_reverse]at this
  have hx':=hx;rw[List.getElem?_reverse hi]at hx';obtain⟨u,hu,ru⟩:=rv.get hx';obtain⟨f0,f1,f2,f3,f4,f5⟩:=hf it (by simp);rw[show(n:Int)-1-(i:Int)=((xs.length-1-i:Nat):Int)by omega]at hit;refine wpAny_pyNext_rev_item hit p.isList (x:=u) (by simpa using hu) fun h' st' sb=>?_;have I1:Inv X pz σ H {s with heap:=h' }:=I.turned (t':=s.toks) (fun b o hb e=>(sb.2 b hb).trans e) f0 f1 f3 f4 f5;rw[show((xs.length-1-i:Nat):Int)-1=(n:Int)-1-((i+1:Nat):Int)by omega]at st';obtain⟨o,e,c,d⟩:=id st';exact⟨u,rfl,sN (s:={s with heap:=h' }) e c d (by decide) ⟨x,H,I1,ru,⟨rfl,fun ys hy=>by rw[I.list_inj hy hq];exact hx⟩,⟨by omega,st'⟩,fun b hb=>(hf b hb).1⟩⟩
 done:=by intro X hP hw hK hc i pz s σ H E I hf st hg;subst hP hw hK;obtain⟨hin,hit⟩:=st;obtain⟨xs,hq,hn,hx⟩:=hg;obtain⟨f0,f1,f2,f3,f4,f5⟩:=hf it (by simp);rw[show(n:Int)-1-(i:Int)=-1 by omega]at hit;exact wpAny_pyNext_rev_end (I.ok.hd hc) hit fun h' eb=>⟨rfl,I.turned (t':=s.toks) (fun b o hb e=>eb b o hb e) f0 f1 f3 f4 f5⟩
 self:=fun _ _ _ _ _ st h=>wpAny_pyIter_revIter st.2 h
section
variable{X:Cx}{l tg:Expr}{pos p:Pos}
def E4(K:Kq)(ta:TA):TI:=fun σ H R=>ta σ H fun vs H1=>∃a xs,vs=[.ref a]/\SqL K H1 a xs/\R (Au K a xs.length) H1
theorem AO{ta:TA}(hg:Gl X "reversed")(hm:X.mg "reversed"=none)(ha:PA X [l] ta)(hs:starEach [l] X.env=[(false,eval l X.env)]:=by rfl):PI X tg (.Call (.Name "reversed" p) [l] [] pos) (E4 X.K ta):=by
 intro pz s σ H R I h;refine Call_ (fT I hg hm kJ (ZD (thn (ha pos pz s σ H _ I h) fun us s1 ⟨vs,H1,I1,r1,q1⟩=>?_) hs rfl));obtain⟨a,xs,e,hq,q⟩:=q1;subst e;obtain⟨u,rfl,rx⟩:=dI r1;cases(show u=Value.ref a from rx);obtain⟨its,rv,pl,hz⟩:=I1.list hq;refine call_reversed_list pl.isList ?_;have hl:its.toArray.size=xs.length:=by rw[Yx,<-rv.length]
 rw[hl];have I2:Inv X pz σ H1 {s1 with heap:=s1.heap.push (revObj a ((xs.length:Int)-1))}:=I1.kept (t':=s1.toks) fun b o e=>Yh _ e
 have hit:(s1.heap.push (revObj a ((xs.length:Int)-1))).IsRevIter s1.heap.objs.size a ((xs.length:Int)-1-((0:Nat):Int)):=⟨_,Ym _ rfl,rfl,by show Data.fields _=_;simp⟩
 refine wpAny_pyIter_revIter (s:={s1 with heap:=s1.heap.push (revObj a ((xs.length:Int)-1))}) hit ?_;refine⟨s1.heap.objs.size,[s1.heap.objs.size],_,_,H1,rfl,I2,uT a _ xs.length,⟨YF _,hit⟩,fun b hb=>?_,q⟩;have hb':b=s1.heap.objs.size:=by simpa using hb
 subst hb';exact I1.fpOk (Yl _) (I1.hok.fresh (Yl _))
def sj(f:Dd):DF->Option (List D):=fun ρ=>match f ρ with
 |some (.lst ds)=>some ds.reverse
 |_=>none
theorem vd{K:Kq}{P F:Hp}{a:Addr}{vs:List V}{ds:List D}(h:SqL K F a vs)(r:Reps K F vs ds):qD K P (Au K a vs.length) F ds.reverse:=by intro F' H' e hp i;have hv:SqL K H' a vs:=hp.sub.seq (e.seq h);refine⟨fun d hd=>?_,fun hl=>⟨vs,hv,rfl,by rw[r.length];simpa using hl⟩⟩;obtain⟨v,h1,h2⟩:=(Reps.rev r).get hd;refine⟨⟨vs,v,hv,rfl,h1⟩,fun x H2 hy=>?_⟩;obtain⟨rfl,hx⟩:=hy;have:=hx vs hv;rw[h1]at this;cases this;exact⟨F',Evo.refl hp,h2.same e⟩
theorem ya{f:Dd}(hg:Gl X "reversed")(hm:X.mg "reversed"=none)(h:PDE X l f)(hs:starEach [l] X.env=[(false,eval l X.env)]:=by rfl):PDI X tg (.Call (.Name "reversed" p) [l] [] pos) (sj f):=PI.imp (AO hg hm (ba h bK hs) hs) fun σ H R=>un7 fun P F ρ ds hf I k=>by
 unfold sj at hf;split at hf
 ·rename_i ds0 q;cases hf;refine⟨P,F,ρ,_,q,I,fun v F' H' ev rv=>?_⟩;cases rv with
  |lst h1 h2=>exact⟨_,_,rfl,ev.hp.sub.seq h1,k _ F' H' ev (vd h1 h2)⟩
 ·cases hf
end
end L2
namespace My
open PySem PySem.Spec PyProof.Rows L2
noncomputable section
def top(i:Nat):Stmt:=PySem.Challenge.pw_tieword_k10_whole_parted_alike.main.body.getD i (.Pass ⟨0,0,0,0⟩)
abbrev jv:Stmt:=top 31
abbrev jH:Stmt:=top 30
abbrev j7:Stmt:=top 34
abbrev jr:Stmt:=top 40
abbrev jC:Stmt:=top 35
abbrev eW:Stmt:=top 41
abbrev jt:Stmt:=top 39
abbrev i7:Stmt:=top 37
abbrev km:Stmt:=top 36
abbrev fN:Stmt:=top 38
abbrev iG:Stmt:=top 42
abbrev oF:Stmt:=top 21
abbrev qB:Stmt:=top 22
abbrev p3:Stmt:=top 23
abbrev jN:Stmt:=top 24
abbrev jw:Stmt:=top 25
abbrev i_:Stmt:=top 26
abbrev rb:Stmt:=top 27
abbrev oB:Stmt:=nb (top 28) 0
abbrev gt:Stmt:=top 43
abbrev ig:Stmt:=top 44
abbrev iC:Stmt:=top 45
abbrev ki:Stmt:=top 32
abbrev im:Stmt:=top 33
abbrev iw:Stmt:=top 46
abbrev io:Stmt:=top 2
abbrev qp:Stmt:=nb (top 28) 1
abbrev qE:Stmt:=nb (top 28) 2
abbrev gy:Stmt:=top 3
abbrev ii:Stmt:=top 4
abbrev qL:Stmt:=top 5
abbrev jq:Stmt:=top 6
abbrev jR:Stmt:=top 7
abbrev ku:Stmt:=top 47
abbrev qO:Stmt:=top 8
abbrev gk:Stmt:=top 11
abbrev iH:Stmt:=top 9
abbrev q_:Stmt:=top 10
abbrev gH:Stmt:=top 48
set_option genInjectivity false
set_option genSizeOf false
set_option genSizeOfSpec false
structure Adr where
 C:Addr
 f_q27:Addr
 d_q27:FuncData
 f_q13:Addr
 d_q13:FuncData
 f_q17:Addr
 d_q17:FuncData
 f_q22:Addr
 d_q22:FuncData
 f_q19:Addr
 d_q19:FuncData
 f_q16:Addr
 d_q16:FuncData
 f_q15:Addr
 d_q15:FuncData
 f_q18:Addr
 d_q18:FuncData
 f_q14:Addr
 d_q14:FuncData
 f_q23:Addr
 d_q23:FuncData
 f_q29:Addr
 d_q29:FuncData
 f_q6:Addr
 d_q6:FuncData
 f_q8:Addr
 d_q8:FuncData
 f_q7:Addr
 d_q7:FuncData
 f_q36:Addr
 d_q36:FuncData
 f_q31:Addr
 d_q31:FuncData
 f_q34:Addr
 d_q34:FuncData
 f_q9:Addr
 d_q9:FuncData
 f_q0:Addr
 d_q0:FuncData
 f_q28:Addr
 d_q28:FuncData
 f_q25:Addr
 d_q25:FuncData
 f_q24:Addr
 d_q24:FuncData
 f_q30:Addr
 d_q30:FuncData
 f_q21:Addr
 d_q21:FuncData
 f_q20:Addr
 d_q20:FuncData
 f_q35:Addr
 d_q35:FuncData
 f_q2:Addr
 d_q2:FuncData
 f_q1:Addr
 d_q1:FuncData
 f_q10:Addr
 d_q10:FuncData
 f_q11:Addr
 d_q11:FuncData
 f_q4:Addr
 d_q4:FuncData
 f_q37:Addr
 d_q37:FuncData
 f_q38:Addr
 d_q38:FuncData
 f_q26:Addr
 d_q26:FuncData
 f_q5:Addr
 d_q5:FuncData
 f_q32:Addr
 d_q32:FuncData
 f_q33:Addr
 d_q33:FuncData
 f_q3:Addr
 d_q3:FuncData
 f_q12:Addr
 d_q12:FuncData
 tk_MOST_PLACES:Tok
 tk_MOST_TIES:Tok
 tk_MOST_LETTERS:Tok
structure Txt (K:PySem.W.Frag) (mg:Str->Option Value) (t:Adr):Prop where
 cl:Cls K t.C
 mkC:Mk K t.C t.f_q0
 mgC:mg "Web"=some (.ref t.C)
 na_joins:NoAttr K t.C "joins"
 na_kinds:NoAttr K t.C "kinds"
 na_ties:NoAttr K t.C "ties"
 fn_q27:Fun K "_law_spread" "_law_spread" jv t.f_q27 t.d_q27
 bd_q27:Binds K t.d_q27 ["_law_cell","_law_factor"] []
 g_q27:mg "_law_spread"=some (.ref t.f_q27)
 fn_q13:Fun K "_law_at" "_law_at" jH t.f_q13 t.d_q13
 bd_q13:Binds K t.d_q13 ["_law_script","_law_k"] []
 g_q13:mg "_law_at"=some (.ref t.f_q13)
 fn_q17:Fun K "_law_fold" "_law_fold" j7 t.f_q17 t.d_q17
 bd_q17:Binds K t.d_q17 ["_law_script","_law_bound"] []
 g_q17:mg "_law_fold"=some (.ref t.f_q17)
 fn_q22:Fun K "_law_order" "_law_order" jr t.f_q22 t.d_q22
 bd_q22:Binds K t.d_q22 ["_law_script","_law_size","_law_factor"] []
 g_q22:mg "_law_order"=some (.ref t.f_q22)
 fn_q19:Fun K "_law_kinds" "_law_kinds" jC t.f_q19 t.d_q19
 bd_q19:Binds K t.d_q19 ["_law_script","_law_size"] []
 g_q19:mg "_law_kinds"=some (.ref t.f_q19)
 fn_q16:Fun K "_law_false" "_law_false" eW t.f_q16 t.d_q16
 bd_q16:Binds K t.d_q16 ["_law_script","_law_number","_law_kind","_law_oneway","_law_most"] []
 g_q16:mg "_law_false"=some (.ref t.f_q16)
 fn_q15:Fun K "_law_drawn_ties" "_law_drawn_ties" jt t.f_q15 t.d_q15
 bd_q15:Binds K t.d_q15 ["_law_script","_law_size"] []
 g_q15:mg "_law_drawn_ties"=some (.ref t.f_q15)
 fn_q18:Fun K "_law_halves" "_law_halves" i7 t.f_q18 t.d_q18
 bd_q18:Binds K t.d_q18 ["_law_half"] []
 g_q18:mg "_law_halves"=some (.ref t.f_q18)
 fn_q14:Fun K "_law_crossed" "_law_crossed" km t.f_q14 t.d_q14
 bd_q14:Binds K t.d_q14 ["_law_size"] []
 g_q14:mg "_law_crossed"=some (.ref t.f_q14)
 fn_q23:Fun K "_law_pairs" "_law_pairs" fN t.f_q23 t.d_q23
 bd_q23:Binds K t.d_q23 ["_law_size","_law_family"] []
 g_q23:mg "_law_pairs"=some (.ref t.f_q23)
 fn_q29:Fun K "_law_web" "_law_web" iG t.f_q29 t.d_q29
 bd_q29:Binds K t.d_q29 ["_law_script","_law_most","_law_false_here"] []
 g_q29:mg "_law_web"=some (.ref t.f_q29)
 fn_q6:Fun K "is_place_kind" "is_place_kind" oF t.f_q6 t.d_q6
 bd_q6:Binds K t.d_q6 ["kind"] []
 g_q6:mg "is_place_kind"=some (.ref t.f_q6)
 fn_q8:Fun K "is_tie_kind" "is_tie_kind" qB t.f_q8 t.d_q8
 bd_q8:Binds K t.d_q8 ["kind"] []
 g_q8:mg "is_tie_kind"=some (.ref t.f_q8)
 fn_q7:Fun K "is_tie" "is_tie" p3 t.f_q7 t.d_q7
 bd_q7:Binds K t.d_q7 ["tie","size"] []
 g_q7:mg "is_tie"=some (.ref t.f_q7)
 fn_q36:Fun K "refuse_wrong" "refuse_wrong" jN t.f_q36 t.d_q36
 bd_q36:Binds K t.d_q36 ["kinds","ties"] []
 g_q36:mg "refuse_wrong"=some (.ref t.f_q36)
 fn_q31:Fun K "lesser_first" "lesser_first" jw t.f_q31 t.d_q31
 bd_q31:Binds K t.d_q31 ["tie"] []
 g_q31:mg "lesser_first"=some (.ref t.f_q31)
 fn_q34:Fun K "put_pair" "put_pair" i_ t.f_q34 t.d_q34
 bd_q34:Binds K t.d_q34 ["joins","ends","pair"] []
 g_q34:mg "put_pair"=some (.ref t.f_q34)
 fn_q9:Fun K "joins_of" "joins_of" rb t.f_q9 t.d_q9
 bd_q9:Binds K t.d_q9 ["ties"] []
 g_q9:mg "joins_of"=some (.ref t.f_q9)
 fn_q0:Fun K "__init__" "Web.__init__" oB t.f_q0 t.d_q0
 bd_q0:Binds K t.d_q0 ["self","kinds","ties"] []
 fn_q28:Fun K "_law_turned" "_law_turned" gt t.f_q28 t.d_q28
 bd_q28:Binds K t.d_q28 ["_law_kinds_here","_law_ties","_law_order_here"] []
 g_q28:mg "_law_turned"=some (.ref t.f_q28)
 fn_q25:Fun K "_law_ranks" "_law_ranks" ig t.f_q25 t.d_q25
 bd_q25:Binds K t.d_q25 ["_law_keys"] []
 g_q25:mg "_law_ranks"=some (.ref t.f_q25)
 fn_q24:Fun K "_law_parting" "_law_parting" iC t.f_q24 t.d_q24
 bd_q24:Binds K t.d_q24 ["_law_script","_law_size"] []
 g_q24:mg "_law_parting"=some (.ref t.f_q24)
 fn_q30:Fun K "_law_whole" "_law_whole" ki t.f_q30 t.d_q30
 bd_q30:Binds K t.d_q30 ["_law_found"] []
 g_q30:mg "_law_whole"=some (.ref t.f_q30)
 fn_q21:Fun K "_law_numbers" "_law_numbers" im t.f_q21 t.d_q21
 bd_q21:Binds K t.d_q21 ["_law_found","_law_due"] []
 g_q21:mg "_law_numbers"=some (.ref t.f_q21)
 fn_q20:Fun K "_law_like" "_law_like" iw t.f_q20 t.d_q20
 bd_q20:Binds K t.d_q20 ["_law_one","_law_other","_law_order_here"] []
 g_q20:mg "_law_like"=some (.ref t.f_q20)
 fn_q35:Fun K "ranked" "ranked" io t.f_q35 t.d_q35
 bd_q35:Binds K t.d_q35 ["keys"] []
 g_q35:mg "ranked"=some (.ref t.f_q35)
 fn_q2:Fun K "size" "Web.size" qp t.f_q2 t.d_q2
 bd_q2:Binds K t.d_q2 ["self"] []
 mt_q2:Meth K t.C "size" t.f_q2
 fn_q1:Fun K "between" "Web.between" qE t.f_q1 t.d_q1
 bd_q1:Binds K t.d_q1 ["self","one","other"] []
 mt_q1:Meth K t.C "between" t.f_q1
 fn_q10:Fun K "key_of" "key_of" gy t.f_q10 t.d_q10
 bd_q10:Binds K t.d_q10 ["web","parting","place"] []
 g_q10:mg "key_of"=some (.ref t.f_q10)
 fn_q11:Fun K "keys_of" "keys_of" ii t.f_q11 t.d_q11
 bd_q11:Binds K t.d_q11 ["web","parting"] []
 g_q11:mg "keys_of"=some (.ref t.f_q11)
 fn_q4:Fun K "finer" "finer" qL t.f_q4 t.d_q4
 bd_q4:Binds K t.d_q4 ["web","parting"] []
 g_q4:mg "finer"=some (.ref t.f_q4)
 fn_q37:Fun K "rounds_of" "rounds_of" jq t.f_q37 t.d_q37
 bd_q37:Binds K t.d_q37 ["web","parting"] []
 g_q37:mg "rounds_of"=some (.ref t.f_q37)
 fn_q38:Fun K "settled" "settled" jR t.f_q38 t.d_q38
 bd_q38:Binds K t.d_q38 ["web","parting"] []
 g_q38:mg "settled"=some (.ref t.f_q38)
 fn_q26:Fun K "_law_rounds_like" "_law_rounds_like" ku t.f_q26 t.d_q26
 bd_q26:Binds K t.d_q26 ["_law_one","_law_other","_law_order_here"] []
 g_q26:mg "_law_rounds_like"=some (.ref t.f_q26)
 fn_q5:Fun K "first_parting" "first_parting" qO t.f_q5 t.d_q5
 bd_q5:Binds K t.d_q5 ["web"] []
 g_q5:mg "first_parting"=some (.ref t.f_q5)
 fn_q32:Fun K "open_class" "open_class" gk t.f_q32 t.d_q32
 bd_q32:Binds K t.d_q32 ["parting"] []
 g_q32:mg "open_class"=some (.ref t.f_q32)
 fn_q33:Fun K "put_ahead" "put_ahead" iH t.f_q33 t.d_q33
 bd_q33:Binds K t.d_q33 ["parting","place"] []
 g_q33:mg "put_ahead"=some (.ref t.f_q33)
 fn_q3:Fun K "chosen" "chosen" q_ t.f_q3 t.d_q3
 bd_q3:Binds K t.d_q3 ["web","parting","place"] []
 g_q3:mg "chosen"=some (.ref t.f_q3)
 fn_q12:Fun K "law" "law" gH t.f_q12 t.d_q12
 bd_q12:Binds K t.d_q12 ["_law_script"] []
 g_q12:mg "law"=some (.ref t.f_q12)
 b_all:mg "all"=none
 b_bool:mg "bool"=none
 b_enumerate:mg "enumerate"=none
 b_int:mg "int"=none
 b_isinstance:mg "isinstance"=none
 b_len:mg "len"=none
 b_list:mg "list"=none
 b_min:mg "min"=none
 b_range:mg "range"=none
 b_reversed:mg "reversed"=none
 b_set:mg "set"=none
 b_sorted:mg "sorted"=none
 b_tuple:mg "tuple"=none
 c_MOST_PLACES:mg "MOST_PLACES"=some (.int 7 t.tk_MOST_PLACES)
 c_MOST_TIES:mg "MOST_TIES"=some (.int 12 t.tk_MOST_TIES)
 c_MOST_LETTERS:mg "MOST_LETTERS"=some (.int 3 t.tk_MOST_LETTERS)
variable{P:Program}{w:World}{K:Kq}{mg:Ks}{base:Heap}{t:Adr}
abbrev K0:PySem.W.Frag:=[]
abbrev D4:List Str:=["_law_cell","_law_factor"]
theorem Br:FnScope D4 ["_law_cell","_law_factor"] (defScope jv):=⟨rfl,rfl,rfl,by decide+kernel,rfl,by decide+kernel,by decide+kernel⟩
def g_q27(C:Addr):DF->Option RES:=
  (bf (d2 aL (d2 fK (d2 aQ (d2 aL (aa 0) (fun _=>some (.int 2147483647))) (fun _=>some (.int 1))) (aa 1)) (fun _=>some (.int 2147483647))))
def cC(C:Addr):List DV->Option DV:=mOf 2 2 (g_q27 C)
theorem fu(T:Txt K mg t):FnOk P w K mg base CX0 1 t.f_q27 t.d_q27 ["_law_cell","_law_factor"] (spD K (cC t.C)):=
 T.fn_q27.okD Br fun cdv A outer s H E hr=>(aj (aZ (aY (PDE.r (gQ (PDE.r (aI (PDE.r (aY (af 0 (pv 0)) (PDE.r ac))) (PDE.r ac))) (af 1 (pv 1)))) (PDE.r ac))))
abbrev Cs:List Str:=["_law_script","_law_k"]
theorem Ax:FnScope Cs ["_law_script","_law_k"] (defScope jH):=⟨rfl,rfl,rfl,by decide+kernel,rfl,by decide+kernel,by decide+kernel⟩
def g_q13(C:Addr):DF->Option RES:=
  (ak (dIf (asB (d2 ltd (ap 1) (d1 bu (ap 0)))) (bf (d2 ixD (aa 0) (aa 1))) dNx)
  (bf (fun _=>some (.int 0))))
def cR(C:Addr):List DV->Option DV:=mOf 2 2 (g_q13 C)
theorem jh(T:Txt K mg t):FnOk P w K mg base CX0 1 t.f_q13 t.d_q13 ["_law_script","_law_k"] (spD K (cR t.C)):=
 T.fn_q13.okD Ax fun cdv A outer s H E hr=>(ae (bF (kb hr.h64 (ay 1 (pv 1)) (PDE.n (bO rfl T.b_len (ay 0 (pv 0))))) (aj (aZ (aN (af 0 (pv 0)) (af 1 (pv 1))))) aM) (aj (aZ ac)))
abbrev Cp:List Str:=["_law_script","_law_bound","_law_number","_law_cell"]
theorem mf:FnScope Cp ["_law_script","_law_bound"] (defScope j7):=⟨rfl,rfl,rfl,by decide+kernel,rfl,by decide+kernel,by decide+kernel⟩
def g_q17(C:Addr):DF->Option RES:=
  (ak (aq 2 (fun _=>some (.int 0)))
  (ak (dJ (bG 0) (setV 3) (aq 2 (d2 aL (d2 aQ (d2 fK (aa 2) (fun _=>some (.int 1000003))) (aa 3)) (aa 1))))
  (bf (getV 2))))
def nQ(C:Addr):List DV->Option DV:=mOf 4 2 (g_q17 C)
theorem BH(T:Txt K mg t):FnOk P w K mg base CX0 1 t.f_q17 t.d_q17 ["_law_script","_law_bound"] (spD K (nQ t.C)):=
 T.fn_q17.okD mf fun cdv A outer s H E hr=>(ae (aE (i:=2) mf.nd rfl (.inl rfl) ac) (ae (cF Zc rfl (b6 0 (pv 0)) (aD (i:=3) mf.nd rfl (.inl rfl)) (aj (aE (i:=2) mf.nd rfl (.inl rfl) (aY (PDE.r (aI (PDE.r (gQ (af 2 (pv 2)) (PDE.r ac))) (af 3 (pv 3)))) (af 1 (pv 1)))))) (aj (aZ (au 2 (pv 2))))))
abbrev CV:List Str:=["_law_script","_law_size","_law_factor","_law_left","_law_order_here","_law_k","_law_number"]
theorem kq:FnScope CV ["_law_script","_law_size","_law_factor"] (defScope jr):=⟨rfl,rfl,rfl,by decide+kernel,rfl,by decide+kernel,by decide+kernel⟩
def g_q22(C:Addr):DF->Option RES:=
  (ak (cn 3 (asL (fw (getV 1))))
  (ak (cn 4 (asL aH))
  (ak (dJ (cy (aa 1)) (setV 5) (ak (aq 6 (ai (cC C) (aV (d2 aQ (ai (cR C) (aB 0 (aB 5 (fun _=>some [])))) (d2 fK (aa 5) (aa 5))) (aB 2 (fun _=>some [])))))
  (eC 4 3 (d2 aL (d2 aW (aa 6) (fun _=>some (.int 3))) (d1 bu (ap 3))))))
  (fR 4))))
def ij(C:Addr):List DV->Option DV:=mOf 7 3 (g_q22 C)
theorem pZ(T:Txt K mg t):FnOk P w K mg base CX0 2 t.f_q22 t.d_q22 ["_law_script","_law_size","_law_factor"] (spD K (ij t.C)):=
 T.fn_q22.okD kq fun cdv A outer s H E hr=>(ae (cD (i:=3) kq.nd rfl (.inl rfl) (fP rfl rfl T.b_list rfl T.b_range (au 1 (pv 1)))) (ae (cD (i:=4) kq.nd rfl (.inl rfl) (bU aw)) (ae (cF Zc rfl (a9 rfl T.b_range (af 1 (pv 1))) (aD (i:=5) kq.nd rfl (.inl rfl)) (ae (aE (i:=6) kq.nd rfl (.inl rfl) (am (fu T) (hr.mono (by decide)) rfl T.g_q27 T.fn_q27.kp T.bd_q27 (aG (aI (PDE.r (am (jh T) (hr.mono (by decide)) rfl T.g_q13 T.fn_q13.kp T.bd_q13 (az 0 (pv 0) (az 5 (pv 5) al)))) (PDE.r (gQ (af 5 (pv 5)) (af 5 (pv 5))))) (az 2 (pv 2) al)))) (aj (tq 4 3 (pv 4) (pv 3) (aY (PDE.r (bv (af 6 (pv 6)) (PDE.r ac))) (PDE.r (bO rfl T.b_len (ay 3 (pv 3))))))))) (aj (eF 4 (pv 4))))))
abbrev DT:List Str:=["_law_script","_law_size","_law_number","_law_long","_law_at_here","_law_sign","_law_words","_law_k","_law_letter","_law_many","_law_kinds_here"]
theorem cW:FnScope DT ["_law_script","_law_size"] (defScope jC):=⟨rfl,rfl,rfl,by decide+kernel,rfl,by decide+kernel,by decide+kernel⟩
def g_q19(C:Addr):DF->Option RES:=
  (ak (aq 2 (ai (cC C) (aV (ai (cR C) (aB 0 (aV (fun _=>some (.int 1)) (fun _=>some [])))) (aV (fun _=>some (.int 1207959571)) (fun _=>some [])))))
  (ak (aq 3 (d2 aQ (fun _=>some (.int 1)) (d2 aL (aa 2) (fun _=>some (.int 3)))))
  (ak (aq 4 (d2 aL (d2 aW (aa 2) (fun _=>some (.int 3))) (aa 3)))
  (ak (aq 5 (d2 aL (d2 aW (aa 2) (fun _=>some (.int 9))) (fun _=>some (.int 11))))
  (ak (cn 6 (asL aH))
  (ak (dJ (cy (fun _=>some (.int 2))) (setV 7) (ak (aq 8 (d2 ixD (fun _=>some (.str "abcdefghijkl")) (d2 aQ (aa 5) (aa 7))))
  (cQ 6 (d2 aQ (d2 aQ (d2 gP (fun _=>some (.str "m")) (aa 4)) (aa 8)) (d2 gP (fun _=>some (.str "m")) (d2 gS (d2 gS (aa 3) (fun _=>some (.int 1))) (aa 4)))))))
  (ak (cQ 6 (d2 gP (fun _=>some (.str "m")) (aa 3)))
  (ak (dIf (asB (d2 eqD (d2 aL (d2 aW (aa 2) (fun _=>some (.int 396))) (fun _=>some (.int 3))) (fun _=>some (.int 0)))) (ak (aq 8 (d2 ixD (fun _=>some (.str "abcdefghijkl")) (aa 5)))
  (cn 6 (asL (ah (d2 ixD (fun _=>some (.str "abcdefghijkl")) (d2 aQ (aa 5) (fun _=>some (.int 1)))) (ah (d2 aQ (aa 8) (fun _=>some (.str "m"))) (ah (getV 8) aH)))))) dNx)
  (ak (aq 9 (d2 ixD (asO (asL (ah (fun _=>some (.int 1)) (ah (fun _=>some (.int 1)) (ah (fun _=>some (.int 2)) (ah (fun _=>some (.int 3)) aH)))))) (d2 aL (d2 aW (aa 2) (fun _=>some (.int 99))) (fun _=>some (.int 4)))))
  (ak (cn 10 (asL aH))
  (ak (dJ (cy (aa 1)) (setV 7) (cQ 10 (d2 ixD (aa 6) (d2 aL (d2 aW (ai (cC C) (aV (d2 aQ (aa 2) (d2 fK (aa 7) (aa 7))) (aV (fun _=>some (.int 1618033989)) (fun _=>some [])))) (fun _=>some (.int 7))) (aa 9)))))
  (fR 10))))))))))))
def iJ(C:Addr):List DV->Option DV:=mOf 11 2 (g_q19 C)
theorem wY(T:Txt K mg t):FnOk P w K mg base CX0 2 t.f_q19 t.d_q19 ["_law_script","_law_size"] (spD K (iJ t.C)):=
 T.fn_q19.okD cW fun cdv A outer s H E hr=>(ae (aE (i:=2) cW.nd rfl (.inl rfl) (am (fu T) (hr.mono (by decide)) rfl T.g_q27 T.fn_q27.kp T.bd_q27 (aG (am (jh T) (hr.mono (by decide)) rfl T.g_q13 T.fn_q13.kp T.bd_q13 (az 0 (pv 0) (aG ac al))) (aG ac al)))) (ae (aE (i:=3) cW.nd rfl (.inl rfl) (aI (PDE.r ac) (PDE.r (aY (af 2 (pv 2)) (PDE.r ac))))) (ae (aE (i:=4) cW.nd rfl (.inl rfl) (aY (PDE.r (bv (af 2 (pv 2)) (PDE.r ac))) (af 3 (pv 3)))) (ae (aE (i:=5) cW.nd rfl (.inl rfl) (aY (PDE.r (bv (af 2 (pv 2)) (PDE.r ac))) (PDE.r ac))) (ae (cD (i:=6) cW.nd rfl (.inl rfl) (bU aw)) (ae (cF Zc rfl (a9 rfl T.b_range (PDE.r ac)) (aD (i:=7) cW.nd rfl (.inl rfl)) (ae (aE (i:=8) cW.nd rfl (.inl rfl) (aN (PDE.r eR) (PDE.r (aI (af 5 (pv 5)) (af 7 (pv 7)))))) (aj (bP 6 (pv 6) (aI (PDE.r (aI (PDE.r (mO (PDE.r eR) (af 4 (pv 4)))) (af 8 (pv 8)))) (PDE.r (mO (PDE.r eR) (PDE.r (ic (PDE.r (ic (af 3 (pv 3)) (PDE.r ac))) (af 4 (pv 4))))))))))) (ae (bP 6 (pv 6) (mO (PDE.r eR) (af 3 (pv 3)))) (ae (bF (c9 hr.h64 (PDE.n (aY (PDE.r (bv (af 2 (pv 2)) (PDE.r ac))) (PDE.r ac))) (PDE.n ac)) (ae (aE (i:=8) cW.nd rfl (.inl rfl) (aN (PDE.r eR) (af 5 (pv 5)))) (aj (cD (i:=6) cW.nd rfl (.inl rfl) (bU (ag (aN (PDE.r eR) (PDE.r (aI (af 5 (pv 5)) (PDE.r ac)))) (ag (aI (af 8 (pv 8)) (PDE.r eR)) (ag (au 8 (pv 8)) aw))))))) aM) (ae (aE (i:=9) cW.nd rfl (.inl rfl) (aN (PDE.r (PDO.v (bU (ag ac (ag ac (ag ac (ag ac aw))))))) (PDE.r (aY (PDE.r (bv (af 2 (pv 2)) (PDE.r ac))) (PDE.r ac))))) (ae (cD (i:=10) cW.nd rfl (.inl rfl) (bU aw)) (ae (cF Zc rfl (a9 rfl T.b_range (af 1 (pv 1))) (aD (i:=7) cW.nd rfl (.inl rfl)) (aj (bP 10 (pv 10) (aN (af 6 (pv 6)) (PDE.r (aY (PDE.r (bv (PDE.r (am (fu T) (hr.mono (by decide)) rfl T.g_q27 T.fn_q27.kp T.bd_q27 (aG (aI (af 2 (pv 2)) (PDE.r (gQ (af 7 (pv 7)) (af 7 (pv 7))))) (aG ac al)))) (PDE.r ac))) (af 9 (pv 9)))))))) (aj (eF 10 (pv 10))))))))))))))
abbrev kZ:List Str:=["_law_script","_law_number","_law_kind","_law_oneway","_law_most","_law_ties","_law_size","_law_far","_law_order_here","_law_kinds_here"]
theorem dR:FnScope kZ ["_law_script","_law_number","_law_kind","_law_oneway","_law_most"] (defScope eW):=⟨rfl,rfl,rfl,by decide+kernel,rfl,by decide+kernel,by decide+kernel⟩
def g_q16(C:Addr):DF->Option RES:=
  (ak (aq 5 (asO (asL (aJ 1 [2,3] (cy (fun _=>some (.int 6))) (setV 0) bb (asT (ah (getV 0) (ah (d2 aL (d2 aQ (aa 0) (fun _=>some (.int 1))) (fun _=>some (.int 6))) (ah (getV 1) (ah (getV 2) aH)))))))))
  (ak (aq 6 (fun _=>some (.int 6)))
  (ak (dIf (eX (asB (d2 gtI (aa 4) (fun _=>some (.int 6)))) (asB (d2 eqD (d2 aL (aa 1) (fun _=>some (.int 2))) (fun _=>some (.int 0))))) (ak (aq 5 (asO (asL (aJ 1 [2,3] (cy (fun _=>some (.int 3))) (setV 0) bb (asT (ah (getV 0) (ah (d2 aL (d2 aQ (aa 0) (fun _=>some (.int 1))) (fun _=>some (.int 3))) (ah (getV 1) (ah (getV 2) aH)))))))))
  (ak (aq 5 (d2 aQ (aa 5) (asO (asL (aJ 1 [2,3] (cy (fun _=>some (.int 4))) (setV 0) bb (asT (ah (d2 aQ (fun _=>some (.int 3)) (aa 0)) (ah (d2 aQ (fun _=>some (.int 3)) (d2 aL (d2 aQ (aa 0) (fun _=>some (.int 1))) (fun _=>some (.int 4)))) (ah (getV 1) (ah (getV 2) aH))))))))))
  (aq 6 (fun _=>some (.int 7))))) (ak (aq 7 (d2 aL (d2 aQ (aa 2) (fun _=>some (.int 1))) (d2 kB (fun _=>some (.int 10)) (fun _=>some (.int 30)))))
  (aq 5 (d2 aQ (aa 5) (asO (asL (ah (asT (ah (fun _=>some (.int 0)) (ah (fun _=>some (.int 2)) (ah (getV 7) (ah (fun _=>some (.bl false)) aH))))) (ah (asT (ah (fun _=>some (.int 3)) (ah (fun _=>some (.int 5)) (ah (getV 7) (ah (fun _=>some (.bl false)) aH))))) (ah (asT (ah (fun _=>some (.int 1)) (ah (fun _=>some (.int 4)) (ah (getV 7) (ah (fun _=>some (.bl false)) aH))))) aH)))))))))
  (ak (aq 8 (ai (ij C) (aB 0 (aV (getV 6) (aV (fun _=>some (.int 742938285)) (fun _=>some []))))))
  (ak (aq 9 (asO (asL (aJ 1 [0] (cy (aa 6)) (setV 0) bb (d2 ixD (ai (iJ C) (aB 1 (aV (fun _=>some (.int 1)) (fun _=>some [])))) (fun _=>some (.int 0)))))))
  (bf (asT (ah (getV 9) (ah (asO (asL (aJ 1 [8] (bG 5) (setV 0) bb (asT (ah (d2 ixD (aa 1) (d2 ixD (aa 0) (fun _=>some (.int 0)))) (ah (d2 ixD (aa 1) (d2 ixD (aa 0) (fun _=>some (.int 1)))) (ah (d2 ixD (aa 0) (fun _=>some (.int 2))) (ah (d2 ixD (aa 0) (fun _=>some (.int 3))) aH)))))))) aH)))))))))
def pO(C:Addr):List DV->Option DV:=mOf 10 5 (g_q16 C)
theorem Bs(T:Txt K mg t):FnOk P w K mg base CX0 3 t.f_q16 t.d_q16 ["_law_script","_law_number","_law_kind","_law_oneway","_law_most"] (spD K (pO t.C)):=
 T.fn_q16.okD dR fun cdv A outer s H E hr=>(ae (b5 (i:=5) (N:=["_law_k","_law_kind","_law_oneway"]) (own:=1) (ix:=[2,3]) (is:=[0]) dR.nd rfl (.inl rfl) rfl (bY (defScope eW) rfl (by decide+kernel)) (bW kZ rfl (by decide+kernel)) (bx (by decide)) (a9 rfl T.b_range (PDE.r ac)) (fun _ _ _ _=>(aD (i:=0) (show(["_law_k","_law_kind","_law_oneway"]:List Str).Nodup from by decide+kernel) rfl (.inl rfl))) (fun _ _ _ _=>cq) (fun _ _ _ _=>(a7 (ag (au 0 (pv 0)) (ag (aY (PDE.r (aI (af 0 (pv 0)) (PDE.r ac))) (PDE.r ac)) (ag (au 1 (pv 1)) (ag (au 2 (pv 2)) aw)))))) (by decide+kernel)) (ae (aE (i:=6) dR.nd rfl (.inl rfl) ac) (ae (bF (PDW.t (fD (iy (af 4 (pv 4)) (PDE.r ac)) (d6 (c9 hr.h64 (PDE.n (aY (af 1 (pv 1)) (PDE.r ac))) (PDE.n ac))))) (ae (b5 (i:=5) (N:=["_law_k","_law_kind","_law_oneway"]) (own:=1) (ix:=[2,3]) (is:=[0]) dR.nd rfl (.inl rfl) rfl (bY (defScope eW) rfl (by decide+kernel)) (bW kZ rfl (by decide+kernel)) (bx (by decide)) (a9 rfl T.b_range (PDE.r ac)) (fun _ _ _ _=>(aD (i:=0) (show(["_law_k","_law_kind","_law_oneway"]:List Str).Nodup from by decide+kernel) rfl (.inl rfl))) (fun _ _ _ _=>cq) (fun _ _ _ _=>(a7 (ag (au 0 (pv 0)) (ag (aY (PDE.r (aI (af 0 (pv 0)) (PDE.r ac))) (PDE.r ac)) (ag (au 1 (pv 1)) (ag (au 2 (pv 2)) aw)))))) (by decide+kernel)) (ae (aE (i:=5) dR.nd rfl (.inl rfl) (aI (af 5 (pv 5)) (PDE.r (PDO.v (bw (N:=["_law_k","_law_kind","_law_oneway"]) (own:=1) (ix:=[2,3]) (is:=[0]) rfl (bY (defScope eW) rfl (by decide+kernel)) (bW kZ rfl (by decide+kernel)) (bx (by decide)) (a9 rfl T.b_range (PDE.r ac)) (fun _ _ _ _=>(aD (i:=0) (show(["_law_k","_law_kind","_law_oneway"]:List Str).Nodup from by decide+kernel) rfl (.inl rfl))) (fun _ _ _ _=>cq) (fun _ _ _ _=>(a7 (ag (aI (PDE.r ac) (af 0 (pv 0))) (ag (aI (PDE.r ac) (PDE.r (aY (PDE.r (aI (af 0 (pv 0)) (PDE.r ac))) (PDE.r ac)))) (ag (au 1 (pv 1)) (ag (au 2 (pv 2)) aw)))))) (by decide+kernel)))))) (aj (aE (i:=6) dR.nd rfl (.inl rfl) ac)))) (ae (aE (i:=7) dR.nd rfl (.inl rfl) (aY (PDE.r (aI (af 2 (pv 2)) (PDE.r ac))) (PDE.r (ni (PDE.r ac) (PDE.r ac))))) (aj (aE (i:=5) dR.nd rfl (.inl rfl) (aI (af 5 (pv 5)) (PDE.r (PDO.v (bU (ag (a7 (ag ac (ag ac (ag (au 7 (pv 7)) (ag dY aw))))) (ag (a7 (ag ac (ag ac (ag (au 7 (pv 7)) (ag dY aw))))) (ag (a7 (ag ac (ag ac (ag (au 7 (pv 7)) (ag dY aw))))) aw))))))))))) (ae (aE (i:=8) dR.nd rfl (.inr rfl) (am (pZ T) (hr.mono (by decide)) rfl T.g_q22 T.fn_q22.kp T.bd_q22 (az 0 (pv 0) (aG (au 6 (pv 6)) (aG ac al))))) (ae (b5 (i:=9) (N:=["_law_place","_law_script"]) (own:=1) (ix:=[0]) (is:=[0]) dR.nd rfl (.inl rfl) rfl (bY (defScope eW) rfl (by decide+kernel)) (bW kZ rfl (by decide+kernel)) (bx (by decide)) (a9 rfl T.b_range (af 6 (pv 6))) (fun _ _ _ _=>(aD (i:=0) (show(["_law_place","_law_script"]:List Str).Nodup from by decide+kernel) rfl (.inl rfl))) (fun _ _ _ _=>cq) (fun _ _ _ _=>(aN (PDE.r (am (wY T) (hr.mono (by decide)) rfl T.g_q19 T.fn_q19.kp T.bd_q19 (az 1 (pv 1) (aG ac al)))) (PDE.r ac))) (by decide+kernel)) (aj (aZ (a7 (ag (au 9 (pv 9)) (ag (PDO.v (bw (N:=["_law_tie","_law_order_here"]) (own:=1) (ix:=[8]) (is:=[0]) rfl (bY (defScope eW) rfl (by decide+kernel)) (bW kZ rfl (by decide+kernel)) (bx (by decide)) (b6 5 (pv 5)) (fun _ _ _ _=>(aD (i:=0) (show(["_law_tie","_law_order_here"]:List Str).Nodup from by decide+kernel) rfl (.inl rfl))) (fun _ _ _ _=>cq) (fun _ _ _ _=>(a7 (ag (aN (af 1 (pv 1)) (PDE.r (aN (af 0 (pv 0)) (PDE.r ac)))) (ag (aN (af 1 (pv 1)) (PDE.r (aN (af 0 (pv 0)) (PDE.r ac)))) (ag (aN (af 0 (pv 0)) (PDE.r ac)) (ag (aN (af 0 (pv 0)) (PDE.r ac)) aw)))))) (by decide+kernel))) aw))))))))))
abbrev C_:List Str:=["_law_script","_law_size","_law_ties","_law_k","_law_cell","_law_number","_law_one","_law_other","_law_kind"]
theorem eQ:FnScope C_ ["_law_script","_law_size"] (defScope jt):=⟨rfl,rfl,rfl,by decide+kernel,rfl,by decide+kernel,by decide+kernel⟩
def g_q15(C:Addr):DF->Option RES:=
  (ak (cn 2 (asL aH))
  (ak (dJ (j5 (asO (asL (slL (aa 0) (bI (fun _=>some (.int 2))) (bI (fun _=>some (.int 14))))))) (h9 [3,4]) (ak (aq 5 (ai (cC C) (aB 4 (aV (fun _=>some (.int 1530421987)) (fun _=>some [])))))
  (dIf (eX (asB (d2 gtI (aa 1) (fun _=>some (.int 1)))) (asB (d2 gtI (d2 aL (aa 5) (fun _=>some (.int 4))) (fun _=>some (.int 0))))) (ak (aq 6 (d2 aL (d2 aW (aa 5) (fun _=>some (.int 4))) (aa 1)))
  (ak (aq 7 (d2 aL (d2 aQ (d2 aQ (aa 6) (fun _=>some (.int 1))) (d2 aL (d2 aW (aa 5) (fun _=>some (.int 28))) (d2 gS (aa 1) (fun _=>some (.int 1))))) (aa 1)))
  (ak (aq 8 (d2 aL (d2 aW (aa 5) (fun _=>some (.int 168))) (fun _=>some (.int 2))))
  (ak (dIf (asB (d2 eqD (d2 aL (d2 aW (aa 5) (fun _=>some (.int 336))) (fun _=>some (.int 2))) (fun _=>some (.int 0)))) (aq 8 (d2 aL (d2 aQ (aa 4) (aa 3)) (d2 kB (fun _=>some (.int 10)) (fun _=>some (.int 30))))) dNx)
  (cQ 2 (asT (ah (getV 6) (ah (getV 7) (ah (getV 8) (ah (d2 eqD (d2 aL (d2 aW (aa 5) (fun _=>some (.int 672))) (fun _=>some (.int 2))) (fun _=>some (.int 1))) aH)))))))))) dNx)))
  (fR 2)))
def k9(C:Addr):List DV->Option DV:=mOf 9 2 (g_q15 C)
theorem vy(T:Txt K mg t):FnOk P w K mg base CX0 2 t.f_q15 t.d_q15 ["_law_script","_law_size"] (spD K (k9 t.C)):=
 T.fn_q15.okD eQ fun cdv A outer s H E hr=>(ae (cD (i:=2) eQ.nd rfl (.inl rfl) (bU aw)) (ae (cF Zc rfl (wE rfl T.b_enumerate (PDO.v (lz (af 0 (pv 0)) (vR ac) (vR ac)))) (gE (is:=[3,4]) rfl (ca (cv (i:=3) eQ.nd rfl (.inl rfl)) (ca (cv (i:=4) eQ.nd rfl (.inl rfl)) gG))) (ae (aE (i:=5) eQ.nd rfl (.inl rfl) (am (fu T) (hr.mono (by decide)) rfl T.g_q27 T.fn_q27.kp T.bd_q27 (az 4 (pv 4) (aG ac al)))) (aj (bF (PDW.t (fD (iy (af 1 (pv 1)) (PDE.r ac)) (d6 (iy (PDE.r (aY (af 5 (pv 5)) (PDE.r ac))) (PDE.r ac))))) (ae (aE (i:=6) eQ.nd rfl (.inl rfl) (aY (PDE.r (bv (af 5 (pv 5)) (PDE.r ac))) (af 1 (pv 1)))) (ae (aE (i:=7) eQ.nd rfl (.inl rfl) (aY (PDE.r (aI (PDE.r (aI (af 6 (pv 6)) (PDE.r ac))) (PDE.r (aY (PDE.r (bv (af 5 (pv 5)) (PDE.r ac))) (PDE.r (ic (af 1 (pv 1)) (PDE.r ac))))))) (af 1 (pv 1)))) (ae (aE (i:=8) eQ.nd rfl (.inl rfl) (aY (PDE.r (bv (af 5 (pv 5)) (PDE.r ac))) (PDE.r ac))) (ae (bF (c9 hr.h64 (PDE.n (aY (PDE.r (bv (af 5 (pv 5)) (PDE.r ac))) (PDE.r ac))) (PDE.n ac)) (aj (aE (i:=8) eQ.nd rfl (.inl rfl) (aY (PDE.r (aI (af 4 (pv 4)) (af 3 (pv 3)))) (PDE.r (ni (PDE.r ac) (PDE.r ac)))))) aM) (aj (bP 2 (pv 2) (a7 (ag (au 6 (pv 6)) (ag (au 7 (pv 7)) (ag (au 8 (pv 8)) (ag (oh hr.h64 (PDE.n (aY (PDE.r (bv (af 5 (pv 5)) (PDE.r ac))) (PDE.r ac))) (PDE.n ac)) aw))))))))))) aM)))) (aj (eF 2 (pv 2)))))
abbrev Cl:List Str:=["_law_half","_law_pairs_here","_law_k"]
theorem qZ:FnScope Cl ["_law_half"] (defScope i7):=⟨rfl,rfl,rfl,by decide+kernel,rfl,by decide+kernel,by decide+kernel⟩
def g_q18(C:Addr):DF->Option RES:=
  (ak (cn 1 (asL aH))
  (ak (dJ (cy (d2 gS (aa 0) (fun _=>some (.int 1)))) (setV 2) (ak (cQ 1 (asT (ah (getV 2) (ah (d2 aQ (aa 2) (fun _=>some (.int 1))) aH))))
  (cQ 1 (asT (ah (d2 aQ (aa 0) (aa 2)) (ah (d2 aQ (d2 aQ (aa 0) (aa 2)) (fun _=>some (.int 1))) aH))))))
  (ak (dIf (asB (d2 gtI (aa 0) (fun _=>some (.int 2)))) (ak (cQ 1 (asT (ah (d2 gS (aa 0) (fun _=>some (.int 1))) (ah (fun _=>some (.int 0)) aH))))
  (cQ 1 (asT (ah (d2 gS (d2 fK (fun _=>some (.int 2)) (aa 0)) (fun _=>some (.int 1))) (ah (getV 0) aH))))) dNx)
  (fR 1))))
def zR(C:Addr):List DV->Option DV:=mOf 3 1 (g_q18 C)
theorem Ao(T:Txt K mg t):FnOk P w K mg base CX0 1 t.f_q18 t.d_q18 ["_law_half"] (spD K (zR t.C)):=
 T.fn_q18.okD qZ fun cdv A outer s H E hr=>(ae (cD (i:=1) qZ.nd rfl (.inl rfl) (bU aw)) (ae (cF Zc rfl (a9 rfl T.b_range (PDE.r (ic (af 0 (pv 0)) (PDE.r ac)))) (aD (i:=2) qZ.nd rfl (.inl rfl)) (ae (bP 1 (pv 1) (a7 (ag (au 2 (pv 2)) (ag (aI (af 2 (pv 2)) (PDE.r ac)) aw)))) (aj (bP 1 (pv 1) (a7 (ag (aI (af 0 (pv 0)) (af 2 (pv 2))) (ag (aI (PDE.r (aI (af 0 (pv 0)) (af 2 (pv 2)))) (PDE.r ac)) aw))))))) (ae (bF (iy (af 0 (pv 0)) (PDE.r ac)) (ae (bP 1 (pv 1) (a7 (ag (ic (af 0 (pv 0)) (PDE.r ac)) (ag ac aw)))) (aj (bP 1 (pv 1) (a7 (ag (ic (PDE.r (gQ (PDE.r ac) (af 0 (pv 0)))) (PDE.r ac)) (ag (au 0 (pv 0)) aw)))))) aM) (aj (eF 1 (pv 1))))))
abbrev Dp:List Str:=["_law_size","_law_pairs_here","_law_one","_law_other"]
theorem l6:FnScope Dp ["_law_size"] (defScope km):=⟨rfl,rfl,rfl,by decide+kernel,rfl,by decide+kernel,by decide+kernel⟩
def g_q14(C:Addr):DF->Option RES:=
  (ak (cn 1 (asL aH))
  (ak (dJ (cy (d2 aW (aa 0) (fun _=>some (.int 2)))) (setV 2) (dJ (xO (d2 aW (aa 0) (fun _=>some (.int 2))) (aa 0)) (setV 3) (cQ 1 (asT (ah (getV 2) (ah (getV 3) aH))))))
  (fR 1)))
def zA(C:Addr):List DV->Option DV:=mOf 4 1 (g_q14 C)
theorem Ai(T:Txt K mg t):FnOk P w K mg base CX0 1 t.f_q14 t.d_q14 ["_law_size"] (spD K (zA t.C)):=
 T.fn_q14.okD l6 fun cdv A outer s H E hr=>(ae (cD (i:=1) l6.nd rfl (.inl rfl) (bU aw)) (ae (cF Zc rfl (a9 rfl T.b_range (PDE.r (bv (af 0 (pv 0)) (PDE.r ac)))) (aD (i:=2) l6.nd rfl (.inl rfl)) (aj (cF Zc rfl (jg rfl T.b_range (PDE.r (bv (af 0 (pv 0)) (PDE.r ac))) (af 0 (pv 0))) (aD (i:=3) l6.nd rfl (.inl rfl)) (aj (bP 1 (pv 1) (a7 (ag (au 2 (pv 2)) (ag (au 3 (pv 3)) aw)))))))) (aj (eF 1 (pv 1)))))
abbrev sJ:List Str:=["_law_size","_law_family"]
theorem Am:FnScope sJ ["_law_size","_law_family"] (defScope fN):=⟨rfl,rfl,rfl,by decide+kernel,rfl,by decide+kernel,by decide+kernel⟩
def g_q23(C:Addr):DF->Option RES:=
  (ak (dIf (eX (asB (d2 eqD (ap 1) (fun _=>some (.int 1)))) (asB (d2 gtI (aa 0) (fun _=>some (.int 2))))) (cN (asL (aJ 1 [0] (cy (aa 0)) (setV 0) bb (asT (ah (getV 0) (ah (d2 aL (d2 aQ (aa 0) (fun _=>some (.int 1))) (aa 1)) aH)))))) dNx)
  (ak (dIf (asB (d2 eqD (ap 1) (fun _=>some (.int 2)))) (cN (asL (aJ 1 [] (xO (fun _=>some (.int 1)) (aa 0)) (setV 0) bb (asT (ah (fun _=>some (.int 0)) (ah (getV 0) aH)))))) dNx)
  (ak (dIf (asB (d2 eqD (ap 1) (fun _=>some (.int 3)))) (cN (jy (zR C) (aV (d2 aW (aa 0) (fun _=>some (.int 2))) (fun _=>some [])))) dNx)
  (ak (dIf (eX (asB (d2 eqD (ap 1) (fun _=>some (.int 4)))) (asB (d2 eqD (ap 0) (fun _=>some (.int 5))))) (cN (asL (aJ 1 [] (cy (fun _=>some (.int 10))) (setV 0) bb (asT (ah (d2 aL (aa 0) (fun _=>some (.int 5))) (ah (d2 aL (d2 aQ (d2 aQ (aa 0) (fun _=>some (.int 1))) (d2 aW (aa 0) (fun _=>some (.int 5)))) (fun _=>some (.int 5))) aH)))))) dNx)
  (ak (dIf (asB (d2 eqD (ap 1) (fun _=>some (.int 5)))) (cN (jy (zA C) (aB 0 (fun _=>some [])))) dNx)
  (cN (asL aH)))))))
def sx(C:Addr):List DV->Option DV:=mOf 2 2 (g_q23 C)
theorem A2(T:Txt K mg t):FnOk P w K mg base CX0 2 t.f_q23 t.d_q23 ["_law_size","_law_family"] (spD K (sx t.C)):=
 T.fn_q23.okD Am fun cdv A outer s H E hr=>(ae (bF (PDW.t (fD (c9 hr.h64 (ay 1 (pv 1)) (PDE.n ac)) (d6 (iy (af 0 (pv 0)) (PDE.r ac))))) (aj (cg (bw (N:=["_law_k","_law_size"]) (own:=1) (ix:=[0]) (is:=[0]) rfl (bY (defScope fN) rfl (by decide+kernel)) (bW sJ rfl (by decide+kernel)) (bx (by decide)) (a9 rfl T.b_range (af 0 (pv 0))) (fun _ _ _ _=>(aD (i:=0) (show(["_law_k","_law_size"]:List Str).Nodup from by decide+kernel) rfl (.inl rfl))) (fun _ _ _ _=>cq) (fun _ _ _ _=>(a7 (ag (au 0 (pv 0)) (ag (aY (PDE.r (aI (af 0 (pv 0)) (PDE.r ac))) (af 1 (pv 1))) aw)))) (by decide+kernel)))) aM) (ae (bF (c9 hr.h64 (ay 1 (pv 1)) (PDE.n ac)) (aj (cg (bw (N:=["_law_k"]) (own:=1) (ix:=[]) (is:=[0]) rfl (bY (defScope fN) rfl (by decide+kernel)) (bW sJ rfl (by decide+kernel)) (bx (by decide)) (jg rfl T.b_range (PDE.r ac) (af 0 (pv 0))) (fun _ _ _ _=>(aD (i:=0) (show(["_law_k"]:List Str).Nodup from by decide+kernel) rfl (.inl rfl))) (fun _ _ _ _=>cq) (fun _ _ _ _=>(a7 (ag ac (ag (au 0 (pv 0)) aw)))) (by decide+kernel)))) aM) (ae (bF (c9 hr.h64 (ay 1 (pv 1)) (PDE.n ac)) (aj (cg (i4 (Ao T) (hr.mono (by decide)) rfl T.g_q18 T.fn_q18.kp T.bd_q18 (aG (bv (af 0 (pv 0)) (PDE.r ac)) al)))) aM) (ae (bF (PDW.t (fD (c9 hr.h64 (ay 1 (pv 1)) (PDE.n ac)) (d6 (c9 hr.h64 (ay 0 (pv 0)) (PDE.n ac))))) (aj (cg (bw (N:=["_law_k"]) (own:=1) (ix:=[]) (is:=[0]) rfl (bY (defScope fN) rfl (by decide+kernel)) (bW sJ rfl (by decide+kernel)) (bx (by decide)) (a9 rfl T.b_range (PDE.r ac)) (fun _ _ _ _=>(aD (i:=0) (show(["_law_k"]:List Str).Nodup from by decide+kernel) rfl (.inl rfl))) (fun _ _ _ _=>cq) (fun _ _ _ _=>(a7 (ag (aY (af 0 (pv 0)) (PDE.r ac)) (ag (aY (PDE.r (aI (PDE.r (aI (af 0 (pv 0)) (PDE.r ac))) (PDE.r (bv (af 0 (pv 0)) (PDE.r ac))))) (PDE.r ac)) aw)))) (by decide+kernel)))) aM) (ae (bF (c9 hr.h64 (ay 1 (pv 1)) (PDE.n ac)) (aj (cg (i4 (Ai T) (hr.mono (by decide)) rfl T.g_q14 T.fn_q14.kp T.bd_q14 (az 0 (pv 0) al)))) aM) (aj (cg (bU aw))))))))
abbrev zQ:List Str:=["_law_script","_law_most","_law_false_here","_law_number","_law_size","_law_family","_law_kind","_law_oneway","_law_kinds_here","_law_order_here","_law_ties"]
theorem dB:FnScope zQ ["_law_script","_law_most","_law_false_here"] (defScope iG):=⟨rfl,rfl,rfl,by decide+kernel,rfl,by decide+kernel,by decide+kernel⟩
def g_q29(C:Addr):DF->Option RES:=
  (ak (aq 3 (ai (cC C) (aV (ai (cR C) (aB 0 (aV (fun _=>some (.int 0)) (fun _=>some [])))) (aV (fun _=>some (.int 1873046521)) (fun _=>some [])))))
  (ak (aq 4 (d2 aQ (fun _=>some (.int 1)) (d2 aL (aa 3) (aa 1))))
  (ak (aq 5 (d2 aL (d2 aW (aa 3) (fun _=>some (.int 7))) (fun _=>some (.int 9))))
  (ak (aq 6 (ai (nQ C) (aB 0 (aV (d2 kB (fun _=>some (.int 10)) (fun _=>some (.int 30))) (fun _=>some [])))))
  (ak (aq 7 (d2 eqD (d2 aL (d2 aW (aa 3) (fun _=>some (.int 56))) (fun _=>some (.int 2))) (fun _=>some (.int 1))))
  (ak (dIf (asB (d2 eqD (d2 aL (aa 5) (fun _=>some (.int 8))) (fun _=>some (.int 0)))) (bf (ai (pO C) (aB 0 (aV (d2 aW (aa 3) (fun _=>some (.int 112))) (aV (getV 6) (aV (getV 7) (aB 2 (fun _=>some [])))))))) dNx)
  (ak (aq 8 (ai (iJ C) (aB 0 (aB 4 (fun _=>some [])))))
  (ak (dIf (asB (d2 gtI (aa 5) (fun _=>some (.int 5)))) (bf (asT (ah (getV 8) (ah (ai (k9 C) (aB 0 (aB 4 (fun _=>some [])))) aH)))) dNx)
  (ak (aq 9 (ai (ij C) (aB 0 (aV (getV 4) (aV (fun _=>some (.int 742938285)) (fun _=>some []))))))
  (ak (aq 10 (asO (asL (aJ 1 [9,6,7] (dF (ai (sx C) (aB 4 (aB 5 (fun _=>some []))))) (setV 0) bb (asT (ah (d2 ixD (aa 1) (d2 ixD (aa 0) (fun _=>some (.int 0)))) (ah (d2 ixD (aa 1) (d2 ixD (aa 0) (fun _=>some (.int 1)))) (ah (getV 2) (ah (getV 3) aH)))))))))
  (ak (dIf (asB (d2 eqD (d2 aL (d2 aW (aa 3) (fun _=>some (.int 112))) (fun _=>some (.int 3))) (fun _=>some (.int 0)))) (aq 10 (asO (asL (slL (d2 aQ (aa 10) (ai (k9 C) (aB 0 (aB 4 (fun _=>some []))))) bNo (bI (fun _=>some (.int 12))))))) dNx)
  (ak (dIf (eX (asB (d2 eqD (d2 aL (d2 aW (aa 3) (fun _=>some (.int 112))) (fun _=>some (.int 3))) (fun _=>some (.int 1)))) (asB (d2 ltd (d1 bu (ap 10)) (fun _=>some (.int 7))))) (aq 10 (d2 aQ (aa 10) (aa 10))) dNx)
  (bf (asT (ah (getV 8) (ah (getV 10) aH))))))))))))))))
def sL(C:Addr):List DV->Option DV:=mOf 11 3 (g_q29 C)
theorem BI(T:Txt K mg t):FnOk P w K mg base CX0 4 t.f_q29 t.d_q29 ["_law_script","_law_most","_law_false_here"] (spD K (sL t.C)):=
 T.fn_q29.okD dB fun cdv A outer s H E hr=>(ae (aE (i:=3) dB.nd rfl (.inl rfl) (am (fu T) (hr.mono (by decide)) rfl T.g_q27 T.fn_q27.kp T.bd_q27 (aG (am (jh T) (hr.mono (by decide)) rfl T.g_q13 T.fn_q13.kp T.bd_q13 (az 0 (pv 0) (aG ac al))) (aG ac al)))) (ae (aE (i:=4) dB.nd rfl (.inl rfl) (aI (PDE.r ac) (PDE.r (aY (af 3 (pv 3)) (af 1 (pv 1)))))) (ae (aE (i:=5) dB.nd rfl (.inl rfl) (aY (PDE.r (bv (af 3 (pv 3)) (PDE.r ac))) (PDE.r ac))) (ae (aE (i:=6) dB.nd rfl (.inr rfl) (am (BH T) (hr.mono (by decide)) rfl T.g_q17 T.fn_q17.kp T.bd_q17 (az 0 (pv 0) (aG (ni (PDE.r ac) (PDE.r ac)) al)))) (ae (aE (i:=7) dB.nd rfl (.inr rfl) (oh hr.h64 (PDE.n (aY (PDE.r (bv (af 3 (pv 3)) (PDE.r ac))) (PDE.r ac))) (PDE.n ac))) (ae (bF (c9 hr.h64 (PDE.n (aY (af 5 (pv 5)) (PDE.r ac))) (PDE.n ac)) (aj (aZ (am (Bs T) (hr.mono (by decide)) rfl T.g_q16 T.fn_q16.kp T.bd_q16 (az 0 (pv 0) (aG (bv (af 3 (pv 3)) (PDE.r ac)) (aG (au 6 (pv 6)) (aG (au 7 (pv 7)) (az 2 (pv 2) al)))))))) aM) (ae (aE (i:=8) dB.nd rfl (.inl rfl) (am (wY T) (hr.mono (by decide)) rfl T.g_q19 T.fn_q19.kp T.bd_q19 (az 0 (pv 0) (az 4 (pv 4) al)))) (ae (bF (iy (af 5 (pv 5)) (PDE.r ac)) (aj (aZ (a7 (ag (au 8 (pv 8)) (ag (am (vy T) (hr.mono (by decide)) rfl T.g_q15 T.fn_q15.kp T.bd_q15 (az 0 (pv 0) (az 4 (pv 4) al))) aw))))) aM) (ae (aE (i:=9) dB.nd rfl (.inr rfl) (am (pZ T) (hr.mono (by decide)) rfl T.g_q22 T.fn_q22.kp T.bd_q22 (az 0 (pv 0) (aG (au 4 (pv 4)) (aG ac al))))) (ae (b5 (i:=10) (N:=["_law_pair","_law_order_here","_law_kind","_law_oneway"]) (own:=1) (ix:=[9,6,7]) (is:=[0]) dB.nd rfl (.inl rfl) rfl (bY (defScope iG) rfl (by decide+kernel)) (bW zQ rfl (by decide+kernel)) (bx (by decide)) (nu (am (A2 T) (hr.mono (by decide)) rfl T.g_q23 T.fn_q23.kp T.bd_q23 (az 4 (pv 4) (az 5 (pv 5) al)))) (fun _ _ _ _=>(aD (i:=0) (show(["_law_pair","_law_order_here","_law_kind","_law_oneway"]:List Str).Nodup from by decide+kernel) rfl (.inl rfl))) (fun _ _ _ _=>cq) (fun _ _ _ _=>(a7 (ag (aN (af 1 (pv 1)) (PDE.r (aN (af 0 (pv 0)) (PDE.r ac)))) (ag (aN (af 1 (pv 1)) (PDE.r (aN (af 0 (pv 0)) (PDE.r ac)))) (ag (au 2 (pv 2)) (ag (au 3 (pv 3)) aw)))))) (by decide+kernel)) (ae (bF (c9 hr.h64 (PDE.n (aY (PDE.r (bv (af 3 (pv 3)) (PDE.r ac))) (PDE.r ac))) (PDE.n ac)) (aj (aE (i:=10) dB.nd rfl (.inl rfl) (PDO.v (lz (PDE.r (aI (af 10 (pv 10)) (PDE.r (am (vy T) (hr.mono (by decide)) rfl T.g_q15 T.fn_q15.kp T.bd_q15 (az 0 (pv 0) (az 4 (pv 4) al)))))) AZ (vR ac))))) aM) (ae (bF (PDW.t (fD (c9 hr.h64 (PDE.n (aY (PDE.r (bv (af 3 (pv 3)) (PDE.r ac))) (PDE.r ac))) (PDE.n ac)) (d6 (kb hr.h64 (PDE.n (bO rfl T.b_len (ay 10 (pv 10)))) (PDE.n ac))))) (aj (aE (i:=10) dB.nd rfl (.inl rfl) (aI (af 10 (pv 10)) (af 10 (pv 10))))) aM) (aj (aZ (a7 (ag (au 8 (pv 8)) (ag (au 10 (pv 10)) aw)))))))))))))))))
abbrev D0:List Str:=["kind","letters_fit"]
theorem zZ:FnScope D0 ["kind"] (defScope oF):=⟨rfl,rfl,rfl,by decide+kernel,rfl,by decide+kernel,by decide+kernel⟩
def g_q6(C:Addr):DF->Option RES:=
  (ak (aq 1 (d1 uN (asO (asL (aJ 1 [] (pB (getV 0)) (setV 0) bb (chD leA leA (fun _=>some (.str "a")) (ap 0) (fun _=>some (.str "z"))))))))
  (bf (ji (getV 1) (chD leA leA (fun _=>some (.int 1)) (d1 bu (ap 0)) (fun _=>some (.int 3))))))
def vc(C:Addr):List DV->Option DV:=mOf 2 1 (g_q6 C)
theorem Df(T:Txt K mg t):FnOk P w K mg base CX0 1 t.f_q6 t.d_q6 ["kind"] (spD K (vc t.C)):=
 T.fn_q6.okD zZ fun cdv A outer s H E hr=>(ae (aE (i:=1) zZ.nd rfl (.inl rfl) (vO rfl rfl T.b_all (PDE.n (PDO.v (bw (N:=["letter"]) (own:=1) (ix:=[]) (is:=[0]) rfl (bY (defScope oF) rfl (by decide+kernel)) (bW D0 rfl (by decide+kernel)) (bx (by decide)) (zu (au 0 (pv 0))) (fun _ _ _ _=>(aD (i:=0) (show(["letter"]:List Str).Nodup from by decide+kernel) rfl (.inl rfl))) (fun _ _ _ _=>cq) (fun _ _ _ _=>(rJ (PDE.n eR) (ay 0 (pv 0)) (PDE.n eR))) (by decide+kernel)))))) (aj (aZ (fS (au 1 (pv 1)) (g6 (rJ (PDE.n ac) (PDE.n (bO rfl T.b_len (ay 0 (pv 0)))) (PDE.n (nc rfl T.c_MOST_LETTERS))))))))
abbrev ET:List Str:=["kind"]
theorem C4:FnScope ET ["kind"] (defScope qB):=⟨rfl,rfl,rfl,by decide+kernel,rfl,by decide+kernel,by decide+kernel⟩
def g_q8(C:Addr):DF->Option RES:=
  (bf (chD leA ltI (fun _=>some (.int 0)) (ap 0) (d2 kB (fun _=>some (.int 10)) (fun _=>some (.int 30)))))
def wO(C:Addr):List DV->Option DV:=mOf 1 1 (g_q8 C)
theorem Cm(T:Txt K mg t):FnOk P w K mg base CX0 1 t.f_q8 t.d_q8 ["kind"] (spD K (wO t.C)):=
 T.fn_q8.okD C4 fun cdv A outer s H E hr=>(aj (aZ (mK (PDE.n ac) (ay 0 (pv 0)) (PDE.n (ni (PDE.r ac) (PDE.r ac))))))
abbrev Eo:List Str:=["tie","size","places_fit"]
theorem z9:FnScope Eo ["tie","size"] (defScope p3):=⟨rfl,rfl,rfl,by decide+kernel,rfl,by decide+kernel,by decide+kernel⟩
def g_q7(C:Addr):DF->Option RES:=
  (ak (aq 2 (ji (chD leA ltI (fun _=>some (.int 0)) (d2 ixD (aa 0) (fun _=>some (.int 0))) (ap 1)) (chD leA ltI (fun _=>some (.int 0)) (d2 ixD (aa 0) (fun _=>some (.int 1))) (ap 1))))
  (bf (ji (getV 2) (ji (d2 neD (d2 ixD (aa 0) (fun _=>some (.int 0))) (d2 ixD (aa 0) (fun _=>some (.int 1)))) (ai (wO C) (aV (d2 ixD (aa 0) (fun _=>some (.int 2))) (fun _=>some [])))))))
def tQ(C:Addr):List DV->Option DV:=mOf 3 2 (g_q7 C)
theorem DU(T:Txt K mg t):FnOk P w K mg base CX0 2 t.f_q7 t.d_q7 ["tie","size"] (spD K (tQ t.C)):=
 T.fn_q7.okD z9 fun cdv A outer s H E hr=>(ae (aE (i:=2) z9.nd rfl (.inl rfl) (fS (mK (PDE.n ac) (PDE.n (aN (af 0 (pv 0)) (PDE.r ac))) (ay 1 (pv 1))) (g6 (mK (PDE.n ac) (PDE.n (aN (af 0 (pv 0)) (PDE.r ac))) (ay 1 (pv 1)))))) (aj (aZ (fS (au 2 (pv 2)) (fS (CL hr.h64 (PDE.n (aN (af 0 (pv 0)) (PDE.r ac))) (PDE.n (aN (af 0 (pv 0)) (PDE.r ac)))) (g6 (am (Cm T) (hr.mono (by decide)) rfl T.g_q8 T.fn_q8.kp T.bd_q8 (aG (aN (af 0 (pv 0)) (PDE.r ac)) al))))))))
abbrev CJ:List Str:=["kinds","ties","kind","tie"]
theorem p8:FnScope CJ ["kinds","ties"] (defScope jN):=⟨rfl,rfl,rfl,by decide+kernel,rfl,by decide+kernel,by decide+kernel⟩
def g_q36(C:Addr):DF->Option RES:=
  (ak (dIf (cI (asB (chD leA leA (fun _=>some (.int 1)) (d1 bu (ap 0)) (fun _=>some (.int 7))))) gi dNx)
  (ak (dIf (asB (d2 gtI (d1 bu (ap 1)) (fun _=>some (.int 12)))) gi dNx)
  (ak (dJ (bG 0) (setV 2) (dIf (cI (asB (ai (vc C) (aV (getV 2) (fun _=>some []))))) gi dNx))
  (dJ (bG 1) (setV 3) (dIf (cI (asB (ai (tQ C) (aB 3 (aV (d1 bu (ap 0)) (fun _=>some [])))))) gi dNx)))))
def nW(C:Addr):List DV->Option DV:=mOf 4 2 (g_q36 C)
theorem AA(T:Txt K mg t):FnOk P w K mg base CX0 3 t.f_q36 t.d_q36 ["kinds","ties"] (spD K (nW t.C)):=
 T.fn_q36.okD p8 fun cdv A outer s H E hr=>(ae (bF (cE (zv (PDE.n ac) (PDE.n (bO rfl T.b_len (ay 0 (pv 0)))) (PDE.n (nc rfl T.c_MOST_PLACES)))) (aj gn) aM) (ae (bF (iy (PDE.r (bO rfl T.b_len (ay 1 (pv 1)))) (PDE.r (nc rfl T.c_MOST_TIES))) (aj gn) aM) (ae (cF Zc rfl (b6 0 (pv 0)) (aD (i:=2) p8.nd rfl (.inl rfl)) (aj (bF (cE (cw (am (Df T) (hr.mono (by decide)) rfl T.g_q6 T.fn_q6.kp T.bd_q6 (aG (au 2 (pv 2)) al)))) (aj gn) aM))) (aj (cF Zc rfl (b6 1 (pv 1)) (aD (i:=3) p8.nd rfl (.inl rfl)) (aj (bF (cE (cw (am (DU T) (hr.mono (by decide)) rfl T.g_q7 T.fn_q7.kp T.bd_q7 (az 3 (pv 3) (aG (bO rfl T.b_len (ay 0 (pv 0))) al))))) (aj gn) aM)))))))
abbrev CC:List Str:=["tie"]
theorem BJ:FnScope CC ["tie"] (defScope jw):=⟨rfl,rfl,rfl,by decide+kernel,rfl,by decide+kernel,by decide+kernel⟩
def g_q31(C:Addr):DF->Option RES:=
  (ak (dIf (orT (asB (d2 ixD (aa 0) (fun _=>some (.int 3)))) (asB (d2 ltd (d2 ixD (aa 0) (fun _=>some (.int 0))) (d2 ixD (aa 0) (fun _=>some (.int 1)))))) (bf (getV 0)) dNx)
  (bf (asT (ah (d2 ixD (aa 0) (fun _=>some (.int 1))) (ah (d2 ixD (aa 0) (fun _=>some (.int 0))) (ah (d2 ixD (aa 0) (fun _=>some (.int 2))) (ah (d2 ixD (aa 0) (fun _=>some (.int 3))) aH)))))))
def o_(C:Addr):List DV->Option DV:=mOf 1 1 (g_q31 C)
theorem BY(T:Txt K mg t):FnOk P w K mg base CX0 1 t.f_q31 t.d_q31 ["tie"] (spD K (o_ t.C)):=
 T.fn_q31.okD BJ fun cdv A outer s H E hr=>(ae (bF (PDW.t (nj (cw (aN (af 0 (pv 0)) (PDE.r ac))) (iR (kb hr.h64 (PDE.n (aN (af 0 (pv 0)) (PDE.r ac))) (PDE.n (aN (af 0 (pv 0)) (PDE.r ac))))))) (aj (aZ (au 0 (pv 0)))) aM) (aj (aZ (a7 (ag (aN (af 0 (pv 0)) (PDE.r ac)) (ag (aN (af 0 (pv 0)) (PDE.r ac)) (ag (aN (af 0 (pv 0)) (PDE.r ac)) (ag (aN (af 0 (pv 0)) (PDE.r ac)) aw))))))))
abbrev C0:List Str:=["joins","ends","pair"]
theorem AR:FnScope C0 ["joins","ends","pair"] (defScope i_):=⟨rfl,rfl,rfl,by decide+kernel,rfl,by decide+kernel,by decide+kernel⟩
def g_q34(C:Addr):DF->Option RES:=
  (sd 0 (getV 1) (d1 re (asO (asL (dC (d2 aQ (gq (aa 0) (getV 1) (asT aH)) (asT (ah (getV 2) aH))))))))
def jY(C:Addr):OD->List DV->Option (OD×D):=tU 3 3 (g_q34 C)
theorem xq(T:Txt K mg t):FnOk P w K mg base CX0 1 t.f_q34 t.d_q34 ["joins","ends","pair"] (spM K (jY t.C)):=
 T.fn_q34.okM AR rR fun cdv A outer s H E hr=>(aj (yn 0 hr.h64 (pv 0) (au 1 (pv 1)) (nZ rfl T.b_tuple (PDE.r (PDO.v (dD hr.h64 rfl T.b_sorted (PDE.r (aI (PDE.r (nF hr.h64 (af 0 (pv 0)) (au 1 (pv 1)) (a7 aw))) (PDE.r (a7 (ag (au 2 (pv 2)) aw)))))))))))
abbrev EM:List Str:=["ties","joins","one","other","kind","oneway"]
theorem lE:FnScope EM ["ties"] (defScope rb):=⟨rfl,rfl,rfl,by decide+kernel,rfl,by decide+kernel,by decide+kernel⟩
def g_q9(C:Addr):DF->Option RES:=
  (ak (cn 1 (fun _=>some (.dT [])))
  (ak (dJ (bG 0) (h9 [2,3,4,5]) (ak (fA K0 1 (jY C) (aV (asT (ah (getV 2) (ah (getV 3) aH))) (aV (asT (ah (getV 4) (ah (ifV (asB (getV 5)) (fun _=>some (.int 1)) (fun _=>some (.int 0))) aH))) (fun _=>some []))))
  (fA K0 1 (jY C) (aV (asT (ah (getV 3) (ah (getV 2) aH))) (aV (asT (ah (getV 4) (ah (ifV (asB (getV 5)) (fun _=>some (.int 2)) (fun _=>some (.int 0))) aH))) (fun _=>some []))))))
  (fR 1)))
def vv(C:Addr):List DV->Option DV:=mOf 6 1 (g_q9 C)
theorem DS(T:Txt K mg t):FnOk P w K mg base CX0 2 t.f_q9 t.d_q9 ["ties"] (spD K (vv t.C)):=
 T.fn_q9.okD lE fun cdv A outer s H E hr=>(ae (cD (i:=1) lE.nd rfl (.inl rfl) tJ) (ae (cF Zc rfl (b6 0 (pv 0)) (gE (is:=[2,3,4,5]) rfl (ca (cv (i:=2) lE.nd rfl (.inl rfl)) (ca (cv (i:=3) lE.nd rfl (.inl rfl)) (ca (cv (i:=4) lE.nd rfl (.inl rfl)) (ca (cv (i:=5) lE.nd rfl (.inl rfl)) gG))))) (ae (n_ 1 (xq T) (hr.mono (by decide)) rfl T.g_q34 T.fn_q34.kp T.bd_q34 (pv 1) (aG (a7 (ag (au 2 (pv 2)) (ag (au 3 (pv 3)) aw))) (aG (a7 (ag (au 4 (pv 4)) (ag (qw (cw (au 5 (pv 5))) ac ac) aw))) al))) (aj (n_ 1 (xq T) (hr.mono (by decide)) rfl T.g_q34 T.fn_q34.kp T.bd_q34 (pv 1) (aG (a7 (ag (au 3 (pv 3)) (ag (au 2 (pv 2)) aw))) (aG (a7 (ag (au 4 (pv 4)) (ag (qw (cw (au 5 (pv 5))) ac ac) aw))) al)))))) (aj (eF 1 (pv 1)))))
abbrev C2:List Str:=["self","kinds","ties"]
theorem DP:FnScope C2 ["self","kinds","ties"] (defScope oB):=⟨rfl,rfl,rfl,by decide+kernel,rfl,by decide+kernel,by decide+kernel⟩
def Ct(C:Addr):DF->Option RES:=
  (ak (sP (ai (nW C) (aB 1 (aB 2 (fun _=>some [])))))
  (ak (lG C 0 "kinds" (asO (asL (g9 (aa 1)))))
  (ak (lG C 0 "ties" (asO (asL (dC (asO (asL (aJ 1 [] (bG 2) (setV 0) bb (ai (o_ C) (aV (getV 0) (fun _=>some []))))))))))
  (lG C 0 "joins" (ai (vv C) (aV (d1 (l7 C "ties") (aa 0)) (fun _=>some [])))))))
def nN(C:Addr):OD->List DV->Option (OD×D):=tU 3 3 (Ct C)
theorem zF(T:Txt K mg t):FnOk P w K mg base CX0 4 t.f_q0 t.d_q0 ["self","kinds","ties"] (spM K (nN t.C)):=
 T.fn_q0.okM DP rR fun cdv A outer s H E hr=>(ae (zh (am (AA T) (hr.mono (by decide)) rfl T.g_q36 T.fn_q36.kp T.bd_q36 (az 1 (pv 1) (az 2 (pv 2) al)))) (ae (mC 0 T.cl T.na_kinds (pv 0) (PDO.v (jG rfl T.b_list (af 1 (pv 1))))) (ae (mC 0 T.cl T.na_ties (pv 0) (PDO.v (dD hr.h64 rfl T.b_sorted (PDE.r (PDO.v (bw (N:=["tie"]) (own:=1) (ix:=[]) (is:=[0]) rfl (bY (defScope oB) rfl (by decide+kernel)) (bW C2 rfl (by decide+kernel)) (bx (by decide)) (b6 2 (pv 2)) (fun _ _ _ _=>(aD (i:=0) (show(["tie"]:List Str).Nodup from by decide+kernel) rfl (.inl rfl))) (fun _ _ _ _=>cq) (fun _ _ _ _=>(am (BY T) (hr.mono (by decide)) rfl T.g_q31 T.fn_q31.kp T.bd_q31 (aG (au 0 (pv 0)) al))) (by decide+kernel))))))) (aj (mC 0 T.cl T.na_joins (pv 0) (am (DS T) (hr.mono (by decide)) rfl T.g_q9 T.fn_q9.kp T.bd_q9 (aG (nz T.cl T.na_ties (af 0 (pv 0))) al)))))))
abbrev wH:List Str:=["_law_kinds_here","_law_ties","_law_order_here","_law_stands","_law_made","_law_tie","_law_pair"]
theorem h7:FnScope wH ["_law_kinds_here","_law_ties","_law_order_here"] (defScope gt):=⟨rfl,rfl,rfl,by decide+kernel,rfl,by decide+kernel,by decide+kernel⟩
def g_q28(C:Addr):DF->Option RES:=
  (ak (aq 3 (asO (asL (aJ 1 [2] (cy (d1 bu (ap 2))) (setV 0) bb (d2 iM (ap 1) (ap 0))))))
  (ak (cn 4 (asL aH))
  (ak (dJ (sj (getV 1)) (setV 5) (ak (aq 6 (asT (ah (d2 ixD (aa 3) (d2 ixD (aa 5) (fun _=>some (.int 0)))) (ah (d2 ixD (aa 3) (d2 ixD (aa 5) (fun _=>some (.int 1)))) aH))))
  (ak (dIf (eX (cI (asB (d2 ixD (aa 5) (fun _=>some (.int 3))))) (asB (d2 eqD (d2 aL (d2 ixD (aa 5) (fun _=>some (.int 2))) (fun _=>some (.int 2))) (fun _=>some (.int 0))))) (aq 6 (asT (ah (d2 ixD (aa 6) (fun _=>some (.int 1))) (ah (d2 ixD (aa 6) (fun _=>some (.int 0))) aH)))) dNx)
  (cQ 4 (asT (ah (d2 ixD (aa 6) (fun _=>some (.int 0))) (ah (d2 ixD (aa 6) (fun _=>some (.int 1))) (ah (d2 ixD (aa 5) (fun _=>some (.int 2))) (ah (d2 ixD (aa 5) (fun _=>some (.int 3))) aH)))))))))
  (rj 4 (bf (asT (ah (asO (asL (aJ 1 [0] (bG 2) (setV 0) bb (d2 ixD (aa 1) (aa 0))))) (ah (getV 4) aH))))))))
def sO(C:Addr):List DV->Option DV:=mOf 7 3 (g_q28 C)
theorem A1(T:Txt K mg t):FnOk P w K mg base CX0 1 t.f_q28 t.d_q28 ["_law_kinds_here","_law_ties","_law_order_here"] (spD K (sO t.C)):=
 T.fn_q28.okD h7 fun cdv A outer s H E hr=>(ae (b5 (i:=3) (N:=["_law_place","_law_order_here"]) (own:=1) (ix:=[2]) (is:=[0]) h7.nd rfl (.inl rfl) rfl (bY (defScope gt) rfl (by decide+kernel)) (bW wH rfl (by decide+kernel)) (bx (by decide)) (a9 rfl T.b_range (PDE.r (bO rfl T.b_len (ay 2 (pv 2))))) (fun _ _ _ _=>(aD (i:=0) (show(["_law_place","_law_order_here"]:List Str).Nodup from by decide+kernel) rfl (.inl rfl))) (fun _ _ _ _=>cq) (fun _ _ _ _=>(ka hr.h64 (ay 1 (pv 1)) (ay 0 (pv 0)))) (by decide+kernel)) (ae (cD (i:=4) h7.nd rfl (.inl rfl) (bU aw)) (ae (cF Zc rfl (ya rfl T.b_reversed (au 1 (pv 1))) (aD (i:=5) h7.nd rfl (.inl rfl)) (ae (aE (i:=6) h7.nd rfl (.inl rfl) (a7 (ag (aN (af 3 (pv 3)) (PDE.r (aN (af 5 (pv 5)) (PDE.r ac)))) (ag (aN (af 3 (pv 3)) (PDE.r (aN (af 5 (pv 5)) (PDE.r ac)))) aw)))) (ae (bF (PDW.t (fD (cE (cw (aN (af 5 (pv 5)) (PDE.r ac)))) (d6 (c9 hr.h64 (PDE.n (aY (PDE.r (aN (af 5 (pv 5)) (PDE.r ac))) (PDE.r ac))) (PDE.n ac))))) (aj (aE (i:=6) h7.nd rfl (.inl rfl) (a7 (ag (aN (af 6 (pv 6)) (PDE.r ac)) (ag (aN (af 6 (pv 6)) (PDE.r ac)) aw))))) aM) (aj (bP 4 (pv 4) (a7 (ag (aN (af 6 (pv 6)) (PDE.r ac)) (ag (aN (af 6 (pv 6)) (PDE.r ac)) (ag (aN (af 5 (pv 5)) (PDE.r ac)) (ag (aN (af 5 (pv 5)) (PDE.r ac)) aw)))))))))) (aj (sA 4 (aZ (a7 (ag (PDO.v (bw (N:=["_law_place","_law_kinds_here"]) (own:=1) (ix:=[0]) (is:=[0]) rfl (bY (defScope gt) rfl (by decide+kernel)) (bW wH rfl (by decide+kernel)) (bx (by decide)) (b6 2 (pv 2)) (fun _ _ _ _=>(aD (i:=0) (show(["_law_place","_law_kinds_here"]:List Str).Nodup from by decide+kernel) rfl (.inl rfl))) (fun _ _ _ _=>cq) (fun _ _ _ _=>(aN (af 1 (pv 1)) (af 0 (pv 0)))) (by decide+kernel))) (ag (au 4 (pv 4)) aw)))))))))
abbrev zW:List Str:=["_law_keys","_law_unlike","_law_key"]
theorem qR:FnScope zW ["_law_keys"] (defScope ig):=⟨rfl,rfl,rfl,by decide+kernel,rfl,by decide+kernel,by decide+kernel⟩
def g_q25(C:Addr):DF->Option RES:=
  (ak (cn 1 (asL aH))
  (ak (dJ (bG 0) (setV 2) (dIf (asB (d2 fY (ap 2) (ap 1))) (cQ 1 (getV 2)) dNx))
  (rj 1 (cN (asL (aJ 1 [1] (bG 0) (setV 0) bb (d1 bu (asO (asL (aJ 1 [0] (dF (getV 1)) (setV 0) (asB (d2 ltd (ap 0) (ap 1))) (getV 0)))))))))))
def nY(C:Addr):List DV->Option DV:=mOf 3 1 (g_q25 C)
theorem Cc(T:Txt K mg t):FnOk P w K mg base CX0 1 t.f_q25 t.d_q25 ["_law_keys"] (spD K (nY t.C)):=
 T.fn_q25.okD qR fun cdv A outer s H E hr=>(ae (cD (i:=1) qR.nd rfl (.inr rfl) (bU aw)) (ae (cF Zc rfl (b6 0 (pv 0)) (aD (i:=2) qR.nd rfl (.inl rfl)) (aj (bF (wW hr.h64 (ay 2 (pv 2)) (ay 1 (pv 1))) (aj (bP 1 (pv 1) (au 2 (pv 2)))) aM))) (aj (sA 1 (cg (bw (N:=["_law_key","_law_unlike"]) (own:=1) (ix:=[1]) (is:=[0]) rfl (bY (defScope ig) rfl (by decide+kernel)) (bW zW rfl (by decide+kernel)) (bx (by decide)) (b6 0 (pv 0)) (fun _ _ _ _=>(aD (i:=0) (show(["_law_key","_law_unlike"]:List Str).Nodup from by decide+kernel) rfl (.inr rfl))) (fun _ _ _ _=>cq) (fun _ _ _ _=>(bO rfl T.b_len (PDE.n (PDO.v (bw (N:=["_law_other","_law_key"]) (own:=1) (ix:=[0]) (is:=[0]) rfl (Bi (by decide+kernel)) (bW ["_law_key","_law_unlike"] rfl (by decide+kernel)) (bx (by decide)) (nu (au 1 (pv 1))) (fun _ _ _ _=>(aD (i:=0) (show(["_law_other","_law_key"]:List Str).Nodup from by decide+kernel) rfl (.inl rfl))) (fun _ _ _ _=>(sf (kb hr.h64 (ay 0 (pv 0)) (ay 1 (pv 1))))) (fun _ _ _ _=>(au 0 (pv 0))) (by decide+kernel)))))) (by decide+kernel)))))))
abbrev zI:List Str:=["_law_script","_law_size","_law_number","_law_many"]
theorem p_:FnScope zI ["_law_script","_law_size"] (defScope iC):=⟨rfl,rfl,rfl,by decide+kernel,rfl,by decide+kernel,by decide+kernel⟩
def g_q24(C:Addr):DF->Option RES:=
  (ak (aq 2 (ai (cC C) (aV (ai (cR C) (aB 0 (aV (fun _=>some (.int 14)) (fun _=>some [])))) (aV (fun _=>some (.int 941083987)) (fun _=>some [])))))
  (ak (aq 3 (d2 aQ (fun _=>some (.int 1)) (d2 aL (aa 2) (fun _=>some (.int 3)))))
  (bf (ai (nY C) (aV (asO (asL (aJ 1 [2,3] (cy (aa 1)) (setV 0) bb (d2 aL (d2 aW (ai (cC C) (aV (d2 aQ (aa 1) (d2 fK (aa 0) (aa 0))) (aV (fun _=>some (.int 1726512289)) (fun _=>some [])))) (fun _=>some (.int 5))) (aa 2))))) (fun _=>some []))))))
def ss(C:Addr):List DV->Option DV:=mOf 4 2 (g_q24 C)
theorem AV(T:Txt K mg t):FnOk P w K mg base CX0 2 t.f_q24 t.d_q24 ["_law_script","_law_size"] (spD K (ss t.C)):=
 T.fn_q24.okD p_ fun cdv A outer s H E hr=>(ae (aE (i:=2) p_.nd rfl (.inr rfl) (am (fu T) (hr.mono (by decide)) rfl T.g_q27 T.fn_q27.kp T.bd_q27 (aG (am (jh T) (hr.mono (by decide)) rfl T.g_q13 T.fn_q13.kp T.bd_q13 (az 0 (pv 0) (aG ac al))) (aG ac al)))) (ae (aE (i:=3) p_.nd rfl (.inr rfl) (aI (PDE.r ac) (PDE.r (aY (af 2 (pv 2)) (PDE.r ac))))) (aj (aZ (am (Cc T) (hr.mono (by decide)) rfl T.g_q25 T.fn_q25.kp T.bd_q25 (aG (PDO.v (bw (N:=["_law_k","_law_number","_law_many"]) (own:=1) (ix:=[2,3]) (is:=[0]) rfl (bY (defScope iC) rfl (by decide+kernel)) (bW zI rfl (by decide+kernel)) (bx (by decide)) (a9 rfl T.b_range (af 1 (pv 1))) (fun _ _ _ _=>(aD (i:=0) (show(["_law_k","_law_number","_law_many"]:List Str).Nodup from by decide+kernel) rfl (.inl rfl))) (fun _ _ _ _=>cq) (fun _ _ _ _=>(aY (PDE.r (bv (PDE.r (am (fu T) (hr.mono (by decide)) rfl T.g_q27 T.fn_q27.kp T.bd_q27 (aG (aI (af 1 (pv 1)) (PDE.r (gQ (af 0 (pv 0)) (af 0 (pv 0))))) (aG ac al)))) (PDE.r ac))) (af 2 (pv 2)))) (by decide+kernel))) al))))))
abbrev Cy:List Str:=["_law_found"]
theorem Aq:FnScope Cy ["_law_found"] (defScope ki):=⟨rfl,rfl,rfl,by decide+kernel,rfl,by decide+kernel,by decide+kernel⟩
def g_q30(C:Addr):DF->Option RES:=
  (bf (ji (d1 (nM "int") (ap 0)) (Ca (d1 (nM "bool") (ap 0)))))
def r9(C:Addr):List DV->Option DV:=mOf 1 1 (g_q30 C)
theorem Bw(T:Txt K mg t):FnOk P w K mg base CX0 1 t.f_q30 t.d_q30 ["_law_found"] (spD K (r9 t.C)):=
 T.fn_q30.okD Aq fun cdv A outer s H E hr=>(aj (aZ (fS (mG rfl T.b_isinstance rfl T.b_int L2.boot_int (ay 0 (pv 0))) (g6 (BB (mG rfl T.b_isinstance rfl T.b_bool L2.boot_bool (ay 0 (pv 0))))))))
abbrev zS:List Str:=["_law_found","_law_due"]
theorem B8:FnScope zS ["_law_found","_law_due"] (defScope im):=⟨rfl,rfl,rfl,by decide+kernel,rfl,by decide+kernel,by decide+kernel⟩
def g_q21(C:Addr):DF->Option RES:=
  (ak (dIf (orT (cI (asB (d1 (nM "list") (ap 0)))) (asB (d2 neD (d1 bu (ap 0)) (d1 bu (ap 1))))) (bf (fun _=>some (.bl false))) dNx)
  (bf (ji (d1 uN (asO (asL (aJ 1 [] (bG 0) (setV 0) bb (ai (r9 C) (aB 0 (fun _=>some []))))))) (d2 eqD (ap 0) (ap 1)))))
def oR(C:Addr):List DV->Option DV:=mOf 2 2 (g_q21 C)
theorem B7(T:Txt K mg t):FnOk P w K mg base CX0 2 t.f_q21 t.d_q21 ["_law_found","_law_due"] (spD K (oR t.C)):=
 T.fn_q21.okD B8 fun cdv A outer s H E hr=>(ae (bF (PDW.t (nj (cE (cw (mG rfl T.b_isinstance rfl T.b_list L2.boot_list (ay 0 (pv 0))))) (iR (lK hr.h64 (PDE.n (bO rfl T.b_len (ay 0 (pv 0)))) (PDE.n (bO rfl T.b_len (ay 1 (pv 1)))))))) (aj (aZ dY)) aM) (aj (aZ (fS (vO rfl rfl T.b_all (PDE.n (PDO.v (bw (N:=["_law_number"]) (own:=1) (ix:=[]) (is:=[0]) rfl (bY (defScope im) rfl (by decide+kernel)) (bW zS rfl (by decide+kernel)) (bx (by decide)) (b6 0 (pv 0)) (fun _ _ _ _=>(aD (i:=0) (show(["_law_number"]:List Str).Nodup from by decide+kernel) rfl (.inl rfl))) (fun _ _ _ _=>cq) (fun _ _ _ _=>(am (Bw T) (hr.mono (by decide)) rfl T.g_q30 T.fn_q30.kp T.bd_q30 (az 0 (pv 0) al))) (by decide+kernel))))) (g6 (oh hr.h64 (ay 0 (pv 0)) (ay 1 (pv 1))))))))
abbrev zV:List Str:=["_law_one","_law_other","_law_order_here"]
theorem AG:FnScope zV ["_law_one","_law_other","_law_order_here"] (defScope iw):=⟨rfl,rfl,rfl,by decide+kernel,rfl,by decide+kernel,by decide+kernel⟩
def g_q20(C:Addr):DF->Option RES:=
  (ak (dIf (orT (cI (asB (d1 (nM "list") (ap 0)))) (asB (d2 neD (d1 bu (ap 0)) (d1 bu (ap 2))))) (bf (fun _=>some (.bl false))) dNx)
  (bf (ai (oR C) (aB 1 (aV (asO (asL (aJ 1 [0] (bG 2) (setV 0) bb (d2 ixD (aa 1) (aa 0))))) (fun _=>some []))))))
def dQ(C:Addr):List DV->Option DV:=mOf 3 3 (g_q20 C)
theorem j4(T:Txt K mg t):FnOk P w K mg base CX0 3 t.f_q20 t.d_q20 ["_law_one","_law_other","_law_order_here"] (spD K (dQ t.C)):=
 T.fn_q20.okD AG fun cdv A outer s H E hr=>(ae (bF (PDW.t (nj (cE (cw (mG rfl T.b_isinstance rfl T.b_list L2.boot_list (ay 0 (pv 0))))) (iR (lK hr.h64 (PDE.n (bO rfl T.b_len (ay 0 (pv 0)))) (PDE.n (bO rfl T.b_len (ay 2 (pv 2)))))))) (aj (aZ dY)) aM) (aj (aZ (am (B7 T) (hr.mono (by decide)) rfl T.g_q21 T.fn_q21.kp T.bd_q21 (az 1 (pv 1) (aG (PDO.v (bw (N:=["_law_place","_law_one"]) (own:=1) (ix:=[0]) (is:=[0]) rfl (bY (defScope iw) rfl (by decide+kernel)) (bW zV rfl (by decide+kernel)) (bx (by decide)) (b6 2 (pv 2)) (fun _ _ _ _=>(aD (i:=0) (show(["_law_place","_law_one"]:List Str).Nodup from by decide+kernel) rfl (.inl rfl))) (fun _ _ _ _=>cq) (fun _ _ _ _=>(aN (af 1 (pv 1)) (af 0 (pv 0)))) (by decide+kernel))) al))))))
abbrev zK:List Str:=["keys","values"]
theorem xx:FnScope zK ["keys"] (defScope io):=⟨rfl,rfl,rfl,by decide+kernel,rfl,by decide+kernel,by decide+kernel⟩
def g_q35(C:Addr):DF->Option RES:=
  (ak (aq 1 (asO (asL (gB (aa 0)))))
  (cN (asL (aJ 1 [1] (bG 0) (setV 0) bb (d2 iM (ap 1) (ap 0))))))
def jz(C:Addr):List DV->Option DV:=mOf 2 1 (g_q35 C)
theorem vm(T:Txt K mg t):FnOk P w K mg base CX0 1 t.f_q35 t.d_q35 ["keys"] (spD K (jz t.C)):=
 T.fn_q35.okD xx fun cdv A outer s H E hr=>(ae (aE (i:=1) xx.nd rfl (.inr rfl) (PDO.v (oM hr.h80 rfl rfl T.b_sorted rfl T.b_set (af 0 (pv 0))))) (aj (cg (bw (N:=["key","values"]) (own:=1) (ix:=[1]) (is:=[0]) rfl (bY (defScope io) rfl (by decide+kernel)) (bW zK rfl (by decide+kernel)) (bx (by decide)) (b6 0 (pv 0)) (fun _ _ _ _=>(aD (i:=0) (show(["key","values"]:List Str).Nodup from by decide+kernel) rfl (.inl rfl))) (fun _ _ _ _=>cq) (fun _ _ _ _=>(ka hr.h64 (ay 1 (pv 1)) (ay 0 (pv 0)))) (by decide+kernel)))))
abbrev ER:List Str:=["self"]
theorem CN:FnScope ER ["self"] (defScope qp):=⟨rfl,rfl,rfl,by decide+kernel,rfl,by decide+kernel,by decide+kernel⟩
def DH(C:Addr):DF->Option RES:=
  (bf (d1 bu (d1 (l7 C "kinds") (aa 0))))
def nX(C:Addr):List DV->Option DV:=mOf 1 1 (DH C)
theorem zY(T:Txt K mg t):FnOk P w K mg base CX0 1 t.f_q2 t.d_q2 ["self"] (spD K (nX t.C)):=
 T.fn_q2.okD CN fun cdv A outer s H E hr=>(aj (aZ (bO rfl T.b_len (PDE.n (nz T.cl T.na_kinds (af 0 (pv 0)))))))
abbrev ES:List Str:=["self","one","other"]
theorem DI:FnScope ES ["self","one","other"] (defScope qE):=⟨rfl,rfl,rfl,by decide+kernel,rfl,by decide+kernel,by decide+kernel⟩
def CO(C:Addr):DF->Option RES:=
  (bf (gq (d1 (l7 C "joins") (aa 0)) (asT (ah (getV 1) (ah (getV 2) aH))) (asT aH)))
def vk(C:Addr):List DV->Option DV:=mOf 3 3 (CO C)
theorem DD(T:Txt K mg t):FnOk P w K mg base CX0 1 t.f_q1 t.d_q1 ["self","one","other"] (spD K (vk t.C)):=
 T.fn_q1.okD DI fun cdv A outer s H E hr=>(aj (aZ (nF hr.h64 (PDE.r (nz T.cl T.na_joins (af 0 (pv 0)))) (a7 (ag (au 1 (pv 1)) (ag (au 2 (pv 2)) aw))) (a7 aw))))
abbrev wk:List Str:=["web","parting","place","others","pairs"]
theorem qW:FnScope wk ["web","parting","place"] (defScope gy):=⟨rfl,rfl,rfl,by decide+kernel,rfl,by decide+kernel,by decide+kernel⟩
def g_q10(C:Addr):DF->Option RES:=
  (ak (aq 3 (asO (asL (aJ 1 [2] (cy (cS C "size" (nX C) (dh (eU 0) g0))) (setV 0) (asB (d2 neD (ap 0) (ap 1))) (getV 0)))))
  (ak (aq 4 (asO (asL (aJ 1 [1,0,2] (bG 3) (setV 0) bb (asT (ah (d2 ixD (aa 1) (aa 0)) (ah (cS C "between" (vk C) (dh (eU 2) (aV (getV 3) (aV (getV 0) (fun _=>some []))))) aH)))))))
  (bf (asT (ah (d2 ixD (aa 1) (aa 2)) (ah (d1 re (asO (asL (dC (aa 4))))) aH))))))
def pq(C:Addr):List DV->Option DV:=mOf 5 3 (g_q10 C)
theorem Bz(T:Txt K mg t):FnOk P w K mg base CX0 2 t.f_q10 t.d_q10 ["web","parting","place"] (spD K (pq t.C)):=
 T.fn_q10.okD qW fun cdv A outer s H E hr=>(ae (b5 (i:=3) (N:=["other","place"]) (own:=1) (ix:=[2]) (is:=[0]) qW.nd rfl (.inl rfl) rfl (bY (defScope gy) rfl (by decide+kernel)) (bW wk rfl (by decide+kernel)) (bx (by decide)) (a9 rfl T.b_range (PDE.r (nG (lY 0 (pv 0)) T.cl T.mt_q2 (zY T) (hr.mono (by decide)) T.bd_q2))) (fun _ _ _ _=>(aD (i:=0) (show(["other","place"]:List Str).Nodup from by decide+kernel) rfl (.inl rfl))) (fun _ _ _ _=>(sf (lK hr.h64 (ay 0 (pv 0)) (ay 1 (pv 1))))) (fun _ _ _ _=>(au 0 (pv 0))) (by decide+kernel)) (ae (b5 (i:=4) (N:=["other","parting","web","place"]) (own:=1) (ix:=[1,0,2]) (is:=[0]) qW.nd rfl (.inl rfl) rfl (bY (defScope gy) rfl (by decide+kernel)) (bW wk rfl (by decide+kernel)) (bx (by decide)) (b6 3 (pv 3)) (fun _ _ _ _=>(aD (i:=0) (show(["other","parting","web","place"]:List Str).Nodup from by decide+kernel) rfl (.inl rfl))) (fun _ _ _ _=>cq) (fun _ _ _ _=>(a7 (ag (aN (af 1 (pv 1)) (af 0 (pv 0))) (ag (zi (lY 2 (pv 2)) T.cl T.mt_q1 (DD T) (hr.mono (by decide)) T.bd_q1 (aG (au 3 (pv 3)) (aG (au 0 (pv 0)) al))) aw)))) (by decide+kernel)) (aj (aZ (a7 (ag (aN (af 1 (pv 1)) (af 2 (pv 2))) (ag (nZ rfl T.b_tuple (PDE.r (PDO.v (dD hr.h64 rfl T.b_sorted (af 4 (pv 4)))))) aw)))))))
abbrev zJ:List Str:=["web","parting"]
theorem Bp:FnScope zJ ["web","parting"] (defScope ii):=⟨rfl,rfl,rfl,by decide+kernel,rfl,by decide+kernel,by decide+kernel⟩
def g_q11(C:Addr):DF->Option RES:=
  (cN (asL (aJ 1 [0,1] (cy (cS C "size" (nX C) (dh (eU 0) g0))) (setV 0) bb (ai (pq C) (aB 1 (aB 2 (aV (getV 0) (fun _=>some []))))))))
def nO(C:Addr):List DV->Option DV:=mOf 2 2 (g_q11 C)
theorem Ci(T:Txt K mg t):FnOk P w K mg base CX0 3 t.f_q11 t.d_q11 ["web","parting"] (spD K (nO t.C)):=
 T.fn_q11.okD Bp fun cdv A outer s H E hr=>(aj (cg (bw (N:=["place","web","parting"]) (own:=1) (ix:=[0,1]) (is:=[0]) rfl (bY (defScope ii) rfl (by decide+kernel)) (bW zJ rfl (by decide+kernel)) (bx (by decide)) (a9 rfl T.b_range (PDE.r (nG (lY 0 (pv 0)) T.cl T.mt_q2 (zY T) (hr.mono (by decide)) T.bd_q2))) (fun _ _ _ _=>(aD (i:=0) (show(["place","web","parting"]:List Str).Nodup from by decide+kernel) rfl (.inl rfl))) (fun _ _ _ _=>cq) (fun _ _ _ _=>(am (Bz T) (hr.mono (by decide)) rfl T.g_q10 T.fn_q10.kp T.bd_q10 (az 1 (pv 1) (az 2 (pv 2) (aG (au 0 (pv 0)) al))))) (by decide+kernel))))
abbrev Es:List Str:=["web","parting"]
theorem CI:FnScope Es ["web","parting"] (defScope qL):=⟨rfl,rfl,rfl,by decide+kernel,rfl,by decide+kernel,by decide+kernel⟩
def g_q4(C:Addr):DF->Option RES:=
  (cN (jy (jz C) (aV (ai (nO C) (aB 0 (aB 1 (fun _=>some [])))) (fun _=>some []))))
def ib(C:Addr):List DV->Option DV:=mOf 2 2 (g_q4 C)
theorem r8(T:Txt K mg t):FnOk P w K mg base CX0 4 t.f_q4 t.d_q4 ["web","parting"] (spD K (ib t.C)):=
 T.fn_q4.okD CI fun cdv A outer s H E hr=>(aj (cg (i4 (vm T) (hr.mono (by decide)) rfl T.g_q35 T.fn_q35.kp T.bd_q35 (aG (am (Ci T) (hr.mono (by decide)) rfl T.g_q11 T.fn_q11.kp T.bd_q11 (az 0 (pv 0) (az 1 (pv 1) al))) al))))
abbrev CG:List Str:=["web","parting","rounds","following"]
theorem ng:FnScope CG ["web","parting"] (defScope jq):=⟨rfl,rfl,rfl,by decide+kernel,rfl,by decide+kernel,by decide+kernel⟩
def g_q37(C:Addr):DF->Option RES:=
  (ak (cn 2 (asL (ah (asO (asL (g9 (aa 1)))) aH)))
  (ak (aq 3 (ai (ib C) (aB 0 (aB 1 (fun _=>some [])))))
  (ak (eA (asB (d2 neD (ap 3) (d2 ixD (aa 2) (d1 qQ (fun _=>some (.int 1)))))) (ak (cQ 2 (getV 3))
  (aq 3 (ai (ib C) (aB 0 (aB 3 (fun _=>some [])))))) 100)
  (fR 2))))
def iY(C:Addr):List DV->Option DV:=mOf 4 2 (g_q37 C)
theorem p0(T:Txt K mg t):FnOk P w K mg base CX0 5 t.f_q37 t.d_q37 ["web","parting"] (spD K (iY t.C)):=
 T.fn_q37.okD ng fun cdv A outer s H E hr=>(ae (cD (i:=2) ng.nd rfl (.inl rfl) (bU (ag (PDO.v (jG rfl T.b_list (af 1 (pv 1)))) aw))) (ae (aE (i:=3) ng.nd rfl (.inl rfl) (am (r8 T) (hr.mono (by decide)) rfl T.g_q4 T.fn_q4.kp T.bd_q4 (az 0 (pv 0) (az 1 (pv 1) al)))) (ae (xp 100 Zc (lK hr.h64 (ay 3 (pv 3)) (PDE.n (aN (af 2 (pv 2)) (PDE.r (wR ac))))) (ae (bP 2 (pv 2) (au 3 (pv 3))) (aj (aE (i:=3) ng.nd rfl (.inl rfl) (am (r8 T) (hr.mono (by decide)) rfl T.g_q4 T.fn_q4.kp T.bd_q4 (az 0 (pv 0) (az 3 (pv 3) al))))))) (aj (eF 2 (pv 2))))))
abbrev DL:List Str:=["web","parting"]
theorem AM:FnScope DL ["web","parting"] (defScope jR):=⟨rfl,rfl,rfl,by decide+kernel,rfl,by decide+kernel,by decide+kernel⟩
def g_q38(C:Addr):DF->Option RES:=
  (bf (d2 ixD (ai (iY C) (aB 0 (aB 1 (fun _=>some [])))) (d1 qQ (fun _=>some (.int 1)))))
def eV(C:Addr):List DV->Option DV:=mOf 2 2 (g_q38 C)
theorem nv(T:Txt K mg t):FnOk P w K mg base CX0 6 t.f_q38 t.d_q38 ["web","parting"] (spD K (eV t.C)):=
 T.fn_q38.okD AM fun cdv A outer s H E hr=>(aj (aZ (aN (PDE.r (am (p0 T) (hr.mono (by decide)) rfl T.g_q37 T.fn_q37.kp T.bd_q37 (az 0 (pv 0) (az 1 (pv 1) al)))) (PDE.r (wR ac)))))
abbrev C1:List Str:=["_law_one","_law_other","_law_order_here","_law_k"]
theorem wy:FnScope C1 ["_law_one","_law_other","_law_order_here"] (defScope ku):=⟨rfl,rfl,rfl,by decide+kernel,rfl,by decide+kernel,by decide+kernel⟩
def g_q26(C:Addr):DF->Option RES:=
  (ak (dIf (asB (d2 neD (d1 bu (ap 0)) (d1 bu (ap 1)))) (bf (fun _=>some (.bl false))) dNx)
  (ak (dJ (cy (d1 bu (ap 0))) (setV 3) (dIf (cI (asB (ai (dQ C) (aV (d2 ixD (aa 0) (aa 3)) (aV (d2 ixD (aa 1) (aa 3)) (aB 2 (fun _=>some []))))))) (bf (fun _=>some (.bl false))) dNx))
  (bf (fun _=>some (.bl true)))))
def rP(C:Addr):List DV->Option DV:=mOf 4 3 (g_q26 C)
theorem BW(T:Txt K mg t):FnOk P w K mg base CX0 4 t.f_q26 t.d_q26 ["_law_one","_law_other","_law_order_here"] (spD K (rP t.C)):=
 T.fn_q26.okD wy fun cdv A outer s H E hr=>(ae (bF (lK hr.h64 (PDE.n (bO rfl T.b_len (ay 0 (pv 0)))) (PDE.n (bO rfl T.b_len (ay 1 (pv 1))))) (aj (aZ dY)) aM) (ae (cF Zc rfl (a9 rfl T.b_range (PDE.r (bO rfl T.b_len (ay 0 (pv 0))))) (aD (i:=3) wy.nd rfl (.inl rfl)) (aj (bF (cE (cw (am (j4 T) (hr.mono (by decide)) rfl T.g_q20 T.fn_q20.kp T.bd_q20 (aG (aN (af 0 (pv 0)) (af 3 (pv 3))) (aG (aN (af 1 (pv 1)) (af 3 (pv 3))) (az 2 (pv 2) al)))))) (aj (aZ dY)) aM))) (aj (aZ dY))))
abbrev Ey:List Str:=["web"]
theorem CH:FnScope Ey ["web"] (defScope qO):=⟨rfl,rfl,rfl,by decide+kernel,rfl,by decide+kernel,by decide+kernel⟩
def g_q5(C:Addr):DF->Option RES:=
  (bf (ai (eV C) (aB 0 (aV (ai (jz C) (aV (d1 (l7 C "kinds") (aa 0)) (fun _=>some []))) (fun _=>some [])))))
def uX(C:Addr):List DV->Option DV:=mOf 1 1 (g_q5 C)
theorem zB(T:Txt K mg t):FnOk P w K mg base CX0 7 t.f_q5 t.d_q5 ["web"] (spD K (uX t.C)):=
 T.fn_q5.okD CH fun cdv A outer s H E hr=>(aj (aZ (am (nv T) (hr.mono (by decide)) rfl T.g_q38 T.fn_q38.kp T.bd_q38 (az 0 (pv 0) (aG (am (vm T) (hr.mono (by decide)) rfl T.g_q35 T.fn_q35.kp T.bd_q35 (aG (nz T.cl T.na_kinds (af 0 (pv 0))) al)) al)))))
abbrev vV:List Str:=["parting","shared","least"]
theorem pP:FnScope vV ["parting"] (defScope gk):=⟨rfl,rfl,rfl,by decide+kernel,rfl,by decide+kernel,by decide+kernel⟩
def g_q32(C:Addr):DF->Option RES:=
  (ak (aq 1 (asO (asL (aJ 1 [0] (bG 0) (setV 0) (asB (d2 gtI (d2 kM (ap 1) (ap 0)) (fun _=>some (.int 1)))) (getV 0)))))
  (ak (dIf (cI (yB (aa 1))) (cN (asL aH)) dNx)
  (ak (aq 2 (d1 oN (aa 1)))
  (cN (asL (aJ 2 [2] (eD 0) (h9 [0,1]) (asB (d2 eqD (ap 1) (ap 2))) (getV 0)))))))
def ff(C:Addr):List DV->Option DV:=mOf 3 1 (g_q32 C)
theorem qy(T:Txt K mg t):FnOk P w K mg base CX0 1 t.f_q32 t.d_q32 ["parting"] (spD K (ff t.C)):=
 T.fn_q32.okD pP fun cdv A outer s H E hr=>(ae (b5 (i:=1) (N:=["rank","parting"]) (own:=1) (ix:=[0]) (is:=[0]) pP.nd rfl (.inl rfl) rfl (bY (defScope gk) rfl (by decide+kernel)) (bW vV rfl (by decide+kernel)) (bx (by decide)) (b6 0 (pv 0)) (fun _ _ _ _=>(aD (i:=0) (show(["rank","parting"]:List Str).Nodup from by decide+kernel) rfl (.inl rfl))) (fun _ _ _ _=>(sf (iy (PDE.r (oA hr.h64 (ay 1 (pv 1)) (ay 0 (pv 0)))) (PDE.r ac)))) (fun _ _ _ _=>(au 0 (pv 0))) (by decide+kernel)) (ae (bF (cE (zp (af 1 (pv 1)))) (aj (cg (bU aw))) aM) (ae (aE (i:=2) pP.nd rfl (.inr rfl) (yh rfl rfl T.b_min (af 1 (pv 1)))) (aj (cg (bw (N:=["place","rank","least"]) (own:=2) (ix:=[2]) (is:=[0,1]) rfl (bY (defScope gk) rfl (by decide+kernel)) (bW vV rfl (by decide+kernel)) (bx (by decide)) (lH 0 rfl T.b_enumerate (pv 0)) (fun _ _ _ _=>(gE (is:=[0,1]) rfl (ca (cv (i:=0) (show(["place","rank","least"]:List Str).Nodup from by decide+kernel) rfl (.inl rfl)) (ca (cv (i:=1) (show(["place","rank","least"]:List Str).Nodup from by decide+kernel) rfl (.inl rfl)) gG)))) (fun _ _ _ _=>(sf (c9 hr.h64 (ay 1 (pv 1)) (ay 2 (pv 2))))) (fun _ _ _ _=>(au 0 (pv 0))) (by decide+kernel)))))))
abbrev zU:List Str:=["parting","place","own"]
theorem vo:FnScope zU ["parting","place"] (defScope iH):=⟨rfl,rfl,rfl,by decide+kernel,rfl,by decide+kernel,by decide+kernel⟩
def g_q33(C:Addr):DF->Option RES:=
  (ak (aq 2 (d2 ixD (aa 0) (aa 1)))
  (ak (dIf (asB (d2 eqD (d2 kM (ap 0) (ap 2)) (fun _=>some (.int 1)))) (cN (asL (g9 (aa 0)))) dNx)
  (cN (asL (aJ 2 [2,1] (eD 0) (h9 [0,1]) bb (ifV (orT (asB (d2 ltd (ap 1) (ap 2))) (asB (d2 eqD (ap 0) (ap 3)))) (getV 1) (d2 aQ (aa 1) (fun _=>some (.int 1)))))))))
def oO(C:Addr):List DV->Option DV:=mOf 3 2 (g_q33 C)
theorem A3(T:Txt K mg t):FnOk P w K mg base CX0 1 t.f_q33 t.d_q33 ["parting","place"] (spD K (oO t.C)):=
 T.fn_q33.okD vo fun cdv A outer s H E hr=>(ae (aE (i:=2) vo.nd rfl (.inr rfl) (aN (af 0 (pv 0)) (af 1 (pv 1)))) (ae (bF (c9 hr.h64 (PDE.n (oA hr.h64 (ay 0 (pv 0)) (ay 2 (pv 2)))) (PDE.n ac)) (aj (cg (jG rfl T.b_list (af 0 (pv 0))))) aM) (aj (cg (bw (N:=["at","rank","own","place"]) (own:=2) (ix:=[2,1]) (is:=[0,1]) rfl (bY (defScope iH) rfl (by decide+kernel)) (bW zU rfl (by decide+kernel)) (bx (by decide)) (lH 0 rfl T.b_enumerate (pv 0)) (fun _ _ _ _=>(gE (is:=[0,1]) rfl (ca (cv (i:=0) (show(["at","rank","own","place"]:List Str).Nodup from by decide+kernel) rfl (.inl rfl)) (ca (cv (i:=1) (show(["at","rank","own","place"]:List Str).Nodup from by decide+kernel) rfl (.inl rfl)) gG)))) (fun _ _ _ _=>cq) (fun _ _ _ _=>(qw (PDW.t (nj (kb hr.h64 (ay 1 (pv 1)) (ay 2 (pv 2))) (iR (c9 hr.h64 (ay 0 (pv 0)) (ay 3 (pv 3)))))) (au 1 (pv 1)) (aI (af 1 (pv 1)) (PDE.r ac)))) (by decide+kernel))))))
abbrev EQ:List Str:=["web","parting","place"]
theorem Cz:FnScope EQ ["web","parting","place"] (defScope q_):=⟨rfl,rfl,rfl,by decide+kernel,rfl,by decide+kernel,by decide+kernel⟩
def g_q3(C:Addr):DF->Option RES:=
  (bf (ai (eV C) (aB 0 (aV (ai (oO C) (aB 1 (aB 2 (fun _=>some [])))) (fun _=>some [])))))
def kF(C:Addr):List DV->Option DV:=mOf 3 3 (g_q3 C)
theorem z_(T:Txt K mg t):FnOk P w K mg base CX0 7 t.f_q3 t.d_q3 ["web","parting","place"] (spD K (kF t.C)):=
 T.fn_q3.okD Cz fun cdv A outer s H E hr=>(aj (aZ (am (nv T) (hr.mono (by decide)) rfl T.g_q38 T.fn_q38.kp T.bd_q38 (az 0 (pv 0) (aG (am (A3 T) (hr.mono (by decide)) rfl T.g_q33 T.fn_q33.kp T.bd_q33 (az 1 (pv 1) (az 2 (pv 2) al))) al)))))
abbrev v7:List Str:=["_law_script","_law_kinds_here","_law_ties","_law_order_here","_law_web_here","_law_made","_law_copy","_law_parting_here","_law_likewise","_law_one","_law_other","_law_k","_law_places","_law_place"]
theorem cA:FnScope v7 ["_law_script"] (defScope gH):=⟨rfl,rfl,rfl,by decide+kernel,rfl,by decide+kernel,by decide+kernel⟩
def g_q12(C:Addr):DF->Option RES:=
  (ak (nU [1,2] (ai (sL C) (aB 0 (aV (fun _=>some (.int 7)) (aV (fun _=>some (.int 7)) (fun _=>some []))))))
  (ak (aq 3 (ai (ij C) (aB 0 (aV (d1 bu (ap 1)) (aV (fun _=>some (.int 1999483721)) (fun _=>some []))))))
  (ak (aq 4 (asO (fQ C (nN C) (aB 1 (aB 2 (fun _=>some []))))))
  (ak (aq 5 (ai (sO C) (aB 1 (aV (getV 2) (aB 3 (fun _=>some []))))))
  (ak (aq 6 (asO (fQ C (nN C) (aV (d2 ixD (aa 5) (fun _=>some (.int 0))) (aV (d2 ixD (aa 5) (fun _=>some (.int 1))) (fun _=>some []))))))
  (ak (aq 7 (ai (ss C) (aB 0 (aV (d1 bu (ap 1)) (fun _=>some [])))))
  (ak (aq 8 (asO (asL (aJ 1 [7] (bG 3) (setV 0) bb (d2 ixD (aa 1) (aa 0))))))
  (ak (dIf (cI (asB (ai (dQ C) (aV (ai (ib C) (aB 4 (aB 7 (fun _=>some [])))) (aV (ai (ib C) (aB 6 (aB 8 (fun _=>some [])))) (aB 3 (fun _=>some []))))))) (bf (fun _=>some (.bl false))) dNx)
  (ak (dIf (cI (asB (ai (dQ C) (aV (ai (eV C) (aB 4 (aB 7 (fun _=>some [])))) (aV (ai (eV C) (aB 6 (aB 8 (fun _=>some [])))) (aB 3 (fun _=>some []))))))) (bf (fun _=>some (.bl false))) dNx)
  (ak (dIf (cI (asB (ai (rP C) (aV (ai (iY C) (aB 4 (aB 7 (fun _=>some [])))) (aV (ai (iY C) (aB 6 (aB 8 (fun _=>some [])))) (aB 3 (fun _=>some []))))))) (bf (fun _=>some (.bl false))) dNx)
  (ak (aq 9 (ai (uX C) (aB 4 (fun _=>some []))))
  (ak (aq 10 (ai (uX C) (aB 6 (fun _=>some []))))
  (ak (dJ (cy (d1 bu (ap 1))) (setV 11) (ak (dIf (cI (asB (ai (dQ C) (aB 9 (aB 10 (aB 3 (fun _=>some []))))))) (bf (fun _=>some (.bl false))) dNx)
  (ak (aq 12 (ai (ff C) (aB 9 (fun _=>some []))))
  (ak (dIf (asB (d2 neD (asO (asL (dC (asO (asL (aJ 1 [3] (dF (ai (ff C) (aB 10 (fun _=>some [])))) (setV 0) bb (d2 ixD (aa 1) (aa 0)))))))) (ap 12))) (bf (fun _=>some (.bl false))) dNx)
  (ak (dIf (asB (d2 eqD (ap 12) (asO (asL aH)))) (bf (d2 eqD (asO (asL (dC (aa 9)))) (asO (asL (fw (d1 bu (ap 1))))))) dNx)
  (ak (aq 13 (d2 ixD (aa 12) (d2 aL (d2 aW (ai (cC C) (aV (ai (cR C) (aB 0 (aV (d2 aQ (fun _=>some (.int 20)) (aa 11)) (fun _=>some [])))) (aV (fun _=>some (.int 1103527591)) (fun _=>some [])))) (fun _=>some (.int 5))) (d1 bu (ap 12)))))
  (ak (aq 9 (ai (kF C) (aB 4 (aB 9 (aB 13 (fun _=>some []))))))
  (aq 10 (ai (kF C) (aB 6 (aB 10 (aV (d2 iM (ap 3) (ap 13)) (fun _=>some [])))))))))))))
  (bf (ji (ai (dQ C) (aB 9 (aB 10 (aB 3 (fun _=>some []))))) (d2 eqD (ai (ff C) (aB 9 (fun _=>some []))) (asO (asL aH))))))))))))))))))
def wg(C:Addr):List DV->Option DV:=mOf 14 1 (g_q12 C)
theorem AL(T:Txt K mg t):FnOk P w K mg base CX0 8 t.f_q12 t.d_q12 ["_law_script"] (spD K (wg t.C)):=
 T.fn_q12.okD cA fun cdv A outer s H E hr=>(ae (ym (gE (is:=[1,2]) rfl (ca (cv (i:=1) cA.nd rfl (.inl rfl)) (ca (cv (i:=2) cA.nd rfl (.inl rfl)) gG))) (am (BI T) (hr.mono (by decide)) rfl T.g_q29 T.fn_q29.kp T.bd_q29 (az 0 (pv 0) (aG ac (aG ac al))))) (ae (aE (i:=3) cA.nd rfl (.inr rfl) (am (pZ T) (hr.mono (by decide)) rfl T.g_q22 T.fn_q22.kp T.bd_q22 (az 0 (pv 0) (aG (bO rfl T.b_len (ay 1 (pv 1))) (aG ac al))))) (ae (aE (i:=4) cA.nd rfl (.inl rfl) (PDO.v (n9 T.mkC (zF T) (hr.mono (by decide)) rfl T.mgC T.bd_q0 (az 1 (pv 1) (az 2 (pv 2) al))))) (ae (aE (i:=5) cA.nd rfl (.inl rfl) (am (A1 T) (hr.mono (by decide)) rfl T.g_q28 T.fn_q28.kp T.bd_q28 (az 1 (pv 1) (aG (au 2 (pv 2)) (az 3 (pv 3) al))))) (ae (aE (i:=6) cA.nd rfl (.inl rfl) (PDO.v (n9 T.mkC (zF T) (hr.mono (by decide)) rfl T.mgC T.bd_q0 (aG (aN (af 5 (pv 5)) (PDE.r ac)) (aG (aN (af 5 (pv 5)) (PDE.r ac)) al))))) (ae (aE (i:=7) cA.nd rfl (.inr rfl) (am (AV T) (hr.mono (by decide)) rfl T.g_q24 T.fn_q24.kp T.bd_q24 (az 0 (pv 0) (aG (bO rfl T.b_len (ay 1 (pv 1))) al)))) (ae (b5 (i:=8) (N:=["_law_place","_law_parting_here"]) (own:=1) (ix:=[7]) (is:=[0]) cA.nd rfl (.inl rfl) rfl (bY (defScope gH) rfl (by decide+kernel)) (bW v7 rfl (by decide+kernel)) (bx (by decide)) (b6 3 (pv 3)) (fun _ _ _ _=>(aD (i:=0) (show(["_law_place","_law_parting_here"]:List Str).Nodup from by decide+kernel) rfl (.inl rfl))) (fun _ _ _ _=>cq) (fun _ _ _ _=>(aN (af 1 (pv 1)) (af 0 (pv 0)))) (by decide+kernel)) (ae (bF (cE (cw (am (j4 T) (hr.mono (by decide)) rfl T.g_q20 T.fn_q20.kp T.bd_q20 (aG (am (r8 T) (hr.mono (by decide)) rfl T.g_q4 T.fn_q4.kp T.bd_q4 (az 4 (pv 4) (az 7 (pv 7) al))) (aG (am (r8 T) (hr.mono (by decide)) rfl T.g_q4 T.fn_q4.kp T.bd_q4 (az 6 (pv 6) (az 8 (pv 8) al))) (az 3 (pv 3) al)))))) (aj (aZ dY)) aM) (ae (bF (cE (cw (am (j4 T) (hr.mono (by decide)) rfl T.g_q20 T.fn_q20.kp T.bd_q20 (aG (am (nv T) (hr.mono (by decide)) rfl T.g_q38 T.fn_q38.kp T.bd_q38 (az 4 (pv 4) (az 7 (pv 7) al))) (aG (am (nv T) (hr.mono (by decide)) rfl T.g_q38 T.fn_q38.kp T.bd_q38 (az 6 (pv 6) (az 8 (pv 8) al))) (az 3 (pv 3) al)))))) (aj (aZ dY)) aM) (ae (bF (cE (cw (am (BW T) (hr.mono (by decide)) rfl T.g_q26 T.fn_q26.kp T.bd_q26 (aG (am (p0 T) (hr.mono (by decide)) rfl T.g_q37 T.fn_q37.kp T.bd_q37 (az 4 (pv 4) (az 7 (pv 7) al))) (aG (am (p0 T) (hr.mono (by decide)) rfl T.g_q37 T.fn_q37.kp T.bd_q37 (az 6 (pv 6) (az 8 (pv 8) al))) (az 3 (pv 3) al)))))) (aj (aZ dY)) aM) (ae (aE (i:=9) cA.nd rfl (.inl rfl) (am (zB T) (hr.mono (by decide)) rfl T.g_q5 T.fn_q5.kp T.bd_q5 (az 4 (pv 4) al))) (ae (aE (i:=10) cA.nd rfl (.inl rfl) (am (zB T) (hr.mono (by decide)) rfl T.g_q5 T.fn_q5.kp T.bd_q5 (az 6 (pv 6) al))) (ae (cF Zc rfl (a9 rfl T.b_range (PDE.r (bO rfl T.b_len (ay 1 (pv 1))))) (aD (i:=11) cA.nd rfl (.inl rfl)) (ae (bF (cE (cw (am (j4 T) (hr.mono (by decide)) rfl T.g_q20 T.fn_q20.kp T.bd_q20 (az 9 (pv 9) (az 10 (pv 10) (az 3 (pv 3) al)))))) (aj (aZ dY)) aM) (ae (aE (i:=12) cA.nd rfl (.inl rfl) (am (qy T) (hr.mono (by decide)) rfl T.g_q32 T.fn_q32.kp T.bd_q32 (az 9 (pv 9) al))) (ae (bF (lK hr.h64 (PDE.n (PDO.v (dD hr.h64 rfl T.b_sorted (PDE.r (PDO.v (bw (N:=["_law_place","_law_order_here"]) (own:=1) (ix:=[3]) (is:=[0]) rfl (bY (defScope gH) rfl (by decide+kernel)) (bW v7 rfl (by decide+kernel)) (bx (by decide)) (nu (am (qy T) (hr.mono (by decide)) rfl T.g_q32 T.fn_q32.kp T.bd_q32 (az 10 (pv 10) al))) (fun _ _ _ _=>(aD (i:=0) (show(["_law_place","_law_order_here"]:List Str).Nodup from by decide+kernel) rfl (.inl rfl))) (fun _ _ _ _=>cq) (fun _ _ _ _=>(aN (af 1 (pv 1)) (af 0 (pv 0)))) (by decide+kernel))))))) (ay 12 (pv 12))) (aj (aZ dY)) aM) (ae (bF (c9 hr.h64 (ay 12 (pv 12)) (PDE.n (PDO.v (bU aw)))) (aj (aZ (oh hr.h64 (PDE.n (PDO.v (dD hr.h64 rfl T.b_sorted (af 9 (pv 9))))) (PDE.n (PDO.v (fP rfl rfl T.b_list rfl T.b_range (bO rfl T.b_len (ay 1 (pv 1))))))))) aM) (ae (aE (i:=13) cA.nd rfl (.inl rfl) (aN (af 12 (pv 12)) (PDE.r (aY (PDE.r (bv (PDE.r (am (fu T) (hr.mono (by decide)) rfl T.g_q27 T.fn_q27.kp T.bd_q27 (aG (am (jh T) (hr.mono (by decide)) rfl T.g_q13 T.fn_q13.kp T.bd_q13 (az 0 (pv 0) (aG (aI (PDE.r ac) (af 11 (pv 11))) al))) (aG ac al)))) (PDE.r ac))) (PDE.r (bO rfl T.b_len (ay 12 (pv 12)))))))) (ae (aE (i:=9) cA.nd rfl (.inl rfl) (am (z_ T) (hr.mono (by decide)) rfl T.g_q3 T.fn_q3.kp T.bd_q3 (az 4 (pv 4) (az 9 (pv 9) (az 13 (pv 13) al))))) (aj (aE (i:=10) cA.nd rfl (.inl rfl) (am (z_ T) (hr.mono (by decide)) rfl T.g_q3 T.fn_q3.kp T.bd_q3 (az 6 (pv 6) (az 10 (pv 10) (aG (ka hr.h64 (ay 3 (pv 3)) (ay 13 (pv 13))) al))))))))))))) (aj (aZ (fS (am (j4 T) (hr.mono (by decide)) rfl T.g_q20 T.fn_q20.kp T.bd_q20 (az 9 (pv 9) (az 10 (pv 10) (az 3 (pv 3) al)))) (g6 (oh hr.h64 (PDE.n (am (qy T) (hr.mono (by decide)) rfl T.g_q32 T.fn_q32.kp T.bd_q32 (az 9 (pv 9) al))) (PDE.n (PDO.v (bU aw)))))))))))))))))))))
end
theorem dN{st:Dq}{body:Dw}(I:Nat->DF->Prop):∀(ds:List D) (k:Nat) (ρ:DF),I k ρ->
  (∀j d ρ,ds[j]?=some d->I (k+j) ρ->∃ρ1,st d ρ=some ρ1/\∃ρ',body ρ1=some (.nx ρ')/\I (k+j+1) ρ')->∃ρ',eO st body ds ρ=some (.nx ρ')/\I (k+ds.length) ρ'
 |[],k,ρ,h,_=>⟨ρ,rfl,h⟩
 |d::ds,k,ρ,h,hs=>by
  obtain⟨ρ1,e1,ρ',e2,h'⟩:=hs 0 d ρ rfl h;obtain⟨ρ2,e3,h3⟩:=dN I ds (k+1) ρ' h' fun j d' ρ0 hj hI=>by
   have:=hs (j+1) d' ρ0 (by simpa using hj) (by rw[<-Nat.add_assoc,Xz];exact hI)
   rwa [show k+(j+1)+1=k+1+j+1 by omega]at this
  refine⟨ρ2,?_,by rw[Yw,show k+(ds.length+1)=k+1+ds.length by omega];exact h3⟩;unfold eO;rw[e1];simp only[e2];exact e3
theorem gC{st:Dq}{body:Dw}(I:DF->Prop){ds:List D}{ρ:DF}(h:I ρ)
  (hs:∀d∈ds,∀ρ,I ρ->∃ρ1,st d ρ=some ρ1/\∃ρ',body ρ1=some (.nx ρ')/\I ρ'):∃ρ',eO st body ds ρ=some (.nx ρ')/\I ρ':=
 dN (fun _=>I) ds 0 ρ h fun j d ρ hj hI=>hs d (YD hj) ρ hI
theorem bB{st:Dq}{c:Dk}{e:Dd}{ρ:DF}{α:Type}(f:α->D)(F:α->D):∀xs:List α,(∀x∈xs,∃ρ1,st (f x) ρ=some ρ1/\c ρ1=some true/\e ρ1=some (F x))->bD st c e ρ (xs.map f)=some (xs.map F)
 |[],_=>rfl
 |x::xs,h=>by
  obtain⟨ρ1,h1,h2,h3⟩:=h x Ye;rw[YG];unfold bD;rw[h1,Yb,h2,Yb,if_pos rfl,h3,Yb,bB f F xs fun y hy=>h y (Yc _ hy)];rfl
theorem kO{st:Dq}{c:Dk}{e:Dd}{ρ:DF}{α:Type}(f:α->D)(G:α->Prop):∀ds:List D,(∀d∈ds,∃ρ1,st d ρ=some ρ1/\c ρ1=some true/\∃y,e ρ1=some (f y)/\G y)->∃ys:List α,bD st c e ρ ds=some (ys.map f)/\ys.length=ds.length/\∀y∈ys,G y
 |[],_=>⟨[],rfl,rfl,fun _ h=>by cases h⟩
 |x::xs,h=>by
  obtain⟨ρ1,h1,h2,y,h3,h4⟩:=h x Ye;obtain⟨ys,q1,q2,q3⟩:=kO f G xs fun y hy=>h y (Yc _ hy)
  refine⟨y::ys,?_,by simp[q2],fun z hz=>?_⟩
  ·unfold bD;rw[h1,Yb,h2,Yb,if_pos rfl,h3,Yb,q1];rfl
  ·rcases Yr.mp hz with rfl|hz
   ·exact h4
   ·exact q3 z hz
theorem iX(i j:Int):eqd (.int i) (.int j)=decide (i=j):=by
 have h:=cu (.int i) (.int j) rfl;by_cases e:i=j
 ·rw[YK e,h,e]
 ·rw[YB e];cases q:eqd (.int i) (.int j)with
  |false=>rfl
  |true=>exact absurd (by simpa using h.mp q) e
theorem BF(i j:Bool):eqd (.bl i) (.bl j)=decide (i=j):=by
 have h:=cu (.bl i) (.bl j) rfl;by_cases e:i=j
 ·rw[YK e,h,e]
 ·rw[YB e];cases q:eqd (.bl i) (.bl j)with
  |false=>rfl
  |true=>exact absurd (by simpa using h.mp q) e
@[simp] theorem y0(i j:Int):eqD (.int i) (.int j)=some (.bl (decide (i=j))):=by unfold eqD;rw[iX];rfl
@[simp] theorem EA(i j:Bool):eqD (.bl i) (.bl j)=some (.bl (decide (i=j))):=by unfold eqD;rw[BF];rfl
@[simp] theorem nt(i j:Int):neD (.int i) (.int j)=some (.bl (!decide (i=j))):=by unfold neD;rw[iX];rfl
@[simp] theorem Ef(i j:Int):ltd (.int i) (.int j)=some (.bl (decide (i<j))):=rfl
@[simp] theorem Ed(i j:Int):gtI (.int i) (.int j)=some (.bl (decide (j<i))):=rfl
@[simp] theorem Ec(i j:Int):leA (.int i) (.int j)=some (.bl (decide (i<=j))):=rfl
@[simp] theorem Eg(i j:Int):ltI (.int i) (.int j)=some (.bl (decide (i<j))):=rfl
@[simp] theorem Cu(i j:Int):aQ (.int i) (.int j)=some (.int (i+j)):=rfl
@[simp] theorem De(i j:Int):gS (.int i) (.int j)=some (.int (i-j)):=rfl
theorem fg(i j:Int)(h:(-(2^64)<i/\i<2^64)\/(-(2^64)<j/\j<2^64)):fK (.int i) (.int j)=some (.int (i*j)):=if_pos (YK h)
theorem aT(i j:Int)(h:0<j):aL (.int i) (.int j)=some (.int (i%j)):=if_pos (YK h)
theorem bp(i j:Int)(h:0<j/\j<1073741824):aW (.int i) (.int j)=some (.int (i/j)):=if_pos (YK h)
@[simp] theorem En:kB (.int 10) (.int 30)=some (.int 1000000000000000000000000000000):=rfl
section
variable{f fa fb fc:Dd}{fo:Do}{fl:Dl}{fv:Dv}{c c':Dk}{g h:Dw}{ρ:DF}{i j:Nat}{m:Dm}
@[simp] theorem gx:ak g h ρ=match g ρ with|some (.nx ρ')=>h ρ'|r=>r:=rfl
@[simp] theorem bZ:aq i f ρ=(f ρ).map fun d=>.nx (ρ.set i (some (.v d))):=rfl
@[simp] theorem uW:cn i fo ρ=(fo ρ).map fun o=>.nx (ρ.set i (some (.own o none))):=rfl
@[simp] theorem mY:bf f ρ=(f ρ).map fun d=>.rt (.v d) ρ:=rfl
@[simp] theorem d_:cN fo ρ=(fo ρ).map fun o=>.rt (.own o none) ρ:=rfl
@[simp] theorem Dt:fR i ρ=match ρ[i]? with|some (some x)=>some (.rt x ρ)|_=>none:=rfl
@[simp] theorem de:dIf c g h ρ=(c ρ).bind fun b=>if b=true then g ρ else h ρ:=rfl
@[simp] theorem EI:dNx ρ=some (.nx ρ):=rfl
@[simp] theorem D6:sP f ρ=(f ρ).map fun _=>.nx ρ:=rfl
@[simp] theorem Aa{F:D->Option D}:d1 F fa ρ=(fa ρ).bind F:=rfl
@[simp] theorem jx{F:Dy}:d2 F fa fb ρ=(fa ρ).bind fun x=>(fb ρ).bind fun y=>F x y:=rfl
@[simp] theorem Em:getV i ρ=match ρ[i]? with|some (some (.v d))=>some d|_=>none:=rfl
@[simp] theorem Ea:aa i ρ=match ρ[i]? with|some (some (.v d))=>some d|some (some (.own o _))=>if o.flat=true then some o.d else none|some (some (.bor o))=>if o.flat=true then some o.d else none|_=>none:=rfl
@[simp] theorem Ee:ap i ρ=match ρ[i]? with|some (some (.v d))=>some d|some (some (.own o _))=>some o.d|some (some (.bor o))=>some o.d|_=>none:=rfl
@[simp] theorem zH:aB i fv ρ=match ρ[i]? with|some (some (.own o _))=>(fv ρ).map fun xs=>.bor o::xs|some (some (.bor o))=>(fv ρ).map fun xs=>.bor o::xs|some (some (.v d))=>(fv ρ).map fun xs=>.v d::xs|_=>none:=rfl
@[simp] theorem zC:aV f fv ρ=(f ρ).bind fun d=>(fv ρ).map fun xs=>.v d::xs:=rfl
@[simp] theorem pi:ai m fv ρ=(fv ρ).bind fun xs=>(m xs).bind dvD:=rfl
@[simp] theorem CK:jy m fv ρ=(fv ρ).bind fun xs=>(m xs).bind dvO:=rfl
@[simp] theorem f9:asB f ρ=match f ρ with|some (.bl b)=>some b|_=>none:=rfl
@[simp] theorem bX:asL fl ρ=(fl ρ).map .lst:=rfl
@[simp] theorem cH:asO fo ρ=(fo ρ).map OD.d:=rfl
@[simp] theorem Av:asT fl ρ=(fl ρ).map .tup:=rfl
@[simp] theorem we:ah f fl ρ=(f ρ).bind fun d=>(fl ρ).map fun r=>d::r:=rfl
@[simp] theorem Ek:aH ρ=some []:=rfl
@[simp] theorem rW:cI c ρ=(c ρ).map fun b=>!b:=rfl
@[simp] theorem Ei:bb ρ=some true:=rfl
@[simp] theorem xQ{d:D}:setV i d ρ=some (ρ.set i (some (.v d))):=rfl
@[simp] theorem EW:ifV c f fa ρ=(c ρ).bind fun b=>if b=true then f ρ else fa ρ:=rfl
@[simp] theorem ut:g9 f ρ=(f ρ).bind df:=rfl
theorem e8:dC f ρ=(f ρ).bind fun d=>(df d).bind fun ds=>if bh ds=true then some (aP ds)else none:=rfl
theorem sR{it:Dl}{st:Dq}:dJ it st g ρ=(it ρ).bind fun ds=>eO st g ds ρ:=rfl
@[simp] theorem yN:rj i g ρ=match ρ[i]? with|some (some (.own o none))=>g (ρ.set i (some (.v o.d)))|some (some (.v d))=>g ρ|_=>none:=rfl
theorem bm{own:Nat}{ix:List Nat}{it:Dl}{st:Dq}{e:Dd}:aJ own ix it st c e ρ=(it ρ).bind fun ds=>if ds.length<=16777216 then bD st c e (fJ own ix ρ) ds else none:=rfl
@[simp] theorem El:eX c c' ρ=(c ρ).bind fun b=>if b=true then c' ρ else some false:=rfl
@[simp] theorem By:orT c c' ρ=(c ρ).bind fun b=>if b=true then some true else c' ρ:=rfl
@[simp] theorem Eb:ji f fa ρ=match f ρ with|some (.bl true)=>fa ρ|some (.bl false)=>some (.bl false)|_=>none:=rfl
@[simp] theorem E_{F G:Dy}:chD F G fa fb fc ρ=(fa ρ).bind fun x=>(fb ρ).bind fun y=>match F x y with|some (.bl true)=>(fc ρ).bind fun z=>G y z|some (.bl false)=>some (.bl false)|_=>none:=rfl
@[simp] theorem uR:dF f ρ=match f ρ with|some (.lst ds)=>some ds|_=>none:=rfl
@[simp] theorem CB:bG i ρ=match ρ[i]? with|some (some (.bor (.lst ds)))=>some ds|some (some (.v (.lst ds)))=>some ds|_=>none:=rfl
theorem xC:cy f ρ=match f ρ with|some (.int j)=>if -(2^62)<=j/\j<2^62 then some (cP 0 j.toNat)else none|_=>none:=rfl
theorem Bb{b b':DF->Option (Option Int)}:slL f b b' ρ=match f ρ with|some (.lst xs)=>(b ρ).bind fun l=>(b' ρ).map fun h=>gJ xs l h|_=>none:=rfl
@[simp] theorem Ej:cQ i f ρ=match ρ[i]? with|some (some (.own (.lst ds) t))=>(f ρ).bind fun d=>if ds.length<16777216 then some (.nx (ρ.set i (some (.own (.lst (ds++[d])) t))))else none|_=>none:=rfl
@[simp] theorem xm{is:List Nat}:nU is f ρ=(f ρ).bind fun d=>(h9 is d ρ).map .nx:=rfl
@[simp] theorem Fg:bI f ρ=match f ρ with|some (.int i)=>some (some i)|_=>none:=rfl
@[simp] theorem EC:bNo ρ=some none:=rfl
end
@[simp] theorem Fz{ds:List D}:(OD.lst ds).d=.lst ds:=rfl
@[simp] theorem Fn{ds:List (List Key×D)}:(OD.dT ds).d=.dT ds:=rfl
@[simp] theorem FA{ds:List (Key×D)}:(OD.dK ds).d=.dK ds:=rfl
@[simp] theorem Fm{C:Addr}{ds:List (Str×D)}:(OD.ins C ds).d=.ins C ds:=rfl
@[simp] theorem Fx{ds:List D}:(OD.lst ds).flat=true:=rfl
@[simp] theorem Fl{ds:List (List Key×D)}:(OD.dT ds).flat=true:=rfl
@[simp] theorem Fk{ds:List (Key×D)}:(OD.dK ds).flat=true:=rfl
@[simp] theorem Ft{C:Addr}{ds:List (Str×D)}:(OD.ins C ds).flat=true:=rfl
@[simp] theorem Fy{d:D}:dvD (.v d)=some d:=rfl
@[simp] theorem Fh{o:OD}{t:Option Addr}:dvD (.own o t)=some o.d:=rfl
@[simp] theorem Fu{o:OD}{t:Option Addr}:dvO (.own o t)=some o:=rfl
@[simp] theorem Fq{x:DV}{ρ:DF}:cB (some (.rt x ρ))=some x:=rfl
@[simp] theorem Fp{ρ:DF}:cB (some (.nx ρ))=some (.v .non):=rfl
@[simp] theorem Fr{d:D}:i9 (some (.v d))=some (.v d):=rfl
@[simp] theorem FB{o:OD}{t:Option Addr}:i9 (some (.own o t))=some (.bor o):=rfl
@[simp] theorem Fs{o:OD}:i9 (some (.bor o))=some (.bor o):=rfl
@[simp] theorem Eh{own:Nat}{ix:List Nat}{ρ:DF}:fJ own ix ρ=List.replicate own none++ix.map fun j=>i9 (ρ[j]?).join:=rfl
@[simp] theorem Fd{ds:List D}:df (.lst ds)=some ds:=rfl
@[simp] theorem dA{ds:List D}:df (.tup ds)=some ds:=rfl
@[simp] theorem Fj{ds:List D}:bu (.lst ds)=some (.int ds.length):=rfl
@[simp] theorem Fv{ds:List D}:bu (.tup ds)=some (.int ds.length):=rfl
theorem ix1{ds:List D}{i:Int}:ixD (.lst ds) (.int i)=atI ds i:=rfl
theorem ix2{ds:List D}{i:Int}:ixD (.tup ds) (.int i)=atI ds i:=rfl
@[simp] theorem E7{n p:Nat}{g:Dw}{xs:List DV}:mOf n p g xs=if xs.length=p then cB (g (aR n p xs))else none:=rfl
@[simp] theorem Ck{n p:Nat}{xs:List DV}:aR n p xs=xs.map some++List.replicate (n-p) none:=rfl
theorem Bx{x:Int}(h:1<=x/\x<8):x=1\/x=2\/x=3\/x=4\/x=5\/x=6\/x=7:=by
 obtain⟨m,hm⟩:=Xb (show 0<=x-1 by omega);have key:∀m:Fin 7,((m:Nat):Int)+1=1\/((m:Nat):Int)+1=2\/((m:Nat):Int)+1=3\/((m:Nat):Int)+1=4\/((m:Nat):Int)+1=5\/((m:Nat):Int)+1=6\/((m:Nat):Int)+1=7:=by decide
 have:=key ⟨m,by omega⟩
 rwa [show((m:Nat):Int)+1=x by omega]at this
def okW(x:Str):Prop:=1<=x.cps.size/\x.cps.size<=3/\∀c∈x.cps.toList,97<=c/\c<=122
theorem lq{α β:Type}(f:α->β):∀(l:List α) (k:Nat),(l.map f).eraseIdx k=(l.eraseIdx k).map f
 |[],_=>rfl
 |_::_,0=>rfl
 |x::l,k+1=>by rw[YG,XW,XW,YG,lq f l k]
theorem vP{n:Nat}{k:Int}(h0:0<=k)(h1:k<n)(hn:n<1000):rO n (.int k)=some k.toNat:=by
 show(if -(2^63)<=k/\k<2^63 then seqIndex? k n else none)=_;rw[if_pos (by omega)];unfold seqIndex?;simp only;have e:¬k<0:=by omega
 simp[e,h0,h1]
theorem e6{α:Type}:∀(l:List α) (k:Nat) (h:k<l.length),(l[k]::l.eraseIdx k).Perm l
 |x::l,0,_=>.refl _
 |x::l,k+1,h=>by
  have:=e6 l k (by simpa using h);rw[List.getElem_cons_succ,XW];exact(List.Perm.swap _ _ _).trans (this.cons x)
def ar(n:Int):List Int:=(List.range n.toNat).map fun i:Nat=>(i:Int)
theorem aS(n:Int):(ar n).length=n.toNat:=by simp[ar]
theorem bc{n i:Int}:i∈ar n↔0<=i/\i<n:=by
 unfold ar;rw[Yk];constructor
 ·rintro⟨k,hk,rfl⟩;have:=YI.mp hk;omega
 ·rintro⟨h0,h1⟩;exact⟨i.toNat,YI.mpr (by omega),by omega⟩
theorem f8(n:Int):(ar n).Nodup:=by unfold ar;rw[List.Nodup,Vc];exact(XL (n:=n.toNat)).imp fun h e=>h (by omega)
theorem gY(n:Int):cP 0 n.toNat=(ar n).map D.int:=by unfold cP ar;simp
def dP(p:Int×Int):D:=.tup [.int p.1,.int p.2]
def okP(n:Int)(p:Int×Int):Prop:=0<=p.1/\p.1<n/\0<=p.2/\p.2<n/\p.1≠p.2
theorem oZ{n:Nat}{g:Dw}{a:DV}:mOf n 1 g [a]=cB (g (aR n 1 [a])):=rfl
theorem jo{n:Nat}{g:Dw}{a b:DV}:mOf n 2 g [a,b]=cB (g (aR n 2 [a,b])):=rfl
theorem jf{n:Nat}{g:Dw}{a b c:DV}:mOf n 3 g [a,b,c]=cB (g (aR n 3 [a,b,c])):=rfl
theorem mD{n:Int}{j:Nat}{d:D}(h:((ar n).map D.int)[j]?=some d):d=.int (j:Int):=by
 unfold ar at h;rw[Ys,Ys]at h;cases q:(List.range n.toNat)[j]? with
 |none=>rw[q]at h;cases h
 |some k=>
  rw[q]at h;obtain⟨h1,h2⟩:=Yn.mp q;rw[List.getElem_range]at h2;subst h2;cases h;rfl
abbrev T4:=Int×Int×Int×Bool
def dT4(t:T4):D:=.tup [.int t.1,.int t.2.1,.int t.2.2.1,.bl t.2.2.2]
def okT(n:Int)(t:T4):Prop:=0<=t.1/\t.1<n/\0<=t.2.1/\t.2.1<n/\t.1≠t.2.1/\0<=t.2.2.1/\t.2.2.1<1000000000000000000000000000000
theorem jd{α:Type}{l:List α}{i:Int}(h0:0<=i)(h1:i<l.length):atI l i=l[i.toNat]?:=by unfold atI ixN;rw[if_pos h0,if_pos h1];rfl
theorem cY{α β:Type}{l:List α}(f:α->β){i:Int}(h0:0<=i)(h1:i<l.length):∃x,l[i.toNat]?=some x/\atI (l.map f) i=some (f x):=by
 have h:i.toNat<l.length:=by omega
 refine⟨l[i.toNat],Yf h,?_⟩;rw[jd h0 (by rw[Yd];exact h1),Ys,Yf h];rfl
theorem kg{α:Type}(l:List α)(x:α):atI (l++[x]) (-1)=some x:=by
 unfold atI ixN;rw[if_neg (by decide),if_pos (by rw[Yu,YM];omega),Yu,YM];have:(-1+((l.length+1:Nat):Int)).toNat=l.length:=by omega
 rw[this,Yb,Zr (Yl _),Nat.sub_self];rfl
theorem bV{n:Int}{out:List Int}(hn:1<=n)(p:out.Perm (ar n)):(out.length:Int)=n/\out.Nodup/\∀x∈out,0<=x/\x<n:=
 ⟨by rw[p.length_eq,aS];omega,p.nodup_iff.mpr (f8 n),fun x hx=>bc.mp (p.mem_iff.mp hx)⟩
theorem DR{out:List Int}(h:out.Nodup){i j:Nat}{x y:Int}(hi:out[i]?=some x)(hj:out[j]?=some y)(hij:i≠j):x≠y:=by intro e;subst e;obtain⟨h1,h1'⟩:=Yn.mp hi;obtain⟨h2,h2'⟩:=Yn.mp hj;exact hij ((List.getElem_inj h).mp (h1'.trans h2'.symm))
theorem dq{f:Dd}{ρ:DF}{n:Int}(h:f ρ=some (.int n))(hn:0<=n/\n<=1000):cy f ρ=some ((ar n).map .int):=by
 have hb:-(2^62)<=n/\n<2^62:=by omega
 rw[xC,h];simp only;rw[if_pos hb,gY]
theorem ao{g h:Dw}{ρ ρ':DF}(e:g ρ=some (.nx ρ')):ak g h ρ=h ρ':=by rw[gx,e]
theorem fC{g h:Dw}{ρ ρ':DF}{x:DV}(e:g ρ=some (.rt x ρ')):ak g h ρ=some (.rt x ρ'):=by rw[gx,e]
def lf(t:T4):T4:=if t.2.2.2=true\/t.1<t.2.1 then t else(t.2.1,t.1,t.2.2.1,t.2.2.2)
theorem Dh{n:Int}{t:T4}(h:okT n t):okT n (lf t):=by
 unfold lf;split
 ·exact h
 ·obtain⟨a,b,c,d,e,f⟩:=h;exact⟨c,d,a,b,fun q=>e q.symm,f⟩
theorem t5(ts:List T4)(h:ts.length<64):bh (ts.map dT4)=true:=by
 unfold bh;simp only[Yo,YE,Yi,Yd];refine⟨⟨⟨⟨h,?_⟩,?_⟩,?_⟩,?_⟩
 ·intro x hx;obtain⟨t,_,rfl⟩:=Yk.mp hx;rfl
 ·intro x hx y hy;obtain⟨t,_,rfl⟩:=Yk.mp hx;obtain⟨u,_,rfl⟩:=Yk.mp hy;rfl
 ·intro x hx;obtain⟨t,_,rfl⟩:=Yk.mp hx;rfl
 ·intro x hx;obtain⟨t,_,rfl⟩:=Yk.mp hx;rfl
theorem pA(ts:List Int)(h:ts.length<64):bh (ts.map D.int)=true:=by
 unfold bh;simp only[Yo,YE,Yi,Yd];refine⟨⟨⟨⟨h,?_⟩,?_⟩,?_⟩,?_⟩
 ·intro x hx;obtain⟨t,_,rfl⟩:=Yk.mp hx;rfl
 ·intro x hx y hy;obtain⟨t,_,rfl⟩:=Yk.mp hx;obtain⟨u,_,rfl⟩:=Yk.mp hy;rfl
 ·intro x hx;obtain⟨t,_,rfl⟩:=Yk.mp hx;rfl
 ·intro x hx;obtain⟨t,_,rfl⟩:=Yk.mp hx;rfl
theorem gj{α:Type}(f:α->D)(g:D->α)(hg:∀a,g (f a)=a){l:List D}{ts:List α}(h:l.Perm (ts.map f)):∃us:List α,l=us.map f/\us.Perm ts:=by
 refine⟨l.map g,?_,?_⟩
 ·rw[YL]
  conv=>lhs;rw[<-Vi l]
  refine ZQ fun x hx=>?_;obtain⟨t,_,rfl⟩:=Yk.mp (h.mem_iff.mp hx);show _=f (g (f t));rw[hg];rfl
 ·have:=h.map g;rw[YL,show g ∘ f=id from funext hg,Vi]at this;exact this
def Fb:D->T4
 |.tup [.int a,.int b,.int k,.bl o]=>(a,b,k,o)
 |_=>(0,0,0,false)
def unI:D->Int
 |.int a=>a
 |_=>0
theorem xA(ts:List T4):∃us:List T4,aP (ts.map dT4)=us.map dT4/\us.Perm ts:=gj dT4 Fb (fun _=>rfl) (bt _)
def kAt(ks:List Str)(x:Int):Str:=(ks[x.toNat]?).getD ⟨#[]⟩
theorem jS{κ:Type}[DecidableEq κ](k k':κ)(v:D):∀kvs:List (κ×D),dU (fL kvs k v) k'=if k=k' then some v else dU kvs k':=by
 intro kvs;unfold fL;split
 ·rename_i h;induction kvs with
  |nil=>simp at h
  |cons x r ih=>
   obtain⟨q,w⟩:=x;rw[YG];by_cases e:q=k
   ·subst e;by_cases e2:q=k'
    ·simp[ce,e2]
    ·have hr:∀r:List (κ×D),dU (r.map fun kv=>if kv.1=q then(kv.1,v)else kv) k'=dU r k':=by
      intro r;induction r with
      |nil=>rfl
      |cons y r ih=>
       obtain⟨a,b⟩:=y;rw[YG];by_cases e3:a=q
       ·subst e3;simp[ce,e2,ih]
       ·simp[ce,e3,ih]
     simp[ce,e2,hr]
   ·have h':(r.any fun kv=>decide (kv.1=k))=true:=by simpa[e]using h
    have:=ih h';by_cases e2:q=k'
    ·subst e2;simp[ce,e,show ¬k=q from fun z=>e z.symm]
    ·simp only[e,Vk,ce,e2];exact this
 ·rename_i h;induction kvs with
  |nil=>simp[ce,dU]
  |cons x r ih=>
   obtain⟨q,w⟩:=x;have hq:¬q=k:=by intro z;exact h (by simp[z])
   have hr:¬(r.any fun kv=>decide (kv.1=k))=true:=fun z=>h (by simp only[XS,z,Bool.or_true])
   have:=ih hr;rw[List.cons_append,ce,ce,this];by_cases e:k=k'
   ·subst e;simp[hq]
   ·simp[e]
theorem oa{κ:Type}[DecidableEq κ](k:κ)(v:D)(kvs:List (κ×D)):(fL kvs k v).length<=kvs.length+1:=by
 unfold fL;split
 ·simp
 ·simp
theorem oX(x:Int):∀out:List Int,x∈out->eY (.int x) (out.map .int)=some (out.idxOf x)
 |y::out,h=>by
  rw[YG];unfold eY;rw[iX,List.idxOf_cons];by_cases e:y=x
  ·simp[e]
  ·have hx:x∈out:=by rcases Yr.mp h with rfl|h;exact absurd rfl e;exact h
   have e':(y == x)=false:=by simpa using e
   rw[oX x out hx,if_neg (by simpa using e),e'];rfl
theorem pj{α β:Type}(f:α->β)(l:List α)(a b:Option Int):gJ (l.map f) a b=(gJ l a b).map f:=by unfold gJ;rw[Yd,List.map_take,List.map_drop]
def okK(n:Int)(ks:List Str):Prop:=(ks.length:Int)=n/\∀k∈ks,okW k
def okS(n:Int)(ts:List T4):Prop:=ts.length<=12/\∀t∈ts,okT n t
theorem e_{c:Dk}{ρ:DF}(q:Int->Bool):∀xs:List Int,(∀x∈xs,c (ρ.set 0 (some (.v (.int x))))=some (q x))->0<ρ.length->bD (setV 0) c (getV 0) ρ (xs.map .int)=some ((xs.filter q).map .int)
 |[],_,_=>rfl
 |x::xs,h,hl=>by
  have ih:=e_ q xs (fun y hy=>h y (Yc _ hy)) hl;have hx:=h x Ye;rw[YG];unfold bD;rw[xQ,Yb,hx,Yb,List.filter_cons];cases q x with
  |false=>rw[if_neg (by decide),if_neg (by decide),ih]
  |true=>
   have hg:getV 0 (ρ.set 0 (some (.v (.int x))))=some (.int x):=by unfold getV;rw[Zt hl]
   rw[if_pos rfl,if_pos rfl,hg,Yb,ih];rfl
theorem yf{α:Type}(l:List α){k:Int}(h:0<=k):gJ l none (some k)=l.take k.toNat:=by unfold gJ HT.sIx;simp only[List.drop_zero,Nat.sub_zero];rw[if_neg (by omega),<-List.take_take,Xv]
theorem xy(xs ys:List D)(h:xs.length+ys.length<=16777216):aQ (.lst xs) (.lst ys)=some (.lst (xs++ys)):=if_pos h
theorem cM{it:Dl}{st:Dq}{g:Dw}{ρ:DF}{ds:List D}{r:RES}(h:it ρ=some ds)(e:eO st g ds ρ=some r):dJ it st g ρ=some r:=by rw[sR,h];exact e
theorem kj(C:Addr)(x:Str)(h:okW x):vc C [.v (.str x)]=some (.v (.bl true)):=by
 obtain⟨h1,h3,hc⟩:=h;have e1:bD (setV 0) bb (chD leA leA (fun _=>some (.str "a")) (ap 0) (fun _=>some (.str "z"))) [none] (L2.signs x)=some (x.cps.toList.map fun _=>D.bl true):=by
  unfold L2.signs;refine bB (fun c=>D.str ⟨#[c]⟩) (fun _=>D.bl true) _ fun c hm=>?_;obtain⟨c1,c2⟩:=hc c hm;refine⟨[some (.v (.str ⟨#[c]⟩))],rfl,rfl,?_⟩;have l1:leA (.str "a") (.str ⟨#[c]⟩)=some (.bl true):=by
   show some (D.bl (!decide ([c] < [97])))=_;have:¬([c] < [97]):=fun h=>by rcases List.cons_lt_cons_iff.mp h with h|⟨_,h⟩;omega;exact absurd h (List.not_lt_nil _)
   rw[YB this];rfl
  have l2:leA (.str ⟨#[c]⟩) (.str "z")=some (.bl true):=by
   show some (D.bl (!decide ([122] < [c])))=_;have:¬([122] < [c]):=fun h=>by rcases List.cons_lt_cons_iff.mp h with h|⟨_,h⟩;omega;exact absurd h (List.not_lt_nil _)
   rw[YB this];rfl
  simp[l1,l2]
 have hsz:(L2.signs x).length<=16777216:=by unfold L2.signs;rw[Yd,Yz];omega
 have e2:uN (.lst (x.cps.toList.map fun _=>D.bl true))=some (.bl true):=by
  have a1:((x.cps.toList.map fun _=>D.bl true).all og)=true:=by simp[og]
  have a2:((x.cps.toList.map fun _=>D.bl true).all trD)=true:=by simp[trD]
  show(if((x.cps.toList.map fun _=>D.bl true).all og)=true then some (D.bl ((x.cps.toList.map fun _=>D.bl true).all trD))else none)=_;rw[if_pos a1,a2]
 have e3:bu (.str x)=some (.int (x.cps.size:Int)):=if_pos (show x.cps.size<=16777216 by omega);have d1':aJ 1 [] (pB (getV 0)) (setV 0) bb (chD leA leA (fun _=>some (.str "a")) (ap 0) (fun _=>some (.str "z"))) [some (.v (.str x)),none]=some (x.cps.toList.map fun _=>D.bl true):=by have:pB (getV 0) [some (.v (.str x)),none]=some (L2.signs x):=rfl;rw[bm,this,Yb,if_pos hsz];exact e1
 unfold vc g_q6;have g1:(1:Int)<=(x.cps.size:Int):=by omega
 have g2:(x.cps.size:Int)<=3:=by omega
 generalize (chD leA leA (fun _=>some (.str "a")) (ap 0) (fun _=>some (.str "z")))=E' at d1' ⊢;generalize (x.cps.toList.map fun _=>D.bl true)=L at *;simp[d1',e2,e3,g1,g2]
theorem Ak(C:Addr)(t:T4)(n:Int)(h:okT n t):tQ C [.v (dT4 t),.v (.int n)]=some (.v (.bl true)):=by
 obtain⟨a,b,k,o⟩:=t;obtain⟨a0,a1,b0,b1,ab,k0,k1⟩:=h;simp only at a0 a1 b0 b1 ab k0 k1;have ea:atI [D.int a,.int b,.int k,.bl o] 0=some (.int a):=rfl;have eb:atI [D.int a,.int b,.int k,.bl o] 1=some (.int b):=rfl;have ek:atI [D.int a,.int b,.int k,.bl o] 2=some (.int k):=rfl;have hk:wO C [.v (.int k)]=some (.v (.bl true)):=by simp[wO,g_q8,k0,k1]
 unfold tQ g_q7;generalize wO C=M at hk ⊢;simp[dT4,ix2,ea,eb,ek,a0,a1,b0,b1,ab,hk]
theorem uJ(C:Addr)(ks:List Str)(ts:List T4)(n:Int)(hn:1<=n/\n<=7)(hk:okK n ks)(hs:okS n ts):nW C [.v (.lst (ks.map .str)),.v (.lst (ts.map dT4))]=some (.v .non):=by
 have hP:=kj C;have hT:∀t,okT n t->tQ C [.v (dT4 t),.v (.int n)]=some (.v (.bl true)):=fun t h=>Ak C t n h
 unfold nW g_q36;generalize vc C=P at hP ⊢;generalize tQ C=T at hT ⊢;have hkl:(ks.length:Int)=n:=hk.1;have g1:1<=n:=hn.1;have g2:n<=7:=hn.2;have g3:¬(12:Int)<(ts.length:Int):=by have:=hs.1;omega
 have q1:∀G,(ak (dIf (cI (asB (chD leA leA (fun _=>some (.int 1)) (d1 bu (ap 0)) (fun _=>some (.int 7))))) gi dNx) (ak (dIf (asB (d2 gtI (d1 bu (ap 1)) (fun _=>some (.int 12)))) gi dNx) G)) (aR 4 2 [.v (.lst (ks.map .str)),.v (.lst (ts.map dT4))])=G [some (.v (.lst (ks.map .str))),some (.v (.lst (ts.map dT4))),none,none]:=by intro G;simp[hkl,g1,g2,g3]
 obtain⟨z1,e1,y2,rfl⟩:=gC (st:=setV 2) (body:=(dIf (cI (asB (ai P (aV (getV 2) (fun _=>some []))))) gi dNx)) (fun ρ=>∃x2,ρ=[some (.v (.lst (ks.map .str))),some (.v (.lst (ts.map dT4))),x2,none]) (ds:=ks.map .str) (ρ:=[some (.v (.lst (ks.map .str))),some (.v (.lst (ts.map dT4))),none,none]) ⟨_,rfl⟩ (by
  rintro d hd _ ⟨x2,rfl⟩;obtain⟨k,hk',rfl⟩:=Yk.mp hd;have:=hP k (hk.2 k hk');refine⟨[some (.v (.lst (ks.map .str))),some (.v (.lst (ts.map dT4))),some (.v (.str k)),none],rfl,[some (.v (.lst (ks.map .str))),some (.v (.lst (ts.map dT4))),some (.v (.str k)),none],?_,_,rfl⟩;simp[this])
 obtain⟨z2,e2,y3,rfl⟩:=gC (st:=setV 3) (body:=(dIf (cI (asB (ai T (aB 3 (aV (d1 bu (ap 0)) (fun _=>some [])))))) gi dNx)) (fun ρ=>∃x3,ρ=[some (.v (.lst (ks.map .str))),some (.v (.lst (ts.map dT4))),y2,x3]) (ds:=ts.map dT4) (ρ:=[some (.v (.lst (ks.map .str))),some (.v (.lst (ts.map dT4))),y2,none]) ⟨_,rfl⟩ (by
  rintro d hd _ ⟨x2,rfl⟩;obtain⟨k,hk',rfl⟩:=Yk.mp hd;have:=hT k (hs.2 k hk');refine⟨[some (.v (.lst (ks.map .str))),some (.v (.lst (ts.map dT4))),y2,some (.v (dT4 k))],rfl,[some (.v (.lst (ks.map .str))),some (.v (.lst (ts.map dT4))),y2,some (.v (dT4 k))],?_,_,rfl⟩;simp[hkl,this])
 rw[jo,q1,ao (cM (ds:=ks.map D.str) rfl e1),cM (ds:=ts.map dT4) rfl e2];rfl
theorem tT(C:Addr)(t:T4):o_ C [.v (dT4 t)]=some (.v (dT4 (lf t))):=by
 obtain⟨a,b,k,o⟩:=t;have ea:atI [D.int a,.int b,.int k,.bl o] 0=some (.int a):=rfl;have eb:atI [D.int a,.int b,.int k,.bl o] 1=some (.int b):=rfl;have ek:atI [D.int a,.int b,.int k,.bl o] 2=some (.int k):=rfl;have eo:atI [D.int a,.int b,.int k,.bl o] 3=some (.bl o):=rfl;unfold o_ g_q31;cases o with
 |true=>simp[dT4,ix2,ea,eb,ek,eo,lf]
 |false=>
  by_cases h:a<b
  ·simp[dT4,ix2,ea,eb,ek,eo,lf,h]
  ·simp[dT4,ix2,ea,eb,ek,eo,lf,h]
theorem w6(ts:List (Int×Int))(h:ts.length<64):bh (ts.map dP)=true:=by
 unfold bh;simp only[Yo,YE,Yi,Yd];refine⟨⟨⟨⟨h,?_⟩,?_⟩,?_⟩,?_⟩
 ·intro x hx;obtain⟨t,_,rfl⟩:=Yk.mp hx;rfl
 ·intro x hx y hy;obtain⟨t,_,rfl⟩:=Yk.mp hx;obtain⟨u,_,rfl⟩:=Yk.mp hy;rfl
 ·intro x hx;obtain⟨t,_,rfl⟩:=Yk.mp hx;rfl
 ·intro x hx;obtain⟨t,_,rfl⟩:=Yk.mp hx;rfl
def unP:D->Int×Int
 |.tup [.int a,.int b]=>(a,b)
 |_=>(0,0)
theorem xn{j:Nat}{fk fv:Dd}{ρ:DF}:sd j fk fv ρ=match ρ[j]? with
 |some (some (.own (.dT kvs) t))=>(fv ρ).bind fun v=>(fk ρ).bind fun y=>(mV y).bind fun k=>if kvs.length<16777216 then some (.nx (ρ.set j (some (.own (.dT (fL kvs k v)) t))))else none
 |_=>none:=rfl
theorem i8{fd fk fx:Dd}{ρ:DF}:gq fd fk fx ρ=match fd ρ with
 |some (.dT kvs)=>(fk ρ).bind fun y=>(mV y).bind fun k=>(fx ρ).map fun x=>(dU kvs k).getD x
 |_=>none:=rfl
def wFs(ks:List Str)(T J:D):List (Str×D):=[("kinds",.lst (ks.map .str)),("ties",T),("joins",J)]
theorem n1:¬(("kinds":Str) = "ties"):=by decide+kernel
theorem n2:¬(("kinds":Str) = "joins"):=by decide+kernel
theorem n3:¬(("ties":Str) = "joins"):=by decide+kernel
theorem b1:(("ties":Str) == "kinds")=false:=by decide+kernel
theorem b2:(("size":Str) == "kinds")=false:=by decide+kernel
theorem b3:(("size":Str) == "ties")=false:=by decide+kernel
theorem b4:(("size":Str) == "joins")=false:=by decide+kernel
theorem lX{C:Addr}{fs:List (Str×D)}{n:Str}:l7 C n (.ins C fs)=fs.lookup n:=if_pos rfl
theorem lx(C:Addr)(ks:List Str)(T J:D):l7 C "kinds" (.ins C (wFs ks T J))=some (.lst (ks.map .str)):=by rw[lX];unfold wFs;simp
theorem yj(ks:List Str)(T J:D):(wFs ks T J).lookup ("size":Str)=none:=by unfold wFs;simp[List.lookup,b2,b3,b4]
theorem xt{C:Addr}{i:Nat}{n:Str}{fv:Dd}{ρ:DF}:lG C i n fv ρ=match ρ[i]? with
 |some (some (.own (.ins C' fs) t))=>if C'=C then(fv ρ).bind fun d=>if fs.length<1000 then some (.nx (ρ.set i (some (.own (.ins C (jI n d fs)) t))))else none else none
 |_=>none:=rfl
def srt(ts:List T4):List D:=aP ((ts.map lf).map dT4)
theorem ls(r:List Int):okN 30 (.lst (r.map .int))=true:=by show(r.map D.int).all (okN 29)=true;rw[Yi];intro x hx;obtain⟨t,_,rfl⟩:=Yk.mp hx;rfl
theorem o9:∀a b:List Int,bi (a.map .int) (b.map .int)=true
 |[],_=>rfl
 |_::_,[]=>rfl
 |x::a,y::b=>by
  rw[YG,YG];show(aA (.int x) (.int y)&&bi (a.map .int) (b.map .int))=true;rw[o9 a b];rfl
theorem n4{a b:List Int}(h:a.map D.int=b.map D.int):a=b:=by have:=Zs (List.map unI) h;rw[YL,YL,show unI ∘ D.int=id from rfl,Vi,Vi]at this;exact this
theorem B6{n:Int}{ks:List Str}{r:List Int}(hn:1<=n)(hk:okK n ks)(p:r.Perm (ar n)):okK n (r.map (kAt ks)):=by
 obtain⟨hl,hd,hm⟩:=bV hn p;refine⟨by rw[Yd];exact hl,fun k h=>?_⟩;obtain⟨x,hx,rfl⟩:=Yk.mp h;obtain⟨x0,x1⟩:=hm x hx;have hkl:=hk.1;have hlt:x.toNat<ks.length:=by omega
 unfold kAt;rw[Yf hlt];exact hk.2 _ (Xf hlt)
theorem js{α:Type}(f:α->D)(h:∀x y,aA (f x) (f y)=true):∀a b:List α,bi (a.map f) (b.map f)=true
 |[],_=>rfl
 |_::_,[]=>rfl
 |x::a,y::b=>by
  rw[YG,YG];show(aA (f x) (f y)&&bi (a.map f) (b.map f))=true;rw[js f h a b,h];rfl
theorem oE{α:Type}(f:α->D)(h:∀x y,aA (f x) (f y)=true)(a:List α):eqd (.lst (a.map f)) (.lst (a.map f))=true:=(gl _ _ (js f h a a)).mpr rfl
theorem u8{x y:D}(hx:okN 30 x=true)(hy:okN 30 y=true):eqD x y=some (.bl (eqd x y)):=if_pos (by rw[hx,hy];rfl)
theorem BL{x y:D}(hx:okN 30 x=true)(hy:okN 30 y=true):neD x y=some (.bl (!eqd x y)):=if_pos (by rw[hx,hy];rfl)
theorem BU(ps:List (Int×Int)):Cmps 28 (ps.map dP):=
 ⟨fun x hx=>by obtain⟨t,_,rfl⟩:=Yk.mp hx;rfl,fun x hx y hy=>by obtain⟨t,_,rfl⟩:=Yk.mp hx;obtain⟨u,_,rfl⟩:=Yk.mp hy;rfl⟩
def prs(i j:Int)(t:T4):List (Int×Int):=(if t.1=i/\t.2.1=j then[(t.2.2.1,if t.2.2.2=true then 1 else 0)]else[])++(if t.2.1=i/\t.1=j then[(t.2.2.1,if t.2.2.2=true then 2 else 0)]else[])
def bJ(i j:Int):List T4->List (Int×Int)
 |[]=>[]
 |t::ts=>prs i j t++bJ i j ts
def srP(ps:List (Int×Int)):D:=.tup (aP (ps.map dP))
theorem jP{ps qs:List (Int×Int)}(h:ps.Perm qs):srP ps=srP qs:=by unfold srP;rw[cU (h.map dP) (BU _)]
theorem v_(i j:Int)(ts us:List T4):bJ i j (ts++us)=bJ i j ts++bJ i j us:=by
 induction ts with
 |nil=>rfl
 |cons t ts ih=>
  show prs i j t++bJ i j (ts++us)=prs i j t++bJ i j ts++bJ i j us;rw[ih,Xn]
theorem vi(i j:Int)(ts:List T4)(t:T4):bJ i j (ts++[t])=bJ i j ts++prs i j t:=by rw[v_];show _++(prs i j t++[])=_;rw[Zf]
theorem k7{i j:Int}{ts us:List T4}(h:ts.Perm us):(bJ i j ts).Perm (bJ i j us):=by
 induction h with
 |nil=>exact .refl _
 |cons t _ ih=>exact ih.append_left _
 |swap a b l=>
  show(prs i j b++(prs i j a++bJ i j l)).Perm (prs i j a++(prs i j b++bJ i j l));rw[<-Xn,<-Xn];exact List.perm_append_comm.append_right _
 |trans _ _ h1 h2=>exact h1.trans h2
theorem Cf(i j:Int)(t:T4)(h:t.1≠t.2.1):prs i j (lf t)=prs i j t:=by
 obtain⟨a,b,k,o⟩:=t;simp only at h;unfold lf;split
 ·rfl
 ·rename_i q;have ho:o=false:=by cases o with|false=>rfl|true=>exact absurd (Or.inl rfl) q
  subst ho;unfold prs;by_cases h1:a=i/\b=j
  ·have h2:¬(b=i/\a=j):=fun z=>h (by rw[h1.1,<-z.1])
   simp[h1,h2];simp[h1]at h2;split
   ·rename_i z;exact absurd z.2 (h2 z.1)
   ·rfl
  ·by_cases h2:b=i/\a=j
   ·simp[h1,h2];simp[h2]at h1;split
    ·rename_i z;exact absurd z.2 (h1 z.1)
    ·rfl
   ·simp[h1,h2]
theorem xM(i j:Int)(ts:List T4)(h:∀t∈ts,t.1≠t.2.1):bJ i j (ts.map lf)=bJ i j ts:=by
 induction ts with
 |nil=>rfl
 |cons t ts ih=>
  show prs i j (lf t)++bJ i j (ts.map lf)=prs i j t++bJ i j ts;rw[Cf i j t (h t Ye),ih fun u hu=>h u (Yc _ hu)]
theorem zn(i j:Int)(t:T4):(prs i j t).length<=2:=by
 unfold prs;rw[Yu];have h1:∀(c:Prop) [Decidable c] (x:Int×Int),(if c then[x]else[]).length<=1:=fun c _ x=>by split<;>simp
 have:=h1 (t.1=i/\t.2.1=j) (t.2.2.1,if t.2.2.2=true then 1 else 0);have:=h1 (t.2.1=i/\t.1=j) (t.2.2.1,if t.2.2.2=true then 2 else 0);omega
theorem oI(i j:Int)(ts:List T4):(bJ i j ts).length<=2*ts.length:=by
 induction ts with
 |nil=>exact Yl _
 |cons t ts ih=>
  show(prs i j t++bJ i j ts).length<=2*(ts.length+1);rw[Yu];have:=zn i j t;omega
def JOk(kvs:List (List Key×D))(ts:List T4):Prop:=∀i j:Int,dU kvs [.inl i,.inl j]=if bJ i j ts=[]then none else some (srP (bJ i j ts))
theorem JOk.get{kvs:List (List Key×D)}{ts:List T4}(h:JOk kvs ts)(i j:Int):(dU kvs [.inl i,.inl j]).getD (.tup [])=srP (bJ i j ts):=by
 rw[h i j];split
 ·rename_i q;rw[q];rfl
 ·rfl
theorem rf{a b i j:Int}(h:¬(a=i/\b=j)):¬([.inl a,.inl b]:List Key)=[.inl i,.inl j]:=by intro q;injection q with q1 q2;injection q2 with q2 _;exact h ⟨Sum.inl.inj q1,Sum.inl.inj q2⟩
theorem CA(C:Addr)(kvs:List (List Key×D))(a b k f:Int)(ps:List (Int×Int))(hg:(dU kvs [.inl a,.inl b]).getD (.tup [])=srP ps)(pl:ps.length<=50)(hkl:kvs.length<1000) :
  jY C (.dT kvs) [.v (.tup [.int a,.int b]),.v (.tup [.int k,.int f])]=some (.dT (fL kvs [.inl a,.inl b] (srP (ps++[(k,f)]))),.non):=by
 obtain⟨us,eu,up⟩:=gj dP unP (fun _=>rfl) (bt (ps.map dP));have hg':(dU kvs [.inl a,.inl b]).getD (.tup [])=.tup (us.map dP):=hg.trans (Zs D.tup eu);have ul:us.length<=50:=by rw[up.length_eq];exact pl
 have ha:aQ (.tup (us.map dP)) (.tup [.tup [.int k,.int f]])=some (.tup ((us++[(k,f)]).map dP)):=by rw[Zq];exact if_pos (by rw[Yd];show us.length+1<=_;omega)
 have hso:=w6 (us++[(k,f)]) (by rw[Yu,YM];omega);have hs:D.tup (aP ((us++[(k,f)]).map dP))=srP (ps++[(k,f)]):=jP (up.append_right _);rw[<-hs];refine sC rfl rfl fun ad=>⟨.nx [some (.own (.dT (fL kvs [.inl a,.inl b] (.tup (aP ((us++[(k,f)]).map dP))))) (some ad)),some (.v (.tup [.int a,.int b])),some (.v (.tup [.int k,.int f]))],?_,rfl,rfl⟩
 have hkl':kvs.length<16777216:=by omega
 generalize (us++[(k,f)]).map dP=L at *;generalize us.map dP=L0 at *;unfold g_q34;simp[xn,i8,mV,fi,yM,hg',ha,e8,hso,re,hkl']
theorem D7(a b k:Int)(o:Bool)(hab:a≠b):prs a b (a,b,k,o)=[(k,if o=true then 1 else 0)]:=by show(if a=a/\b=b then[(k,if o=true then(1:Int)else 0)]else[])++(if b=a/\a=b then[(k,if o=true then(2:Int)else 0)]else[])=_;rw[if_pos (⟨rfl,rfl⟩:a=a/\b=b),if_neg (fun z:b=a/\a=b=>hab z.2)];rfl
theorem CW(a b k:Int)(o:Bool)(hab:a≠b):prs b a (a,b,k,o)=[(k,if o=true then 2 else 0)]:=by show(if a=b/\b=a then[(k,if o=true then(1:Int)else 0)]else[])++(if b=b/\a=a then[(k,if o=true then(2:Int)else 0)]else[])=_;rw[if_pos (⟨rfl,rfl⟩:b=b/\a=a),if_neg (fun z:a=b/\b=a=>hab z.1)];rfl
theorem DC(i j a b k:Int)(o:Bool)(h1:¬(b=i/\a=j))(h2:¬(a=i/\b=j)):prs i j (a,b,k,o)=[]:=by show(if a=i/\b=j then[(k,if o=true then(1:Int)else 0)]else[])++(if b=i/\a=j then[(k,if o=true then(2:Int)else 0)]else[])=_;rw[if_neg h2,if_neg h1];rfl
theorem JOk.step{kvs:List (List Key×D)}{ts:List T4}(h:JOk kvs ts)(a b k:Int)(o:Bool)(hab:a≠b) :
  JOk (fL (fL kvs [.inl a,.inl b] (srP (bJ a b ts++[(k,if o=true then 1 else 0)]))) [.inl b,.inl a] (srP (bJ b a ts++[(k,if o=true then 2 else 0)]))) (ts++[(a,b,k,o)]):=by
 intro i j;rw[vi,jS,jS];by_cases h1:b=i/\a=j
 ·obtain⟨rfl,rfl⟩:=h1;rw[CW a b k o hab];generalize (k,if o=true then(2:Int)else 0)=q;rw[if_pos rfl,if_neg (by simp)]
 ·rw[if_neg (rf h1)];by_cases h2:a=i/\b=j
  ·obtain⟨rfl,rfl⟩:=h2;rw[D7 a b k o hab];generalize (k,if o=true then(1:Int)else 0)=q;rw[if_pos rfl,if_neg (by simp)]
  ·rw[if_neg (rf h2),h i j,DC i j a b k o h1 h2,Zf]
theorem v9{α:Type}{l:List α}{j:Nat}{x:α}(h:l[j]?=some x):l.take (j+1)=l.take j++[x]:=by rw[XF,h];rfl
theorem zg(C:Addr)(ts:List T4)(hl:ts.length<=12)(hd:∀t∈ts,t.1≠t.2.1):∃kvs,vv C [.v (.lst (ts.map dT4))]=some (.own (.dT kvs) none)/\JOk kvs ts:=by
 have hM:=CA C;unfold vv g_q9;generalize jY C=M at hM ⊢;obtain⟨z,e,kvs,y2,y3,y4,y5,rfl,hk,hJ⟩:=dN (st:=h9 [2,3,4,5]) (body:=(ak (fA K0 1 M (aV (asT (ah (getV 2) (ah (getV 3) aH))) (aV (asT (ah (getV 4) (ah (ifV (asB (getV 5)) (fun _=>some (.int 1)) (fun _=>some (.int 0))) aH))) (fun _=>some []))))
  (fA K0 1 M (aV (asT (ah (getV 3) (ah (getV 2) aH))) (aV (asT (ah (getV 4) (ah (ifV (asB (getV 5)) (fun _=>some (.int 2)) (fun _=>some (.int 0))) aH))) (fun _=>some []))))))
  (fun j ρ=>∃(kvs:List (List Key×D)) (x2 x3 x4 x5:Option DV),ρ=[some (.v (.lst (ts.map dT4))),some (.own (.dT kvs) none),x2,x3,x4,x5]/\kvs.length<=2*j/\JOk kvs (ts.take j)) (ts.map dT4) 0
  [some (.v (.lst (ts.map dT4))),some (.own (.dT []) none),none,none,none,none] ⟨[],_,_,_,_,rfl,Yl _,fun _ _=>rfl⟩ (by
   rintro j d _ hj ⟨kvs,x2,x3,x4,x5,rfl,hk,hJ⟩;rw[ZB]at hk hJ ⊢;rw[Ys]at hj;cases ht:ts[j]? with
   |none=>rw[ht]at hj;cases hj
   |some t=>
   rw[ht]at hj;cases hj;have hlt:j<ts.length:=(Yn.mp ht).1;obtain⟨a,b,k,o⟩:=t;have hab:a≠b:=hd _ (YD ht);have l1:=oI a b (ts.take j);have l2:=oI b a (ts.take j);have l3:(ts.take j).length<=12:=by rw[ZN];omega
   have e1:=hM kvs a b k (if o=true then 1 else 0) _ (hJ.get a b) (by omega) (by omega);have l4:=oa [.inl a,.inl b] (srP (bJ a b (ts.take j)++[(k,if o=true then 1 else 0)])) kvs;have g2:(dU (fL kvs [.inl a,.inl b] (srP (bJ a b (ts.take j)++[(k,if o=true then 1 else 0)]))) [.inl b,.inl a]).getD (.tup [])=srP (bJ b a (ts.take j)):=by rw[jS,if_neg (rf fun z=>hab z.1)];exact hJ.get b a
   have e2:=hM _ b a k (if o=true then 2 else 0) _ g2 (by omega) (by omega);have hs:=hJ.step a b k o hab;rw[<-v9 ht]at hs;have l5:=oa [.inl b,.inl a] (srP (bJ b a (ts.take j)++[(k,if o=true then 2 else 0)])) (fL kvs [.inl a,.inl b] (srP (bJ a b (ts.take j)++[(k,if o=true then 1 else 0)])));generalize fL kvs [.inl a,.inl b] (srP (bJ a b (ts.take j)++[(k,if o=true then 1 else 0)]))=kvs1 at *;generalize fL kvs1 [.inl b,.inl a] (srP (bJ b a (ts.take j)++[(k,if o=true then 2 else 0)]))=kvs2 at *;refine⟨[some (.v (.lst (ts.map dT4))),some (.own (.dT kvs) none),some (.v (.int a)),some (.v (.int b)),some (.v (.int k)),some (.v (.bl o))],rfl,[some (.v (.lst (ts.map dT4))),some (.own (.dT kvs2) none),some (.v (.int a)),some (.v (.int b)),some (.v (.int k)),some (.v (.bl o))],?_,kvs2,_,_,_,_,rfl,by omega,hs⟩;clear g2 hs hJ l1 l2 l3 l4 l5 hM;cases o with
   |true=>
    simp only[VV]at e1 e2;simp[fA,mo,yu,e1,e2]
   |false=>
    simp at e1 e2;simp[fA,mo,yu,e1,e2])
 rw[ZB,Yd,Xv]at hJ;refine⟨kvs,?_,hJ⟩;rw[oZ];have s0:cn 1 (fun _=>some (.dT [])) (aR 6 1 [.v (.lst (ts.map dT4))])=some (.nx [some (.v (.lst (ts.map dT4))),some (.own (.dT []) none),none,none,none,none]):=rfl;rw[ao s0,ao (cM (ds:=ts.map dT4) rfl e)];rfl
theorem JOk.perm{kvs:List (List Key×D)}{us ts:List T4}(h:JOk kvs us)(p:∀i j,(bJ i j us).Perm (bJ i j ts)):JOk kvs ts:=by
 intro i j;have hp:=p i j;rw[h i j,jP hp];by_cases q:bJ i j us=[]
 ·rw[q]at hp;rw[if_pos q,if_pos hp.symm.eq_nil]
 ·rw[if_neg q,if_neg fun z=>q (by rw[z]at hp;exact hp.eq_nil)]
theorem AF(C:Addr)(ks:List Str)(ts:List T4)(n:Int)(hn:1<=n/\n<=7)(hk:okK n ks)(hs:okS n ts):∃kvs,JOk kvs ts/\nN C (.ins C []) [.v (.lst (ks.map .str)),.v (.lst (ts.map dT4))]=some (.ins C (wFs ks (.lst (srt ts)) (.dT kvs)),.non):=by
 have hR:=uJ C ks ts n hn hk hs;have hL:=tT C;obtain⟨us,eu,up⟩:=xA (ts.map lf);have hd:∀t∈ts,t.1≠t.2.1:=fun t ht=>(hs.2 t ht).2.2.2.2.1
 obtain⟨kvs,hJ,hO⟩:=zg C us (by rw[up.length_eq,Yd];exact hs.1) (fun t ht=>by
  obtain⟨u,hu,rfl⟩:=Yk.mp (up.mem_iff.mp ht);exact(Dh (hs.2 u hu)).2.2.2.2.1)
 have hso:=t5 (ts.map lf) (by rw[Yd];have:=hs.1;omega);refine⟨kvs,hO.perm fun i j=>?_,sC rfl rfl fun ad=>⟨.nx [some (.own (.ins C (wFs ks (.lst (srt ts)) (.dT kvs))) (some ad)),some (.v (.lst (ks.map .str))),some (.v (.lst (ts.map dT4)))],?_,rfl,rfl⟩⟩
 ·have:=k7 (i:=i) (j:=j) up
  rwa [xM i j ts hd]at this
 unfold Ct;generalize nW C=R at hR ⊢;generalize o_ C=L at hL ⊢;generalize vv C=J at hJ ⊢;have hsr:srt ts=us.map dT4:=eu;rw[hsr];have c1:bD (setV 0) bb (ai L (aV (getV 0) (fun _=>some []))) [none] (ts.map dT4)=some ((ts.map lf).map dT4):=by
  rw[YL];refine bB dT4 _ ts fun t _=>⟨[some (.v (dT4 t))],rfl,rfl,?_⟩
  simp[hL]
 have tl:ts.length<=16777216:=by have:=hs.1;omega
 generalize (ai L (aV (getV 0) (fun _=>some [])))=E at c1 ⊢;generalize (ts.map lf).map dT4=X at *;have hf:∀fs:List (Str×D),l7 C "ties" (.ins C [("kinds",.lst (ks.map .str)),("ties",.lst (us.map dT4))])=some (.lst (us.map dT4)):=by intro _;rw[lX];simp[List.lookup,b1]
 have hf':=hf [];generalize us.map dT4=Y at *;generalize hX:ts.map dT4=Z at *;have hZ:Z.length<=16777216:=by rw[<-hX,Yd];exact tl
 simp[hR,xt,jI,e8,bm,hZ,c1,hso,eu,hf',hJ,n1,n2,n3,wFs]
theorem wu(C:Addr)(ks:List Str)(ts:List T4)(n:Int)(hn:1<=n/\n<=7)(hk:okK n ks)(hs:okS n ts):∃kvs,JOk kvs ts/\∀(g:Dv) (ρ:DF),g ρ=some [.v (.lst (ks.map .str)),.v (.lst (ts.map dT4))]->fQ C (nN C) g ρ=some (.ins C (wFs ks (.lst (srt ts)) (.dT kvs))):=by obtain⟨J,h,e⟩:=AF C ks ts n hn hk hs;refine⟨J,h,fun g ρ h=>?_⟩;unfold fQ;rw[h,Yb,e];rfl
theorem b7:(("near":Str) == "joins")=false:=by decide+kernel
theorem b8:(("between":Str) == "kinds")=false:=by decide+kernel
theorem b9:(("between":Str) == "ties")=false:=by decide+kernel
theorem b10:(("between":Str) == "joins")=false:=by decide+kernel
theorem b11:(("joins":Str) == "kinds")=false:=by decide+kernel
theorem b12:(("joins":Str) == "ties")=false:=by decide+kernel
theorem t4(C:Addr)(ks:List Str)(T J:D):l7 C "joins" (.ins C (wFs ks T J))=some J:=by rw[lX];simp[wFs,List.lookup,b11,b12]
theorem qN(ks:List Str)(T J:D):(wFs ks T J).lookup ("between":Str)=none:=by simp[wFs,List.lookup,b8,b9,b10]
theorem rK{C:Addr}{ks:List Str}{T J:D}{mn:Str}(h:(wFs ks T J).lookup mn=none)(xs:List DV):pG C mn (.v (.ins C (wFs ks T J))::xs)=true:=by show(match(if C=C then some (wFs ks T J)else none)with|some fs=>(fs.lookup mn).isNone|none=>false)=true;rw[if_pos rfl];simp only;rw[h];rfl
theorem sS(C:Addr)(ks:List Str)(T J:D)(n:Int)(hk:(ks.length:Int)=n)(ρ:DF)(h:ρ[0]?=some (some (.v (.ins C (wFs ks T J))))):cS C "size" (nX C) (dh (eU 0) g0) ρ=some (.int n):=by
 have hS:nX C [.v (.ins C (wFs ks T J))]=some (.v (.int n)):=by have:=lx C ks T J;generalize wFs ks T J=F at this;simp[nX,DH,this,hk]
 have hm:dh (eU 0) g0 ρ=some [.v (.ins C (wFs ks T J))]:=by unfold dh eU g0;rw[h];rfl
 unfold cS;rw[hm,Yb,if_pos (rK (yj ks T J) _),hS];rfl
def nr(ts:List T4)(n p:Int):List Int:=(ar n).filter fun o=>!decide (bJ p o ts=[])
theorem rn(C:Addr)(ks:List Str)(T:D)(kvs:List (List Key×D))(ts:List T4)(i j:Int)(hJ:JOk kvs ts) :
  vk C [.v (.ins C (wFs ks T (.dT kvs))),.v (.int i),.v (.int j)]=some (.v (srP (bJ i j ts))):=by
 have hf:=t4 C ks T (.dT kvs);have hg:=hJ.get i j;generalize wFs ks T (.dT kvs)=F at *;generalize srP (bJ i j ts)=R at *;simp[vk,CO,i8,hf,mV,fi,yM,hg]
theorem cJ(C:Addr)(c f:Int)(hf:0<=f/\f<9223372036854775808):∃r:Int,cC C [.v (.int c),.v (.int f)]=some (.v (.int r))/\0<=r/\r<2147483647:=by have m1:=aT c 2147483647 (by decide);have u1:=fg (c%2147483647+1) f (.inr (by omega));have m2:=aT ((c%2147483647+1)*f) 2147483647 (by decide);exact⟨(c%2147483647+1)*f%2147483647,by simp[cC,g_q27,m1,u1,m2],Ze _ (by decide),YT _ (by decide)⟩
theorem pc(C:Addr)(ns:List Int)(k:Int)(hk:0<=k):∃x:Int,cR C [.v (.lst (ns.map .int)),.v (.int k)]=some (.v (.int x)):=by
 by_cases h:k<(ns.length:Int)
 ·obtain⟨x,_,e⟩:=cY (l:=ns) D.int hk h;exact⟨x,by simp[cR,g_q13,h,ix1,e]⟩
 ·exact⟨0,by simp[cR,g_q13,h]⟩
theorem yZ(C:Addr)(ns:List Int):∃r:Int,nQ C [.v (.lst (ns.map .int)),.v (.int 1000000000000000000000000000000)]=some (.v (.int r))/\0<=r/\r<1000000000000000000000000000000:=by
 obtain⟨z,e,r,x3,r0,r1,rfl⟩:=gC (st:=setV 3) (body:=(aq 2 (d2 aL (d2 aQ (d2 fK (aa 2) (fun _=>some (.int 1000003))) (aa 3)) (aa 1)))) (fun ρ=>∃r x3,0<=r/\r<1000000000000000000000000000000/\ρ=[some (.v (.lst (ns.map .int))),some (.v (.int 1000000000000000000000000000000)),some (.v (.int r)),x3]) (ds:=ns.map .int)
  (ρ:=[some (.v (.lst (ns.map .int))),some (.v (.int 1000000000000000000000000000000)),some (.v (.int 0)),none]) ⟨0,_,by decide,by decide,rfl⟩ (by
   rintro d hd _ ⟨r,x3,r0,r1,rfl⟩;obtain⟨c,_,rfl⟩:=Yk.mp hd;have u:=fg r 1000003 (.inr (by decide));have m:=aT (r*1000003+c) 1000000000000000000000000000000 (by decide);refine⟨_,rfl,[some (.v (.lst (ns.map .int))),some (.v (.int 1000000000000000000000000000000)),some (.v (.int ((r*1000003+c)%1000000000000000000000000000000))),some (.v (.int c))],?_,_,_,Ze _ (by decide),YT _ (by decide),rfl⟩;generalize ns.map D.int=N;simp[u,m])
 refine⟨r,?_,r0,r1⟩;unfold nQ g_q17;rw[jo];have s0:aq 2 (fun _=>some (.int 0)) (aR 4 2 [.v (.lst (ns.map .int)),.v (.int 1000000000000000000000000000000)])=some (.nx [some (.v (.lst (ns.map .int))),some (.v (.int 1000000000000000000000000000000)),some (.v (.int 0)),none]):=rfl;rw[ao s0,ao (cM (ds:=ns.map .int) rfl e)];rfl
theorem um{i j:Nat}{f:Dd}{ρ:DF}{left order:List Int}{k:Int}(hij:i≠j)(hj:ρ[j]?=some (some (.own (.lst (left.map .int)) none)))(hi:ρ[i]?=some (some (.own (.lst (order.map .int)) none)))(hf:f ρ=some (.int k))(h0:0<=k)(h1:k<(left.length:Int))(hl:left.length<1000)(ho:order.length<1000) :
  ∃(m:Nat) (hm:m<left.length),eC i j f ρ=some (.nx ((ρ.set j (some (.own (.lst ((left.eraseIdx m).map .int)) none))).set i (some (.own (.lst ((order++[left[m]]).map .int)) none)))):=by
 have kl:k.toNat<left.length:=by omega
 have hp:=vP h0 h1 hl;have hget:(left.map D.int)[k.toNat]?=some (.int left[k.toNat]):=by rw[Ys,Yf kl];rfl
 refine⟨k.toNat,kl,?_⟩;have hpop:qK j f ρ=some (ρ.set j (some (.own (.lst ((left.eraseIdx k.toNat).map .int)) none)),.int left[k.toNat]):=by unfold qK;rw[hj];simp only[hf,Yb,Yd,hp,hget,lq];rfl
 unfold eC;rw[hpop,Yb];simp only;rw[Zl (XM hij),hi];simp only;rw[if_pos ⟨hij,by rw[Yd];omega⟩,Zq];rfl
theorem wc(A S:Dm)(N:List D)(n f:Int)(j:Nat)(x r:Int)(left order:List Int)(x6:Option DV)(hj:j<=7)(hx:A [.v (.lst N),.v (.int (j:Int))]=some (.v (.int x)))(hr:S [.v (.int (x+(j:Int)*(j:Int))),.v (.int f)]=some (.v (.int r)))(lp:0<left.length)(ll:left.length<=7)(ol:order.length<=7) :
  ∃(m:Nat) (hm:m<left.length),(ak (aq 6 (ai S (aV (d2 aQ (ai A (aB 0 (aB 5 (fun _=>some [])))) (d2 fK (aa 5) (aa 5))) (aB 2 (fun _=>some [])))))
  (eC 4 3 (d2 aL (d2 aW (aa 6) (fun _=>some (.int 3))) (d1 bu (ap 3))))) [some (.v (.lst N)),some (.v (.int n)),some (.v (.int f)),some (.own (.lst (left.map .int)) none),some (.own (.lst (order.map .int)) none),some (.v (.int (j:Int))),x6]
   = some (.nx [some (.v (.lst N)),some (.v (.int n)),some (.v (.int f)),some (.own (.lst ((left.eraseIdx m).map .int)) none),some (.own (.lst ((order++[left[m]]).map .int)) none),some (.v (.int (j:Int))),some (.v (.int r))]):=by
 have u:=fg (j:Int) (j:Int) (.inl (by omega));have d3:=bp r 3 (by decide);have ml:=aT (r/3) (left.length:Int) (by omega);have s1:aq 6 (ai S (aV (d2 aQ (ai A (aB 0 (aB 5 (fun _=>some [])))) (d2 fK (aa 5) (aa 5))) (aB 2 (fun _=>some [])))) [some (.v (.lst N)),some (.v (.int n)),some (.v (.int f)),some (.own (.lst (left.map .int)) none),some (.own (.lst (order.map .int)) none),some (.v (.int (j:Int))),x6]
   = some (.nx [some (.v (.lst N)),some (.v (.int n)),some (.v (.int f)),some (.own (.lst (left.map .int)) none),some (.own (.lst (order.map .int)) none),some (.v (.int (j:Int))),some (.v (.int r))]):=by
  generalize left.map D.int=U;generalize order.map D.int=V;generalize (j:Int)=jj at hx hr u ⊢;simp -implicitDefEqProofs [hx,u,hr]
 have hk:d2 aL (d2 aW (aa 6) (fun _=>some (.int 3))) (d1 bu (ap 3)) [some (.v (.lst N)),some (.v (.int n)),some (.v (.int f)),some (.own (.lst (left.map .int)) none),some (.own (.lst (order.map .int)) none),some (.v (.int (j:Int))),some (.v (.int r))]=some (.int (r/3%(left.length:Int))):=by have lm:(left.map D.int).length=left.length:=Yd ..;generalize left.map D.int=U at *;simp[d3,lm,ml]
 obtain⟨m,hm,e2⟩:=um (i:=4) (j:=3) (left:=left) (order:=order) (by decide) rfl rfl hk (Ze _ (by omega)) (YT _ (by omega)) (by omega) (by omega);exact⟨m,hm,(ao s1).trans e2⟩
theorem fE(C:Addr)(ns:List Int)(n f:Int)(hn:1<=n/\n<=7)(hf:0<=f/\f<9223372036854775808):∃out:List Int,ij C [.v (.lst (ns.map .int)),.v (.int n),.v (.int f)]=some (.own (.lst (out.map .int)) none)/\out.Perm (ar n):=by
 have hA:=pc C ns;have hS:=fun c=>cJ C c f hf
 unfold ij g_q22;generalize cR C=A at hA ⊢;generalize cC C=S at hS ⊢;have hN:((ar n).length:Int)=n:=by rw[aS];omega
 obtain⟨z,e,left,order,x5,x6,rfl,hp,hl⟩:=dN (st:=setV 5) (body:=(ak (aq 6 (ai S (aV (d2 aQ (ai A (aB 0 (aB 5 (fun _=>some [])))) (d2 fK (aa 5) (aa 5))) (aB 2 (fun _=>some [])))))
  (eC 4 3 (d2 aL (d2 aW (aa 6) (fun _=>some (.int 3))) (d1 bu (ap 3)))))) (fun j ρ=>∃left order x5 x6,ρ=[some (.v (.lst (ns.map .int))),some (.v (.int n)),some (.v (.int f)),some (.own (.lst (left.map .int)) none),some (.own (.lst (order.map .int)) none),x5,x6]/\(order++left).Perm (ar n)/\order.length=j) ((ar n).map .int) 0
  [some (.v (.lst (ns.map .int))),some (.v (.int n)),some (.v (.int f)),some (.own (.lst ((ar n).map .int)) none),some (.own (.lst []) none),none,none] ⟨ar n,[],_,_,rfl,.refl _,rfl⟩ (by
   rintro j d _ hj ⟨left,order,x5,x6,rfl,hp,hl⟩;rw[ZB]at hl ⊢;have hjn:j<n.toNat:=by have:=(Yn.mp hj).1;rwa [Yd,aS]at this
   rw[mD hj];have hlen:=hp.length_eq;rw[Yu,aS]at hlen;obtain⟨x,hx⟩:=hA (j:Int) (Int.natCast_nonneg j);obtain⟨r,hr,r0,r1⟩:=hS (x+(j:Int)*(j:Int));obtain⟨m,hm,e2⟩:=wc A S (ns.map .int) n f j x r left order x6 (by omega) hx hr (by omega) (by omega) (by omega);refine⟨_,rfl,_,e2,left.eraseIdx m,order++[left[m]],_,_,rfl,?_,by rw[Yu,YM,hl]⟩;refine List.Perm.trans ?_ hp;rw[Xn];exact List.Perm.append_left _ (e6 _ m hm))
 rw[ZB,Yd,aS]at hl;have hlen:=hp.length_eq;rw[Yu,aS]at hlen;have hnil:left=[]:=YV.mp (by omega);subst hnil;rw[Zf]at hp;refine⟨order,?_,hp⟩;rw[jf];have hr:fw (getV 1) (aR 7 3 [.v (.lst (ns.map .int)),.v (.int n),.v (.int f)])=some ((ar n).map .int):=by show(if n<16777216/\-(2^62)<=n then some (cP 0 n.toNat)else none)=_;rw[if_pos (by omega),gY]
 have s0:cn 3 (asL (fw (getV 1))) (aR 7 3 [.v (.lst (ns.map .int)),.v (.int n),.v (.int f)])=some (.nx [some (.v (.lst (ns.map .int))),some (.v (.int n)),some (.v (.int f)),some (.own (.lst ((ar n).map .int)) none),none,none,none]):=by rw[uW,bX,hr];rfl
 have s1:cn 4 (asL aH) [some (.v (.lst (ns.map .int))),some (.v (.int n)),some (.v (.int f)),some (.own (.lst ((ar n).map .int)) none),none,none,none]=some (.nx [some (.v (.lst (ns.map .int))),some (.v (.int n)),some (.v (.int f)),some (.own (.lst ((ar n).map .int)) none),some (.own (.lst []) none),none,none]):=rfl;rw[ao s0,ao s1,ao (cM (ds:=(ar n).map .int) (dq rfl ⟨by omega,by omega⟩) e)];rfl
theorem Ff{x:Int}(h:0<=x/\x<4):x=0\/x=1\/x=2\/x=3:=by
 obtain⟨m,rfl⟩:=Xb h.1;have key:∀m:Fin 4,((m:Nat):Int)=0\/((m:Nat):Int)=1\/((m:Nat):Int)=2\/((m:Nat):Int)=3:=by decide
 exact key ⟨m,Int.ofNat_lt.mp h.2⟩
theorem EY{x:Int}(h:0<=x/\x<9):x=0\/x=1\/x=2\/x=3\/x=4\/x=5\/x=6\/x=7\/x=8:=by
 obtain⟨m,rfl⟩:=Xb h.1;have key:∀m:Fin 9,((m:Nat):Int)=0\/((m:Nat):Int)=1\/((m:Nat):Int)=2\/((m:Nat):Int)=3\/((m:Nat):Int)=4\/((m:Nat):Int)=5\/((m:Nat):Int)=6\/((m:Nat):Int)=7\/((m:Nat):Int)=8:=by decide
 exact key ⟨m,Int.ofNat_lt.mp h.2⟩
theorem lg{st:Dq}{body:Dw}{d:D}{ds:List D}{ρ ρ1 ρ2:DF}(h1:st d ρ=some ρ1)(h2:body ρ1=some (.nx ρ2)):eO st body (d::ds) ρ=eO st body ds ρ2:=by
 conv=>lhs;unfold eO
 rw[h1];simp only[h2]
def okL(m:Nat)(x:Str):Prop:=x.cps.size=m/\∀c∈x.cps.toList,97<=c/\c<=122
theorem mE{m k:Nat}{x y:Str}(hx:okL m x)(hy:okL k y)(h:m+k<=100):aQ (.str x) (.str y)=some (.str (x++y))/\okL (m+k) (x++y):=by
 have e:(x++y).cps=x.cps++y.cps:=rfl;refine⟨if_pos ?_,?_,?_⟩
 ·show x.cps.size+y.cps.size<=_;rw[hx.1,hy.1];omega
 ·rw[e,VT,hx.1,hy.1]
 ·intro c hc;rw[e,Array.toList_append]at hc;rcases ZC.mp hc with hc|hc
  ·exact hx.2 c hc
  ·exact hy.2 c hc
theorem wm(k:Int)(h:0<=k/\k<5):∃x,gP (.str "m") (.int k)=some (.str x)/\okL k.toNat x:=by
 have hm:("m":Str).length<=1000:=by decide
 have e:∀j:Int,0<=j/\j<5->gP (.str "m") (.int j)=some (.str (uk "m" j)):=fun j hj=>if_pos ⟨by omega,by omega,hm⟩
 refine⟨_,e k h,?_⟩;obtain⟨m,rfl⟩:=Xb h.1;have key:∀m:Fin 5,(uk "m" ((m:Nat):Int)).cps.size=(m:Nat)/\((uk "m" ((m:Nat):Int)).cps.toList.all fun c=>decide (97<=c/\c<=122))=true:=by decide+kernel
 obtain⟨k1,k2⟩:=key ⟨m,by omega⟩;refine⟨k1,fun c hc=>?_⟩;simpa using Yi.mp k2 c hc
theorem lT(i:Int)(h:0<=i/\i<12):∃x,ixD (.str "abcdefghijkl") (.int i)=some (.str x)/\okL 1 x:=by
 obtain⟨m,rfl⟩:=Xb h.1;have key:∀j:Fin 12,(atI ("abcdefghijkl":Str).cps.toList ((j:Nat):Int))=some (97+(j:Nat)):=by decide+kernel
 have k1:=key ⟨m,by omega⟩;refine⟨⟨#[97+m]⟩,?_,rfl,fun c hc=>?_⟩
 ·show(if("abcdefghijkl":Str).length<=16777216 then(atI ("abcdefghijkl":Str).cps.toList ((m:Nat):Int)).map fun c=>D.str ⟨#[c]⟩else none)=_;rw[show atI ("abcdefghijkl":Str).cps.toList ((m:Nat):Int)=some (97+m)from k1];rfl
 ·have:c=97+m:=by simpa using hc
  omega
theorem n6{m:Nat}{x:Str}(h:okL m x)(hm:1<=m/\m<=3):okW x:=⟨by rw[h.1];exact hm.1,by rw[h.1];exact hm.2,h.2⟩
abbrev kdF(N:List D)(n r L a g:Int)(x6 x7 x8 x9 x10:Option DV):DF:=[some (.v (.lst N)),some (.v (.int n)),some (.v (.int r)),some (.v (.int L)),some (.v (.int a)),some (.v (.int g)),x6,x7,x8,x9,x10]
theorem sX(N:List D)(n r L a g k:Int)(ws:List Str)(x8 x9 x10:Option DV)(hL:1<=L/\L<=3)(ha:0<=a/\a<L)(hg:0<=g/\g<=10)(hk:0<=k/\k<=1)(hw:ws.length<=10):∃(w:Str) (y8:Option DV),okW w /\
  (ak (aq 8 (d2 ixD (fun _=>some (.str "abcdefghijkl")) (d2 aQ (aa 5) (aa 7))))
  (cQ 6 (d2 aQ (d2 aQ (d2 gP (fun _=>some (.str "m")) (aa 4)) (aa 8)) (d2 gP (fun _=>some (.str "m")) (d2 gS (d2 gS (aa 3) (fun _=>some (.int 1))) (aa 4))))))
   (kdF N n r L a g (some (.own (.lst (ws.map .str)) none)) (some (.v (.int k))) x8 x9 x10)=some (.nx (kdF N n r L a g (some (.own (.lst ((ws++[w]).map .str)) none)) (some (.v (.int k))) y8 x9 x10)):=by
 obtain⟨x1,e1,o1⟩:=wm a (by omega);obtain⟨x2,e2,o2⟩:=lT (g+k) (by omega);obtain⟨x3,e3,o3⟩:=wm (L-1-a) (by omega);have e:a.toNat+1+(L-1-a).toNat=L.toNat:=by clear e1 e2 e3 o1 o2 o3 hg hk hw;omega
 have l3:L.toNat<=3:=Int.toNat_le.mpr hL.2;have l1:1<=L.toNat:=by rw[<-e];exact YC (Zv 1 _) (Nat.le_add_right _ _)
 have b2:a.toNat+1+(L-1-a).toNat<=100:=YC (ZT e) (YC l3 (by decide));obtain⟨c1,p1⟩:=mE o1 o2 (YC (Nat.le_add_right _ _) b2);obtain⟨c2,p2⟩:=mE p1 o3 b2;rw[e]at p2;have hl:ws.length<16777216:=ZH hw (by decide);refine⟨x1++x2++x3,some (.v (.str x2)),n6 p2 ⟨l1,l3⟩,?_⟩;rw[Zq];have lm:(ws.map D.str).length=ws.length:=Yd ..;generalize ws.map D.str=M at *;generalize ("abcdefghijkl":Str)=abc12 at *;generalize ("m":Str)=em at *;simp[e1,e2,e3,c1,c2,lm,hl]
theorem oQ(C:Addr)(ns:List Int)(n:Int)(hn:0<=n/\n<=7):∃ks:List Str,iJ C [.v (.lst (ns.map .int)),.v (.int n)]=some (.own (.lst (ks.map .str)) none)/\(ks.length:Int)=n/\∀k∈ks,okW k:=by
 obtain⟨x,hx⟩:=pc C ns 1 (by decide);obtain⟨r,hr,r0,r1⟩:=cJ C x 1207959571 (by decide);have hS:=fun c=>cJ C c 1618033989 (by decide)
 unfold iJ g_q19;generalize cR C=A at hx ⊢;generalize cC C=S at hr hS ⊢;generalize ns.map D.int=N at *;obtain⟨L,eL⟩:∃L,1+r%3=L:=⟨_,rfl⟩
 have hL:1<=L/\L<=3:=by omega
 obtain⟨a,ea⟩:∃a,r/3%L=a:=⟨_,rfl⟩
 have ha:0<=a/\a<L:=by rw[<-ea];exact⟨Ze _ (Int.ne_of_gt hL.1),YT _ hL.1⟩
 obtain⟨g,eg⟩:∃g,r/9%11=g:=⟨_,rfl⟩
 have hg:0<=g/\g<=10:=by omega
 have m3:=aT r 3 (by decide);have d3:=bp r 3 (by decide);have mL:=aT (r/3) L hL.1;have d9:=bp r 9 (by decide);have m11:=aT (r/9) 11 (by decide);rw[ea]at mL;rw[eg]at m11;have s1:∀G,(ak (aq 2 (ai S (aV (ai A (aB 0 (aV (fun _=>some (.int 1)) (fun _=>some [])))) (aV (fun _=>some (.int 1207959571)) (fun _=>some [])))))
  (ak (aq 3 (d2 aQ (fun _=>some (.int 1)) (d2 aL (aa 2) (fun _=>some (.int 3)))))
  (ak (aq 4 (d2 aL (d2 aW (aa 2) (fun _=>some (.int 3))) (aa 3)))
  (ak (aq 5 (d2 aL (d2 aW (aa 2) (fun _=>some (.int 9))) (fun _=>some (.int 11))))
  (ak (cn 6 (asL aH)) G))))) [some (.v (.lst N)),some (.v (.int n)),none,none,none,none,none,none,none,none,none]=G (kdF N n r L a g (some (.own (.lst []) none)) none none none none):=by
  intro G;simp -implicitDefEqProofs [hx,hr,m3,eL,d3,mL,d9,m11]
 rw[jo];have st:aR 11 2 [.v (.lst N),.v (.int n)]=[some (.v (.lst N)),some (.v (.int n)),none,none,none,none,none,none,none,none,none]:=rfl;rw[st,s1];obtain⟨w0,y8,ow0,e0⟩:=sX N n r L a g 0 [] none none none hL ha hg (by decide) (by decide);obtain⟨w1,z8,ow1,e1⟩:=sX N n r L a g 1 [w0] y8 none none hL ha hg (by decide) (by simp);have f1:dJ (cy (fun _=>some (.int 2))) (setV 7) (ak (aq 8 (d2 ixD (fun _=>some (.str "abcdefghijkl")) (d2 aQ (aa 5) (aa 7))))
  (cQ 6 (d2 aQ (d2 aQ (d2 gP (fun _=>some (.str "m")) (aa 4)) (aa 8)) (d2 gP (fun _=>some (.str "m")) (d2 gS (d2 gS (aa 3) (fun _=>some (.int 1))) (aa 4)))))) (kdF N n r L a g (some (.own (.lst []) none)) none none none none)
   = some (.nx (kdF N n r L a g (some (.own (.lst ([w0,w1].map .str)) none)) (some (.v (.int 1))) z8 none none)):=by
  refine cM (ds:=[.int 0,.int 1]) rfl ?_;rw[lg rfl e0,lg rfl e1];rfl
 rw[ao f1];obtain⟨w2,ew2,ow2⟩:=wm L ⟨VR (by decide) hL.1,VS hL.2 (by decide)⟩;have f2:cQ 6 (d2 gP (fun _=>some (.str "m")) (aa 3)) (kdF N n r L a g (some (.own (.lst ([w0,w1].map .str)) none)) (some (.v (.int 1))) z8 none none)=some (.nx (kdF N n r L a g (some (.own (.lst ([w0,w1,w2].map .str)) none)) (some (.v (.int 1))) z8 none none)):=by generalize ("m":Str)=em at *;simp[ew2]
 rw[ao f2];have f3:∃(ws:List Str) (q8:Option DV),ws.length=3/\(∀w∈ws,okW w)/\dIf (asB (d2 eqD (d2 aL (d2 aW (aa 2) (fun _=>some (.int 396))) (fun _=>some (.int 3))) (fun _=>some (.int 0)))) (ak (aq 8 (d2 ixD (fun _=>some (.str "abcdefghijkl")) (aa 5)))
  (cn 6 (asL (ah (d2 ixD (fun _=>some (.str "abcdefghijkl")) (d2 aQ (aa 5) (fun _=>some (.int 1)))) (ah (d2 aQ (aa 8) (fun _=>some (.str "m"))) (ah (getV 8) aH)))))) dNx (kdF N n r L a g (some (.own (.lst ([w0,w1,w2].map .str)) none)) (some (.v (.int 1))) z8 none none)
   = some (.nx (kdF N n r L a g (some (.own (.lst (ws.map .str)) none)) (some (.v (.int 1))) q8 none none)):=by
  have d396:=bp r 396 (by decide);have mm:=aT (r/396) 3 (by decide);obtain⟨v0,ev0,ov0⟩:=lT g ⟨hg.1,VS hg.2 (by decide)⟩;obtain⟨v1,ev1,ov1⟩:=lT (g+1) ⟨VR hg.1 (Int.le_add_of_nonneg_right (by decide)),VS (Int.add_le_add_right hg.2 1) (by decide)⟩;have om:okL 1 "m":=⟨rfl,by decide⟩
  obtain⟨c1,p1⟩:=mE ov0 om (by decide);have ow2':=n6 ow2 ⟨(Int.le_toNat (VR (by decide) hL.1)).mpr hL.1,Int.toNat_le.mpr hL.2⟩;have ov0':=n6 ov0 (by decide);have ov1':=n6 ov1 (by decide);have p1':=n6 p1 (by decide);by_cases hz:r/396%3=0
  ·refine⟨[v1,v0 ++ "m",v0],some (.v (.str v0)),rfl,?_,?_⟩
   ·intro w hw;simp only[Yr,Xw,or_false]at hw;rcases hw with rfl|rfl|rfl
    ·exact ov1'
    ·exact p1'
    ·exact ov0'
   ·generalize ("abcdefghijkl":Str)=abc12 at *;generalize v0 ++ "m"=v0m at *;generalize ("m":Str)=em at *;simp[d396,mm,hz,ev0,ev1,c1]
  ·refine⟨[w0,w1,w2],z8,rfl,?_,?_⟩
   ·intro w hw;simp only[Yr,Xw,or_false]at hw;rcases hw with rfl|rfl|rfl
    ·exact ow0
    ·exact ow1
    ·exact ow2'
   ·simp[d396,mm,hz]
 obtain⟨ws,q8,hw3,hwo,f3⟩:=f3;rw[ao f3];have f4:∃m:Int,1<=m/\m<=3/\∀G,(ak (aq 9 (d2 ixD (asO (asL (ah (fun _=>some (.int 1)) (ah (fun _=>some (.int 1)) (ah (fun _=>some (.int 2)) (ah (fun _=>some (.int 3)) aH)))))) (d2 aL (d2 aW (aa 2) (fun _=>some (.int 99))) (fun _=>some (.int 4)))))
  (ak (cn 10 (asL aH)) G)) (kdF N n r L a g (some (.own (.lst (ws.map .str)) none)) (some (.v (.int 1))) q8 none none)=G (kdF N n r L a g (some (.own (.lst (ws.map .str)) none)) (some (.v (.int 1))) q8 (some (.v (.int m))) (some (.own (.lst []) none))):=by
  have d99:=bp r 99 (by decide);have m4:=aT (r/99) 4 (by decide);have h4:=Ff (x:=r/99%4) ⟨Ze _ (by decide),YT _ (by decide)⟩;generalize r/99%4=q at *;rcases h4 with rfl|rfl|rfl|rfl
  ·exact⟨1,by decide,by decide,fun G=>by simp[d99,m4,ix1,jd]⟩
  ·exact⟨1,by decide,by decide,fun G=>by simp[d99,m4,ix1,jd]⟩
  ·exact⟨2,by decide,by decide,fun G=>by simp[d99,m4,ix1,jd]⟩
  ·exact⟨3,by decide,by decide,fun G=>by simp[d99,m4,ix1,jd]⟩
 obtain⟨m,m1,m2,f4⟩:=f4;rw[f4];obtain⟨z,e,ks,y7,rfl,hk,hko⟩:=dN (st:=setV 7) (body:=(cQ 10 (d2 ixD (aa 6) (d2 aL (d2 aW (ai S (aV (d2 aQ (aa 2) (d2 fK (aa 7) (aa 7))) (aV (fun _=>some (.int 1618033989)) (fun _=>some [])))) (fun _=>some (.int 7))) (aa 9)))))
  (fun j ρ=>∃ks y7,ρ=kdF N n r L a g (some (.own (.lst (ws.map .str)) none)) y7 q8 (some (.v (.int m))) (some (.own (.lst (ks.map .str)) none))/\ks.length=j/\∀k∈ks,okW k) ((ar n).map .int) 0 (kdF N n r L a g (some (.own (.lst (ws.map .str)) none)) (some (.v (.int 1))) q8 (some (.v (.int m))) (some (.own (.lst []) none))) ⟨[],_,rfl,rfl,fun _ h=>by cases h⟩ (by
   rintro j d _ hj ⟨ks,y7,rfl,hk,hko⟩;rw[ZB]at hk ⊢;have hjn:j<n.toNat:=by have:=(Yn.mp hj).1;rwa [Yd,aS]at this
   rw[mD hj];obtain⟨q,hq,q0,q1⟩:=hS (r+(j:Int)*(j:Int));have u:=fg (j:Int) (j:Int) (.inl (by omega));have d7:=bp q 7 (by decide);have mm:=aT (q/7) m m1;have i0:0<=q/7%m:=Ze _ (Int.ne_of_gt m1);have i1:q/7%m<m:=YT _ m1;obtain⟨w,hw,ew⟩:=cY (l:=ws) D.str i0 (by rw[hw3];exact Int.lt_of_lt_of_le i1 m2);have hl:ks.length<16777216:=by rw[hk];exact Yt hjn (YC (Int.toNat_le.mpr hn.2) (by decide))
   refine⟨_,rfl,kdF N n r L a g (some (.own (.lst (ws.map .str)) none)) (some (.v (.int (j:Int)))) q8 (some (.v (.int m))) (some (.own (.lst ((ks++[w]).map .str)) none)),?_,_,_,rfl,by rw[Yu,YM,hk],fun x hx=>?_⟩
   ·rw[Zq];have lm:(ks.map D.str).length=ks.length:=Yd ..;generalize ks.map D.str=M at *;generalize ws.map D.str=U at *;generalize (j:Int)=jj at *;simp -implicitDefEqProofs [u,hq,d7,mm,ix1,ew,lm,hl]
   ·rcases ZC.mp hx with hx|hx
    ·exact hko x hx
    ·rw[YU.mp hx];exact hwo w (YD hw))
 rw[ZB,Yd,aS]at hk;refine⟨ks,?_,by rw[hk];exact Xt hn.1,hko⟩;rw[ao (cM (ds:=(ar n).map .int) (dq rfl ⟨hn.1,VR hn.2 (by decide)⟩) e)];rfl
theorem bj{n:Int}{ps:List (Int×Int)}(h:(ps.all fun p=>decide (0<=p.1/\p.1<n/\0<=p.2/\p.2<n/\p.1≠p.2))=true):∀p∈ps,okP n p:=fun p hp=>by
 have c:=YY (Yi.mp h p hp);exact c
theorem tw(C:Addr)(n f:Int)(hn:n=1\/n=2\/n=3\/n=4\/n=5\/n=6\/n=7)(hf:f=0\/f=1\/f=2\/f=3\/f=4\/f=5\/f=6\/f=7\/f=8):∃ps:List (Int×Int),sx C [.v (.int n),.v (.int f)]=some (.own (.lst (ps.map dP)) none)/\ps.length<=12/\∀p∈ps,okP n p:=by
 rcases hf with rfl|rfl|rfl|rfl|rfl|rfl|rfl|rfl|rfl<;>rcases hn with rfl|rfl|rfl|rfl|rfl|rfl|rfl
 ·exact⟨[],rfl,by decide,bj rfl⟩
 ·exact⟨[],rfl,by decide,bj rfl⟩
 ·exact⟨[],rfl,by decide,bj rfl⟩
 ·exact⟨[],rfl,by decide,bj rfl⟩
 ·exact⟨[],rfl,by decide,bj rfl⟩
 ·exact⟨[],rfl,by decide,bj rfl⟩
 ·exact⟨[],rfl,by decide,bj rfl⟩
 ·exact⟨[],rfl,by decide,bj rfl⟩
 ·exact⟨[],rfl,by decide,bj rfl⟩
 ·exact⟨[(0,1),(1,2),(2,0)],rfl,by decide,bj rfl⟩
 ·exact⟨[(0,1),(1,2),(2,3),(3,0)],rfl,by decide,bj rfl⟩
 ·exact⟨[(0,1),(1,2),(2,3),(3,4),(4,0)],rfl,by decide,bj rfl⟩
 ·exact⟨[(0,1),(1,2),(2,3),(3,4),(4,5),(5,0)],rfl,by decide,bj rfl⟩
 ·exact⟨[(0,1),(1,2),(2,3),(3,4),(4,5),(5,6),(6,0)],rfl,by decide,bj rfl⟩
 ·exact⟨[],rfl,by decide,bj rfl⟩
 ·exact⟨[(0,1)],rfl,by decide,bj rfl⟩
 ·exact⟨[(0,1),(0,2)],rfl,by decide,bj rfl⟩
 ·exact⟨[(0,1),(0,2),(0,3)],rfl,by decide,bj rfl⟩
 ·exact⟨[(0,1),(0,2),(0,3),(0,4)],rfl,by decide,bj rfl⟩
 ·exact⟨[(0,1),(0,2),(0,3),(0,4),(0,5)],rfl,by decide,bj rfl⟩
 ·exact⟨[(0,1),(0,2),(0,3),(0,4),(0,5),(0,6)],rfl,by decide,bj rfl⟩
 ·exact⟨[],rfl,by decide,bj rfl⟩
 ·exact⟨[],rfl,by decide,bj rfl⟩
 ·exact⟨[],rfl,by decide,bj rfl⟩
 ·exact⟨[(0,1),(2,3)],rfl,by decide,bj rfl⟩
 ·exact⟨[(0,1),(2,3)],rfl,by decide,bj rfl⟩
 ·exact⟨[(0,1),(3,4),(1,2),(4,5),(2,0),(5,3)],rfl,by decide,bj rfl⟩
 ·exact⟨[(0,1),(3,4),(1,2),(4,5),(2,0),(5,3)],rfl,by decide,bj rfl⟩
 ·exact⟨[],rfl,by decide,bj rfl⟩
 ·exact⟨[],rfl,by decide,bj rfl⟩
 ·exact⟨[],rfl,by decide,bj rfl⟩
 ·exact⟨[],rfl,by decide,bj rfl⟩
 ·exact⟨[(0,1),(1,2),(2,3),(3,4),(4,0),(0,2),(1,3),(2,4),(3,0),(4,1)],rfl,by decide,bj rfl⟩
 ·exact⟨[],rfl,by decide,bj rfl⟩
 ·exact⟨[],rfl,by decide,bj rfl⟩
 ·exact⟨[],rfl,by decide,bj rfl⟩
 ·exact⟨[(0,1)],rfl,by decide,bj rfl⟩
 ·exact⟨[(0,1),(0,2)],rfl,by decide,bj rfl⟩
 ·exact⟨[(0,2),(0,3),(1,2),(1,3)],rfl,by decide,bj rfl⟩
 ·exact⟨[(0,2),(0,3),(0,4),(1,2),(1,3),(1,4)],rfl,by decide,bj rfl⟩
 ·exact⟨[(0,3),(0,4),(0,5),(1,3),(1,4),(1,5),(2,3),(2,4),(2,5)],rfl,by decide,bj rfl⟩
 ·exact⟨[(0,3),(0,4),(0,5),(0,6),(1,3),(1,4),(1,5),(1,6),(2,3),(2,4),(2,5),(2,6)],rfl,by decide,bj rfl⟩
 ·exact⟨[],rfl,by decide,bj rfl⟩
 ·exact⟨[],rfl,by decide,bj rfl⟩
 ·exact⟨[],rfl,by decide,bj rfl⟩
 ·exact⟨[],rfl,by decide,bj rfl⟩
 ·exact⟨[],rfl,by decide,bj rfl⟩
 ·exact⟨[],rfl,by decide,bj rfl⟩
 ·exact⟨[],rfl,by decide,bj rfl⟩
 ·exact⟨[],rfl,by decide,bj rfl⟩
 ·exact⟨[],rfl,by decide,bj rfl⟩
 ·exact⟨[],rfl,by decide,bj rfl⟩
 ·exact⟨[],rfl,by decide,bj rfl⟩
 ·exact⟨[],rfl,by decide,bj rfl⟩
 ·exact⟨[],rfl,by decide,bj rfl⟩
 ·exact⟨[],rfl,by decide,bj rfl⟩
 ·exact⟨[],rfl,by decide,bj rfl⟩
 ·exact⟨[],rfl,by decide,bj rfl⟩
 ·exact⟨[],rfl,by decide,bj rfl⟩
 ·exact⟨[],rfl,by decide,bj rfl⟩
 ·exact⟨[],rfl,by decide,bj rfl⟩
 ·exact⟨[],rfl,by decide,bj rfl⟩
 ·exact⟨[],rfl,by decide,bj rfl⟩
theorem D1(ns:List Int):(gJ ns (some 2) (some 14)).length<=12:=by
 show((ns.drop (min 2 ns.length)).take (min 14 ns.length-min 2 ns.length)).length<=12;refine YC (List.length_take_le _ _) (Nat.sub_le_of_le_add ?_);rcases Nat.le_total 2 ns.length with h|h
 ·rw[Nat.min_eq_left h];exact VF 14 _
 ·rw[Nat.min_eq_right h];exact YC (Nat.min_le_right _ _) (Zv _ 12)
theorem DQ{a g n b:Int}(hn:1<n)(a0:0<=a)(a1:a<n)(g0:0<=g)(g1:g<n-1)(hb:(a+1+g)%n=b):a≠b:=by
 by_cases h:a+1+g<n
 ·rw[Int.emod_eq_of_lt (by omega) h]at hb;omega
 ·have:(a+1+g)%n=a+1+g-n:=by rw[<-Int.sub_emod_right (a+1+g) n,Int.emod_eq_of_lt (by omega) (by omega)]
  omega
abbrev dwC:DF->Option Bool:=(eX (asB (d2 gtI (aa 1) (fun _=>some (.int 1)))) (asB (d2 gtI (d2 aL (aa 5) (fun _=>some (.int 4))) (fun _=>some (.int 0)))))
abbrev dwA:DF->Option RES:=(ak (aq 6 (d2 aL (d2 aW (aa 5) (fun _=>some (.int 4))) (aa 1)))
  (ak (aq 7 (d2 aL (d2 aQ (d2 aQ (aa 6) (fun _=>some (.int 1))) (d2 aL (d2 aW (aa 5) (fun _=>some (.int 28))) (d2 gS (aa 1) (fun _=>some (.int 1))))) (aa 1)))
  (ak (aq 8 (d2 aL (d2 aW (aa 5) (fun _=>some (.int 168))) (fun _=>some (.int 2))))
  (ak (dIf (asB (d2 eqD (d2 aL (d2 aW (aa 5) (fun _=>some (.int 336))) (fun _=>some (.int 2))) (fun _=>some (.int 0)))) (aq 8 (d2 aL (d2 aQ (aa 4) (aa 3)) (d2 kB (fun _=>some (.int 10)) (fun _=>some (.int 30))))) dNx)
  (cQ 2 (asT (ah (getV 6) (ah (getV 7) (ah (getV 8) (ah (d2 eqD (d2 aL (d2 aW (aa 5) (fun _=>some (.int 672))) (fun _=>some (.int 2))) (fun _=>some (.int 1))) aH))))))))))
abbrev dwF(N:List D)(n:Int)(ts:List T4)(x3 x4 x5 x6 x7 x8:Option DV):DF:=[some (.v (.lst N)),some (.v (.int n)),some (.own (.lst (ts.map dT4)) none),x3,x4,x5,x6,x7,x8]
theorem qo(S:Dm)(N:List D)(n k c r:Int)(ts:List T4)(x5 x6 x7 x8:Option DV)(hn:1<=n/\n<=7)(hl:ts.length<=12)(ht:∀t∈ts,okT n t)(hr:0<=r)(hS:S [.v (.int c),.v (.int 1530421987)]=some (.v (.int r))) :
  ∃ts' y5 y6 y7 y8,(ak (aq 5 (ai S (aB 4 (aV (fun _=>some (.int 1530421987)) (fun _=>some []))))) (dIf dwC dwA dNx)) (dwF N n ts (some (.v (.int k))) (some (.v (.int c))) x5 x6 x7 x8)=some (.nx (dwF N n ts' (some (.v (.int k))) (some (.v (.int c))) y5 y6 y7 y8))/\ts'.length<=ts.length+1/\∀t∈ts',okT n t:=by
 have s1:∀G,(ak (aq 5 (ai S (aB 4 (aV (fun _=>some (.int 1530421987)) (fun _=>some []))))) G) (dwF N n ts (some (.v (.int k))) (some (.v (.int c))) x5 x6 x7 x8)=G (dwF N n ts (some (.v (.int k))) (some (.v (.int c))) (some (.v (.int r))) x6 x7 x8):=by intro G;simp[hS]
 rw[s1,de];have hc:dwC (dwF N n ts (some (.v (.int k))) (some (.v (.int c))) (some (.v (.int r))) x6 x7 x8)=some (decide (1<n)&&decide (0<r%4)):=by have m4:=aT r 4 (by decide);by_cases a:1<n<;>by_cases b:0<r%4<;>simp[m4,a,b]
 rw[hc,Yb];by_cases hq:(decide (1<n)&&decide (0<r%4))=true
 ·rw[if_pos hq];simp only[Yo,YE]at hq;have n1:=hq.1;have d4:=bp r 4 (by decide);have d28:=bp r 28 (by decide);have d168:=bp r 168 (by decide);have d336:=bp r 336 (by decide);have d672:=bp r 672 (by decide);have mn:=fun x=>aT x n (by omega)
  have mn1:=fun x=>aT x (n-1) (by omega)
  have m2:=fun x=>aT x 2 (by decide)
  have mB:=aT (c+k) 1000000000000000000000000000000 (by decide);generalize ha:r/4%n=a;have g0:0<=r/28%(n-1):=Ze _ (by omega);have g1:r/28%(n-1)<n-1:=YT _ (by omega);generalize hb:(a+1+r/28%(n-1))%n=b;have a0:0<=a:=by rw[<-ha];exact Ze _ (by omega)
  have a1:a<n:=by rw[<-ha];exact YT _ (by omega)
  have b0:0<=b:=by rw[<-hb];exact Ze _ (by omega)
  have b1:b<n:=by rw[<-hb];exact YT _ (by omega)
  have ab:=DQ n1 a0 a1 g0 g1 hb;have k0:0<=r/168%2/\r/168%2<2:=⟨Ze _ (by decide),YT _ (by decide)⟩
  have B0:0<=(c+k)%1000000000000000000000000000000:=Ze _ (by decide);have B1:(c+k)%1000000000000000000000000000000<1000000000000000000000000000000:=YT _ (by decide);have hlen:ts.length<16777216:=by omega
  obtain⟨K,K0,K1,hK⟩:∃K:Int,0<=K/\K<1000000000000000000000000000000/\(if r/336%2=0 then(c+k)%1000000000000000000000000000000 else r/168%2)=K:=by
   split
   ·exact⟨_,B0,B1,rfl⟩
   ·exact⟨_,k0.1,by omega,rfl⟩
  refine⟨ts++[(a,b,K,decide (r/672%2=1))],some (.v (.int r)),some (.v (.int a)),some (.v (.int b)),some (.v (.int K)),?_,ZT (by rw[Yu,YM]),?_⟩
  ·have lm:(ts.map dT4).length=ts.length:=Yd ..;have dt:dT4 (a,b,K,decide (r/672%2=1))=.tup [.int a,.int b,.int K,.bl (decide (r/672%2=1))]:=rfl;show dwA [some (.v (.lst N)),some (.v (.int n)),some (.own (.lst (ts.map dT4)) none),some (.v (.int k)),some (.v (.int c)),some (.v (.int r)),x6,x7,x8]=some (.nx [some (.v (.lst N)),some (.v (.int n)),some (.own (.lst ((ts++[(a,b,K,decide (r/672%2=1))]).map dT4)) none),_,_,_,_,_,_]);rw[Zq,List.map_singleton,dt];generalize ts.map dT4=M at *;by_cases h3:r/336%2=0
   ·rw[if_pos h3]at hK;simp[dwA,d4,d28,d168,d336,d672,mn,mn1,m2,mB,ha,hb,h3,hK,lm,hlen]
   ·rw[if_neg h3]at hK;simp[dwA,d4,d28,d168,d336,d672,mn,mn1,m2,mB,ha,hb,h3,hK,lm,hlen]
  ·intro u hu;rcases ZC.mp hu with hu|hu
   ·exact ht u hu
   ·rw[YU.mp hu];exact⟨a0,a1,b0,b1,ab,K0,K1⟩
 ·rw[if_neg hq];exact⟨ts,_,_,_,_,rfl,Xd _,ht⟩
theorem u6(C:Addr)(ns:List Int)(n:Int)(hn:1<=n/\n<=7):∃ts:List T4,k9 C [.v (.lst (ns.map .int)),.v (.int n)]=some (.own (.lst (ts.map dT4)) none)/\ts.length<=12/\∀t∈ts,okT n t:=by
 have hS:=fun c=>cJ C c 1530421987 (by decide)
 unfold k9 g_q15;generalize cC C=S at hS ⊢;have hcut:gJ (ns.map D.int) (some 2) (some 14)=(gJ ns (some 2) (some 14)).map D.int:=pj _ _ _ _;have h12:=D1 ns;generalize gJ ns (some 2) (some 14)=cs at hcut h12;have hel:(di (cs.map D.int)).length=cs.length:=by unfold di;rw[Yd,List.length_zipIdx,Yd]
 obtain⟨z,e,ts,y3,y4,y5,y6,y7,y8,rfl,hl,ht⟩:=dN (st:=h9 [3,4]) (body:=(ak (aq 5 (ai S (aB 4 (aV (fun _=>some (.int 1530421987)) (fun _=>some []))))) (dIf dwC dwA dNx)))
  (fun j ρ=>∃ts y3 y4 y5 y6 y7 y8,ρ=dwF (ns.map .int) n ts y3 y4 y5 y6 y7 y8/\ts.length<=j/\∀t∈ts,okT n t) (di (cs.map D.int)) 0 (dwF (ns.map .int) n [] none none none none none none) ⟨[],_,_,_,_,_,_,rfl,Yl _,fun _ h=>by cases h⟩ (by
   rintro j d _ hj ⟨ts,y3,y4,y5,y6,y7,y8,rfl,hl,ht⟩;rw[ZB]at hl ⊢;have hjn:j<cs.length:=by have:=(Yn.mp hj).1;rwa [hel]at this
   obtain⟨d0,h0,rfl⟩:=gT hj;rw[Ys]at h0;cases hc:cs[j]? with
   |none=>rw[hc]at h0;cases h0
   |some c=>
   rw[hc]at h0;cases h0;obtain⟨r,hr,r0,_⟩:=hS c;obtain⟨ts',z5,z6,z7,z8,e,l',o'⟩:=qo S (ns.map .int) n j c r ts y5 y6 y7 y8 hn (by omega) ht r0 hr;exact⟨_,rfl,_,e,ts',_,_,_,_,_,_,rfl,by omega,o'⟩)
 rw[ZB,hel]at hl;refine⟨ts,?_,by omega,ht⟩;rw[jo];have s0:cn 2 (asL aH) (aR 9 2 [.v (.lst (ns.map .int)),.v (.int n)])=some (.nx (dwF (ns.map .int) n [] none none none none none none)):=rfl;have it:j5 (asO (asL (slL (aa 0) (bI (fun _=>some (.int 2))) (bI (fun _=>some (.int 14)))))) (dwF (ns.map .int) n [] none none none none none none)=some (di (cs.map D.int)):=by
  have:asO (asL (slL (aa 0) (bI (fun _=>some (.int 2))) (bI (fun _=>some (.int 14))))) (dwF (ns.map .int) n [] none none none none none none)=some (.lst (cs.map .int)):=by rw[<-hcut];rfl
  unfold j5;rw[this]
 rw[ao s0,ao (cM it e)];rfl
def ox(out:List Int)(i:Int):Int:=(out[i.toNat]?).getD 0
theorem ir{n:Int}{out:List Int}(hn:1<=n)(p:out.Perm (ar n)){i:Int}(h:0<=i/\i<n):atI (out.map D.int) i=some (.int (ox out i))/\0<=ox out i/\ox out i<n:=by
 obtain⟨hl,_,hm⟩:=bV hn p;obtain⟨x,hx,e⟩:=cY (l:=out) D.int h.1 (by rw[hl];exact h.2);have:ox out i=x:=by unfold ox;rw[hx];rfl
 rw[this];exact⟨e,hm x (YD hx)⟩
theorem rV{n:Int}{out:List Int}(hn:1<=n)(p:out.Perm (ar n)){i j:Int}(hi:0<=i/\i<n)(hj:0<=j/\j<n)(h:i≠j):ox out i≠ox out j:=by obtain⟨hl,hd,_⟩:=bV hn p;obtain⟨x,hx,_⟩:=cY (l:=out) D.int hi.1 (by rw[hl];exact hi.2);obtain⟨y,hy,_⟩:=cY (l:=out) D.int hj.1 (by rw[hl];exact hj.2);unfold ox;rw[hx,hy];exact DR hd hx hy fun z=>h (by rw[<-Xt hi.1,z,Xt hj.1])
def oxT(out:List Int)(t:T4):T4:=(ox out t.1,ox out t.2.1,t.2.2.1,t.2.2.2)
theorem BC{n:Int}{out:List Int}(hn:1<=n)(p:out.Perm (ar n)){t:T4}(h:okT n t):okT n (oxT out t):=by obtain⟨a0,a1,b0,b1,ab,k⟩:=h;have h1:=ir hn p ⟨a0,a1⟩;have h2:=ir hn p ⟨b0,b1⟩;exact⟨h1.2.1,h1.2.2,h2.2.1,h2.2.2,rV hn p ⟨a0,a1⟩ ⟨b0,b1⟩ ab,k⟩
abbrev oxE:DF->Option D:=(asT (ah (d2 ixD (aa 1) (d2 ixD (aa 0) (fun _=>some (.int 0)))) (ah (d2 ixD (aa 1) (d2 ixD (aa 0) (fun _=>some (.int 1)))) (ah (d2 ixD (aa 0) (fun _=>some (.int 2))) (ah (d2 ixD (aa 0) (fun _=>some (.int 3))) aH)))))
theorem zy{n:Int}{out:List Int}(hn:1<=n)(p:out.Perm (ar n))(ts:List T4)(ht:∀t∈ts,okT n t):bD (setV 0) bb oxE [none,some (.v (.lst (out.map .int)))] (ts.map dT4)=some ((ts.map (oxT out)).map dT4):=by rw[YL];refine bB dT4 _ ts fun t h=>?_;obtain⟨a0,a1,b0,b1,_⟩:=ht t h;have h1:=(ir hn p ⟨a0,a1⟩).1;have h2:=(ir hn p ⟨b0,b1⟩).1;have e0:ixD (dT4 t) (.int 0)=some (.int t.1):=rfl;have e1:ixD (dT4 t) (.int 1)=some (.int t.2.1):=rfl;have e2:ixD (dT4 t) (.int 2)=some (.int t.2.2.1):=rfl;have e3:ixD (dT4 t) (.int 3)=some (.bl t.2.2.2):=rfl;have ef:(dT4 ∘ oxT out) t=.tup [.int (ox out t.1),.int (ox out t.2.1),.int t.2.2.1,.bl t.2.2.2]:=rfl;refine⟨[some (.v (dT4 t)),some (.v (.lst (out.map .int)))],rfl,rfl,?_⟩;rw[ef];generalize dT4 t=T at *;generalize out.map D.int=O at *;simp[e0,e1,e2,e3,ix1,h1,h2]
abbrev flF(N:List D)(q kd:Int)(o:Bool)(x5 x6 x7 x8 x9:Option DV):DF:=[some (.v (.lst N)),some (.v (.int q)),some (.v (.int kd)),some (.v (.bl o)),some (.v (.int 7)),x5,x6,x7,x8,x9]
theorem lh(Or Kd:Dm)(N:List D)(q kd n:Int)(o:Bool)(ts:List T4)(x7:Option DV)(out:List Int)(k0:Str)(hn:1<=n/\n<=7)(hl:ts.length<=12)(ht:∀t∈ts,okT n t)(p:out.Perm (ar n))(hO:Or [.v (.lst N),.v (.int n),.v (.int 742938285)]=some (.own (.lst (out.map .int)) none))
  (hK:Kd [.v (.lst N),.v (.int 1)]=some (.own (.lst [.str k0]) none)) (ok:okW k0):∃(ks:List Str) (us:List T4) (z:DF),okK n ks/\okS n us /\
  (ak (aq 8 (ai Or (aB 0 (aV (getV 6) (aV (fun _=>some (.int 742938285)) (fun _=>some []))))))
  (ak (aq 9 (asO (asL (aJ 1 [0] (cy (aa 6)) (setV 0) bb (d2 ixD (ai Kd (aB 1 (aV (fun _=>some (.int 1)) (fun _=>some [])))) (fun _=>some (.int 0)))))))
  (bf (asT (ah (getV 9) (ah (asO (asL (aJ 1 [8] (bG 5) (setV 0) bb oxE))) aH))))))
   (flF N q kd o (some (.v (.lst (ts.map dT4)))) (some (.v (.int n))) x7 none none)=some (.rt (.v (.tup [.lst (ks.map .str),.lst (us.map dT4)])) z):=by
 have c1:=zy hn.1 p ts ht;have c2:bD (setV 0) bb (d2 ixD (ai Kd (aB 1 (aV (fun _=>some (.int 1)) (fun _=>some [])))) (fun _=>some (.int 0))) [none,some (.v (.lst N))] ((ar n).map .int)=some (((ar n).map fun _=>k0).map .str):=by
  rw[YL];refine bB D.int _ (ar n) fun x _=>⟨[some (.v (.int x)),some (.v (.lst N))],rfl,rfl,?_⟩
  have e0:ixD (.lst [.str k0]) (.int 0)=some (.str k0):=rfl;simp[hK,e0]
 have l1:(ts.map dT4).length<=16777216:=by rw[Yd];omega
 have l2:((ar n).map D.int).length<=16777216:=by rw[Yd,aS];omega
 have hr:∀x8 x9,cy (aa 6) (flF N q kd o (some (.v (.lst (ts.map dT4)))) (some (.v (.int n))) x7 x8 x9)=some ((ar n).map .int):=fun _ _=>dq rfl ⟨by omega,by omega⟩
 refine⟨(ar n).map fun _=>k0,ts.map (oxT out),flF N q kd o (some (.v (.lst (ts.map dT4)))) (some (.v (.int n))) x7 (some (.v (.lst (out.map .int)))) (some (.v (.lst (((ar n).map fun _=>k0).map .str)))),⟨by rw[Yd,aS];omega,fun k hk=>?_⟩,⟨by rw[Yd];exact hl,fun t h=>?_⟩,?_⟩
 ·obtain⟨_,_,rfl⟩:=Yk.mp hk;exact ok
 ·obtain⟨u,hu,rfl⟩:=Yk.mp h;exact BC hn.1 p (ht u hu)
 ·generalize (d2 ixD (ai Kd (aB 1 (aV (fun _=>some (.int 1)) (fun _=>some [])))) (fun _=>some (.int 0)))=E2 at *;generalize hE:oxE=E1 at *;generalize ((ar n).map fun _=>k0).map D.str=A at *;generalize (ts.map (oxT out)).map dT4=B at *;generalize ts.map dT4=T at *;generalize out.map D.int=O at *;generalize (ar n).map D.int=R at *;simp[hO,bm,hr,l1,l2,c1,c2]
theorem wP(a b:List T4)(h:a.length+b.length<=1000):aQ (.lst (a.map dT4)) (.lst (b.map dT4))=some (.lst ((a++b).map dT4)):=by rw[xy _ _ (by rw[Yd,Yd];omega),Zq]
abbrev flI:DF->Option RES:=(dIf (eX (asB (d2 gtI (aa 4) (fun _=>some (.int 6)))) (asB (d2 eqD (d2 aL (aa 1) (fun _=>some (.int 2))) (fun _=>some (.int 0))))) (ak (aq 5 (asO (asL (aJ 1 [2,3] (cy (fun _=>some (.int 3))) (setV 0) bb (asT (ah (getV 0) (ah (d2 aL (d2 aQ (aa 0) (fun _=>some (.int 1))) (fun _=>some (.int 3))) (ah (getV 1) (ah (getV 2) aH)))))))))
  (ak (aq 5 (d2 aQ (aa 5) (asO (asL (aJ 1 [2,3] (cy (fun _=>some (.int 4))) (setV 0) bb (asT (ah (d2 aQ (fun _=>some (.int 3)) (aa 0)) (ah (d2 aQ (fun _=>some (.int 3)) (d2 aL (d2 aQ (aa 0) (fun _=>some (.int 1))) (fun _=>some (.int 4)))) (ah (getV 1) (ah (getV 2) aH))))))))))
  (aq 6 (fun _=>some (.int 7))))) (ak (aq 7 (d2 aL (d2 aQ (aa 2) (fun _=>some (.int 1))) (d2 kB (fun _=>some (.int 10)) (fun _=>some (.int 30)))))
  (aq 5 (d2 aQ (aa 5) (asO (asL (ah (asT (ah (fun _=>some (.int 0)) (ah (fun _=>some (.int 2)) (ah (getV 7) (ah (fun _=>some (.bl false)) aH))))) (ah (asT (ah (fun _=>some (.int 3)) (ah (fun _=>some (.int 5)) (ah (getV 7) (ah (fun _=>some (.bl false)) aH))))) (ah (asT (ah (fun _=>some (.int 1)) (ah (fun _=>some (.int 4)) (ah (getV 7) (ah (fun _=>some (.bl false)) aH))))) aH)))))))))
theorem mP{n a b k:Int}{o:Bool}(h:0<=a/\a<n/\0<=b/\b<n/\a≠b)(hk:0<=k/\k<1000000000000000000000000000000):okT n (a,b,k,o):=⟨h.1,h.2.1,h.2.2.1,h.2.2.2.1,h.2.2.2.2,hk.1,hk.2⟩
theorem Dc{n:Nat}{g:Dw}{a b c d e:DV}:mOf n 5 g [a,b,c,d,e]=cB (g (aR n 5 [a,b,c,d,e])):=rfl
theorem wK(C:Addr)(ns:List Int)(q kd:Int)(o:Bool)(hk:0<=kd/\kd<1000000000000000000000000000000):∃(n:Int) (ks:List Str) (us:List T4),(1<=n/\n<=7)/\okK n ks/\okS n us/\pO C [.v (.lst (ns.map .int)),.v (.int q),.v (.int kd),.v (.bl o),.v (.int 7)]=some (.v (.tup [.lst (ks.map .str),.lst (us.map dT4)])):=by
 obtain⟨o6,hO6,p6⟩:=fE C ns 6 742938285 (by decide) (by decide);obtain⟨o7,hO7,p7⟩:=fE C ns 7 742938285 (by decide) (by decide);obtain⟨k1,hK,kl,ko⟩:=oQ C ns 1 (by decide);obtain⟨k0,rfl⟩:∃k0,k1=[k0]:=List.length_eq_one_iff.mp (by omega);have ok:=ko k0 Ye;have hK:iJ C [.v (.lst (ns.map .int)),.v (.int 1)]=some (.own (.lst [.str k0]) none):=hK;unfold pO g_q16;generalize ij C=Or at hO6 hO7 ⊢;generalize iJ C=Kd at hK ⊢;generalize ns.map D.int=N at *;have m2:=aT q 2 (by decide);have mB:=aT (kd+1) 1000000000000000000000000000000 (by decide)
 let R6:List T4:=[(0,1,kd,o),(1,2,kd,o),(2,3,kd,o),(3,4,kd,o),(4,5,kd,o),(5,0,kd,o)]
 let R7:List T4:=[(0,1,kd,o),(1,2,kd,o),(2,0,kd,o),(3,4,kd,o),(4,5,kd,o),(5,6,kd,o),(6,3,kd,o)]
 have f0:0<=(kd+1)%1000000000000000000000000000000:=Ze _ (by decide);have f1:(kd+1)%1000000000000000000000000000000<1000000000000000000000000000000:=YT _ (by decide);generalize hF:(kd+1)%1000000000000000000000000000000=fr at *
 let X3:List T4:=[(0,2,fr,false),(3,5,fr,false),(1,4,fr,false)]
 have s1:∀G,(ak (aq 5 (asO (asL (aJ 1 [2,3] (cy (fun _=>some (.int 6))) (setV 0) bb (asT (ah (getV 0) (ah (d2 aL (d2 aQ (aa 0) (fun _=>some (.int 1))) (fun _=>some (.int 6))) (ah (getV 1) (ah (getV 2) aH)))))))))
  (ak (aq 6 (fun _=>some (.int 6))) G)) (flF N q kd o none none none none none)=G (flF N q kd o (some (.v (.lst (R6.map dT4)))) (some (.v (.int 6))) none none none):=fun G=>rfl
 rw[Dc,show aR 10 5 [.v (.lst N),.v (.int q),.v (.int kd),.v (.bl o),.v (.int 7)]=flF N q kd o none none none none none from rfl,s1];by_cases hq:q%2=0
 ·have s2:flI (flF N q kd o (some (.v (.lst (R6.map dT4)))) (some (.v (.int 6))) none none none)
   = some (.nx (flF N q kd o (some (.v (.lst (R7.map dT4)))) (some (.v (.int 7))) none none none)):=by
   have hc:eX (asB (d2 gtI (aa 4) (fun _=>some (.int 6)))) (asB (d2 eqD (d2 aL (aa 1) (fun _=>some (.int 2))) (fun _=>some (.int 0)))) (flF N q kd o (some (.v (.lst (R6.map dT4)))) (some (.v (.int 6))) none none none)=some true:=by simp[m2,hq]
   unfold flI;rw[de,hc,Yb,if_pos rfl];rfl
  rw[ao s2];obtain⟨ks,us,z,h1,h2,e⟩:=lh Or Kd N q kd 7 o R7 none o7 k0 (by decide) (by show 7<=12;decide) (fun t ht=>by
   simp only[R7,Yr,Xw,or_false]at ht;rcases ht with rfl|rfl|rfl|rfl|rfl|rfl|rfl<;>exact mP (by decide) hk) p7 hO7 hK ok
  refine⟨7,ks,us,by decide,h1,h2,?_⟩;rw[e];rfl
 ·have s2:flI (flF N q kd o (some (.v (.lst (R6.map dT4)))) (some (.v (.int 6))) none none none)
   = some (.nx (flF N q kd o (some (.v (.lst ((R6++X3).map dT4)))) (some (.v (.int 6))) (some (.v (.int fr))) none none)):=by
   have hc:eX (asB (d2 gtI (aa 4) (fun _=>some (.int 6)))) (asB (d2 eqD (d2 aL (aa 1) (fun _=>some (.int 2))) (fun _=>some (.int 0)))) (flF N q kd o (some (.v (.lst (R6.map dT4)))) (some (.v (.int 6))) none none none)=some false:=by simp[m2,hq]
   unfold flI;rw[de,hc,Yb,if_neg Yj];have t1:aq 7 (d2 aL (d2 aQ (aa 2) (fun _=>some (.int 1))) (d2 kB (fun _=>some (.int 10)) (fun _=>some (.int 30)))) (flF N q kd o (some (.v (.lst (R6.map dT4)))) (some (.v (.int 6))) none none none)=some (.nx (flF N q kd o (some (.v (.lst (R6.map dT4)))) (some (.v (.int 6))) (some (.v (.int fr))) none none)):=by generalize R6.map dT4=U;simp[mB]
   rw[ao t1];rfl
  rw[ao s2];obtain⟨ks,us,z,h1,h2,e⟩:=lh Or Kd N q kd 6 o (R6++X3) (some (.v (.int fr))) o6 k0 (by decide) (by show 9<=12;decide) (fun t ht=>by
   simp only[R6,X3,List.cons_append,List.nil_append,Yr,Xw,or_false]at ht;rcases ht with rfl|rfl|rfl|rfl|rfl|rfl|rfl|rfl|rfl<;>first|exact mP (by decide) hk|exact mP (by decide) ⟨f0,f1⟩) p6 hO6 hK ok
  refine⟨6,ks,us,by decide,h1,h2,?_⟩;rw[e];rfl
abbrev wxF(N:List D)(r n f K:Int)(o:Bool)(x8 x9 x10:Option DV):DF:=[some (.v (.lst N)),some (.v (.int 7)),some (.v (.int 7)),some (.v (.int r)),some (.v (.int n)),some (.v (.int f)),some (.v (.int K)),some (.v (.bl o)),x8,x9,x10]
theorem EX{A S Fo:Dm}{N:List D}{x r n f K:Int}(hx:A [.v (.lst N),.v (.int 0)]=some (.v (.int x)))(hr:S [.v (.int x),.v (.int 1873046521)]=some (.v (.int r)))(m7:aL (.int r) (.int 7)=some (.int (r%7)))(en:1+r%7=n)(d7:aW (.int r) (.int 7)=some (.int (r/7)))(m9:aL (.int (r/7)) (.int 9)=some (.int f))
  (hF:Fo [.v (.lst N),.v (.int 1000000000000000000000000000000)]=some (.v (.int K))) (d56:aW (.int r) (.int 56)=some (.int (r/56))) (m2:aL (.int (r/56)) (.int 2)=some (.int (r/56%2))) (G:Dw) :
  (ak (aq 3 (ai S (aV (ai A (aB 0 (aV (fun _=>some (.int 0)) (fun _=>some [])))) (aV (fun _=>some (.int 1873046521)) (fun _=>some [])))))
  (ak (aq 4 (d2 aQ (fun _=>some (.int 1)) (d2 aL (aa 3) (aa 1))))
  (ak (aq 5 (d2 aL (d2 aW (aa 3) (fun _=>some (.int 7))) (fun _=>some (.int 9))))
  (ak (aq 6 (ai Fo (aB 0 (aV (d2 kB (fun _=>some (.int 10)) (fun _=>some (.int 30))) (fun _=>some [])))))
  (ak (aq 7 (d2 eqD (d2 aL (d2 aW (aa 3) (fun _=>some (.int 56))) (fun _=>some (.int 2))) (fun _=>some (.int 1))))
  G))))) [some (.v (.lst N)),some (.v (.int 7)),some (.v (.int 7)),none,none,none,none,none,none,none,none]=G (wxF N r n f K (decide (r/56%2=1)) none none none):=by
 simp[hx,hr,m7,en,d7,m9,hF,d56,m2]
theorem EG{N:List D}{r n f K:Int}{o:Bool}{ks:List D}{ts ds:List T4}{Dr:Dm}{x9:Option DV}(hn:1<=n/\n<=7)(ht:okS n ts)(hd:okS n ds)(hD:Dr [.v (.lst N),.v (.int n)]=some (.own (.lst (ds.map dT4)) none)):∃(us:List T4) (z:DF),okS n us /\
  (ak (dIf (asB (d2 eqD (d2 aL (d2 aW (aa 3) (fun _=>some (.int 112))) (fun _=>some (.int 3))) (fun _=>some (.int 0)))) (aq 10 (asO (asL (slL (d2 aQ (aa 10) (ai Dr (aB 0 (aB 4 (fun _=>some []))))) bNo (bI (fun _=>some (.int 12))))))) dNx)
  (ak (dIf (eX (asB (d2 eqD (d2 aL (d2 aW (aa 3) (fun _=>some (.int 112))) (fun _=>some (.int 3))) (fun _=>some (.int 1)))) (asB (d2 ltd (d1 bu (ap 10)) (fun _=>some (.int 7))))) (aq 10 (d2 aQ (aa 10) (aa 10))) dNx)
  (bf (asT (ah (getV 8) (ah (getV 10) aH)))))) (wxF N r n f K o (some (.v (.lst ks))) x9 (some (.v (.lst (ts.map dT4)))))=some (.rt (.v (.tup [.lst ks,.lst (us.map dT4)])) z):=by
 have d112:=bp r 112 (by decide);have m3:=aT (r/112) 3 (by decide);have h1:∃us:List T4,okS n us/\(dIf (asB (d2 eqD (d2 aL (d2 aW (aa 3) (fun _=>some (.int 112))) (fun _=>some (.int 3))) (fun _=>some (.int 0)))) (aq 10 (asO (asL (slL (d2 aQ (aa 10) (ai Dr (aB 0 (aB 4 (fun _=>some []))))) bNo (bI (fun _=>some (.int 12))))))) dNx) (wxF N r n f K o (some (.v (.lst ks))) x9 (some (.v (.lst (ts.map dT4)))))=some (.nx (wxF N r n f K o (some (.v (.lst ks))) x9 (some (.v (.lst (us.map dT4))))))/\(r/112%3=1->us=ts):=by
  by_cases h:r/112%3=0
  ·have ha:=wP ts ds (by have:=ht.1;have:=hd.1;omega);have hc:gJ ((ts++ds).map dT4) none (some 12)=((ts++ds).take 12).map dT4:=by rw[pj,yf _ (by decide)];rfl
   refine⟨(ts++ds).take 12,⟨by rw[ZN];omega,fun t h=>?_⟩,?_,fun z=>by omega⟩
   ·rcases ZC.mp (List.mem_of_mem_take h)with h|h
    ·exact ht.2 t h
    ·exact hd.2 t h
   ·generalize ((ts++ds).take 12).map dT4=W at *;generalize (ts++ds).map dT4=V at *;generalize ds.map dT4=Y at *;generalize ts.map dT4=X at *;simp[d112,m3,h,hD,ha,Bb,hc]
  ·refine⟨ts,ht,?_,fun _=>rfl⟩;generalize ts.map dT4=X at *;simp[d112,m3,h]
 obtain⟨us,hu,e1,e1'⟩:=h1;rw[ao e1];have h2:∃vs:List T4,okS n vs/\(dIf (eX (asB (d2 eqD (d2 aL (d2 aW (aa 3) (fun _=>some (.int 112))) (fun _=>some (.int 3))) (fun _=>some (.int 1)))) (asB (d2 ltd (d1 bu (ap 10)) (fun _=>some (.int 7))))) (aq 10 (d2 aQ (aa 10) (aa 10))) dNx) (wxF N r n f K o (some (.v (.lst ks))) x9 (some (.v (.lst (us.map dT4)))))=some (.nx (wxF N r n f K o (some (.v (.lst ks))) x9 (some (.v (.lst (vs.map dT4)))))):=by
  have lm:(us.map dT4).length=us.length:=Yd ..;by_cases h:r/112%3=1
  ·by_cases hl:(us.length:Int)<7
   ·have ha:=wP us us (by omega);refine⟨us++us,⟨by rw[Yu];omega,fun t h=>?_⟩,?_⟩
    ·rcases ZC.mp h with h|h
     ·exact hu.2 t h
     ·exact hu.2 t h
    ·generalize (us++us).map dT4=V at *;generalize us.map dT4=X at *;simp[d112,m3,h,lm,hl,ha]
   ·refine⟨us,hu,?_⟩;generalize us.map dT4=X at *;simp[d112,m3,h,lm,hl]
  ·refine⟨us,hu,?_⟩;generalize us.map dT4=X at *;simp[d112,m3,h]
 obtain⟨vs,hv,e2⟩:=h2;rw[ao e2];exact⟨vs,_,hv,rfl⟩
abbrev pxE:DF->Option D:=(asT (ah (d2 ixD (aa 1) (d2 ixD (aa 0) (fun _=>some (.int 0)))) (ah (d2 ixD (aa 1) (d2 ixD (aa 0) (fun _=>some (.int 1)))) (ah (getV 2) (ah (getV 3) aH)))))
def pxT(out:List Int)(K:Int)(o:Bool)(p:Int×Int):T4:=(ox out p.1,ox out p.2,K,o)
theorem yI{n K:Int}{o:Bool}{out:List Int}(hn:1<=n)(p:out.Perm (ar n))(ps:List (Int×Int))(hp:∀q∈ps,okP n q):bD (setV 0) bb pxE [none,some (.v (.lst (out.map .int))),some (.v (.int K)),some (.v (.bl o))] (ps.map dP)=some ((ps.map (pxT out K o)).map dT4):=by rw[YL];refine bB dP _ ps fun q h=>?_;obtain⟨a0,a1,b0,b1,_⟩:=hp q h;have h1:=(ir hn p ⟨a0,a1⟩).1;have h2:=(ir hn p ⟨b0,b1⟩).1;have e0:ixD (dP q) (.int 0)=some (.int q.1):=rfl;have e1:ixD (dP q) (.int 1)=some (.int q.2):=rfl;have ef:(dT4 ∘ pxT out K o) q=.tup [.int (ox out q.1),.int (ox out q.2),.int K,.bl o]:=rfl;refine⟨[some (.v (dP q)),some (.v (.lst (out.map .int))),some (.v (.int K)),some (.v (.bl o))],rfl,rfl,?_⟩;rw[ef];generalize dP q=T at *;generalize out.map D.int=O at *;simp[e0,e1,ix1,h1,h2]
theorem EE{N:List D}{r n f K:Int}{o:Bool}{ks:List D}{Or Pr:Dm}{out:List Int}{ps:List (Int×Int)}(hn:1<=n/\n<=7)(p:out.Perm (ar n))(hp:∀q∈ps,okP n q)(hl:ps.length<=12)
  (hO:Or [.v (.lst N),.v (.int n),.v (.int 742938285)]=some (.own (.lst (out.map .int)) none)) (hP:Pr [.v (.int n),.v (.int f)]=some (.own (.lst (ps.map dP)) none)) (G:Dw) :
  (ak (aq 9 (ai Or (aB 0 (aV (getV 4) (aV (fun _=>some (.int 742938285)) (fun _=>some []))))))
  (ak (aq 10 (asO (asL (aJ 1 [9,6,7] (dF (ai Pr (aB 4 (aB 5 (fun _=>some []))))) (setV 0) bb pxE))))
  G)) (wxF N r n f K o (some (.v (.lst ks))) none none)=G (wxF N r n f K o (some (.v (.lst ks))) (some (.v (.lst (out.map .int)))) (some (.v (.lst ((ps.map (pxT out K o)).map dT4))))):=by
 have c1:=yI (K:=K) (o:=o) hn.1 p ps hp;have l1:(ps.map dP).length<=16777216:=by rw[Yd];omega
 generalize hE:pxE=E1 at *;generalize (ps.map (pxT out K o)).map dT4=B at *;generalize ps.map dP=T at *;generalize out.map D.int=O at *;simp[hO,hP,bm,l1,c1]
theorem xZ(C:Addr)(ns:List Int):∃(n:Int) (ks:List Str) (us:List T4),(1<=n/\n<=7)/\okK n ks/\okS n us/\sL C [.v (.lst (ns.map .int)),.v (.int 7),.v (.int 7)]=some (.v (.tup [.lst (ks.map .str),.lst (us.map dT4)])):=by
 obtain⟨x,hx⟩:=pc C ns 0 (by decide);obtain⟨r,hr,r0,_⟩:=cJ C x 1873046521 (by decide);obtain⟨K,hK,K0,K1⟩:=yZ C ns;have hn:1<=1+r%7/\1+r%7<=7:=by omega
 obtain⟨n,en⟩:∃n,1+r%7=n:=⟨_,rfl⟩
 rw[en]at hn;have hfb:0<=r/7%9/\r/7%9<9:=by omega
 obtain⟨f,ef⟩:∃f,r/7%9=f:=⟨_,rfl⟩
 rw[ef]at hfb;have m9:=aT (r/7) 9 (by decide);rw[ef]at m9;have hFa:=fun q o=>wK C ns q K o ⟨K0,K1⟩
 obtain⟨ks,hKd,kl,ko⟩:=oQ C ns n (by omega);obtain⟨ds,hDr,dl,dk⟩:=u6 C ns n hn;obtain⟨out,hOr,p⟩:=fE C ns n 742938285 hn (by decide);obtain⟨ps,hPr,pl,pk⟩:=tw C n f (Bx ⟨hn.1,Int.lt_add_one_of_le hn.2⟩) (EY hfb);unfold sL g_q29;generalize cC C=S at hr ⊢;generalize cR C=A at hx ⊢;generalize nQ C=Fo at hK ⊢;generalize pO C=Fa at hFa ⊢;generalize iJ C=Kd at hKd ⊢;generalize k9 C=Dr at hDr ⊢;generalize ij C=Or at hOr ⊢;generalize sx C=Pr at hPr ⊢;generalize ns.map D.int=N at *;rw[jf,show aR 11 3 [.v (.lst N),.v (.int 7),.v (.int 7)]=[some (.v (.lst N)),some (.v (.int 7)),some (.v (.int 7)),none,none,none,none,none,none,none,none]from rfl,EX hx hr (aT _ _ (by decide)) en (bp _ _ (by decide)) m9 hK (bp _ _ (by decide)) (aT _ _ (by decide))];generalize decide (r/56%2=1)=o at *;have m8:=aT f 8 (by decide);have d112:=bp r 112 (by decide);by_cases h8:f%8=0
 ·obtain⟨n',ks',us',hn',hk',hu',e⟩:=hFa (r/112) o;refine⟨n',ks',us',hn',hk',hu',?_⟩;have s1:(dIf (asB (d2 eqD (d2 aL (aa 5) (fun _=>some (.int 8))) (fun _=>some (.int 0)))) (bf (ai Fa (aB 0 (aV (d2 aW (aa 3) (fun _=>some (.int 112))) (aV (getV 6) (aV (getV 7) (aB 2 (fun _=>some [])))))))) dNx) (wxF N r n f K o none none none)=some (.rt (.v (.tup [.lst (ks'.map .str),.lst (us'.map dT4)])) (wxF N r n f K o none none none)):=by generalize ks'.map D.str=X at *;generalize us'.map dT4=Y at *;simp[m8,h8,d112,e]
  rw[fC s1];rfl
 ·have s1:(dIf (asB (d2 eqD (d2 aL (aa 5) (fun _=>some (.int 8))) (fun _=>some (.int 0)))) (bf (ai Fa (aB 0 (aV (d2 aW (aa 3) (fun _=>some (.int 112))) (aV (getV 6) (aV (getV 7) (aB 2 (fun _=>some [])))))))) dNx) (wxF N r n f K o none none none)=some (.nx (wxF N r n f K o none none none)):=by simp[m8,h8]
  have s2:(aq 8 (ai Kd (aB 0 (aB 4 (fun _=>some []))))) (wxF N r n f K o none none none)=some (.nx (wxF N r n f K o (some (.v (.lst (ks.map .str)))) none none)):=by generalize ks.map D.str=X at *;simp[hKd]
  rw[ao s1,ao s2];by_cases h5:5<f
  ·refine⟨n,ks,ds,hn,⟨kl,ko⟩,⟨dl,dk⟩,?_⟩;have s3:(dIf (asB (d2 gtI (aa 5) (fun _=>some (.int 5)))) (bf (asT (ah (getV 8) (ah (ai Dr (aB 0 (aB 4 (fun _=>some [])))) aH)))) dNx) (wxF N r n f K o (some (.v (.lst (ks.map .str)))) none none)=some (.rt (.v (.tup [.lst (ks.map .str),.lst (ds.map dT4)])) (wxF N r n f K o (some (.v (.lst (ks.map .str)))) none none)):=by generalize ks.map D.str=X at *;generalize ds.map dT4=Y at *;simp[h5,hDr]
   rw[fC s3];rfl
  ·have s3:(dIf (asB (d2 gtI (aa 5) (fun _=>some (.int 5)))) (bf (asT (ah (getV 8) (ah (ai Dr (aB 0 (aB 4 (fun _=>some [])))) aH)))) dNx) (wxF N r n f K o (some (.v (.lst (ks.map .str)))) none none)=some (.nx (wxF N r n f K o (some (.v (.lst (ks.map .str)))) none none)):=by simp[h5]
   have ht:okS n (ps.map (pxT out K o)):=⟨by rw[Yd];exact pl,fun t h=>by
    obtain⟨q,hq,rfl⟩:=Yk.mp h;obtain⟨a0,a1,b0,b1,ab⟩:=pk q hq;have h1:=ir hn.1 p ⟨a0,a1⟩;have h2:=ir hn.1 p ⟨b0,b1⟩;exact⟨h1.2.1,h1.2.2,h2.2.1,h2.2.2,rV hn.1 p ⟨a0,a1⟩ ⟨b0,b1⟩ ab,K0,K1⟩⟩
   obtain⟨us,z,hu,e⟩:=EG (N:=N) (r:=r) (f:=f) (K:=K) (o:=o) (ks:=ks.map .str) (x9:=some (.v (.lst (out.map .int)))) hn ht ⟨dl,dk⟩ hDr;refine⟨n,ks,us,hn,⟨kl,ko⟩,hu,?_⟩;rw[ao s3,EE hn p pk pl hOr hPr,e];rfl
end My
namespace L2
open PySem PySem.Spec PyProof.Rows
noncomputable def wV (acc:List D)(d:D):List D:=open Classical in if d∈acc then acc else acc++[d]
theorem vb(ds:List D):∀acc:List D,(∀d,d∈ds.foldl wV acc↔d∈acc\/d∈ds)/\(acc.Nodup->(ds.foldl wV acc).Nodup):=by
 induction ds with
 |nil=>exact fun acc=>⟨fun d=>by simp,fun h=>h⟩
 |cons x r ih=>
  intro acc;rw[List.foldl_cons];by_cases hx:x∈acc
  ·rw[show wV acc x=acc from if_pos hx];obtain⟨h1,h2⟩:=ih acc;refine⟨fun d=>(h1 d).trans ⟨fun z=>z.imp id (Yc _),fun z=>?_⟩,h2⟩;rcases z with z|z
   ·exact .inl z
   ·rcases Yr.mp z with rfl|z
    ·exact .inl hx
    ·exact .inr z
  ·rw[show wV acc x=acc++[x]from if_neg hx];obtain⟨h1,h2⟩:=ih (acc++[x]);refine⟨fun d=>(h1 d).trans ?_,fun nd=>h2 (List.nodup_append.mpr ⟨nd,by simp,fun a ha b hb=>?_⟩)⟩
   ·rw[ZC,YU,Yr];constructor
    ·rintro ((z|z)|z)
     ·exact .inl z
     ·exact .inr (.inl z)
     ·exact .inr (.inr z)
    ·rintro (z|z|z)
     ·exact .inl (.inl z)
     ·exact .inl (.inr z)
     ·exact .inr z
   ·rw[YU]at hb;subst hb;rintro rfl;exact hx ha
theorem bQ{ds:List D}{d:D}:d∈aO ds↔d∈ds:=by have:=(vb ds []).1 d;rw[show aO ds=ds.foldl wV []from rfl,this];simp
theorem eS(ds:List D):(aO ds).Nodup:=(vb ds []).2 List.nodup_nil
def rkD(L:List D)(d:D):Nat:=(L.filter fun x=>ltD x d).length
theorem oH{L M:List D}(p:L.Perm M)(d:D):rkD L d=rkD M d:=(p.filter _).length_eq
theorem pL{n:Nat}{d:D}:∀{L:List D},Cmps n L->L.Pairwise (fun a b=>ltD b a=false)->L.Nodup->d∈L->eY d L=some (rkD L d)
 |[],_,_,_,h=>by cases h
 |x::r,hc,hs,nd,h=>by
  have hx:okN n x=true:=hc.1 x Ye;obtain⟨s1,s2⟩:=Zm.mp hs;obtain⟨n1,n2⟩:=ZU.mp nd;have irr:ltD x x=false:=by
   cases q:ltD x x with
   |false=>rfl
   |true=>have:=(eG n x x hx hx (hc.2 x Ye x Ye)).as q;rw[q]at this;cases this
  unfold eY rkD;rcases Yr.mp h with rfl|hr
  ·rw[if_pos ((cu _ _ (hc.2 _ Ye _ Ye)).mpr rfl),XX (by rw[irr];exact Yj)];rw[List.filter_eq_nil_iff.mpr fun y hy=>by rw[s1 y hy];exact Yj];rfl
  ·have hne:x≠d:=fun z=>n1 (z ▸ hr)
   have hm:d∈x::r:=h;have hlt:ltD x d=true:=by
    cases q:ltD x d with
    |true=>rfl
    |false=>exact absurd ((eG n x d hx (hc.1 d hm) (hc.2 x Ye d hm)).an q (s1 d hr)) hne
   rw[if_neg fun z=>hne ((cu _ _ (hc.2 x Ye d hm)).mp z),XY (p:=fun x=>ltD x d) hlt];rw[pL (hc.sub fun y hy=>Yc _ hy) s2 n2 hr];rfl
theorem sq{n:Nat}{ds:List D}(hc:Cmps n ds){d:D}(hd:d∈ds):eY d (aP (aO ds))=some (rkD (aO ds) d):=by
 have hc':Cmps n (aO ds):=hc.sub fun x hx=>bQ.mp hx
 have p:=bt (aO ds);rw[pL (hc'.perm p.symm) (dj hc') ((p.nodup_iff).mpr (eS ds)) (p.mem_iff.mpr (bQ.mpr hd)),oH p]
end L2
namespace My
open PySem PySem.Spec PyProof.Rows L2
noncomputable def rks (ds:List D):List Int:=ds.map fun d=>(rkD (aO ds) d:Int)
theorem fG(ds:List D):(rks ds).length=ds.length:=Yd ..
theorem k8{c:Dk}{ρ:DF}(q:D->Bool):∀xs:List D,(∀x∈xs,c (ρ.set 0 (some (.v x)))=some (q x))->0<ρ.length->bD (setV 0) c (getV 0) ρ xs=some (xs.filter q)
 |[],_,_=>rfl
 |x::xs,h,hl=>by
  have h0:getV 0 (ρ.set 0 (some (.v x)))=some x:=by unfold getV;rw[Zt hl]
  unfold bD;rw[show setV 0 x ρ=some (ρ.set 0 (some (.v x)))from rfl,Yb,h x Ye,Yb,k8 q xs (fun y hy=>h y (Yc _ hy)) hl];cases hq:q x with
  |true=>rw[if_pos rfl,h0,XY hq];rfl
  |false=>rw[if_neg Yj,XX (by rw[hq];exact Yj)]
theorem yT{n:Nat}{acc:List D}{d:D}(hc:Cmps n (d::acc)):(acc.any fun z=>eqd z d)=true↔d∈acc:=by
 rw[List.any_eq_true];constructor
 ·rintro⟨z,hz,e⟩
  rwa [<-(cu z d (hc.2 z (Yc _ hz) d Ye)).mp e]
 ·exact fun h=>⟨d,h,(cu d d (hc.2 d Ye d Ye)).mpr rfl⟩
theorem u3:∀(n:Nat) (d:D),okN n d=true->okN (n+1) d=true:=by
 intro n;induction n with
 |zero=>
  intro d h;cases d with
  |tup xs=>cases xs with
   |nil=>rfl
   |cons x r=>cases h
  |lst xs=>cases xs with
   |nil=>rfl
   |cons x r=>cases h
  |_=>exact h
 |succ n ih=>
  intro d h;cases d with
  |tup xs=>exact Yi.mpr fun x hx=>ih x (Yi.mp h x hx)
  |lst xs=>exact Yi.mpr fun x hx=>ih x (Yi.mp h x hx)
  |_=>exact h
theorem fU{n m:Nat}(h:n<=m){d:D}(hd:okN n d=true):okN m d=true:=by
 induction h with
 |refl=>exact hd
 |step _ ih=>exact u3 _ _ ih
abbrev rkB:DF->Option RES:=(dIf (asB (d2 fY (ap 2) (ap 1))) (cQ 1 (getV 2)) dNx)
theorem wz(C:Addr)(ds:List D)(x:DV)(hx:x=.v (.lst ds)\/x=.bor (.lst ds))(hc:Cmps 28 ds)(hl:ds.length<=100):nY C [x]=some (.own (.lst ((rks ds).map .int)) none):=by
 have hb:∀x1 x2,bG 0 [some x,x1,x2]=some ds:=fun x1 x2=>by rcases hx with rfl|rfl<;>rfl
 have o29:∀d∈ds,okN 29 d=true:=fun d hd=>fU (by decide) (hc.1 d hd)
 have o30:∀d∈ds,okN 30 d=true:=fun d hd=>fU (by decide) (hc.1 d hd)
 obtain⟨ρ',e1,x2,hρ⟩:=dN (st:=setV 2) (body:=rkB) (fun k ρ=>∃x2,ρ=[some x,some (.own (.lst (aO (ds.take k))) none),x2]) ds 0 [some x,some (.own (.lst []) none),none] ⟨none,rfl⟩ (by
  rintro j d ρ hd ⟨x2,rfl⟩;refine⟨_,rfl,?_⟩;have hm:d∈ds:=YD hd;have hsub:∀z∈aO (ds.take (0+j)),z∈ds:=fun z hz=>List.mem_of_mem_take (bQ.mp hz)
  have hall:(aO (ds.take (0+j))).all (okN 29)=true:=Yi.mpr fun z hz=>o29 z (hsub z hz)
  have hcc:Cmps 28 (d::aO (ds.take (0+j))):=hc.sub fun z hz=>by
   rcases Yr.mp hz with rfl|hz
   ·exact hm
   ·exact hsub z hz
  have ha:=yT hcc;have hlen:(aO (ds.take (0+j))).length<=100:=YC (db _) (YC (by rw[ZN];omega) hl);have et:ds.take (0+j+1)=ds.take (0+j)++[d]:=by rw[XF,ZB,hd];rfl
  have en:fY d (.lst (aO (ds.take (0+j))))=some (.bl (!(aO (ds.take (0+j))).any fun z=>eqd z d)):=by unfold fY;show(if(okN 30 d&&(aO (ds.take (0+j))).all (okN 29))=true then _ else _)=_;rw[o30 d hm,hall];rfl
  rw[et,dw];generalize aO (ds.take (0+j))=acc at *;by_cases hq:d∈acc
  ·have:(acc.any fun z=>eqd z d)=true:=ha.mpr hq;rw[this]at en;refine⟨_,?_,⟨some (.v d),rfl⟩⟩;rw[if_pos hq];simp[rkB,en,OD.d]
  ·have:(acc.any fun z=>eqd z d)=false:=by
    cases z:acc.any fun z=>eqd z d with
    |false=>rfl
    |true=>exact absurd (ha.mp z) hq
   rw[this]at en;refine⟨_,?_,⟨some (.v d),rfl⟩⟩;rw[if_neg hq];have hl':acc.length<16777216:=by omega
   simp[rkB,en,OD.d,cQ,hl'])
 rw[ZB,Xv]at hρ;subst hρ;have hU:∀u∈aO ds,u∈ds:=fun u hu=>bQ.mp hu
 have hUl:(aO ds).length<=16777216:=YC (db ds) (by omega);have inner:∀d∈ds,aJ 1 [0] (dF (getV 1)) (setV 0) (asB (d2 ltd (ap 0) (ap 1))) (getV 0) [some (.v d),some (.v (.lst (aO ds)))]=some ((aO ds).filter fun u=>ltD u d):=fun d hd=>by
  rw[bm];show(if(aO ds).length<=16777216 then bD _ _ _ [none,some (.v d)] (aO ds)else none)=_;rw[if_pos hUl];refine k8 (fun u=>ltD u d) _ (fun u hu=>?_) (by simp);have hlt:ltd u d=some (.bl (ltD u d)):=by unfold ltd;rw[o30 u (hU u hu),o30 d hd,hc.2 u (hU u hu) d hd];rfl
  show(match ltd u d with|some (.bl b)=>some b|_=>none)=_;rw[hlt]
 have outer:bD (setV 0) bb (d1 bu (asO (asL (aJ 1 [0] (dF (getV 1)) (setV 0) (asB (d2 ltd (ap 0) (ap 1))) (getV 0))))) [none,some (.v (.lst (aO ds)))] ds=some ((rks ds).map .int):=by
  have:=bB (st:=setV 0) (c:=bb) (e:=d1 bu (asO (asL (aJ 1 [0] (dF (getV 1)) (setV 0) (asB (d2 ltd (ap 0) (ap 1))) (getV 0))))) (ρ:=[none,some (.v (.lst (aO ds)))]) id (fun d=>D.int (rkD (aO ds) d:Int)) ds fun d hd=>⟨_,rfl,rfl,by
   have q:=inner d hd;rw[Aa,cH,bX];show(((aJ _ _ _ _ _ _ [some (.v d),some (.v (.lst (aO ds)))]).map OD.lst).map OD.d).bind bu=_;rw[q];rfl⟩
  rw[Vi]at this;rw[this];unfold rks;rw[YL];rfl
 have hl2:ds.length<=16777216:=by omega
 unfold nY g_q25;rw[oZ,show aR 3 1 [x]=[some x,none,none]from rfl];rw[gx,show cn 1 (asL aH) [some x,none,none]=some (.nx [some x,some (.own (.lst []) none),none])from rfl];show cB (ak (dJ (bG 0) (setV 2) rkB) _ [some x,some (.own (.lst []) none),none])=_;rw[gx,sR,hb,Yb,e1];show cB (cN _ [some x,some (.v (.lst (aO ds))),x2])=_;rw[d_,bX,bm,hb,Yb,if_pos hl2];show cB (((bD _ _ _ [none,some (.v (.lst (aO ds)))] ds).map OD.lst).map _)=_;rw[outer];rfl
theorem lv(C:Addr)(ds:List D)(hk:cx ds=true\/b_ ds=true)(hs:bh (aO ds)=true)(hc:Cmps 28 ds)(hl:ds.length<=100):jz C [.v (.lst ds)]=some (.own (.lst ((rks ds).map .int)) none):=by
 have hm:∀d∈aP (aO ds),d∈ds:=fun d hd=>bQ.mp ((bt _).mem_iff.mp hd)
 have hall:(aP (aO ds)).all (okN 29)=true:=Yi.mpr fun d hd=>fU (by decide) (hc.1 d (hm d hd))
 have hix:∀d∈ds,iM (.lst (aP (aO ds))) d=some (.int (rkD (aO ds) d:Int)):=fun d hd=>by
  show(if((aP (aO ds)).all (okN 29)&&okN 30 d)=true then(eY d (aP (aO ds))).map (fun(j:Nat)=>D.int (j:Int))else none)=_;rw[hall,fU (by decide) (hc.1 d hd),Bool.and_self,if_pos rfl,sq hc hd];rfl
 have cm:bD (setV 0) bb (d2 iM (ap 1) (ap 0)) [none,some (.v (.lst (aP (aO ds))))] ds=some ((rks ds).map .int):=by
  have:=bB (st:=setV 0) (c:=bb) (e:=d2 iM (ap 1) (ap 0)) (ρ:=[none,some (.v (.lst (aP (aO ds))))]) id (fun d=>D.int (rkD (aO ds) d:Int)) ds fun d hd=>⟨_,rfl,rfl,by
   show iM (.lst (aP (aO ds))) d=_;exact hix d hd⟩
  rw[Vi]at this;rw[this];unfold rks;rw[YL];rfl
 have hset:gB (aa 0) [some (.v (.lst ds)),none]=some (aP (aO ds)):=by show(if(cx ds=true\/b_ ds=true)/\bh (aO ds)=true then some (aP (aO ds))else none)=_;rw[if_pos ⟨hk,hs⟩]
 have hl2:ds.length<=16777216:=by omega
 unfold jz g_q35;rw[oZ,show aR 2 1 [.v (.lst ds)]=[some (.v (.lst ds)),none]from rfl,gx,bZ,cH,bX,hset];show cB (cN _ [some (.v (.lst ds)),some (.v (.lst (aP (aO ds))))])=_;rw[d_,bX,bm];show cB ((((if ds.length<=16777216 then bD _ _ _ [none,some (.v (.lst (aP (aO ds))))] ds else none)).map OD.lst).map _)=_;rw[if_pos hl2,cm];rfl
def prD(ps:List Int)(ts:List T4)(i j:Int):D:=.tup [.int (ox ps j),srP (bJ i j ts)]
def oth(n i:Int):List Int:=(ar n).filter fun j=>!decide (j=i)
def kyD(ps:List Int)(ts:List T4)(n i:Int):D:=.tup [.int (ox ps i),.tup (aP ((oth n i).map (prD ps ts i)))]
theorem lP{ps:List Int}{n i:Int}(hl:(ps.length:Int)=n)(h:0<=i/\i<n):ixD (.lst (ps.map .int)) (.int i)=some (.int (ox ps i)):=by obtain⟨x,h1,h2⟩:=cY (l:=ps) D.int h.1 (by omega);rw[ix1,h2];unfold ox;rw[h1];rfl
theorem rY{n i j:Int}:j∈oth n i↔(0<=j/\j<n)/\j≠i:=by unfold oth;rw[ZS,bc];simp
theorem rZ{m:Nat}(ps:List (Int×Int))(P:D->Prop)(h:∀p,P (dP p)):∀d∈aP (ps.map dP),P d:=fun d hd=>by
 obtain⟨p,_,rfl⟩:=Yk.mp ((bt _).mem_iff.mp hd);exact h p
theorem yJ(ps:List (Int×Int)):okN 2 (srP ps)=true:=Yi.mpr (rZ (m:=0) ps (fun d=>okN 1 d=true) fun p=>rfl)
theorem yY(ps:List (Int×Int)):hkN 2 (srP ps)=true:=Yi.mpr (rZ (m:=0) ps (fun d=>hkN 1 d=true) fun p=>rfl)
theorem f6:∀(xs ys:List D),(∀x∈xs,∀y∈ys,aA x y=true)->bi xs ys=true
 |[],_,_=>by simp[bi]
 |_::_,[],_=>by simp[bi]
 |x::xs,y::ys,h=>by
  rw[bi,Yo];exact⟨h x Ye y Ye,f6 xs ys fun a ha b hb=>h a (Yc _ ha) b (Yc _ hb)⟩
theorem ux(a b:List (Int×Int)):aA (srP a) (srP b)=true:=f6 _ _ fun x hx y hy=>by
 obtain⟨p,_,rfl⟩:=Yk.mp ((bt _).mem_iff.mp hx);obtain⟨q,_,rfl⟩:=Yk.mp ((bt _).mem_iff.mp hy);rfl
theorem sT(ps:List Int)(ts:List T4)(i j:Int):okN 3 (prD ps ts i j)=true:=by show(true&&(okN 2 (srP (bJ i j ts))&&true))=true;rw[yJ];rfl
theorem xE(ps:List Int)(ts:List T4)(i j:Int):hkN 3 (prD ps ts i j)=true:=by show(true&&(hkN 2 (srP (bJ i j ts))&&true))=true;rw[yY];rfl
theorem kT(ps:List Int)(ts:List T4)(i j i' j':Int):aA (prD ps ts i j) (prD ps ts i' j')=true:=by show(true&&(aA (srP (bJ i j ts)) (srP (bJ i' j' ts))&&true))=true;rw[ux];rfl
theorem mZ{ps:List Int}{ts:List T4}{n i:Int}{d:D}(h:d∈aP ((oth n i).map (prD ps ts i))):∃j,d=prD ps ts i j:=by obtain⟨j,_,rfl⟩:=Yk.mp ((bt _).mem_iff.mp h);exact⟨j,rfl⟩
theorem su(ps:List Int)(ts:List T4)(n i:Int):okN 5 (kyD ps ts n i)=true:=by
 show(true&&(okN 4 (.tup (aP ((oth n i).map (prD ps ts i))))&&true))=true;have:okN 4 (.tup (aP ((oth n i).map (prD ps ts i))))=true:=Yi.mpr fun d hd=>by obtain⟨j,rfl⟩:=mZ hd;exact sT ps ts i j
 rw[this];rfl
theorem xH(ps:List Int)(ts:List T4)(n i:Int):hkN 8 (kyD ps ts n i)=true:=by
 have up:∀(m:Nat) (d:D),hkN m d=true->hkN (m+1) d=true:=by
  intro m;induction m with
  |zero=>intro d h;cases d with
   |int x=>rfl
   |_=>cases h
  |succ m ih=>intro d h;cases d with
   |int x=>rfl
   |tup xs=>exact Yi.mpr fun x hx=>ih x (Yi.mp h x hx)
   |_=>cases h
 have h5:hkN 5 (kyD ps ts n i)=true:=by
  show(true&&(hkN 4 (.tup (aP ((oth n i).map (prD ps ts i))))&&true))=true;have:hkN 4 (.tup (aP ((oth n i).map (prD ps ts i))))=true:=Yi.mpr fun d hd=>by obtain⟨j,rfl⟩:=mZ hd;exact xE ps ts i j
  rw[this];rfl
 exact up _ _ (up _ _ (up _ _ h5))
theorem uD(ps:List Int)(ts:List T4)(n i j:Int):aA (kyD ps ts n i) (kyD ps ts n j)=true:=by
 show(true&&(bi (aP ((oth n i).map (prD ps ts i))) (aP ((oth n j).map (prD ps ts j)))&&true))=true;rw[f6 _ _ fun x hx y hy=>by
  obtain⟨a,rfl⟩:=mZ hx;obtain⟨b,rfl⟩:=mZ hy;exact kT ps ts i a j b]
 rfl
def kys(ps:List Int)(ts:List T4)(n:Int):List D:=(ar n).map (kyD ps ts n)
theorem mF(ps:List Int)(ts:List T4)(n:Int)(hn:1<=n/\n<=7):(kys ps ts n).length<=7:=by unfold kys;rw[Yd,aS];omega
theorem gh(ps:List Int)(ts:List T4)(n:Int):Cmps 28 (kys ps ts n):=by
 refine⟨fun d hd=>?_,fun x hx y hy=>?_⟩
 ·obtain⟨i,_,rfl⟩:=Yk.mp hd;exact fU (by decide) (su ps ts n i)
 ·obtain⟨i,_,rfl⟩:=Yk.mp hx;obtain⟨j,_,rfl⟩:=Yk.mp hy;exact uD ps ts n i j
theorem qt(ps:List Int)(ts:List T4)(n:Int)(hn:1<=n/\n<=7):cx (kys ps ts n)=true:=by have:=mF ps ts n hn;unfold cx;rw[Yo,YE];refine⟨by omega,Yi.mpr fun d hd=>?_⟩;obtain⟨i,_,rfl⟩:=Yk.mp hd;unfold jB;rw[xH,fU (n:=5) (by decide) (su ps ts n i)];rfl
theorem le{ds:List D}(hl:ds.length<64)(hc:Cmps 28 ds)(h1:∀d∈ds,∃(x:Int) (r:List D),d=.tup (.int x::r)):bh ds=true:=by
 unfold bh;simp only[Yo,YE];refine⟨⟨⟨⟨hl,Yi.mpr hc.1⟩,Yi.mpr fun x hx=>Yi.mpr fun y hy=>hc.2 x hx y hy⟩,Yi.mpr fun d hd=>?_⟩,Yi.mpr fun d hd=>?_⟩
 ·obtain⟨x,r,rfl⟩:=h1 d hd;rfl
 ·obtain⟨x,r,rfl⟩:=h1 d hd;rfl
theorem rD(ps:List Int)(ts:List T4)(n:Int)(hn:1<=n/\n<=7):bh (aO (kys ps ts n))=true:=by have h1:=mF ps ts n hn;have h2:=db (kys ps ts n);refine le (by omega) ((gh ps ts n).sub fun x hx=>bQ.mp hx) fun d hd=>?_;obtain⟨i,_,rfl⟩:=Yk.mp (bQ.mp hd);exact⟨_,_,rfl⟩
theorem sK(n i:Int)(hn:1<=n/\n<=7):(oth n i).length<=7:=by have:(oth n i).length<=(ar n).length:=List.length_filter_le _ _;rw[aS]at this;omega
theorem lQ(ps:List Int)(ts:List T4)(n i:Int)(hn:1<=n/\n<=7):bh ((oth n i).map (prD ps ts i))=true:=by
 have:=sK n i hn;refine le (by rw[Yd];omega) ⟨fun d hd=>?_,fun x hx y hy=>?_⟩ fun d hd=>?_
 ·obtain⟨j,_,rfl⟩:=Yk.mp hd;exact fU (by decide) (sT ps ts i j)
 ·obtain⟨a,_,rfl⟩:=Yk.mp hx;obtain⟨b,_,rfl⟩:=Yk.mp hy;exact kT ps ts i a i b
 ·obtain⟨j,_,rfl⟩:=Yk.mp hd;exact⟨_,_,rfl⟩
abbrev kcE(C:Addr)(Bt:Dm):DF->Option D:=(asT (ah (d2 ixD (aa 1) (aa 0)) (ah (cS C "between" Bt (dh (eU 2) (aV (getV 3) (aV (getV 0) (fun _=>some []))))) aH)))
theorem uK(C:Addr)(ks:List Str)(T:D)(kvs:List (List Key×D))(ts:List T4)(ps:List Int)(n i:Int)(hn:1<=n/\n<=7)(hk:(ks.length:Int)=n)(hp:(ps.length:Int)=n)(hi:0<=i/\i<n)(hJ:JOk kvs ts) :
  pq C [.v (.ins C (wFs ks T (.dT kvs))),.v (.lst (ps.map .int)),.v (.int i)]=some (.v (kyD ps ts n i)):=by
 have hB:=fun j=>rn C ks T kvs ts i j hJ
 have hS:=fun xs=>rK (C:=C) (qN ks T (.dT kvs)) xs
 have hsz:=fun x3 x4=>sS C ks T (.dT kvs) n hk [some (.v (.ins C (wFs ks T (.dT kvs)))),some (.v (.lst (ps.map .int))),some (.v (.int i)),x3,x4] rfl
 have hox:=fun j (h:0<=j/\j<n)=>lP (i:=j) hp h
 have hso:=lQ ps ts n i hn;have hol:=sK n i hn;have hoi:=hox i hi;unfold pq g_q10;generalize vk C=Bt at hB ⊢;generalize (cS C "size" (nX C) (dh (eU 0) g0))=Sz at hsz ⊢;generalize wFs ks T (.dT kvs)=F at *;have c1:aJ 1 [2] (cy Sz) (setV 0) (asB (d2 neD (ap 0) (ap 1))) (getV 0) [some (.v (.ins C F)),some (.v (.lst (ps.map .int))),some (.v (.int i)),none,none]=some ((oth n i).map .int):=by
  rw[bm,dq (hsz _ _) (by omega),Yb,if_pos (by rw[Yd,aS];omega)];exact e_ (ρ:=[none,some (.v (.int i))]) (fun j=>!decide (j=i)) (ar n) (fun x _=>by
   show(match neD (.int x) (.int i)with|some (.bl b)=>some b|_=>none)=_;rw[nt]) (by simp)
 have c2:bD (setV 0) bb (kcE C Bt) [none,some (.v (.lst (ps.map .int))),some (.v (.ins C F)),some (.v (.int i))] ((oth n i).map .int)=some ((oth n i).map (prD ps ts i)):=by
  refine bB D.int _ (oth n i) fun j hj=>⟨[some (.v (.int j)),some (.v (.lst (ps.map .int))),some (.v (.ins C F)),some (.v (.int i))],rfl,rfl,?_⟩
  have h1:=hB j;have h2:=hS [.v (.int i),.v (.int j)];have h3:=hox j (rY.mp hj).1;unfold prD;generalize srP (bJ i j ts)=V at *;generalize ps.map D.int=P at *;simp[kcE,cS,dh,eU,h2,h1,h3]
 rw[jf,show aR 5 3 [.v (.ins C F),.v (.lst (ps.map .int)),.v (.int i)]=[some (.v (.ins C F)),some (.v (.lst (ps.map .int))),some (.v (.int i)),none,none]from rfl];have s3:aq 3 (asO (asL (aJ 1 [2] (cy Sz) (setV 0) (asB (d2 neD (ap 0) (ap 1))) (getV 0)))) [some (.v (.ins C F)),some (.v (.lst (ps.map .int))),some (.v (.int i)),none,none]=some (.nx [some (.v (.ins C F)),some (.v (.lst (ps.map .int))),some (.v (.int i)),some (.v (.lst ((oth n i).map .int))),none]):=by rw[bZ,cH,bX,c1];rfl
 have s4:aq 4 (asO (asL (aJ 1 [1,0,2] (bG 3) (setV 0) bb (kcE C Bt)))) [some (.v (.ins C F)),some (.v (.lst (ps.map .int))),some (.v (.int i)),some (.v (.lst ((oth n i).map .int))),none]=some (.nx [some (.v (.ins C F)),some (.v (.lst (ps.map .int))),some (.v (.int i)),some (.v (.lst ((oth n i).map .int))),some (.v (.lst ((oth n i).map (prD ps ts i))))]):=by
  have hc:aJ 1 [1,0,2] (bG 3) (setV 0) bb (kcE C Bt) [some (.v (.ins C F)),some (.v (.lst (ps.map .int))),some (.v (.int i)),some (.v (.lst ((oth n i).map .int))),none]=some ((oth n i).map (prD ps ts i)):=by rw[bm];show(if((oth n i).map D.int).length<=16777216 then bD (setV 0) bb (kcE C Bt) [none,some (.v (.lst (ps.map .int))),some (.v (.ins C F)),some (.v (.int i))] ((oth n i).map .int)else none)=_;rw[if_pos (by rw[Yd];omega),c2]
  rw[bZ,cH,bX,hc];rfl
 rw[ao s3,ao s4];unfold kyD;generalize (oth n i).map (prD ps ts i)=L at *;generalize (oth n i).map D.int=O at *;generalize ps.map D.int=P at *;simp[e8,hso,hoi,df,re]
theorem yv(C:Addr)(ks:List Str)(T:D)(kvs:List (List Key×D))(ts:List T4)(ps:List Int)(n:Int)(hn:1<=n/\n<=7)(hk:(ks.length:Int)=n)(hp:(ps.length:Int)=n)(hJ:JOk kvs ts) :
  nO C [.v (.ins C (wFs ks T (.dT kvs))),.v (.lst (ps.map .int))]=some (.own (.lst (kys ps ts n)) none):=by
 have hK:=fun i h=>uK C ks T kvs ts ps n i hn hk hp h hJ
 have hsz:=sS C ks T (.dT kvs) n hk [some (.v (.ins C (wFs ks T (.dT kvs)))),some (.v (.lst (ps.map .int)))] rfl;unfold nO g_q11;generalize pq C=Kf at hK ⊢;generalize (cS C "size" (nX C) (dh (eU 0) g0))=Sz at hsz ⊢;generalize wFs ks T (.dT kvs)=F at *;have c1:bD (setV 0) bb (ai Kf (aB 1 (aB 2 (aV (getV 0) (fun _=>some []))))) [none,some (.v (.ins C F)),some (.v (.lst (ps.map .int)))] ((ar n).map .int)=some (kys ps ts n):=by
  refine bB D.int _ (ar n) fun j hj=>⟨[some (.v (.int j)),some (.v (.ins C F)),some (.v (.lst (ps.map .int)))],rfl,rfl,?_⟩
  have h1:=hK j (bc.mp hj);generalize kyD ps ts n j=V at *;generalize ps.map D.int=P at *;simp[h1,dvD]
 rw[jo,show aR 2 2 [.v (.ins C F),.v (.lst (ps.map .int))]=[some (.v (.ins C F)),some (.v (.lst (ps.map .int)))]from rfl];rw[d_,bX,bm,dq hsz (by omega),Yb,if_pos (by rw[Yd,aS];omega)];show cB (((bD _ _ _ [none,some (.v (.ins C F)),some (.v (.lst (ps.map .int)))] ((ar n).map .int)).map OD.lst).map _)=_;rw[c1];rfl
theorem pI(C:Addr)(ks:List Str)(T:D)(kvs:List (List Key×D))(ts:List T4)(ps:List Int)(n:Int)(hn:1<=n/\n<=7)(hk:(ks.length:Int)=n)(hp:(ps.length:Int)=n)(hJ:JOk kvs ts) :
  ib C [.v (.ins C (wFs ks T (.dT kvs))),.v (.lst (ps.map .int))]=some (.own (.lst ((rks (kys ps ts n)).map .int)) none):=by
 have h1:=yv C ks T kvs ts ps n hn hk hp hJ;have h2:=lv C (kys ps ts n) (.inl (qt ps ts n hn)) (rD ps ts n hn) (gh ps ts n) (by have:=mF ps ts n hn;omega);unfold ib g_q4;generalize nO C=Kf at h1 ⊢;generalize jz C=Rf at h2 ⊢;generalize wFs ks T (.dT kvs)=F at *;generalize kys ps ts n=L at *;generalize (rks L).map D.int=R at *;generalize ps.map D.int=P at *;simp[h1,h2,dvD,dvO,OD.d]
theorem kf(xs:List Int):Cmps 28 (xs.map D.int):=⟨fun d hd=>by obtain⟨x,_,rfl⟩:=Yk.mp hd;rfl,fun x hx y hy=>by obtain⟨a,_,rfl⟩:=Yk.mp hx;obtain⟨b,_,rfl⟩:=Yk.mp hy;rfl⟩
theorem qq(C:Addr)(xs:List Int)(hl:xs.length<=100):oR C [.v (.lst (xs.map .int)),.v (.lst (xs.map .int))]=some (.v (.bl true)):=by
 have hw:∀x:Int,r9 C [.v (.int x)]=some (.v (.bl true)):=fun x=>rfl
 have e1:eqD (.lst (xs.map .int)) (.lst (xs.map .int))=some (.bl true):=by rw[u8 (ls xs) (ls xs),oE D.int (fun _ _=>rfl)]
 have e2:uN (.lst (xs.map fun _=>D.bl true))=some (.bl true):=by
  have h1:(xs.map fun _=>D.bl true).all og=true:=Yi.mpr fun d hd=>by obtain⟨x,_,rfl⟩:=Yk.mp hd;rfl
  have h2:(xs.map fun _=>D.bl true).all trD=true:=Yi.mpr fun d hd=>by obtain⟨x,_,rfl⟩:=Yk.mp hd;rfl
  show(if(xs.map fun _=>D.bl true).all og=true then some (D.bl ((xs.map fun _=>D.bl true).all trD))else none)=_;rw[if_pos h1,h2]
 unfold oR g_q21;generalize r9 C=Wf at hw ⊢;have c1:bD (setV 0) bb (ai Wf (aB 0 (fun _=>some []))) [none] (xs.map .int)=some (xs.map fun _=>D.bl true):=by
  refine bB D.int _ xs fun x _=>⟨[some (.v (.int x))],rfl,rfl,?_⟩
  simp[hw,dvD]
 have hl2:(xs.map D.int).length<=16777216:=by rw[Yd];omega
 have c2:aJ 1 [] (bG 0) (setV 0) bb (ai Wf (aB 0 (fun _=>some []))) [some (.v (.lst (xs.map .int))),some (.v (.lst (xs.map .int)))]=some (xs.map fun _=>D.bl true):=by rw[bm];show(if(xs.map D.int).length<=16777216 then bD _ _ _ [none] (xs.map .int)else none)=_;rw[if_pos hl2,c1]
 generalize aJ 1 [] (bG 0) (setV 0) bb (ai Wf (aB 0 (fun _=>some [])))=Z at c2 ⊢;generalize (xs.map fun _=>D.bl true)=B at *;generalize xs.map D.int=X at *;have e3:nM "list" (.lst X)=some (.bl true):=rfl;simp[e1,e2,e3,c2,bu,OD.d]
theorem pQ(C:Addr)(ns:List Int)(n:Int)(hn:1<=n/\n<=7):∃ps:List Int,(ps.length:Int)=n/\(∃ys:List Int,ps=rks (ys.map .int))/\ss C [.v (.lst (ns.map .int)),.v (.int n)]=some (.v (.lst (ps.map .int))):=by
 obtain⟨x,hx⟩:=pc C ns 14 (by decide);obtain⟨q,hq,q0,q1⟩:=cJ C x 941083987 (by decide);have hsp:=fun c=>cJ C c 1726512289 (by decide)
 have hR:=fun ds x hx hc hl=>wz C ds x hx hc hl
 have m3:=aT q 3 (by decide);have g0:0<=q%3:=Ze _ (by decide);unfold ss g_q24;generalize cR C=A at hx ⊢;generalize cC C=S at hq hsp ⊢;generalize nY C=Rk at hR ⊢;obtain⟨ys,c1,c2,_⟩:=kO (st:=setV 0) (c:=bb) (e:=(d2 aL (d2 aW (ai S (aV (d2 aQ (aa 1) (d2 fK (aa 0) (aa 0))) (aV (fun _=>some (.int 1726512289)) (fun _=>some [])))) (fun _=>some (.int 5))) (aa 2))) (ρ:=[none,some (.v (.int q)),some (.v (.int (1+q%3)))]) D.int (fun _=>True) ((ar n).map .int) fun d hd=>by
  obtain⟨j,hj,rfl⟩:=Yk.mp hd;have hj':=bc.mp hj;obtain⟨r,hr,r0,r1⟩:=hsp (q+j*j);have mj:=fg j j (.inl ⟨by omega,by omega⟩);have d5:=bp r 5 (by decide);have mm:=aT (r/5) (1+q%3) (by omega);generalize 1+q%3=m at *;refine⟨[some (.v (.int j)),some (.v (.int q)),some (.v (.int m))],rfl,rfl,r/5%m,?_,trivial⟩;simp[mj,hr,dvD,d5,mm]
 have hyl:ys.length=n.toNat:=by rw[c2,Yd,aS]
 have hr:=hR (ys.map .int) (.v (.lst (ys.map .int))) (.inl rfl) (kf ys) (by rw[Yd];omega);refine⟨rks (ys.map .int),by rw[fG,Yd];omega,⟨ys,rfl⟩,?_⟩;have hrg:cy (aa 1) [some (.v (.lst (ns.map .int))),some (.v (.int n)),some (.v (.int q)),some (.v (.int (1+q%3)))]=some ((ar n).map .int):=dq rfl (by omega);have cc:aJ 1 [2,3] (cy (aa 1)) (setV 0) bb (d2 aL (d2 aW (ai S (aV (d2 aQ (aa 1) (d2 fK (aa 0) (aa 0))) (aV (fun _=>some (.int 1726512289)) (fun _=>some [])))) (fun _=>some (.int 5))) (aa 2)) [some (.v (.lst (ns.map .int))),some (.v (.int n)),some (.v (.int q)),some (.v (.int (1+q%3)))]=some (ys.map .int):=by rw[bm,hrg,Yb,if_pos (by rw[Yd,aS];omega)];exact c1
 generalize aJ 1 [2,3] (cy (aa 1)) (setV 0) bb (d2 aL (d2 aW (ai S (aV (d2 aQ (aa 1) (d2 fK (aa 0) (aa 0))) (aV (fun _=>some (.int 1726512289)) (fun _=>some [])))) (fun _=>some (.int 5))) (aa 2))=Z at cc ⊢;generalize (rks (ys.map D.int)).map D.int=R at *;generalize ys.map D.int=Y at *;generalize ns.map D.int=N at *;generalize hm:1+q%3=m at *;simp[hx,hq,dvD,m3,hm,cc,hr,OD.d]
theorem fy{α:Type}:∀(l m:List α),l.Nodup->(∀x∈l,x∈m)->l.length<=m.length
 |[],_,_,_=>YF _
 |x::l,m,nd,h=>by
  obtain⟨n1,n2⟩:=ZU.mp nd;obtain⟨a,b,rfl⟩:=List.append_of_mem (h x Ye);have:=fy l (a++b) n2 fun y hy=>by
   rcases ZC.mp (h y (Yc _ hy))with z|z
   ·exact Vt _ z
   ·rcases Yr.mp z with z|z
    ·exact absurd (z ▸ hy) n1
    ·exact YW _ z
  simp only[Yu,Yw]at this ⊢;omega
theorem nH{n:Nat}{e:D}:∀{L:List D}{k:Nat},Cmps n (e::L)->eY e L=some k->L[k]?=some e
 |[],k,_,h=>by cases h
 |x::r,k,hc,h=>by
  unfold eY at h;have he:e∈e::x::r:=Ye;have hx:x∈e::x::r:=Yc _ Ye;by_cases q:eqd x e=true
  ·rw[if_pos q]at h;cases h;rw[(cu _ _ (hc.2 x hx e he)).mp q];rfl
  ·rw[if_neg q]at h;cases z:eY e r with
   |none=>rw[z]at h;cases h
   |some j=>
    rw[z]at h;cases h;rw[Xq];exact nH (hc.sub fun y hy=>by
     rcases Yr.mp hy with w|w
     ·rw[w];exact he
     ·exact Yc _ (Yc _ w)) z
theorem je{n:Nat}{ds:List D}(hc:Cmps n ds){d:D}(hd:d∈ds):(aP (aO ds))[rkD (aO ds) d]?=some d:=by
 have p:=bt (aO ds);refine nH (n:=n) (hc.sub fun y hy=>?_) (sq hc hd);rcases Yr.mp hy with w|w
 ·rw[w];exact hd
 ·exact bQ.mp (p.mem_iff.mp w)
theorem vt{α:Type}{L:List α}(nd:L.Nodup){i j:Nat}{x:α}(h1:L[i]?=some x)(h2:L[j]?=some x):i=j:=by obtain⟨a,e1⟩:=Yn.mp h1;obtain⟨b,e2⟩:=Yn.mp h2;exact(List.getElem_inj nd).mp (e1.trans e2.symm)
def Can(ps:List Int):Prop:=(∀x∈ps,0<=x/\x<ps.length)/\∀x∈ps,∀r,0<=r->r<x->r∈ps
theorem yo{n:Nat}{ds:List D}(hc:Cmps n ds):Can (rks ds):=by
 have p:=bt (aO ds);have nd:(aP (aO ds)).Nodup:=p.nodup_iff.mpr (eS ds);have hlen:(aP (aO ds)).length<=ds.length:=by rw[p.length_eq];exact db ds
 refine⟨fun x hx=>?_,fun x hx r r0 r1=>?_⟩
 ·obtain⟨d,hd,rfl⟩:=Yk.mp hx;have h1:=(Yn.mp (je hc hd)).1;rw[fG];omega
 ·obtain⟨d,hd,rfl⟩:=Yk.mp hx;have h1:=(Yn.mp (je hc hd)).1;have hr:r.toNat<(aP (aO ds)).length:=by omega
  have he:=Yf hr;have hm:(aP (aO ds))[r.toNat]∈ds:=bQ.mp (p.mem_iff.mp (Xf hr));have h2:=vt nd he (je hc hm);refine Yk.mpr ⟨_,hm,?_⟩;omega
noncomputable def fin (ps:List Int)(ts:List T4)(n:Int):List Int:=rks (kys ps ts n)
theorem cZ{ps:List Int}{ts:List T4}{n:Int}(hn:1<=n):((fin ps ts n).length:Int)=n:=by unfold fin kys;rw[fG,Yd,aS];omega
theorem gf(ps:List Int)(ts:List T4)(n:Int):Can (fin ps ts n):=yo (gh ps ts n)
theorem CS{ps:List Int}{ts:List T4}{n i j:Int}(h:ox ps j<ox ps i):ltD (kyD ps ts n j) (kyD ps ts n i)=true:=by
 have e:eqd (.int (ox ps j)) (.int (ox ps i))=false:=by rw[iX,YB (by omega)]
 show(if eqd (.int (ox ps j)) (.int (ox ps i))=true then _ else ltD (.int (ox ps j)) (.int (ox ps i)))=true;rw[e,if_neg Yj];exact YK h
theorem AB{ps:List Int}{n i:Int}(hl:(ps.length:Int)=n)(h:0<=i/\i<n):ox ps i∈ps:=by
 unfold ox;have hi:i.toNat<ps.length:=by omega
 rw[Yf hi];exact Xf hi
theorem BR{ps:List Int}{n r:Int}(hl:(ps.length:Int)=n)(h:r∈ps):∃j,(0<=j/\j<n)/\ox ps j=r:=by obtain⟨k,hk,e⟩:=ZP h;refine⟨(k:Int),by omega,?_⟩;unfold ox;rw[YQ,Yf hk,e];rfl
theorem rC{ds:List D}{i:Int}(h:i.toNat<ds.length):ox (rks ds) i=(rkD (aO ds) ds[i.toNat]:Int):=by unfold ox rks;rw[Ys,Yf h];rfl
theorem qJ{ps:List Int}{ts:List T4}{n i:Int}(h:0<=i/\i<n):∃hl:i.toNat<(kys ps ts n).length,(kys ps ts n)[i.toNat]=kyD ps ts n i:=by
 have hl:i.toNat<(kys ps ts n).length:=by unfold kys;rw[Yd,aS];omega
 refine⟨hl,?_⟩;unfold kys ar;simp;have:max i 0=i:=by omega
 rw[this]
theorem Bd{ps:List Int}{ts:List T4}{n i:Int}(hl:(ps.length:Int)=n)(hc:Can ps)(h:0<=i/\i<n):ox ps i<=ox (fin ps ts n) i:=by
 obtain⟨hk,ek⟩:=qJ (ps:=ps) (ts:=ts) h;unfold fin;rw[rC hk,ek];have hm:=AB hl h;obtain⟨m0,m1⟩:=hc.1 _ hm;have hj:∀r:Nat,(r:Int)<ox ps i->∃j,(0<=j/\j<n)/\ox ps j=(r:Int):=fun r hr=>BR hl (hc.2 _ hm _ (by omega) hr)
 have hf:∃f:Nat->Int,∀r:Nat,(r:Int)<ox ps i->(0<=f r/\f r<n)/\ox ps (f r)=(r:Int):=by
  classical
  refine⟨fun r=>if q:(r:Int)<ox ps i then Classical.choose (hj r q)else 0,fun r hr=>?_⟩;simp only[dif_pos hr];exact Classical.choose_spec (hj r hr)
 obtain⟨f,hf⟩:=hf;have hb:((List.range (ox ps i).toNat).map fun r=>kyD ps ts n (f r)).length<=((aO (kys ps ts n)).filter fun x=>ltD x (kyD ps ts n i)).length:=by
  refine fy _ _ ?_ fun d hd=>?_
  ·refine Vj _ (fun r r' hne e=>?_) ((XL (n:=(ox ps i).toNat)).imp_of_mem (S:=fun a b:Nat=>a≠b/\a<(ox ps i).toNat/\b<(ox ps i).toNat) fun ha hb hne=>⟨hne,YI.mp ha,YI.mp hb⟩);obtain⟨hne,ha,hb⟩:=hne;have e1:=(hf r (by omega)).2;have e2:=(hf r' (by omega)).2;have e3:ox ps (f r)=ox ps (f r'):=by have:=Zs (fun d=>match d with|.tup (.int a::_)=>a|_=>0) e;exact this
   omega
  ·obtain⟨r,hr,rfl⟩:=Yk.mp hd;have hr:=YI.mp hr;obtain⟨h1,h2⟩:=hf r (by omega);refine ZS.mpr ⟨bQ.mpr (Yk.mpr ⟨f r,bc.mpr h1,rfl⟩),CS (by omega)⟩
 rw[Yd,YZ]at hb;unfold rkD;omega
def sm(ps:List Int):Int:=ps.foldr (· + ·) 0
theorem zN:∀(a b:List Int),a.length=b.length->(∀(k:Nat) (x y:Int),a[k]?=some x->b[k]?=some y->x<=y)->sm a<=sm b/\(sm a=sm b->a=b)
 |[],[],_,_=>⟨Int.le_refl _,fun _=>rfl⟩
 |x::a,y::b,hl,h=>by
  obtain⟨h1,h2⟩:=zN a b (Vq hl) fun k u v e1 e2=>h (k+1) u v e1 e2
  have h0:=h 0 x y rfl rfl;have e1:sm (x::a)=x+sm a:=rfl;have e2:sm (y::b)=y+sm b:=rfl;refine⟨by omega,fun e=>?_⟩;rw[h2 (by omega),show x=y by omega]
theorem vn:∀(a:List Int) (m:Int),(∀x∈a,x<=m)->sm a<=a.length*m
 |[],m,_=>by simp[sm]
 |x::a,m,h=>by
  have h1:=vn a m fun y hy=>h y (Yc _ hy)
  have h2:=h x Ye;have e1:sm (x::a)=x+sm a:=rfl;rw[e1,Yw,Int.natCast_add,Int.add_mul];omega
theorem zX:∀(a:List Int),(∀x∈a,0<=x)->0<=sm a
 |[],_=>Int.le_refl _
 |x::a,h=>by
  have h1:=zX a fun y hy=>h y (Yc _ hy)
  have h2:=h x Ye;have e1:sm (x::a)=x+sm a:=rfl;omega
theorem vg{ps:List Int}{n:Int}(hn:1<=n/\n<=7)(hl:(ps.length:Int)=n)(hc:Can ps):0<=sm ps/\sm ps<=42:=by
 refine⟨zX ps fun x hx=>(hc.1 x hx).1,?_⟩;have h1:=vn ps (n-1) fun x hx=>by have:=(hc.1 x hx).2;omega
 rw[hl]at h1;have:n*(n-1)<=7*6:=Int.mul_le_mul hn.2 (by omega) (by omega) (by omega);omega
theorem Bq{ps:List Int}{ts:List T4}{n:Int}(hn:1<=n)(hl:(ps.length:Int)=n)(hc:Can ps):sm ps<=sm (fin ps ts n)/\(sm ps=sm (fin ps ts n)->ps=fin ps ts n):=by have hf:=cZ (ps:=ps) (ts:=ts) hn;refine zN _ _ (by omega) fun k x y e1 e2=>?_;have hk:=(Yn.mp e1).1;have:=Bd (ts:=ts) hl hc (i:=(k:Int)) (by omega);unfold ox at this;rw[YQ,e1,e2]at this;exact this
end My
set_option maxHeartbeats 800000
namespace My
open PySem PySem.Spec PyProof.Rows L2
abbrev dL(ps:List Int):D:=.lst (ps.map .int)
theorem zT(a b:List Int):eqd (dL a) (dL b)=decide (a=b):=by
 by_cases h:a=b
 ·rw[h,YK rfl];exact oE D.int (fun _ _=>rfl) b
 ·rw[YB h];cases q:eqd (dL a) (dL b)with
  |false=>rfl
  |true=>exact absurd (n4 ((gl _ _ (o9 a b)).mp q)) h
theorem zP(a b:List Int):neD (dL a) (dL b)=some (.bl (!decide (a=b))):=by rw[BL (ls a) (ls b),zT]
theorem wU(a b:List Int):eqD (dL a) (dL b)=some (.bl (decide (a=b))):=by rw[u8 (ls a) (ls b),zT]
noncomputable def rl (ts:List T4)(n:Int):Nat->List Int->List (List Int)
 |0,q=>[q]
 |k+1,q=>if fin q ts n=q then[q]else q::rl ts n k (fin q ts n)
noncomputable def stl (ts:List T4)(n:Int):Nat->List Int->List Int
 |0,q=>q
 |k+1,q=>if fin q ts n=q then q else stl ts n k (fin q ts n)
def h_(ts:List T4)(n:Int):Nat->List Int->Prop
 |0,_=>False
 |k+1,q=>fin q ts n=q\/h_ ts n k (fin q ts n)
theorem rH(ts:List T4)(n:Int):∀(k:Nat) (q:List Int),∃pre,rl ts n k q=pre++[stl ts n k q]
 |0,q=>⟨[],rfl⟩
 |k+1,q=>by
  unfold rl stl;by_cases h:fin q ts n=q
  ·rw[if_pos h,if_pos h];exact⟨[],rfl⟩
  ·rw[if_neg h,if_neg h];obtain⟨pre,e⟩:=rH ts n k (fin q ts n);exact⟨q::pre,by rw[e];rfl⟩
theorem mT(ts:List T4)(n:Int):∀(k:Nat) (q:List Int),h_ ts n k q->fin (stl ts n k q) ts n=stl ts n k q
 |0,q,h=>h.elim
 |k+1,q,h=>by
  unfold stl;by_cases z:fin q ts n=q
  ·rw[if_pos z];exact z
  ·rw[if_neg z];exact mT ts n k _ (h.resolve_left z)
theorem iV(ts:List T4)(n:Int)(hn:1<=n):∀(k:Nat) (q:List Int),(q.length:Int)=n->((stl ts n k q).length:Int)=n
 |0,q,h=>h
 |k+1,q,h=>by
  unfold stl;by_cases z:fin q ts n=q
  ·rw[if_pos z];exact h
  ·rw[if_neg z];exact iV ts n hn k _ (cZ hn)
theorem nL(ts:List T4)(n:Int)(hn:1<=n/\n<=7):∀(k:Nat) (q:List Int),(q.length:Int)=n->Can q->43-sm q<=(k:Int)->h_ ts n k q
 |0,q,hl,hc,h=>by have:=(vg hn hl hc).2;omega
 |k+1,q,hl,hc,h=>by
  by_cases z:fin q ts n=q
  ·exact .inl z
  ·obtain⟨h1,h2⟩:=Bq (ts:=ts) hn.1 hl hc;refine .inr (nL ts n hn k _ (cZ hn.1) (gf q ts n) ?_);have:sm q≠sm (fin q ts n):=fun e=>z (h2 e).symm
   omega
theorem jT(ts:List T4)(n:Int)(hn:1<=n/\n<=7)(q:List Int):h_ ts n 100 q:=
 .inr (nL ts n hn 99 _ (cZ hn.1) (gf q ts n) (by have:=(vg hn (cZ hn.1) (gf q ts n)).1;omega))
abbrev roF(w:D)(x1:Option DV)(R:List D)(f:D):DF:=[some (.v w),x1,some (.own (.lst R) none),some (.v f)]
theorem f_{Fi:Dm}{w:D}{x1:Option DV}{ts:List T4}{n:Int}(hn:1<=n)(hF:∀ps:List Int,(ps.length:Int)=n->Fi [.v w,.v (dL ps)]=some (.own (.lst ((fin ps ts n).map .int)) none)) :
  ∀(k:Nat) (pre:List (List Int)) (q:List Int),(q.length:Int)=n->h_ ts n k q->pre.length+k<=1000->∃f,eA (asB (d2 neD (ap 3) (d2 ixD (aa 2) (d1 qQ (fun _=>some (.int 1)))))) (ak (cQ 2 (getV 3))
  (aq 3 (ai Fi (aB 0 (aB 3 (fun _=>some [])))))) k (roF w x1 ((pre++[q]).map dL) (dL (fin q ts n)))=some (.nx (roF w x1 ((pre++rl ts n k q).map dL) f))
 |0,pre,q,_,h,_=>h.elim
 |k+1,pre,q,hl,h,hz=>by
  have hat:atI ((pre++[q]).map dL) (-1)=some (dL q):=by rw[Zq];exact kg _ _
  have hneg:qQ (.int 1)=some (.int (-1)):=rfl;have hne:=zP (fin q ts n) q;have hg3:∀(R:List D) (f:D),ap 3 (roF w x1 R f)=some f:=fun _ _=>rfl
  unfold eA;have hc:(asB (d2 neD (ap 3) (d2 ixD (aa 2) (d1 qQ (fun _=>some (.int 1)))))) (roF w x1 ((pre++[q]).map dL) (dL (fin q ts n)))=some (!decide (fin q ts n=q)):=by
   generalize dL (fin q ts n)=a at hne ⊢;generalize dL q=b at hne hat
   generalize (pre++[q]).map dL=R at hat ⊢;simp[ix1,hneg,hat,hne]
  rw[hc];by_cases z:fin q ts n=q
  ·refine⟨dL (fin q ts n),?_⟩;rw[YK z];unfold rl;rw[if_pos z];rfl
  ·rw[YB z];have hl2:((fin q ts n).length:Int)=n:=cZ hn;have hf:=hF _ hl2;obtain⟨f,e⟩:=f_ (x1:=x1) hn hF k (pre++[q]) (fin q ts n) hl2 (h.resolve_left z) (by rw[Yu,YM];omega);refine⟨f,?_⟩;have hb:(ak (cQ 2 (getV 3))
  (aq 3 (ai Fi (aB 0 (aB 3 (fun _=>some [])))))) (roF w x1 ((pre++[q]).map dL) (dL (fin q ts n)))=some (.nx (roF w x1 ((pre++[q]++[fin q ts n]).map dL) (dL (fin (fin q ts n) ts n)))):=by
    have hlen:((pre++[q]).map dL).length<16777216:=by rw[Yd,Yu,YM];omega
    rw[Zq (l₁:=pre++[q])];show _=some (RES.nx (roF w x1 ((pre++[q]).map dL++[dL (fin q ts n)]) (dL (fin (fin q ts n) ts n))));generalize (pre++[q]).map dL=R at hlen ⊢;have e2:dL (fin (fin q ts n) ts n)=.lst ((fin (fin q ts n) ts n).map .int):=rfl;rw[e2];generalize (fin (fin q ts n) ts n).map D.int=Y at hf ⊢;generalize dL (fin q ts n)=a at hf ⊢;simp[hlen,hf]
   simp only[Bool.not_false,hb];unfold rl;rw[if_neg z,show pre++q::rl ts n k (fin q ts n)=pre++[q]++rl ts n k (fin q ts n)by simp];exact e
theorem g7{C:Addr}{w:D}{ts:List T4}{n:Int}(hn:1<=n/\n<=7)(hF:∀ps:List Int,(ps.length:Int)=n->ib C [.v w,.v (dL ps)]=some (.own (.lst ((fin ps ts n).map .int)) none))(ps:List Int)(hl:(ps.length:Int)=n) :
  iY C [.v w,.v (dL ps)]=some (.own (.lst ((rl ts n 100 ps).map dL)) none):=by
 unfold iY g_q37;generalize ib C=Fi at hF ⊢;obtain⟨f,e⟩:=f_ (x1:=some (.v (dL ps))) hn.1 hF 100 [] ps hl (jT ts n hn ps) (by simp);rw[List.nil_append,List.nil_append,List.map_singleton]at e;have hf:=hF ps hl;rw[jo,show aR 4 2 [.v w,.v (dL ps)]=[some (.v w),some (.v (dL ps)),none,none]from rfl,
  ao (ρ':=[some (.v w),some (.v (dL ps)),some (.own (.lst [dL ps]) none),none]) (by simp),
  ao (ρ':=roF w (some (.v (dL ps))) [dL ps] (dL (fin ps ts n))) (by
   generalize fin ps ts n=q at hf ⊢;generalize dL ps=a at hf ⊢;simp[hf]),ao e]
 rfl
theorem fX{C:Addr}{w:D}{ts:List T4}{n:Int}(hn:1<=n/\n<=7)(hF:∀ps:List Int,(ps.length:Int)=n->ib C [.v w,.v (dL ps)]=some (.own (.lst ((fin ps ts n).map .int)) none))(ps:List Int)(hl:(ps.length:Int)=n) :
  eV C [.v w,.v (dL ps)]=some (.v (dL (stl ts n 100 ps))):=by
 have hr:=g7 hn hF ps hl;obtain⟨pre,e⟩:=rH ts n 100 ps;have hat:atI ((rl ts n 100 ps).map dL) (-1)=some (dL (stl ts n 100 ps)):=by rw[e,Zq];exact kg _ _
 have hneg:qQ (.int 1)=some (.int (-1)):=rfl;unfold eV g_q38;generalize iY C=Ro at hr ⊢;generalize (rl ts n 100 ps).map dL=R at *;generalize dL (stl ts n 100 ps)=z at *;generalize dL ps=a at *;simp[hr,hneg,ix1,hat]
theorem Dj{x:Str}(h:okW x):okN 28 (.str x)=true:=by show PyData.strOk x=true;unfold PyData.strOk;rw[<-Array.all_toList,Yi];intro c hc;have:=h.2.2 c hc;simp;omega
theorem vS{n:Int}{ks:List Str}(h:okK n ks):Cmps 28 (ks.map D.str):=⟨fun d hd=>by obtain⟨x,hx,rfl⟩:=Yk.mp hd;exact Dj (h.2 x hx),fun x hx y hy=>by obtain⟨a,_,rfl⟩:=Yk.mp hx;obtain⟨b,_,rfl⟩:=Yk.mp hy;rfl⟩
theorem wN{n:Int}{ks:List Str}(hn:n<=7)(h:okK n ks):bh (aO (ks.map D.str))=true:=by
 have hc:=(vS h).sub fun d (hd:d∈aO (ks.map D.str))=>bQ.mp hd
 have hx:∀d∈aO (ks.map D.str),∃x,d=.str x:=fun d hd=>by obtain⟨x,_,rfl⟩:=Yk.mp (bQ.mp hd);exact⟨x,rfl⟩
 have hl:=db (ks.map D.str);rw[Yd]at hl;have:=h.1;unfold bh;simp only[Yo,YE];refine⟨⟨⟨⟨by omega,Yi.mpr hc.1⟩,Yi.mpr fun x hx=>Yi.mpr fun y hy=>hc.2 x hx y hy⟩,Yi.mpr fun d hd=>?_⟩,Yi.mpr fun d hd=>?_⟩
 ·obtain⟨x,rfl⟩:=hx d hd;rfl
 ·obtain⟨x,rfl⟩:=hx d hd;rfl
theorem tM{n:Int}{ks:List Str}(hn:n<=7)(h:okK n ks):b_ (ks.map D.str)=true:=by unfold b_;rw[Yo,YE,Yd];have:=h.1;exact⟨by omega,Yi.mpr fun d hd=>by obtain⟨x,_,rfl⟩:=Yk.mp hd;rfl⟩
noncomputable def fpt (ks:List Str)(ts:List T4)(n:Int):List Int:=stl ts n 100 (rks (ks.map D.str))
theorem nP{C:Addr}{ks:List Str}{T J:D}{ts:List T4}{n:Int}(hn:1<=n/\n<=7)(hk:okK n ks)(hF:∀ps:List Int,(ps.length:Int)=n->ib C [.v (.ins C (wFs ks T J)),.v (dL ps)]=some (.own (.lst ((fin ps ts n).map .int)) none)) :
  uX C [.v (.ins C (wFs ks T J))]=some (.v (dL (fpt ks ts n))):=by
 have hkl:=hk.1;have hr:=lv C (ks.map D.str) (.inr (tM hn.2 hk)) (wN hn.2 hk) (vS hk) (by rw[Yd];omega);have hs:=fX hn hF (rks (ks.map D.str)) (by rw[fG,Yd];exact hkl);have fk:=lx C ks T J;unfold uX g_q5 fpt;generalize jz C=Ra at hr ⊢;generalize eV C=Se at hs ⊢;generalize wFs ks T J=F at *;generalize stl ts n 100 (rks (ks.map D.str))=z at *;have e:dL (rks (ks.map D.str))=.lst ((rks (ks.map D.str)).map .int):=rfl;rw[e]at hs;generalize (rks (ks.map D.str)).map D.int=R at *;generalize ks.map D.str=K at *;generalize dL z=y at *;simp[fk,hr,hs]
theorem yc{ks:List Str}{ts:List T4}{n:Int}(hn:1<=n/\n<=7)(hk:okK n ks):((fpt ks ts n).length:Int)=n/\Can (fpt ks ts n):=by have hkl:=hk.1;refine⟨iV ts n hn.1 100 _ (by rw[fG,Yd];exact hkl),?_⟩;have:=mT ts n 100 (rks (ks.map D.str)) (jT ts n hn _);unfold fpt;rw[<-this];exact gf _ ts n
theorem lF{st:Dq}{c:Dk}{e:Dd}{ρ:DF}{α:Type}(f:α->D)(q:α->Bool)(F:α->D):∀xs:List α,(∀x∈xs,∃ρ1,st (f x) ρ=some ρ1/\c ρ1=some (q x)/\(q x=true->e ρ1=some (F x)))->bD st c e ρ (xs.map f)=some ((xs.filter q).map F)
 |[],_=>rfl
 |x::xs,h=>by
  obtain⟨ρ1,e1,e2,e3⟩:=h x Ye;have ih:=lF f q F xs fun y hy=>h y (Yc _ hy)
  rw[YG];unfold bD;rw[e1,Yb,e2,Yb,ih];cases hq:q x with
  |true=>rw[if_pos rfl,e3 hq,XY hq];rfl
  |false=>rw[if_neg Yj,XX (by rw[hq];exact Yj)]
def cnt(p:List Int)(x:Int):Nat:=p.countP fun y=>decide (y=x)
theorem Ac(p:List Int)(x:Int):kM (dL p) (.int x)=some (.int (cnt p x:Int)):=by
 have h:(p.map D.int).all (okN 29)=true:=Yi.mpr fun d hd=>by obtain⟨x,_,rfl⟩:=Yk.mp hd;rfl
 show(if((p.map D.int).all (okN 29)&&okN 30 (.int x))=true then some (D.int ((p.map D.int).countP fun d=>eqd d (.int x)))else none)=_;rw[h,if_pos (show(true&&okN 30 (D.int x))=true from rfl),List.countP_map];unfold cnt
 congr 3
theorem fm{p:List Int}{n:Int}(hl:(p.length:Int)=n):p=(ar n).map (ox p):=by
 apply ZO;intro k;unfold ar;rw[YL,Ys];by_cases h:k<p.length
 ·rw[Zo (by omega),Yf h];show _=some (ox p (k:Int));unfold ox;rw[YQ,Yf h];rfl
 ·rw[YS (by omega),YS (by rw[YZ];omega)];rfl
def row(p:List Int)(n r:Int):List Int:=(ar n).filter fun k=>decide (ox p k=r)
theorem rM{p:List Int}{n:Int}(hl:(p.length:Int)=n)(r:Int):(row p n r).length=cnt p r:=by unfold cnt row;have e:=fm hl;rw[e,List.countP_map,List.countP_eq_length_filter,<-e];rfl
def opn(p:List Int)(n:Int):List Int:=match(ar n).find? (fun r=>decide (1<cnt p r))with
 |some r=>row p n r
 |none=>[]
theorem r6{p:List Int}{n:Int}(hl:(p.length:Int)=n):di (p.map D.int)=(ar n).map fun k=>.tup [.int k,.int (ox p k)]:=by
 apply ZO;intro k;unfold di ar;rw[Ys,List.getElem?_zipIdx,Ys,YL,Ys];by_cases h:k<p.length
 ·rw[Zo (by omega),Yf h];show some (D.tup [.int ((0+k:Nat):Int),.int p[k]])=some (D.tup [.int (k:Int),.int (ox p (k:Int))]);unfold ox;rw[YQ,Yf h,ZB];rfl
 ·rw[YS (by omega),YS (by rw[YZ];omega)];rfl
theorem va{P:Int->Bool}{n m:Int}(h0:0<=m)(h1:m<n)(hm:P m=true)(hl:∀r,0<=r->r<m->P r=false):(ar n).find? P=some m:=by
 unfold ar;rw[List.find?_map];have:(List.range n.toNat).find? (P ∘ fun i:Nat=>(i:Int))=some m.toNat:=by
  rw[List.find?_range_eq_some];refine⟨?_,YI.mpr (by omega),fun j hj=>?_⟩
  ·show P ((m.toNat:Nat):Int)=true;rw[Xt h0];exact hm
  ·show(!P (j:Int))=true;rw[hl (j:Int) (by omega) (by omega)];rfl
 rw[this];show some ((m.toNat:Nat):Int)=some m;rw[Xt h0]
theorem y_{p:List Int}(h:p≠[]):oN (dL p)=some (.int (eI p)):=by
 have h1:(p.map D.int).all isI=true:=Yi.mpr fun d hd=>by obtain⟨x,_,rfl⟩:=Yk.mp hd;rfl
 have h2:(p.map D.int).isEmpty=false:=by cases p with|nil=>exact absurd rfl h|cons _ _=>rfl
 show(if((p.map D.int).all isI&&!(p.map D.int).isEmpty)=true then some (D.int (eI ((p.map D.int).map toI)))else none)=_;rw[h1,h2,if_pos (show(true&&!false)=true from rfl),YL];have:toI ∘ D.int=id:=rfl;rw[this,Vi]
def Bh(x:DV)(p:List Int):Prop:=x=.v (dL p)\/x=.bor (.lst (p.map .int))
theorem rS(C:Addr){p:List Int}{n:Int}{x:DV}(hn:n<=1000)(hl:(p.length:Int)=n)(hc:Can p)(hx:Bh x p):(ff C [x]).bind dvD=some (dL (opn p n)):=by
 have hb:∀a b,bG 0 [some x,a,b]=some (p.map .int):=fun a b=>by rcases hx with rfl|rfl<;>rfl
 have he:∀a b,eD 0 [some x,a,b]=some (di (p.map .int)):=fun a b=>by unfold eD;rw[hb];rfl
 have hg:∀a,ap 1 [a,i9 (some x)]=some (dL p):=fun a=>by rcases hx with rfl|rfl<;>rfl
 have c1:bD (setV 0) (asB (d2 gtI (d2 kM (ap 1) (ap 0)) (fun _=>some (.int 1)))) (getV 0) [none,i9 (some x)] (p.map .int)=some ((p.filter fun r=>decide (1<cnt p r)).map .int):=by
  refine e_ (fun r=>decide (1<cnt p r)) p (fun r _=>?_) (Nat.zero_lt_succ _);show asB (d2 gtI (d2 kM (ap 1) (ap 0)) (fun _=>some (.int 1))) [some (.v (.int r)),i9 (some x)]=_;have e1:d2 kM (ap 1) (ap 0) [some (.v (.int r)),i9 (some x)]=some (.int (cnt p r:Int)):=by rw[jx,hg,Yb];exact Ac p r
  rw[f9,jx,e1];show some (decide ((1:Int)<(cnt p r:Int)))=_;exact Zs some (decide_eq_decide.mpr (by omega))
 have hsz:(p.map D.int).length<=16777216:=by rw[Yd];omega
 have s1:(aq 1 (asO (asL (aJ 1 [0] (bG 0) (setV 0) (asB (d2 gtI (d2 kM (ap 1) (ap 0)) (fun _=>some (.int 1)))) (getV 0))))) [some x,none,none]=some (.nx [some x,some (.v (dL (p.filter fun r=>decide (1<cnt p r)))),none]):=by rw[bZ,cH,bX,bm,hb,Yb,if_pos hsz];show(((bD _ _ _ [none,i9 (some x)] (p.map .int)).map OD.lst).map OD.d).map _=_;rw[c1];rfl
 unfold ff g_q32;rw[oZ,show aR 3 1 [x]=[some x,none,none]from rfl,ao s1];by_cases q:(p.filter fun r=>decide (1<cnt p r))=[]
 ·rw[q,fC (ρ':=[some x,some (.v (dL [])),none]) (x:=.own (.lst []) none) rfl];have:opn p n=[]:=by
   unfold opn;have:(ar n).find? (fun r=>decide (1<cnt p r))=none:=by rw[VP];intro r _ hr;have hr:=YY hr;have hp:∃y∈p,decide (y=r)=true:=List.countP_pos_iff.mp (by show 0<cnt p r;omega);obtain⟨y,hy,e⟩:=hp;have e:=YY e;subst e;have hmem:y∈p.filter (fun r=>decide (1<cnt p r)):=ZS.mpr ⟨hy,YK hr⟩;rw[q]at hmem;cases hmem
   rw[this]
  rw[this];rfl
 ·obtain⟨m1,m2⟩:=l8 _ q;have hm:=y_ q;generalize hS:(p.filter fun r=>decide (1<cnt p r))=S at *;have hne:S.map D.int≠[]:=fun z=>q (VJ.mp z)
  have htr:yB (aa 1) [some x,some (.v (dL S)),none]=some true:=by
   show some (!(S.map D.int).isEmpty)=_;cases z:S.map D.int with
   |nil=>exact absurd z hne
   |cons _ _=>rfl
  rw[ao (ρ':=[some x,some (.v (dL S)),none]) (by rw[de,rW,htr];rfl),
   ao (ρ':=[some x,some (.v (dL S)),some (.v (.int (eI S)))]) (by
    show(d1 oN (aa 1) _).map _=_;rw[Aa,show aa 1 [some x,some (.v (dL S)),none]=some (dL S)from rfl,Yb,hm];rfl)]
  rw[<-hS]at m1;obtain⟨m3,m4⟩:=ZS.mp m1;rw[hS]at m3 m4;have m4:=YY m4;obtain⟨c0,c2⟩:=hc.1 _ m3;have ho:opn p n=row p n (eI S):=by
   unfold opn;rw[va c0 (by omega) (YK m4) fun r r0 r1=>by
    rw[YB];intro hr;have hp:∃y∈p,decide (y=r)=true:=List.countP_pos_iff.mp (by show 0<cnt p r;omega);obtain⟨y,hy,e⟩:=hp;have e:=YY e;subst e;have hy2:y∈S:=by rw[<-hS];exact ZS.mpr ⟨hy,YK hr⟩
    have:=m2 y hy2;omega]
  rw[ho];have c3:bD (h9 [0,1]) (asB (d2 eqD (ap 1) (ap 2))) (getV 0) [none,none,some (.v (.int (eI S)))] ((ar n).map fun k=>.tup [.int k,.int (ox p k)])=some ((row p n (eI S)).map .int):=by
   refine lF _ (fun k=>decide (ox p k=eI S)) D.int (ar n) fun k _=>⟨[some (.v (.int k)),some (.v (.int (ox p k))),some (.v (.int (eI S)))],rfl,?_,fun _=>rfl⟩
   simp
  rw[d_,bX,bm,he,Yb,r6 hl,if_pos (by rw[Yd,aS];omega)];show((cB (((bD _ _ _ [none,none,some (.v (.int (eI S)))] _).map OD.lst).map _))).bind dvD=_;rw[c3];rfl
def pah(p:List Int)(n k:Int):List Int:=if cnt p (ox p k)=1 then p else(ar n).map fun j=>if ox p j<ox p k\/j=k then ox p j else ox p j+1
theorem nD{p:List Int}{n k:Int}(hn:0<=n)(hl:(p.length:Int)=n):((pah p n k).length:Int)=n:=by
 unfold pah;split
 ·exact hl
 ·rw[Yd,aS];omega
theorem mh(C:Addr){p:List Int}{n k:Int}{x:DV}(hn:n<=1000)(hl:(p.length:Int)=n)(hk:0<=k/\k<n)(hx:Bh x p):oO C [x,.v (.int k)]=some (.own (.lst ((pah p n k).map .int)) none):=by
 have hg:∀a,aa 0 [some x,some (.v (.int k)),a]=some (dL p):=fun a=>by rcases hx with rfl|rfl<;>rfl
 have hg2:∀a,ap 0 [some x,some (.v (.int k)),a]=some (dL p):=fun a=>by rcases hx with rfl|rfl<;>rfl
 have he:∀a b,eD 0 [some x,a,b]=some (di (p.map .int)):=fun a b=>by rcases hx with rfl|rfl<;>rfl
 have ho:=lP hl hk;have hc:=Ac p (ox p k);unfold oO g_q33 pah;rw[jo,show aR 3 2 [x,.v (.int k)]=[some x,some (.v (.int k)),none]from rfl,
  ao (ρ':=[some x,some (.v (.int k)),some (.v (.int (ox p k)))]) (by
   rw[bZ,jx,hg,Yb];show((some (D.int k)).bind fun y=>ixD (dL p) y).map _=_;rw[Yb,show ixD (dL p) (.int k)=some (.int (ox p k))from ho];rfl)]
 have ec:asB (d2 eqD (d2 kM (ap 0) (ap 2)) (fun _=>some (.int 1))) [some x,some (.v (.int k)),some (.v (.int (ox p k)))]=some (decide (cnt p (ox p k)=1)):=by
  have e1:d2 kM (ap 0) (ap 2) [some x,some (.v (.int k)),some (.v (.int (ox p k)))]=some (.int (cnt p (ox p k):Int)):=by rw[jx,hg2,Yb];exact hc
  rw[f9,jx,e1,Yb,Yb,y0];exact Zs some (decide_eq_decide.mpr (by omega))
 by_cases q:cnt p (ox p k)=1
 ·rw[YK q]at ec;rw[if_pos q,fC (ρ':=[some x,some (.v (.int k)),some (.v (.int (ox p k)))]) (x:=.own (.lst (p.map .int)) none) (by
   rw[de,ec,Yb,if_pos rfl,d_,bX,ut,hg];rfl)]
  rfl
 ·rw[YB q]at ec;rw[if_neg q,ao (ρ':=[some x,some (.v (.int k)),some (.v (.int (ox p k)))]) (by rw[de,ec];rfl)];have c1:bD (h9 [0,1]) bb (ifV (orT (asB (d2 ltd (ap 1) (ap 2))) (asB (d2 eqD (ap 0) (ap 3)))) (getV 1) (d2 aQ (aa 1) (fun _=>some (.int 1)))) [none,none,some (.v (.int (ox p k))),some (.v (.int k))] ((ar n).map fun j=>.tup [.int j,.int (ox p j)])=some (((ar n).map fun j=>if ox p j<ox p k\/j=k then ox p j else ox p j+1).map .int):=by
   rw[YL];refine bB _ _ (ar n) fun j _=>⟨[some (.v (.int j)),some (.v (.int (ox p j))),some (.v (.int (ox p k))),some (.v (.int k))],rfl,rfl,?_⟩
   show _=some (D.int (if ox p j<ox p k\/j=k then ox p j else ox p j+1));by_cases h1:ox p j<ox p k
   ·rw[if_pos (.inl h1)];simp[h1]
   ·by_cases h2:j=k
    ·rw[if_pos (.inr h2)];simp[h1,h2]
    ·rw[if_neg (by rintro (z|z);exact h1 z;exact h2 z)];simp[h1,h2]
  rw[d_,bX,bm,he,Yb,r6 hl,if_pos (by rw[Yd,aS];omega)];show cB (((bD _ _ _ [none,none,some (.v (.int (ox p k))),some (.v (.int k))] _).map OD.lst).map _)=_;rw[c1];rfl
theorem k5{C:Addr}{w:D}{ts:List T4}{n k:Int}{p:List Int}{x:DV}(hn:1<=n/\n<=7)(hl:(p.length:Int)=n)(hk:0<=k/\k<n)(hx:Bh x p)(hS:∀ps:List Int,(ps.length:Int)=n->eV C [.v w,.v (dL ps)]=some (.v (dL (stl ts n 100 ps)))) :
  kF C [.v w,x,.v (.int k)]=some (.v (dL (stl ts n 100 (pah p n k)))):=by
 have hP:=mh C (by omega) hl hk hx;have hs:=hS (pah p n k) (nD (by omega) hl);have ha:∀fv:DF->Option (List DV),aB 1 fv [some (.v w),some x,some (.v (.int k))]=(fv [some (.v w),some x,some (.v (.int k))]).map fun xs=>x::xs:=fun fv=>by rcases hx with rfl|rfl<;>rfl
 unfold kF g_q3;generalize oO C=Pa at hP ⊢;generalize eV C=Se at hs ⊢;have e:dL (pah p n k)=.lst ((pah p n k).map .int):=rfl;rw[e]at hs;generalize dL (stl ts n 100 (pah p n k))=z at *;generalize (pah p n k).map D.int=y at *;rw[jf,show aR 3 3 [.v w,x,.v (.int k)]=[some (.v w),some x,some (.v (.int k))]from rfl,mY];have e1:ai Pa (aB 1 (aB 2 (fun _=>some []))) [some (.v w),some x,some (.v (.int k))]=some (.lst y):=by rw[pi,ha];show(some [x,.v (.int k)]).bind _=_;rw[Yb,hP];rfl
 have e2:ai Se (aB 0 (aV (ai Pa (aB 1 (aB 2 (fun _=>some [])))) (fun _=>some []))) [some (.v w),some x,some (.v (.int k))]=some z:=by rw[pi,zH,zC,e1];show(some [DV.v w,.v (.lst y)]).bind _=_;rw[Yb,hs];rfl
 rw[e2];rfl
def ix(out:List Int)(k:Int):Int:=(out.idxOf k:Int)
section
variable{n:Int}{out:List Int}
theorem kW(hn:1<=n)(p:out.Perm (ar n)){k:Int}(h:0<=k/\k<n):(0<=ix out k/\ix out k<n)/\ox out (ix out k)=k:=by obtain⟨hl,hd,hm⟩:=bV hn p;have hk:k∈out:=p.mem_iff.mpr (bc.mpr h);have hi:out.idxOf k<out.length:=List.idxOf_lt_length_iff.mpr hk;refine⟨by unfold ix;omega,?_⟩;unfold ix ox;rw[YQ,Yf hi,List.getElem_idxOf hi];rfl
theorem jm(hn:1<=n)(p:out.Perm (ar n)){k i:Int}(h:0<=k/\k<n)(hi:0<=i/\i<n):ix out k=i↔k=ox out i:=by
 obtain⟨a,b⟩:=kW hn p h;constructor
 ·intro e;rw[<-e];exact b.symm
 ·intro e;by_cases z:ix out k=i
  ·exact z
  ·exact absurd (b.trans e) (rV hn p a hi z)
def tn(out:List Int)(t:T4):T4:=if t.2.2.2=false/\t.2.2.1%2=0 then(ix out t.2.1,ix out t.1,t.2.2.1,t.2.2.2)else(ix out t.1,ix out t.2.1,t.2.2.1,t.2.2.2)
theorem C7(hn:1<=n)(p:out.Perm (ar n)){t:T4}(h:okT n t):okT n (tn out t):=by
 obtain⟨a0,a1,b0,b1,ab,k⟩:=h;obtain⟨x1,x2⟩:=kW hn p ⟨a0,a1⟩;obtain⟨y1,y2⟩:=kW hn p ⟨b0,b1⟩;have ne:ix out t.1≠ix out t.2.1:=fun z=>ab (by rw[<-x2,z,y2])
 unfold tn;split
 ·exact⟨y1.1,y1.2,x1.1,x1.2,fun z=>ne z.symm,k⟩
 ·exact⟨x1.1,x1.2,y1.1,y1.2,ne,k⟩
theorem A_(hn:1<=n)(p:out.Perm (ar n)){t:T4}(h:okT n t){i j:Int}(hi:0<=i/\i<n)(hj:0<=j/\j<n):(prs i j (tn out t)).Perm (prs (ox out i) (ox out j) t):=by
 obtain⟨a0,a1,b0,b1,ab,k⟩:=h;have e1:=jm hn p ⟨a0,a1⟩ hi;have e2:=jm hn p ⟨b0,b1⟩ hj;have e3:=jm hn p ⟨b0,b1⟩ hi;have e4:=jm hn p ⟨a0,a1⟩ hj;unfold tn;by_cases q:t.2.2.2=false/\t.2.2.1%2=0
 ·rw[if_pos q];unfold prs;simp only[e1,e2,e3,e4,q.1];exact List.perm_append_comm
 ·rw[if_neg q];unfold prs;simp only[e1,e2,e3,e4];exact Zw _
theorem sQ(hn:1<=n)(p:out.Perm (ar n)){i j:Int}(hi:0<=i/\i<n)(hj:0<=j/\j<n):∀ts:List T4,(∀t∈ts,okT n t)->(bJ i j (ts.map (tn out))).Perm (bJ (ox out i) (ox out j) ts)
 |[],_=>Zw _
 |t::ts,h=>(A_ hn p (h t Ye) hi hj).append (sQ hn p hi hj ts fun u hu=>h u (Yc _ hu))
def tus(out:List Int)(ts:List T4):List T4:=ts.reverse.map (tn out)
theorem BV(hn:1<=n)(p:out.Perm (ar n)){ts:List T4}(hs:okS n ts):okS n (tus out ts):=by unfold tus;refine⟨by rw[Yd,List.length_reverse];exact hs.1,fun t ht=>?_⟩;obtain⟨u,hu,rfl⟩:=Yk.mp ht;exact C7 hn p (hs.2 u (List.mem_reverse.mp hu))
theorem wZ(hn:1<=n)(p:out.Perm (ar n)){ts:List T4}(hs:okS n ts){i j:Int}(hi:0<=i/\i<n)(hj:0<=j/\j<n):(bJ i j (tus out ts)).Perm (bJ (ox out i) (ox out j) ts):=
 (k7 ((List.reverse_perm ts).map (tn out))).trans (sQ hn p hi hj ts hs.2)
def tu(out q:List Int):List Int:=out.map (ox q)
theorem jF(hn:1<=n)(p:out.Perm (ar n))(q:List Int):((tu out q).length:Int)=n:=by unfold tu;rw[Yd];exact(bV hn p).1
theorem wb{L:List Int}{f:Int->Int}{i:Int}(h:0<=i/\i<L.length):ox (L.map f) i=f (ox L i):=by
 unfold ox;have hi:i.toNat<L.length:=by omega
 rw[Ys,Yf hi];rfl
theorem lI(hn:1<=n)(p:out.Perm (ar n))(q:List Int){i:Int}(h:0<=i/\i<n):ox (tu out q) i=ox q (ox out i):=wb (by have:=(bV hn p).1;omega)
theorem mS{f:Int->Int}{k:Int}(h:0<=k/\k<n):ox ((ar n).map f) k=f k:=by
 have hl:k<((ar n).length:Int):=by rw[aS];omega
 rw[wb ⟨h.1,hl⟩]
 congr 1
 unfold ox ar;rw[Ys,Zo (by omega)];show((k.toNat:Nat):Int)=k;omega
theorem w4(hn:1<=n)(p:out.Perm (ar n)){a b:List Int}(ha:(a.length:Int)=n)(hb:(b.length:Int)=n)(e:tu out a=tu out b):a=b:=by rw[fm ha,fm hb];refine ZQ fun k hk=>?_;obtain⟨x1,x2⟩:=kW hn p (bc.mp hk);have:=Zs (fun l=>ox l (ix out k)) e;simp only[lI hn p _ x1,x2]at this;exact this
theorem sG(hn:1<=n)(p:out.Perm (ar n)){q:List Int}(hq:(q.length:Int)=n):(tu out q).Perm q:=by have:=p.map (ox q);rw[<-fm hq]at this;exact this
theorem Cn(hn:1<=n/\n<=7)(p:out.Perm (ar n)){ts:List T4}(hs:okS n ts)(q:List Int){i:Int}(hi:0<=i/\i<n):kyD (tu out q) (tus out ts) n i=kyD q ts n (ox out i):=by
 have hl:=(bV hn.1 p).1;have e1:(oth n i).map (prD (tu out q) (tus out ts) i)=((oth n i).map (ox out)).map (prD q ts (ox out i)):=by rw[YL];refine ZQ fun j hj=>?_;obtain⟨hj,_⟩:=rY.mp hj;show prD (tu out q) (tus out ts) i j=prD q ts (ox out i) (ox out j);unfold prD;rw[lI hn.1 p q hj,jP (wZ hn.1 p hs hi hj)]
 have e2:((oth n i).map (ox out)).Perm (oth n (ox out i)):=by
  have h1:(oth n i).map (ox out)=out.filter fun x=>!decide (x=ox out i):=by
   rw[fm hl,List.filter_map,<-fm hl];unfold oth
   congr 1
   refine List.filter_congr fun j hj=>?_;show(!decide (j=i))=!decide (ox out j=ox out i)
   congr 1
   refine decide_eq_decide.mpr ⟨fun z=>by rw[z],fun z=>?_⟩;by_cases y:j=i
   ·exact y
   ·exact absurd z (rV hn.1 p (bc.mp hj) hi y)
  rw[h1];exact p.filter _
 obtain⟨_,hc,_,_⟩:=cV (lQ q ts n (ox out i) hn);unfold kyD;rw[lI hn.1 p q hi,e1,cU (e2.map _) hc]
theorem v5{as bs:List D}(h:as.Perm bs):(aO as).Perm (aO bs):=(XH (eS as) (eS bs)).mpr fun x=>by rw[bQ,bQ,h.mem_iff]
theorem vf(hn:1<=n)(p:out.Perm (ar n))(f:Int->D):rks (out.map f)=tu out (rks ((ar n).map f)):=by have hd:=v5 (p.map f);have hm:∀k∈out,0<=k/\k<n:=(bV hn p).2.2;unfold rks tu;rw[YL];refine ZQ fun k hk=>?_;show(rkD (aO (out.map f)) (f k):Int)=ox (((ar n).map f).map fun d=>(rkD (aO ((ar n).map f)) d:Int)) k;rw[YL,mS (hm k hk),oH hd];rfl
theorem p5(hn:1<=n/\n<=7)(p:out.Perm (ar n)){ts:List T4}(hs:okS n ts)(q:List Int):fin (tu out q) (tus out ts) n=tu out (fin q ts n):=by
 have hl:=(bV hn.1 p).1;unfold fin;have:kys (tu out q) (tus out ts) n=out.map (kyD q ts n):=by unfold kys;rw[fm hl,YL,<-fm hl];exact ZQ fun i hi=>Cn hn p hs q (bc.mp hi)
 rw[this,vf hn.1 p];rfl
theorem zO(hn:1<=n/\n<=7)(p:out.Perm (ar n)){ts:List T4}(hs:okS n ts):∀(k:Nat) (q:List Int),(q.length:Int)=n->rl (tus out ts) n k (tu out q)=(rl ts n k q).map (tu out)
 |0,q,_=>rfl
 |k+1,q,hq=>by
  unfold rl;rw[p5 hn p hs q];have hf:((fin q ts n).length:Int)=n:=cZ hn.1;by_cases z:fin q ts n=q
  ·rw[if_pos z,z,if_pos rfl];rfl
  ·rw[if_neg z,if_neg fun y=>z (w4 hn.1 p hf hq y),YG,zO hn p hs k _ hf]
theorem mU(hn:1<=n/\n<=7)(p:out.Perm (ar n)){ts:List T4}(hs:okS n ts):∀(k:Nat) (q:List Int),(q.length:Int)=n->stl (tus out ts) n k (tu out q)=tu out (stl ts n k q)
 |0,q,_=>rfl
 |k+1,q,hq=>by
  unfold stl;rw[p5 hn p hs q];have hf:((fin q ts n).length:Int)=n:=cZ hn.1;by_cases z:fin q ts n=q
  ·rw[if_pos z,z,if_pos rfl]
  ·rw[if_neg z,if_neg fun y=>z (w4 hn.1 p hf hq y),mU hn p hs k _ hf]
def tks(out:List Int)(ks:List Str):List Str:=out.map (kAt ks)
theorem A8(hn:1<=n)(p:out.Perm (ar n)){ks:List Str}(hk:okK n ks):okK n (tks out ks):=B6 hn hk p
theorem DX{ks:List Str}(hk:okK n ks):ks.map D.str=(ar n).map fun k=>D.str (kAt ks k):=by
 have hl:=hk.1;apply ZO;intro k;unfold ar;rw[YL,Ys,Ys];by_cases h:k<ks.length
 ·rw[Zo (by omega),Yf h];show some (D.str ks[k])=some (D.str (kAt ks (k:Int)));unfold kAt;rw[YQ,Yf h];rfl
 ·rw[YS (by omega),YS (by rw[YZ];omega)];rfl
theorem BS(hn:1<=n/\n<=7)(p:out.Perm (ar n)){ks:List Str}{ts:List T4}(hk:okK n ks)(hs:okS n ts):fpt (tks out ks) (tus out ts) n=tu out (fpt ks ts n):=by
 unfold fpt;have:rks ((tks out ks).map D.str)=tu out (rks (ks.map D.str)):=by rw[DX hk,<-vf hn.1 p];unfold tks;rw[YL];rfl
 rw[this];exact mU hn p hs 100 _ (by rw[fG,Yd];exact hk.1)
theorem vA(hn:1<=n)(p:out.Perm (ar n)){q:List Int}(hq:(q.length:Int)=n)(r:Int):cnt (tu out q) r=cnt q r:=(sG hn p hq).countP_eq _
theorem Cj(hn:1<=n)(p:out.Perm (ar n)){q:List Int}(hq:(q.length:Int)=n):((opn (tu out q) n).map (ox out)).Perm (opn q n):=by
 have hl:=(bV hn p).1;unfold opn;have hf:(fun r=>decide (1<cnt (tu out q) r))=fun r=>decide (1<cnt q r):=funext fun r=>by rw[vA hn p hq]
 rw[hf];split
 ·rename_i r _;have h1:(row (tu out q) n r).map (ox out)=out.filter fun k=>decide (ox q k=r):=by
   rw[fm hl,List.filter_map,<-fm hl];unfold row
   congr 1
   refine List.filter_congr fun j hj=>?_;rw[lI hn p q (bc.mp hj)];rfl
  rw[h1];exact p.filter _
 ·exact Zw _
theorem B_(hn:1<=n)(p:out.Perm (ar n)){q:List Int}(hq:(q.length:Int)=n){k:Int}(hk:0<=k/\k<n):pah (tu out q) n (ix out k)=tu out (pah q n k):=by
 obtain⟨x1,x2⟩:=kW hn p hk;have hl:=(bV hn p).1;unfold pah;rw[lI hn p q x1,x2,vA hn p hq];by_cases z:cnt q (ox q k)=1
 ·rw[if_pos z,if_pos z]
 ·rw[if_neg z,if_neg z];have hm:∀j∈out,0<=j/\j<n:=(bV hn p).2.2;have e1:tu out ((ar n).map fun j=>if ox q j<ox q k\/j=k then ox q j else ox q j+1)=out.map fun j=>if ox q j<ox q k\/j=k then ox q j else ox q j+1:=by unfold tu;exact ZQ fun j hj=>mS (hm j hj)
  rw[e1]
  conv=>rhs;rw[fm hl]
  rw[YL];refine ZQ fun j hj=>?_;have hj:=bc.mp hj;show(if ox (tu out q) j<ox q k\/j=ix out k then ox (tu out q) j else ox (tu out q) j+1)=if ox q (ox out j)<ox q k\/ox out j=k then ox q (ox out j)else ox q (ox out j)+1;rw[lI hn p q hj];have he:(j=ix out k)↔(ox out j=k):=⟨fun y=>by rw[y];exact x2,fun y=>((jm hn p hk hj).mpr y.symm).symm⟩
  simp only[he]
end
theorem BP{n:Nat}{ds:List D}(hc:Cmps n ds){d e:D}(hd:d∈ds)(he:e∈ds)(h:rkD (aO ds) d=rkD (aO ds) e):d=e:=by have h1:=je hc hd;have h2:=je hc he;rw[h,h2]at h1;cases h1;rfl
theorem A4{q:List Int}{ts:List T4}{n i j:Int}(hi:0<=i/\i<n)(hj:0<=j/\j<n)(h:ox q i≠ox q j):ox (fin q ts n) i≠ox (fin q ts n) j:=by obtain⟨a1,a2⟩:=qJ (ps:=q) (ts:=ts) hi;obtain⟨b1,b2⟩:=qJ (ps:=q) (ts:=ts) hj;unfold fin;rw[rC a1,rC b1,a2,b2];intro z;have e:=BP (gh q ts n) (d:=kyD q ts n i) (e:=kyD q ts n j) (Yk.mpr ⟨i,bc.mpr hi,rfl⟩) (Yk.mpr ⟨j,bc.mpr hj,rfl⟩) (by omega);have:=Zs (fun d=>match d with|.tup (.int a::_)=>a|_=>0) e;exact h this
theorem qS{ts:List T4}{n i j:Int}(hi:0<=i/\i<n)(hj:0<=j/\j<n):∀(k:Nat) (q:List Int),ox q i≠ox q j->ox (stl ts n k q) i≠ox (stl ts n k q) j
 |0,q,h=>h
 |k+1,q,h=>by
  unfold stl;by_cases z:fin q ts n=q
  ·rw[if_pos z];exact h
  ·rw[if_neg z];exact qS hi hj k _ (A4 hi hj h)
theorem nB{q:List Int}{n k i:Int}(hc:¬cnt q (ox q k)=1)(hi:0<=i/\i<n):ox (pah q n k) i=if ox q i<ox q k\/i=k then ox q i else ox q i+1:=by unfold pah;rw[if_neg hc,mS hi]
theorem vH{α:Type}{R:α->α->Prop}(sy:∀a b,R a b->R b a):∀{S:List α},S.Pairwise R->∀a∈S,∀b∈S,a≠b->R a b
 |[],_,a,ha,_,_,_=>by cases ha
 |x::S,h,a,ha,b,hb,ne=>by
  obtain⟨h1,h2⟩:=Zm.mp h;rcases Yr.mp ha with ea|ha
  ·rcases Yr.mp hb with eb|hb
   ·exact absurd (ea.trans eb.symm) ne
   ·rw[ea];exact h1 b hb
  ·rcases Yr.mp hb with eb|hb
   ·rw[eb];exact sy _ _ (h1 a ha)
   ·exact vH sy h2 a ha b hb ne
def ie(n:Int)(q S:List Int):Prop:=(∀s∈S,0<=s/\s<n)/\S.Pairwise fun a b=>ox q a≠ox q b
theorem nJ{n:Int}{q S:List Int}(h:ie n q S):S.Nodup:=h.2.imp fun z e=>z (by rw[e])
theorem qH{ts:List T4}{n k m:Int}{q S:List Int}(h:ie n q S)(hk:0<=k/\k<n)(hm:0<=m/\m<n)(hkm:m≠k)(he:ox q m=ox q k)(hc:¬cnt q (ox q k)=1):∃x,ie n (stl ts n 100 (pah q n k)) (x::S):=by
 have ne1:∀a b,(0<=a/\a<n)->(0<=b/\b<n)->ox q a≠ox q b->ox (pah q n k) a≠ox (pah q n k) b:=fun a b ha hb hab=>by
  rw[nB hc ha,nB hc hb];split<;>split<;>first|omega|(rename_i z y;rcases z with z|z<;>first|omega|(subst z;omega))|(rename_i z y;rcases y with y|y<;>first|omega|(subst y;omega))
 have ne2:∀a,(0<=a/\a<n)->a≠k->ox q a=ox q k->ox (pah q n k) a≠ox (pah q n k) k:=fun a ha hak e=>by
  rw[nB hc ha,nB hc hk,if_neg (by rintro (z|z);omega;exact hak z),if_pos (.inr rfl)];omega
 have key:∀x,(0<=x/\x<n)->(∀s∈S,ox (pah q n k) x≠ox (pah q n k) s)->ie n (stl ts n 100 (pah q n k)) (x::S):=fun x hx hs=>by
  refine⟨fun s z=>?_,Zm.mpr ⟨fun s z=>qS hx (h.1 s z) 100 _ (hs s z),?_⟩⟩
  ·rcases Yr.mp z with z|z
   ·rw[z];exact hx
   ·exact h.1 s z
  ·refine h.2.imp_of_mem fun{a b} ha hb hab=>qS (h.1 a ha) (h.1 b hb) 100 _ (ne1 a b (h.1 a ha) (h.1 b hb) hab)
 by_cases hS:k∈S
 ·refine⟨m,key m hm fun s hs=>?_⟩;by_cases z:s=k
  ·rw[z];exact ne2 m hm hkm he
  ·have:ox q s≠ox q k:=vH (fun _ _ z e=>z e.symm) h.2 s hs k hS z;exact ne1 m s hm (h.1 s hs) (fun e=>this (by rw[<-e];exact he))
 ·refine⟨k,key k hk fun s hs=>?_⟩;by_cases z:ox q s=ox q k
  ·exact fun e=>ne2 s (h.1 s hs) (fun y=>hS (y ▸ hs)) z e.symm
  ·exact ne1 k s hk (h.1 s hs) fun e=>z e.symm
theorem yR{n:Int}{q:List Int}(hq:(q.length:Int)=n)(hc:Can q)(h:opn q n=[]):q.Perm (ar n):=by
 have hc1:∀r,0<=r->r<n->cnt q r<=1:=fun r r0 r1=>by
  refine Zk fun z=>?_;unfold opn at h;cases y:(ar n).find? (fun r=>decide (1<cnt q r))with
  |none=>exact VP.mp y r (bc.mpr ⟨r0,r1⟩) (YK (by omega))
  |some r'=>
   rw[y]at h;have h1:=List.find?_some y;have h2:=YY h1;have h3:(row q n r').length=0:=by rw[show row q n r'=[]from h];rfl
   rw[rM hq]at h3;omega
 have nd:q.Nodup:=by
  rw[List.nodup_iff_count];intro a;by_cases ha:a∈q
  ·obtain⟨a0,a1⟩:=hc.1 a ha;have:=hc1 a a0 (by omega);unfold cnt at this;refine YC (ZT ?_) this;unfold List.count;exact Zs (fun f=>List.countP f q) (funext fun y=>by
    by_cases z:y=a
    ·subst z;simp
    ·simp[z])
  ·rw[List.count_eq_zero_of_not_mem ha];exact YF _
 refine(XH nd (f8 n)).mpr fun a=>⟨fun ha=>?_,fun ha=>?_⟩
 ·have:=hc.1 a ha;exact bc.mpr (by omega)
 ·refine Zk fun z=>?_;have:=fy (a::q) (ar n) (ZU.mpr ⟨z,nd⟩) fun y hy=>by
   rcases Yr.mp hy with w|w
   ·rw[w];exact ha
   ·have:=hc.1 y w;exact bc.mpr (by omega)
  rw[Yw,aS]at this;omega
theorem w_{out:List Int}{x:Int}(h:x∈out):iM (dL out) (.int x)=some (.int (ix out x)):=by
 have ha:(out.map D.int).all (okN 29)=true:=Yi.mpr fun d hd=>by obtain⟨y,_,rfl⟩:=Yk.mp hd;rfl
 show(if((out.map D.int).all (okN 29)&&okN 30 (.int x))=true then(eY (.int x) (out.map D.int)).map (fun(j:Nat)=>D.int (j:Int))else none)=_;rw[ha,if_pos (show(true&&okN 30 (D.int x))=true from rfl),oX x out h];rfl
theorem B9{n:Int}{ks:List Str}(hk:okK n ks){i:Int}(h:0<=i/\i<n):ixD (.lst (ks.map .str)) (.int i)=some (.str (kAt ks i)):=by have hl:=hk.1;obtain⟨x,hx,e⟩:=cY (l:=ks) D.str h.1 (by omega);show atI (ks.map D.str) i=_;rw[e];unfold kAt;rw[hx];rfl
abbrev tnF(KS TS:List D)(out:List Int)(st:List D)(M:List D)(x5 x6:Option DV):DF:=[some (.v (.lst KS)),some (.v (.lst TS)),some (.v (dL out)),some (.v (.lst st)),some (.own (.lst M) none),x5,x6]
theorem xR{KS TS st M:List D}{out:List Int}{t:T4}{a b:Int}{x6:Option DV}(ha:ixD (.lst st) (.int t.1)=some (.int a))(hb:ixD (.lst st) (.int t.2.1)=some (.int b))(hM:M.length<1000) :
  ∃y6,(ak (aq 6 (asT (ah (d2 ixD (aa 3) (d2 ixD (aa 5) (fun _=>some (.int 0)))) (ah (d2 ixD (aa 3) (d2 ixD (aa 5) (fun _=>some (.int 1)))) aH))))
  (ak (dIf (eX (cI (asB (d2 ixD (aa 5) (fun _=>some (.int 3))))) (asB (d2 eqD (d2 aL (d2 ixD (aa 5) (fun _=>some (.int 2))) (fun _=>some (.int 2))) (fun _=>some (.int 0))))) (aq 6 (asT (ah (d2 ixD (aa 6) (fun _=>some (.int 1))) (ah (d2 ixD (aa 6) (fun _=>some (.int 0))) aH)))) dNx)
  (cQ 4 (asT (ah (d2 ixD (aa 6) (fun _=>some (.int 0))) (ah (d2 ixD (aa 6) (fun _=>some (.int 1))) (ah (d2 ixD (aa 5) (fun _=>some (.int 2))) (ah (d2 ixD (aa 5) (fun _=>some (.int 3))) aH)))))))) (tnF KS TS out st M (some (.v (dT4 t))) x6)=some (.nx (tnF KS TS out st (M++[dT4 (if t.2.2.2=false/\t.2.2.1%2=0 then(b,a,t.2.2.1,t.2.2.2)else(a,b,t.2.2.1,t.2.2.2))]) (some (.v (dT4 t))) y6)):=by
 obtain⟨p,q,k,o⟩:=t;have i0:ixD (dT4 (p,q,k,o)) (.int 0)=some (.int p):=rfl;have i1:ixD (dT4 (p,q,k,o)) (.int 1)=some (.int q):=rfl;have i2:ixD (dT4 (p,q,k,o)) (.int 2)=some (.int k):=rfl;have i3:ixD (dT4 (p,q,k,o)) (.int 3)=some (.bl o):=rfl;have j0:∀a b:Int,ixD (.tup [.int a,.int b]) (.int 0)=some (.int a):=fun _ _=>rfl
 have j1:∀a b:Int,ixD (.tup [.int a,.int b]) (.int 1)=some (.int b):=fun _ _=>rfl
 have ha:ixD (.lst st) (.int p)=some (.int a):=ha;have hb:ixD (.lst st) (.int q)=some (.int b):=hb;have m2:=aT k 2 (by decide);have hM2:M.length<16777216:=by omega
 show ∃y6,(ak (aq 6 (asT (ah (d2 ixD (aa 3) (d2 ixD (aa 5) (fun _=>some (.int 0)))) (ah (d2 ixD (aa 3) (d2 ixD (aa 5) (fun _=>some (.int 1)))) aH))))
  (ak (dIf (eX (cI (asB (d2 ixD (aa 5) (fun _=>some (.int 3))))) (asB (d2 eqD (d2 aL (d2 ixD (aa 5) (fun _=>some (.int 2))) (fun _=>some (.int 2))) (fun _=>some (.int 0))))) (aq 6 (asT (ah (d2 ixD (aa 6) (fun _=>some (.int 1))) (ah (d2 ixD (aa 6) (fun _=>some (.int 0))) aH)))) dNx)
  (cQ 4 (asT (ah (d2 ixD (aa 6) (fun _=>some (.int 0))) (ah (d2 ixD (aa 6) (fun _=>some (.int 1))) (ah (d2 ixD (aa 5) (fun _=>some (.int 2))) (ah (d2 ixD (aa 5) (fun _=>some (.int 3))) aH)))))))) (tnF KS TS out st M (some (.v (dT4 (p,q,k,o)))) x6)=some (RES.nx (tnF KS TS out st (M++[dT4 (if o=false/\k%2=0 then(b,a,k,o)else(a,b,k,o))]) (some (.v (dT4 (p,q,k,o)))) y6))
 have fin:∀(c d:Int),(cQ 4 (asT (ah (d2 ixD (aa 6) (fun _=>some (.int 0))) (ah (d2 ixD (aa 6) (fun _=>some (.int 1))) (ah (d2 ixD (aa 5) (fun _=>some (.int 2))) (ah (d2 ixD (aa 5) (fun _=>some (.int 3))) aH)))))) (tnF KS TS out st M (some (.v (dT4 (p,q,k,o)))) (some (.v (.tup [.int c,.int d]))))=some (.nx (tnF KS TS out st (M++[dT4 (c,d,k,o)]) (some (.v (dT4 (p,q,k,o)))) (some (.v (.tup [.int c,.int d]))))):=fun c d=>by
  have e:dT4 (c,d,k,o)=.tup [.int c,.int d,.int k,.bl o]:=rfl;rw[e];generalize dT4 (p,q,k,o)=T at *;simp[i2,i3,j0,j1,hM2]
 rw[ao (ρ':=tnF KS TS out st M (some (.v (dT4 (p,q,k,o)))) (some (.v (.tup [.int a,.int b])))) (by
  generalize dT4 (p,q,k,o)=T at *;simp[i0,i1,ha,hb])]
 by_cases z:o=false/\k%2=0
 ·refine⟨some (.v (.tup [.int b,.int a])),?_⟩;rw[if_pos z,ao (ρ':=tnF KS TS out st M (some (.v (dT4 (p,q,k,o)))) (some (.v (.tup [.int b,.int a])))) (by
   generalize dT4 (p,q,k,o)=T at *;simp[i2,i3,m2,z.1,z.2,j0,j1])]
  exact fin b a
 ·refine⟨some (.v (.tup [.int a,.int b])),?_⟩;rw[if_neg z,ao (ρ':=tnF KS TS out st M (some (.v (dT4 (p,q,k,o)))) (some (.v (.tup [.int a,.int b])))) (by
   generalize dT4 (p,q,k,o)=T at *;cases o with
   |true=>simp[i3]
   |false=>
    have z2:¬k%2=0:=fun y=>z ⟨rfl,y⟩
    simp[i2,i3,m2,z2])]
  exact fin a b
theorem t6(C:Addr){n:Int}{out:List Int}{ks:List Str}{ts:List T4}(hn:1<=n/\n<=7)(p:out.Perm (ar n))(hk:okK n ks)(hs:okS n ts):sO C [.v (.lst (ks.map .str)),.v (.lst (ts.map dT4)),.v (dL out)]=some (.v (.tup [.lst ((tks out ks).map .str),.lst ((tus out ts).map dT4)])):=by
 obtain⟨hl,_,hm⟩:=bV hn.1 p;unfold sO g_q28;have hlen:∀a b c d e f,d1 bu (ap 2) [a,b,some (.v (dL out)),c,d,e,f]=some (.int n):=fun _ _ _ _ _ _=>by
  show some (D.int ((out.map D.int).length:Int))=_;rw[Yd,hl]
 have c1:bD (setV 0) bb (d2 iM (ap 1) (ap 0)) [none,some (.v (dL out))] ((ar n).map .int)=some (((ar n).map (ix out)).map .int):=by
  rw[YL];refine bB D.int _ (ar n) fun k hk=>⟨[some (.v (.int k)),some (.v (dL out))],rfl,rfl,?_⟩
  exact w_ (p.mem_iff.mpr hk)
 have hst:∀k,0<=k/\k<n->ixD (.lst (((ar n).map (ix out)).map .int)) (.int k)=some (.int (ix out k)):=fun k hk=>by
  have:=lP (ps:=(ar n).map (ix out)) (n:=n) (by rw[Yd,aS];omega) hk;rw[this,mS hk]
 rw[jf,show aR 7 3 [.v (.lst (ks.map .str)),.v (.lst (ts.map dT4)),.v (dL out)]=[some (.v (.lst (ks.map .str))),some (.v (.lst (ts.map dT4))),some (.v (dL out)),none,none,none,none]from rfl,
  ao (ρ':=[some (.v (.lst (ks.map .str))),some (.v (.lst (ts.map dT4))),some (.v (dL out)),some (.v (.lst (((ar n).map (ix out)).map .int))),none,none,none]) (by
   rw[bZ,cH,bX,bm,dq (hlen _ _ _ _ _ _) (by omega),Yb,if_pos (by rw[Yd,aS];omega)];show(((bD _ _ _ [none,some (.v (dL out))] ((ar n).map .int)).map OD.lst).map OD.d).map _=_;rw[c1];rfl),
  ao (ρ':=tnF (ks.map .str) (ts.map dT4) out (((ar n).map (ix out)).map .int) [] none none) rfl]
 obtain⟨z,e,x5,x6,rfl⟩:=dN (st:=setV 5) (body:=(ak (aq 6 (asT (ah (d2 ixD (aa 3) (d2 ixD (aa 5) (fun _=>some (.int 0)))) (ah (d2 ixD (aa 3) (d2 ixD (aa 5) (fun _=>some (.int 1)))) aH))))
  (ak (dIf (eX (cI (asB (d2 ixD (aa 5) (fun _=>some (.int 3))))) (asB (d2 eqD (d2 aL (d2 ixD (aa 5) (fun _=>some (.int 2))) (fun _=>some (.int 2))) (fun _=>some (.int 0))))) (aq 6 (asT (ah (d2 ixD (aa 6) (fun _=>some (.int 1))) (ah (d2 ixD (aa 6) (fun _=>some (.int 0))) aH)))) dNx)
  (cQ 4 (asT (ah (d2 ixD (aa 6) (fun _=>some (.int 0))) (ah (d2 ixD (aa 6) (fun _=>some (.int 1))) (ah (d2 ixD (aa 5) (fun _=>some (.int 2))) (ah (d2 ixD (aa 5) (fun _=>some (.int 3))) aH))))))))) (fun j ρ=>∃x5 x6,ρ=tnF (ks.map .str) (ts.map dT4) out (((ar n).map (ix out)).map .int) (((ts.reverse.take j).map (tn out)).map dT4) x5 x6) (ts.reverse.map dT4) 0 (tnF (ks.map .str) (ts.map dT4) out (((ar n).map (ix out)).map .int) [] none none) ⟨_,_,rfl⟩ (by
  rintro j d _ hj ⟨x5,x6,rfl⟩;rw[Ys]at hj;cases ht:ts.reverse[j]? with
  |none=>rw[ht]at hj;cases hj
  |some t=>
   rw[ht]at hj;cases hj;obtain⟨a0,a1,b0,b1,_⟩:=hs.2 t (List.mem_reverse.mp (YD ht));have hts:=hs.1;obtain⟨y6,e⟩:=xR (KS:=ks.map .str) (TS:=ts.map dT4) (out:=out) (x6:=x6) (M:=((ts.reverse.take (0+j)).map (tn out)).map dT4) (hst t.1 ⟨a0,a1⟩) (hst t.2.1 ⟨b0,b1⟩) (by rw[Yd,Yd,ZN,List.length_reverse];omega);refine⟨_,rfl,_,e,some (.v (dT4 t)),y6,?_⟩;have et:ts.reverse.take (0+j+1)=ts.reverse.take (0+j)++[t]:=by rw[XF,ZB,ht];rfl
   rw[et,Zq,Zq];rfl)
 rw[Yd,ZB,Xv]  at *;have hrev:sj (getV 1) (tnF (ks.map .str) (ts.map dT4) out (((ar n).map (ix out)).map .int) [] none none)=some (ts.reverse.map dT4):=by show some (ts.map dT4).reverse=_;rw[List.map_reverse]
 rw[ao (cM hrev e)];have c2:bD (setV 0) bb (d2 ixD (aa 1) (aa 0)) [none,some (.v (.lst (ks.map .str)))] (out.map .int)=some ((tks out ks).map .str):=by
  unfold tks;rw[YL];refine bB D.int _ out fun k hk'=>⟨[some (.v (.int k)),some (.v (.lst (ks.map .str)))],rfl,rfl,?_⟩
  exact B9 hk (hm k hk')
 show cB (rj 4 _ _)=_;rw[yN];show cB (bf _ [some (.v (.lst (ks.map .str))),some (.v (.lst (ts.map dT4))),some (.v (dL out)),some (.v (.lst (((ar n).map (ix out)).map .int))),some (.v (.lst ((ts.reverse.map (tn out)).map dT4))),x5,x6])=_;rw[mY,Av,we,cH,bX,bm];show cB ((((((if(out.map D.int).length<=16777216 then bD _ _ _ [none,some (.v (.lst (ks.map .str)))] (out.map .int)else none)).map OD.lst).map OD.d).bind _).map _ |>.map _)=_;rw[if_pos (by rw[Yd];omega),c2];rfl
theorem iS(C:Addr){n:Int}{out q:List Int}(hn:1<=n/\n<=7)(p:out.Perm (ar n))(hq:(q.length:Int)=n):dQ C [.v (dL q),.v (dL (tu out q)),.v (dL out)]=some (.v (.bl true)):=by
 obtain⟨hl,_,hm⟩:=bV hn.1 p;have hN:=qq C (tu out q) (by have:=jF hn.1 p q;omega);unfold dQ g_q20;generalize oR C=Nu at hN ⊢;have c1:bD (setV 0) bb (d2 ixD (aa 1) (aa 0)) [none,some (.v (dL q))] (out.map .int)=some ((tu out q).map .int):=by
  unfold tu;rw[YL];refine bB D.int _ out fun k hk'=>⟨[some (.v (.int k)),some (.v (dL q))],rfl,rfl,?_⟩
  exact lP hq (hm k hk')
 have e1:aJ 1 [0] (bG 2) (setV 0) bb (d2 ixD (aa 1) (aa 0)) [some (.v (dL q)),some (.v (dL (tu out q))),some (.v (dL out))]=some ((tu out q).map .int):=by rw[bm];show(if(out.map D.int).length<=16777216 then bD _ _ _ [none,some (.v (dL q))] (out.map .int)else none)=_;rw[if_pos (by rw[Yd];omega),c1]
 have e2:neD (.int ((q.map D.int).length:Int)) (.int ((out.map D.int).length:Int))=some (.bl false):=by rw[Yd,Yd,hq,hl,nt,YK rfl];rfl
 have e3:nM "list" (dL q)=some (.bl true):=rfl;rw[jf,show aR 3 3 [.v (dL q),.v (dL (tu out q)),.v (dL out)]=[some (.v (dL q)),some (.v (dL (tu out q))),some (.v (dL out))]from rfl,
  ao (ρ':=[some (.v (dL q)),some (.v (dL (tu out q))),some (.v (dL out))]) (by
   rw[de,By];show((some (!true)).bind fun b=>if b=true then some true else(match neD (.int ((q.map D.int).length:Int)) (.int ((out.map D.int).length:Int))with|some (.bl b)=>some b|_=>none)).bind _=_;rw[e2];rfl)]
 show cB ((((aB 1 (aV (asO (asL (aJ 1 [0] (bG 2) (setV 0) bb (d2 ixD (aa 1) (aa 0))))) (fun _=>some []))) [some (.v (dL q)),some (.v (dL (tu out q))),some (.v (dL out))]).bind fun xs=>(Nu xs).bind dvD).map _)=_;rw[zH,zC,cH,bX,e1];show cB (((some [DV.v (dL (tu out q)),.v (dL (tu out q))]).bind fun xs=>(Nu xs).bind dvD).map _)=_;rw[Yb,hN];rfl
theorem xo(C:Addr){n:Int}{out:List Int}{R:List (List Int)}(hn:1<=n/\n<=7)(p:out.Perm (ar n))(hR:∀q∈R,(q.length:Int)=n)(hr:R.length<=1000):rP C [.v (.lst (R.map dL)),.v (.lst ((R.map (tu out)).map dL)),.v (dL out)]=some (.v (.bl true)):=by
 have hL:=fun q hq=>iS C (q:=q) hn p hq
 unfold rP g_q26;generalize dQ C=Li at hL ⊢;have e2:neD (.int ((R.map dL).length:Int)) (.int (((R.map (tu out)).map dL).length:Int))=some (.bl false):=by rw[Yd,Yd,Yd,nt,YK rfl];rfl
 have hlen:∀a b c,d1 bu (ap 0) [some (.v (.lst (R.map dL))),a,b,c]=some (.int (R.length:Int)):=fun _ _ _=>by
  show some (D.int ((R.map dL).length:Int))=_;rw[Yd]
 obtain⟨z,e,x,rfl⟩:=gC (st:=setV 3) (body:=(dIf (cI (asB (ai Li (aV (d2 ixD (aa 0) (aa 3)) (aV (d2 ixD (aa 1) (aa 3)) (aB 2 (fun _=>some []))))))) (bf (fun _=>some (.bl false))) dNx)) (ds:=(ar (R.length:Int)).map .int) (ρ:=[some (.v (.lst (R.map dL))),some (.v (.lst ((R.map (tu out)).map dL))),some (.v (dL out)),none]) (fun ρ=>∃x,ρ=[some (.v (.lst (R.map dL))),some (.v (.lst ((R.map (tu out)).map dL))),some (.v (dL out)),x]) ⟨_,rfl⟩ (by
  rintro d hd _ ⟨x,rfl⟩;obtain⟨k,hk,rfl⟩:=Yk.mp hd;have hk:=bc.mp hk;obtain⟨q,h1,h2⟩:=cY (l:=R) dL hk.1 hk.2;have h3:atI ((R.map (tu out)).map dL) k=some (dL (tu out q)):=by obtain⟨q',h3,h4⟩:=cY (l:=R.map (tu out)) dL hk.1 (by rw[Yd];exact hk.2);rw[Ys,h1]at h3;cases h3;exact h4
  have h5:=hL q (hR q (YD h1));refine⟨[some (.v (.lst (R.map dL))),some (.v (.lst ((R.map (tu out)).map dL))),some (.v (dL out)),some (.v (.int k))],rfl,[some (.v (.lst (R.map dL))),some (.v (.lst ((R.map (tu out)).map dL))),some (.v (dL out)),some (.v (.int k))],?_,_,rfl⟩;generalize dL (tu out q)=A at *;generalize dL q=B at *;generalize dL out=O at *;generalize (R.map (tu out)).map dL=R2 at *;generalize R.map dL=R1 at *;simp[ix1,h2,h3,h5])
 rw[jf,show aR 4 3 [.v (.lst (R.map dL)),.v (.lst ((R.map (tu out)).map dL)),.v (dL out)]=[some (.v (.lst (R.map dL))),some (.v (.lst ((R.map (tu out)).map dL))),some (.v (dL out)),none]from rfl,
  ao (ρ':=[some (.v (.lst (R.map dL))),some (.v (.lst ((R.map (tu out)).map dL))),some (.v (dL out)),none]) (by
   rw[de,f9,show d2 neD (d1 bu (ap 0)) (d1 bu (ap 1)) [some (.v (.lst (R.map dL))),some (.v (.lst ((R.map (tu out)).map dL))),some (.v (dL out)),none]=neD (.int ((R.map dL).length:Int)) (.int (((R.map (tu out)).map dL).length:Int))from rfl,e2];rfl),
  ao (cM (dq (hlen _ _ _) (by omega)) e)]
 rfl
theorem oC{st:Dq}{body:Dw}{x:DV}(I:Nat->DF->Prop):∀(ds:List D) (k:Nat) (ρ:DF),I k ρ->
  (∀j d ρ,ds[j]?=some d->I (k+j) ρ->∃ρ1,st d ρ=some ρ1/\((∃ρ',body ρ1=some (.rt x ρ'))\/∃ρ',body ρ1=some (.nx ρ')/\I (k+j+1) ρ'))->(∃ρ',eO st body ds ρ=some (.rt x ρ'))\/∃ρ',eO st body ds ρ=some (.nx ρ')/\I (k+ds.length) ρ'
 |[],k,ρ,h,_=>.inr ⟨ρ,rfl,h⟩
 |d::ds,k,ρ,h,hs=>by
  obtain⟨ρ1,e1,h1⟩:=hs 0 d ρ rfl h;unfold eO;rw[e1];rcases h1 with⟨ρ',e2⟩|⟨ρ',e2,h'⟩
  ·simp only[e2];exact .inl ⟨ρ',rfl⟩
  ·simp only[e2];have:=oC I ds (k+1) ρ' h' fun j d' ρ0 hj hI=>by
    have:=hs (j+1) d' ρ0 (by simpa using hj) (by rw[<-Nat.add_assoc,Xz];exact hI)
    rwa [show k+(j+1)+1=k+1+j+1 by omega]at this
   rwa [show k+1+ds.length=k+(ds.length+1)by omega]at this
theorem v8(p:List Int)(n r:Int):((row p n r).map D.int).Pairwise (fun a b=>ltD b a=false):=by
 have h:(ar n).Pairwise (fun a b=>a<b):=by unfold ar;exact Vj _ (fun a b h=>by omega) Va
 have h2:=h.sublist (List.filter_sublist (p:=fun k=>decide (ox p k=r)));exact Vj _ (fun a b h=>by show decide (b<a)=false;exact YB (by omega)) h2
theorem vG(p:List Int)(n:Int):((opn p n).map D.int).Pairwise (fun a b=>ltD b a=false):=by
 unfold opn;split
 ·exact v8 _ _ _
 ·exact List.Pairwise.nil
theorem r_{p:List Int}{n:Int}(hn:n<=7):(opn p n).length<=7:=by
 unfold opn;split
 ·unfold row;refine YC (List.length_filter_le _ _) ?_;rw[aS];omega
 ·exact YF _
theorem sM{q:List Int}{n x:Int}(hq:(q.length:Int)=n)(h:x∈opn q n):(0<=x/\x<n)/\(¬cnt q (ox q x)=1)/\∃m,(0<=m/\m<n)/\m≠x/\ox q m=ox q x:=by
 unfold opn at h;cases y:(ar n).find? (fun r=>decide (1<cnt q r))with
 |none=>rw[y]at h;cases h
 |some r=>
  rw[y]at h;have h0:x∈row q n r:=h;have h2:=YY (List.find?_some (p:=fun r=>decide (1<cnt q r)) y);obtain⟨a1,a2⟩:=ZS.mp h0;have a2:=YY a2;have hl:=rM hq r;have nd:(row q n r).Nodup:=(f8 n).filter _;refine⟨bc.mp a1,by rw[a2];omega,?_⟩;have hm:∃m∈row q n r,m≠x:=by
   refine Zk fun z=>?_;have:=fy (row q n r) [x] nd fun m hm=>by
    refine YU.mpr (Zk fun w=>z ⟨m,hm,w⟩)
   rw[YM]at this;omega
  obtain⟨m,m1,m2⟩:=hm;obtain⟨b1,b2⟩:=ZS.mp m1;have b2:=YY b2;exact⟨m,bc.mp b1,m2,by rw[a2,b2]⟩
abbrev c_(N KS TS:List D)(out:List Int)(W Md W2 P L:D)(q z:D)(x11 x12 x13:Option DV):DF:=[some (.v (.lst N)),some (.v (.lst KS)),some (.v (.lst TS)),some (.v (dL out)),some (.v W),some (.v Md),some (.v W2),some (.v P),some (.v L),some (.v q),some (.v z),x11,x12,x13]
abbrev lB(Li Op Ch At Sp:Dm):DF->Option RES:=(ak (dIf (cI (asB (ai Li (aB 9 (aB 10 (aB 3 (fun _=>some []))))))) (bf (fun _=>some (.bl false))) dNx)
  (ak (aq 12 (ai Op (aB 9 (fun _=>some []))))
  (ak (dIf (asB (d2 neD (asO (asL (dC (asO (asL (aJ 1 [3] (dF (ai Op (aB 10 (fun _=>some [])))) (setV 0) bb (d2 ixD (aa 1) (aa 0)))))))) (ap 12))) (bf (fun _=>some (.bl false))) dNx)
  (ak (dIf (asB (d2 eqD (ap 12) (asO (asL aH)))) (bf (d2 eqD (asO (asL (dC (aa 9)))) (asO (asL (fw (d1 bu (ap 1))))))) dNx)
  (ak (aq 13 (d2 ixD (aa 12) (d2 aL (d2 aW (ai Sp (aV (ai At (aB 0 (aV (d2 aQ (fun _=>some (.int 20)) (aa 11)) (fun _=>some [])))) (aV (fun _=>some (.int 1103527591)) (fun _=>some [])))) (fun _=>some (.int 5))) (d1 bu (ap 12)))))
  (ak (aq 9 (ai Ch (aB 4 (aB 9 (aB 13 (fun _=>some []))))))
  (aq 10 (ai Ch (aB 6 (aB 10 (aV (d2 iM (ap 3) (ap 13)) (fun _=>some []))))))))))))
theorem wq(C:Addr){ns:List Int}{KS TS:List D}{out q S:List Int}{W Md W2 P L:D}{ts:List T4}{n:Int}{j:Nat}{x12 x13:Option DV}(hn:1<=n/\n<=7)(p:out.Perm (ar n))(hs:okS n ts)(hKS:(KS.length:Int)=n)(hq:(q.length:Int)=n)(hc:Can q)(hA:ie n q S)(hj:j+1<=S.length)
  (h1:∀ps:List Int,(ps.length:Int)=n->eV C [.v W,.v (dL ps)]=some (.v (dL (stl ts n 100 ps)))) (h2:∀ps:List Int,(ps.length:Int)=n->eV C [.v W2,.v (dL ps)]=some (.v (dL (stl (tus out ts) n 100 ps)))) :
  (∃ρ',lB (dQ C) (ff C) (kF C) (cR C) (cC C) (c_ (ns.map .int) KS TS out W Md W2 P L (dL q) (dL (tu out q)) (some (.v (.int (j:Int)))) x12 x13)=some (.rt (.v (.bl true)) ρ')) \/
  ∃ρ',lB (dQ C) (ff C) (kF C) (cR C) (cC C) (c_ (ns.map .int) KS TS out W Md W2 P L (dL q) (dL (tu out q)) (some (.v (.int (j:Int)))) x12 x13)=some (.nx ρ')/\∃q' S' y11 y12 y13,ρ'=c_ (ns.map .int) KS TS out W Md W2 P L (dL q') (dL (tu out q')) y11 y12 y13/\(q'.length:Int)=n/\Can q'/\ie n q' S'/\j+2<=S'.length:=by
 obtain⟨hl,_,hm⟩:=bV hn.1 p;have ht:=jF hn.1 p q;have hcu:Can (tu out q):=by
  have pe:=sG hn.1 p hq;refine⟨fun x hx=>?_,fun x hx r r0 r1=>?_⟩
  ·have:=hc.1 x (pe.mem_iff.mp hx);rw[pe.length_eq];exact this
  ·exact pe.mem_iff.mpr (hc.2 x (pe.mem_iff.mp hx) r r0 r1)
 have hL:=iS C hn p hq;have hO1:=rS C (by omega) hq hc (x:=.v (dL q)) (.inl rfl);have hO2:=rS C (by omega) ht hcu (x:=.v (dL (tu out q))) (.inl rfl);have hCh1:=fun k hk=>k5 (C:=C) (w:=W) (ts:=ts) (k:=k) (p:=q) (x:=.v (dL q)) hn hq hk (.inl rfl) h1
 have hCh2:=fun k hk=>k5 (C:=C) (w:=W2) (ts:=tus out ts) (k:=k) (p:=tu out q) (x:=.v (dL (tu out q))) hn ht hk (.inl rfl) h2
 obtain⟨x,hx⟩:=pc C ns (20+(j:Int)) (by omega);obtain⟨r,hr,r0,_⟩:=cJ C x 1103527591 (by decide);obtain⟨pl,hpl⟩:∃pl,opn q n=pl:=⟨_,rfl⟩
 have hpn:=Cj hn.1 p hq;have hrise:=vG q n;have hpl7:=r_ (p:=q) hn.2;have hol:(opn (tu out q) n).length<=7:=r_ hn.2;have hom:∀k∈opn (tu out q) n,0<=k/\k<n:=fun k hk=>(sM ht hk).1
 rw[hpl]at hO1 hpn hrise hpl7;have hsort:aP (((opn (tu out q) n).map (ox out)).map .int)=pl.map .int:=by rw[cU (hpn.map D.int) (kf pl)];exact(eE (Zw _) (kf pl) hrise).symm
 have hnum:∀q':List Int,(q'.length:Int)=n->True:=fun _ _=>trivial
 have hopm:∀k∈pl,(0<=k/\k<n)/\(¬cnt q (ox q k)=1)/\∃m,(0<=m/\m<n)/\m≠k/\ox q m=ox q k:=fun k hk=>sM hq (by rw[hpl];exact hk)
 generalize dQ C=Li at *;generalize ff C=Op at *;generalize kF C=Ch at *;generalize cR C=At at *;generalize cC C=Sp at *;have b0:(dIf (cI (asB (ai Li (aB 9 (aB 10 (aB 3 (fun _=>some []))))))) (bf (fun _=>some (.bl false))) dNx) (c_ (ns.map .int) KS TS out W Md W2 P L (dL q) (dL (tu out q)) (some (.v (.int (j:Int)))) x12 x13)=some (.nx (c_ (ns.map .int) KS TS out W Md W2 P L (dL q) (dL (tu out q)) (some (.v (.int (j:Int)))) x12 x13)):=by rw[de,rW,f9,show ai Li (aB 9 (aB 10 (aB 3 (fun _=>some [])))) (c_ (ns.map .int) KS TS out W Md W2 P L (dL q) (dL (tu out q)) (some (.v (.int (j:Int)))) x12 x13)=(Li [.v (dL q),.v (dL (tu out q)),.v (dL out)]).bind dvD from rfl,hL];rfl
 have b1:(aq 12 (ai Op (aB 9 (fun _=>some [])))) (c_ (ns.map .int) KS TS out W Md W2 P L (dL q) (dL (tu out q)) (some (.v (.int (j:Int)))) x12 x13)=some (.nx (c_ (ns.map .int) KS TS out W Md W2 P L (dL q) (dL (tu out q)) (some (.v (.int (j:Int)))) (some (.v (dL pl))) x13)):=by rw[bZ,show ai Op (aB 9 (fun _=>some [])) (c_ (ns.map .int) KS TS out W Md W2 P L (dL q) (dL (tu out q)) (some (.v (.int (j:Int)))) x12 x13)=(Op [.v (dL q)]).bind dvD from rfl,hO1];rfl
 have c1:bD (setV 0) bb (d2 ixD (aa 1) (aa 0)) [none,some (.v (dL out))] ((opn (tu out q) n).map .int)=some (((opn (tu out q) n).map (ox out)).map .int):=by
  rw[YL];refine bB D.int _ (opn (tu out q) n) fun k hk'=>⟨[some (.v (.int k)),some (.v (dL out))],rfl,rfl,?_⟩
  exact lP hl (hom k hk')
 have b2:(dIf (asB (d2 neD (asO (asL (dC (asO (asL (aJ 1 [3] (dF (ai Op (aB 10 (fun _=>some [])))) (setV 0) bb (d2 ixD (aa 1) (aa 0)))))))) (ap 12))) (bf (fun _=>some (.bl false))) dNx) (c_ (ns.map .int) KS TS out W Md W2 P L (dL q) (dL (tu out q)) (some (.v (.int (j:Int)))) (some (.v (dL pl))) x13)=some (.nx (c_ (ns.map .int) KS TS out W Md W2 P L (dL q) (dL (tu out q)) (some (.v (.int (j:Int)))) (some (.v (dL pl))) x13)):=by
  have e1:(aJ 1 [3] (dF (ai Op (aB 10 (fun _=>some [])))) (setV 0) bb (d2 ixD (aa 1) (aa 0))) (c_ (ns.map .int) KS TS out W Md W2 P L (dL q) (dL (tu out q)) (some (.v (.int (j:Int)))) (some (.v (dL pl))) x13)=some (((opn (tu out q) n).map (ox out)).map .int):=by rw[bm,uR,show ai Op (aB 10 (fun _=>some [])) (c_ (ns.map .int) KS TS out W Md W2 P L (dL q) (dL (tu out q)) (some (.v (.int (j:Int)))) (some (.v (dL pl))) x13)=(Op [.v (dL (tu out q))]).bind dvD from rfl,hO2];show(if((opn (tu out q) n).map D.int).length<=16777216 then bD _ _ _ [none,some (.v (dL out))] ((opn (tu out q) n).map .int)else none)=_;rw[if_pos (by rw[Yd];omega),c1]
  have hso:bh (((opn (tu out q) n).map (ox out)).map .int)=true:=pA _ (by rw[Yd];omega);rw[de,f9,jx,cH,bX,e8,cH,bX,e1];show((match((((if bh (((opn (tu out q) n).map (ox out)).map .int)=true then some (aP (((opn (tu out q) n).map (ox out)).map .int))else none)).map OD.lst).map OD.d).bind (fun x=>(some (dL pl)).bind fun y=>neD x y)with|some (.bl b)=>some b|_=>none).bind _)=_;rw[if_pos hso,hsort];show((match neD (dL pl) (dL pl)with|some (.bl b)=>some b|_=>none).bind _)=_;rw[zP,YK rfl];rfl
 unfold lB;rw[ao b0,ao b1,ao b2];by_cases hz:pl=[]
 ·left;have pe:q.Perm (ar n):=yR hq hc (by rw[hpl];exact hz);have hsq:aP (q.map .int)=(ar n).map .int:=by rw[cU (pe.map D.int) (kf _)];refine(eE (Zw _) (kf _) ?_).symm;unfold ar;rw[YL];exact Vj _ (fun a b h=>by show decide ((b:Int)<(a:Int))=false;exact YB (by omega)) Va
  have hsoq:bh (q.map .int)=true:=pA _ (by omega);have el:eqD (dL pl) (dL [])=some (.bl true):=by rw[wU,YK hz]
  have er:fw (d1 bu (ap 1)) (c_ (ns.map .int) KS TS out W Md W2 P L (dL q) (dL (tu out q)) (some (.v (.int (j:Int)))) (some (.v (dL pl))) x13)=some ((ar n).map .int):=by unfold fw;rw[show d1 bu (ap 1) (c_ (ns.map .int) KS TS out W Md W2 P L (dL q) (dL (tu out q)) (some (.v (.int (j:Int)))) (some (.v (dL pl))) x13)=some (.int (KS.length:Int))from rfl,hKS];simp only;rw[if_pos ⟨by omega,by omega⟩,gY]
  have es:dC (aa 9) (c_ (ns.map .int) KS TS out W Md W2 P L (dL q) (dL (tu out q)) (some (.v (.int (j:Int)))) (some (.v (dL pl))) x13)=some ((ar n).map .int):=by rw[e8];show(if bh (q.map .int)=true then some (aP (q.map .int))else none)=_;rw[if_pos hsoq,hsq]
  refine⟨c_ (ns.map .int) KS TS out W Md W2 P L (dL q) (dL (tu out q)) (some (.v (.int (j:Int)))) (some (.v (dL pl))) x13,fC ?_⟩;rw[de,f9,show d2 eqD (ap 12) (asO (asL aH)) (c_ (ns.map .int) KS TS out W Md W2 P L (dL q) (dL (tu out q)) (some (.v (.int (j:Int)))) (some (.v (dL pl))) x13)=eqD (dL pl) (dL [])from rfl,el];show bf _ _=_;rw[mY,jx,cH,bX,es,cH,bX,er];show(eqD (dL (ar n)) (dL (ar n))).map _=_;rw[wU,YK rfl];rfl
 ·right;have el:eqD (dL pl) (dL [])=some (.bl false):=by rw[wU,YB hz]
  have hlp:0<pl.length:=by cases pl with|nil=>exact absurd rfl hz|cons _ _=>exact Nat.zero_lt_succ _
  have d5:=bp r 5 (by decide);have mm:=aT (r/5) (pl.length:Int) (by omega);obtain⟨k,hk1,hk2⟩:=cY (l:=pl) D.int (i:=r/5%(pl.length:Int)) (Ze _ (by omega)) (YT _ (by omega));obtain⟨kin,kc,m,min,mne,me⟩:=hopm k (YD hk1);obtain⟨ix1',ix2'⟩:=kW hn.1 p kin;have hc1:=hCh1 k kin;have hc2:=hCh2 (ix out k) ix1';rw[B_ hn.1 p hq kin,mU hn p hs 100 _ (nD (by omega) hq)]at hc2;obtain⟨y,hy⟩:=qH (ts:=ts) hA kin min mne me kc;have hq':((stl ts n 100 (pah q n k)).length:Int)=n:=iV ts n hn.1 100 _ (nD (by omega) hq);have hcan:Can (stl ts n 100 (pah q n k)):=by rw[<-mT ts n 100 (pah q n k) (jT ts n hn _)];exact gf _ ts n
  have hidx:=w_ (out:=out) (x:=k) (p.mem_iff.mpr (bc.mpr kin));generalize stl ts n 100 (pah q n k)=q' at *;refine⟨c_ (ns.map .int) KS TS out W Md W2 P L (dL q') (dL (tu out q')) (some (.v (.int (j:Int)))) (some (.v (dL pl))) (some (.v (.int k))),?_,q',y::S,_,_,_,rfl,hq',hcan,hy,by rw[Yw];omega⟩;have hlen:bu (dL pl)=some (.int (pl.length:Int)):=by show some (D.int ((pl.map D.int).length:Int))=_;rw[Yd]
  have hixp:ixD (dL pl) (.int (r/5%(pl.length:Int)))=some (.int k):=hk2;clear b0 b1 b2 c1 hO1 hO2 hL hCh1 hCh2;unfold c_;generalize dL (tu out q')=Z' at *;generalize dL q'=Q' at *;generalize dL (tu out q)=Z at *;generalize dL q=Q at *;generalize dL pl=PL at *;generalize dL out=O at *;generalize ns.map D.int=N at *;generalize (pl.length:Int)=pn at *;have b3:∀G,ak (dIf (asB (d2 eqD (ap 12) (asO (asL aH)))) (bf (d2 eqD (asO (asL (dC (aa 9)))) (asO (asL (fw (d1 bu (ap 1))))))) dNx) G [some (.v (.lst N)),some (.v (.lst KS)),some (.v (.lst TS)),some (.v O),some (.v W),some (.v Md),some (.v W2),some (.v P),some (.v L),some (.v Q),some (.v Z),some (.v (.int (j:Int))),some (.v PL),x13]=G [some (.v (.lst N)),some (.v (.lst KS)),some (.v (.lst TS)),some (.v O),some (.v W),some (.v Md),some (.v W2),some (.v P),some (.v L),some (.v Q),some (.v Z),some (.v (.int (j:Int))),some (.v PL),x13]:=fun G=>ao (by
   rw[de,f9,show d2 eqD (ap 12) (asO (asL aH)) [some (.v (.lst N)),some (.v (.lst KS)),some (.v (.lst TS)),some (.v O),some (.v W),some (.v Md),some (.v W2),some (.v P),some (.v L),some (.v Q),some (.v Z),some (.v (.int (j:Int))),some (.v PL),x13]=eqD PL (dL [])from rfl,el];rfl)
  rw[b3,ao (ρ':=[some (.v (.lst N)),some (.v (.lst KS)),some (.v (.lst TS)),some (.v O),some (.v W),some (.v Md),some (.v W2),some (.v P),some (.v L),some (.v Q),some (.v Z),some (.v (.int (j:Int))),some (.v PL),some (.v (.int k))]) (by simp[hx,hr,d5,hlen,mm,hixp]),
   ao (ρ':=[some (.v (.lst N)),some (.v (.lst KS)),some (.v (.lst TS)),some (.v O),some (.v W),some (.v Md),some (.v W2),some (.v P),some (.v L),some (.v Q'),some (.v Z),some (.v (.int (j:Int))),some (.v PL),some (.v (.int k))]) (by simp[hc1])]
  simp[hidx,hc2]
theorem wl{Mw Mo Mt Mp Mf Fi Se Ro Rl Li Op Ch At Sp:Dm}{In:Dz}{C:Addr}{N KS TS KS2 TS2:List D}{out ps F1 F2 S1 S2:List Int}{R1 R2:List D}{f1 f2:D}{Fw Fw2:List (Str×D)}{PT:List Int}{n:Int}{lk:DF}
  (hW:Mw [.v (.lst N),.v (.int 7),.v (.int 7)]=some (.v (.tup [.lst KS,.lst TS]))) (hkl:(KS.length:Int)=n) (hO:Mo [.v (.lst N),.v (.int n),.v (.int 1999483721)]=some (.own (.lst (out.map .int)) none))
  (hmk:∀(g:Dv) (ρ:DF),g ρ=some [.v (.lst KS),.v (.lst TS)]->fQ C In g ρ=some (.ins C Fw)) (hT:Mt [.v (.lst KS),.v (.lst TS),.v (dL out)]=some (.v (.tup [.lst KS2,.lst TS2]))) (hmk2:∀(g:Dv) (ρ:DF),g ρ=some [.v (.lst KS2),.v (.lst TS2)]->fQ C In g ρ=some (.ins C Fw2))
  (hP:Mp [.v (.lst N),.v (.int n)]=some (.v (.lst (ps.map .int)))) (hol2:(out.map D.int).length<=16777216) (c8:bD (setV 0) bb (d2 ixD (aa 1) (aa 0)) [none,some (.v (dL ps))] (out.map .int)=some (PT.map .int))
  (hf1:Fi [.v (.ins C Fw),.v (dL ps)]=some (.own (.lst (F1.map .int)) none)) (hf2:Fi [.v (.ins C Fw2),.v (dL PT)]=some (.own (.lst (F2.map .int)) none)) (hL1:Li [.v (dL F1),.v (dL F2),.v (dL out)]=some (.v (.bl true)))
  (hs1:Se [.v (.ins C Fw),.v (dL ps)]=some (.v (dL S1))) (hs2':Se [.v (.ins C Fw2),.v (dL PT)]=some (.v (dL S2))) (hL2:Li [.v (dL S1),.v (dL S2),.v (dL out)]=some (.v (.bl true)))
  (hR1:Ro [.v (.ins C Fw),.v (dL ps)]=some (.own (.lst R1) none)) (hR2:Ro [.v (.ins C Fw2),.v (dL PT)]=some (.own (.lst R2) none)) (hL3:Rl [.v (.lst R1),.v (.lst R2),.v (dL out)]=some (.v (.bl true)))
  (hFp1:Mf [.v (.ins C Fw)]=some (.v f1)) (hFp2:Mf [.v (.ins C Fw2)]=some (.v f2)) (hit:cy (d1 bu (ap 1)) (c_ N KS TS out (.ins C Fw) (.tup [.lst KS2,.lst TS2]) (.ins C Fw2) (dL ps) (dL PT) f1 f2 none none none)=some ((ar n).map .int))
  (hlk:eO (setV 11) (lB Li Op Ch At Sp) ((ar n).map .int) (c_ N KS TS out (.ins C Fw) (.tup [.lst KS2,.lst TS2]) (.ins C Fw2) (dL ps) (dL PT) f1 f2 none none none)=some (.rt (.v (.bl true)) lk)) :
  mOf 14 1 (ak (nU [1,2] (ai Mw (aB 0 (aV (fun _=>some (.int 7)) (aV (fun _=>some (.int 7)) (fun _=>some []))))))
  (ak (aq 3 (ai Mo (aB 0 (aV (d1 bu (ap 1)) (aV (fun _=>some (.int 1999483721)) (fun _=>some []))))))
  (ak (aq 4 (asO (fQ C In (aB 1 (aB 2 (fun _=>some []))))))
  (ak (aq 5 (ai Mt (aB 1 (aV (getV 2) (aB 3 (fun _=>some []))))))
  (ak (aq 6 (asO (fQ C In (aV (d2 ixD (aa 5) (fun _=>some (.int 0))) (aV (d2 ixD (aa 5) (fun _=>some (.int 1))) (fun _=>some []))))))
  (ak (aq 7 (ai Mp (aB 0 (aV (d1 bu (ap 1)) (fun _=>some [])))))
  (ak (aq 8 (asO (asL (aJ 1 [7] (bG 3) (setV 0) bb (d2 ixD (aa 1) (aa 0))))))
  (ak (dIf (cI (asB (ai Li (aV (ai Fi (aB 4 (aB 7 (fun _=>some [])))) (aV (ai Fi (aB 6 (aB 8 (fun _=>some [])))) (aB 3 (fun _=>some []))))))) (bf (fun _=>some (.bl false))) dNx)
  (ak (dIf (cI (asB (ai Li (aV (ai Se (aB 4 (aB 7 (fun _=>some [])))) (aV (ai Se (aB 6 (aB 8 (fun _=>some [])))) (aB 3 (fun _=>some []))))))) (bf (fun _=>some (.bl false))) dNx)
  (ak (dIf (cI (asB (ai Rl (aV (ai Ro (aB 4 (aB 7 (fun _=>some [])))) (aV (ai Ro (aB 6 (aB 8 (fun _=>some [])))) (aB 3 (fun _=>some []))))))) (bf (fun _=>some (.bl false))) dNx)
  (ak (aq 9 (ai Mf (aB 4 (fun _=>some []))))
  (ak (aq 10 (ai Mf (aB 6 (fun _=>some []))))
  (ak (dJ (cy (d1 bu (ap 1))) (setV 11) (ak (dIf (cI (asB (ai Li (aB 9 (aB 10 (aB 3 (fun _=>some []))))))) (bf (fun _=>some (.bl false))) dNx)
  (ak (aq 12 (ai Op (aB 9 (fun _=>some []))))
  (ak (dIf (asB (d2 neD (asO (asL (dC (asO (asL (aJ 1 [3] (dF (ai Op (aB 10 (fun _=>some [])))) (setV 0) bb (d2 ixD (aa 1) (aa 0)))))))) (ap 12))) (bf (fun _=>some (.bl false))) dNx)
  (ak (dIf (asB (d2 eqD (ap 12) (asO (asL aH)))) (bf (d2 eqD (asO (asL (dC (aa 9)))) (asO (asL (fw (d1 bu (ap 1))))))) dNx)
  (ak (aq 13 (d2 ixD (aa 12) (d2 aL (d2 aW (ai Sp (aV (ai At (aB 0 (aV (d2 aQ (fun _=>some (.int 20)) (aa 11)) (fun _=>some [])))) (aV (fun _=>some (.int 1103527591)) (fun _=>some [])))) (fun _=>some (.int 5))) (d1 bu (ap 12)))))
  (ak (aq 9 (ai Ch (aB 4 (aB 9 (aB 13 (fun _=>some []))))))
  (aq 10 (ai Ch (aB 6 (aB 10 (aV (d2 iM (ap 3) (ap 13)) (fun _=>some [])))))))))))))
  (bf (ji (ai Li (aB 9 (aB 10 (aB 3 (fun _=>some []))))) (d2 eqD (ai Op (aB 9 (fun _=>some []))) (asO (asL aH)))))))))))))))))) [.v (.lst N)]=some (.v (.bl true)):=by
 have t0:∀a b:D,ixD (.tup [a,b]) (.int 0)=some a:=fun _ _=>rfl
 have t1:∀a b:D,ixD (.tup [a,b]) (.int 1)=some b:=fun _ _=>rfl
 rw[oZ,show aR 14 1 [.v (.lst N)]=[some (.v (.lst N)),none,none,none,none,none,none,none,none,none,none,none,none,none]from rfl,
  ao (ρ':=[some (.v (.lst N)),some (.v (.lst KS)),some (.v (.lst TS)),none,none,none,none,none,none,none,none,none,none,none]) (by
   rw[xm,show ai Mw (aB 0 (aV (fun _=>some (.int 7)) (aV (fun _=>some (.int 7)) (fun _=>some [])))) [some (.v (.lst N)),none,none,none,none,none,none,none,none,none,none,none,none,none]=(Mw [.v (.lst N),.v (.int 7),.v (.int 7)]).bind dvD from rfl,hW];rfl),
  ao (ρ':=[some (.v (.lst N)),some (.v (.lst KS)),some (.v (.lst TS)),some (.v (dL out)),none,none,none,none,none,none,none,none,none,none]) (by
   rw[bZ];show((Mo [.v (.lst N),.v (.int (KS.length:Int)),.v (.int 1999483721)]).bind dvD).map _=_;rw[hkl,hO];rfl),
  ao (ρ':=[some (.v (.lst N)),some (.v (.lst KS)),some (.v (.lst TS)),some (.v (dL out)),some (.v (.ins C Fw)),none,none,none,none,none,none,none,none,none]) (by
   rw[bZ,cH,hmk _ _ rfl];rfl),
  ao (ρ':=[some (.v (.lst N)),some (.v (.lst KS)),some (.v (.lst TS)),some (.v (dL out)),some (.v (.ins C Fw)),some (.v (.tup [.lst KS2,.lst TS2])),none,none,none,none,none,none,none,none]) (by
   rw[bZ];show((Mt [.v (.lst KS),.v (.lst TS),.v (dL out)]).bind dvD).map _=_;rw[hT];rfl),
  ao (ρ':=[some (.v (.lst N)),some (.v (.lst KS)),some (.v (.lst TS)),some (.v (dL out)),some (.v (.ins C Fw)),some (.v (.tup [.lst KS2,.lst TS2])),some (.v (.ins C Fw2)),none,none,none,none,none,none,none]) (by
   rw[bZ,cH,hmk2 _ _ (by simp[t0,t1])];rfl),
  ao (ρ':=[some (.v (.lst N)),some (.v (.lst KS)),some (.v (.lst TS)),some (.v (dL out)),some (.v (.ins C Fw)),some (.v (.tup [.lst KS2,.lst TS2])),some (.v (.ins C Fw2)),some (.v (dL ps)),none,none,none,none,none,none]) (by
   rw[bZ];show((Mp [.v (.lst N),.v (.int (KS.length:Int))]).bind dvD).map _=_;rw[hkl,hP];rfl),
  ao (ρ':=[some (.v (.lst N)),some (.v (.lst KS)),some (.v (.lst TS)),some (.v (dL out)),some (.v (.ins C Fw)),some (.v (.tup [.lst KS2,.lst TS2])),some (.v (.ins C Fw2)),some (.v (dL ps)),some (.v (dL PT)),none,none,none,none,none]) (by
   rw[bZ,cH,bX,bm];show((((if(out.map D.int).length<=16777216 then bD _ _ _ [none,some (.v (dL ps))] (out.map .int)else none)).map OD.lst).map OD.d).map _=_;rw[if_pos hol2,c8];rfl)]
 have b7:(dIf (cI (asB (ai Li (aV (ai Fi (aB 4 (aB 7 (fun _=>some [])))) (aV (ai Fi (aB 6 (aB 8 (fun _=>some [])))) (aB 3 (fun _=>some []))))))) (bf (fun _=>some (.bl false))) dNx) [some (.v (.lst N)),some (.v (.lst KS)),some (.v (.lst TS)),some (.v (dL out)),some (.v (.ins C Fw)),some (.v (.tup [.lst KS2,.lst TS2])),some (.v (.ins C Fw2)),some (.v (dL ps)),some (.v (dL PT)),none,none,none,none,none]=some (.nx [some (.v (.lst N)),some (.v (.lst KS)),some (.v (.lst TS)),some (.v (dL out)),some (.v (.ins C Fw)),some (.v (.tup [.lst KS2,.lst TS2])),some (.v (.ins C Fw2)),some (.v (dL ps)),some (.v (dL PT)),none,none,none,none,none]):=by have e1:dL F1=.lst (F1.map .int):=rfl;have e2:dL F2=.lst (F2.map .int):=rfl;rw[e1,e2]at hL1;clear hlk hit hL2 hL3;generalize F1.map D.int=A at *;generalize F2.map D.int=B at *;generalize dL PT=PT' at *;generalize dL ps=PP at *;generalize dL out=O at *;simp[hf1,hf2,hL1]
 have b8:(dIf (cI (asB (ai Li (aV (ai Se (aB 4 (aB 7 (fun _=>some [])))) (aV (ai Se (aB 6 (aB 8 (fun _=>some [])))) (aB 3 (fun _=>some []))))))) (bf (fun _=>some (.bl false))) dNx) [some (.v (.lst N)),some (.v (.lst KS)),some (.v (.lst TS)),some (.v (dL out)),some (.v (.ins C Fw)),some (.v (.tup [.lst KS2,.lst TS2])),some (.v (.ins C Fw2)),some (.v (dL ps)),some (.v (dL PT)),none,none,none,none,none]=some (.nx [some (.v (.lst N)),some (.v (.lst KS)),some (.v (.lst TS)),some (.v (dL out)),some (.v (.ins C Fw)),some (.v (.tup [.lst KS2,.lst TS2])),some (.v (.ins C Fw2)),some (.v (dL ps)),some (.v (dL PT)),none,none,none,none,none]):=by clear hlk hit hL1 hL3;generalize dL S2=B at *;generalize dL S1=A at *;generalize dL PT=PT' at *;generalize dL ps=PP at *;generalize dL out=O at *;simp[hs1,hs2',hL2]
 have b9:(dIf (cI (asB (ai Rl (aV (ai Ro (aB 4 (aB 7 (fun _=>some [])))) (aV (ai Ro (aB 6 (aB 8 (fun _=>some [])))) (aB 3 (fun _=>some []))))))) (bf (fun _=>some (.bl false))) dNx) [some (.v (.lst N)),some (.v (.lst KS)),some (.v (.lst TS)),some (.v (dL out)),some (.v (.ins C Fw)),some (.v (.tup [.lst KS2,.lst TS2])),some (.v (.ins C Fw2)),some (.v (dL ps)),some (.v (dL PT)),none,none,none,none,none]=some (.nx [some (.v (.lst N)),some (.v (.lst KS)),some (.v (.lst TS)),some (.v (dL out)),some (.v (.ins C Fw)),some (.v (.tup [.lst KS2,.lst TS2])),some (.v (.ins C Fw2)),some (.v (dL ps)),some (.v (dL PT)),none,none,none,none,none]):=by clear hlk hit hL1 hL2;generalize dL PT=PT' at *;generalize dL ps=PP at *;generalize dL out=O at *;simp[hR1,hR2,hL3]
 rw[ao b7,ao b8,ao b9,
  ao (ρ':=[some (.v (.lst N)),some (.v (.lst KS)),some (.v (.lst TS)),some (.v (dL out)),some (.v (.ins C Fw)),some (.v (.tup [.lst KS2,.lst TS2])),some (.v (.ins C Fw2)),some (.v (dL ps)),some (.v (dL PT)),some (.v f1),none,none,none,none]) (by
   rw[bZ];show((Mf [.v (.ins C Fw)]).bind dvD).map _=_;rw[hFp1];rfl),
  ao (ρ':=c_ N KS TS out (.ins C Fw) (.tup [.lst KS2,.lst TS2]) (.ins C Fw2) (dL ps) (dL PT) f1 f2 none none none) (by
   rw[bZ];show((Mf [.v (.ins C Fw2)]).bind dvD).map _=_;rw[hFp2];rfl),
  fC (cM hit hlk)]
 rfl
theorem law_true(C:Addr)(ns:List Int)(hl:ns.length<=63):wg C [.v (.lst (ns.map L2.D.int))]=some (.v (.bl true)):=by
 obtain⟨n,ks,ts,hn,hk,hs,hW⟩:=xZ C ns;obtain⟨out,hO,p⟩:=fE C ns n 1999483721 hn (by decide);obtain⟨kvs,hJ,hmk⟩:=wu C ks ts n hn hk hs;have hk2:=A8 hn.1 p hk;have hs2:=BV hn.1 p hs;obtain⟨kvs2,hJ2,hmk2⟩:=wu C (tks out ks) (tus out ts) n hn hk2 hs2;obtain⟨ps,hp,⟨ys,hys⟩,hP⟩:=pQ C ns n hn;have hF1:∀ps:List Int,(ps.length:Int)=n->ib C [.v (.ins C (wFs ks (.lst (srt ts)) (.dT kvs))),.v (dL ps)]=some (.own (.lst ((fin ps ts n).map .int)) none):=fun ps hp=>pI C ks (.lst (srt ts)) kvs ts ps n hn hk.1 hp hJ
 have hF2:∀ps:List Int,(ps.length:Int)=n->ib C [.v (.ins C (wFs (tks out ks) (.lst (srt (tus out ts))) (.dT kvs2))),.v (dL ps)]=some (.own (.lst ((fin ps (tus out ts) n).map .int)) none):=fun ps hp=>pI C (tks out ks) (.lst (srt (tus out ts))) kvs2 (tus out ts) ps n hn hk2.1 hp hJ2
 have hS1:=fun ps hp=>fX hn hF1 ps hp
 have hS2:=fun ps hp=>fX hn hF2 ps hp
 have hR1:=g7 hn hF1 ps hp;have hR2:=g7 hn hF2 (tu out ps) (jF hn.1 p ps);have hFp1:=nP hn hk hF1;have hFp2:=nP hn hk2 hF2;obtain⟨f1,f2⟩:=yc (ts:=ts) hn hk;have hT:=t6 C hn p hk hs;have hf1:=hF1 ps hp;have hf2:=hF2 (tu out ps) (jF hn.1 p ps);have hs1:=hS1 ps hp;have hs2':=hS2 (tu out ps) (jF hn.1 p ps);rw[p5 hn p hs ps]at hf2;rw[mU hn p hs 100 ps hp]at hs2';rw[zO hn p hs 100 ps hp]at hR2;rw[BS hn p hk hs]at hFp2;have hL1:=iS C hn p (q:=fin ps ts n) (cZ hn.1);have hL2:=iS C hn p (q:=stl ts n 100 ps) (iV ts n hn.1 100 ps hp);have hrl:∀k q,(q.length:Int)=n->(∀z∈rl ts n k q,(z.length:Int)=n)/\(rl ts n k q).length<=k+1:=by
  intro k;induction k with
  |zero=>exact fun q hq=>⟨fun z hz=>by rw[YU.mp hz];exact hq,Yl _⟩
  |succ k ih=>
   intro q hq;unfold rl;by_cases z:fin q ts n=q
   ·rw[if_pos z];exact⟨fun y hy=>by rw[YU.mp hy];exact hq,by rw[YM];omega⟩
   ·rw[if_neg z];obtain⟨a,b⟩:=ih (fin q ts n) (cZ hn.1);refine⟨fun y hy=>?_,by rw[Yw];omega⟩;rcases Yr.mp hy with w|w
    ·rw[w];exact hq
    ·exact a y w
 have hL3:=xo C hn p (R:=rl ts n 100 ps) (hrl 100 ps hp).1 (by have:=(hrl 100 ps hp).2;omega);have hkl:((ks.map D.str).length:Int)=n:=by rw[Yd];exact hk.1
 obtain⟨hol,_,hom⟩:=bV hn.1 p;have hstep:=fun{j q S x12 x13 Md P L} h1 h2 h3 h4=>wq C (ns:=ns) (KS:=ks.map .str) (TS:=ts.map dT4) (out:=out) (q:=q) (S:=S) (W:=.ins C (wFs ks (.lst (srt ts)) (.dT kvs))) (Md:=Md) (W2:=.ins C (wFs (tks out ks) (.lst (srt (tus out ts))) (.dT kvs2))) (P:=P) (L:=L) (ts:=ts) (n:=n) (j:=j) (x12:=x12) (x13:=x13) hn p hs hkl h1 h2 h3 h4 hS1 hS2
 have c8:bD (setV 0) bb (d2 ixD (aa 1) (aa 0)) [none,some (.v (dL ps))] (out.map .int)=some ((tu out ps).map .int):=by
  unfold tu;rw[YL];refine bB D.int _ out fun k hk'=>⟨[some (.v (.int k)),some (.v (dL ps))],rfl,rfl,?_⟩
  exact lP hp (hom k hk')
 have hA0:ie n (fpt ks ts n) [0]:=⟨fun s h=>by rw[YU.mp h];omega,List.pairwise_singleton _ _⟩
 obtain⟨lk,hlk⟩:∃lk,eO (setV 11) (lB (dQ C) (ff C) (kF C) (cR C) (cC C)) ((ar n).map .int) (c_ (ns.map .int) (ks.map .str) (ts.map dT4) out (.ins C (wFs ks (.lst (srt ts)) (.dT kvs))) (.tup [.lst ((tks out ks).map .str),.lst ((tus out ts).map dT4)]) (.ins C (wFs (tks out ks) (.lst (srt (tus out ts))) (.dT kvs2))) (dL ps) (dL (tu out ps)) (dL (fpt ks ts n)) (dL (tu out (fpt ks ts n))) none none none)=some (.rt (.v (.bl true)) lk):=by
  have hR:=oC (st:=setV 11) (body:=lB (dQ C) (ff C) (kF C) (cR C) (cC C)) (x:=.v (.bl true)) (fun j ρ=>∃q S x11 x12 x13,ρ=c_ (ns.map .int) (ks.map .str) (ts.map dT4) out (.ins C (wFs ks (.lst (srt ts)) (.dT kvs))) (.tup [.lst ((tks out ks).map .str),.lst ((tus out ts).map dT4)]) (.ins C (wFs (tks out ks) (.lst (srt (tus out ts))) (.dT kvs2))) (dL ps) (dL (tu out ps)) (dL q) (dL (tu out q)) x11 x12 x13/\(q.length:Int)=n/\Can q/\ie n q S/\j+1<=S.length) ((ar n).map .int) 0 _ ⟨fpt ks ts n,[0],none,none,none,rfl,f1,f2,hA0,Yl _⟩ (by
   rintro j d _ hj ⟨q,S,x11,x12,x13,rfl,q1,q2,q3,q4⟩;obtain rfl:=mD hj;rw[ZB]at q4;refine⟨_,rfl,?_⟩;rcases hstep (x12:=x12) (x13:=x13) (Md:=.tup [.lst ((tks out ks).map .str),.lst ((tus out ts).map dT4)]) (P:=dL ps) (L:=dL (tu out ps)) q1 q2 q3 q4 with h|⟨ρ',h,q',S',y11,y12,y13,e,z1,z2,z3,z4⟩
   ·exact .inl h
   ·exact .inr ⟨ρ',h,q',S',y11,y12,y13,e,z1,z2,z3,by omega⟩)
  rcases hR with h|⟨ρ',_,q,S,_,_,_,_,q1,_,q3,q4⟩
  ·exact h
  ·exfalso;have:=fy S (ar n) (nJ q3) fun y hy=>bc.mpr (q3.1 y hy)
   rw[Yd]at q4;omega
 have hlen:∀W Md W2 P L q z x11 x12 x13,d1 bu (ap 1) (c_ (ns.map .int) (ks.map .str) (ts.map dT4) out W Md W2 P L q z x11 x12 x13)=some (.int n):=fun _ _ _ _ _ _ _ _ _ _=>by
  show some (D.int ((ks.map D.str).length:Int))=_;rw[hkl]
 have hit:=dq (hlen (.ins C (wFs ks (.lst (srt ts)) (.dT kvs))) (.tup [.lst ((tks out ks).map .str),.lst ((tus out ts).map dT4)]) (.ins C (wFs (tks out ks) (.lst (srt (tus out ts))) (.dT kvs2))) (dL ps) (dL (tu out ps)) (dL (fpt ks ts n)) (dL (tu out (fpt ks ts n))) none none none) (by omega);unfold wg g_q12;exact wl hW hkl hO hmk hT hmk2 hP (by rw[Yd];omega) c8 hf1 hf2 hL1 hs1 hs2' hL2 hR1 hR2 hL3 hFp1 hFp2 hit hlk
def spLaw(K:Kq):Sp:=fun vs H Q _=>∃(a:Addr) (ns:List Int),vs=[.ref a]/\SqL K H a (ns.map V.int)/\ns.length<=63/\∀H',Q (.bl true) H'
theorem fF{K:Kq}{H:Hp}:∀ns:List Int,Reps K H (ns.map V.int) (ns.map D.int)
 |[]=>.nil
 |_::ns=>.cons .int (fF ns)
theorem uF{K:Kq}{m:Dm}(hm:∀ns:List Int,ns.length<=63->m [.v (.lst (ns.map D.int))]=some (.v (.bl true))):∀vs H Q E,spLaw K vs H Q E->spD K m vs H Q E:=by rintro vs H Q E ⟨a,ns,rfl,hS,hl,hQ⟩;refine⟨fun _=>none,H,_,_,hm ns hl,⟨fun _ _ e=>e,fun _ _ e=>(by cases e),fun _ _ e=>(by cases e)⟩,.cons rfl (show Rep K H _ _ from .lst hS (fF ns)) .nil,fun v F' H' _ _ r=>?_⟩;cases r;exact hQ H'
theorem dO{α:Type}{us:List α}(h:us.length=1):∃a,us=[a]:=List.length_eq_one_iff.mp h
theorem dg{α:Type}{us:List α}(h:us.length=2):∃a1 a2,us=[a1,a2]:=by
 cases us with
 |nil=>cases h
 |cons a r=>
  obtain⟨a2,rfl⟩:=dO (Vq h);exact⟨a,a2,rfl⟩
theorem fj{α:Type}{us:List α}(h:us.length=3):∃a1 a2 a3,us=[a1,a2,a3]:=by
 cases us with
 |nil=>cases h
 |cons a r=>
  obtain⟨a2,a3,rfl⟩:=dg (Vq h);exact⟨a,a2,a3,rfl⟩
theorem Co{α:Type}{us:List α}(h:us.length=4):∃a1 a2 a3 a4,us=[a1,a2,a3,a4]:=by
 cases us with
 |nil=>cases h
 |cons a r=>
  obtain⟨a2,a3,a4,rfl⟩:=fj (Vq h);exact⟨a,a2,a3,a4,rfl⟩
theorem DK{α:Type}{us:List α}(h:us.length=5):∃a1 a2 a3 a4 a5,us=[a1,a2,a3,a4,a5]:=by
 cases us with
 |nil=>cases h
 |cons a r=>
  obtain⟨a2,a3,a4,a5,rfl⟩:=Co (Vq h);exact⟨a,a2,a3,a4,a5,rfl⟩
def kE(P:Params)(x:Str)(t:Nat)(v:Value):DictEntry:=⟨PyData.keyHash P x,.str x t,v⟩
def fO(n q:Str)(s:Stmt)(m:Str)(t c:Nat):Obj:=⟨.type "function",none,.func (PySem.W.fnOf n q (defArgs s) (defBody s) (defScope s) .none .none .none (.str m t) none (.ref c) .none),#[]⟩
def cO(n:Str)(t:Nat)(q:Str)(u v:Nat)(l a f:Int)(r:Nat)(g:Int)(r2 r3:Nat)(h l2:Int)(y:Nat)(c d:Value:=.none):Obj:={cls:=.type "code",data:=.fields #[.str n t,.str q u,.str "/claim/cut.py" v,.int l 0,.int a 0,.int 0 0,.int 0 0,.int f 0,.ref r,.bool true,.int g 0,.ref r2,.none,c,d,.ref r3,.int h 0,.int l2 0,.str "/claim/cut.py" y]}
def kz:Str := "__doc__"
def KK:Params->PySem.W.Frag:=fun P=>(fun(_:kz = "__doc__")=>
(nat_lit 3,{cls:=.type "dict",data:=.dict #[kE P "__name__" 165 (.str "law_tieword_k10_whole_parted_alike" 457),kE P "__doc__" 166 (.none),kE P "__package__" 167 (.none),kE P "__loader__" 168 (.builtin "__main__.__loader__#opaque"),kE P "__spec__" 169 (.none),kE P "__annotations__" 170 (.ref 6),kE P "__builtins__" 171 (.ref 4),kE P "__file__" 173 (.str "/claim/cut.py" 172),kE P "__cached__" 174 (.none),kE P "_wall" 193 (.ref 21),kE P "ranked" 201 (.ref 26),kE P "key_of" 207 (.ref 31),kE P "keys_of" 213 (.ref 36),kE P "finer" 221 (.ref 43),kE P "rounds_of" 231 (.ref 50),kE P "settled" 239 (.ref 57),kE P "first_parting" 246 (.ref 64),kE P "put_ahead" 252 (.ref 69),kE P "chosen" 261 (.ref 76),kE P "open_class" 267 (.ref 81),kE P "WebError" 287 (.ref 91),kE P "TooGreat" 303 (.ref 104),kE P "BadPlace" 319 (.ref 116),kE P "BadTie" 335 (.ref 128),kE P "MOST_PLACES" 339 (.int 7 338),kE P "MOST_TIES" 341 (.int 12 340),kE P "MOST_LETTERS" 343 (.int 3 342),kE P "is_place_kind" 349 (.ref 135),kE P "is_tie_kind" 356 (.ref 142),kE P "is_tie" 365 (.ref 149),kE P "refuse_wrong" 375 (.ref 156),kE P "lesser_first" 382 (.ref 163),kE P "put_pair" 391 (.ref 170),kE P "joins_of" 403 (.ref 177),kE P "Web" 456 (.ref 213),kE P "_law_at" 466 (.ref 224),kE P "_law_spread" 474 (.ref 231),kE P "_law_whole" 481 (.ref 238),kE P "_law_numbers" 487 (.ref 243),kE P "_law_fold" 497 (.ref 250),kE P "_law_kinds" 514 (.ref 257),kE P "_law_crossed" 524 (.ref 264),kE P "_law_halves" 533 (.ref 271),kE P "_law_pairs" 539 (.ref 276),kE P "_law_drawn_ties" 554 (.ref 283),kE P "_law_order" 567 (.ref 290),kE P "_law_false" 573 (.ref 295),kE P "_law_web" 579 (.ref 300),kE P "_law_turned" 585 (.ref 305),kE P "_law_ranks" 591 (.ref 310),kE P "_law_parting" 597 (.ref 315),kE P "_law_like" 603 (.ref 320),kE P "_law_rounds_like" 613 (.ref 327),kE P "law" 619 (.ref 332)] 54}) ::
(nat_lit 25,cO "ranked" 196 "ranked" 197 198 5 1 3 22 181 23 24 199 5 200) ::
(nat_lit 26,fO "ranked" "ranked" io "tieword.parting" 194 25) ::
(nat_lit 30,cO "key_of" 202 "key_of" 203 204 8 3 3 27 181 28 29 205 8 206) ::
(nat_lit 31,fO "key_of" "key_of" gy "tieword.parting" 194 30) ::
(nat_lit 35,cO "keys_of" 208 "keys_of" 209 210 12 2 3 32 181 33 34 211 12 212) ::
(nat_lit 36,fO "keys_of" "keys_of" ii "tieword.parting" 194 35) ::
(nat_lit 42,cO "finer" 214 "finer" 215 216 14 2 3 37 181 38 41 219 14 220 (.ref 39) (.ref 40)) ::
(nat_lit 43,fO "finer" "finer" qL "tieword.parting" 194 42) ::
(nat_lit 49,cO "rounds_of" 222 "rounds_of" 223 224 16 2 3 44 181 45 48 229 16 230 (.ref 46) (.ref 47)) ::
(nat_lit 50,fO "rounds_of" "rounds_of" jq "tieword.parting" 194 49) ::
(nat_lit 56,cO "settled" 232 "settled" 233 234 23 2 3 51 181 52 55 237 23 238 (.ref 53) (.ref 54)) ::
(nat_lit 57,fO "settled" "settled" jR "tieword.parting" 194 56) ::
(nat_lit 63,cO "first_parting" 240 "first_parting" 241 242 25 1 3 58 181 59 62 244 25 245 (.ref 60) (.ref 61)) ::
(nat_lit 64,fO "first_parting" "first_parting" qO "tieword.parting" 194 63) ::
(nat_lit 68,cO "put_ahead" 247 "put_ahead" 248 249 27 2 3 65 181 66 67 250 27 251) ::
(nat_lit 69,fO "put_ahead" "put_ahead" iH "tieword.parting" 194 68) ::
(nat_lit 75,cO "chosen" 253 "chosen" 254 255 32 3 3 70 181 71 74 259 32 260 (.ref 72) (.ref 73)) ::
(nat_lit 76,fO "chosen" "chosen" q_ "tieword.parting" 194 75) ::
(nat_lit 80,cO "open_class" 262 "open_class" 263 264 34 1 3 77 181 78 79 265 34 266) ::
(nat_lit 81,fO "open_class" "open_class" gk "tieword.parting" 194 80) ::
(nat_lit 134,cO "is_place_kind" 344 "is_place_kind" 345 346 53 1 3 131 181 132 133 347 53 348) ::
(nat_lit 135,fO "is_place_kind" "is_place_kind" oF "tieword.webs" 336 134) ::
(nat_lit 141,cO "is_tie_kind" 350 "is_tie_kind" 351 352 56 1 3 136 181 137 140 354 56 355 (.ref 138) (.ref 139)) ::
(nat_lit 142,fO "is_tie_kind" "is_tie_kind" qB "tieword.webs" 336 141) ::
(nat_lit 148,cO "is_tie" 357 "is_tie" 358 359 58 2 3 143 181 144 147 363 58 364 (.ref 145) (.ref 146)) ::
(nat_lit 149,fO "is_tie" "is_tie" p3 "tieword.webs" 336 148) ::
(nat_lit 155,cO "refuse_wrong" 366 "refuse_wrong" 367 368 61 2 3 150 181 151 154 373 61 374 (.ref 152) (.ref 153)) ::
(nat_lit 156,fO "refuse_wrong" "refuse_wrong" jN "tieword.webs" 336 155) ::
(nat_lit 162,cO "lesser_first" 376 "lesser_first" 377 378 72 1 3 157 181 158 161 380 72 381 (.ref 159) (.ref 160)) ::
(nat_lit 163,fO "lesser_first" "lesser_first" jw "tieword.webs" 336 162) ::
(nat_lit 169,cO "put_pair" 383 "put_pair" 384 385 76 3 3 164 181 165 168 389 76 390 (.ref 166) (.ref 167)) ::
(nat_lit 170,fO "put_pair" "put_pair" i_ "tieword.webs" 336 169) ::
(nat_lit 176,cO "joins_of" 392 "joins_of" 393 394 78 1 3 171 181 172 175 401 78 402 (.ref 173) (.ref 174)) ::
(nat_lit 177,fO "joins_of" "joins_of" rb "tieword.webs" 336 176) ::
(nat_lit 188,cO "__init__" 416 "Web.__init__" 417 418 86 3 3 185 181 186 187 419 86 420) ::
(nat_lit 189,fO "__init__" "Web.__init__" oB "tieword.webs" 336 188) ::
(nat_lit 195,cO "size" 422 "Web.size" 423 424 92 1 3 190 181 191 194 426 92 427 (.ref 192) (.ref 193)) ::
(nat_lit 196,fO "size" "Web.size" qp "tieword.webs" 336 195) ::
(nat_lit 202,cO "between" 429 "Web.between" 430 431 95 3 3 197 181 198 201 435 95 436 (.ref 199) (.ref 200)) ::
(nat_lit 203,fO "between" "Web.between" qE "tieword.webs" 336 202) ::
(nat_lit 212,{cls:=.type "dict",data:=.dict #[kE P "__module__" 411 (.str "tieword.webs" 336),kE P "__firstlineno__" 415 (.int 84 414),kE P "__init__" 421 (.ref 189),kE P "size" 428 (.ref 196),kE P "between" 437 (.ref 203),kE P "near" 445 (.ref 210),kE P "__static_attributes__" 449 (.ref 211),kE P "__dict__" 451 (.ref 214),kE P "__weakref__" 453 (.ref 215),kE P "__doc__" 454 (.none)] 4}) ::
(nat_lit 213,{cls:=.type "type",data:=.cls {name := "Web",bases:=[.type "object"],mro:=[.ref 213,.type "object"],ns:=212,qualname := "Web" },slots:=#[none,none,some (.str "Web" 404),some (.str "Web" 412),some (.builtin "object.__new__"),some (.bool true)]}) ::
(nat_lit 223,cO "_law_at" 459 "_law_at" 460 461 101 2 3 218 181 219 222 464 101 465 (.ref 220) (.ref 221)) ::
(nat_lit 224,fO "_law_at" "_law_at" jH "law_tieword_k10_whole_parted_alike" 457 223) ::
(nat_lit 230,cO "_law_spread" 467 "_law_spread" 468 469 105 2 3 225 181 226 229 472 105 473 (.ref 227) (.ref 228)) ::
(nat_lit 231,fO "_law_spread" "_law_spread" jv "law_tieword_k10_whole_parted_alike" 457 230) ::
(nat_lit 237,cO "_law_whole" 475 "_law_whole" 476 477 107 1 3 232 181 233 236 479 107 480 (.ref 234) (.ref 235)) ::
(nat_lit 238,fO "_law_whole" "_law_whole" ki "law_tieword_k10_whole_parted_alike" 457 237) ::
(nat_lit 242,cO "_law_numbers" 482 "_law_numbers" 483 484 109 2 3 239 181 240 241 485 109 486) ::
(nat_lit 243,fO "_law_numbers" "_law_numbers" im "law_tieword_k10_whole_parted_alike" 457 242) ::
(nat_lit 249,cO "_law_fold" 488 "_law_fold" 489 490 113 2 3 244 181 245 248 495 113 496 (.ref 246) (.ref 247)) ::
(nat_lit 250,fO "_law_fold" "_law_fold" j7 "law_tieword_k10_whole_parted_alike" 457 249) ::
(nat_lit 256,cO "_law_kinds" 498 "_law_kinds" 499 500 118 2 3 251 181 252 255 512 118 513 (.ref 253) (.ref 254)) ::
(nat_lit 257,fO "_law_kinds" "_law_kinds" jC "law_tieword_k10_whole_parted_alike" 457 256) ::
(nat_lit 263,cO "_law_crossed" 515 "_law_crossed" 516 517 136 1 3 258 181 259 262 522 136 523 (.ref 260) (.ref 261)) ::
(nat_lit 264,fO "_law_crossed" "_law_crossed" km "law_tieword_k10_whole_parted_alike" 457 263) ::
(nat_lit 270,cO "_law_halves" 525 "_law_halves" 526 527 142 1 3 265 181 266 269 531 142 532 (.ref 267) (.ref 268)) ::
(nat_lit 271,fO "_law_halves" "_law_halves" i7 "law_tieword_k10_whole_parted_alike" 457 270) ::
(nat_lit 275,cO "_law_pairs" 534 "_law_pairs" 535 536 151 2 3 272 181 273 274 537 151 538) ::
(nat_lit 276,fO "_law_pairs" "_law_pairs" fN "law_tieword_k10_whole_parted_alike" 457 275) ::
(nat_lit 282,cO "_law_drawn_ties" 540 "_law_drawn_ties" 541 542 163 2 3 277 181 278 281 552 163 553 (.ref 279) (.ref 280)) ::
(nat_lit 283,fO "_law_drawn_ties" "_law_drawn_ties" jt "law_tieword_k10_whole_parted_alike" 457 282) ::
(nat_lit 289,cO "_law_order" 555 "_law_order" 556 557 175 3 3 284 181 285 288 565 175 566 (.ref 286) (.ref 287)) ::
(nat_lit 290,fO "_law_order" "_law_order" jr "law_tieword_k10_whole_parted_alike" 457 289) ::
(nat_lit 294,cO "_law_false" 568 "_law_false" 569 570 182 5 3 291 181 292 293 571 182 572) ::
(nat_lit 295,fO "_law_false" "_law_false" eW "law_tieword_k10_whole_parted_alike" 457 294) ::
(nat_lit 299,cO "_law_web" 574 "_law_web" 575 576 195 3 3 296 181 297 298 577 195 578) ::
(nat_lit 300,fO "_law_web" "_law_web" iG "law_tieword_k10_whole_parted_alike" 457 299) ::
(nat_lit 304,cO "_law_turned" 580 "_law_turned" 581 582 213 3 3 301 181 302 303 583 213 584) ::
(nat_lit 305,fO "_law_turned" "_law_turned" gt "law_tieword_k10_whole_parted_alike" 457 304) ::
(nat_lit 309,cO "_law_ranks" 586 "_law_ranks" 587 588 222 1 3 306 181 307 308 589 222 590) ::
(nat_lit 310,fO "_law_ranks" "_law_ranks" ig "law_tieword_k10_whole_parted_alike" 457 309) ::
(nat_lit 314,cO "_law_parting" 592 "_law_parting" 593 594 228 2 3 311 181 312 313 595 228 596) ::
(nat_lit 315,fO "_law_parting" "_law_parting" iC "law_tieword_k10_whole_parted_alike" 457 314) ::
(nat_lit 319,cO "_law_like" 598 "_law_like" 599 600 232 3 3 316 181 317 318 601 232 602) ::
(nat_lit 320,fO "_law_like" "_law_like" iw "law_tieword_k10_whole_parted_alike" 457 319) ::
(nat_lit 326,cO "_law_rounds_like" 604 "_law_rounds_like" 605 606 236 3 3 321 181 322 325 611 236 612 (.ref 323) (.ref 324)) ::
(nat_lit 327,fO "_law_rounds_like" "_law_rounds_like" ku "law_tieword_k10_whole_parted_alike" 457 326) ::
(nat_lit 331,cO "law" 614 "law" 615 616 243 1 3 328 181 329 330 617 243 618) ::
(nat_lit 332,fO "law" "law" gH "law_tieword_k10_whole_parted_alike" 457 331)::[]) rfl
set_option autoImplicit true in
set_option relaxedAutoImplicit true in
theorem all_mk{l:PySem.W.OpenLaw}{w:World}{K:Kq}{h:Heap}{mg:Ks}{fa C:Addr}(X:K.In h)(G:h.Ns mainGlobals mg)(hfa:mg "law"=some (.ref fa))
  (aC:PySem.W.nsIn K mainGlobals "Web"=some (some (.ref C)))
  (a_q27:PySem.W.nsIn K mainGlobals "_law_spread"=some (some (.ref f_q27)))
  (l_q27:K.lookup f_q27=some ⟨oc_q27,od_q27,.func (PySem.W.fnOf "_law_spread" "_law_spread" (defArgs jv) (defBody jv) (defScope jv) .none kV_q27 dc_q27 pm_q27 an_q27 cd_q27 ct_q27),sl_q27⟩)
  (c_q27:PySem.W.codeIn K cd_q27 "_law_spread"=true)
  (k_q27:PySem.W.keepIn K (.ref f_q27)=true)
  (a_q13:PySem.W.nsIn K mainGlobals "_law_at"=some (some (.ref f_q13)))
  (l_q13:K.lookup f_q13=some ⟨oc_q13,od_q13,.func (PySem.W.fnOf "_law_at" "_law_at" (defArgs jH) (defBody jH) (defScope jH) .none kV_q13 dc_q13 pm_q13 an_q13 cd_q13 ct_q13),sl_q13⟩)
  (c_q13:PySem.W.codeIn K cd_q13 "_law_at"=true)
  (k_q13:PySem.W.keepIn K (.ref f_q13)=true)
  (a_q17:PySem.W.nsIn K mainGlobals "_law_fold"=some (some (.ref f_q17)))
  (l_q17:K.lookup f_q17=some ⟨oc_q17,od_q17,.func (PySem.W.fnOf "_law_fold" "_law_fold" (defArgs j7) (defBody j7) (defScope j7) .none kV_q17 dc_q17 pm_q17 an_q17 cd_q17 ct_q17),sl_q17⟩)
  (c_q17:PySem.W.codeIn K cd_q17 "_law_fold"=true)
  (k_q17:PySem.W.keepIn K (.ref f_q17)=true)
  (a_q22:PySem.W.nsIn K mainGlobals "_law_order"=some (some (.ref f_q22)))
  (l_q22:K.lookup f_q22=some ⟨oc_q22,od_q22,.func (PySem.W.fnOf "_law_order" "_law_order" (defArgs jr) (defBody jr) (defScope jr) .none kV_q22 dc_q22 pm_q22 an_q22 cd_q22 ct_q22),sl_q22⟩)
  (c_q22:PySem.W.codeIn K cd_q22 "_law_order"=true)
  (k_q22:PySem.W.keepIn K (.ref f_q22)=true)
  (a_q19:PySem.W.nsIn K mainGlobals "_law_kinds"=some (some (.ref f_q19)))
  (l_q19:K.lookup f_q19=some ⟨oc_q19,od_q19,.func (PySem.W.fnOf "_law_kinds" "_law_kinds" (defArgs jC) (defBody jC) (defScope jC) .none kV_q19 dc_q19 pm_q19 an_q19 cd_q19 ct_q19),sl_q19⟩)
  (c_q19:PySem.W.codeIn K cd_q19 "_law_kinds"=true)
  (k_q19:PySem.W.keepIn K (.ref f_q19)=true)
  (a_q16:PySem.W.nsIn K mainGlobals "_law_false"=some (some (.ref f_q16)))
  (l_q16:K.lookup f_q16=some ⟨oc_q16,od_q16,.func (PySem.W.fnOf "_law_false" "_law_false" (defArgs eW) (defBody eW) (defScope eW) .none kV_q16 dc_q16 pm_q16 an_q16 cd_q16 ct_q16),sl_q16⟩)
  (c_q16:PySem.W.codeIn K cd_q16 "_law_false"=true)
  (k_q16:PySem.W.keepIn K (.ref f_q16)=true)
  (a_q15:PySem.W.nsIn K mainGlobals "_law_drawn_ties"=some (some (.ref f_q15)))
  (l_q15:K.lookup f_q15=some ⟨oc_q15,od_q15,.func (PySem.W.fnOf "_law_drawn_ties" "_law_drawn_ties" (defArgs jt) (defBody jt) (defScope jt) .none kV_q15 dc_q15 pm_q15 an_q15 cd_q15 ct_q15),sl_q15⟩)
  (c_q15:PySem.W.codeIn K cd_q15 "_law_drawn_ties"=true)
  (k_q15:PySem.W.keepIn K (.ref f_q15)=true)
  (a_q18:PySem.W.nsIn K mainGlobals "_law_halves"=some (some (.ref f_q18)))
  (l_q18:K.lookup f_q18=some ⟨oc_q18,od_q18,.func (PySem.W.fnOf "_law_halves" "_law_halves" (defArgs i7) (defBody i7) (defScope i7) .none kV_q18 dc_q18 pm_q18 an_q18 cd_q18 ct_q18),sl_q18⟩)
  (c_q18:PySem.W.codeIn K cd_q18 "_law_halves"=true)
  (k_q18:PySem.W.keepIn K (.ref f_q18)=true)
  (a_q14:PySem.W.nsIn K mainGlobals "_law_crossed"=some (some (.ref f_q14)))
  (l_q14:K.lookup f_q14=some ⟨oc_q14,od_q14,.func (PySem.W.fnOf "_law_crossed" "_law_crossed" (defArgs km) (defBody km) (defScope km) .none kV_q14 dc_q14 pm_q14 an_q14 cd_q14 ct_q14),sl_q14⟩)
  (c_q14:PySem.W.codeIn K cd_q14 "_law_crossed"=true)
  (k_q14:PySem.W.keepIn K (.ref f_q14)=true)
  (a_q23:PySem.W.nsIn K mainGlobals "_law_pairs"=some (some (.ref f_q23)))
  (l_q23:K.lookup f_q23=some ⟨oc_q23,od_q23,.func (PySem.W.fnOf "_law_pairs" "_law_pairs" (defArgs fN) (defBody fN) (defScope fN) .none kV_q23 dc_q23 pm_q23 an_q23 cd_q23 ct_q23),sl_q23⟩)
  (c_q23:PySem.W.codeIn K cd_q23 "_law_pairs"=true)
  (k_q23:PySem.W.keepIn K (.ref f_q23)=true)
  (a_q29:PySem.W.nsIn K mainGlobals "_law_web"=some (some (.ref f_q29)))
  (l_q29:K.lookup f_q29=some ⟨oc_q29,od_q29,.func (PySem.W.fnOf "_law_web" "_law_web" (defArgs iG) (defBody iG) (defScope iG) .none kV_q29 dc_q29 pm_q29 an_q29 cd_q29 ct_q29),sl_q29⟩)
  (c_q29:PySem.W.codeIn K cd_q29 "_law_web"=true)
  (k_q29:PySem.W.keepIn K (.ref f_q29)=true)
  (a_q6:PySem.W.nsIn K mainGlobals "is_place_kind"=some (some (.ref f_q6)))
  (l_q6:K.lookup f_q6=some ⟨oc_q6,od_q6,.func (PySem.W.fnOf "is_place_kind" "is_place_kind" (defArgs oF) (defBody oF) (defScope oF) .none kV_q6 dc_q6 pm_q6 an_q6 cd_q6 ct_q6),sl_q6⟩)
  (c_q6:PySem.W.codeIn K cd_q6 "is_place_kind"=true)
  (k_q6:PySem.W.keepIn K (.ref f_q6)=true)
  (a_q8:PySem.W.nsIn K mainGlobals "is_tie_kind"=some (some (.ref f_q8)))
  (l_q8:K.lookup f_q8=some ⟨oc_q8,od_q8,.func (PySem.W.fnOf "is_tie_kind" "is_tie_kind" (defArgs qB) (defBody qB) (defScope qB) .none kV_q8 dc_q8 pm_q8 an_q8 cd_q8 ct_q8),sl_q8⟩)
  (c_q8:PySem.W.codeIn K cd_q8 "is_tie_kind"=true)
  (k_q8:PySem.W.keepIn K (.ref f_q8)=true)
  (a_q7:PySem.W.nsIn K mainGlobals "is_tie"=some (some (.ref f_q7)))
  (l_q7:K.lookup f_q7=some ⟨oc_q7,od_q7,.func (PySem.W.fnOf "is_tie" "is_tie" (defArgs p3) (defBody p3) (defScope p3) .none kV_q7 dc_q7 pm_q7 an_q7 cd_q7 ct_q7),sl_q7⟩)
  (c_q7:PySem.W.codeIn K cd_q7 "is_tie"=true)
  (k_q7:PySem.W.keepIn K (.ref f_q7)=true)
  (a_q36:PySem.W.nsIn K mainGlobals "refuse_wrong"=some (some (.ref f_q36)))
  (l_q36:K.lookup f_q36=some ⟨oc_q36,od_q36,.func (PySem.W.fnOf "refuse_wrong" "refuse_wrong" (defArgs jN) (defBody jN) (defScope jN) .none kV_q36 dc_q36 pm_q36 an_q36 cd_q36 ct_q36),sl_q36⟩)
  (c_q36:PySem.W.codeIn K cd_q36 "refuse_wrong"=true)
  (k_q36:PySem.W.keepIn K (.ref f_q36)=true)
  (a_q31:PySem.W.nsIn K mainGlobals "lesser_first"=some (some (.ref f_q31)))
  (l_q31:K.lookup f_q31=some ⟨oc_q31,od_q31,.func (PySem.W.fnOf "lesser_first" "lesser_first" (defArgs jw) (defBody jw) (defScope jw) .none kV_q31 dc_q31 pm_q31 an_q31 cd_q31 ct_q31),sl_q31⟩)
  (c_q31:PySem.W.codeIn K cd_q31 "lesser_first"=true)
  (k_q31:PySem.W.keepIn K (.ref f_q31)=true)
  (a_q34:PySem.W.nsIn K mainGlobals "put_pair"=some (some (.ref f_q34)))
  (l_q34:K.lookup f_q34=some ⟨oc_q34,od_q34,.func (PySem.W.fnOf "put_pair" "put_pair" (defArgs i_) (defBody i_) (defScope i_) .none kV_q34 dc_q34 pm_q34 an_q34 cd_q34 ct_q34),sl_q34⟩)
  (c_q34:PySem.W.codeIn K cd_q34 "put_pair"=true)
  (k_q34:PySem.W.keepIn K (.ref f_q34)=true)
  (a_q9:PySem.W.nsIn K mainGlobals "joins_of"=some (some (.ref f_q9)))
  (l_q9:K.lookup f_q9=some ⟨oc_q9,od_q9,.func (PySem.W.fnOf "joins_of" "joins_of" (defArgs rb) (defBody rb) (defScope rb) .none kV_q9 dc_q9 pm_q9 an_q9 cd_q9 ct_q9),sl_q9⟩)
  (c_q9:PySem.W.codeIn K cd_q9 "joins_of"=true)
  (k_q9:PySem.W.keepIn K (.ref f_q9)=true)
  (a_q0:PySem.W.findIn K (.ref C) "__init__"=some (some (.ref f_q0)))
  (i_q0:PySem.W.isFn K (.ref f_q0)=true)
  (l_q0:K.lookup f_q0=some ⟨oc_q0,od_q0,.func (PySem.W.fnOf "__init__" "Web.__init__" (defArgs oB) (defBody oB) (defScope oB) .none kV_q0 dc_q0 pm_q0 an_q0 cd_q0 ct_q0),sl_q0⟩)
  (c_q0:PySem.W.codeIn K cd_q0 "Web.__init__"=true)
  (k_q0:PySem.W.keepIn K (.ref f_q0)=true)
  (a_q28:PySem.W.nsIn K mainGlobals "_law_turned"=some (some (.ref f_q28)))
  (l_q28:K.lookup f_q28=some ⟨oc_q28,od_q28,.func (PySem.W.fnOf "_law_turned" "_law_turned" (defArgs gt) (defBody gt) (defScope gt) .none kV_q28 dc_q28 pm_q28 an_q28 cd_q28 ct_q28),sl_q28⟩)
  (c_q28:PySem.W.codeIn K cd_q28 "_law_turned"=true)
  (k_q28:PySem.W.keepIn K (.ref f_q28)=true)
  (a_q25:PySem.W.nsIn K mainGlobals "_law_ranks"=some (some (.ref f_q25)))
  (l_q25:K.lookup f_q25=some ⟨oc_q25,od_q25,.func (PySem.W.fnOf "_law_ranks" "_law_ranks" (defArgs ig) (defBody ig) (defScope ig) .none kV_q25 dc_q25 pm_q25 an_q25 cd_q25 ct_q25),sl_q25⟩)
  (c_q25:PySem.W.codeIn K cd_q25 "_law_ranks"=true)
  (k_q25:PySem.W.keepIn K (.ref f_q25)=true)
  (a_q24:PySem.W.nsIn K mainGlobals "_law_parting"=some (some (.ref f_q24)))
  (l_q24:K.lookup f_q24=some ⟨oc_q24,od_q24,.func (PySem.W.fnOf "_law_parting" "_law_parting" (defArgs iC) (defBody iC) (defScope iC) .none kV_q24 dc_q24 pm_q24 an_q24 cd_q24 ct_q24),sl_q24⟩)
  (c_q24:PySem.W.codeIn K cd_q24 "_law_parting"=true)
  (k_q24:PySem.W.keepIn K (.ref f_q24)=true)
  (a_q30:PySem.W.nsIn K mainGlobals "_law_whole"=some (some (.ref f_q30)))
  (l_q30:K.lookup f_q30=some ⟨oc_q30,od_q30,.func (PySem.W.fnOf "_law_whole" "_law_whole" (defArgs ki) (defBody ki) (defScope ki) .none kV_q30 dc_q30 pm_q30 an_q30 cd_q30 ct_q30),sl_q30⟩)
  (c_q30:PySem.W.codeIn K cd_q30 "_law_whole"=true)
  (k_q30:PySem.W.keepIn K (.ref f_q30)=true)
  (a_q21:PySem.W.nsIn K mainGlobals "_law_numbers"=some (some (.ref f_q21)))
  (l_q21:K.lookup f_q21=some ⟨oc_q21,od_q21,.func (PySem.W.fnOf "_law_numbers" "_law_numbers" (defArgs im) (defBody im) (defScope im) .none kV_q21 dc_q21 pm_q21 an_q21 cd_q21 ct_q21),sl_q21⟩)
  (c_q21:PySem.W.codeIn K cd_q21 "_law_numbers"=true)
  (k_q21:PySem.W.keepIn K (.ref f_q21)=true)
  (a_q20:PySem.W.nsIn K mainGlobals "_law_like"=some (some (.ref f_q20)))
  (l_q20:K.lookup f_q20=some ⟨oc_q20,od_q20,.func (PySem.W.fnOf "_law_like" "_law_like" (defArgs iw) (defBody iw) (defScope iw) .none kV_q20 dc_q20 pm_q20 an_q20 cd_q20 ct_q20),sl_q20⟩)
  (c_q20:PySem.W.codeIn K cd_q20 "_law_like"=true)
  (k_q20:PySem.W.keepIn K (.ref f_q20)=true)
  (a_q35:PySem.W.nsIn K mainGlobals "ranked"=some (some (.ref f_q35)))
  (l_q35:K.lookup f_q35=some ⟨oc_q35,od_q35,.func (PySem.W.fnOf "ranked" "ranked" (defArgs io) (defBody io) (defScope io) .none kV_q35 dc_q35 pm_q35 an_q35 cd_q35 ct_q35),sl_q35⟩)
  (c_q35:PySem.W.codeIn K cd_q35 "ranked"=true)
  (k_q35:PySem.W.keepIn K (.ref f_q35)=true)
  (a_q2:PySem.W.findIn K (.ref C) "size"=some (some (.ref f_q2)))
  (i_q2:PySem.W.isFn K (.ref f_q2)=true)
  (l_q2:K.lookup f_q2=some ⟨oc_q2,od_q2,.func (PySem.W.fnOf "size" "Web.size" (defArgs qp) (defBody qp) (defScope qp) .none kV_q2 dc_q2 pm_q2 an_q2 cd_q2 ct_q2),sl_q2⟩)
  (c_q2:PySem.W.codeIn K cd_q2 "Web.size"=true)
  (k_q2:PySem.W.keepIn K (.ref f_q2)=true)
  (a_q1:PySem.W.findIn K (.ref C) "between"=some (some (.ref f_q1)))
  (i_q1:PySem.W.isFn K (.ref f_q1)=true)
  (l_q1:K.lookup f_q1=some ⟨oc_q1,od_q1,.func (PySem.W.fnOf "between" "Web.between" (defArgs qE) (defBody qE) (defScope qE) .none kV_q1 dc_q1 pm_q1 an_q1 cd_q1 ct_q1),sl_q1⟩)
  (c_q1:PySem.W.codeIn K cd_q1 "Web.between"=true)
  (k_q1:PySem.W.keepIn K (.ref f_q1)=true)
  (a_q10:PySem.W.nsIn K mainGlobals "key_of"=some (some (.ref f_q10)))
  (l_q10:K.lookup f_q10=some ⟨oc_q10,od_q10,.func (PySem.W.fnOf "key_of" "key_of" (defArgs gy) (defBody gy) (defScope gy) .none kV_q10 dc_q10 pm_q10 an_q10 cd_q10 ct_q10),sl_q10⟩)
  (c_q10:PySem.W.codeIn K cd_q10 "key_of"=true)
  (k_q10:PySem.W.keepIn K (.ref f_q10)=true)
  (a_q11:PySem.W.nsIn K mainGlobals "keys_of"=some (some (.ref f_q11)))
  (l_q11:K.lookup f_q11=some ⟨oc_q11,od_q11,.func (PySem.W.fnOf "keys_of" "keys_of" (defArgs ii) (defBody ii) (defScope ii) .none kV_q11 dc_q11 pm_q11 an_q11 cd_q11 ct_q11),sl_q11⟩)
  (c_q11:PySem.W.codeIn K cd_q11 "keys_of"=true)
  (k_q11:PySem.W.keepIn K (.ref f_q11)=true)
  (a_q4:PySem.W.nsIn K mainGlobals "finer"=some (some (.ref f_q4)))
  (l_q4:K.lookup f_q4=some ⟨oc_q4,od_q4,.func (PySem.W.fnOf "finer" "finer" (defArgs qL) (defBody qL) (defScope qL) .none kV_q4 dc_q4 pm_q4 an_q4 cd_q4 ct_q4),sl_q4⟩)
  (c_q4:PySem.W.codeIn K cd_q4 "finer"=true)
  (k_q4:PySem.W.keepIn K (.ref f_q4)=true)
  (a_q37:PySem.W.nsIn K mainGlobals "rounds_of"=some (some (.ref f_q37)))
  (l_q37:K.lookup f_q37=some ⟨oc_q37,od_q37,.func (PySem.W.fnOf "rounds_of" "rounds_of" (defArgs jq) (defBody jq) (defScope jq) .none kV_q37 dc_q37 pm_q37 an_q37 cd_q37 ct_q37),sl_q37⟩)
  (c_q37:PySem.W.codeIn K cd_q37 "rounds_of"=true)
  (k_q37:PySem.W.keepIn K (.ref f_q37)=true)
  (a_q38:PySem.W.nsIn K mainGlobals "settled"=some (some (.ref f_q38)))
  (l_q38:K.lookup f_q38=some ⟨oc_q38,od_q38,.func (PySem.W.fnOf "settled" "settled" (defArgs jR) (defBody jR) (defScope jR) .none kV_q38 dc_q38 pm_q38 an_q38 cd_q38 ct_q38),sl_q38⟩)
  (c_q38:PySem.W.codeIn K cd_q38 "settled"=true)
  (k_q38:PySem.W.keepIn K (.ref f_q38)=true)
  (a_q26:PySem.W.nsIn K mainGlobals "_law_rounds_like"=some (some (.ref f_q26)))
  (l_q26:K.lookup f_q26=some ⟨oc_q26,od_q26,.func (PySem.W.fnOf "_law_rounds_like" "_law_rounds_like" (defArgs ku) (defBody ku) (defScope ku) .none kV_q26 dc_q26 pm_q26 an_q26 cd_q26 ct_q26),sl_q26⟩)
  (c_q26:PySem.W.codeIn K cd_q26 "_law_rounds_like"=true)
  (k_q26:PySem.W.keepIn K (.ref f_q26)=true)
  (a_q5:PySem.W.nsIn K mainGlobals "first_parting"=some (some (.ref f_q5)))
  (l_q5:K.lookup f_q5=some ⟨oc_q5,od_q5,.func (PySem.W.fnOf "first_parting" "first_parting" (defArgs qO) (defBody qO) (defScope qO) .none kV_q5 dc_q5 pm_q5 an_q5 cd_q5 ct_q5),sl_q5⟩)
  (c_q5:PySem.W.codeIn K cd_q5 "first_parting"=true)
  (k_q5:PySem.W.keepIn K (.ref f_q5)=true)
  (a_q32:PySem.W.nsIn K mainGlobals "open_class"=some (some (.ref f_q32)))
  (l_q32:K.lookup f_q32=some ⟨oc_q32,od_q32,.func (PySem.W.fnOf "open_class" "open_class" (defArgs gk) (defBody gk) (defScope gk) .none kV_q32 dc_q32 pm_q32 an_q32 cd_q32 ct_q32),sl_q32⟩)
  (c_q32:PySem.W.codeIn K cd_q32 "open_class"=true)
  (k_q32:PySem.W.keepIn K (.ref f_q32)=true)
  (a_q33:PySem.W.nsIn K mainGlobals "put_ahead"=some (some (.ref f_q33)))
  (l_q33:K.lookup f_q33=some ⟨oc_q33,od_q33,.func (PySem.W.fnOf "put_ahead" "put_ahead" (defArgs iH) (defBody iH) (defScope iH) .none kV_q33 dc_q33 pm_q33 an_q33 cd_q33 ct_q33),sl_q33⟩)
  (c_q33:PySem.W.codeIn K cd_q33 "put_ahead"=true)
  (k_q33:PySem.W.keepIn K (.ref f_q33)=true)
  (a_q3:PySem.W.nsIn K mainGlobals "chosen"=some (some (.ref f_q3)))
  (l_q3:K.lookup f_q3=some ⟨oc_q3,od_q3,.func (PySem.W.fnOf "chosen" "chosen" (defArgs q_) (defBody q_) (defScope q_) .none kV_q3 dc_q3 pm_q3 an_q3 cd_q3 ct_q3),sl_q3⟩)
  (c_q3:PySem.W.codeIn K cd_q3 "chosen"=true)
  (k_q3:PySem.W.keepIn K (.ref f_q3)=true)
  (a_q12:PySem.W.nsIn K mainGlobals "law"=some (some (.ref f_q12)))
  (l_q12:K.lookup f_q12=some ⟨oc_q12,od_q12,.func (PySem.W.fnOf "law" "law" (defArgs gH) (defBody gH) (defScope gH) .none kV_q12 dc_q12 pm_q12 an_q12 cd_q12 ct_q12),sl_q12⟩)
  (c_q12:PySem.W.codeIn K cd_q12 "law"=true)
  (k_q12:PySem.W.keepIn K (.ref f_q12)=true)
  (pg:PySem.W.plainGet K C Str.empty=true)
  (hd:PySem.W.hasDictIn K C=true)
  (po:PySem.W.plainOver K C=true)
  (sa:PySem.W.findIn K (.ref C) "__setattr__"=some (some (.builtin "object.__setattr__")))
  (mkc:PySem.W.makesIn K C=true)
  (kc:PySem.W.keepIn K (.ref C)=true)
  (n_joins:PySem.W.findIn K (.ref C) "joins"=some none)
  (n_kinds:PySem.W.findIn K (.ref C) "kinds"=some none)
  (n_ties:PySem.W.findIn K (.ref C) "ties"=some none)
  (z_all:PySem.W.nsIn K mainGlobals "all"=some none)
  (z_bool:PySem.W.nsIn K mainGlobals "bool"=some none)
  (z_enumerate:PySem.W.nsIn K mainGlobals "enumerate"=some none)
  (z_int:PySem.W.nsIn K mainGlobals "int"=some none)
  (z_isinstance:PySem.W.nsIn K mainGlobals "isinstance"=some none)
  (z_len:PySem.W.nsIn K mainGlobals "len"=some none)
  (z_list:PySem.W.nsIn K mainGlobals "list"=some none)
  (z_min:PySem.W.nsIn K mainGlobals "min"=some none)
  (z_range:PySem.W.nsIn K mainGlobals "range"=some none)
  (z_reversed:PySem.W.nsIn K mainGlobals "reversed"=some none)
  (z_set:PySem.W.nsIn K mainGlobals "set"=some none)
  (z_sorted:PySem.W.nsIn K mainGlobals "sorted"=some none)
  (z_tuple:PySem.W.nsIn K mainGlobals "tuple"=some none)
  (t_MOST_PLACES:PySem.W.nsIn K mainGlobals "MOST_PLACES"=some (some (.int 7 tk_MOST_PLACES)))
  (t_MOST_TIES:PySem.W.nsIn K mainGlobals "MOST_TIES"=some (some (.int 12 tk_MOST_TIES)))
  (t_MOST_LETTERS:PySem.W.nsIn K mainGlobals "MOST_LETTERS"=some (some (.int 3 tk_MOST_LETTERS))) :
  ∃fd:FuncData,(∀(s:Shared) (v:Value),BindsTo s fd ⟨[v],[]⟩ [("_law_script",v)])/\∀base:Heap,K.In base->base.Ns mainGlobals mg->FnOk l.prog w K mg base CX0 8 fa fd ["_law_script"] (spLaw K):=by
 have e:=hfa.symm.trans (Yv X G a_q12);cases e;have F_q27:=aU (st:=jv) l_q27 c_q27 k_q27;have F_q13:=aU (st:=jH) l_q13 c_q13 k_q13;have F_q17:=aU (st:=j7) l_q17 c_q17 k_q17;have F_q22:=aU (st:=jr) l_q22 c_q22 k_q22;have F_q19:=aU (st:=jC) l_q19 c_q19 k_q19;have F_q16:=aU (st:=eW) l_q16 c_q16 k_q16;have F_q15:=aU (st:=jt) l_q15 c_q15 k_q15;have F_q18:=aU (st:=i7) l_q18 c_q18 k_q18;have F_q14:=aU (st:=km) l_q14 c_q14 k_q14;have F_q23:=aU (st:=fN) l_q23 c_q23 k_q23;have F_q29:=aU (st:=iG) l_q29 c_q29 k_q29;have F_q6:=aU (st:=oF) l_q6 c_q6 k_q6;have F_q8:=aU (st:=qB) l_q8 c_q8 k_q8;have F_q7:=aU (st:=p3) l_q7 c_q7 k_q7;have F_q36:=aU (st:=jN) l_q36 c_q36 k_q36;have F_q31:=aU (st:=jw) l_q31 c_q31 k_q31;have F_q34:=aU (st:=i_) l_q34 c_q34 k_q34;have F_q9:=aU (st:=rb) l_q9 c_q9 k_q9;have F_q0:=aU (st:=oB) l_q0 c_q0 k_q0;have F_q28:=aU (st:=gt) l_q28 c_q28 k_q28;have F_q25:=aU (st:=ig) l_q25 c_q25 k_q25;have F_q24:=aU (st:=iC) l_q24 c_q24 k_q24;have F_q30:=aU (st:=ki) l_q30 c_q30 k_q30;have F_q21:=aU (st:=im) l_q21 c_q21 k_q21;have F_q20:=aU (st:=iw) l_q20 c_q20 k_q20;have F_q35:=aU (st:=io) l_q35 c_q35 k_q35;have F_q2:=aU (st:=qp) l_q2 c_q2 k_q2;have F_q1:=aU (st:=qE) l_q1 c_q1 k_q1;have F_q10:=aU (st:=gy) l_q10 c_q10 k_q10;have F_q11:=aU (st:=ii) l_q11 c_q11 k_q11;have F_q4:=aU (st:=qL) l_q4 c_q4 k_q4;have F_q37:=aU (st:=jq) l_q37 c_q37 k_q37;have F_q38:=aU (st:=jR) l_q38 c_q38 k_q38;have F_q26:=aU (st:=ku) l_q26 c_q26 k_q26;have F_q5:=aU (st:=qO) l_q5 c_q5 k_q5;have F_q32:=aU (st:=gk) l_q32 c_q32 k_q32;have F_q33:=aU (st:=iH) l_q33 c_q33 k_q33;have F_q3:=aU (st:=q_) l_q3 c_q3 k_q3;have F_q12:=aU (st:=gH) l_q12 c_q12 k_q12;have T:Txt K mg ⟨C,f_q27,_,f_q13,_,f_q17,_,f_q22,_,f_q19,_,f_q16,_,f_q15,_,f_q18,_,f_q14,_,f_q23,_,f_q29,_,f_q6,_,f_q8,_,f_q7,_,f_q36,_,f_q31,_,f_q34,_,f_q9,_,f_q0,_,f_q28,_,f_q25,_,f_q24,_,f_q30,_,f_q21,_,f_q20,_,f_q35,_,f_q2,_,f_q1,_,f_q10,_,f_q11,_,f_q4,_,f_q37,_,f_q38,_,f_q26,_,f_q5,_,f_q32,_,f_q33,_,f_q3,_,f_q12,_,tk_MOST_PLACES,tk_MOST_TIES,tk_MOST_LETTERS⟩:={
  cl:=⟨pg,hd,po,sa⟩
  mkC:=⟨mkc,a_q0,i_q0,kc⟩
  mgC:=Yv X G aC
  na_joins:=n_joins
  na_kinds:=n_kinds
  na_ties:=n_ties
  fn_q27:=F_q27
  bd_q27:=F_q27.binds fun _ _ _ _ _ _ us hl=>by obtain⟨v0,v1,rfl⟩:=dg hl;rfl
  g_q27:=Yv X G a_q27
  fn_q13:=F_q13
  bd_q13:=F_q13.binds fun _ _ _ _ _ _ us hl=>by obtain⟨v0,v1,rfl⟩:=dg hl;rfl
  g_q13:=Yv X G a_q13
  fn_q17:=F_q17
  bd_q17:=F_q17.binds fun _ _ _ _ _ _ us hl=>by obtain⟨v0,v1,rfl⟩:=dg hl;rfl
  g_q17:=Yv X G a_q17
  fn_q22:=F_q22
  bd_q22:=F_q22.binds fun _ _ _ _ _ _ us hl=>by obtain⟨v0,v1,v2,rfl⟩:=fj hl;rfl
  g_q22:=Yv X G a_q22
  fn_q19:=F_q19
  bd_q19:=F_q19.binds fun _ _ _ _ _ _ us hl=>by obtain⟨v0,v1,rfl⟩:=dg hl;rfl
  g_q19:=Yv X G a_q19
  fn_q16:=F_q16
  bd_q16:=F_q16.binds fun _ _ _ _ _ _ us hl=>by obtain⟨v0,v1,v2,v3,v4,rfl⟩:=DK hl;rfl
  g_q16:=Yv X G a_q16
  fn_q15:=F_q15
  bd_q15:=F_q15.binds fun _ _ _ _ _ _ us hl=>by obtain⟨v0,v1,rfl⟩:=dg hl;rfl
  g_q15:=Yv X G a_q15
  fn_q18:=F_q18
  bd_q18:=F_q18.binds fun _ _ _ _ _ _ us hl=>by obtain⟨v0,rfl⟩:=dO hl;rfl
  g_q18:=Yv X G a_q18
  fn_q14:=F_q14
  bd_q14:=F_q14.binds fun _ _ _ _ _ _ us hl=>by obtain⟨v0,rfl⟩:=dO hl;rfl
  g_q14:=Yv X G a_q14
  fn_q23:=F_q23
  bd_q23:=F_q23.binds fun _ _ _ _ _ _ us hl=>by obtain⟨v0,v1,rfl⟩:=dg hl;rfl
  g_q23:=Yv X G a_q23
  fn_q29:=F_q29
  bd_q29:=F_q29.binds fun _ _ _ _ _ _ us hl=>by obtain⟨v0,v1,v2,rfl⟩:=fj hl;rfl
  g_q29:=Yv X G a_q29
  fn_q6:=F_q6
  bd_q6:=F_q6.binds fun _ _ _ _ _ _ us hl=>by obtain⟨v0,rfl⟩:=dO hl;rfl
  g_q6:=Yv X G a_q6
  fn_q8:=F_q8
  bd_q8:=F_q8.binds fun _ _ _ _ _ _ us hl=>by obtain⟨v0,rfl⟩:=dO hl;rfl
  g_q8:=Yv X G a_q8
  fn_q7:=F_q7
  bd_q7:=F_q7.binds fun _ _ _ _ _ _ us hl=>by obtain⟨v0,v1,rfl⟩:=dg hl;rfl
  g_q7:=Yv X G a_q7
  fn_q36:=F_q36
  bd_q36:=F_q36.binds fun _ _ _ _ _ _ us hl=>by obtain⟨v0,v1,rfl⟩:=dg hl;rfl
  g_q36:=Yv X G a_q36
  fn_q31:=F_q31
  bd_q31:=F_q31.binds fun _ _ _ _ _ _ us hl=>by obtain⟨v0,rfl⟩:=dO hl;rfl
  g_q31:=Yv X G a_q31
  fn_q34:=F_q34
  bd_q34:=F_q34.binds fun _ _ _ _ _ _ us hl=>by obtain⟨v0,v1,v2,rfl⟩:=fj hl;rfl
  g_q34:=Yv X G a_q34
  fn_q9:=F_q9
  bd_q9:=F_q9.binds fun _ _ _ _ _ _ us hl=>by obtain⟨v0,rfl⟩:=dO hl;rfl
  g_q9:=Yv X G a_q9
  fn_q0:=F_q0
  bd_q0:=F_q0.binds fun _ _ _ _ _ _ us hl=>by obtain⟨v0,v1,v2,rfl⟩:=fj hl;rfl
  fn_q28:=F_q28
  bd_q28:=F_q28.binds fun _ _ _ _ _ _ us hl=>by obtain⟨v0,v1,v2,rfl⟩:=fj hl;rfl
  g_q28:=Yv X G a_q28
  fn_q25:=F_q25
  bd_q25:=F_q25.binds fun _ _ _ _ _ _ us hl=>by obtain⟨v0,rfl⟩:=dO hl;rfl
  g_q25:=Yv X G a_q25
  fn_q24:=F_q24
  bd_q24:=F_q24.binds fun _ _ _ _ _ _ us hl=>by obtain⟨v0,v1,rfl⟩:=dg hl;rfl
  g_q24:=Yv X G a_q24
  fn_q30:=F_q30
  bd_q30:=F_q30.binds fun _ _ _ _ _ _ us hl=>by obtain⟨v0,rfl⟩:=dO hl;rfl
  g_q30:=Yv X G a_q30
  fn_q21:=F_q21
  bd_q21:=F_q21.binds fun _ _ _ _ _ _ us hl=>by obtain⟨v0,v1,rfl⟩:=dg hl;rfl
  g_q21:=Yv X G a_q21
  fn_q20:=F_q20
  bd_q20:=F_q20.binds fun _ _ _ _ _ _ us hl=>by obtain⟨v0,v1,v2,rfl⟩:=fj hl;rfl
  g_q20:=Yv X G a_q20
  fn_q35:=F_q35
  bd_q35:=F_q35.binds fun _ _ _ _ _ _ us hl=>by obtain⟨v0,rfl⟩:=dO hl;rfl
  g_q35:=Yv X G a_q35
  fn_q2:=F_q2
  bd_q2:=F_q2.binds fun _ _ _ _ _ _ us hl=>by obtain⟨v0,rfl⟩:=dO hl;rfl
  mt_q2:=⟨a_q2,i_q2,k_q2⟩
  fn_q1:=F_q1
  bd_q1:=F_q1.binds fun _ _ _ _ _ _ us hl=>by obtain⟨v0,v1,v2,rfl⟩:=fj hl;rfl
  mt_q1:=⟨a_q1,i_q1,k_q1⟩
  fn_q10:=F_q10
  bd_q10:=F_q10.binds fun _ _ _ _ _ _ us hl=>by obtain⟨v0,v1,v2,rfl⟩:=fj hl;rfl
  g_q10:=Yv X G a_q10
  fn_q11:=F_q11
  bd_q11:=F_q11.binds fun _ _ _ _ _ _ us hl=>by obtain⟨v0,v1,rfl⟩:=dg hl;rfl
  g_q11:=Yv X G a_q11
  fn_q4:=F_q4
  bd_q4:=F_q4.binds fun _ _ _ _ _ _ us hl=>by obtain⟨v0,v1,rfl⟩:=dg hl;rfl
  g_q4:=Yv X G a_q4
  fn_q37:=F_q37
  bd_q37:=F_q37.binds fun _ _ _ _ _ _ us hl=>by obtain⟨v0,v1,rfl⟩:=dg hl;rfl
  g_q37:=Yv X G a_q37
  fn_q38:=F_q38
  bd_q38:=F_q38.binds fun _ _ _ _ _ _ us hl=>by obtain⟨v0,v1,rfl⟩:=dg hl;rfl
  g_q38:=Yv X G a_q38
  fn_q26:=F_q26
  bd_q26:=F_q26.binds fun _ _ _ _ _ _ us hl=>by obtain⟨v0,v1,v2,rfl⟩:=fj hl;rfl
  g_q26:=Yv X G a_q26
  fn_q5:=F_q5
  bd_q5:=F_q5.binds fun _ _ _ _ _ _ us hl=>by obtain⟨v0,rfl⟩:=dO hl;rfl
  g_q5:=Yv X G a_q5
  fn_q32:=F_q32
  bd_q32:=F_q32.binds fun _ _ _ _ _ _ us hl=>by obtain⟨v0,rfl⟩:=dO hl;rfl
  g_q32:=Yv X G a_q32
  fn_q33:=F_q33
  bd_q33:=F_q33.binds fun _ _ _ _ _ _ us hl=>by obtain⟨v0,v1,rfl⟩:=dg hl;rfl
  g_q33:=Yv X G a_q33
  fn_q3:=F_q3
  bd_q3:=F_q3.binds fun _ _ _ _ _ _ us hl=>by obtain⟨v0,v1,v2,rfl⟩:=fj hl;rfl
  g_q3:=Yv X G a_q3
  fn_q12:=F_q12
  bd_q12:=F_q12.binds fun _ _ _ _ _ _ us hl=>by obtain⟨v0,rfl⟩:=dO hl;rfl
  g_q12:=Yv X G a_q12
  b_all:=Za X G z_all
  b_bool:=Za X G z_bool
  b_enumerate:=Za X G z_enumerate
  b_int:=Za X G z_int
  b_isinstance:=Za X G z_isinstance
  b_len:=Za X G z_len
  b_list:=Za X G z_list
  b_min:=Za X G z_min
  b_range:=Za X G z_range
  b_reversed:=Za X G z_reversed
  b_set:=Za X G z_set
  b_sorted:=Za X G z_sorted
  b_tuple:=Za X G z_tuple
  c_MOST_PLACES:=Yv X G t_MOST_PLACES
  c_MOST_TIES:=Yv X G t_MOST_TIES
  c_MOST_LETTERS:=Yv X G t_MOST_LETTERS}
 exact⟨_,fun s v=>.of_eq rfl,fun base _ _=>(AL T).imp (uF (law_true _))⟩
end My
namespace PySem.W.Fast
theorem tw5340815244640740352:True:=.intro
theorem tw16412353487694701824:True:=.intro
theorem tw1181090945231536480:True:=.intro
theorem tw15199719619974403680:True:=.intro
theorem tw1494143501207676640:True:=.intro
theorem tw3230203092055000896:True:=.intro
theorem tw609319585453130720:True:=.intro
theorem tw8965420384780675073:True:=.intro
theorem tw16979426535989454049:True:=.intro
theorem tw11183111798426605953:True:=.intro
theorem tw15311262155865399777:True:=.intro
theorem tw3830273676839463809:True:=.intro
theorem tw12381672999530697762:True:=.intro
theorem tw8289435727696436418:True:=.intro
theorem tw10610916987246824706:True:=.intro
theorem tw866013604612752674:True:=.intro
theorem tw13562834871524651778:True:=.intro
theorem tw9255156495114651586:True:=.intro
theorem tw7453311252540990499:True:=.intro
theorem tw17231240540460402819:True:=.intro
theorem tw11876955085334921347:True:=.intro
theorem tw4652154051887549635:True:=.intro
theorem tw13949483442592347619:True:=.intro
theorem tw8174520060384541411:True:=.intro
theorem tw17509174255898989315:True:=.intro
theorem tw2595576941060927492:True:=.intro
theorem tw13315395946356959300:True:=.intro
theorem tw16506096325004354948:True:=.intro
theorem tw12833167398777117092:True:=.intro
theorem tw18403514078188391140:True:=.intro
theorem tw16823776432943536900:True:=.intro
theorem tw8773078669724253060:True:=.intro
theorem tw3779191633699807204:True:=.intro
theorem tw6078031275914056197:True:=.intro
theorem tw13296255417413565989:True:=.intro
theorem tw13924406789637974725:True:=.intro
theorem tw4113296445960821445:True:=.intro
theorem tw5245698385953042149:True:=.intro
theorem tw11978540924068280229:True:=.intro
theorem tw11110611062725553254:True:=.intro
theorem tw1867502350315703814:True:=.intro
theorem tw8036802251993865766:True:=.intro
theorem tw9513182078318157382:True:=.intro
theorem tw8455417343521501766:True:=.intro
theorem tw5723791057469987526:True:=.intro
theorem tw5994500045867567878:True:=.intro
theorem tw2509505308758685478:True:=.intro
theorem tw8290097124173621030:True:=.intro
theorem tw12843826811007757158:True:=.intro
theorem tw17084317838671236103:True:=.intro
theorem tw2822478086188770471:True:=.intro
theorem tw16005099193036673447:True:=.intro
theorem tw727394674094836167:True:=.intro
theorem tw4168164425298755111:True:=.intro
theorem tw6659206581084050055:True:=.intro
theorem tw13596366680114464487:True:=.intro
theorem tw16855969770091150151:True:=.intro
theorem tw13550078206294117191:True:=.intro
theorem tw14545940070195991656:True:=.intro
theorem tw5996330476724363528:True:=.intro
theorem tw3501977580029828456:True:=.intro
theorem tw11886024398073306472:True:=.intro
theorem tw18207131231175293416:True:=.intro
theorem tw11701117939155497736:True:=.intro
theorem tw10175303182028526665:True:=.intro
theorem tw2074609926342080617:True:=.intro
theorem tw9865890658389005417:True:=.intro
theorem tw210582170158411913:True:=.intro
theorem tw699071169637827817:True:=.intro
theorem tw4509948750808758633:True:=.intro
theorem tw13600157543835264681:True:=.intro
theorem tw16494844353481640970:True:=.intro
theorem tw12727235323054550058:True:=.intro
theorem tw3382411361828438218:True:=.intro
theorem tw7055065260333469034:True:=.intro
theorem tw11628788049511599562:True:=.intro
theorem tw89560376238234282:True:=.intro
theorem tw13948897388689920714:True:=.intro
theorem tw9141588109660197642:True:=.intro
theorem tw2796030727063453514:True:=.intro
theorem tw7098728998684230538:True:=.intro
theorem tw8592803217181679787:True:=.intro
theorem tw6180468047009496523:True:=.intro
theorem tw15892912380222420459:True:=.intro
theorem tw1833139550882815467:True:=.intro
theorem tw14424184448019823403:True:=.intro
theorem tw6193724370515643179:True:=.intro
theorem tw17970356979238129547:True:=.intro
theorem tw7906815488202001836:True:=.intro
theorem tw1556799749490168428:True:=.intro
theorem tw14756426648166653804:True:=.intro
theorem tw12774395087390703693:True:=.intro
theorem tw10876332225372939373:True:=.intro
theorem tw7644162444406994061:True:=.intro
theorem tw12913479015702081677:True:=.intro
theorem tw6060890663952067789:True:=.intro
theorem tw4144449066787821869:True:=.intro
theorem tw16106942652880105837:True:=.intro
theorem tw2041625084071983597:True:=.intro
theorem tw813426519743124045:True:=.intro
theorem tw5991891550645253933:True:=.intro
theorem tw1081491945725673582:True:=.intro
theorem tw261439202107944078:True:=.intro
theorem tw7276979406818637102:True:=.intro
theorem tw2611921399296879982:True:=.intro
theorem tw16449293548900040142:True:=.intro
theorem tw578605255950314318:True:=.intro
theorem tw16496092856960873326:True:=.intro
theorem tw2529879666408276942:True:=.intro
theorem tw4394580109404546095:True:=.intro
theorem tw11091703112049624143:True:=.intro
theorem tw15555641476724530447:True:=.intro
theorem tw554868748303344943:True:=.intro
theorem tw10266503620576184751:True:=.intro
theorem tw7344482282117801615:True:=.intro
theorem tw9606817567030909775:True:=.intro
theorem tw10309922181135308848:True:=.intro
theorem tw15474344707373374832:True:=.intro
theorem tw9672285719569151632:True:=.intro
theorem tw15818585731839857328:True:=.intro
theorem tw17119863190954091216:True:=.intro
theorem tw8937800610366854896:True:=.intro
theorem tw10703380555015851920:True:=.intro
theorem tw15608072641085160529:True:=.intro
theorem tw3353668699157941425:True:=.intro
theorem tw12316638628289754353:True:=.intro
theorem tw7646054092191421937:True:=.intro
theorem tw9280305659847784401:True:=.intro
theorem tw1699417124041155922:True:=.intro
theorem tw535821887687738706:True:=.intro
theorem tw1018232954974799410:True:=.intro
theorem tw2535796294093407954:True:=.intro
theorem tw5247946312069632754:True:=.intro
theorem tw510817717112293138:True:=.intro
theorem tw14791605549059429138:True:=.intro
theorem tw7705888151026544466:True:=.intro
theorem tw7511166127077242866:True:=.intro
theorem tw10816826626730784819:True:=.intro
theorem tw11396360351377620051:True:=.intro
theorem tw16671656639643319475:True:=.intro
theorem tw16367130589236209843:True:=.intro
theorem tw15144485544189785331:True:=.intro
theorem tw12399811231388651827:True:=.intro
theorem tw13958239490278973811:True:=.intro
theorem tw10681067013446126995:True:=.intro
theorem tw723474022856333907:True:=.intro
theorem tw17139665057466615411:True:=.intro
theorem tw5489679574065254227:True:=.intro
theorem tw3983068755144381299:True:=.intro
theorem tw10133991980205332339:True:=.intro
theorem tw3600031302704051091:True:=.intro
theorem tw13441565861176051732:True:=.intro
theorem tw18335208298381355188:True:=.intro
theorem tw12236561364824460532:True:=.intro
theorem tw17728176832624444724:True:=.intro
theorem tw12182291221355436372:True:=.intro
theorem tw9145616510049034644:True:=.intro
theorem tw11869638507654036916:True:=.intro
theorem tw4810540780975063572:True:=.intro
theorem tw9947075829809279572:True:=.intro
theorem tw16674739504225875668:True:=.intro
theorem tw9467482388955177908:True:=.intro
theorem tw5936668553100728661:True:=.intro
theorem tw5933740906841687381:True:=.intro
theorem tw11904825062910542741:True:=.intro
theorem tw6839085431885953142:True:=.intro
theorem tw2932112991806174326:True:=.intro
theorem tw2064829200827821302:True:=.intro
theorem tw9470569163489803798:True:=.intro
theorem tw4465943011060418454:True:=.intro
theorem tw12537755154935952342:True:=.intro
theorem tw10360611953918590934:True:=.intro
theorem tw6883744782118999095:True:=.intro
theorem tw6255163331795816631:True:=.intro
theorem tw16767508090282931415:True:=.intro
theorem tw16412857759365830967:True:=.intro
theorem tw4126855285856975351:True:=.intro
theorem tw410881297951016503:True:=.intro
theorem tw13588462309825009271:True:=.intro
theorem tw17873025626001614839:True:=.intro
theorem tw582635844863915064:True:=.intro
theorem tw6413653025159234680:True:=.intro
theorem tw11941652996778839256:True:=.intro
theorem tw14305951935087955512:True:=.intro
theorem tw11263424454305361528:True:=.intro
theorem tw2852090958257710744:True:=.intro
theorem tw11327409023688991544:True:=.intro
theorem tw5592751750435503960:True:=.intro
theorem tw6231684788210072697:True:=.intro
theorem tw969447455964340377:True:=.intro
theorem tw13507239494364354777:True:=.intro
theorem tw14800746794907426169:True:=.intro
theorem tw4187566362563931545:True:=.intro
theorem tw8794792663137093081:True:=.intro
theorem tw966431153992551001:True:=.intro
theorem tw3721045658993618585:True:=.intro
theorem tw3432473673058713241:True:=.intro
theorem tw9337465760852906745:True:=.intro
theorem tw17146128974901158681:True:=.intro
theorem tw10184013300629649241:True:=.intro
theorem tw10659973580498138009:True:=.intro
theorem tw6474897141831193593:True:=.intro
theorem tw5744030765806717978:True:=.intro
theorem tw9634742054626695546:True:=.intro
theorem tw6542842363050346874:True:=.intro
theorem tw5956955126823810426:True:=.intro
theorem tw1849105724004350682:True:=.intro
theorem tw2604639890881549050:True:=.intro
theorem tw9711317210797012762:True:=.intro
theorem tw12652589531179491194:True:=.intro
theorem tw18359547178666364794:True:=.intro
theorem tw15341841166338926490:True:=.intro
theorem tw14227699638492162619:True:=.intro
theorem tw7512682426551808603:True:=.intro
theorem tw6235379918834034523:True:=.intro
theorem tw11788185652686872604:True:=.intro
theorem tw16008804866309520444:True:=.intro
theorem tw4926439335752934588:True:=.intro
theorem tw15078724836686752092:True:=.intro
theorem tw14393185210750220636:True:=.intro
theorem tw11064293164955630236:True:=.intro
theorem tw17708869446873643004:True:=.intro
theorem tw1271691900082273373:True:=.intro
theorem tw14978626460852544125:True:=.intro
theorem tw6872544836108127869:True:=.intro
theorem tw17005489331017913181:True:=.intro
theorem tw16740766080561239901:True:=.intro
theorem tw18363475994843152317:True:=.intro
theorem tw2043546528604425278:True:=.intro
theorem tw10200917606185647230:True:=.intro
theorem tw10470834856858403006:True:=.intro
theorem tw3518302373404179710:True:=.intro
theorem tw2819725309762180382:True:=.intro
theorem tw4164637913427953054:True:=.intro
theorem tw4909909291134054846:True:=.intro
theorem tw7798719026973537822:True:=.intro
theorem tw3188208734149415550:True:=.intro
theorem tw9206511667230735038:True:=.intro
theorem tw10675792675543087934:True:=.intro
theorem tw6259909121046182782:True:=.intro
theorem tw12429462555198612575:True:=.intro
theorem tw4822733793234253919:True:=.intro
theorem tw14666941937489943775:True:=.intro
theorem tw12479381691057842399:True:=.intro
theorem tw5053955591262278975:True:=.intro
theorem tw9141144727042651519:True:=.intro
theorem tw4670890226575513023:True:=.intro
theorem tw9933593520673927647:True:=.intro
theorem tw6658218466386188767:True:=.intro
theorem tw3806884712104104511:True:=.intro
theorem tw14708890852707150463:True:=.intro
theorem tw13117556564633560831:True:=.intro
theorem tw5905664183839456127:True:=.intro
theorem tw6674545794149112799:True:=.intro
end PySem.W.Fast
open PySem PySem.W PyProof.Rows
set_option maxRecDepth 100000 in
set_option maxHeartbeats 0 in
theorem PySem.Challenge.cw_tieword_k10_whole_parted_alike_holds : PySem.Challenge.rw_tieword_k10_whole_parted_alike.Holds := by
  w_on; refine PySem.W.holds_law (by decide +kernel) fun said=>?_; o_head (PySem.W.kHook My.KK [3,25,26,30,31,35,36,42,43,49,50,56,57,63,64,68,69,75,76,80,81,134,135,141,142,148,149,155,156,162,163,169,170,176,177,188,189,195,196,202,203,212,213,223,224,230,231,237,238,242,243,249,250,256,257,263,264,270,271,275,276,282,283,289,290,294,295,299,300,304,305,309,310,314,315,319,320,326,327,331,332] (fun _=>by kernel_rfl)); (case hw=>w_witness2)
  k_fill
  refine L2.walk_ofK (l:=PySem.Challenge.rw_tieword_k10_whole_parted_alike) (n:=63) (k:=8) (x := "_law_script") (CX:=L2.CX0) (sp:=My.spLaw) rfl (by decide) rfl ⟨rfl,by decide,by decide⟩ (fun w h Y=>PySem.W.kIn_of Y) ?F (fun K H a ns hl _ hS=>⟨a,ns,rfl,hS,hl,fun _=>rfl⟩) fun _ _ _ _ z=>z
  case F=>
    intro w mg fa h KX G hmg
    refine' My.all_mk KX G hmg ..
    all_goals (try k_is)
    all_goals kernel_rfl
