import PyProof.Rows.All
import Wide.All
import OpenK.AllK
import Wide.FinOn
import Lean
import PyProof.EqAt
import PyProof.EqKinds
import PyProof.TupleCall
import PyProof.ReprStr
import PyProof.Rows.FStr
import PyProof.Rows.SetFrom
import PyProof.EnumFor
import PyProof.EnumMake
import PyProof.ZipIter
import KE.KRevIter
import PyProof.ListRange
import PyProof.FactsAll.range_iterator_1
import KE.KIntText
import PyProof.CallStr
import PyProof.Rows.MinMaxN
import PyProof.StrOps2
import PySem.SetOps
import PyProof.CollectWalk
import PyProof.Rows.SortShell
import PyProof.SetRoads
import PySem.Challenge.RW_tieword_k20_whole_few_make_all
set_option Elab.async false
set_option linter.all false
set_option maxRecDepth 100000
set_option compiler.extract_closed false
set_option bootstrap.genMatcherCode false
set_option genSizeOf false
set_option genSizeOfSpec false
noncomputable section
local macro_rules|`(tactic|trivial)=>`(tactic|first|exact .inl rfl|(apply Or.inr;trivial))
namespace L2
def Ya:=@Option.bind_some
def Yb:=@PySem.wpAny_bind
def Yc:=@List.length_map
def Yd:=@List.mem_cons_of_mem
def Ye:=@List.mem_cons_self
def Yf:=@PySem.Heap.get?_push_of_some
def Yg:=@List.getElem?_eq_getElem
def Yh:=@PySem.wpAny_pure
def Yi:=@List.all_eq_true
def Yj:=@if_pos
def Yk:=@Bool.false_ne_true
def Yl:=@if_neg
def Ym:=@List.mem_map
def Yn:=@List.getElem?_eq_some_iff
def Yo:=@List.getElem?_map
def Yp:=@List.length_append
def Yq:=@PySem.Heap.get?_push_size
def Yr:=@Nat.le_refl
def Ys:=@PySem.Heap.lt_size
def Yt:=@List.length_cons
def Yu:=@Bool.and_eq_true
def Yv:=@Option.some.inj
def Yw:=@List.mem_cons
def Yx:=@Nat.lt_of_lt_of_le
def Yy:=@Array.getElem?_eq_getElem
def Yz:=@Nat.ne_of_lt
def YA:=@List.size_toArray
def YB:=@decide_eq_false
def YC:=@List.mem_singleton
def YD:=@Nat.le_trans
def YE:=@Option.bind_eq_some_iff
def YF:=@List.getD_eq_getElem?_getD
def YG:=@decide_eq_true_eq
def YH:=@List.map_cons
def YI:=@List.map_map
def YJ:=@List.mem_of_getElem?
def YK:=@List.mem_append_right
def YL:=@List.length_replicate
def YM:=@Array.length_toList
def YN:=@of_decide_eq_true
def YO:=@Nat.zero_le
def YQ:=@List.length_singleton
def YR:=@congrArg
def YS:=@decide_eq_true
def YT:=@List.nodup_cons
def YU:=@List.mem_range
def YV:=@PySem.Heap.get?_update_ne
def YW:=@List.mem_append_left
def YX:=@Nat.lt_irrefl
def YY:=@PySem.sizeLine_eq
def YZ:=@List.append_nil
def Za:=@List.map_append
def Zb:=@Int.toNat_natCast
def Zc:=@Array.getElem?_toList
def Zd:=@PySem.Heap.get?_update_self
def Ze:=@List.length_nil
def Zf:=@Nat.zero_add
def Zg:=@List.mem_singleton_self
def Zh:=@List.getElem?_eq_none
def Zi:=@List.append_assoc
def Zj:=@List.length_range
def Zk:=@Nat.lt_of_le_of_lt
def Zl:=@List.map_congr_left
def Zm:=@List.mem_append
def Zn:=@PySem.codeAny_builtin
def Zo:=@List.length_eq_zero_iff
def Zp:=@Classical.byContradiction
def Zq:=@Int.emod_lt_of_pos
def Zr:=@Array.getD_eq_getD_getElem?
def Zs:=@PySem.Around.under_plainId
def Zt:=@Array.getElem?_eq_some_iff
def Zu:=@List.length_take
def Zv:=@Nat.lt_succ_of_lt
def Zw:=@Nat.le_of_lt_succ
def Zx:=@List.mem_filter
def Zy:=@List.getElem?_set_ne
def Zz:=@List.length_set
def ZA:=@PySem.mem_of_lookup
def ZB:=@Nat.le_antisymm
def ZC:=@Int.emod_nonneg
def ZD:=@Nat.add_right_comm
def ZE:=@PySem.wpAny_holding
def ZF:=@List.pairwise_cons
def ZG:=@Option.isSome_iff_exists
def ZH:=@Nat.ne_of_gt
def ZI:=@Nat.le_succ
def ZJ:=@List.getElem?_range
def ZK:=@Nat.lt_succ_self
def ZL:=@List.lookup_cons
def ZM:=@PySem.wpAny_truthy_bool
def ZN:=@PySem.F.plainAttrs_list
def ZO:=@List.getElem?_append_right
def ZP:=@Nat.le_of_lt
def ZQ:=@Nat.lt_trans
def ZR:=@Bool.false_eq_true
def ZS:=@List.getElem?_append_left
def ZT:=@Nat.le_add_left
def ZU:=@PySem.wpAny_call_entry
def ZV:=@List.take_length
def ZW:=@beq_eq_false_iff_ne
def ZX:=@List.getElem_of_mem
def ZY:=@List.ext_getElem?
def ZZ:=@Array.mem_of_getElem?
def Xa:=@Option.map_some
def Xb:=@Nat.lt_of_le_of_ne
def Xc:=@PySem.Obj.data_mapFields
def Xd:=@PySem.wpAny_mono
def Xe:=@Nat.succ_pos
def Xf:=@List.getElem?_set_self
def Xg:=@PySem.F.plain_min_loop
def Xh:=@PySem.wpAny_newObj_type
def Xi:=@List.nodup_append
def Xj:=@PySem.Heap.size_push
def Xk:=@List.drop_eq_getElem_cons
def Xl:=@PySem.plainId_quiet
def Xm:=@Nat.le_of_eq
def Xn:=@List.find?_cons
def Xo:=@Nat.le_of_not_lt
def Xp:=@Nat.le_sub_one_of_lt
def Xq:=@decide_eq_false_iff_not
def Xr:=@Int.eq_ofNat_of_zero_le
def Xs:=@List.pairwise_map
def Xt:=@PyProof.Rows.callWith_type1
def Xu:=@List.perm_ext_iff_of_nodup
def Xv:=@PySem.wpAny_forIn_list
def Xw:=@List.getElem_mem
def Xx:=@List.not_mem_nil
def Xy:=@PySem.wpAny_Call_Name_kw
def Xz:=@PySem.hashByValue_scannable
def XA:=@List.Perm.refl
def XB:=@PySem.wpAny_passesOwn
def XC:=@PySem.F.slot_list_append
def XD:=@PySem.wpAny_specialOf
def XE:=@PySem.wpAny_updateSeq
def XF:=@PySem.codeAny_mono
def XG:=@List.getElem?_replicate
def XH:=@Bool.or_false
def XI:=@List.any_cons
def XJ:=@List.getElem?_cons_succ
def XL:=@PySem.wpAny_callSpecial?_slot
def XM:=@Int.toNat_of_nonneg
def XN:=@List.map_eq_nil_iff
def XO:=@List.length_drop
def XQ:=@List.mem_flatMap
def XR:=@PySem.wpAny_seqItems
def XS:=@Ne.symm
def XT:=@PySem.W.cellsFrom_some
def XU:=@Option.map_eq_some_iff
def XV:=@List.drop_eq_nil_of_le
def XW:=@Array.getElem?_eq_none
def XX:=@List.take_of_length_le
def XY:=@PySem.Calls.spliced_cons
def XZ:=@List.zip_cons_cons
def Va:=@PySem.Code.quiet_builtin
def Vb:=@Nat.min_le_left
def Vc:=@PySem.Obj.isFreed_of_fields
def Vd:=@PySem.wpAny_ite_split
def Ve:=@Int.le_trans
def Vf:=@PySem.wpAny_pyIter_list
def Vg:=@Bool.true_and
def Vh:=@PySem.Heap.get?_push_ne
def Vi:=@Nat.add_assoc
def Vj:=@List.nodup_iff_pairwise_ne
def Vk:=@Bool.false_and
def Vl:=@List.pairwise_iff_getElem
def Vm:=@List.getElem?_eq_none_iff
def Vn:=@PySem.wpAny_setField
def Vo:=@List.take_take
def Vp:=@if_false
def Vq:=@beq_self_eq_true
def Vr:=@PySem.wpAny_isInstance
def Vs:=@List.nodup_range
def Vt:=@Nat.add_sub_cancel'
def Vu:=@beq_iff_eq
def Vv:=@PySem.F.type_list_append
def Vw:=@Nat.lt_or_ge
def Vx:=@List.filterMap_cons_some
def Vy:=@PySem.tupleKind_room_in1
def Vz:=@Nat.lt_add_of_pos_right
def VA:=@Nat.not_lt_zero
def VB:=@List.foldl_cons
def VC:=@Array.forIn_toList
def VD:=@List.eraseIdx_cons_succ
def VE:=@PySem.Heap.get?_update_other
def VF:=@PySem.SeqAt.eqAt_reads
def VG:=@PySem.Value.isInt_shape
def VH:=@Nat.le_of_succ_le
def VI:=@List.take_add_one
def VJ:=@PySem.eqIsQuiet_byValue
def VL:=@PySem.wpAny_setState_of
def VM:=@PySem.wpAny_storeSet_of
def VN:=@List.eraseIdx_eq_take_drop_succ
def VO:=@PySem.wpAny_pyIter_slot
def VP:=@List.map_id
def VQ:=@Bool.and_false
def VR:=@PySem.F.slot_dict_get
def VS:=@PySem.wpAny_typeOf
def VT:=@Nat.succ.inj
def VU:=@List.take_append_drop
def VV:=@Nat.succ_le_succ
def VW:=@Nat.le_add_right
def VX:=@PySem.Heap.size_update
def VY:=@decide_eq_decide
def VZ:=@Array.mem_toList_iff
def Ua:=@Array.getElem_of_mem
def Ub:=@List.mem_of_mem_take
def Uc:=@PySem.Paired.length
def Ud:=@PySem.wpAny_newList
def Ue:=@Nat.sub_lt
def Uf:=@Nat.mod_lt
def Ug:=@List.filterMap_cons
def Uh:=@PySem.wpAny_execs_nil
def Ui:=@PySem.W.plainGet_of
def Uj:=@List.of_mem_zip
def Uk:=@if_true
def Ul:=@PySem.pushCells_keeps
def Um:=@PySem.wpAny_loadPart'
def Uo:=@Array.toList_append
def Up:=@List.find?_some
def Uq:=@List.nil_append
def Ur:=@List.mem_filterMap
def Us:=@PySem.W.callWith_K
def Ut:=@List.zip_nil_right
def Uu:=@or_false
def Uv:=@List.find?_eq_none
def Uw:=@Int.lt_of_le_of_lt
def Ux:=@Nat.mul_le_mul
def Uy:=@PySem.wpAny_call
def Uz:=@PySem.call_meets
def UA:=@List.zip_nil_left
def UB:=@Array.size_append
def UC:=@Nat.lt_trichotomy
def UD:=@Nat.lt_of_succ_lt
def UE:=@Bool.eq_false_iff
def UF:=@Sum.inl.inj
end L2
namespace L2
open PySem PySem.Spec PyProof.Rows
abbrev Kq:=PySem.W.Frag
abbrev Kv:=Value->Shared->Prop
abbrev Kp:=List<|Addr×Obj
abbrev Ks:=Str->Option Value
abbrev Ka:=Array<|Int×Value
abbrev Kb:=Bool->Shared->Prop
abbrev Ko:=Option Value->Shared->Prop
abbrev Kl:=List Value->Shared->Prop
abbrev Kr:=Result->Shared->Prop
abbrev Key:=Sum Int Str
def rj:Key->Value->Bool
 |.inl k,v=>Value.isInt k v
 |.inr x,v=>Value.isStrOf x v
def LW(w:World):Key->Int
 |.inl k=>hashInt k
 |.inr x=>hashStr w x
def cy:∀{k}{v},rj k v=true->(∃i t,k=Sum.inl i/\v=Value.int i t)\/(∃x t,k=Sum.inr x/\v=Value.str x t)
 |.inl i,v,h=>by
  obtain⟨t,e⟩:=VG h;exact .inl ⟨i,t,rfl,e⟩
 |.inr x,v,h=>by
  obtain⟨t,e⟩:=Value.isStrOf_shape h;exact .inr ⟨x,t,rfl,e⟩
def Aj i t:rj (.inl i) (.int i t)=true:=by simp[rj,Value.isInt]
def zE x t:rj (.inr x) (.str x t)=true:=by simp[rj,Value.isStrOf]
theorem HK a b:decide ((Sum.inl a:Key)=Sum.inl b)=(a == b):=by grind
def HY a b:decide ((Sum.inr a:Key)=Sum.inr b)=decide (a=b):=by simp
def HM a b:decide ((Sum.inl a:Key)=Sum.inr b)=false:=YB λq=>nomatch q
def IV a b:decide ((Sum.inr a:Key)=Sum.inl b)=false:=YB λq=>nomatch q
def bA prog w:PySem.KeyKind prog w Key where
 is:=rj
 hash:=LW w
 inj:=λv a b l f=>by
  rcases cy l with⟨i,t,rfl,rfl⟩|⟨x,t,rfl,rfl⟩
  ·rcases cy f with⟨j,u,rfl,e⟩|⟨y,u,rfl,e⟩
   ·injection e with e1 _;rw[e1]
   ·exact nomatch e
  ·rcases cy f with⟨j,u,rfl,e⟩|⟨y,u,rfl,e⟩
   ·exact nomatch e
   ·injection e with e1 _;rw[e1]
 byValue:=λk v h=>by
  rcases cy h with⟨i,t,rfl,rfl⟩|⟨x,t,rfl,rfl⟩<;>rfl
 pyHash:=λc h=>by
  rcases cy c with⟨i,t,rfl,rfl⟩|⟨x,t,rfl,rfl⟩
  ·exact wpAny_pyHash_int h
  ·exact wpAny_pyHash_str h
 eqBool:=λg c h=>by
  rcases cy g with⟨i,t,rfl,rfl⟩|⟨x,t,rfl,rfl⟩
  ·rcases cy c with⟨j,u,rfl,rfl⟩|⟨y,u,rfl,rfl⟩
   ·rw[HK]at h;exact wpAny_eqBool_int h
   ·rw[HM]at h;exact SeqAt.EqAt.int_str i t y u _ _ _ _ h
  ·rcases cy c with⟨j,u,rfl,rfl⟩|⟨y,u,rfl,rfl⟩
   ·rw[IV]at h;exact SeqAt.EqAt.str_int x t j u _ _ _ _ h
   ·rw[HY]at h;exact wpAny_eqBool_str h
 «strs»:=λk x t v h=>by
  rcases cy h with⟨i,u,rfl,e⟩|⟨y,u,rfl,e⟩
  ·exact nomatch e
  ·injection e with e1 _;subst e1;cases v<;>rfl
def wg prog w i t:(bA prog w).is (.inl i) (.int i t)=true:=Aj i t
def vv prog w x t:(bA prog w).is (.inr x) (.str x t)=true:=zE x t
inductive V where
 |non|bl (b:Bool)|int (i:Int)|str (x:Str)|byt (b:Array UInt8)|flt (b:UInt64)|ref (a:Addr)|ty (n:String)
def RelV:V->Value->Prop
 |.non,u=>u=Value.none
 |.bl b,u=>u=Value.bool b
 |.int i,u=>∃t,u=Value.int i t
 |.str x,u=>∃t,u=Value.str x t
 |.byt b,u=>∃t,u=Value.bytes b t
 |.flt b,u=>∃t,u=Value.float b t
 |.ref a,u=>u=Value.ref a
 |.ty n,u=>u=Value.type n
abbrev Vals:List V->List Value->Prop:=Paired RelV
def Vals.length(r:Vals xs us):xs.length=us.length:=Uc r
theorem Vals.get:∀{xs}{us}{i:Nat}{x},Vals xs us->xs[i]?=some x->∃u,us[i]?=some u/\RelV x u
 |_,_,_,_,.nil,e=>by simp at e
 |_,_,0,_,.cons r _,e=>by simp at e;subst e;exact⟨_,rfl,r⟩
 |_,_,i+1,x,.cons _ t,e=>by
  obtain⟨u,a,h⟩:=Vals.get (i:=i) (x:=x) t (by simpa using e);exact⟨u,by simpa using a,h⟩
def Vals.append(h:Vals xs us)(s:Vals ys w):Vals (xs++ys) (us++w):=by
 induction h with
 |nil=>exact s
 |cons r _ ih=>exact .cons r ih
theorem Vals.take:∀{xs}{us} n,Vals xs us->Vals (xs.take n) (us.take n)
 |_,_,0,_=>.nil
 |_,_,_+1,.nil=>.nil
 |_,_,n+1,.cons r t=>.cons r<|Vals.take n t
theorem Vals.drop:∀{xs}{us} n,Vals xs us->Vals (xs.drop n) (us.drop n)
 |_,_,0,r=>r
 |_,_,_+1,.nil=>.nil
 |_,_,n+1,.cons _ t=>Vals.drop n t
def RelO:Option V->Option Value->Prop
 |some v,some u=>RelV v u
 |none,none=>True
 |_,_=>False
def KV:List (κ×V)->List (κ×Value)->Prop:=Paired λp q=>p.1=q.1/\RelV p.2 q.2
noncomputable def kV:Key->V
 |.inl i=>.int i
 |.inr x=>.str x
inductive HO where
 /-- a list -/
 |lst (xs:List V)
 /-- a tuple (never changes) -/
 |tup (xs:List V)
 /-- a dict whose keys are ints and texts;one whose keys are tuples of ints and texts (the empty one is both) -/
 |dK (kvs:List (Key×V))|dT (kvs:List (List Key×V))
 /-- a set of ints: its members,its size -/
 |set (S:Int->Bool) (n:Nat)
 /-- an instance of the class at C,its dict at dx,its attributes -/
 |ins (C dx:Addr) (fs:List (Str×V))
 /-- the dict of the instance at x -/
 |own (x:Addr)
 /-- the dict of an exception -/
 |xd (fs:List (Str×V))
 /-- a bound method,f of x -/
 |met (f x:Addr)
 /-- a range object lo,lo+1,.. below hi -/
 |rng (lo hi:Int)
 /-- a thing that is known to the object (the script;a dict while a loop walks it): read,never written while it is so -/
 |frz (o:Obj) (u:HO)
 /-- a code object's table -/
 |tbl (q:Str) (pos:Pos)
 /-- any other thing,by what is true of its one object (a def of one's own: SetO a S n:=HO.ext λh=>..) -/
 |ext (φ:Heap->Prop)
abbrev Hp:=Addr->Option HO
def HO.stl:HO->Bool
 |.tup _=>true
 |.frz _ _=>true
 |.tbl _ _=>true
 |_=>false
def G3(o:Obj)(q:Str):Prop:=∃a t,o.data=.fields a/\a[1]?=some (.str q t)
noncomputable def K6(o:Obj):Option (Addr×Str×Pos):=match o with
 |⟨.str q t,none,.fields #[.int a _,.int b _,.int c _,.int d _],_⟩=>some (t,q,⟨a.toNat,b.toNat,c.toNat,d.toNat⟩)
 |_=>none
def fg(K:Kq):List (Addr×Str×Pos):=K.filterMap λp=>K6 p.2
def f8(K:Kq)(t:Addr)(q:Str)(p:Pos):Prop:=(fg K).lookup t=some (q,p)
def upd(H:Hp)(a:Addr)(o:HO):Hp:=λb=>if b=a then some o else H b
def aI:upd H a o a=some o:=by unfold upd;rw[Yj rfl]
def aD(h:b≠a):upd H a o b=H b:=by unfold upd;rw[Yl h]
theorem JV{H:Hp}(h:H a=some o)(h':H b=some u)(d:o≠u):a≠b:=by grind
theorem bn{H:Hp}(h:H a=some o)(h':H b=none):a≠b:=by grind
def NoD(h:Heap)(a:Addr):Prop:=∃o,h.get? a=some o/\o.dict=none
def NoD.new(h:Heap)items:NoD (h.push {cls:=.type "tuple",data:=.seq items}) h.objs.size:=⟨_,Yq _ rfl,rfl⟩
section
variable(P:Program) (w:World)
def ObjOk(H:Hp)(h:Heap)(a:Addr):HO->Prop
 |.lst b=>b.length<=sizeLine/\∃(i:List Value) (n:Nat),Vals b i/\h.get? a=some {cls:=.type "list",data:=.seq i.toArray n}
 |.tup b=>b.length<=sizeLine/\∃i:List Value,Vals b i/\IsTup h a i.toArray/\NoD h a
 |.dK kvs=>kvs.length<=sizeLine/\(a == sysModules)=false/\∃g,KV kvs g/\h.DictOf (bA P w) a g
 |.dT kvs=>kvs.length<=sizeLine/\(a == sysModules)=false/\∃b:List _,
   Paired (λp q=>p.1=q.1/\H q.2.1=some (.tup<|p.1.map kV)/\RelV p.2 q.2.2) kvs b /\
   ∃o s y,h.get? a=some o/\o.ExactDict/\o.data=.dict s y/\s.toList=b.map (entryOfKey<|tupleKind<|bA P w)/\(b.map (·.1)).Nodup
 |.set S n=>h.SetOf (intKind P w) a S n
 |.ins C dx fs=>H dx=some (.own a)/\fs.length<=1000/\dx≠a/\h.get? a=some (PySem.W.instObj C dx) /\
   ∃m,h.Ns1 dx m/\(∀f,RelO (fs.lookup f)<|m f)/\PySem.Within m (fs.map (·.1))
 |.own _=>∃o,h.get? a=some o
 |.xd fs=>∃m,h.Ns1 a m/\∀f,RelO (fs.lookup f)<|m f
 |.rng lo hi=>∃t u v,h.get? a=some {cls:=.type "range",data:=.fields #[.int lo t,.int hi u,.int 1 v]}
 |.frz o u=>h.get? a=some o/\ObjOk H h a u
 |.tbl q pos=>∃e,h.get? a=some (PySem.W.tabObj e)/\TriplesOk e.toList/\(codeAmong pos e.toList=none\/∃c o u,codeAmong pos e.toList=some (.ref c)/\H c=some (.frz o u)/\G3 o q)
 |.met f x=>h.get? a=some (PySem.W.methodObj (.ref f)<|.ref x)
 |.ext φ=>φ h/\(∃o,h.get? a=some o)/\∀l j:Heap,φ l->(∀o,l.get? a=some o->j.get? a=some o)->φ j
def HOk(H:Hp)(h:Heap):Prop:=∀a o,H a=some o->ObjOk P w H h a o
end
section
variable{P:Program}{w:World}{H H':Hp}{h h':Heap}{a:Addr}{o:HO}
def ObjOk.lt(x:ObjOk P w H h a o):a<h.objs.size:=by
 cases o with
 |lst xs=>obtain⟨_,_,_,_,e⟩:=x;exact Ys e
 |tup xs=>obtain⟨_,_,_,p,_⟩:=x;exact p.lt
 |dK kvs=>obtain⟨_,_,_,_,o,_,_,e,_⟩:=x;exact Ys e
 |dT kvs=>obtain⟨_,_,_,_,o,_,_,e,_⟩:=x;exact Ys e
 |set S n=>obtain⟨o,_,_,_,e,_⟩:=x;exact Ys e
 |ins C dx fs=>obtain⟨_,_,_,e,_⟩:=x;exact Ys e
 |own y=>obtain⟨_,e⟩:=x;exact Ys e
 |xd fs=>obtain⟨_,⟨_,_,_,e,_⟩,_⟩:=x;exact Ys e
 |rng lo hi=>obtain⟨_,_,_,e⟩:=x;exact Ys e
 |frz ob u=>obtain⟨e,_⟩:=x;exact Ys e
 |tbl q p=>obtain⟨_,e,_⟩:=x;exact Ys e
 |met f y=>exact Ys<|show h.get? a=some _ from x
 |ext φ=>obtain⟨_,⟨_,e⟩,_⟩:=x;exact Ys e
def Paired.mapP{l₁:List e}{l}(h:Paired F l₁ l)(f:∀a b,F a b->G a b):Paired G l₁ l:=by
 induction h with
 |nil=>exact .nil
 |cons r _ ih=>exact .cons (f _ _ r) ih
def ObjOk.stay(x:ObjOk P w H h a o)(k:∀b u,(b=a\/H b=some (.own a))->h.get? b=some u->h'.get? b=some u)
  (O:∀b,H b=some (.own a)->H' b=some (.own a)) (K:∀b u,u.stl=true->H b=some u->H' b=some u):ObjOk P w H' h' a o:=by
 induction o with
 |lst m=>obtain⟨z,l,n,r,e⟩:=x;exact⟨z,l,n,r,k _ _ (.inl rfl) e⟩
 |tup m=>obtain⟨z,l,r,⟨g,e,c⟩,A,E,I⟩:=x;exact⟨z,l,r,⟨g,k _ _ (.inl rfl) e,c⟩,A,k _ _ (.inl rfl) E,I⟩
 |dK kvs=>obtain⟨z,y,L,r,g,i,j,e,c⟩:=x;exact⟨z,y,L,r,g,i,j,k _ _ (.inl rfl) e,c⟩
 |dT kvs=>
  obtain⟨z,y,m,r,g,i,j,e,c⟩:=x;exact⟨z,y,m,Paired.mapP r λp q z=>⟨z.1,K _ _ rfl z.2.1,z.2.2⟩,g,i,j,k _ _ (.inl rfl) e,c⟩
 |set S n=>obtain⟨g,i,j,t,e,c⟩:=x;exact⟨g,i,j,t,k _ _ (.inl rfl) e,c⟩
 |ins C dx fs=>
  obtain⟨d,z,N,e,B,⟨s,i,j,E,c⟩,r⟩:=x;exact⟨O _ d,z,N,k _ _ (.inl rfl) e,B,⟨s,i,j,k _ _ (.inr d) E,c⟩,r⟩
 |own y=>obtain⟨g,e⟩:=x;exact⟨g,k _ _ (.inl rfl) e⟩
 |xd fs=>obtain⟨B,⟨s,i,j,e,c⟩,r⟩:=x;exact⟨B,⟨s,i,j,k _ _ (.inl rfl) e,c⟩,r⟩
 |rng lo hi=>obtain⟨t,u,v,e⟩:=x;exact⟨t,u,v,k _ _ (.inl rfl) e⟩
 |frz g u ih=>obtain⟨e,q⟩:=x;exact⟨k _ _ (.inl rfl) e,ih q⟩
 |tbl q p=>
  obtain⟨M,e,z,c⟩:=x;exact⟨M,k _ _ (.inl rfl) e,z,c.imp id λ⟨c,o,u,R,I,Q⟩=>⟨c,o,u,R,K _ _ rfl I,Q⟩⟩
 |met f y=>
  have e:=x;exact k a _ (.inl rfl) e
 |ext φ=>obtain⟨p,⟨o,e⟩,J⟩:=x;exact⟨J _ _ p λo q=>k _ _ (.inl rfl) q,⟨o,k _ _ (.inl rfl) e⟩,J⟩
def HOk.lt(x:HOk P w H h)(e:H a=some o):a<h.objs.size:=(x a o e).lt
def HOk.fresh(x:HOk P w H h)(e:h.objs.size<=a):H a=none:=by
 cases q:H a with
 |none=>rfl
 |some u=>exact absurd (Yx (x.lt q) e)<|YX _
def HOk.kept(x:HOk P w H h)(k:∀b u,h.get? b=some u->h'.get? b=some u):HOk P w H h':=λa o e=>
 (x a o e).stay (λb u _ q=>k b u q) (λ_ q=>q) λ_ _ _ q=>q
def HOk.laid(x:HOk P w H h)(k:∀b u,h.get? b=some u->h'.get? b=some u)(i:h.objs.size<=a)(new:ObjOk P w (upd H a o) h' a o):HOk P w (upd H a o) h':=λb u e=>by
 have f:=x.fresh i;by_cases g:b=a
 ·subst g;rw[aI]at e;cases e;exact new
 ·rw[aD g]at e;exact(x b u e).stay (λc v _ q=>k c v q) (λc q=>by rwa[aD<|bn q f]) λc u _ q=>by rwa[aD<|bn q f]
end
def Rd(H:Hp)(a:Addr)(u:HO):Prop:=H a=some u\/∃o,H a=some (.frz o u)
def Rd.ok(r:Rd H a u)(x:HOk P w H h):ObjOk P w H h a u:=by
 rcases r with r|⟨o,r⟩
 ·exact x a u r
 ·obtain⟨_,q⟩:=x a _ r;exact q
def Mut:Option HO->Prop
 |some (.lst _)=>True
 |some (.dK _)=>True
 |some (.dT _)=>True
 |some (.set _ _)=>True
 |some (.ins _ _ _)=>True
 |some (.ext _)=>True
 |_=>False
section
variable{P:Program}{w:World}{H:Hp}{h h':Heap}{x e:Addr}{o':HO}
theorem HOk.write(ok:HOk P w H h)(m:Mut (H x))(he:e=x\/H e=some (.own x))(k:∀b u,b≠e->h.get? b=some u->h'.get? b=some u)(j:∃u,h'.get? e=some u)
  (new:ObjOk P w (upd H x o') h' x o'):HOk P w (upd H x o') h':=λb u q=>by
 have f:∀c y,H c=some (.own y)->c≠x:=λc y r z=>by subst z;rwa[r]at m
 have g:∀c u,u.stl=true->H c=some u->c≠x:=λc u s r z=>by subst z;rw[r]at m;cases u<;>first|exact m|cases s
 by_cases i:b=x
 ·subst i;rw[aI]at q;cases q;exact new
 ·rw[aD i]at q;by_cases a:b=e
  ·have l:H b=some (.own x):=by
    rcases he with z|z
    ·exact absurd (a.trans z) i
    ·rwa[a]
   rw[q]at l;cases l;obtain⟨v,o⟩:=j;exact⟨v,by rwa[a]⟩
  ·refine(ok b u q).stay (λc v hc r=>k c v ?_ r) (λc r=>by rwa[aD<|f c b r]) λc u s r=>by rwa[aD<|g c u s r]
   rcases hc with rfl|hc
   ·exact a
   ·rintro rfl;grind
end
structure Un (fs ex:List Addr) (H H':Hp) (h h':Heap):Prop where
 keep:∀b o,h.get? b=some o->H b=none->b∉fs->b∉ex->h'.get? b=some o
 slot:∀b o,h.get? b=some o->H b=none->b∈fs->b∉ex->∃sl,h'.get? b=some {o with slots:=sl}
 free:∀b o,h.get? b=some o->H b=none->b∉ex->H' b=none
 there:∀b o,h.get? b=some o->b∉ex->∃o',h'.get? b=some o'
 stl:∀b u,u.stl=true->H b=some u->H' b=some u
section
variable{fs fs' ex ex':List Addr}{H H1 H2:Hp}{h h1 h2 h':Heap}{a x e:Addr}{o:HO}
def Un.any(u:Un fs ex H H1 h h1)(q:h.get? b=some ob)(n:H b=none)(hx:b∉ex):∃s,h1.get? b=some {ob with slots:=s}:=by
 by_cases a:b∈fs
 ·exact u.slot b ob q n a hx
 ·exact⟨ob.slots,u.keep b ob q n a hx⟩
def Un.kept(k:∀b u,h.get? b=some u->h'.get? b=some u):Un fs ex H H h h':=
 ⟨λb o q _ _ _=>k b o q,λb o q _ _ _=>⟨o.slots,k b o q⟩,λ_ _ _ n _=>n,λb o q _=>⟨o,k b o q⟩,λ_ _ _ q=>q⟩
def Un.refl:Un fs ex H H h h:=Un.kept λ_ _ q=>q
def Un.laid(k:∀b u,h.get? b=some u->h'.get? b=some u)(c:h.objs.size<=a)(e:H a=none):Un fs ex H (upd H a o) h h' where
 keep:=λb u q _ _ _=>k b u q
 slot:=λb u q _ _ _=>⟨u.slots,k b u q⟩
 free:=λb u q n _=>by rwa[aD<|Yz<|Yx (Ys q) c]
 there:=λb u q _=>⟨u,k b u q⟩
 stl:=λb u _ q=>by rwa[aD<|bn q e]
theorem Un.write(m:Mut (H x))(he:e=x\/H e=some (.own x))(k:∀b u,b≠e->h.get? b=some u->h'.get? b=some u)(c:∃u,h'.get? e=some u):Un fs ex H (upd H x o) h h':=by
 have f:∀b,H b=none->b≠x:=λb n z=>by subst z;rwa[n]at m
 have g:∀b,H b=none->b≠e:=λb n z=>by
  subst z;rcases he with r|r
  ·exact f b n r
  ·rw[n]at r;cases r
 have j:∀b u,H b=some u->¬Mut (some u)->b≠x:=λb u q i z=>by subst z;rw[q]at m;exact i m
 refine⟨λb u q n _ _=>k b u (g b n) q,λb u q n _ _=>⟨u.slots,k b u (g b n) q⟩,λb u q n _=>by rwa[aD<|f b n],λb u q _=>?_,
  λb u s q=>by rwa[aD<|j b _ q λz=>by cases u<;>first|exact z|cases s]⟩
 grind
end
def trk(h:Heap)(H:Hp):List Addr:=(List.range h.objs.size).filter λa=>(H a).isSome
def sW(h:Heap)(H:Hp):Heap:=PySem.W.hideAll h<|trk h H
def zy h H:(sW h H).objs.size=h.objs.size:=PySem.W.hideAll_size _ _
def Bc(e:h.get? b=some o)(n:H b=none):(sW h H).get? b=some o:=
 PySem.W.hideAll_get _ e λa=>by
  have q:=(Zx.mp a).2;rw[n]at q;simp at q
def Gw(e:(sW h H).get? b=some o):h.get? b=some o/\H b=none:=by
 have a:=PySem.W.of_hideAll _ e;refine⟨a,?_⟩;cases q:H b with
 |none=>rfl
 |some x=>
  have c:b∈trk h H:=Zx.mpr ⟨YU.mpr<|Ys a,by simp[q]⟩;have z:(sW h H).get? b=none:=PySem.W.hideAll_none _ c;rw[z]at e;cases e
def EK(g h:Heap)(L:Addr):List (Addr×Obj):=(List.range h.objs.size).filterMap λa=>if a=L\/(g.get? a).isSome=true then none else(h.get? a).map λo=>(a,o)
def bW(g h:Heap)(L d:Addr):List (Addr×Obj):=(EK g h L).filter λp=>decide<|p.1≠d
structure Mod (K:PySem.W.Frag) (mg:Str->Option Value) (base:Heap):Prop where
 kin:K.In base
 glob:base.Ns mainGlobals mg
 blt:∃mb,base.Ns builtinsNs mb/\∀x:Str,x ≠ "__name__"->mb x=bootBuiltins x
 nolimit:base.NoLimit
 bat:∀t q p,f8 K t q p->base.BuiltinsAt mg t
structure Cx where
 prog:Program
 w:World
 K:PySem.W.Frag
 mg:Str->Option Value
 base:Heap
 A:Around
 N:List Str
 s₀:Shared
 H₀:Hp
 env:Env
 outer:List Env
 stack:List Env
 ex:List Addr
 fn:Str->Bool
 calm:Bool
 pn:List (Addr×Obj)
 xe:Value->Shared->Prop
def frs(l:List Env):List Addr:=l.filterMap (·.frame)
abbrev Cx.fs(X:Cx):List Addr:=frs X.outer
def Vis(s:Scope)(x:Str):Prop:=s.names.lookup x=some .local\/s.names.lookup x=some .cell\/s.names.lookup x=some .free
def Loc(s:Scope)(x:Str):Prop:=s.names.lookup x=some .local\/s.names.lookup x=some .cell
def Mz(env:Env)(h:Heap)(m:Ks)(x:Str)(u:Value):Prop:=
 (env.kindOf x=some .local/\m x=some u)\/((env.kindOf x=some .cell\/env.kindOf x=some .free)/\∃c,env.cells.lookup x=some c/\h.IsCell c (some u))
structure Cx.Ok (X:Cx):Prop where
 mod:Mod X.K X.mg X.base
 kind:X.env.scope.kind=.function
 glob:X.env.globals=mainGlobals
 blt:X.env.builtins=builtinsNs
 above:X.s₀.heap.objs.size<=X.env.locals
 inj:∀x y c,X.env.cells.lookup x=some c->X.env.cells.lookup y=some c->x=y
 has:∀x,(X.env.kindOf x=some .cell\/X.env.kindOf x=some .free)->∃c,X.env.cells.lookup x=some c
 cab:∀x c,X.fn x=true->X.env.cells.lookup x=some c->X.s₀.heap.objs.size<=c
 hd:X.calm=true->X.A.handled=none
 frames:X.A.frames=some X.stack
 stk:X.stack=X.outer\/(X.stack=X.env::X.outer/\X.env.frame=some X.env.locals)
 exf:∀b∈X.ex,b≠X.env.locals/\∀x c,X.env.cells.lookup x=some c->c≠b
 bs:∀b o,X.base.get? b=some o->X.s₀.heap.get? b=some o/\X.H₀ b=none
 bsz:X.base.objs.size<=X.s₀.heap.objs.size
 noex:∀b o,X.base.get? b=some o->b∉X.ex
 exfs:∀b∈X.ex,b∉X.fs
 funs:X.s₀.heap.FunFrames X.base X.outer
 frf:∀b∈X.fs,X.H₀ b=none
 tab:∀t q p,f8 X.K t q p->X.H₀ t=some (.tbl q p)
structure Inv (X:Cx) (pz:List (Addr×Obj)) (σ:List (Option V)) (H:Hp) (s:Shared):Prop where
 ok:X.Ok
 os:s.os=X.s₀.os
 bare:AllBare s.gens
 base:Un X.fs X.ex X.H₀ H X.s₀.heap s.heap
 loc:∃m,s.heap.Ns X.env.locals m/\∀(i:Nat) (x:Str) (v:V),X.N[i]?=some x->σ[i]?=some (some v)->Vis X.env.scope x->∃u,RelV v u/\Mz X.env s.heap m x u
 cell:∀x c,X.env.cells.lookup x=some c->∃v,s.heap.IsCell c v
 free:H X.env.locals=none
 freeC:∀x c,X.env.cells.lookup x=some c->H c=none
 pin:∀p∈X.pn++pz,s.heap.get? p.1=some p.2/\H p.1=none/\p.1≠X.env.locals/\p.1∉X.fs/\∀v,p.2.data≠.cell v
 hok:HOk X.prog X.w H s.heap
 len:σ.length=X.N.length
section
variable{X:Cx}{pz:Kp}{σ:List (Option V)}{H H':Hp}{s:Shared}{h':Heap}
def Cx.Ok.nofr(ok:X.Ok)(e:X.base.get? b=some o):b∉X.fs:=λh=>by
 have:=(ok.funs.mem h).1;rw[e]at this;cases this
def Inv.bs(I:Inv X pz σ H s):∀b o,X.base.get? b=some o->s.heap.get? b=some o/\H b=none:=λb o e=>
 ⟨I.base.keep b o (I.ok.bs b o e).1 (I.ok.bs b o e).2 (I.ok.nofr e)<|I.ok.noex b o e,I.base.free b o (I.ok.bs b o e).1 (I.ok.bs b o e).2<|I.ok.noex b o e⟩
def Inv.bk(I:Inv X pz σ H s):∀b o,X.base.get? b=some o->s.heap.get? b=some o:=λb o e=>(I.bs b o e).1
def Inv.mod(I:Inv X pz σ H s):Mod X.K X.mg X.base:=I.ok.mod
def Inv.kIn(I:Inv X pz σ H s):X.K.In s.heap:=I.ok.mod.kin.keeps I.bk
def Inv.lt(I:Inv X pz σ H s):X.env.locals<s.heap.objs.size:=let ⟨_,hn,_⟩:=I.loc;hn.lt
def Inv.sz(I:Inv X pz σ H s):X.s₀.heap.objs.size<=s.heap.objs.size:=YD I.ok.above<|ZP I.lt
def Inv.nofs(I:Inv X pz σ H s){a:Addr}(h:s.heap.objs.size<=a):a∉X.fs:=λc=>by
 obtain⟨_,o,b,_⟩:=I.ok.funs.mem c;exact absurd (Yx (Ys b)<|YD I.sz h)<|YX _
theorem Inv.cne(I:Inv X pz σ H s):∀x c,X.env.cells.lookup x=some c->c≠X.env.locals:=λx c e z=>by
 obtain⟨v,o,b,f⟩:=I.cell x c e;obtain⟨m,⟨g,i,j,h,a,_⟩,_⟩:=I.loc;grind
def Inv.tab(I:Inv X pz σ H s):∀t q p,f8 X.K t q p->H t=some (.tbl q p):=λt q p h=>I.base.stl _ _ rfl<|I.ok.tab t q p h
def Inv.funs(I:Inv X pz σ H s):s.heap.FunFrames X.base X.outer:=by
 have all:∀l,(∀b∈frs l,b∈X.fs)->X.s₀.heap.FunFrames X.base l->s.heap.FunFrames X.base l:=by
  intro l;induction l with
  |nil=>intro _ _;trivial
  |cons u r ih=>
   intro f m;obtain⟨p,⟨L,o,h,j,i,q⟩,g⟩:=m;have c:=f L (by unfold frs;rw[Ug,h];exact Ye);obtain⟨w,e⟩:=I.base.slot L o i (I.ok.frf L c) c λz=>I.ok.exfs L z c
   exact⟨p,⟨L,_,h,j,e,q⟩,ih (λb a=>f b<|by unfold frs;rw[Ug,h];exact Yd _ a) g⟩
 exact all X.outer (λ_ a=>a) I.ok.funs
def Inv.stack(I:Inv X pz σ H s):s.heap.FunFrames X.base X.stack:=by
 rcases I.ok.stk with e|⟨e,hf⟩
 ·rw[e];exact I.funs
 ·rw[e];obtain⟨m,h,_⟩:=I.loc;refine .cons (by rw[I.ok.kind];decide) hf h ?_ I.funs;exact Heap.get?_none_of_le<|YD I.ok.bsz I.ok.above
def Inv.stkSub(I:Inv X pz σ H s):∀b∈frs X.stack,b∈X.env.locals::X.fs:=λb h=>by
 rcases I.ok.stk with e|⟨e,hf⟩
 ·rw[e]at h;exact Yd _ h
 ·rw[e]at h;unfold frs at h;rwa[Ug,hf]at h
def Inv.stkFree(I:Inv X pz σ H s):∀b∈frs X.stack,H b=none:=λb hb=>by
 rcases Yw.mp (I.stkSub b hb)with e|hb
 ·rw[e];exact I.free
 ·obtain⟨_,o,h,_⟩:=I.ok.funs.mem hb;exact I.base.free b o h (I.ok.frf b hb) λz=>I.ok.exfs b z hb
def Inv.step{ch:List Addr}(I:Inv X pz σ H s)
  (f:∀b∈ch,(b∈X.ex\/X.s₀.heap.objs.size<=b)/\b≠X.env.locals/\(∀x c,X.env.cells.lookup x=some c->c≠b)/\∀p∈X.pn++pz,p.1≠b)
  (keep:∀b o,b≠X.env.locals->b∉X.fs->b∉ch->s.heap.get? b=some o->H b=none->h'.get? b=some o)
  (slot:∀b o,b≠X.env.locals->b∈X.fs->b∉ch->s.heap.get? b=some o->H b=none->∃K,h'.get? b=some {o with slots:=K}) (free:∀b o,b∉ch->s.heap.get? b=some o->H b=none->H' b=none)
  (y:∀b o,b∉ch->s.heap.get? b=some o->∃o',h'.get? b=some o')
  (stl:∀b u,u.stl=true->H b=some u->H' b=some u)
  (ns:∀m,s.heap.Ns X.env.locals m->h'.Ns X.env.locals m) (L:HOk X.prog X.w H' h') (Y:AllBare g') :
  Inv X pz σ H' {s with heap:=h',gens:=g',drawn:=d',toks:=t' }:=by
 have E:∀b o,X.s₀.heap.get? b=some o->b≠X.env.locals:=λb o e=>Yz<|Yx (Ys e) I.ok.above
 have j:∀b o,X.s₀.heap.get? b=some o->b∉X.ex->b∉ch:=λb o e h A=>by
  rcases(f b A).1 with z|z
  ·exact h z
  ·exact absurd (Yx (Ys e) z)<|YX _
 have g:∀x c,X.env.cells.lookup x=some c->∀v,s.heap.IsCell c v->h'.IsCell c v:=λx c e v M=>by
  obtain⟨o,C,N⟩:=M;have a:=λz=>(f c z).2.2.1 x c e rfl
  by_cases S:c∈X.fs
  ·obtain⟨K,q⟩:=slot c o (I.cne x c e) S a C<|I.freeC x c e;exact⟨_,q,N⟩
  ·exact⟨o,keep c o (I.cne x c e) S a C<|I.freeC x c e,N⟩
 refine⟨I.ok,I.os,Y,⟨λb o e n A h=>?_,λb o e n A h=>?_,λb o e n h=>?_,λb o e h=>?_,λb u s e=>stl b u s<|I.base.stl b u s e⟩,?_,λx c e=>?_,?_,λx c e=>?_,λp R=>?_,L,I.len⟩
 ·exact keep b o (E b o e) A (j b o e h) (I.base.keep b o e n A h)<|I.base.free b o e n h
 ·obtain⟨K,B⟩:=I.base.slot b o e n A h;obtain⟨J,O⟩:=slot b _ (E b o e) A (j b o e h) B<|I.base.free b o e n h;exact⟨J,O⟩
 ·obtain⟨o',B⟩:=I.base.there b o e h;exact free b o' (j b o e h) B<|I.base.free b o e n h
 ·obtain⟨o',B⟩:=I.base.there b o e h;exact y b o' (j b o e h) B
 ·obtain⟨m,T,U⟩:=I.loc;refine⟨m,ns m T,λi x v B O Z=>?_⟩;obtain⟨u,r,l⟩:=U i x v B O Z;refine⟨u,r,?_⟩;rcases l with l|⟨k,c,e,z⟩
  ·exact .inl l
  ·exact .inr ⟨k,c,e,g x c e _ z⟩
 ·obtain⟨v,z⟩:=I.cell x c e;exact⟨v,g x c e v z⟩
 ·obtain⟨m,⟨o,_,_,C,_⟩,_⟩:=I.loc;exact free _ o (λz=>(f _ z).2.1 rfl) C I.free
 ·obtain⟨v,o,C,N⟩:=I.cell x c e;exact free c o (λz=>(f c z).2.2.1 x c e rfl) C<|I.freeC x c e
 ·obtain⟨e,n,Q,P,d⟩:=I.pin p R;have a:=λz=>(f p.1 z).2.2.2 p R rfl
  exact⟨keep p.1 p.2 Q P a e n,free p.1 p.2 a e n,Q,P,d⟩
def Inv.un(I:Inv X pz σ H s)(u:Un X.fs [] H H' s.heap h')(a:HOk X.prog X.w H' h'):Inv X pz σ H' {s with heap:=h',toks:=t' }:=by
 obtain⟨m,⟨o,A,B,i,r⟩,_⟩:=id I.loc;obtain⟨q,p⟩:=u.any i I.free (by simp);exact I.step (ch:=[]) (λ_ z=>nomatch z) (λb o _ c _ e n=>u.keep b o e n c<|by simp) (λb o _ c _ e n=>u.slot b o e n c<|by simp) (λb o _ e n=>u.free b o e n<|by simp) (λb o _ e=>u.there b o e<|by simp) u.stl (λy l=>by
  obtain⟨x,f,g,h,j⟩:=l;rw[i]at h;cases h;exact⟨_,f,g,p,j⟩) a I.bare
def Inv.call(I:Inv X pz σ H s)(u:Un (frs X.stack) ch H H' s.heap h')(g:HOk X.prog X.w H' h')(B:AllBare g')
  (f:∀b∈ch,(b∈X.ex\/X.s₀.heap.objs.size<=b)/\b≠X.env.locals/\(∀x c,X.env.cells.lookup x=some c->c≠b)/\∀p∈X.pn++pz,p.1≠b) :
  Inv X pz σ H' {s with heap:=h',gens:=g',drawn:=d',toks:=t' }:=by
 obtain⟨m,⟨o,L,M,q,r⟩,_⟩:=id I.loc;obtain⟨E,i⟩:=u.any q I.free λz=>(f _ z).2.1 rfl
 exact I.step f (λb o i C h e n=>u.keep b o e n (λz=>(Yw.mp<|I.stkSub b z).elim i C) h) (λb o _ _ h e n=>u.any e n h) (λb o h e n=>u.free b o e n h) (λb o h e=>u.there b o e h) u.stl (λK A=>by
  obtain⟨J,j,l,a,y⟩:=A;rw[q]at a;cases a;exact⟨_,j,l,i,y⟩) g B
theorem Inv.turned(I:Inv X pz σ H s)(k:∀b o,b≠it->s.heap.get? b=some o->h'.get? b=some o)(i:H it=none)(f:it≠X.env.locals)
  (h1:it∈X.ex\/X.s₀.heap.objs.size<=it) (h2:∀x c,X.env.cells.lookup x=some c->c≠it) (w:∀p∈X.pn++pz,p.1≠it):Inv X pz σ H {s with heap:=h',toks:=t' }:=by
 have a:∀b u,H b=some u->b≠it:=λb u e z=>by rw[z,i]at e;cases e
 refine I.step (ch:=[it]) (λb l=>?_) (λb o _ _ h e _=>k b o (λz=>h<|by simp[z]) e) (λb o _ _ h e _=>⟨o.slots,k b o (λz=>h<|by simp[z]) e⟩) (λ_ _ _ _ n=>n)
  (λb o h e=>⟨o,k b o (λz=>h<|by simp[z]) e⟩) (λ_ _ _ e=>e) (λm j=>?_) (λb u e=>?_) I.bare
 ·have e:b=it:=by simpa using l
  subst e;exact⟨h1,f,h2,w⟩
 ·obtain⟨o,y,A,g,r⟩:=j;exact⟨o,y,A,k _ o (XS f) g,r⟩
 ·refine(I.hok b u e).stay (λc v h q=>k c v ?_ q) (λ_ q=>q) λ_ _ _ q=>q;grind
def Inv.tok(I:Inv X pz σ H s)t:Inv X pz σ H {s with toks:=t}:=I.un Un.refl I.hok
def Inv.kept(I:Inv X pz σ H s)(k:∀b u,s.heap.get? b=some u->h'.get? b=some u):Inv X pz σ H {s with heap:=h',toks:=t' }:=I.un (Un.kept k)<|I.hok.kept k
def Inv.laid{a:Addr}(I:Inv X pz σ H s)(k:∀b u,s.heap.get? b=some u->h'.get? b=some u)(h:s.heap.objs.size<=a)(new:ObjOk X.prog X.w (upd H a o) h' a o) :
  Inv X pz σ (upd H a o) {s with heap:=h',toks:=t' }:=I.un (Un.laid k h<|I.hok.fresh h)<|I.hok.laid k h new
def Inv.write(I:Inv X pz σ H s)(m:Mut (H x))(he:e=x\/H e=some (.own x))(k:∀b u,b≠e->s.heap.get? b=some u->h'.get? b=some u)(h:∃u,h'.get? e=some u)
  (new:ObjOk X.prog X.w (upd H x o) h' x o):Inv X pz σ (upd H x o) {s with heap:=h',toks:=t' }:=I.un (Un.write m he k h)<|I.hok.write m he k h new
def Inv.weak(I:Inv X pz σ H s)(h:a.length=σ.length)(w:∀(i:Nat) v,a[i]?=some (some v)->σ[i]?=some (some v)):Inv X pz a H s:=
 ⟨I.ok,I.os,I.bare,I.base,let ⟨m,hn,hl'⟩:=I.loc;⟨m,hn,λi x v c b e=>hl' i x v c (w i v b) e⟩,I.cell,I.free,I.freeC,I.pin,I.hok,h.trans I.len⟩
def Inv.pins_of{a:Kp}(I:Inv X pz σ H s)(h:∀p∈a,s.heap.get? p.1=some p.2/\H p.1=none/\p.1≠X.env.locals/\p.1∉X.fs/\∀v,p.2.data≠.cell v):Inv X a σ H s:=
 ⟨I.ok,I.os,I.bare,I.base,I.loc,I.cell,I.free,I.freeC,λp b=>(Zm.mp b).elim (λz=>I.pin p<|YW _ z)<|h p,I.hok,I.len⟩
def uT{N:List Str}(hN:N.Nodup){i j:Nat}(a:N[i]?=some x)(b:N[j]?=some x):i=j:=by obtain⟨f,c⟩:=Yn.mp a;obtain⟨h,e⟩:=Yn.mp b;exact(List.getElem_inj hN).mp<|c.trans e.symm
abbrev FnL(X:Cx)(x:Str):Prop:=X.fn x=true\/X.env.scope.names.lookup x=some .local
def rD{E:Kv}(I:Inv X pz σ H s)(hN:X.N.Nodup)(hi:X.N[i]?=some x)(hx:Loc X.env.scope x)(r:RelV v u)
  (h:∀s',Inv X pz (σ.set i<|some v) H s'->(∃a,Heap.SameBut a s.heap s'.heap/\(a=X.env.locals\/X.env.cells.lookup x=some a))->Q () s') (hf:FnL X x:=by trivial):wpAny M A (storeName X.env x u) Q E s:=by
 obtain⟨m,hn,hl⟩:=id I.loc;have T:(X.env.scope.kind == .class||(X.env.scope.kind == .module&&X.env.locals != X.env.globals))=false:=by rw[I.ok.kind];rfl
 have J:i<σ.length:=by rw[I.len];exact(Yn.mp hi).1
 have cne:=I.cne;have g:∀{a}{P},(∃o,s.heap.get? a=some o/\H a=none)->Heap.SameBut a s.heap P->HOk X.prog X.w H P:=λ{a P} ha f b ob e=>by
  obtain⟨_,_,B⟩:=ha;refine(I.hok b ob e).stay (λc Z hc q=>(f.2 c ?_).trans q) (λ_ q=>q) λ_ _ _ q=>q;rintro rfl;rcases hc with rfl|hc
  ·rw[B]at e;cases e
  ·rw[B]at hc;cases hc
 rcases hx with hk|hk
 ·refine wpAny_storeName_local hk hn (λP hn' f=>?_) T;obtain⟨oL,_,_,hoL,_⟩:=id hn;refine h _ ⟨I.ok,I.os,I.bare,⟨λb o e n O hx=>?_,λb o e n O hx=>?_,I.base.free,λb o e hx=>?_,I.base.stl⟩,⟨_,hn',λj y v' l C e3=>?_⟩,λy c e=>?_,I.free,I.freeC,λp hp=>?_,g ⟨oL,hoL,I.free⟩ f,by simpa using I.len⟩ ⟨_,f,.inl rfl⟩
  ·exact(f.2 b<|Yz<|Yx (Ys e) I.ok.above).trans<|I.base.keep b o e n O hx
  ·obtain⟨sl,l⟩:=I.base.slot b o e n O hx;exact⟨sl,(f.2 b<|Yz<|Yx (Ys e) I.ok.above).trans l⟩
  ·obtain⟨o',l⟩:=I.base.there b o e hx;exact⟨o',(f.2 b<|Yz<|Yx (Ys e) I.ok.above).trans l⟩
  ·by_cases K:j=i
   ·subst K;rw[hi]at l;cases l;rw[Xf J]at C;cases C;exact⟨u,r,.inl ⟨hk,by simp⟩⟩
   ·rw[Zy<|XS K]at C;obtain⟨u',r',q⟩:=hl j y v' l C e3;refine⟨u',r',?_⟩;rcases q with⟨k,e⟩|⟨k,c,e,z⟩
    ·refine .inl ⟨k,?_⟩;have:y≠x:=λe=>K<|uT hN l<|e ▸ hi
     simp[this,e]
    ·exact .inr ⟨k,c,e,z.sameBut f<|cne y c e⟩
  ·obtain⟨Z,z⟩:=I.cell y c e;exact⟨Z,z.sameBut f<|cne y c e⟩
  ·obtain⟨e,n,ne,nf,d⟩:=I.pin p hp;exact⟨(f.2 p.1 ne).trans e,n,ne,nf,d⟩
 ·have L:X.fn x=true:=by
   rcases hf with z|z
   ·exact z
   ·rw[z]at hk;cases hk
  obtain⟨c,hc⟩:=I.ok.has x<|.inl hk;obtain⟨Z,z⟩:=I.cell x c hc;refine wpAny_storeName_cell I.ok.kind hk hc z λP Y f=>?_;obtain⟨oc,S,R⟩:=id z;refine h {s with heap:=P } ⟨I.ok,I.os,I.bare,⟨λb o e n O hx=>?_,λb o e n O hx=>?_,I.base.free,λb o e hx=>?_,I.base.stl⟩,⟨m,hn.sameBut f<|XS<|cne x c hc,λj y v' l C e3=>?_⟩,λy c' e=>?_,I.free,I.freeC,λp hp=>?_,g ⟨oc,S,I.freeC x c hc⟩ f,by simpa using I.len⟩ ⟨c,f,.inr hc⟩
  ·exact(f.2 b<|Yz<|Yx (Ys e)<|I.ok.cab x c L hc).trans<|I.base.keep b o e n O hx
  ·obtain⟨sl,l⟩:=I.base.slot b o e n O hx;exact⟨sl,(f.2 b<|Yz<|Yx (Ys e)<|I.ok.cab x c L hc).trans l⟩
  ·obtain⟨o',l⟩:=I.base.there b o e hx;exact⟨o',(f.2 b<|Yz<|Yx (Ys e)<|I.ok.cab x c L hc).trans l⟩
  ·by_cases K:j=i
   ·subst K;rw[hi]at l;cases l;rw[Xf J]at C;cases C;exact⟨u,r,.inr ⟨.inl hk,c,hc,Y⟩⟩
   ·rw[Zy<|XS K]at C;obtain⟨u',r',q⟩:=hl j y v' l C e3;refine⟨u',r',?_⟩;rcases q with q|⟨k,c',e,z'⟩
    ·exact .inl q
    ·refine .inr ⟨k,c',e,z'.sameBut f ?_⟩;rintro rfl;exact K<|uT hN l<|I.ok.inj _ _ _ e hc ▸ hi
  ·by_cases U:c'=c
   ·subst U;exact⟨_,Y⟩
   ·obtain⟨w2,z2⟩:=I.cell y c' e;exact⟨w2,z2.sameBut f U⟩
  ·obtain⟨e,n,ne,nf,d⟩:=I.pin p hp;refine⟨(f.2 p.1 ?_).trans e,n,ne,nf,d⟩;intro q;rw[q,S]at e;have q':=Yv e;exact d Z<|by rwa[<-q']
def o8{E:Kv}(I:Inv X pz σ H s)(hN:X.N.Nodup)(hi:X.N[i]?=some x)(hx:Loc X.env.scope x)(r:RelV v u)
  (h:∀s',Inv X pz (σ.set i<|some v) H s'->Q () s') (a:FnL X x:=by trivial):wpAny M A (storeName X.env x u) Q E s:=
 rD I hN hi hx r (λs' b _=>h s' b) a
def Inv.call'(I:Inv X pz σ H s)(f:s'.os=s.os)(u:Un (frs X.stack) ch H H' s.heap s'.heap)(h:HOk X.prog X.w H' s'.heap)(g:AllBare s'.gens)
  (a:∀b∈ch,(b∈X.ex\/X.s₀.heap.objs.size<=b)/\b≠X.env.locals/\(∀x c,X.env.cells.lookup x=some c->c≠b)/\∀p∈X.pn++pz,p.1≠b):Inv X pz σ H' s':=by
 obtain⟨i,g',d',t',o⟩:=s';have e:=f;subst e;exact I.call u h g a
end
abbrev XK:=Value->Option Addr->Hp->Prop
abbrev St:=List<|Option V
abbrev VK:=V->Hp->Prop
abbrev TE:=St->Hp->VK->Prop
abbrev TT:=St->Hp->(Bool->Hp->Prop)->Prop
abbrev TA:=St->Hp->(List V->Hp->Prop)->Prop
structure lD where
 nx:St->Hp->Prop
 rt:VK
 bk:St->Hp->Prop:=λ_ _=>False
 ct:St->Hp->Prop:=λ_ _=>False
abbrev TS:=lD->St->Hp->Prop
def EP(X:Cx)(pz:Kp)(σ:St)(Q:VK)(u:Value)(s':Shared):Prop:=∃v H,Inv X pz σ H s'/\RelV v u/\Q v H
def TP(X:Cx)(pz:Kp)(σ:St)(Q:Bool->Hp->Prop)(b:Bool)(s':Shared):Prop:=∃H,Inv X pz σ H s'/\Q b H
def AP(X:Cx)(pz:Kp)(σ:St)(Q:List V->Hp->Prop)(us:List Value)(s':Shared):Prop:=∃a H,Inv X pz σ H s'/\Vals a us/\Q a H
def SP(X:Cx)(pz:Kp)(D:lD)(f:Flow)(s':Shared):Prop:=
 match f with
 |.next=>∃a H,Inv X pz a H s'/\D.nx a H
 |.brk=>∃a H,Inv X pz a H s'/\D.bk a H
 |.cont=>∃a H,Inv X pz a H s'/\D.ct a H
 |.ret u=>∃v a H,Inv X pz a H s'/\RelV v u/\D.rt v H
def PE(X:Cx)(e:Expr)(t:TE):Prop:=
 ∀(p:Kp) s (a:St) H Q,Inv X p a H s->t a H Q->wpAny (model X.prog X.w) X.A (eval e X.env) (EP X p a Q) X.xe s
def PT(X:Cx)(e:Expr)(t:TT):Prop:=
 ∀(p:Kp) s (a:St) H Q,Inv X p a H s->t a H Q->wpAny (model X.prog X.w) X.A (isTrue e X.env<|eval e X.env) (TP X p a Q) X.xe s
def PW(X:Cx)(e:Expr)(t:TT):Prop:=
 ∀a (p:Kp) s (b:St) H Q,Inv X p b H s->t b H Q->wpAny (model X.prog X.w) X.A (isTrue e X.env a) (TP X p b Q) X.xe s
def PW.pt(h:PW X e t):PT X e t:=h _
def PA(X:Cx)(es:List Expr)(t:TA):Prop:=
 ∀p (b:Kp) s (a:St) H Q,Inv X b a H s->t a H Q->wpAny (model X.prog X.w) X.A (spliced<|backTo p<|starEach es X.env) (AP X b a Q) X.xe s
def PS(X:Cx)(st:Stmt)(t:TS):Prop:=
 ∀(p:Kp) s (a:St) H D,Inv X p a H s->t D a H->wpAny (model X.prog X.w) X.A (exec st X.env) (SP X p D) X.xe s
def PSs(X:Cx)(st:List Stmt)(t:TS):Prop:=
 ∀(p:Kp) s (a:St) H D,Inv X p a H s->t D a H->wpAny (model X.prog X.w) X.A (execs st X.env) (SP X p D) X.xe s
def thn{M}{A}{E:Kv}{s}(h:wpAny M A t Q E s)(e:∀a s,Q a s->c a s):wpAny M A t c E s:=Xd h e λ_ _ x=>x
def bw{f e:Type}{pz:Kp}{σ:St}{t}{R:f->e->Prop}{Q:f->Hp->Prop}{T}{E:Kv}
  (h:wpAny M A t (λu s1=>∃x H1,Inv X pz σ H1 s1/\R x u/\Q x H1) E s) (k:∀u s1 x H1,Inv X pz σ H1 s1->R x u->Q x H1->T u s1):wpAny M A t T E s:=
 thn h λu s1 z=>by obtain⟨x,H1,a,b,c⟩:=z;exact k u s1 x H1 a b c
theorem un7{g f e i:Type}{B A Z:g->f->e->i->Prop}{C:Prop}(k:∀P F ρ d,B P F ρ d->A P F ρ d->Z P F ρ d->C)(h:∃P F ρ d,B P F ρ d/\A P F ρ d/\Z P F ρ d):C:=by grind
end L2
open PySem L2
variable{H P H' F':Hp}{X:Cx}{K:PySem.W.Frag}{s s':Shared}{σ:L2.St}{pos pos' p apos tpos cpos:Pos}{pz pl:List (Addr×Obj)}{a C f dx l:Addr}{A:Around}{E Q:Value->Shared->Prop}{e c o b tg iter value elt:Expr}{w:World}{x name m qual:Str}{u:Value}{i j t':Nat}{es ifs:List Expr}{y:V}{ta te tb tv td:TE}{us its:List Value}{prog:Program}{vs xs ys:List V}{h base h':Heap}{scope:Scope}{CX:CXT}{ps N:List Str}{fd:FuncData}{sp:Sp}{env:Env}{mg mA:Str->Option Value}{st:Stmt}{body:List Stmt}{fp:List Addr}{tc:TT}{kw:List (Str×Value)}{cs:List (Str×Addr)}{ow':Addr->Prop}
namespace L2
open PySem PySem.Spec PyProof.Rows
section
def eD(i:Nat):TE:=λσ H Q=>∃v,σ[i]?=some (some v)/\Q v H
def tC(v:V):TE:=λ_ H Q=>Q v H
abbrev nDb(x:Str):Prop:=(x == ("__debug__"))=false
abbrev nDc(x:Str):Prop:=(x == ("__classdict__"))=false
def Cg(hN:X.N[i]?=some x)(hv:Vis X.env.scope x)(hd:nDb x:=by decide)(hcd:nDc x:=by decide):PE X (.Name x pos) (eD i):=by
 intro p s f H Q I h;obtain⟨v,e,h⟩:=h;obtain⟨m,g,o⟩:=I.loc;obtain⟨u,r,l⟩:=o i x v hN e hv;have fin:EP X p f Q u s:=⟨v,H,I,r,h⟩
 rcases l with⟨hk,j⟩|⟨hk,c,b,a⟩
 ·exact wpAny_Name (wpAny_loadName_local I.ok.kind hk g j fin) hd
 ·rcases hk with hk|hk
  ·exact wpAny_Name (wpAny_loadName_cell I.ok.kind hk b a fin) hd
  ·exact wpAny_Name (wpAny_loadName_free I.ok.kind hk b a fin hcd) hd
def Hj{i j pos}:PE X (.Constant (.int i) j pos) (tC (.int i)):=λ_ _ _ H _ I h=>wpAny_Constant_int ⟨.int i,H,I.tok _,⟨_,rfl⟩,h⟩
def K3{b j pos}:PE X (.Constant (.bool b) j pos) (tC (.bl b)):=λ_ _ _ H _ I h=>Constant_bool ⟨.bl b,H,I,rfl,h⟩
def Jk{x j pos}:PE X (.Constant (.str x) j pos) (tC (.str x)):=λ_ _ _ H _ I h=>Calls.Constant_str ⟨.str x,H,I.tok _,⟨_,rfl⟩,h⟩
def Gl(X:Cx)(x:Str):Prop:=X.env.kindOf x=some .globalImplicit
def nc(I:Inv X pz σ H s)(b:Gl X x)(a:X.mg x=some u)(h:Q u s)
  (hd:nDb x:=by decide):wpAny (model X.prog X.w) X.A (eval (.Name x pos) X.env) Q E s:=
 Calls.Name_function_global I.ok.kind b (Calls.loadGlobal_global (by rw[I.ok.glob];exact I.mod.glob.keeps I.bk) a h) hd
def nS(I:Inv X pz σ H s)(c:Gl X x)(b:X.mg x=none)(hv:bootBuiltins x=some u)(h:Q u s)
  (a:x ≠ "__name__":=by decide) (hd:nDb x:=by decide):wpAny (model X.prog X.w) X.A (eval (.Name x pos) X.env) Q E s:=by
 obtain⟨m,f,e⟩:=I.mod.blt;exact Calls.Name_function_global I.ok.kind c (Calls.loadGlobal_builtin (by rw[I.ok.glob];exact I.mod.glob.keeps I.bk) b (by rw[I.ok.blt];exact f.keeps I.bk) ((e x a).trans hv) h) hd
def GE(b:Gl X x)(a:X.mg x=some u)(r:RelV v u)(hd:nDb x:=by decide):PE X (.Name x pos) (tC v):=
 λ_ _ _ H _ I h=>nc I b a ⟨v,H,I,r,h⟩ hd
def ad{x:Str}{v:V}{u:Value}{pos:Pos}(c:Gl X x)(b:X.mg x=none)(hv:bootBuiltins x=some u)(r:RelV v u)(a:x ≠ "__name__":=by decide)(hd:(x == ("__debug__":Str))=false:=by decide):PE X (.Name x pos) (tC v):=
 λ_ _ _ H _ I h=>nS I c b hv ⟨v,H,I,r,h⟩ a hd
variable{a:Expr}  
def PC(X:Cx)(op:CmpOp)(a b:Expr)(t:TE):Prop:=
 ∀(p:Kp) s (f:St) H Q,Inv X p f H s->t f H Q->
  wpAny (model X.prog X.w) X.A (eval a X.env) (λv e=>wpAny (model X.prog X.w) X.A (eval b X.env) (λu c=>wpAny (model X.prog X.w) X.A (compareOp op v u) (EP X p f Q) X.xe c) X.xe e) X.xe s
def vS b(h:op≠.In)(h2:op≠.NotIn):behindInMarks op b=false:=by
 have a:(op == CmpOp.In)=false:=by cases op<;>first|rfl|exact absurd rfl h
 have e:(op == CmpOp.NotIn)=false:=by cases op<;>first|rfl|exact absurd rfl h2
 cases b<;>simp[behindInMarks,a,e]
instance (x:V):Decidable (x=.non):=by cases x<;>first|exact .isTrue rfl|exact .isFalse nofun
def Mt(ta:TE):TE:=λa H Q=>ta a H λx b=>Q (.bl<|decide<|x=.non) b
def RelV.none_iff{x}(r:RelV x v):(v == Value.none)=decide (x=.non):=by
 cases x with
 |non=>cases r;rfl
 |bl _=>cases r;rfl
 |int _=>obtain⟨t,rfl⟩:=r;rfl
 |str _=>obtain⟨t,rfl⟩:=r;rfl
 |byt _=>obtain⟨t,rfl⟩:=r;rfl
 |flt _=>obtain⟨t,rfl⟩:=r;rfl
 |ref _=>cases r;rfl
 |ty _=>cases r;rfl
def IK{j pos'}(e:PE X a ta):PC X .Is a (.Constant .none j pos') (Mt ta):=by intro p s b H Q I h;refine bw (e p s b H _ I h) λv i x g f c q=>?_;exact Constant_none<|is_none_gen ⟨.bl _,g,f,by rw[c.none_iff];rfl,q⟩
def tB(t:TE):TT:=λa H Q=>t a H λx b=>∃c,x=.bl c/\Q c b
def ax{op:CmpOp}{t:TE}(h:PC X op a b t)(h1:behindInMarks op b=false:=by first|exact vS _ (by decide) (by decide)|rfl):PE X (.Compare a [op] [b] pos) t:=λp s c H Q I e=>wpAny_Compare1 (h p s c H Q I e) h1
def CF(h:PC X op a b t)(h1:behindInMarks op b=false:=by first|exact vS _ (by decide) (by decide)|rfl):PT X (.Compare a [op] [b] pos) (tB t):=by intro p s f H Q I j;refine wpAny_isTrue_Compare1 (thn (h p s f H _ I j) λv z h1=>thn h1 λu y l=>thn l λc w e=>?_) h1;obtain⟨x,o,m,g,i⟩:=e;obtain⟨d,rfl,q⟩:=i;cases g;exact ZM ⟨o,m,q⟩
def Jp(h:PE X e t)(he:∀w,isTrue e X.env w=(do let v <-w;standAt e.pos;holding [v] (truthy v)):=by intro _;rfl):PT X e (tB t):=by intro p s a H Q I f;refine isTrue_plain (bw (h p s a H _ I f) λv j x i g b c=>?_)<|he _;obtain⟨d,rfl,q⟩:=c;cases b;exact ZM ⟨i,g,q⟩
variable{tA tB':TT}{bW:List Expr}
def MA(t u:TT):TT:=λa H Q=>t a H λc b=>if c=true then u a b Q else Q false b
def tOr(t u:TT):TT:=λa H Q=>t a H λc b=>if c=true then Q true b else u a b Q
def L_(t:TT):TT:=λσ H Q=>t σ H λc H1=>Q (!c) H1
def E7(f:PT X a tA):PW X (.BoolOp .And [a] pos) tA:=by
 intro w p s b H Q I h;refine isTrue_and<|thn (f p s b H Q I h) λc g e=>?_;cases c with
 |true=>exact isTrue_and_nil e
 |false=>exact e
def Hv(f:PT X a tA):PW X (.BoolOp .Or [a] pos) tA:=by
 intro w p s b H Q I h;refine isTrue_or<|thn (f p s b H Q I h) λc g e=>?_;cases c with
 |false=>exact isTrue_or_nil e
 |true=>exact e
def Ij(m:PT X a tA)(l:PW X (.BoolOp .And (b::bW) pos) tB'):PW X (.BoolOp .And (a::b::bW) pos) (MA tA tB'):=by
 intro w p s f H Q I h;refine isTrue_and<|thn (m p s f H _ I h) λc j e=>?_;obtain⟨i,g,q⟩:=e;cases c with
 |true=>exact l w p j f i Q g q
 |false=>exact⟨i,g,q⟩
def Kx(m:PT X a tA)(l:PW X (.BoolOp .Or (b::bW) pos) tB'):PW X (.BoolOp .Or (a::b::bW) pos) (tOr tA tB'):=by
 intro w p s f H Q I h;refine isTrue_or<|thn (m p s f H _ I h) λc j e=>?_;obtain⟨i,g,q⟩:=e;cases c with
 |true=>exact⟨i,g,q⟩
 |false=>exact l w p j f i Q g q
def HL(e:PT X a tA):PT X (.UnaryOp .Not a pos) (L_ tA):=by intro p s b H Q I h;exact isTrue_not<|e p s b H _ I h
def Lh(ta tb:TE):TE:=λa H Q=>ta a H λx b=>∃c,x=.bl c/\if c=true then tb a b Q else Q (.bl false) b
def HU{op}(h:PE X a t):PE X (.BoolOp op [a] pos) t:=λp s b H Q I c=>BoolOp_one<|h p s b H Q I c
def II(m:PE X a ta)(l:PE X (.BoolOp .And (b::bW) pos) tb):PE X (.BoolOp .And (a::b::bW) pos) (Lh ta tb):=by
 intro p s e H Q I h;refine BoolOp_and<|bw (m p s e H _ I h) λv i x g f j q=>?_;obtain⟨c,rfl,q⟩:=q;cases j;refine ZM ?_;cases c with
 |true=>exact l p i e g Q f q
 |false=>exact⟨.bl false,g,f,rfl,q⟩
def tIf(t:TT)(ta tb:TE):TE:=λa H Q=>t a H λc b=>if c=true then ta a b Q else tb a b Q
def B8(l:PT X c tA)(o:PE X a ta)(m:PE X b tb):PE X (.IfExp c a b pos) (tIf tA ta tb):=by
 intro p s e H Q I h;refine wpAny_IfExp<|thn (l p s e H _ I h) λd g f=>?_;obtain⟨j,i,q⟩:=f;cases d with
 |true=>exact o p g e j Q i q
 |false=>exact m p g e j Q i q
end
def SqL(K:Kq)(H:Hp)(a:Addr)(xs:List V):Prop:=
 Rd H a (.lst xs) \/
  ∃(o:Obj) (i:Array Value) (n:Nat),K.lookup a=some o/\o.cls=.type "list"/\o.dict=none/\o.data=.seq i n/\i.size<=sizeLine/\Vals xs i.toList
def SqT(K:Kq)(H:Hp)(a:Addr)(xs:List V):Prop:=
 Rd H a (.tup xs) \/
  ∃(o:Obj) (i:Array Value) (n:Nat),K.lookup a=some o/\o.cls=.type "tuple"/\o.data=.seq i n/\i.size<=sizeLine/\Vals xs i.toList
noncomputable def Mq:Value->Option V
 |.none=>some .non
 |.bool b=>some<|.bl b
 |.int i _=>some<|.int i
 |.str x _=>some<|.str x
 |.bytes b _=>some<|.byt b
 |.float b _=>some<|.flt b
 |.ref a=>some<|.ref a
 |.type n=>some<|.ty n
 |_=>none
def RelV.abs{x}(r:RelV x u):Mq u=some x:=by
 cases x with
 |non=>cases r;rfl
 |bl _=>cases r;rfl
 |int _=>obtain⟨t,rfl⟩:=r;rfl
 |str _=>obtain⟨t,rfl⟩:=r;rfl
 |byt _=>obtain⟨t,rfl⟩:=r;rfl
 |flt _=>obtain⟨t,rfl⟩:=r;rfl
 |ref _=>cases r;rfl
 |ty _=>cases r;rfl
def RelV.inj{x}(r:RelV x u)(q:RelV y u):x=y:=Yv<|r.abs.symm.trans q.abs
def Vals.inj(h:Vals xs us):Vals ys us->xs=ys:=by
 induction h generalizing ys with
 |nil=>intro q;cases q;rfl
 |cons r _ ih=>
  intro q;cases q with
  |cons b a=>rw[r.inj b,ih a]
def SqL.of(h:H a=some (.lst xs)):SqL K H a xs:=.inl<|.inl h
def SqT.of(h:H a=some (.tup xs)):SqT K H a xs:=.inl<|.inl h
theorem Inv.list(I:Inv X pz σ H s)(h:SqL X.K H a xs):∃its:List Value,Vals xs its/\PlainL s.heap a its.toArray/\xs.length<=sizeLine:=by
 rcases h with h|⟨o,its,n,hk,hc,hd,hs,hz,r⟩
 ·obtain⟨z,its,n,r,e⟩:=h.ok I.hok;exact⟨its,r,⟨_,n,e,rfl,rfl,rfl⟩,z⟩
 ·refine⟨its.toList,r,⟨o,n,I.kIn a o hk,hc,hd,by simpa using hs⟩,?_⟩;have e:=r.length;simp at e;lia
def Inv.tuple(I:Inv X pz σ H s)(h:SqT X.K H a xs):∃its:List Value,Vals xs its/\IsTup s.heap a its.toArray/\xs.length<=sizeLine:=by
 rcases h with h|⟨o,its,n,hk,hc,hs,hz,r⟩
 ·obtain⟨z,its,r,p,_⟩:=h.ok I.hok;exact⟨its,r,p,z⟩
 ·refine⟨its.toList,r,⟨o,I.kIn a o hk,hc,n,by simpa using hs⟩,?_⟩;have e:=r.length;simp at e;lia
def Inv.list_inj(I:Inv X pz σ H s)(h:SqL X.K H a xs)(h':SqL X.K H a ys):xs=ys:=by
 obtain⟨b,r,⟨o,n,e,_,_,d⟩,_⟩:=I.list h;obtain⟨i,g,⟨j,l,c,_,_,f⟩,_⟩:=I.list h';rw[e]at c;cases c;rw[d]at f;injection f with d1 _;have:b=i:=by simpa using YR Array.toList d1
 subst this;exact r.inj g
def Inv.tuple_inj(I:Inv X pz σ H s)(h:SqT X.K H a xs)(h':SqT X.K H a ys):xs=ys:=by
 obtain⟨b,r,⟨o,e,_,n,d⟩,_⟩:=I.tuple h;obtain⟨i,g,⟨j,c,_,l,f⟩,_⟩:=I.tuple h';rw[e]at c;cases c;rw[d]at f;injection f with d1 _;have:b=i:=by simpa using YR Array.toList d1
 subst this;exact r.inj g
noncomputable abbrev Cx.wish(X:Cx)(E:Kv):Cx:={X with xe:=E}
noncomputable abbrev Cx.nox(X:Cx):Cx:=X.wish λ_ _=>False
def Cx.Ok.wish(ok:X.Ok)E:(X.wish E).Ok:=
 ⟨ok.mod,ok.kind,ok.glob,ok.blt,ok.above,ok.inj,ok.has,ok.cab,ok.hd,ok.frames,ok.stk,ok.exf,ok.bs,ok.bsz,ok.noex,ok.exfs,ok.funs,ok.frf,ok.tab⟩
def Cx.Ok.unwish(ok:(X.wish E).Ok):X.Ok:=
 ⟨ok.mod,ok.kind,ok.glob,ok.blt,ok.above,ok.inj,ok.has,ok.cab,ok.hd,ok.frames,ok.stk,ok.exf,ok.bs,ok.bsz,ok.noex,ok.exfs,ok.funs,ok.frf,ok.tab⟩
def Inv.wish(I:Inv X pz σ H s)E:Inv (X.wish E) pz σ H s:=⟨I.ok.wish E,I.os,I.bare,I.base,I.loc,I.cell,I.free,I.freeC,I.pin,I.hok,I.len⟩
def Inv.unwish(I:Inv (X.wish E) pz σ H s):Inv X pz σ H s:=⟨I.ok.unwish,I.os,I.bare,I.base,I.loc,I.cell,I.free,I.freeC,I.pin,I.hok,I.len⟩
def SP.unwish{f}(h:SP (X.wish E) pz D f s'):SP X pz D f s':=by
 cases f with
 |next=>obtain⟨a,H,I,q⟩:=h;exact⟨a,H,I.unwish,q⟩
 |brk=>obtain⟨a,H,I,q⟩:=h;exact⟨a,H,I.unwish,q⟩
 |cont=>obtain⟨a,H,I,q⟩:=h;exact⟨a,H,I.unwish,q⟩
 |ret u=>obtain⟨v,a,H,I,r,q⟩:=h;exact⟨v,a,H,I.unwish,r,q⟩
def PSs.nox{st}(h:PSs X.nox st t):PSs X st t:=λp s a H D I b=>
 Xd (h p s a H D (I.wish _) b) (λ_ _ q=>q.unwish) λ_ _ z=>False.elim z
section
variable   {bW:List Stmt}{t u:TS}   
def KM:TS:=λD σ H=>D.nx σ H
def MC(t u:TS):TS:=λD σ H=>t {D with nx:=u D} σ H
def Gn:PSs X [] KM:=λ_ _ σ H _ I h=>Uh ⟨σ,H,I,h⟩
def DG(h1:PS X st t)(h2:PSs X bW u):PSs X (st::bW) (MC t u):=by
 intro p s b H D I h;refine wpAny_execs_cons<|thn (h1 p s b H {D with nx:=u D} I h) λf c q=>?_;cases f with
 |next=>
  obtain⟨a,g,e,q⟩:=q;exact h2 p c a g D e q
 |ret v=>exact q
 |brk=>exact q
 |cont=>exact q
def FX(h1:PS X st t):PSs X [st] t:=by
 intro p s a H D I h;refine wpAny_execs_cons<|thn (h1 p s a H D I h) λf b q=>?_;cases f with
 |next=>exact Uh q
 |ret v=>exact q
 |brk=>exact q
 |cont=>exact q
def Inv.quiet(I:Inv X pz σ H s):interactive X.env=false:=by simp[interactive,I.ok.kind]
def J1(te:TE):TS:=λD σ H=>te σ H λ_ H1=>D.nx σ H1
def ib(he:PE X e te)(hs:swapsWith e none pos.line X.env=pure false:=by rfl):PS X (.Expr e pos) (J1 te):=by intro p s a H D I h;exact wpAny_Expr_any (bw (he p s a H _ I h) λv f x c b g q=>⟨a,c,b,q⟩) I.quiet hs
def LU(te:TE):TS:=λD σ H=>te σ H D.rt
def tQ(he:PE X e te):PS X (.Return (some e) pos) (LU te):=by intro p s a H D I h;exact wpAny_Return_some<|bw (he p s a H _ I h) λv g x f c b q=>⟨x,a,f,c,b,q⟩
def LQ(c:TT)(t u:TS):TS:=λD a H=>c a H λb e=>if b=true then t D a e else u D a e
def JT{a b}(l:PT X c tc)(o:PSs X a t)(m:PSs X b u):PS X (.If c a b pos) (LQ tc t u):=by
 intro p s e H D I h;refine wpAny_If<|thn (l p s e H _ I h) λd g f=>?_;obtain⟨j,i,q⟩:=f;cases d with
 |true=>exact o p g e j D i q
 |false=>exact m p g e j D i q
def IZ:TS:=λ_ _ _=>False
def CZ:PS X st IZ:=λ_ _ _ _ _ _ h=>h.elim
end
abbrev TG:=V->St->Hp->(St->Hp->Prop)->Prop
abbrev TGs:=List V->St->Hp->(St->Hp->Prop)->Prop
def PG(X:Cx)(a:Expr)(t:TG):Prop:=
 ∀(p:Kp) s (c:St) H v u Q,Inv X p c H s->RelV v u->t v c H Q->
  wpAny (model X.prog X.w) X.A (assign a X.env u) (λ_ f=>∃b e,Inv X p b e f/\Q b e) X.xe s
def PGs(X:Cx)(ts:List Expr)(t:TGs):Prop:=
 ∀(p:Kp) s (b:St) H c u Q,Inv X p b H s->Vals c u->t c b H Q->
  wpAny (model X.prog X.w) X.A (assignInOrder ((assignEach ts X.env).map (·.2)) u) (λ_ f=>∃a e,Inv X p a e f/\Q a e) X.xe s
abbrev TIp:=V->V->Hp->VK->Prop
def PIp(X:Cx)(op:Operator)(t:TIp):Prop:=
 ∀(p:Kp) s (a:St) H x y v u Q,Inv X p a H s->RelV x v->RelV y u->t x y H Q->
  wpAny (model X.prog X.w) X.A (inplaceOp op v u) (EP X p a Q) X.xe s
def lW(i:Nat):TG:=λv σ H Q=>Q (σ.set i<|some v) H
def yG(hN:X.N.Nodup)(hi:X.N[i]?=some x)(hx:Loc X.env.scope x)(a:FnL X x:=by trivial):PG X (.Name x pos) (lW i):=by intro p s c H v u Q I r h;exact wpAny_assign_Name<|o8 I hN hi hx r (λe b=>⟨_,H,b,h⟩) a
def J_:TGs:=λvs σ H Q=>vs=[]/\Q σ H
def Ha(t:TG)(u:TGs):TGs:=λc b H Q=>∃v r,c=v::r/\t v b H λa e=>u r a e Q
def jo:PGs X [] J_:=by intro p s a H b u Q I r h;obtain⟨e,h⟩:=h;subst e;exact assignInOrder_nil ⟨a,H,I,h⟩
def cx{u}(h1:PG X e t)(h2:PGs X es u)
  (hs:(assignEach (e::es) X.env).map (·.2)=assign e X.env::(assignEach es X.env).map (·.2):=by rfl):PGs X (e::es) (Ha t u):=by
 intro p s c H m w Q I r h;obtain⟨v,o,i,h⟩:=h;subst i;cases r with
 |cons r g=>
  rw[hs];refine assignInOrder_cons<|thn (h1 p s c H _ _ _ I r h) λ_ f b=>?_;obtain⟨a,l,j,q⟩:=b;exact h2 p f a l _ _ Q j g q
def Mo(K:Kq)(n:Nat)(t:TGs):TG:=λv b H Q=>∃a x,v=.ref a/\SqT K H a x/\x.length=n/\t x b H Q
def IG{k}(z:X.calm=true)(h:PGs X es t)
  (w:(assignEach es X.env).length=n:=by rfl) (f:(assignEach es X.env).findIdx? (·.1)=none:=by rfl):PG X (.Tuple es k pos) (Mo X.K n t):=by
 intro p s g H v u Q I r c;obtain⟨a,x,B,q,y,c⟩:=c;subst B;cases r;obtain⟨j,i,m,E⟩:=I.tuple q;refine assign_Tuple_tuple (I.ok.hd z) m (by simp[w,<-y,i.length]) f λA l=>?_;have C:=I.kept (t':=s.toks) λb o e=>l b o (Yz<|Ys e) e
 exact h p _ g H x _ Q C (by simpa using i) c
def BU(te:TE)(g:TG):TS:=λD a H=>te a H λx b=>g x a b D.nx
def wQ(hN:X.N.Nodup)(hi:X.N[i]?=some x)(hx:Loc X.env.scope x)(he:PE X e te)(hs:swapsWith e (some (.Name x pos')) pos.line X.env=pure false:=by rfl)(c:FnL X x:=by trivial) :
  PS X (.Assign [.Name x pos'] e pos) (BU te<|lW i):=by
 intro p s a H D I h;refine wpAny_Assign_Name (bw (he p s a H _ I h) λv m y j g b q=>?_) hs;exact o8 g hN hi hx b (λl f=>⟨_,j,f,q⟩) c
def Mh(i:Nat)(te:TE)(b:TIp):TS:=λD a H=>∃x,a[i]?=some (some x)/\te a H λy e=>b x y e λz c=>D.nx (a.set i<|some z) c
def Hs{o}(hN:X.N.Nodup)(hi:X.N[i]?=some x)(hx:Loc X.env.scope x)(he:PE X e te)(L:PIp X op o)(Q:FnL X x:=by trivial) :
  PS X (.AugAssign (.Name x pos') op e pos) (Mh i te o):=by
 intro p s j H D I h;obtain⟨v,S,h⟩:=h;obtain⟨m,M,P⟩:=I.loc;have g:Vis X.env.scope x:=by rcases hx with k|k;exact .inl k;exact .inr<|.inl k
 obtain⟨u,r,l⟩:=P i x v hi S g;refine wpAny_AugAssign_Name ?_;have q:wpAny (model X.prog X.w) X.A (eval e X.env) (λw f=>wpAny (model X.prog X.w) X.A (inplaceOp op u w) (λr b=>wpAny (model X.prog X.w) X.A (storeName X.env x r) (λ_=>SP X p D .next) X.xe b) X.xe f) X.xe s:=by refine bw (he p s j H _ I h) λw B y H1 Y E K=>?_;refine bw (L p B j H1 v y u w _ Y r E K) λz s2 zv Z U C J=>?_;exact o8 U hN hi hx C (λs3 T=>⟨_,Z,T,J⟩) Q
 rcases l with⟨hk,O⟩|⟨hk,c,R,a⟩
 ·exact wpAny_loadName_local I.ok.kind hk M O q
 ·rcases hk with hk|hk
  ·exact wpAny_loadName_cell I.ok.kind hk R a q
  ·rcases hx with k|k
   ·have:X.env.scope.names.lookup x=some .free:=hk;rw[k]at this;cases this
   ·have:X.env.scope.names.lookup x=some .free:=hk;rw[k]at this;cases this
def ipI(f:Int->Int->Int):TIp:=λx y H Q=>∃i j,x=.int i/\y=.int j/\Q (.int<|f i j) H
def Iv:PIp X .Add (ipI λi j=>i+j):=by intro p s f H x y v u Q I b a h;obtain⟨i,j,c,e,q⟩:=h;subst c;subst e;obtain⟨t,rfl⟩:=b;obtain⟨g,rfl⟩:=a;exact iadd_int ⟨.int _,H,I.tok _,⟨_,rfl⟩,q⟩
def Hx(c:TT)(tb:TS):TS:=λD a H=>∃W:Nat->St->Hp->Prop,(∃m,W m a H)/\∀m a H,W m a H->
 c a H λb g=>if b=true then ∃N:St->Hp->Prop,(∀e h,N e h->∃f,f < m/\W f e h)/\tb {D with nx:=N,ct:=N,bk:=D.nx} a g else D.nx a g
def BR{tb}(z:PassesOwn (model X.prog X.w) X.A X.env X.xe)(T:PT X c tc)(U:PSs X body tb):PS X (.While c body [] pos) (Hx tc tb):=by
 intro p s L H D I h;obtain⟨W,⟨S,O⟩,i⟩:=h;refine wpAny_While<|codeAny_whileLoop (λn R=>∃g K,Inv X p g K R/\W n g K) ?_ S ⟨L,H,I,O⟩;rintro n Q ⟨e,J,Y,M⟩;refine XB z<|thn (T p Q e J _ Y<|i n e J M) λb P x=>?_;obtain⟨E,C,l⟩:=x;cases b with
 |true=>
  obtain⟨N,B,l⟩:=l;refine XB z<|thn (U p P e E _ C l) λf Z q=>?_;cases f with
  |next=>
   obtain⟨a,j,y,n3⟩:=q;obtain⟨o,u,m⟩:=B a j n3;exact⟨o,u,a,j,y,m⟩
  |cont=>
   obtain⟨a,j,y,n3⟩:=q;obtain⟨o,u,m⟩:=B a j n3;exact⟨o,u,a,j,y,m⟩
  |brk=>exact q
  |ret v=>exact q
 |false=>
  exact Uh ⟨e,E,C,l⟩
structure It where
 go:Nat->Hp->Prop
 yld:Nat->Hp->V->Hp->Prop
 stop:Nat->Hp->Prop
def jN(X:Cx)(pz:Kp)(H:Hp)(b:Addr):Prop:=
 H b=none/\b≠X.env.locals/\b∉X.fs/\(b∈X.ex\/X.s₀.heap.objs.size<=b)/\(∀x c,X.env.cells.lookup x=some c->c≠b)/\∀p∈X.pn++pz,p.1≠b
def Inv.fpOk{b:Addr}(I:Inv X pz σ H s)(h:s.heap.objs.size<=b)(f:H' b=none):jN X pz H' b:=by
 refine⟨f,ZH<|Yx I.lt h,I.nofs h,.inr<|YD I.sz h,λx c e z=>?_,λp a z=>?_⟩
 ·obtain⟨v,q⟩:=I.cell x c e;exact absurd (Yx q.lt<|by rwa[z])<|YX _
 ·exact absurd (Yx (Ys (I.pin p a).1)<|by rwa[z])<|YX _
structure Turn (P:Program) (w:World) (K:PySem.W.Frag) (tg:Expr) (J:It) (fp:List Addr) (it:Addr) (tn:Nat->Heap->Prop):Prop where
 mem:it∈fp
 obj:∀i h,tn i h->∀b∈fp,∃o,h.get? b=some o/\∀v,o.data≠.cell v
 keep:∀i h h',tn i h->(∀b∈fp,∀o,h.get? b=some o->h'.get? b=some o)->tn i h'
 item:∀(X:Cx),X.prog=P->X.w=w->X.K=K->X.calm=true->∀(i:Nat) (pz:Kp) (s:Shared) (σ:St) (H:Hp) (E:Kv),Inv X pz σ H s->(∀b∈fp,jN X pz H b)->tn i s.heap->J.go i H->
  wpAny (model P w) X.A (pyNext (.ref it)) (λr s1=>∃u,r=some u /\
   wpAny (model P w) X.A (letOwnedTupleGo tg (.ref it) u) (λ_ s2=>∃x H',Inv X pz σ H' s2/\RelV x u/\J.yld i H x H'/\tn (i+1) s2.heap/\∀b∈fp,H' b=none) E s1) E s
 done:∀(X:Cx),X.prog=P->X.w=w->X.K=K->X.calm=true->∀(i:Nat) (pz:Kp) (s:Shared) (σ:St) (H:Hp) (E:Kv),Inv X pz σ H s->(∀b∈fp,jN X pz H b)->tn i s.heap->J.stop i H->
  wpAny (model P w) X.A (pyNext (.ref it)) (λr s1=>r=none/\Inv X pz σ H s1) E s
 self:∀(A:Around) (i:Nat) (s:Shared) (Q:Kv) (E:Kv),tn i s.heap->Q (.ref it) s->wpAny (model P w) A (pyIter (.ref it)) Q E s
abbrev TI:=St->Hp->(It->Hp->Prop)->Prop
def PIE(X:Cx)(pz:Kp)(σ:St)(tg:Expr)(R:It->Hp->Prop)(i:Value)(s:Shared):Prop:=
 ∃(c:Addr) (f:List Addr) (a:Nat->Heap->Prop) (J:It) (H:Hp),i=.ref c/\Inv X pz σ H s/\Turn X.prog X.w X.K tg J f c a/\a 0 s.heap/\(∀b∈f,jN X pz H b)/\R J H
def PI(X:Cx)(tg iter:Expr)(wi:TI):Prop:=
 ∀(p:Kp) s (a:St) H R,Inv X p a H s->wi a H R->
  wpAny (model X.prog X.w) X.A (eval iter X.env) (λv b=>wpAny (model X.prog X.w) X.A (pyIter v) (PIE X p a tg R) X.xe b) X.xe s
def C6{o}{vs}{Q}(b:s.heap.get? it=some o)(e:o.cls=.type n)(hd:o.data=.fields vs)
  (c:["enumerate","zip","dict_itemiterator","dict_reverseitemiterator","odict_iterator","itertools.zip_longest","itertools.pairwise"].contains n=false) (a:Q () s):wpAny M A (letOwnedTupleGo tg (.ref it) u) Q E s:=by
 cases tg<;>first
  |exact Yh a
  |(cases u<;>first
    |exact Yh a
    |(
     refine Yb<|wpAny_load b ?_;rw[e,hd];show wpAny M A (if(["enumerate","zip","dict_itemiterator","dict_reverseitemiterator","odict_iterator","itertools.zip_longest","itertools.pairwise"].contains n&&vs[0]? == some _)=true then _ else _) Q E s;rw[Yl<|by intro h;rw[c,Vk]at h;cases h];exact Yh a))
def Itl(K:Kq)(a:Addr):It:=
 ⟨λi H=>∃b x,SqL K H a b/\b[i]?=some x,λi H x c=>c=H/\∀b,SqL K H a b->b[i]?=some x,λi H=>∃b,SqL K H a b/\b.length<=i⟩
def Itt(K:Kq)(a:Addr):It:=
 ⟨λi H=>∃b x,SqT K H a b/\b[i]?=some x,λi H x c=>c=H/\∀b,SqT K H a b->b[i]?=some x,λi H=>∃b,SqT K H a b/\b.length<=i⟩
def Itr(lo:Int)(n:Nat):It:=⟨λi _=>i<n,λi H x a=>a=H/\x=.int (lo+i),λi _=>n<=i⟩
theorem Aw{P}a it:Turn P w K tg (Itl K a) [it] it (λi h=>h.IsListIter it a i) where
 mem:=by simp
 obj:=λi h f b g=>by
  have e:b=it:=by simpa using g
  subst e;obtain⟨o,e,c,d⟩:=f;exact⟨o,e,λv z=>by rw[d]at z;cases z⟩
 keep:=λi h q f k=>f.at λo e=>k it (by simp) o e
 item:=by intro X L C M Y i U s T H E I m f J;subst L C M;obtain⟨Z,x,l,B⟩:=J;obtain⟨A,y,p,hz⟩:=I.list l;obtain⟨u,hu,ru⟩:=y.get B;obtain⟨S,R,f2,Q,O,N⟩:=m it (by simp);refine wpAny_pyNext_list_item f p.isList (by simpa using hu) λq j sb=>?_;have I1:=I.turned (t':=s.toks) (λb o g e=>(sb.2 b g).trans e) S R Q O N;obtain⟨o,e,c,d⟩:=id j;exact⟨u,rfl,C6 e c d (by decide) ⟨x,H,I1,ru,⟨rfl,λys hy=>by rwa[I.list_inj hy l]⟩,j,λb g=>(m b g).1⟩⟩
 done:=by intro X L C M Y i U s T H E I m f J;subst L C M;obtain⟨Z,l,B⟩:=J;obtain⟨A,y,p,hz⟩:=I.list l;obtain⟨S,R,f2,Q,O,N⟩:=m it (by simp);have hl:=y.length;exact wpAny_pyNext_list_end (I.ok.hd Y) f p.isList (by simp;lia) λq eb=>⟨rfl,I.turned (λb o g e=>eb b o g e) S R Q O N⟩
 self:=λ_ _ _ _ _ f h=>wpAny_pyIter_listiter f h
theorem aM{P:Program}{w:World}{K:Kq}{tg:Expr}(a it:Addr):Turn P w K tg (Itt K a) [it] it (λi h=>h.IsTupleIter it a i) where
 mem:=by simp
 obj:=λi h f b j=>by
  have e:b=it:=by simpa using j
  subst e;obtain⟨o,e,c,d⟩:=f;exact⟨o,e,λv z=>by rw[d]at z;cases z⟩
 keep:=λi h y f k=>f.at λo e=>k it (by simp) o e
 item:=by intro X L C M Y i U s T H E I q f J;subst L C M;obtain⟨Z,x,m,B⟩:=J;obtain⟨g,A,p,hz⟩:=I.tuple m;obtain⟨u,hu,ru⟩:=A.get B;obtain⟨S,R,f2,Q,O,N⟩:=q it (by simp);refine wpAny_pyNext_tuple_item f (show s.heap.IsTuple a g.toArray from p) (x:=u) (by simpa using hu) λy l sb=>?_;have I1:Inv X U T H {s with heap:=y }:=I.turned (t':=s.toks) (λb o j e=>(sb.2 b j).trans e) S R Q O N;obtain⟨o,e,c,d⟩:=id l;exact⟨u,rfl,C6 (s:={s with heap:=y }) e c d (by decide) ⟨x,H,I1,ru,⟨rfl,λys hy=>by rw[I.tuple_inj hy m];exact B⟩,l,λb j=>(q b j).1⟩⟩
 done:=by intro X L C M Y i U s T H E I q f J;subst L C M;obtain⟨Z,m,B⟩:=J;obtain⟨g,A,p,hz⟩:=I.tuple m;obtain⟨S,R,f2,Q,O,N⟩:=q it (by simp);have hl:=A.length;exact wpAny_pyNext_tuple_end (I.ok.hd Y) f (show s.heap.IsTuple a g.toArray from p) (by simp;omega) λy eb=>⟨rfl,I.turned (t':=s.toks) (λb o j e=>eb b o j e) S R Q O N⟩
 self:=λ_ _ _ _ _ f h=>wpAny_pyIter_tupleiter f h
theorem xo{P}it lo n:Turn P w K tg (Itr lo n) [it] it (λi h=>IsRangeIter h it (lo+i*1) (n-i) 1) where
 mem:=by simp
 obj:=λi h a b c=>by
  have e:b=it:=by simpa using c
  subst e;exact⟨_,a,λv z=>by
   have N:=z;cases N⟩
 keep:=λi h j a k=>k it (by simp) _ a
 item:=by intro X q l u p i M s J H E I g a m;subst q l u;obtain⟨C,B,R,A,y,x⟩:=g it (by simp);have W:=Walks.range (prog:=X.prog) (w:=X.w) (I.ok.hd p) it lo 1 n;refine W.item i s _ _ m a λv j L Q f O=>?_;obtain⟨t,rfl⟩:=Q;have T:Inv X M J H {s with heap:=j,toks:=L}:=I.turned (λb o c e=>O b o (by simpa using c) e) C B A y x;refine⟨_,rfl,C6 (n := "range_iterator") f rfl rfl (by decide) ⟨.int<|lo+i,H,T,⟨t,?_⟩,⟨rfl,rfl⟩,f,λb c=>(g b c).1⟩⟩;rw[Int.mul_one]
 done:=by intro X q l u p i M s J H E I g a m;obtain⟨C,B,R,A,y,x⟩:=g it (by simp);exact wpAny_pyNext_range_end (I.ok.hd p) a (by have:n<=i:=m;lia) λj S=>⟨rfl,I.turned (λb o c e=>S b o c e) C B A y x⟩
 self:=λ_ _ _ _ _ a h=>wpAny_pyIter_rangeiter a h
def JS(K:Kq)(tl:TE):TI:=λc H R=>tl c H λx b=>∃a,x=.ref a/\(∃e,SqL K b a e)/\R (Itl K a) b
def Nm(K:Kq)(tl:TE):TI:=λc H R=>tl c H λx b=>∃a,x=.ref a/\(∃e,SqT K b a e)/\R (Itt K a) b
def yL{l}(y:PE X l tl):PI X tg l (JS X.K tl):=by
 intro m s g H R I h;refine bw (y m s g H _ I h) λv c x A f i j=>?_;obtain⟨a,e,⟨B,w⟩,q⟩:=j;subst e;cases i;obtain⟨u,C,p,E⟩:=f.list w;refine Vf p.isList ?_;refine⟨c.heap.objs.size,[c.heap.objs.size],_,_,A,rfl,f.kept λb o e=>Yf _ e,Aw a _,⟨_,Yq _ rfl,rfl,rfl⟩,λb z=>?_,q⟩;have e:b=c.heap.objs.size:=by simpa using z
 subst e;exact f.fpOk (Yr _)<|f.hok.fresh<|Yr _
def a6{l:Expr}{tl:TE}(y:PE X l tl):PI X tg l (Nm X.K tl):=by
 intro u s g H R I h;refine bw (y u s g H _ I h) λv c x A f j m=>?_;obtain⟨a,e,⟨B,w⟩,q⟩:=m;subst e;cases j;obtain⟨i,C,p,E⟩:=f.tuple w;refine wpAny_pyIter_tuple (show c.heap.IsTuple a i.toArray from p) ?_;refine⟨c.heap.objs.size,[c.heap.objs.size],_,_,A,rfl,f.kept (t':=c.toks) λb o e=>Yf _ e,aM a _,⟨_,Yq _ rfl,rfl,rfl⟩,λb z=>?_,q⟩;have e:b=c.heap.objs.size:=by simpa using z
 subst e;exact f.fpOk (Yr _) (f.hok.fresh (Yr _))
theorem u9{lo hi}{t u v}(I:Inv X pz σ H s)(h1:-(2^62)<=lo)(h2:lo<2^62)(f:-(2^62)<=hi)(c:hi<2^62)
  (q:R (Itr lo (hi-lo).toNat) H):wpAny (model X.prog X.w) X.A (pyIter<|.ref s.heap.objs.size) (PIE X pz σ tg R) E {s with heap:=s.heap.push {cls:=.type "range",data:=.fields #[.int lo t,.int hi u,.int 1 v]},toks:=tk}:=by
 refine wpAny_pyIter_range (IsRange.new ..) (small_one h1 h2 f c) ?_;have a:Inv X pz σ H {s with heap:=s.heap.push {cls:=.type "range",data:=.fields #[.int lo t,.int hi u,.int 1 v]},toks:=tk}:=I.kept λb o e=>Yf _ e
 refine⟨(s.heap.push {cls:=.type "range",data:=.fields #[.int lo t,.int hi u,.int 1 v]}).objs.size,[(s.heap.push {cls:=.type "range",data:=.fields #[.int lo t,.int hi u,.int 1 v]}).objs.size],_,_,H,rfl,
  a.kept λb o e=>Yf _ e,xo _ lo (hi-lo).toNat,?_,λb h=>?_,q⟩
 ·have i:lo+((0:Nat))*1=lo:=by simp
  have g:(((hi-lo).toNat))-((0:Nat))=Builtin.Range.rangeSize lo hi 1:=by rw[rangeSize_one];split<;>lia
  rw[i,g];exact Yq _ rfl
 ·have e:b=(s.heap.push {cls:=.type "range",data:=.fields #[.int lo t,.int hi u,.int 1 v]}).objs.size:=by simpa using h
  subst e;exact a.fpOk (Yr _)<|a.hok.fresh<|Yr _
def Lg(ta:TA):TI:=λa H R=>ta a H λb c=>∃j:Int,b=[.int j]/\-(2^62)<=j/\j<2^62/\R (Itr 0 j.toNat) c
def JP(ta:TA):TI:=λa H R=>ta a H λb c=>∃i j:Int,b=[.int i,.int j]/\(-(2^62)<=i/\i<2^62/\-(2^62)<=j/\j<2^62)/\R (Itr i (j-i).toNat) c
theorem Aq{a}{ta}(o:Gl X "range")(m:X.mg "range"=none)(u:PA X [a] ta)(hs:starEach [a] X.env=[(false,eval a X.env)]:=by rfl):PI X tg (.Call (.Name "range" p) [a] [] pos) (Lg ta):=by
 intro l s c H R I h;refine Call_<|nS I o m boot_range<|Xt (bw (u pos l s c H _ I h) λy z x A w g b=>?_) hs rfl;obtain⟨j,e,b,i,q⟩:=b;subst e;cases g with
 |cons r f=>
  cases f;obtain⟨t,rfl⟩:=r;exact call_range_1<|u9 w (by lia) (by lia) b i<|by simpa using q
def zw{a}{ta}(A:Gl X "range")(z:X.mg "range"=none)(B:PA X [a,b] ta)(hs:starEach [a,b] X.env=[(false,eval a X.env),(false,eval b X.env)]:=by rfl)(c:starEach [b] X.env=[(false,eval b X.env)]:=by rfl) :
  PI X tg (.Call (.Name "range" p) [a,b] [] pos) (JP ta):=by
 intro y s l H R I h;refine Call_<|nS I A z boot_range<|Xt (bw (B pos y s l H _ I h) λJ L E M C m g=>?_) (by rw[hs,c]) (by rw[c];rfl);obtain⟨i,j,e,⟨g,x,w,u⟩,q⟩:=g;subst e;cases m with
 |cons r f=>
  cases f with
  |cons o f=>
   cases f;obtain⟨t,rfl⟩:=r;obtain⟨K,rfl⟩:=o;exact call_range_2<|u9 C g x w u q
def LO(wi:TI)(g:TG)(tb:TS):TS:=λD a H=>wi a H λJ j=>∃W:Nat->Nat->St->Hp->Prop,(∃m,W 0 m a j)/\∀i m a H,W i m a H->
 (J.stop i H/\D.nx a H)\/(J.go i H/\∃N:St->Hp->Prop,(∀b c,N b c->∃f,f < m/\W (i+1) f b c)/\∀x c,J.yld i H x c->g x a c λe h=>tb {D with nx:=N,ct:=N,bk:=D.nx} e h)
def n9(fp:List Addr)(h:Heap):List (Addr×Obj):=fp.filterMap λb=>(h.get? b).map λo=>(b,o)
def ig{b}{o}(a:b∈fp)(e:h.get? b=some o):(b,o)∈n9 fp h:=Ur.mpr ⟨b,a,by rw[e];rfl⟩
theorem Ad{p}(a:p∈n9 fp h):p.1∈fp/\h.get? p.1=some p.2:=by
 obtain⟨b,c,e⟩:=Ur.mp a;cases q:h.get? b with
 |none=>rw[q]at e;cases e
 |some o=>
  rw[q]at e;grind
theorem Inv.pinned(I:Inv X pz σ H s)(g:∀b∈fp,jN X pz H b)(f:∀b∈fp,∃o,s.heap.get? b=some o/\∀v,o.data≠.cell v):Inv X (pz++n9 fp s.heap) σ H s:=
 I.pins_of λp c=>(Zm.mp c).elim (λz=>I.pin p<|YK _ z) λz=>by
  obtain⟨h,e⟩:=Ad z;obtain⟨l,j,i,_⟩:=g p.1 h;grind
def Inv.unpinned(I:Inv X (pz++pl) σ H s):Inv X pz σ H s:=I.pins_of λp h=>I.pin p<|YK _<|YW _ h
abbrev FsI(e:Expr)(X:Cx):Prop:=∀x,foldedSetIterable e X.env x=pure x
def Hu{tb}(R:PassesOwn (model X.prog X.w) X.A X.env X.xe)(hc:X.calm=true)(hi:PI X tg iter wi)(hg:PG X tg g)(p:PSs X body tb)
  (hs:FsI iter X:=by intro _;rfl):PS X (.For tg iter body [] pos) (LO wi g tb):=by
 intro K s σ H D I h;refine wpAny_For (thn (hi K s σ H _ I h) λv s1 h1=>thn h1 λitv s2 h2=>?_) hs;obtain⟨it,U,tn,J,H2,e,I2,T,st2,f2,W,⟨m0,w0⟩,M⟩:=h2;subst e
 have l:∀{B},(∀b∈U,B b=none)->∀b∈U,jN X K B b:=λhn b p=>⟨hn b p,(f2 b p).2⟩
 refine codeAny_forLoop_any (λn s'=>∃i j B,Inv X K j B s'/\tn i s'.heap/\(∀b∈U,B b=none)/\W i n j B) ?_ m0 ⟨0,σ,H2,I2,st2,λb p=>(f2 b p).1,w0⟩;rintro n s3 ⟨i,c,Y,I3,P,S,w3⟩;rcases M i n c Y w3 with⟨O,qn⟩|⟨go,N,hN,step⟩
 ·refine XB R<|thn (T.done X rfl rfl rfl hc i K s3 c Y X.xe I3 (l S) P O) λr s4 ⟨hr,I4⟩=>?_;subst hr;exact Uh ⟨c,Y,I4,qn⟩
 ·refine XB R<|thn (T.item X rfl rfl rfl hc i K s3 c Y X.xe I3 (l S) P go) λr s4 ⟨u,hr,h4⟩=>?_;subst hr;refine XB R<|thn h4 λ_ s5 L=>?_;obtain⟨x,H5,I5,r5,y5,E,fr5⟩:=L;have I5':=I5.pinned (l fr5)<|T.obj _ _ E;refine XB R<|thn (hg _ s5 c H5 x u _ I5' r5<|step x H5 y5) λ_ s6 L=>?_;obtain⟨Z,H6,I6,q6⟩:=L;refine XB R<|thn (p _ s6 Z H6 _ I6 q6) λf s7 C=>?_;have q:∀{a}{z},Inv X _ a z s7->N a z->∃m,m<n/\∃i j B,Inv X K j B s7/\tn i s7.heap/\(∀b∈U,B b=none)/\W i m j B:=λ{a z} y Q=>by
   obtain⟨m',hm,w7⟩:=hN a z Q;refine⟨m',hm,i+1,a,z,y.unpinned,T.keep _ _ _ E λb p o e=>(y.pin (b,o)<|YK _<|YK _<|ig p e).1,λb p=>?_,w7⟩;obtain⟨o,e,d⟩:=T.obj _ _ E b p;exact(y.pin (b,o)<|YK _<|YK _<|ig p e).2.1
  cases f with
  |next=>obtain⟨a,z,y,Q⟩:=C;exact q y Q
  |cont=>obtain⟨a,z,y,Q⟩:=C;exact q y Q
  |brk=>obtain⟨a,z,y,C⟩:=C;exact⟨a,z,y.unpinned,C⟩
  |ret v=>obtain⟨x7,a,z,y,r7,C⟩:=C;exact⟨x7,a,z,y.unpinned,r7,C⟩
abbrev R2:=V->V->Hp->VK->Prop
def OpR(X:Cx)(f:Value->Value->Sem Value)(r:R2):Prop:=
 ∀(p:Kp) s (a:St) H x y v u Q,Inv X p a H s->RelV x v->RelV y u->r x y H Q->
  wpAny (model X.prog X.w) X.A (f v u) (EP X p a Q) X.xe s
def UnR(X:Cx)(f:Value->Sem Value)(r:V->Hp->VK->Prop):Prop:=
 ∀(p:Kp) s (a:St) H x v Q,Inv X p a H s->RelV x v->r x H Q->
  wpAny (model X.prog X.w) X.A (f v) (EP X p a Q) X.xe s
def CallR(X:Cx)(f:Value)(r:List V->Hp->VK->Prop):Prop:=
 ∀(p:Kp) s (a:St) H x u Q,Inv X p a H s->Vals x u->r x H Q->
  wpAny (model X.prog X.w) X.A (call f u) (EP X p a Q) X.xe s
def L1(X:Cx)(r:V->Hp->(Bool->Hp->Prop)->Prop):Prop:=
 ∀(p:Kp) s (a:St) H x v Q,Inv X p a H s->RelV x v->r x H Q->
  wpAny (model X.prog X.w) X.A (truthy v) (TP X p a Q) X.xe s
def tOp(r:R2)(ta tb:TE):TE:=λa H Q=>ta a H λx c=>tb a c λy b=>r x y b Q
def tUn(r:V->Hp->VK->Prop)(ta:TE):TE:=λa H Q=>ta a H λx b=>r x b Q
def rI(C:Int->Int->Prop)(g:Int->Int->V):R2:=λx y H Q=>∃i j,x=.int i/\y=.int j/\C i j/\Q (g i j) H
def rI0(g:Int->Int->V):R2:=λx y H Q=>∃i j,x=.int i/\y=.int j/\Q (g i j) H
def rU(g:Int->V):V->Hp->VK->Prop:=λx H Q=>∃i,x=.int i/\Q (g i) H
section
variable  {a:Expr}{tc:TE} 
def HR(z:PE X a ta)(p:PE X b tb){R:V->V->Hp->Prop}(I:Inv X pz σ H s)
  (h:ta σ H λx H1=>tb σ H1 λy H2=>R x y H2)  {f:Value->Value->Sem Value}
  (o:∀v u g x y H2,Inv X pz σ H2 g->RelV x v->RelV y u->R x y H2->wpAny (model X.prog X.w) X.A (f v u) Q X.xe g) :
  wpAny (model X.prog X.w) X.A (eval a X.env) (λv e=>wpAny (model X.prog X.w) X.A (eval b X.env) (λu c=>wpAny (model X.prog X.w) X.A (f v u) Q X.xe c) X.xe e) X.xe s:=by
 refine bw (z pz s σ H _ I h) λv i x H1 C l m=>?_;refine bw (p pz i σ H1 _ C m) λu g y H2 B j q=>?_;exact o v u g x y H2 B l j q
def Kk(i:OpR X (binaryOp op) r)(l:PE X a ta)(j:PE X b tb):PE X (.BinOp a op b pos) (tOp r ta tb):=by intro p s c H Q I h;exact wpAny_BinOp<|HR l j I h λv u e x y o m g f q=>i p e c o x y v u Q m g f q
def K4(f:UnR X (unaryOp op) r)(g:PE X a ta):PE X (.UnaryOp op a pos) (tUn r ta):=by intro p s b H Q I h;exact UnaryOp_<|bw (g p s b H _ I h) λv c x j i e q=>f p c b j x v Q i e q
def opI{f}{C}{g:Int->Int->Int}
  (a:∀i j t u s (Q:Kv) (E:Kv),C i j->Q (.int (g i j) s.toks) {s with toks:=s.toks+1}->wpAny (model X.prog X.w) X.A (f (.int i t)<|.int j u) Q E s) :
  OpR X f (rI C λi j=>.int<|g i j):=by
 intro p s m H x y v u Q I e c h;obtain⟨i,j,rfl,rfl,l,q⟩:=h;obtain⟨t,rfl⟩:=e;obtain⟨b,rfl⟩:=c;exact a i j t b s _ _ l ⟨.int _,H,I.tok _,⟨_,rfl⟩,q⟩
def JO{f}{g:Int->Int->Int}
  (a:∀i j t u s (Q:Kv) (E:Kv),Q (.int (g i j) s.toks) {s with toks:=s.toks+1}->wpAny (model X.prog X.w) X.A (f (.int i t)<|.int j u) Q E s) :
  OpR X f (rI0 λi j=>.int<|g i j):=by
 intro p s l H x y v u Q I e c h;obtain⟨i,j,rfl,rfl,q⟩:=h;obtain⟨t,rfl⟩:=e;obtain⟨b,rfl⟩:=c;exact a i j t b s _ _ ⟨.int _,H,I.tok _,⟨_,rfl⟩,q⟩
def JB{f}{g:Int->Int->Bool}
  (a:∀i j t u s (Q:Kv) (E:Kv),Q (.bool<|g i j) s->wpAny (model X.prog X.w) X.A (f (.int i t)<|.int j u) Q E s) :
  OpR X f (rI0 λi j=>.bl<|g i j):=by
 intro p s l H x y v u Q I e c h;obtain⟨i,j,rfl,rfl,q⟩:=h;obtain⟨t,rfl⟩:=e;obtain⟨b,rfl⟩:=c;exact a i j t b s _ _ ⟨.bl _,H,I,rfl,q⟩
def Mx(i j:Int):Prop:=0<j/\j<1073741824
def L5(i j:Int):Prop:=0<=j/\j<=1000000/\i.natAbs<2^64
def CMul(i j:Int):Prop:=(-(2^64)<i/\i<2^64)\/(-(2^64)<j/\j<2^64)
def CMul.ok{i j}(h:CMul i j):IntMulOk i j:=by
 rcases h with⟨b,a⟩|⟨b,a⟩
 ·exact .of_left<|intBits_le_64 b a
 ·exact .of_right<|intBits_le_64 b a
def IS:OpR X (binaryOp .Add) (rI0 λi j=>.int (i+j)):=JO λ_ _ _ _ _ _ _ q=>add_int q
def Hl:OpR X (binaryOp .Sub) (rI0 λi j=>.int (i-j)):=JO λ_ _ _ _ _ _ _ q=>sub_int q
def I_:OpR X (binaryOp .Mult) (rI CMul λi j=>.int (i*j)):=opI λ_ _ _ _ _ _ _ h q=>mul_int q h.ok
theorem Eg:OpR X (binaryOp .FloorDiv) (rI Mx λi j=>.int (i/j)):=opI λi j _ _ _ _ _ h q=>by
 have b:=h.1;have a:=h.2;exact floordiv_int (by lia) (by rwa[Int.fdiv_eq_ediv_of_nonneg i<|by lia])<|.inl<|PyProof.noPylong_small<|by lia
def Ht:OpR X (binaryOp .Mod) (rI (λ_ j=>0<j) λi j=>.int (i%j)):=opI λi j _ _ _ _ _ h q=>by
 exact mod_int' (by lia)<|by rwa[Int.fmod_eq_emod_of_nonneg i<|by lia]
def Im:OpR X (binaryOp .Pow) (rI L5 λi j=>.int (i^j.toNat)):=opI λ_ _ _ _ _ _ _ h q=>pow_int_small h.1 h.2.1 h.2.2 q
def unI{f}{g:Int->Int}
  (a:∀i t s (Q:Kv) (E:Kv),Q (.int (g i) s.toks) {s with toks:=s.toks+1}->wpAny (model X.prog X.w) X.A (f<|.int i t) Q E s) :
  UnR X f (rU λi=>.int<|g i):=by
 intro p s c H x v Q I b h;obtain⟨i,rfl,q⟩:=h;obtain⟨t,rfl⟩:=b;exact a i t s _ _ ⟨.int<|g i,H,I.tok _,⟨_,rfl⟩,q⟩
def HG:UnR X (unaryOp .USub) (rU λi=>.int (-i)):=unI λ_ _ _ _ _ q=>neg_int q
end
section
variable  {a:Expr}{tc:TE} 
def KA:OpR X (compareOp .Lt) (rI0 λi j=>.bl (decide (i<j))):=JB λ_ _ _ _ _ _ _ q=>lt_int q
def G7:OpR X (compareOp .LtE) (rI0 λi j=>.bl (decide (i<=j))):=JB λ_ _ _ _ _ _ _ q=>le_int q
def Li:OpR X (compareOp .Gt) (rI0 λi j=>.bl (decide (j<i))):=JB λ_ _ _ _ _ _ _ q=>gt_int q
def bm:OpR X (compareOp .GtE) (rI0 λi j=>.bl (decide (j<=i))):=JB λ_ _ _ _ _ _ _ q=>ge_int q
def OpR.or{f}{r e}(h:OpR X f r)(h':OpR X f e):OpR X f (λx y H Q=>r x y H Q\/e x y H Q):=by
 intro p s a H x y v u Q I c b q;rcases q with q|q
 ·exact h p s a H x y v u Q I c b q
 ·exact h' p s a H x y v u Q I c b q
def iW b(h:op≠.In:=by decide)(h2:op≠.NotIn:=by decide):behindInMarks op b=false:=by
 have a:(op == CmpOp.In)=false:=by cases op<;>first|rfl|exact absurd rfl h
 have e:(op == CmpOp.NotIn)=false:=by cases op<;>first|rfl|exact absurd rfl h2
 cases b<;>simp[behindInMarks,a,e]
def FZ(i:OpR X (compareOp op) r)(m:PE X a ta)(l:PE X b tb)(j:behindInMarks op b=false):PE X (.Compare a [op] [b] pos) (tOp r ta tb):=by intro p s c H Q I h;exact wpAny_Compare1 (HR m l I h λv u e x y w o g f q=>i p e c w x y v u Q o g f q) j
def Cv(t:TE):TT:=λa H Q=>t a H λx b=>∃k,x=.bl k/\Q k b
def yp(A:OpR X (compareOp op) r)(E:PE X a ta)(C:PE X b tb)(B:behindInMarks op b=false):PT X (.Compare a [op] [b] pos) (Cv (tOp r ta tb)):=by
 intro p s f H Q I h;refine wpAny_isTrue_Compare1 (bw (E p s f H _ I h) λv i x O L m w=>bw (C p i f O _ L w) λu g y N K l o=>
  bw (A p g f N x y v u _ K m l o) λc P z M J j ⟨k,e,q⟩=>?_) B
 subst e;cases j;exact ZM ⟨M,J,q⟩
def wC(r c:R2)(ta tb tc:TE):TE:=λa H Q=>ta a H λx g=>tb a g λy f=>r x y f λz b=>∃k,z=.bl k /\
 (if k=true then tc a b λw e=>c y w e Q else Q (.bl false) b)
def vO{op o}{r j}(R:OpR X (compareOp op) r)(g:OpR X (compareOp o) j)(Y:PE X a ta)(U:PE X b tb)(T:PE X c tc)
  (S:lastMarks [op,o] [b,c]=false:=by with_unfolding_all rfl):PE X (.Compare a [op,o] [b,c] pos) (wC r j ta tb tc):=by
 intro p s f H Q I h;refine Compare_chain (bw (Y p s f H _ I h) λv J x H1 I1 M P=>chain_link<|bw (U p J f H1 _ I1 P) λu E y H2 I2 i O=>
  bw (R p E f H2 x y v u _ I2 M i O) λd C z m l L ⟨k,e,q⟩=>?_) S
 subst e;cases L;refine ZM ?_;cases k with
 |false=>exact ite_ff ⟨.bl false,m,l,rfl,q⟩
 |true=>exact ite_tt<|chain_last<|bw (T p C f m _ l q) λA B w H4 Z K N=>g p B f H4 y w u A Q Z i K N
def A6{op o}{r l}(Y:OpR X (compareOp op) r)(g:OpR X (compareOp o) l)(ha:PE X a ta)(hb:PE X b tb)(hc:PE X c tc)
  (Z:lastMarks [op,o] [b,c]=false:=by with_unfolding_all rfl):PT X (.Compare a [op,o] [b,c] pos) (Cv<|wC r l ta tb tc):=by
 intro p s f H Q I h;refine isTrue_chain (bw (ha p s f H _ I h) λv K x H1 I1 O T=>test_link<|bw (hb p K f H1 _ I1 T) λu J y H2 I2 j S=>
  bw (Y p J f H2 x y v u _ I2 O j S) λd E z w m N ⟨k,e,q⟩=>?_) Z
 subst e;cases N;refine ZM ?_;cases k with
 |false=>
  obtain⟨k',e',U⟩:=q;cases e';exact ite_ff ⟨w,m,U⟩
 |true=>
  refine ite_tt<|test_last<|bw (hc p E f w _ m q) λB C A H4 I4 M R=>bw (g p C f H4 y A u B _ I4 j M R) λd' s5 z2 H5 I5 L i=>?_;obtain⟨k2,e2,P⟩:=i;subst e2;cases L;exact ZM ⟨H5,I5,P⟩
def KQ(K:Kq)(x:V)(H:Hp)(k:Bool):Prop:=
 match x with
 |.non=>k=false
 |.bl b=>k=b
 |.int i=>k=(i != 0)
 |.str y=>y.length<=sizeLine/\k=((y.length:Int) != 0)
 |.byt y=>y.size<=sizeLine/\k=((y.size:Int) != 0)
 |.ref p=>(∃a,SqL K H p a/\k=!a.isEmpty)\/(∃a,SqT K H p a/\k=!a.isEmpty)\/∃c,H p=some (.dK c)/\k=!c.isEmpty
 |_=>False
def xE{vs}(r:KV kvs vs):(!vs.isEmpty)=!kvs.isEmpty:=by cases r<;>rfl
def oA(r:Vals xs its):(!its.toArray.isEmpty)=!xs.isEmpty:=by cases r<;>simp
def k8:sizeLine<2^63:=by rw[YY];decide
theorem Jl:L1 X (λx H Q=>∃k,KQ X.K x H k/\Q k H):=by
 intro J s E H x v Q I j h;obtain⟨k,e,q⟩:=h;have L:=YY;cases x with
 |non=>
  cases j;have a:=e;subst a;exact truthy_none ⟨H,I,q⟩
 |bl b=>
  cases j;have a:=e;subst a;exact ZM ⟨H,I,q⟩
 |int i=>
  obtain⟨t,rfl⟩:=j;have a:=e;subst a;exact PySem.P.truthy_int ⟨H,I,q⟩
 |str y=>
  obtain⟨t,rfl⟩:=j;obtain⟨B,a⟩:y.length<=sizeLine/\k=((y.length:Int) != 0):=e;subst a;exact PySem.P.truthy_str (by lia) ⟨H,I.tok _,q⟩
 |byt y=>
  obtain⟨t,rfl⟩:=j;obtain⟨B,a⟩:y.size<=sizeLine/\k=((y.size:Int) != 0):=e;subst a;exact PySem.W.truthy_bytes (by lia) ⟨H,I.tok _,q⟩
 |ref p=>
  cases j;have a:=e;rcases a with⟨g,l,a⟩|⟨g,l,a⟩|⟨c,l,a⟩
  ·subst a;obtain⟨z,r,u,A⟩:=I.list l;have f:=r.length;exact wpAny_truthy_list u.isList (by simp;lia) ⟨H,I.tok _,by rwa[oA r]⟩
  ·subst a;obtain⟨z,r,u,A⟩:=I.tuple l;have f:=r.length;exact truthy_tuple u (by simp[YA];lia) ⟨H,I.tok _,by rwa[oA r]⟩
  ·subst a;obtain⟨A,C,o,r,m⟩:c.length<=sizeLine/\(p == sysModules)=false/\∃o,KV c o/\s.heap.DictOf _ p o:=I.hok p _ l;have f:=Uc r;exact wpAny_truthy_dict C m (by lia) ⟨H,I.tok _,by rwa[xE r]⟩
 |_=>exact(show False from e).elim
def Cd(e:PE X a ta)(he:∀w,isTrue a X.env w=(do let v <-w;standAt a.pos;holding [v] (truthy v))) :
  PT X a (λσ H Q=>ta σ H λx H'=>∃k,KQ X.K x H' k/\Q k H'):=by
 intro p s σ H Q I h;exact isTrue_plain (bw (e p s σ H _ I h) λv b x g f c q=>Jl p b σ g x v Q f c q)<|he _
def xM:OpR X (binaryOp .Add) (λx y H Q=>∃i j,x=.str i/\y=.str j/\i.length+j.length<=sizeLine/\Q (.str (i++j)) H):=by intro p s f H x y v u Q I c b h;obtain⟨i,j,rfl,rfl,e,q⟩:=h;obtain⟨t,rfl⟩:=c;obtain⟨a,rfl⟩:=b;exact add_str (λa g=>⟨.str<|i++j,H,I.tok _,⟨_,rfl⟩,q⟩) e
def eV{x}(r:Vals [x] us):∃u,us=[u]/\RelV x u:=by
 cases r with
 |cons b a=>cases a;exact⟨_,rfl,b⟩
def Kg{x}(r:Vals [x,y] us):∃u w,us=[u,w]/\RelV x u/\RelV y w:=by
 cases r with
 |cons e c=>
  cases c with
  |cons b a=>cases a;exact⟨_,_,rfl,e,b⟩
def AU:CallR X (.type "int") (λxs H Q=>(∃i,xs=[.int i]/\Q (.int i) H)\/∃k,xs=[.bl k]/\Q (.int (if k then 1 else 0)) H):=by
 intro p s b H xs c Q I r h;rcases h with⟨i,rfl,q⟩|⟨k,rfl,q⟩
 ·obtain⟨u,rfl,t,rfl⟩:=eV r;exact call_int_int ⟨.int i,H,I,⟨_,rfl⟩,q⟩
 ·obtain⟨u,rfl,a⟩:=eV r;cases a;exact call_int_bool ⟨.int _,H,I.tok _,⟨_,rfl⟩,q⟩
end
structure ObjM (h:Heap) (x dx C:Addr) (mA:Str->Option Value):Prop where
 obj:h.get? x=some (PySem.W.instObj C dx)
 ns:h.Ns1 dx mA
 ne:dx≠x
def Aa(n:h.Ns1 dx mA):∃od,h.get? dx=some od/\∀name,PySem.W.lookIn name od=some (mA name):=by
 obtain⟨o,c,p,g,l,j,_,i⟩:=n;refine⟨o,g,λname=>?_⟩;have e:=i name;unfold nsFind findBy at e;rw[<-Array.find?_toList]at e;unfold PySem.W.lookIn;rw[l];dsimp only;split
 ·rename_i y q;rw[q]at e;exact YR some e
 ·rename_i q;rw[q]at e;have a:c.toList.any (·.refKey)=false:=by rw[List.any_eq_false];intro y f;obtain⟨z,t,b⟩:=j y<|VZ.mp f;simp[DictEntry.refKey,b]
  have m:¬c.toList.any (·.refKey)=true:=by rw[a];exact Yk
  rw[Yl m];exact YR some e
def ObjM.look{x}(I:ObjM h x dx C mA):∃od,PySem.W.InstAt h x (PySem.W.instObj C dx) C (some od)/\∀name,PySem.W.lookIn name od=some (mA name):=
 let ⟨od,ho,hl⟩:=Aa I.ns
 ⟨od,⟨I.obj,rfl,rfl,ho⟩,hl⟩
section
variable       {x:Addr}   {v:Value}
def GJ{e}(X:K.In s.heap)(I:ObjM s.heap x dx C mA)(f:PySem.W.plainGet K C name=true)(c:PySem.W.hasDictIn K C=true)
  (g:PySem.W.findIn K (.ref C) name=some none) (hv:mA name=some v) (a:PySem.W.handedIn v=true) (h:Q v {s with toks:=s.toks+1}) :
  wpAny (model prog w) A (getAttr (.ref x) name e) Q E s:=by
 obtain⟨o,J,b⟩:=I.look;exact PySem.W.get_value X J (Ui f).1 (PySem.W.findObj_own c g rfl<|by rw[b,hv]) a h
def Bf{pl}{Q}(X:K.In s.heap)(I:ObjM s.heap x dx C mA)(a:PySem.W.plainGet K C name=true)
  (e:PySem.W.findIn K (.ref C) name=some (some<|.ref f)) (b:PySem.W.isFn K (.ref f)=true) (hv:mA name=none) (h:Q (.ref f,[.ref x]) s) :
  wpAny (model prog w) A (getMethod (.ref x) name pl) Q E s:=by
 obtain⟨o,J,c⟩:=I.look;exact PySem.W.method_fn X J (Ui a).1 (Ui a).2 e (Vu.mp b) (by show(PySem.W.lookIn name o).map _=some false;rw[c,hv];rfl) h
theorem FQ{Q}(X:K.In s.heap)(I:ObjM s.heap x dx C mA)
  (hs:PySem.W.findIn K (.ref C) "__setattr__"=some (some<|.builtin "object.__setattr__")) (o:PySem.W.plainOver K C=true) (m:PySem.W.takerIn K C name=some none) (p:PySem.W.hasDictIn K C=true)
  (hw:PySem.Within mA ns) (hsz:ns.length<=sizeLine)
  (h:∀h',ObjM h' x dx C (λy=>if y=name then some v else mA y)->Heap.SameBut dx s.heap h'->Q () {s with heap:=h',toks:=s.toks+2}) :
  wpAny (model prog w) A (setAttr (.ref x) name v) Q E s:=by
 obtain⟨B,J,L⟩:=I.look;refine PySem.W.set_plain X J hs<|PySem.W.osa_open X J o m λb=>?_;obtain⟨M,q,i⟩:=PySem.W.any_some p;have l:=I.obj;refine Yb<|Yh<|Yb<|Yb<|wpAny_loadPart l<|Yb<|PySem.W.Looks.here (PySem.W.looks_clsIn X q) ?_;rw[i];refine Yh<|Yb<|Yh<|Yb ?_;refine wpAny_nsSet1 I.ns λh' e c=>?_;obtain⟨H,u,z,f,g,j⟩:=e.count<|PySem.Within.cons name v hw;refine Yb<|wpAny_lookBehind f (by rw[g];exact pastItsLine_dict<|YD j<|by rw[Yt];lia) ?_;exact Yh<|h _ ⟨(c.2 _<|XS I.ne).trans I.obj,e,I.ne⟩ c
def DD{R:Kr}{vs}(X:K.In s.heap)(b:PySem.W.makesIn K C=true)
  (hi:PySem.W.findIn K (.ref C) "__init__"=some (some<|.ref f)) (c:PySem.W.typeIn K (.ref f)=some (.type "function"))
  (h:codeAny (model prog w) (A.under<|.builtin "type.__call__" ⟨.ref C::vs,kw⟩) (.call (.ref f) ⟨.ref (s.heap.objs.size+1)::vs,kw⟩) (PySem.W.InitBack (s.heap.objs.size+1) R)
   {s with heap:=(s.heap.push PySem.W.emptyDict).push<|PySem.W.instObj C s.heap.objs.size}) :
  codeAny (model prog w) A (.call (.ref C) ⟨vs,kw⟩) R s:=by
 exact PySem.W.make_core (PySem.W.makes_of X b) (PySem.W.looks_findIn X hi) (λa=>PySem.W.bind_fn X a c) (.inl rfl) h
end
noncomputable def d_(f:Str)(v:V):List (Str×V)->List (Str×V)
 |[]=>[(f,v)]
 |(g,x)::r=>if g=f then(g,v)::r else(g,x)::d_ f v r
theorem lX f g v:∀fs:List (Str×V),(d_ f v fs).lookup g=if g=f then some v else fs.lookup g
 |[]=>by
  show List.lookup g [(f,v)]=_;by_cases h:g=f
  ·have a:=Vu.mpr h;simp[List.lookup,a,Yj h]
  ·have a:=ZW.mpr h;simp[List.lookup,a,Yl h]
 |(k,x)::r=>by
  have ih:=lX f g v r;rw[show d_ f v _=(if k=f then(k,v)::r else(k,x)::d_ f v r)from rfl];grind
theorem lT f v:∀fs:List (Str×V),f∈(d_ f v fs).map (·.1)/\∀g,g∈fs.map (·.1)->g∈(d_ f v fs).map (·.1)
 |[]=>⟨by simp[d_],λg h=>by simp at h⟩
 |(k,x)::r=>by
  obtain⟨b,i⟩:=lT f v r;rw[show d_ f v _=(if k=f then(k,v)::r else(k,x)::d_ f v r)from rfl];grind
theorem mF f v:∀fs:List (Str×V),(d_ f v fs).length<=fs.length+1
 |[]=>by simp[d_]
 |(k,x)::r=>by
  have ih:=mF f v r;rw[show d_ f v _=(if k=f then(k,v)::r else(k,x)::d_ f v r)from rfl];grind
def RelO.some_of{o}(r:RelO (some v) o):∃u,o=some u/\RelV v u:=by
 cases o with
 |none=>exact(show False from r).elim
 |some u=>exact⟨u,rfl,r⟩
def RelO.none_of{o}(r:RelO none o):o=none:=by
 cases o with
 |none=>rfl
 |some u=>exact(show False from r).elim
def zL(r:RelV v u):PySem.W.handedIn u=true:=by
 cases v with
 |non=>cases(show u=Value.none from r);rfl
 |bl b=>cases(show u=Value.bool b from r);rfl
 |int i=>obtain⟨t,e⟩:=(show ∃t,u=Value.int i t from r);cases e;rfl
 |str x=>obtain⟨t,e⟩:=(show ∃t,u=Value.str x t from r);cases e;rfl
 |byt b=>obtain⟨t,e⟩:=(show ∃t,u=Value.bytes b t from r);cases e;rfl
 |flt b=>obtain⟨t,e⟩:=(show ∃t,u=Value.float b t from r);cases e;rfl
 |ref a=>cases(show u=Value.ref a from r);rfl
 |ty n=>cases(show u=Value.type n from r);rfl
section
variable{P:Program}     {fs fs':List (Str×V)}
def uf(b:HOk P w H h)(e:H a=some (.ins C dx fs)):∃mA,ObjM h a dx C mA/\(∀f,RelO (fs.lookup f) (mA f))/\PySem.Within mA (fs.map (·.1))/\fs.length<=1000/\H dx=some (.own a):=by
 obtain⟨d,z,c,o,mA,n,r,q⟩:=(show ObjOk P w H h a (.ins C dx fs)from b a _ e)
 exact⟨mA,⟨o,n,c⟩,r,q,z,d⟩
end
structure Cls (K:PySem.W.Frag) (C:Addr):Prop where
 pg:PySem.W.plainGet K C Str.empty=true
 hd:PySem.W.hasDictIn K C=true
 po:PySem.W.plainOver K C=true
 sa:PySem.W.findIn K (.ref C) "__setattr__"=some (some (.builtin "object.__setattr__"))
def Cls.get(c:Cls K C)f:PySem.W.plainGet K C f=true:=c.pg
def NoAttr(K:Kq)(C:Addr)(f:Str):Prop:=PySem.W.findIn K (.ref C) f=some none
def NoAttr.taker{f}(n:NoAttr K C f):PySem.W.takerIn K C f=some none:=by unfold PySem.W.takerIn;rw[show PySem.W.findIn K _ f=some none from n];rfl
structure Meth (K:PySem.W.Frag) (C:Addr) (m:Str) (f:Addr):Prop where
 at_:PySem.W.findIn K (.ref C) m=some (some (.ref f))
 fn:PySem.W.isFn K (.ref f)=true
 kp:PySem.W.keepIn K (.ref f)=true
section
variable       {fs:List (Str×V)}{f:Str}{v:V}  
def xn{b}(I:Inv X pz σ H s)(e:H a=some (.ins C dx fs))(c:Cls X.K C)(n:NoAttr X.K C f)(l:fs.lookup f=some v)
  (h:∀u s',Inv X pz σ H s'->RelV v u->Q u s'):wpAny (model X.prog X.w) A (getAttr (.ref a) f b) Q E s:=by
 obtain⟨m,O,r,_,_,_⟩:=uf I.hok e;obtain⟨u,i,g⟩:=RelO.some_of (v:=v) (o:=m f) (by rw[<-l];exact r f);exact GJ I.kIn O (c.get f) c.hd n i (zL g)<|h u _ (I.tok _) g
def nJ{pl}{Q}(I:Inv X pz σ H s)(e:H a=some (.ins C dx fs))(c:Cls X.K C)(k:Meth X.K C m g)(l:fs.lookup m=none)
  (h:Q (.ref g,[.ref a]) s):wpAny (model X.prog X.w) A (getMethod (.ref a) m pl) Q E s:=by
 obtain⟨b,O,r,_,_,_⟩:=uf I.hok e;have f:=RelO.none_of (by rw[<-l];exact r m);exact Bf I.kIn O (c.get m) k.at_ k.fn f h
theorem xc{Q}(I:Inv X pz σ H s)(e:H a=some (.ins C dx fs))(c:Cls X.K C)(n:NoAttr X.K C f)(R:fs.length<1000)(B:RelV y u)
  (h:∀s',Inv X pz σ (upd H a<|.ins C dx<|d_ f y fs) s'->Q () s'):wpAny (model X.prog X.w) A (setAttr (.ref a) f u) Q E s:=by
 obtain⟨m,O,r,j,_,l⟩:=uf I.hok e;have J:(fs.map (·.1)).length<=sizeLine:=by rw[Yc,YY];lia
 refine FQ I.kIn O c.sa c.po n.taker c.hd j J λP i p=>h _ ?_;have M:∃o,P.get? dx=some o:=let ⟨o,_,_,e',_⟩:=i.ns;⟨o,e'⟩
 refine I.write (by rw[e];exact True.intro) (.inr l) (λb q N z=>(p.2 b N).trans z) M ?_;refine⟨by rwa[aD O.ne],?_,O.ne,i.obj,_,i.ns,λg=>?_,λg L=>?_⟩
 ·have:=mF f y fs;lia
 ·rw[lX];by_cases q:g=f
  ·rwa[Yj q,Yj q]
  ·rw[Yl q,Yl q];exact r g
 ·by_cases q:g=f
  ·rw[q];exact(lT f y fs).1
  ·refine(lT f y fs).2 g<|j g λz=>L ?_;grind
def Inv.made(I:Inv X pz σ H s):Inv X pz σ (upd (upd H s.heap.objs.size (.own (s.heap.objs.size+1))) (s.heap.objs.size+1) (.ins C s.heap.objs.size []))
  {s with heap:=(s.heap.push PySem.W.emptyDict).push<|PySem.W.instObj C s.heap.objs.size}:=by
 have f:(s.heap.push PySem.W.emptyDict).get? s.heap.objs.size=some PySem.W.emptyDict:=Yq s.heap rfl;have j:((s.heap.push PySem.W.emptyDict).push<|PySem.W.instObj C s.heap.objs.size).get? (s.heap.objs.size+1)=some (PySem.W.instObj C s.heap.objs.size):=by
  have:=Yq (s.heap.push PySem.W.emptyDict) (o:=PySem.W.instObj C s.heap.objs.size) rfl
  rwa [Xj]at this
 have i:(s.heap.push PySem.W.emptyDict).Ns s.heap.objs.size _:=⟨PySem.W.emptyDict,#[],_,f,rfl,(λe g=>absurd g<|by simp),λ_=>rfl⟩
 have l:=I.laid (o:=.own<|s.heap.objs.size+1) (t':=s.toks) (λb u q=>Yf _ q) (Yr _) ⟨_,f⟩;refine l.laid (λb u q=>Yf _ q) (Xm<|Xj _ _) ?_;have c:s.heap.objs.size≠s.heap.objs.size+1:=Yz<|ZK _;refine⟨by rw[aD c,aI],YO _,c,j,λ_=>none,(Heap.Ns1.of_empty i).at λo q=>Yf _ q,λ_=>True.intro,λy h=>absurd rfl h⟩
def Ez(b:attributeBase e f env (eval e env)=eval e env)
  (h:wpAny (model prog w) A (eval e env) (λo a=>wpAny (model prog w) A (getAttr o f true) Q E a) E s):wpAny (model prog w) A (eval (.Attribute e f pos) env) Q E s:=
 Attribute_any_ h<|by rw[arm_eval_Attribute,b]
end
def LP(K:Kq)(ta:TE)(f:Str):TE:=λc H Q=>ta c H λx b=>∃a C e fs v,x=.ref a/\b a=some (.ins C e fs)/\Cls K C/\NoAttr K C f/\fs.lookup f=some v/\Q v b
def Mg(K:Kq)(ta tv:TE)(f:Str):TS:=λD b H=>tv b H λy g=>ta b g λx e=>∃a C c fs,x=.ref a/\e a=some (.ins C c fs)/\Cls K C/\NoAttr K C f/\fs.length<1000 /\
 D.nx b (upd e a<|.ins C c<|d_ f y fs)
section
variable   {f:Str}  
def w9(he:PE X e ta)(m:attributeBase e f X.env (eval e X.env)=eval e X.env):PE X (.Attribute e f pos) (LP X.K ta f):=by intro p s g H Q I h;refine Ez m<|bw (he p s g H _ I h) λu J x A z i b=>?_;obtain⟨a,C,L,fs,v,o,w,c,n,l,q⟩:=b;subst o;obtain rfl:u=Value.ref a:=i;exact xn z w c n l λB E y j=>⟨v,A,y,j,q⟩
def tK(z:PE X o ta)(hv:PE X value tv)(hs:swapsWith value (some (.Attribute o f pos')) pos.line X.env=pure false):PS X (.Assign [.Attribute o f pos'] value pos) (Mg X.K ta tv f):=by intro p s b H D I h;refine plainObj_wpAny_Assign_Attribute (bw (hv p s b H _ I h) λu g y M L i q=>bw (z p g b M _ L q) λw O x Q J j e=>?_) hs;obtain⟨a,C,P,fs,A,B,c,n,l,m⟩:=e;subst A;obtain rfl:w=Value.ref a:=j;exact xc J B c n l i λN E=>⟨b,_,E,m⟩
end
section
variable         {c:Value}{b:Bool}
end
structure Room (k:Nat) (A:Around):Prop where
 hd:A.handled=none
 dp:A.depth+3*k+5<recursionLimit
 un:A.units+16*k+200<cLine
theorem Room.mono(r:Room k A)(h:j<=k):Room j A:=⟨r.hd,by have:=r.dp;lia,by have:=r.un;lia⟩
theorem Room.deeper(r:Room (k+1) A)env:Room k (A.deeper env):=
 ⟨r.hd,by have:=r.dp;show A.depth+1+3*k+5<_;lia,by have:=r.un;show A.units+3+16*k+200<_;lia⟩
def xz:(A.under (.builtin "type.__call__" ⟨.ref C::us,kw⟩)).depth=A.depth+1:=by
 first|rfl|simp
def xJ:(A.under (.builtin "type.__call__" ⟨.ref C::us,kw⟩)).units=A.units+1:=by
 first|rfl|simp
theorem Room.make(r:Room (k+1) A)C us kw:Room k (A.under (.builtin "type.__call__" ⟨.ref C::us,kw⟩)):=
 ⟨r.hd,by have:=r.dp;rw[xz];lia,by have:=r.un;rw[xJ];lia⟩
theorem Room.depth(r:Room k A):A.depth<recursionLimit:=by have:=r.dp;lia
def wc:TA:=λ_ H Q=>Q [] H
def oS(ta:TE)(tr:TA):TA:=λa H Q=>ta a H λx e=>tr a e λb c=>Q (x::b) c
section
variable     {t:TA} 
def bK:PA X [] wc:=λ_ _ _ _ H Q I h=>Calls.spliced_nil ⟨[],H,I,.nil,h⟩
def aR(m:PE X e te)(l:PA X es t)(hs:starEach (e::es) X.env=(false,eval e X.env)::starEach es X.env:=by rfl):PA X (e::es) (oS te t):=by intro p b s a H Q I h;rw[hs];refine XY<|bw (m b s a H _ I h) λu f x z w i j=>?_;exact bw (l p b f a z _ w j) λA B c y o g q=>⟨x::c,y,o,.cons i g,q⟩
def Mi(t:TA):TE:=λb H Q=>t b H λx a=>x.length<=sizeLine/\∀p,a p=none->Q (.ref p) (upd a p<|.tup x)
def ME(t:TA):TE:=λb H Q=>t b H λx a=>x.length<=sizeLine/\∀p,a p=none->Q (.ref p) (upd a p<|.lst x)
def IT{x1}(h:PA X es t):PE X (.Tuple es x1 pos) (Mi t):=by intro p s g H Q I j;refine wpAny_Tuple_spliced<|bw (h pos p s g H _ I j) λi a x f c r ⟨z,q⟩=>⟨by rwa[<-r.length],?_⟩;have l:=c.hok.fresh<|Yr _;refine⟨.ref a.heap.objs.size,upd f a.heap.objs.size _,c.laid (λb u e=>Yf _ e) (Yr _) ?_,rfl,q _ l⟩;exact⟨z,i,r,⟨_,Yq _ rfl,rfl,_,rfl⟩,_,Yq _ rfl,rfl⟩
def Jr(h:PA X es t):PE X (.List es pos) (ME t):=by intro p s g H Q I j;refine wpAny_List_spliced<|bw (h pos p s g H _ I j) λi a x f c r ⟨z,q⟩=>⟨by rwa[<-r.length],?_⟩;have l:=c.hok.fresh<|Yr _;refine⟨.ref a.heap.objs.size,upd f a.heap.objs.size _,c.laid (λb u e=>Yf _ e) (Yr _) ?_,rfl,q _ l⟩;exact⟨z,i,0,r,Yq _ rfl⟩
end
abbrev Sp:=List V->Hp->VK->XK->Prop
abbrev CXT:=List Env->Hp->Shared->XK->Value->Shared->Prop
structure Env0 (P:Program) (w:World) (K:PySem.W.Frag) (mg:Str->Option Value) (base:Heap) (A:Around) (outer:List Env) (s:Shared) (H:Hp):Prop where
 frames:A.frames=some outer
 mod:Mod K mg base
 bs:∀b o,base.get? b=some o->s.heap.get? b=some o/\H b=none
 bsz:base.objs.size<=s.heap.objs.size
 funs:s.heap.FunFrames base outer
 frf:∀b∈frs outer,H b=none
 hok:HOk P w H s.heap
 bare:AllBare s.gens
 tab:∀t q p,f8 K t q p->H t=some (.tbl q p)
def CE(outer:List Env)(P:Program)(w:World)(H:Hp)(s:Shared)(Q:VK)(u:Value)(s':Shared):Prop:=
 ∃v a,s'.os=s.os/\AllBare s'.gens/\Un (frs outer) [] H a s.heap s'.heap/\HOk P w a s'.heap/\RelV v u/\Q v a
def CR(CX:CXT)(outer:List Env)(P:Program)(w:World)(H:Hp)(s:Shared)(Q:VK)(E:XK)(r:Result)(s':Shared):Prop:=
 match r with
 |.ok (.ret u)=>CE outer P w H s Q u s'
 |.ok _=>False
 |.error e=>CX outer H s E e s'
structure FnOk (P:Program) (w:World) (K:PySem.W.Frag) (mg:Str->Option Value) (base:Heap) (CX:CXT) (k:Nat) (f:Addr) (fd:FuncData) (ps:List Str) (sp:Sp):Prop where
 len:∀vs H Q E,sp vs H Q E->vs.length=ps.length
 run:∀(A:Around) (outer:List Env) (s:Shared) (H:Hp) (args:Args) (us:List Value) (vs:List V) (Q:VK) (E:XK),Room k A->Env0 P w K mg base A outer s H->BindsTo s fd args (ps.zip us)->Vals vs us->sp vs H Q E->
  codeAny (model P w) A (.call (.ref f) args) (CR CX outer P w H s Q E) s
def FnOk.imp{P}{a}(F:FnOk P w K mg base CX k f fd ps sp)
  (h:∀vs H Q E,a vs H Q E->sp vs H Q E):FnOk P w K mg base CX k f fd ps a:=
 ⟨λvs H Q E q=>F.len vs H Q E<|h _ _ _ _ q,λA o s H b u vs Q E g i j c e=>F.run A o s H b u vs Q E g i j c<|h _ _ _ _ e⟩
def Env0.make{P}(e:Env0 P w K mg base A outer s H)C us kw :
  Env0 P w K mg base (A.under<|.builtin "type.__call__" ⟨.ref C::us,kw⟩) outer s H:=⟨by first|exact e.frames|(simpa[Around.under,Code.envs,Code.isFrame,pushEnvs]using e.frames),e.mod,e.bs,e.bsz,e.funs,e.frf,e.hok,e.bare,e.tab⟩
def Inv.env0(I:Inv X pz σ H s):Env0 X.prog X.w X.K X.mg X.base X.A X.stack s H:=
 ⟨I.ok.frames,I.ok.mod,I.bs,YD I.ok.bsz I.sz,I.stack,I.stkFree,I.hok,I.bare,I.tab⟩
def Inv.after{Q}(I:Inv X pz σ H s)(h:CE X.stack X.prog X.w H s Q u s'):EP X pz σ Q u s':=by obtain⟨v,i,e,a,un,c,r,q⟩:=h;obtain⟨f,g,d,t,o⟩:=s';obtain rfl:o=s.os:=e;exact⟨v,i,I.call un c a λb z=>absurd z<|by simp,r,q⟩
def xX(sp:Sp)(dvs:List V)(E:XK)(t:TA):TE:=λa H Q=>t a H λb c=>sp (b++dvs) c Q E
def uE(C:Addr)(m:Str)(sp:Sp)(dvs:List V)(E:XK)(ta:TE)(t:TA):TE:=λb H Q=>ta b H λx c=>∃a f fs,x=.ref a/\c a=some (.ins C f fs)/\fs.lookup m=none /\
 t b c λe g=>sp (x::(e++dvs)) g Q E
def Lc(C:Addr)(sp:Sp)(dvs:List V)(E:XK)(t:TA):TE:=λc H Q=>t c H λe b=>∀x a,b x=none->b a=none->a≠x->
 sp (.ref x::(e++dvs)) (upd (upd b a<|.own x) x<|.ins C a []) (λv f=>v=.non/\Q (.ref x) f) E
def Binds(K:Kq)(fd:FuncData)(ps:List Str)(ds:List Value):Prop:=
 ∀s u,K.In s.heap->(u++ds).length=ps.length->BindsTo s fd ⟨u,[]⟩ (ps.zip<|u++ds)
def Binds.all(h:∀us:List Value,us.length=ps.length->bindArgs fd ⟨us,[]⟩=pure (ps.zip us)):Binds K fd ps []:=λs us _ a=>by
 rw[YZ]at a ⊢;exact .of_eq<|h us a
def jJ(CX:CXT)(X:Cx)(E:XK):Prop:=∀(p:Kp) (b:St) H s e a,Inv X p b H s->CX X.stack H s E e a->X.xe e a
section
variable   {k:Nat}     {dvs:List V}{ds:List Value}{E:XK}      {t:TA}
def xh{Q}(F:FnOk X.prog X.w X.K X.mg X.base CX k f fd ps sp)(g:Room k X.A)(j:Binds X.K fd ps ds)(hd:Vals dvs ds)(hx:jJ CX X E)
  (I:Inv X pz σ H s) (r:Vals vs us) (h:sp (vs++dvs) H Q E):wpAny (model X.prog X.w) X.A (call (.ref f) us) (EP X pz σ Q) X.xe s:=by
 have b:=r.append hd;have i:(us++ds).length=ps.length:=by rw[<-b.length];exact F.len _ _ _ _ h
 refine Uy<|XF (F.run X.A X.stack s H ⟨us,[]⟩ _ _ Q E g I.env0 (j s us I.kIn i) b h) λr c a=>?_;cases r with
 |error e=>exact hx pz σ H s e c I a
 |ok l=>
  cases l with
  |ret u=>exact I.after a
  |next=>exact False.elim a
  |brk=>exact False.elim a
  |cont=>exact False.elim a
def nu(F:FnOk X.prog X.w X.K X.mg X.base CX k f fd ps sp)(j:Room k X.A)(o:Gl X x)(l:X.mg x=some (.ref f))(m:PySem.W.keepIn X.K (.ref f)=true)(u:Binds X.K fd ps ds)(hd:Vals dvs ds)(hx:jJ CX X E)
  (y:PA X (e::es) t) (b:nDb x:=by decide) (he:starEach (e::es) X.env=(false,eval e X.env)::starEach es X.env:=by rfl) (a:(backTo pos<|starEach es X.env).any (·.1)=false:=by rfl) :
  PE X (.Call (.Name x p) (e::es) [] pos) (xX sp dvs E t):=by
 intro i s g H Q I h;refine Xy<|nc I o l ?_ b;refine Us I.ok.mod.kin m (bw (y pos i s g H _ I h) λB C z J c r q=>⟨c.kIn,?_⟩) he a;exact xh F j u hd hx c r q
def zc{pl}(he:PE X o ta)(c:Cls X.K C)(z:Meth X.K C m f)(F:FnOk X.prog X.w X.K X.mg X.base CX k f fd ps sp)(P:Room k X.A)(R:Binds X.K fd ps ds)(hd:Vals dvs ds)(hx:jJ CX X E)(S:PA X (e::es) t)
  (b:starEach (e::es) X.env=(false,eval e X.env)::starEach es X.env:=by rfl) (g:(backTo pos<|starEach es X.env).any (·.1)=false:=by rfl)
  (O:eval (.Call (.Attribute o m apos) (e::es) [] pos) X.env=(do
   let y <-eval o X.env
   standAt apos.atName
   let (f,first) <-holding [y]<|getMethod y m pl
   callWith pos f first (backTo pos<|starEach (e::es) X.env)<|backToKw pos<|keywordEach [] X.env):=by rfl) :
  PE X (.Call (.Attribute o m apos) (e::es) [] pos) (uE C m sp dvs E ta t):=by
 intro p s j H Q I h;refine PySem.W.methodCall_KW (bw (he p s j H _ I h) λu L x Y J M i=>?_) O;obtain⟨a,dx,fs,T,U,l,q⟩:=i;subst T;obtain rfl:u=Value.ref a:=M;refine nJ J U c z l ?_;refine Us I.ok.mod.kin z.kp (bw (S pos p L j Y _ J q) λus Z vs H2 B r N=>⟨B.kIn,?_⟩) b g;exact xh (vs:=.ref a::vs) F P R hd hx B (.cons rfl r) N
def A7{pl}(he:PE X o ta)(c:Cls X.K C)(i:Meth X.K C m f)(F:FnOk X.prog X.w X.K X.mg X.base CX k f fd ps sp)(B:Room k X.A)(J:Binds X.K fd ps ds)(hd:Vals dvs ds)(hx:jJ CX X E)
  (z:eval (.Call (.Attribute o m apos) [] [] pos) X.env=(do
   let g <-eval o X.env
   standAt apos.atName
   let (f,first) <-holding [g]<|getMethod g m pl
   callWith pos f first (backTo pos<|starEach [] X.env)<|backToKw pos<|keywordEach [] X.env):=by rfl) :
  PE X (.Call (.Attribute o m apos) [] [] pos) (uE C m sp dvs E ta wc):=by
 intro y s j H Q I h;refine PySem.W.methodCall_KW (bw (he y s j H _ I h) λu N x P e p b=>?_) z;obtain⟨a,O,fs,L,M,l,q⟩:=b;subst L;obtain rfl:u=Value.ref a:=p;refine nJ e M c i l ?_;exact PySem.W.callWith_K0 e.kIn i.kp<|xh (vs:=[.ref a]) F B J hd hx e (.cons rfl .nil) q
structure Mk (K:PySem.W.Frag) (C f:Addr):Prop where
 makes:PySem.W.makesIn K C=true
 init:PySem.W.findIn K (.ref C) "__init__"=some (some (.ref f))
 fn:PySem.W.isFn K (.ref f)=true
 kp:PySem.W.keepIn K (.ref C)=true
def Ck{Q}(M:Mk X.K C f)(F:FnOk X.prog X.w X.K X.mg X.base CX k f fd ps sp)(l:Room (k+1) X.A)(o:Binds X.K fd ps ds)(hd:Vals dvs ds)
  (hx:jJ CX X E) (I:Inv X pz σ H s) (r:Vals vs us)
  (h:∀x dx,H x=none->H dx=none->dx≠x->sp (.ref x::(vs++dvs)) (upd (upd H dx<|.own x) x<|.ins C dx []) (λv H2=>v=.non/\Q (.ref x) H2) E) :
  wpAny (model X.prog X.w) X.A (call (.ref C) us) (EP X pz σ Q) X.xe s:=by
 have g:=h _ s.heap.objs.size (I.hok.fresh<|ZI _) (I.hok.fresh<|Yr _)<|Yz<|ZK _;have b:=Inv.made (C:=C) I;have c:Vals (V.ref _::(vs++dvs)) (Value.ref (s.heap.objs.size+1)::(us++ds)):=.cons rfl<|r.append hd;have m:(Value.ref (s.heap.objs.size+1)::us++ds).length=ps.length:=by have e:=c.length;rw[F.len _ _ _ _ g]at e;exact e.symm
 refine Uy<|DD I.kIn M.makes M.init (Vu.mp M.fn)<|XF (F.run _ X.stack _ _ ⟨Value.ref _::us,[]⟩ _ _ _ E (l.make C us [])
  (b.env0.make C us []) (o _ _ b.kIn m) c g) λr i a=>?_
 cases r with
 |error e=>exact hx pz σ _ _ e i b a
 |ok p=>
  cases p with
  |ret u=>
   obtain⟨v,B,z,j,y,q⟩:=b.after a;subst y;exact⟨j,⟨V.ref _,B,z,rfl,q⟩⟩
  |next=>exact False.elim a
  |brk=>exact False.elim a
  |cont=>exact False.elim a
def yy(M:Mk X.K C f)(F:FnOk X.prog X.w X.K X.mg X.base CX k f fd ps sp)(j:Room (k+1) X.A)(m:Gl X x)(l:X.mg x=some (.ref C))(o:Binds X.K fd ps ds)(hd:Vals dvs ds)(hx:jJ CX X E)
  (u:PA X (e::es) t) (b:nDb x:=by decide) (he:starEach (e::es) X.env=(false,eval e X.env)::starEach es X.env:=by rfl) (a:(backTo pos<|starEach es X.env).any (·.1)=false:=by rfl) :
  PE X (.Call (.Name x p) (e::es) [] pos) (Lc C sp dvs E t):=by
 intro i s g H Q I h;refine Xy<|nc I m l ?_ b;refine Us I.ok.mod.kin M.kp (bw (u pos i s g H _ I h) λz B y J c r q=>⟨c.kIn,?_⟩) he a;exact Ck M F j o hd hx c r q
end
section
variable   {k:Nat}   {ks:List Str}  {E:XK}  {kpos:Pos}   {kws:List Keyword}  {t tk:TA}{nm:Option Str}
variable{g:List Value->List Value->List Value}{gV:List V->List V->List V}
end
structure FnScope (N P:List Str) (sc:Scope):Prop where
 kind:sc.kind=.function
 co:sc.isCoroutine=false
 gen:sc.isGenerator=false
 nd:N.Nodup
 pre:N.take P.length=P
 par:∀x∈P,sc.names.lookup x=some .local\/sc.names.lookup x=some .cell
 nofree:∀y∈sc.names,y.2≠.free
theorem qG{a} :∀{binds}{m:Ks},(∀v,(x,v)∉binds)->bindL a binds m x=m x
 |[],_,_=>rfl
 |(n,v)::r,m,h=>by
  unfold bindL;rw[qG λw b=>h w<|Yd _ b];split
  ·have:x≠n:=by rintro rfl;exact h v Ye
   simp[this]
  ·rfl
theorem qM{a} :∀{binds}{m:Ks},(∀v,(x,v)∉binds)->bindC a binds m x=m x
 |[],_,_=>rfl
 |(n,v)::r,m,h=>by
  unfold bindC;rw[qM λw b=>h w<|Yd _ b];split
  ·rfl
  ·have:x≠n:=by rintro rfl;exact h v Ye
   simp[this]
theorem rC{a}{v}:∀{P:List Str}{vs}{i:Nat}{m:Ks},P.Nodup->P[i]?=some x->vs[i]?=some v->a x=some .local->
  bindL a (P.zip vs) m x=some v
 |[],_,_,_,_,h,_,_=>by simp at h
 |_::_,[],_,_,_,_,h,_=>by simp at h
 |p::P,w::vs,0,m,nd,h1,h2,hk=>by
  simp at h1 h2;subst h1;subst h2;show bindL a ((p,w)::P.zip vs) m p=_;unfold bindL;rw[qG λv b=>(YT.mp nd).1 (Uj b).1,Yj hk];simp
 |p::P,w::vs,i+1,m,nd,h1,h2,hk=>by
  unfold bindL;exact rC (YT.mp nd).2 (by simpa using h1) (by simpa using h2) hk
theorem rV{a}{v}:∀{P:List Str}{vs}{i:Nat}{m:Ks},P.Nodup->P[i]?=some x->vs[i]?=some v->a x≠some .local->
  bindC a (P.zip vs) m x=some v
 |[],_,_,_,_,h,_,_=>by simp at h
 |_::_,[],_,_,_,_,h,_=>by simp at h
 |p::P,w::vs,0,m,nd,h1,h2,hk=>by
  simp at h1 h2;subst h1;subst h2;show bindC a ((p,w)::P.zip vs) m p=_;unfold bindC;rw[qM λv b=>(YT.mp nd).1 (Uj b).1,Yl hk];simp
 |p::P,w::vs,i+1,m,nd,h1,h2,hk=>by
  unfold bindC;exact rV (YT.mp nd).2 (by simpa using h1) (by simpa using h2) hk
def start(N:List Str)(vs:List V):St:=vs.map some++List.replicate (N.length-vs.length) none
noncomputable def gA(CX:CXT)(P:Program)(w:World)(K:Kq)(mg:Ks)(base:Heap)(N:List Str)(qual:Str)(scope:Scope)(f:Addr)(cd:Value)(A:Around)(outer:List Env)(s:Shared)(H:Hp)(E:XK):Cx where
 prog:=P
 w:=w
 K:=K
 mg:=mg
 base:=base
 A:=A.deeper<|envOfC qual scope s.heap.objs.size f cd
 N:=N
 s₀:=s
 H₀:=H
 env:=envOfC qual scope s.heap.objs.size f cd
 outer:=outer
 stack:=envOfC qual scope s.heap.objs.size f cd::outer
 ex:=[]
 calm:=true
 fn:=λ_=>true
 pn:=[]
 xe:=λe b=>wpAny (model P w) (A.deeper<|envOfC qual scope s.heap.objs.size f cd) (leaving (envOfC qual scope s.heap.objs.size f cd) e) (λ_ a=>CX outer H s E e a) (λc a=>CX outer H s E c a) b
def ve{s:Scope}(h:s.names.lookup x=some .cell):∃c,(cellsFrom n s.names []).lookup x=some c:=by have q:=XT s.names n []<|.inl h;exact ZG.mp q
theorem rq{P}{E}  
  (S:FnScope N ps scope) (hd:A.handled=none) (e0:Env0 P w K mg base A outer s H) (Q:vs.length=ps.length) (r:Vals vs us)
  (x:InCallC s s.heap.objs.size (bindL (envOfC qual scope s.heap.objs.size f cd).kindOf (ps.zip us) λ_=>none) (cellsFrom (s.heap.objs.size+1) scope.names []) (bindC (envOfC qual scope s.heap.objs.size f cd).kindOf (ps.zip us) λ_=>none) s1) :
  Inv (gA CX P w K mg base N qual scope f cd A outer s H E) [] (start N vs) H s1:=by
 have L:ps.length<=N.length:=by have:=YR List.length S.pre;rw[Zu]at this;lia
 obtain⟨B,O,rfl,I⟩:=x.done;have j:∀b:Addr,b∉(gA CX P w K mg base N qual scope f cd A outer s H E).ex:=λb z=>absurd (show b∈([])from z)<|by simp
 refine⟨⟨e0.mod,S.kind,rfl,rfl,Yr _,λy z c B g=>?_,λy hy=>?_,λy c _ h=>?_,λ_=>hd,Around.frames_deeper e0.frames,.inr ⟨rfl,rfl⟩,λb z=>absurd z<|j b,e0.bs,e0.bsz,λb _ _=>j b,λb z=>absurd z<|j b,e0.funs,e0.frf,e0.tab⟩,
  rfl,e0.bare,Un.kept I,⟨_,x.toInCall.ns,λi y v B g R=>?_⟩,λy c h=>⟨_,x.cell y c h⟩,e0.hok.fresh<|Yr _,λy c h=>?_,λp m=>absurd (show p∈([])from m)<|by simp,e0.hok.kept I,?_⟩
 ·exact name_of_addr x.apart (ZA B)<|ZA g
 ·have hy:=hy;rcases hy with hy|hy
  ·exact ve hy
  ·exact absurd rfl<|S.nofree _<|ZA hy
 ·exact ZP<|x.above y c<|ZA h
 ·have o:i<vs.length:=by
   unfold start at g;by_cases o:i<vs.length
   ·exact o
   ·rw[ZO<|by simpa using o]at g;rw[XG]at g;split at g<;>cases g
  have M:vs[i]?=some v:=by
   unfold start at g;rw[ZS<|by simpa using o,Yo]at g;cases e:vs[i]? with
   |none=>rw[e]at g;cases g
   |some a=>rw[e]at g;cases g;rfl
  obtain⟨u,C,J⟩:=r.get M;have m:ps[i]?=some y:=by rwa[<-S.pre,List.getElem?_take_of_lt<|by lia]
  have l:ps.Nodup:=by rw[<-S.pre];exact S.nd.sublist<|List.take_sublist _ _
  refine⟨u,J,?_⟩;rcases S.par y (YJ m)with k|k
  ·exact .inl ⟨k,rC l m C k⟩
  ·obtain⟨c,e⟩:=ve (n:=s.heap.objs.size+1) k;refine .inr ⟨.inl k,c,e,?_⟩;have q:=x.cell y c e;rwa[rV l m C<|by show scope.names.lookup y≠_;rw[k];decide]at q
 ·exact e0.hok.fresh<|ZP<|x.above y c<|ZA h
 ·unfold start;show _=N.length;rw[Yp,Yc,YL];lia
def G2{P}{p}{L kV doc pm cdv ct oc}
     (T:K.lookup f=some ⟨oc,od,.func<|PySem.W.fnOf name qual p body scope L kV doc pm an cdv ct,osl⟩) (hcd:PySem.W.codeIn K cdv qual=true) (S:FnScope N ps scope)
  (len:∀vs H Q E,sp vs H Q E->vs.length=ps.length)
  (c:∀A outer s H vs Q E,Room k (A.deeper<|envOfC qual scope s.heap.objs.size f cdv)->sp vs H Q E->
   ∃t,PSs (gA CX P w K mg base N qual scope f cdv A outer s H E) body t/\t {nx:=λ_ H'=>Q .non H',rt:=Q} (start N vs) H) :
  FnOk P w K mg base CX (k+1) f (PySem.W.fnOf name qual p body scope L kV doc pm an cdv ct) ps sp:=by
 refine⟨len,λA outer s H M R vs Q E B j hb r i=>?_⟩;have Z:=len _ _ _ _ i;have O:=j.mod.kin.keeps λb o e=>(j.bs b o e).1
 have z:=j.mod.nolimit.keeps λb o e=>(j.bs b o e).1
 have h:∀y∈ps.zip R,scope.names.lookup y.1=some .local\/(scope.names.lookup y.1=some .cell/\((cellsFrom (s.heap.objs.size+1) scope.names []).lookup y.1).isSome=true):=λ⟨n,v⟩ U=>by
  rcases S.par n (Uj U).1 with q|q
  ·exact .inl q
  ·exact .inr ⟨q,XT _ _ _<|.inl q⟩
 refine codeAny_call_function B.depth (O _ _ T) rfl S.co S.gen rfl (PySem.W.codeRec_of O hcd)<|hb _ _ _ _ ?_;refine wpAny_newFunctionEnv_cells S.kind h λenv he C x=>?_;subst he;refine⟨z.keeps x.toInCall.keep,codeAny_func ?_⟩;obtain⟨t,X,Y⟩:=c A outer s H vs Q E (B.deeper _) i;have I:Inv (gA CX P w K mg base N qual scope f cdv A outer s H E) [] _ H C:=rq S B.hd j Z r x;refine Xd (X [] C _ H _ I Y) (λfl l g=>?_) λe l g=>g;have fin:∀{a}{H'}{v}{u},Inv (gA CX P w K mg base N qual scope f cdv A outer s H E) [] a H' l->RelV v u->Q v H'->CE outer P w H s Q u l:=
  λ{a H' v u} J m q=>⟨v,H',J.os,J.bare,J.base,J.hok,m,q⟩
 cases fl with
 |ret u=>
  obtain⟨v,a,H',J,m,q⟩:=g;exact fin J m q
 |next=>
  obtain⟨a,H',J,q⟩:=g;exact fin (v:=V.non) J rfl q
 |brk=>
  obtain⟨_,_,_,q⟩:=g;exact False.elim q
 |cont=>
  obtain⟨_,_,_,q⟩:=g;exact False.elim q
section
variable      {t:TA}{id T:String}{r:List V->Hp->VK->Prop}
def tCB(r:List V->Hp->VK->Prop)(t:TA):TE:=λa H Q=>t a H λb c=>r b c Q
def iL(w:CallR X (.builtin id) r)(o:Gl X x)(m:X.mg x=none)(hv:bootBuiltins x=some (.builtin id))(y:PA X (e::es) t)(l:x ≠ "__name__":=by decide)(b:nDb x:=by decide)
  (he:starEach (e::es) X.env=(false,eval e X.env)::starEach es X.env:=by rfl) (a:(backTo pos<|starEach es X.env).any (·.1)=false:=by rfl):PE X (.Call (.Name x p) (e::es) [] pos) (tCB r t):=by
 intro f s c H Q I h;refine Xy<|nS I o m hv ?_ l b;exact PyProof.Rows.callWith_builtin1 (bw (y pos f s c H _ I h) λu i g A z j q=>w f i c A g u Q z j q) he a
def eQ(w:CallR X (.type T) r)(o:Gl X x)(m:X.mg x=none)(hv:bootBuiltins x=some (.type T))(y:PA X (e::es) t)(l:x ≠ "__name__":=by decide)(b:nDb x:=by decide)
  (he:starEach (e::es) X.env=(false,eval e X.env)::starEach es X.env:=by rfl) (a:(backTo pos<|starEach es X.env).any (·.1)=false:=by rfl):PE X (.Call (.Name x p) (e::es) [] pos) (tCB r t):=by
 intro f s c H Q I h;refine Xy<|nS I o m hv ?_ l b;exact Xt (bw (y pos f s c H _ I h) λu i g A z j q=>w f i c A g u Q z j q) he a
end
end L2
namespace HT
open PySem PyProof.Rows
def rcLt_int A s a t c u prog w E Q(h:Q (.bool (decide (a<c))) s) :
  wpAny (model prog w) A (richCompare .Lt (.int a t)<|.int c u) Q E s:=
 PyProof.Rows.lt_int h
section
open PySem.SeqAt
open PySem.AutoSeq1 (wpAny_loadPart')
open PySem.MeetsSeq PySem.MeetsSeq2 PySem.MeetsSeq3
end
def cat_tup{t b}{vs a}(y:IsTup s.heap t vs.toArray)(z:IsTup s.heap b a.toArray)(hv:vs≠[])
  (h1:a=[]->Q (.ref t) s) (h2:a≠[]->Q (.ref s.heap.objs.size) {s with heap:=s.heap.push {cls:=.type "tuple",data:=.seq (vs++a).toArray} })
  (hsz:vs.length+a.length<=sizeLine):wpAny (model prog w) A (binaryOp .Add (.ref t)<|.ref b) Q E s:=by
 obtain⟨⟨cls,u,data,o⟩,l,q,n,p⟩:=id y;obtain⟨⟨x,i,m,c⟩,h,g,n2,f⟩:=id z;subst q p g f;have e:vs.toArray++a.toArray=(vs++a).toArray:=by simp
 by_cases j:a=[]
 ·exact concat_meets ⟨_,l,rfl⟩ ⟨_,h,rfl⟩ noFill_tuple_add seq_tuple_add PySem.F.slot_tuple_add PySem.F.entry_tuple_add (PySem.F.args_tuple_add_2 _ _)
   (tuple_addW1 t b vs.toArray a.toArray n n2 u i o c (by simpa using hv)<|by simp[j]) ⟨l,h,h1 j⟩
 ·refine concat_meets ⟨_,l,rfl⟩ ⟨_,h,rfl⟩ noFill_tuple_add seq_tuple_add PySem.F.slot_tuple_add PySem.F.entry_tuple_add (PySem.F.args_tuple_add_2 _ _)
   (tuple_addW2 t b vs.toArray a.toArray n n2 u i o c (by simpa using hv) (by simpa using j)<|by rwa[List.size_toArray,List.size_toArray]) ⟨l,h,?_⟩
  rw[e];exact h2 j
noncomputable def sIx(n d:Nat):Option Int->Nat
 |none=>d
 |some v=>if v<0 then(v+n).toNat else min v.toNat n
end HT
namespace L2
open PySem PySem.Spec PyProof.Rows
abbrev TO:=St->Hp->(Option Int->Hp->Prop)->Prop
def PO(X:Cx)(e:Option Expr)(t:TO):Prop:=
 ∀(p:Kp) s (a:St) H Q,Inv X p a H s->t a H Q->
  wpAny (model X.prog X.w) X.A (evalPart e X.env) (λu c=>∃o b,Inv X p a b c/\IsPart u o/\Q o b) X.xe s
def Fv:TO:=λ_ H Q=>Q none H
def JE(t:TE):TO:=λa H Q=>t a H λx b=>∃i,x=.int i/\Q (some i) b
section
variable    {lo hi:Option Expr}{tl th:TO}{p2:Pos}
def Ej:PO X none Fv:=by intro p s a H Q I h;exact Yh ⟨none,H,I,.none,h⟩
def Gd(h:PE X e te):PO X (some e) (JE te):=by intro p s a H Q I f;refine bw (h p s a H _ I f) λu l x j g b c=>?_;obtain⟨i,rfl,q⟩:=c;obtain⟨t,rfl⟩:=b;exact⟨some i,j,g,.int i t,q⟩
def SlR(X:Cx)(r:V->Option Int->Option Int->Hp->VK->Prop):Prop:=
 ∀(p:Kp) s (a:St) H x v c b lo h e Q,Inv X p a H s->RelV x v->s.heap.IsSliceOf e c b .none->IsPart c lo->IsPart b h->r x lo h H Q->
  ∃T i,typeLookup (.type T) "__getitem__"=pure (some<|.builtin i)/\s.TypeIs v T/\wpAny (model X.prog X.w) X.A (getItem v<|.ref e) (EP X p a Q) X.xe s
def tSl(r:V->Option Int->Option Int->Hp->VK->Prop)(te:TE)(tl th:TO):TE:=λa H Q=>te a H λx e=>tl a e λl c=>th a c λu b=>r x l u b Q
def Cm(L:SlR X r)(he:PE X e te)(M:PO X lo tl)(J:PO X hi th):PE X (.Subscript e (.Slice lo hi none p2) pos) (tSl r te tl th):=by
 intro p s c H Q I h;refine Subscript_<|bw (he p s c H _ I h) λv m x Z U o B=>?_;refine wpAny_Slice<|bw (M p m c Z _ U B) λg j l Y S E z=>bw (J p j c Y _ S z) λf a u i R C y=>?_;refine Yh ?_;have P:Inv X p c i {a with heap:=a.heap.push {cls:=.type "slice",data:=.fields #[g,f,.none]} }:=R.kept λb ob q=>Yf _ q
 obtain⟨T,id,O,K,N⟩:=L p {a with heap:=a.heap.push {cls:=.type "slice",data:=.fields #[g,f,.none]} } c i x v g f l u a.heap.objs.size Q P o (Heap.IsSliceOf.new ..) E C y;exact tail_any K O N<|by with_unfolding_all rfl
def Ak(xs:List V)(lo hi:Option Int):List V:=(xs.drop<|HT.sIx xs.length 0 lo).take<|HT.sIx xs.length xs.length hi-HT.sIx xs.length 0 lo
theorem uL xs lo hi:(Ak xs lo hi).length<=xs.length:=by unfold Ak;rw[Zu,XO];lia
def Kw(K:Kq):R2:=λx y H Q=>∃a b e c,x=.ref a/\y=.ref b/\SqT K H a e/\SqT K H b c/\e≠[]/\e.length+c.length<=sizeLine /\
 (c=[]->Q (.ref a) H)/\(c≠[]->∀p,H p=none->Q (.ref p) (upd H p<|.tup<|e++c))
def Vals.nil_iff(r:Vals xs us):us=[]↔xs=[]:=by
 cases r with
 |nil=>simp
 |cons _ _=>simp
def Gq:OpR X (binaryOp .Add) (Kw X.K):=by intro O s N H x y v u Q I m l h;obtain⟨a,b,j,g,rfl,rfl,M,L,J,f,A,p⟩:=h;cases m;cases l;obtain⟨E,e,C,_⟩:=I.tuple M;obtain⟨i,c,B,_⟩:=I.tuple L;refine HT.cat_tup C B (λz=>J<|e.nil_iff.mp z) (λz=>⟨.ref a,H,I,rfl,A<|c.nil_iff.mp z⟩) (λz=>?_) (by rwa[<-e.length,<-c.length]);refine⟨.ref s.heap.objs.size,_,I.laid (λb P q=>Yf _ q) (Yr _) ?_,rfl,p (λw=>z<|c.nil_iff.mpr w) _<|I.hok.fresh<|Yr _⟩;exact⟨by rwa[Yp],_,e.append c,IsTup.new _ _,NoD.new _ _⟩
end
noncomputable def ixN(n:Nat)(i:Int):Option Nat:=if 0<=i then(if i<n then some i.toNat else none)else if -n<=i then some (i+n).toNat else none
def atI{a:Type}(xs:List a)(i:Int):Option a:=(ixN xs.length i).bind λj=>xs[j]?
theorem D7{i}(h:ixN n i=some j):seqIndex? i n=some j/\j<n/\-n<=i/\i<n:=by
 unfold ixN at h;by_cases b:0<=i
 ·rw[Yj b]at h;by_cases a:i<n
  ·rw[Yj a]at h;have e:=Yv h;exact⟨by rw[seqIndex_of b a,e],by lia,by lia,a⟩
  ·rw[Yl a]at h;cases h
 ·rw[Yl b]at h;by_cases a:-n<=i
  ·rw[Yj a]at h;have e:=Yv h;exact⟨by rw[seqIndex_neg (by lia) a,e],by lia,a,by lia⟩
  ·rw[Yl a]at h;cases h
def t_{a}{xs}{i}{v:a}(h:atI xs i=some v):∃j,seqIndex? i xs.length=some j/\xs[j]?=some v/\j<xs.length/\-xs.length<=i/\i<xs.length:=by
 obtain⟨j,e,h⟩:=YE.mp h;obtain⟨g,f,c,b⟩:=D7 e;exact⟨j,g,h,f,c,b⟩
theorem D8{a}{xs}{v:a}(h:xs[j]?=some v):atI xs j=some v:=by
 have b:=(Yn.mp h).1;have e:ixN xs.length j=some j:=by unfold ixN;rw[Yj<|by lia,Yj<|by lia];simp
 unfold atI;rwa[e]
theorem oI{a}xs(v:a):atI (xs++[v]) (-1)=some v:=by
 have h:(xs++[v]).length=xs.length+1:=by simp
 have e:ixN (xs++[v]).length (-1)=some xs.length:=by
  unfold ixN;rw[h,Yl<|by decide,Yj<|by lia]
  congr 1
  lia
 unfold atI;rw[e];simp
def y9(b:Expr):Prop:=∀o i,subscripted b false o i=operate [o,i] (getItem o i)
def IxR(X:Cx)(r:R2):Prop:=
 ∀b a (p:Kp) s (c:St) H x y v u Q,Inv X p c H s->RelV x v->RelV y u->r x y H Q->
  subscripted a false v u=operate [v,u] (getItem v u)->wpAny (model X.prog X.w) X.A (subscriptTail b a v u) (EP X p c Q) X.xe s
def MtR(X:Cx)(id:String)(r:V->List V->Hp->VK->Prop):Prop:=
 ∀(p:Kp) s (a:St) H x b v u Q,Inv X p a H s->RelV x v->Vals b u->r x b H Q->
  wpAny (model X.prog X.w) X.A (call (.builtin id) (v::u)) (EP X p a Q) X.xe s
section
variable  {a:Expr}  
def IxR.or(h:IxR X r)(h':IxR X g):IxR X (λx y H Q=>r x y H Q\/g x y H Q):=by
 intro a b p s c H x y v u Q I f e q i;rcases q with q|q
 ·exact h a b p s c H x y v u Q I f e q i
 ·exact h' a b p s c H x y v u Q I f e q i
def Ld(i:IxR X r)(l:PE X a ta)(j:PE X b tb)(hs:y9 b):PE X (.Subscript a b pos) (tOp r ta tb):=by intro p s c H Q I h;exact Subscript_<|HR l j I h λv u e x y o m g f q=>i a b p e c o x y v u Q m g f q<|hs _ _
def KR(K:Kq):R2:=λx y H Q=>∃p a i v,x=.ref p/\y=.int i/\SqL K H p a/\atI a i=some v/\Q v H
def JF(K:Kq):R2:=λx y H Q=>∃p a i v,x=.ref p/\y=.int i/\SqT K H p a/\atI a i=some v/\Q v H
def Lk:R2:=λx y H Q=>∃z i c,x=.str z/\y=.int i/\z.length<=sizeLine/\atI z.cps.toList i=some c/\Q (.str ⟨#[c]⟩) H
theorem Fm:IxR X (KR X.K):=by
 intro b c o s m H x y v u Q I L J h A;obtain⟨p,T,i,z,rfl,rfl,M,O,q⟩:=h;cases L;obtain⟨t,rfl⟩:=J;obtain⟨g,r,f,U⟩:=I.list M;obtain⟨j,a,S,Z,R,P⟩:=t_ O;obtain⟨w,C,e⟩:=r.get S;have N:=r.length;have Y:=k8;have fin:EP X o m Q w s:=⟨z,H,I,e,q⟩
 by_cases B:0<=i
 ·have l:i.toNat=j:=by rw[seqIndex_of B P]at a;exact Yv a
  exact item_listR f.isList B (by lia) (by rw[l];simpa using C) fin A
 ·have l:(i+g.toArray.size).toNat=j:=by rw[seqIndex_neg (by lia) R]at a;rw[YA,<-N];exact Yv a
  exact subscriptTail_builtinR f.isList.typeIs slot_list_getitem.lookup
   (wpAny_getItem_list_neg f.isList (by lia) (by rw[YA]<;>lia) (by lia) (by rw[l];simpa using C) ⟨rfl,fin⟩) A
def HH:IxR X (JF X.K):=by
 intro a b f s e H x y v u Q I o m h B;obtain⟨p,O,i,z,rfl,rfl,C,J,q⟩:=h;cases o;obtain⟨t,rfl⟩:=m;obtain⟨A,r,g,P⟩:=I.tuple C;obtain⟨j,M,L,U,T,S⟩:=t_ J;obtain⟨w,N,c⟩:=r.get L;have E:=r.length;have R:=k8;have fin:EP X f e Q w s:=⟨z,H,I,c,q⟩
 exact subscriptTail_builtinR g.typeIs slot_tuple_getitem.lookup
  (getItem_tuple g (by lia) (by lia) (by rwa[YA,<-E]) (by simpa using N) ⟨rfl,fin⟩) B
theorem Ja:IxR X Lk:=by
 intro a b K s E H x y v u Q I g f h l;obtain⟨z,i,c,rfl,rfl,L,o,q⟩:=h;obtain⟨t,rfl⟩:=g;obtain⟨J,rfl⟩:=f;obtain⟨j,e,A,N,w,p⟩:=t_ o;have m:z.cps.toList.length=z.length:=by simp[Str.length]
 rw[m]at e w p;have M:=k8;exact tail_any (typeIs_str s z t) slot_str_getitem.lookup (getItem_str (by
  have C:decide (i < -(2^63))=false:=YB (by lia);have B:decide (i ≥ 2^63)=false:=YB (by lia);rw[C,B,XH]) (by rw[e];simpa using A) ⟨.str ⟨#[c]⟩,H,I.tok _,⟨_,rfl⟩,q⟩) l
def rIx(K:Kq):R2:=λx y H Q=>KR K x y H Q\/JF K x y H Q\/Lk x y H Q
def Ir:IxR X (rIx X.K):=Fm.or<|HH.or Ja
theorem uj lo hi n:(sliceBounds lo hi none n).1=(HT.sIx n 0 lo)/\(sliceBounds lo hi none n).2.1=(HT.sIx n n hi)/\(sliceBounds lo hi none n).2.2=1:=by
 refine⟨?_,?_,rfl⟩
 ·cases lo with
  |none=>simp[sliceBounds,HT.sIx]
  |some i=>
   simp[sliceBounds,HT.sIx];by_cases h:i<0
   ·simp[h]<;>lia
   ·simp[h]<;>lia
 ·cases hi with
  |none=>simp[sliceBounds,HT.sIx]
  |some i=>
   simp[sliceBounds,HT.sIx];by_cases h:i<0
   ·simp[h]<;>lia
   ·simp[h]<;>lia
def pT(its:List Value)lo hi:slicePick its.toArray lo hi none=((its.drop (HT.sIx its.length 0 lo)).take (HT.sIx its.length its.length hi-HT.sIx its.length 0 lo)).toArray:=by obtain⟨b,a,h⟩:=uj lo hi its.toArray.size;unfold slicePick;rw[b,a,h];simp only[sliceRange_one,pick_run]<;>rfl
def L8(K:Kq):V->Option Int->Option Int->Hp->VK->Prop:=λx lo h H Q=>∃a b,x=.ref a/\SqL K H a b/\∀p,H p=none->Q (.ref p) (upd H p<|.lst<|Ak b lo h)
theorem ES:SlR X (L8 X.K):=by intro C s y H x v A z lo f B Q I i w j p h;obtain⟨a,c,rfl,u,q⟩:=h;cases i;obtain⟨l,r,g,m⟩:=I.list u;have e:=r.length;refine⟨"list",_,slot_list_getitem.lookup,g.isList.typeIs,?_⟩;refine wpAny_getItem_list_slice g.isList w j p .none (by simp) ?_ (by rw[YA]<;>lia);rw[pT,<-e];refine⟨.ref s.heap.objs.size,_,I.laid (λb E q=>Yf _ q) (Yr _) ?_,rfl,q _<|I.hok.fresh<|Yr _⟩;exact⟨YD (uL c lo f) m,_,0,(r.drop _).take _,Yq _ rfl⟩
theorem sG:CallR X (.builtin "len") (λxs H Q=>∃p ys,xs=[.ref p]/\(SqL X.K H p ys\/SqT X.K H p ys)/\Q (.int ys.length) H):=by
 intro l s g H xs j Q I r h;obtain⟨p,ys,rfl,hq,q⟩:=h;obtain⟨u,rfl,e⟩:=eV r;cases e;have m:=k8;rcases hq with hq|hq
 ·obtain⟨i,b,c,f⟩:=I.list hq;have a:=b.length;exact Calls.call_len_list c.isList (by simp<;>lia) ⟨.int ys.length,H,I.tok _,⟨s.toks+1,by rw[YA,a]⟩,q⟩
 ·obtain⟨i,b,c,f⟩:=I.tuple hq;have a:=b.length;exact len_tuple c (by simp<;>lia) ⟨.int ys.length,H,I.tok _,⟨s.toks+1,by rw[YA,a]⟩,q⟩
theorem sE:CallR X (.builtin "len") (λxs H Q=>∃z,xs=[.str z]/\z.length<=sizeLine/\Q (.int z.length) H):=by intro p s a H xs b Q I r h;obtain⟨z,rfl,c,q⟩:=h;obtain⟨u,rfl,t,rfl⟩:=eV r;have e:=k8;exact len_str (by lia) ⟨.int z.length,H,I.tok _,⟨_,rfl⟩,q⟩
def CallR.or{f}{r c}(h:CallR X f r)(h':CallR X f c):CallR X f (λxs H Q=>r xs H Q\/c xs H Q):=by
 intro p s a H xs u Q I b q;rcases q with q|q
 ·exact h p s a H xs u Q I b q
 ·exact h' p s a H xs u Q I b q
def r_:CallR X (.type "list") (λxs H Q=>∃p ys,xs=[.ref p]/\(SqL X.K H p ys\/SqT X.K H p ys)/\∀l,H l=none->Q (.ref l) (upd H l (.lst ys))):=by
 intro J s C H xs L Q I r h;obtain⟨p,ys,rfl,hq,q⟩:=h;obtain⟨u,rfl,E⟩:=eV r;cases E;have fin:∀i,Vals ys i->ys.length<=sizeLine->∀a f,(∀b B,s.heap.get? b=some B->a.get? b=some B)->
   a.get? s.heap.objs.size=some {cls:=.type "list",dict:=none,data:=.seq i.toArray f,slots:=#[]}->EP X J C Q _ {s with heap:=a }:=λi c j a f g e=>
  ⟨.ref s.heap.objs.size,_,I.laid g (Yr _)<|show ObjOk X.prog X.w _ a _ (.lst ys)from⟨j,i,f,c,e⟩,rfl,q _<|I.hok.fresh<|Yr _⟩
 rcases hq with hq|hq
 ·obtain⟨i,c,x,j⟩:=I.list hq;have m:=c.length;obtain⟨o,y,A,n,z⟩:=x.isList;exact call_list_seq p (.inl rfl) y A z (λa f g e=>fin i c j a f g e)<|by simp<;>lia
 ·obtain⟨i,c,x,j⟩:=I.tuple hq;have m:=c.length;obtain⟨o,y,A,n,z⟩:=x;exact call_list_seq p (.inr rfl) y A z (λa f g e=>fin i c j a f g e)<|by simp<;>lia
def qm:CallR X (.type "tuple") (λxs H Q=>∃p ys,xs=[.ref p]/\((SqL X.K H p ys/\∀l,H l=none->Q (.ref l) (upd H l (.tup ys)))\/(SqT X.K H p ys/\Q (.ref p) H))):=by
 intro m s j H xs E Q I r h;obtain⟨p,ys,rfl,h⟩:=h;obtain⟨u,rfl,A⟩:=eV r;cases A;rcases h with⟨g,q⟩|⟨g,q⟩
 ·obtain⟨i,c,f,x⟩:=I.list g;have y:=c.length;refine call_tuple_list f.isList (λa B=>?_) (by simp<;>lia);have z:=I.kept (t':=s.toks) B;have C:=
   z.laid (t':=s.toks) (λb o e=>Yf _ e) (Yr _)<|show ObjOk X.prog X.w _ _ _ (.tup ys)from⟨x,i,c,IsTup.new _ _,NoD.new _ _⟩
  exact⟨.ref a.objs.size,_,C,rfl,q _<|z.hok.fresh<|Yr _⟩
 ·obtain⟨i,c,f,x⟩:=I.tuple g;exact call_tuple_same f ⟨.ref p,H,I,rfl,q⟩
def tyV(K:Kq)(T:String)(x:V)(H:Hp):Prop:=match x with
 |.str _=>T = "str"
 |.int _=>T = "int"
 |.ref p=>(T = "list"/\∃b,SqL K H p b)\/(T = "tuple"/\∃o,K.lookup p=some o/\o.cls=.type "tuple"/\o.dict=none) \/
   (T = "dict"/\((∃a,H p=some (.dK a))\/∃a,H p=some (.dT a)))\/(T = "set"/\∃S n,H p=some (.set S n))
 |_=>False
def Jt{x}(I:Inv X pz σ H s)(r:RelV x v)(ty:tyV X.K T x H) :
  s.TypeIs v T/\∀a,v=.ref a->∃ob,s.heap.get? a=some ob/\ob.dict=none:=by
 cases x with
 |str z=>
  obtain⟨t,rfl⟩:=r;cases(show T = "str" from ty);exact⟨typeIs_str s z t,λ_ e=>nomatch e⟩
 |int i=>
  obtain⟨t,rfl⟩:=r;cases(show T = "int" from ty);exact⟨typeIs_int s i t,λ_ e=>nomatch e⟩
 |ref p=>
  cases r;rcases ty with⟨rfl,w,q⟩|⟨rfl,o,h,u,g⟩|⟨rfl,h⟩|⟨rfl,S,n,h⟩
  ·obtain⟨m,_,l,_⟩:=I.list q;refine⟨l.isList.typeIs,λa e=>?_⟩;cases e;obtain⟨o,n,e,c,g,_⟩:=l;exact⟨o,e,g⟩
  ·refine⟨⟨o,I.kIn p o h,u⟩,λa e=>?_⟩;cases e;exact⟨o,I.kIn _ o h,g⟩
  ·have z:∃o,s.heap.get? p=some o/\o.ExactDict:=by
    rcases h with⟨f,h⟩|⟨f,h⟩
    ·obtain⟨_,_,_,_,o,_,_,e,b,_⟩:=I.hok p _ h;exact⟨o,e,b⟩
    ·obtain⟨_,_,_,_,o,_,_,e,b,_⟩:=I.hok p _ h;exact⟨o,e,b⟩
   obtain⟨o,e,b⟩:=z;refine⟨⟨o,e,b.1⟩,λa j=>?_⟩;cases j;exact⟨o,e,b.2.1⟩
  ·obtain⟨o,_,_,_,e,b,_⟩:=I.hok p _ h;refine⟨⟨o,e,b.1⟩,λa j=>?_⟩;cases j;exact⟨o,e,b.2.1⟩
 |_=>exact False.elim ty
def Np(K:Kq)(T:String)(r:V->List V->Hp->VK->Prop)(to:TE):TE:=λb H Q=>to b H λx a=>tyV K T x a/\r x [] a Q
def tBM(K:Kq)(T:String)(r:V->List V->Hp->VK->Prop)(to:TE)(t:TA):TE:=λa H Q=>to a H λx b=>tyV K T x b/\t a b λc e=>r x c e Q
variable   {to:TE}{t:TA}   {T id:String}{r:V->List V->Hp->VK->Prop}
def bo(l:PlainAttrs T)(slot:Slot T name id)(c:typeOf (.builtin id)=pure (.type "method_descriptor"))(u:MtR X id r)(m:PE X o to)
  (b:attributeBase o name X.env (eval o X.env)=eval o X.env:=by rfl) (a:(apos.endLine == cpos.line)=true:=by rfl):PE X (.Call (.Attribute o name apos) [] [] cpos) (Np X.K T r to):=by
 intro p s f H Q I h;refine wpAny_Call_method0_late b a (bw (m p s f H _ I h) λv j x z i g e=>?_);obtain⟨ty,q⟩:=e;obtain⟨y,w⟩:=Jt i g ty;exact⟨T,id,l,slot,c,y,w,PySem.Calls.callWith_builtin rfl (PySem.evalArgs_none (u p j f z x [] v [] Q i g .nil q))⟩
def oJ(E:PlainAttrs T)(slot:Slot T name id)(i:typeOf (.builtin id)=pure (.type "method_descriptor"))(L:MtR X id r)(J:PE X o to)(M:PA X (e::es) t)
  (c:attributeBase o name X.env (eval o X.env)=eval o X.env:=by rfl)
  (f:((backTo cpos<|starEach (e::es) X.env).all (λx=>!x.1)&&(backToKw cpos<|keywordEach [] X.env).all (λx=>x.1.isSome)
   && decide ((e::es).length+([]:List Keyword).length+(if([]:List Keyword).isEmpty then 0 else 1)<30))=true:=by rfl)
  (b:(apos.endLine == cpos.line)=true:=by rfl) (hs:starEach (e::es) X.env=(false,eval e X.env)::starEach es X.env:=by rfl) (a:(backTo cpos<|starEach es X.env).any (·.1)=false:=by rfl) :
  PE X (.Call (.Attribute o name apos) (e::es) [] cpos) (tBM X.K T r to t):=by
 intro p s g H Q I h;refine wpAny_Call_method_late c f b rfl<|bw (J p s g H _ I h) λv z x S q l j=>?_;obtain⟨ty,C⟩:=j;obtain⟨O,N⟩:=Jt q l ty;refine⟨T,id,E,slot,i,O,N,?_⟩;have m:=M cpos p z g S _ q C;rw[hs]at m ⊢;refine Calls.callWith_builtin (by simp_all)<|Calls.evalArgs_plain ?_;exact bw m λw y u R P A B=>L p y g R x u v w Q P l A B
end
def MtM(X:Cx)(id:String)(r:V->List V->Hp->VK->Prop):Prop:=
 ∀(p:Kp) s (a:St) H x b v u Q,Inv X p a H s->RelV x v->Vals b u->r x b H Q->
  wpAny (model X.prog X.w) X.A (call (.builtin id) (v::u)) (EP X p a Q) X.xe s
def Vals.one{x}(h:Vals [x] us):∃u,us=[u]/\RelV x u:=eV h
def Vals.two{x}(h:Vals [x,y] us):∃u v,us=[u,v]/\RelV x u/\RelV y v:=Kg h
def Vals.zero:∀{us:List Value},Vals [] us->us=[]
 |_,.nil=>rfl
def Vals.dropLast{xs:List V}{us:List Value}(h:Vals xs us):Vals xs.dropLast us.dropLast:=by
 induction h with
 |nil=>exact .nil
 |cons r t ih=>
  cases t with
  |nil=>exact .nil
  |cons q a=>exact .cons r ih
theorem Vals.eraseIdx:∀{xs}{us} i,Vals xs us->Vals (xs.eraseIdx i) (us.eraseIdx i)
 |_,_,_,.nil=>.nil
 |_,_,0,.cons _ t=>t
 |_,_,i+1,.cons r t=>.cons r<|Vals.eraseIdx i t
theorem ci{α:Type}(l:List α):l.eraseIdx (l.length-1)=l.dropLast:=by
 induction l with
 |nil=>rfl
 |cons a r ih=>
  cases r with
  |nil=>rfl
  |cons b r=>
   have e:(a::b::r).length-1=((b::r).length-1)+1:=by have c:(a::b::r).length=r.length+2:=rfl;have h:(b::r).length=r.length+1:=rfl;omega
   rw[e,VD,ih]
   all_goals rfl
theorem qH{a:Type}:∀(l:List a) i,(l.eraseIdx i).length<=l.length
 |[],_=>Yr _
 |_::_,0=>ZI _
 |_::r,i+1=>VV<|qH r i
section
variable      {b:Addr}{zs:List V}
def Inv.lset{f}(I:Inv X pz σ H s)(c:H l=some (.lst xs))
  (e:s.heap.get? l=some {cls:=.type "list",data:=.seq its.toArray n}) (a:f its.toArray=its'.toArray) (hv:Vals ys its') (hz:ys.length<=sizeLine) :
  Inv X pz σ (upd H l<|.lst ys) {s with heap:=s.heap.update l<|Obj.mapSeq f,toks:=t' }:=by
 have q:=PySem.IsL.update e f;rw[a]at q;refine I.write (by rw[c];exact trivial) (.inl rfl) (λg u b h=>(VE s.heap _<|XS b).trans h) ⟨_,q⟩ ?_;exact⟨hz,its',_,hv,q⟩
def Inv.lnew(I:Inv X pz σ H s)(hv:Vals ys its)(hz:ys.length<=sizeLine) :
  Inv X pz σ (upd H s.heap.objs.size<|.lst ys) {s with heap:=s.heap.push {cls:=.type "list",data:=.seq its.toArray},toks:=t' }:=
 I.laid (λ_ _ q=>Yf _ q) (Yr _) ⟨hz,its,0,hv,Yq _ rfl⟩
def Inv.fresh(I:Inv X pz σ H s):H s.heap.objs.size=none:=I.hok.fresh<|Yr _
def Inv.lstM(I:Inv X pz σ H s)(h:H l=some (.lst xs)):xs.length<=sizeLine/\∃(its:List Value) (n:Nat),Vals xs its/\xs.length=its.length/\s.heap.get? l=some {cls:=.type "list",data:=.seq its.toArray n}:=by obtain⟨z,its,n,r,e⟩:=I.hok l _ h;exact⟨z,its,n,r,r.length,e⟩
theorem BE(h:n<=sizeLine):Builtin.List.listTooLong n=false:=by unfold Builtin.List.listTooLong;exact YB<|by lia
end
def Ff:V->List V->Hp->VK->Prop:=λx b H Q=>∃l a y,x=.ref l/\b=[y]/\H l=some (.lst a)/\a.length<sizeLine/\Q .non (upd H l<|.lst<|a++[y])
theorem jp:MtM X "list.append" Ff:=by intro p s g H x m v o Q I b c h;obtain⟨l,j,y,rfl,rfl,a,w,q⟩:=h;cases b;obtain⟨u,rfl,f⟩:=c.one;obtain⟨z,i,n,r,A,e⟩:=I.lstM a;refine Uz XC ⟨_,e,rfl⟩ PySem.F.entry_list_append (PySem.F.args_list_append_2 _ _) (PySem.list_append l i.toArray n u<|by rw[YA];lia) ⟨e,?_⟩;refine⟨.non,_,I.lset a e (by simp) (r.append<|.cons f .nil) ?_,rfl,q⟩;rw[Yp,YQ];lia
def FK:V->List V->Hp->VK->Prop:=λx c H Q=>∃l b a z,x=.ref l/\c=[.ref b]/\H l=some (.lst a)/\H b=some (.lst z)/\a.length+z.length<=sizeLine/\Q .non (upd H l<|.lst<|a++z)
theorem zU:MtM X "list.extend" FK:=by
 intro M s B H x K v L Q I j m h;obtain⟨l,b,J,C,rfl,rfl,g,y,N,q⟩:=h;cases j;obtain⟨u,rfl,o⟩:=m.one;cases o;obtain⟨z,a,n,r,O,e⟩:=I.lstM g;obtain⟨E,i,n2,p,w,A⟩:=I.lstM y;have f:a.toArray.size+i.toArray.size<=sizeLine:=by rw[YA,YA];lia
 have c:¬(!a.toArray.isEmpty&&Builtin.List.listTooLong (a.toArray.size+i.toArray.size))=true:=by rw[BE f,VQ];exact Yk
 refine Uz PySem.F.slot_list_extend ⟨_,e,rfl⟩ PySem.F.entry_list_extend (PySem.F.args_list_extend_2 _ _)
  (AutoSeq1.list_extend_list_list_0 l a.toArray n b i.toArray n2 c (by rw[YA];lia)<|by lia) ⟨e,A,?_⟩
 refine⟨.non,_,I.lset g e (by simp) (r.append p) ?_,rfl,q⟩;rw[Yp];lia
def NG:V->List V->Hp->VK->Prop:=λx b H Q=>∃l a y,x=.ref l/\b=[]/\H l=some (.lst a)/\a[a.length-1]?=some y/\Q y (upd H l (.lst a.dropLast))
theorem cj:MtM X "list.pop" NG:=by
 intro C s p H x A v B Q I Pd f h;obtain⟨l,w,y,rfl,rfl,c,j,q⟩:=h;cases Pd;have b:=f.zero;subst b;obtain⟨z,i,n,r,o,e⟩:=I.lstM c;obtain⟨u,m,g⟩:=r.get j;have a:i.toArray[i.toArray.size-1]?=some u:=by show i.toArray[i.length-1]?=some u;rw[<-Zc,<-o];exact m
 refine Uz F.slot_list_pop ⟨_,e,rfl⟩ F.entry_list_pop (F.args_list_pop_1 _) (MeetsSeq.list_pop_last l i.toArray n u a (by rw[YA];omega)) ⟨e,?_⟩;refine⟨y,_,I.lset (its':=i.dropLast) c e ?_ r.dropLast ?_,g,q⟩
 ·show i.toArray.eraseIdxIfInBounds (i.toArray.size-1)=i.dropLast.toArray;rw[YA,List.eraseIdxIfInBounds_toArray,ci]
 ·rw[List.length_dropLast];omega
def DT:V->List V->Hp->VK->Prop:=λx b H Q=>∃l a i k y,x=.ref l/\b=[.int i]/\H l=some (.lst a)/\-(2^63)<=i/\i<2^63/\seqIndex? i a.length=some k/\a[k]?=some y/\Q y (upd H l<|.lst<|a.eraseIdx k)
theorem C5:MtM X "list.pop" DT:=by
 intro M s J H x K v L Q I g j h;obtain⟨l,f,i,k,y,rfl,rfl,c,E,C,B,o,q⟩:=h;cases g;obtain⟨u,rfl,m⟩:=j.one;obtain⟨t,rfl⟩:=m;obtain⟨z,a,n,r,A,e⟩:=I.lstM c;obtain⟨w,p,b⟩:=r.get o;refine Uz PySem.F.slot_list_pop ⟨_,e,rfl⟩ PySem.F.entry_list_pop (PySem.F.args_list_pop_2 _ _)
  (MeetsSeq.list_pop_at l a.toArray n i t k w (fitsIndex_both E C) (by rwa[YA,<-A]) (by rwa[<-Zc])<|by rw[YA];lia) ⟨e,?_⟩
 refine⟨y,_,I.lset c e ?_ (r.eraseIdx k) ?_,b,q⟩
 ·rw[List.eraseIdxIfInBounds_toArray]
 ·have:=qH f k;lia
end L2
namespace Att
open PySem PySem.W PySem.Calls PyProof.Rows
def mV{P} :∀ns vs,WellAll P h vs (ns.map WData.int)->IntsAre vs ns:=by
 intro ns;induction ns with
 |nil=>
  intro vs w;cases w;exact .nil
 |cons n ns ih=>
  intro vs w;cases w with
  |cons a b=>
   cases a;exact .cons _ _<|ih _ b
theorem zD{l:OpenLaw}(s:l.most=some n){P}{b}
  (c:l.row.toRowW.claim.pre args=true) (i:WellAll P h b args) :
  ∃a vs ns,b=[Value.ref a]/\args=[WData.list<|ns.map WData.int]/\h.get? a=some {cls:=.type "list",data:=.seq vs.toArray}/\IntsAre vs ns/\ns.length<=n:=by
 have j:=(pre_splitW c).1;have m:l.pre.holds [] {args:=args}=true:=(pre_splitW c).2;obtain⟨d,r,rfl,y,x⟩:=hasAllW_cons j;obtain rfl:=hasAllW_nil x;obtain⟨z,rfl,u⟩:=hasW_list y;obtain⟨ns,rfl⟩:=items_int u;have e:ns.length<=n:=by
  have g:(WTm.not<|.lt (.lit<|.int n)<|.len<|.arg 0).holds [] {args:=[.list<|ns.map .int]}=true:=by have g:=(holds_andW m).1;rwa[s]at g
  have f:=condW_of g<|w_not<|w_lt w_lit<|w_len_list<|w_arg rfl;refine Nat.le_of_not_lt λq=>?_
  first
   |(rw[decide_eq_true p]at f;exact absurd f _)
   |(simp at f;lia)
 cases i with
 |cons o w=>
  cases w;cases o with
  |list ho hall=>exact⟨_,_,ns,rfl,rfl,ho,mV ns _ hall,e⟩
def As(l:OpenLaw)args:l.row.toRowW.claim.post args (.bool true) args=true:=
 postW_of 
  (show WShape.has [] _ .bool=true by first|rfl|decide|simp)
  (show(WTm.eq .res _).value [] {args:=args,res:=some _,after:=args}=some (.bool _)from w_eq_bool (w_res rfl) w_lit) rfl
def attach_call{l:OpenLaw}{c}{X}{C}
  (J:l.most=some n) (u:d.params.defaults=[])
  (call:∀w b s mg m fa o pm cd doc a vs ns,
   Ground q c [] X w b mg m s.heap->C w s.heap->
   s.heap.get? fa=some o->o.data=.func (docDef d.name d.params d.body d.scope pm cd doc)->s.heap.CodeRec cd d.name->mg d.name=some (.ref fa)->
   s.heap.get? a=some {cls:=.type "list",data:=.seq vs.toArray}->IntsAre vs ns->ns.length<=n->s.gens=#[]->
   codeAny (model l.prog w) callerA (.call (.ref fa) ⟨[.ref a],[]⟩) (λr s'=>r=.ok (.ret<|.bool true)/\OldK s.heap s'.heap/\s'.os=s.os/\AllBare s'.gens) s) :
  WalkO q c X C l.row.toRowW d [] (λf vs=>PySem.call f vs):=by
 intro w b s mg m G Y fa o pm cd doc R kV I N x A p M B y S e z E j L;obtain rfl:R=.none:=Dflts.none A u;obtain rfl:kV=.none:=Dflts.noKw A;obtain⟨a,vs,ns,rfl,rfl,g,h,i⟩:=zD J e j;refine enter_call<|codeAny_mono (call w b s mg m fa o pm cd doc a vs ns G Y I (fd_plain N) x p g h i M) λr s' H=>?_;obtain⟨rfl,Q,P,O⟩:=H;exact⟨.inl ⟨.bool true,.bool true,[],rfl,λ_=>rfl,.bool true,As l _,λ_=>⟨List.Pairwise.nil,λ_ K=>(nomatch K)⟩⟩,Q,P,O⟩
section
variable      {K:Frag}
end
end Att
namespace L2
open PySem PySem.Spec PyProof.Rows
theorem rK:∀{vs}{ns},IntsAre vs ns->Vals (ns.map V.int) vs
 |_,_,.nil=>.nil
 |_,_,.cons n t h=>.cons ⟨t,rfl⟩<|rK h
structure TabsOk (K:PySem.W.Frag) (t:Addr):Prop where
 out:K.lookup t=none
 st:t≠cStatics
 hd:∃c,PySem.W.codeHdIn K c t=true
def BL{P}{mb:Ks}{f}{vs}
  (KX:K.In f.heap) (B:f.heap.Ns mainGlobals mg) (i:f.heap.Ns builtinsNs mb) (hbb:∀x:Str,x ≠ "__name__"->mb x=bootBuiltins x) (Q:f.heap.NoLimit) (hg:f.gens=#[])
  (hmb:∃X ob,mg (Str.ofString "__builtins__")=some (Value.ref X)/\X≠builtinsNs/\f.heap.get? X=some ob/\ob.cls=Value.type "module"/\ob.dict=some builtinsNs/\ob.data=Data.plain)
  (E:∀t q p,f8 K t q p->f.heap.get? t=some (PySem.W.tabObj #[])/\TabsOk K t)
  (R:f.heap.get? a=some {cls:=.type "list",data:=.seq vs.toArray}) (hi:IntsAre vs ns) (hl:ns.length<=sizeLine) (hr:Room k callerA)
  (F:∀base:Heap,K.In base->base.Ns mainGlobals mg->FnOk P w K mg base CX k fa fd [x] sp) (C:∀s u,BindsTo s fd ⟨[u],[]⟩ [(x,u)])
  (hsp:∀H:Hp,SqL K H a (ns.map V.int)->sp [.ref a] H (λv _=>v=.bl true) λ_ _ _=>False)
  (hCX:∀H e s',CX [] H f (λ_ _ _=>False) e s'->False) :
  codeAny (model P w) callerA (.call (.ref fa) ⟨[.ref a],[]⟩) (λr s'=>r=.ok (.ret<|.bool true)/\OldK f.heap s'.heap/\s'.os=f.os/\AllBare s'.gens) f:=by
 have rv:=rK hi;have N:=hi.length;have at':∀q p,¬f8 K a q p:=λq p z=>by have:=(E a q p z).1;rw[R]at this;cases this
 have A:∀H:Hp,SqL K H a (ns.map V.int)->HOk P w H f.heap->(∀t q p,f8 K t q p->H t=some (.tbl q p))->(∀b,H b=none\/(b=a/\K.lookup a=none/\∃o u,H b=some (.frz o u))\/∃q p,f8 K b q p/\H b=some (.tbl q p))->
   codeAny (model P w) callerA (.call (.ref fa) ⟨[.ref a],[]⟩) (λr s'=>r=.ok (.ret<|.bool true)/\OldK f.heap s'.heap/\s'.os=f.os/\AllBare s'.gens) f:=by
  intro H hS O hT hO;have g:∀{b}{o},f.heap.get? b=some o->H b=none->(sW f.heap H).get? b=some o:=λe n=>Bc e n
  have J:∀{b}{o},f.heap.get? b=some o->(∀Z n,o.data≠.seq Z n)->(∀Z,o.data≠.fields Z)->H b=none:=λ{b o} e d1 d2=>by
   rcases hO b with z|⟨e',_⟩|⟨q,p,z,_⟩
   ·exact z
   ·subst e';rw[R]at e;cases e;exact absurd rfl<|d1 _ _
   ·rw[(E b q p z).1]at e;cases e;exact absurd rfl<|d2 _
  have j:∀{b}{m},f.heap.Ns b m->(sW f.heap H).Ns b m:=λ{b m} ⟨o,es,ep,e,d,r⟩=>⟨o,es,ep,g e (J e (λ_ _ z=>by rw[d]at z;cases z) λ_ z=>by rw[d]at z;cases z),d,r⟩
  have T:=λb o e=>g (KX b o e)<|by
   rcases hO b with z|⟨e',z,_⟩|⟨q,p,z,_⟩
   ·exact z
   ·subst e';rw[z]at e;cases e
   ·rw[(E b q p z).2.out]at e;cases e
  have hM:Mod K mg _:=⟨T,j B,⟨mb,j i,hbb⟩,let ⟨mc,h1,h2⟩:=Q;⟨mc,j h1,h2⟩,λt q p z=>by
   obtain⟨X,ob,m1,m2,M,m4,m5,L⟩:=hmb;refine⟨X,ob,m1,m2,λz=>?_,λI=>?_,g M (J M (λ_ _ z=>by rw[L]at z;cases z) λ_ z=>by rw[L]at z;cases z),m4,m5,L⟩
   ·obtain⟨o,es,ep,e,d,_⟩:=B;rw[<-z,M]at e;cases e;rw[L]at d;cases d
   ·rw[I,(E t q p z).1]at M;cases M;cases L⟩
  have e0:Env0 P w K mg _ callerA [] f H:=⟨rfl,hM,λb o e=>Gw e,Xm<|zy _ _,trivial,λb i=>absurd (show b∈([])from i)<|by simp,O,.of_eq hg,hT⟩
  refine XF ((F _ T<|j B).run callerA [] f H ⟨[.ref a],[]⟩ [.ref a] [.ref a] _ _ hr e0 (C f _) (.cons rfl .nil)<|hsp H hS) λr s' h=>?_;cases r with
  |error e=>exact(hCX H e s' h).elim
  |ok fl=>
   cases fl with
   |next=>exact False.elim h
   |brk=>exact False.elim h
   |cont=>exact False.elim h
   |ret u=>
    obtain⟨v,H',os,Y,un,l,r',q⟩:=h;have q':=q;subst q';obtain rfl:u=Value.bool true:=r';refine⟨rfl,⟨λb o e=>?_,λb o e=>un.there b o e<|by simp⟩,os,Y⟩;rcases hO b with z|⟨_,_,ob,Z,z⟩|⟨q,p,z1,z⟩
    ·exact .inl<|un.keep b o e z (by intro z;exact absurd (show b∈([])from z)<|by simp)<|by simp
    ·obtain⟨e1,_⟩:=O b _ z;obtain⟨U,_⟩:=l b _<|un.stl b _ rfl z;rw[e]at e1;cases e1;exact .inl U
    ·obtain⟨t1,t2⟩:=E b q p z1;obtain⟨ps,U,_⟩:=l b _<|un.stl b _ rfl z;rw[e]at t1;cases t1;obtain⟨c,hc⟩:=t2.hd;exact .inr<|.inl ⟨((PySem.W.codeHd_of_K KX hc).tab e).isCodeTable,rfl,#[],ps,rfl,by simpa using U⟩
 have S:∀b u,((fg K).lookup b).map (λr=>HO.tbl r.1 r.2)=some u->∃q p,f8 K b q p/\u=.tbl q p:=λb u e=>by
  obtain⟨⟨q,p⟩,e1,U⟩:=XU.mp e;exact⟨q,p,e1,U.symm⟩
 have okT:∀{H:Hp}{b:Addr}{u:HO},((fg K).lookup b).map (λr=>HO.tbl r.1 r.2)=some u->ObjOk P w H f.heap b u:=λ{H b u} e=>by
  obtain⟨q,p,z,rfl⟩:=S b u e;exact⟨#[],(E b q p z).1,trivial,.inl rfl⟩
 have tb:∀t q p,f8 K t q p->((fg K).lookup t).map (λr=>HO.tbl r.1 r.2)=some (.tbl q p):=λt q p z=>by
  have I:(fg K).lookup t=some (q,p):=z;rw[I];rfl
 have dj:∀b,((fg K).lookup b).map (λr=>HO.tbl r.1 r.2)=none\/∃q p,f8 K b q p/\((fg K).lookup b).map (λr=>HO.tbl r.1 r.2)=some (.tbl q p):=λb=>by
  cases e:((fg K).lookup b).map (λr=>HO.tbl r.1 r.2)with
  |none=>exact .inl rfl
  |some u=>obtain⟨q,p,z,rfl⟩:=S b u e;exact .inr ⟨q,p,z,rfl⟩
 cases hk:K.lookup a with
 |some o=>
  have e:=KX a o hk;rw[R]at e;cases e;exact A (λb=>((fg K).lookup b).map λr=>.tbl r.1 r.2) (.inr ⟨_,vs.toArray,_,hk,rfl,rfl,rfl,by rw[YA,N];exact hl,by simpa using rv⟩) (λb u z=>okT z) tb λb=>(dj b).imp id .inr
 |none=>
  refine A (λb=>if b=a then some (.frz {cls:=.type "list",data:=.seq vs.toArray}<|.lst<|ns.map V.int)else((fg K).lookup b).map λr=>.tbl r.1 r.2) (.inl<|.inr ⟨{cls:=.type "list",data:=.seq vs.toArray},Yj rfl⟩) (λb u z=>?_) (λt q p z=>?_) λb=>?_
  ·by_cases i:b=a
   ·have I:=(Yj i).symm.trans z;cases I;subst i;exact⟨R,by rw[Yc];exact hl,vs,_,rv,R⟩
   ·exact okT<|(Yl i).symm.trans z
  ·exact(Yl λe=>by subst e;exact at' q p z).trans<|tb t q p z
  ·by_cases i:b=a
   ·exact .inr<|.inl ⟨i,hk,_,_,Yj i⟩
   ·rcases dj b with z|⟨q,p,z,y⟩
    ·exact .inl<|(Yl i).trans z
    ·exact .inr<|.inr ⟨q,p,z,(Yl i).trans y⟩
def walk_ofK{l:PySem.W.OpenLaw}{i}{K:Params->PySem.W.Frag}{sp:PySem.W.Frag->Sp} 
  (O:l.most=some n) (A:n<=sizeLine) (C:d.params.defaults=[]) (N:Room k callerA)
  (S:∀w h,J w h->(K w.params).In h/\∀t q p,f8 (K w.params) t q p->h.get? t=some (PySem.W.tabObj #[])/\TabsOk (K w.params) t)
  (F:∀w (mg:Ks) fa h,(K w.params).In h->h.Ns mainGlobals mg->mg d.name=some (.ref fa)->
   ∃fd:FuncData,(∀s u,BindsTo s fd ⟨[u],[]⟩ [(x,u)]) /\
    ∀base:Heap,(K w.params).In base->base.Ns mainGlobals mg->FnOk l.prog w (K w.params) mg base CX k fa fd [x] (sp<|K w.params))
  (z:∀K H a (ns:List Int),ns.length<=n->SqL K H a (ns.map V.int)->sp K [.ref a] H (λv _=>v=.bl true) λ_ _ _=>False)
  (E:∀H s e s',CX [] H s (λ_ _ _=>False) e s'->False) :
  PySem.W.WalkO q i XP J l.row.toRowW d [] (λf vs=>PySem.call f vs):=by
 refine Att.attach_call O C λw I m mg mb fa o pm cd Z a vs ns G Y ho hd Q B y j c P=>?_;obtain⟨L,M⟩:=S w _ Y;obtain⟨fd,R,X⟩:=F w mg fa _ L G.T.g B;exact BL L G.T.g G.T.b G.T.builtins G.T.nolimit P G.T.bmain M y j (YD c A) N X R (λH U=>z _ H a ns c U) λH e s'=>E H m e s'
def D_(s:Stmt)(j:Nat):Stmt:=match s with
 |.ClassDef _ _ _ body _ _ _ _ _ _ _=>body.getD j<|.Pass ⟨0,0,0,0⟩
 |_=>.Pass ⟨0,0,0,0⟩
def defArgs(s:Stmt):Arguments:=match s with
 |.FunctionDef _ a _ _ _ _ _ _ _ _=>a
 |_=>{posonlyargs:=[],args:=[],vararg:=none,kwonlyargs:=[],kw_defaults:=[],kwarg:=none,defaults:=[]}
def defBody(s:Stmt):List Stmt:=match s with
 |.FunctionDef _ _ b _ _ _ _ _ _ _=>b
 |_=>[]
def defScope(s:Stmt):Scope:=match s with
 |.FunctionDef _ _ _ _ _ _ sc _ _ _=>sc
 |_=>{kind:=.function,names:=[],isGenerator:=false,isCoroutine:=false}
abbrev CX0:CXT:=λ_ _ _ _ _ _=>False
abbrev E0:XK:=λ_ _ _=>False
def jV:jJ CX0 X E0:=λ_ _ _ _ _ _ _ h=>h.elim
structure Fun (K:PySem.W.Frag) (x qual:Str) (st:Stmt) (f:Addr) (fd:FuncData):Prop where
 ex:∃(oc:Value) (od:Option Addr) (kV doc pm:Value) (an:Option Addr) (cdv ct:Value) (osl:Array (Option Value)),
  fd=PySem.W.fnOf x qual (defArgs st) (defBody st) (defScope st) .none kV doc pm an cdv ct/\K.lookup f=some ⟨oc,od,.func fd,osl⟩/\PySem.W.codeIn K cdv qual=true
 kp:PySem.W.keepIn K (.ref f)=true
section
variable{P:Program}    
def Fun.ok(F:Fun K x qual st f fd)(S:FnScope N ps (defScope st))(len:∀vs H Q E,sp vs H Q E->vs.length=ps.length)
  (a:∀cdv A outer s H vs Q E,Room k (A.deeper<|envOfC qual (defScope st) s.heap.objs.size f cdv)->sp vs H Q E->
   ∃t,PSs (gA CX0 P w K mg base N qual (defScope st) f cdv A outer s H E).nox (defBody st) t/\t {nx:=λ_ H'=>Q .non H',rt:=Q} (start N vs) H):FnOk P w K mg base CX0 (k+1) f fd ps sp:=by
 obtain⟨j,i,kV,g,p,u,cdv,m,o,rfl,l,c⟩:=F.ex;refine G2 l c S len λA outer s H vs Q E e b=>?_;obtain⟨t,h,q⟩:=a cdv A outer s H vs Q E e b;exact⟨t,h.nox,q⟩
def Hr{kV doc pm cdv ct}(l:K.lookup f=some ⟨oc,od,.func (PySem.W.fnOf x qual (defArgs st) (defBody st) (defScope st) .none kV doc pm an cdv ct),osl⟩)
  (c:PySem.W.codeIn K cdv qual=true) (k:PySem.W.keepIn K (.ref f)=true):Fun K x qual st f (PySem.W.fnOf x qual (defArgs st) (defBody st) (defScope st) .none kV doc pm an cdv ct):=⟨⟨oc,od,kV,doc,pm,an,cdv,ct,osl,rfl,l,c⟩,k⟩
end
def pv i(hN:X.N[i]?=some x:=by rfl)(hv:Vis X.env.scope x:=by trivial)(hd:nDb x:=by decide)
  (hcd:nDc x:=by decide):PE X (.Name x pos) (eD i):=Cg hN hv hd hcd
def Same(H H':Hp):Prop:=∀b o,H b=some o->H' b=some o
def Same.refl H:Same H H:=λ_ _ h=>h
def Same.trans(a:Same H H1)(b:Same H1 H2):Same H H2:=λc o h=>b c o<|a c o h
def Same.free(e:Same H H')(h:H' l=Option.none):H l=Option.none:=by
 cases q:H l with
 |none=>rfl
 |some o=>
  rw[e l o q]at h;cases h
def Same.seq(e:Same H H')(h:SqL K H a xs):SqL K H' a xs:=by
 rcases h with (h|⟨o,h⟩)|h
 ·exact .inl<|.inl<|e _ _ h
 ·exact .inl<|.inr ⟨o,e _ _ h⟩
 ·exact .inr h
end L2
set_option maxHeartbeats 4000000
namespace L2
open PySem PySem.Spec PyProof.Rows
noncomputable def dD(cs:List (Str×Addr)):List (Str×NameKind)->List (Str×Addr)->List (Str×Addr)
 |[],acc=>acc
 |(n,k)::r,acc=>if k == .free then dD cs r ((n,(cs.lookup n).getD 0)::acc)else dD cs r acc
theorem oY(h:∀x∈scope.names,x.2=.free->∃c,env.cells.lookup x.1=some c):closureFor scope env=pure (dD env.cells scope.names []):=by
 have key:∀a b f,
   (∀n k r,f (n,k) r=if k == .free then(cellOf env n>>=λc=>pure<|.yield ((n,c)::r))else pure<|.yield r)->
   (∀x∈a,x.2=.free->∃c,env.cells.lookup x.1=some c)->forIn a b f=pure (dD env.cells a b):=by
  intro a;induction a with
  |nil=>intro b f _ _;rfl
  |cons x r ih=>
   intro b f l j;obtain⟨n,k⟩:=x;rw[List.forIn_cons,l];unfold dD;by_cases g:(k == NameKind.free)=true
   ·rw[Yj g,Yj g];obtain⟨c,m⟩:=j (n,k) Ye (by simpa using g);have e:cellOf env n=pure c:=by unfold cellOf;rw[m]
    rw[e,pure_bind,pure_bind,m];exact ih _ f l λy i=>j y<|Yd _ i
   ·rw[Yl g,Yl g,pure_bind];exact ih _ f l λy i=>j y<|Yd _ i
 show(forIn scope.names _ _>>=λo=>pure o)=_;grind
theorem aW{a:Type}y n c(l:List (Str×a)):((n,c)::l).lookup y=if y=n then some c else l.lookup y:=by grind
theorem dU:∀names acc y c,
  (∀x∈names,x.2=.free->∃c,cs.lookup x.1=some c)->(∀y c,acc.lookup y=some c->cs.lookup y=some c)->(dD cs names acc).lookup y=some c->cs.lookup y=some c
 |[],acc,y,c,_,h,e=>h y c e
 |(n,k)::r,acc,y,c,hx,h,e=>by
  unfold dD at e;have g:=λx i=>hx x<|Yd _ i
  by_cases b:(k == NameKind.free)=true
  ·rw[Yj b]at e;refine dU r _ y c g (λz d a=>?_) e;obtain⟨j,f⟩:=hx (n,k) Ye (by simpa using b);rw[aW]at a;split at a
   ·rename_i q;subst q;cases a;rw[f];rfl
   ·exact h z d a
  ·rw[Yl b]at e;exact dU r acc y c g h e
theorem g8:∀names acc y c,
  (dD cs names acc).lookup y=some c->(y,NameKind.free)∈names\/acc.lookup y=some c
 |[],acc,y,c,e=>.inr e
 |(n,k)::r,acc,y,c,e=>by
  unfold dD at e;by_cases a:(k == NameKind.free)=true
  ·rw[Yj a]at e;have h:k=.free:=by simpa using a
   rcases g8 r _ y c e with q|q
   ·exact .inl<|Yd _ q
   ·rw[aW]at q;split at q
    ·rename_i z;subst z;subst h;exact .inl Ye
    ·exact .inr q
  ·rw[Yl a]at e;rcases g8 r acc y c e with q|q
   ·exact .inl<|Yd _ q
   ·exact .inr q
theorem g9:∀names acc y,
  ((y,NameKind.free)∈names\/∃c,acc.lookup y=some c)->∃c,(dD cs names acc).lookup y=some c
 |[],acc,y,h=>h.elim (λz=>by cases z) id
 |(n,k)::r,acc,y,h=>by
  unfold dD;by_cases a:(k == NameKind.free)=true
  ·rw[Yj a];refine g9 r _ y ?_;rcases h with h|⟨c,h⟩
   ·rcases Yw.mp h with q|q
    ·cases q;exact .inr ⟨_,by rw[aW,Yj rfl]⟩
    ·exact .inl q
   ·refine .inr ?_;by_cases q:y=n
    ·exact⟨_,by rw[aW,Yj q]⟩
    ·exact⟨c,by rwa[aW,Yl q]⟩
  ·rw[Yl a];refine g9 r acc y ?_;rcases h with h|h
   ·rcases Yw.mp h with q|q
    ·cases q;exact absurd rfl a
    ·exact .inl q
   ·exact .inr h
theorem sB:∀names (h:Heap) acc y c,(cellsFrom h.objs.size names acc).lookup y=some c->
  (h.objs.size<=c/\(pushCells h names).IsCell c none/\(y,NameKind.cell)∈names)\/acc.lookup y=some c
 |[],_,_,_,_,e=>.inr e
 |(n,k)::r,h,acc,y,c,e=>by
  unfold cellsFrom at e;unfold pushCells;by_cases i:(k == NameKind.cell)=true
  ·rw[Yj i]at e ⊢;have g:k=.cell:=by simpa using i
   have j:(h.push {cls:=.type "cell",data:=.cell none}).objs.size=h.objs.size+1:=Xj ..;rw[<-j]at e;rcases sB r _ _ y c e with⟨f,b,a⟩|q
   ·exact .inl ⟨by rw[j]at f;lia,b,Yd _ a⟩
   ·rw[aW]at q;split at q
    ·rename_i z;subst z;cases q;subst g;exact .inl ⟨Yr _,⟨_,Ul r _ _ _<|Yq _ rfl,rfl⟩,Ye⟩
    ·exact .inr q
  ·rw[Yl i]at e ⊢;rcases sB r h acc y c e with⟨f,b,a⟩|q
   ·exact .inl ⟨f,b,Yd _ a⟩
   ·exact .inr q
theorem wq{y}:∀names n acc,(∀k,(y,k)∈names->k≠.cell)->(cellsFrom n names acc).lookup y=acc.lookup y
 |[],_,_,_=>rfl
 |(m,k)::r,n,acc,h=>by
  unfold cellsFrom;have b:=λk a=>h k<|Yd _ a
  by_cases a:(k == NameKind.cell)=true
  ·rw[Yj a,wq r _ _ b,aW,Yl];rintro rfl;exact h k Ye<|by simpa using a
  ·rw[Yl a];exact wq r n acc b
theorem xD:∀names (n:Nat) (acc:List (Str×Addr)),(∀y c,acc.lookup y=some c->c<n)->(∀y z c,acc.lookup y=some c->acc.lookup z=some c->y=z)->
  ∀y z c,(cellsFrom n names acc).lookup y=some c->(cellsFrom n names acc).lookup z=some c->y=z
 |[],_,_,_,h=>h
 |(m,k)::r,n,acc,hlt,h=>by
  unfold cellsFrom;by_cases g:(k == NameKind.cell)=true
  ·rw[Yj g];refine xD r (n+1) _ (λy c e=>?_) λy z c e f=>?_
   ·rw[aW]at e;split at e
    ·cases e;exact ZK _
    ·exact Zv<|hlt y c e
   ·rw[aW]at e f;split at e<;>split at f
    ·rename_i a b;rw[a,b]
    ·cases e;exact absurd (hlt z _ f)<|YX _
    ·cases f;exact absurd (hlt y _ e)<|YX _
    ·exact h y z c e f
  ·rw[Yl g];exact xD r n acc hlt h
noncomputable def iM(env:Env)(scope:Scope)(C:Addr):Env:=
 {scope:=relabel scope env,locals:=C,globals:=env.globals,cells:=cellsFrom (C+1) scope.names<|dD env.cells scope.names [],qual:=env.qual,func:=none,code:=env.code,frame:=env.frame,builtins:=env.builtins}
noncomputable def blk(X:Cx)(scope:Scope)(N:List Str)(s:Shared)(H:Hp)(fp:List Addr)(pz:Kp):Cx where
 prog:=X.prog
 w:=X.w
 K:=X.K
 mg:=X.mg
 base:=X.base
 A:=X.A
 N:=N
 s₀:=s
 H₀:=H
 env:=iM X.env scope s.heap.objs.size
 outer:=X.stack
 stack:=X.stack
 ex:=fp
 fn:=λx=>scope.names.lookup x == some .local||scope.names.lookup x == some .cell
 calm:=X.calm
 pn:=X.pn++pz
 xe:=λ_ _=>False
structure BlkScope (X:Cx) (scope:Scope):Prop where
 kind:scope.kind=.function
 nd:(scope.names.map (·.1)).Nodup
 free:∀x∈scope.names,x.2=.free->X.env.kindOf x.1=some .cell\/X.env.kindOf x.1=some .free
theorem gD{b:Type}:∀{l:List (Str×b)}{n}{c},(l.map (·.1)).Nodup->(n,c)∈l->l.lookup n=some c
 |[],_,_,_,h=>by cases h
 |(k,v)::r,n,c,nd,h=>by
  rw[aW];rcases Yw.mp h with q|q
  ·cases q;rw[Yj rfl]
  ·have a:=YT.mp nd;rw[Yl]
   ·exact gD a.2 q
   grind
theorem kU:∀(names:List (Str×NameKind)),
  (names.map λ(n,k)=>if(k == NameKind.free&&env.scope.kind == .function&&env.kindOf n == some .cell)then(n,NameKind.cell)else(n,k)).lookup x =
   (names.lookup x).map λk=>if(k == NameKind.free&&env.scope.kind == .function&&env.kindOf x == some .cell)then NameKind.cell else k
 |[]=>rfl
 |(n,k)::r=>by
  show List.lookup x ((if(k == NameKind.free&&env.scope.kind == .function&&env.kindOf n == some .cell)=true then(n,NameKind.cell)else(n,k))::_)=_;have e:(if(k == NameKind.free&&env.scope.kind == .function&&env.kindOf n == some .cell)=true then(n,NameKind.cell)else(n,k)) =
    (n,if(k == NameKind.free&&env.scope.kind == .function&&env.kindOf n == some .cell)=true then NameKind.cell else k):=by split<;>rfl
  rw[e,aW,aW];split
  ·rename_i q;subst q;rfl
  ·exact kU r
def nX x:(iM env scope C).kindOf x =
  (scope.names.lookup x).map λk=>if(k == NameKind.free&&env.scope.kind == .function&&env.kindOf x == some .cell)then NameKind.cell else k:=kU scope.names
def BlkScope.cl(b:BlkScope X scope)(ok:X.Ok):∀x∈scope.names,x.2=.free->∃c,X.env.cells.lookup x.1=some c:=λx h e=>ok.has x.1<|b.free x h e
theorem gN(b:BlkScope X scope)(I:Inv X pz σ H s){y}{c}(e:(iM X.env scope s.heap.objs.size).cells.lookup y=some c) :
  (s.heap.objs.size<c/\(pushCells (s.heap.push {cls:=.type "dict",data:=.dict #[]}) scope.names).IsCell c none/\(y,NameKind.cell)∈scope.names)\/(X.env.cells.lookup y=some c/\(y,NameKind.free)∈scope.names):=by
 have a:(s.heap.push {cls:=.type "dict",data:=.dict #[]}).objs.size=s.heap.objs.size+1:=Xj ..;have j:(cellsFrom (s.heap.push {cls:=.type "dict",data:=.dict #[]}).objs.size scope.names<|dD X.env.cells scope.names []).lookup y=some c:=by rwa[a]
 rcases sB _ _ _ _ _ j with⟨i,g,f⟩|h
 ·exact .inl ⟨by rw[a]at i;lia,g,f⟩
 ·refine .inr ⟨dU _ _ y c (b.cl I.ok) (λ_ _ z=>by cases z) h,?_⟩;rcases g8 _ _ _ _ h with q|q
  ·exact q
  ·cases q
def Ix(b:BlkScope X scope)(I:Inv X pz σ H s)(j:∀a∈fp,jN X pz H a)(g:∀a∈fp,a<s.heap.objs.size):(blk X scope N s H fp pz).Ok:=by
 have m:∀y c,X.env.cells.lookup y=some c->c<s.heap.objs.size:=λy c e=>by obtain⟨v,q⟩:=I.cell y c e;exact q.lt
 refine⟨I.ok.mod,b.kind,I.ok.glob,I.ok.blt,Yr _,λx y c e C=>?_,λx l=>?_,λx c l e=>?_,I.ok.hd,I.ok.frames,.inl rfl,λa f=>⟨Yz<|g a f,λx c e=>?_⟩,I.bs,YD I.ok.bsz I.sz,λa o e f=>?_,λa f=>?_,I.stack,I.stkFree,I.tab⟩
 ·refine xD scope.names _ _ (λy c q=>?_) (λy z c q p=>?_) x y c e C
  ·exact Zv<|m y c<|dU _ _ y c (b.cl I.ok) (λ_ _ z=>by cases z) q
  ·exact I.ok.inj y z c (dU _ _ y c (b.cl I.ok) (λ_ _ z=>by cases z) q)<|dU _ _ z c (b.cl I.ok) (λ_ _ z=>by cases z) p
 ·have h:(iM X.env scope s.heap.objs.size).kindOf x=some .cell\/(iM X.env scope s.heap.objs.size).kindOf x=some .free:=l;rw[nX]at h;cases q:scope.names.lookup x with
  |none=>rw[q]at h;rcases h with z|z<;>cases z
  |some k=>
   have u:=ZA q;cases k with
   |cell=>exact ZG.mp<|XT scope.names _ _<|.inl q
   |free=>
    obtain⟨c,w⟩:=g9 (cs:=X.env.cells) scope.names [] x<|.inl u;exact ZG.mp<|XT scope.names _ _<|.inr<|by rw[w];rfl
   |_=>rw[q]at h;revert h;simp
 ·rcases gN b I e with⟨i,_,_⟩|⟨_,B⟩
  ·exact ZP i
  ·exfalso;have q:=gD b.nd B;have h:(scope.names.lookup x == some .local||scope.names.lookup x == some .cell)=true:=l;rw[q]at h;revert h;decide
 ·rcases gN b I e with⟨i,_,_⟩|⟨i,_⟩
  ·intro z;subst z;exact absurd (ZQ (g _ f) i)<|YX _
  ·exact(j a f).2.2.2.2.1 x c i
 ·have A:=(j a f).2.2.2.1;rcases A with z|z
  ·exact I.ok.noex a o e z
  ·exact absurd (Yx (Ys e)<|YD I.ok.bsz z)<|YX _
 ·intro z;rcases Yw.mp (I.stkSub a z)with q|q
  ·exact(j a f).2.1 q
  ·exact(j a f).2.2.1 q
def eZ(own:Nat)(ix:List Nat)(σ:St):St:=List.replicate own none++ix.map λj=>(σ[j]?).join
def jf own ix σ:(eZ own ix σ).length=own+ix.length:=by unfold eZ;rw[Yp,YL,Yc]
theorem qU(h:(eZ own ix σ)[i]?=some (some v)):own<=i/\∃j,ix[i-own]?=some j/\σ[j]?=some (some v):=by
 unfold eZ at h;grind
structure Caps (X:Cx) (scope:Scope) (N:List Str) (own:Nat) (ix:List Nat):Prop where
 len:N.length=own+ix.length
 cap:∀(i:Nat) (j:Nat) (x:Str),N[own+i]?=some x->ix[i]?=some j->X.N[j]?=some x/\scope.names.lookup x=some .free
theorem AM(b:BlkScope X scope)(cp:Caps X scope N own ix)(I:Inv X pz σ H s)(Q:∀a∈fp,jN X pz H a)(A:∀a∈fp,a<s.heap.objs.size) :
  Inv (blk X scope N s H fp pz) [] (eZ own ix σ) H {s with heap:=pushCells (s.heap.push {cls:=.type "dict",data:=.dict #[]}) scope.names}:=by
 have f:∀a o,s.heap.get? a=some o->(pushCells (s.heap.push {cls:=.type "dict",data:=.dict #[]}) scope.names).get? a=some o:=λa o e=>Ul _ _ a o<|Yf _ e
 refine⟨Ix b I Q A,rfl,I.bare,Un.kept f,⟨_,(Heap.Ns.new s.heap _).keeps<|Ul _ _,λi x v e1 Z e3=>?_⟩,λy c e=>?_,I.fresh,λy c e=>?_,λp O=>?_,I.hok.kept f,?_⟩
 ·obtain⟨ho,j,U,T⟩:=qU Z;have E:N[own+(i-own)]?=some x:=by rwa[show own+(i-own)=i by lia]
  obtain⟨R,h⟩:=cp.cap _ j x E U;obtain⟨m,hn,P⟩:=I.loc;have C:=b.free _ (ZA h) rfl;have M:Vis X.env.scope x:=C.elim (λz=>.inr<|.inl z) λz=>.inr<|.inr z
  obtain⟨u,r,L⟩:=P j x v R T M;refine⟨u,r,.inr ⟨?_,?_⟩⟩
  ·show(iM X.env scope s.heap.objs.size).kindOf x=some .cell\/(iM X.env scope s.heap.objs.size).kindOf x=some .free;rw[nX,h];show some (if _ then NameKind.cell else NameKind.free)=some .cell\/some (if _ then NameKind.cell else NameKind.free)=some .free;split
   ·exact .inl rfl
   ·exact .inr rfl
  ·rcases L with⟨k,_⟩|⟨_,c,Y,z⟩
   ·rw[k]at C;rcases C with z|z<;>cases z
   ·refine⟨c,?_,z.keeps f⟩;show(cellsFrom _ scope.names _).lookup x=some c;rw[wq]
    ·obtain⟨c',g⟩:=g9 (cs:=X.env.cells) scope.names [] x<|.inl<|ZA h;have:=dU _ _ x c' (b.cl I.ok) (λ_ _ z=>by cases z) g;rw[Y]at this;cases this;exact g
    ·intro k B z;rw[gD b.nd B]at h;cases h;cases z
 ·rcases gN b I e with⟨_,S,_⟩|⟨l,_⟩
  ·exact⟨_,S⟩
  ·obtain⟨v,z⟩:=I.cell y c l;exact⟨v,z.keeps f⟩
 ·rcases gN b I e with⟨l,_,_⟩|⟨l,_⟩
  ·exact I.hok.fresh<|ZP l
  ·exact I.freeC y c l
 ·have w:p∈X.pn++pz:=by
   have:p∈(X.pn++pz)++[]:=O
   rwa [YZ]at this
  obtain⟨e,n,K,J,d⟩:=I.pin p w;refine⟨f _ _ e,n,Yz<|Ys e,λz=>?_,d⟩;rcases Yw.mp (I.stkSub p.1 z)with q|q
  ·exact K q
  ·exact J q
 ·rw[jf];exact cp.len.symm
def uO{b:St}(I:Inv X pz σ H s)(m:∀a∈fp,jN X pz H a)(J:Inv (blk X scope N s H fp pz) pl b H' s')(hs:Heap.SameBut s.heap.objs.size s'.heap h') :
  Inv X pz σ H' {s' with heap:=h' }:=by
 have i:H' s.heap.objs.size=none:=J.free;have f:∀a o,s.heap.get? a=some o->a≠s.heap.objs.size:=λa o e=>Yz<|Ys e
 have u:=J.base;refine I.call' J.os ⟨λa o e n g h=>(hs.2 a<|f a o e).trans<|u.keep a o e n g h,λa o e n g h=>?_,λa o e n h=>u.free a o e n h,λa o e h=>?_,u.stl⟩ (λa o e=>?_) J.bare λa p=>?_
 ·obtain⟨j,q⟩:=u.slot a o e n g h;exact⟨j,(hs.2 a<|f a o e).trans q⟩
 ·obtain⟨l,q⟩:=u.there a o e h;exact⟨l,(hs.2 a<|f a o e).trans q⟩
 ·refine(J.hok a o e).stay (λc v hc q=>(hs.2 c ?_).trans q) (λ_ q=>q) λ_ _ _ q=>q;rintro rfl;rcases hc with rfl|hc
  ·rw[i]at e;cases e
  ·rw[i]at hc;cases hc
 ·obtain⟨_,h,_,y,x,w⟩:=m a p;exact⟨y,h,x,w⟩
def BP{pl:Kp}{H'}(b:BlkScope X scope)(I:Inv X pz σ H s)(l:∀a∈fp,jN X pz H a)(h:∀a∈fp,a<s.heap.objs.size)(j:∀a∈fp,H' a=none) :
  ∀a∈fp,jN (blk X scope N s H fp pz) [] H' a:=λa f=>by
 obtain⟨_,w,u,y,o,m⟩:=l a f;refine⟨j a f,Yz<|h a f,λz=>?_,.inl f,λx c e=>?_,λp i=>?_⟩
 ·rcases Yw.mp (I.stkSub a z)with q|q
  ·exact w q
  ·exact u q
 ·rcases gN b I e with⟨q,_,_⟩|⟨q,_⟩
  ·intro z;subst z;exact absurd (ZQ (h _ f) q)<|YX _
  ·exact o x c q
 ·have g:p∈X.pn++pz:=by
   have:p∈(X.pn++pz)++[]:=i
   rwa [YZ]at this
  exact m p g
def w_{Q}cl
  (h:∀c:Env,c={scope:=scope,locals:=s.heap.objs.size,globals:=env.globals,cells:=cellsFrom (s.heap.objs.size+1) scope.names cl,qual:=env.qual,func:=none,code:=env.code,frame:=env.frame,builtins:=env.builtins}->
   Q c {s with heap:=pushCells (s.heap.push {cls:=.type "dict",data:=.dict #[]}) scope.names}) :
  wpAny M A (newFunctionEnv scope env.globals cl [] env.qual none .none<|some env) Q E s:=by
 simp only[newFunctionEnv,Option.isSome_some,Uk];refine Yb<|wpAny_alloc ?_;refine Yb<|wpAny_layCells _ (λe a cells=>by cases b:a == NameKind.cell<;>simp) _ _ _ _ ?_;rw[show({s with heap:=s.heap.push {cls:=.type "dict",data:=.dict #[]} }:Shared).heap.objs.size=s.heap.objs.size+1 from Xj ..];refine Yb ?_;exact Yh<|Yh<|h _ rfl
def zP{R:Kr}{a}(I:Nat->Shared->Prop)
  (turn:∀n s,I n s->wpAny (model prog w) A (pyNext it) (λr b=>match r with
   |none=>R (.ok .next) b
   |some v=>wpAny (model prog w) A (letOwnedTupleGo a it v) (λ_ b=>wpAny (model prog w) A (assign a env v) (λ_ l=>
     wpAny (model prog w) A (forIn ifs true λc r=>if r=true then do let ok <-isTrue c env<|eval c env;pure (ForInStep.yield ok)else pure<|ForInStep.yield r) (λok f=>
      if ok=true then wpAny (model prog w) A (eval elt env) (λx j=>
       wpAny (model prog w) A (call (.builtin "list.append") [acc,x]) (λ_ i=>∃m,m<n/\I m i) (λ_ _=>False) j) (λ_ _=>False) f
      else ∃m,m<n/\I m f) (λ_ _=>False) l) (λ_ _=>False) b) (λ_ _=>False) b) (λ_ _=>False) s)
  n (h:I n s) :
  codeAny (model prog w) A (.compLoop (.ListComp elt [⟨a,iter,ifs,0⟩] scope pos) 0 it acc env) R s:=by
 refine codeAny_loop rfl I (λn s B=>?_) n h;refine wpAny_noted ?_;refine Yb<|wpAny_standAt<|Yb<|Xd (turn n s B) (λr b o=>?_) λ_ _ g=>g.elim;cases r with
 |none=>exact Yh o
 |some v=>
  refine Yb<|Xd o (λ_ z p=>?_) λ_ _ g=>g.elim;refine Yb<|Xd p (λ_ l y=>Yb<|Xd y (λok f e=>?_) λ_ _ g=>g.elim) λ_ _ g=>g.elim;cases ok with
  |true=>
   exact Yb<|Yb<|Xd e (λx j u=>Yb<|Xd u (λ_ i q=>Yh<|Yh ⟨rfl,q⟩) λ_ _ g=>g.elim) λ_ _ g=>g.elim
  |false=>
   exact Yh ⟨rfl,e⟩
def LK:TT:=λ_ H Q=>Q true H
def pX(X:Cx)(ifs:List Expr)(t:TT):Prop:=
 ∀(p:Kp) s (a:St) H Q,Inv X p a H s->t a H Q->
  wpAny (model X.prog X.w) X.A (forIn ifs true λc r=>if r=true then do let ok <-isTrue c X.env<|eval c X.env;pure (ForInStep.yield ok)else pure<|ForInStep.yield r) (TP X p a Q) X.xe s
def DZ:pX X [] LK:=λ_ _ _ H _ I h=>Yh ⟨H,I,h⟩
def Dh(h:PT X c t):pX X [c] t:=λp s a H Q I q=>wpAny_tests_one<|h p s a H Q I q
def Bs(own:Nat)(ix:List Nat)(wi:TI)(g:TG)(tc:TT)(te:TE):TE:=λh H Q=>wi h H λJ q=>∀a,q a=none->∃W:Nat->Nat->List V->Hp->Prop,
 (∃m,W 0 m []<|upd q a<|.lst [])/\∀i m c H,W i m c H->
  (J.stop i H/\Q (.ref a) H)\/(J.go i H/\∃N:List V->Hp->Prop,(∀e f,N e f->∃l,l < m/\W (i+1) l e f)/\∀x f,J.yld i H x f->g x (eZ own ix h) f λb s=>
   (b.length=own+ix.length/\∀(j:Nat) v,(eZ own ix h)[j]?=some (some v)->b[j]?=some (some v)) /\
   tc b s λok p=>if ok=true then te b p λy o=>o a=some (.lst c)/\c.length<sizeLine/\N (c++[y]) (upd o a<|.lst<|c++[y])else N c p)
section
variable       {own:Nat}{ix:List Nat}{wi:TI}{g:TG}  
theorem oV{Q:VK}{RR:Value->Addr->Result->Shared->Prop}(hcalm:X.calm=true)(b:BlkScope X scope)(cp:Caps X scope N own ix)
  (hg:∀s H fp pz,PG (blk X scope N s H fp pz) tg g) (hc:∀s H fp pz,pX (blk X scope N s H fp pz) ifs tc) (he:∀s H fp pz,PE (blk X scope N s H fp pz) elt te)
  (hp:PIE X pz σ tg (λJ H1=>∀acc,H1 acc=none->∃W:Nat->Nat->List V->Hp->Prop,
   (∃m,W 0 m []<|upd H1 acc<|.lst [])/\∀i m ys H,W i m ys H->
    (J.stop i H/\Q (.ref acc) H)\/(J.go i H/\∃N:List V->Hp->Prop,(∀Y H',N Y H'->∃m',m' < m/\W (i+1) m' Y H')/\∀x H',J.yld i H x H'->g x (eZ own ix σ) H' λI H2=>
     (I.length=own+ix.length/\∀(j:Nat) v,(eZ own ix σ)[j]?=some (some v)->I[j]?=some (some v)) /\
     tc I H2 λok f=>if ok=true then te I f λy H4=>H4 acc=some (.lst ys)/\ys.length<sizeLine/\N (ys++[y]) (upd H4 acc<|.lst<|ys++[y])else N ys f)) itv s)
  (hR:∀c f fp acc (σ':St) H' s',Inv X pz σ f c->(∀a∈fp,jN X pz f a)->Inv (blk X scope N c f fp pz) [] σ' H' s'->Q (.ref acc) H'->RR (.ref acc) c.heap.objs.size (.ok .next) s') :
  wpAny (model X.prog X.w) X.A (newList []) (λacc s₃=>wpAny (model X.prog X.w) X.A (newFunctionEnv scope X.env.globals (dD X.env.cells scope.names []) [] X.env.qual none .none<|some X.env) (λC s₄=>
   codeAny (model X.prog X.w) X.A (.compStart (.ListComp elt [⟨tg,iter,ifs,0⟩] scope pos) 0 itv acc {C with scope:=relabel scope X.env}) (RR acc C.locals) s₄) E s₃) E s:=by
 obtain⟨it,fp,Z,J,H1,rfl,I1,T,st1,f1,hacc⟩:=hp;refine Xh ?_
 have U:Inv X pz σ _ {s with heap:=s.heap.push {cls:=.type "list",dict:=none,data:=.seq ([]).toArray} }:=I1.lnew .nil<|YO _;generalize hs3:({s with heap:=s.heap.push {cls:=.type "list",dict:=none,data:=.seq ([]).toArray} })=c at U ⊢;have kp3:∀a o,s.heap.get? a=some o->c.heap.get? a=some o:=λa o e=>by rw[<-hs3];exact Yf _ e
 have st3:=T.keep _ _ _ st1 λa _ o e=>kp3 a o e
 have lt1:∀a∈fp,a<s.heap.objs.size:=λa p=>by obtain⟨o,e,_⟩:=T.obj _ _ st1 a p;exact Ys e
 have S:∀a∈fp,jN X pz (upd H1 s.heap.objs.size<|.lst []) a:=λa p=>⟨by rw[aD<|Yz<|lt1 a p];exact(f1 a p).1,(f1 a p).2⟩
 have O:∀a∈fp,a<c.heap.objs.size:=λa p=>by obtain⟨o,e,_⟩:=T.obj _ _ st3 a p;exact Ys e
 obtain⟨W,⟨m0,w0⟩,K⟩:=hacc s.heap.objs.size I1.fresh;generalize hH3:upd H1 s.heap.objs.size (.lst [])=f at U S w0;generalize hacc':s.heap.objs.size=acc at w0 K ⊢;refine w_ _ λC hc'=>?_;subst hc';have J0:=AM (N:=N) (fp:=fp) b cp U S O;have st4:Z 0 (pushCells (c.heap.push {cls:=.type "dict",data:=.dict #[]}) scope.names):=T.keep _ _ _ st3 λa _ o e=>Ul _ _ a o<|Yf _ e
 generalize hs4:({c with heap:=pushCells (c.heap.push {cls:=.type "dict",data:=.dict #[]}) scope.names}:Shared)=s4 at J0 ⊢;have L:Z 0 s4.heap:=by rw[<-hs4];exact st4
 have B:codeAny (model X.prog X.w) X.A (.compLoop (.ListComp elt [⟨tg,iter,ifs,0⟩] scope pos) 0 (.ref it) (.ref acc)<|iM X.env scope c.heap.objs.size) (RR (.ref acc) c.heap.objs.size) s4:=by
  refine zP (λn s'=>∃i ys H',Inv (blk X scope N c f fp pz) [] (eZ own ix σ) H' s'/\Z i s'.heap/\(∀a∈fp,H' a=none)/\W i n ys H') ?_ m0 ⟨0,[],f,J0,L,λa p=>(S a p).1,w0⟩;rintro n s5 ⟨i,ys,H5,J5,st5,fr5,w5⟩;have fp5:=BP (pl:=[]) (N:=N) b U S O fr5;rcases K i n ys H5 w5 with⟨stop,q⟩|⟨go,NN,hN,step⟩
  ·refine thn (T.done (blk X scope N c f fp pz) rfl rfl rfl hcalm i [] s5 _ H5 _ J5 fp5 st5 stop) λr s6 ⟨hr,J6⟩=>?_;subst hr;exact hR c f fp acc _ H5 s6 U S J6 q
  ·refine thn (T.item (blk X scope N c f fp pz) rfl rfl rfl hcalm i [] s5 _ H5 _ J5 fp5 st5 go) λr s6 ⟨u,hr,h6⟩=>?_;subst hr;refine thn h6 λ_ s7 h=>?_;obtain⟨x,H7,J7,r7,y7,M,fr7⟩:=h;have fp7:=BP (pl:=[]) (N:=N) b U S O fr7;have J7':=J7.pinned fp7<|T.obj _ _ M;have back:∀{l:St}{P:Hp}{R:Shared}{zs:List V},Inv (blk X scope N c f fp pz) ([]++n9 fp s7.heap) l P R->(l.length=own+ix.length/\∀(j:Nat) v,(eZ own ix σ)[j]?=some (some v)->l[j]?=some (some v))->NN zs P->
     ∃m,m<n/\∃i ys H',Inv (blk X scope N c f fp pz) [] (eZ own ix σ) H' R/\Z i R.heap/\(∀a∈fp,H' a=none)/\W i m ys H':=λ{l P R zs} J8 hw n8=>by
    obtain⟨m',hm,w8⟩:=hN zs P n8;refine⟨m',hm,i+1,zs,P,(J8.unpinned).weak (by rw[jf,hw.1]) hw.2,T.keep _ _ _ M λa p o e=>(J8.pin (a,o)<|YK _<|YK _<|ig p e).1,λa p=>?_,w8⟩;obtain⟨o,e,d⟩:=T.obj _ _ M a p;exact(J8.pin (a,o)<|YK _<|YK _<|ig p e).2.1
   refine thn (hg c f fp pz _ s7 _ H7 x u _ J7' r7<|step x H7 y7) λ_ R h=>?_;obtain⟨l,P,J8,hw,q8⟩:=h;refine thn (hc c f fp pz _ R l P _ J8 q8) λok s9 h=>?_;obtain⟨H9,J9,q9⟩:=h;cases ok with
   |false=>
    exact back J9 hw q9
   |true=>
    refine thn (he c f fp pz _ s9 l H9 _ J9 q9) λy s10 h=>?_;obtain⟨z,H10,J10,rz,e10,hlt,n10⟩:=h;refine thn (jp (X:=blk X scope N c f fp pz) _ s10 l H10 (.ref acc) [z] (.ref acc) [y] (λv H'=>v=.non/\H'=upd H10 acc (.lst<|ys++[z])) J10 rfl (.cons rz .nil) ⟨acc,ys,z,rfl,rfl,e10,hlt,rfl,rfl⟩) λ_ s11 h=>?_;obtain⟨_,H11,J11,_,_,e11⟩:=h;subst e11;exact back J11 hw n10
 exact codeAny_compStart_list B<|T.self _ _ _ _ _ L B
def D9(hcalm:X.calm=true)(b:BlkScope X scope)(cp:Caps X scope N own ix)(hi:PI X tg iter wi)
  (l:∀s H fp pz,PG (blk X scope N s H fp pz) tg g) (o:∀s H fp pz,pX (blk X scope N s H fp pz) ifs tc) (he:∀s H fp pz,PE (blk X scope N s H fp pz) elt te)
  (hnames:∀y∈scope.names,y.2=.local->scope.names.lookup y.1=some .local:=by decide)
  (hs:FsI iter X:=by intro _;rfl):PE X (.ListComp elt [⟨tg,iter,ifs,0⟩] scope pos) (Bs own ix wi g tc te):=by
 intro pz s e H Q I h;refine wpAny_comprehension_free rfl hs (oY<|b.cl I.ok) b.kind hnames<|thn (hi pz s e H _ I h) λv L u=>thn u λi K p=>?_;refine oV hcalm b cp l o he p ?_;intro E P fp a f B M z x J q;obtain⟨m,j,_⟩:=id J.loc;exact⟨m,j,λO c=>⟨.ref a,B,uO z x J c,rfl,q⟩⟩
def wz{y}{py spos}(hcalm:X.calm=true)(hN:X.N.Nodup)(hiN:X.N[i]?=some y)(hx:Loc X.env.scope y)(b:BlkScope X scope)(cp:Caps X scope N own ix)(hi:PI X tg iter wi)
  (hg:∀s H fp pz,PG (blk X scope N s H fp pz) tg g) (S:∀s H fp pz,pX (blk X scope N s H fp pz) ifs tc) (he:∀s H fp pz,PE (blk X scope N s H fp pz) elt te)
  (K:swapsWith (.ListComp elt [⟨tg,iter,ifs,0⟩] scope pos) (some<|.Name y py) spos.line X.env=pure true:=by rfl)
  (hnames:∀y∈scope.names,y.2=.local->scope.names.lookup y.1=some .local:=by decide)
  (hs:FsI iter X:=by intro _;rfl)
  (hf:FnL X y:=by trivial) :
  PS X (.Assign [.Name y py] (.ListComp elt [⟨tg,iter,ifs,0⟩] scope pos) spos) (BU (Bs own ix wi g tc te)<|lW i):=by
 intro pz s u H D I h;rw[exec_Assign_Name_used _ _ _ _ K];refine Yb<|wpAny_standAt<|Yb ?_;refine Yb<|Xd (wpAny_comprehension_free rfl hs (oY<|b.cl I.ok) b.kind hnames
 <|thn (hi pz s u H _ I h) λv s1 h1=>thn h1 λZ s2 h2=>?_) (λ_ j hq=>Yh<|Yh hq) λ_ _ e=>e
 refine oV (Q:=λx H1=>lW i x u H1 D.nx) hcalm b cp hg S he h2 ?_;intro B H3 fp f Y U j l f3 J q;obtain⟨m,P,_⟩:=id J.loc;have I':=uO l f3 J<|Heap.SameBut.refl ..;refine wpAny_assign_Name<|rD (v:=.ref f) I' hN hiN hx rfl (λE T R=>?_) hf;obtain⟨a,L,ha⟩:=R;have O:B.heap.objs.size≠a:=by
  rcases ha with ha|ha
  ·rw[ha];exact ZH l.lt
  ·obtain⟨v,z⟩:=l.cell y a ha;exact ZH z.lt
 refine⟨m,P.sameBut L O,λh' M=>?_⟩;refine⟨u.set i _,U,?_,q⟩;exact T.turned (λc o S e=>(M.2 c S).trans e) J.free (ZH l.lt) (.inr l.sz) (λx c e=>by obtain⟨v,z⟩:=l.cell x c e;exact Yz z.lt) λp hp=>Yz<|Ys (l.pin p hp).1
end
section
variable{κ:Type} [DecidableEq κ]
noncomputable def eK(kvs:List (κ×V))(k:κ):Option V:=(kvs.find? λa=>decide<|a.1=k).map (·.2)
noncomputable def h9(kvs:List (κ×V))(k:κ)(v:V):List (κ×V):=
 if(kvs.any λa=>decide<|a.1=k)=true then kvs.map (λa=>if a.1=k then(a.1,v)else a)else kvs++[(k,v)]
def nN{p}{k:κ}(e:p.1=k):eK (p::r) k=some p.2:=by simp[eK,e]
def ph{p}{k:κ}(e:¬p.1=k):eK (p::r) k=eK r k:=by simp[eK,e]
theorem vZ k:∀kvs:List (κ×V),(kvs.any λa=>decide (a.1=k))=(eK kvs k).isSome
 |[]=>rfl
 |p::r=>by
  rw[XI];by_cases e:p.1=k
  ·simp[nN e,YS e]
  ·rw[ph e,YB e,Bool.false_or];exact vZ k r
theorem jb kvs(k:κ)v:(h9 kvs k v).length<=kvs.length+1:=by
 unfold h9;grind
def RelO.isSome_eq{o}{u}(r:RelO o u):o.isSome=u.isSome:=by
 cases o with
 |none=>cases u with
  |none=>rfl
  |some _=>exact(show False from r).elim
 |some _=>cases u with
  |none=>exact(show False from r).elim
  |some _=>rfl
def RelO.getD{o}{u}(r:RelO o u)(a:RelV d d'):RelV (o.getD d) (u.getD d'):=by
 cases o with
 |none=>cases u with
  |none=>exact a
  |some _=>exact(show False from r).elim
 |some _=>cases u with
  |none=>exact(show False from r).elim
  |some _=>exact r
def KV.val{vs}(r:KV kvs vs)(k:κ):RelO (eK kvs k) (valueAt vs k):=by
 induction r with
 |nil=>exact True.intro
 |@cons p q i a h t ih=>
  obtain⟨f,g⟩:=h;by_cases e:p.1=k
  ·have c:=f.symm.trans e;have b:valueAt (q::a) k=some q.2:=by simp[valueAt,c]
   rwa[nN e,b]
  ·have c:¬q.1=k:=λz=>e<|f.trans z
   have b:valueAt (q::a) k=valueAt a k:=by simp[valueAt,c]
   rwa[ph e,b]
def KV.any{vs}(r:KV kvs vs)(k:κ):(kvs.any λa=>decide (a.1=k))=vs.any λa=>decide (a.1=k):=by
 induction r with
 |nil=>rfl
 |cons h t ih=>rw[XI,XI,ih,h.1]
theorem KV.repl{vs}(r:KV kvs vs)(k:κ)(c:RelV y u) :
  KV (kvs.map λa=>if a.1=k then(a.1,y)else a) (vs.map λa=>if a.1=k then(a.1,u)else a):=by
 induction r with
 |nil=>exact .nil
 |@cons p q i g h t ih=>
  rw[YH,YH];refine .cons ?_ ih;grind
def KV.put{vs}(r:KV kvs vs)(k:κ)(a:RelV y u):KV (h9 kvs k y) (stored vs k u):=by
 unfold h9 stored;rw[r.any];by_cases e:(vs.any λb=>decide<|b.1=k)=true
 ·rw[Yj e,Yj e];exact r.repl k a
 ·rw[Yl e,Yl e];exact Paired.snoc r ⟨rfl,a⟩
def KV.length{vs}(r:KV kvs vs):kvs.length=vs.length:=Uc r
end
def rM{P}(r:RelV (kV k) u):(bA P w).is k u=true:=by
 cases k with
 |inl i=>obtain⟨t,e⟩:=(show ∃t,u=Value.int i t from r);subst e;exact wg P w i t
 |inr x=>obtain⟨t,e⟩:=(show ∃t,u=Value.str x t from r);subst e;exact vv P w x t
theorem qO{P} :∀{ks}{us},Vals (ks.map kV) us->ItemsAre (bA P w) ks us
 |[],_,r=>by rw[List.map_nil]at r;cases r;exact .nil
 |k::ks,_,r=>by
  cases r with
  |cons h t=>exact .cons (rM h)<|qO t
abbrev KT(H:Hp):List (List Key×V)->List (List Key×Addr×Value)->Prop:=Paired λp q=>p.1=q.1/\H q.2.1=some (.tup<|p.1.map kV)/\RelV p.2 q.2.2
def KT.val{xs}(r:KT H kvs xs)k:RelO (eK kvs k) ((atKey xs k).map (·.2)):=by
 induction r with
 |nil=>exact True.intro
 |@cons p q i a h t ih=>
  obtain⟨f,_,g⟩:=h;by_cases e:p.1=k
  ·have c:=f.symm.trans e;have b:atKey (q::a) k=some q.2:=by simp[atKey,c]
   rwa[nN e,b]
  ·have c:¬q.1=k:=λz=>e<|f.trans z
   have b:atKey (q::a) k=atKey a k:=by simp[atKey,c]
   rwa[ph e,b]
theorem KT.repl{xs}(r:KT H kvs xs)k(f:RelV y u) :
  KT H (kvs.map λb=>if b.1=k then(b.1,y)else b) (xs.map<|putAt k u):=by
 induction r with
 |nil=>exact .nil
 |@cons p q j i h t ih=>
  rw[YH,YH];refine .cons ?_ ih;obtain⟨a,c,g⟩:=h;unfold putAt;grind
def KT.put{xs}(r:KT H kvs xs)k{b}(h:H b=some (.tup (k.map kV)))(a:RelV y u) :
  KT H (h9 kvs k y) (storedH xs k b u):=by
 have e:(kvs.any λc=>decide<|c.1=k)=(atKey xs k).isSome:=by rw[vZ,(r.val k).isSome_eq,Option.isSome_map]
 unfold h9 storedH;rw[e];by_cases q:(atKey xs k).isSome=true
 ·rw[Yj q,Yj q];exact r.repl k a
 ·rw[Yl q,Yl q];exact Paired.snoc r ⟨rfl,h,a⟩
def KT.keeps{xs}(r:KT H kvs xs)(h:∀b ys,H b=some (.tup ys)->H' b=some (.tup ys)):KT H' kvs xs:=
 Paired.mapP r λ_ _ z=>⟨z.1,h _ _ z.2.1,z.2.2⟩
section
variable{P:Program}    
def GX{u}(ok:HOk P w H h)(e:Rd H a u):ObjOk P w H h a u:=e.ok ok
def qE(ok:HOk P w H h)(e:Rd H a (.dK kvs)):kvs.length<=sizeLine/\(a == sysModules)=false/\∃vs,KV kvs vs/\h.DictOf (bA P w) a vs:=
 show ObjOk P w H h a (.dK kvs)from GX ok e
def KF(ok:HOk P w H h)(e:H a=some (.dK kvs)):kvs.length<=sizeLine/\(a == sysModules)=false/\∃vs,KV kvs vs/\h.DictOf (bA P w) a vs:=qE ok<|.inl e
def ou(ok:HOk P w H h)(e:H a=some (.tup (ks.map kV))):(tupleKind (bA P w)).is h ks a:=by
 obtain⟨_,i,r,⟨o,f,c,n,b⟩,_⟩:=(show ObjOk P w H h a (.tup _)from ok a _ e)
 exact⟨o,i.toArray,n,f,c,b,by simpa using qO r⟩
def rS(ok:HOk P w H h)(e:Rd H a (.dT kvs)):kvs.length<=sizeLine/\(a == sysModules)=false /\
  ∃xs,KT H kvs xs/\h.DictOfH (tupleKind<|bA P w) a xs:=by
 obtain⟨z,y,xs,r,o,s,u,j,i,g,f,c⟩:=(show ObjOk P w H h a (.dT kvs)from GX ok e)
 refine⟨z,y,xs,r,o,s,u,j,i,g,f,λx hx=>?_,c⟩;have all:∀{l}{m},KT H l m->∀x∈m,(tupleKind<|bA P w).is h x.1 x.2.1:=by
  intro l m q;induction q with
  |nil=>intro x hx;exact nomatch hx
  |@cons p q B A b t ih=>
   intro x hx;rcases Yw.mp hx with e|hx
   ·subst e;exact ou ok<|by rw[<-b.1];exact b.2.1
   ·exact ih x hx
 exact all r x hx
def JI(ok:HOk P w H h)(e:H a=some (.dT kvs)):kvs.length<=sizeLine/\(a == sysModules)=false /\
  ∃xs,KT H kvs xs/\h.DictOfH (tupleKind<|bA P w) a xs:=rS ok<|.inl e
end
def DGet(H:Hp)(a:Addr)(y:V)(r:Option V):Prop:=
 (∃c k,Rd H a (.dK c)/\y=kV k/\r=eK c k)\/∃c k b,Rd H a (.dT c)/\y=.ref b/\H b=some (.tup<|k.map kV)/\r=eK c k
def DPut(H:Hp)(a:Addr)(y v:V)(H':Hp):Prop:=
 (∃c k,H a=some (.dK c)/\y=kV k/\c.length<sizeLine/\H'=upd H a (.dK<|h9 c k v)) \/
 ∃c k b,H a=some (.dT c)/\y=.ref b/\H b=some (.tup<|k.map kV)/\c.length<sizeLine/\H'=upd H a (.dT<|h9 c k v)
def DGet.k{k}(e:H a=some (.dK kvs)):DGet H a (kV k) (eK kvs k):=.inl ⟨kvs,k,.inl e,rfl,rfl⟩
def DGet.t{b}{k}(e:H a=some (.dT kvs))(c:H b=some (.tup (k.map kV))):DGet H a (.ref b) (eK kvs k):=.inr ⟨kvs,k,b,.inl e,rfl,c,rfl⟩
def DPut.k{k}(e:H a=some (.dK kvs))(h:kvs.length<sizeLine):DPut H a (kV k) v (upd H a (.dK (h9 kvs k v))):=.inl ⟨kvs,k,e,rfl,h,rfl⟩
def DPut.t{b}{k}(e:H a=some (.dT kvs))(c:H b=some (.tup (k.map kV)))(h:kvs.length<sizeLine) :
  DPut H a (.ref b) v (upd H a<|.dT<|h9 kvs k v):=.inr ⟨kvs,k,b,e,rfl,c,h,rfl⟩
section
variable       {v:V}{r:Value}{o:Option V}  
def Inv.big(I:Inv X pz σ H s):sysModules<s.heap.objs.size:=by have h:=(I.mod.glob.keeps I.bk).lt;exact ZQ (by decide) h
def N5{Q:Kv}(x:A.units+1<cLine)(I:Inv X pz σ H s)(g:DGet H a y o)(p:RelV y u)(h:∀s',Inv X pz σ H s'->Q (.bool o.isSome) s') :
  wpAny (model X.prog X.w) A (compareOp .In u (.ref a)) Q E s:=by
 rcases g with⟨f,k,e,j,l⟩|⟨f,k,b,e,j,B,l⟩
 ·subst j;obtain⟨z,i,J,c,m⟩:=qE I.hok e;refine wpAny_in_of (rM p) i m.mapOf ?_;rw[<-(c.val k).isSome_eq,<-l];exact h _ (I.tok _)
 ·subst j;cases(show u=Value.ref b from p);obtain⟨z,i,C,c,m⟩:=rS I.hok e;refine wpAny_in_heap (Vy x) (ou I.hok B) i m ?_;have q:=(c.val k).isSome_eq;rw[Option.isSome_map]at q;rw[<-q,<-l];exact h _ (I.tok _)
def FM(x:A.units+1<cLine)(I:Inv X pz σ H s)(g:DGet H a y o)(p:RelV y u)(h:∀s',Inv X pz σ H s'->Q (.bool (!o.isSome)) s') :
  wpAny (model X.prog X.w) A (compareOp .NotIn u<|.ref a) Q E s:=by
 rcases g with⟨f,k,e,j,l⟩|⟨f,k,b,e,j,B,l⟩
 ·subst j;obtain⟨z,i,J,c,m⟩:=qE I.hok e;refine wpAny_notIn_of (rM p) i m.mapOf ?_;rw[<-(c.val k).isSome_eq,<-l];exact h _<|I.tok _
 ·subst j;cases(show u=Value.ref b from p);obtain⟨z,i,C,c,m⟩:=rS I.hok e;refine wpAny_notIn_heap (Vy x) (ou I.hok B) i m ?_;have q:=(c.val k).isSome_eq;rw[Option.isSome_map]at q;rw[<-q,<-l];exact h _<|I.tok _
def y_(I:Inv X pz σ H s)(m:Mut (H a))(hs:Heap.SameBut a s.heap h')(he:∃q,h'.get? a=some q)(new:ObjOk X.prog X.w (upd H a ob) h' a ob) :
  Inv X pz σ (upd H a ob) {s with heap:=h',toks:=t' }:=
 I.write m (.inl rfl) (λb q h z=>(hs.2 b h).trans z) he new
def Bn{P}{vs}(z:kvs.length<=sizeLine)(hd:(a == sysModules)=false)(b:KV kvs vs)(c:h'.DictOf (bA P w) a vs) :
  ObjOk P w H' h' a (.dK kvs):=⟨z,hd,vs,b,c⟩
theorem Ab{Q}(T:A.units+1<cLine)(I:Inv X pz σ H s)(g:DPut H a y v H')(L:RelV y u)(M:RelV v r)(h:∀s',Inv X pz σ H' s'->Q () s') :
  wpAny (model X.prog X.w) A (setItem (.ref a) u r) Q E s:=by
 rcases g with⟨i,k,e,C,l,J⟩|⟨i,k,b,e,C,P,l,J⟩
 ·subst C J;obtain⟨z,B,S,f,K⟩:=KF I.hok e;have o:S.length<=sizeLine:=by rwa[<-f.length]
  have x:(h9 i k v).length<=sizeLine:=by have:=jb i k v;lia
  refine wpAny_setItem_pairs (rM L) K λN j p=>h _ ?_;have U:∃q,N.get? a=some q:=let ⟨q,_,_,m,_⟩:=j;⟨q,m⟩
  exact y_ I (by rw[e];exact True.intro) p U<|Bn x B (f.put k M) j
 ·subst C J;cases(show u=Value.ref b from L);obtain⟨z,B,R,f,K⟩:=JI I.hok e;have o:R.length<=sizeLine:=by rwa[<-Uc f]
  have x:(h9 i k v).length<=sizeLine:=by have:=jb i k v;lia
  refine wpAny_setItem_heap (Vy T) (ou I.hok P) K λN j p=>h _ ?_;obtain⟨q,es,ep,m,h2,h3,Z,_,Y⟩:=j;refine y_ I (by rw[e];exact True.intro) p ⟨q,m⟩ ⟨x,B,_,(f.put k P M).keeps λc ys O=>?_,q,es,ep,m,h2,h3,Z,Y⟩;rwa[aD<|JV O e λz=>nomatch z]
def M7(ty td:TE):TE:=λb H Q=>ty b H λy e=>td b e λx c=>∃a o,x=.ref a/\DGet c a y o/\Q (.bl o.isSome) c
end
section
variable       {kvs:List (Key×V)}{k:Key}   
end
def Fx(ty td:TE):TE:=λb H Q=>ty b H λy e=>td b e λx c=>∃a o,x=.ref a/\DGet c a y o/\Q (.bl<|!o.isSome) c
def Ke(td ty tv:TE):TS:=λD b H=>tv b H λv g=>td b g λx f=>ty b f λy e=>∃a c,x=.ref a/\DPut e a y v c/\D.nx b c
section
variable{X:Cx}{o i e value:Expr}{pos pos' tpos:Pos}{td ty tv:TE}
def cm(m:X.A.units+1<cLine)(hi:PE X i ty)(w:PE X o td):PC X .In i o (M7 ty td):=by intro p s c H Q I h;refine bw (hi p s c H _ I h) λN e y K E f j=>bw (w p e c K _ E j) λu M x J C Pd b=>?_;obtain⟨a,l,z,g,q⟩:=b;subst z;obtain rfl:u=Value.ref a:=Pd;exact N5 m C g f λL B=>⟨.bl l.isSome,J,B,rfl,q⟩
end
section
variable  {i:Expr}  {ty:TE}
def zC(w:X.A.units+1<cLine)(hi:PE X i ty)(z:PE X o td):PC X .NotIn i o (Fx ty td):=by intro p s c H Q I h;refine bw (hi p s c H _ I h) λO e y L J f l=>bw (z p e c L _ J l) λu N x K E j b=>?_;obtain⟨a,m,B,g,q⟩:=b;subst B;obtain rfl:u=Value.ref a:=j;exact FM w E g f λM C=>⟨.bl _,K,C,rfl,q⟩
def yX(B:X.A.units+1<cLine)(C:PE X o td)(hi:PE X i ty)(hv:PE X value tv)(hs:swapsWith value (some (.Subscript o i pos')) pos.line X.env=pure false) :
  PS X (.Assign [.Subscript o i pos'] value pos) (Ke td ty tv):=by
 intro p s b H D I h;refine wpAny_Assign_Subscript (bw (hv p s b H _ I h) λr f v P M m z=>bw (C p f b P _ M z) λu e x O L l w=>bw (hi p e b O _ L w) λS R y T K j c=>?_) hs;obtain⟨a,N,E,g,q⟩:=c;subst E;obtain rfl:u=Value.ref a:=l;exact Ab B K g j m λQ J=>⟨b,N,J,q⟩
end
def Cu{P}(h:Heap)(a:sysModules<h.objs.size):ObjOk P w H (h.push {cls:=.type "dict",data:=.dict #[]}) h.objs.size (.dK []):=
 ⟨YO _,ZW.mpr<|XS<|Yz a,[],.nil,Heap.DictOf.new h⟩
def C_{P}(h:Heap)(a:sysModules<h.objs.size):ObjOk P w H (h.push {cls:=.type "dict",data:=.dict #[]}) h.objs.size (.dT []):=
 ⟨YO _,ZW.mpr<|XS<|Yz a,[],.nil,_,#[],0,Yq _ rfl,⟨rfl,rfl,rfl⟩,rfl,rfl,List.nodup_nil⟩
def HA:TE:=λ_ H Q=>∀p,H p=none->Q (.ref p) (upd H p<|.dT [])
def CN:PE X (.Dict [] [] pos) HA:=λp s b H Q I h=>
 wpAny_Dict_empty ⟨.ref s.heap.objs.size,_,I.laid (λ_ _ q=>Yf _ q) (Yr _)<|C_ s.heap I.big,rfl,h _<|I.hok.fresh<|Yr _⟩
def g7(kvs more:List (Key×V)):List (Key×V):=more.foldl (λa b=>h9 a b.1 b.2) kvs
structure M2 (X:Cx) (o:Expr) (m:Str) (apos:Pos) (e f:Expr) (cpos:Pos):Prop where
 base:attributeBase o m X.env (eval o X.env)=eval o X.env
 few:((backTo cpos (starEach [e,f] X.env)).all (λx=>!x.1)&&(backToKw cpos (keywordEach [] X.env)).all (λx=>x.1.isSome)
  && decide (([e,f]:List Expr).length+([]:List Keyword).length+(if([]:List Keyword).isEmpty then 0 else 1)<30))=true
 line:(apos.endLine == cpos.line)=true
 trees:backTo cpos (starEach [e,f] X.env)=[(false,eval e X.env),(false,eval f X.env)]
def IsD(H:Hp)(a:Addr):Prop:=(∃b,Rd H a<|.dK b)\/∃b,Rd H a<|.dT b
def HS(I:Inv X pz σ H s)(d:IsD H a) :
  s.TypeIs (.ref a) "dict"/\(∀b,Value.ref a=.ref b->∃ob,s.heap.get? b=some ob/\ob.dict=none)/\(a == sysModules)=false:=by
 rcases d with⟨f,e⟩|⟨f,e⟩
 ·obtain⟨_,h,j,_,c⟩:=qE I.hok e;refine⟨c.typeIs,λb q=>?_,h⟩;cases q;obtain⟨ob,_,_,i,g,_⟩:=c;exact⟨ob,i,g.2.1⟩
 ·obtain⟨_,h,x,_,c⟩:=rS I.hok e;refine⟨c.typeIs,λb q=>?_,h⟩;cases q;obtain⟨ob,_,_,i,g,_⟩:=c;exact⟨ob,i,g.2.1⟩
section
variable       {d:V}{r:Value}{o:Option V}  
def Iq(C:A.units+1<cLine)(I:Inv X pz σ H s)(g:DGet H a y o)(q:RelV y u)(x:RelV d r)(h:∀p s',Inv X pz σ H s'->RelV (o.getD d) p->Q p s') :
  wpAny (model X.prog X.w) A (call (.builtin "dict.get") [.ref a,u,r]) Q E s:=by
 rcases g with⟨i,k,e,m,l⟩|⟨i,k,b,e,m,J,l⟩
 ·subst m;obtain⟨z,j,K,c,f⟩:=qE I.hok e;refine call_meetsIn VR f.typeIs PySem.F.entry_dict_get (PySem.F.args_dict_get_3 _ _ _) (meets_dict_get_default _ a (rM q) j r) ⟨_,f.mapOf,h _ _ (I.tok _) ?_⟩;rw[l];exact(c.val k).getD x
 ·subst m;cases(show u=Value.ref b from q);obtain⟨z,j,B,c,f⟩:=rS I.hok e;refine call_meetsIn VR f.typeIs PySem.F.entry_dict_get (PySem.F.args_dict_get_3 _ _ _) (meetsH_dict_get_default _ a b j r) ⟨Vy C,k,B,ou I.hok J,f,h _ _ (I.tok _) ?_⟩;rw[l];exact(c.val k).getD x
end
def Jd(td ty tx:TE):TE:=λb H Q=>td b H λx e=>∃a,x=.ref a/\IsD e a/\ty b e λy f=>tx b f λz c=>∃o,DGet c a y o/\Q (o.getD z) c
section
variable  {f:Expr}  {ty tx:TE}
def BH(N:X.A.units+1<cLine)(O:PE X o td)(he:PE X e ty)(P:PE X f tx)(m:M2 X o "get" apos e f cpos):PE X (.Call (.Attribute o "get" apos) [e,f] [] cpos) (Jd td ty tx):=by
 intro p s b H Q I h;refine wpAny_Call_method m.base m.few m.line PySem.F.plainAttrs_dict VR PySem.F.type_dict_get<|bw (O p s b H _ I h) λu B x H1 j J i=>?_;obtain⟨a,R,d,M⟩:=i;subst R;obtain rfl:u=Value.ref a:=J;obtain⟨q,l,_⟩:=HS j d;refine⟨q,l,?_⟩;rw[m.trees];refine Calls.callWith_builtin rfl<|Calls.evalArgs_plain<|XY<|bw (he p B b H1 _ j M) λiv w y Z U E L=>
  XY<|bw (P p w b Z _ U L) λfv s3 z Y T C ⟨ov,g,K⟩=>Calls.spliced_nil ?_
 exact Iq N T g E C λw' s4 S c=>⟨_,Y,S,c,K⟩
end
section
variable       {kvs:List (Key×V)}  
end
section
variable{κ:Type} [DecidableEq κ]
end
inductive D where
 |non|bl (b:Bool)|int (i:Int)|str (x:Str)
 |tup (xs:List D)|lst (xs:List D)
 |dT (kvs:List (List Key×D))|dK (kvs:List (Key×D))
 |ins (C:Addr) (fs:List (Str×D))
 |fn (a:Addr) (v:V) (d:D)
def Same.seqT{K:Kq}{H H':Hp}{a:Addr}{xs:List V}(e:Same H H')(h:SqT K H a xs):SqT K H' a xs:=by
 rcases h with (h|⟨o,h⟩)|h
 ·exact .inl (.inl (e _ _ h))
 ·exact .inl (.inr ⟨o,e _ _ h⟩)
 ·exact .inr h
mutual
inductive Rep (K:PySem.W.Frag) (H:Hp):V->D->Prop
 |non:Rep K H .non .non
 |bl {b:Bool}:Rep K H (.bl b) (.bl b)
 |int {i:Int}:Rep K H (.int i) (.int i)
 |str {x:Str}:Rep K H (.str x) (.str x)
 |tup {a:Addr}{vs:List V}{ds:List D}:H a=some (.tup vs)->Reps K H vs ds->Rep K H (.ref a) (.tup ds)
 |lst {a:Addr}{vs:List V}{ds:List D}:SqL K H a vs->Reps K H vs ds->Rep K H (.ref a) (.lst ds)
 |dT {a:Addr}{vs:List (List Key×V)}{ds:List (List Key×D)}:H a=some (.dT vs)->RepsT K H vs ds->Rep K H (.ref a) (.dT ds)
 |dK {a:Addr}{vs:List (Key×V)}{ds:List (Key×D)}:H a=some (.dK vs)->RepsK K H vs ds->Rep K H (.ref a) (.dK ds)
 |ins {a C dx:Addr}{vs:List (Str×V)}{ds:List (Str×D)}:H a=some (.ins C dx vs)->RepsF K H vs ds->Rep K H (.ref a) (.ins C ds)
 /-- a lambda at a: what it takes from without is v -/
 |fn {a:Addr}{v:V}{d:D}:Rep K H v d->Rep K H (.ref a) (.fn a v d)
inductive Reps (K:PySem.W.Frag) (H:Hp):List V->List D->Prop
 |nil:Reps K H [] []
 |cons {v:V}{d:D}{vs:List V}{ds:List D}:Rep K H v d->Reps K H vs ds->Reps K H (v::vs) (d::ds)
inductive RepsT (K:PySem.W.Frag) (H:Hp):List (List Key×V)->List (List Key×D)->Prop
 |nil:RepsT K H [] []
 |cons {k:List Key}{v:V}{d:D}{vs:List (List Key×V)}{ds:List (List Key×D)}:Rep K H v d->RepsT K H vs ds->RepsT K H ((k,v)::vs) ((k,d)::ds)
inductive RepsK (K:PySem.W.Frag) (H:Hp):List (Key×V)->List (Key×D)->Prop
 |nil:RepsK K H [] []
 |cons {k:Key}{v:V}{d:D}{vs:List (Key×V)}{ds:List (Key×D)}:Rep K H v d->RepsK K H vs ds->RepsK K H ((k,v)::vs) ((k,d)::ds)
inductive RepsF (K:PySem.W.Frag) (H:Hp):List (Str×V)->List (Str×D)->Prop
 |nil:RepsF K H [] []
 |cons {k:Str}{v:V}{d:D}{vs:List (Str×V)}{ds:List (Str×D)}:Rep K H v d->RepsF K H vs ds->RepsF K H ((k,v)::vs) ((k,d)::ds)
end
def Rep.same(e:Same H H')(h:Rep K H v d):Rep K H' v d:=
 Rep.rec .non .bl .int .str (λh _ i=>.tup (e _ _ h) i) (λh _ i=>.lst (e.seq h) i) (λh _ i=>.dT (e _ _ h) i) (λh _ i=>.dK (e _ _ h) i) (λh _ i=>.ins (e _ _ h) i) (λ_ i=>.fn i) .nil (λ_ _ a b=>.cons a b) .nil (λ_ _ a b=>.cons a b) .nil (λ_ _ a b=>.cons a b) .nil (λ_ _ a b=>.cons a b) h
def Reps.same(e:Same H H')(h:Reps K H v d):Reps K H' v d:=
 Reps.rec .non .bl .int .str (λh _ i=>.tup (e _ _ h) i) (λh _ i=>.lst (e.seq h) i) (λh _ i=>.dT (e _ _ h) i) (λh _ i=>.dK (e _ _ h) i) (λh _ i=>.ins (e _ _ h) i) (λ_ i=>.fn i) .nil (λ_ _ a b=>.cons a b) .nil (λ_ _ a b=>.cons a b) .nil (λ_ _ a b=>.cons a b) .nil (λ_ _ a b=>.cons a b) h
def RepsT.same(e:Same H H')(h:RepsT K H v d):RepsT K H' v d:=
 RepsT.rec .non .bl .int .str (λh _ i=>.tup (e _ _ h) i) (λh _ i=>.lst (e.seq h) i) (λh _ i=>.dT (e _ _ h) i) (λh _ i=>.dK (e _ _ h) i) (λh _ i=>.ins (e _ _ h) i) (λ_ i=>.fn i) .nil (λ_ _ a b=>.cons a b) .nil (λ_ _ a b=>.cons a b) .nil (λ_ _ a b=>.cons a b) .nil (λ_ _ a b=>.cons a b) h
def RepsK.same(e:Same H H')(h:RepsK K H v d):RepsK K H' v d:=
 RepsK.rec .non .bl .int .str (λh _ i=>.tup (e _ _ h) i) (λh _ i=>.lst (e.seq h) i) (λh _ i=>.dT (e _ _ h) i) (λh _ i=>.dK (e _ _ h) i) (λh _ i=>.ins (e _ _ h) i) (λ_ i=>.fn i) .nil (λ_ _ a b=>.cons a b) .nil (λ_ _ a b=>.cons a b) .nil (λ_ _ a b=>.cons a b) .nil (λ_ _ a b=>.cons a b) h
def RepsF.same(e:Same H H')(h:RepsF K H v d):RepsF K H' v d:=
 RepsF.rec .non .bl .int .str (λh _ i=>.tup (e _ _ h) i) (λh _ i=>.lst (e.seq h) i) (λh _ i=>.dT (e _ _ h) i) (λh _ i=>.dK (e _ _ h) i) (λh _ i=>.ins (e _ _ h) i) (λ_ i=>.fn i) .nil (λ_ _ a b=>.cons a b) .nil (λ_ _ a b=>.cons a b) .nil (λ_ _ a b=>.cons a b) .nil (λ_ _ a b=>.cons a b) h
def Reps.ind{M:List V->List D->Prop}(n:M [] [])(c:∀{v}{d}{vs}{ds},Rep K H v d->Reps K H vs ds->M vs ds->M (v::vs) (d::ds)){ds}(h:Reps K H vs ds):M vs ds:=
 Reps.rec (motive_1:=λ_ _ _=>True) (motive_3:=λ_ _ _=>True) (motive_4:=λ_ _ _=>True) (motive_5:=λ_ _ _=>True) trivial trivial trivial trivial (λ_ _ _=>trivial) (λ_ _ _=>trivial) (λ_ _ _=>trivial) (λ_ _ _=>trivial) (λ_ _ _=>trivial) (λ_ _=>trivial) n (λh q _ ih=>c h q ih) trivial (λ_ _ _ _=>trivial) trivial (λ_ _ _ _=>trivial) trivial (λ_ _ _ _=>trivial) h
def RepsT.ind{M:List (List Key×V)->List (List Key×D)->Prop}(n:M [] [])(c:∀{k}{v}{d}{vs}{ds},Rep K H v d->RepsT K H vs ds->M vs ds->M ((k,v)::vs) ((k,d)::ds)){vs}{ds}(h:RepsT K H vs ds):M vs ds:=
 RepsT.rec (motive_1:=λ_ _ _=>True) (motive_2:=λ_ _ _=>True) (motive_4:=λ_ _ _=>True) (motive_5:=λ_ _ _=>True) trivial trivial trivial trivial (λ_ _ _=>trivial) (λ_ _ _=>trivial) (λ_ _ _=>trivial) (λ_ _ _=>trivial) (λ_ _ _=>trivial) (λ_ _=>trivial) trivial (λ_ _ _ _=>trivial) n (λh q _ ih=>c h q ih) trivial (λ_ _ _ _=>trivial) trivial (λ_ _ _ _=>trivial) h
def RepsK.ind{M:List (Key×V)->List (Key×D)->Prop}(n:M [] [])(c:∀{k}{v}{d}{vs}{ds},Rep K H v d->RepsK K H vs ds->M vs ds->M ((k,v)::vs) ((k,d)::ds)){vs}{ds}(h:RepsK K H vs ds):M vs ds:=
 RepsK.rec (motive_1:=λ_ _ _=>True) (motive_2:=λ_ _ _=>True) (motive_3:=λ_ _ _=>True) (motive_5:=λ_ _ _=>True) trivial trivial trivial trivial (λ_ _ _=>trivial) (λ_ _ _=>trivial) (λ_ _ _=>trivial) (λ_ _ _=>trivial) (λ_ _ _=>trivial) (λ_ _=>trivial) trivial (λ_ _ _ _=>trivial) trivial (λ_ _ _ _=>trivial) n (λh q _ ih=>c h q ih) trivial (λ_ _ _ _=>trivial) h
def RepsF.ind{M:List (Str×V)->List (Str×D)->Prop}(n:M [] [])(c:∀{k}{v}{d}{vs}{ds},Rep K H v d->RepsF K H vs ds->M vs ds->M ((k,v)::vs) ((k,d)::ds)){vs}{ds}(h:RepsF K H vs ds):M vs ds:=
 RepsF.rec (motive_1:=λ_ _ _=>True) (motive_2:=λ_ _ _=>True) (motive_3:=λ_ _ _=>True) (motive_4:=λ_ _ _=>True) trivial trivial trivial trivial (λ_ _ _=>trivial) (λ_ _ _=>trivial) (λ_ _ _=>trivial) (λ_ _ _=>trivial) (λ_ _ _=>trivial) (λ_ _=>trivial) trivial (λ_ _ _ _=>trivial) trivial (λ_ _ _ _=>trivial) trivial (λ_ _ _ _=>trivial) n (λh q _ ih=>c h q ih) h
def Reps.length(h:Reps K H vs ds):vs.length=ds.length:=Reps.ind (M:=λvs ds=>vs.length=ds.length) rfl (λ_ _ ih=>YR Nat.succ ih) h
def Reps.get(h:Reps K H vs ds):ds[i]?=some d->∃v,vs[i]?=some v/\Rep K H v d:=
 Reps.ind (M:=λvs ds=>∀i:Nat,ds[i]?=some d->∃v,vs[i]?=some v/\Rep K H v d) (λ_ e=>nomatch e) (λr _ ih i e=>by
  cases i with
  |zero=>obtain rfl:=Yv e;exact⟨_,rfl,r⟩
  |succ i=>exact ih i e) h i
def Reps.getV(h:Reps K H vs ds):vs[i]?=some v->∃d,ds[i]?=some d/\Rep K H v d:=
 Reps.ind (M:=λvs ds=>∀i:Nat,vs[i]?=some v->∃d,ds[i]?=some d/\Rep K H v d) (λ_ e=>nomatch e) (λr _ ih i e=>by
  cases i with
  |zero=>obtain rfl:=Yv e;exact⟨_,rfl,r⟩
  |succ i=>exact ih i e) h i
def Reps.append{w}{ds es}(h:Reps K H vs ds)(s:Reps K H w es):Reps K H (vs++w) (ds++es):=Reps.ind (M:=λvs ds=>Reps K H (vs++w)<|ds++es) s (λr _ ih=>.cons r ih) h
def Reps.take n(h:Reps K H vs ds):Reps K H (vs.take n) (ds.take n):=Reps.ind (M:=λvs ds=>∀n,Reps K H (vs.take n)<|ds.take n) (λn=>by cases n<;>exact .nil) (λr _ ih n=>by
  cases n with
  |zero=>exact .nil
  |succ n=>exact .cons r<|ih n) h n
def Reps.drop n(h:Reps K H vs ds):Reps K H (vs.drop n) (ds.drop n):=Reps.ind (M:=λvs ds=>∀n,Reps K H (vs.drop n)<|ds.drop n) (λn=>by cases n<;>exact .nil) (λr q ih n=>by
  cases n with
  |zero=>exact .cons r q
  |succ n=>exact ih n) h n
def Reps.eraseIdx i(h:Reps K H vs ds):Reps K H (vs.eraseIdx i) (ds.eraseIdx i):=Reps.ind (M:=λvs ds=>∀i,Reps K H (vs.eraseIdx i)<|ds.eraseIdx i) (λ_=>.nil) (λq t ih i=>by
  cases i with
  |zero=>exact t
  |succ i=>exact .cons q<|ih i) h i
def Reps.one(r:Rep K H v d):Reps K H [v] [d]:=.cons r .nil
inductive FO where
 |d (x:D)|lst (ds:List D)|dK (kvs:List (Key×D))
noncomputable def FO.dat:FO->D
 |.d x=>x
 |.lst ds=>.lst ds
 |.dK kvs=>.dK kvs
inductive OD where
 |lst (ds:List D)|lst2 (dss:List (List D))|tup2 (dss:List (List D))|dT (kvs:List (List Key×D))|dK (kvs:List (Key×D))|ins (C:Addr) (fs:List (Str×D))|obj (C:Option Addr) (fs:List (Str×FO))
noncomputable def OD.d:OD->D
 |.lst ds=>.lst ds
 |.lst2 dss=>.lst<|dss.map .lst
 |.tup2 dss=>.tup<|dss.map .lst
 |.dT kvs=>.dT kvs
 |.dK kvs=>.dK kvs
 |.ins C fs=>.ins C fs
 |.obj (some C) fs=>.ins C<|fs.map λp=>(p.1,p.2.dat)
 |.obj none fs=>.dK<|fs.map λp=>(Sum.inr p.1,p.2.dat)
def OD.flat:OD->Bool
 |.obj _ _=>false
 |.lst2 _=>false
 |.tup2 _=>false
 |_=>true
inductive All2 {α β:Type} (R:α->β->Prop):List α->List β->Prop
 |nil:All2 R [] []
 |cons {a:α}{b:β}{as:List α}{bs:List β}:R a b->All2 R as bs->All2 R (a::as) (b::bs)
def All2.imp{e c}{R S}(f:∀a b,R a b->S a b){as:List e}{bs:List c}(h:All2 R as bs):All2 S as bs:=by
 induction h with
 |nil=>exact .nil
 |cons h _ ih=>exact .cons (f _ _ h) ih
def All2.length{b a}{R}{as:List b}{bs:List a}(h:All2 R as bs):as.length=bs.length:=by
 induction h with
 |nil=>rfl
 |cons _ _ ih=>exact YR Nat.succ ih
def ORep1(K:Kq)(F:Hp):OD->HO->Prop
 |.lst ds,.lst vs=>Reps K F vs ds
 |.dT ds,.dT vs=>RepsT K F vs ds
 |.dK ds,.dK vs=>RepsK K F vs ds
 |.ins C fs,.ins C' _ vs=>C=C'/\RepsF K F vs fs
 |_,_=>False
def FRep(K:Kq)(F H:Hp)(ow:Addr->Prop):FO->V->Prop
 |.d d,v=>Rep K F v d
 |.lst ds,v=>∃b,v=.ref b/\ow b/\∃u,H b=some u/\ORep1 K F (.lst ds) u
 |.dK ds,v=>∃b,v=.ref b/\ow b/\∃u,H b=some u/\ORep1 K F (.dK ds) u
def pW:FO->V->List Addr
 |.d _,_=>[]
 |_,.ref b=>[b]
 |_,_=>[]
def bxO:Option Addr->Addr->List (Str×V)->HO
 |some C,dx,vs=>.ins C dx vs
 |none,_,vs=>.dK<|vs.map λp=>(Sum.inr p.1,p.2)
def gu(vs:List (Str×V))(fs:List (Str×FO)):List Addr:=(vs.zip fs).flatMap λp=>pW p.2.2 p.1.2
def ORep(K:Kq)(F H:Hp)(ow:Addr->Prop):OD->Addr->Prop
 |.lst2 dss,a=>ow a/\∃bs,H a=some (.lst<|bs.map .ref)/\(a::bs).Nodup/\All2 (λb e=>ow b/\∃u,H b=some u/\ORep1 K F (.lst e) u) bs dss
 |.tup2 dss,a=>ow a/\∃bs,H a=some (.tup<|bs.map .ref)/\(a::bs).Nodup/\All2 (λb e=>ow b/\∃u,H b=some u/\ORep1 K F (.lst e) u) bs dss
 |.obj C fs,a=>ow a/\∃f c,H a=some (bxO C f c)/\(a::gu c fs).Nodup/\All2 (λp q=>p.1=q.1/\FRep K F H ow q.2 p.2) c fs
 |o,a=>ow a/\∃u,H a=some u/\ORep1 K F o u
def FRep.mono(e:Same F F')(k:∀b u,ow b->H b=some u->H' b=some u/\ow' b)(s:∀{o}{u},ORep1 K F o u->ORep1 K F' o u){o}(h:FRep K F H ow o v):FRep K F' H' ow' o v:=by
 cases o with
 |d x=>exact Rep.same e h
 |lst ds=>obtain⟨b,rfl,c,u,a,f⟩:=h;exact⟨b,rfl,(k b u c a).2,u,(k b u c a).1,s f⟩
 |dK ds=>obtain⟨b,rfl,c,u,a,f⟩:=h;exact⟨b,rfl,(k b u c a).2,u,(k b u c a).1,s f⟩
def ORep1.same(e:Same F F'){o}{u}(h:ORep1 K F o u):ORep1 K F' o u:=by cases o<;>cases u<;>first|exact h.elim|exact Reps.same e h|exact RepsT.same e h|exact RepsK.same e h|exact⟨h.1,RepsF.same e h.2⟩
def ORep.flat{o}(f:o.flat=true):ORep K F H ow o a↔ow a/\∃u,H a=some u/\ORep1 K F o u:=by cases o<;>first|exact Iff.rfl|cases f
def ORep.mono{o}(e:Same F F')(k:∀b u,ow b->H b=some u->H' b=some u/\ow' b)(h:ORep K F H ow o a):ORep K F' H' ow' o a:=by
 by_cases f:o.flat=true
 ·obtain⟨l,u,j,i⟩:=(ORep.flat f).mp h;obtain⟨g,c⟩:=k a u l j;exact(ORep.flat f).mpr ⟨c,u,g,i.same e⟩
 ·cases o with
  |lst2 dss=>
   obtain⟨l,bs,j,i,m⟩:=h;obtain⟨g,c⟩:=k a _ l j;exact⟨c,bs,g,i,m.imp λb J ⟨y,u,w,s⟩=>by obtain⟨B,A⟩:=k b u y w;exact⟨A,u,B,s.same e⟩⟩
  |tup2 dss=>
   obtain⟨l,bs,j,i,m⟩:=h;obtain⟨g,c⟩:=k a _ l j;exact⟨c,bs,g,i,m.imp λb J ⟨y,u,w,s⟩=>by obtain⟨B,A⟩:=k b u y w;exact⟨A,u,B,s.same e⟩⟩
  |obj C fs=>
   obtain⟨l,I,E,j,i,m⟩:=h;obtain⟨g,c⟩:=k a _ l j;exact⟨c,I,E,g,i,m.imp λp q z=>⟨z.1,z.2.mono e k λx=>x.same e⟩⟩
  |_=>exact absurd rfl f
def FRep.rep(e:Same F G)(k:∀b u,ow b->H b=some u->G b=some u){o}(h:FRep K F H ow o v):Rep K G v o.dat:=by
 cases o with
 |d x=>exact Rep.same e h
 |lst ds=>obtain⟨b,rfl,f,u,c,a⟩:=h;cases u with|lst vs=>exact .lst (SqL.of<|k b _ f c) (Reps.same e a)|_=>exact a.elim
 |dK ds=>obtain⟨b,rfl,f,u,c,a⟩:=h;cases u with|dK vs=>exact .dK (k b _ f c) (RepsK.same e a)|_=>exact a.elim
def ORep1.rep{o}{u}(f:o.flat=true)(h:ORep1 K F o u)(b:H a=some u)(e:Same F H):Rep K H (.ref a) o.d:=by
 cases o with
 |lst ds=>cases u with|lst vs=>exact .lst (SqL.of b) (Reps.same e h)|_=>exact h.elim
 |dT ds=>cases u with|dT vs=>exact .dT b (RepsT.same e h)|_=>exact h.elim
 |dK ds=>cases u with|dK vs=>exact .dK b (RepsK.same e h)|_=>exact h.elim
 |ins C fs=>cases u with|ins C' dx vs=>(obtain⟨rfl,h⟩:=h;exact .ins b<|RepsF.same e h)|_=>exact h.elim
 |obj _ _=>cases f
 |lst2 _=>cases f
 |tup2 _=>cases f
def ORep.rep{o}(h:ORep K F H ow o a)(e:Same F G)(k:∀b u,ow b->H b=some u->G b=some u):Rep K G (.ref a) o.d:=by
 by_cases f:o.flat=true
 ·obtain⟨g,u,c,i⟩:=(ORep.flat f).mp h;exact i.rep f (k a u g c) e
 ·cases o with
  |lst2 dss=>
   obtain⟨g,bs,c,i,m⟩:=h;refine .lst (SqL.of<|k a _ g c) ?_;clear c g i f;induction m with
   |nil=>exact .nil
   |cons q r ih=>
    obtain⟨l,u,j,s⟩:=q;exact .cons (s.rep rfl (k _ u l j) e) ih
  |tup2 dss=>
   obtain⟨g,bs,c,i,m⟩:=h;refine .tup (k a _ g c) ?_;clear c g i f;induction m with
   |nil=>exact .nil
   |cons q r ih=>
    obtain⟨l,u,j,s⟩:=q;exact .cons (s.rep rfl (k _ u l j) e) ih
  |obj C fs=>
   obtain⟨g,A,w,c,i,m⟩:=h;cases C with
   |some C=>
    refine .ins (k a _ g c) ?_;clear c g i f;induction m with
    |nil=>exact .nil
    |@cons p q _ _ z r ih=>
     obtain⟨l,j⟩:=z;obtain⟨y,o⟩:=q;cases l;exact .cons (j.rep e k) ih
   |none=>
    refine .dK (k a _ g c) ?_;clear c g i f;induction m with
    |nil=>exact .nil
    |@cons p q _ _ z r ih=>
     obtain⟨l,j⟩:=z;obtain⟨y,o⟩:=q;cases l;exact .cons (j.rep e k) ih
  |_=>exact absurd rfl f
inductive DV where
 |v (d:D)|own (o:OD) (t:Option Addr)|bor (o:OD)
abbrev DF:=List<|Option DV
abbrev cI(n:Int):DF->Option D:=λ_=>some<|.int n
@[simp] theorem MI n ρ:cI n ρ=some (.int n):=rfl
abbrev nA:DF->Option (List DV):=λ_=>some []
@[simp] theorem MG ρ:nA ρ=some []:=rfl
def DVRep(K:Kq)(P F H:Hp)(ow:Addr->Prop):DV->V->Prop
 |.v d,x=>Rep K F x d
 |.own o t,x=>∃a,x=.ref a/\ORep K F H (λb=>F b=none/\P b=none/\ow b) o a/\∀b,t=some b->b=a
 |.bor o,x=>∃a,x=.ref a/\ORep K F P (λ_=>True) o a
def vP:Addr->Prop:=λ_=>True
structure DHp (P F H:Hp):Prop where
 sub:Same F H
 pro:Same P H
 dis:∀a o,P a=some o->F a=none
structure DInv (K:PySem.W.Frag) (P F H:Hp) (ρ:DF) (σ:St):Prop extends DHp P F H where
 len:ρ.length=σ.length
 rep:∃O:Addr->Option Nat,∀(i:Nat) (x:DV),ρ[i]?=some (some x)->∃v,σ[i]?=some (some v)/\DVRep K P F H (λb=>O b=some i) x v
structure Evo (P F H F' H':Hp):Prop where
 ext:Same F F'
 hp:DHp P F' H'
 keep:∀a o,H a=some o->F a=none->H' a=some o/\F' a=none
def Evo.same(h:DHp P F H)(e:Evo P F H F' H'):Same H H':=λa o q=>by
 cases c:F a with
 |none=>exact(e.keep a o q c).1
 |some u=>
  have:=h.sub a u c;rw[q]at this;cases this;exact e.hp.sub a o<|e.ext a o c
def DVRep.evo(e:Evo P F H F' H'){x}(r:DVRep K P F H ow x v):DVRep K P F' H' ow x v:=by
 cases x with
 |v d=>exact Rep.same e.ext r
 |own o t=>
  obtain⟨a,rfl,h,m⟩:=r;exact⟨a,rfl,h.mono e.ext λb u ⟨i,g,f⟩ c=>by(obtain⟨l,j⟩:=e.keep b u c i;exact⟨l,j,g,f⟩),m⟩
 |bor o=>
  obtain⟨a,rfl,h⟩:=r;exact⟨a,rfl,h.mono e.ext λb u q c=>⟨c,q⟩⟩
def DVRep.imp(f:∀b u,F b=none->P b=none->H b=some u->ow b->ow' b){x}(r:DVRep K P F H ow x v):DVRep K P F H ow' x v:=by
 cases x with
 |v d=>exact r
 |own o t=>
  obtain⟨a,rfl,h,i⟩:=r;exact⟨a,rfl,h.mono (Same.refl _) λb u ⟨c,q,g⟩ e=>⟨e,c,q,f b u c q e g⟩,i⟩
 |bor o=>exact r
def DInv.evo(I:DInv K P F H ρ σ)(e:Evo P F H F' H'):DInv K P F' H' ρ σ:=
 ⟨e.hp,I.len,by obtain⟨O,h⟩:=I.rep;exact⟨O,λi x a=>by obtain⟨v,c,b⟩:=h i x a;exact⟨v,c,b.evo e⟩⟩⟩
def DInv.at(I:DInv K P F H ρ σ){x}(h:ρ[i]?=some (some x)):∃v,σ[i]?=some (some v)/\DVRep K P F H vP x v:=by obtain⟨O,k⟩:=I.rep;obtain⟨v,b,a⟩:=k i x h;exact⟨v,b,a.imp λ_ _ _ _ _ _=>trivial⟩
def Evo.refl(h:DHp P F H):Evo P F H F H:=⟨Same.refl _,h,λ_ _ a b=>⟨a,b⟩⟩
def Evo.trans(a:Evo P F H F1 H1)(b:Evo P F1 H1 F2 H2):Evo P F H F2 H2:=
 ⟨a.ext.trans b.ext,b.hp,λc o h n=>by obtain⟨e,n1⟩:=a.keep c o h n;exact b.keep c o e n1⟩
def Evo.laid(h:DHp P F H){o}(c:H a=none):Evo P F H (upd F a o) (upd H a o) where
 ext:=λb u e=>by rwa[aD λz=>by subst z;rw[h.sub _ _ e]at c;cases c]
 hp:=⟨λb u e=>by
   by_cases f:b=a
   ·subst f;rw[aI]at e ⊢;exact e
   ·rw[aD f]at e ⊢;exact h.sub b u e,
  λb u e=>by rw[aD λz=>by subst z;rw[h.pro _ _ e]at c;cases c];exact h.pro b u e,
  λb u e=>by rw[aD λz=>by subst z;rw[h.pro _ _ e]at c;cases c];exact h.dis b u e⟩
 keep:=λb u e n=>by
  have f:b≠a:=λz=>by subst z;rw[e]at c;cases c
  rw[aD f,aD f];exact⟨e,n⟩
def Evo.side(h:DHp P F H){o}(c:H a=none):Evo P F H F (upd H a o) where
 ext:=Same.refl _
 hp:=⟨λb u e=>by rw[aD λz=>by subst z;rw[h.sub _ _ e]at c;cases c];exact h.sub b u e,
  λb u e=>by rw[aD λz=>by subst z;rw[h.pro _ _ e]at c;cases c];exact h.pro b u e,h.dis⟩
 keep:=λb u e n=>by
  have f:b≠a:=λz=>by subst z;rw[e]at c;cases c
  rw[aD f];exact⟨e,n⟩
def DHp.free(h:DHp P F H)(b:H a=none):F a=none/\P a=none:=⟨h.sub.free b,h.pro.free b⟩
def RepS(K:Kq)(H F:Hp)(v:V)(d:D):Prop:=
 Rep K F v d\/∃(a:Addr) (o:OD) (u:HO),v=.ref a/\F a=none/\H a=some u/\ORep1 K F o u/\o.flat=true/\d=o.d
def RepS.evo(r:RepS K H F v d)(e:Evo P F H F' H'):RepS K H' F' v d:=
 r.imp (Rep.same e.ext) λ⟨a,o,u,g,b,h,f,c⟩=>⟨a,o,u,g,(e.keep a u h b).2,(e.keep a u h b).1,f.same e.ext,c⟩
def DInv.slot(I:DInv K P F H ρ σ){o}(hv:σ[i]?=some (some v))(h:(∃t,ρ[i]?=some (some (.own o t)))\/ρ[i]?=some (some (.bor o))):∃a,v=.ref a/\ORep K F H (λb=>F b=none) o a:=by
 rcases h with⟨t,h⟩|h
 ·obtain⟨g,c,a,rfl,f,_⟩:=I.at h;rw[hv]at c;cases c;exact⟨a,rfl,f.mono (Same.refl _) λb u q e=>⟨e,q.1⟩⟩
 ·obtain⟨g,c,a,rfl,f⟩:=I.at h;rw[hv]at c;cases c;exact⟨a,rfl,f.mono (Same.refl _) λb u q e=>⟨I.pro b u e,I.dis b u e⟩⟩
def RepS.now(I:Same F H)(r:RepS K H F v d):Rep K H v d:=by
 rcases r with r|⟨a,o,u,rfl,_,h3,h4,hfl,rfl⟩
 ·exact r.same I
 ·exact h4.rep hfl h3 I
def RepS.slot(I:DInv K P F H ρ σ){o}(hv:σ[i]?=some (some v))(h:(∃t,ρ[i]?=some (some (.own o t)))\/ρ[i]?=some (some (.bor o)))(b:o.flat=true):RepS K H F v o.d:=by obtain⟨a,rfl,g⟩:=I.slot hv h;obtain⟨f,u,e,c⟩:=(ORep.flat b).mp g;exact .inr ⟨a,o,u,rfl,f,e,c,b,rfl⟩
def tD(K:Kq)(f:DF->Option D):TE:=λe H Q=>∃P F a d,f a=some d/\DInv K P F H a e/\∀v c b,Evo P F H c b->Rep K c v d->Q v b
def tR(K:Kq)(f:DF->Option D):TE:=λe H Q=>∃P F b d,f b=some d/\DInv K P F H b e/\∀v c a,Evo P F H c a->RepS K a c v d->Q v a
def tN(K:Kq)(f:DF->Option D):TE:=λc H Q=>∃P F b d,f b=some d/\DInv K P F H b c/\∀v e a,Evo P F H e a->Rep K a v d->Q v a
def tB'(K:Kq)(f:DF->Option Bool):TT:=λe H Q=>∃P F a b,f a=some b/\DInv K P F H a e/\∀g c,Evo P F H g c->Q b c
def tL(K:Kq)(f:DF->Option (List D)):TA:=λh H Q=>∃P F a c,f a=some c/\DInv K P F H a h/\∀b g e,Evo P F H g e->Reps K g b c->Q b e
def PDE(X:Cx)(e:Expr)(f:DF->Option D):Prop:=PE X e<|tD X.K f
def PDR(X:Cx)(e:Expr)(f:DF->Option D):Prop:=PE X e<|tR X.K f
def PDN(X:Cx)(e:Expr)(f:DF->Option D):Prop:=PE X e<|tN X.K f
def PDT(X:Cx)(e:Expr)(f:DF->Option Bool):Prop:=PT X e<|tB' X.K f
def PDA(X:Cx)(es:List Expr)(f:DF->Option (List D)):Prop:=PA X es<|tL X.K f
section
variable  {a:Expr}  
def PE.imp{t t'}(h:PE X e t)(i:∀σ H Q,t' σ H Q->t σ H Q):PE X e t':=λp s σ H Q I q=>h p s σ H Q I<|i σ H Q q
def PT.imp{t t'}(h:PT X e t)(i:∀σ H Q,t' σ H Q->t σ H Q):PT X e t':=λp s σ H Q I q=>h p s σ H Q I<|i σ H Q q
def PA.imp{t t'}(h:PA X es t)(i:∀σ H Q,t' σ H Q->t σ H Q):PA X es t':=λp a s σ H Q I q=>h p a s σ H Q I<|i σ H Q q
noncomputable def getV (i:Nat)(ρ:DF):Option D:=match ρ[i]? with
 |some (some<|.v d)=>some d
 |_=>none
noncomputable def af (i:Nat)(ρ:DF):Option D:=match ρ[i]? with
 |some (some<|.v d)=>some d
 |some (some<|.own o _)=>if o.flat=true then some o.d else none
 |some (some<|.bor o)=>if o.flat=true then some o.d else none
 |_=>none
noncomputable def am (i:Nat)(ρ:DF):Option D:=match ρ[i]? with
 |some (some<|.v d)=>some d
 |some (some<|.own o _)=>some o.d
 |some (some<|.bor o)=>some o.d
 |_=>none
theorem x_(h:getV i ρ=some d):ρ[i]?=some (some (.v d)):=by
 unfold getV at h;grind
def H_ i(h:PE X e (eD i)):PDE X e (getV i):=h.imp λf H Q=>un7 λP F g d a I k=>by
 obtain⟨v,c,b⟩:=I.at<|x_ a
 exact⟨v,c,k v F H (Evo.refl I.toDHp) b⟩
def HN i(h:PE X e (eD i)):PDR X e (af i):=h.imp λg H Q=>un7 λP F j d a I k=>by
 unfold af at a;split at a
 ·rename_i l q;cases a;obtain⟨v,c,f⟩:=I.at q;exact⟨v,c,k v F H (Evo.refl I.toDHp)<|.inl f⟩
 ·rename_i o t q;split at a
  ·rename_i b;cases a;obtain⟨v,c,f⟩:=I.at q;exact⟨v,c,k v F H (Evo.refl I.toDHp)<|RepS.slot I c (.inl ⟨t,q⟩) b⟩
  ·cases a
 ·rename_i o q;split at a
  ·rename_i b;cases a;obtain⟨v,c,f⟩:=I.at q;exact⟨v,c,k v F H (Evo.refl I.toDHp)<|RepS.slot I c (.inr q) b⟩
  ·cases a
 ·cases a
def Jb i(h:PE X e (eD i)):PDN X e (am i):=h.imp λg H Q=>un7 λP F j d c I k=>by
 unfold am at c;split at c
 ·rename_i l q;cases c;obtain⟨v,b,f⟩:=I.at q;exact⟨v,b,k v F H (Evo.refl I.toDHp)<|Rep.same I.sub f⟩
 ·rename_i o t q;cases c;obtain⟨v,b,_⟩:=I.at q;obtain⟨a,rfl,f⟩:=I.slot b<|.inl ⟨t,q⟩;exact⟨_,b,k _ F H (Evo.refl I.toDHp)<|f.rep I.sub λ_ _ _ q=>q⟩
 ·rename_i o q;cases c;obtain⟨v,b,_⟩:=I.at q;obtain⟨a,rfl,f⟩:=I.slot b<|.inr q;exact⟨_,b,k _ F H (Evo.refl I.toDHp)<|f.rep I.sub λ_ _ _ q=>q⟩
 ·cases c
def PDE.r{f}(h:PDE X e f):PDR X e f:=PE.imp h λj H Q=>un7 λP F a d b I k=>⟨P,F,a,d,b,I,λv i g c r=>k v i g c<|.inl r⟩
def PDR.n{f}(h:PDR X e f):PDN X e f:=PE.imp h λj H Q=>un7 λP F b d c I k=>⟨P,F,b,d,c,I,λv i g a r=>k v i g a<|r.now a.hp.sub⟩
def PDE.n{f}(h:PDE X e f):PDN X e f:=h.r.n
def zi(h:PE X e (tC v))(r:∀F,Rep X.K F v d):PDE X e (λ_=>some d):=h.imp λb H Q=>un7 λP F c f a I k=>by
 cases a;exact k v F H (Evo.refl I.toDHp)<|r F
def ac{i j p}:PDE X (.Constant (.int i) j p) (λ_=>some (.int i)):=zi Hj λ_=>.int
def jc{i j p}:PDE X (.Constant (.bool i) j p) (λ_=>some (.bl i)):=zi K3 λ_=>.bl
def ik{i j p}:PDE X (.Constant (.str i) j p) (λ_=>some (.str i)):=zi Jk λ_=>.str
def OpN2(K:Kq)(r:R2)(f:D->D->Option D):Prop:=
 ∀P F H x y b a d Q,f b a=some d->DHp P F H->Rep K H x b->Rep K H y a->(∀v e c,Evo P F H e c->Rep K e v d->Q v c)->r x y H Q
noncomputable def d2 (f:D->D->Option D)(fa fb:DF->Option D):DF->Option D:=λa=>(fa a).bind λx=>(fb a).bind λy=>f x y
def BJ{f}{fa fb}(p:OpN2 K r f):∀σ H Q,tD K (d2 f fa fb) σ H Q->tOp r (tN K fa) (tN K fb) σ H Q:=λσ H Q=>un7 λP F a d h I k=>by
 unfold d2 at h;cases c:fa a with
 |none=>rw[c]at h;cases h
 |some j=>
  rw[c]at h;cases b:fb a with
  |none=>rw[Ya,b]at h;cases h
  |some i=>
   rw[Ya,b,Ya]at h;refine⟨P,F,a,j,c,I,λx A B g m=>⟨P,A,a,i,b,I.evo g,λy z u e l=>?_⟩⟩;exact p P z u x y j i d Q h e.hp (m.same<|e.same g.hp) l λv w s q o=>k v w s ((g.trans e).trans q) o
def tU{f}(h:OpR X (compareOp op) r)(e:OpN2 X.K r f)(i:PDN X a fa)(g:PDN X b fb)(c:behindInMarks op b=false):PDE X (.Compare a [op] [b] pos) (d2 f fa fb):=
 (FZ h i g c).imp<|BJ e
def wo(K:Kq)(r:R2)(f:D->D->Option D):Prop:=
 ∀P F H h g x y b a d Q,f b a=some d->DInv K P F H h g->RepS K H F x b->RepS K H F y a->(∀v e c,Evo P F H e c->Rep K e v d->Q v c)->r x y H Q
def wP{f}{fa fb}(p:wo K r f):∀σ H Q,tD K (d2 f fa fb) σ H Q->tOp r (tR K fa) (tR K fb) σ H Q:=λσ H Q=>un7 λP F a d h I k=>by
 unfold d2 at h;cases c:fa a with
 |none=>rw[c]at h;cases h
 |some j=>
  rw[c]at h;cases b:fb a with
  |none=>rw[Ya,b]at h;cases h
  |some i=>
   rw[Ya,b,Ya]at h;refine⟨P,F,a,j,c,I,λx A B g m=>⟨P,A,a,i,b,I.evo g,λy z u e l=>?_⟩⟩;exact p P z u a σ x y j i d Q h ((I.evo g).evo e) (m.evo e) l λv w s q o=>k v w s ((g.trans e).trans q) o
def jS{f}(h:OpR X (binaryOp op) r)(c:wo X.K r f)(g:PDR X a fa)(e:PDR X b fb):PDE X (.BinOp a op b pos) (d2 f fa fb):=
 (Kk h g e).imp<|wP c
noncomputable def asB (f:DF->Option D):DF->Option Bool:=λa=>match f a with
 |some (.bl b)=>some b
 |_=>none
theorem BN{f}{b}(h:asB f ρ=some b):f ρ=some (.bl b):=by
 unfold asB at h;grind
def kT{f}(h:∀σ H Q,tD K f σ H Q->t σ H Q):∀σ H Q,tB' K (asB f) σ H Q->Cv t σ H Q:=λσ H Q=>un7 λP F a b c I k=>by
 refine h σ H _ ⟨P,F,a,.bl b,BN c,I,λv i g e r=>?_⟩;cases r;exact⟨b,rfl,k i g e⟩
def zb{f}(h:OpR X (compareOp op) r)(e:wo X.K r f)(i:PDR X a fa)(g:PDR X b fb)(c:behindInMarks op b=false):PDT X (.Compare a [op] [b] pos) (asB (d2 f fa fb)):=
 (yp h i g c).imp<|kT<|wP e
def si{f}(h:OpR X (compareOp op) r)(e:OpN2 X.K r f)(i:PDN X a fa)(g:PDN X b fb)(c:behindInMarks op b=false):PDT X (.Compare a [op] [b] pos) (asB (d2 f fa fb)):=
 (yp h i g c).imp<|kT<|BJ e
def fC{f}(h:PDE X e f)(he:∀w,isTrue e X.env w=(do let v <-w;standAt e.pos;holding [v] (truthy v)):=by intro _;rfl):PDT X e (asB f):=
 (Jp h he).imp<|kT λ_ _ _ q=>q
def dm{x}{i}(r:RepS K H F x (.int i)):x=.int i:=by
 rcases r with r|⟨_,o,_,_,_,_,_,_,z⟩
 ·cases r;rfl
 ·cases o<;>first|(cases z;done)|(rename_i C _;cases C<;>cases z)
def ng{x}{i}(r:RepS K H F x (.str i)):x=.str i:=by
 rcases r with r|⟨_,o,_,_,_,_,_,_,z⟩
 ·cases r;rfl
 ·cases o<;>first|(cases z;done)|(rename_i C _;cases C<;>cases z)
def eS{x}(I:DInv K P F H ρ σ)(r:RepS K H F x (.lst ds)):∃a vs,x=.ref a/\SqL K H a vs/\Reps K F vs ds:=by
 rcases r with r|⟨a,o,u,rfl,_,h3,h4,hfl,z⟩
 ·cases r with|lst h q=>exact⟨_,_,rfl,I.sub.seq h,q⟩
 ·cases o with
  |lst ds'=>
   cases z;cases u with
   |lst vs=>exact⟨a,vs,rfl,SqL.of h3,h4⟩
   |_=>exact h4.elim
  |obj _ _=>cases hfl
  |lst2 _=>cases hfl
  |tup2 _=>cases hfl
  |_=>cases z
def kK{x}(I:DInv K P F H ρ σ)(r:RepS K H F x (.tup ds)):∃a vs,x=.ref a/\SqT K H a vs/\Reps K F vs ds:=by
 rcases r with r|⟨a,o,u,rfl,_,h3,h4,hfl,z⟩
 ·cases r with|tup h q=>exact⟨_,_,rfl,SqT.of<|I.sub _ _ h,q⟩
 ·cases o<;>first|(cases z;done)|cases hfl
def wK{x}(I:DInv K P F H ρ σ)(r:RepS K H F x (.dT ds)):∃a vs,x=.ref a/\H a=some (.dT vs)/\RepsT K F vs ds:=by
 rcases r with r|⟨a,o,u,rfl,_,h3,h4,hfl,z⟩
 ·cases r with|dT h q=>exact⟨_,_,rfl,I.sub _ _ h,q⟩
 ·cases o with
  |dT ds'=>
   cases z;cases u with
   |dT vs=>exact⟨a,vs,rfl,h3,h4⟩
   |_=>exact h4.elim
  |obj _ _=>cases hfl
  |lst2 _=>cases hfl
  |tup2 _=>cases hfl
  |_=>cases z
def uk{x}(I:DInv K P F H ρ σ)(r:RepS K H F x (.ins C fs)):∃a dx vs,x=.ref a/\H a=some (.ins C dx vs)/\RepsF K F vs fs:=by
 rcases r with r|⟨a,o,u,rfl,_,h3,b,hfl,z⟩
 ·cases r with|ins h q=>exact⟨_,_,_,rfl,I.sub _ _ h,q⟩
 ·cases o with
  |ins C' fs'=>
   cases z;cases u with
   |ins C'' dx vs=>(obtain⟨rfl,b⟩:=b;exact⟨a,dx,vs,rfl,h3,b⟩)
   |_=>exact b.elim
  |obj _ _=>cases hfl
  |lst2 _=>cases hfl
  |tup2 _=>cases hfl
  |_=>cases z
noncomputable def fI(C:Int->Int->Bool)(g:Int->Int->D):D->D->Option D
 |.int i,.int j=>if C i j=true then some (g i j)else none
 |_,_=>none
def sR{C}{a}(l:∀i j,a i j=true->C i j)(e:∀F i j,Rep K F (g i j) (g' i j)):wo K (rI C g) (fI a g'):=by
 intro P F H o m x y q p d Q h I c b k;unfold fI at h;split at h
 ·rename_i i j;split at h
  ·rename_i f;cases h;exact⟨i,j,dm c,dm b,l i j f,k _ F H (Evo.refl I.toDHp)<|e F i j⟩
  ·cases h
 ·cases h
noncomputable def fI0(g:Int->Int->D):D->D->Option D
 |.int i,.int j=>some<|g i j
 |_,_=>none
def sU(c:∀F i j,Rep K F (g i j) (g' i j)):wo K (rI0 g) (fI0 g'):=by
 intro P F H f e x y m l d Q h I b a k;unfold fI0 at h;split at h
 ·rename_i i j;cases h;exact⟨i,j,dm b,dm a,k _ F H (Evo.refl I.toDHp)<|c F i j⟩
 ·cases h
def ly:=fI0 λi j=>.int<|i-j
noncomputable def kO:=fI (λi j=>decide<|(-(2^64)<i/\i<2^64)\/(-(2^64)<j/\j<2^64)) λi j=>.int<|i*j
def bf:=fI (λ_ j=>decide<|0<j/\j<1073741824) λi j=>.int<|i/j
def a8:=fI (λ_ j=>decide<|0<j) λi j=>.int<|i%j
noncomputable def qh:=fI (λi j=>decide<|0<=j/\j<=1000000/\i.natAbs<2^64) λi j=>.int<|i^j.toNat
def ltI:=fI0 λi j=>.bl<|decide<|i<j
def leI:=fI0 λi j=>.bl<|decide<|i<=j
def gtI:=fI0 λi j=>.bl<|decide<|j<i
def geI:=fI0 λi j=>.bl (decide (j<=i))
def lQ(c:PDR X a fa)(h:PDR X b fb):PDE X (.BinOp a .Sub b pos) (d2 ly fa fb):=jS Hl (sU λ_ _ _=>.int) c h
def lB(e:PDR X a fa)(c:PDR X b fb):PDE X (.BinOp a .Mult b pos) (d2 kO fa fb):=jS I_ (sR (λ_ _ h=>by have q:=YN h;exact q) λ_ _ _=>.int) e c
def bS(e:PDR X a fa)(c:PDR X b fb):PDE X (.BinOp a .FloorDiv b pos) (d2 bf fa fb):=jS Eg (sR (λ_ _ h=>by have q:=YN h;exact q) λ_ _ _=>.int) e c
def bq(e:PDR X a fa)(c:PDR X b fb):PDE X (.BinOp a .Mod b pos) (d2 a8 fa fb):=jS Ht (sR (λ_ _ h=>by have q:=YN h;exact q) λ_ _ _=>.int) e c
def tp(e:PDR X a fa)(c:PDR X b fb):PDE X (.BinOp a .Pow b pos) (d2 qh fa fb):=jS Im (sR (λ_ _ h=>by have q:=YN h;exact q) λ_ _ _=>.int) e c
end
def tO(K:Kq)(f:DF->Option OD):TE:=λh H Q=>∃P F g o,f g=some o/\DInv K P F H g h /\
 ∀a e c,Evo P F H e c->ORep K e c (λb=>H b=none/\e b=none) o a->Q (.ref a) c
def PDO(X:Cx)(e:Expr)(f:DF->Option OD):Prop:=PE X e<|tO X.K f
def asO(f:DF->Option OD):DF->Option D:=λa=>(f a).map OD.d
def Evo.back(h:DHp P F H)(e:Evo P F H F' H')(n:H' a=none):H a=none:=by
 cases q:H a with
 |none=>rfl
 |some o=>rw[e.same h a o q]at n;cases n
open Classical in
noncomputable def DJ (F H:Hp)(ow:Addr->Prop):Hp:=λb=>if ow b then H b else F b
def gc{b}(h:ow b):DJ F H ow b=H b:=Yj h
def g_{b}(h:¬ow b):DJ F H ow b=F b:=Yl h
def cS(h:∀b,ow b->F b=none):Same F (DJ F H ow):=λb u e=>by
 by_cases q:ow b
 ·rw[h b q]at e;cases e
 ·rwa[g_ q]
def Evo.freeze(g:DHp P F H)(e:Evo P F H F' H')ow(a:∀b,ow b->H b=none/\F' b=none):Evo P F H (DJ F' H' ow) H' where
 ext:=e.ext.trans<|cS λb q=>(a b q).2
 hp:=⟨λb u h=>by
   by_cases q:ow b
   ·rwa[gc q]at h
   ·rw[g_ q]at h;exact e.hp.sub b u h,e.hp.pro,λb u h=>by
   rw[g_ λq=>by rw[(g.pro.free (a b q).1)]at h;cases h];exact e.hp.dis b u h⟩
 keep:=λb u h n=>by
  obtain⟨f,c⟩:=e.keep b u h n;refine⟨f,?_⟩;rwa[g_ λq=>by rw[(a b q).1]at h;cases h]
def kI{o}(h:F a=none):Same F (upd F a o):=λb u e=>by rwa[aD<|bn e h]
section
variable     {sts bW:List Stmt} 
def PDO.v{f}(h:PDO X e f):PDE X e (asO f):=PE.imp h λw H Q=>un7 λP F i d c I k=>by
 obtain⟨o,q,rfl⟩:=XU.mp c;refine⟨P,F,i,o,q,I,λa g s p j=>?_⟩;have l:∀b,(H b=none/\g b=none)->H b=none/\g b=none:=λ_ q=>q
 exact k _ _ s (p.freeze I.toDHp _ l)<|j.rep (cS λb q=>q.2) λb u q m=>by rwa[gc q]
noncomputable def asL(f:DF->Option (List D)):DF->Option OD:=λa=>(f a).map .lst
inductive RES where
 |nx (ρ:DF)|rt (x:DV) (ρ:DF)|bk (ρ:DF)|ct (ρ:DF)
abbrev Dd:=DF->Option D
abbrev Dw:=DF->Option RES
abbrev Dk:=DF->Option Bool
abbrev Dv:=DF->Option (List DV)
abbrev Dl:=DF->Option (List D)
abbrev Dm:=List DV->Option DV
abbrev Dq:=D->DF->Option DF
abbrev Do:=DF->Option OD
abbrev Dz:=OD->List DV->Option (OD×D)
abbrev Dy:=D->D->Option D
def EndsD(K:Kq)(P F:Hp)(E:lD):RES->Prop
 |.nx ρ=>∀b a H,Same F a->DInv K P a H ρ b->E.nx b H
 |.bk ρ=>∀b a H,Same F a->DInv K P a H ρ b->E.bk b H
 |.ct ρ=>∀b a H,Same F a->DInv K P a H ρ b->E.ct b H
 |.rt x ρ=>∀v b a H,Same F a->DInv K P a H ρ b->DVRep K P a H vP x v->E.rt v H
def EndsD.ext{E}(h:EndsD K P F E r)(e:Same F F1):EndsD K P F1 E r:=by
 cases r with
 |nx ρ=>exact λa c H b I=>h a c H (e.trans b) I
 |bk ρ=>exact λa c H b I=>h a c H (e.trans b) I
 |ct ρ=>exact λa c H b I=>h a c H (e.trans b) I
 |rt x ρ=>exact λv a c H b I r=>h v a c H (e.trans b) I r
def tS(K:Kq)(g:Dw):TS:=λE b H=>∃P F a r,g a=some r/\DInv K P F H a b/\EndsD K P F E r
def PD1(X:Cx)(st:Stmt)(g:Dw):Prop:=PS X st<|tS X.K g
def PDS(X:Cx)(sts:List Stmt)(g:Dw):Prop:=PSs X sts<|tS X.K g
def PS.imp{t t'}(h:PS X st t)(i:∀E σ H,t' E σ H->t E σ H):PS X st t':=λp s σ H E I q=>h p s σ H E I<|i E σ H q
def PSs.imp{t t'}(h:PSs X sts t)(i:∀E σ H,t' E σ H->t E σ H):PSs X sts t':=λp s σ H E I q=>h p s σ H E I<|i E σ H q
def dNx:DF->Option RES:=λρ=>some<|.nx ρ
def Kj:∀E σ H,tS K dNx E σ H->E.nx σ H:=λE σ H=>un7 λP F a r h I k=>by
 cases h;exact k σ F H (Same.refl _) I
def aO:PDS X [] dNx:=PSs.imp Gn Kj
noncomputable def ak (g h:Dw):DF->Option RES:=λa=>match g a with
 |some (.nx ρ')=>h ρ'
 |r=>r
def aa{g h}(h1:PD1 X st g)(h2:PDS X bW h):PDS X (st::bW) (ak g h):=PSs.imp (DG h1 h2) λE l H=>un7 λP F b r c I k=>by
 unfold ak at c;split at c
 ·rename_i a q;exact⟨P,F,b,_,q,I,λf j m e i=>⟨P,j,a,r,c,i,k.ext e⟩⟩
 ·rename_i q;refine⟨P,F,b,r,c,I,?_⟩;cases r with
  |nx a=>exact absurd c<|q a
  |bk b=>exact k
  |ct b=>exact k
  |rt x b=>exact k
def ai(h1:PD1 X st g):PDS X [st] g:=PSs.imp (FX h1) λ_ _ _ q=>q
noncomputable def bC (f:Dd):DF->Option RES:=λa=>(f a).map λd=>.rt (.v d) a
def a7{f:Dd}(h:PDE X e f):PD1 X (.Return (some e) pos) (bC f):=PS.imp (tQ h) λE g H=>un7 λP F b r a I k=>by
 obtain⟨d,q,rfl⟩:=XU.mp a;exact⟨P,F,b,d,q,I,λv l j c i=>k v g l j c.ext (I.evo c) i⟩
noncomputable def dI(f:Do):DF->Option RES:=λa=>(f a).map λo=>.rt (.own o none) a
def cK{f:Do}(h:PDO X e f):PD1 X (.Return (some e) pos) (dI f):=PS.imp (tQ h) λE j H=>un7 λP F g r c I k=>by
 obtain⟨o,q,rfl⟩:=XU.mp c;exact⟨P,F,g,o,q,I,λa s p i l=>k _ j s p i.ext (I.evo i) ⟨a,rfl,l.mono (Same.refl _) λb u q m=>⟨m,q.2,I.pro.free q.1,trivial⟩,λ_ z=>nomatch z⟩⟩
noncomputable def iG(i:Nat):DF->Option RES:=λa=>match a[i]? with
 |some (some x)=>some<|.rt x a
 |_=>none
def fj i(h:PE X e (eD i)):PD1 X (.Return (some e) pos) (iG i):=PS.imp (tQ h) λE b H=>un7 λP F g r a I k=>by
 unfold iG at a;split at a
 ·rename_i x q;cases a;obtain⟨v,f,c⟩:=I.at q;exact⟨v,f,k v b F H (Same.refl _) I c⟩
 ·cases a
def fm{b:Type}{l:List b}{x y}(h:(l.set i x)[j]?=some y):(i=j/\y=x/\i<l.length)\/(i≠j/\l[j]?=some y):=by
 by_cases a:i=j
 ·subst a;have c:i<l.length:=by have:=(Yn.mp h).1;rwa [Zz]at this
  rw[Xf c]at h;exact .inl ⟨rfl,(Yv h).symm,c⟩
 ·rw[Zy a]at h;exact .inr ⟨a,h⟩
theorem DInv.setO(I:DInv K P F H ρ σ)i{x}f(g:∀j y w (O:Addr->Option Nat),j≠i->ρ[j]?=some (some y)->DVRep K P F H (λb=>O b=some j) y w->DVRep K P F H (λb=>O b=some j/\¬f b) y w)(r:DVRep K P F H f x v) :
  DInv K P F H (ρ.set i<|some x) (σ.set i<|some v):=by
 obtain⟨O,h⟩:=I.rep;refine⟨I.toDHp,by rw[Zz,Zz];exact I.len,?_⟩
 classical
 refine⟨λb=>if f b then some i else if O b=some i then none else O b,λj y m=>?_⟩;rcases fm m with⟨rfl,e,l⟩|⟨a,c⟩
 ·cases e;refine⟨v,by rw[Xf<|by rwa[<-I.len]],r.imp λb u _ _ _ q=>Yj q⟩
 ·obtain⟨w,p,o⟩:=h j y c;refine⟨w,by rwa[Zy a],(g j y w O (XS a) c o).imp λb u _ _ _ q=>?_⟩;grind
def DInv.setV(I:DInv K P F H ρ σ)i(r:Rep K F v d):DInv K P F H (ρ.set i (some (.v d))) (σ.set i (some v)):=
 I.setO i (λ_=>False) (λj y w O _ _ q=>q.imp λb u _ _ _ z=>⟨z,id⟩) r
def DInv.setN(I:DInv K P F H ρ σ)(l:Evo P F H F' H')i{o}(m:ORep K F' H' (λb=>H b=none/\F' b=none) o a):DInv K P F' H' (ρ.set i (some (.own o none))) (σ.set i (some (.ref a))):=by
 obtain⟨O,h⟩:=I.rep;refine⟨l.hp,by rw[Zz,Zz];exact I.len,?_⟩
 refine⟨λb=>if H b=none then some i else if O b=some i then none else O b,λj y s=>?_⟩;rcases fm s with⟨rfl,e,p⟩|⟨c,f⟩
 ·cases e;refine⟨.ref a,by rw[Xf<|by rwa[<-I.len]],a,rfl,m.mono (Same.refl _) λb u q g=>⟨g,q.2,I.pro.free q.1,Yj q.1⟩,λ_ z=>nomatch z⟩
 ·obtain⟨w,B,A⟩:=h j y f;refine⟨w,by rwa[Zy c],?_⟩;have x:=A.imp λb u _ _ g q=>by
   show(if H b=none then some i else if O b=some i then none else O b)=some j;rw[Yl<|by rw[g];simp,Yl<|by rw[q];intro z;exact c (Yv z).symm,q]
  exact x.evo l
def setV(i:Nat)(d:D)(ρ:DF):Option DF:=some<|ρ.set i<|some<|.v d
noncomputable def ay (i:Nat)(f:Dd):DF->Option RES:=λa=>(f a).map λd=>.nx<|a.set i<|some<|.v d
def DC{f}:∀E σ H,tS K (ay i f) E σ H->BU (tD K f) (lW i) E σ H:=λE σ H=>un7 λP F a r h I k=>by
 unfold ay at h;cases q:f a with
 |none=>rw[q]at h;cases h
 |some d=>
  rw[q]at h;cases h;exact⟨P,F,a,d,q,I,λv g c e b=>k _ g c e.ext<|(I.evo e).setV i b⟩
def Ip{f:Dd}(hN:X.N.Nodup)(hi:X.N[i]?=some x)(hx:Loc X.env.scope x)(he:PDE X e f)(hs:swapsWith e (some (.Name x pos')) pos.line X.env=pure false:=by rfl)(h:FnL X x:=by trivial) :
  PD1 X (.Assign [.Name x pos'] e pos) (ay i f):=PS.imp (wQ hN hi hx he hs h) DC
noncomputable def bH(i:Nat)(f:Do):DF->Option RES:=λa=>(f a).map λo=>.nx<|a.set i<|some<|.own o none
def Hw{f}:∀E σ H,tS K (bH i f) E σ H->BU (tO K f) (lW i) E σ H:=λE σ H=>un7 λP F b r h I k=>by
 unfold bH at h;cases q:f b with
 |none=>rw[q]at h;cases h
 |some o=>
  rw[q]at h;cases h;exact⟨P,F,b,o,q,I,λa j g e c=>k _ j g e.ext<|I.setN e i c⟩
def FW{f:Do}(hN:X.N.Nodup)(hi:X.N[i]?=some x)(hx:Loc X.env.scope x)(he:PDO X e f)(hs:swapsWith e (some (.Name x pos')) pos.line X.env=pure false:=by rfl)(h:FnL X x:=by trivial) :
  PD1 X (.Assign [.Name x pos'] e pos) (bH i f):=PS.imp (wQ hN hi hx he hs h) Hw
noncomputable def uA(i:Nat)(g:Dw):DF->Option RES:=λa=>match a[i]? with
 |some (some<|.own o none)=>g<|a.set i<|some<|.v o.d
 |some (some<|.v d)=>g a
 |_=>none
def DInv.frz(I:DInv K P F H ρ σ){o}(h:ρ[i]?=some (some (.own o t))):∃F',Same F F'/\DInv K P F' H (ρ.set i (some (.v o.d))) σ:=by
 let⟨O,x⟩:=I.rep;have f:∀b,(F b=none/\P b=none/\O b=some i)->F b=none:=λb q=>q.1
 refine⟨DJ F H _,cS f,⟨λb u q=>?_,I.pro,λb u q=>?_⟩,by rw[Zz];exact I.len,O,λj y A=>?_⟩
 ·by_cases c:F b=none/\P b=none/\O b=some i
  ·rwa[gc c]at q
  ·rw[g_ c]at q;exact I.sub b u q
 ·rw[g_ λc=>by rw[c.2.1]at q;cases q];exact I.dis b u q
 ·rcases fm A with⟨rfl,e,B⟩|⟨p,m⟩
  ·cases e;obtain⟨v,w,a,rfl,l,_⟩:=x i _ h;exact⟨_,w,l.rep (cS f) λb u q g=>by rwa[gc q]⟩
  ·let⟨v,w,l⟩:=x j y m;refine⟨v,w,?_⟩;cases y with
   |v d=>exact Rep.same (cS f) l
   |own o' t'=>
    obtain⟨a,rfl,s,z⟩:=l;exact⟨a,rfl,s.mono (cS f) λb u q g=>⟨g,by
     rw[g_ λc=>by rw[q.2.2]at c;exact p (Yv c.2.2).symm];exact q.1,q.2⟩,z⟩
   |bor o'=>
    obtain⟨a,rfl,s⟩:=l;exact⟨a,rfl,s.mono (cS f) λb u q g=>⟨g,q⟩⟩
def IC:∀E σ H,tS K (uA i g) E σ H->tS K g E σ H:=λE σ H=>un7 λP F a r h I k=>by
 unfold uA at h;split at h
 ·rename_i o q;obtain⟨c,e,b⟩:=I.frz q;exact⟨P,c,_,r,h,b,k.ext e⟩
 ·exact⟨P,F,a,r,h,I,k⟩
 ·cases h
def xY i(h:PD1 X st g):PD1 X st (uA i g):=PS.imp h IC
def kR:DF->Option RES:=λ_=>none
def kM:PD1 X st kR:=PS.imp CZ λ_ _ _ ⟨_,_,_,_,h,_⟩=>by cases h
noncomputable def yo(f:Dd):DF->Option RES:=λρ=>(f ρ).map λ_=>.nx ρ
def ET{f:Dd}(h:PDE X e f)(hs:swapsWith e none pos.line X.env=pure false:=by rfl):PD1 X (.Expr e pos) (yo f):=PS.imp (ib h hs) λE g H=>un7 λP F b r a I k=>by
 obtain⟨d,q,rfl⟩:=XU.mp a;exact⟨P,F,b,d,q,I,λv j i c _=>k g j i c.ext<|I.evo c⟩
def dIf(c:Dk)(g h:Dw):DF->Option RES:=λa=>(c a).bind λb=>if b=true then g a else h a
def bO{a b}{fc:Dk}{g h}(l:PDT X c fc)(o:PDS X a g)(m:PDS X b h):PD1 X (.If c a b pos) (dIf fc g h):=PS.imp (JT l o m) λE p H=>un7 λP F f r e I k=>by
 obtain⟨b,q,e⟩:=YE.mp e;refine⟨P,F,f,b,q,I,λj s i=>?_⟩;cases b with
 |true=>
  exact⟨P,j,f,r,e,I.evo i,k.ext i.ext⟩
 |false=>
  exact⟨P,j,f,r,e,I.evo i,k.ext i.ext⟩
def zR(K:Kq)(P:Hp)(J:It)(F:Hp)(ds:List D):Prop:=
 ∀a H,Same F a->DHp P a H->∀i:Nat,(∀d,ds[i]?=some d->J.go i H/\∀x b,J.yld i H x b->∃c,Evo P a H c b/\Rep K c x d)/\(ds.length<=i->J.stop i H)
def tI(K:Kq)(f:Dl):TI:=λc H R=>∃P F a b,f a=some b/\DInv K P F H a c/\∀J F' H',Evo P F H F' H'->zR K P J F' b->R J H'
def PDI(X:Cx)(tg iter:Expr)(f:Dl):Prop:=PI X tg iter<|tI X.K f
def PI.imp{t t'}(h:PI X tg iter t)(i:∀σ H R,t' σ H R->t σ H R):PI X tg iter t':=λp s σ H R I q=>h p s σ H R I<|i σ H R q
def tG(K:Kq)(is:List Nat)(st:Dq):TG:=λv c H Q=>∃P F f d b,st d f=some b/\DInv K P F H f c/\Rep K F v d/\∀a g e,Evo P F H g e->DInv K P g e b a->a.length=c.length->(∀j,j∉is->a[j]?=c[j]?)->Q a e
def PDG(X:Cx)(tg:Expr)(is:List Nat)(st:Dq):Prop:=PG X tg<|tG X.K is st
def PG.imp{t t'}(h:PG X tg t)(i:∀v σ H Q,t' v σ H Q->t v σ H Q):PG X tg t':=λp s σ H v u Q I r q=>h p s σ H v u Q I r<|i v σ H Q q
def CT(hN:X.N.Nodup)(hi:X.N[i]?=some x)(hx:Loc X.env.scope x)(e:FnL X x:=by trivial):PDG X (.Name x pos) [i] (setV i):=
 PG.imp (yG hN hi hx e) λv f H Q h=>by
  obtain⟨P,F,g,d,a,b,I,r,k⟩:=h;cases b;exact k _ F H (Evo.refl I.toDHp) (I.setV i r) (Zz ..) λj c=>by rw[Zy λz=>c<|by rw[z];exact Zg _]
noncomputable def e_ (st:Dq)(body:Dw):List D->DF->Option RES
 |[],ρ=>some<|.nx ρ
 |d::ds,ρ=>match st d ρ with
  |none=>none
  |some a=>match body a with
   |some (.nx ρ')=>e_ st body ds ρ'
   |some (.ct ρ')=>e_ st body ds ρ'
   |some (.bk ρ')=>some<|.nx ρ'
   |r=>r
def dW(it:Dl)(st:Dq)(body:Dw):DF->Option RES:=λa=>(it a).bind λb=>e_ st body b a
theorem HQ{f}{st}(hp:PassesOwn (model X.prog X.w) X.A X.env X.xe)(hc:X.calm=true)(hi:PDI X tg iter f)(hg:PDG X tg is st)(hb:PDS X body g)
  (hs:FsI iter X:=by intro _;rfl):PD1 X (.For tg iter body [] pos) (dW f st g):=PS.imp (Hu hp hc hi hg hb hs) λE σ H=>un7 λP F ρ r Q I k=>by
 obtain⟨a,q,Q⟩:=YE.mp Q;refine⟨P,F,ρ,a,q,I,λJ F1 H1 S ok=>?_⟩;refine⟨λi m j Z=>m=a.length-i/\i<=a.length/\∃M c,Same F1 M/\DInv X.K P M Z c j/\e_ st g (a.drop i) c=some r,⟨_,rfl,YO _,F1,ρ,Same.refl _,I.evo S,Q⟩,?_⟩;rintro i m j Z ⟨rfl,hil,M,c,U,I',h⟩;obtain⟨ok1,ok2⟩:=ok M Z U I'.toDHp i;by_cases p:i<a.length
 ·have hd:=Yg p;obtain⟨go,yl⟩:=ok1 _ hd;have u:=Xk p;rw[u]at h;unfold e_ at h;cases o:st a[i] c with
  |none=>rw[o]at h;cases h
  |some l=>
   rw[o]at h;dsimp only at h;refine .inr ⟨go,λN Y=>∃L e,Same F1 L/\DInv X.K P L Y e N/\e_ st g _ e=some r,λN Y ⟨L,e,s2,I2,hf2⟩=>⟨a.length-(i+1),by lia,rfl,p,L,e,s2,I2,hf2⟩,λx Y hy=>?_⟩;obtain⟨L,R,rx⟩:=yl x Y hy;refine⟨P,L,c,a[i],l,o,I'.evo R,rx,λσ3 F3 H3 ev3 I3 _ _=>?_⟩;have s:=U.trans<|R.ext.trans ev3.ext;cases y:g l with
   |none=>rw[y]at h;cases h
   |some O=>
    rw[y]at h;refine⟨P,F3,l,O,y,I3,?_⟩;cases O with
    |nx ρ4=>exact λb C T z B=>⟨C,ρ4,s.trans z,B,h⟩
    |ct ρ4=>exact λb C T z B=>⟨C,ρ4,s.trans z,B,h⟩
    |bk ρ4=>
     cases h;exact λb C T z B=>k b C T (S.ext.trans<|s.trans z) B
    |rt x4 ρ4=>
     cases h;exact λv4 b C T z B r4=>k v4 b C T (S.ext.trans<|s.trans z) B r4
 ·have hz:a.drop i=[]:=XV (by lia);rw[hz]at h;cases h;exact .inl ⟨ok2<|by lia,k j M Z (S.ext.trans U) I'⟩
noncomputable def dB (c:Dk)(body:Dw):Nat->DF->Option RES
 |0,_=>none
 |n+1,ρ=>match c ρ with
  |none=>none
  |some false=>some<|.nx ρ
  |some true=>match body ρ with
   |some (.nx ρ')=>dB c body n ρ'
   |some (.ct ρ')=>dB c body n ρ'
   |some (.bk ρ')=>some<|.nx ρ'
   |r=>r
def vf n{fc:Dk}(Y:PassesOwn (model X.prog X.w) X.A X.env X.xe)(Z:PDT X c fc)(hb:PDS X body g):PD1 X (.While c body [] pos) (dB fc g n):=PS.imp (BR Y Z hb) λE σ H=>un7 λP F R r U I k=>by
 refine⟨λm j O=>∃C a,Same F C/\DInv X.K P C O a j/\dB fc g m a=some r,⟨n,F,R,Same.refl _,I,U⟩,?_⟩;rintro m j O ⟨C,a,M,J,e⟩;cases m with
 |zero=>cases e
 |succ m=>
  unfold dB at e;cases l:fc a with
  |none=>rw[l]at e;cases e
  |some b=>
   rw[l]at e;refine⟨P,C,a,b,l,J,λL H2 i=>?_⟩;cases b with
   |false=>
    cases e;exact k j L H2 (M.trans i.ext)<|J.evo i
   |true=>
    refine⟨λu N=>∃Q x,Same F Q/\DInv X.K P Q N x u/\dB fc g m x=some r,λu N h=>⟨m,ZK m,h⟩,?_⟩;have B:=M.trans i.ext;cases o:g a with
    |none=>rw[o]at e;cases e
    |some y=>
     rw[o]at e;refine⟨P,L,a,y,o,J.evo i,?_⟩;cases y with
     |nx ρ4=>exact λf s z p q=>⟨s,ρ4,B.trans p,q,e⟩
     |ct ρ4=>exact λf s z p q=>⟨s,ρ4,B.trans p,q,e⟩
     |bk ρ4=>
      cases e;exact λf s z p q=>k f s z (B.trans p) q
     |rt x4 ρ4=>
      cases e;exact λS f s z p q T=>k S f s z (B.trans p) q T
end
end L2
variable{ds as KS:List L2.D}{ρ ρ' ρ1 ρ2:DF}{ts:List T4}{fa fb fc fe fv fx f0 f1 f4:DF->Option L2.D}{ks ls:List Str}{g body:DF->Option RES}{q out tr q1:List Int}{xs:List DV}{I S c' A1 A2 f' c0 a0:Addr}{W y dy dx dc T chs z d':L2.D}{ep m mask k' kk ie it io:Nat}{spos p2 p' p1 pos2 py:Pos}{mM Arr:OD->List DV->Option (OD×L2.D)}{Pv:Value->L2.D->Prop}{l e1 e0 e2 e3 e4:Expr}{wr:List Addr}{mn er tn on c1 c2:Str}{is ord:List Nat}{ob:Obj}{hs:Nat->Int}{kvs tb:List (List Key×L2.D)}{o':OD}{elts:List Expr}{outer:List Env}{pm uc cd doc cdv ct oc:Value}{Opn Chs Od Lo Lr:List DV->Option DV}{gR:Addr->V->L2.D->DF->Option RES}{nb:Int->List Int}{fo:DF->Option OD}{sd:Stmt}{F1 H1 F2 H2:Hp}{vc v0:V}{an od:Option Addr}{x5 x6 x4:Option DV}{acc:List (List Int)}
namespace L2
open PySem PySem.Spec PyProof.Rows
def gd(F H:Hp):Hp:=λa=>match F a with
 |none=>H a
 |some _=>none
theorem iS{o}:gd F H a=some o↔F a=none/\H a=some o:=by
 unfold gd;grind
def gJ(s:Same F H):DHp (gd F H) F H:=⟨s,λa o e=>(iS.mp e).2,λa o e=>(iS.mp e).1⟩
def DHp.gd(h:DHp P F H)(e:Same F F')(g:DHp (gd F H) F' H'):Evo P F H F' H' where
 ext:=e
 hp:=⟨g.sub,λa o q=>g.pro a o<|iS.mpr ⟨h.dis a o q,h.pro a o q⟩,λa o q=>g.dis a o<|iS.mpr ⟨h.dis a o q,h.pro a o q⟩⟩
 keep:=λa o q n=>⟨g.pro a o<|iS.mpr ⟨n,q⟩,g.dis a o<|iS.mpr ⟨n,q⟩⟩
def Evo.change{b F}(e:Evo P F H F' H')(h:DHp b F H):Evo b F H F' H':=
 ⟨e.ext,⟨e.hp.sub,λa o q=>(e.keep a o (h.pro a o q)<|h.dis a o q).1,λa o q=>(e.keep a o (h.pro a o q)<|h.dis a o q).2⟩,e.keep⟩
def Hc:DV->Bool
 |.own _ _=>true
 |_=>false
inductive DVs (K:PySem.W.Frag) (P F H:Hp):List DV->List V->Prop
 |nil:DVs K P F H [] []
 |cons {x:DV}{v:V}{xs:List DV}{vs:List V}:Hc x=false->DVRep K P F H vP x v->DVs K P F H xs vs->DVs K P F H (x::xs) (v::vs)
def DVs.length(h:DVs K P F H xs vs):xs.length=vs.length:=by
 induction h with
 |nil=>rfl
 |cons _ _ _ ih=>exact YR Nat.succ ih
def DVs.get{x}(h:DVs K P F H xs vs)(e:xs[i]?=some x):Hc x=false/\∃v,vs[i]?=some v/\DVRep K P F H vP x v:=by
 induction h generalizing i with
 |nil=>exact nomatch e
 |cons h r _ ih=>
  cases i with
  |zero=>obtain rfl:=Yv e;exact⟨h,_,rfl,r⟩
  |succ i=>exact ih e
def spD(K:Kq)(m:Dm):Sp:=λe H Q _=>∃P F c x,m c=some x/\DHp P F H/\DVs K P F H c e/\∀v b a,Same F b->DHp P b a->DVRep K P b a vP x v->Q v a
def aH(n p:Nat)(xs:List DV):DF:=xs.map some++List.replicate (n-p) none
noncomputable def bZ:Option RES->Option DV
 |some (.rt x _)=>some x
 |some (.nx _)=>some<|.v .non
 |_=>none
noncomputable def mOf (n p:Nat)(g:Dw):List DV->Option DV:=λx=>if x.length=p then bZ (g<|aH n p x)else none
theorem ip{n p}{x}(h:(aH n p xs)[i]?=some (some x)):xs[i]?=some x:=by
 unfold aH at h;grind
def eP(h:vs[i]?=some v):(start N vs)[i]?=some (some v):=by unfold start;have a:=(Yn.mp h).1;rw[ZS<|by simpa using a,Yo,h];rfl
def DInv.start N p(h:DHp P F H)(r:DVs K P F H xs vs)(b:xs.length=p):DInv K P F H (aH N.length p xs) (start N vs):=by
 refine⟨h,?_,λ_=>none,λi x e=>?_⟩
 ·unfold aH L2.start;rw[Yp,Yp,Yc,Yc,YL,YL,r.length,<-r.length,b]
 ·obtain⟨c,v,f,a⟩:=r.get<|ip e;refine⟨v,eP f,?_⟩;cases x with
  |own o t=>cases c
  |v d=>exact a
  |bor o=>exact a
def xV{n p} :∀vs H Q E,spD K (mOf n p g) vs H Q E->vs.length=p:=λvs H Q E b=>by
 obtain⟨P,i,x,e,a,f,c,_⟩:=b;unfold mOf at a;split at a
 ·rename_i h;rwa[<-c.length]
 ·cases a
def vG{p}{Q}{E}(h:spD K (mOf N.length p g) vs H Q E):tS K g {nx:=λ_ H'=>Q .non H',rt:=Q} (start N vs) H:=by
 obtain⟨P,i,x,u,a,m,l,f⟩:=h;unfold mOf at a;split at a
 ·rename_i o;have I:=DInv.start N p m l o;cases q:g (aH N.length p x)with
  |none=>rw[q]at a;cases a
  |some r=>
   rw[q]at a;refine⟨P,i,_,r,q,I,?_⟩;cases r with
   |rt y ρ=>cases a;exact λv j c b e h r=>f v c b e h.toDHp r
   |nx ρ=>cases a;exact λj c b e s=>f .non c b e s.toDHp .non
   |bk ρ=>cases a
   |ct ρ=>cases a
 ·cases a
def Fun.okD{P}(F:Fun K x qual st f fd)(S:FnScope N ps (defScope st))
  (a:∀cdv A outer s H E,Room k (A.deeper<|envOfC qual (defScope st) s.heap.objs.size f cdv)->
   PDS (gA CX0 P w K mg base N qual (defScope st) f cdv A outer s H E).nox (defBody st) g):FnOk P w K mg base CX0 (k+1) f fd ps (spD K<|mOf N.length ps.length g):=
 F.ok S xV λcdv A outer s H c Q E b h=>⟨_,a cdv A outer s H E b,vG h⟩
inductive ArgsS (K:PySem.W.Frag) (ρ:DF) (σ:St) (F:Hp):List DV->List V->Prop
 |nil:ArgsS K ρ σ F [] []
 |v {d:D}{v:V}{xs:List DV}{vs:List V}:Rep K F v d->ArgsS K ρ σ F xs vs->ArgsS K ρ σ F (.v d::xs) (v::vs)
 |b {o:OD}{v:V}{xs:List DV}{vs:List V} (i:Nat):σ[i]?=some (some v)->((∃t,ρ[i]?=some (some (.own o t)))\/ρ[i]?=some (some (.bor o)))->ArgsS K ρ σ F xs vs->ArgsS K ρ σ F (.bor o::xs) (v::vs)
def ArgsS.same(e:Same F F')(h:ArgsS K ρ σ F xs vs):ArgsS K ρ σ F' xs vs:=by
 induction h with
 |nil=>exact .nil
 |v h _ ih=>exact .v (h.same e) ih
 |b i h1 h2 _ ih=>exact .b i h1 h2 ih
def ArgsS.dvs(I:DInv K P F H ρ σ)(h:ArgsS K ρ σ F xs vs):DVs K (gd F H) F H xs vs:=by
 induction h with
 |nil=>exact .nil
 |v h _ ih=>exact .cons rfl h ih
 |b i h1 h2 _ ih=>
  obtain⟨a,rfl,e⟩:=I.slot h1 h2;exact .cons rfl ⟨a,rfl,e.mono (Same.refl _) λb u q c=>⟨iS.mpr ⟨q,c⟩,trivial⟩⟩ ih
def tLV(K:Kq)(f:Dv):TA:=λb H Q=>∃P F a x,f a=some x/\DInv K P F H a b/\∀c g e,Evo P F H g e->ArgsS K a b g x c->Q c e
def jL(X:Cx)(es:List Expr)(f:Dv):Prop:=PA X es<|tLV X.K f
def ar:jL X [] nA:=PA.imp bK λa H Q=>un7 λP F b x h I k=>by
 cases h;exact k [] F H (Evo.refl I.toDHp) .nil
noncomputable def aV (f:Dd)(g:Dv):DF->Option (List DV):=λa=>(f a).bind λd=>(g a).map λx=>.v d::x
def aQ{f:Dd}{g}(h:PDE X e f)(p:jL X es g)(hs:starEach (e::es) X.env=(false,eval e X.env)::starEach es X.env:=by rfl):jL X (e::es) (aV f g):=PA.imp (aR h p hs) λx H Q=>un7 λP F b z a I k=>by
 obtain⟨d,q,a⟩:=YE.mp a;obtain⟨y,c,rfl⟩:=XU.mp a;exact⟨P,F,b,d,q,I,λv w A j o=>⟨P,w,b,y,c,I.evo j,λl u s i m=>k (v::l) u s (j.trans i)<|.v (o.same i.ext) m⟩⟩
noncomputable def aB (i:Nat)(g:Dv):DF->Option (List DV):=λa=>match a[i]? with
 |some (some<|.own o _)=>(g a).map λx=>.bor o::x
 |some (some<|.bor o)=>(g a).map λx=>.bor o::x
 |some (some<|.v d)=>(g a).map λx=>.v d::x
 |_=>none
def Kz i{g}(h:PE X e (eD i))(x:jL X es g)(hs:starEach (e::es) X.env=(false,eval e X.env)::starEach es X.env:=by rfl):jL X (e::es) (aB i g):=PA.imp (aR h x hs) λz H Q=>un7 λP F j A a I k=>by
 unfold aB at a;split at a
 ·rename_i o t q;obtain⟨v,f,w⟩:=I.at q;obtain⟨y,c,rfl⟩:=XU.mp a;exact⟨v,f,P,F,j,y,c,I,λm u s l p=>k (v::m) u s l<|.b i f (.inl ⟨t,q⟩) p⟩
 ·rename_i o q;obtain⟨v,f,w⟩:=I.at q;obtain⟨y,c,rfl⟩:=XU.mp a;exact⟨v,f,P,F,j,y,c,I,λm u s l p=>k (v::m) u s l<|.b i f (.inr q) p⟩
 ·rename_i d q;obtain⟨v,f,w⟩:=I.at q;obtain⟨y,c,rfl⟩:=XU.mp a;exact⟨v,f,P,F,j,y,c,I,λm u s l p=>k (v::m) u s l<|.v (Rep.same l.ext w) p⟩
 ·cases a
def dvD:DV->Option D
 |.v d=>some d
 |.own o _=>some o.d
 |.bor _=>none
def al(m:Dm)(g:Dv):DF->Option D:=λa=>(g a).bind λx=>(m x).bind dvD
def dvO:DV->Option OD
 |.own o _=>some o
 |_=>none
def l8(m:Dm)(g:Dv):DF->Option OD:=λa=>(g a).bind λx=>(m x).bind dvO
def Jg(e:Same F F')(h1:F' a=none)(h2:gd F H a=none):H a=none:=by
 unfold gd at h2;have:F a=none:=by
  cases q:F a with
  |none=>rfl
  |some o=>rw[e a o q]at h1;cases h1
 rwa[this]at h2
def nv{o}(e2:Same F1 F2)(h:ORep K F2 H2 (λb=>F2 b=none/\gd F1 H1 b=none/\vP b) o a):ORep K F2 H2 (λb=>H1 b=none/\F2 b=none) o a:=
 h.mono (Same.refl _) λb u q c=>⟨c,Jg e2 q.1 q.2.1,q.1⟩
def Gj{m}{g}{E}:∀σ H Q,tD K (al m g) σ H Q->xX (spD K m) [] E (tLV K g) σ H Q:=λσ H Q=>un7 λP F z d h I k=>by
 unfold al at h;cases q:g z with
 |none=>rw[q]at h;cases h
 |some e=>
  rw[q,Ya]at h;cases f:m e with
  |none=>rw[f]at h;cases h
  |some x=>
   rw[f,Ya]at h;refine⟨P,F,z,e,q,I,λN y s l J=>?_⟩;have c:=I.evo l;refine⟨gd y s,y,e,x,f,gJ c.sub,by rw[YZ];exact J.dvs c,λv w p C i A=>?_⟩;have B:=c.toDHp.gd C i;cases x with
   |v d'=>cases h;exact k v w p (l.trans B) A
   |own o t=>
    cases h;obtain⟨a,rfl,L,_⟩:=A;have j:=nv C L;exact k _ _ p (l.trans<|B.freeze c.toDHp _ λ_ q=>q)<|j.rep (cS λb q=>q.2) λb u q M=>by rwa[gc q]
   |bor o=>cases h
def E_{m}{g}{E}:∀σ H Q,tO K (l8 m g) σ H Q->xX (spD K m) [] E (tLV K g) σ H Q:=λσ H Q=>un7 λP F p d h I k=>by
 unfold l8 at h;cases q:g p with
 |none=>rw[q]at h;cases h
 |some c=>
  rw[q,Ya]at h;cases e:m c with
  |none=>rw[e]at h;cases h
  |some x=>
   rw[e,Ya]at h;refine⟨P,F,p,c,q,I,λM l y i B=>?_⟩;have j:=I.evo i;refine⟨gd l y,l,c,x,e,gJ j.sub,by rw[YZ];exact B.dvs j,λv z w s f A=>?_⟩;have L:=j.toDHp.gd s f;cases x with
   |own o t=>
    cases h;obtain⟨a,rfl,C,_⟩:=A;exact k a z w (i.trans L)<|(nv s C).mono (Same.refl _) λb u q J=>⟨J,i.back I.toDHp q.1,q.2⟩
   |_=>cases h
section
variable{k:Nat}    {m:Dm}   {g:Dv}
def FH(F:FnOk X.prog X.w X.K X.mg X.base CX0 k f fd ps (spD X.K m))(a:Room k X.A)(i:Gl X x)(b:X.mg x=some (.ref f))(c:PySem.W.keepIn X.K (.ref f)=true)(j:Binds X.K fd ps [])(l:jL X (e::es) g)
  (hd:nDb x:=by decide) (he:starEach (e::es) X.env=(false,eval e X.env)::starEach es X.env:=by rfl) (h:(backTo pos<|starEach es X.env).any (·.1)=false:=by rfl):PDE X (.Call (.Name x p) (e::es) [] pos) (al m g):=
 (nu F a i b c j .nil jV l hd he h).imp Gj
def DS(F:FnOk X.prog X.w X.K X.mg X.base CX0 k f fd ps (spD X.K m))(a:Room k X.A)(i:Gl X x)(b:X.mg x=some (.ref f))(c:PySem.W.keepIn X.K (.ref f)=true)(j:Binds X.K fd ps [])(l:jL X (e::es) g)
  (hd:nDb x:=by decide) (he:starEach (e::es) X.env=(false,eval e X.env)::starEach es X.env:=by rfl) (h:(backTo pos<|starEach es X.env).any (·.1)=false:=by rfl):PDO X (.Call (.Name x p) (e::es) [] pos) (l8 m g):=
 (nu F a i b c j .nil jV l hd he h).imp E_
end
noncomputable def pF:Option DV->Option DV
 |some (.v d)=>some<|.v d
 |some (.own o _)=>some<|.bor o
 |some (.bor o)=>some<|.bor o
 |_=>none
def jt(own:Nat)(ix:List Nat)(ρ:DF):DF:=List.replicate own none++ix.map λj=>pF (ρ[j]?).join
noncomputable def b7(st:Dq)(c:Dk)(e:Dd)(ρ:DF):List D->Option (List D)
 |[]=>some []
 |d::ds=>(st d ρ).bind λa=>(c a).bind λb=>if b=true then(e a).bind λy=>(b7 st c e ρ ds).map λr=>y::r else b7 st c e ρ ds
def aN(own:Nat)(ix:List Nat)(it:Dl)(st:Dq)(c:Dk)(e:Dd):DF->Option (List D):=
 λa=>(it a).bind λb=>if b.length<=16777216 then b7 st c e (jt own ix a) b else none
def bi:DF->Option Bool:=λ_=>some true
theorem uF{x}(h:(jt own ix ρ)[i]?=some (some x)):own<=i/\∃j y,ix[i-own]?=some j/\ρ[j]?=some (some y)/\pF (some y)=some x:=by
 unfold jt at h;by_cases c:i<own
 ·rw[ZS<|by rwa[YL],XG,Yj c]at h;cases h
 ·rw[ZO<|by rw[YL];lia,YL,Yo]at h;refine⟨by lia,?_⟩;cases q:ix[i-own]? with
  |none=>rw[q]at h;cases h
  |some j=>
   rw[q,Xa]at h;have a:=Yv h;cases b:ρ[j]? with
   |none=>rw[b]at a;cases a
   |some o=>
    rw[b,Option.join_some]at a;cases o with
    |none=>cases a
    |some y=>exact⟨j,y,rfl,b,a⟩
def BX(hi:own<=i)(h:ix[i-own]?=some j)(hv:σ[j]?=some (some v)):(eZ own ix σ)[i]?=some (some v):=by unfold eZ;rw[ZO<|by rwa[YL],YL,Yo,h,Xa,hv];rfl
def DInv.cap(I:DInv K P F H ρ σ)own ix:DInv K (gd F H) F H (jt own ix ρ) (eZ own ix σ):=by
 refine⟨gJ I.sub,?_,λ_=>none,λi x h=>?_⟩
 ·rw[jf];unfold jt;rw[Yp,YL,Yc]
 ·obtain⟨p,j,y,w,e,c⟩:=uF h;obtain⟨v,f,l⟩:=I.at e;refine⟨v,BX p w f,?_⟩;have g:∀o,((∃t,ρ[j]?=some _)\/ρ[j]?=some (some<|.bor o))->DVRep K _ F H (λb=>none=some i) (.bor o) v:=λo m=>by
   obtain⟨a,rfl,c⟩:=I.slot f m;exact⟨a,rfl,c.mono (Same.refl _) λb u q s=>⟨iS.mpr ⟨q,s⟩,trivial⟩⟩
  cases y with
  |v d=>cases c;exact l
  |own o t=>cases c;exact g o<|.inl ⟨t,e⟩
  |bor o=>cases c;exact g o<|.inr e
def A_{f}(B:DInv K G F H (jt own ix ρ) f)(e:Same F F2)(m:DHp G F2 H2):DInv K G F2 H2 (jt own ix ρ) f:=by
 obtain⟨O,h⟩:=B.rep;refine⟨m,B.len,O,λi x g=>?_⟩;obtain⟨v,s,l⟩:=h i x g;refine⟨v,s,?_⟩;cases x with
 |v d=>exact Rep.same e l
 |bor o=>obtain⟨a,rfl,c⟩:=l;exact⟨a,rfl,c.mono e λb u q p=>⟨p,q⟩⟩
 |own o t=>(obtain⟨_,j,y,_,_,c⟩:=uF g;cases y<;>cases c)
section
variable       {own:Nat}{ix:List Nat}{f:Dl}{st:Dq}{c:Dk}{e:Dd}
theorem zm(his:∀j∈is,j<own):∀σ H Q,tO K (asL (aN own ix f st c e)) σ H Q->Bs own ix (tI K f) (tG K is st) (tB' K c) (tD K e) σ H Q:=λσ H Q=>un7 λP F M ob z I k=>by
 unfold asL at z;cases E:aN own ix f st c e M with
 |none=>rw[E]at z;cases z
 |some out=>
 rw[E]at z;cases z;have z:=E;obtain⟨p,q,z⟩:=YE.mp z;split at z
 rotate_left
 ·cases z
 rename_i hlen;refine⟨P,F,M,p,q,I,λJ o A ev ok g l=>?_⟩;have I1:=I.evo ev;have hp1:=gJ I1.sub;have hg:gd o A g=none:=by unfold gd;rwa[I1.sub.free l]
 have B1:=I1.cap own ix;have hP:∀{w R},Same o w->DHp _ w R->DHp P w R:=λs h=>(I1.toDHp.gd s h).hp
 refine⟨λi m ys R=>m=p.length-i/\i<=p.length/\∃w,Same o w/\DHp _ w R/\w g=none/\R g=some (.lst ys)/\ys.length<=i/\∃C,Reps K w ys C/\(b7 st c e _<|p.drop i).map (λr=>C++r)=some out,
  ⟨_,rfl,YO _,o,Same.refl _,(Evo.side hp1 l).hp,I1.sub.free l,aI,Yr _,[],.nil,by rw[List.drop_zero,z];rfl⟩,?_⟩
 rintro i m ys R ⟨rfl,hi,w,se,Z,fa,ha,hy,C,rp,a⟩;obtain⟨ok1,ok2⟩:=ok w R se (hP se Z) i;by_cases hlt:i<p.length
 ·have hd:=Yg hlt;obtain⟨go,yl⟩:=ok1 _ hd;have hdrop:=Xk hlt;rw[hdrop]at a;unfold b7 at a;cases Y:st p[i] (jt own ix M)with
  |none=>rw[Y]at a;cases a
  |some B=>
   rw[Y,Ya]at a;refine .inr ⟨go,λN H2=>∃U,Same o U/\DHp _ U H2/\U g=none/\H2 g=some _/\N.length<=i+1/\∃S,Reps K U N S/\(b7 st c e _ _).map _=some out,
    λN H2 h=>⟨p.length-(i+1),by omega,rfl,hlt,h⟩,λx H2 hyl=>?_⟩
   obtain⟨U,ev2,rx⟩:=yl x H2 hyl;have T:=ev2.change Z;obtain⟨a2,fa2⟩:=T.keep g _ ha fa;have B2:=A_ B1 (se.trans ev2.ext) T.hp;refine⟨gd o A,U,jt own ix M,p[i],B,Y,B2,rx,λσ3 F3 H3 ev3 I3 hl3 hσ=>?_⟩;refine⟨⟨?_,λj v hj=>?_⟩,?_⟩
   ·rw[hl3,jf]
   ·rw[hσ]
    ·exact hj
    ·intro hj';obtain⟨ho,_⟩:=qU hj;have:=his j hj';omega
   obtain⟨a3,fa3⟩:=ev3.keep g _ a2 fa2;cases hc:c B with
   |none=>rw[hc]at a;cases a
   |some b=>
    rw[hc,Ya]at a;refine⟨gd o A,F3,B,b,hc,I3,λF4 H4 O=>?_⟩;obtain⟨a4,fa4⟩:=O.keep g _ a3 fa3;have X:=ev2.ext.trans<|ev3.ext.trans O.ext;cases b with
    |false=>
     rw[Yl Yk]at a ⊢;exact⟨F4,se.trans X,O.hp,fa4,a4,by omega,C,rp.same X,a⟩
    |true=>
     rw[Yj rfl]at a ⊢;cases he:e B with
     |none=>rw[he]at a;cases a
     |some y=>
      rw[he,Ya]at a;refine⟨gd o A,F4,B,y,he,I3.evo O,λv F5 H5 L rv=>?_⟩;obtain⟨a5,fa5⟩:=L.keep g _ a4 fa4;have s15:=X.trans L.ext;refine⟨a5,by rw[YY];omega,F5,se.trans s15,⟨λb u h=>by rw[aD<|bn h fa5];exact L.hp.sub b u h,λb u h=>by rw[aD<|bn h hg];exact L.hp.pro b u h,L.hp.dis⟩,fa5,aI,by rw[Yp,YQ];omega,C++[y],(rp.same s15).append<|.one rv,?_⟩;cases hmm:b7 st c e _ (p.drop<|i+1)with
      |none=>rw[hmm]at a;cases a
      |some r=>
       rw[hmm]at a;simp only[Xa]at a ⊢;rwa[Zi]
 ·have hz:p.drop i=[]:=XV (by omega);rw[hz]at a;unfold b7 at a;rw[Xa,YZ]at a;cases a;exact .inl ⟨ok2<|by omega,k g w R (ev.trans<|I1.toDHp.gd se Z) ⟨⟨ev.back I.toDHp l,fa⟩,_,ha,rp⟩⟩
def Cw(hcalm:X.calm=true)(b:BlkScope X scope)(cp:Caps X scope N own ix)(his:∀j∈is,j<own)(hi:PDI X tg iter f)
  (h:∀s H fp pz,PDG (blk X scope N s H fp pz) tg is st) (a:∀s H fp pz,pX (blk X scope N s H fp pz) ifs<|tB' X.K c) (he:∀s H fp pz,PDE (blk X scope N s H fp pz) elt e)
  (hnames:∀y∈scope.names,y.2=.local->scope.names.lookup y.1=some .local:=by decide)
  (hs:FsI iter X:=by intro _;rfl):PDO X (.ListComp elt [⟨tg,iter,ifs,0⟩] scope pos) (asL<|aN own ix f st c e):=
 (D9 (g:=tG X.K is st) (te:=tD X.K e) hcalm b cp hi h a he hnames hs).imp<|zm his
end
section
variable  {a:Expr}  
def KG(n:Nat)(f:Dl):Prop:=∀ρ ds,f ρ=some ds->ds.length=n
def PDL(X:Cx)(es:List Expr)(n:Nat)(f:Dl):Prop:=PDA X es f/\KG n f
def aA:DF->Option (List D):=λ_=>some []
noncomputable def ag (f:Dd)(g:Dl):DF->Option (List D):=λa=>(f a).bind λd=>(g a).map λr=>d::r
def ap:PDL X [] 0 aA:=⟨PA.imp bK λc H Q=>un7 λP F a x b I k=>by
 cases b;exact k [] F H (Evo.refl I.toDHp) .nil,λa e h=>by cases h;rfl⟩
def ae{f:Dd}{g}(h:PDE X e f)(i:PDL X es n g)(hs:starEach (e::es) X.env=(false,eval e X.env)::starEach es X.env:=by rfl):PDL X (e::es) (n+1) (ag f g):=
 ⟨PA.imp (aR h i.1 hs) λx H Q=>un7 λP F b z a I k=>by
  obtain⟨d,q,a⟩:=YE.mp a;obtain⟨y,c,rfl⟩:=XU.mp a;exact⟨P,F,b,d,q,I,λv w B l p=>⟨P,w,b,y,c,I.evo l,λm u s j o=>k (v::m) u s (l.trans j)<|.cons (p.same j.ext) o⟩⟩,λb A a=>by
  obtain⟨d,q,a⟩:=YE.mp a;obtain⟨y,c,rfl⟩:=XU.mp a;rw[Yt,i.2 b y c]⟩
noncomputable def asT(f:Dl):DF->Option D:=λρ=>(f ρ).map .tup
def aL{x1}{f}(h:PDL X es n f)(j:n<=16777216:=by decide):PDE X (.Tuple es x1 pos) (asT f):=(IT h.1).imp λl H Q=>un7 λP F b d a I k=>by
 obtain⟨i,q,rfl⟩:=XU.mp a;refine⟨P,F,b,i,q,I,λm s o e c=>⟨by rwa[c.length,h.2 b i q,YY],λp g=>?_⟩⟩;exact k _ _ _ (e.trans<|Evo.laid e.hp g)<|.tup aI<|c.same<|kI (e.hp.free g).1
def bB{f}(h:PDL X es n f)(j:n<=16777216:=by decide):PDO X (.List es pos) (asL f):=(Jr h.1).imp λm H Q=>un7 λP F b s a I k=>by
 unfold asL at a;cases q:f b with
 |none=>rw[q]at a;cases a
 |some i=>
 rw[q]at a;cases a;refine⟨P,F,b,i,q,I,λo l u e g=>⟨by rwa[g.length,h.2 b i q,YY],λp c=>?_⟩⟩;exact k p l _ (e.trans<|Evo.side e.hp c) ⟨⟨e.back I.toDHp c,(e.hp.free c).1⟩,_,aI,g⟩
def Reps.atI{i}(r:Reps K F vs ds)(h:atI ds i=some d):∃v,atI vs i=some v/\Rep K F v d:=by
 unfold L2.atI at h ⊢;rw[r.length];cases q:ixN ds.length i with
 |none=>rw[q]at h;cases h
 |some j=>
  rw[q,Ya]at h;obtain⟨v,b,a⟩:=r.get h;exact⟨v,b,a⟩
noncomputable def ixD:D->D->Option D
 |.lst ds,.int i=>atI ds i
 |.tup ds,.int i=>atI ds i
 |.str z,.int i=>if z.length<=16777216 then(atI z.cps.toList i).map λc=>.str ⟨#[c]⟩else none
 |_,_=>none
def Km:wo K (rIx K) ixD:=by
 intro P F H s o x y w u d Q h I e b k;unfold ixD at h;split at h
 ·obtain⟨p,a,rfl,l,j⟩:=eS I e;obtain⟨v,g,f⟩:=j.atI h;exact .inl ⟨p,a,_,v,rfl,dm b,l,g,k v F H (Evo.refl I.toDHp) f⟩
 ·obtain⟨p,a,rfl,l,j⟩:=kK I e;obtain⟨v,g,f⟩:=j.atI h;exact .inr<|.inl ⟨p,a,_,v,rfl,dm b,l,g,k v F H (Evo.refl I.toDHp) f⟩
 ·split at h
  ·rename_i z i m;obtain⟨c,q,rfl⟩:=XU.mp h;exact .inr<|.inr ⟨z,i,c,ng e,dm b,by rwa[YY],q,k _ F H (Evo.refl I.toDHp) .str⟩
  ·cases h
 ·cases h
def aS(c:PDR X a fa)(h:PDR X b fb)(hs:y9 b:=by exact λ_ _=>rfl):PDE X (.Subscript a b pos) (d2 ixD fa fb):=(Ld Ir c h hs).imp<|wP Km
def JN:R2:=λx y H Q=>(∃i j,x=.int i/\y=.int j/\Q (.int<|i+j) H)\/∃i j,x=.str i/\y=.str j/\i.length+j.length<=sizeLine/\Q (.str<|i++j) H
def Ll(c:PDR X a fa)(h:PDR X b fb):PDT X (.Compare a [.LtE] [b] pos) (asB (d2 leI fa fb)):=zb G7 (sU λ_ _ _=>.bl) c h<|iW _
def kj(c:PDR X a fa)(h:PDR X b fb):PDT X (.Compare a [.Gt] [b] pos) (asB (d2 gtI fa fb)):=zb Li (sU λ_ _ _=>.bl) c h<|iW _
def dz{fa fb:Dd}(c:PDR X a fa)(h:PDR X b fb):PDT X (.Compare a [.GtE] [b] pos) (asB (d2 geI fa fb)):=zb bm (sU λ_ _ _=>.bl) c h<|iW _
def fy(f g:Dk):DF->Option Bool:=λa=>(f a).bind λb=>if b=true then g a else some false
def orT(f g:Dk):DF->Option Bool:=λa=>(f a).bind λb=>if b=true then some true else g a
noncomputable def eA(f:Dk):DF->Option Bool:=λρ=>(f ρ).map λb=>!b
def PDW(X:Cx)(e:Expr)(f:Dk):Prop:=PW X e<|tB' X.K f
def PDW.t{f}(h:PDW X e f):PDT X e f:=PW.pt h
def PW.imp{t t'}(h:PW X e t)(i:∀σ H Q,t' σ H Q->t σ H Q):PW X e t':=λw p s σ H Q I q=>h w p s σ H Q I<|i σ H Q q
def fU{f:Dk}(h:PDT X a f):PDW X (.BoolOp .And [a] pos) f:=E7 h
def nk{f:Dk}(h:PDT X a f):PDW X (.BoolOp .Or [a] pos) f:=Hv h
def iE{bW}{f g:Dk}(l:PDT X a f)(j:PDW X (.BoolOp .And (b::bW) pos) g):PDW X (.BoolOp .And (a::b::bW) pos) (fy f g):=PW.imp (Ij l j) λu H Q=>un7 λP F c r h I k=>by
 obtain⟨x,q,h⟩:=YE.mp h;refine⟨P,F,c,x,q,I,λi p e=>?_⟩;cases x with
 |true=>rw[Yj rfl]at h ⊢;exact⟨P,i,c,r,h,I.evo e,λs o m=>k s o<|e.trans m⟩
 |false=>rw[Yl Yk]at h ⊢;cases h;exact k i p e
def tT{bW}{f g:Dk}(l:PDT X a f)(j:PDW X (.BoolOp .Or (b::bW) pos) g):PDW X (.BoolOp .Or (a::b::bW) pos) (orT f g):=PW.imp (Kx l j) λu H Q=>un7 λP F c r h I k=>by
 obtain⟨x,q,h⟩:=YE.mp h;refine⟨P,F,c,x,q,I,λi p e=>?_⟩;cases x with
 |true=>rw[Yj rfl]at h ⊢;cases h;exact k i p e
 |false=>rw[Yl Yk]at h ⊢;exact⟨P,i,c,r,h,I.evo e,λs o m=>k s o<|e.trans m⟩
def gk{f:Dk}(c:PDT X a f):PDT X (.UnaryOp .Not a pos) (eA f):=(HL c).imp λj H Q=>un7 λP F b r h I k=>by
 obtain⟨x,q,rfl⟩:=XU.mp h;exact⟨P,F,b,x,q,I,λi g e=>k i g e⟩
noncomputable def i5(f g:Dd):DF->Option D:=λa=>match f a with
 |some (.bl true)=>g a
 |some (.bl false)=>some<|.bl false
 |_=>none
def sv{op}{f:Dd}(h:PDE X a f):PDE X (.BoolOp op [a] pos) f:=HU h
def jR{bW}{f g:Dd}(p:PDE X a f)(o:PDE X (.BoolOp .And (b::bW) pos) g):PDE X (.BoolOp .And (a::b::bW) pos) (i5 f g):=(II p o).imp λx H Q=>un7 λP F c r h I k=>by
 unfold i5 at h;split at h
 ·rename_i q;refine⟨P,F,c,_,q,I,λv j l e i=>?_⟩;cases i;exact⟨true,rfl,by rw[Yj rfl];exact⟨P,j,c,r,h,I.evo e,λv w u s m=>k v w u (e.trans s) m⟩⟩
 ·rename_i q;refine⟨P,F,c,_,q,I,λv j l e i=>?_⟩;cases i;cases h;exact⟨false,rfl,by rw[Yl Yk];exact k _ j l e .bl⟩
 ·cases h
def ifV(c:Dk)(f g:Dd):DF->Option D:=λa=>(c a).bind λb=>if b=true then f a else g a
def wI{fc:Dk}{f g:Dd}(s:PDT X c fc)(w:PDE X a f)(u:PDE X b g):PDE X (.IfExp c a b pos) (ifV fc f g):=(B8 s w u).imp λy H Q=>un7 λP F e r h I k=>by
 obtain⟨x,q,h⟩:=YE.mp h;refine⟨P,F,e,x,q,I,λp z i=>?_⟩;cases x with
 |true=>rw[Yj rfl]at h ⊢;exact⟨P,p,e,r,h,I.evo i,λv o m l j=>k v o m (i.trans l) j⟩
 |false=>rw[Yl Yk]at h ⊢;exact⟨P,p,e,r,h,I.evo i,λv o m l j=>k v o m (i.trans l) j⟩
def KL(K:Kq)(r:List V->Hp->VK->Prop)(f:D->Option D):Prop:=
 ∀P F H g e x a d Q,f a=some d->DInv K P F H g e->RepS K H F x a->(∀v c b,Evo P F H c b->Rep K c v d->Q v b)->r [x] H Q
noncomputable def d1 (f:D->Option D)(fa:Dd):DF->Option D:=λa=>(fa a).bind f
def Iy{f}(j:KL K r f):∀σ H Q,tD K (d1 f fa) σ H Q->tCB r (oS (tR K fa) wc) σ H Q:=λσ H Q=>un7 λP F a d h I k=>by
 unfold d1 at h;cases b:fa a with
 |none=>rw[b]at h;cases h
 |some c=>
  rw[b,Ya]at h;exact⟨P,F,a,c,b,I,λx q o e g=>j P q o a σ x c d Q h (I.evo e) g λv p m l i=>k v p m (e.trans l) i⟩
noncomputable def bF:D->Option D
 |.lst ds=>some<|.int ds.length
 |.tup ds=>some<|.int ds.length
 |.str z=>if z.length<=16777216 then some (.int z.length)else none
 |_=>none
def Lp(K:Kq):List V->Hp->VK->Prop:=λx H Q=>(∃p y,x=[.ref p]/\(SqL K H p y\/SqT K H p y)/\Q (.int y.length) H)\/∃z,x=[.str z]/\z.length<=sizeLine/\Q (.int z.length) H
end
mutual
def cc:D->PyData
 |.non=>.none
 |.bl b=>.bool b
 |.int i=>.int i
 |.str x=>.str x
 |.tup xs=>.tuple (cn xs)
 |.lst xs=>.list (cn xs)
 |.dT _=>.none
 |.dK _=>.none
 |.ins _ _=>.none
 |.fn _ _ _=>.none
def cn:List D->List PyData
 |[]=>[]
 |d::ds=>cc d::cn ds
end
noncomputable def okN:Nat->D->Bool
 |_,.non=>true
 |_,.bl _=>true
 |_,.int _=>true
 |_,.str x=>PyData.strOk x
 |n+1,.tup xs=>xs.all<|okN n
 |n+1,.lst xs=>xs.all<|okN n
 |_,_=>false
def ck:∀{ds:List D},ds.all (okN n)=true->∀d∈ds,okN n d=true:=λh d a=>Yi.mp h d a
theorem cY:∀n d,okN n d=true->(cc d).canLay0=true/\(cc d).depth<=n+1:=by
 intro n;induction n with
 |zero=>
  intro d h;cases d with
  |non=>exact⟨rfl,by simp[cc,PyData.depth]⟩
  |bl b=>exact⟨rfl,by simp[cc,PyData.depth]⟩
  |int b=>exact⟨rfl,by simp[cc,PyData.depth]⟩
  |str b=>exact⟨h,by simp[cc,PyData.depth]⟩
  |_=>cases h
 |succ n ih=>
  have all:∀c:List D,c.all (okN n)=true->PyData.canLayAll0 (cn c)=true/\PyData.depthAll (cn c)<=n+1:=by
   intro c;induction c with
   |nil=>intro _;exact⟨rfl,by simp[cn,PyData.depthAll]⟩
   |cons x r i=>
    intro h;rw[List.all_cons,Yu]at h;obtain⟨a,e⟩:=ih x h.1;obtain⟨f,g⟩:=i h.2;refine⟨?_,?_⟩
    ·show(PyData.canLay0 (cc x)&&PyData.canLayAll0 (cn r))=true;rw[a,f];rfl
    ·show PyData.depthAll (cc x::cn r)<=n+1;simp[PyData.depthAll];lia
  intro d h;cases d with
  |non=>exact⟨rfl,by simp[cc,PyData.depth]⟩
  |bl b=>exact⟨rfl,by simp[cc,PyData.depth]⟩
  |int b=>exact⟨rfl,by simp[cc,PyData.depth]⟩
  |str b=>exact⟨h,by simp[cc,PyData.depth]⟩
  |tup xs=>
   obtain⟨a,e⟩:=all xs h;exact⟨a,by simp[cc,PyData.depth];lia⟩
  |lst xs=>
   obtain⟨a,e⟩:=all xs h;exact⟨a,by simp[cc,PyData.depth];lia⟩
  |_=>cases h
def Reps.readsOf(ih:∀{v}{d}{u},Rep X.K H v d->okN n d=true->RelV v u->∃as,Reads s.heap u (cc d) as)(h:Reps X.K H vs ds):∀us:List Value,(∀d∈ds,okN n d=true)->Vals vs us->∃as,ReadsAll s.heap us (cn ds) as:=
 Reps.ind (M:=λvs ds=>∀us:List Value,(∀d∈ds,okN n d=true)->Vals vs us->∃as,ReadsAll s.heap us (cn ds) as) (λus _ r=>by cases r;exact⟨_,.nil⟩) (λh _ i us a r=>by
  cases r with
  |cons r t=>
   obtain⟨g,c⟩:=ih h (a _ Ye) r;obtain⟨f,b⟩:=i _ (λd e=>a d<|Yd _ e) t;exact⟨_,.cons c b⟩) h
def Rep.reads1(I:Inv X pz σ H s)n(ih:∀m,n=m+1->∀{v}{d}{u},Rep X.K H v d->okN m d=true->RelV v u->∃as,Reads s.heap u (cc d) as)(h:Rep X.K H v d)(a:okN n d=true)(r:RelV v u):∃as,Reads s.heap u (cc d) as:=by
 cases h with
 |non=>cases(show u=Value.none from r);exact⟨_,.none⟩
 |bl=>cases(show u=Value.bool _ from r);exact⟨_,.bool _⟩
 |int=>obtain⟨t,rfl⟩:=(show ∃t,u=Value.int _ t from r);exact⟨_,.int _ _⟩
 |str=>obtain⟨t,rfl⟩:=(show ∃t,u=Value.str _ t from r);exact⟨_,.str _ _⟩
 |tup h q=>
  cases n with
  |zero=>cases a
  |succ m=>
   cases(show u=Value.ref _ from r);obtain⟨i,b,e,_⟩:=I.tuple<|SqT.of h;obtain⟨as,c⟩:=Reps.readsOf (ih m rfl) q _ (ck a) b;obtain⟨o,j,g,m,f⟩:=e;exact⟨_,.tuple j g f<|by simpa using c⟩
 |lst h q=>
  cases n with
  |zero=>cases a
  |succ m=>
   cases(show u=Value.ref _ from r);obtain⟨i,b,e,_⟩:=I.list h;obtain⟨as,c⟩:=Reps.readsOf (ih m rfl) q _ (ck a) b;obtain⟨o,m,j,g,_,f⟩:=e;exact⟨_,.list j g f<|by simpa using c⟩
 |_=>cases n<;>cases a
def Rep.reads(I:Inv X pz σ H s)n:∀{v}{d}{u},Rep X.K H v d->okN n d=true->RelV v u->∃as,Reads s.heap u (cc d) as:=by
 induction n with
 |zero=>exact λh a r=>Rep.reads1 I 0 (λm e=>by cases e) h a r
 |succ n ih=>exact λh a r=>Rep.reads1 I (n+1) (λm e=>by cases e;exact ih) h a r
def eqd(x y:D):Bool:=PyData.eqv (cc x)<|cc y
noncomputable def eqD(x y:D):Option D:=if(okN 30 x&&okN 30 y)=true then some (.bl<|eqd x y)else none
noncomputable def neD(x y:D):Option D:=if(okN 30 x&&okN 30 y)=true then some (.bl<|!eqd x y)else none
def FJ(K:Kq)(g:Bool->Bool):R2:=λx y H Q=>∃b a,Rep K H x b/\Rep K H y a/\okN 30 b=true/\okN 30 a=true/\Q (.bl<|g<|eqd b a) H
section
variable  {a:Expr}  
theorem BA(j:X.A.units+64<cLine):OpR X (compareOp .Eq) (FJ X.K λb=>b):=by
 intro C s B H x y v u Q I e c h;obtain⟨z,w,p,m,a,o,q⟩:=h;obtain⟨M,g⟩:=p.reads I 30 a e;obtain⟨L,f⟩:=m.reads I 30 o c;obtain⟨i,J⟩:=cY 30 z a;obtain⟨l,E⟩:=cY 30 w o;refine PySem.SeqAt.compareEq_shaped g f ?_ ?_ j ⟨.bl _,H,I,rfl,q⟩
 ·unfold PySem.SeqAt.shaped;rw[i,Vg,YG];lia
 ·unfold PySem.SeqAt.shaped;rw[l,Vg,YG];lia
def Cc(j:X.A.units+64<cLine):OpR X (compareOp .NotEq) (FJ X.K λb=>!b):=by
 intro C s B H x y v u Q I e c h;obtain⟨z,w,p,m,a,o,q⟩:=h;obtain⟨M,g⟩:=p.reads I 30 a e;obtain⟨L,f⟩:=m.reads I 30 o c;obtain⟨i,J⟩:=cY 30 z a;obtain⟨l,E⟩:=cY 30 w o;refine PySem.SeqAt.compareNe_shaped g f ?_ ?_ j ⟨.bl _,H,I,rfl,q⟩
 ·unfold PySem.SeqAt.shaped;rw[i,Vg,YG];lia
 ·unfold PySem.SeqAt.shaped;rw[l,Vg,YG];lia
def CC:OpN2 K (FJ K λb=>b) eqD:=by
 intro P F H x y i g d Q a f e c k;unfold eqD at a;split at a
 ·rename_i h;rw[Yu]at h;cases a;exact⟨i,g,e,c,h.1,h.2,k _ F H (Evo.refl f) .bl⟩
 ·cases a
def Co:OpN2 K (FJ K λb=>!b) neD:=by
 intro P F H x y i g d Q a f e c k;unfold neD at a;split at a
 ·rename_i h;rw[Yu]at h;cases a;exact⟨i,g,e,c,h.1,h.2,k _ F H (Evo.refl f) .bl⟩
 ·cases a
def u4(h:X.A.units+64<cLine)(e:PDN X a fa)(c:PDN X b fb):PDE X (.Compare a [.Eq] [b] pos) (d2 eqD fa fb):=tU (BA h) CC e c<|iW _
def JY(h:X.A.units+64<cLine)(e:PDN X a fa)(c:PDN X b fb):PDE X (.Compare a [.NotEq] [b] pos) (d2 neD fa fb):=tU (Cc h) Co e c<|iW _
def eJ(h:X.A.units+64<cLine)(e:PDN X a fa)(c:PDN X b fb):PDT X (.Compare a [.Eq] [b] pos) (asB (d2 eqD fa fb)):=si (BA h) CC e c<|iW _
def uX(h:X.A.units+64<cLine)(e:PDN X a fa)(c:PDN X b fb):PDT X (.Compare a [.NotEq] [b] pos) (asB (d2 neD fa fb)):=si (Cc h) Co e c<|iW _
noncomputable def e9:D->Option (List D)
 |.lst ds=>some ds
 |.tup ds=>some ds
 |_=>none
noncomputable def inD(x y:D):Option D:=(e9 y).bind λa=>if(okN 30 x&&a.all (okN 29))=true then some (.bl<|a.any λz=>eqd z x)else none
noncomputable def dV(x y:D):Option D:=(e9 y).bind λa=>if(okN 30 x&&a.all (okN 29))=true then some (.bl<|!a.any λz=>eqd z x)else none
def KU(K:Kq)(g:Bool->Bool):R2:=λx y H Q=>∃a c b,Rep K H x a/\Rep K H y c/\e9 c=some b/\okN 30 a=true/\b.all (okN 29)=true/\Q (.bl<|g<|b.any λz=>eqd z a) H
theorem lM x:∀ds:List D,(cn ds).any (λy=>PyData.eqv y (cc x))=ds.any λz=>eqd z x
 |[]=>rfl
 |d::ds=>by
  show((PyData.eqv (cc d)<|cc x)||(cn ds).any _)=_;rw[lM];rfl
theorem HC(N:X.A.units+64<cLine):OpR X (compareOp .In) (KU X.K λb=>b):=by
 intro M s L H x y v u Q I w f h;obtain⟨p,E,a,C,m,e,i,o,q⟩:=h;obtain⟨P,g⟩:=C.reads I 30 i w;obtain⟨j,B⟩:=cY 30 p i;cases E with
 |lst xs=>
  cases e;obtain⟨J,c⟩:=m.reads I 30 o f;obtain⟨l,z⟩:=cY 30 (.lst a) o;exact PySem.SeqAt.in_list_reads c g l j (by lia) ⟨.bl _,H,I,(by show Value.bool _=Value.bool _;rw[lM]),q⟩
 |tup xs=>
  cases e;obtain⟨J,c⟩:=m.reads I 30 o f;obtain⟨l,z⟩:=cY 30 (.tup a) o;exact PySem.SeqAt.in_tuple_reads c g l j (by lia) ⟨.bl _,H,I,(by show Value.bool _=Value.bool _;rw[lM]),q⟩
 |_=>cases e
theorem ei(M:X.A.units+64<cLine):OpR X (compareOp .NotIn) (KU X.K λb=>!b):=by
 intro L s J H x y v u Q I Pd f h;obtain⟨p,C,a,B,m,e,i,o,q⟩:=h;obtain⟨O,g⟩:=B.reads I 30 i Pd;obtain⟨j,z⟩:=cY 30 p i;have N:min (PyData.depthAll<|cn a) (cc p).depth<=31:=YD (Nat.min_le_right _ _) z;cases C with
 |lst xs=>
  cases e;obtain⟨E,c⟩:=m.reads I 30 o f;obtain⟨l,w⟩:=cY 30 (.lst a) o;exact PySem.SeqAt.notIn_list_reads c g l j (by omega) ⟨.bl _,H,I,(by show Value.bool _=Value.bool _;rw[lM]),q⟩
 |tup xs=>
  cases e;obtain⟨E,c⟩:=m.reads I 30 o f;obtain⟨l,w⟩:=cY 30 (.tup a) o;exact PySem.SeqAt.notIn_tuple_reads c g l j (by omega) ⟨.bl _,H,I,(by show Value.bool _=Value.bool _;rw[lM]),q⟩
 |_=>cases e
def IY:OpN2 K (KU K λb=>b) inD:=by
 intro P F H x y i c d Q a g f e k;obtain⟨j,q,a⟩:=YE.mp a;split at a
 ·rename_i h;rw[Yu]at h;cases a;exact⟨i,c,j,f,e,q,h.1,h.2,k _ F H (Evo.refl g) .bl⟩
 ·cases a
def ej{K}:OpN2 K (KU K λb=>!b) dV:=by
 intro P F H x y g c d Q a f Pd e k;unfold dV at a;cases q:e9 c with
 |none=>rw[q]at a;cases a
 |some i=>
  rw[q,Ya]at a;split at a
  ·rename_i h;rw[Yu]at h;cases a;exact⟨g,c,i,Pd,e,q,h.1,h.2,k _ F H (Evo.refl f) .bl⟩
  ·cases a
def yP(h:X.A.units+64<cLine)(f:PDN X a fa)(e:PDN X b fb)(c:behindInMarks .In b=false:=by with_unfolding_all rfl):PDE X (.Compare a [.In] [b] pos) (d2 inD fa fb):=tU (HC h) IY f e c
def eH{fa fb:Dd}(h:X.A.units+64<cLine)(f:PDN X a fa)(e:PDN X b fb)(c:behindInMarks .NotIn b=false:=by with_unfolding_all rfl):PDT X (.Compare a [.NotIn] [b] pos) (asB (d2 dV fa fb)):=si (ei h) ej f e c
end
section
variable  {a:Expr} 
noncomputable def dX(f:Dd):DF->Option (List D):=λa=>match f a with
 |some (.lst ds)=>some ds
 |_=>none
noncomputable def e5(f:Dd):DF->Option (List D):=λa=>match f a with
 |some (.tup ds)=>some ds
 |_=>none
theorem CU{f}(h:dX f ρ=some ds):f ρ=some (.lst ds):=by
 unfold dX at h;grind
def fT{f}(h:e5 f ρ=some ds):f ρ=some (.tup ds):=by
 unfold e5 at h;split at h
 ·rename_i q;cases h;exact q
 ·cases h
def rL{a}(h:SqL K F a vs)(r:Reps K F vs ds):zR K P (Itl K a) F ds:=by intro p H e c i;have b:=c.sub.seq<|e.seq h;refine⟨λd m=>?_,λl=>⟨vs,b,by rwa[r.length]⟩⟩;obtain⟨v,f,o⟩:=r.get m;refine⟨⟨vs,v,b,f⟩,λx q g=>?_⟩;obtain⟨rfl,j⟩:=g;have:=j vs b;rw[f]at this;cases this;exact⟨p,Evo.refl c,o.same e⟩
def f5{K}{a}(h:SqT K F a vs)(r:Reps K F vs ds):zR K P (Itt K a) F ds:=by intro p H e c i;have b:=c.sub.seqT<|e.seqT h;refine⟨λd m=>?_,λl=>⟨vs,b,by rwa[r.length]⟩⟩;obtain⟨v,f,o⟩:=r.get m;refine⟨⟨vs,v,b,f⟩,λx q g=>?_⟩;obtain⟨rfl,j⟩:=g;have:=j vs b;rw[f]at this;cases this;exact⟨p,Evo.refl c,o.same e⟩
def ka{f:Dd}(h:PDE X l f):PDI X tg l (dX f):=PI.imp (yL h) λj H R=>un7 λP F a m c I k=>by
 refine⟨P,F,a,_,CU c,I,λv i g e b=>?_⟩;cases b with
 |lst h1 h2=>exact⟨_,rfl,⟨_,e.hp.sub.seq h1⟩,k _ i g e<|rL h1 h2⟩
def gl{f:Dd}(h:PDE X l f):PDI X tg l (e5 f):=PI.imp (a6 h) λj H R=>un7 λP F a m c I k=>by
 refine⟨P,F,a,_,fT c,I,λv i g e b=>?_⟩;cases b with
 |tup h1 h2=>exact⟨_,rfl,⟨_,SqT.of<|e.hp.sub _ _ h1⟩,k _ i g e<|f5 (SqT.of h1) h2⟩
noncomputable def cg(i:Nat):DF->Option (List D):=λa=>match a[i]? with
 |some (some<|.bor<|.lst ds)=>some ds
 |some (some<|.v<|.lst ds)=>some ds
 |_=>none
def Ct{a}(h:P a=some (.lst vs))(r:Reps K F vs ds):zR K P (Itl K a) F ds:=by intro p H e c i;have b:SqL K H a vs:=SqL.of<|c.pro _ _ h;refine⟨λd m=>?_,λl=>⟨vs,b,by rwa[r.length]⟩⟩;obtain⟨v,f,o⟩:=r.get m;refine⟨⟨vs,v,b,f⟩,λx q g=>?_⟩;obtain⟨rfl,j⟩:=g;have:=j vs b;rw[f]at this;cases this;exact⟨p,Evo.refl c,o.same e⟩
def FE i(h:PE X l (eD i)):PDI X tg l (cg i):=PI.imp (yL h) λm H R=>un7 λP F o p b I k=>by
 unfold cg at b;split at b
 ·rename_i g q;cases b;obtain⟨v,f,a,rfl,_,u,c,e⟩:=I.at q;cases u with
  |lst vs=>exact⟨_,f,a,rfl,⟨vs,SqL.of<|I.pro _ _ c⟩,k _ F H (Evo.refl I.toDHp)<|Ct c e⟩
  |_=>exact e.elim
 ·rename_i g q;cases b;obtain⟨v,f,j⟩:=I.at q;cases j with
  |lst c e=>exact⟨_,f,_,rfl,⟨_,I.sub.seq c⟩,k _ F H (Evo.refl I.toDHp)<|rL c e⟩
 ·cases b
def cN(lo:Int)(n:Nat):List D:=(List.range n).map λi:Nat=>.int<|lo+i
theorem oR{lo}(h:(cN lo n)[i]?=some d):i<n/\d=.int (lo+i):=by
 unfold cN at h;grind
def wu lo n:(cN lo n).length=n:=by unfold cN;rw[Yc,Zj]
def oF lo n:zR K P (Itr lo n) F (cN lo n):=by intro g j e b i;refine⟨λd f=>?_,λh=>by rwa[wu]at h⟩;obtain⟨c,rfl⟩:=oR f;refine⟨c,λx H a=>?_⟩;obtain⟨rfl,rfl⟩:=a;exact⟨g,Evo.refl b,.int⟩
noncomputable def cM(f:Dd):DF->Option (List D):=λa=>match f a with
 |some (.int j)=>if -(2^62)<=j/\j<2^62 then some (cN 0 j.toNat)else none
 |_=>none
noncomputable def wk(f g:Dd):DF->Option (List D):=λa=>match f a,g a with
 |some<|.int i,some (.int j)=>if -(2^62)<=i/\i<2^62/\-(2^62)<=j/\j<2^62 then some (cN i (j-i).toNat)else none
 |_,_=>none
def aT{f:Dd}(i:Gl X "range")(g:X.mg "range"=none)(l:PDR X a f)(hs:starEach [a] X.env=[(false,eval a X.env)]:=by rfl):PDI X tg (.Call (.Name "range" p) [a] [] pos) (cM f):=
 PI.imp (Aq i g (aR l bK hs) hs) λu H R=>un7 λP F c w h I k=>by
  unfold cM at h;split at h
  ·rename_i j q;split at h
   ·rename_i b;cases h;refine⟨P,F,c,_,q,I,λv s o m e=>⟨j,by rw[dm e],b.1,b.2,k _ s o m<|oF 0 _⟩⟩
   ·cases h
  ·cases h
def jK{f g:Dd}(x:Gl X "range")(u:X.mg "range"=none)(z:PDR X a f)(y:PDR X b g)(hs:starEach [a,b] X.env=[(false,eval a X.env),(false,eval b X.env)]:=by rfl)(h:starEach [b] X.env=[(false,eval b X.env)]:=by rfl):PDI X tg (.Call (.Name "range" p) [a,b] [] pos) (wk f g):=
 PI.imp (zw x u (aR z (aR y bK h)<|by rw[hs,h]) hs h) λJ H R=>un7 λP F e L c I k=>by
  unfold wk at c;split at c
  ·rename_i i j s q;split at c
   ·rename_i w;cases c;refine⟨P,F,e,_,s,I,λv E M l o=>⟨P,E,e,_,q,I.evo l,λK C B A m=>⟨i,j,by rw[dm o,dm m],w,k _ C B (l.trans A)<|oF i _⟩⟩⟩
   ·cases c
  ·cases c
noncomputable def ye:List Nat->List D->DF->Option DF
 |[],[],ρ=>some ρ
 |i::is,d::ds,ρ=>ye is ds<|ρ.set i<|some<|.v d
 |_,_,_=>none
def jM(is:List Nat)(d:D)(ρ:DF):Option DF:=match d with
 |.tup ds=>ye is ds ρ
 |_=>none
def xf:List Nat->TGs
 |[]=>J_
 |i::is=>Ha (lW i)<|xf is
theorem ri{Q}:∀is vs ds ρ ρ' σ,Reps K F vs ds->ye is ds ρ=some ρ'->DInv K P F H ρ σ->
  (∀a,DInv K P F H ρ' a->a.length=σ.length->(∀j,j∉is->a[j]?=σ[j]?)->Q a H)->xf is vs σ H Q
 |[],vs,ds,ρ,ρ',σ,r,hs,I,k=>by
  cases r with
  |nil=>cases hs;exact⟨rfl,k σ I rfl λ_ _=>rfl⟩
  |cons _ _=>cases hs
 |i::is,vs,ds,ρ,ρ',σ,r,hs,I,k=>by
  cases r with
  |nil=>cases hs
  |cons h q=>
   refine⟨_,_,rfl,ri is _ _ _ ρ' _ q hs (I.setV i h) λa f c e=>k a f (by rw[c,Zz]) λj b=>?_⟩;rw[e j λz=>b<|Yd _ z,Zy λz=>b<|by rw[z];exact Ye]
theorem qw:∀is ds ρ ρ',ye is ds ρ=some ρ'->ds.length=is.length
 |[],[],_,_,_=>rfl
 |[],_::_,_,_,h=>by cases h
 |_::_,[],_,_,h=>by cases h
 |i::is,d::ds,ρ,ρ',h=>by rw[Yt,Yt,qw is ds _ _ h]
def jr{k}(p:X.calm=true)(h:PGs X es (xf is))(l:(assignEach es X.env).length=is.length:=by rfl)(c:(assignEach es X.env).findIdx? (·.1)=none:=by rfl):PDG X (.Tuple es k pos) is (jM is):=
 PG.imp (IG p h l c) λv i H Q f=>by
  obtain⟨P,F,g,d,a,e,I,r,j⟩:=f;cases d with
  |tup ds=>
   cases r with
   |tup h1 h2=>
    exact⟨_,_,rfl,SqT.of<|I.sub _ _ h1,by rw[h2.length];exact qw is ds g a e,ri is _ ds g a i h2 e I λb q m o=>j b F H (Evo.refl I.toDHp) q m o⟩
  |_=>cases e
noncomputable def vT(is:List Nat)(f:Dd):DF->Option RES:=λa=>(f a).bind λd=>(jM is d a).map .nx
end
def DInv.mut(I:DInv K P F H ρ σ){o}{u}(h:ρ[i]?=some (some (.own o t)))(L:o.flat=true)(p:o'.flat=true)(hs:σ[i]?=some (some (.ref a)))(E:ORep1 K F o' u) :
  DInv K P F (upd H a u) (ρ.set i<|some<|.own o' t) σ:=by
 obtain⟨O,A⟩:=I.rep;obtain⟨v,B,b,rfl,N,C⟩:=A i _ h;rw[hs]at B;cases B;obtain⟨⟨y,x,f⟩,T,U,_⟩:=(ORep.flat L).mp N;refine⟨⟨λc w e=>by rw[aD<|bn e y];exact I.sub c w e,λc w e=>by rw[aD<|bn e x];exact I.pro c w e,I.dis⟩,by rw[Zz];exact I.len,O,λj z J=>?_⟩;rcases fm J with⟨rfl,e,X⟩|⟨m,l⟩
 ·cases e;exact⟨_,hs,a,rfl,(ORep.flat p).mpr ⟨⟨y,x,f⟩,u,aI,E⟩,C⟩
 ·obtain⟨w,R,s⟩:=A j z l;refine⟨w,R,?_⟩;cases z with
  |v d'=>exact s
  |own od t'=>(obtain⟨c,rfl,Q,g⟩:=s;exact⟨c,rfl,Q.mono (Same.refl _) λb S q M=>⟨by rwa[aD λz=>by subst z;rw[q.2.2]at f;exact m (Yv f).symm],q⟩,g⟩)
  |bor od=>exact s
noncomputable def cV(i:Nat)(f:Dd):DF->Option RES:=λa=>match a[i]? with
 |some (some<|.own (.lst ds) t)=>(f a).bind λd=>if ds.length<16777216 then some (.nx<|a.set i<|some<|.own (.lst<|ds++[d]) t)else none
 |_=>none
def n_(I:DInv K P F H ρ σ)(q:ρ[i]?=some (some (.own (.lst ds) t))):∃a vs,σ[i]?=some (some (.ref a))/\F a=none/\P a=none/\H a=some (.lst vs)/\Reps K F vs ds:=by
 obtain⟨v,h,a,rfl,⟨⟨f,e,_⟩,u,c,b⟩,_⟩:=I.at q;cases u with
 |lst vs=>exact⟨a,vs,h,f,e,c,b⟩
 |_=>exact b.elim
def bE i{f:Dd}(h:PE X o (eD i))(L:PDE X e f)(g:attributeBase o "append" X.env (eval o X.env)=eval o X.env:=by rfl)
  (j:((backTo cpos<|starEach [e] X.env).all (λx=>!x.1)&&(backToKw cpos<|keywordEach [] X.env).all (λx=>x.1.isSome)
   && decide (([e]).length+([]:List Keyword).length+(if([]:List Keyword).isEmpty then 0 else 1)<30))=true:=by rfl)
  (c:(apos.endLine == cpos.line)=true:=by rfl) (hs:starEach [e] X.env=[(false,eval e X.env)]:=by rfl) (p:swapsWith (.Call (.Attribute o "append" apos) [e] [] cpos) none pos.line X.env=pure false:=by rfl) :
  PD1 X (.Expr (.Call (.Attribute o "append" apos) [e] [] cpos) pos) (cV i f):=
 PS.imp (ib (oJ ZN XC Vv jp h (aR L bK hs) g j c hs rfl) p) λE B H=>un7 λP F s r b I k=>by
  unfold cV at b;split at b
  ·rename_i S t q;cases m:f s with
   |none=>rw[m]at b;cases b
   |some d=>
    rw[m,Ya]at b;split at b
    ·rename_i K;cases b;obtain⟨a,w,A,M,R,z,y⟩:=n_ I q;refine⟨_,A,.inl ⟨rfl,w,SqL.of z⟩,P,F,s,d,m,I,λv O T l C=>?_⟩;obtain⟨J,Q⟩:=l.keep a _ z M;have N:=I.evo l;refine⟨a,w,v,rfl,rfl,J,by rwa[YY,y.length],k B O _ l.ext ?_⟩;exact N.mut q rfl rfl A<|(y.same l.ext).append<|.one C
    ·cases b
  ·cases b
mutual
def ltD:D->D->Bool
 |.int i,.int j=>decide (i<j)
 |.bl a,.bl b=>!a&&b
 |.str x,.str y=>decide (x.cps.toList<y.cps.toList)
 |.tup xs,.tup ys=>dS xs ys
 |_,_=>false
def dS:List D->List D->Bool
 |[],[]=>false
 |[],_::_=>true
 |_::_,[]=>false
 |x::xs,y::ys=>if eqd x y=true then dS xs ys else ltD x y
end
mutual
def aw:D->D->Bool
 |.int _,.int _=>true
 |.bl _,.bl _=>true
 |.str _,.str _=>true
 |.tup xs,.tup ys=>bc xs ys
 |_,_=>false
def bc:List D->List D->Bool
 |x::xs,y::ys=>aw x y&&bc xs ys
 |_,_=>true
end
def KY i j:eqd (.int i) (.int j)=decide (i=j):=by show(i == j)=_;rfl
def opB:Bool->CmpOp
 |true=>.LtE
 |false=>.Lt
def xW{y}(h:x.cps.toList=y.cps.toList):x=y:=by
 cases x
 simp_all
def FL x y:(!decide (y.cps.toList<x.cps.toList))=(decide (x.cps.toList<y.cps.toList)||eqd (.str x) (.str y)):=by
 have e:eqd (.str x) (.str y)=decide (x=y):=by rw[Bool.eq_iff_iff];simp[eqd,cc,PyData.eqv]
 rw[e];by_cases h:x.cps.toList<y.cps.toList
 ·have:=List.lt_asymm h;simp[h,this]
 ·by_cases a:y.cps.toList<x.cps.toList
  ·have:x≠y:=λz=>by subst z;exact h a
   simp[a,h,this]
  ·have:x=y:=xW<|List.le_antisymm a h;subst this;simp
def qI(b:Bool)(A:Around)(s:Shared)(y x:Value)(r:Bool):Prop:=
 ∀p w (E:Kv) (Q:Kv),Q (.bool r) s->wpAny (model p w) A (richCompare (opB b) y x) Q E s
abbrev Mj:=qI false
def leO(b:Bool)(d e:D):Bool:=ltD d e||(b&&eqd d e)
def gQ(b:Bool)(xs ys:List D):Bool:=leO b (.tup xs)<|.tup ys
def nC{b}:gQ b [] []=b:=by cases b<;>rfl
def zf{b}{c}{u}:gQ b [] (c::u)=true:=by unfold gQ leO;rfl
def yj{b}{c}{u}:gQ b (c::u) []=false:=by unfold gQ leO;cases b<;>rfl
def v7 x y xs ys:eqd (.tup (x::xs)) (.tup (y::ys))=(eqd x y&&eqd (.tup xs) (.tup ys)):=rfl
def B5{b}{x}{xs ys}(h:eqd x y=true):gQ b (x::xs) (y::ys)=gQ b xs ys:=by unfold gQ leO;rw[ltD,ltD,dS,Yj h,v7,h,Vg]
def CQ{b}{x}{xs ys}(h:eqd x y=false):gQ b (x::xs) (y::ys)=ltD x y:=by unfold gQ leO;rw[ltD,dS,Yl<|by rw[h];exact Yk,v7,h,Vk,VQ,XH]
inductive LexOk (b:Bool) (A:Around) (s:Shared):List Value->List Value->List D->List D->Prop
 |nl {ws:List Value}{es:List D}:ws.length=es.length->LexOk b A s [] ws [] es
 |nr {vs:List Value}{ds:List D}:vs.length=ds.length->LexOk b A s vs [] ds []
 |cons {v w:Value}{d e:D}{vs ws:List Value}{ds es:List D}:SeqAt.EqAt A s v w (eqd d e)->(eqd d e=false->qI b A s v w (ltD d e))->LexOk b A s vs ws ds es->LexOk b A s (v::vs) (w::ws) (d::ds) (e::es)
def LexOk.len{b}{vs w}{es}(h:LexOk b A s vs w ds es):vs.length=ds.length/\w.length=es.length:=by
 induction h with
 |nl h=>exact⟨rfl,h⟩
 |nr h=>exact⟨h,rfl⟩
 |cons _ _ _ ih=>exact⟨YR Nat.succ ih.1,YR Nat.succ ih.2⟩
section
open PySem.SeqAt
open PySem.AutoSeq1 (wpAny_loadPart')
open PySem.MeetsSeq PySem.MeetsSeq2 PySem.MeetsSeq3
def szB(b:Bool)(m n:Nat):Bool:=bif b then decide (m<=n)else decide<|m<n
def tcB:Bool->Builtin
 |true=>Builtin.«tuple.__le__»
 |false=>Builtin.«tuple.__lt__»
theorem ki(c:Bool)(l b:Addr)(items dq:Array Value)(n n2:Nat)(dd dd2:Option Addr)(sl Z:Array (Option Value))(ds es:List D) :
  Meets (tcB c ⟨[.ref l,.ref b],[]⟩)
   (λA R s=>LexOk c A.in1 s items.toList dq.toList ds es/\s.heap.get? l=some {cls:=.type "tuple",dict:=dd,data:=.seq items n,slots:=sl}/\s.heap.get? b=some {cls:=.type "tuple",dict:=dd2,data:=.seq dq n2,slots:=Z} /\
    R (.ok (.ret (.bool (gQ c ds es)))) s):=by
 cases c with
 |true=>
  exact .of_wp λp w A R s h=>by
   obtain⟨z,g,d,m,o⟩:=s;obtain⟨i,hl,hb,h⟩:=h;have f2:=AutoSeq1.sub_tuple_tuple;have z1:items.size=ds.length:=by rw[<-i.len.1];simp
   have z2:dq.size=es.length:=by rw[<-i.len.2];simp
   wp_walk using Um hl,Um hb,Xv _ (λbW b O=>b.1=none/\O=⟨z,g,d,m,o⟩/\∃(N M:List Value) (f e:List D),bW=N.zip M /\
    LexOk true A.in1 ⟨z,g,d,m,o⟩ N M f e/\f.length+dq.size=e.length+items.size/\R (.ok (.ret (.bool (gQ true f e)))) ⟨z,g,d,m,o⟩) _
   case turn=>
    rintro⟨y,x⟩ bW b O ⟨B,rfl,N,M,f,e,j,S,a,H⟩;cases S with
    |nl _=>rw[UA]at j;cases j
    |nr _=>rw[Ut]at j;cases j
    |@cons v w' J I Y X L K he U P=>
     rw[XZ]at j;injection j with hyx hrest;injection hyx with hy hxx;subst hy hxx;simp only[Yt]at a;refine Yb (he p w _ _ ?_);cases q:eqd J I with
     |true=>
      have C:R (.ok (.ret (.bool (gQ true L K)))) ⟨z,g,d,m,o⟩:=by rw[B5 q]at H;exact H
      wp_walk
      exact⟨rfl,rfl,_,_,_,_,hrest,P,by omega,C⟩
     |false=>
      have C:R (.ok (.ret (.bool (ltD J I)))) ⟨z,g,d,m,o⟩:=by rw[CQ q]at H;exact H
      have T:∀(E Q:Kv),Q (.bool (ltD J I)) ⟨z,g,d,m,o⟩->wpAny (model p w) A.in1 (richCompare .LtE y x) Q E ⟨z,g,d,m,o⟩:=U q p w
      wp_walk using T
      exact⟨_,rfl,by simpa using C⟩
   case fin=>
    rintro⟨b1,b2⟩ O ⟨B,rfl,N,M,f,e,j,S,a,H⟩;simp only at B;subst B;have hv:gQ true f e=szB true items.size dq.size:=by
     unfold szB;cases S with
     |nl hw=>
      cases e with
      |nil=>rw[nC];simp only[Ze]at a;simp;omega
      |cons c u=>rw[zf];simp only[Ze,Yt]at a;simp;omega
     |nr hw=>
      cases f with
      |nil=>rw[nC];simp only[Ze]at a;simp;omega
      |cons c u=>rw[yj];simp only[Ze,Yt]at a;simp;omega
     |cons _ _ _=>
      rw[XZ]at j;cases j
    rw[hv]at H
    wp_walk
    exact⟨_,rfl,by simpa[Builtin.Tuple.tupleCompareSizes,szB]using H⟩
   case h=>
    exact⟨rfl,rfl,items.toList,dq.toList,ds,es,rfl,i,by omega,h⟩
 |false=>
  exact .of_wp λp w A R s h=>by
   obtain⟨z,g,d,m,o⟩:=s;obtain⟨i,hl,hb,h⟩:=h;have f2:=AutoSeq1.sub_tuple_tuple;have z1:items.size=ds.length:=by rw[<-i.len.1];simp
   have z2:dq.size=es.length:=by rw[<-i.len.2];simp
   wp_walk using Um hl,Um hb,Xv _ (λbW b O=>b.1=none/\O=⟨z,g,d,m,o⟩/\∃(N M:List Value) (f e:List D),bW=N.zip M /\
    LexOk false A.in1 ⟨z,g,d,m,o⟩ N M f e/\f.length+dq.size=e.length+items.size/\R (.ok (.ret (.bool (gQ false f e)))) ⟨z,g,d,m,o⟩) _
   case turn=>
    rintro⟨y,x⟩ bW b O ⟨B,rfl,N,M,f,e,j,S,a,H⟩;cases S with
    |nl _=>rw[UA]at j;cases j
    |nr _=>rw[Ut]at j;cases j
    |@cons v w' J I Y X L K he U P=>
     rw[XZ]at j;injection j with hyx hrest;injection hyx with hy hxx;subst hy hxx;simp only[Yt]at a;refine Yb (he p w _ _ ?_);cases q:eqd J I with
     |true=>
      have C:R (.ok (.ret (.bool (gQ false L K)))) ⟨z,g,d,m,o⟩:=by rw[B5 q]at H;exact H
      wp_walk
      exact⟨rfl,rfl,_,_,_,_,hrest,P,by omega,C⟩
     |false=>
      have C:R (.ok (.ret (.bool (ltD J I)))) ⟨z,g,d,m,o⟩:=by rw[CQ q]at H;exact H
      have T:∀(E Q:Kv),Q (.bool (ltD J I)) ⟨z,g,d,m,o⟩->wpAny (model p w) A.in1 (richCompare .Lt y x) Q E ⟨z,g,d,m,o⟩:=U q p w
      wp_walk using T
      exact⟨_,rfl,by simpa using C⟩
   case fin=>
    rintro⟨b1,b2⟩ O ⟨B,rfl,N,M,f,e,j,S,a,H⟩;simp only at B;subst B;have hv:gQ false f e=szB false items.size dq.size:=by
     unfold szB;cases S with
     |nl hw=>
      cases e with
      |nil=>rw[nC];simp only[Ze]at a;simp;omega
      |cons c u=>rw[zf];simp only[Ze,Yt]at a;simp;omega
     |nr hw=>
      cases f with
      |nil=>rw[nC];simp only[Ze]at a;simp;omega
      |cons c u=>rw[yj];simp only[Ze,Yt]at a;simp;omega
     |cons _ _ _=>
      rw[XZ]at j;cases j
    rw[hv]at H
    wp_walk
    exact⟨_,rfl,by simpa[Builtin.Tuple.tupleCompareSizes,szB]using H⟩
   case h=>
    exact⟨rfl,rfl,items.toList,dq.toList,ds,es,rfl,i,by omega,h⟩
end
def At{c}{l b}{es}(I:IsTup s.heap l items)(J:IsTup s.heap b dq)(hx:LexOk c A.in1 s items.toList dq.toList ds es)(q:A.units<cLine) :
  qI c A s (.ref l) (.ref b) (gQ c ds es):=by
 intro p w E Q h;obtain⟨⟨K,B,C,o⟩,j,y,n,u⟩:=id I;obtain⟨⟨H,i,m,e⟩,a,g,n2,f⟩:=id J;subst y u g f;have z:Value.bool (gQ c ds es)≠Value.notImplemented/\Q _ s:=⟨(λx=>nomatch x),h⟩
 cases c with
 |false=>exact richCompare_meets_room ⟨_,j,rfl⟩ ⟨_,a,rfl⟩ PySem.F.slot_tuple_lt PySem.F.entry_tuple_lt (PySem.F.args_tuple_lt_2 _ _) (ki false l b items dq n n2 B i o e ds es) ⟨hx,j,a,z⟩ q
 |true=>exact richCompare_meets_room ⟨_,j,rfl⟩ ⟨_,a,rfl⟩ PySem.F.slot_tuple_le PySem.F.entry_tuple_le (PySem.F.args_tuple_le_2 _ _) (ki true l b items dq n n2 B i o e ds es) ⟨hx,j,a,z⟩ q
def kZ:D->Bool
 |.tup _=>true
 |_=>false
def Rep.ltS{c}A{x y}{d e}{w}(h1:Rep X.K H x d)(h2:Rep X.K H y e)(k:aw d e=true)(hd:kZ d=false)(g:RelV x u)(f:RelV y w):qI c A s u w (leO c d e):=by
 cases d with
 |int i=>
  cases e with
  |int j=>
   cases h1;cases h2;obtain⟨t,rfl⟩:=(show ∃t,u=Value.int _ t from g)
   obtain⟨b,rfl⟩:=(show ∃t,w=Value.int _ t from f)
   intro p a E Q h;cases c with
   |false=>exact HT.rcLt_int A s _ _ _ _ p a E Q<|by unfold leO at h;rwa[ltD,Vk,XH]at h
   |true=>
    refine(richCompare_gives (typeIs_int s _ t) (typeIs_int s _ b) PySem.F.slot_int_le PySem.F.entry_int_le (PySem.F.args_int_le_2 _ _) (gives_int_le _ _ t b) (λx=>nomatch x) ?_);rw[show decide (i<=j)=leO true _ (.int j)from ?_]
    ·exact h
    ·unfold leO;rw[ltD,KY];rcases Int.lt_trichotomy i j with z|z|z
     ·simp[z,Int.le_of_lt z]
     ·simp[z]
     ·have:¬i<=j:=Int.not_le.mpr z;have:¬i<j:=λq=>this<|Int.le_of_lt q
      have:¬i=j:=λq=>by subst q;exact Int.lt_irrefl _ z
      simp[*]
  |_=>exact absurd k Yk
 |bl b1=>
  cases e with
  |bl b2=>
   cases h1;cases h2;cases(show u=Value.bool _ from g);cases(show w=Value.bool _ from f);intro p a E Q h;cases c with
   |false=>exact(PyProof.Rows.lt_bool<|by cases b1<;>cases b2<;>exact h)
   |true=>exact(PyProof.Rows.le_bool<|by cases b1<;>cases b2<;>exact h)
  |_=>exact absurd k Yk
 |str x1=>
  cases e with
  |str x2=>
   cases h1;cases h2;obtain⟨t,rfl⟩:=(show ∃t,u=Value.str _ t from g)
   obtain⟨b,rfl⟩:=(show ∃t,w=Value.str _ t from f)
   intro p a E Q h;cases c with
   |false=>exact(PyProof.Rows.lt_str<|by unfold leO at h;rwa[ltD,Vk,XH]at h)
   |true=>
    refine PySem.P.le_str ?_;rwa[show(!decide _)=leO true _ (.str x2)from(FL x1 x2).trans<|by unfold leO;rw[ltD,Vg]]
  |_=>exact absurd k Yk
 |tup xs=>cases hd
 |_=>exact absurd k Yk
theorem Reps.lex{c}(I:Inv X pz σ H s)n A(U:A.units+n+2<cLine)
  (ih:∀{x y}{d e}{u w},Rep X.K H x d->Rep X.K H y e->okN n d=true->okN n e=true->aw d e=true->RelV x u->RelV y w->qI c A s u w (leO c d e)) :
  ∀{xs ys}{ds es}{us a},Reps X.K H xs ds->Reps X.K H ys es->(∀d∈ds,okN n d=true)->(∀d∈es,okN n d=true)->bc ds es=true->Vals xs us->Vals ys a->LexOk c A s us a ds es:=by
 intro xs ys ds;induction ds generalizing xs ys with
 |nil=>
  intro es us a i g _ _ _ f b;cases i;cases f;exact .nl<|by rw[<-b.length,g.length]
 |cons d ds j=>
  intro es us a i g C B k f b;cases es with
  |nil=>
   cases g;cases b;exact .nr<|by rw[<-f.length,i.length]
  |cons e es=>
   cases i with
   |cons h q=>
    cases g with
    |cons E L=>
     cases f with
     |cons r t=>
      cases b with
      |cons p J=>
       rw[bc,Yu]at k;have o:=C _ Ye;have m:=B _ Ye;obtain⟨S,N⟩:=h.reads I n o r;obtain⟨R,M⟩:=E.reads I n m p;obtain⟨Q,O⟩:=cY n _ o;obtain⟨P,T⟩:=cY n _ m;refine .cons (VF _ _ A s _ _ _ _ N M Q P ?_) (λz=>by have:=ih h E o m k.1 r p;unfold leO at this;rwa[z,VQ,XH]at this)<|j q L (λd l=>C d<|Yd _ l) (λd l=>B d<|Yd _ l) k.2 t J;lia
theorem Rep.le{c}(I:Inv X pz σ H s):∀n A,A.units+n+2<cLine->∀{x y}{d e}{u w},Rep X.K H x d->Rep X.K H y e->okN n d=true->okN n e=true->aw d e=true->RelV x u->RelV y w->qI c A s u w (leO c d e):=by
 intro n;induction n with
 |zero=>
  intro A E x y d e u w a h o q k g f;refine a.ltS A h k ?_ g f;cases d<;>first|rfl|(simp[okN]at o)
 |succ n l=>
  intro A E x y d e u w a h o q k g f;cases C:kZ d with
  |false=>exact a.ltS A h k C g f
  |true=>
   cases d with
   |tup ds=>
    cases e with
    |tup es=>
     cases a with
     |tup a q1=>
      cases h with
      |tup h q2=>
       cases(show u=Value.ref _ from g);cases(show w=Value.ref _ from f);let⟨B,j,p,_⟩:=I.tuple<|SqT.of a;let⟨z,i,m,_⟩:=I.tuple<|SqT.of h;have b:A.in1.units+n+2<cLine:=by show A.units+1+n+2<cLine;lia
       exact At p m (Reps.lex I n A.in1 b (l A.in1 b) q1 q2 (ck o) (ck q) (by rwa[aw]at k) j i)<|by lia
    |_=>exact absurd k Yk
   |_=>cases C
def Rep.lt(I:Inv X pz σ H s)n A(h:A.units+n+2<cLine){x y}{d e}{w}(h1:Rep X.K H x d)(h2:Rep X.K H y e)(f:okN n d=true)(o:okN n e=true)(k:aw d e=true)(b:RelV x u)(a:RelV y w):Mj A s u w (ltD d e):=by have:=Rep.le (c:=false) I n A h h1 h2 f o k b a;unfold leO at this;rwa[Vk,XH]at this
noncomputable def ltd(x y:D):Option D:=if(okN 30 x&&okN 30 y&&aw x y)=true then some (.bl<|ltD x y)else none
def KJ(K:Kq):R2:=λx y H Q=>∃b a,Rep K H x b/\Rep K H y a/\okN 30 b=true/\okN 30 a=true/\aw b a=true/\Q (.bl<|ltD b a) H
section
variable  {a:Expr} 
theorem JA(j:X.A.units+64<cLine):OpR X (compareOp .Lt) (KJ X.K):=by intro p s i H x y v u Q I b a h;obtain⟨m,l,g,f,e,o,c,q⟩:=h;exact Rep.lt I 30 X.A (by lia) g f e o c b a X.prog X.w X.xe _ ⟨.bl _,H,I,rfl,q⟩
def Je:OpN2 K (KJ K) ltd:=by
 intro P F H x y g f d Q a e c b k;unfold ltd at a;split at a
 ·rename_i h;rw[Yu,Yu]at h;cases a;exact⟨g,f,c,b,h.1.1,h.1.2,h.2,k _ F H (Evo.refl e) .bl⟩
 ·cases a
def jI(h:X.A.units+64<cLine)(e:PDN X a fa)(c:PDN X b fb):PDT X (.Compare a [.Lt] [b] pos) (asB (d2 ltd fa fb)):=si (JA h) Je e c<|iW _
noncomputable def led(x y:D):Option D:=if(okN 30 x&&okN 30 y&&aw x y)=true then some (.bl<|leO true x y)else none
end
end L2
namespace L2
open PySem PySem.Spec PyProof.Rows PySem.W
def kok{b}(n:Nat)(lt:Nat->Nat->Bool):KasT b->(b->Prop)->Prop
 |.ret a,Q=>Q a
 |.ask i j k,Q=>i<n/\j<n/\kok n lt (k<|lt i j) Q
def i_{c b}{f}{Q:b->Prop}(t:KasT c):kok n lt t (λa=>kok n lt (f a) Q)->kok n lt (t.bind f) Q:=by
 induction t with
 |ret a=>exact λh=>h
 |ask i j k ih=>exact λh=>⟨h.1,h.2.1,ih _ h.2.2⟩
def eG{b}{Q c}(e:∀a,Q a->c a)(t:KasT b):kok n lt t Q->kok n lt t c:=by
 induction t with
 |ret a=>exact e a
 |ask i j k ih=>exact λh=>⟨h.1,h.2.1,ih _ h.2.2⟩
def Hg{b}{c}{Q}{G}(e:∀i j C,i<n->j<n->C (lt i j) s->c i j C s)(f:∀a,Q a->G a s)(t:KasT b):kok n lt t Q->t.kasWp c G s:=by
 induction t with
 |ret a=>exact f a
 |ask i j k ih=>exact λh=>e i j _ h.1 h.2.1<|ih _ h.2.2
structure Ord (lt:Nat->Nat->Bool):Prop where
 asym:∀i j,lt i j=true->lt j i=false
 trans:∀i j k,lt j i=false->lt k j=false->lt k i=false
section
variable{n:Nat}{lt:Nat->Nat->Bool}
structure PermN (n:Nat) (p:Array Nat):Prop where
 size:p.size=n
 perm:p.toList.Perm (List.range n)
def PermN.bd{p}(h:PermN n p)(hi:i<n):p.getD i 0<n:=by
 have a:i<p.size:=by rwa[h.size]
 have e:p.getD i 0=p[i]:=by simp[a]
 rw[e];have b:p[i]∈p.toList:=by simp
 exact YU.mp<|h.perm.mem_iff.mp b
def PermN.rev{p}(h:PermN n p)i j:PermN n (kas_rev p i j):=
 ⟨by unfold kas_rev;rw[mirror_size,h.size],((Array.perm_iff_toList_perm.mp<|mirror_perm _ _ _ _).trans h.perm)⟩
def PermN.bub{p}(h:PermN n p)i j:PermN n (bubble p i j):=
 ⟨by rw[bubble_size,h.size],((Array.perm_iff_toList_perm.mp<|bubble_perm _ _ _).trans h.perm)⟩
def jY{p q:Array Nat}(h:p[i]?=q[j]?):p.getD i 0=q.getD j 0:=by simp[h]
def gq{p}(h:PermN n p)(a:j<=n)k:(kas_rev p i j).getD k 0=if i<=k/\k<j then p.getD (i+j-1-k) 0 else p.getD k 0:=by
 have e:=getElem?_mirror_all (i:=i) (by rwa[h.size]) k;split
 ·rename_i q;rw[Yj q]at e;exact jY e
 ·rename_i q;rw[Yl q]at e;exact jY e
def Ris(lt:Nat->Nat->Bool)(p:Array Nat)(b:Nat):Prop:=∀i j,i<=j->j<b->lt (p.getD j 0) (p.getD i 0)=false
def Fal(lt:Nat->Nat->Bool)(p:Array Nat)(b:Nat):Prop:=∀i j,i<=j->j<b->lt (p.getD i 0) (p.getD j 0)=false
def Eqs(lt:Nat->Nat->Bool)(p:Array Nat)(a b:Nat):Prop:=∀i j,a<=i->i<b->a<=j->j<b->lt (p.getD i 0) (p.getD j 0)=false
def Ord.irr(o:Ord lt)i:lt i i=false:=by
 cases q:lt i i with
 |false=>rfl
 |true=>have:=o.asym i i q;rw[q]at this;cases this
theorem mY{a b}(h:a<=i/\i<b):a<=a+b-1-i/\a+b-1-i<b:=by lia
def CK(o:Ord lt){p}(w:PermN n p):∀f k,1<=k->k+f<=n->Ris lt p k->kok n lt (kas_asc p f k) (λm=>k<=m/\m<=k+f/\Ris lt p m/\(m=k+f\/lt (p.getD m 0) (p.getD (m-1) 0)=true)):=by
 intro f;induction f with
 |zero=>exact λk _ _ a=>⟨Yr _,Yr _,a,.inl rfl⟩
 |succ f ih=>
  intro k z x a;have s:=Yx (Vz<|Xe f) x;have u:=Ue z Nat.one_pos;have q:=ZD k 1 f;refine⟨w.bd s,w.bd<|ZQ u s,?_⟩;cases c:lt _ (p.getD (k-1) 0)with
  |true=>
   (try dsimp only)
   exact⟨Yr _,VW _ _,a,.inr c⟩
  |false=>
   (try dsimp only)
   refine eG (λm h=>⟨VH h.1,YD h.2.1<|Xm q,h.2.2.1,h.2.2.2.imp (λe=>e.trans q) id⟩) _<|ih (k+1) (ZT 1 k) (YD (Xm q) x) λi j l y=>?_;by_cases b:j<k
   ·exact a i j l b
   ·have:j=k:=ZB (Zw y)<|Xo b;subst this;by_cases g:i=j
    ·subst g;exact o.irr _
    ·exact o.trans _ _ _ (a i (j-1) (Xp<|Xb l g) u) c
def zk{p}(l:PermN n p){a b}(q:b<=n)(he:Eqs lt p a b)(o:Ord lt)(m:Fal lt p b):Fal lt (kas_rev p a b) b:=by
 intro i j c f;rw[gq l q,gq l q];by_cases e:a<=i/\i<b
 ·rw[Yj e];have h:a<=j/\j<b:=⟨YD e.1 c,f⟩
  rw[Yj h];exact he _ _ (mY e).1 (mY e).2 (mY h).1 (mY h).2
 ·rw[Yl e];have g:=Nat.lt_of_not_le λz=>e ⟨z,Zk c f⟩
  by_cases h:a<=j/\j<b
  ·rw[Yj h];exact m _ _ (YD (ZP g) (mY h).1) (mY h).2
  ·rw[Yl h];exact m i j c f
def oM(o:Ord lt){p'}(h1:1<=k)(c:Fal lt p' k)(f:lt (p'.getD (k-1) 0) (p'.getD k 0)=false):Fal lt p' (k+1):=by
 intro i j b e;by_cases h:j<k
 ·exact c i j b h
 ·have:j=k:=ZB (Zw e)<|Xo h;subst this;by_cases a:i=j
  ·subst a;exact o.irr _
  ·exact o.trans _ _ _ f<|c i (j-1) (Xp<|Xb b a)<|Ue h1 Nat.one_pos
def sA(o:Ord lt)p' k:Eqs lt p' (k+1-(0+1)) (k+1):=by intro i j g f c b;have a:=ZB (Zw f) g;have e:=ZB (Zw b) c;subst a;subst e;exact o.irr _
def BD(o:Ord lt){p}{k q}(a:k-(q+1)<=k-1/\k-1<k)(he:Eqs lt p (k-(q+1)) k)(c:lt (p.getD k 0) (p.getD (k-1) 0)=false)(d:lt (p.getD (k-1) 0) (p.getD k 0)=false):Eqs lt p (k+1-(q+1+1)) (k+1):=by
 have e:∀i,k+1-(q+1+1)<=i->i<k+1->lt (p.getD i 0) _=false/\lt _ (p.getD i 0)=false:=λi b1 b2=>by
  rw[Nat.add_sub_add_right]at b1;by_cases h:i=k
  ·subst h;exact⟨o.irr _,o.irr _⟩
  ·have b:=Xb (Zw b2) h;exact⟨o.trans _ _ _ d<|he i (k-1) b1 b a.1 a.2,o.trans _ _ _ (he (k-1) i a.1 a.2 b1 b) c⟩
 exact λi j m l g f=>o.trans _ _ _ (e j g f).2 (e i m l).1
def GF(o:Ord lt):∀f p k q,PermN n p->1<=k->k+f<=n->q+1<=k->Fal lt p k->Eqs lt p (k-(q+1)) k->
  kok n lt (kas_desc f p k q) (λr=>PermN n r.1/\k<=r.2.1/\r.2.1<=n/\r.2.2+1<=r.2.1/\Fal lt r.1 r.2.1/\Eqs lt r.1 (r.2.1-(r.2.2+1)) r.2.1):=by
 intro f;induction f with
 |zero=>exact λp k q a m u s g i=>⟨a,Yr _,u,s,g,i⟩
 |succ f ih=>
  intro p k q a m u s g i;have b:=Yx (Vz<|Xe f) u;have w:=Ue m Nat.one_pos;have e:=YD (Xm<|ZD k 1 f) u;have j:k-(q+1)<=k-1/\k-1<k:=⟨Nat.sub_le_sub_left (VV<|YO q) k,w⟩
  refine⟨a.bd b,a.bd<|ZQ w b,?_⟩;cases c:lt _ (p.getD (k-1) 0)with
  |true=>
   (try dsimp only)
   have A:=o.asym _ _ c;by_cases l:q > 0
   ·rw[Yj l];have x:=zk a (ZP b) i o g;have y:lt ((kas_rev p (k-(q+1)) k).getD (k-1) 0) ((kas_rev p (k-(q+1)) k).getD k 0)=false:=by rw[gq a<|ZP b,gq a<|ZP b,Yj j,Yl λz=>YX _ z.2];exact o.trans _ _ _ A<|i _ _ (mY j).1 (mY j).2 j.1 j.2
    exact eG (λr h=>⟨h.1,VH h.2.1,h.2.2⟩) _<|ih _ (k+1) 0 (a.rev _ _) (ZT 1 k) e (ZT 1 k) (oM o m x y)<|sA o _ k
   ·rw[Yl l];exact eG (λr h=>⟨h.1,VH h.2.1,h.2.2⟩) _<|ih _ (k+1) 0 a (ZT 1 k) e (ZT 1 k) (oM o m g A)<|sA o _ k
  |false=>
   (try dsimp only)
   refine⟨a.bd<|ZQ w b,a.bd b,?_⟩;cases d:lt _ (p.getD k 0)with
   |true=>
    (try dsimp only)
    exact⟨a,Yr _,ZP b,s,g,i⟩
   |false=>
    (try dsimp only)
    exact eG (λr h=>⟨h.1,VH h.2.1,h.2.2⟩) _<|ih p (k+1) (q+1) a (ZT 1 k) e (VV s) (oM o m g d)<|BD o j i c d
def Gk{p}(a:PermN n p){b}(f:b<=n)(g:Fal lt p b):Ris lt (kas_rev p 0 b) b:=by
 intro i j h c;have e:0<=i/\i<b:=⟨YO _,Zk h c⟩
 rw[gq a f,gq a f,Yj ⟨YO _,c⟩,Yj e];exact g _ _ (Nat.sub_le_sub_left h _) (mY e).2
def vk(o:Ord lt){p}(a:PermN n p)(h1:1<=k)(b:k<=n)(c:Fal lt p k):kok n lt (kas_tail3 k n p) (λr=>1<=r.1/\r.1<=n/\PermN n r.2/\Ris lt r.2 r.1):=by unfold kas_tail3;have e:=Xm<|Vt b;exact i_ _<|eG (λm h=>⟨YD h1 h.1,YD h.2.1 e,a.rev _ _,h.2.2.1⟩) _<|CK o (a.rev 0 k) (n-k) k h1 e<|Gk a b c
def mD(o:Ord lt){p}(g:PermN n p)(h1:1<=k)(i:k<n)(j:Fal lt p (k+1)):kok n lt (kas_descPart k n p) (λr=>1<=r.1/\r.1<=n/\PermN n r.2/\Ris lt r.2 r.1):=by
 refine i_ _<|eG ?_ _<|GF o _ p (k+1) 0 g (ZT 1 k) (Xm<|Vt i) (ZT 1 k) j<|sA o p k;intro r h;obtain⟨c,m,b,q,f,l⟩:=h;have a:=YD (ZT 1 k) m;by_cases e:r.2.2 > 0
 ·rw[Yj e];exact vk o (c.rev _ _) a b<|zk c b l o f
 ·rw[Yl e];exact vk o c a b f
def Db(o:Ord lt){p}(f:PermN n p)(L:1<=n):kok n lt (kas_count n p) (λr=>1<=r.1/\r.1<=n/\PermN n r.2/\Ris lt r.2 r.1):=by
 have H:=Vt L;refine i_ _<|eG (λk C=>?_) _ (CK o f (n-1) 1 (Yr _) (Xm H) λi j a l=>by
  have I:=Nat.lt_one_iff.mp l;subst I;have J:=Nat.le_zero.mp a;subst J;exact o.irr _)
 obtain⟨s,m,w,P⟩:=C;have m:=YD m<|Xm H;by_cases B:(k == n)=true
 ·rw[Yj B];exact⟨s,m,f,w⟩
 ·rw[Yl B];have q:k≠n:=by simpa using B
  have x:=Xb m q;have y:=Ue s Nat.one_pos;have A:lt (p.getD k 0) (p.getD (k-1) 0)=true:=by
   rcases P with e|e
   ·exact absurd (e.trans H) q
   ·exact e
  have M:=o.asym _ _ A;by_cases E:k > 1
  ·rw[Yj E];refine⟨f.bd<|Yx Nat.one_pos L,f.bd<|ZQ y x,?_⟩;cases c:lt _ (p.getD (k-1) 0)with
   |true=>
    (try dsimp only)
    exact⟨s,m,f,w⟩
   |false=>
    (try dsimp only)
    have b:=λi j u l=>
     o.trans _ _ _ (o.trans _ _ _ (w j (k-1) (Xp l) y) c)<|w 0 i (YO _) u
    refine mD o (f.rev _ _) s x λi j a l=>?_;rw[gq f m,gq f m];by_cases g:j<k
    ·have u:0<=i/\i<k:=⟨YO _,Zk a g⟩
     rw[Yj u,Yj ⟨YO _,g⟩];exact b _ _ (mY u).2 (mY ⟨YO _,g⟩).2
    ·have O:=ZB (Zw l)<|Xo g;subst O;rw[Yl (λz:0<=j/\j<j=>YX _ z.2)];by_cases h:i<j
     ·rw[Yj ⟨YO _,h⟩];exact o.trans _ _ _ M<|b _ _ (mY ⟨YO _,h⟩).2 y
     ·rw[Yl λz=>h z.2];have:i=j:=ZB a<|Xo h;subst this;exact o.irr _
  ·rw[Yl E];have N:=ZB (Xo E) s;subst N;refine mD o f (Yr _) x λi j a l=>?_;by_cases h:i=j
   ·subst h;exact o.irr _
   ·have K:=Xb a h;have I:=ZB (Zw l)<|Zk (YO i) K;subst I;have J:=Nat.lt_one_iff.mp K;subst J;exact M
theorem nM(o:Ord lt){p}(w:PermN n p){k}(x:k<n)(u:Ris lt p k):∀f l r,l<=r->r<=k->r-l<=f->(∀i,i<l->lt (p.getD k 0) (p.getD i 0)=false)->(∀i,r<=i->i<k->lt (p.getD k 0) (p.getD i 0)=true)->
  kok n lt (kas_place p k f l r) (λm=>m<=k/\(∀i,i<m->lt (p.getD k 0) (p.getD i 0)=false)/\∀i,m<=i->i<k->lt (p.getD k 0) (p.getD i 0)=true):=by
 intro f;induction f with
 |zero=>
  intro l r y h A g b;have e:=ZB y<|Nat.le_of_sub_eq_zero<|Nat.le_zero.mp A;subst e;exact⟨h,g,b⟩
 |succ f ih=>
  intro l r y h A g b;unfold kas_place;by_cases a:l ≥ r
  ·rw[Yj a];have e:=ZB y a;subst e;exact⟨h,g,b⟩
  ·rw[Yl a];have s:l<=(l+r)/2/\(l+r)/2<r/\(l+r)/2-l<=f/\r-((l+r)/2+1)<=f:=by clear g b u w ih h x;lia
   obtain⟨E,j,C,B⟩:=s;refine⟨w.bd x,w.bd<|ZQ (Yx j h) x,?_⟩;cases c:lt _ (p.getD _ 0)with
   |true=>
    (try dsimp only)
    refine ih l _ E (YD (ZP j) h) C g λi z H=>?_;cases q:lt _ (p.getD i 0)with
    |true=>rfl
    |false=>
     have:=o.trans _ _ _ (u _ i z H) q;rw[c]at this;cases this
   |false=>
    (try dsimp only)
    exact ih _ r j h B (λi z=>o.trans _ _ _ (u i _ (Zw z)<|Yx j h) c) b
def yE{p}(b:PermN n p){k l}(f:k<n)(c:l<=k)i:(bubble p k (k-l)).getD i 0=if i=l then p.getD k 0 else if l<i/\i<=k then p.getD (i-1) 0 else p.getD i 0:=by
 have e:=getElem?_bubble (by rwa[b.size]) (k-l) (Nat.sub_le _ _) i;rw[Nat.sub_sub_self c]at e;by_cases a:i=l
 ·rw[Yj a]at e ⊢;exact jY e
 ·rw[Yl a]at e ⊢;by_cases h:l<i/\i<=k
  ·rw[Yj h]at e ⊢;exact jY e
  ·rw[Yl h]at e ⊢;exact jY e
def FC(o:Ord lt){p}(w:PermN n p){k l}(s:k<n)(q:Ris lt p k)(a1:l<=k)(y:∀i,i<l->lt (p.getD k 0) (p.getD i 0)=false)(a3:∀i,l<=i->i<k->lt (p.getD k 0) (p.getD i 0)=true):Ris lt (bubble p k (k-l)) (k+1):=by
 intro i j h x;have b:=Zw x;have m:=λz=>Yx (Ue (Zk (YO l) z) Nat.one_pos) b
 rw[yE w s a1,yE w s a1];by_cases f:i=l
 ·rw[Yj f];by_cases e:j=l
  ·rw[Yj e];exact o.irr _
  ·have a:=Xb (f ▸ h)<|XS e;rw[Yl e,Yj ⟨a,b⟩];exact o.asym _ _<|a3 (j-1) (Xp a)<|m a
 ·rw[Yl f];by_cases e:j=l
  ·have u:=e ▸ h;rw[Yj e,Yl λz=>YX _<|Yx z.1 u];exact y i<|Xb u f
  ·rw[Yl e];by_cases g:l<i/\i<=k
   ·have a:=Yx g.1 h;rw[Yj g,Yj ⟨a,b⟩];exact q _ _ (Nat.sub_le_sub_right h 1)<|m a
   ·rw[Yl g];by_cases c:l<j/\j<=k
    ·rw[Yj c];exact q _ _ (Xp<|Zk (Xo λz=>g ⟨z,YD h b⟩) c.1)<|m c.1
    ·rw[Yl c];exact q _ _ h<|Yx (Xb (Xo λz=>c ⟨z,b⟩) e) a1
def HD(o:Ord lt):∀f p k,PermN n p->k+f=n->Ris lt p k->kok n lt (kas_bin f p k) (λr=>PermN n r/\Ris lt r n):=by
 intro f;induction f with
 |zero=>exact λp k h b a=>⟨h,by rwa[<-b]⟩
 |succ f ih=>
  intro p k h b a;have e:=b ▸ Vz<|Xe f;refine i_ _<|eG (λl c=>?_) _<|nM o h e a k 0 k (YO _) (Yr _) (Yr _) (λi g=>absurd g<|VA _) λi m j=>absurd j<|Nat.not_lt_of_le m;obtain⟨u,s,q⟩:=c;exact ih _ (k+1) (h.bub _ _) ((ZD k 1 f).trans b)<|FC o h e a u s q
def nY n:PermN n (List.toArray (List.range n)):=⟨by simp,by simp⟩
def uR(o:Ord lt)(g:1<=n):kok n lt (kas_sort n) (λr=>PermN n r/\Ris lt r n):=by
 refine i_ _<|eG (λr a=>?_) _<|Db o (nY n) g;obtain⟨i,f,c,b⟩:=a;by_cases h:r.1<n
 ·rw[Yj h];have e:=Nat.max_eq_left i;rw[e];exact HD o _ _ _ c (Vt f) b
 ·rw[Yl h];have e:=ZB f<|Xo h;rw[e]at b;exact⟨c,b⟩
end
def mT(vs:List Value)(p:Array Nat):Array Value:=(p.toList.map λi=>vs.getD i Value.none).toArray
theorem Af vs(h:vs.length<2):mT vs (List.toArray (List.range vs.length))=(vs.toArray.zip vs.toArray).map (·.2):=by
 cases vs with
 |nil=>simp[mT]
 |cons v r=>
  cases r with
  |nil=>simp[mT]
  |cons _ _=>simp at h;lia
theorem p5{vs}{P}(B:s.heap.get? a=some (seqObj "list" vs.toArray n))(h64:vs.length<64)κ lt(o:Ord lt)
  (N:2<=vs.length->∀h',(∀b u,b≠a->s.heap.get? b=some u->h'.get? b=some u)->∀Q:SortKind->Shared->Prop,Q κ {s with heap:=h' }->wpAny (model prog w) A (keyKind' vs.toArray) Q E {s with heap:=h' })
  (S:∀h',(∀b u,b≠a->s.heap.get? b=some u->h'.get? b=some u)->∀i j C,i<vs.length->j<vs.length->C (lt i j) {s with heap:=h' }->kas_ask prog w A κ vs i j C {s with heap:=h' })
  (h:∀p,PermN vs.length p->Ris lt p vs.length->P (.done<|.ret .none) {s with heap:=sortedHeap s.heap a vs<|mT vs p}) :
  wpAny (model prog w) A (Builtin.«list.sort» ⟨[.ref a],[]⟩) P E s:=by
 rw[list_sort_plain];have K:=Ys B;refine Yb<|listItems_at B rfl ?_;refine Yb<|listUpdate_at B rfl ?_ (by rw[YA,YY];lia)<|YO _;obtain⟨z,m⟩:∃z,(s.heap.update a _).get? a=some (seqObj "list" #[] z):=⟨_,get?_update_seq B λ_=>#[]⟩
 refine Yb<|seqEpoch_at m rfl ?_;refine Yb<|wpAny_newTuple ?_ (by rw[YY];lia);refine Yb<|Ud ?_<|YO _;refine ZE ?_;have f:(((s.heap.update a<|Obj.mapSeq λ_=>(#[])).push<|seqObj "tuple" vs.toArray 0).push<|seqObj "list" #[] 0).get? a=some (seqObj "list" #[] z):=by rwa[Vh _ _ _<|by rw[size_push',VX];exact Yz<|Zv K,Vh _ _ _<|by rw[VX];exact Yz K]
 have kept:∀b u,b≠a->s.heap.get? b=some u->(((s.heap.update a<|Obj.mapSeq λ_=>(#[])).push<|seqObj "tuple" vs.toArray 0).push<|seqObj "list" #[] 0).get? b=some u:=λb u T e=>by
  have x:=Ys e;rwa[Vh _ _ _<|by rw[size_push',VX];exact Yz<|Zv x,Vh _ _ _<|by rw[VX];exact Yz x,YV _ _ _ _ T]
 dsimp only;have L:vs.toArray.size=vs.length:=by simp
 by_cases H:vs.toArray.size<2
 ·rw[Yj H,Yj H];refine Yb<|Yh ?_;refine Yb<|Yh ?_;refine Yb<|seqEpoch_at f rfl ?_;refine Yb<|listUpdate_at f rfl ?_ (YO _) (by rw[Array.size_map];show(pairsOf vs).size<=_;rw[pairsOf_size,YY];lia);simp only[bne_self_eq_false];have q:=h _ (nY _) (λi j O Y=>by
   have z:i=j:=by lia
   subst z;exact o.irr _)
  have e:mT vs (List.toArray<|List.range vs.length)=(vs.toArray.zip vs.toArray).map (·.2):=by exact Af vs<|by lia
  rw[e]at q;exact Yh q
 ·rw[Yl H,Yl H];have y:2<=vs.length:=by lia
  refine Yb<|N y _ kept _ ?_;refine Yb<|Xd (kat_run (Q:=λc g=>g={s with heap:=((s.heap.update a _).push _).push _}/\∃p:Array Nat,PermN vs.length p/\Ris lt p vs.length/\arrOf c=p.map _/\failedOf c=none)
   (G:=λp g=>g={s with heap:=((s.heap.update a _).push _).push _}/\PermN vs.length p/\Ris lt p vs.length)
   rfl y h64 (λp c g Z X U ⟨b1,b2,b3⟩=>⟨b1,p,b2,b3,X,U⟩)<|Hg (S _ kept) (λp ⟨b2,b3⟩=>⟨rfl,b2,b3⟩) _<|uR o<|by lia) ?_ λ_ _ e=>e
  rintro⟨⟨⟩,c⟩ g ⟨rfl,p,J,M,I,R⟩;have l:=kat_snds rfl I;rw[l];refine Yb<|seqEpoch_at f rfl ?_;refine Yb<|listUpdate_at f rfl ?_ (YO _) (by rw[YA,Yc,YM,J.size,YY];lia);rw[R];simp;exact Yh<|h p J M
mutual
theorem cE:∀x y:D,aw x y=true->(eqd x y=true↔x=y)
 |.int i,.int j,_=>by simp[eqd,cc,PyData.eqv]
 |.bl a,.bl b,_=>by simp[eqd,cc,PyData.eqv]
 |.str a,.str b,_=>by simp[eqd,cc,PyData.eqv]
 |.tup xs,.tup ys,h=>by
  have:=j7 xs ys (by simpa[aw]using h);simp only[eqd,cc,PyData.eqv,D.tup.injEq];exact this
 |.non,y,h=>by cases y<;>simp[aw]at h
 |.lst _,y,h=>by cases y<;>simp[aw]at h
 |.dT _,y,h=>by cases y<;>simp[aw]at h
 |.dK _,y,h=>by cases y<;>simp[aw]at h
 |.ins _ _,y,h=>by cases y<;>simp[aw]at h
 |.int _,.non,h=>by simp[aw]at h
 |.int _,.bl _,h=>by simp[aw]at h
 |.int _,.str _,h=>by simp[aw]at h
 |.int _,.tup _,h=>by simp[aw]at h
 |.int _,.lst _,h=>by simp[aw]at h
 |.int _,.dT _,h=>by simp[aw]at h
 |.int _,.dK _,h=>by simp[aw]at h
 |.int _,.ins _ _,h=>by simp[aw]at h
 |.bl _,.non,h=>by simp[aw]at h
 |.bl _,.int _,h=>by simp[aw]at h
 |.bl _,.str _,h=>by simp[aw]at h
 |.bl _,.tup _,h=>by simp[aw]at h
 |.bl _,.lst _,h=>by simp[aw]at h
 |.bl _,.dT _,h=>by simp[aw]at h
 |.bl _,.dK _,h=>by simp[aw]at h
 |.bl _,.ins _ _,h=>by simp[aw]at h
 |.str _,.non,h=>by simp[aw]at h
 |.str _,.bl _,h=>by simp[aw]at h
 |.str _,.int _,h=>by simp[aw]at h
 |.str _,.tup _,h=>by simp[aw]at h
 |.str _,.lst _,h=>by simp[aw]at h
 |.str _,.dT _,h=>by simp[aw]at h
 |.str _,.dK _,h=>by simp[aw]at h
 |.str _,.ins _ _,h=>by simp[aw]at h
 |.tup _,.non,h=>by simp[aw]at h
 |.tup _,.bl _,h=>by simp[aw]at h
 |.tup _,.int _,h=>by simp[aw]at h
 |.tup _,.str _,h=>by simp[aw]at h
 |.tup _,.lst _,h=>by simp[aw]at h
 |.tup _,.dT _,h=>by simp[aw]at h
 |.tup _,.dK _,h=>by simp[aw]at h
 |.tup _,.ins _ _,h=>by simp[aw]at h
theorem j7:∀xs ys:List D,bc xs ys=true->(PyData.eqvAll (cn xs) (cn ys)=true↔xs=ys)
 |[],[],_=>by simp[cn,PyData.eqvAll]
 |[],_::_,_=>by simp[cn,PyData.eqvAll]
 |_::_,[],_=>by simp[cn,PyData.eqvAll]
 |x::xs,y::ys,h=>by
  rw[bc,Yu]at h;have a:=cE x y h.1;have b:=j7 xs ys h.2;simp only[cn,PyData.eqvAll,Yu,List.cons.injEq];rw[b];unfold eqd at a;rw[a]
end
structure Fc2 {α:Type} (l:α->α->Bool) (x y:α):Prop where
 as:l x y=true->l y x=false
 an:l x y=false->l y x=false->x=y
def Fc3{a:Type}(l:a->a->Bool)(x y z:a):Prop:=l x y=true->l y z=true->l x z=true
def bz{x}(h:aw x y=true):(∃i j,x=.int i/\y=.int j)\/(∃i j,x=.bl i/\y=.bl j)\/(∃i j,x=.str i/\y=.str j)\/∃i j,x=.tup i/\y=.tup j/\bc i j=true:=by
 cases x with
 |int i=>
  refine .inl ?_;cases y with
  |int j=>exact⟨_,_,rfl,rfl⟩
  |_=>exact absurd h Yk
 |bl i=>
  refine .inr<|.inl ?_;cases y with
  |bl j=>exact⟨_,_,rfl,rfl⟩
  |_=>exact absurd h Yk
 |str i=>
  refine .inr<|.inr<|.inl ?_;cases y with
  |str j=>exact⟨_,_,rfl,rfl⟩
  |_=>exact absurd h Yk
 |tup i=>
  refine .inr<|.inr<|.inr ?_;cases y with
  |tup j=>exact⟨_,_,rfl,rfl,h⟩
  |_=>exact absurd h Yk
 |_=>exact absurd h Yk
theorem AH{a b:List Nat}(h:a<b):¬b<a:=by grind
theorem kq{x}(h1:aw x y=true)(b:kZ x=false):Fc2 ltD x y:=by
 rcases bz h1 with⟨i,j,rfl,rfl⟩|⟨i,j,rfl,rfl⟩|⟨i,j,rfl,rfl⟩|⟨i,j,rfl,rfl,_⟩
 ·refine⟨λh=>?_,λh a=>?_⟩
  ·simp[ltD]at h ⊢;lia
  ·simp[ltD]at h a;rw[show i=j by lia]
 ·refine⟨λh=>?_,λh a=>?_⟩
  ·cases i<;>simp_all [ltD]
  ·cases i<;>simp_all [ltD]
 ·refine⟨λh=>?_,λh a=>?_⟩
  ·simp[ltD]at h ⊢;exact AH h
  ·simp[ltD]at h a;rw[xW<|List.le_antisymm a h]
 ·cases b
theorem kX{x}(h1:aw x y=true)(h2:aw y z=true)(c:kZ x=false):Fc3 ltD x y z:=by
 rcases bz h1 with⟨i,j,rfl,rfl⟩|⟨i,j,rfl,rfl⟩|⟨i,j,rfl,rfl⟩|⟨i,j,rfl,rfl,_⟩
 ·rcases bz h2 with⟨a,k,e,rfl⟩|⟨a,k,e,rfl⟩|⟨a,k,e,rfl⟩|⟨a,k,e,rfl,_⟩<;>cases e;intro h b;simp[ltD]at h b ⊢;lia
 ·rcases bz h2 with⟨a,k,e,rfl⟩|⟨a,k,e,rfl⟩|⟨a,k,e,rfl⟩|⟨a,k,e,rfl,_⟩<;>cases e;intro h b;cases i<;>simp_all [ltD]
 ·rcases bz h2 with⟨a,k,e,rfl⟩|⟨a,k,e,rfl⟩|⟨a,k,e,rfl⟩|⟨a,k,e,rfl,_⟩<;>cases e;intro h b;simp[ltD]at h b ⊢;exact List.lt_trans h b
 ·cases c
def AQ n:∀x y:D,okN n x=true->aw x y=true->aw y x=true:=by
 induction n with
 |zero=>
  intro x y o h;rcases bz h with⟨i,j,rfl,rfl⟩|⟨i,j,rfl,rfl⟩|⟨i,j,rfl,rfl⟩|⟨i,j,rfl,rfl,_⟩
  ·rfl
  ·rfl
  ·rfl
  ·simp[okN]at o
 |succ n ih=>
  intro x y o h;rcases bz h with⟨i,j,rfl,rfl⟩|⟨i,j,rfl,rfl⟩|⟨i,j,rfl,rfl⟩|⟨i,j,rfl,rfl,c⟩
  ·rfl
  ·rfl
  ·rfl
  ·have key:∀b a,(∀d∈b,okN n d=true)->bc b a=true->bc a b=true:=by
    intro b;induction b with
    |nil=>intro a _ _;cases a<;>simp[bc]
    |cons x b e=>
     intro a f c;cases a with
     |nil=>simp[bc]
     |cons y a=>
      rw[bc,Yu]at c ⊢;exact⟨ih x y (f x Ye) c.1,e a (λd g=>f d<|Yd _ g) c.2⟩
   exact key i j (ck o) c
def EW(ih:∀x y:D,okN n x=true->okN n y=true->aw x y=true->Fc2 ltD x y) :
  ∀xs ys,(∀d∈xs,okN n d=true)->(∀d∈ys,okN n d=true)->bc xs ys=true->Fc2 dS xs ys:=by
 intro xs;induction xs with
 |nil=>
  intro ys _ _ _;refine⟨λh=>?_,λh c=>?_⟩
  ·cases ys<;>simp_all [dS]
  ·cases ys<;>simp_all [dS]
 |cons x xs i=>
  intro ys ox o f;cases ys with
  |nil=>
   refine⟨λh=>?_,λh c=>?_⟩
   ·simp[dS]at h
   ·simp[dS]at c
  |cons y ys=>
   rw[bc,Yu]at f;have p:=ox x Ye;have j:=o y Ye;have b:=cE x y f.1;have e:=cE y x<|AQ n x y p f.1;have G:=i ys (λd g=>ox d<|Yd _ g) (λd g=>o d<|Yd _ g) f.2;refine⟨λh=>?_,λh c=>?_⟩
   ·rw[dS]at h ⊢;by_cases a:x=y
    ·rw[Yj<|b.mpr a]at h;rw[Yj<|e.mpr a.symm];exact G.as h
    ·rw[Yl λq=>a<|b.mp q]at h;rw[Yl λq=>a (e.mp q).symm];exact(ih x y p j f.1).as h
   ·rw[dS]at h c;by_cases a:x=y
    ·rw[Yj<|b.mpr a]at h;rw[Yj<|e.mpr a.symm]at c;rw[a,G.an h c]
    ·rw[Yl λq=>a<|b.mp q]at h;rw[Yl λq=>a (e.mp q).symm]at c;exact absurd ((ih x y p j f.1).an h c) a
def eB n:∀x y:D,okN n x=true->okN n y=true->aw x y=true->Fc2 ltD x y:=by
 induction n with
 |zero=>
  intro x y ox o c;refine kq c ?_;cases x<;>first|rfl|(simp[okN]at ox)
 |succ n ih=>
  intro x y ox o c;rcases bz c with⟨i,j,rfl,rfl⟩|⟨i,j,rfl,rfl⟩|⟨i,j,rfl,rfl⟩|⟨i,j,rfl,rfl,d1⟩
  iterate 3 exact kq c rfl
  ·have F:=EW ih i j (ck ox) (ck o) d1;refine⟨λh=>?_,λh a=>?_⟩
   ·rw[ltD]at h ⊢;exact F.as h
   ·rw[ltD]at h a;rw[F.an h a]
def Ge(ih:∀x y z:D,okN n x=true->okN n y=true->okN n z=true->aw x y=true->aw y z=true->aw x z=true->Fc3 ltD x y z) :
  ∀xs ys zs,(∀d∈xs,okN n d=true)->(∀d∈ys,okN n d=true)->(∀d∈zs,okN n d=true)->bc xs ys=true->bc ys zs=true->bc xs zs=true->Fc3 dS xs ys zs:=by
 intro xs;induction xs with
 |nil=>
  intro ys zs _ _ _ _ _ _ h c;cases ys<;>cases zs<;>simp_all [dS]
 |cons x xs o=>
  intro ys zs ox A w j m l h c;cases ys with
  |nil=>simp[dS]at h
  |cons y ys=>
   rw[bc,Yu]at j;have u:=ox x Ye;have s:=A y Ye;have i:=cE x y j.1;cases zs with
   |nil=>simp[dS]at c
   |cons z zs=>
    rw[bc,Yu]at m l;have C:=w z Ye;have f:=cE y z m.1;have e:=cE x z l.1;have F:=ih x y z u s C j.1 m.1 l.1;rw[dS]at h c ⊢;by_cases b:x=y
    ·rw[Yj<|i.mpr b]at h;by_cases a:y=z
     ·rw[Yj<|f.mpr a]at c;rw[Yj<|e.mpr<|b.trans a];exact o ys zs (λd g=>ox d<|Yd _ g) (λd g=>A d<|Yd _ g) (λd g=>w d<|Yd _ g) j.2 m.2 l.2 h c
     ·rw[Yl λq=>a<|f.mp q]at c;rw[Yl λq=>a<|b.symm.trans<|e.mp q];rwa[b]
    ·rw[Yl λq=>b<|i.mp q]at h;by_cases a:y=z
     ·rw[Yl λq=>b<|(e.mp q).trans a.symm];rwa[<-a]
     ·rw[Yl λq=>a<|f.mp q]at c;have p:=F h c;by_cases B:x=z
      ·subst B;have:=(eB n x y u s j.1).as h;rw[c]at this;cases this
      ·rwa[Yl λq=>B<|e.mp q]
def ze n:∀x y z:D,okN n x=true->okN n y=true->okN n z=true->aw x y=true->aw y z=true->aw x z=true->Fc3 ltD x y z:=by
 induction n with
 |zero=>
  intro x y z ox f o a c l;refine kX a c ?_;cases x<;>first|rfl|(simp[okN]at ox)
 |succ n ih=>
  intro x y z ox f o a c l;rcases bz a with⟨i,j,rfl,rfl⟩|⟨i,j,rfl,rfl⟩|⟨i,j,rfl,rfl⟩|⟨i,j,rfl,rfl,d1⟩
  iterate 3 exact kX a c rfl
  ·rcases bz c with⟨b,k,e,rfl⟩|⟨b,k,e,rfl⟩|⟨b,k,e,rfl⟩|⟨b,k,e,rfl,d2⟩<;>cases e;have F:=Ge ih i j k (ck ox) (ck f) (ck o) d1 d2 (by simpa[aw]using l);intro h g;exact F h g
noncomputable def Al(x:D):List D->List D
 |[]=>[x]
 |y::r=>if ltD x y=true then x::y::r else y::Al x r
def aU:List D->List D
 |[]=>[]
 |x::r=>Al x<|aU r
theorem k6 x:∀l:List D,(Al x l).Perm (x::l)
 |[]=>.refl _
 |y::r=>by
  unfold Al;split
  ·exact .refl _
  ·exact((k6 x r).cons y).trans<|.swap x y r
theorem a9:∀l:List D,(aU l).Perm l
 |[]=>.refl _
 |x::r=>(k6 x<|aU r).trans<|(a9 r).cons x
def Cmps(n:Nat)(ds:List D):Prop:=(∀d∈ds,okN n d=true)/\∀x∈ds,∀y∈ds,aw x y=true
def vC:∀{as bs},as.Perm bs->Cmps n as->as.Pairwise (λx y=>ltD y x=false)->bs.Pairwise (λx y=>ltD y x=false)->as=bs:=by
 intro as;induction as with
 |nil=>intro bs c _ _ _;exact(List.Perm.nil_eq c)
 |cons a as ih=>
  intro bs c f g p;cases bs with
  |nil=>exact absurd c.symm<|List.not_perm_nil_cons _ _
  |cons b bs=>
   have i:=c.mem_iff.mp Ye;have m:=c.mem_iff.mpr Ye;have e:a=b:=by
    rcases Yw.mp i with h|h
    ·exact h
    ·rcases Yw.mp m with h'|h'
     ·exact h'.symm
     ·have j:=(ZF.mp g).1 b h';have l:=(ZF.mp p).1 a h;exact(eB n a b (f.1 a Ye) (f.1 b m)<|f.2 a Ye b m).an l j
   subst e;rw[ih (List.Perm.cons_inv c) ⟨λd s=>f.1 d<|Yd _ s,λx q y o=>f.2 x (Yd _ q) y<|Yd _ o⟩ (ZF.mp g).2 (ZF.mp p).2]
def Cmps.perm(h:Cmps n as)(p:as.Perm bs):Cmps n bs:=⟨λd c=>h.1 d<|p.mem_iff.mpr c,λx b y a=>h.2 x (p.mem_iff.mpr b) y<|p.mem_iff.mpr a⟩
theorem lu{x}(ox:okN n x=true)(o:okN n y=true)(f:okN n z=true)(c:aw x y=true)(g:aw y z=true)(j:aw x z=true)(i:aw y x=true)(a:aw z y=true)(b:aw z x=true)
  (h1:ltD y x=false) (h2:ltD z y=false):ltD z x=false:=by
 cases q:ltD z x with
 |false=>rfl
 |true=>
  -- z<x
  by_cases h:ltD x y=true
  ·have:=ze n z x y f ox o b c a q h;rw[h2]at this;cases this
  ·have e:=(eB n x y ox o c).an (by simpa using h) h1;grind
theorem l9{x}:∀{l},Cmps n (x::l)->l.Pairwise (λa b=>ltD b a=false)->(Al x l).Pairwise (λa b=>ltD b a=false)
 |[],_,_=>List.pairwise_singleton _ _
 |y::r,hc,hp=>by
  have m:x∈x::y::r:=Ye;have c:y∈x::y::r:=Yd _ Ye;obtain⟨f,g⟩:=ZF.mp hp;unfold Al;split
  ·rename_i q;refine ZF.mpr ⟨λz hz=>?_,hp⟩;have h:=(eB n x y (hc.1 x m) (hc.1 y c)<|hc.2 x m y c).as q;rcases Yw.mp hz with rfl|hz
   ·exact h
   ·have e:z∈x::y::r:=Yd _<|Yd _ hz;exact lu (hc.1 x m) (hc.1 y c) (hc.1 z e) (hc.2 x m y c) (hc.2 y c z e) (hc.2 x m z e) (hc.2 y c x m) (hc.2 z e y c) (hc.2 z e x m) h<|f z hz
  ·rename_i q;refine ZF.mpr ⟨λz hz=>?_,l9 ⟨λd hd=>hc.1 d ?_,λa ha b hb=>hc.2 a ?_ b ?_⟩ g⟩
   ·rcases Yw.mp ((k6 x r).mem_iff.mp hz)with rfl|hz
    ·simpa using q
    ·exact f z hz
   all_goals
    first
     |(
      rcases Yw.mp hd with rfl|hd
      ·exact m
      ·exact Yd _<|Yd _ hd)
     |(
      rcases Yw.mp ha with rfl|ha
      ·exact m
      ·exact Yd _<|Yd _ ha)
     |(
      rcases Yw.mp hb with rfl|hb
      ·exact m
      ·exact Yd _<|Yd _ hb)
def Cmps.sub(h:Cmps n bs)(k:∀x∈as,x∈bs):Cmps n as:=⟨λd c=>h.1 d<|k d c,λx b y a=>h.2 x (k x b) y<|k y a⟩
theorem fB:∀{l},Cmps n l->(aU l).Pairwise (λa b=>ltD b a=false)
 |[],_=>.nil
 |x::r,hc=>l9 (hc.sub λy hy=>by
   rcases Yw.mp hy with rfl|hy
   ·exact Ye
   ·exact Yd _<|(a9 r).mem_iff.mp hy)<|fB<|hc.sub λy hy=>Yd _ hy
def pA(h:as.Perm bs)(a:Cmps n bs)(hs:as.Pairwise (λx y=>ltD y x=false)):as=aU bs:=
 vC (h.trans (a9 bs).symm) (a.perm h.symm) hs<|fB a
def h_(h:as.Perm bs)(a:Cmps n bs):aU as=aU bs:=
 pA ((a9 as).trans h) a<|fB<|a.perm h.symm
end L2
namespace L2
open PySem PySem.Spec PyProof.Rows
section
variable  {a:Expr}  
def uM{x}{i}(r:Rep K H x (.int i)):x=.int i:=by cases r;rfl
def pN{x}{i}(r:Rep K H x (.str i)):x=.str i:=by cases r;rfl
def yd{g}(e:∀F i j,Rep K F (g i j) (g' i j)):OpN2 K (rI0 g) (fI0 g'):=by
 intro P F H x y l f d Q h c b a k;unfold fI0 at h;split at h
 ·rename_i i j;cases h;exact⟨i,j,uM b,uM a,k _ F H (Evo.refl c)<|e F i j⟩
 ·cases h
def OpN2.or{r j}{f g:Dy}(h:OpN2 K r f)(h':OpN2 K j g):OpN2 K (λx y H Q=>r x y H Q\/j x y H Q) (λx y=>(f x y).or (g x y)):=by
 intro P F H x y c b d Q a l i e k;dsimp only at a;cases q:f c b with
 |some m=>rw[q]at a;have a:=Yv a;subst a;exact .inl<|h P F H x y c b _ Q q l i e k
 |none=>rw[q]at a;exact .inr<|h' P F H x y c b d Q a l i e k
noncomputable def leS:D->D->Option D
 |.str x,.str y=>some<|.bl<|!decide (y.cps.toList<x.cps.toList)
 |_,_=>none
def FU:R2:=λx y H Q=>∃i j,x=.str i/\y=.str j/\Q (.bl<|!decide (j.cps.toList<i.cps.toList)) H
def Am:OpR X (compareOp .LtE) FU:=by intro p s c H x y v u Q I b a h;obtain⟨i,j,rfl,rfl,q⟩:=h;obtain⟨t,rfl⟩:=b;obtain⟨e,rfl⟩:=a;exact PySem.P.le_str ⟨.bl _,H,I,rfl,q⟩
def Hd:OpN2 K FU leS:=by
 intro P F H x y f e d Q h c b a k;unfold leS at h;split at h
 ·cases h;exact⟨_,_,pN b,pN a,k _ F H (Evo.refl c) .bl⟩
 ·cases h
def leA(x y:D):Option D:=(leI x y).or<|leS x y
def pJ:OpR X (compareOp .LtE) (λx y H Q=>rI0 (λi j=>.bl (decide (i<=j))) x y H Q\/FU x y H Q):=G7.or Am
def oh:OpN2 K (λx y H Q=>rI0 (λi j=>.bl (decide (i<=j))) x y H Q\/FU x y H Q) leA:=(yd λ_ _ _=>.bl).or Hd
noncomputable def chD(f g:Dy)(fa fb fc:Dd):DF->Option D:=λa=>(fa a).bind λx=>(fb a).bind λy=>match f x y with
 |some (.bl true)=>(fc a).bind λz=>g y z
 |some (.bl false)=>some<|.bl false
 |_=>none
def oO{f g:Dy}(N:OpN2 K r f)(w:OpN2 K M g):∀σ H Q,tD K (chD f g fa fb fc) σ H Q->wC r M (tN K fa) (tN K fb) (tN K fc) σ H Q:=λσ H Q=>un7 λP F a d h I k=>by
 unfold chD at h;cases l:fa a with
 |none=>rw[l]at h;cases h
 |some s=>
 cases q:fb a with
 |none=>rw[l,Ya,q]at h;cases h
 |some o=>
 rw[l,Ya,q,Ya]at h;split at h
 ·rename_i c;cases A:fc a with
  |none=>rw[A]at h;cases h
  |some O=>
   rw[A,Ya]at h;refine⟨P,F,a,s,l,I,λx L Y i u=>⟨P,L,a,o,q,I.evo i,λy J C e p=>?_⟩⟩;refine N P J C x y s o _ _ c e.hp (u.same<|e.same i.hp) p λv E R m j=>?_;cases j;refine⟨true,rfl,?_⟩;rw[Yj rfl];have b:=(i.trans e).trans m;refine⟨P,E,a,O,A,I.evo b,λz F4 X B S=>?_⟩;exact w P F4 X y z o O d Q h B.hp ((p.same<|m.same e.hp).same<|B.same m.hp) S λv Z U T j=>k v Z U ((b.trans B).trans T) j
 ·rename_i c;cases h;refine⟨P,F,a,s,l,I,λx L Y i u=>⟨P,L,a,o,q,I.evo i,λy J C e p=>?_⟩⟩;refine N P J C x y s o _ _ c e.hp (u.same<|e.same i.hp) p λv E R m j=>?_;cases j;refine⟨false,rfl,?_⟩;rw[Yl Yk];exact k _ E R ((i.trans e).trans m) .bl
 ·cases h
def yu(g:PDN X a fa)(f:PDN X b fb)(e:PDN X c fc)(h:lastMarks [CmpOp.LtE,CmpOp.LtE] [b,c]=false:=by with_unfolding_all rfl):PDE X (.Compare a [.LtE,.LtE] [b,c] pos) (chD leA leA fa fb fc):=(vO pJ pJ g f e h).imp<|oO oh oh
def sX(g:PDN X a fa)(f:PDN X b fb)(e:PDN X c fc)(h:lastMarks [CmpOp.LtE,CmpOp.Lt] [b,c]=false:=by with_unfolding_all rfl):PDE X (.Compare a [.LtE,.Lt] [b,c] pos) (chD leA ltI fa fb fc):=(vO pJ KA g f e h).imp<|oO oh<|yd λ_ _ _=>.bl
def Er(g:PDN X a fa)(f:PDN X b fb)(e:PDN X c fc)(h:lastMarks [CmpOp.LtE,CmpOp.LtE] [b,c]=false:=by with_unfolding_all rfl):PDT X (.Compare a [.LtE,.LtE] [b,c] pos) (asB (chD leA leA fa fb fc)):=(A6 pJ pJ g f e h).imp<|kT<|oO oh oh
def HJ(K:Kq)(r:List V->Hp->VK->Prop)(f:D->Option D):Prop:=
 ∀P F H x a d Q,f a=some d->DHp P F H->Rep K H x a->(∀v c b,Evo P F H c b->Rep K c v d->Q v b)->r [x] H Q
def w4{f}(j:HJ K r f):∀σ H Q,tD K (d1 f fa) σ H Q->tCB r (oS (tN K fa) wc) σ H Q:=λσ H Q=>un7 λP F b d h I k=>by
 unfold d1 at h;cases a:fa b with
 |none=>rw[a]at h;cases h
 |some c=>
  rw[a,Ya]at h;exact⟨P,F,b,c,a,I,λx q o e g=>j P q o x c d Q h e.hp g λv p m l i=>k v p m (e.trans l) i⟩
def Ia:HJ K (Lp K) bF:=by
 intro P F H x e d Q a c b k;unfold bF at a;split at a
 ·cases a;cases b with|lst h1 h2=>exact .inl ⟨_,_,rfl,.inl h1,by rw[h2.length];exact k _ F H (Evo.refl c) .int⟩
 ·cases a;cases b with|tup h1 h2=>exact .inl ⟨_,_,rfl,.inr<|SqT.of h1,by rw[h2.length];exact k _ F H (Evo.refl c) .int⟩
 ·split at a
  ·rename_i h;cases a;exact .inr ⟨_,by rw[pN b],by rwa[YY],k _ F H (Evo.refl c) .int⟩
  ·cases a
 ·cases a
def cP(b:Gl X "len")(a:X.mg "len"=none)(c:PDN X e fa)(hs:starEach [e] X.env=[(false,eval e X.env)]:=by rfl)(h:(backTo pos (starEach [] X.env)).any (·.1)=false:=by rfl) :
  PDE X (.Call (.Name "len" p) [e] [] pos) (d1 bF fa):=
 (iL (sG.or sE) b a PySem.boot_len (aR c bK hs) (by decide) (by decide) hs h).imp<|w4 Ia
noncomputable def u6:D->Option D
 |.int i=>some<|.int i
 |.bl k=>some<|.int<|if k then 1 else 0
 |_=>none
def Ey:HJ K (λxs H Q=>(∃i,xs=[.int i]/\Q (.int i) H)\/∃k,xs=[.bl k]/\Q (.int (if k then 1 else 0)) H) u6:=by
 intro P F H x c d Q h b a k;unfold u6 at h;split at h
 ·cases h;cases a;exact .inl ⟨_,rfl,k _ F H (Evo.refl b) .int⟩
 ·cases h;cases a;exact .inr ⟨_,rfl,k _ F H (Evo.refl b) .int⟩
 ·cases h
def Dp:bootBuiltins "int"=some (.type "int"):=by rfl
def rR:bootBuiltins "list"=some (.type "list"):=by rfl
def wS:bootBuiltins "tuple"=some (.type "tuple"):=by rfl
def Di:bootBuiltins "set"=some (.type "set"):=by rfl
def gp:bootBuiltins "isinstance"=some (.builtin "isinstance"):=by rfl
def CP:bootBuiltins "all"=some (.builtin "all"):=by rfl
def Cz:bootBuiltins "min"=some (.builtin "min"):=by rfl
def l_:bootBuiltins "sorted"=some (.builtin "sorted"):=by rfl
def yU(a:Gl X "int")(h:X.mg "int"=none)(b:PDN X e fa)(hs:starEach [e] X.env=[(false,eval e X.env)]:=by rfl) :
  PDE X (.Call (.Name "int" p) [e] [] pos) (d1 u6 fa):=
 (eQ AU a h Dp (aR b bK hs) (he:=hs)).imp<|w4 Ey
def jO:D->Option D
 |.lst ds=>some<|.tup ds
 |.tup ds=>some<|.tup ds
 |_=>none
def JC:KL K (λxs H Q=>∃p ys,xs=[.ref p]/\((SqL K H p ys/\∀l,H l=none->Q (.ref l) (upd H l (.tup ys)))\/(SqT K H p ys/\Q (.ref p) H))) jO:=by
 intro P F H i g x j d Q h I a k;unfold jO at h;split at h
 ·cases h;obtain⟨p,f,rfl,b,c⟩:=eS I a;refine⟨p,f,rfl,.inl ⟨b,λl e=>?_⟩⟩;exact k _ _ _ (Evo.laid I.toDHp e)<|.tup aI<|c.same<|kI (I.toDHp.free e).1
 ·cases h;rcases a with a|⟨_,ob,_,_,_,_,_,hfl,z⟩
  ·cases a with|tup b c=>exact⟨_,_,rfl,.inr ⟨SqT.of<|I.sub _ _ b,k _ F H (Evo.refl I.toDHp)<|.tup b c⟩⟩
  ·cases ob<;>first|(cases z;done)|cases hfl
 ·cases h
def fW(a:Gl X "tuple")(h:X.mg "tuple"=none)(b:PDR X e fa)(hs:starEach [e] X.env=[(false,eval e X.env)]:=by rfl) :
  PDE X (.Call (.Name "tuple" p) [e] [] pos) (d1 jO fa):=
 (eQ qm a h wS (aR b bK hs) (he:=hs)).imp<|Iy JC
def iD(f:Dd):DF->Option (List D):=λρ=>(f ρ).bind e9
def iO(A:Gl X "list")(z:X.mg "list"=none)(c:PDR X e fa)(hs:starEach [e] X.env=[(false,eval e X.env)]:=by rfl) :
  PDO X (.Call (.Name "list" p) [e] [] pos) (asL<|iD fa):=
 (eQ r_ A z rR (aR c bK hs) (he:=hs)).imp λC H Q=>un7 λP F o E h I k=>by
  unfold asL iD at h;cases c:fa o with
  |none=>rw[c]at h;cases h
  |some m=>
   rw[c,Ya]at h;obtain⟨B,b,rfl⟩:=XU.mp h;refine⟨P,F,o,m,c,I,λx y w f s=>?_⟩;have u:=I.evo f;have fin:∀a,Reps X.K y a B->∀l,w l=none->Q _ (upd w l<|.lst a):=λa r l g=>
    k l y _ (f.trans<|Evo.side f.hp g) ⟨⟨f.back I.toDHp g,(f.hp.free g).1⟩,_,aI,r⟩
   cases m with
   |lst ds'=>
    cases b;obtain⟨q,a,rfl,j,i⟩:=eS u s;exact⟨q,a,rfl,.inl j,fin a i⟩
   |tup ds'=>
    cases b;obtain⟨q,a,rfl,j,i⟩:=kK u s;exact⟨q,a,rfl,.inr j,fin a i⟩
   |_=>cases b
def GU(K:Kq):R2:=λx y H Q=>∃l b a z,x=.ref l/\y=.ref b/\SqL K H l a/\SqL K H b z/\a.length+z.length<=sizeLine/\∀p,H p=none->Q (.ref p) (upd H p<|.lst<|a++z)
theorem GN:OpR X (binaryOp .Add) (GU X.K):=by
 intro pz s Y H x y v u Q I L J h;obtain⟨l,b,xs,Z,rfl,rfl,P,R,hz,q⟩:=h;cases L;cases J;obtain⟨a,r,N,_⟩:=I.list P;obtain⟨i,o,M,_⟩:=I.list R;obtain⟨⟨U,T,B,E⟩,n,p,A,O,z⟩:=N;obtain⟨⟨C,j,m,g⟩,n2,c,f,w,e⟩:=M;subst A z f e;have e1:=r.length;have e2:=o.length;refine concat_meets ⟨_,p,rfl⟩ ⟨_,c,rfl⟩ PySem.noFill_list_add PySem.seq_list_add PySem.F.slot_list_add PySem.F.entry_list_add (PySem.F.args_list_add_2 _ _) (list_addW l b a.toArray i.toArray n n2 T j E g<|by rw[YA,YA];lia) ⟨p,c,?_⟩;have S:a.toArray++i.toArray=(a++i).toArray:=by simp
 rw[S];exact⟨.ref _,_,I.lnew (r.append o)<|by rw[Yp];lia,rfl,q _ I.fresh⟩
noncomputable def gL(fa fb:Dd):DF->Option (List D):=λa=>match fa a,fb a with
 |some<|.lst xs,some (.lst ys)=>if xs.length+ys.length<=16777216 then some (xs++ys)else none
 |_,_=>none
def g5{fa fb:Dd}(K:PDR X a fa)(J:PDR X b fb):PDO X (.BinOp a .Add b pos) (asL (gL fa fb)):=(Kk GN K J).imp λR H Q=>un7 λP F c U h I k=>by
 unfold asL at h;cases q:gL fa fb c with
 |none=>rw[q]at h;cases h
 |some B=>
 rw[q]at h;cases h;unfold gL at q;split at q
 ·rename_i T S A z;split at q
  ·rename_i E;cases q;refine⟨P,F,c,_,A,I,λx O Z j Pd=>⟨P,O,c,_,z,I.evo j,λy N Y i w=>?_⟩⟩;have s:=(I.evo j).evo i;obtain⟨l,u,rfl,M,o⟩:=eS s<|Pd.evo i;obtain⟨C,f,rfl,L,m⟩:=eS s w;refine⟨l,C,u,f,rfl,rfl,M,L,by rwa[o.length,m.length,YY],λp g=>?_⟩;have e:=j.trans i;exact k p N _ (e.trans<|Evo.side e.hp g) ⟨⟨e.back I.toDHp g,(e.hp.free g).1⟩,_,aI,o.append m⟩
  ·cases q
 ·cases q
end
def spM(K:Kq)(f:Dz):Sp:=λi H Q _=>∃P F a b o x e d,i=.ref a::b/\f o x=some (e,d)/\DHp P F H/\F a=none/\P a=none/\o.flat=true/\(∃u,H a=some u/\ORep1 K F o u)/\DVs K P F H x b /\
 ∀v c g,Same F c->DHp P c g->c a=none->(∃h,g a=some h/\ORep1 K c e h)->e.flat=true->Rep K c v d->Q v g
def mC(a:Addr)(o':OD)(d:D):RES->Prop
 |.nx ρ=>ρ[0]?=some (some<|.own o'<|some a)/\d=.non
 |.rt x ρ=>x=.v d/\ρ[0]?=some (some<|.own o'<|some a)
 |_=>False
def DInv.startM{o}N p(h:DHp P F H)(q:F a=none)(j:P a=none)(fl:o.flat=true)(l:∃u,H a=some u/\ORep1 K F o u)(r:DVs K P F H xs vs)(m:xs.length+1=p) :
  DInv K P F H (aH N.length p (.own o (some a)::xs)) (L2.start N (.ref a::vs)):=by
 refine⟨h,?_,λb=>if b=a then some 0 else none,λi x e=>?_⟩
 ·unfold aH L2.start;rw[Yp,Yp,Yc,Yc,YL,YL,Yt,Yt,<-r.length,m]
 ·have g:=ip e;cases i with
  |zero=>
   cases g;refine⟨.ref a,eP rfl,a,rfl,(ORep.flat fl).mpr ⟨⟨q,j,Yj rfl⟩,l⟩,λb z=>by cases z;rfl⟩
  |succ i=>
   obtain⟨c,v,s,f⟩:=r.get g;refine⟨v,eP<|by simpa using s,?_⟩;cases x with
   |own o t=>cases c
   |v d=>exact f
   |bor o=>exact f
def Fun.okM{P}{m}(F:Fun K x qual st f fd)(S:FnScope N ps (defScope st))
  (T:∀a o xs o' d,m o xs=some (o',d)->xs.length+1=ps.length/\o'.flat=true/\∃r,g (aH N.length ps.length (.own o (some a)::xs))=some r/\mC a o' d r)
  (j:∀cdv A outer s H E,Room k (A.deeper<|envOfC qual (defScope st) s.heap.objs.size f cdv)->
   PDS (gA CX0 P w K mg base N qual (defScope st) f cdv A outer s H E).nox (defBody st) g):FnOk P w K mg base CX0 (k+1) f fd ps (spM K m):=by
 refine F.ok S (λU H Q E L=>?_) λcdv A outer s H U Q E hr h=>?_
 ·obtain⟨O,R,a,B,o,xs,o',d,e,M,_,_,_,_,_,J,_⟩:=L;rw[e,Yt,<-J.length];exact(T 0 o xs o' d M).1
 ·refine⟨_,j cdv A outer s H E hr,?_⟩;obtain⟨O,R,a,B,o,xs,o',d,rfl,M,hp,hf,hP,fl,ho,J,hQ⟩:=h;obtain⟨hl,y,r,hg,z⟩:=T a o xs o' d M;have I:=DInv.startM N ps.length hp hf hP fl ho J hl;refine⟨O,R,_,r,hg,I,?_⟩;have fin:∀b l c i v,b[0]?=some (some<|.own o'<|some a)->Same R c->DInv K O c i b l->Rep K c v d->Q v i:=λb l c i v q e p C=>by
   obtain⟨v',_,a',rfl,h3,h4⟩:=p.at q;have ea:=h4 a rfl;subst ea;obtain⟨⟨Z,q2,_⟩,u,Y,X⟩:=(ORep.flat y).mp h3;exact hQ v c i e p.toDHp Z ⟨u,Y,X⟩ y C
  cases r with
  |nx b=>(obtain⟨q,rfl⟩:=z;exact λl c i e p=>fin b l c i .non q e p .non)
  |rt x b=>(obtain⟨rfl,q⟩:=z;exact λv l c i e p C=>fin b l c i v q e p C)
  |bk b=>exact z.elim
  |ct b=>exact z.elim
def gdx(F H:Hp)(a:Addr):Hp:=λb=>if b=a then none else gd F H b
def tE{b}{o}:gdx F H a b=some o↔b≠a/\F b=none/\H b=some o:=by
 unfold gdx;by_cases h:b=a
 ·rw[Yj h];simp[h]
 ·rw[Yl h,iS];simp[h]
def Iz(s:Same F H)a:DHp (gdx F H a) F H:=⟨s,λb o e=>(tE.mp e).2.2,λb o e=>(tE.mp e).2.1⟩
def ArgsS.dvx(I:DInv K P F H ρ σ){o}{t}(hi:ρ[i]?=some (some (.own o t)))(hs:σ[i]?=some (some (.ref a)))(fl:o.flat=true):∀{xs}{vs},ArgsS K ρ σ F xs vs->(∀x∈xs,∃d,x=.v d)->DVs K (gdx F H a) F H xs vs:=by
 intro xs vs h;induction h with
 |nil=>exact λ_=>.nil
 |v h _ ih=>exact λc=>.cons rfl h<|ih λx m=>c x<|Yd _ m
 |b j h1 h2 _ ih=>
  intro c;simp_all
def El(xs:List DV):Bool:=xs.all λx=>match x with
 |.v _=>true
 |_=>false
theorem IA(h:El xs=true):∀x∈xs,∃d,x=.v d:=λx m=>by
 have:=Yi.mp h x m;grind
noncomputable def t7(K:Kq)(i:Nat)(m:Dz)(g:Dv):DF->Option (DF×D):=λa=>match a[i]? with
 |some (some<|.own o t)=>if o.flat=true then(g a).bind λx=>if El x=true then(m o x).map λr=>(a.set i<|some<|.own r.1 t,r.2)else none else none
 |_=>none
def iZ(K:Kq)(i:Nat)(m:Dz)(g:Dv):DF->Option RES:=λa=>(t7 K i m g a).map λr=>.nx r.1
def wW{o}(I:DInv K P F1 H1 ρ σ)(hi:ρ[i]?=some (some (.own o t)))(hs:σ[i]?=some (some (.ref a)))(fl:o.flat=true)(x:o'.flat=true)
  (e2:Same F1 F2) (h:DHp (gdx F1 H1 a) F2 H2) (f2:F2 a=none) (N:∃B,H2 a=some B/\ORep1 K F2 o' B):DInv K P F2 H2 (ρ.set i<|some<|.own o' t) σ:=by
 obtain⟨O,C⟩:=I.rep;obtain⟨v,E,b,rfl,R,M⟩:=C i _ hi;rw[hs]at E;cases E;obtain⟨⟨U,l,g⟩,u,T,_⟩:=(ORep.flat fl).mp R;have keep:∀b u,b≠a->F1 b=none->H1 b=some u->H2 b=some u/\F2 b=none:=λb u f n q=>⟨h.pro b u<|tE.mpr ⟨f,n,q⟩,h.dis b u<|tE.mpr ⟨f,n,q⟩⟩
 refine⟨⟨h.sub,λb u q=>(keep b u (λz=>by subst z;rw[l]at q;cases q) (I.dis b u q)<|I.pro b u q).1,λb u q=>(keep b u (λz=>by subst z;rw[l]at q;cases q) (I.dis b u q)<|I.pro b u q).2⟩,by rw[Zz];exact I.len,O,λj z Q=>?_⟩;rcases fm Q with⟨rfl,e,X⟩|⟨s,p⟩
 ·cases e;exact⟨_,hs,a,rfl,(ORep.flat x).mpr ⟨⟨f2,l,g⟩,N⟩,M⟩
 ·obtain⟨w,S,A⟩:=C j z p;refine⟨w,S,?_⟩;cases z with
  |v d'=>exact Rep.same e2 A
  |own od t'=>
   obtain⟨c,rfl,y,m⟩:=A;refine⟨c,rfl,y.mono e2 λb H q f=>?_,m⟩;obtain⟨L,J⟩:=keep b H (λz=>by subst z;rw[q.2.2]at g;exact s (Yv g).symm) q.1 f;exact⟨L,J,q.2⟩
  |bor od=>(obtain⟨c,rfl,y⟩:=A;exact⟨c,rfl,y.mono e2 λb u q f=>⟨f,q⟩⟩)
section
variable  {k:Nat}    {m:Dm}      {g:Dv}
def uY i(G:FnOk X.prog X.w X.K X.mg X.base CX0 k f fd ps (spM X.K mM))(h:Room k X.A)(hg:Gl X x)(Z:X.mg x=some (.ref f))(hk:PySem.W.keepIn X.K (.ref f)=true)(hb:Binds X.K fd ps [])(h0:PE X e (eD i))(ha:jL X es g)
  (hd:nDb x:=by decide) (he:starEach (e::es) X.env=(false,eval e X.env)::starEach es X.env:=by rfl) (y:(backTo pos<|starEach es X.env).any (·.1)=false:=by rfl) (s:swapsWith (.Call (.Name x p) (e::es) [] pos) none spos.line X.env=pure false:=by rfl) :
  PD1 X (.Expr (.Call (.Name x p) (e::es) [] pos) spos) (iZ X.K i mM g):=
 PS.imp (ib (nu G h hg Z hk hb .nil jV (aR h0 ha he) hd he y) s) λE Q H=>un7 λP F L r h I k=>by
  unfold iZ t7 at h;split at h
  ·rename_i M t q;split at h
   ·rename_i c;cases o:g L with
    |none=>rw[o]at h;cases h
    |some l=>
     rw[o,Ya]at h;split at h
     ·rename_i av;cases m:mM M l with
      |none=>rw[m]at h;cases h
      |some b=>
       rw[m]at h;cases h;obtain⟨v,B,a,rfl,h2,h3⟩:=I.at q;obtain⟨⟨a1,a2,_⟩,u,a3,a4⟩:=(ORep.flat c).mp h2;refine⟨_,B,P,F,L,l,o,I,λR O H1 j S=>?_⟩;have J:=I.evo j;obtain⟨U,T⟩:=j.keep a u a3 a1;refine⟨gdx O H1 a,O,a,R,M,l,b.1,b.2,by simp,m,Iz J.sub a,T,by unfold gdx;rw[Yj rfl],c,⟨u,U,a4.same j.ext⟩,S.dvx J q B c<|IA av,λv F2 H2 N z f2 Y C rv=>?_⟩;exact k Q F2 H2 (j.ext.trans N)<|wW J q B c C N z f2 Y
     ·cases h
   ·cases h
  ·cases h
def RepsF.look{vs}{ds}(h:RepsF K H vs ds):ds.lookup n=some d->∃v,vs.lookup n=some v/\Rep K H v d:=
 RepsF.ind (M:=λvs ds=>ds.lookup n=some d->∃v,vs.lookup n=some v/\Rep K H v d) (λe=>by cases e) (λh _ ih e=>by
  rw[aW]at e ⊢;split at e
  ·rename_i q;cases e;rw[Yj q];exact⟨_,rfl,h⟩
  ·rename_i q;rw[Yl q];exact ih e) h
def RepsF.no{vs}{ds}(h:RepsF K H vs ds):ds.lookup n=none->vs.lookup n=none:=
 RepsF.ind (M:=λvs ds=>ds.lookup n=none->vs.lookup n=none) (λ_=>rfl) (λ_ _ ih e=>by
  rw[aW]at e ⊢;split at e
  ·cases e
  ·rename_i q;rw[Yl q];exact ih e) h
def gC(C:Addr)(n:Str):D->Option D
 |.ins C' fs=>if C'=C then fs.lookup n else none
 |_=>none
def gB(c:Cls X.K C)(o:NoAttr X.K C n)(h:PDR X e fa)(p:attributeBase e n X.env (eval e X.env)=eval e X.env:=by rfl):PDE X (.Attribute e n pos) (d1 (gC C n) fa):=
 (w9 h p).imp λE H Q=>un7 λP F i d f I k=>by
  obtain⟨g,q,f⟩:=YE.mp f;refine⟨P,F,i,g,q,I,λy B A j m=>?_⟩;cases g with
  |ins C' fs=>
   have b:(if C'=C then fs.lookup n else none)=some d:=f;split at b
   ·rename_i s;subst s;obtain⟨a,g,l,rfl,z,x⟩:=uk (I.evo j) m;obtain⟨v,w,u⟩:=x.look b;exact⟨a,C',g,l,v,rfl,z,c,o,w,k v B A j u⟩
   ·cases b
  |_=>cases f
noncomputable def oP(f:Str)(v:D):List (Str×D)->List (Str×D)
 |[]=>[(f,v)]
 |(g,x)::r=>if g=f then(g,v)::r else(g,x)::oP f v r
def RepsF.put(a:Rep K H v d){vs}{ds}(h:RepsF K H vs ds):RepsF K H (d_ n v vs) (oP n d ds):=
 RepsF.ind (M:=λvs ds=>RepsF K H (d_ n v vs)<|oP n d ds) (.cons a .nil) (λ{k _ _ _ _} h r ih=>by
  unfold d_ oP;by_cases q:k=n
  ·rw[Yj q,Yj q];exact .cons a r
  ·rw[Yl q,Yl q];exact .cons h ih) h
def RepsF.length{vs}{ds}(h:RepsF K H vs ds):vs.length=ds.length:=RepsF.ind (M:=λvs ds=>vs.length=ds.length) rfl (λ_ _ ih=>YR Nat.succ ih) h
noncomputable def qz(C:Addr)(i:Nat)(n:Str)(fv:Dd):DF->Option RES:=λa=>match a[i]? with
 |some (some<|.own (.ins C' fs) t)=>if C'=C then(fv a).bind λd=>if fs.length<1000 then some (.nx<|a.set i<|some<|.own (.ins C<|oP n d fs) t)else none else none
 |_=>none
def uq i(c:Cls X.K C)(w:NoAttr X.K C n)(s:PE X o (eD i))(hv:PDE X value fv)(hs:swapsWith value (some (.Attribute o n pos')) pos.line X.env=pure false:=by rfl) :
  PD1 X (.Assign [.Attribute o n pos'] value pos) (qz C i n fv):=PS.imp (tK s hv hs) λE m H=>un7 λP F j r h I k=>by
 unfold qz at h;split at h
 ·rename_i g fs t q;split at h
  ·rename_i z;subst z;cases f:fv j with
   |none=>rw[f]at h;cases h
   |some d=>
    rw[f,Ya]at h;split at h
    ·rename_i x;cases h;obtain⟨v,l,a,rfl,⟨⟨B,L,_⟩,u,A,b⟩,_⟩:=I.at q;cases u with
     |ins C'' dx vs=>
      obtain⟨rfl,b⟩:=b;refine⟨P,F,j,d,f,I,λy J M e p=>⟨_,l,a,g,dx,vs,rfl,(e.keep a _ A B).1,c,w,by rwa[b.length],k m J _ e.ext ?_⟩⟩;exact(I.evo e).mut q rfl rfl l ⟨rfl,(RepsF.same e.ext b).put p⟩
     |_=>exact b.elim
    ·cases h
  ·cases h
 ·cases h
noncomputable def yt(C:Addr):DV->Option (List (Str×D))
 |.v (.ins C' fs)=>if C'=C then some fs else none
 |.bor (.ins C' fs)=>if C'=C then some fs else none
 |.bor (.obj (some C') fs)=>if C'=C then some (fs.map λp=>(p.1,p.2.dat))else none
 |_=>none
def mS(C:Addr)(mn:Str):List DV->Bool
 |x::_=>match yt C x with
  |some fs=>(fs.lookup mn).isNone
  |none=>false
 |[]=>false
def bJ(C:Addr)(mn:Str)(m:Dm)(g:Dv):DF->Option D:=λa=>(g a).bind λx=>if mS C mn x=true then(m x).bind dvD else none
end
def DVs.heap(h:DVs K P F H xs vs):DVs K P F H' xs vs:=by
 induction h with
 |nil=>exact .nil
 |@cons x _ _ _ h r _ ih=>
  refine .cons h ?_ ih;cases x with
  |v d=>exact r
  |bor o=>exact r
  |own o t=>cases h
noncomputable def cD(i:Nat):DF->Option DV:=λa=>match a[i]? with
 |some (some<|.own o _)=>some<|.bor o
 |some (some<|.bor o)=>some<|.bor o
 |some (some<|.v d)=>some<|.v d
 |_=>none
noncomputable def b_(s:DF->Option DV)(g:Dv):DF->Option (List DV):=λa=>(s a).bind λx=>(g a).map λb=>x::b
def g0:DF->Option (List DV):=λ_=>some []
def Self1(K:Kq)(ρ:DF)(σ:St)(F:Hp)(x:DV)(v:V):Prop:=ArgsS K ρ σ F [x] [v]
def Self1.cons{x}(h:Self1 K ρ σ F x v)(e:Same F F')(r:ArgsS K ρ σ F' xs vs):ArgsS K ρ σ F' (x::xs) (v::vs):=by
 cases h with
 |v h _=>exact .v (h.same e) r
 |b i h1 h2 _=>exact .b i h1 h2 r
theorem Ev{vs}(h:All2 (λp (q:Str×FO)=>p.1=q.1/\FRep K F H ow q.2 p.2) vs fs):(fs.map λp=>(p.1,p.2.dat)).lookup n=none->vs.lookup n=none:=by
 induction h with
 |nil=>exact λ_=>rfl
 |@cons p q _ _ h _ ih=>
  obtain⟨y,o⟩:=q;grind
def Self1.ins{x}(I:DInv K P F H ρ σ)(h:Self1 K ρ σ F x v)(hi:yt C x=some fs):∃a dx vs,v=.ref a/\H a=some (.ins C dx vs)/\∀n,fs.lookup n=none->vs.lookup n=none:=by
 cases h with
 |@v d _ _ _ h _=>
  cases d with
  |ins j fs'=>
   have c:(if j=C then some fs' else none)=some fs:=hi;split at c
   ·rename_i g;subst g;cases c;obtain⟨a,dx,vs,f,e,l⟩:=uk I<|.inl h;exact⟨a,dx,vs,f,e,λn=>l.no⟩
   ·cases c
  |_=>cases hi
 |@b o _ _ _ i f e _=>
  cases o with
  |ins j fs'=>
   have c:(if j=C then some fs' else none)=some fs:=hi;split at c
   ·rename_i g;subst g;cases c;obtain⟨a,dx,vs,f,e,l⟩:=uk I<|RepS.slot I f e rfl;exact⟨a,dx,vs,f,e,λn=>l.no⟩
   ·cases c
  |obj C0 fs'=>
   cases C0 with
   |none=>cases hi
   |some j=>
   have c:(if j=C then some (fs'.map λp=>(p.1,p.2.dat))else none)=some fs:=hi;split at c
   ·rename_i g;subst g;cases c;obtain⟨a,rfl,_,dx,vs,m,_,q⟩:=I.slot f e;exact⟨a,dx,vs,rfl,m,λn=>Ev q⟩
   ·cases c
  |_=>cases hi
def Da(K:Kq)(s:DF->Option DV):TE:=λb H Q=>∃P F a x,s a=some x/\DInv K P F H a b/\∀v e c,Evo P F H e c->Self1 K a b e x v->Q v c
def rY(X:Cx)(e:Expr)(s:DF->Option DV):Prop:=PE X e<|Da X.K s
section
variable  {k:Nat}    {m:Dm}      {g:Dv}{s:DF->Option DV}
def Gx i(h:PE X e (eD i)):rY X e (cD i):=PE.imp h λg H Q=>un7 λP F j x c I k=>by
 unfold cD at c;split at c
 ·rename_i o t q;cases c;let⟨v,a,_⟩:=I.at q;exact⟨v,a,k v F H (Evo.refl I.toDHp)<|.b i a (.inl ⟨t,q⟩) .nil⟩
 ·rename_i o q;cases c;let⟨v,a,_⟩:=I.at q;exact⟨v,a,k v F H (Evo.refl I.toDHp)<|.b i a (.inr q) .nil⟩
 ·rename_i d q;cases c;let⟨v,a,f⟩:=I.at q;exact⟨v,a,k v F H (Evo.refl I.toDHp)<|.v f .nil⟩
 ·cases c
def xH{x}(h:mS C mn (x::xs)=true):∃fs,yt C x=some fs/\fs.lookup mn=none:=by
 unfold mS at h;cases q:yt C x with
 |none=>simp[q]at h
 |some fs=>exact⟨fs,rfl,by simpa[q]using h⟩
def A5{E}{Q}{F}{y}(h:b_ s g ρ=some xs)(hs:mS C mn xs=true)(A:m xs=some y)(I:DInv K P F H ρ σ)
  (k:∀v F1 H1 F2 H2,Evo P F H F1 H1->Same F1 F2->DHp (gd F1 H1) F2 H2->DVRep K (gd F1 H1) F2 H2 vP y v->Q v H2):uE C mn (spD K m) [] E (Da K s) (tLV K g) σ H Q:=by
 unfold b_ at h;cases q:s ρ with
 |none=>rw[q]at h;cases h
 |some x=>
  rw[q,Ya]at h;cases b:g ρ with
  |none=>rw[b]at h;cases h
  |some i=>
   rw[b]at h;cases h;obtain⟨fs,J,B⟩:=xH hs;refine⟨P,F,ρ,x,q,I,λv F1 H1 l j=>?_⟩;have f:=I.evo l;obtain⟨a,O,p,rfl,M,L⟩:=j.ins f J;refine⟨a,O,p,rfl,M,L _ B,P,F1,ρ,i,b,f,λT F2 H2 e z=>?_⟩;have o:=f.evo e;refine⟨gd F2 H2,F2,x::i,y,A,gJ o.sub,by rw[YZ];exact(j.cons e.ext z).dvs o,λw S R N c u=>k w F2 H2 S R (l.trans e) N c u⟩
def yn{E}:∀σ H Q,tD K (bJ C mn m (b_ s g)) σ H Q->uE C mn (spD K m) [] E (Da K s) (tLV K g) σ H Q:=λσ H Q=>un7 λP F B d h I k=>by
 unfold bJ at h;cases q:b_ s g B with
 |none=>rw[q]at h;cases h
 |some J=>
  rw[q,Ya]at h;split at h
  ·rename_i L;cases c:m J with
   |none=>rw[c]at h;cases h
   |some y=>
    rw[c,Ya]at h;refine A5 q L c I λv O A l j i x e p=>?_;have z:=I.evo i;have w:=z.toDHp.gd x e;cases y with
    |v d'=>cases h;exact k v l j (i.trans w) p
    |own o t=>
     cases h;obtain⟨a,rfl,M,_⟩:=p;have f:=nv x M;exact k _ _ j (i.trans<|w.freeze z.toDHp _ λ_ q=>q)<|f.rep (cS λb q=>q.2) λb u q N=>by rwa[gc q]
    |bor o=>cases h
  ·cases h
def np{pl}(he:rY X o s)(c:Cls X.K C)(l:Meth X.K C mn f)(G:FnOk X.prog X.w X.K X.mg X.base CX0 k f fd ps (spD X.K m))(j:Room k X.A)(p:Binds X.K fd ps [])(q:jL X (e::es) g)
  (h:starEach (e::es) X.env=(false,eval e X.env)::starEach es X.env:=by rfl) (a:(backTo pos<|starEach es X.env).any (·.1)=false:=by rfl)
  (i:eval (.Call (.Attribute o mn apos) (e::es) [] pos) X.env=(do
   let b <-eval o X.env
   standAt apos.atName
   let (f,first) <-holding [b]<|getMethod b mn pl
   callWith pos f first (backTo pos<|starEach (e::es) X.env)<|backToKw pos<|keywordEach [] X.env):=by rfl):PDE X (.Call (.Attribute o mn apos) (e::es) [] pos) (bJ C mn m<|b_ s g):=
 (zc he c l G j p .nil jV q h a i).imp yn
def vg{pl}(he:rY X o s)(c:Cls X.K C)(y:Meth X.K C mn f)(G:FnOk X.prog X.w X.K X.mg X.base CX0 k f fd ps (spD X.K m))(u:Room k X.A)(z:Binds X.K fd ps [])
  (q:eval (.Call (.Attribute o mn apos) [] [] pos) X.env=(do
   let b <-eval o X.env
   standAt apos.atName
   let (f,first) <-holding [b]<|getMethod b mn pl
   callWith pos f first (backTo pos<|starEach [] X.env)<|backToKw pos<|keywordEach [] X.env):=by rfl):PDE X (.Call (.Attribute o mn apos) [] [] pos) (bJ C mn m<|b_ s g0):=
 (A7 he c y G u z .nil jV q).imp λg H Q h=>by
  have:=yn (E:=E0) g H Q h;obtain⟨P,F,j,x,L,J,I⟩:=this;refine⟨P,F,j,x,L,J,λv U e N r=>?_⟩;obtain⟨a,R,fs,M,O,l,Z,T,i,Y,p,S,B⟩:=I v U e N r;cases p;exact⟨a,R,fs,M,O,l,B [] T e (Evo.refl S.toDHp) .nil⟩
noncomputable def lY(C:Addr)(mM:Dz)(g:Dv):DF->Option OD:=λa=>(g a).bind λx=>match mM (.ins C []) x with
 |some (o',.non)=>if o'.flat=true then some o' else none
 |_=>none
def BO(M:Mk X.K C f)(G:FnOk X.prog X.w X.K X.mg X.base CX0 k f fd ps (spM X.K mM))(U:Room (k+1) X.A)(hg:Gl X x)(hm:X.mg x=some (.ref C))(hb:Binds X.K fd ps [])(ha:jL X (e::es) g)
  (m:nDb x:=by decide) (he:starEach (e::es) X.env=(false,eval e X.env)::starEach es X.env:=by rfl) (i:(backTo pos<|starEach es X.env).any (·.1)=false:=by rfl):PDO X (.Call (.Name x p) (e::es) [] pos) (lY C mM g):=
 (yy M G U hg hm hb .nil jV ha m he i).imp λσ H Q=>un7 λP F B T h I k=>by
  obtain⟨E,q,h⟩:=YE.mp h;split at h
  ·rename_i o' S;split at h
   ·rename_i fl;cases h;refine⟨P,F,B,E,q,I,λN L s o R y J c l Z=>?_⟩;have a:=I.evo o;have sm:Same s (upd (upd s J<|.own y) y<|.ins C J []):=λb u z=>by rwa[aD<|bn z c,aD<|bn z l]
    refine⟨gd L s,L,y,N,.ins C [],E,T,.non,by simp,S,⟨a.sub.trans sm,λb u z=>sm b u<|(gJ a.sub).pro b u z,(gJ a.sub).dis⟩,a.sub.free c,(gJ a.sub).pro.free c,rfl,⟨_,aI,rfl,.nil⟩,(R.dvs a).heap,λv F2 H2 e2 j f2 Y fl' O=>?_⟩;cases O;exact⟨rfl,k y F2 H2 (o.trans<|a.toDHp.gd e2 j)<|(ORep.flat fl).mpr ⟨⟨o.back I.toDHp c,f2⟩,Y⟩⟩
   ·cases h
  ·cases h
end
section
variable{κ:Type} [DecidableEq κ]
noncomputable def dn(kvs:List (κ×D))(k:κ):Option D:=(kvs.find? λa=>decide<|a.1=k).map (·.2)
noncomputable def e7(kvs:List (κ×D))(k:κ)(v:D):List (κ×D):=
 if(kvs.any λa=>decide<|a.1=k)=true then kvs.map (λa=>if a.1=k then(a.1,v)else a)else kvs++[(k,v)]
end
theorem zY{k k'}{vs:List (List Key×V)}:eK ((k',v)::vs) k=if k'=k then some v else eK vs k:=by unfold eK;grind
theorem cw[DecidableEq κ]{k k'}{vs:List (κ×D)}:dn ((k',v)::vs) k=if k'=k then some v else dn vs k:=by unfold dn;grind
def RepsT.val{vs}{ds}(h:RepsT K H vs ds):(eK vs k=none/\dn ds k=none)\/∃v d,eK vs k=some v/\dn ds k=some d/\Rep K H v d:=
 RepsT.ind (M:=λvs ds=>(eK vs k=none/\dn ds k=none)\/∃v d,eK vs k=some v/\dn ds k=some d/\Rep K H v d) (.inl ⟨rfl,rfl⟩) (λ{a v d vs ds} h _ ih=>by
  rw[zY,cw];by_cases q:a=k
  ·rw[Yj q,Yj q];exact .inr ⟨v,d,rfl,rfl,h⟩
  ·rwa[Yl q,Yl q]) h
def RepsT.any{vs}{ds}(h:RepsT K H vs ds):(vs.any λa=>decide (a.1=k))=ds.any λa=>decide (a.1=k):=
 RepsT.ind (M:=λvs ds=>(vs.any λa=>decide<|a.1=k)=ds.any λa=>decide<|a.1=k) rfl (λ_ _ ih=>by rw[XI,XI,ih]) h
def RepsT.map(f:Rep K H v d){vs}{ds}(h:RepsT K H vs ds):RepsT K H (vs.map λa=>if a.1=k then(a.1,v)else a) (ds.map λa=>if a.1=k then(a.1,d)else a):=
 RepsT.ind (M:=λvs ds=>RepsT K H (vs.map λa=>if a.1=k then(a.1,v)else a)<|ds.map λa=>if a.1=k then(a.1,d)else a) .nil (λ{b c e vs ds} h _ ih=>by
  rw[YH,YH];by_cases q:b=k
  ·rw[Yj<|show(b,c).1=k from q,Yj<|show(b,e).1=k from q];exact .cons f ih
  ·rw[Yl<|show ¬(b,c).1=k from q,Yl<|show ¬(b,e).1=k from q];exact .cons h ih) h
def RepsT.snoc(a:Rep K H v d){vs}{ds}(h:RepsT K H vs ds):RepsT K H (vs++[(k,v)]) (ds++[(k,d)]):=
 RepsT.ind (M:=λvs ds=>RepsT K H (vs++[(k,v)])<|ds++[(k,d)]) (.cons a .nil) (λh _ ih=>.cons h ih) h
def RepsT.put{vs}{ds}(a:Rep K H v d)(r:RepsT K H vs ds):RepsT K H (h9 vs k v) (e7 ds k d):=by
 unfold h9 e7;rw[r.any];split
 ·exact r.map a
 ·exact r.snoc a
def RepsT.length{vs}{ds}(h:RepsT K H vs ds):vs.length=ds.length:=RepsT.ind (M:=λvs ds=>vs.length=ds.length) rfl (λ_ _ ih=>YR Nat.succ ih) h
noncomputable def iP:D->Option Key
 |.int i=>some<|.inl i
 |.str x=>some<|.inr x
 |_=>none
noncomputable def gI:List D->Option (List Key)
 |[]=>some []
 |d::ds=>(iP d).bind λk=>(gI ds).map λr=>k::r
def j5:D->Option (List Key)
 |.tup ds=>gI ds
 |_=>none
def Reps.keys{ks}(h:Reps K H vs ds):gI ds=some ks->vs=ks.map kV:=
 Reps.ind (M:=λvs ds=>∀ks:List Key,gI ds=some ks->vs=ks.map kV) (λks e=>by cases e;rfl) (λ{v d vs ds} h _ ih ks e=>by
  obtain⟨k,q,e⟩:=YE.mp e;obtain⟨b,a,rfl⟩:=XU.mp e;rw[ih _ a,YH];cases d with
  |int i=>cases q;cases h;rfl
  |str i=>cases q;cases h;rfl
  |_=>cases q) h ks
def tH{y}{ks}(a:DHp P F H)(r:Rep K F y dy)(h:j5 dy=some ks):∃b,y=.ref b/\H b=some (.tup (ks.map kV)):=by
 cases dy with
 |tup ds=>cases r with|tup h1 h2=>exact⟨_,rfl,by rw[a.sub _ _ h1,h2.keys h]⟩
 |_=>cases h
section
variable  {a i f:Expr}  {fd fk:Dd}
noncomputable def kH(fd fk fx:Dd):DF->Option D:=λa=>match fd a with
 |some (.dT kvs)=>(fk a).bind λy=>(j5 y).bind λk=>(fx a).map λx=>(dn kvs k).getD x
 |_=>none
theorem vU(hu:X.A.units+64<cLine)(ho:PDR X o fd)(hi:PDE X e fk)(hx:PDE X f fx)(m:M2 X o "get" apos e f cpos:=by exact⟨rfl,rfl,rfl,rfl⟩):PDE X (.Call (.Attribute o "get" apos) [e,f] [] cpos) (kH fd fk fx):=(BH (by lia) ho hi hx m).imp λσ H Q=>un7 λP F b d h I k=>by
 unfold kH at h;split at h
 ·rename_i c Z;obtain⟨dy,C,h⟩:=YE.mp h;obtain⟨E,B,h⟩:=YE.mp h;cases w:fx b with
 |none=>rw[w]at h;cases h
 |some N=>
  rw[w]at h;cases h;refine⟨P,F,b,_,Z,I,λx F1 H1 i M=>?_⟩;obtain⟨p,T,rfl,h1,h2⟩:=wK (I.evo i) M;refine⟨p,rfl,.inr ⟨T,.inl h1⟩,P,F1,b,_,C,I.evo i,λy F2 H2 j Y=>⟨P,F2,b,_,w,(I.evo i).evo j,λz l O g U=>?_⟩⟩;have I3:=((I.evo i).evo j).evo g;obtain⟨p',S,ep,L,J⟩:=wK I3<|(M.evo j).evo g;cases ep;obtain⟨q,rfl,h3⟩:=tH g.hp (Y.same g.ext) B;refine⟨_,DGet.t L h3,?_⟩;have a:=(i.trans j).trans g;rcases J.val with⟨u,s⟩|⟨v,d',u,s,R⟩
  ·rw[u];exact k _ l O a<|by rwa[s]
  ·rw[u];exact k _ l O a<|by rwa[s]
 ·cases h
noncomputable def g6(a:Bool):D->D->Option D
 |y,.dT kvs=>(j5 y).map λk=>.bl<|xor a (dn kvs k).isSome
 |_,_=>none
def rJ:PDO X (.Dict [] [] pos) (λ_=>some (.dT [])):=CN.imp λb H Q=>un7 λP F c o a I k=>by
 cases a;exact λp h=>k p F _ (Evo.side I.toDHp h) ⟨⟨h,(I.toDHp.free h).1⟩,_,aI,.nil⟩
noncomputable def rP(j:Nat)(fk fv:Dd):DF->Option RES:=λa=>match a[j]? with
 |some (some<|.own (.dT kvs) t)=>(fv a).bind λv=>(fk a).bind λy=>(j5 y).bind λk=>if kvs.length<16777216 then some (.nx<|a.set j<|some<|.own (.dT<|e7 kvs k v) t)else none
 |_=>none
def yk j(Z:X.A.units+64<cLine)(L:PE X o (eD j))(hi:PDE X i fk)(hv:PDE X e fv)(hs:swapsWith e (some (.Subscript o i pos')) pos.line X.env=pure false:=by rfl):PD1 X (.Assign [.Subscript o i pos'] e pos) (rP j fk fv):=
 PS.imp (yX (by lia) L hi hv hs) λE z H=>un7 λP F c r h I k=>by
  unfold rP at h;split at h
  ·rename_i m t q;cases f:fv c with
   |none=>rw[f]at h;cases h
   |some dv=>
   rw[f,Ya]at h;cases l:fk c with
   |none=>rw[l]at h;cases h
   |some O=>
   rw[l,Ya]at h;cases g:j5 O with
   |none=>rw[g]at h;cases h
   |some U=>
   rw[g,Ya]at h;split at h
   ·rename_i M;cases h;obtain⟨v,s,p,rfl,⟨⟨R,a2,_⟩,u,Q,b⟩,_⟩:=I.at q;cases u with
    |dT vs=>
     refine⟨P,F,c,_,f,I,λv T H1 x C=>⟨_,s,P,T,c,_,l,I.evo x,λy S H2 w B=>?_⟩⟩;have a:=x.trans w;obtain⟨J,Y⟩:=a.keep p _ Q R;obtain⟨b',rfl,N⟩:=tH a.hp B g;refine⟨p,_,rfl,DPut.t J N<|by rwa[YY,b.length],k z S _ a.ext ?_⟩;exact(I.evo a).mut q rfl rfl s<|(RepsT.same a.ext b).put<|C.same w.ext
    |_=>exact b.elim
   ·cases h
  ·cases h
end
end L2
namespace L2
open PySem PySem.Spec PyProof.Rows PySem.W
def nz(prog:Program)(w:World)(A:Around)(Q:Kv)(vs:List Value)(s1:Shared):Prop:=
 vs.length<64/\∃(c:SortKind) (lt:Nat->Nat->Bool),Ord lt /\
  (2<=vs.length->∀h,(∀b u,s1.heap.get? b=some u->h.get? b=some u)->∀Q (E:Kv),Q c {s1 with heap:=h }->wpAny (model prog w) A.in1.in1 (keyKind' vs.toArray) Q E {s1 with heap:=h }) /\
  (∀h,(∀b u,s1.heap.get? b=some u->h.get? b=some u)->∀i j C,i<vs.length->j<vs.length->C (lt i j) {s1 with heap:=h }->kas_ask prog w A.in1.in1 c vs i j C {s1 with heap:=h }) /\
  ∀p,PermN vs.length p->Ris lt p vs.length->∀(a:Addr) h e,(∀b u,s1.heap.get? b=some u->h.get? b=some u)->s1.heap.objs.size<=a->h.get? a=some (seqObj "list" (mT vs p) e)->Q (.ref a) {s1 with heap:=h }
def iV(j:wpAny (model prog w) A.in1 (collect v) (nz prog w A Q) E s) :
  wpAny (model prog w) A (call (.builtin "sorted") [v]) Q E s:=by
 refine Calls.call_function_entry kind_sorted plain_sorted entry_sorted (args_sorted1 _) ?_;refine Yb<|Yh ?_;refine Yb<|Xd j (λc a x=>?_) λ_ _ e=>e;obtain⟨h64,y,lt,o,C,I,h⟩:=x;refine Yb<|Ud ?_ (by rw[YY];lia);have g:(a.heap.push _).get? a.heap.objs.size=some (seqObj "list" c.toArray 0):=Yq _ rfl;have keep:∀b u,a.heap.get? b=some u->(a.heap.push<|seqObj "list" c.toArray 0).get? b=some u:=λb u q=>Yf _ q
 have l:∀f:Heap,(∀b u,b≠a.heap.objs.size->(a.heap.push _).get? b=some u->f.get? b=some u)->∀b u,a.heap.get? b=some u->f.get? b=some u:=λf k b u e=>
  k b u (Yz<|Ys e)<|keep b u e
 refine Yb<|ZE<|ZU slot_list_sort ⟨_,g,rfl⟩ entry_list_sort ?body<|args_list_sort _
 case body=>
  refine p5 g h64 y lt o (λJ f k Q q=>C J f (l f k) Q _ q) (λf k=>I f<|l f k) λp B z=>⟨_,rfl,?_⟩
  obtain⟨e,H⟩:=sortedHeap_at (out:=mT c p) g;refine Yh ⟨_,rfl,h p B z a.heap.objs.size _ e (λb u q=>?_) (Yr _) H⟩;have i:=Ys q;rw[sortedHeap_old (Yz i)<|by rw[size_push'];exact Zv i];exact keep b u q
theorem qe{l}{vs}{Q:Kl}(e:IsTup s.heap l vs.toArray)
  (h:Q vs {s with heap:=(s.heap.push<|seqObj "list" #[] 0).update s.heap.objs.size<|Obj.mapSeq (·++vs.toArray)}) (hsz:vs.length<=sizeLine) :
  wpAny (model prog w) A (collect<|.ref l) Q E s:=by
 have⟨o,c,g,n,f⟩:=id e;refine Yb<|wpAny_runValue<|Zn entry_proto_collect' ?_;refine Yb<|Ud<|Yh ⟨Va _<|by decide+kernel,Zn entry_list_iadd' ?_⟩;show wpAny _ _ (Builtin.List.listExtendWith _ _ _) _ _ {s with heap:=s.heap.push _};have a:(s.heap.push<|seqObj "list" #[] 0).get? l=some o:=Yf _ c;refine Yb<|VS (T := "tuple") ⟨o,a,g⟩ ?_;have b:(Value.type "tuple" == Value.type "tuple")=true:=by rfl
 rw[Yj<|by rw[b];simp];refine Yb<|listItems_at a f ?_;refine Yb<|listItems_at (Yq _ rfl) rfl ?_;refine Yb<|listUpdate_at (Yq _ rfl) rfl ?_ (YO _) (by show(#[]++vs.toArray).size<=sizeLine+1;simp;lia);refine Yh ?_
 refine Yb<|wpAny_load (get?_update_seq (Yq _ rfl) _) ?_;show wpAny _ _ (pure ((#[])++vs.toArray).toList) Q E _;rw[show((#[]:Array Value)++vs.toArray).toList=vs by simp];exact Yh h
def oU{vs:List Value}{b}{u}(q:h.get? b=some u):((h.push (seqObj "list" #[] 0)).update h.objs.size (Obj.mapSeq (·++vs.toArray))).get? b=some u:=by have a:=Ys q;rwa[YV _ _ _ _<|Yz a,Vh _ _ _<|Yz a]
def sk:D->Bool
 |.int _=>true
 |.str _=>true
 |.tup (_::_)=>true
 |_=>false
def fk:D->Bool
 |.int _=>true
 |.str _=>true
 |.tup _=>true
 |_=>false
def yx:D->Bool
 |.tup (d::_)=>fk d
 |_=>true
noncomputable def bV(ds:List D):Bool:=decide (ds.length<64)&&ds.all (okN 28)&&(ds.all λx=>ds.all λy=>aw x y)&&ds.all sk&&ds.all yx
def eM(h:bV ds=true):ds.length<64/\Cmps 28 ds/\(∀d∈ds,sk d=true)/\∀d∈ds,yx d=true:=by unfold bV at h;simp only[Yu,YG]at h;obtain⟨⟨⟨⟨j,i⟩,g⟩,f⟩,e⟩:=h;exact⟨j,⟨λd a=>Yi.mp i d a,λx c y b=>Yi.mp (Yi.mp g x c) y b⟩,λd a=>Yi.mp f d a,λd a=>Yi.mp e d a⟩
def dAt(ds:List D)(i:Nat):D:=ds.getD i<|ds.headD<|.int 0
theorem t6(h:ds≠[])i:dAt ds i∈ds:=by
 unfold dAt;cases ds with
 |nil=>exact absurd rfl h
 |cons d r=>
  rw[YF];grind
def t4(h:i<ds.length):ds[i]?=some (dAt ds i):=by unfold dAt;rw[YF,Yg h];rfl
def IQ(a:Cmps n ds):Ord λi j=>ltD (dAt ds i) (dAt ds j):=by
 by_cases b:ds=[]
 ·subst b;have e:∀i,dAt [] i=.int 0:=λi=>by simp[dAt]
  refine⟨λi j h=>?_,λi j k f c=>?_⟩
  ·rw[e,e]at h;simp[ltD]at h
  ·rw[e,e];simp[ltD]
 ·have m:=λi=>t6 b i
  refine⟨λi j h=>?_,λi j k f c=>?_⟩
  ·exact(eB n _ _ (a.1 _<|m i) (a.1 _<|m j)<|a.2 _ (m i) _<|m j).as h
  ·exact lu (a.1 _<|m i) (a.1 _<|m j) (a.1 _<|m k) (a.2 _ (m i) _<|m j) (a.2 _ (m j) _<|m k) (a.2 _ (m i) _<|m k) (a.2 _ (m j) _<|m i) (a.2 _ (m k) _<|m j) (a.2 _ (m k) _<|m i) f c
theorem xv(m:Cmps n ds){p}(b:PermN ds.length p)(l:Ris (λi j=>ltD (dAt ds i) (dAt ds j)) p ds.length):p.toList.map (dAt ds)=aU ds:=by
 refine pA ?_ m ?_
 ·have g:(p.toList.map _).Perm ((List.range ds.length).map<|dAt ds):=b.perm.map _;have o:(List.range ds.length).map (dAt ds)=ds:=by
   apply ZY;intro i;rw[Yo];by_cases h:i<ds.length
   ·rw[ZJ h,Xa,t4 h]
   ·rw[Zh<|by rw[Zj];lia,Zh<|by lia];rfl
  rwa[o]at g
 ·rw[Xs,Vl];intro i j f c a;have q:=b.size;rw[YM]at f c;have:=l i j (ZP a) (by lia);simp_all
theorem Reps.perm(r:Reps K H vs ds)(a:ds≠[]):∀(l:List Nat),(∀i∈l,i<ds.length)->Reps K H (l.map λi=>vs.getD i .non) (l.map (dAt ds))
 |[],_=>.nil
 |i::l,h=>by
  obtain⟨v,f,c⟩:=r.get<|t4<|h i Ye;have e:vs.getD i .non=v:=by rw[YF,f];rfl
  rw[YH,YH];rw[e];exact .cons c<|Reps.perm r a l λj b=>h j<|Yd _ b
theorem Vals.perm(r:Vals vs us):∀(l:List Nat),(∀i∈l,i<vs.length)->Vals (l.map λi=>vs.getD i .non) (l.map λi=>us.getD i Value.none)
 |[],_=>.nil
 |i::l,h=>by
  have a:=h i Ye;obtain⟨u,e,c⟩:=r.get<|Yg a;have g:vs.getD i .non=vs[i]:=by rw[YF,Yg];rfl
  have f:us.getD i Value.none=u:=by rw[YF,e];rfl
  rw[YH,YH];rw[g,f];exact .cons c<|Vals.perm r l λj b=>h j<|Yd _ b
noncomputable def tyD:D->Value
 |.int _=>.type "int"
 |.str _=>.type "str"
 |_=>.type "tuple"
def Rep.ty(I:Inv X pz σ H s)(h:Rep X.K H v d)(c:fk d=true)(r:RelV v u)M:Looks M s.heap (typeOf u) (tyD d):=by
 cases d with
 |int i=>cases h;obtain⟨t,rfl⟩:=(show ∃t,u=Value.int _ t from r);exact Looks.of_pure rfl
 |str i=>cases h;obtain⟨t,rfl⟩:=(show ∃t,u=Value.str _ t from r);exact Looks.of_pure rfl
 |tup ds=>
  cases h with
  |tup h1 h2=>
   cases(show u=Value.ref _ from r);obtain⟨a,g,⟨o,b,e,n,j⟩,_⟩:=I.tuple<|SqT.of h1;have:=(Looks.ld (M:=M) (part:=none) b).andThen (f:=λo=>pure o.cls) .now;rwa[e]at this
 |_=>cases c
def xK{x}(h:aw x y=true)(hx:fk x=true):tyD x=tyD y:=by
 rcases bz h with⟨i,j,rfl,rfl⟩|⟨i,j,rfl,rfl⟩|⟨i,j,rfl,rfl⟩|⟨i,j,rfl,rfl,_⟩
 ·rfl
 ·cases hx
 ·rfl
 ·rfl
noncomputable def qC:List D->SortKind
 |.tup (d::_)::_=>tuples'<|tyD d != .type "tuple"
 |_=>oneType'
def wE(I:Inv X pz σ H s):∀{vs}{ds}{us},Reps X.K H vs ds->Vals vs us->(∀d∈ds,∃x r,d=.tup (x::r)/\fk x=true)->∀T:Value,(∀x r,.tup (x::r)∈ds->tyD x=T)->
  ∃fs:List Value,KatTups s.heap us fs/\fs.length=us.length/\∀M,∀v∈fs,Looks M s.heap (typeOf v) T:=by
 intro vs ds us h;exact Reps.ind (M:=λvs ds=>∀us:List Value,Vals vs us->(∀d∈ds,∃x r,d=.tup (x::r)/\fk x=true)->∀T:Value,(∀x r,.tup (x::r)∈ds->tyD x=T) ->     ∃fs:List Value,KatTups s.heap us fs/\fs.length=us.length/\∀M,∀v∈fs,Looks M s.heap (typeOf v) T) (λus r _ _ _=>by cases r;exact⟨[],.nil,rfl,λ_ _ h=>by cases h⟩) (λh _ ih us g b T c=>by
  cases g with
  |cons r t=>
  obtain⟨x,f,rfl,l⟩:=b _ Ye;obtain⟨fs,z,y,w⟩:=ih _ t (λd m=>b d<|Yd _ m) T λx r m=>c x r<|Yd _ m
  cases h with
  |tup h1 h2=>
   cases(show _=Value.ref _ from r);obtain⟨j,e,⟨o,p,q,n,a⟩,_⟩:=I.tuple<|SqT.of h1;cases h2 with
   |cons u B=>
    cases e with
    |cons i A=>
     refine⟨_::fs,KatTups.cons p q a (by simp;rfl) z,by rw[Yt,Yt,y],λM v hv=>?_⟩;rcases Yw.mp hv with rfl|hv
     ·rw[<-c x f Ye];exact u.ty I l i M
     ·exact w M v hv) h us
def sN(h:sk d=true)(a:kZ d=false):fk d=true:=by cases d<;>first|rfl|cases h|cases a
theorem EH(I:Inv X pz σ H s)(r:Reps X.K H vs ds)(q:Vals vs us)(ok:bV ds=true)(h2:2<=us.length){Q}(w:Q (qC ds) s) :
  wpAny M A (keyKind' us.toArray) Q E s:=by
 obtain⟨hl,L,p,C⟩:=eM ok;have R:=r.length;have l2:=q.length;cases ds with
 |nil=>rw[Ze]at R;lia
 |cons d B=>
  have f:d∈d::B:=Ye;cases g:kZ d with
  |true=>
   cases d with
   |tup xs=>
    cases xs with
    |nil=>have:=p _ f;cases this
    |cons x O=>
     have S:=C _ f;have all:∀c∈(D.tup (x::O)::B),∃y b,c=.tup (y::b)/\fk y=true/\tyD y=tyD x:=λc m=>by
      have a:=L.2 _ f _ m;rcases bz a with⟨i,j,e,_⟩|⟨i,j,e,_⟩|⟨i,j,e,_⟩|⟨i,j,e,z,o⟩
      ·cases e
      ·cases e
      ·cases e
      ·cases e;subst z;cases j with
       |nil=>have:=p _ m;cases this
       |cons y b=>
        rw[bc,Yu]at o;exact⟨y,b,rfl,C _ m,(xK o.1 S).symm⟩
     obtain⟨fs,f1,f2,Z⟩:=wE I r q (λc m=>by obtain⟨y,b,e,h,_⟩:=all c m;exact⟨y,b,e,h⟩) (tyD x) λy b m=>by
      obtain⟨y',P,e,_,h⟩:=all _ m;cases e;exact h
     exact kat_kind f1 (by lia) (Z M) (by cases x<;>rfl) w
   |_=>cases g
  |false=>
   have J:=sN (p d f) g;have e:qC (d::B)=oneType':=by cases d<;>first|rfl|cases g
   rw[e]at w;have Y:∀u∈us,Looks M s.heap _ (tyD d):=λu T=>by
    obtain⟨i,U,eu⟩:=ZX T;have l:i<vs.length:=by lia
    obtain⟨u',N,z⟩:=q.get<|Yg l;rw[Yg U,eu]at N;cases N;obtain⟨c,e3,e4⟩:=r.getV<|Yg l;have m:=YJ e3;have a:=L.2 _ f _ m;rw[xK a J];refine e4.ty I ?_ z M;refine sN (p c m) ?_;rcases bz a with⟨i,j,rfl,rfl⟩|⟨i,j,rfl,rfl⟩|⟨i,j,rfl,rfl⟩|⟨i,j,rfl,rfl,_⟩
    ·rfl
    ·rfl
    ·rfl
    ·cases g
   refine kas_kind h2 Y ?_ ?_ w
   ·cases d<;>first|rfl|(simp[fk]at J;done)|(simp[kZ]at g;done)
   ·cases d<;>rfl
theorem Fy{b}{Q:Kb}{n1 n2}:∀{us f}{ds es} i,LexOk false A s us f ds es->(b=true->i=0->∀u j d e o wr y er,us=u::o->f=j::wr->ds=d::y->es=e::er->∀(Q:Kb) (E:Kv),Q (ltD d e) s->wpAny (model prog w) A (oneLt' true u j) Q E s)->
  us.length+n2=f.length+n1->Q (dS ds es) s->KatLex prog w A b (decide<|n1<n2) Q (us.zip f) i s:=by
 intro us f ds es i h;induction h generalizing i with
 |@nl f es hl=>
  intro _ g a;rw[Ze]at g;cases es with
  |nil=>
   rw[Ze]at hl;rwa[YB<|by lia]
  |cons c r=>
   rw[Yt]at hl;rwa[YS<|by lia]
 |@nr vs ds hl=>
  intro _ g a;rw[Ut];rw[Ze]at g;cases ds with
  |nil=>
   rwa[YB<|by lia]
  |cons c r=>
   rwa[YB<|by lia]
 |@cons v j d e _ _ _ _ p l B ih=>
  intro x g a;rw[Yt,Yt]at g;refine kat_cons<|p prog w _ _ ?_;cases q:eqd d e with
  |true=>
   rw[dS,Yj q]at a;exact kat_yes<|ih (i+1) (λ_ z=>by lia) (by lia) a
  |false=>
   rw[dS,Yl<|by rw[q];exact Yk]at a;refine kat_no ?_;cases m:(b&&i == 0)with
   |true=>
    rw[Yu]at m;exact x m.1 (by simpa using m.2) _ _ _ _ _ _ _ _ rfl rfl rfl rfl _ _ a
   |false=>exact kat_one _ _<|l q prog w _ _ a
def Bd{x y}{d e}(h1:Rep X.K H x d)(h2:Rep X.K H y e)(c:aw d e=true)(hd:fk d=true)(g:kZ d=false)(b:RelV x u)(a:RelV y v){Q:Kb}(h:Q (ltD d e) s) :
  wpAny (model prog w) A (oneLt' true u v) Q E s:=by
 rcases bz c with⟨i,j,rfl,rfl⟩|⟨i,j,rfl,rfl⟩|⟨i,j,rfl,rfl⟩|⟨i,j,rfl,rfl,_⟩
 ·cases h1;cases h2;obtain⟨t,rfl⟩:=(show ∃t,u=Value.int _ t from b)
  obtain⟨f,rfl⟩:=(show ∃t,v=Value.int _ t from a)
  exact oneLt_int<|by rwa[ltD]at h
 ·cases hd
 ·cases h1;cases h2;obtain⟨t,rfl⟩:=(show ∃t,u=Value.str _ t from b)
  obtain⟨f,rfl⟩:=(show ∃t,v=Value.str _ t from a)
  exact oneLt_str<|by rwa[ltD]at h
 ·cases g
theorem Io(I:Inv X pz σ H s)(r:Reps X.K H vs ds)(B:Vals vs us)(ok:bV ds=true)(hu:A.units+60<cLine){C:Kb}(hi:i<us.length)(hj:j<us.length)(P:C (ltD (dAt ds i) (dAt ds j)) s) :
  kas_ask prog w A (qC ds) us i j C s:=by
 obtain⟨hl,l,J,hf⟩:=eM ok;have l1:=r.length;have l2:=B.length;obtain⟨v,e1,T⟩:=r.get<|t4 (show i<ds.length by lia);obtain⟨v',e2,S⟩:=r.get<|t4 (show j<ds.length by lia);obtain⟨u,e3,Z⟩:=B.get e1;obtain⟨R,e4,Y⟩:=B.get e2;have p:ds≠[]:=λz=>by rw[z,Ze]at l1;lia
 have m:=t6 p i;have U:=t6 p j;have g:=l.2 _ m _ U;unfold kas_ask;have g1:us.getD i Value.none=u:=by rw[YF,e3];rfl
 have g2:us.getD j Value.none=R:=by rw[YF,e4];rfl
 rw[g1,g2];generalize hx:dAt ds i=x,hy:dAt ds j=y at *;cases o:kZ x with
 |false=>
  have e:qC ds=oneType':=by
   cases ds with
   |nil=>exact absurd rfl p
   |cons d dr=>
    have:=l.2 _ m d Ye;rcases bz this with⟨i,j,rfl,rfl⟩|⟨i,j,rfl,rfl⟩|⟨i,j,rfl,rfl⟩|⟨i,j,rfl,rfl,_⟩
    ·rfl
    ·rfl
    ·rfl
    ·cases o
  rw[e,keyLt'_oneType];exact Bd T S g (sN (J _ m) o) o Z Y P
 |true=>
  cases x with
  |tup xs=>
   cases xs with
   |nil=>have:=J _ m;cases this
   |cons q xr=>
    rcases bz g with⟨_,_,e,_⟩|⟨_,_,e,_⟩|⟨_,_,e,_⟩|⟨xs',ys,e,rfl,h⟩
    ·cases e
    ·cases e
    ·cases e
    ·cases e;have ek:qC ds=tuples' (tyD q != .type "tuple"):=by
      cases ds with
      |nil=>exact absurd rfl p
      |cons d dr=>
       have:=l.2 _ m d Ye;rcases bz this with⟨_,_,e,_⟩|⟨_,_,e,_⟩|⟨_,_,e,_⟩|⟨_,zs,e,rfl,hz⟩
       ·cases e
       ·cases e
       ·cases e
       ·cases e;cases zs with
        |nil=>have:=J _ Ye;cases this
        |cons z0 zr=>
         rw[bc,Yu]at hz;show tuples' _=_;rw[xK hz.1<|hf _ m]
     rw[ek];cases T with
     |tup a1 a2=>
      cases S with
      |tup b1 b2=>
       cases(show u=Value.ref _ from Z);cases(show R=Value.ref _ from Y);obtain⟨its1,b,⟨o1,M,hc1,n1,O⟩,_⟩:=I.tuple<|SqT.of a1;obtain⟨its2,a,⟨o2,L,hc2,n2,N⟩,_⟩:=I.tuple<|SqT.of b1;have oi:=l.1 _ m;have oj:=l.1 _ U;have f:=Reps.lex I 27 A (by lia) (Rep.le (c:=false) I 27 A<|by lia) a2 b2 (ck oi) (ck oj) h b a;refine kat_lt M O L N ?_;simp;refine Fy 0 f (λhb _ u0 w0 d0 e0 ur wr dr er q1 q2 q3 q4 Q E hq=>?_) (by lia) (by rwa[ltD]at P);subst q1 q2 q4;cases q3;cases a2 with
       |cons a3 a4=>
        cases b2 with
        |cons b3 b4=>
         cases b with
         |cons c1 c2=>
          cases a with
          |cons c3 c4=>
           rw[bc,Yu]at h;refine Bd a3 b3 h.1 (hf _ m) ?_ c1 c3 hq;cases q<;>first|rfl|(simp[tyD]at hb)
  |_=>cases o
theorem v9(I:Inv X pz σ H s)(r:Reps X.K H vs ds)(g:Vals vs us)(ok:bV ds=true)(S:X.A.units+64<cLine) 
  (O:∀a (p:List Nat) s',H a=none->(∀i∈p,i<ds.length)->p.length=ds.length->p.map (dAt ds)=aU ds->Inv X pz σ (upd H a<|.lst<|p.map λi=>vs.getD i .non) s'->Q (.ref a) s'):nz X.prog X.w X.A Q us s:=by
 have⟨T,z,_,_⟩:=eM ok;have m:=r.length;have y:=g.length;refine⟨by lia,qC ds,_,IQ z,λP B k Q E q=>EH (I.kept k) r g ok P q,λB k i j C c N L=>?_,λp M J a B e k b f=>?_⟩
 ·have o:X.A.in1.in1.units+60<cLine:=by lia
  exact Io (I.kept k) r g ok o c N L
 ·have h:PermN ds.length p:=by rwa[<-m,y]
  have u:Ris (λi j=>ltD (dAt ds i)<|dAt ds j) p ds.length:=by rwa[<-m,y]
  have R:=xv z h u;have bd:∀i∈p.toList,i<ds.length:=λi c=>YU.mp<|h.perm.mem_iff.mp c
  have x:=I.hok.fresh b;have l:p.toList.length=ds.length:=by rw[YM];exact h.size
  refine O a p.toList _ x bd l R<|I.laid k b ⟨?_,p.toList.map λi=>us.getD i Value.none,e,Vals.perm g p.toList λi c=>by rw[m];exact bd i c,?_⟩
  ·rw[Yc,l,YY];lia
  ·exact f
def vY(y:X.A.units+64<cLine):CallR X (.builtin "sorted") (λxs H Q=>∃a vs ds,xs=[.ref a]/\(SqL X.K H a vs\/SqT X.K H a vs)/\Reps X.K H vs ds/\bV ds=true/\∀l (p:List Nat),H l=none->(∀i∈p,i<ds.length)->p.length=ds.length->p.map (dAt ds)=aU ds->Q (.ref l) (upd H l (.lst (p.map λi=>vs.getD i .non)))):=by
 intro x s m H xs E Q I r h;obtain⟨a,vs,ds,rfl,hq,z,ok,q⟩:=h;obtain⟨u,rfl,o⟩:=eV r;cases o;refine iV ?_;have fin:∀c:List Value,Vals vs c->nz X.prog X.w X.A (EP X x m Q) c {s with heap:=(s.heap.push _).update s.heap.objs.size<|Obj.mapSeq (·++c.toArray)}:=λc f=>
  v9 (I.kept λb u e=>oU e) z f ok y λl p J B b1 b2 b3 C=>⟨.ref l,_,C,rfl,q l p B b1 b2 b3⟩
 rcases hq with hq|hq
 ·let⟨c,f,g,j⟩:=I.list hq;exact collect_list g.isList (fin c f)<|by rwa[<-f.length]
 ·let⟨c,f,g,j⟩:=I.tuple hq;exact qe g (fin c f)<|by rwa[<-f.length]
noncomputable def nG(fa:Dd):DF->Option (List D):=λb=>(fa b).bind λd=>(e9 d).bind λa=>if bV a=true then some (aU a)else none
def im(J:X.A.units+64<cLine)(M:Gl X "sorted")(L:X.mg "sorted"=none)(f:PDR X e fa)(hs:starEach [e] X.env=[(false,eval e X.env)]:=by rfl)(o:(backTo pos (starEach [] X.env)).any (·.1)=false:=by rfl) :
  PDO X (.Call (.Name "sorted" p) [e] [] pos) (asL<|nG fa):=
 (iL (vY J) M L l_ (aR f bK hs) (by decide) (by decide) hs o).imp λN H Q=>un7 λP F z O h I k=>by
  unfold asL nG at h;cases f:fa z with
  |none=>rw[f]at h;cases h
  |some w=>
  rw[f,Ya]at h;cases c:e9 w with
  |none=>rw[c]at h;cases h
  |some b=>
  rw[c,Ya]at h;split at h
  ·rename_i ok;cases h;refine⟨P,F,z,w,f,I,λx y E j B=>?_⟩;have m:=I.evo j;have fin:∀a,Reps X.K y a b->∀l (p:List Nat),E l=none->(∀i∈p,i<b.length)->p.length=b.length->p.map _=aU b->Q _ (upd E l<|.lst<|p.map λi=>a.getD i .non):=λa r l p s b1 b2 b3=>by
    refine k l y _ (j.trans<|Evo.side j.hp s) ⟨⟨j.back I.toDHp s,(j.hp.free s).1⟩,_,aI,?_⟩;by_cases C:b=[]
    ·subst C;have:p=[]:=Zo.mp b2;rw[this];exact .nil
    ·rw[<-b3];exact r.perm C p b1
   cases w with
   |lst ds'=>
    cases c;obtain⟨q,a,rfl,u,g⟩:=eS m B;exact⟨q,a,b,rfl,.inl u,g.same m.sub,ok,fin a g⟩
   |tup ds'=>
    cases c;obtain⟨q,a,rfl,u,g⟩:=kK m B;exact⟨q,a,b,rfl,.inr u,g.same m.sub,ok,fin a g⟩
   |_=>cases c
  ·cases h
end L2
namespace L2
open PySem PySem.Spec PyProof.Rows
def gG{a:Type}(xs:List a)(lo hi:Option Int):List a:=(xs.drop<|HT.sIx xs.length 0 lo).take<|HT.sIx xs.length xs.length hi-HT.sIx xs.length 0 lo
def Reps.cut(r:Reps K F vs ds)lo hi:Reps K F (Ak vs lo hi) (gG ds lo hi):=by unfold Ak gG;rw[r.length];exact(r.drop _).take _
def tOI(K:Kq)(f:DF->Option (Option Int)):TO:=λe H Q=>∃P F a b,f a=some b/\DInv K P F H a e/\∀g c,Evo P F H g c->Q b c
def PDB(X:Cx)(e:Option Expr)(f:DF->Option (Option Int)):Prop:=PO X e<|tOI X.K f
def bNo:DF->Option (Option Int):=λ_=>some none
noncomputable def bI(f:Dd):DF->Option (Option Int):=λa=>match f a with
 |some (.int i)=>some<|some i
 |_=>none
section
variable  {a:Expr}   {lo hi:Option Expr}  {fl fh:DF->Option (Option Int)}
def PO.imp{t t'}{e}(h:PO X e t)(i:∀σ H Q,t' σ H Q->t σ H Q):PO X e t':=λp s σ H Q I q=>h p s σ H Q I<|i σ H Q q
def wJ:PDB X none bNo:=PO.imp Ej λa H Q=>un7 λP F c b h I k=>by
 cases h;exact k F H<|Evo.refl I.toDHp
def vy{f:Dd}(h:PDE X e f):PDB X (some e) (bI f):=PO.imp (Gd h) λm H Q=>un7 λP F c b a I k=>by
 unfold bI at a;split at a
 ·rename_i i q;cases a;refine⟨P,F,c,_,q,I,λv l j g r=>?_⟩;cases r;exact⟨i,rfl,k l j g⟩
 ·cases a
noncomputable def slL(fe:Dd)(fl fh:DF->Option (Option Int)):DF->Option (List D):=λa=>match fe a with
 |some (.lst xs)=>(fl a).bind λl=>(fh a).map λh=>gG xs l h
 |_=>none
def jq(he:PDR X e fe)(A:PDB X lo fl)(B:PDB X hi fh):PDO X (.Subscript e (.Slice lo hi none p2) pos) (asL (slL fe fl fh)):=(Cm ES he A B).imp λM H Q=>un7 λP F b O c I k=>by
 unfold asL at c;cases q:slL fe fl fh b with
 |none=>rw[q]at c;cases c
 |some y=>
 rw[q]at c;cases c;unfold slL at q;split at q
 ·rename_i N w;cases g:fl b with
  |none=>rw[g]at q;cases q
  |some l=>
  rw[g,Ya]at q;cases f:fh b with
  |none=>rw[f]at q;cases q
  |some h=>
  rw[f]at q;cases q;refine⟨P,F,b,_,w,I,λx L T m u=>⟨P,L,b,l,g,I.evo m,λK S j=>⟨P,K,b,h,f,(I.evo m).evo j,λJ R o=>?_⟩⟩⟩;have a:=(m.trans j).trans o;obtain⟨z,s,rfl,E,C⟩:=eS (I.evo a)<|(u.evo j).evo o;exact⟨z,s,rfl,E,λp i=>k p J _ (a.trans<|Evo.side a.hp i) ⟨⟨a.back I.toDHp i,(a.hp.free i).1⟩,_,aI,C.cut l h⟩⟩
 ·cases q
def NB:V->Option Int->Option Int->Hp->VK->Prop:=λx lo h H Q=>∃z,x=.str z/\z.length<=sizeLine/\Q (.str<|Txt.slice z lo h) H
def hA{o}(h:IsPart v o):∃l:Option (Int×Tok),v=partValue l/\l.map (·.1)=o:=by
 cases h with
 |none=>exact⟨none,rfl,rfl⟩
 |int i t=>exact⟨some (i,t),rfl,rfl⟩
def hC:SlR X NB:=by
 intro B s o H x v y w lo b A Q I Pd i f p h;obtain⟨z,rfl,g,q⟩:=h;have a:=Txt.slice_le z lo b;obtain⟨t,rfl⟩:=Pd;obtain⟨l,rfl,m⟩:=hA f;obtain⟨u,rfl,j⟩:=hA p;refine⟨"str",_,PySem.F.slot_str_getitem.lookup,typeIs_str s z t,wpAny_getItem_str_slice (st:=none) i rfl ?_⟩;have e:slicePicked z l u none=Builtin.Str.strSliceIndices lo b 1 z.length:=by unfold slicePicked;rw[m,j];rfl
 unfold sliceMade;rw[e];unfold Txt.slice at q a;show(if(1 == 1&&(Builtin.Str.strSliceIndices lo b 1 z.length).length == z.length)=true then Made.val (.str z t)else Made.str ⟨((Builtin.Str.strSliceIndices lo b 1 z.length).filterMap _).toArray⟩).post _ _;split
 ·rename_i c;rw[Yj c]at q;exact⟨.str z,H,I,⟨t,rfl⟩,q⟩
 ·rename_i c;rw[Yl c]at q a;exact⟨YD a g,⟨.str _,H,I.tok _,⟨_,rfl⟩,q⟩⟩
noncomputable def slS(fe:Dd)(fl fh:DF->Option (Option Int)):DF->Option D:=λa=>match fe a with
 |some (.str x)=>if x.length<=16777216 then(fl a).bind λl=>(fh a).map λh=>.str (Txt.slice x l h)else none
 |_=>none
def hD(he:PDR X e fe)(m:PDB X lo fl)(o:PDB X hi fh):PDE X (.Subscript e (.Slice lo hi none p2) pos) (slS fe fl fh):=(Cm hC he m o).imp λA H Q=>un7 λP F a d q I k=>by
 unfold slS at q;split at q
 ·rename_i x i;split at q
  rotate_left
  ·cases q
  rename_i j;cases c:fl a with
  |none=>rw[c]at q;cases q
  |some l=>
  rw[c,Ya]at q;cases b:fh a with
  |none=>rw[b]at q;cases q
  |some h=>
  rw[b]at q;cases q;refine⟨P,F,a,_,i,I,λy z C f Pd=>⟨P,z,a,l,c,I.evo f,λw B g=>⟨P,w,a,h,b,(I.evo f).evo g,λu s p=>?_⟩⟩⟩;exact⟨x,ng Pd,by rwa[YY],k _ u s ((f.trans g).trans p) .str⟩
 ·cases q
def Dt(K:Kq):R2:=λx y H Q=>∃a b c e,x=.ref a/\y=.ref b/\SqT K H a c/\SqT K H b e/\c.length+e.length<=sizeLine /\
 (c=[]->Q (.ref b) H)/\(c≠[]->e=[]->Q (.ref a) H)/\(c≠[]->e≠[]->∀p,H p=none->Q (.ref p) (upd H p<|.tup<|c++e))
def BM:OpR X (binaryOp .Add) (Dt X.K):=by
 intro U s M H x y v u Q I w q h;obtain⟨a,b,p,N,rfl,rfl,E,C,hz,T,S,R⟩:=h;by_cases e:p=[]
 ·cases w;cases q;obtain⟨c,P,Z,_⟩:=I.tuple E;obtain⟨i,r2,Y,_⟩:=I.tuple C;have hi:=P.nil_iff.mpr e;obtain⟨⟨cls,dd,J,O⟩,z,B,n,A⟩:=id Z;obtain⟨⟨L,m,o,l⟩,f,j,n2,g⟩:=id Y;subst B A j g;exact concat_meets ⟨_,z,rfl⟩ ⟨_,f,rfl⟩ noFill_tuple_add seq_tuple_add PySem.F.slot_tuple_add PySem.F.entry_tuple_add (PySem.F.args_tuple_add_2 _ _)
   (tuple_addW0 a b c.toArray i.toArray n n2 dd m O l<|by simp[hi]) ⟨z,f,⟨.ref b,H,I,rfl,T e⟩⟩
 ·exact Gq U s M H _ _ v u Q I w q ⟨a,b,p,N,rfl,rfl,E,C,e,hz,S e,R e⟩
noncomputable def aP:D->D->Option D
 |.int i,.int j=>some<|.int<|i+j
 |.str x,.str y=>if x.length+y.length<=16777216 then some (.str<|x++y)else none
 |.lst xs,.lst ys=>if xs.length+ys.length<=16777216 then some (.lst<|xs++ys)else none
 |.tup xs,.tup ys=>if xs.length+ys.length<=16777216 then some (.tup<|xs++ys)else none
 |_,_=>none
def Reps.nil_iff(r:Reps K H vs ds):vs=[]↔ds=[]:=by
 cases r with
 |nil=>simp
 |cons _ _=>simp
def Eb:wo K (λx y H Q=>JN x y H Q\/(GU K x y H Q\/Dt K x y H Q)) aP:=by
 intro P F H E C x y L J d Q a I g f k;unfold aP at a;split at a
 ·cases a;exact .inl<|.inl ⟨_,_,dm g,dm f,k _ F H (Evo.refl I.toDHp) .int⟩
 ·split at a
  ·rename_i h;cases a;exact .inl<|.inr ⟨_,_,ng g,ng f,by rwa[YY],k _ F H (Evo.refl I.toDHp) .str⟩
  ·cases a
 ·split at a
  ·rename_i o;cases a;obtain⟨l,j,rfl,s,e⟩:=eS I g;obtain⟨m,b,rfl,q,c⟩:=eS I f;exact .inr<|.inl ⟨l,m,j,b,rfl,rfl,s,q,by rwa[e.length,c.length,YY],λp i=>k _ _ _ (Evo.laid I.toDHp i)<|.lst (SqL.of aI)<|(e.append c).same<|kI (I.toDHp.free i).1⟩
  ·cases a
 ·split at a
  ·rename_i B A o;cases a;obtain⟨l,j,rfl,s,e⟩:=kK I g;obtain⟨m,b,rfl,q,c⟩:=kK I f;have u:∀{y}{w},RepS K H F y _->Rep K F y (.tup w):=λh=>by
    rcases h with h|⟨_,ob,_,_,_,_,_,hfl,z⟩
    ·exact h
    ·cases ob<;>first|(cases z;done)|cases hfl
   refine .inr<|.inr ⟨l,m,j,b,rfl,rfl,s,q,by rwa[e.length,c.length,YY],λz=>?_,λ_ z=>?_,λ_ _ p i=>?_⟩
   ·have:B=[]:=e.nil_iff.mp z;subst this;exact k _ F H (Evo.refl I.toDHp)<|u f
   ·have:A=[]:=c.nil_iff.mp z;subst this;rw[YZ]at k;exact k _ F H (Evo.refl I.toDHp)<|u g
   ·exact k _ _ _ (Evo.laid I.toDHp i)<|.tup aI<|(e.append c).same<|kI (I.toDHp.free i).1
  ·cases a
 ·cases a
def aK(c:PDR X a fa)(h:PDR X b fb):PDE X (.BinOp a .Add b pos) (d2 aP fa fb):=jS ((IS.or xM).or<|GN.or BM) Eb c h
noncomputable def isT:String->D->Option Bool
 | "int",.int _=>some true
 | "bool",.int _=>some false
 | "bool",.bl _=>some true
 | "list",.lst _=>some true
 | "tuple",.tup _=>some true
 |_,_=>none
def Nu(K:Kq):List V->Hp->VK->Prop:=λa H Q=>∃x T d b,a=[x,.ty T]/\Rep K H x d/\isT T d=some b/\Q (.bl b) H
def hY:CallR X (.builtin "isinstance") (Nu X.K):=by
 intro p s j H z A Q I r h;obtain⟨x,T,d,b,rfl,m,g,q⟩:=h;obtain⟨u,w,rfl,a,l⟩:=Kg r;cases(show w=Value.type T from l);have f:EP X p j Q _ s:=⟨.bl b,H,I,rfl,q⟩
 have y:EP X p j Q _ {s with toks:=s.toks+1}:=⟨.bl b,H,I.tok _,rfl,q⟩
 unfold isT at g;split at g<;>cases g<;>cases m
 ·obtain⟨t,rfl⟩:=(show ∃t,u=Value.int _ t from a);exact PySem.IsiPair.int_int f
 ·obtain⟨t,rfl⟩:=(show ∃t,u=Value.int _ t from a);exact PySem.IsiPair.int_bool y
 ·cases(show u=Value.bool _ from a);exact PySem.IsiPair.bool_bool f
 ·cases(show u=Value.ref _ from a);rename_i i _;obtain⟨_,_,⟨o,n,e,c,_⟩,_⟩:=I.list i;exact PySem.IsiPair.list_list e c f
 ·cases(show u=Value.ref _ from a);rename_i i _;obtain⟨_,_,⟨o,e,c,_⟩,_⟩:=I.tuple<|SqT.of i;exact PySem.IsiPair.tuple_tuple e c f
noncomputable def h7(T:String)(d:D):Option D:=(isT T d).map .bl
def ic{T}(w:Gl X "isinstance")(u:X.mg "isinstance"=none)(i:Gl X x)(g:X.mg x=none)(hv:bootBuiltins x=some (.type T))(z:PDN X a fa)(s:x ≠ "__name__":=by decide)(hd:(x == ("__debug__"))=false:=by decide)
  (m:starEach [a,.Name x p1] X.env=[(false,eval a X.env),(false,eval (.Name x p1) X.env)]:=by rfl) (c:starEach [.Name x p1] X.env=[(false,eval (.Name x p1) X.env)]:=by rfl) (f:(backTo pos<|starEach [.Name x p1] X.env).any (·.1)=false:=by rfl) :
  PDE X (.Call (.Name "isinstance" p) [a,.Name x p1] [] pos) (d1 (h7 T) fa):=
 (iL hY w u gp (aR z (aR (ad (v:=.ty T) i g hv rfl s hd) bK c)<|by rw[m,c]) (by decide) (by decide) (by rw[m,c]) f).imp λE H Q=>un7 λP F l d h I k=>by
  unfold d1 h7 at h;cases q:fa l with
  |none=>rw[q]at h;cases h
  |some j=>
   rw[q,Ya]at h;cases e:isT T j with
   |none=>rw[e]at h;cases h
   |some b=>
    rw[e]at h;cases h;exact⟨P,F,l,j,q,I,λy C B A o=>⟨y,T,j,b,rfl,o,e,k _ C B A .bl⟩⟩
end
theorem uI(I:Inv X pz σ H s){xs}(h1:SqT X.K H a xs)(h2:SqL X.K H a ys):False:=by have⟨_,_,⟨o,e,c,_⟩,_⟩:=I.tuple h1;have⟨_,_,⟨g,n,b,f,_⟩,_⟩:=I.list h2;grind
def Reps.detOf(ih:∀{v}{d d'},okN n d=true->okN n d'=true->Rep X.K H v d->Rep X.K H v d'->d=d')(h:Reps X.K H vs ds):∀b:List D,(∀d∈ds,okN n d=true)->(∀d∈b,okN n d=true)->Reps X.K H vs b->ds=b:=
 Reps.ind (M:=λvs ds=>∀b:List D,(∀d∈ds,okN n d=true)->(∀d∈b,okN n d=true)->Reps X.K H vs b->ds=b) (λb _ _ r=>by cases r;rfl) (λa _ i b h c r=>by
  cases r with
  |cons f e=>rw[ih (h _ Ye) (c _ Ye) a f,i _ (λd m=>h d<|Yd _ m) (λd m=>c d<|Yd _ m) e]) h
def Rep.det1(I:Inv X pz σ H s)n(ih:∀m,n=m+1->∀{v}{d d'},okN m d=true->okN m d'=true->Rep X.K H v d->Rep X.K H v d'->d=d')(h:okN n d=true)(h':okN n d'=true)(q:Rep X.K H v d)(r:Rep X.K H v d'):d=d':=by
 cases q with
 |non=>cases r;rfl
 |bl=>cases r;rfl
 |int=>cases r;rfl
 |str=>cases r;rfl
 |tup a1 a2=>
  cases r with
  |tup b1 b2=>
   rw[a1]at b1;cases b1;cases n with
   |zero=>cases h
   |succ n=>rw[Reps.detOf (ih n rfl) a2 _ (ck h) (ck h') b2]
  |lst b1 b2=>exact(uI I (SqT.of a1) b1).elim
  |dT b1 b2=>rw[a1]at b1;cases b1
  |dK b1 b2=>rw[a1]at b1;cases b1
  |ins b1 b2=>rw[a1]at b1;cases b1
  |fn b=>cases n<;>cases h'
 |lst a1 a2=>
  cases r with
  |tup b1 b2=>exact(uI I (SqT.of b1) a1).elim
  |lst b1 b2=>
   have e:=I.list_inj a1 b1;subst e;cases n with
   |zero=>cases h
   |succ n=>rw[Reps.detOf (ih n rfl) a2 _ (ck h) (ck h') b2]
  |_=>cases n<;>cases h'
 |_=>cases n<;>cases h
def Rep.det(I:Inv X pz σ H s)n:∀{v}{d d'},okN n d=true->okN n d'=true->Rep X.K H v d->Rep X.K H v d'->d=d':=by
 induction n with
 |zero=>exact λh a q r=>Rep.det1 I 0 (λm e=>by cases e) h a q r
 |succ n ih=>exact λh a q r=>Rep.det1 I (n+1) (λm e=>by cases e;exact ih) h a q r
def De{v a}(h:RelV v u)(h':RelV a u):v=a:=RelV.inj h h'
open Classical in
noncomputable def xl (us:List Value)(ds:List D)(dy:D)(u:Value):Bool:=decide (∃(i:Nat) (d:D),us[i]?=some u/\ds[i]?=some d/\eqd d dy=true)
open Classical in
def uh(I:Inv X pz σ H s){n:Nat}(r:Reps X.K H vs ds)(a:Vals vs us)(ok:∀d∈ds,okN n d=true){d:D}(h:us[i]?=some u)(hd:ds[i]?=some d):xl us ds dy u=eqd d dy:=by
 unfold xl;cases q:eqd d dy with
 |true=>exact YS ⟨i,d,h,hd,q⟩
 |false=>
  refine YB ?_;rintro⟨j,m,l,b,g⟩;obtain⟨v,x,w⟩:=r.get hd;obtain⟨y,b1,b2⟩:=r.get b;obtain⟨A,f,p⟩:=a.get x;obtain⟨z,c,o⟩:=a.get b1;rw[h]at f;cases f;rw[l]at c;cases c;have e:=De p o;subst e;have:=w.det I n (ok d (YJ hd)) (ok m (YJ b)) b2;rw[this,g]at q;cases q
theorem vV(I:Inv X pz σ H s){y}{e}(r:Reps X.K H vs ds)(a:Vals vs us)(ok:∀d∈ds,okN 29 d=true)(q:Rep X.K H y dy)(o:okN 30 dy=true)(C:RelV y e)(O:A.units+60<cLine) :
  ∀u∈us,SeqAt.EqAt A s u e (xl us ds dy u):=λu c=>by
 obtain⟨i,g,j⟩:=ZX c;have M:=a.length;have h:i<vs.length:=by lia
 obtain⟨J,p,E⟩:=a.get<|Yg h;rw[Yg g,j]at p;cases p;obtain⟨d,m,w⟩:=r.getV<|Yg h;rw[uh I r a ok (by rw[Yg g,j]) m];have f:=ok d<|YJ m;obtain⟨Q,z⟩:=w.reads I 29 f E;obtain⟨P,x⟩:=q.reads I 30 o C;obtain⟨b,B⟩:=cY 29 d f;obtain⟨l,L⟩:=cY 30 dy o;refine VF _ _ A s _ _ _ _ z x b l ?_;lia
noncomputable def iK(dy:D):List D->Option Nat
 |[]=>none
 |d::r=>if eqd d dy=true then some 0 else(iK dy r).map (· + 1)
theorem qA:∀{ds}{j},iK dy ds=some j->(∃d,ds[j]?=some d/\eqd d dy=true)/\∀m,m<j->∃d,ds[m]?=some d/\eqd d dy=false
 |[],_,h=>by cases h
 |d::r,j,h=>by
  unfold iK at h;split at h
  ·rename_i q;cases h;exact⟨⟨d,rfl,q⟩,λm b=>by lia⟩
  ·rename_i q;cases a:iK dy r with
   |none=>rw[a]at h;cases h
   |some k=>
    rw[a]at h;have h:=Yv h;have h:=h;subst h;obtain⟨e,c⟩:=qA a;refine⟨by simpa using e,λm b=>?_⟩;cases m with
    |zero=>exact⟨d,rfl,by simpa using q⟩
    |succ m=>simpa using c m<|by lia
def Mf(K:Kq):V->List V->Hp->VK->Prop:=λx e H Q=>∃l c b y a j,x=.ref l/\e=[y]/\SqL K H l c/\Reps K H c b/\Rep K H y a/\b.all (okN 29)=true/\okN 30 a=true/\iK a b=some j/\Q (.int j) H
def L3(K:Kq):V->List V->Hp->VK->Prop:=λx e H Q=>∃l c b y a,x=.ref l/\e=[y]/\SqL K H l c/\Reps K H c b/\Rep K H y a/\b.all (okN 29)=true/\okN 30 a=true/\Q (.int<|b.countP λd=>eqd d a) H
section
variable  {a:Expr}   
theorem DP(hu:X.A.units+64<cLine):MtR X "list.index" (Mf X.K):=by
 intro pz s σ H x vs v us Q I P f h;obtain⟨l,xs,e,y,B,j,rfl,rfl,Z,r,O,ok,T,hj,q⟩:=h;cases P;obtain⟨u,rfl,R⟩:=f.one;obtain⟨i,g,S,E⟩:=I.list Z;obtain⟨⟨cls,dd,M,N⟩,n,J,L,hdd,c⟩:=S;subst L c;obtain⟨⟨d0,C,Y⟩,U⟩:=qA hj;have l1:=r.length;have l2:=g.length;have hjl:=(Yn.mp C).1;have a:j<i.toArray.size:=by rw[YA];lia
 have o:=ck ok;have b:∀m (w:m<i.toArray.size) d,e[m]?=some d->xl i e B i.toArray[m]=eqd d B:=λm w d c=>uh I r g o (by simp) c
 refine Uz PySem.F.slot_list_index ⟨_,J,rfl⟩ PySem.F.entry_list_index (PySem.F.args_list_index_2 _ _)
  (PySem.SeqAt.list_indexAt l i.toArray n dd N u _ j a (by have:=YY;lia) (by rwa[b j a d0 C]) λm w p=>?_) ⟨J,λz E=>vV I r g o O T R (by lia) z<|by simpa using E,⟨.int j,H,I.tok _,⟨_,rfl⟩,q⟩⟩
 obtain⟨d,e1,e2⟩:=U m p;rwa[b m w d e1]
def wX{f}(a:us.length=ds.length)(h:∀(i:Nat) u d,us[i]?=some u->ds[i]?=some d->f u=eqd d dy):us.countP f=ds.countP (λd=>eqd d dy):=by
 induction us generalizing ds with
 |nil=>cases ds with|nil=>rfl|cons _ _=>simp at a
 |cons u us ih=>
  cases ds with
  |nil=>simp at a
  |cons d ds=>
   rw[List.countP_cons,List.countP_cons,ih (by simpa using a) λi u d c b=>h (i+1) u d (by simpa using c)<|by simpa using b,h 0 u d rfl rfl]
def C2(hu:X.A.units+64<cLine):MtR X "list.count" (L3 X.K):=by
 intro pz s T H x Y v Z Q I C b h;obtain⟨l,U,ds,y,m,rfl,rfl,M,r,B,ok,L,q⟩:=h;cases C;obtain⟨u,rfl,E⟩:=b.one;have⟨a,c,J,e⟩:=I.list M;have⟨⟨S,R,p,w⟩,n,f,j,N,g⟩:=J;subst j g;have o:=ck ok;refine Uz PySem.F.slot_list_count ⟨_,f,rfl⟩ PySem.F.entry_list_count (PySem.F.args_list_count_2 _ _) (PySem.SeqAt.list_countAt l a.toArray n R w u _)
  ⟨f,λz e=>vV I r c o B L E (by lia) z<|by simpa using e,?_⟩
 refine⟨.int _,H,I.tok _,⟨s.toks,?_⟩,q⟩;rw[wX (by rw[<-c.length,r.length]) λi u d P O=>uh I r c o P O]
noncomputable def gZ:D->D->Option D
 |.lst ds,y=>if(ds.all (okN 29)&&okN 30 y)=true then(iK y ds).map (λ(j:Nat)=>D.int j)else none
 |_,_=>none
noncomputable def p8:D->D->Option D
 |.lst ds,y=>if(ds.all (okN 29)&&okN 30 y)=true then some (.int<|ds.countP λd=>eqd d y)else none
 |_,_=>none
def Bh{f:Dy}(p:∀dx dy d,f dx dy=some d->∃ds,dx=.lst ds)
  (o:∀P F H l vs y ds dy d Q,f (.lst ds) dy=some d->DHp P F H->SqL K H l vs->Reps K H vs ds->Rep K H y dy->(∀v F' H',Evo P F H F' H'->Rep K F' v d->Q v H')->r (.ref l) [y] H Q) :
  ∀σ H Q,tD K (d2 f fa fb) σ H Q->tBM K "list" r (tN K fa) (oS (tN K fb) wc) σ H Q:=λσ H Q=>un7 λP F a d h I k=>by
 unfold d2 at h;cases c:fa a with
 |none=>rw[c]at h;cases h
 |some dx=>
  rw[c]at h;cases b:fb a with
  |none=>rw[Ya,b]at h;cases h
  |some dy=>
   rw[Ya,b,Ya]at h;obtain⟨ds,rfl⟩:=p dx dy d h;refine⟨P,F,a,_,c,I,λx A B g j=>?_⟩;cases j with
   |lst h1 h2=>
    refine⟨.inl ⟨rfl,_,h1⟩,P,A,a,dy,b,I.evo g,λy z u e i=>?_⟩;have sm:=e.same g.hp;exact o P z u _ _ y ds dy d Q h e.hp (sm.seq h1) (h2.same sm) i λv w s q m=>k v w s ((g.trans e).trans q) m
def kh(s:X.A.units+64<cLine)(w:PDN X o fa)(z:PDN X e fb)(f:attributeBase o "index" X.env (eval o X.env)=eval o X.env:=by rfl)
  (g:((backTo cpos<|starEach [e] X.env).all (λx=>!x.1)&&(backToKw cpos<|keywordEach [] X.env).all (λx=>x.1.isSome)
   && decide (([e]).length+([]:List Keyword).length+(if([]:List Keyword).isEmpty then 0 else 1)<30))=true:=by rfl)
  (b:(apos.endLine == cpos.line)=true:=by rfl) (hs:starEach [e] X.env=[(false,eval e X.env)]:=by rfl) :
  PDE X (.Call (.Attribute o "index" apos) [e] [] cpos) (d2 gZ fa fb):=
 (oJ ZN PySem.F.slot_list_index PySem.F.type_list_index (DP s) w (aR z bK hs) f g b hs rfl).imp (Bh λI i d h=>by cases I<;>first|exact⟨_,rfl⟩|cases h
  λP F H l p y m i d Q a u E C B k=>by
   have a:(if(m.all _&&okN 30 i)=true then(iK i m).map (λj=>D.int _)else none)=some d:=a;split at a
   ·rename_i c;rw[Yu]at c;obtain⟨j,q,rfl⟩:=XU.mp a;exact⟨l,p,m,y,i,j,rfl,rfl,E,C,B,c.1,c.2,q,k _ F H (Evo.refl u) .int⟩
   ·cases a)
def vF(p:X.A.units+64<cLine)(s:PDN X o fa)(u:PDN X e fb)(b:attributeBase o "count" X.env (eval o X.env)=eval o X.env:=by rfl)
  (f:((backTo cpos<|starEach [e] X.env).all (λx=>!x.1)&&(backToKw cpos<|keywordEach [] X.env).all (λx=>x.1.isSome)
   && decide (([e]).length+([]:List Keyword).length+(if([]:List Keyword).isEmpty then 0 else 1)<30))=true:=by rfl)
  (a:(apos.endLine == cpos.line)=true:=by rfl) (hs:starEach [e] X.env=[(false,eval e X.env)]:=by rfl) :
  PDE X (.Call (.Attribute o "count" apos) [e] [] cpos) (d2 p8 fa fb):=
 (oJ ZN PySem.F.slot_list_count PySem.F.type_list_count (C2 p) s (aR u bK hs) b f a hs rfl).imp (Bh λC i d h=>by cases C<;>first|exact⟨_,rfl⟩|cases h
  λP F H l m y j i d Q g q B z w k=>by
   have g:(if(j.all _&&okN 30 i)=true then some (D.int _)else none)=some d:=g;split at g
   ·rename_i c;rw[Yu]at c;cases g;exact⟨l,m,j,y,i,rfl,rfl,B,z,w,c.1,c.2,k _ F H (Evo.refl q) .int⟩
   ·cases g)
end
section
variable  {a:Expr}   
noncomputable def wL:D->Option D
 |.int i=>some<|.int<|-i
 |_=>none
def Bz(h:PDE X a fa):PDE X (.UnaryOp .USub a pos) (d1 wL fa):=(K4 HG h).imp λm H Q=>un7 λP F c d b I k=>by
 obtain⟨g,q,b⟩:=YE.mp b;cases g with
 |int i=>
  cases b;refine⟨P,F,c,_,q,I,λv l j f e=>?_⟩;cases e;exact⟨i,rfl,k _ l j f .int⟩
 |_=>cases b
def rX{i}(a:Gl X x)(h:X.mg x=some (.int i t))(hd:nDb x:=by decide):PDE X (.Name x pos) (λ_=>some (.int i)):=zi (GE a h (v:=.int i) ⟨t,rfl⟩ hd) λ_=>.int
def xB:D->Bool
 |.bl _=>true
 |_=>false
def trD:D->Bool
 |.bl b=>b
 |_=>false
noncomputable def Ai:D->Option D
 |.lst ds=>if ds.all xB=true then some (.bl<|ds.all trD)else none
 |_=>none
def Mb(K:Kq):List V->Hp->VK->Prop:=λx H Q=>∃l b a,x=[.ref l]/\SqL K H l b/\Reps K H b a/\a.all xB=true/\Q (.bl<|a.all trD) H
theorem Az:(List.range ds.length).all (λi=>trD (ds.getD i .non))=ds.all trD:=by
 rw[Bool.eq_iff_iff,Yi,Yi];constructor
 ·intro h d b;obtain⟨i,a,e⟩:=ZX b;have:=h i<|YU.mpr a;rwa[YF,Yg a,e]at this
 grind
theorem AA(N:X.calm=true):CallR X (.builtin "all") (Mb X.K):=by
 intro pz s Y H Z us Q I r h;obtain⟨l,vs,g,rfl,M,y,O,q⟩:=h;obtain⟨u,rfl,J⟩:=eV r;cases J;obtain⟨a,x,L,hz⟩:=I.list M;have m:=L.isList;have l1:=y.length;have l2:=x.length;refine call_all_walk<|Vf m ?_;have p:l<s.heap.objs.size:=by obtain⟨o,e,_⟩:=m;exact Ys e
 refine⟨s.heap.objs.size,[s.heap.objs.size,l],[s.heap.objs.size],a.toArray.size,_,_,λi=>trD<|g.getD i .non,rfl,Walks.list (by exact I.ok.hd N) s.heap.objs.size l (Yz p) a.toArray,⟨⟨_,Yq _ rfl,rfl,rfl⟩,m.at λo e=>Yf _ e⟩,λi v E U E' j c=>?_,λh' C k=>?_⟩
 ·have j:a[i]?=some v:=by simpa using j
  have hi:=(Yn.mp j).1;have f:i<g.length:=by lia
  obtain⟨w',T,S⟩:=y.get<|Yg f;obtain⟨u',B,R⟩:=x.get T;rw[j]at B;cases B;have w:=Yi.mp O _<|Xw f;have P:g.getD i .non=g[i]:=by rw[YF,Yg];rfl
  have c:U (trD _) E:=c;rw[P]at c;generalize g[i]=d at *;cases d with
  |bl b=>cases S;cases(show v=Value.bool _ from R);exact ZM c
  |_=>cases w
 ·have e:a.toArray.size=g.length:=by rw[YA];lia
  rw[e,Az];refine⟨.bl _,H,I.kept λb o e=>k b o (λz=>?_)<|Yf _ e,rfl,q⟩;have z:b=s.heap.objs.size:=by simpa using z
  rw[z]at e;exact absurd (Ys e)<|YX _
def BW(i:X.calm=true)(g:Gl X "all")(f:X.mg "all"=none)(l:PDN X e fa)(hs:starEach [e] X.env=[(false,eval e X.env)]:=by rfl)(a:(backTo pos (starEach [] X.env)).any (·.1)=false:=by rfl) :
  PDE X (.Call (.Name "all" p) [e] [] pos) (d1 Ai fa):=
 (iL (AA i) g f CP (aR l bK hs) (by decide) (by decide) hs a).imp (w4 λP F H x m d Q h c b k=>by
  cases m with
  |lst ds=>
   have h:(if ds.all xB=true then some (D.bl _)else none)=some d:=h;split at h
   ·rename_i j;cases h;cases b with|lst h1 h2=>exact⟨_,_,ds,rfl,h1,h2,j,k _ F H (Evo.refl c) .bl⟩
   ·cases h
  |_=>cases h)
def Its(x:Str):It:=⟨λi _=>i<x.cps.size,λi H v a=>a=H/\v=.str ⟨#[x.cps.getD i 0]⟩,λi _=>x.cps.size<=i⟩
def BV{P}it x t ty(C:["enumerate","zip","dict_itemiterator","dict_reverseitemiterator","odict_iterator","itertools.zip_longest","itertools.pairwise"].contains ty=false)(W:∀A:Around,A.handled=none->Walks P w A it [it] [it] x.cps.size (SignAt x) (λi h=>h.IsStrIter it ty x t i))
  (g:∀A i s (Q:Kv) (E:Kv),s.heap.IsStrIter it ty x t i->Q (.ref it) s->wpAny (model P w) A (pyIter<|.ref it) Q E s):Turn P w K tg (Its x) [it] it (λi h=>h.IsStrIter it ty x t i/\i<=x.cps.size) where
 mem:=by simp
 obj:=λi h a b j=>by
  have e:b=it:=by simpa using j
  subst e;obtain⟨⟨o,e,c,d⟩,_⟩:=a;exact⟨o,e,λv z=>by rw[d]at z;cases z⟩
 keep:=λi h p a k=>by obtain⟨⟨o,e,r⟩,hl⟩:=a;exact⟨⟨o,k it (by simp) o e,r⟩,hl⟩
 item:=by
  intro X O B R N i pz s σ H E I m a f;obtain⟨Z,Y,f2,U,T,S⟩:=m it (by simp);refine(W X.A<|I.ok.hd N).item i s _ _ f a.1 λv p q hv l y=>?_;obtain⟨c,u,M,rfl⟩:=hv;have I1:Inv X pz σ H {s with heap:=p,toks:=q}:=I.turned (λb o j e=>y b o (by simpa using j) e) Z Y U T S;obtain⟨o,ho,L,J⟩:=id l;have ec:x.cps.getD i 0=c:=by simp[M]
  refine⟨_,rfl,C6 ho L J C ⟨.str ⟨#[c]⟩,H,I1,⟨u,rfl⟩,⟨rfl,by rw[ec]⟩,⟨l,f⟩,λb j=>(m b j).1⟩⟩
 done:=by intro X O B R N i pz s σ H E I m a f;obtain⟨Z,Y,f2,U,T,S⟩:=m it (by simp);have hi:=ZB a.2 f;subst hi;exact(W X.A<|I.ok.hd N).done s _ _ a.1 λp q y=>⟨rfl,I.turned (λb o j e=>y b o (by simpa using j) e) Z Y U T S⟩
 self:=λA i s Q E a h=>g A i s Q E a.1 h
def L7(tl:TE):TI:=λa H R=>tl a H λx b=>∃z,x=.str z/\R (Its z) b
def Ii(C:PE X l tl):PI X tg l (L7 tl):=by
 intro u s p H R I h;refine bw (C u s p H _ I h) λv a x O m B g=>?_;obtain⟨z,e,q⟩:=g;subst e;obtain⟨t,rfl⟩:=B;have fin:∀f ty,["enumerate","zip","dict_itemiterator","dict_reverseitemiterator","odict_iterator","itertools.zip_longest","itertools.pairwise"].contains ty=false->(∀A:Around,A.handled=none->Walks X.prog X.w A a.heap.objs.size [a.heap.objs.size] [a.heap.objs.size] z.cps.size _ _)->
   _->
   (a.heap.push f).IsStrIter a.heap.objs.size ty z t 0->PIE X u p tg R _ {a with heap:=a.heap.push f}:=λf ty N M L K=>by
  refine⟨a.heap.objs.size,[a.heap.objs.size],_,_,O,rfl,m.kept λb o e=>Yf _ e,BV _ z t ty N M L,⟨K,YO _⟩,λb J=>?_,q⟩;have e:b=a.heap.objs.size:=by simpa using J
  subst e;exact m.fpOk (Yr _)<|m.hok.fresh<|Yr _
 cases y:z.cps.all _
 ·exact wpAny_pyIter_wide y<|fin _ "str_iterator" (by decide) (λP j=>Walks.strWide j _ z t) (λA i s Q E c h=>wpAny_pyIter_striter_wide c h) ⟨_,Yq _ rfl,rfl,rfl⟩
 ·exact wpAny_pyIter_ascii y<|fin _ "str_ascii_iterator" (by decide) (λP j=>Walks.strAscii j _ z t) (λA i s Q E c h=>wpAny_pyIter_striter_ascii c h) ⟨_,Yq _ rfl,rfl,rfl⟩
def signs(x:Str):List D:=x.cps.toList.map λc=>.str ⟨#[c]⟩
noncomputable def vR(f:Dd):DF->Option (List D):=λa=>match f a with
 |some (.str x)=>some<|signs x
 |_=>none
def Gv(h:PDE X l fa):PDI X tg l (vR fa):=PI.imp (Ii h) λC H R=>un7 λP F j E f I k=>by
 unfold vR at f;split at f
 ·rename_i x q;cases f;refine⟨P,F,j,_,q,I,λv A z w m=>?_⟩;cases m;refine⟨x,rfl,k _ A z w λB K e p i=>⟨λd a=>?_,λg=>?_⟩⟩
  ·unfold signs at a;rw[Yo]at a;cases b:x.cps.toList[i]? with
   |none=>rw[b]at a;cases a
   |some c=>
    rw[b]at a;cases a;have s:i<x.cps.size:=by have:=(Yn.mp b).1;simpa using this
    refine⟨s,λy J o=>?_⟩;obtain⟨rfl,rfl⟩:=o;have u:x.cps.getD i 0=c:=by
     have:x.cps[i]?=some c:=by rwa[<-Zc]
     simp[this]
    rw[u];exact⟨B,Evo.refl p,.str⟩
  ·unfold signs at g;rwa[Yc,YM]at g
 ·cases f
end
section
variable  {a r:Expr}  {apos' cpos':Pos}{f:Dd}
def Ax:CallR X (.type "range") (λxs H Q=>∃j:Int,xs=[.int j]/\∀q,H q=none->Q (.ref q) (upd H q (.rng 0 j))):=by intro p s a H xs c Q I r h;obtain⟨j,rfl,q⟩:=h;obtain⟨u,rfl,t,rfl⟩:=eV r;exact call_range_1 ⟨.ref s.heap.objs.size,_,I.laid (o:=.rng 0 j) (λb e z=>Yf _ z) (Yr _) ⟨_,_,_,Yq _ rfl⟩,rfl,q _<|I.hok.fresh<|Yr _⟩
def CO(lo:Int)(n:Nat):List V:=(List.range n).map λi:Nat=>.int<|lo+i
theorem Bb:∀n lo vs,vs.length=n->(∀(j:Nat) v,vs[j]?=some v->∃t,v=Value.int (lo+j) t)->Vals ((List.range n).map λi:Nat=>V.int (lo+i)) vs:=by
 intro n;induction n with
 |zero=>intro lo vs h _;rw[Zo.mp h];exact .nil
 |succ n ih=>
  intro lo vs h a;cases vs with
  |nil=>simp at h
  |cons v vs=>
   rw[List.range_succ_eq_map,YH,YI];refine .cons ?_ ?_
   ·obtain⟨t,e⟩:=a 0 v rfl;exact⟨t,e⟩
   ·have:=ih (lo+1) vs (by simpa using h) λj w b=>by
     obtain⟨t,e⟩:=a (j+1) w (by simpa using b);exact⟨t,by rw[e];congr 1;lia⟩
    have c:((λi:Nat=>V.int<|lo+i) ∘ Nat.succ)=λi:Nat=>V.int (lo+1+i):=by
     funext i;show V.int _=_
     congr 1;lia
    rwa[c]
theorem pZ(B:X.calm=true):CallR X (.type "list") (λxs H Q=>∃(q:Addr) (lo hi:Int),xs=[.ref q]/\H q=some (.rng lo hi)/\(-(2^62)<=lo/\lo<2^62/\-(2^62)<=hi/\hi<2^62)/\(hi-lo).toNat<=16777216/\∀l,H l=none->Q (.ref l) (upd H l (.lst (CO lo (hi-lo).toNat)))):=by
 intro O s M H xs N Q I r h;obtain⟨q,lo,hi,rfl,x,⟨K,J,E,C⟩,z,k⟩:=h;obtain⟨u,rfl,i⟩:=eV r;cases i;obtain⟨t,u,v,y⟩:=I.hok q _ x;have c:Builtin.Range.rangeSize lo hi 1=((hi-lo).toNat):=by rw[rangeSize_one];split<;>lia
 refine call_list_range (I.ok.hd B) y (small_one K J E C) c (by lia) λP g b L m a f=>?_;refine⟨.ref s.heap.objs.size,_,I.laid (o:=.lst _) m (Yr _) ⟨?_,b.toList,L,?_,?_⟩,rfl,k _<|I.hok.fresh<|Yr _⟩
 ·unfold CO;rwa[Yc,Zj,YY]
 ·obtain⟨w,p⟩:=f;refine Bb _ lo _ (by simpa using w) λj v A=>?_;obtain⟨t,e⟩:=p j v (by rwa[<-Zc]);exact⟨t,by rw[e];congr 1;lia⟩
 ·simpa using a
def zI lo n:Reps K F (CO lo n) (cN lo n):=by
 unfold CO cN;generalize List.range n=l;induction l with
 |nil=>exact .nil
 |cons i l ih=>exact .cons .int ih
noncomputable def vH(f:Dd):DF->Option (List D):=λa=>match f a with
 |some (.int j)=>if j<16777216/\-(2^62)<=j then some (cN 0 j.toNat)else none
 |_=>none
theorem qg(A:X.calm=true)(z:Gl X "list")(x:X.mg "list"=none)(i:Gl X "range")(f:X.mg "range"=none)(B:PDE X a fa)(b:starEach [a] X.env=[(false,eval a X.env)]:=by rfl)
  (hs:starEach [.Call (.Name "range" p') [a] [] cpos] X.env=[(false,eval (.Call (.Name "range" p') [a] [] cpos) X.env)]:=by rfl):PDO X (.Call (.Name "list" p) [.Call (.Name "range" p') [a] [] cpos] [] pos) (asL<|vH fa):=
 (eQ (pZ A) z x rR<|aR (eQ Ax i f boot_range (aR B bK b) (he:=b)) bK hs).imp λK H Q=>un7 λP F m L h I k=>by
  unfold asL vH at h;cases q:fa m with
  |none=>rw[q]at h;cases h
  |some E=>
   rw[q]at h;cases E with
   |int j=>
    dsimp only at h;split at h
    ·rename_i y;cases h;refine⟨P,F,m,_,q,I,λv J M s u=>?_⟩;cases u;refine⟨j,rfl,λw c=>⟨w,0,j,rfl,aI,⟨by lia,by lia,y.2,by lia⟩,by lia,λl g=>?_⟩⟩;have e:=s.trans<|Evo.side s.hp (o:=.rng 0 j) c;have C:(j-0).toNat=j.toNat:=by lia
     rw[C];exact k l J _ (e.trans<|Evo.side e.hp g) ⟨⟨e.back I.toDHp g,(e.hp.free g).1⟩,_,aI,zI 0 _⟩
    ·cases h
   |_=>cases h
noncomputable def zH(i:Nat)(g:Dl):DF->Option RES:=λa=>match a[i]? with
 |some (some<|.own (.lst ds) t)=>(g a).bind λe=>if ds.length+e.length<=16777216 then some (.nx<|a.set i<|some<|.own (.lst<|ds++e) t)else none
 |_=>none
def AI i{g:Dl}(h:PE X o (eD i))(S:PDO X e (asL g))(j:attributeBase o "extend" X.env (eval o X.env)=eval o X.env:=by rfl)
  (m:((backTo cpos<|starEach [e] X.env).all (λx=>!x.1)&&(backToKw cpos<|keywordEach [] X.env).all (λx=>x.1.isSome)
   && decide (([e]).length+([]:List Keyword).length+(if([]:List Keyword).isEmpty then 0 else 1)<30))=true:=by rfl)
  (f:(apos.endLine == cpos.line)=true:=by rfl) (hs:starEach [e] X.env=[(false,eval e X.env)]:=by rfl) (y:swapsWith (.Call (.Attribute o "extend" apos) [e] [] cpos) none pos.line X.env=pure false:=by rfl) :
  PD1 X (.Expr (.Call (.Attribute o "extend" apos) [e] [] cpos) pos) (zH i g):=
 PS.imp (ib (oJ ZN PySem.F.slot_list_extend PySem.F.type_list_extend zU h (aR S bK hs) j m f hs rfl) y) λE M H=>un7 λP F z r c I k=>by
  unfold zH at c;split at c
  ·rename_i ds t q;cases w:g z with
   |none=>rw[w]at c;cases c
   |some p=>
    rw[w,Ya]at c;split at c
    ·rename_i R;cases c;obtain⟨a,A,J,T,Z,C,B⟩:=n_ I q;refine⟨_,J,.inl ⟨rfl,A,SqL.of C⟩,P,F,z,.lst p,by unfold asL;rw[w];rfl,I,λb L H1 s Q=>?_⟩;obtain⟨⟨n1,n2⟩,u,N,l⟩:=Q;cases u with
     |lst ws=>
      obtain⟨O,Y⟩:=s.keep a _ C T;have U:=I.evo s;refine⟨a,b,A,ws,rfl,rfl,O,N,by rwa[YY,B.length,l.length],k M L _ s.ext ?_⟩;exact U.mut q rfl rfl J<|(B.same s.ext).append l
     |_=>exact l.elim
    ·cases c
  ·cases c
noncomputable def yf(n:Nat):D->Option Nat
 |.int k=>if -(2^63)<=k/\k<2^63 then seqIndex? k n else none
 |_=>none
noncomputable def xA(j:Nat)(f:Dd):DF->Option (DF×D):=λa=>match a[j]? with
 |some (some<|.own (.lst ds) t)=>(f a).bind λb=>(yf ds.length b).bind λk=>(ds[k]?).map λd=>(a.set j<|some<|.own (.lst<|ds.eraseIdx k) t,d)
 |_=>none
def Fb{Q}{F}{d}(h:xA j f ρ=some (ρ',d))(I:DInv K P F H ρ σ)(k:∀v F' H',Same F F'->DInv K P F' H' ρ' σ->Rep K F' v d->Q v H') :
  tBM K "list" DT (eD j) (oS (tD K f) wc) σ H Q:=by
 unfold xA at h;split at h
 ·rename_i o t q;cases m:f ρ with
  |none=>rw[m]at h;cases h
  |some B=>
   rw[m,Ya]at h;cases c:yf o.length B with
   |none=>rw[c]at h;cases h
   |some e=>
    rw[c,Ya]at h;cases l:o[e]? with
    |none=>rw[l]at h;cases h
    |some S=>
     rw[l]at h;cases h;cases B with
     |int i=>
      have b:(if -(2^63)<=i/\i<2^63 then seqIndex? i o.length else none)=some e:=c;split at b
      ·rename_i w;obtain⟨a,p,A,M,R,z,x⟩:=n_ I q;refine⟨_,A,.inl ⟨rfl,p,SqL.of z⟩,P,F,ρ,_,m,I,λv N T g J=>?_⟩;cases J;obtain⟨L,O⟩:=g.keep a _ z M;have s:=x.same g.ext;obtain⟨y,E,C⟩:=s.get l;refine⟨a,p,i,e,y,rfl,rfl,L,w.1,w.2,by rwa[x.length],E,?_⟩;exact k y N _ g.ext ((I.evo g).mut q rfl rfl A<|s.eraseIdx e) C
      ·cases b
     |_=>cases c
 ·cases h
noncomputable def iw(i j:Nat)(f:Dd):DF->Option RES:=λa=>(xA j f a).bind λr=>match r.1[i]? with
 |some (some<|.own (.lst ds) t)=>if i≠j/\ds.length<16777216 then some (.nx<|r.1.set i<|some<|.own (.lst<|ds++[r.2]) t)else none
 |_=>none
def AK i j(ho:PE X o (eD i))(hr:PE X r (eD j))(ha:PDE X e f)(p:attributeBase o "append" X.env (eval o X.env)=eval o X.env:=by rfl)(g:attributeBase r "pop" X.env (eval r X.env)=eval r X.env:=by rfl)
  (m:((backTo cpos'<|starEach [e] X.env).all (λx=>!x.1)&&(backToKw cpos'<|keywordEach [] X.env).all (λx=>x.1.isSome)
   && decide (([e]).length+([]:List Keyword).length+(if([]:List Keyword).isEmpty then 0 else 1)<30))=true:=by rfl)
  (w:((backTo cpos<|starEach [.Call (.Attribute r "pop" apos') [e] [] cpos'] X.env).all (λx=>!x.1)&&(backToKw cpos<|keywordEach [] X.env).all (λx=>x.1.isSome)
   && decide (([.Call (.Attribute r "pop" apos') [e] [] cpos']:List Expr).length+([]:List Keyword).length+(if([]:List Keyword).isEmpty then 0 else 1)<30))=true:=by rfl)
  (l:(apos.endLine == cpos.line)=true:=by rfl) (c:(apos'.endLine == cpos'.line)=true:=by rfl) (s:starEach [e] X.env=[(false,eval e X.env)]:=by rfl)
  (hs:starEach [.Call (.Attribute r "pop" apos') [e] [] cpos'] X.env=[(false,eval (.Call (.Attribute r "pop" apos') [e] [] cpos') X.env)]:=by rfl) (K:swapsWith (.Call (.Attribute o "append" apos) [.Call (.Attribute r "pop" apos') [e] [] cpos'] [] cpos) none pos.line X.env=pure false:=by rfl) :
  PD1 X (.Expr (.Call (.Attribute o "append" apos) [.Call (.Attribute r "pop" apos') [e] [] cpos'] [] cpos) pos) (iw i j f):=
 PS.imp (ib (oJ ZN XC Vv jp ho (aR (oJ ZN PySem.F.slot_list_pop PySem.F.type_list_pop C5 hr (aR ha bK s) g m c s rfl) bK hs) p w l hs rfl) K) λE U H=>un7 λP F B res h I k=>by
  obtain⟨pr,q,h⟩:=YE.mp h;split at h
  ·rename_i ds t A;split at h
   ·rename_i Q;cases h
    have J:B[i]?=some (some<|.own (.lst ds) t):=by
     have b:=q;unfold xA at b;split at b
     ·rename_i y t' qj;obtain⟨dk,O,b⟩:=YE.mp b;obtain⟨kk,N,b⟩:=YE.mp b;obtain⟨d',M,rfl⟩:=XU.mp b;rwa[Zy λz=>Q.1 z.symm]at A
     ·cases b
    obtain⟨a,Y,L,h2,h3,h4,h5⟩:=n_ I J;refine⟨_,L,.inl ⟨rfl,Y,SqL.of h4⟩,?_⟩;refine Fb q I λv F' H' e T Z=>?_;obtain⟨a',C,S,g2,g3,g4,R⟩:=n_ T A;rw[L]at S;cases S;refine⟨a,C,v,rfl,rfl,g4,by rw[YY,R.length];exact Q.2,k U F' _ e ?_⟩;exact T.mut A rfl rfl L<|R.append<|.one Z
   ·cases h
  ·cases h
end
theorem zN{k k'}{vs:List (Key×V)}:eK ((k',v)::vs) k=if k'=k then some v else eK vs k:=by unfold eK;grind
def RepsK.val{vs}{ds}(h:RepsK K H vs ds):(eK vs k=none/\dn ds k=none)\/∃v d,eK vs k=some v/\dn ds k=some d/\Rep K H v d:=
 RepsK.ind (M:=λvs ds=>(eK vs k=none/\dn ds k=none)\/∃v d,eK vs k=some v/\dn ds k=some d/\Rep K H v d) (.inl ⟨rfl,rfl⟩) (λ{a v d vs ds} h _ ih=>by
  rw[zN,cw];by_cases q:a=k
  ·rw[Yj q,Yj q];exact .inr ⟨v,d,rfl,rfl,h⟩
  ·rwa[Yl q,Yl q]) h
def RepsK.any{vs}{ds}(h:RepsK K H vs ds):(vs.any λa=>decide (a.1=k))=ds.any λa=>decide (a.1=k):=
 RepsK.ind (M:=λvs ds=>(vs.any λa=>decide<|a.1=k)=ds.any λa=>decide<|a.1=k) rfl (λ_ _ ih=>by rw[XI,XI,ih]) h
def RepsK.map(f:Rep K H v d){vs}{ds}(h:RepsK K H vs ds):RepsK K H (vs.map λa=>if a.1=k then(a.1,v)else a) (ds.map λa=>if a.1=k then(a.1,d)else a):=
 RepsK.ind (M:=λvs ds=>RepsK K H (vs.map λa=>if a.1=k then(a.1,v)else a)<|ds.map λa=>if a.1=k then(a.1,d)else a) .nil (λ{b c e vs ds} h _ ih=>by
  rw[YH,YH];by_cases q:b=k
  ·rw[Yj<|show(b,c).1=k from q,Yj<|show(b,e).1=k from q];exact .cons f ih
  ·rw[Yl<|show ¬(b,c).1=k from q,Yl<|show ¬(b,e).1=k from q];exact .cons h ih) h
def RepsK.snoc(a:Rep K H v d){vs}{ds}(h:RepsK K H vs ds):RepsK K H (vs++[(k,v)]) (ds++[(k,d)]):=
 RepsK.ind (M:=λvs ds=>RepsK K H (vs++[(k,v)])<|ds++[(k,d)]) (.cons a .nil) (λh _ ih=>.cons h ih) h
def RepsK.put{vs}{ds}(a:Rep K H v d)(r:RepsK K H vs ds):RepsK K H (h9 vs k v) (e7 ds k d):=by
 unfold h9 e7;rw[r.any];split
 ·exact r.map a
 ·exact r.snoc a
def RepsK.length{vs}{ds}(h:RepsK K H vs ds):vs.length=ds.length:=RepsK.ind (M:=λvs ds=>vs.length=ds.length) rfl (λ_ _ ih=>YR Nat.succ ih) h
def E4{y}(r:Rep K F y dy)(h:iP dy=some k):y=kV k:=by
 cases dy with
 |int i=>cases h;cases r;rfl
 |str i=>cases h;cases r;rfl
 |_=>cases h
def IF{x}{ds}(I:DInv K P F H ρ σ)(r:RepS K H F x (.dK ds)):∃a vs,x=.ref a/\H a=some (.dK vs)/\RepsK K F vs ds:=by
 rcases r with r|⟨a,o,u,rfl,_,h3,h4,hfl,z⟩
 ·cases r with|dK h q=>exact⟨_,_,rfl,I.sub _ _ h,q⟩
 ·cases o with
  |dK ds'=>
   cases z;cases u with
   |dK vs=>exact⟨a,vs,rfl,h3,h4⟩
   |_=>exact h4.elim
  |lst2 _=>cases hfl
  |tup2 _=>cases hfl
  |obj _ _=>cases hfl
  |_=>cases z
section
variable  {a i f:Expr}  {fd fk:Dd}
noncomputable def lc(j:Nat)(fk fv:Dd):DF->Option RES:=λa=>match a[j]? with
 |some (some<|.own (.dK kvs) t)=>(fv a).bind λv=>(fk a).bind λy=>(iP y).bind λk=>if kvs.length<16777216 then some (.nx<|a.set j<|some<|.own (.dK<|e7 kvs k v) t)else none
 |_=>none
def D3 j(Z:X.A.units+64<cLine)(L:PE X o (eD j))(hi:PDE X i fk)(hv:PDE X e fv)(hs:swapsWith e (some (.Subscript o i pos')) pos.line X.env=pure false:=by rfl):PD1 X (.Assign [.Subscript o i pos'] e pos) (lc j fk fv):=
 PS.imp (yX (by lia) L hi hv hs) λE z H=>un7 λP F c r h I k=>by
  unfold lc at h;split at h
  ·rename_i m t q;cases f:fv c with
   |none=>rw[f]at h;cases h
   |some dv=>
   rw[f,Ya]at h;cases l:fk c with
   |none=>rw[l]at h;cases h
   |some O=>
   rw[l,Ya]at h;cases g:iP O with
   |none=>rw[g]at h;cases h
   |some U=>
   rw[g,Ya]at h;split at h
   ·rename_i M;cases h;obtain⟨v,s,p,rfl,⟨⟨R,a2,_⟩,u,Q,b⟩,_⟩:=I.at q;cases u with
    |dK vs=>
     refine⟨P,F,c,_,f,I,λv T H1 x C=>⟨_,s,P,T,c,_,l,I.evo x,λy S H2 w B=>?_⟩⟩;have a:=x.trans w;obtain⟨J,Y⟩:=a.keep p _ Q R;have N:=E4 B g;subst N;refine⟨p,_,rfl,DPut.k J<|by rwa[YY,b.length],k z S _ a.ext ?_⟩;exact(I.evo a).mut q rfl rfl s<|(RepsK.same a.ext b).put<|C.same w.ext
    |_=>exact b.elim
   ·cases h
  ·cases h
end
theorem Room.h64(r:Room k A):A.units+64<cLine:=by have:=r.un;lia
noncomputable def E3(sc0 scope:Scope):Bool:=scope.kind == .function&&(scope.names.map (·.1)).Nodup&&(scope.names.all λx=>x.2 != .free||(sc0.names.lookup x.1 == some .cell||sc0.names.lookup x.1 == some .free))
def GV s(e:X.env.scope=s)(h:E3 s scope=true):BlkScope X scope:=by
 unfold E3 at h;simp only[Yu,YG]at h;obtain⟨⟨g,f⟩,c⟩:=h;refine⟨by simpa using g,f,λx a b=>?_⟩;have:=Yi.mp c x a;rw[b]at this;have i:X.env.kindOf x.1=s.names.lookup x.1:=by show X.env.scope.names.lookup x.1=_;rw[e]
 rw[i];simpa using this
def EI(a:List Str)(scope:Scope)(N:List Str)(own:Nat)(ix:List Nat):Bool:=
 decide (N.length=own+ix.length)&&(List.range ix.length).all λi=>match N[own+i]?,ix[i]? with
  |some x,some j=>a[j]? == some x&&scope.names.lookup x == some .free
  |_,_=>true
def G5 b(e:X.N=b)(h:EI b scope N own ix=true):Caps X scope N own ix:=by unfold EI at h;rw[Yu,YG]at h;refine⟨h.1,λi j x f a=>?_⟩;have c:=(Yn.mp a).1;have:=Yi.mp h.2 i<|YU.mpr c;rw[f,a]at this;simp at this;rwa[e]
def cQ:pX X [] (tB' X.K bi):=λp s a H Q I h=>by
 obtain⟨P,F,e,b,c,J,k⟩:=h;cases c;exact DZ p s a H Q I<|k F H<|Evo.refl J.toDHp
def yS{f:Dk}(h:PDT X c f):pX X [c] (tB' X.K f):=Dh h
def B6(h:(is.all λj=>decide (j<own))=true):∀j∈is,j<own:=λj m=>YN<|Yi.mp h j m
def FG{f:Do}:∀σ H Q,tD K (asO f) σ H Q->tO K f σ H Q:=λσ H Q=>un7 λP F c d h I k=>by
 unfold asO at h;cases q:f c with
 |none=>rw[q]at h;cases h
 |some o=>
  rw[q]at h;cases h;refine⟨P,F,c,o,q,I,λa l j i e=>?_⟩;exact k _ _ j (i.freeze I.toDHp _ λ_ q=>q)<|e.rep (cS λb q=>q.2) λb u q g=>by rwa[gc q]
section
variable{X:Cx}{tg iter elt:Expr}{ifs:List Expr}{scope:Scope}{pos:Pos}{N:List Str}{own:Nat}{ix is:List Nat}{f:Dl}{st:Dq}{c:Dk}{e:Dd}
def il{y}(hN:X.N.Nodup)(hiN:X.N[i]?=some y)(hx:Loc X.env.scope y)(hcalm:X.calm=true)(b:BlkScope X scope)(cp:Caps X scope N own ix)(his:∀j∈is,j<own)(hi:PDI X tg iter f)
  (m:∀s H fp pz,PDG (blk X scope N s H fp pz) tg is st) (p:∀s H fp pz,pX (blk X scope N s H fp pz) ifs<|tB' X.K c) (he:∀s H fp pz,PDE (blk X scope N s H fp pz) elt e)
  (hnames:∀y∈scope.names,y.2=.local->scope.names.lookup y.1=some .local)
  (h:swapsWith (.ListComp elt [⟨tg,iter,ifs,0⟩] scope pos) (some<|.Name y py) spos.line X.env=pure true:=by rfl)
  (l:∀x,foldedSetIterable iter X.env x=pure x:=by intro _;rfl)
  (o:X.fn y=true\/X.env.scope.names.lookup y=some .local:=by first|exact .inl rfl|exact .inr rfl|assumption) :
  PD1 X (.Assign [.Name y py] (.ListComp elt [⟨tg,iter,ifs,0⟩] scope pos) spos) (bH i<|asL<|aN own ix f st c e):=
 PS.imp (wz (g:=tG X.K is st) (te:=tD X.K e) hcalm hN hiN hx b cp hi m p he h hnames l o) λE a H q=>zm his a H _<|Hw E a H q
end
section
variable       {own:Nat}{ix:List Nat}{f:Dl}{st:Dq}{c:Dk}{e:Dd}
def wO{y}(hN:X.N.Nodup)(hiN:X.N[i]?=some y)(hx:Loc X.env.scope y)(hcalm:X.calm=true)(b:BlkScope X scope)(cp:Caps X scope N own ix)(his:∀j∈is,j<own)(hi:PDI X tg iter f)
  (l:∀s H fp pz,PDG (blk X scope N s H fp pz) tg is st) (o:∀s H fp pz,pX (blk X scope N s H fp pz) ifs<|tB' X.K c) (he:∀s H fp pz,PDE (blk X scope N s H fp pz) elt e)
  (hnames:∀y∈scope.names,y.2=.local->scope.names.lookup y.1=some .local)
  (h:swapsWith (.ListComp elt [⟨tg,iter,ifs,0⟩] scope pos) (some<|.Name y py) spos.line X.env=pure true:=by rfl)
  (hs:FsI iter X:=by intro _;rfl)
  (m:FnL X y:=by trivial) :
  PD1 X (.Assign [.Name y py] (.ListComp elt [⟨tg,iter,ifs,0⟩] scope pos) spos) (ay i<|asO<|asL<|aN own ix f st c e):=
 PS.imp (wz (g:=tG X.K is st) (te:=tD X.K e) hcalm hN hiN hx b cp hi l o he h hnames hs m) λE a H q=>zm his a H _<|FG a H _<|DC E a H q
end
def J3(n p:Nat)(g:Dw)(o:OD)(xs:List DV)(q:OD×D):Prop:=xs.length+1=p/\q.1.flat=true/\∀a,∃r,g (aH n p (.own o (some a)::xs))=some r/\mC a q.1 q.2 r
noncomputable def xF (n p:Nat)(g:Dw)(o:OD)(xs:List DV):Option (OD×D):=
 open Classical in if h:∃q,J3 n p g o xs q then some h.choose else none
def EU{n p} :∀a o xs o' d,xF n p g o xs=some (o',d)->xs.length+1=p/\o'.flat=true/\∃r,g (aH n p (.own o (some a)::xs))=some r/\mC a o' d r:=by
 intro a o xs o' d h;unfold xF at h;split at h
 ·rename_i e;obtain⟨f,c,b⟩:=e.choose_spec;rw[Yv h]at c b;exact⟨f,c,b a⟩
 ·cases h
def qX{o}(h:mC a o d r)(h':mC a o' d' r):(o,d)=(o',d'):=by
 cases r with
 |nx ρ=>obtain⟨f,e⟩:=h;obtain⟨b,c⟩:=h';rw[f]at b;cases b;rw[e,c]
 |rt x ρ=>obtain⟨f,e⟩:=h;obtain⟨b,c⟩:=h';rw[e]at c;cases c;rw[f]at b;cases b;rfl
 |bk ρ=>cases h
 |ct ρ=>cases h
def yI{n p}{o}(f:xs.length+1=p)(i:o'.flat=true)(h:∀a,∃r,g (aH n p (.own o (some a)::xs))=some r/\mC a o' d r):xF n p g o xs=some (o',d):=by
 have b:∃q,J3 n p g o xs q:=⟨(o',d),f,i,h⟩
 unfold xF;rw[dif_pos b];obtain⟨_,_,j⟩:=b.choose_spec;obtain⟨r,e,q⟩:=j 0;obtain⟨m,l,c⟩:=h 0;rw[l]at e;cases e;exact YR some<|qX q c
end L2
namespace L2
open PySem PySem.Spec PySem.Calls PySem.W PyProof.Rows Builtin Builtin.ObjectAttr Builtin.Getset_descriptor
section
variable  {e:Addr}     
end
end L2
namespace L2
open PySem PySem.Spec PySem.Calls PySem.W PyProof.Rows
section
variable{P:Program}              {E:XK}
end
section
variable    {p3 p4:Pos}
end
section
variable{P:Program}         {cl:Nat->Addr}      {E:XK}
end
section
variable  {cl:Nat->Addr}{E:XK}  {bW sts:List Stmt} 
end
end L2
namespace L2
open PySem PySem.Spec PyProof.Rows
end L2
namespace L2
open PySem PySem.Spec PySem.Calls PySem.W PyProof.Rows PySem.Builtin PySem.Builtin.Str
end L2
namespace L2
open PySem PySem.Spec PySem.Calls PySem.W PyProof.Rows
section
variable  {e':Expr}{k0 k1:_}{p0 s0 s1:Pos}
end
section
variable  {k:Nat}       
end
section
variable  {A3:Addr}    {c3:Str}{b1 b2 b3:Bool}
end
end L2
namespace L2
open PySem PySem.Spec PyProof.Rows
section
variable  {a:Expr} 
end
end L2
namespace L2
open PySem PySem.Spec PySem.Calls PySem.W PyProof.Rows
section
variable  {a:Expr} 
end
section
variable       {b1 b2:Bool}{t t0 t1 t2 t3:Str}
end
end L2
namespace L2
open PySem PySem.Spec PyProof.Rows
def isI:D->Bool
 |.int _=>true
 |_=>false
def toI:D->Int
 |.int i=>i
 |_=>0
def lL:∀{vs}{ds},Reps K F vs ds->ds.all isI=true->vs=(ds.map toI).map V.int:=by
 intro vs ds h;refine Reps.ind (M:=λvs ds=>ds.all isI=true->vs=(ds.map toI).map V.int) (λ_=>rfl) (λ{v d vs ds} r _ ih q=>?_) h;rw[List.all_cons,Yu]at q;cases d with
 |int i=>
  cases r;rw[ih q.2];rfl
 |_=>cases q.1
def fi:Stmt->Str
 |.FunctionDef n _ _ _ _ _ _ _ _ _=>n
 |_=>Str.empty
def d8(s:Stmt):List Str:=(defArgs s).args.map (·.arg)
def ID{b:Type}:Nat->(List b->Prop)->Prop
 |0,P=>P []
 |n+1,P=>∀a,ID n λl=>P (a::l)
theorem Bo{b}:∀{n}{P:List b->Prop},ID n P->∀us,us.length=n->P us
 |0,_,h,us,e=>by rwa[Zo.mp e]
 |n+1,_,h,us,e=>by
  cases us with
  |nil=>cases e
  |cons a l=>exact Bo (h a) l<|VT e
noncomputable def fnD(q:Str)(st:Stmt)(pm:Value)(c:Addr):FuncData:=PySem.W.fnOf (fi st) q (defArgs st) (defBody st) (defScope st) .none .none .none pm none (.ref c) .none
def fO(q:Str)(st:Stmt)(pm:Value)(c:Addr):Obj:=⟨.type "function",none,.func<|fnD q st pm c,#[]⟩
def La(q:Str)(st:Stmt)(pm:Value)(c:Addr):Prop:=ID (d8 st).length λu=>bindArgs (fnD q st pm c) ⟨u,[]⟩=pure ((d8 st).zip u)
structure Df (K:PySem.W.Frag) (q:Str) (st:Stmt) (f:Addr) (d:FuncData):Prop where
 fn:Fun K (fi st) q st f d
 bd:Binds K d (d8 st) []
def K_{q}{c}(l:K.lookup f=some (fO q st pm c))(h:PySem.W.codeIn K (.ref c) q=true)(k:PySem.W.keepIn K (.ref f)=true)(b:La q st pm c):Df K q st f (fnD q st pm c):=
 ⟨Hr l h k,.all<|Bo b⟩
noncomputable def xw(N P:List Str)(sc:Scope):Bool:=decide (sc.kind=.function)&&!sc.isCoroutine&&!sc.isGenerator&&decide N.Nodup&&decide (N.take P.length=P)&&(P.all λx=>sc.names.lookup x == some .local||sc.names.lookup x == some .cell)&&sc.names.all λy=>y.2 != .free
def scI N{P}{s}(h:xw N P s=true:=by kernel_rfl):FnScope N P s:=by unfold xw at h;simp only[Yu,YG,Bool.not_eq_true',Yi,Bool.or_eq_true,Vu,bne_iff_ne]at h;obtain⟨⟨⟨⟨⟨⟨i,g⟩,f⟩,e⟩,c⟩,b⟩,a⟩:=h;exact⟨i,g,f,e,c,b,a⟩
section
variable{P:Program}     {q:Str}    {k:Nat} 
def Df.okI(F:Df K q st f fd) N (b:∀{cdv}{A}{outer}{s}{H}{E},Room k (A.deeper (envOfC q (defScope st) s.heap.objs.size f cdv))->
      PDS (gA CX0 P w K mg base N q (defScope st) f cdv A outer s H E).nox (defBody st) g) (h:xw N (d8 st) (defScope st)=true:=by kernel_rfl):FnOk P w K mg base CX0 (k+1) f fd (d8 st) (spD K (mOf N.length (d8 st).length g)):=
  F.fn.okD (scI N h) λ_ _ _ _ _ _ a=>b a
def Df.okJ(F:Df K q st f fd) N (b:∀{cdv}{A}{outer}{s}{H}{E},Room k (A.deeper (envOfC q (defScope st) s.heap.objs.size f cdv))->
      PDS (gA CX0 P w K mg base N q (defScope st) f cdv A outer s H E).nox (defBody st) g) (h:xw N (d8 st) (defScope st)=true:=by kernel_rfl):FnOk P w K mg base CX0 (k+1) f fd (d8 st) (spM K (xF N.length (d8 st).length g)):=
  F.fn.okM (scI N h) EU λ_ _ _ _ _ _ a=>b a
end
section
variable    (i:Nat)
def ndI(h:decide N.Nodup=true:=by kernel_rfl):N.Nodup:=YN h
section
variable(hN:X.N[i]?=some x:=by rfl) (hv:Vis X.env.scope x:=by first|exact Or.inl rfl|exact Or.inr (Or.inl rfl)|exact Or.inr (Or.inr rfl)) (hd:nDb x:=by decide) (hcd:nDc x:=by decide)
include hN hv hd hcd
def aE:PDE X (.Name x pos) (getV i):=H_ i<|pv i hN hv hd hcd
def aq:PDR X (.Name x pos) (af i):=HN i<|pv i hN hv hd hcd
def be:PDN X (.Name x pos) (am i):=Jb i<|pv i hN hv hd hcd
def z9:rY X (.Name x pos) (cD i):=Gx i<|pv i hN hv hd hcd
def iQ:PDI X tg (.Name x pos) (cg i):=FE i<|pv i hN hv hd hcd
end
def ba{g}(h:jL X es g)(hN:X.N[i]?=some x:=by rfl)(hv:Vis X.env.scope x:=by trivial)(hd:nDb x:=by decide)(hcd:nDc x:=by decide)
  (hs:starEach (.Name x pos::es) X.env=(false,eval (.Name x pos) X.env)::starEach es X.env:=by rfl):jL X (.Name x pos::es) (aB i g):=Kz i (pv i hN hv hd hcd) h hs
section
variable   {f:Dd} 
def bX(he:PDE X e f)(hi:X.N[i]?=some x:=by rfl)(hx:Loc X.env.scope x:=by trivial)(hs:swapsWith e (some (.Name x pos')) pos.line X.env=pure false:=by rfl)(h:FnL X x:=by trivial)(hN:decide X.N.Nodup=true:=by kernel_rfl) :
  PD1 X (.Assign [.Name x pos'] e pos) (ay i f):=Ip (ndI hN) hi hx he hs h
def iz(he:PDO X e fo)(hi:X.N[i]?=some x:=by rfl)(hx:Loc X.env.scope x:=by trivial)(hs:swapsWith e (some (.Name x pos')) pos.line X.env=pure false:=by rfl)(h:FnL X x:=by trivial)(hN:decide X.N.Nodup=true:=by kernel_rfl) :
  PD1 X (.Assign [.Name x pos'] e pos) (bH i fo):=FW (ndI hN) hi hx he hs h
end
def cA(hi:X.N[i]?=some x:=by rfl)(hx:Loc X.env.scope x:=by trivial)(h:FnL X x:=by trivial)(hN:decide X.N.Nodup=true:=by kernel_rfl):PDG X (.Name x pos) [i] (setV i):=CT (ndI hN) hi hx h
def pgI(hi:X.N[i]?=some x:=by rfl)(hx:Loc X.env.scope x:=by trivial)(h:FnL X x:=by trivial)(hN:decide X.N.Nodup=true:=by kernel_rfl):PG X (.Name x pos) (lW i):=yG (ndI hN) hi hx h
end
section
variable      {f:Dl}{st:Dq}{c:Dk}{e:Dd}{y:Str}  (i:Nat) (N:List Str) (own:Nat) (ix is:List Nat) (hi:PDI X tg iter f)
  (hg:∀{s H fp pz},PDG (blk X scope N s H fp pz) tg is st) (hc:∀{s H fp pz},pX (blk X scope N s H fp pz) ifs (tB' X.K c)) (he:∀{s H fp pz},PDE (blk X scope N s H fp pz) elt e)
section
variable(hcalm:X.calm=true:=by rfl) (b:E3 X.env.scope scope=true:=by kernel_rfl) (cp:EI X.N scope N own ix=true:=by kernel_rfl) (his:(is.all λj=>decide (j < own))=true:=by kernel_rfl) (hnames:decide (∀y∈scope.names,y.2=.local->scope.names.lookup y.1=some .local)=true:=by kernel_rfl)
  (hs:FsI iter X:=by intro _;rfl)
include hi hg hc he hcalm b cp his hnames hs
def gj:PDO X (.ListComp elt [⟨tg,iter,ifs,0⟩] scope pos) (asL (aN own ix f st c e)):=
 Cw hcalm (GV _ rfl b) (G5 _ rfl cp) (B6 his) hi (λ_ _ _ _=>hg) (λ_ _ _ _=>hc) (λ_ _ _ _=>he) (YN hnames) hs
end
section
variable(hiN:X.N[i]?=some y:=by rfl) (hx:Loc X.env.scope y:=by first|exact .inl rfl|exact .inr rfl) (hN:decide X.N.Nodup=true:=by kernel_rfl) (hcalm:X.calm=true:=by rfl) (b:E3 X.env.scope scope=true:=by kernel_rfl) (cp:EI X.N scope N own ix=true:=by kernel_rfl) (his:(is.all λj=>decide (j < own))=true:=by kernel_rfl) (hnames:decide (∀y∈scope.names,y.2=.local->scope.names.lookup y.1=some .local)=true:=by kernel_rfl)
  (hsw:swapsWith (.ListComp elt [⟨tg,iter,ifs,0⟩] scope pos) (some (.Name y py)) spos.line X.env=pure true:=by rfl)
  (hs:FsI iter X:=by intro _;rfl) (hf:FnL X y:=by first|exact .inl rfl|exact .inr rfl|assumption)
include hf hiN hx hN hi hg hc he hcalm b cp his hnames hs hsw
def wU:PD1 X (.Assign [.Name y py] (.ListComp elt [⟨tg,iter,ifs,0⟩] scope pos) spos) (ay i (asO (asL (aN own ix f st c e)))):=
 wO (ndI hN) hiN hx hcalm (GV _ rfl b) (G5 _ rfl cp) (B6 his) hi (λ_ _ _ _=>hg) (λ_ _ _ _=>hc) (λ_ _ _ _=>he) (YN hnames) hsw hs hf
def NW:PD1 X (.Assign [.Name y py] (.ListComp elt [⟨tg,iter,ifs,0⟩] scope pos) spos) (bH i (asL (aN own ix f st c e))):=
 il (ndI hN) hiN hx hcalm (GV _ rfl b) (G5 _ rfl cp) (B6 his) hi (λ_ _ _ _=>hg) (λ_ _ _ _=>hc) (λ_ _ _ _=>he) (YN hnames) hsw hs hf
end
end
section
variable  {k:Nat}   {q:Str}  {m:Dm}{g:Dv}    
def pcI(G:FnOk X.prog X.w X.K X.mg X.base CX0 k f fd (d8 sd) (spD X.K m))(D:Df X.K q sd f fd/\X.mg (fi sd)=some (.ref f))(a:Room k' X.A)(i:jL X (e::es) g)(hx:fi sd=x:=by rfl)(b:k<=k':=by first|decide|lia)(c:Gl X x:=by rfl)
  (hd:nDb x:=by decide) (he:starEach (e::es) X.env=(false,eval e X.env)::starEach es X.env:=by rfl) (h:(backTo pos<|starEach es X.env).any (·.1)=false:=by rfl):PDE X (.Call (.Name x p) (e::es) [] pos) (al m g):=
 FH G (a.mono b) c (hx ▸ D.2) D.1.fn.kp D.1.bd i hd he h
def poI(G:FnOk X.prog X.w X.K X.mg X.base CX0 k f fd (d8 sd) (spD X.K m))(D:Df X.K q sd f fd/\X.mg (fi sd)=some (.ref f))(a:Room k' X.A)(i:jL X (e::es) g)(hx:fi sd=x:=by rfl)(b:k<=k':=by first|decide|lia)(c:Gl X x:=by rfl)
  (hd:nDb x:=by decide) (he:starEach (e::es) X.env=(false,eval e X.env)::starEach es X.env:=by rfl) (h:(backTo pos<|starEach es X.env).any (·.1)=false:=by rfl):PDO X (.Call (.Name x p) (e::es) [] pos) (l8 m g):=
 DS G (a.mono b) c (hx ▸ D.2) D.1.fn.kp D.1.bd i hd he h
end
def pfI{body}{f}{st}(hi:PDI X tg iter f)(a:PDG X tg is st)(c:PDS X body g)(h:PassesOwn (model X.prog X.w) X.A X.env X.xe:=by exact PassesOwn.never)(b:X.calm=true:=by rfl)
  (hs:FsI iter X:=by intro _;rfl):PD1 X (.For tg iter body [] pos) (dW f st g):=HQ h b hi a c hs
structure Rw where
 (i a m t h c:Nat)
def lno:Stmt->Int
 |.FunctionDef _ _ _ _ _ _ _ _ _ p=>p.line
 |_=>0
def kE(P:Params)(x:Str)(t:Nat)(v:Value):DictEntry:=⟨PyData.keyHash P x,.str x t,v⟩
noncomputable def cO(n q:Str)(t:Nat)(l a:Int)(r:Nat)(c:Bool)(h:Nat)(f:Int):Obj:={cls:=.type "code",data:=.fields #[.str n t,.str q<|t+1,.str "/claim/cut.py"<|t+2,.int l 0,.int a 0,.int 0 0,.int 0 0,.int 3 0,.ref r,.bool true,.int f 0,.ref<|r+1,.none,if c then .ref (r+2)else .none,if c then .ref (r+3)else .none,.ref<|if c then r+4 else r+2,.int h 0,.int l 0,.str "/claim/cut.py"<|h+1]}
abbrev DX:=DF->Option (D×DF)
def tX(K:Kq)(f:DX):TE:=λb H Q=>∃P F c r,f c=some r/\DInv K P F H c b/\∀v a e,Same F a->DInv K P a e r.2 b->Rep K a v r.1->Q v e
def PX(X:Cx)(e:Expr)(f:DX):Prop:=PE X e<|tX X.K f
noncomputable def aZ (f:Dd):DX:=λρ=>(f ρ).map (·,ρ)
def a_{e c:Type}{o}{f:e->c}{b}(h:o.map f=some b):∃a,o=some a/\b=f a:=by obtain⟨a,i,g⟩:=XU.mp h;exact⟨a,i,g.symm⟩
section
variable    {f:DX}
def eR{g:Dd}(h:PDE X e g):PX X e (aZ g):=PE.imp h λl H Q=>un7 λP F b r f I k=>by
 obtain⟨d,q,rfl⟩:=a_ f;exact⟨P,F,b,d,q,I,λv j i a c=>k v j i a.ext (I.evo a) c⟩
noncomputable def rN(i:Nat)(f:DX):DF->Option RES:=λa=>(f a).map λr=>.nx<|r.2.set i<|some<|.v r.1
def Ml i(he:PX X e f)(hi:X.N[i]?=some x:=by rfl)(hx:Loc X.env.scope x:=by trivial)(hs:swapsWith e (some (.Name x pos')) pos.line X.env=pure false:=by rfl)(c:FnL X x:=by trivial)(hN:decide X.N.Nodup=true:=by kernel_rfl) :
  PD1 X (.Assign [.Name x pos'] e pos) (rN i f):=PS.imp (wQ (ndI hN) hi hx he hs c) λE o H=>un7 λP F a r h I k=>by
 obtain⟨d,q,rfl⟩:=a_ h;exact⟨P,F,a,d,q,I,λv m l g j b=>k _ m l g<|j.setV i b⟩
noncomputable def vI(f:DX):DF->Option RES:=λa=>(f a).map λr=>.rt (.v r.1) r.2
def GG(h:PX X e f):PD1 X (.Return (some e) pos) (vI f):=PS.imp (tQ h) λE a H=>un7 λP F b r g I k=>by
 obtain⟨d,q,rfl⟩:=a_ g;exact⟨P,F,b,d,q,I,λv m l i j c=>k v a m l i j c⟩
noncomputable def du(f:DX):DF->Option RES:=λa=>(f a).map λr=>.nx r.2
def km(h:PX X e f)(hs:swapsWith e none pos.line X.env=pure false:=by rfl):PD1 X (.Expr e pos) (du f):=PS.imp (ib h hs) λE a H=>un7 λP F b r c I k=>by
 obtain⟨d,q,rfl⟩:=a_ c;exact⟨P,F,b,d,q,I,λv l j g i _=>k a l j g i⟩
end
def spO(K:Kq)(f:Dz):Sp:=λi H Q _=>∃P F a c o x h d,i=.ref a::c/\f o x=some (h,d)/\DHp P F H/\ORep K F H (λb=>F b=none/\P b=none) o a/\DVs K P F H x c /\
 ∀v e g,Same F e->DHp P e g->ORep K e g (λb=>e b=none/\P b=none) h a->Rep K e v d->Q v g
def I9(n p:Nat)(g:Dw)(o:OD)(xs:List DV)(q:OD×D):Prop:=xs.length+1=p/\∀a,∃r,g (aH n p (.own o (some a)::xs))=some r/\mC a q.1 q.2 r
noncomputable def pU (n p:Nat)(g:Dw)(o:OD)(xs:List DV):Option (OD×D):=
 open Classical in if h:∃q,I9 n p g o xs q then some h.choose else none
def yW{n p}{o}{q}(h:pU n p g o xs=some q):I9 n p g o xs q:=by
 unfold pU at h;split at h
 ·rename_i a;rw[<-Yv h];exact a.choose_spec
 ·cases h
def j_{n p}{o}(f:xs.length+1=p)(h:∀a,∃r,g (aH n p (.own o (some a)::xs))=some r/\mC a o' d r):pU n p g o xs=some (o',d):=by
 have b:∃q,I9 n p g o xs q:=⟨(o',d),f,h⟩
 unfold pU;rw[dif_pos b];obtain⟨_,i⟩:=b.choose_spec;obtain⟨r,e,q⟩:=i 0;obtain⟨l,j,c⟩:=h 0;rw[j]at e;cases e;exact YR some<|qX q c
def DInv.startO{o}N p(h:DHp P F H)(j:ORep K F H (λb=>F b=none/\P b=none) o a)(r:DVs K P F H xs vs)(l:xs.length+1=p) :
  DInv K P F H (aH N.length p (.own o (some a)::xs)) (L2.start N (.ref a::vs)):=by
 refine⟨h,?_,λ_=>some 0,λi x e=>?_⟩
 ·unfold aH L2.start;rw[Yp,Yp,Yc,Yc,YL,YL,Yt,Yt,<-r.length,l]
 ·have g:=ip e;cases i with
  |zero=>
   cases g;exact⟨.ref a,eP rfl,a,rfl,j.mono (Same.refl _) λb u q m=>⟨m,q.1,q.2,rfl⟩,λb z=>by cases z;rfl⟩
  |succ i=>
   obtain⟨c,v,s,f⟩:=r.get g;refine⟨v,eP<|by simpa using s,?_⟩;cases x with
   |own o t=>cases c
   |v d=>exact f
   |bor o=>exact f
def Fun.okO{P}(F:Fun K x qual st f fd)(S:FnScope N ps (defScope st))
  (l:∀{cdv}{A}{outer}{s}{H}{E},Room k (A.deeper<|envOfC qual (defScope st) s.heap.objs.size f cdv)->
   PDS (gA CX0 P w K mg base N qual (defScope st) f cdv A outer s H E).nox (defBody st) g):FnOk P w K mg base CX0 (k+1) f fd ps (spO K<|pU N.length ps.length g):=by
 refine F.ok S (λX H Q E L=>?_) λcdv A outer s H X Q E Y h=>?_
 ·obtain⟨O,R,a,B,o,U,T,d,e,M,_,_,J,_⟩:=L;rw[e,Yt,<-J.length];exact(yW M).1
 ·refine⟨_,l Y,?_⟩;obtain⟨O,R,a,B,o,U,T,d,rfl,M,hp,ho,J,hQ⟩:=h;obtain⟨hl,Z⟩:=yW M;obtain⟨r,hg,z⟩:=Z a;have I:=DInv.startO N ps.length hp ho J hl;refine⟨O,R,_,r,hg,I,?_⟩;have fin:∀c m i j v,c[0]?=some (some<|.own T<|some a)->Same R i->DInv K O i j c m->Rep K i v d->Q v j:=λc m i j v y e p C=>by
   obtain⟨v',_,a',rfl,h3,h4⟩:=p.at y;have ea:=h4 a rfl;subst ea;exact hQ v i j e p.toDHp (h3.mono (Same.refl _) λb u q hb=>⟨hb,q.1,q.2.1⟩) C
  cases r with
  |nx c=>(obtain⟨y,rfl⟩:=z;exact λm i j e p=>fin c m i j .non y e p .non)
  |rt x c=>(obtain⟨rfl,y⟩:=z;exact λv m i j e p C=>fin c m i j v y e p C)
  |bk c=>exact z.elim
  |ct c=>exact z.elim
def Df.okO{P}     {q}      (F:Df K q st f fd) N (a:∀{cdv}{A}{outer}{s}{H}{E},Room k (A.deeper (envOfC q (defScope st) s.heap.objs.size f cdv))->
      PDS (gA CX0 P w K mg base N q (defScope st) f cdv A outer s H E).nox (defBody st) g) (h:xw N (d8 st) (defScope st)=true:=by kernel_rfl):FnOk P w K mg base CX0 (k+1) f fd (d8 st) (spO K (pU N.length (d8 st).length g)):=
  F.fn.okO (scI N h) a
noncomputable def gdS (F H:Hp)(S:Addr->Prop):Hp:=λb=>open Classical in if S b then none else gd F H b
def iR{S}{b}{o}:gdS F H S b=some o↔¬S b/\F b=none/\H b=some o:=by
 unfold gdS;by_cases h:S b
 ·rw[Yj h];simp[h]
 ·rw[Yl h,iS];simp[h]
def BQ(s:Same F H)S:DHp (gdS F H S) F H:=⟨s,λb o e=>(iR.mp e).2.2,λb o e=>(iR.mp e).2.1⟩
def DInv.hand{o}(I:DInv K P F H ρ σ)(hi:ρ[i]?=some (some (.own o t))) :
  ∃(a:Addr) (S:Addr->Prop),σ[i]?=some (some<|.ref a)/\ORep K F H (λb=>F b=none/\gdS F H S b=none) o a/\DHp (gdS F H S) F H /\
   ∀{F2 H2}{o'},Same F F2->DHp (gdS F H S) F2 H2->ORep K F2 H2 (λb=>F2 b=none/\gdS F H S b=none) o' a->DInv K P F2 H2 (ρ.set i<|some<|.own o' t) σ:=by
 obtain⟨O,B⟩:=I.rep;obtain⟨v,C,a,rfl,R,M⟩:=B i _ hi;refine⟨a,λb=>O b=some i/\P b=none,C,R.mono (Same.refl _) λb u q h=>⟨h,q.1,?_⟩,BQ I.sub _,λ{F2 H2 o'} g f N=>?_⟩
 ·unfold gdS;exact Yj ⟨q.2.2,q.2.1⟩
 ·have keep:∀b u,¬(O b=some i/\P b=none)->F b=none->H b=some u->H2 b=some u/\F2 b=none:=λb u h n q=>⟨f.pro b u<|iR.mpr ⟨h,n,q⟩,f.dis b u<|iR.mpr ⟨h,n,q⟩⟩
  have A:=λb u q=>keep b u (λz=>by rw[z.2]at q;cases q) (I.dis b u q)<|I.pro b u q
  refine⟨⟨f.sub,λb u q=>(A b u q).1,λb u q=>(A b u q).2⟩,by rw[Zz];exact I.len,λb=>open Classical in if H b=none then some i else O b,λj z Q=>?_⟩;rcases fm Q with⟨rfl,e,U⟩|⟨p,m⟩
  ·cases e;refine⟨_,C,a,rfl,N.mono (Same.refl _) λb u q h=>⟨h,q.1,?_⟩,M⟩;have n:F b=none:=by
    cases c:F b with
    |none=>rfl
    |some w=>have:=g b w c;rw[q.1]at this;cases this
   cases c:H b with
   |none=>exact⟨I.pro.free c,Yj c⟩
   |some w=>
    by_cases s:O b=some i/\P b=none
    ·exact⟨s.2,(Yl<|by rw[c];simp).trans s.1⟩
    ·have:=(iR (S:=λb=>O b=some i/\P b=none)).mpr ⟨s,n,c⟩;rw[q.2]at this;cases this
  ·obtain⟨w,T,y⟩:=B j z m;refine⟨w,T,?_⟩;cases z with
   |v d'=>exact Rep.same g y
   |own od t'=>
    obtain⟨c,rfl,x,l⟩:=y;refine⟨c,rfl,x.mono g λb E q h=>?_,l⟩;obtain⟨L,J⟩:=keep b E (λz=>by rw[q.2.2]at z;exact p (Yv z.1).symm) q.1 h;exact⟨L,J,q.2.1,(Yl<|by rw[h];simp).trans q.2.2⟩
   |bor od=>(obtain⟨c,rfl,x⟩:=y;exact⟨c,rfl,x.mono g λb u q h=>⟨h,q⟩⟩)
def k4{vs}(h:All2 (λp (q:Str×FO)=>p.1=q.1/\FRep K F H ow q.2 p.2) vs fs):(fs.lookup n=none->vs.lookup n=none)/\∀o,fs.lookup n=some o->∃v,vs.lookup n=some v/\FRep K F H ow o v:=by
 induction h with
 |nil=>exact⟨λ_=>rfl,λ_ e=>by cases e⟩
 |@cons p q _ _ h _ ih=>
  obtain⟨x,v⟩:=p;obtain⟨y,o⟩:=q;obtain⟨e,r⟩:=h;cases e;simp[aW];by_cases e:n=x
  ·rw[Yj e,Yj e];exact⟨λz=>by(cases z),λa z=>by(cases z;exact⟨v,rfl,r⟩)⟩
  ·rwa[Yl e,Yl e]
section
variable  {k:Nat}         {g:Dv}
end
noncomputable def fN(n:Str)(o:FO):List (Str×FO)->List (Str×FO)
 |[]=>[(n,o)]
 |(m,x)::r=>if m=n then(m,o)::r else(m,x)::fN n o r
abbrev Kids(K:Kq)(F H:Hp)(ow:Addr->Prop)(vs:List (Str×V))(fs:List (Str×FO)):Prop:=All2 (λp q=>p.1=q.1/\FRep K F H ow q.2 p.2) vs fs
def FO.own:FO->Bool
 |.d _=>false
 |_=>true
section
variable  {F:Hp}{ow:Addr->Prop}{n:Str}{vs:List (Str×V)}{fs:List (Str×FO)}{o o':FO}{v:V}{b:Addr}{u:HO}
def FRep.keep(h:FRep K F H ow o v)(k:∀c∈pW o v,H' c=H c):FRep K F H' ow o v:=by
 cases o with
 |d x=>exact h
 |lst ds=>obtain⟨c,rfl,e,w,b,a⟩:=h;exact⟨c,rfl,e,w,(k c<|Zg c).trans b,a⟩
 |dK ds=>obtain⟨c,rfl,e,w,b,a⟩:=h;exact⟨c,rfl,e,w,(k c<|Zg c).trans b,a⟩
def cB p q vs fs:gu (p::vs) (q::fs)=pW q.2 p.2++gu vs fs:=rfl
def Kids.keep(h:Kids K F H ow vs fs):(∀c∈gu vs fs,H' c=H c)->Kids K F H' ow vs fs:=by
 induction h with
 |nil=>exact λ_=>.nil
 |cons r _ ih=>
  intro k;exact .cons ⟨r.1,r.2.keep λc m=>k c<|YW _ m⟩<|ih λc m=>k c<|YK _ m
def Kids.mem(h:Kids K F H ow vs fs):fs.lookup n=some o->vs.lookup n=some v->∀c∈pW o v,c∈gu vs fs:=by
 induction h with
 |nil=>exact λe=>by cases e
 |@cons p q _ _ r _ ih=>
  obtain⟨x,w⟩:=p;obtain⟨y,z⟩:=q;obtain⟨e,r⟩:=r;cases e;intro b a c m;rw[aW]at b a;by_cases e:n=x
  ·rw[Yj e]at b a;cases b;cases a;exact YW _ m
  ·rw[Yl e]at b a;exact YK _<|ih b a c m
def Kids.upd(h:Kids K F H ow vs fs):(gu vs fs).Nodup->fs.lookup n=some o->o.own=true->vs.lookup n=some (.ref b)->FRep K F (upd H b u) ow o' (.ref b)->o'.own=true->Kids K F (L2.upd H b u) ow vs (fN n o' fs)/\gu vs (fN n o' fs)=gu vs fs:=by
 have j:∀{o},o.own=true->pW o (.ref b)=[b]:=λ{o} z=>by cases o<;>first|rfl|cases z
 induction h with
 |nil=>exact λ_ e=>by cases e
 |@cons p q vs fs r t ih=>
  obtain⟨x,w⟩:=p;obtain⟨y,z⟩:=q;obtain⟨e,r⟩:=r;cases e;intro g f i a s l;rw[aW]at f a;rw[cB]at g ⊢;unfold fN;by_cases e:n=x
  ·rw[Yj e]at f a;cases f;cases a;rw[Yj e.symm,cB];rw[j i]at g ⊢;rw[j l];exact⟨.cons ⟨rfl,s⟩<|Kids.keep t λc m=>aD λz=>by subst z;exact(YT.mp g).1 m,rfl⟩
  ·rw[Yl e]at f a;rw[Yl λz=>e z.symm,cB];obtain⟨C,B⟩:=ih (Xi.mp g).2.1 f i a s l;have m:=Kids.mem t f a b (by rw[j i];exact Zg b);exact⟨.cons ⟨rfl,r.keep λc A=>aD λz=>by subst z;exact(Xi.mp g).2.2 _ A _ m rfl⟩ C,by rw[B]⟩
def Kids.put{b}(h:Kids K F H ow vs fs):fs.lookup n=some (.d d)->Rep K F b d'->Kids K F H ow (d_ n b vs) (fN n (.d d') fs)/\gu (d_ n b vs) (fN n (.d d') fs)=gu vs fs:=by
 induction h with
 |nil=>exact λe=>by cases e
 |@cons p q vs fs r t ih=>
  obtain⟨x,w⟩:=p;obtain⟨y,z⟩:=q;obtain⟨e,r⟩:=r;cases e;intro a c;rw[aW]at a;unfold d_ fN;by_cases e:n=x
  ·rw[Yj e]at a;cases a;rw[Yj e.symm,Yj e.symm];exact⟨.cons ⟨rfl,c⟩ t,rfl⟩
  ·rw[Yl e]at a;rw[Yl λz=>e z.symm,Yl λz=>e z.symm,cB,cB];obtain⟨g,f⟩:=ih a c;exact⟨.cons ⟨rfl,r⟩ g,by rw[f]⟩
end
section
variable  {F:Hp}    {C:Option Addr}{fs:List (Str×FO)}{t:Option Addr}{n:Str}
def DInv.one(I:DInv K P F H ρ σ){b}{u}{o}(hi:ρ[i]?=some (some (.own o t)))(O:Addr->Option Nat)(p:∀j x,ρ[j]?=some (some x)->∃v,σ[j]?=some (some v)/\DVRep K P F H (λc=>O c=some j) x v)
  (J:F b=none) (B:P b=none) (s:O b=some i)  (m:σ[i]?=some (some<|.ref a)) (C:ORep K F (upd H b u) (λc=>F c=none/\P c=none/\O c=some i) o' a):DInv K P F (upd H b u) (ρ.set i<|some<|.own o' t) σ:=by
 refine⟨⟨λc w q=>?_,λc w q=>?_,I.dis⟩,by rw[Zz];exact I.len,O,λj z E=>?_⟩
 ·rw[aD λz=>by subst z;rw[J]at q;cases q];exact I.sub c w q
 ·rw[aD λz=>by subst z;rw[B]at q;cases q];exact I.pro c w q
 ·rcases fm E with⟨rfl,e,R⟩|⟨g,f⟩
  ·cases e;obtain⟨v,y,U,rfl,S,A⟩:=p i _ hi;rw[m]at y;cases y;exact⟨_,m,a,rfl,C,A⟩
  ·let⟨w,N,l⟩:=p j z f;refine⟨w,N,?_⟩;cases z with
   |v d=>exact l
   |own od t'=>
    obtain⟨c,rfl,M,h⟩:=l;exact⟨c,rfl,M.mono (Same.refl _) λT Q q L=>⟨by rwa[aD λz=>by subst z;rw[q.2.2]at s;exact g (Yv s).symm],q⟩,h⟩
   |bor od=>exact l
def DInv.kid(I:DInv K P F H ρ σ)(hi:ρ[i]?=some (some (.own (.obj C fs) t))){o}(h:o.own=true)(s:fs.lookup n=some o) :
  ∃a dx vs b,σ[i]?=some (some<|.ref a)/\H a=some (bxO C dx vs)/\F a=none/\vs.lookup n=some (.ref b)/\F b=none/\FRep K F H (λ_=>True) o (.ref b) /\
   ∀u o',o'.own=true->(∀ow,ow b->FRep K F (upd H b u) ow o' (.ref b))->DInv K P F (upd H b u) (ρ.set i<|some<|.own (.obj C<|fN n o' fs) t) σ:=by
 obtain⟨O,A⟩:=I.rep;obtain⟨v,E,a,rfl,⟨y,dx,vs,B,l,f⟩,R⟩:=A i _ hi;obtain⟨w,m,j⟩:=(k4 f).2 o s;have N:∃b,w=.ref b/\(F b=none/\P b=none/\O b=some i):=by
  cases o with
  |d x=>cases h
  |lst ds=>obtain⟨b,e,q,_⟩:=j;exact⟨b,e,q⟩
  |dK ds=>obtain⟨b,e,q,_⟩:=j;exact⟨b,e,q⟩
 obtain⟨b,rfl,g⟩:=N;have Q:pW o (.ref b)=[b]:=by cases o<;>first|rfl|cases h
 have J:b≠a:=λz=>(YT.mp l).1<|z ▸ Kids.mem f s m b (by rw[Q];exact Zg b)
 refine⟨a,dx,vs,b,E,B,y.1,m,g.1,?_,λu o' p new=>?_⟩
 ·cases o with
  |d x=>cases h
  |lst ds=>obtain⟨c,e,_,q⟩:=j;exact⟨c,e,trivial,q⟩
  |dK ds=>obtain⟨c,e,_,q⟩:=j;exact⟨c,e,trivial,q⟩
 ·obtain⟨M,L⟩:=Kids.upd f (YT.mp l).2 s h m (new _ g) p;exact I.one hi O A g.1 g.2.1 g.2.2 E ⟨y,dx,vs,by rwa[aD λz=>J z.symm],by rwa[L],M⟩
def DInv.fld(I:DInv K P F H ρ σ)(hi:ρ[i]?=some (some (.own (.obj C fs) t)))(h:fs.lookup n=some (.d d)) :
  ∃a dx vs v,σ[i]?=some (some<|.ref a)/\H a=some (bxO C dx vs)/\F a=none/\vs.lookup n=some v/\Rep K F v d/\vs.length=fs.length /\
   ∀f d',Rep K F f d'->DInv K P F (upd H a<|bxO C dx<|d_ n f vs) (ρ.set i<|some<|.own (.obj C<|fN n (.d d') fs) t) σ:=by
 obtain⟨O,j⟩:=I.rep;obtain⟨v,l,a,rfl,⟨o,dx,vs,x,g,b⟩,A⟩:=j i _ hi;obtain⟨w,q,y⟩:=(k4 b).2 _ h;refine⟨a,dx,vs,w,l,x,o.1,q,y,b.length,λf d' p=>?_⟩;have e:Kids K F (upd H a<|bxO C dx<|d_ n f vs) _ vs fs:=Kids.keep b λc m=>aD λz=>by subst z;exact(YT.mp g).1 m
 obtain⟨u,s⟩:=Kids.put e h p;exact I.one hi O j o.1 o.2.1 o.2.2 l ⟨o,dx,d_ n f vs,aI,by rwa[s],u⟩
end
noncomputable def nQ(C:Option Addr)(i:Nat)(ρ:DF):Option (List (Str×FO)):=match ρ[i]? with
 |some (some<|.own (.obj C' fs) _)=>if C'=C then some fs else none
 |some (some<|.bor<|.obj C' fs)=>if C'=C then some fs else none
 |_=>none
theorem Bx{C}(h:nQ C i ρ=some fs):(∃t,ρ[i]?=some (some (.own (.obj C fs) t)))\/ρ[i]?=some (some (.bor (.obj C fs))):=by
 unfold nQ at h;grind
noncomputable def fX (C:Option Addr)(i:Nat)(n:Str):DF->Option D:=λa=>(nQ C i a).bind λfs=>match fs.lookup n with
 |some (.d d)=>some d
 |_=>none
noncomputable def Oa (C:Option Addr)(i:Nat)(n:Str):DF->Option D:=λa=>(nQ C i a).bind λfs=>match fs.lookup n with
 |some (.lst ds)=>some (.lst ds)
 |some (.dK ds)=>some (.dK ds)
 |_=>none
def DInv.obj{C}(I:DInv K P F H ρ σ)(h:nQ C i ρ=some fs):∃a dx vs,σ[i]?=some (some (.ref a))/\H a=some (bxO C dx vs)/\F a=none/\Kids K F H (λb=>F b=none) vs fs:=by
 have f:=Bx h;have c:∃v,σ[i]?=some (some v):=by
  rcases f with⟨t,q⟩|q
  ·obtain⟨v,e,_⟩:=I.at q;exact⟨v,e⟩
  ·obtain⟨v,e,_⟩:=I.at q;exact⟨v,e⟩
 obtain⟨v,c⟩:=c;obtain⟨a,rfl,o,dx,vs,j,_,g⟩:=I.slot c f;exact⟨a,dx,vs,c,j,o,g⟩
section
variable   {n:Str}  
def pfB i(c:Cls X.K C)(j:NoAttr X.K C n)(h:PE X e (eD i))(m:attributeBase e n X.env (eval e X.env)=eval e X.env:=by rfl):PDE X (.Attribute e n pos) (fX (some C) i n):=
 (w9 h m).imp λy H Q=>un7 λP F z d b I k=>by
  obtain⟨fs,q,b⟩:=YE.mp b;split at b
  ·rename_i A g;cases b;obtain⟨a,x,f,s,p,_,o⟩:=I.obj q;obtain⟨w,l,u⟩:=(k4 o).2 _ g;exact⟨_,s,a,C,x,f,w,rfl,p,c,j,l,k w F H (Evo.refl I.toDHp) u⟩
  ·cases b
def prB(i:Nat)(c:Cls X.K C)(x:NoAttr X.K C n)(h:PE X e (eD i))(E:attributeBase e n X.env (eval e X.env)=eval e X.env:=by rfl):PDR X (.Attribute e n pos) (Oa (some C) i n):=
 (w9 h E).imp λJ H Q=>un7 λP F L d f I k=>by
  obtain⟨fs,q,f⟩:=YE.mp f;obtain⟨a,B,s,A,z,_,y⟩:=I.obj q;split at f
  ·rename_i p l;cases f;obtain⟨w,m,b,rfl,o,u,j,g⟩:=(k4 y).2 _ l;exact⟨_,A,a,C,B,s,_,rfl,z,c,x,m,k _ F H (Evo.refl I.toDHp) (.inr ⟨b,.lst p,u,rfl,o,j,g,rfl,rfl⟩)⟩
  ·rename_i p l;cases f;obtain⟨w,m,b,rfl,o,u,j,g⟩:=(k4 y).2 _ l;exact⟨_,A,a,C,B,s,_,rfl,z,c,x,m,k _ F H (Evo.refl I.toDHp) (.inr ⟨b,.dK p,u,rfl,o,j,g,rfl,rfl⟩)⟩
  ·cases f
noncomputable def k7(C:Option Addr)(i:Nat)(n:Str)(k:FO->Option FO):DF->Option DF:=λa=>match a[i]? with
 |some (some<|.own (.obj C' fs) t)=>if C'=C/\fs.length<1000 then(fs.lookup n).bind λo=>(k o).map λb=>a.set i (some<|.own (.obj C<|fN n b fs) t)else none
 |_=>none
def qq{C}(h:k7 C i n k ρ=some ρ'):∃fs t o o',ρ[i]?=some (some (.own (.obj C fs) t))/\fs.lookup n=some o/\k o=some o'/\fs.length<1000/\ρ'=ρ.set i (some (.own (.obj C (fN n o' fs)) t)):=by
 unfold k7 at h;split at h
 ·rename_i f fs t q;split at h
  ·rename_i e;obtain⟨rfl,c⟩:=e;obtain⟨o,b,h⟩:=YE.mp h;obtain⟨o',a,rfl⟩:=a_ h;exact⟨fs,t,o,o',q,b,a,c,rfl⟩
  ·cases h
 ·cases h
def Ft{C}{dx f}{vs c}(h:bxO C dx vs=bxO C f c):vs=c:=by
 cases C with
 |some C=>injection h
 |none=>
  injection h with h;exact(List.map_inj_right (λa b e=>by obtain⟨_,_⟩:=a;cases e;rfl)).mp h
def DInv.kid2{C}(I:DInv K P F H ρ σ)(hi:ρ[i]?=some (some (.own (.obj C fs) t))){o}(h:o.own=true)(c:fs.lookup n=some o) :
  ∃a dx vs b,σ[i]?=some (some<|.ref a)/\H a=some (bxO C dx vs)/\vs.lookup n=some (.ref b)/\F b=none/\FRep K F H (λ_=>True) o (.ref b)/\(∀{F1 H1},Evo P F H F1 H1->FRep K F1 H1 (λ_=>True) o (.ref b) /\
   ∀u o',o'.own=true->(∀ow,ow b->FRep K F1 (upd H1 b u) ow o' (.ref b))->DInv K P F1 (upd H1 b u) (ρ.set i<|some<|.own (.obj C<|fN n o' fs) t) σ):=by
 obtain⟨a,dx,vs,b,g,f,x,e,w,s,_⟩:=I.kid hi h c;refine⟨a,dx,vs,b,g,f,e,w,s,λ{F1 H1} p=>?_⟩;obtain⟨B,z,q,A,m,l,_,j,_,y,back⟩:=(I.evo p).kid hi h c;rw[g]at m;cases m;rw[(p.keep a _ f x).1]at l;cases Ft<|Yv l;rw[e]at j;cases j;exact⟨y,back⟩
noncomputable def Ep(d:D):FO->Option FO
 |.lst ds=>if ds.length<16777216 then some (.lst<|ds++[d])else none
 |_=>none
def zt(C:Option Addr)(i:Nat)(n:Str)(f:Dd):DF->Option RES:=λa=>(f a).bind λd=>(k7 C i n (Ep d) a).map .nx
def GI i{f:Dd}(c:Cls X.K C)(U:NoAttr X.K C n)(h:PE X o (eD i))(ha:PDE X e f)(Z:attributeBase o n X.env (eval o X.env)=eval o X.env:=by rfl)(j:attributeBase (.Attribute o n pos') "append" X.env (eval (.Attribute o n pos') X.env)=eval (.Attribute o n pos') X.env:=by rfl)
  (m:((backTo cpos<|starEach [e] X.env).all (λx=>!x.1)&&(backToKw cpos<|keywordEach [] X.env).all (λx=>x.1.isSome)
   && decide (([e]).length+([]:List Keyword).length+(if([]:List Keyword).isEmpty then 0 else 1)<30))=true:=by rfl)
  (g:(apos.endLine == cpos.line)=true:=by rfl) (hs:starEach [e] X.env=[(false,eval e X.env)]:=by rfl) (y:swapsWith (.Call (.Attribute (.Attribute o n pos') "append" apos) [e] [] cpos) none pos.line X.env=pure false:=by rfl) :
  PD1 X (.Expr (.Call (.Attribute (.Attribute o n pos') "append" apos) [e] [] cpos) pos) (zt (some C) i n f):=
 PS.imp (ib (oJ ZN XC Vv jp (w9 h Z) (aR ha bK hs) j m g hs rfl) y) λE J H=>un7 λP F M r z I k=>by
  obtain⟨d,Q,z⟩:=YE.mp z;obtain⟨L,q,rfl⟩:=a_ z;obtain⟨fs,t,o1,o2,S,R,l,_,rfl⟩:=qq q;unfold Ep at l;split at l
  ·rename_i A;split at l
   ·rename_i Y;cases l;obtain⟨a,dx,N,b,h1,h2,h4,h5,⟨_,e0,_,u,B,p⟩,w⟩:=I.kid2 S rfl R;cases e0;cases u with
    |lst us=>
     refine⟨_,h1,a,C,dx,N,_,rfl,h2,c,U,h4,.inl ⟨rfl,us,SqL.of B⟩,P,F,M,d,Q,I,λv F1 H1 s O=>?_⟩;obtain⟨_,back⟩:=w s;refine⟨b,us,v,rfl,rfl,(s.keep b _ B h5).1,by rwa[YY,p.length],k J F1 _ s.ext ?_⟩;exact back _ _ rfl λow T=>⟨b,rfl,T,_,aI,(p.same s.ext).append<|.one O⟩
    |_=>exact p.elim
   ·cases l
  ·cases l
end
def Kids.add{vs}{fs}{o}{v}(h:Kids K F H ow vs fs):fs.lookup n=none->FRep K F H ow o v->Kids K F H ow (d_ n v vs) (fN n o fs)/\gu (d_ n v vs) (fN n o fs)=gu vs fs++pW o v:=by
 induction h with
 |nil=>exact λ_ r=>⟨.cons ⟨rfl,r⟩ .nil,by show pW o v++[]=[]++pW o v;simp⟩
 |@cons p q vs fs r t ih=>
  obtain⟨x,w⟩:=p;obtain⟨y,z⟩:=q;obtain⟨e,r⟩:=r;cases e;intro a b;rw[aW]at a;unfold d_ fN;by_cases e:n=x
  ·rw[Yj e]at a;cases a
  ·rw[Yl e]at a;rw[Yl λz=>e z.symm,Yl λz=>e z.symm,cB,cB];obtain⟨f,c⟩:=ih a b;exact⟨.cons ⟨rfl,r⟩ f,by rw[c,Zi]⟩
def Kids.mono{vs}(e:Same F F')(k:∀b u,ow b->H b=some u->H' b=some u/\ow' b)(h:Kids K F H ow vs fs):Kids K F' H' ow' vs fs:=h.imp λp q z=>⟨z.1,z.2.mono e k λx=>x.same e⟩
def Kids.adr{vs}(h:Kids K F H ow vs fs):∀b∈gu vs fs,H b≠none:=by
 induction h with
 |nil=>exact λ_ m=>nomatch m
 |@cons p q _ _ r _ ih=>
  intro b m;rcases Zm.mp m with m|m
  ·obtain⟨x,v⟩:=p;obtain⟨y,o⟩:=q;cases o with
   |d x=>cases m
   |lst ds=>obtain⟨_,c,rfl,_,u,a,_⟩:=r;cases YC.mp m;rw[a];simp
   |dK ds=>obtain⟨_,c,rfl,_,u,a,_⟩:=r;cases YC.mp m;rw[a];simp
  ·exact ih b m
def DInv.addF{C}{o}(I:DInv K P F H ρ σ)(g:Evo P F H F1 H1)(hi:ρ[i]?=some (some (.own (.obj C fs) t)))(U:fs.lookup n=none)(hv:FRep K F1 H1 (λb=>H b=none/\F1 b=none) o v) :
  ∃a dx vs,σ[i]?=some (some<|.ref a)/\H1 a=some (bxO C dx vs)/\vs.length=fs.length/\DInv K P F1 (upd H1 a<|bxO C dx<|d_ n v vs) (ρ.set i<|some<|.own (.obj C<|fN n o fs) t) σ:=by
 obtain⟨O,M⟩:=I.rep;obtain⟨w,N,a,rfl,⟨s,dx,vs,E,Q,e⟩,ht⟩:=M i _ hi;obtain⟨S,L⟩:=g.keep a _ E s.1;refine⟨a,dx,vs,N,S,e.length,?_⟩;have I1:=I.evo g
 let p:Addr->Option Nat:=λb=>open Classical in if H b=none then some i else O b
 have B:∀j x,ρ[j]?=some _->∃v,σ[j]?=some _/\DVRep K P F1 H1 (λc=>p c=some j) x v:=λj x T=>by
  obtain⟨v,e1,Z⟩:=M j x T;exact⟨v,e1,(Z.imp λb u _ _ h q=>(Yl<|by rw[h];simp).trans q).evo g⟩
 have J:p a=some i:=(Yl<|by rw[E];simp).trans s.2.2;have f:Kids K F1 H1 (λc=>F1 c=none/\P c=none/\p c=some i) vs fs:=Kids.mono g.ext (λb u q h=>⟨(g.keep b u h q.1).1,(g.keep b u h q.1).2,q.2.1,(Yl<|by rw[h];simp).trans q.2.2⟩) e;have A:FRep K F1 H1 (λc=>F1 c=none/\P c=none/\p c=some i) o v:=FRep.mono (Same.refl _) (λb u q h=>⟨h,q.2,I.pro.free q.1,Yj q.1⟩) (λx=>x) hv;have new:∀b∈pW o v,H b=none:=λb m=>by
  cases o with
  |d x=>cases m
  |lst ds=>obtain⟨c,rfl,q,_⟩:=hv;cases YC.mp m;exact q.1
  |dK ds=>obtain⟨c,rfl,q,_⟩:=hv;cases YC.mp m;exact q.1
 obtain⟨Y,X⟩:=Kids.add f U A;have l:(a::gu (d_ n v vs) (fN n o fs)).Nodup:=by
  rw[X,<-List.cons_append];refine Xi.mpr ⟨Q,?_,λx m y R=>?_⟩
  ·cases o with
   |d x=>exact List.nodup_nil
   |lst ds=>obtain⟨c,rfl,_⟩:=hv;exact YT.mpr ⟨nofun,.nil⟩
   |dK ds=>obtain⟨c,rfl,_⟩:=hv;exact YT.mpr ⟨nofun,.nil⟩
  ·rintro rfl;have z:=new _ R;rcases Yw.mp m with rfl|m
   ·rw[E]at z;cases z
   ·exact Kids.adr e _ m z
 exact I1.one hi p B L s.2.1 J N ⟨⟨L,s.2.1,J⟩,dx,_,aI,l,Kids.keep Y λc m=>aD λz=>by subst z;exact(YT.mp l).1 m⟩
noncomputable def LN:OD->Option FO
 |.lst ds=>some<|.lst ds
 |.dK kvs=>some<|.dK kvs
 |_=>none
noncomputable def addF(C:Option Addr)(i:Nat)(n:Str)(o:FO):DF->Option RES:=λa=>match a[i]? with
 |some (some<|.own (.obj C' fs) t)=>if C'=C/\fs.lookup n=none/\fs.length<1000 then some (.nx<|a.set i<|some<|.own (.obj C<|fN n o fs) t)else none
 |_=>none
theorem yN{C}{o}(h:addF C i n o ρ=some r):∃fs t,ρ[i]?=some (some (.own (.obj C fs) t))/\fs.lookup n=none/\fs.length<1000/\r=.nx (ρ.set i (some (.own (.obj C (fN n o fs)) t))):=by
 unfold addF at h;grind
section
variable   {n:Str}  
def jX(C:Addr)(i:Nat)(n:Str)(f:Dd):DF->Option RES:=λa=>(f a).bind λd=>addF (some C) i n (.d d) a
def jm i{f:Dd}(c:Cls X.K C)(w:NoAttr X.K C n)(u:PE X o (eD i))(hv:PDE X value f)(hs:swapsWith value (some (.Attribute o n pos')) pos.line X.env=pure false:=by rfl) :
  PD1 X (.Assign [.Attribute o n pos'] value pos) (jX C i n f):=PS.imp (tK u hv hs) λE b H=>un7 λP F g r h I k=>by
 obtain⟨d,q,h⟩:=YE.mp h;obtain⟨fs,t,s,p,m,rfl⟩:=yN h;refine⟨P,F,g,d,q,I,λv B L e l=>?_⟩;obtain⟨a,A,j,z,y,x,J⟩:=I.addF e s p (o:=.d d) l;exact⟨_,z,a,C,A,j,rfl,y,c,w,by rwa[x],k b B _ e.ext J⟩
def wt(C:Addr)(i:Nat)(n:Str)(f:Do):DF->Option RES:=λa=>(f a).bind λo=>(LN o).bind λx=>addF (some C) i n x a
def DB i{f:Do}(c:Cls X.K C)(B:NoAttr X.K C n)(A:PE X o (eD i))(hv:PDO X value f)(hs:swapsWith value (some (.Attribute o n pos')) pos.line X.env=pure false:=by rfl) :
  PD1 X (.Assign [.Attribute o n pos'] value pos) (wt C i n f):=PS.imp (tK A hv hs) λE p H=>un7 λP F s r h I k=>by
 obtain⟨l,q,h⟩:=YE.mp h;obtain⟨x,g,h⟩:=YE.mp h;obtain⟨fs,t,z,y,w,rfl⟩:=yN h;refine⟨P,F,s,l,q,I,λb j R m e=>?_⟩;have O:FRep X.K j R (λb=>H b=none/\j b=none) x (.ref b):=by
  cases l with
  |lst ds=>cases g;exact⟨b,rfl,e.1,e.2⟩
  |dK ds=>cases g;exact⟨b,rfl,e.1,e.2⟩
  |_=>cases g
 obtain⟨a,Q,u,N,M,L,J⟩:=I.addF m z y O;exact⟨_,N,a,C,Q,u,rfl,M,c,B,by rwa[L],k p j _ m.ext J⟩
end
noncomputable def wb(C:Addr)(m:Dz)(g:Dv):DF->Option OD:=λa=>(g a).bind λx=>match m (.obj (some C) []) x with
 |some (o',.non)=>some o'
 |_=>none
section
variable  {k:Nat}         {g:Dv}
def Ah(M:Mk X.K C f)(G:FnOk X.prog X.w X.K X.mg X.base CX0 k f fd ps (spO X.K mM))(hr:Room (k+1) X.A)(hg:Gl X x)(hm:X.mg x=some (.ref C))(E:Binds X.K fd ps [])(ha:jL X (e::es) g)
  (B:nDb x:=by decide) (he:starEach (e::es) X.env=(false,eval e X.env)::starEach es X.env:=by rfl) (m:(backTo pos<|starEach es X.env).any (·.1)=false:=by rfl):PDO X (.Call (.Name x p) (e::es) [] pos) (wb C mM g):=
 (yy M G hr hg hm E .nil jV ha B he m).imp λσ H Q=>un7 λP F R Z h I k=>by
  obtain⟨N,q,h⟩:=YE.mp h;split at h
  ·rename_i o' Y;cases h;refine⟨P,F,R,N,q,I,λS j i J U y L l s hne=>?_⟩;have a:=I.evo J;have sm:Same i (upd (upd i L<|.own y) y<|.ins C L []):=λb u z=>by rwa[aD<|bn z l,aD<|bn z s]
   refine⟨gd j i,j,y,S,.obj _ [],N,Z,.non,by simp,Y,⟨a.sub.trans sm,λb u z=>sm b u<|(gJ a.sub).pro b u z,(gJ a.sub).dis⟩,⟨⟨a.sub.free l,(gJ a.sub).pro.free l⟩,L,[],aI,YT.mpr ⟨nofun,.nil⟩,.nil⟩,(U.dvs a).heap,λv F2 H2 O o ho T=>?_⟩;cases T;refine⟨rfl,k y F2 H2 (J.trans<|a.toDHp.gd O o)<|ho.mono (Same.refl _) λb u q E=>⟨E,?_,q.1⟩⟩;cases c:i b with
   |none=>exact J.back I.toDHp c
   |some w=>
    have n:j b=none:=by
     cases d:j b with
     |none=>rfl
     |some z=>have:=O b z d;rw[q.1]at this;cases this
    have:=iS.mpr ⟨n,c⟩;rw[q.2]at this;cases this
  ·cases h
end
abbrev DXs:=DF->Option (List D×DF)
def tLX(K:Kq)(g:DXs):TA:=λb H Q=>∃P F c r,g c=some r/\DInv K P F H c b/\∀e a f,Same F a->DInv K P a f r.2 b->Reps K a e r.1->Q e f
def PAX(X:Cx)(es:List Expr)(g:DXs):Prop:=PA X es<|tLX X.K g
def lq:DXs:=λρ=>some ([],ρ)
noncomputable def cb(f:DX)(g:DXs):DXs:=λc=>(f c).bind λa=>(g a.2).map λb=>(a.1::b.1,b.2)
section
variable     {f:DX}{g:DXs}  
def nj:PAX X [] lq:=bK.imp λa H Q=>un7 λP F b r h I k=>by
 cases h;exact k [] F H (Same.refl _) I .nil
def eC(h:PX X e f)(t:PAX X es g)(hs:starEach (e::es) X.env=(false,eval e X.env)::starEach es X.env:=by rfl):PAX X (e::es) (cb f g):=PA.imp (aR h t hs) λA H Q=>un7 λP F j r c I k=>by
 obtain⟨a,p,c⟩:=YE.mp c;obtain⟨b,q,rfl⟩:=a_ c;exact⟨P,F,j,a,p,I,λv z B s w o=>⟨P,z,a.2,b,q,w,λl y x i u m=>k (v::l) y x (s.trans i) u<|.cons (o.same i) m⟩⟩
def Reps.dvs(h:Reps K F vs ds):DVs K P F H (ds.map .v) vs:=Reps.ind (M:=λvs ds=>DVs K P F H (ds.map .v) vs) .nil (λr _ ih=>.cons rfl r ih) h
noncomputable def dC(C:Addr)(mn:Str)(i:Nat)(m:Dz)(g:DXs):DX:=λb=>(nQ (some C) i b).bind λfs=>if fs.lookup mn=none then(g b).bind λa=>match a.2[i]? with
  |some (some<|.own o t)=>(m o<|a.1.map .v).map λr=>(r.2,a.2.set i<|some<|.own r.1 t)
  |_=>none else none
variable{k:Nat}    
def Bu{E}:∀σ H Q,tX K (dC C mn i mM g) σ H Q->uE C mn (spO K mM) [] E (eD i) (tLX K g) σ H Q:=λσ H Q=>un7 λP F m r h I k=>by
 obtain⟨fs,q,h⟩:=YE.mp h;split at h
 ·rename_i J;obtain⟨a,z,h⟩:=YE.mp h;split at h
  ·rename_i A t y;obtain⟨b,x,rfl⟩:=a_ h;obtain⟨p,T,o,e,M,_,L⟩:=I.obj q;refine⟨_,e,p,T,o,rfl,M,(k4 L).1 J,P,F,m,a,z,I,λu l Y R U w=>?_⟩;obtain⟨p',S,f,O,N,back⟩:=U.hand y;rw[e]at f;cases f;refine⟨gdS l Y S,l,p,u,A,a.1.map .v,b.1,b.2,by simp,x,N,O,w.dvs,λv Z X j c B s=>?_⟩;exact k v Z X (R.trans j) (back j c B) s
  ·cases h
 ·cases h
def D6 i{pl}(c:Cls X.K C)(m:Meth X.K C mn f')(G:FnOk X.prog X.w X.K X.mg X.base CX0 k f' fd ps (spO X.K mM))(l:Room k' X.A)(q:Binds X.K fd ps [])(he:PE X o (eD i))(s:PAX X (e::es) g)(p:k<=k':=by first|decide|lia)
  (h:starEach (e::es) X.env=(false,eval e X.env)::starEach es X.env:=by rfl) (a:(backTo pos<|starEach es X.env).any (·.1)=false:=by rfl)
  (j:eval (.Call (.Attribute o mn apos) (e::es) [] pos) X.env=(do
   let b <-eval o X.env
   standAt apos.atName
   let (f,first) <-holding [b]<|getMethod b mn pl
   callWith pos f first (backTo pos<|starEach (e::es) X.env)<|backToKw pos<|keywordEach [] X.env):=by rfl):PX X (.Call (.Attribute o mn apos) (e::es) [] pos) (dC C mn i mM g):=
 (zc he c m G (l.mono p) q .nil jV s h a j).imp Bu
end
section
variable  {a:Expr} 
end
section
variable   {σ:List (Option V)}   
theorem Inv.turnedL(I:Inv X pz σ H s)(k:∀b o,b∉fp->s.heap.get? b=some o->h'.get? b=some o)(f:∀b∈fp,jN X pz H b):Inv X pz σ H {s with heap:=h',toks:=t' }:=by
 have a:∀b u,H b=some u->b∉fp:=λb u e z=>by rw[(f b z).1]at e;cases e
 refine I.step (λb j=>?_) (λb o _ _ h e _=>k b o h e) (λb o _ _ h e _=>⟨o.slots,k b o h e⟩) (λ_ _ _ _ n=>n)
  (λb o h e=>⟨o,k b o h e⟩) (λ_ _ _ e=>e) (λm i=>?_) (λb u e=>?_) I.bare
 ·obtain⟨_,l,_,x,w,p⟩:=f b j;exact⟨x,l,w,p⟩
 ·obtain⟨o,y,A,g,r⟩:=i;exact⟨o,y,A,k _ o (λz=>(f _ z).2.1 rfl) g,r⟩
 ·refine(I.hok b u e).stay (λc v h q=>k c v ?_ q) (λ_ q=>q) λ_ _ _ q=>q;grind
def Inv.turnedLaid{o}(I:Inv X pz σ H s)(k:∀b o,b∉fp->s.heap.get? b=some o->h'.get? b=some o)(l:∀b∈fp,jN X pz H b)(p:s.heap.objs.size<=a)(new:ObjOk X.prog X.w (upd H a o) h' a o) :
  Inv X pz σ (upd H a o) {s with heap:=h',toks:=t' }:=by
 have j:=I.hok.fresh p;have f:∀b u,H b=some u->b∉fp:=λb u e z=>by rw[(l b z).1]at e;cases e
 have i:∀b u,s.heap.get? b=some u->b≠a:=λb u q=>Yz<|Yx (Ys q) p
 refine I.step (λb g=>?_) (λb o _ _ h e _=>k b o h e) (λb o _ _ h e _=>⟨o.slots,k b o h e⟩) λb u _ q n=>by rwa[aD<|i b u q]
  (λb o h e=>⟨o,k b o h e⟩) (λb _ _ e=>by rwa[aD<|bn e j]) (λm y=>?_) (λb u e=>?_) I.bare
 ·obtain⟨_,A,_,E,C,B⟩:=l b g;exact⟨E,A,C,B⟩
 ·obtain⟨o,J,K,x,r⟩:=y;exact⟨o,J,K,k _ o (λz=>(l _ z).2.1 rfl) x,r⟩
 ·by_cases g:b=a
  ·subst g;rw[aI]at e;cases e;exact new
  ·rw[aD g]at e;refine(I.hok b u e).stay (λc v h q=>k c v ?_ q) (λc q=>by rwa[aD<|bn q j]) λc u _ q=>by rwa[aD<|bn q j]
   rcases h with z|z
   ·rw[z];exact f b u e
   ·exact f c _ z
end
def Ite(K:Kq)(a:Addr):It:=
 ⟨λi H=>∃b x,SqL K H a b/\b[i]?=some x,λi H x c=>∃p v,H p=none/\x=.ref p/\c=upd H p (.tup [.int i,v])/\∀b,SqL K H a b->b[i]?=some v,λi H=>∃b,SqL K H a b/\b.length<=i⟩
def AC{P}a e it(C:e≠it):Turn P w K (.Tuple elts kk pos) (Ite K a) [e,it] e (λi h=>(∃f,IsEnum h e it i f)/\h.IsListIter it a i) where
 mem:=by simp
 obj:=λi h l b m=>by
  obtain⟨⟨f,j⟩,o,eo,c,d⟩:=l;have B:b=e\/b=it:=by simpa using m
  rcases B with rfl|rfl
  ·exact⟨_,j,λv z=>by cases z⟩
  ·exact⟨o,eo,λv z=>by rw[d]at z;cases z⟩
 keep:=λi h h' l k=>by
  obtain⟨⟨f,j⟩,g⟩:=l;exact⟨⟨f,k e (by simp) _ j⟩,g.at λo x=>k it (by simp) o x⟩
 item:=by
  intro X hP Y hK hc i pz s σ H E I Q l Z;subst hP Y hK;obtain⟨⟨f,j⟩,g⟩:=l;obtain⟨xs,x,O,U⟩:=Z;obtain⟨T,R,p,hz⟩:=I.list O;obtain⟨u,hu,ru⟩:=R.get U;refine wpAny_pyNext_enum_item j g p.isList (by simpa using hu) C λh' ho J hT hsz hk=>?_;refine⟨_,rfl,wpAny_letOwnedTupleGo_enum ho λh2 he2 A=>?_⟩;have S:∀b o,b∉[e,it]->s.heap.get? b=some o->h2.get? b=some o:=λb o m q=>by
   have M:b≠e:=λz=>m<|by simp[z]
   have hb2:b≠it:=λz=>m<|by simp[z]
   exact(A.2 b M).trans<|hk b o M hb2 q
  have y:=Ys j;have L:it<s.heap.objs.size:=by obtain⟨_,x,_⟩:=g;exact Ys x
  have hTe:=ZH y;have N:=(A.2 _ hTe).trans hT;have I2:Inv X pz σ (upd H s.heap.objs.size<|.tup [.int _,x]) {s with heap:=h2,toks:=s.toks+1}:=
   I.turnedLaid S Q (Yr _) ⟨show 2<=sizeLine by decide,[.int i s.toks,u],.cons ⟨_,rfl⟩<|.cons ru .nil,⟨_,N,rfl,_,rfl⟩,_,N,rfl⟩
  have hn:=I.hok.fresh<|Yr _;refine⟨.ref s.heap.objs.size,_,I2,rfl,⟨_,x,hn,rfl,rfl,λys hy=>by rwa[I.list_inj hy O]⟩,⟨⟨_,by simpa using he2⟩,J.at λo q=>(A.2 it<|XS C).trans q⟩,λb m=>?_⟩;have B:b=e\/b=it:=by simpa using m
  rw[aD<|by rcases B with rfl|rfl;exact Yz y;exact Yz L];exact(Q b m).1
 done:=by intro X hP Y hK hc i pz s σ H E I Q l Z;subst hP Y hK;obtain⟨⟨f,j⟩,g⟩:=l;obtain⟨xs,O,U⟩:=Z;obtain⟨T,R,p,hz⟩:=I.list O;have hl:=R.length;exact wpAny_pyNext_enum_end (I.ok.hd hc) j g p.isList (by simp;lia) λh' eb=>⟨rfl,I.turnedL (λb o m q=>eb b o (λz=>m<|by simp[z]) q) Q⟩
 self:=λ_ _ _ _ _ l h=>by
  obtain⟨⟨f,j⟩,_⟩:=l;exact wpAny_pyIter_enum j h
def KW(K:Kq)(ta:TA):TI:=λc H R=>ta c H λe b=>∃a,e=[.ref a]/\(∃x,SqL K b a x)/\R (Ite K a) b
def oE:bootBuiltins "enumerate"=some (.type "enumerate"):=by rfl
def yR{ta}(M:Gl X "enumerate")(L:X.mg "enumerate"=none)(O:PA X [l] ta)(hs:starEach [l] X.env=[(false,eval l X.env)]:=by rfl):PI X (.Tuple elts kk tpos) (.Call (.Name "enumerate" p) [l] [] pos) (KW X.K ta):=by
 intro m s j H R I h;refine Call_<|nS I M L oE<|Xt (thn (O pos m s j H _ I h) λU c ⟨T,w,f,y,z⟩=>?_) hs rfl;obtain⟨a,e,⟨S,J⟩,q⟩:=z;subst e;obtain⟨u,rfl,x⟩:=eV y;cases(show u=Value.ref a from x);obtain⟨C,Y,A,Z⟩:=f.list J;refine call_enumerate_list A.isList λP o g E B=>?_;have Q:=f.kept (t':=c.toks) B;refine wpAny_pyIter_enum o ?_;refine⟨c.heap.objs.size+1,[c.heap.objs.size+1,c.heap.objs.size],_,_,w,rfl,Q,AC a _ _<|ZH<|ZK _,⟨⟨_,o⟩,g⟩,λb N=>?_,q⟩;have i:b=c.heap.objs.size+1\/b=c.heap.objs.size:=by simpa using N
 rcases i with rfl|rfl
 ·exact f.fpOk (ZI _)<|f.hok.fresh<|ZI _
 ·exact f.fpOk (Yr _)<|f.hok.fresh<|Yr _
def d5(ds:List D):List D:=ds.zipIdx.map λx=>.tup [.int x.2,x.1]
theorem jn(h:(d5 ds)[i]?=some d):∃a,ds[i]?=some a/\d=.tup [.int i,a]:=by
 unfold d5 at h;grind
def qW(h:SqL K F a vs)(r:Reps K F vs ds):zR K P (Ite K a) F (d5 ds):=by intro B H e f i;have b:=f.sub.seq<|e.seq h;refine⟨λd u=>?_,λs=>⟨vs,b,by rw[r.length];simpa[d5]using s⟩⟩;obtain⟨z,c,rfl⟩:=jn u;let⟨v,g,w⟩:=r.get c;refine⟨⟨vs,v,b,g⟩,λx A l=>?_⟩;obtain⟨q,y,p,rfl,rfl,m⟩:=l;have:=m vs b;rw[g]at this;cases this;have j:=Evo.laid f (o:=.tup [.int i,v]) p;exact⟨_,j,.tup aI<|.cons .int<|.cons ((w.same e).same j.ext) .nil⟩
section
variable     {R:Kr}
variable   {n:Nat}{P:Nat->Value->Prop}{St:Nat->Heap->Prop}{T:String}
end
section
variable   {n:Nat}{P:Nat->Value->Prop}{St:Nat->Heap->Prop}{T:String}
end
section
variable  {a:Expr}{rpos:Pos}{t:TA}
end
section
variable  {a:Expr} 
noncomputable def B_(i:Nat):DF->Option Bool:=λa=>match a[i]? with
 |some (some<|.own _ _)=>some false
 |some (some<|.bor _)=>some false
 |some (some<|.v .non)=>some true
 |some (some<|.v _)=>some false
 |_=>none
def FI i{j p}(h:PE X a (eD i)):PDT X (.Compare a [.Is] [.Constant .none j p] pos) (B_ i):=(CF<|IK h).imp λl H Q=>un7 λP F m d b I k=>by
 unfold B_ at b;split at b
 ·rename_i o t q;cases b;obtain⟨v,e,c,rfl,_⟩:=I.at q;exact⟨_,e,false,rfl,k F H<|Evo.refl I.toDHp⟩
 ·rename_i o q;cases b;obtain⟨v,e,c,rfl,_⟩:=I.at q;exact⟨_,e,false,rfl,k F H<|Evo.refl I.toDHp⟩
 ·rename_i q;cases b;obtain⟨v,e,f⟩:=I.at q;cases f;exact⟨_,e,true,rfl,k F H<|Evo.refl I.toDHp⟩
 ·rename_i s g q;cases b;obtain⟨v,e,f⟩:=I.at q;refine⟨_,e,false,?_,k F H<|Evo.refl I.toDHp⟩
  congr 1
  refine YB λz=>?_;subst z;cases f;exact g rfl
 ·cases b
noncomputable def gx(i:Nat)(g:Dk):DF->Option Bool:=λa=>match a[i]? with
 |some (some<|.own o _)=>g<|a.set i<|some<|.v o.d
 |_=>none
def ue i{g:Dk}(h:PDT X e g):PDT X e (gx i g):=PT.imp h λx H Q=>un7 λP F y b c I k=>by
 unfold gx at c;split at c
 ·rename_i o t q;obtain⟨w,p,j⟩:=I.frz q;exact⟨P,w,_,b,c,j,λz s f=>k F s ⟨Same.refl _,⟨(p.trans f.ext).trans f.hp.sub,f.hp.pro,I.dis⟩,λa u l m=>⟨Evo.same j.toDHp f a u l,m⟩⟩⟩
 ·cases c
end
end L2
namespace L2
open PySem PySem.Spec PySem.W PyProof.Rows
section
variable  {k:Nat}        {f2:Dd}
end
section
variable  {k:Nat}    {m:List (List D)->List D->List DV->Option (List (List D))}    
end
section
variable  {y:Expr} 
end
structure LamS where
 qual:Str
 params:Arguments
 body:Expr
 scope:Scope
 p:Str
 x:Str
 cell:Bool:=false
structure LamS.Ok (L:LamS):Prop where
 kind:L.scope.kind=.function
 co:L.scope.isCoroutine=false
 gen:L.scope.isGenerator=false
 par:L.scope.names.lookup L.p=some (if L.cell then .cell else .local)
 fre:L.scope.names.lookup L.x=some .free
 ne:(L.x == L.p)=false
 onc:∀y,L.scope.names.lookup y=some .cell->y=L.p/\L.cell=true
 noc:L.cell=false->∀y∈L.scope.names,y.2≠.cell
 cels:L.cell=true->∀n cl,cellsFrom n L.scope.names cl=(L.p,n)::cl
 psh:L.cell=true->∀h:Heap,pushCells h L.scope.names=h.push {cls:=.type "cell",data:=.cell none}
 only:∀y,L.scope.names.lookup y=some .free->y=L.x
 bind:∀(pm cdv ct u:Value) (cl:List (Str×Addr)),bindArgs (kla_fn "<lambda>" L.qual L.params L.body L.scope cl pm cdv ct) ⟨[u],[]⟩=pure [(L.p,u)]
def wm(L:LamS)(f c' c:Addr)(h:Heap):Prop:=∃p a,h.get? f=some (kla_obj "<lambda>" L.qual L.params L.body L.scope [(L.x,c)] p c' a)
noncomputable def db(L:LamS)(n:Nat)(c:Addr):List (Str×Addr):=if L.cell then[(L.p,n+1),(L.x,c)]else[(L.x,c)]
noncomputable def fL(L:LamS)(s:Shared)(f c' c:Addr):Env:=envX L.qual L.scope s.heap.objs.size f (.ref c')<|db L s.heap.objs.size c
def wy(S:L.Ok)n c:(db L n c).lookup L.x=some c:=by
 unfold db;split
 ·rw[ZL,S.ne];rw[ZL,Vq]
 ·rw[ZL,Vq]
def nV(h:L.cell=true)n c:(db L n c).lookup L.p=some (n+1):=by unfold db;rw[Yj h,ZL,Vq]
def u5{c}{y}(e:(db L n c).lookup y=some d):(y=L.x/\d=c)\/(L.cell=true/\y=L.p/\d=n+1):=by
 have one:∀{e':([(L.x,c)]).lookup y=some d},y=L.x/\d=c:=λ{e'}=>by
  rw[ZL]at e';split at e'
  ·rename_i q;cases e';exact⟨eq_of_beq q,rfl⟩
  ·cases e'
 unfold db at e;split at e
 ·rename_i h;rw[ZL]at e;split at e
  ·rename_i q;cases e;exact .inr ⟨h,eq_of_beq q,rfl⟩
  ·exact .inl<|one (e':=e)
 ·exact .inl<|one (e':=e)
noncomputable def re(CX:CXT)(P:Program)(w:World)(K:Kq)(mg:Ks)(base:Heap)(L:LamS)(f c' c:Addr)(A:Around)(outer:List Env)(s:Shared)(H:Hp)(E:XK):Cx where
 prog:=P
 w:=w
 K:=K
 mg:=mg
 base:=base
 A:=A.deeper<|fL L s f c' c
 N:=[L.p,L.x]
 s₀:=s
 H₀:=H
 env:=fL L s f c' c
 outer:=outer
 stack:=fL L s f c' c::outer
 ex:=[]
 calm:=true
 fn:=λy=>y != L.x
 pn:=[]
 xe:=λe b=>wpAny (model P w) (A.deeper<|fL L s f c' c) (leaving (fL L s f c' c) e) (λ_ a=>CX outer H s E e a) (λg a=>CX outer H s E g a) b
def qB{P}{c}{E}{C}{m:Ks}
  (S:L.Ok) (hd:A.handled=none) (e0:Env0 P w K mg base A outer s H) (Z:s.heap.IsCell c<|some uc) (R:H c=none) (X:RelV U C) (rc:RelV vc uc)
  (ns:h'.Ns s.heap.objs.size m) (hm:L.cell=false->m L.p=some C) (J:L.cell=true->h'.IsCell (s.heap.objs.size+1) (some C)) (Q:∀b o,s.heap.get? b=some o->h'.get? b=some o) :
  Inv (re CX P w K mg base L f c' c A outer s H E) [] [some U,some vc] H {heap:=h',gens:=s.gens,drawn:=s.drawn,toks:=tk,os:=s.os}:=by
 have T:=Z.lt;have cl:∀y d,(fL L s f c' c).cells.lookup y=some d->(y=L.x/\d=c)\/(L.cell=true/\y=L.p/\d=s.heap.objs.size+1):=λy d e=>u5 e
 have O:(fL L s f c' c).cells.lookup L.x=some c:=wy S _ _;have B:∀b:Addr,b∉(re CX P w K mg base L f c' c A outer s H E).ex:=λb z=>absurd (show b∈([])from z)<|by simp
 have Y:h'.IsCell c (some uc):=by obtain⟨o,M,l⟩:=Z;exact⟨o,Q c o M,l⟩
 have N:∀d:Addr,d=c->d=s.heap.objs.size+1->False:=λd a b=>by
  have q:=a.symm ▸ T;rw[b]at q;exact YX _<|ZQ q<|ZK _
 refine⟨⟨e0.mod,S.kind,rfl,rfl,Yr _,λy z d M l=>?_,λy hy=>?_,λy d hf h=>?_,λ_=>hd,Around.frames_deeper e0.frames,.inr ⟨rfl,rfl⟩,λb z=>absurd z<|B b,e0.bs,e0.bsz,λb _ _=>B b,λb z=>absurd z<|B b,e0.funs,e0.frf,e0.tab⟩,
  rfl,e0.bare,Un.kept Q,⟨_,ns,λi y v M l h3=>?_⟩,λy d h=>?_,e0.hok.fresh<|Yr _,λy d h=>?_,λp hp=>absurd (show p∈([])from hp)<|by simp,e0.hok.kept Q,rfl⟩
 ·rcases cl y d M with⟨u,j⟩|⟨_,u,j⟩<;>rcases cl z d l with⟨b1,b2⟩|⟨_,b1,b2⟩
  ·exact u.trans b1.symm
  ·exact(N d j b2).elim
  ·exact(N d b2 j).elim
  ·exact u.trans b1.symm
 ·have hy:=hy;rcases hy with hy|hy
  ·obtain⟨a,b⟩:=S.onc y hy;rw[a];exact⟨_,nV b _ _⟩
  ·rw[S.only y hy];exact⟨c,O⟩
 ·have I:(y != L.x)=true:=hf;rcases cl y d h with⟨u,j⟩|⟨_,u,j⟩
  ·rw[u]at I;simp at I
  ·rw[j];exact ZI _
 ·have g:=M
  match i,g,l with
  |0,g,l=>
   cases g;cases l;cases q:L.cell with
   |false=>exact⟨C,X,.inl ⟨by have:=S.par;rwa[q]at this,hm q⟩⟩
   |true=>exact⟨C,X,.inr ⟨.inl (by have:=S.par;rwa[q]at this),_,nV q _ _,J q⟩⟩
  |1,g,l=>
   cases g;cases l;exact⟨uc,rc,.inr ⟨.inr S.fre,c,O,Y⟩⟩
  |i+2,g,l=>cases g
 ·rcases cl y d h with⟨u,j⟩|⟨q,u,j⟩
  ·rw[j];exact⟨_,Y⟩
  ·rw[j];exact⟨_,J q⟩
 ·rcases cl y d h with⟨u,j⟩|⟨q,u,j⟩
  ·rwa[j]
  ·rw[j];exact e0.hok.fresh<|ZI _
def r8{p}{code}{Q}
  (y:scope.kind=.function) (w:scope.names.lookup p=some .cell) (B:∀n cl,cellsFrom n scope.names cl=(p,n)::cl) (hs:∀h:Heap,pushCells h scope.names=h.push {cls:=.type "cell",data:=.cell none})
  (C:∀h' tk,h'.Ns s.heap.objs.size (λ_=>none)->h'.IsCell (s.heap.objs.size+1) (some u)->(∀b o,s.heap.get? b=some o->h'.get? b=some o)->
   Q (newEnv scope s.heap.objs.size globals ((p,s.heap.objs.size+1)::cl) qual func code none builtins) {s with heap:=h',toks:=tk}) :
  wpAny M A (newFunctionEnv scope globals cl [(p,u)] qual func code none builtins) Q E s:=by
 refine Yb<|wpAny_alloc ?_;refine Yb<|wpAny_layCells _ (λm a l=>by cases i:a == NameKind.cell<;>simp[i]) _ _ _ _ ?_;have z:(s.heap.push {cls:=.type "frame",data:=.dict #[]}).objs.size=s.heap.objs.size+1:=Xj ..;rw[hs];show wpAny M A ((forIn [(p,u)] PUnit.unit λx r=>(storeName (newEnv scope s.heap.objs.size globals (cellsFrom (s.heap.push {cls:=.type "frame",data:=.dict #[]}).objs.size scope.names cl) qual func code none builtins) x.1 x.2)>>=λ_=>pure<|ForInStep.yield PUnit.unit)>>=λ_=>pure<|newEnv scope s.heap.objs.size globals (cellsFrom (s.heap.push {cls:=.type "frame",data:=.dict #[]}).objs.size scope.names cl) qual func code none builtins) Q E _;rw[z,B];have q:((s.heap.push {cls:=.type "frame",data:=.dict #[]}).push {cls:=.type "cell",data:=.cell none}).IsCell (s.heap.objs.size+1) none:=⟨_,z ▸ Yq _ rfl,rfl⟩
 have g:((s.heap.push {cls:=.type "frame",data:=.dict #[]}).push {cls:=.type "cell",data:=.cell none}).Ns s.heap.objs.size (λ_=>none):=(Heap.Ns.new s.heap<|.type "frame").keeps λb o e=>Yf _ e
 refine Yb ?_;rw[List.forIn_cons];refine Yb<|Yb<|wpAny_storeName_cell (c:=s.heap.objs.size+1) y w (by show List.lookup p ((p,s.heap.objs.size+1)::cl)=_;rw[ZL,Vq]) q λh' j f=>Yh ?_;show wpAny M A (forIn [] PUnit.unit _) _ _ _;refine Yh<|Yh ?_;refine C h' _ (g.sameBut f<|Yz<|ZK _) j λb o e=>?_;exact f.extBut b o (Yz<|Zv<|Ys e)<|Yf _<|Yf _ e
def EJ{P}{c}{E}{m}{Q}
  (S:L.Ok) (N:Room (k+1) A) (e0:Env0 P w K mg base A outer s H) (hl:wm L f c' c s.heap) (O:s.heap.CodeRec (.ref c') L.qual) (Y:s.heap.IsCell c<|some uc) (j:H c=none) (X:RelV m B) (U:RelV vc uc)
  (hb:PE (re CX P w K mg base L f c' c A outer s H E) L.body t) (ht:t [some m,some vc] H Q):codeAny (model P w) A (.call (.ref f) ⟨[B],[]⟩) (CR CX outer P w H s Q E) s:=by
 obtain⟨pm,ctv,hf⟩:=hl;have l:=e0.mod.nolimit.keeps λb o e=>(e0.bs b o e).1
 refine kla_callFunE N.depth hf rfl S.co S.gen rfl O ?_;rw[S.bind];refine Yh ?_;have a:∀h tk,Inv _ [] [some m,some vc] H {heap:=h,gens:=s.gens,drawn:=s.drawn,toks:=tk,os:=s.os}->
   codeAny (model P w) A (.expr L.body _) (CR CX outer P w H s Q E) {heap:=h,gens:=s.gens,drawn:=s.drawn,toks:=tk,os:=s.os}:=λh tk I=>by
  refine kla_codeExpr ?_;refine Xd (hb [] _ [some m,some vc] H Q I ht) (λu s' M=>?_) λe s' M=>M;obtain⟨v,H',J,rv,q⟩:=M;exact⟨v,H',J.os,J.bare,J.base,J.hok,rv,q⟩
 cases q:L.cell with
 |false=>
  have T:db L s.heap.objs.size c=[(L.x,c)]:=by unfold db;rw[q];rfl
  refine wpAny_newFunctionEnv (S.noc q) (λy hy=>?_) (λh C Z=>?_) S.kind
  ·rw[YC.mp hy];have:=S.par;rwa[q]at this
  ·have i:∀b o,s.heap.get? b=some o->h.get? b=some o:=λb o e=>by
    rw[Z.2 b<|Yz<|Ys e];exact Yf _ e
   have I:=qB (CX:=CX) (E:=E) (f:=f) (c':=c') (tk:=s.toks + [(L.p,B)].length) S N.hd e0 Y j X U C (λ_=>by show List.lookup L.p [(L.p,B)]=_;rw[ZL,Vq]) (λz=>by rw[q]at z;cases z) i;refine⟨l.keeps i,?_⟩;have g:=a _ _ I;unfold fL at g;rwa[T]at g
 |true=>
  have T:db L s.heap.objs.size c=(L.p,s.heap.objs.size+1)::[(L.x,c)]:=by unfold db;rw[q];rfl
  refine r8 S.kind (by have:=S.par;rwa[q]at this) (S.cels q) (S.psh q) λh tk C R i=>?_;have I:=qB (CX:=CX) (E:=E) (f:=f) (c':=c') (tk:=tk) S N.hd e0 Y j X U C (λz=>by rw[q]at z;cases z) (λ_=>R) i;refine⟨l.keeps i,?_⟩;have g:=a _ _ I;unfold fL at g;rwa[T]at g
structure LamIn (X:Cx) (L:LamS) (f c' c:Addr) (uc:Value):Prop where
 lam:wm L f c' c X.s₀.heap
 fH:X.H₀ f=none
 ff:f∉X.fs
 fe:f∉X.ex
 cl:X.s₀.heap.IsCell c (some uc)
 cH:X.H₀ c=none
 cf:c∉X.fs
 ce:c∉X.ex
 cd:∃o u,X.H₀ c'=some (.frz o u)/\∃vs t,o.data=.fields vs/\vs[1]?=some (.str L.qual t)
section
variable  {L:LamS}{c:Addr} 
def LamIn.now(h:LamIn X L f c' c uc)(I:Inv X pz σ H s):wm L f c' c s.heap/\s.heap.CodeRec (.ref c') L.qual/\s.heap.IsCell c (some uc)/\H c=none:=by obtain⟨p,b,l⟩:=h.lam;obtain⟨a,e,m⟩:=h.cl;obtain⟨o,u,j,i,t,w,q⟩:=h.cd;obtain⟨g,_⟩:=I.hok c' _<|I.base.stl c' _ rfl j;exact⟨⟨p,b,I.base.keep f _ l h.fH h.ff h.fe⟩,⟨c',o,i,t,rfl,g,w,q⟩,⟨a,I.base.keep c a e h.cH h.cf h.ce,m⟩,I.base.free c a e h.cH h.ce⟩
def Ib(i:Nat)(f:Addr)(te:TE)(vc:V)(t:TE):TE:=λa H Q=>a[i]?=some (some<|.ref f)/\oS te wc a H λc e=>∃b,c=[b]/\t [some b,some vc] e Q
def C8(S:L.Ok)(a:LamIn X L f c' c uc)(U:RelV vc uc)(hr:Room (k+1) X.A)(hN:X.N[i]?=some x)(hv:Vis X.env.scope x)(ha:PE X e te)
  (hb:∀s H E,PE (re CX0 X.prog X.w X.K X.mg X.base L f c' c X.A X.stack s H E) L.body t)
  (hd:nDb x:=by decide) (hcd:nDc x:=by decide) (he:starEach [e] X.env=(false,eval e X.env)::starEach [] X.env:=by rfl) :
  PE X (.Call (.Name x p) [e] [] pos) (Ib i f te vc t):=by
 intro P s m H Q I h;obtain⟨h1,h2⟩:=h;refine Xy<|bw (Cg hN hv hd hcd P s m H (λv H'=>v=.ref f/\oS te wc m H' λJ C=>∃o,J=[o]/\t [some o,some vc] C Q) I ⟨_,h1,rfl,h2⟩) λu O v C B r1 y=>?_;obtain⟨rfl,y⟩:=y;cases r1;obtain⟨⟨pm,ctv,g⟩,_⟩:=a.now B;refine callWith_def_at g rfl (bw (aR ha bK he pos P O m C _ B y) λus M J H2 l Z q=>?_) he
 ·obtain⟨o,rfl,q⟩:=q;obtain⟨g1,g2,g3,g4⟩:=a.now l;obtain⟨z,j,g'⟩:=g1;obtain⟨u1,rfl,Y⟩:=Z.one;have gg:M.heap.get? f=O.heap.get? f:=by obtain⟨pm0,T,R⟩:=a.lam;rw[l.base.keep f _ R a.fH a.ff a.fe,B.base.keep f _ R a.fH a.ff a.fe]
  refine⟨gg.trans g,?_⟩;refine Uy<|XF (EJ S hr l.env0 ⟨z,j,g'⟩ g2 g3 g4 Y U (hb M H2 E0) q) λr s' b=>?_;cases r with
  |error e=>exact False.elim b
  |ok fl=>
   cases fl with
   |ret u=>exact l.after b
   |next=>exact False.elim b
   |brk=>exact False.elim b
   |cont=>exact False.elim b
end
def Gb:HO:=.ext λ_=>True
structure LamW where
 L:LamS
 t:Addr
 pos:Pos
structure LamOk (X:Cx) (W:LamW) (c0 c:Addr) (j:Nat):Prop where
 tab:f8 X.K W.t W.L.qual W.pos
 hcl:closureFor W.L.scope X.env=pure [(W.L.x,c)]
 hcc:X.env.cells.lookup W.L.x=some c
 hck:X.env.kindOf W.L.x=some .cell
 hfn:X.fn W.L.x=true
 hj:X.N[j]?=some W.L.x
 hco:X.env.code=.ref c0
 hch:codeHdIn X.K c0 W.t=true
 hq:X.env.qual++Str.ofString "<lambda>"=W.L.qual
 hdf:defaultsOf W.L.params X.env=([],[])
section
variable  {W:LamW}{c:Addr}      
def BZ(O:LamOk X W c0 c j)(I:Inv X pz σ H s)
  (h:∀f c' o u H' s',Inv X pz σ H' s'->H' f=none->wm W.L f c' c s'.heap->H' c'=some (.frz o u)->G3 o W.L.qual->(H'=H\/(H c'=none/\H'=upd H c' (.frz o u)))->s.heap.objs.size<=f->Q (.ref f) s') :
  wpAny (model X.prog X.w) X.A (eval (.Lambda W.L.params W.L.body W.L.scope W.pos) X.env) Q X.xe s:=by
 have S:=I.mod.glob.keeps I.bk;have p:=codeHd_of_K I.kIn O.hch;have q:=(I.mod.bat _ _ _ O.tab).keeps I.bk;have C:=I.tab _ _ _ O.tab;refine kla_eval O.hdf ?_;rw[O.hq];obtain⟨ps,T,K,m|⟨c',o,u,g3,fz,ho⟩⟩:=I.hok _ _ C
 ·have nt:mainGlobals≠W.t:=λz=>by
   obtain⟨a,es,ep,P,N,_⟩:=S;rw[z,T]at P;cases P;cases N
  refine kla_makeFunction O.hcl I.ok.glob S O.hco p T K m nt q λc' l J R ext lo hi cr tab=>?_;have M:=I.hok.fresh lo;have ct:c'≠W.t:=λz=>by subst z;rw[C]at M;cases M
  obtain⟨c1,E,U,Y,P,N,e3,e4⟩:=cr;cases P;have kept:∀b a,s.heap.get? b=some a->b≠W.t->(J.push<|kla_obj "<lambda>" W.L.qual W.L.params W.L.body W.L.scope [(W.L.x,c)] ((X.mg<|Str.ofString "__name__").getD Value.none) c' l).get? b=some a:=λb a e n=>Yf _<|ext b a n e
  have g:∀b u,H b=some u->upd H c' (.frz E Gb) b=some u:=λb u e=>by rwa[aD<|bn e M]
  have Z:∀b,H b=none->b≠W.t:=λb n z=>by subst z;rw[C]at n;cases n
  have i:=ZP<|Zk lo hi;refine h _ c' E Gb _ _ (I.un ⟨λb a e n _ _=>kept b a e<|Z b n,λb a e n _ _=>⟨a.slots,kept b a e<|Z b n⟩,λb a e n _=>?_,λb a e _=>?_,λb u _ e=>g b u e⟩ λb u e=>?_) ?_ ⟨_,l,Yq _ rfl⟩ aI ⟨U,Y,e3,e4⟩ (.inr ⟨M,rfl⟩) i
  ·rwa[aD λz=>by subst z;exact absurd (Yx (Ys e) lo)<|YX _]
  ·by_cases B:b=W.t
   ·subst B;exact⟨_,Yf _ tab⟩
   ·exact⟨a,kept b a e B⟩
  ·by_cases y:b=c'
   ·subst y;rw[aI]at e;cases e;exact⟨Yf _ N,trivial,⟨_,Yf _ N⟩,λ_ _ _ _=>trivial⟩
   ·rw[aD y]at e;by_cases B:b=W.t
    ·subst B;rw[C]at e;cases e;refine⟨_,Yf _ tab,?_,.inr ⟨c',E,Gb,?_,aI,U,Y,e3,e4⟩⟩
     ·rw[Uo];exact TriplesOk_snoc _ _ _ _ K
     ·rw[Uo];exact codeAmong_snoc _ K m
    ·refine(I.hok b u e).stay (λd v hd r=>kept d v r ?_) (λd r=>g d _ r) λd v _ r=>g d v r;rcases hd with rfl|hd
     ·exact B
     ·rintro rfl;rw[C]at hd;cases hd
  ·have z:=I.hok.fresh i;rwa[aD<|ZH hi]
 ·refine kla_makeFunctionHit O.hcl I.ok.glob S O.hco p T K g3 q λl J R kp i=>?_;have kept:∀b a,s.heap.get? b=some a->(J.push<|kla_obj "<lambda>" W.L.qual W.L.params W.L.body W.L.scope [(W.L.x,c)] ((X.mg<|Str.ofString "__name__").getD Value.none) c' l).get? b=some a:=λb a e=>Yf _<|kp b a e
  exact h _ c' o u H _ (I.kept kept) (I.hok.fresh i) ⟨_,l,Yq _ rfl⟩ fz ho (.inl rfl) i
end
structure FunD (K:PySem.W.Frag) (x qual:Str) (st:Stmt) (f:Addr) (fd:FuncData):Prop where
 ex:∃(oc:Value) (od:Option Addr) (T:Addr) (kV doc pm:Value) (an:Option Addr) (cdv ct:Value) (osl:Array (Option Value)) (ot:Obj) (nt:Nat),
  fd=fnOf x qual (defArgs st) (defBody st) (defScope st) (.ref T) kV doc pm an cdv ct/\K.lookup f=some ⟨oc,od,.func fd,osl⟩/\codeIn K cdv qual=true/\K.lookup T=some ot/\ot.data=.seq #[Value.none] nt
 kp:keepIn K (.ref f)=true
def FunD.binds(F:FunD K x qual st f fd)
  (h:∀T kV doc pm an cdv ct us,us.length+1=ps.length->∃k:Option _->Sem _,bindArgs (fnOf x qual (defArgs st) (defBody st) (defScope st) (.ref T) kV doc pm an cdv ct) ⟨us,[]⟩=seqItems? (.ref T)>>=k/\k (some #[Value.none])=pure (ps.zip<|us++[Value.none])):Binds K fd ps [Value.none]:=by
 obtain⟨m,l,T,kV,doc,pm,an,cdv,ct,o,j,p,rfl,q,b,lt,g⟩:=F.ex;intro s us i a;obtain⟨k,e,c⟩:=h T kV doc pm an cdv ct us (by rwa[Yp,YQ]at a);exact BindsTo.of_defaults rfl (i _ _ lt) g e c
def Fl(P:Program)(w:World)(K:Kq)(mg:Ks)(base:Heap)(k:Nat)(f:Addr)(fd:FuncData)(ps:List Str)(sp:List Env->Shared->Sp):Prop:=
 ∀A o s H a u b Q E,Room k A->Env0 P w K mg base A o s H->BindsTo s fd a (ps.zip u)->Vals b u->b.length=ps.length->sp o s b H Q E->
  codeAny (model P w) A (.call (.ref f) a) (CR CX0 o P w H s Q E) s
def HB{P}{p}{body}{L kV} 
    {sp} (T:K.lookup f=some ⟨oc,od,.func<|fnOf name qual p body scope L kV doc pm an cdv ct,osl⟩) (hcd:codeIn K cdv qual=true) (S:FnScope N ps scope)
  (c:∀A outer s H vs Q E,Room k (A.deeper<|envOfC qual scope s.heap.objs.size f cdv)->sp outer s vs H Q E->
   ∃t,PSs (gA CX0 P w K mg base N qual scope f cdv A outer s H E) body t/\t {nx:=λ_ H'=>Q .non H',rt:=Q} (start N vs) H) :
  Fl P w K mg base (k+1) f (fnOf name qual p body scope L kV doc pm an cdv ct) ps sp:=by
 intro A outer s H M R vs Q E B i hb r Z z;have O:=i.mod.kin.keeps λb o e=>(i.bs b o e).1
 have m:=i.mod.nolimit.keeps λb o e=>(i.bs b o e).1
 have h:∀y∈ps.zip R,scope.names.lookup y.1=some .local\/(scope.names.lookup y.1=some .cell/\((cellsFrom (s.heap.objs.size+1) scope.names []).lookup y.1).isSome=true):=λ⟨n,v⟩ U=>by
  rcases S.par n (Uj U).1 with q|q
  ·exact .inl q
  ·exact .inr ⟨q,cellsFrom_some _ _ _<|.inl q⟩
 refine codeAny_call_function B.depth (O _ _ T) rfl S.co S.gen rfl (codeRec_of O hcd)<|hb _ _ _ _ ?_;refine wpAny_newFunctionEnv_cells S.kind h λenv he C x=>?_;subst he;refine⟨m.keeps x.toInCall.keep,codeAny_func ?_⟩;obtain⟨t,X,Y⟩:=c A outer s H vs Q E (B.deeper _) z;have I:Inv (gA CX0 P w K mg base N qual scope f cdv A outer s H E) [] _ H C:=rq S B.hd i Z r x;refine Xd (X [] C _ H _ I Y) (λfl j g=>?_) λe j g=>g;have fin:∀{a}{H'}{v}{u},Inv (gA CX0 P w K mg base N qual scope f cdv A outer s H E) [] a H' j->RelV v u->Q v H'->CE outer P w H s Q u j:=
  λ{a H' v u} J l q=>⟨v,H',J.os,J.bare,J.base,J.hok,l,q⟩
 cases fl with
 |ret u=>
  obtain⟨v,a,H',J,l,q⟩:=g;exact fin J l q
 |next=>
  obtain⟨a,H',J,q⟩:=g;exact fin (v:=V.non) J rfl q
 |brk=>
  obtain⟨_,_,_,q⟩:=g;exact False.elim q
 |cont=>
  obtain⟨_,_,_,q⟩:=g;exact False.elim q
structure LamNow (W:LamW) (f c' c:Addr) (uc:Value) (outer:List Env) (s:Shared) (H:Hp):Prop where
 lam:wm W.L f c' c s.heap
 fH:H f=none
 ff:f∉frs outer
 cl:s.heap.IsCell c (some uc)
 cH:H c=none
 cf:c∉frs outer
 cd:∃o u,H c'=some (.frz o u)/\∃vs t,o.data=.fields vs/\vs[1]?=some (.str W.L.qual t)
def spR(W:LamW)(K:Kq)(n:Nat)(gR:Addr->V->D->DF->Option RES):List Env->Shared->Sp:=λo s j H Q _=>∃f p c u a b m l i h x P F,j=[m,.ref f,l]/\LamNow W f p c u o s H/\RelV a u /\
 bZ (gR f a b<|aH n 3 [i,.v<|.fn f a b,h])=some x/\DHp P F H/\DVs K P F H [i,.v<|.fn f a b,h] j/\∀v g e,Same F g->DHp P g e->DVRep K P g e vP x v->Q v e
def FunD.okR{W}{P}{f0}(F:FunD K x qual st f0 fd)(S:FnScope N ps (defScope st))(h3:ps.length=3)
  (b:∀cdv A outer s H E f c' c uc vc dc,Room k (A.deeper<|envOfC qual (defScope st) s.heap.objs.size f0 cdv)->
   LamIn (gA CX0 P w K mg base N qual (defScope st) f0 cdv A outer s H E).nox W.L f c' c uc->RelV vc uc->PDS (gA CX0 P w K mg base N qual (defScope st) f0 cdv A outer s H E).nox (defBody st) (gR f vc dc)):Fl P w K mg base (k+1) f0 fd ps (spR W K N.length gR):=by
 obtain⟨oc,od,T,kV,doc,pm,an,cdv,ct,R,ot,nt,rfl,U,g,lt,dt⟩:=F.ex;refine HB U g S λA outer s H vs Q E Z h=>?_;obtain⟨f,c',c,uc,vc,dc,M,J,o,m,x,u,B,rfl,l,O,a,hp,Y,p⟩:=h;have X:LamIn (gA CX0 P w K mg base N qual (defScope st) f0 cdv A outer s H E).nox W.L f c' c uc:=⟨l.lam,l.fH,l.ff,(λz=>absurd (show f∈([])from z)<|by simp),l.cl,l.cH,l.cf,(λz=>absurd (show c∈([])from z)<|by simp),l.cd⟩
 refine⟨_,PSs.nox<|b cdv A outer s H E f c' c uc vc dc Z X O,?_⟩;have I:=DInv.start N 3 hp Y rfl;cases q:gR f vc dc (aH N.length 3 [o,.v _,m])with
 |none=>rw[q]at a;cases a
 |some r=>
  rw[q]at a;refine⟨u,B,_,r,q,I,?_⟩;cases r with
  |rt y ρ=>cases a;exact λv C j i e h r=>p v j i e h.toDHp r
  |nx ρ=>cases a;exact λC j i e h=>p .non j i e h.toDHp .non
  |bk ρ=>cases a
  |ct ρ=>cases a
def tX0(K:Kq)(g:DF->Option DV):TE:=λb H Q=>∃P F a x,g a=some x/\DInv K P F H a b/\∀v e c,Evo P F H e c->ArgsS K a b e [x] [v]->Q v c
def PX0(X:Cx)(e:Expr)(g:DF->Option DV):Prop:=PE X e<|tX0 X.K g
noncomputable def lend(i:Nat)(ρ:DF):Option DV:=match ρ[i]? with
 |some (some<|.own o _)=>some<|.bor o
 |some (some x)=>some x
 |_=>none
def Kh i(h:PE X e (eD i)):PX0 X e (lend i):=PE.imp h λj H Q=>un7 λP F l x c I k=>by
 unfold lend at c;split at c
 ·rename_i o t q;cases c;obtain⟨v,a,f⟩:=I.at q;exact⟨v,a,k v F H (Evo.refl I.toDHp)<|.b i a (.inl ⟨t,q⟩) .nil⟩
 ·rename_i y g q;cases c;obtain⟨v,a,f⟩:=I.at q;cases x with
  |v d=>exact⟨v,a,k v F H (Evo.refl I.toDHp)<|.v f .nil⟩
  |bor o=>exact⟨v,a,k v F H (Evo.refl I.toDHp)<|.b i a (.inr q) .nil⟩
  |own o t=>exact(g o t rfl).elim
 ·cases c
def ni(n:Nat)(gR:Addr->V->D->DF->Option RES)(dc:D)(x:DV)(ds:List D):Prop:=∀f a,bZ (gR f a dc<|aH n 3 [x,.v<|.fn f a dc,.v .non])=some (.own (.lst ds) none)
noncomputable def jU (n:Nat)(gR:Addr->V->D->DF->Option RES)(dc:D)(x:DV):Option (List D):=
 open Classical in if h:∃a:List D,ni n gR dc x a then some h.choose else none
def Ay{x}(h:jU n gR dc x=some ds):ni n gR dc x ds:=by
 unfold jU at h;split at h
 ·rename_i q;rw[<-Yv h];exact q.choose_spec
 ·cases h
theorem AL{x}(h:ni n gR dc x ds):jU n gR dc x=some ds:=by
 have q:∃ds:List D,ni n gR dc x ds:=⟨ds,h⟩
 unfold jU;rw[dif_pos q];have z:=q.choose_spec 0 .non;rw[h]at z;grind
noncomputable def xg (n j:Nat)(gR:Addr->V->D->DF->Option RES)(g:DF->Option DV):DF->Option OD:=asL λa=>(g a).bind λx=>(getV j a).bind λb=>jU n gR b x
section
variable  {W:LamW}{k n:Nat}{f0 c:Addr}       {g:DF->Option DV}
def A0(O:LamOk X W c0 c j)(R:Fl X.prog X.w X.K X.mg X.base k f0 fd ps (spR W X.K n gR))(h3:ps.length=3)(hr:Room k X.A)(hg:Gl X x)(hm:X.mg x=some (.ref f0))(hk:keepIn X.K (.ref f0)=true)(U:Binds X.K fd ps [Value.none])(ha:PX0 X e g)
  (hd:nDb x:=by decide) (he:starEach [e,.Lambda W.L.params W.L.body W.L.scope W.pos] X.env=(false,eval e X.env)::starEach [.Lambda W.L.params W.L.body W.L.scope W.pos] X.env:=by rfl)
  (he1:starEach [.Lambda W.L.params W.L.body W.L.scope W.pos] X.env=(false,eval (.Lambda W.L.params W.L.body W.L.scope W.pos) X.env)::starEach [] X.env:=by rfl) (hpl:(backTo pos<|starEach [.Lambda W.L.params W.L.body W.L.scope W.pos] X.env).any (·.1)=false:=by rfl) :
  PDO X (.Call (.Name x p) [e,.Lambda W.L.params W.L.body W.L.scope W.pos] [] pos) (xg n j gR g):=by
 intro pz s σ H Q I h;obtain⟨P,F,ρ,o,hf,D0,kk⟩:=h;obtain⟨ds,hf',rfl⟩:=XU.mp hf;obtain⟨x0,q0,hf⟩:=YE.mp hf';obtain⟨dc,q1,q2⟩:=YE.mp hf;obtain⟨vc,hσ,rep⟩:=D0.at<|x_ q1
 refine Xy<|nc I hg hm ?_ hd;refine callWith_K I.ok.mod.kin hk ?_ he hpl;rw[he];refine XY<|bw (ha pz s σ H (λv H'=>∃N,Evo P F H N H'/\ArgsS X.K ρ σ N [x0] [v]) I ⟨P,F,ρ,x0,q0,D0,λv N H' l r=>⟨N,l,r⟩⟩) λu0 s1 v0 H1 Z r1 q=>?_;obtain⟨F1,E,ra⟩:=q;refine XY<|BZ O Z λf c' ob u J s2 B hf2 la fz ho hH hfs=>?_;refine Calls.spliced_nil ⟨B.kIn,?_⟩;obtain⟨M,Y⟩:∃M,Evo P F1 H1 M J:=by
  rcases hH with rfl|⟨z,rfl⟩
  ·exact⟨F1,Evo.refl E.hp⟩
  ·exact⟨_,Evo.laid E.hp z⟩
 have l:=E.trans Y;obtain⟨m,hn,hl⟩:=B.loc;obtain⟨uc,rc,look⟩:=hl j W.L.x vc O.hj hσ<|.inr<|.inl O.hck;have C:s2.heap.IsCell c (some uc):=by
  rcases look with⟨z,_⟩|⟨_,c1,e1,e2⟩
  ·rw[O.hck]at z;cases z
  ·rw[O.hcc]at e1;cases e1;exact e2
 have S:∀b∈frs X.stack,b<s1.heap.objs.size/\(b=X.env.locals\/b<X.s₀.heap.objs.size):=λb U=>by
  rcases Yw.mp (Z.stkSub b U)with z|z
  ·subst z;exact⟨Z.lt,.inl rfl⟩
  ·obtain⟨_,o,ho,_⟩:=Z.ok.funs.mem z;exact⟨Yx (Ys ho) Z.sz,.inr<|Ys ho⟩
 have ln:LamNow W f c' c uc X.stack s2 J:=by
  refine⟨la,hf2,λz=>absurd (Yx (S f z).1 hfs)<|YX _,C,B.freeC _ _ O.hcc,λz=>?_,ob,u,fz,ho⟩;rcases(S c z).2 with y|y
  ·exact B.cne _ _ O.hcc y
  ·exact absurd (Yx y<|B.ok.cab _ _ O.hfn O.hcc)<|YX _
 have rv:Vals [v0,.ref f,.non] _:=.cons r1<|.cons rfl<|.cons rfl .nil;have T:=h3.symm;have dv:DVs X.K (gd M J) M J [x0,.v<|.fn f vc dc,.v .non] [v0,.ref f,.non]:=by
  have z:=(ra.same Y.ext).dvs<|D0.evo l;cases z with
  |cons z1 z2 _=>exact .cons z1 z2<|.cons rfl (.fn<|Rep.same l.ext rep)<|.cons rfl .non .nil
 refine Uy<|XF (R X.A X.stack s2 J ⟨[u0,.ref f],[]⟩ _ [v0,.ref f,.non] Q E0 hr B.env0 (U s2 [u0,.ref f] B.kIn T) rv h3.symm ⟨f,c',c,uc,vc,dc,v0,.non,x0,.v .non,_,gd M J,M,rfl,ln,rc,Ay q2 f vc,gJ l.hp.sub,dv,λv N H' e3 h3 r3=>?_⟩) λr s' i=>?_
 ·obtain⟨a,rfl,h5,_⟩:=r3;have ev3:=l.trans<|l.hp.gd e3 h3;exact kk a N H' ev3<|(nv e3 h5).mono (Same.refl _) λb u q U=>⟨U,l.back D0.toDHp q.1,q.2⟩
 ·cases r with
  |error e=>exact False.elim i
  |ok fl=>
   cases fl with
   |ret u=>exact B.after i
   |next=>exact False.elim i
   |brk=>exact False.elim i
   |cont=>exact False.elim i
end
end L2
namespace L2
open PySem PySem.Spec PyProof.Rows
theorem uo:plainId "dict.update.loop"=true:=by decide+kernel
def Ci:entryFor table "dict.update.loop"=some Builtin.«dict.update.loop»:=by kernel_rfl
section
theorem EV{l:Addr}{its:Array Value}{n:Nat}{Q:Ko}(h:s.heap.get? l=some {cls:=.type "list",data:=.seq its n})(f:A.handled=none)
  (q:∀h' tk,(∀b o,s.heap.get? b=some o->h'.get? b=some o)->Q none {s with heap:=h',toks:=tk}):wpAny (model prog w) A (getAttr? (.ref l) "keys") Q E s:=by
 have x:Shared.TypeIs s (.ref l) "list":=⟨_,h,rfl⟩
 have z:typeLookup (Value.type "list") "__getattribute__"=pure (some (.builtin "list.__getattribute__")):=PySem.F.slot_list_getattribute.lookup;have j:typeLookup (Value.type "list") "keys"=pure none:=by rfl
 have y:typeLookup (Value.type "list") "__getattr__"=pure none:=by rfl
 unfold getAttr? getAttrBy? getAttrBy getAttrByItsOwn hookBefore callGetattribute
 wp_walk
 have i:=PySem.F.slot_list_getattribute.bind (.ref l);rw[i];refine Yh ?_;show wpAny _ _ (call (.builtin "list.__getattribute__") [.ref l,Value.str (Str.ofString "keys") s.toks]) _ _ _;refine Uz PySem.F.slot_list_getattribute (s:={s with toks:=s.toks+1}) ⟨_,h,rfl⟩ am_entry_list_getattribute (PySem.F.args_list_getattribute_2 _ _) (meets_getattribute_miss_list l its n #[] "keys" s.toks j (by decide)) ⟨h,f,λh' tk e a=>?_⟩;obtain⟨t,u,g⟩:=a.there;have c:=a.keeps;unfold getattributeRaised hookBehind hookOrError attributeErrorLeaves;have p:Shared.TypeIs {s with heap:=h',toks:=tk} (.ref e) "AttributeError":=⟨_,g,rfl⟩
 have m:isSubtype (.type "AttributeError") (.type "AttributeError")=pure true:=sub_AttributeError
 wp_walk
 exact q h' tk c
def iA(prs:List (Key×Value)):List (Key×Value):=prs.foldl (λa p=>stored a p.1 p.2) []
theorem uU l p:iA (l++[p])=stored (iA l) p.1 p.2:=by unfold iA;grind
def wx l(k:Key)v:(stored l k v).length<=l.length+1:=by unfold stored;split<;>simp<;>lia
theorem xG l:(iA l).length<=l.length:=by
 have:∀(l a:List<|Key×Value),(l.foldl (λa p=>stored a p.1 p.2) a).length<=a.length+l.length:=by
  intro l;induction l with
  |nil=>intro a;simp
  |cons p r ih=>intro a;have c:=ih<|stored a p.1 p.2;have b:=wx a p.1 p.2;rw[VB,Yt];lia
 have h:=this l [];rwa[Ze,Zf]at h
def xt{p}{a}{Q:Kl}(h:IsTup s.heap p #[a,u])(q:Q [a,u] s):wpAny (model prog w) A (Builtin.Dict.pairItems (.ref p)) Q E s:=by
 obtain⟨o,c,b,n,e⟩:=h
 wp_walk
 rw[e];exact Yh<|Yh q
variable   {G:Array GenState->Array GenState->Prop}{n:Nat}{P:Nat->Value->Prop}{St:Nat->Shared->Prop}{R:Kr}
theorem zK(W:WalksS prog w A.in1 I fp wr G n P St)d(J:d∉fp)O(c:∀b o,O.get? b=some o->b∉d::wr)prs(hn:prs.length=n)(hn2:n<=1000)
  (B:∀i v,P i v->∃k u p x,prs[i]?=some (k,u)/\v=.ref p/\IsTup O p #[x,u]/\(bA prog w).is k x=true) :
  ∀k i s j S,n-i=k->i<=n->St i s->(∀b o,O.get? b=some o->s.heap.get? b=some o)->Heap.DictOf (bA prog w) s.heap d (iA<|prs.take i)->
   (∀s',Moved (d::wr) G s s'->Heap.DictOf (bA prog w) s'.heap d (iA prs)->R (.ok<|.ret .none) s')->
   codeAny (model prog w) A (.builtin "dict.update.loop" ⟨[.ref d,.ref I,.int j S,.none],[]⟩) R s:=by
 have Y:=λh=>J<|W.sub _ h
 have a:∀b∈wr,b∈d::wr:=λb q=>Yd _ q
 have mv:∀{s s'}{l},Moved wr G s s'->Heap.DictOf _ s.heap d l->Heap.DictOf (bA prog w) s'.heap d l:=λm ⟨o,es,ep,e,r⟩=>⟨o,es,ep,m.heap d o Y e,r⟩
 intro k;induction k with
 |zero=>
  intro i s j S hk hi g M N Z;have X:i=n:=by lia
  subst X;refine Zn Ci ?_;refine Yb<|W.done s _ _ g λs' y=>?_;refine Yh<|Z s' (y.mono a)<|mv y ?_;rwa[<-hn,ZV]at N
 |succ k ih=>
  intro i s j S hk hi g M N Z;have H:i<n:=by lia
  refine Zn Ci ?_;refine Yb<|W.item i s _ _ H g λv s' hP C y=>?_;obtain⟨ky,u,p,x,hd,rfl,Q,U⟩:=B i v hP;have f:=λb o e=>y.heap b o (λq=>c b o e<|a b q)<|M b o e
  have z:IsTup s'.heap p #[x,u]:=by obtain⟨o,e1,e2⟩:=Q;exact⟨o,f p o e1,e2⟩
  refine Yb<|ZE<|Yb<|wpAny_tryCatch<|xt z ?_;refine ZE<|wpAny_dictSet_pairs U (mv y N) (λh' K off=>?_) (by have:=xG<|prs.take i;rw[Zu]at this;exact YD this<|YD (Vb _ _)<|YD (by lia)<|show 1000<=sizeLine by decide);have et:prs.take i++[(ky,u)]=prs.take (i+1):=by rw[VI,hd];rfl
  rw[<-uU _ (ky,u),et]at K;refine Yh ⟨Xl uo _,ih (i+1) _ _ _ (by lia) H (W.frame _ s' _ _ C (ZI _) λb q o e=>?_) (λb o e=>?_) K λT E L=>?_⟩
  ·rwa[off.2 b (λh:b=d=>J<|by rw[<-h];exact q)]
  ·show h'.get? b=some o;rw[off.2 b (λh:b=d=>c b o e<|by rw[h];exact Ye)];exact f b o e
  ·refine Z T (Moved.trans W.gtrans ((y.mono a).then_heap (ZI _) λb o q e=>?_) E) L;rw[off.2 b (λh:b=d=>q<|by rw[h];exact Ye)];exact e
end
noncomputable abbrev ij(w:World):Obj:={cls:=.type "set",dict:=none,data:=.set #[] 0<|.fresh 0 0<|!w.params.followText "set-order"}
noncomputable abbrev AG(l:Addr):Obj:={cls:=.type "list_iterator",data:=.fields #[.ref l,.int 0 0]}
def vh x{Q₁:Kv}(q:Q₁ (.ref s.heap.objs.size) {s with heap:=s.heap.push (ij w)}) :
  codeAny (model prog w) A (.call (.builtin "set.__new__") ⟨[.type "set",x],[]⟩) (wants Q₁ E) s:=by
 refine codeAny_of_tree<|Yb<|wpAny_of_eq (PySem.F.newCall_set_1 x)<|Yh ⟨Xl PySem.F.plain_set_new _,Zn PySem.F.entry_set_new ?_⟩;rw[Zs PySem.F.plain_set_new ⟨[.type "set",x],[]⟩];unfold Builtin.«set.__new__» Builtin.Frozenset.newClass;have h:=sub_set_self;obtain⟨b,g,c,a,o⟩:=s;dsimp only;wp_walk;refine wpAny_askSetting<|Yh ?_;dsimp only;simp[newObj];exact Yb<|wpAny_alloc<|Yh<|Yh q
theorem kQ{l:Addr}{items:Array Value}{Z:Heap->Prop}(J:s.heap.IsList l items)
  (j:∀R:Result->Shared->Prop,(∀h' tk,Z h'->(∀b o,s.heap.get? b=some o->h'.get? b=some o)->R (.ok (.ret .none)) {s with heap:=h',toks:=tk})->
   codeAny (model prog w) A.in1.in1 (.builtin "set.update.loop" ⟨[.ref s.heap.objs.size,.ref (s.heap.push (ij w)).objs.size],[]⟩) R {s with heap:=(s.heap.push (ij w)).push (AG l)})
  (q:∀h' tk,Z h'->(∀b o,s.heap.get? b=some o->h'.get? b=some o)->Q (.ref s.heap.objs.size) {s with heap:=h',toks:=tk}) :
  wpAny (model prog w) A (call (.type "set") [.ref l]) Q E s:=by
 have f:=PySem.F.called_set;obtain⟨m0,mr,hm⟩:=f.mro;have y1:=f.made;have y2:=f.sub;have y3:=f.notType;have y4:=f.canCreate;have Y:=PySem.F.typeCall_set_1 (.ref l);refine Uy (codeAny_of_tree ?_);show wpAny _ _ (callAny (.type "set") ⟨[.ref l],[]⟩) _ _ _;refine Yh ⟨Va _ (by decide+kernel),Zn PySem.F.entry_type_call ?_⟩;rw[Around.under_plain (weight_type_call_type "set" [.ref l] []) rfl]
 repeat any_goals first|assumption|wp_step
 refine XF (vh (.ref l) (E:=E) (Q₁:=λobj c=>obj=.ref s.heap.objs.size/\c={s with heap:=s.heap.push (ij w)}) ⟨rfl,rfl⟩) λr c m=>?_;cases r with
 |error e=>exact m
 |ok M=>
  cases M with
  |ret obj=>
   obtain⟨rfl,rfl⟩:=m;have L:(s.heap.push (ij w)).get? s.heap.objs.size=some (ij w):=Yq _ rfl;have K:Shared.TypeIs {s with heap:=s.heap.push (ij w)} (.ref s.heap.objs.size) "set":=⟨_,L,rfl⟩
   have X:=f.init.lookup;have U:=f.init.bind (.ref s.heap.objs.size)
   repeat any_goals first|assumption|wp_step
   refine XF (codeAny_call_builtin (R:=wants (λr a=>r=.none/\∃h' tk,a={s with heap:=h',toks:=tk}/\Z h'/\∀b o,s.heap.get? b=some o->h'.get? b=some o) E) f.init.plain PySem.F.entry_set_init (check_set_init_1 K ?_)) λi a h=>?_
   ·obtain⟨⟨cl,O,dt,I⟩,N,H,B,C⟩:=J;simp only at H C;subst H C;have z:(s.heap.push (ij w)).get? l=some {cls:=.type "list",dict:=O,data:=.seq items B,slots:=I}:=Yf _ N;have T:=PySem.F.sub_list_set;have S:=PySem.F.sub_list_frozenset;have P:(Value.type "list" == Value.type "dict")=false:=by decide
    have p:(s.heap.push (ij w)).IsList l items:=⟨_,z,rfl,B,rfl⟩
    unfold Builtin.«set.__init__» noKeywords Builtin.Frozenset.updateFrom;generalize y:pyIter=PI
    wp_walk
    subst y;refine Vf p (Yb (wpAny_runValue (j _ λh' tk x u=>?_)));show wpAny _ _ _ _ _ _;exact Yh (show wpAny _ _ (ret Value.none) _ _ _ from Yh ⟨rfl,h',tk,rfl,x,u⟩)
   ·cases i with
    |error e=>exact h
    |ok g=>
     cases g with
     |ret v=>
      obtain⟨rfl,h',tk,rfl,x,u⟩:=h
      repeat any_goals first|assumption|wp_step
      exact q _ _ x u
     |_=>exact h.elim
  |_=>exact m.elim
abbrev mP:Obj:={cls:=.type "dict",data:=.dict #[]}
def pY{l:Addr}{items:Array Value}{x:Nat}{Z:Heap->Prop}(K:A.handled=none)(J:s.heap.get? l=some {cls:=.type "list",data:=.seq items x})
  (p:∀(R:Kr) (h1:Heap) (g:Nat),(∀b o,(s.heap.push mP).get? b=some o->h1.get? b=some o)->(∀h' tk,Z h'->(∀b o,s.heap.get? b=some o->h'.get? b=some o)->R (.ok (.ret .none)) {s with heap:=h',toks:=tk})->
   codeAny (model prog w) A.in1 (.builtin "dict.update.loop" ⟨[.ref s.heap.objs.size,.ref h1.objs.size,.int 0 0,.none],[]⟩) R {s with heap:=h1.push (AG l),toks:=g})
  (q:∀h' tk,Z h'->(∀b o,s.heap.get? b=some o->h'.get? b=some o)->Q (.ref s.heap.objs.size) {s with heap:=h',toks:=tk}) :
  wpAny (model prog w) A (call (.type "dict") [.ref l]) Q E s:=by
 have f:=PySem.F.kt_called_dict;obtain⟨m0,mr,hm⟩:=f.mro;have y1:=f.made;have Y:=f.sub;have X:=f.notType;have U:=f.canCreate;have T:=PySem.F.kt_typeCall_dict_1 (.ref l);refine Uy (codeAny_of_tree ?_);show wpAny _ _ (callAny (.type "dict") ⟨[.ref l],[]⟩) _ _ _;refine Yh ⟨Va _ (by decide+kernel),Zn PySem.F.entry_type_call ?_⟩;rw[Around.under_plain (weight_type_call_type "dict" [.ref l] []) rfl]
 repeat any_goals first|assumption|wp_step
 refine XF (kt_code_dict_new (.ref l) (E:=E) (Q₁:=λobj c=>obj=.ref s.heap.objs.size/\c={s with heap:=s.heap.push mP}) ⟨rfl,rfl⟩) λr c y=>?_;cases r with
 |error e=>exact y
 |ok N=>
  cases N with
  |ret obj=>
   obtain⟨rfl,rfl⟩:=y;have M:(s.heap.push mP).get? s.heap.objs.size=some mP:=Yq _ rfl;have L:Shared.TypeIs {s with heap:=s.heap.push mP} (.ref s.heap.objs.size) "dict":=⟨_,M,rfl⟩
   have S:=f.init.lookup;have P:=f.init.bind (.ref s.heap.objs.size)
   repeat any_goals first|assumption|wp_step
   refine XF (codeAny_call_builtin (R:=wants (λr a=>r=.none/\∃h' tk,a={s with heap:=h',toks:=tk}/\Z h'/\∀b o,s.heap.get? b=some o->h'.get? b=some o) E) f.init.plain PySem.F.entry_dict_init (f.init.check _ _ _ _ _ _ _ _ L (PySem.F.args_dict_init_2 _ _) ?_)) λm a h=>?_
   ·have u:(s.heap.push mP).get? l=some {cls:=.type "list",data:=.seq items x}:=Yf _ J;unfold Builtin.«dict.__init__» Builtin.Dict.selfAndRest Builtin.Dict.notOrdered;generalize i:Builtin.Dict.updateCommon=PI
    wp_walk
    subst i;show wpAny _ _ (Builtin.Dict.updateFrom "dict.__init__" s.heap.objs.size (.ref l) [] .none) _ _ _;unfold Builtin.Dict.updateFrom;generalize H:getAttr?=GA,i:pyIter=PI;have O:(Value.type "list" != Value.type "dict")=true:=by decide
    wp_walk
    subst H;refine EV u (by simpa using K) λh1 g I=>?_
    wp_walk
    subst i;have z:h1.IsList l items:=⟨_,I _ _ u,rfl,x,rfl⟩
    refine Vf z (Yh ?_);exact⟨Xl uo _,p _ h1 g I λh' tk C B=>⟨rfl,h',tk,rfl,C,B⟩⟩
   ·cases m with
    |error e=>exact h
    |ok j=>
     cases j with
     |ret v=>
      obtain⟨rfl,h',tk,rfl,C,B⟩:=h
      repeat any_goals first|assumption|wp_step
      exact q _ _ C B
     |_=>exact h.elim
  |_=>exact y.elim
def xj:bootBuiltins "dict"=some (.type "dict"):=by rfl
inductive PairsV (H:Hp):List V->List (Key×V)->Prop
 |nil:PairsV H [] []
 |cons {p:Addr}{k:Key}{x:V}{vs:List V}{kvs:List (Key×V)}:H p=some (.tup [kV k,x])->PairsV H vs kvs->PairsV H (.ref p::vs) ((k,x)::kvs)
def PairsV.length{kvs}(h:PairsV H vs kvs):vs.length=kvs.length:=by
 induction h with
 |nil=>rfl
 |cons _ _ ih=>exact YR Nat.succ ih
def Du{P}(ok:HOk P w H h){kvs}(m:PairsV H vs kvs):∀{its},Vals vs its->∃prs:List (Key×Value),KV kvs prs/\∀(i:Nat) v,its[i]?=some v->∃k u p a,prs[i]?=some (k,u)/\v=.ref p/\IsTup h p #[a,u]/\(bA P w).is k a=true:=by
 induction m with
 |nil=>intro its r;cases r;exact⟨[],.nil,λi v e=>nomatch e⟩
 |cons o _ ih=>
  intro its r;cases r with
  |cons j g=>
   obtain⟨prs,s,q⟩:=ih g;cases j;obtain⟨_,x,c,l,_⟩:=ok _ _ o;obtain⟨a,u,rfl,f,b⟩:=c.two;refine⟨(_,u)::prs,.cons ⟨rfl,b⟩ s,λi v e=>?_⟩;cases i with
   |zero=>cases e;exact⟨_,u,_,a,rfl,rfl,l,rM f⟩
   |succ i=>exact q i v e
def I8{kvs}(h:KV kvs prs):KV (g7 [] kvs) (iA prs):=by
 have:∀{kvs}{prs},KV kvs prs->∀{a}{b},KV a b->KV (g7 a kvs) (prs.foldl (λa p=>stored a p.1 p.2) b):=λh=>by
  induction h with
  |nil=>exact λh=>h
  |cons r _ ih=>
   intro a b c;refine ih (b:=stored b _ _) ?_;obtain⟨f,e⟩:=r;rw[<-f];exact KV.put c _ e
 exact this h .nil
theorem xq a kvs:(g7 a kvs).length<=a.length+kvs.length:=by
 unfold g7;induction kvs generalizing a with
 |nil=>simp
 |cons p r ih=>have b:=ih<|h9 a p.1 p.2;have h:=jb a p.1 p.2;rw[VB,Yt];lia
def xL(hcalm:X.calm=true):CallR X (.type "dict") (λxs H Q=>∃a vs kvs,xs=[.ref a]/\H a=some (.lst vs)/\PairsV H vs kvs/\vs.length<=1000/\∀d,H d=none->Q (.ref d) (upd H d (.dK (g7 [] kvs)))):=by
 intro pz s σ H xs us Q I r h;obtain⟨a,vs,kvs,rfl,ha,L,hl,q⟩:=h;obtain⟨u,rfl,ru⟩:=eV r;cases ru;obtain⟨_,f,n,B,M⟩:=I.hok _ _ ha;obtain⟨prs,kv,Y⟩:=Du I.hok L B;have KP:f.length=prs.length:=by rw[<-B.length,L.length];exact Uc kv
 have hh:=I.ok.hd hcalm;refine pY (Z:=λx=>Heap.DictOf (bA X.prog X.w) x s.heap.objs.size<|iA prs) hh M (λR l tk1 K hR=>?_) λx tk hZ hk=>?_
 ·have hS:(s.heap.push mP).get? s.heap.objs.size=some mP:=Yq _ rfl;have S:=K _ _ hS;have j:=Ys S;have m:=Ys M;have N:=Yz<|ZQ m j;have c:=λb o e=>K b o<|Yf _ e
  have g:∀b o,s.heap.get? b=some o->b∉s.heap.objs.size::[l.objs.size]:=λb o e=>by
   have:=Ys e;simp;exact⟨Yz this,Yz<|ZQ this j⟩
  have O:(l.push<|AG a).IsList a f.toArray:=Heap.IsList.push ⟨_,c _ _ M,rfl,n,rfl⟩ _;have E:X.A.in1.in1.handled=none:=by simpa using hh
  have T:Heap.DictOf (bA X.prog X.w) (l.push<|AG a) s.heap.objs.size (iA<|prs.take 0):=by obtain⟨_,_,vs0,J,o,es,ep,e,rr⟩:=Cu (P:=X.prog) (w:=X.w) (H:=H) s.heap I.big;cases J;exact⟨o,es,ep,Yf _<|K _ _ e,rr⟩
  refine zK ((Walks.list E _ a N f.toArray).toS) s.heap.objs.size (by simp;exact⟨Yz j,ZH m⟩) s.heap g prs (by rw[<-KP,YA]) (by rwa[YA,<-B.length]) (λi v e=>Y i v<|by simpa using e) _ 0 _ 0 0 (by omega) (YO _)
   ⟨⟨_,Yq _ rfl,rfl,rfl⟩,O⟩ (λb o e=>Yf _<|c b o e) T λs' p U=>?_
  obtain⟨x,g',d',y,C⟩:=s';have eg:=p.gens;have ed:=p.drawn;have eo:=p.os;subst eg ed eo;exact hR x y U λb o e=>p.heap b o (g b o e)<|Yf _<|c b o e
 ·have z:(g7 [] kvs).length<=sizeLine:=YD (xq [] kvs) (by rw[Ze,Zf,<-L.length];exact YD hl<|by decide);exact⟨.ref s.heap.objs.size,_,I.laid hk (Yr _)<|Bn z (ZW.mpr<|XS<|Yz I.big) (I8 kv) hZ,rfl,q _<|I.hok.fresh<|Yr _⟩
end L2
namespace L2
open PySem PySem.Spec PySem.W PyProof.Rows
noncomputable def gE:List D->Option (List (Key×D))
 |[]=>some []
 |.tup [k,v]::r=>(iP k).bind λa=>(gE r).map λl=>(a,v)::l
 |_=>none
def lx(a kvs:List (Key×D)):List (Key×D):=kvs.foldl (λb p=>e7 b p.1 p.2) a
def ut(r:Rep K F v d)(h:iP d=some k):v=kV k:=by
 cases d with
 |int i=>cases h;cases r;rfl
 |str x=>cases h;cases r;rfl
 |_=>cases h
def An(s:Same F H):∀{vs}{ds}{kvs},Reps K F vs ds->gE ds=some kvs->∃l,PairsV H vs l/\RepsK K F l kvs:=by
 intro vs ds kvs r;refine Reps.ind (M:=λvs ds=>∀kvs,gE ds=some kvs->∃l,PairsV H vs l/\RepsK K F l kvs) (λkvs h=>by cases h;exact⟨[],.nil,.nil⟩) (λ{v d vs ds} c _ ih kvs h=>?_) r kvs;unfold gE at h;split at h
 ·rename_i e;cases e
 ·rename_i k x p e;cases e;obtain⟨w,q,h⟩:=YE.mp h;obtain⟨l,a,rfl⟩:=XU.mp h;obtain⟨u,m,j⟩:=ih l a;cases c with
 |tup e1 e2=>
  cases e2 with
  |cons i g=>
   cases g with
   |cons b f=>
    cases f;have o:=ut i q;subst o;exact⟨_,.cons (s _ _ e1) m,.cons b j⟩
 ·cases h
def wB{l}{kvs}(h:RepsK K F l kvs){a}{b}(c:RepsK K F a b):RepsK K F (g7 a l) (lx b kvs):=
 RepsK.ind (M:=λl kvs=>∀a b,RepsK K F a b->RepsK K F (g7 a l) (lx b kvs)) (λ_ _ h=>h) (λ{k v d e f} r _ ih a b c=>ih _ _<|RepsK.put r c) h a b c
def yM(f:Dl):DF->Option OD:=λc=>(f c).bind λb=>(gE b).bind λa=>if b.length<=1000 then some (.dK<|lx [] a)else none
section
variable  {i:Expr}  {fk fd:Dd}
def zS{f:Dl}(hcalm:X.calm=true)(C:Gl X "dict")(A:X.mg "dict"=none)(h:PDO X e (asL f))(hs:starEach [e] X.env=[(false,eval e X.env)]:=by rfl)(i:(backTo pos (starEach [] X.env)).any (·.1)=false:=by rfl) :
  PDO X (.Call (.Name "dict" p) [e] [] pos) (yM f):=
 (eQ (xL hcalm) C A xj (aR h bK hs) (by decide) (by decide) hs i).imp λM H Q=>un7 λP F o N b I k=>by
  unfold yM at b;cases q:f o with
  |none=>rw[q]at b;cases b
  |some m=>
  cases g:gE m with
  |none=>rw[q,Ya,g]at b;cases b
  |some y=>
  rw[q,Ya,g,Ya]at b;split at b
  ·rename_i B;cases b;refine⟨P,F,o,.lst m,by unfold asL;rw[q];rfl,I,λa x S c z=>?_⟩;obtain⟨⟨R,O⟩,u,L,w⟩:=z;cases u with
   |lst vs=>
    have s:=w;obtain⟨l,J,E⟩:=An c.hp.sub s g;refine⟨a,vs,l,rfl,L,J,by rwa[s.length],λd j=>?_⟩;exact k d x _ (c.trans<|Evo.side c.hp j) ⟨⟨c.back I.toDHp j,(c.hp.free j).1⟩,_,aI,wB E .nil⟩
   |_=>exact w.elim
  ·cases b
noncomputable def lh:D->D->Option D
 |y,.dK kvs=>(iP y).map λk=>.bl<|!(dn kvs k).isSome
 |_,_=>none
theorem BY(S:X.A.units+64<cLine)(hi:PDE X i fk)(C:PDR X o fd)(h1:behindInMarks .NotIn o=false:=by first|exact vS _ (by decide) (by decide)|rfl):PDT X (.Compare i [.NotIn] [o] pos) (asB (d2 lh fk fd)):=(CF (zC (by lia) hi C) h1).imp λO H Q=>un7 λP F c b h I k=>by
 have h:=BN h;unfold d2 at h;cases q:fk c with
 |none=>rw[q]at h;cases h
 |some s=>
 cases g:fd c with
 |none=>rw[q,Ya,g]at h;cases h
 |some K=>
 rw[q,Ya,g,Ya]at h;cases K with
 |dK kvs=>
  have a:((iP s).map λk=>D.bl _)=some _:=h;obtain⟨j,f,a⟩:=XU.mp a;cases a;refine⟨P,F,c,_,q,I,λy N U m w=>⟨P,N,c,_,g,I.evo m,λx M L l B=>?_⟩⟩;obtain⟨p,u,rfl,h1,E⟩:=IF ((I.evo m).evo l) B;have J:=ut (w.same l.ext) f;subst J;refine⟨p,_,rfl,DGet.k h1,_,rfl,?_⟩;have:(eK u j).isSome=(dn kvs j).isSome:=by
   rcases E.val with⟨e,z⟩|⟨v,T,e,z,R⟩
   ·rw[e,z];rfl
   ·rw[e,z];rfl
  rw[this];exact k M L<|m.trans l
 |_=>cases h
noncomputable def oZ (i:Nat)(a0:Addr)(v0:V)(g:Dd)(fe:Dd):DF->Option D:=λb=>match b[i]? with
 |some (some<|.v<|.fn a v d)=>open Classical in if a=a0/\v=v0 then(fe b).bind λx=>g [some<|.v x,some<|.v d]else none
 |_=>none
def DR{c}{j:Dd}(S:L.Ok)(M:LamIn X L a0 c' c uc)(B:RelV v0 uc)(J:Room (k+1) X.A)(hN:X.N[ix]?=some x)(hv:Vis X.env.scope x)(R:PDE X e fe)
  (O:∀s H E,PDE (re CX0 X.prog X.w X.K X.mg X.base L a0 c' c X.A X.stack s H E) L.body j)
  (hd:nDb x:=by decide) (hcd:nDc x:=by decide) (he:starEach [e] X.env=(false,eval e X.env)::starEach [] X.env:=by rfl) :
  PDE X (.Call (.Name x p) [e] [] pos) (oZ ix a0 v0 j fe):=
 (C8 (t:=tD X.K j) S M B J hN hv R (λs H E=>O s H E) hd hcd he).imp λσ H Q=>un7 λP F l d h I k=>by
  unfold oZ at h;split at h
  ·rename_i a v Z q;split at h
   ·rename_i av;obtain⟨rfl,rfl⟩:=av;obtain⟨m,g,h⟩:=YE.mp h;obtain⟨w,U,T⟩:=I.at q;cases T with
   |fn rv=>
    refine⟨U,P,F,l,m,g,I,λo u H1 f r=>⟨o,rfl,gd u H1,u,[some<|.v m,some<|.v Z],d,h,⟨gJ f.hp.sub,rfl,λ_=>none,λi z b=>?_⟩,λy F2 H2 Y C=>k y F2 H2 (f.trans<|Y.change f.hp) C⟩⟩
    match i,b with
    |0,b=>cases b;exact⟨o,rfl,r⟩
    |1,b=>cases b;exact⟨_,rfl,Rep.same f.ext rv⟩
    |i+2,b=>cases b
   ·cases h
  ·cases h
noncomputable def D5(i:Nat)(fe:Dd):DF->Option RES:=λc=>match c[i]?,fe c with
 |some<|some<|.v<|.int a,some (.int b)=>some<|.nx<|c.set i<|some<|.v<|.int<|a+b
 |_,_=>none
def Jj(hN:X.N.Nodup)(hi:X.N[ix]?=some x)(hx:Loc X.env.scope x)(he:PDE X e fe)(i:FnL X x:=by trivial):PD1 X (.AugAssign (.Name x pos') .Add e pos) (D5 ix fe):=
 PS.imp (Hs hN hi hx he Iv i) λE p H=>un7 λP F f r h I k=>by
  unfold D5 at h;split at h
  ·rename_i a b q g;cases h;obtain⟨v,l,j⟩:=I.at q;cases j;refine⟨_,l,P,F,f,_,g,I,λy o m c r=>?_⟩;cases r;exact⟨a,b,rfl,rfl,k _ o m c.ext<|(I.evo c).setV ix .int⟩
  ·cases h
end
end L2
namespace L2
open PySem PySem.Spec PyProof.Rows
section
variable  {i:Expr}   {f:DX}{g:DXs}{fd fk:Dd}
end
abbrev GL:=List<|Str×Nat×Int×Nat
noncomputable def glE(P:Params)(p:Str×Nat×Int×Nat):DictEntry:=⟨PyData.keyHash P p.1,.str p.1 p.2.1,.int p.2.2.1 p.2.2.2⟩
structure KD (K:PySem.W.Frag) (P:Params) (d:Addr) (L:GL) (ep:Nat):Prop where
 look:K.lookup d=some {cls:=.type "dict",data:=.dict (L.map (glE P)).toArray ep}
 nd:(L.map (·.1)).Nodup
 ns:(d == sysModules)=false
section
variable  {i:Expr}  {f:Dd}  {d:Addr}{L:GL} 
end
abbrev AW:=Nat ⊕ D
abbrev MW:=List DV->Option (List DV×D)
abbrev DWs:=DF->Option (List AW×DF)
section
variable    {g:DWs}{f:DX}
variable{k:Nat}   {q:Str}  {m:MW}  
end
end L2
namespace L2
open PySem PySem.Spec PySem.W PyProof.Rows
def DInv.lend(I:DInv K P F H ρ σ){o}(fl:o.flat=true)(h:ρ[i]?=some (some (.own o t))):∃T,DInv K T F H (ρ.set i (some (.bor o))) σ:=by
 obtain⟨O,p⟩:=I.rep;obtain⟨_,L,a,rfl,J,_⟩:=p i _ h;obtain⟨⟨M,s,y⟩,u,S,R⟩:=(ORep.flat fl).mp J;have A:∀{b}{m},O b=some m->i≠m->b≠a:=λh C z=>by subst z;rw[y]at h;exact C<|Yv h
 refine⟨upd P a u,⟨I.sub,λb w e=>?_,λb w e=>?_⟩,by rw[Zz];exact I.len,O,λm x E=>?_⟩
 ·by_cases q:b=a
  ·subst q;rw[aI]at e;cases e;exact S
  ·rw[aD q]at e;exact I.pro b w e
 ·by_cases q:b=a
  ·subst q;exact M
  ·rw[aD q]at e;exact I.dis b w e
 ·rcases fm E with⟨rfl,e,U⟩|⟨g,f⟩
  ·cases e;exact⟨_,L,a,rfl,(ORep.flat fl).mpr ⟨trivial,u,aI,R⟩⟩
  ·obtain⟨v,N,l⟩:=p m x f;refine⟨v,N,?_⟩;cases x with
   |v d=>exact l
   |own o' t'=>
    obtain⟨b,rfl,j,B⟩:=l;exact⟨b,rfl,j.mono (Same.refl _) λQ w q c=>⟨c,q.1,by rw[aD<|A q.2.2 g];exact q.2.1,q.2.2⟩,B⟩
   |bor o'=>
    obtain⟨b,rfl,j⟩:=l;exact⟨b,rfl,j.mono (Same.refl _) λQ w q c=>⟨by rwa[aD λz=>by subst z;rw[s]at c;cases c],q⟩⟩
noncomputable def vD(i:Nat)(f:Do):DF->Option OD:=λa=>match a[i]? with
 |some (some<|.own o _)=>if o.flat=true then f (a.set i<|some<|.bor o)else none
 |_=>none
def DQ i{f:Do}(h:PDO X e f):PDO X e (vD i f):=PE.imp h λu H Q=>un7 λP F w o b I k=>by
 unfold vD at b;split at b
 ·rename_i x t q;split at b
  ·rename_i g;obtain⟨l,m⟩:=I.lend g q;exact⟨l,F,_,o,b,m,λa s p j c=>k a s p (j.change I.toDHp) c⟩
  ·cases b
 ·cases b
section
variable       {osl:Array (Option Value)}{kV:Value}
end
end L2
namespace L2
open PySem PySem.Spec PyProof.Rows
noncomputable def j6(f:Dd):DF->Option Bool:=λa=>match f a with
 |some (.lst ds)=>some<|!ds.isEmpty
 |_=>none
def t8(a:PDR X e fa)(he:∀w,isTrue e X.env w=(do let v <-w;standAt e.pos;holding [v] (truthy v)):=by intro _;rfl):PDT X e (j6 fa):=
 (Cd a he).imp λs H Q=>un7 λP F b d h I k=>by
  unfold j6 at h;cases a:fa b with
  |none=>rw[a]at h;cases h
  |some m=>
  rw[a]at h;cases m with
  |lst ds=>
   cases h;refine⟨P,F,b,_,a,I,λx q p f g=>?_⟩;have o:=I.evo f;obtain⟨l,c,rfl,j,i⟩:=eS o g;refine⟨!ds.isEmpty,.inl ⟨c,j,?_⟩,k q p f⟩;have:=i.length;cases c<;>cases ds<;>first|rfl|cases this
  |_=>cases h
end L2
set_option maxHeartbeats 400000
namespace L2
open PySem PySem.Spec PyProof.Rows
def Gh(xs:Array Value)(c:Nat):Obj:={cls:=.type "list",dict:=none,data:=.seq xs c,slots:=#[]}
def KpB(wr:List Addr)(S:Addr)(h h':Heap):Prop:=∀b o,b∉wr->b≠S->h.get? b=some o->h'.get? b=some o
section
variable    {R:Kr}   {n:Nat}{P:Nat->Value->Prop}{St:Nat->Heap->Prop}{bt:Nat->Nat->Bool}{B:Shared}
def KpB.upd{f}(k:∀b o,b∉wr->h.get? b=some o->h'.get? b=some o):KpB wr S h (h'.update S f):=λb o a c e=>by
 rw[VE _ _<|XS c];exact k b o a e
def KpB.trans(a:KpB wr S h h1)(b:KpB wr S h1 h2):KpB wr S h h2:=λc o f g e=>b c o f g<|a c o f g e
def KpS(B s:Shared):Prop:=(∃h a,s={B with heap:=h,toks:=a})/\∀b o,B.heap.get? b=some o->s.heap.get? b=some o
def LtH(prog:Program)(w:World)(A:Around)(B:Shared)(P:Nat->Value->Prop)(bt:Nat->Nat->Bool):Prop:=∀i j v u s (Q E:Kv),KpS B s->P i v->P j u->Q (.bool<|bt i j) s->wpAny (model prog w) A (richCompare .Lt v u) Q E s
def K7(P:Nat->Value->Prop)(bt:Nat->Nat->Bool)(j:Nat)(xs:Array Value):Prop:=(j=0/\xs=#[])\/∃v,0<j/\xs=#[v,v]/\P (argBest bt<|j-1) v
theorem Gp(W:Walks prog w A.in1 I fp wr n P St)(hc:LtH prog w A.in1 B P bt)(hS:S∉fp)(hB:∀b,b=S\/b∈wr->B.heap.get? b=none)(hn:0<n):∀m j s xs c,j+m=n->St j s.heap->KpS B s->
  s.heap.get? S=some (Gh xs c)->K7 P bt j xs->(∀v h' tk,P (argBest bt<|n-1) v->KpB wr S s.heap h'->R (.ok<|.ret v) {s with heap:=h',toks:=tk})->codeAny (model prog w) A (.builtin "min.loop" ⟨[.ref I,.none,.ref S],[]⟩) R s:=by
 have X:=λz=>hS<|W.sub S z
 have Y:∀b o,B.heap.get? b=some o->b∉wr/\b≠S:=λb o e=>⟨λz=>by(rw[hB b<|.inr z]at e;cases e),λz=>by(rw[hB b<|.inl z]at e;cases e)⟩
 have O:(toString "min"++toString ".loop") = "min.loop":=rfl;have fr:∀{i}{h}{f},St i h->St i (h.update S f):=λ{i h f} q=>W.frame i h _ q λb J o e=>by rwa[VE _ _ (λz:S=b=>hS<|by rw[z];exact J)]
 intro m;induction m with
 |zero=>
  intro j s xs c U y J H Q k;rcases Q with⟨z,_⟩|⟨v,z,rfl,E⟩
  ·lia
  refine Zn PySem.F.entry_min_loop ?_;refine Yb<|XR H rfl ?_;refine Yb<|wpAny_tryCatch<|W.done s _ _ (by rw[<-U];exact y) λh' tk x=>?_;refine Yb ?_;refine XE (x S _ X H) rfl<|Yb<|wpAny_letGo<|Yh ?_;exact k v _ tk (by rw[<-U];exact E)<|.upd x
 |succ m ih=>
  intro j s xs c U y J H Q k;refine Zn PySem.F.entry_min_loop ?_;refine Yb<|XR H rfl ?_;refine Yb<|wpAny_tryCatch<|W.item j s _ _ (by lia) y λv h' tk E l x=>?_;have a:=x S _ X H;have Z:∀(g:Heap),KpB wr S s.heap g->KpS B {s with heap:=g,toks:=tk}:=λg L=>⟨by obtain⟨⟨h0,t0,e0⟩,_⟩:=J;rw[e0];exact⟨g,tk,rfl⟩,λb o e=>L b o (Y b o e).1 (Y b o e).2<|J.2 b o e⟩
  have go:∀(g:Heap) (K:Array Value) (C:Nat),St (j+1) g->KpB wr S s.heap g->g.get? S=some (Gh K C)->K7 P bt (j+1) K->codeAny (model prog w) A (.builtin "min.loop" ⟨[.ref I,.none,.ref S],[]⟩) R {s with heap:=g,toks:=tk}:=λg K C q1 L q3 q4=>
   ih (j+1) _ K C (by lia) q1 (Z g L) q3 q4 λu h3 N p1 p2=>k u h3 N p1<|L.trans p2
  have new:∀{f:Obj->Obj}{C:Nat},(h'.update S f).get? S=some (Gh #[v,v] C)->P (argBest bt j) v->codeAny (model prog w) A (.builtin "min.loop" ⟨[.ref I,.none,.ref S],[]⟩) R {s with heap:=h'.update S f,toks:=tk}:=λ{f C} q p=>go _ _ C (fr l) (.upd x) q<|.inr ⟨v,Xe _,rfl,p⟩
  rcases Q with⟨z,rfl⟩|⟨u,z,rfl,hu⟩
  ·subst z;show wpAny (model prog w) A.in1 (updateSeq S (λ_=>#[v,v])>>=_) _ _ _;refine Yb ?_;refine XE a rfl ?_;rw[O];exact Yh ⟨Xl Xg _,new (Zd _ a rfl) E⟩
  ·have M:argBest bt j=if bt j (argBest bt<|j-1)then j else argBest bt (j-1):=by obtain⟨i,rfl⟩:=Nat.exists_eq_succ_of_ne_zero<|ZH z;rfl
   show wpAny (model prog w) A.in1 (tryCatch (holding [v,v]<|richCompare .Lt v u>>=_) _>>=_) _ _ _;refine Yb<|wpAny_tryCatch<|ZE<|Yb<|hc j (argBest bt<|j-1) v u _ _ _ (Z h' λb o T _ e=>x b o T e) E hu<|Yb<|ZE<|ZM<|Yb<|wpAny_letGo<|Yh ?_;cases q:bt j (argBest bt<|j-1)with
   |true=>
    rw[q,Yj rfl]at M;rw[Yj rfl];refine Yb ?_;refine XE a rfl<|Yb<|wpAny_letGo ?_;rw[O];exact Yh ⟨Xl Xg _,new (Zd _ a rfl)<|by rw[M];exact E⟩
   |false=>
    rw[q,Yl Yk]at M;rw[Yl Yk];refine Yb<|wpAny_letGo ?_;rw[O];exact Yh ⟨Xl Xg _,go _ _ c l (λb o T _ e=>x b o T e) a<|.inr ⟨u,Xe _,rfl,by rw[Nat.add_sub_cancel,M];exact hu⟩⟩
end
def pS(ds:List D):Nat:=argBest (λi j=>ltD (ds.getD i .non)<|ds.getD j .non)<|ds.length-1
def zg(ds:List D):Bool:=!ds.isEmpty&&ds.all (okN 28)&&ds.all λx=>ds.all λy=>aw x y
noncomputable def iJ:D->Option D
 |.lst ds=>if zg ds=true then some (ds.getD (pS ds) .non)else none
 |_=>none
theorem gh bt:∀k,argBest bt k<=k
 |0=>Yr _
 |k+1=>by
  unfold argBest;split
  ·exact Yr _
  ·exact Nat.le_succ_of_le<|gh bt k
theorem zQ(hu:X.A.units+64<cLine)(hcalm:X.calm=true):CallR X (.builtin "min") (λxs H Q=>∃l vs ds,xs=[.ref l]/\SqL X.K H l vs/\Reps X.K H vs ds/\zg ds=true/\Q (vs.getD (pS ds) .non) H):=by
 intro pz s σ H xs us Q I r h;obtain⟨l,vs,ds,rfl,hq,J,ok,q⟩:=h;obtain⟨u,rfl,ru⟩:=eV r;cases ru;obtain⟨a,C,L,hz⟩:=I.list hq;unfold zg at ok;simp at ok;obtain⟨⟨ne,o1⟩,o2⟩:=ok;have M:a.length=ds.length:=by rw[<-C.length,J.length]
 have p:=List.length_pos_iff.mpr ne;refine call_function_tree PySem.F.kind_min PySem.F.plain_min PySem.F.entry_min (PySem.F.args_min1 _) ?_;refine Yb<|wpAny_of_eq (show Builtin.Builtins.bindParams "min" ["key","default"] 0 ⟨[],[]⟩=pure [none,none]from rfl)<|Yb<|Yh<|Yb<|Vf L.isList<|Yb<|Xh ?_;have c:l<s.heap.objs.size:=by obtain⟨_,e,_⟩:=L.isList;exact Ys e
 have Y:∀b o,s.heap.get? b=some o->((s.heap.push {cls:=.type "list_iterator",data:=.fields #[.ref l,.int 0 0]}).push<|Gh #[] 0).get? b=some o:=λb o e=>Yf _<|Yf _ e
 have sz:(s.heap.push {cls:=.type "list_iterator",data:=.fields #[.ref l,.int 0 0]}).objs.size=s.heap.objs.size+1:=Xj ..;refine Yh ⟨Xl Xg _,Gp (B:=s) (bt:=λi j=>ltD (ds.getD i .non)<|ds.getD j .non) (Walks.list (A:=X.A.in1) (I.ok.hd hcalm) s.heap.objs.size l (Yz c) a.toArray) (λi j v u s2 Q' E R N O hQ=>?_) ?_ ?_ ?_ a.length 0 _ #[] 0 ?_ ⟨⟨_,Yf _<|Yq _ rfl,rfl,rfl⟩,(L.isList.push _).push _⟩ ⟨⟨_,_,rfl⟩,Y⟩ (Yq _ rfl) (.inl ⟨rfl,rfl⟩) λv h' tk N kp=>?_⟩
 ·have gi:∀i v,a.toArray[i]?=some v->∃x,ds[i]?=some _/\RelV x v/\Rep X.K H x _/\okN 28 _=true/\ds.getD i .non∈ds:=λi v e=>by
   have P:i<ds.length:=by rw[<-M];exact(Zt.mp e).1
   have m:ds[i]?=some (ds.getD i .non):=by rw[YF,Yg P];rfl
   obtain⟨x,g,Z⟩:=J.get m;obtain⟨v',T,S⟩:=C.get g;have f:a[i]?=some v:=by simpa using e
   rw[T]at f;cases f;exact⟨x,m,S,Z,o1 _<|YJ m,YJ m⟩
  obtain⟨x,_,r1,p1,k1,m1⟩:=gi i v N;obtain⟨y,_,r2,p2,k2,m2⟩:=gi j u O;obtain⟨⟨Z,t2,rfl⟩,k⟩:=R;exact Rep.lt (I.kept k) 28 X.A.in1 (by show X.A.units+1+28+2<cLine;lia) p1 p2 k1 k2 (o2 _ m1 _ m2) r1 r2 X.prog X.w E Q' hQ
 ·show(s.heap.push _).objs.size∉[s.heap.objs.size,l];rw[sz];intro z;rcases Yw.mp z with z|z
  ·exact Nat.succ_ne_self _ z
  ·exact YX _<|ZQ (ZK _)<|(YC.mp z).symm ▸ c
 ·intro b R;have:s.heap.objs.size<=b:=by
   rcases R with z|z
   ·rw[z];rw[sz];lia
   ·rw[YC.mp z];exact Yr _
  exact Heap.get?_none_of_le this
 ·simpa[M]using p
 ·simp
 ·have P:pS ds<ds.length:=Zk (gh _ _) (by lia);obtain⟨x,g⟩:∃x,vs[pS ds]?=some x:=⟨_,Yg<|by rwa[J.length]⟩
  obtain⟨v',T,S⟩:=C.get g;have f:a[pS ds]?=some v:=by have:a.toArray[argBest _ _]?=some v:=N;rw[YA,M]at this;exact(by simpa using this:a[argBest _ _]?=some v)
  rw[T]at f;cases f;refine⟨_,H,I.kept λb o e=>kp b o (λz=>?_) (λz=>?_)<|Y b o e,S,?_⟩
  ·simp[YC]at z;exact absurd (z ▸ Ys e)<|YX _
  ·have:b<s.heap.objs.size+1:=Zv<|Ys e;rw[z]at this;have U:=this;rw[sz]at U;exact YX _ U
  ·rwa[YF,g]at q
def yQ(s:X.A.units+64<cLine)(hcalm:X.calm=true)(w:Gl X "min")(u:X.mg "min"=none)(y:PDR X e fa)
  (hs:starEach [e] X.env=[(false,eval e X.env)]:=by rfl) (c:(backTo pos<|starEach [] X.env).any (·.1)=false:=by rfl) :
  PDE X (.Call (.Name "min" p) [e] [] pos) (d1 iJ fa):=
 (iL (zQ s hcalm) w u Cz (aR y bK hs) (by decide) (by decide) hs c).imp λK H Q=>un7 λP F m d h I k=>by
  obtain⟨E,q,h⟩:=YE.mp h;cases E with
  |lst ds=>
   unfold iJ at h;dsimp only at h;split at h
   ·rename_i ok;cases h;refine⟨P,F,m,_,q,I,λv J L i r=>?_⟩;have j:=I.evo i;obtain⟨l,o,rfl,z,g⟩:=eS j r;have f:pS ds<ds.length:=Zk (gh _ _)<|Ue (by cases ds with|nil=>cases ok|cons a b=>exact Xe _) Nat.one_pos;obtain⟨x,C,B⟩:=g.get<|Yg f;refine⟨l,o,ds,rfl,z,g.same j.sub,ok,k _ J _ i ?_⟩;rwa[YF,C,YF,Yg f]
   ·cases h
  |_=>cases h
noncomputable def G9(d:D):FO->Option FO
 |.d _=>some<|.d d
 |_=>none
def iF(C:Addr)(i:Nat)(n:Str)(f:Dd):DF->Option RES:=λa=>(f a).bind λd=>(k7 (some C) i n (G9 d) a).map .nx
def iu i{f:Dd}(c:Cls X.K C)(z:NoAttr X.K C n)(y:PE X o (eD i))(hv:PDE X value f)(hs:swapsWith value (some (.Attribute o n pos')) pos.line X.env=pure false:=by rfl) :
  PD1 X (.Assign [.Attribute o n pos'] value pos) (iF C i n f):=PS.imp (tK y hv hs) λE j H=>un7 λP F m r h I k=>by
 obtain⟨d,q,h⟩:=YE.mp h;obtain⟨l,u,rfl⟩:=a_ h;obtain⟨fs,t,x,Q,B,A,e,b,rfl⟩:=qq u;refine⟨P,F,m,d,q,I,λv O U g s=>?_⟩;cases x with
 |d d0=>
  cases e;obtain⟨a,N,p,w,M,L,T,S,R,J,back⟩:=(I.evo g).fld B A;exact⟨_,M,a,C,N,p,rfl,L,c,z,by rwa[J],k j O _ g.ext<|back v d s⟩
 |_=>cases e
section
variable{P:Program}     {q:Str}  {c:Addr}   {k:Nat} 
def Df.okC(F:Df K q st f fd) N (x:∀{A}{outer}{s}{H}{E},Room k (A.deeper (envOfC q (defScope st) s.heap.objs.size f (.ref c)))->
      PDS (gA CX0 P w K mg base N q (defScope st) f (.ref c) A outer s H E).nox (defBody st) g) (e:fd=fnD q st pm c:=by kernel_rfl) (h:xw N (d8 st) (defScope st)=true:=by kernel_rfl):FnOk P w K mg base CX0 (k+1) f fd (d8 st) (spD K (mOf N.length (d8 st).length g)):=by
  obtain⟨J,I,kV,i,p,B,a,y,o,j,l,b⟩:=F.fn.ex;subst e;have z:=j;have u:=YR FuncData.code z;subst u;exact G2 l b (scI N h) xV λA outer s H C Q E m h=>⟨_,PSs.nox<|x m,vG h⟩
def FnOk.neverO:FnOk P w K mg base CX0 k f fd ps (spO K λ_ _=>none):=
 ⟨λ_ _ _ _ z=>(by obtain⟨_,_,_,_,_,_,_,_,_,e,_⟩:=z;cases e),λ_ _ _ _ _ _ _ _ _ _ _ _ _ z=>(by obtain⟨_,_,_,_,_,_,_,_,_,e,_⟩:=z;cases e)⟩
end
noncomputable def Ao(x:Str)(n:Int):Str:=if n<1 then Str.empty else if(n == 1||x.length == 0)=true then x else⟨(List.replicate n.toNat x.cps).foldl (·++·) #[]⟩
noncomputable def lF:D->D->Option D
 |.str x,.int n=>if -(2^62)<=n/\n<1000/\x.length<=1000 then some (.str<|Ao x n)else none
 |_,_=>none
def GT:R2:=λx y H Q=>∃z n,x=.str z/\y=.int n/\(-(2^62)<=n/\n<1000/\z.length<=1000)/\Q (.str<|Ao z n) H
theorem vo c:∀k (acc:Array Nat),((List.replicate k c).foldl (·++·) acc).size=acc.size+k*c.size
 |0,acc=>by simp
 |k+1,acc=>by
  rw[List.replicate_succ,VB,vo,UB,Nat.succ_mul];lia
section
variable  {a:Expr}  
theorem Gz:OpR X (binaryOp .Mult) GT:=by
 intro p s g H x y v u Q I f e h;obtain⟨z,n,rfl,rfl,⟨b1,b2,b3⟩,q⟩:=h;obtain⟨t,rfl⟩:=f;obtain⟨i,rfl⟩:=e;refine PySem.P.mul_str (by rw[YB<|show ¬n < -(2^63)by lia,YB<|show ¬n ≥ 2^63 by lia];rfl) (λa _=>?_) (λa _=>?_) ?_
 ·have c:1000<=(2^63-1)/n:=Int.le_ediv_of_mul_le (by lia) (by lia);lia
 ·have c:z.length*n.toNat<=1000*1000:=Ux b3 (by lia);show decide _=false;rw[Xq,YY];lia
 ·unfold Ao at q;split
  ·rename_i a;rw[Yj a]at q;exact⟨by decide,⟨.str Str.empty,H,I.tok _,⟨_,rfl⟩,q⟩⟩
  ·rename_i a;rw[Yl a]at q;split
   ·rename_i b;rw[Yj b]at q;exact⟨.str z,H,I,⟨_,rfl⟩,q⟩
   ·rename_i b;rw[Yl b]at q;refine⟨?_,⟨.str _,H,I.tok _,⟨_,rfl⟩,q⟩⟩;show((List.replicate n.toNat z.cps).foldl (·++·) #[]).size<=sizeLine;rw[vo,YY];have c:n.toNat*z.cps.size<=1000*1000:=Ux (by lia) b3;show 0+n.toNat*z.cps.size<=_;lia
def Es:wo K GT lF:=by
 intro P F H f e x y i g d Q h I b a k;unfold lF at h;split at h
 ·rename_i z n;split at h
  ·rename_i c;cases h;exact⟨z,n,ng b,dm a,c,k _ F H (Evo.refl I.toDHp) .str⟩
  ·cases h
 ·cases h
def tV(c:PDR X a fa)(h:PDR X b fb):PDE X (.BinOp a .Mult b pos) (d2 lF fa fb):=jS Gz Es c h
end
mutual
def aG(w:World):D->Int
 |.int i=>hashInt i
 |.str x=>hashStr w x
 |.tup xs=>reduceHash (Builtin.Tuple.tupleHashOf (pD w xs))
 |_=>0
def pD(w:World):List D->List Int
 |[]=>[]
 |d::ds=>aG w d::pD w ds
end
theorem oe w:∀ds,pD w ds=ds.map (aG w)
 |[]=>rfl
 |d::ds=>by rw[YH,<-oe];rfl
noncomputable def hkN:Nat->D->Bool
 |_,.int _=>true
 |_,.str _=>true
 |n+1,.tup xs=>xs.all<|hkN n
 |_,_=>false
def fJ{as}(r:Reads h u (cc (.tup ds)) as):∃a o vs n,u=.ref a/\h.get? a=some o/\o.cls=.type "tuple"/\o.data=.seq vs n/\ReadsAll h vs.toList (cn ds) as:=by
 cases r with
 |tuple h1 h2 h3 h4=>exact⟨_,_,_,_,rfl,h1,h2,h3,h4⟩
theorem Em:∀n {A}{E:Kv}{s}{d}{u}{as}{Q},A.units+n<cLine->hkN n d=true->Reads s.heap u (cc d) as->
  (∀tk,s.toks<=tk->Q (aG w d) {s with toks:=tk})->wpAny (model prog w) A (pyHash u) Q E s:=by
 intro n;induction n with
 |zero=>
  intro A E s d u as Q O y r h;cases d with
  |int i=>cases r;exact wpAny_pyHash_int<|h _<|ZI _
  |str x=>cases r;exact wpAny_pyHash_str<|h _<|ZI _
  |_=>cases y
 |succ n ih=>
  intro A E s d u as Q O y r h;cases d with
  |int i=>cases r;exact wpAny_pyHash_int<|h _<|ZI _
  |str x=>cases r;exact wpAny_pyHash_str<|h _<|ZI _
  |tup ds=>
   obtain⟨a,o,S,m,rfl,K,P,I,N⟩:=fJ r;have C:s.TypeIs (.ref a) "tuple":=⟨o,K,P⟩
   have l:=λd m=>Yi.mp y d m
   unfold pyHash;refine Yb<|wpAny_cRoomFor_or (.inr<|by lia) ?_;refine Yb<|XD C PySem.F.slot_tuple_hash.lookup ?_;refine Yb<|XD C PySem.F.slot_tuple_hash.lookup ?_;refine Yb<|wpAny_callSpecialIfBoundUnlessNone?_slot C PySem.F.slot_tuple_hash<|ZU PySem.F.slot_tuple_hash C PySem.F.entry_tuple_hash ?_<|PySem.F.args_tuple_hash_1 _;show wpAny _ _ (Builtin.Tuple.tupleItemsOf _>>=_) _ _ s;refine Yb<|wpAny_tupleItemsOf K I ?_;refine Yb ?_;rw[<-VC];refine Xv _
    (λbW b H=>∃c left bs tk,ds=c++left/\ReadsAll s.heap bW (cn left) bs/\b.toList=c.map (aG w)/\s.toks<=tk/\H={s with toks:=tk})
    _ ?_ ?_ _ _ ⟨[],ds,_,_,rfl,N,rfl,Yr _,rfl⟩
   ·rintro x bW b H ⟨c,left,bs,tk,e,q,B,j,rfl⟩;cases left with
    |nil=>cases q
    |cons J left=>
     cases q with
     |cons R L=>
      refine Yb<|ih (by show A.units+1+n<cLine;lia) (l J<|by rw[e];simp) R λM g=>?_
      first
       |exact Yh ⟨c++[J],left,_,_,by simp[e],L,by simp[B],YD j g,rfl⟩
       |exact Yb<|Yh<|Yh ⟨c++[J],left,_,_,by simp,L,by simp,YD j g,rfl⟩
   ·rintro b H ⟨c,left,bs,tk,e,q,B,j,rfl⟩;cases left with
    |cons _ _=>cases q
    |nil=>
    rw[YZ]at e;subst e;show wpAny _ _ (retInt<|Builtin.Tuple.tupleHashOf b.toList) _ _ _;rw[B,<-oe];refine wpAny_ret_mkInt ?_;have f:∀tk,s.toks<=tk->Q (reduceHash<|Builtin.Tuple.tupleHashOf<|pD w ds) {s with toks:=tk}:=h;generalize Builtin.Tuple.tupleHashOf (pD w ds)=z at f;show wpAny _ _ (if(decide (-(2:Int)^63<=z)&&decide (z<2^63))=true then _ else _) Q E _;unfold reduceHash at f;by_cases p:(decide (-(2:Int)^63<=z)&&decide (z<2^63))=true
    ·rw[Yj p];rw[Yj p]at f;exact Yh<|f _<|by show s.toks<=_;first|exact j|(simp only[];lia)
    ·rw[Yl p];rw[Yl p]at f;exact Yb<|wpAny_rule<|Yh<|f _<|by show s.toks<=_;first|exact j|(simp only[];lia)
  |_=>cases y
theorem ux:∀n m {A}{E:Kv}{s}{d}{u}{as}{Q:Kb},n<=m->hkN n d=true->Reads s.heap u (cc d) as->Q true s->
  wpAny (model prog w) A (eqIsQuiet m u) Q E s:=by
 intro n;induction n with
 |zero=>
  intro m A E s d u as Q I c r h;cases d with
  |int i=>cases r;rw[VJ _ rfl];exact Yh h
  |str x=>cases r;rw[VJ _ rfl];exact Yh h
  |_=>cases c
 |succ n ih=>
  intro m A E s d u as Q I c r h;cases d with
  |int i=>cases r;rw[VJ _ rfl];exact Yh h
  |str x=>cases r;rw[VJ _ rfl];exact Yh h
  |tup ds=>
   obtain⟨a,o,y,k,rfl,l,J,g,z⟩:=fJ r;have q:s.TypeIs (.ref a) "tuple":=⟨o,l,J⟩
   have b:=λd m=>Yi.mp c d m
   obtain⟨m,rfl⟩:∃H,m=H + 1:=⟨m-1,by lia⟩
   unfold eqIsQuiet;refine Yb<|XD q PySem.F.slot_tuple_eq.lookup ?_;refine Yb<|Vr q isSubtype_tuple_tuple ?_;refine Yb<|XR l g ?_;refine Yb ?_;rw[<-VC];refine Xv _ (λbW r f=>r.1=none/\f=s/\∃left bs,(∀d∈left,hkN n d=true)/\ReadsAll s.heap bW (cn left) bs) _ ?_ ?_ _ _ ⟨rfl,rfl,ds,_,b,z⟩
   ·rintro x bW ⟨C,B⟩ f ⟨e,rfl,left,bs,p,j⟩;cases left with
    |nil=>cases j
    |cons M left=>
     cases j with
     |cons L K=>
      refine Yb<|ih m (by lia) (p M Ye) L ?_;exact Yh ⟨rfl,rfl,left,_,λd m=>p d<|Yd _ m,K⟩
   ·rintro⟨C,B⟩ f ⟨e,rfl,_⟩;cases e;exact Yh h
  |_=>cases c
def Dg:∀n m {A}{E:Kv}{s}{d}{u}{as}{Q:Kb},n<=m->hkN n d=true->Reads s.heap u (cc d) as->(∀b,Q b s)->
  wpAny (model prog w) A (hashByValue m u) Q E s:=by
 intro n;induction n with
 |zero=>
  intro m A E s d u as Q I f r h;cases d with
  |int i=>cases r;rw[Xz _ rfl];exact Yh<|h _
  |str i=>cases r;rw[Xz _ rfl];exact Yh<|h _
  |_=>cases f
 |succ n ih=>
  intro m A E s d u as Q I f r h;cases d with
  |int i=>cases r;rw[Xz _ rfl];exact Yh<|h _
  |str i=>cases r;rw[Xz _ rfl];exact Yh<|h _
  |tup ds=>
   obtain⟨a,o,y,k,rfl,p,J,j,z⟩:=fJ r;have K:s.TypeIs (.ref a) "tuple":=⟨o,p,J⟩
   have c:=λd m=>Yi.mp f d m
   obtain⟨m,rfl⟩:∃H,m=H + 1:=⟨m-1,by lia⟩
   refine Yb<|XD K PySem.F.slot_tuple_hash.lookup ?_;refine Yb<|XR p j ?_;refine Yb ?_;rw[<-VC];refine Xv _ (λbW r g=>r.1=none/\g=s/\∃left bs,(∀d∈left,hkN n d=true)/\ReadsAll s.heap bW (cn left) bs) _ ?_ ?_ _ _ ⟨rfl,rfl,ds,_,c,z⟩
   ·rintro x bW ⟨C,B⟩ g ⟨e,rfl,left,bs,q,l⟩;cases left with
    |nil=>cases l
    |cons N left=>
     cases l with
     |cons M L=>
      refine Yb<|ih m (by lia) (q N Ye) M λb=>?_;cases b with
      |true=>exact Yh ⟨rfl,rfl,left,_,λd m=>q d<|Yd _ m,L⟩
      |false=>exact Yh<|Yh<|h false
   ·rintro⟨C,B⟩ g ⟨e,rfl,_⟩;cases e;exact Yh<|h true
  |_=>cases f
def BC:∀n m {A}{E:Kv}{s}{d}{u}{as}{Q:Kb},n<=m->hkN n d=true->Reads s.heap u (cc d) as->Q false s->
  wpAny (model prog w) A (ofAClassStatement m u) Q E s:=by
 intro n;induction n with
 |zero=>
  intro m A E s d u as Q H c r h;cases d with
  |int i=>cases r;unfold ofAClassStatement;exact Yh h
  |str x=>cases r;unfold ofAClassStatement;exact Yh h
  |_=>cases c
 |succ n ih=>
  intro m A E s d u as Q H c r h;cases d with
  |int i=>cases r;unfold ofAClassStatement;exact Yh h
  |str x=>cases r;unfold ofAClassStatement;exact Yh h
  |tup ds=>
   obtain⟨a,o,q,k,rfl,l,I,g,y⟩:=fJ r;have J:s.TypeIs (.ref a) "tuple":=⟨o,l,I⟩
   have b:=λd m=>Yi.mp c d m
   obtain⟨m,rfl⟩:∃C,m=C + 1:=⟨m-1,by lia⟩
   unfold ofAClassStatement;refine Yb<|VS J ?_;show wpAny _ _ ((if("tuple" == "tuple")=true then pure true else isSubtype (.type "tuple")<|.type "tuple")>>=_) Q E s;refine Yb<|Yh ?_;refine Yb<|XR l g ?_;refine Yb ?_;rw[<-VC];refine Xv _ (λbW r f=>r.1=none/\f=s/\∃left bs,(∀d∈left,hkN n d=true)/\ReadsAll s.heap bW (cn left) bs) _ ?_ ?_ _ _ ⟨rfl,rfl,ds,_,b,y⟩
   ·rintro x bW ⟨B,z⟩ f ⟨e,rfl,left,bs,p,j⟩;cases left with
    |nil=>cases j
    |cons M left=>
     cases j with
     |cons L K=>
      refine Yb<|ih m (by lia) (p M Ye) L ?_;exact Yh ⟨rfl,rfl,left,_,λd m=>p d<|Yd _ m,K⟩
   ·rintro⟨B,z⟩ f ⟨e,rfl,_⟩;cases e;exact Yh h
  |_=>cases c
end L2
namespace L2
open PySem PySem.SetTable
structure Rising (xs:Array Nat):Prop where
 lt:∀i j (hi:i<xs.size) (hj:j<xs.size),i<j->xs[i]<xs[j]
theorem pC{xs}(r:Rising xs):∀f lo hi,lo<=hi->hi<=xs.size->hi-lo<=f->(∀i h,i<lo->xs[i]<j)->(∀i h,hi<=i->j<=xs[i])->
  ∃k,below.go xs j f lo hi=k/\k<=xs.size/\(∀i _,i<k->xs[i]<j)/\∀i _,k<=i->j<=xs[i]
 |0,lo,hi,h1,h2,h3,h4,h5=>by
  have e:lo=hi:=by lia
  subst e;exact⟨lo,rfl,h2,h4,h5⟩
 |f+1,lo,hi,h1,h2,h3,h4,h5=>by
  unfold below.go;by_cases a:lo<hi
  ·rw[Yj a];have c:(lo+hi)/2<xs.size:=by lia
   have l:xs.getD ((lo+hi)/2) j=xs[(lo+hi)/2]:=by simp[c]
   dsimp only;rw[l];by_cases b:xs[(lo+hi)/2]<j
   ·rw[Yj b];refine pC r f _ _ (by lia) h2 (by lia) (λi h g=>?_) h5;by_cases e:i=(lo+hi)/2
    ·subst e;exact b
    ·exact ZQ (r.lt i _ h c<|by lia) b
   ·rw[Yl b];refine pC r f _ _ (by lia) (by lia) (by lia) h4 λi h g=>?_;by_cases e:i=(lo+hi)/2
    ·subst e;lia
    ·exact YD (by lia)<|ZP<|r.lt _ i c h<|by lia
  ·rw[Yl a];have e:lo=hi:=by lia
   subst e;exact⟨lo,rfl,h2,h4,h5⟩
theorem fK{xs}(r:Rising xs)j:below xs j<=xs.size/\(∀i h,i<below xs j->xs[i]<j)/\∀i h,below xs j<=i->j<=xs[i]:=by obtain⟨k,f,c,b,a⟩:=pC (j:=j) r xs.size 0 xs.size (YO _) (Yr _) (by lia) (λi h z=>by lia) (λi h z=>by lia);have e:below xs j=k:=f;rw[e];exact⟨c,b,a⟩
theorem Cb{xs}(r:Rising xs)h:below xs xs[i]=i:=by
 obtain⟨e,c,b⟩:=fK r xs[i];apply ZB
 ·rcases Vw i (below xs xs[i])with q|q
  ·exact absurd (c i h q)<|YX _
  ·exact q
 ·rcases Vw (below xs xs[i]) i with q|q
  ·have a:below xs xs[i]<xs.size:=by lia
   have:=r.lt _ i a h q;have:=b _ a<|Yr _;lia
  ·exact q
def lA{t:SetTable}(r:Rising t.place)(h:t.place[i]?=some j):t.slot j=.live i:=by
 obtain⟨a,e⟩:=Zt.mp h;unfold slot;have b:below t.place j=i:=by rw[<-e];exact Cb r a
 dsimp only;rw[b,h];simp
def wv{t:SetTable}(r:Rising t.place)(hd:t.dummies=#[])(h:j∉t.place):t.slot j=.empty:=by
 unfold slot;dsimp only;have a:(t.place[below t.place j]? == some j)=false:=by
  cases q:t.place[below t.place j]? with
  |none=>rfl
  |some k=>
   have:k≠j:=λz=>by subst z;exact h<|ZZ q
   simpa using this
 rw[a];have:has t.dummies j=false:=by unfold has;rw[hd];simp
 rw[this];simp
noncomputable def nO(mask:Nat)(p:Probe):Probe:=
 if p.more > 0 then{p with j:=p.j+1,more:=p.more-1}else
 let (i,perturb):=leap mask p.i p.perturb
 {p with j:=i,more:=runEnd mask i-i,i,perturb}
def startM(mask:Nat)(h:Int):Probe:=
 let i:=bits h%(mask+1)
 {j:=i,more:=runEnd mask i-i,i,perturb:=bits h,dummy:=none}
def bb(mask:Nat)(p:Probe):Nat->Probe
 |0=>p
 |n+1=>nO mask<|bb mask p n
def at_(mask:Nat)(h:Int)(n:Nat):Nat:=(bb mask (startM mask h) n).j
theorem lK mask p m:∀n,bb mask p (m+n)=bb mask (bb mask p m) n
 |0=>rfl
 |n+1=>by show nO mask (bb mask p<|m+n)=_;rw[lK];rfl
theorem i8 mask p:∀n,(bb mask p n).dummy=p.dummy
 |0=>rfl
 |n+1=>by
  show(nO mask _).dummy=_;unfold nO;split
  ·exact i8 mask p n
  ·exact i8 mask p n
theorem gK mask p:∀n,n<=p.more->bb mask p n={p with j:=p.j+n,more:=p.more-n}
 |0,_=>rfl
 |n+1,h=>by
  show nO mask _=_;rw[gK mask p n<|by lia];unfold nO;have:(p.more-n) > 0:=by lia
  grind
def dZ(mask:Nat)(i perturb:Nat):Nat->Nat×Nat
 |0=>(i,perturb)
 |k+1=>let (i',p'):=dZ mask i perturb k;leap mask i' p'
def bx(mask:Nat)(i perturb:Nat)(d:Option Nat):Probe:={j:=i,more:=runEnd mask i-i,i,perturb,dummy:=d}
theorem vd mask i:runEnd mask i-i<=9:=by unfold runEnd;split<;>lia
theorem q_ mask i pt d:bb mask (bx mask i pt d) (runEnd mask i-i+1)=bx mask (leap mask i pt).1 (leap mask i pt).2 d:=by show nO mask _=_;rw[gK mask _ (runEnd mask i-i)<|Yr _];unfold nO;rw[Yl<|by show ¬(runEnd mask i-i-(runEnd mask i-i) > 0);lia];rfl
theorem mE mask i pt d:∀k,∃n,n<=10*k/\bb mask (bx mask i pt d) n=bx mask (dZ mask i pt k).1 (dZ mask i pt k).2 d
 |0=>⟨0,Yr _,rfl⟩
 |k+1=>by
  obtain⟨n,a,h⟩:=mE mask i pt d k;refine⟨n+(runEnd mask (dZ mask i pt k).1-(dZ mask i pt k).1+1),?_,?_⟩
  ·have:=vd mask (dZ mask i pt k).1;lia
  ·rw[lK,h,q_];rfl
def lcg(m:Nat)(i:Nat):Nat->Nat
 |0=>i
 |k+1=>(lcg m i k*5+1)%m
theorem jW m i a:∀b,lcg m i (a+b)=lcg m (lcg m i a) b
 |0=>rfl
 |b+1=>by show(lcg m i (a+b)*5+1)%m=_;rw[jW];rfl
def jG(m:Nat):Prop:=(∀j,j<m->∃k,k<m/\lcg m 0 k=j)/\lcg m 0 m=0
theorem ym(g:0<m)(F:jG m)(hi:i<m)(f:j<m):∃k,k<m/\lcg m i k=j:=by
 obtain⟨a,o,c⟩:=F.1 i hi;obtain⟨b,l,e⟩:=F.1 j f;by_cases h:a<=b
 ·refine⟨b-a,by lia,?_⟩;rw[<-c,<-jW,show a+(b-a)=b by lia,e]
 ·refine⟨m-a+b,by lia,?_⟩;rw[<-c,<-jW,show a+(m-a+b)=m+b by lia,jW,F.2,e]
noncomputable def vL(m:Nat):Nat->Nat->List Nat
 |0,_=>[]
 |n+1,i=>i::vL m n ((i*5+1)%m)
theorem oC m:∀n i k,k<n->(vL m n i)[k]?=some (lcg m i k)
 |0,_,_,h=>by lia
 |n+1,i,0,_=>rfl
 |n+1,i,k+1,h=>by
  show(vL m n _)[k]?=_;rw[oC m n _ k<|by lia];rw[show k+1=1+k by lia,jW];rfl
theorem rW m(h:((List.range m).all λj=>(vL m m 0).contains j)=true)(c:(vL m (m+1) 0)[m]?=some 0):jG m:=by
 refine⟨λj l=>?_,?_⟩
 ·have o:=Yi.mp h j<|YU.mpr l;have f:j∈vL m m 0:=by simpa using o
  obtain⟨k,b,e⟩:=ZX f;have g:∀n i,(vL m n i).length=n:=by
   intro n;induction n with
   |zero=>intro i;rfl
   |succ n ih=>intro i;show(vL m n _).length+1=n+1;rw[ih]
  have a:k<m:=by rwa[g]at b
  refine⟨k,a,?_⟩;have:=oC m m 0 k a;rw[Yg b,e]at this;exact(Yv this).symm
 ·rw[oC m (m+1) 0 m<|by lia]at c;exact Yv c
def G4:jG 8:=rW 8 (by decide)<|by decide
theorem Jx:jG 32:=rW 32 (by decide+kernel)<|by decide+kernel
theorem Eu:jG 128:=rW 128 (by decide+kernel)<|by decide+kernel
theorem vX mask i pt:∀k,(dZ mask i pt k).2=pt/32^k
 |0=>by simp[dZ]
 |k+1=>by
  show(dZ mask i pt k).2/32=_;rw[vX,Nat.div_div_eq_div_mul,Nat.pow_succ]
theorem lJ mask i pt a(h:pt/32^(a+1)=0):∀k,(dZ mask i pt (a+k)).1=lcg (mask+1) (dZ mask i pt a).1 k
 |0=>rfl
 |k+1=>by
  show(leap mask (dZ mask i pt<|a+k).1 (dZ mask i pt<|a+k).2).1=_;unfold leap;rw[vX,lJ mask i pt a h k];have:pt/32^(a+k)/32=0:=by
   rw[Nat.div_div_eq_div_mul,<-Nat.pow_succ];have c:32^(a+1)<=32^(a+k+1):=Nat.pow_le_pow_right (by lia) (by lia);have b:pt<32^(a+1):=by
    rcases Vw pt (32^(a+1))with q|q
    ·exact q
    ·have:=Nat.div_pos q<|Nat.pow_pos (by lia);lia
   exact Nat.div_eq_of_lt<|Yx b c
  rw[this];rfl
def uv mask i pt(h:i<mask+1):∀k,(dZ mask i pt k).1<mask+1
 |0=>h
 |k+1=>Uf _<|Xe _
theorem yY h:bits h<2^64:=by unfold bits;lia
def xy mask h:startM mask h=bx mask (bits h%(mask+1)) (bits h) none:=rfl
theorem AZ(F:jG (mask+1))h(g:j<=mask):∃k,k<turns mask/\(dZ mask (bits h%(mask+1)) (bits h) k).1=j:=by have a:bits h/32^(12+1)=0:=Nat.div_eq_of_lt<|Yx (yY h) (by decide);have b:bits h%(mask+1)<mask+1:=Uf _<|Xe _;obtain⟨k,f,c⟩:=ym (Xe mask) F (uv mask _ (bits h) b 12) (show j<mask+1 by lia);have e:=lJ mask (bits h%(mask+1)) _ 12 a k;rw[c]at e;exact⟨12+k,by unfold turns;lia,e⟩
theorem Iu(F:jG (mask+1))h(l:j<=mask):∃n,n<10*turns mask/\at_ mask h n=j:=by
 have a:bits h/32^(12+1)=0:=Nat.div_eq_of_lt<|Yx (yY h) (by decide);have b:bits h%(mask+1)<mask+1:=Uf _<|Xe _;obtain⟨k,i,f⟩:=ym (Xe mask) F (uv mask _ (bits h) b 12) (show j<mask+1 by lia);have e:=lJ mask (bits h%(mask+1)) _ 12 a k;rw[f]at e;obtain⟨n,g,c⟩:=mE mask (bits h%(mask+1)) (bits h) none<|12+k;refine⟨n,?_,?_⟩
 ·unfold turns;lia
 ·unfold at_;rw[xy,c,e];rfl
structure TabOk (hs:Nat->Int) (t:SetTable):Prop where
 rise:Rising t.place
 nod:t.dummies=#[]
 bd:∀j,j∈t.place->j<=t.mask
 odd:t.mask%2=1
 full:jG (t.mask+1)
 room:t.place.size<=t.mask
 reach:∀i j,t.place[i]?=some j->∃n,n<10*turns t.mask/\at_ t.mask (hs i) n=j/\∀m,m<n->at_ t.mask (hs i) m∈t.place
theorem TabOk.fits(k:TabOk hs t)(h:t.place.size=n):t.fits n=true:=by unfold SetTable.fits fill;rw[k.nod];have:=k.room;simp;lia
def TabOk.gave(k:TabOk hs t):t.gaveWay=false:=by unfold SetTable.gaveWay;rw[k.odd];rfl
theorem wD:∀(l m:List Nat),l.Nodup->(∀x∈l,x∈m)->l.length<=m.length
 |[],_,_,_=>YO _
 |x::l,m,nd,h=>by
  have b:=h x Ye;have c:=YT.mp nd;have:=wD l _ c.2 λy a=>(List.mem_erase_of_ne λ(z:y=x)=>c.1<|z ▸ a).mpr<|h y<|Yd _ a
  grind
theorem tw{t:SetTable}(r:Rising t.place)(bd:∀j,j∈t.place->j<=t.mask)(e:t.place.size<=t.mask):∃j,j<=t.mask/\j∉t.place:=by
 apply Zp;intro f;have b:=λj c=>Zp λq=>f ⟨j,c,q⟩
 have a:∀j∈List.range<|t.mask+1,j∈t.place.toList:=λj c=>VZ.mpr<|b j (by have:=YU.mp c;lia)
 have h:=wD _ t.place.toList Vs a;rw[Zj,YM]at h;lia
def TabOk.empty(k:TabOk hs t)h:∃n,n<10*turns t.mask/\at_ t.mask h n∉t.place:=by obtain⟨j,e,c⟩:=tw k.rise k.bd k.room;obtain⟨n,b,a⟩:=Iu k.full h e;exact⟨n,b,by rwa[a]⟩
theorem vJ(k:TabOk hs t){hashAt}{h}{N}(hN:at_ t.mask h N∉t.place):∀f n,n<=N->N-n<f->
  (∃m,n<=m/\m<=N/\at_ t.mask h m∉t.place/\(∀l,n<=l->l<m->∃i,t.place[i]?=some (at_ t.mask h l)/\hashAt i≠h)/\SetTable.probe.go t hashAt h f (bb t.mask (startM t.mask h) n)=some (.empty (at_ t.mask h m) none)) \/
  ∃m i,n<=m/\m<N/\t.place[i]?=some (at_ t.mask h m)/\hashAt i=h/\(∀l,n<=l->l<m->∃i,t.place[i]?=some (at_ t.mask h l)/\hashAt i≠h)/\SetTable.probe.go t hashAt h f (bb t.mask (startM t.mask h) n)=some (.candidate (at_ t.mask h m) i<|bb t.mask (startM t.mask h)<|m+1)
 |0,n,_,h2=>by lia
 |f+1,n,h1,h2=>by
  by_cases g:at_ t.mask h n∈t.place
  ·obtain⟨i,E,e⟩:=Ua g;have p:t.place[i]?=some (at_ t.mask h n):=by rw[Yy E,e]
   have C:n≠N:=λz=>by subst z;exact hN g
   have hs:=lA k.rise p;by_cases o:hashAt i=h
   ·refine .inr ⟨n,i,Yr _,by lia,p,o,λl a b=>by lia,?_⟩;unfold SetTable.probe.go;rw[show t.slot (bb t.mask _ n).j=.live i from hs];have s:(hashAt i == h)=true:=by simpa using o
    simp only[s];rfl
   ·have A:SetTable.probe.go t hashAt h (f+1) (bb t.mask (startM t.mask h) n)=SetTable.probe.go t hashAt h f (bb t.mask (startM t.mask h)<|n+1):=by
     conv=>lhs;unfold SetTable.probe.go
     rw[show t.slot (bb t.mask _ n).j=.live i from hs];have s:(hashAt i == h)=false:=by simpa using o
     simp[s];rfl
    have c:∀{m},(∀l,n+1<=l->l<m->∃i,t.place[i]?=some _/\hashAt i≠h)->∀l,n<=l->l<m->∃i,t.place[i]?=some (at_ t.mask h l)/\hashAt i≠h:=λ{m} q l a b=>by
     by_cases e:l=n
     ·subst e;exact⟨i,p,o⟩
     ·exact q l (by lia) b
    rcases vJ k hN f (n+1) (by lia) (by lia)with⟨m,I,y,x,w,u⟩|⟨m,B,I,y,x,w,u,H⟩
    ·exact .inl ⟨m,by lia,y,x,c w,by rwa[A]⟩
    ·exact .inr ⟨m,B,by lia,y,x,w,c u,by rwa[A]⟩
  ·refine .inl ⟨n,Yr _,h1,g,λl a b=>by lia,?_⟩;unfold SetTable.probe.go;rw[show t.slot (bb t.mask _ n).j=.empty from wv k.rise k.nod g];rw[i8];rfl
theorem bP{a}xs p(x:a)(h:p<=xs.size):(insertAt xs p x).size=xs.size+1:=by unfold insertAt;simp;lia
theorem bD{b}xs p(x:b)(h:p<=xs.size)i:(insertAt xs p x)[i]?=if i<p then xs[i]? else if i=p then some x else xs[i-1]?:=by
 unfold insertAt;have f:((xs.extract 0 p).push x).size=p+1:=by simp;lia
 rw[Array.getElem?_append,f];by_cases e:i<p
 ·rw[Yj<|by lia,Yj e,Array.getElem?_push,Yl<|by simp;lia,Array.getElem?_extract,Yj<|by lia];simp
 ·rw[Yl e];by_cases c:i=p
  ·rw[Yj c,Yj<|by lia,Array.getElem?_push,Yj<|by simp;lia]
  ·rw[Yl c,Yl<|by lia,Array.getElem?_extract];by_cases a:i-(p+1)<min xs.size xs.size-p
   ·rw[Yj a,show p+(i-(p+1))=i-1 by lia]
   ·rw[Yl a]
    symm
    rw[Array.getElem?_eq_none_iff];lia
theorem tM{b}{xs}{p}{x y:b}(h:p<=xs.size):y∈insertAt xs p x↔y=x\/y∈xs:=by
 constructor
 ·intro hy;obtain⟨i,a,e⟩:=Ua hy;have q:(insertAt xs p x)[i]?=some y:=by rw[Yy a,e]
  rw[bD xs p x h]at q;split at q
  ·exact .inr<|ZZ q
  ·split at q
   ·cases q;exact .inl rfl
   ·exact .inr<|ZZ q
 ·rintro (rfl|hy)
  ·exact ZZ<|by rw[bD xs p y h,Yl<|YX _,Yj rfl]
  ·obtain⟨i,a,e⟩:=Ua hy;have q:xs[i]?=some y:=by rw[Yy a,e]
   by_cases c:i<p
   ·exact ZZ<|by rw[bD xs p x h,Yj c,q]
   ·exact ZZ (i:=i+1)<|by rwa[bD xs p x h,Yl<|by lia,Yl<|by lia]
def DO(hs:Nat->Int)(p:Nat)(h:Int)(i:Nat):Int:=if i<p then hs i else if i=p then h else hs<|i-1
def qL(t:SetTable)j:(t.put j).1.place=insertAt t.place (below t.place j) j:=rfl
def DL(t:SetTable)j:(t.put j).1.mask=t.mask:=rfl
theorem pR{xs}(r:Rising xs)(q:j∉xs):Rising (insertAt xs (below xs j) j):=by
 obtain⟨b1,b2,b3⟩:=fK r j;constructor;intro a b o m f;rw[bP xs _ _ b1]at o m;have c:=bD xs _ j b1 a;have g:=bD xs _ j b1 b;rw[Yy<|by rwa[bP xs _ _ b1]]at c;rw[Yy<|by rwa[bP xs _ _ b1]]at g;have big:∀i _,below xs j<=i->j<xs[i]:=λi h s=>by
  have:=b3 i h s;have:j≠xs[i]:=λz=>q<|by rw[z];exact Array.getElem_mem h
  lia
 by_cases l:a<below xs j
 ·rw[Yj l,Yy<|by lia]at c;have c:=Yv c;rw[c];by_cases e:b<below xs j
  ·rw[Yj e,Yy]at g;rw[Yv g];exact r.lt a b _ (by lia) f
  ·rw[Yl e]at g;by_cases p:b=below xs j
   ·rw[Yj p]at g;rw[Yv g];exact b2 a _ l
   ·rw[Yl p,Yy]at g;rw[Yv g];exact r.lt a (b-1) _ (by lia)<|by lia
 ·rw[Yl l]at c;rw[Yl<|by lia,Yl<|by lia,Yy]at g;rw[Yv g];by_cases e:a=below xs j
  ·rw[Yj e]at c;rw[Yv c];exact big (b-1) _<|by lia
  ·rw[Yl e,Yy]at c;rw[Yv c];exact r.lt (a-1) (b-1) (by lia) (by omega)<|by lia
def TabOk.put(k:TabOk hs t){h}{N}(hN:N<10*turns t.mask)(he:at_ t.mask h N∉t.place)(p:∀m,m<N->at_ t.mask h m∈t.place)(l:at_ t.mask h N<=t.mask)(g:t.place.size+1<=t.mask) :
  TabOk (DO hs (below t.place<|at_ t.mask h N) h) (t.put<|at_ t.mask h N).1:=by
 obtain⟨b1,b2,b3⟩:=fK k.rise<|at_ t.mask h N;have mem:∀y,y∈(t.put _).1.place↔y=at_ t.mask h N\/y∈t.place:=λy=>tM b1
 refine⟨pR k.rise he,?_,λj e=>?_,k.odd,k.full,?_,λi j a=>?_⟩
 ·show(if has t.dummies _ then _ else t.dummies)=#[];rw[k.nod];have:has (#[]) (at_ t.mask h N)=false:=by unfold has;simp
  rfl
 ·rcases(mem j).mp e with rfl|q
  ·exact l
  ·exact k.bd j q
 ·show(insertAt t.place _ _).size<=t.mask;rwa[bP _ _ _ b1]
 ·rw[qL,bD _ _ _ b1]at a;unfold DO;have o:∀b,t.place[b]?=some j->∃n,n<10*turns t.mask/\at_ t.mask (hs b) n=j/\∀m,m<n->at_ t.mask (hs b) m∈(t.put _).1.place:=λb q=>by
   obtain⟨n,w,u,s⟩:=k.reach b j q;exact⟨n,w,u,λm e=>(mem _).mpr<|.inr<|s m e⟩
  split at a
  ·rename_i c;simp[Yj c];exact o i a
  ·rename_i c;simp[Yl c];split at a
   ·rename_i f;cases a;simp[Yj f];exact⟨N,hN,rfl,λm e=>(mem _).mpr<|.inr<|p m e⟩
   ·rename_i f;simp[Yl f];exact o (i-1) a
theorem ms mask i pt:∀k,dZ mask i pt (k+1)=dZ mask (leap mask i pt).1 (leap mask i pt).2 k
 |0=>rfl
 |k+1=>by
  show leap mask (dZ mask i pt<|k+1).1 (dZ mask i pt<|k+1).2=_;rw[ms];rfl
def own(owner:Array (Option Nat))(j:Nat):Option Nat:=owner.getD j<|some 0
theorem yF owner:∀f i pt,(∃k,k<f/\own owner (dZ mask i pt k).1=none)->
  ∃n,n<10*f/\layClean.free mask owner f i pt=some (bb mask (bx mask i pt none) n).j/\own owner (bb mask (bx mask i pt none) n).j=none/\∀m,m<n->own owner (bb mask (bx mask i pt none) m).j≠none
 |0,i,pt,⟨k,hk,_⟩=>by lia
 |f+1,i,pt,⟨k,hk,hn⟩=>by
  unfold layClean.free;have J:=vd mask i;have x:i<=runEnd mask i:=by unfold runEnd;split<;>lia
  cases q:(List.range _).find? λk=>(owner.getD (i+k) _).isNone with
  |some r=>
   have A:=Up q;have K:=YU.mp<|List.mem_of_find?_eq_some q;have e:(bb mask (bx mask i pt none) r).j=i+r:=by rw[gK mask _ r<|by show r<=runEnd mask i-i;lia];rfl
   refine⟨r,by lia,by rw[e],by rw[e];unfold own;simpa using A,λm b=>?_⟩;have C:(bb mask (bx mask i pt none) m).j=i+m:=by rw[gK mask _ m<|by show m<=runEnd mask i-i;lia];rfl
   rw[C];intro z;obtain⟨_,l,bs,o,B⟩:=List.find?_eq_some_iff_append.mp q;have h:m∈l:=by
    have u:(List.range<|runEnd mask i+1-i)[m]?=some m:=ZJ (by lia);have w:l.length=r:=by
     have p:(List.range<|runEnd mask i+1-i)[l.length]?=some r:=by rw[o];simp
     have y:l.length<runEnd mask i+1-i:=by have:=YR List.length o;simp at this;lia
     rw[ZJ y]at p;exact Yv p
    rw[o,ZS<|by lia]at u;exact YJ u
   have:=B m h;unfold own at z;rw[z]at this;simp at this
  |none=>
   have g:=Uv.mp q;have a:∀m,m<=runEnd mask i-i->(bb mask _ m).j=i+m/\own owner (i+m)≠none:=λm b=>by
    refine⟨?_,λz=>?_⟩
    ·rw[gK mask (bx mask i pt none) m<|by show m<=runEnd mask i-i;lia];rfl
    ·have:=g m<|YU.mpr (by lia);unfold own at z;rw[z]at this;simp at this
   cases k with
   |zero=>exact absurd (show own owner i=none from hn) (by have:=(a 0<|YO _).2;simpa using this)
   |succ k=>
    rw[ms]at hn;obtain⟨n,L,I,H,E⟩:=yF owner f (leap mask i pt).1 (leap mask i pt).2 ⟨k,by lia,hn⟩;have s:∀m,bb mask _ _=bb mask (bx mask (leap mask i pt).1 (leap mask i pt).2 none) m:=λm=>by
     rw[lK,q_]
    refine⟨runEnd mask i-i+1+n,by lia,by rwa[s],by rwa[s],λm b=>?_⟩;by_cases c:m<=runEnd mask i-i
    ·rw[(a m c).1];exact(a m c).2
    ·have:m=runEnd mask i-i+1+(m-(runEnd mask i-i+1)):=by lia
     rw[this,s];exact E _<|by lia
theorem rh(h:i<=mask):runEnd mask i<=mask:=by unfold runEnd;split<;>lia
theorem qD mask i:i<=runEnd mask i:=by unfold runEnd;split<;>lia
theorem v6 mask p(h:p.j+p.more<=mask):∀n,(bb mask p n).j+(bb mask p n).more<=mask
 |0=>h
 |n+1=>by
  show(nO mask _).j+(nO mask _).more<=mask;have ih:=v6 mask p h n;unfold nO;split
  ·rename_i c;show(bb mask p n).j+1+((bb mask p n).more-1)<=mask;lia
  ·show(leap mask _ _).1+(runEnd mask (leap mask _ _).1-(leap mask _ _).1)<=mask;have a:(leap mask (bb mask p n).i (bb mask p n).perturb).1<=mask:=Zw<|Uf _<|Xe _;have:=rh a;lia
theorem zq mask h n:at_ mask h n<=mask:=by
 have a:bits h%(mask+1)<=mask:=Zw<|Uf _<|Xe _;have:=v6 mask (startM mask h) (by
  show bits h%(mask+1)+(runEnd mask _-bits h%(mask+1))<=mask;have:=rh a;lia) n
 unfold at_;lia
def ow(owner:Array (Option Nat))(j:Nat):Option Nat:=owner.getD j none
theorem wV(hs:owner.size=mask+1)(h:j<=mask):own owner j=ow owner j:=by
 unfold own ow;have:j<owner.size:=by lia
 simp[this]
structure LayInv (mask:Nat) (hashes:List Int) (owner:Array (Option Nat)) (k:Nat):Prop where
 sz:owner.size=mask+1
 lt:∀j a,ow owner j=some a->j<=mask/\a<k
 inj:∀j j' a,ow owner j=some a->ow owner j'=some a->j=j'
 surj:∀a,a<k->∃j,ow owner j=some a
 reach:∀j a,ow owner j=some a->∃h,hashes[a]?=some h/\∃n,n<10*turns mask/\at_ mask h n=j/\∀m,m<n->ow owner (at_ mask h m)≠none
theorem Jo(hs:owner.size=mask+1)(b:j<=mask)v i:ow (owner.setIfInBounds j v) i=if i=j then v else ow owner i:=by
 unfold ow;have a:j<owner.size:=by lia
 by_cases h:i=j
 ·subst h;simp[a]
 ·rw[Yl h];simp;grind
theorem Bp(F:jG (mask+1))(I:LayInv mask hashes owner k){h}(Q:hashes[k]?=some h)(hm:k<=mask) :
  ∃j,layClean.free mask owner (turns mask) (bits h%(mask+1)) (bits h)=some j/\LayInv mask hashes (owner.setIfInBounds j<|some k) (k+1):=by
 have o:∃j,j<=mask/\ow owner j=none:=by
  apply Zp;intro P;have f:∀j,j<=mask->∃a,ow owner j=some a:=λj l=>by
   cases q:ow owner j with
   |none=>exact absurd ⟨j,l,q⟩ P
   |some a=>exact⟨a,rfl⟩
  have M:((List.range<|mask+1).map λj=>(ow owner j).getD 0).Nodup:=by rw[Vj,Xs];refine List.Pairwise.imp_of_mem ?_<|Vj.mp Vs;intro a b w S B e;obtain⟨x,A⟩:=f a (by have:=YU.mp w;lia);obtain⟨y,K⟩:=f b (by have:=YU.mp S;lia);rw[A,K]at e;subst e;exact B<|I.inj a b x A K
  have:=wD _ _ M λx A=>by
   obtain⟨j,l,rfl⟩:=Ym.mp A;obtain⟨a,w⟩:=f j (by have:=YU.mp l;lia);rw[w];exact YU.mpr (I.lt j a w).2
  rw[Yc,Zj,Zj]at this;lia
 obtain⟨j0,u,C⟩:=o;obtain⟨r,O,U⟩:=AZ F h u;obtain⟨n,a1,L,H,Z⟩:=yF (mask:=mask) owner _ (bits h%(mask+1)) (bits h) ⟨r,O,by rwa[U,wV I.sz u]⟩;have l:=zq mask h n;have e:(bb mask (bx mask _ _ none) n).j=at_ mask h n:=rfl;rw[e]at L H;rw[wV I.sz l]at H;have s:=Jo I.sz l<|some k;refine⟨_,L,⟨by rw[Array.size_setIfInBounds];exact I.sz,λj a q=>?_,λj J a q p=>?_,λa w=>?_,λj a q=>?_⟩⟩
 ·rw[s]at q;split at q
  ·rename_i c;cases q;exact⟨by rwa[c],ZK _⟩
  ·have:=I.lt j a q;exact⟨this.1,by lia⟩
 ·rw[s]at q p;split at q<;>split at p
  ·rename_i c Y;rw[c,Y]
  ·cases q;have:=(I.lt J _ p).2;lia
  ·cases p;have:=(I.lt j _ q).2;lia
  ·exact I.inj j J a q p
 ·by_cases c:a=k
  ·exact⟨at_ mask h n,by rw[s,Yj rfl,c]⟩
  ·obtain⟨j,E⟩:=I.surj a (by lia);refine⟨j,?_⟩;rw[s,Yl]
   ·exact E
   ·intro z;rw[z,H]at E;cases E
 ·have keep:∀i,ow owner i≠none->ow _ i≠none:=λi R=>by
   rw[s];split
   ·simp
   ·exact R
  rw[s]at q;split at q
  ·rename_i c;cases q;refine⟨h,Q,n,a1,c.symm,λm g=>keep _ ?_⟩;have:=Z m g;have X:(bb mask (bx mask _ _ none) m).j=at_ mask h m:=rfl;rwa[X,wV I.sz<|zq mask h m]at this
  ·obtain⟨T,b1,N,b2,b3,b4⟩:=I.reach j a q;exact⟨T,b1,N,b2,b3,λm g=>keep _<|b4 m g⟩
theorem xR(F:jG (mask+1)){hashes}(b:hashes.length<=mask):∀bW owner k,hashes.drop k=bW->k+bW.length=hashes.length->LayInv mask hashes owner k->
  ∃o,(bW.foldl (λacc h=>do
   let (owner,k) <-acc
   let j <-layClean.free mask owner (turns mask) (bits h%(mask+1))<|bits h
   pure (owner.setIfInBounds j<|some k,k+1))<|some (owner,k))=some (o,hashes.length)/\LayInv mask hashes o hashes.length
 |[],owner,k,_,hl,I=>by
  have:k=hashes.length:=by simpa using hl
  subst this;exact⟨owner,rfl,I⟩
 |h::bW,owner,k,hd,hl,I=>by
  have c:hashes[k]?=some h:=by have:=YR (λl=>l[0]?) hd;simpa using this
  rw[Yt]at hl;obtain⟨j,e,g⟩:=Bp F I c (by lia);obtain⟨o,f,a⟩:=xR F b bW _ (k+1) (by
   have:=YR List.tail hd;rwa[List.tail_drop]at this) (by lia) g
  grind
theorem Ac mask hashes:LayInv mask hashes (Array.replicate (mask+1) none) 0:=by
 have e:∀j,ow (Array.replicate (mask+1) _) j=none:=λj=>by
  unfold ow;simp[Array.getElem?_replicate];split<;>rfl
 refine⟨by simp,λj a q=>?_,λj b a q _=>?_,λa h=>by lia,λj a q=>?_⟩
 all_goals rw[e]at q;cases q
def vw(F:jG (mask+1))(h:hashes.size<=mask):∃owner,layClean mask hashes=some owner/\LayInv mask hashes.toList owner hashes.size:=by obtain⟨owner,e,I⟩:=xR F (by simpa using h) hashes.toList _ 0 rfl (by simp)<|Ac mask hashes.toList;refine⟨owner,?_,by simpa using I⟩;unfold layClean;rw[<-Array.foldl_toList,e];rfl
def cG(owner:Array (Option Nat))(mask:Nat):List (Nat×Nat):=(List.range<|mask+1).filterMap λj=>(ow owner j).map (j,·)
theorem fV{a}:(j,a)∈cG owner mask↔j<=mask/\ow owner j=some a:=by
 unfold cG;rw[Ur];constructor
 ·rintro⟨i,h,e⟩;have:=YU.mp h;obtain⟨b,q,e⟩:=XU.mp e;cases e;exact⟨by lia,q⟩
 grind
def k_ owner mask:(cG owner mask).Pairwise λx y=>x.1<y.1:=by
 unfold cG;rw[List.pairwise_filterMap];refine List.Pairwise.imp ?_ List.pairwise_lt_range;simp_all
theorem Fh(F:jG (mask+1))(M:mask%2=1)(E:hashes.size<=mask)finger moves led plain :
  ∃(t:SetTable) (order:Array Nat),laid mask finger moves led plain hashes=some (t,order)/\TabOk (λi=>hashes.getD (order.getD i 0) 0) t/\t.place.size=hashes.size/\order.toList.Perm (List.range hashes.size)/\t.mask=mask/\t.led=led/\t.plain=plain/\t.moves=moves:=by
 obtain⟨o,e,I⟩:=vw F E;have N:laid mask finger moves led plain hashes=some ({mask,place:=((cG o mask).map (·.1)).toArray,dummies:=#[],finger,led,moves,plain},((cG o mask).map (·.2)).toArray):=by unfold laid;rw[e];rfl
 have perm:((cG o mask).map (·.2)).Perm (List.range hashes.size):=by
  have K:((cG o mask).map (·.2)).Nodup:=by rw[Vj,Xs];refine List.Pairwise.imp_of_mem ?_<|k_ o mask;rintro⟨a,x⟩ ⟨b,y⟩ P O l q;subst q;have:=I.inj a b x (fV.mp P).2 (fV.mp O).2;lia
  refine(Xu K Vs).mpr λx=>?_;rw[Ym,YU];constructor
  ·rintro⟨⟨j,a⟩,h,rfl⟩;exact(I.lt j a (fV.mp h).2).2
  ·intro L;obtain⟨j,J⟩:=I.surj x L;exact⟨(j,x),fV.mpr ⟨(I.lt j x J).1,J⟩,rfl⟩
 have g:(cG o mask).length=hashes.size:=by have:=perm.length_eq;simpa using this
 have C:∀j,j∈((cG o mask).map (·.1)).toArray↔j<=mask/\ow o j≠none:=λj=>by
  rw[List.mem_toArray,Ym];constructor
  ·rintro⟨⟨u,a⟩,h,rfl⟩;obtain⟨z,s⟩:=fV.mp h;exact⟨z,by rw[s];simp⟩
  ·rintro⟨z,s⟩;cases q:ow o j with
   |none=>exact absurd q s
   |some a=>exact⟨(j,a),fV.mpr ⟨z,q⟩,rfl⟩
 refine⟨_,_,N,⟨⟨λi j H w f=>?_⟩,rfl,λj w=>((C j).mp w).1,M,F,?_,λi j f=>?_⟩,?_,?_,rfl,rfl,rfl,rfl⟩
 ·simp at H w;simp;exact(Vl.mp<|k_ o mask) i j H w f
 ·show((cG o mask).map (·.1)).toArray.size<=mask;simp[g,E]
 ·have c:=f;simp only[List.getElem?_toArray,Yo]at c;cases q:(cG o mask)[i]? with
  |none=>rw[q]at c;cases c
  |some p=>
   rw[q]at c;obtain⟨u,a⟩:=p;have c:=Yv c;subst c;obtain⟨z,s⟩:=fV.mp<|YJ q;obtain⟨h,b1,n,b2,b3,b4⟩:=I.reach u a s;have Q:hashes.getD (((cG o mask).map (·.2)).toArray.getD i 0) 0=h:=by
    have R:((cG o mask).map (·.2)).toArray.getD i 0=a:=by simp[q]
    rw[R];have B:hashes[a]?=some h:=by rwa[<-Zc]
    simp[B]
   rw[Q];exact⟨n,b2,b3,λm A=>(C _).mpr ⟨zq mask h m,b4 m A⟩⟩
 ·simp[g]
 ·simpa using perm
end L2
namespace L2
open PySem PySem.Spec PyProof.Rows PySem.SetTable
def o9(d:D):Bool:=hkN 8 d&&okN 8 d&&(match d with|.tup _=>true|_=>false)
theorem bN(h:o9 d=true):hkN 8 d=true/\okN 8 d=true/\∃xs,d=.tup xs:=by
 unfold o9 at h;grind
def KeyAt(h:Heap)(u:Value)(d:D):Prop:=o9 d=true/\∃a,Reads h u (cc d) a
def KeyAt.ref(k:KeyAt h u d):∃a,u=.ref a:=by obtain⟨k,b,r⟩:=k;obtain⟨_,_,x,rfl⟩:=bN k;obtain⟨a,_,_,_,e,_⟩:=fJ r;exact⟨a,e⟩
def KeyAt.keeps(k:KeyAt h u d)(a:∀b o,h.get? b=some o->h'.get? b=some o):KeyAt h' u d:=by obtain⟨k,c,r⟩:=k;exact⟨k,c,PyProof.Rows.Reads.keeps a r⟩
theorem HF{x y}{Q:Kb}(j:A.units+64<cLine)(hx:KeyAt s.heap x dx)(g:KeyAt s.heap y dy)(h:Q (eqd dx dy) s):wpAny (model prog w) A (eqBool x y) Q E s:=by obtain⟨f,m,b⟩:=hx;obtain⟨e,bs,a⟩:=g;obtain⟨c,i⟩:=cY 8 dx (bN f).2.1;obtain⟨l,p⟩:=cY 8 dy (bN e).2.1;refine VF _ _ A s x y _ _ b a c l ?_ prog w E Q h;lia
def EQ{x}(hx:KeyAt s.heap x dx){Q:Kb}:∀{a},(∀y∈a,∃d,KeyAt s.heap y d)->Q false s->wpAny (model prog w) A (searchCouldBeSeen x a) Q E s:=by
 intro a l h;obtain⟨q,I,o⟩:=hx;refine Yb ?_;refine Xv _ (λbW r f=>r.1=none/\f=s/\∀y∈bW,∃d,KeyAt s.heap y d) _ ?_ ?_ _ _ ⟨rfl,rfl,l⟩
 ·rintro y bW ⟨j,B⟩ f ⟨e,rfl,u⟩;obtain⟨d,p,bs,g⟩:=u y Ye;have b:=λy m=>u y<|Yd _ m
  have i:∀c [Decidable c] Z (R:ForInStep (Option Bool×Unit)->Shared->Prop),R (.yield (none,())) f->(∀z,z=R->wpAny (model prog w) A Z z E f)->wpAny (model prog w) A (if c then pure (.yield (none,()))else Z) R E f:=by
   intro c _ Z R H C;split
   ·exact Yh H
   ·exact C R rfl
  all_goals
   refine i _ _ _ ⟨rfl,rfl,b⟩ ?_;rintro _ rfl;refine Yb<|ux 8 8 (Yr _) (bN q).1 o ?_;refine Yb<|ux 8 8 (Yr _) (bN p).1 g ?_;refine Yb<|BC 8 8 (Yr _) (bN q).1 o ?_;refine Yb<|BC 8 8 (Yr _) (bN p).1 g ?_;exact Yh ⟨rfl,rfl,b⟩
 ·rintro⟨j,B⟩ f ⟨e,rfl,_⟩;cases e;exact Yh h
def tP(es:Ka)(i:Nat):Int:=(es[i]?.map (·.1)).getD 0
structure SetAt (Pv:Value->D->Prop) (w:World) (h:Heap) (a:Addr) (es:Array (Int×Value)) (t:SetTable) (ds:List D):Prop where
 obj:∃o ep,h.get? a=some o/\o.ExactSet/\o.data=.set es ep t
 tab:TabOk (tP es) t
 siz:t.place.size=es.size
 len:ds.length=es.size
 its:∀(i:Nat) (e:Int×Value) (d:D),es[i]?=some e->ds[i]?=some d->e.1=aG w d/\KeyAt h e.2 d
 pv:∀(i:Nat) (e:Int×Value) (d:D),es[i]?=some e->ds[i]?=some d->Pv e.2 d
theorem Rising.inj{xs}(r:Rising xs)(h1:xs[i]?=some j)(h2:xs[k]?=some j):i=k:=by
 obtain⟨a,c⟩:=Zt.mp h1;obtain⟨b,e⟩:=Zt.mp h2;rcases UC i k with q|q|q
 ·have:=r.lt i k a b q;lia
 ·exact q
 ·have:=r.lt k i b a q;lia
def SetAt.state{es:Ka}(S:SetAt Pv w s.heap a es t ds){Q}(h:∀ep,Q (es,ep,t) s) :
  wpAny (model prog w) A (setState a) Q E s:=by
 obtain⟨o,ep,c,e,b⟩:=S.obj;exact VL c b (S.tab.fits S.siz)<|h ep
def SetAt.key{es:Ka}(S:SetAt Pv w h a es t ds){e}(he:es[i]?=some e):∃d,ds[i]?=some d/\e.1=aG w d/\KeyAt h e.2 d:=by
 obtain⟨c,_⟩:=Zt.mp he;have b:i<ds.length:=by rwa[S.len]
 exact⟨ds[i],Yg b,S.its i e _ he<|Yg b⟩
def HZ(t:SetTable)(es:Ka)(ds:List D)(h:Int)(dx:D)(l:Nat):Prop:=∃i,t.place[i]?=some (at_ t.mask h l)/\(tP es i≠h\/∃d,ds[i]?=some d/\eqd d dx=false)
def AY{es:Ka}{t}{A}(S:SetAt Pv w A a es t ds)(g:∀d∈ds,eqd d dx=true->aG w d=aG w dx)
  (f:at_ t.mask (aG w dx) m∉t.place) (C:∀l,l<m->HZ t es ds (aG w dx) dx l):∀d∈ds,eqd d dx=false:=by
 intro d s;cases q:eqd d dx with
 |false=>rfl
 |true=>
  exfalso;have B:=g d s q;obtain⟨i,p,e⟩:=ZX s;have c:i<es.size:=by rwa[<-S.len]
  have h:i<t.place.size:=by rwa[S.siz]
  have y:=Yy c;have x:ds[i]?=some d:=by rw[Yg p,e]
  have u:=Yy h;have o:tP es i=aG w dx:=by unfold tP;rw[y];exact(S.its i _ d y x).1.trans B
  obtain⟨n,n1,n2,n3⟩:=S.tab.reach i _ u;rw[o]at n2 n3;rcases UC n m with z|z|z
  ·obtain⟨k,j,b⟩:=C n z;rw[n2]at j;have:=S.tab.rise.inj j u;subst this;rcases b with b|⟨d',b,k3⟩
   ·exact b o
   ·rw[x]at b;cases b;rw[q]at k3;cases k3
  ·subst z;rw[n2]at f;exact f<|Array.getElem_mem h
  ·exact f<|n3 m z
theorem mf{es:Ka}{t}(S:SetAt Pv w s.heap a es t ds){x}(hx:KeyAt s.heap x dx)(Y:A.units+64<cLine){Q}{N}(hN:N<10*turns t.mask)(q:at_ t.mask (aG w dx) N∉t.place)
  (u:∀d∈ds,eqd d dx=true->aG w d=aG w dx)
  (q1:∀d∈ds,eqd d dx=true->Q (.there none) s)
  (R:∀m,m<=N->at_ t.mask (aG w dx) m∉t.place->(∀l,l<m->at_ t.mask (aG w dx) l∈t.place)->(∀d∈ds,eqd d dx=false)->Q (.free (at_ t.mask (aG w dx) m) false) s) :
  ∀f n st,st.getD (t.probeStart<|aG w dx)=bb t.mask (startM t.mask<|aG w dx) n->n<=N->N-n<f->(∀l,l<n->HZ t es ds (aG w dx) dx l)->
   wpAny (model prog w) A (setSearchFrom a x (aG w dx) true f st) Q E s
 |0,n,st,_,_,h,_=>by lia
 |f+1,n,st,e,hn,hf,hg=>by
  refine Yb<|S.state λep=>?_;dsimp only;rw[S.tab.gave];rw[e];have g:∀m,n<=m->(∀l,n<=l->l<m->∃i,t.place[i]?=some _/\tP es i≠aG w dx)->∀l,l<m->HZ t es ds _ dx l:=λm _ h l B=>by
   rcases Vw l n with z|z
   ·exact hg l z
   ·obtain⟨i,I,i2⟩:=h l z B;exact⟨i,I,.inl i2⟩
  rcases vJ S.tab q (10*turns t.mask) n hn (by lia)with⟨m,H,X,o,T,C⟩|⟨m,i,H,X,o,T,C,m6⟩
  ·generalize J:t.probe _ _ _=z;have j:=J.symm.trans C;subst j;have c:=g m H T;refine Yh<|R m X o (λl B=>?_)<|AY S u o c;obtain⟨i,I,_⟩:=c l B;exact ZZ I
  ·generalize J:t.probe _ _ _=z;have j:=J.symm.trans m6;subst j;have c:=g m H C;have L:=lA S.tab.rise o;have hi:i<es.size:=by rw[<-S.siz];obtain⟨h,_⟩:=Zt.mp o;exact h
   have P:=Yy hi;obtain⟨d,e2,e3,e4⟩:=S.key P;obtain⟨ra,O⟩:=e4.ref;have key:∀U Z,wpAny (model prog w) A Z Q E s->wpAny (model prog w) A (if(!t.led)=true then(do
     let b <-searchCouldBeSeen x<|List.map (λx=>x.snd) (Array.filter (λx=>x.fst == aG w dx) es).toList
     if b=true then U else Z)else Z) Q E s:=by
    intro U Z hZ;split
    ·refine Yb<|EQ hx (λy hy=>?_) ?_
     ·obtain⟨p,hp,rfl⟩:=Ym.mp hy;have M:p∈es:=(Array.mem_filter.mp<|VZ.mp hp).1;obtain⟨k,hk⟩:=Array.getElem?_of_mem M;obtain⟨d,_,_,h⟩:=S.key hk;exact⟨d,h⟩
     ·rw[Yl Yk];exact hZ
    ·exact hZ
   refine key _ _ ?_;rw[P];dsimp only;refine Yb<|ZE<|HF Y e4 hx ?_;refine Yb<|S.state λep'=>?_;cases hq:eqd d dx with
   |true=>exact Yh<|q1 d (YJ e2) hq
   |false=>
    have K:t.sameMemory t.moves t.mask=some true:=by unfold sameMemory;rw[Yj<|by simp]
    rw[K];dsimp only;rw[Yj rfl,L];dsimp only;rw[P];dsimp only;rw[O];refine Yb<|wpAny_isSame_ref_self ?_;refine Yb<|Yh ?_;rw[Yj rfl];dsimp only;refine mf S hx Y hN q u q1 R f (m+1) _ rfl (by lia) (by lia) λl B=>?_;rcases Vw l m with z|z
    ·exact c l z
    ·have:l=m:=by lia
     subst this;exact⟨i,o,.inr ⟨d,e2,hq⟩⟩
def Cy:∀n {d e},hkN n d=true->hkN n e=true->eqd d e=true->d=e:=by
 intro n;induction n with
 |zero=>
  intro d e f b h;cases d with
  |int i=>
   cases e with
   |int j=>exact YR D.int<|eq_of_beq h
   |str y=>cases h
   |_=>cases b
  |str x=>
   cases e with
   |str y=>exact YR D.str<|eq_of_beq h
   |int j=>cases h
   |_=>cases b
  |_=>cases f
 |succ n ih=>
  have all:∀c a:List D,(∀d∈c,hkN n d=true)->(∀d∈a,hkN n d=true)->PyData.eqvAll (cn c) (cn a)=true->c=a:=by
   intro c;induction c with
   |nil=>
    intro a _ _ h;cases a with
    |nil=>rfl
    |cons _ _=>cases h
   |cons d c g=>
    intro a p o h;cases a with
    |nil=>cases h
    |cons e a=>
     have l:(PyData.eqv (cc d) (cc e)&&PyData.eqvAll (cn c) (cn a))=true:=h;rw[Yu]at l;rw[ih (p d Ye) (o e Ye) l.1,g a (λd m=>p d<|Yd _ m) (λd m=>o d<|Yd _ m) l.2]
  intro d e f b h;cases d with
  |int i=>
   cases e with
   |int j=>exact YR D.int<|eq_of_beq h
   |str y=>cases h
   |tup y=>cases h
   |_=>cases b
  |str x=>
   cases e with
   |str y=>exact YR D.str<|eq_of_beq h
   |int j=>cases h
   |tup y=>cases h
   |_=>cases b
  |tup xs=>
   cases e with
   |tup ys=>exact YR D.tup<|all xs ys (λd m=>Yi.mp f d m) (λd m=>Yi.mp b d m) h
   |int j=>cases h
   |str j=>cases h
   |_=>cases b
  |_=>cases f
def qr(s:∀b o vs n,h.get? b=some o->o.data=.seq vs n->h'.get? b=some o):∀n {d}{u}{as},hkN n d=true->Reads h u (cc d) as->Reads h' u (cc d) as:=by
 intro n;induction n with
 |zero=>
  intro d u as g r;cases d with
  |int i=>cases r;exact .int _ _
  |str i=>cases r;exact .str _ _
  |_=>cases g
 |succ n ih=>
  have all:∀c f as,(∀d∈c,hkN n d=true)->ReadsAll h f (cn c) as->ReadsAll h' f (cn c) as:=by
   intro c;induction c with
   |nil=>intro f as _ r;cases r;exact .nil
   |cons d c j=>
    intro f as l r;cases r with
    |cons y x=>exact .cons (ih (l d Ye) y)<|j _ _ (λd m=>l d<|Yd _ m) x
  intro d u as g r;cases d with
  |int i=>cases r;exact .int _ _
  |str i=>cases r;exact .str _ _
  |tup c=>
   obtain⟨a,o,vs,k,rfl,q,w,e,p⟩:=fJ r;exact .tuple (s a o _ _ q e) w e<|all c _ _ (λd m=>Yi.mp g d m) p
  |_=>cases g
theorem KeyAt.off(k:KeyAt h u d){o}{es:Ka}(g:h.get? a=some o)(hd:o.data=.set es ep t)(i:∀b,b≠a->h'.get? b=h.get? b):KeyAt h' u d:=by
 obtain⟨k,j,r⟩:=k;refine⟨k,j,qr (λb m l n c f=>?_) 8 (bN k).1 r⟩;grind
def KeyAt.same{d e}(k:KeyAt h u d)(k':KeyAt h' v e)(q:eqd d e=true):d=e:=Cy 8 (bN k.1).1 (bN k'.1).1 q
def xN(t:SetTable)(n:Nat):Prop:=t.mask=7/\n<=4\/t.mask=31/\n<=18\/t.mask=127/\n<=76
def GZ(w:World)(t:SetTable):Prop:=w.params.followText "set-order"=false->t.led=true
def CB(Pv:Value->D->Prop)(w:World)(h:Heap)(a:Addr)(ds:List D):Prop:=∃e t,SetAt Pv w h a e t ds/\xN t e.size/\GZ w t
def TabOk.plain(k:TabOk hs t):TabOk hs {t with plain:=false}:=⟨k.rise,k.nod,k.bd,k.odd,k.full,k.room,k.reach⟩
def TabOk.congr{a}(k:TabOk hs t)(e:∀i,i<t.place.size->hs i=a i):TabOk a t:=
 ⟨k.rise,k.nod,k.bd,k.odd,k.full,k.room,λi j h=>by
  rw[<-e i (Zt.mp h).1];exact k.reach i j h⟩
def vj{a}(l:List a)(p:Nat)(x:a):List a:=(insertAt l.toArray p x).toList
def pH{a}l p(x:a)(h:p<=l.length)i:(vj l p x)[i]?=if i<p then l[i]? else if i=p then some x else l[i-1]?:=by unfold vj;rw[Zc,bD _ _ _<|by simpa using h];simp
def CL{a}l p(x:a)(h:p<=l.length):(vj l p x).length=l.length+1:=by unfold vj;rw[YM,bP _ _ _<|by simpa using h];simp
theorem zG{a}:∀l p (x:a),p<=l.length->(vj l p x).Perm (x::l):=by
 intro l p x c;have e:vj l p x=l.take p++x::l.drop p:=by
  apply ZY;intro i;rw[pH _ _ _ c,List.getElem?_append];have f:(l.take p).length=p:=by rw[Zu];lia
  rw[f];by_cases h:i<p
  ·rw[Yj h,Yj h,List.getElem?_take_of_lt h]
  ·rw[Yl h,Yl h];by_cases b:i=p
   ·subst b;simp
   ·rw[Yl b];obtain⟨k,g⟩:∃k,i-p=k+1:=⟨i-p-1,by lia⟩
    rw[g,XJ,List.getElem?_drop]
    congr 1
    lia
 rw[e];refine List.perm_middle.trans ?_;rw[VU]
def SetAt.put{es:Ka}(S:SetAt Pv w h a es t ds){x}(hx:KeyAt h x dx)(L:Pv x dx){N}(hN:N<10*turns t.mask)(he:at_ t.mask (aG w dx) N∉t.place)
  (P:∀m,m<N->at_ t.mask (aG w dx) m∈t.place) (M:es.size+1<=t.mask) b
  (I:h'=h.update a (Obj.putSet (insertAt es (t.put<|at_ t.mask (aG w dx) N).2 (aG w dx,x))<|if b=true then(t.put<|at_ t.mask (aG w dx) N).1 else{ (t.put<|at_ t.mask (aG w dx) N).1 with plain:=false})) :
  SetAt Pv w h' a (insertAt es (t.put<|at_ t.mask (aG w dx) N).2 (aG w dx,x)) (if b=true then(t.put<|at_ t.mask (aG w dx) N).1 else{ (t.put<|at_ t.mask (aG w dx) N).1 with plain:=false}) (vj ds (t.put<|at_ t.mask (aG w dx) N).2 dx)/\∀c,c≠a->h'.get? c=h.get? c:=by
 obtain⟨o,T,C,R,A⟩:=S.obj;have Q:=S.tab.put hN he P (zq _ _ _) (by rwa[S.siz]);obtain⟨b1,_,_⟩:=fK S.tab.rise<|at_ t.mask (aG w dx) N;rw[S.siz]at b1;have K:(t.put _).2=below t.place (at_ t.mask (aG w dx) N):=rfl;have B:(t.put<|at_ t.mask (aG w dx) N).1.place.size=es.size+1:=by rw[qL,bP _ _ _<|by rwa[S.siz],S.siz]
 rw[K]at I ⊢;generalize (t.put _).1=t1,below t.place _=p at *;have J:p<=ds.length:=by rwa[S.len]
 have j:∀c,c≠a->h'.get? c=h.get? c:=λc O=>by rw[I];exact YV _ _ _ _ O
 have u:=λl y=>by
  have:=Zd (Obj.putSet l y) C (by rw[putSet_of l y A];rfl);rwa[putSet_of l y A]at this
 have z:TabOk (tP<|insertAt es p (aG w dx,x)) t1:=Q.congr λi U=>by
  unfold DO tP;rw[bD _ _ _ b1];by_cases s:i<p
  ·rw[Yj s,Yj s]
  ·rw[Yl s,Yl s];by_cases q:i=p
   ·rw[Yj q,Yj q];rfl
   ·rw[Yl q,Yl q]
 refine⟨⟨?_,?_,?_,?_,?_,?_⟩,j⟩
 ·rw[I];exact⟨_,_,u _ _,R,rfl⟩
 ·cases b with
  |true=>exact z
  |false=>exact z.plain
 ·rw[bP _ _ _ b1];cases b with
  |true=>exact B
  |false=>exact B
 ·rw[CL _ _ _ J,bP _ _ _ b1,S.len]
 ·intro i e d f g;rw[bD _ _ _ b1]at f;rw[pH _ _ _ J]at g;by_cases s:i<p
  ·rw[Yj s]at f g;obtain⟨H,E⟩:=S.its i e d f g;exact⟨H,E.off C A j⟩
  ·rw[Yl s]at f g;by_cases q:i=p
   ·rw[Yj q]at f g;cases f;cases g;exact⟨rfl,hx.off C A j⟩
   ·rw[Yl q]at f g;obtain⟨H,E⟩:=S.its (i-1) e d f g;exact⟨H,E.off C A j⟩
 ·intro i e d f g;rw[bD _ _ _ b1]at f;rw[pH _ _ _ J]at g;by_cases s:i<p
  ·rw[Yj s]at f g;exact S.pv i e d f g
  ·rw[Yl s]at f g;by_cases q:i=p
   ·rw[Yj q]at f g;cases f;cases g;exact L
   ·rw[Yl q]at f g;exact S.pv (i-1) e d f g
theorem oB{c g:Type}{f:c->Option g}:∀(l:List c),(∀k∈l,(f k).isSome=true)->∀i:Nat,(l.filterMap f)[i]?=(l[i]?).bind f
 |[],_,i=>by simp
 |a::l,h,i=>by
  obtain⟨b,e⟩:=ZG.mp<|h a Ye;rw[Vx e];cases i with
  |zero=>simp[e]
  |succ i=>rw[XJ,XJ];exact oB l (λk m=>h k<|Yd _ m) i
theorem xP{c e:Type}{f:c->Option e}:∀(l:List c),(∀k∈l,(f k).isSome=true)->(l.filterMap f).length=l.length
 |[],_=>rfl
 |a::l,h=>by
  obtain⟨b,g⟩:=ZG.mp<|h a Ye;simp_all
theorem DU{a:Type}(l:List a):(List.range l.length).filterMap (λk=>l[k]?)=l:=by
 have b:∀k∈List.range l.length,(l[k]?).isSome=true:=λk c=>by
  rw[Yg<|YU.mp c];rfl
 apply ZY;intro i;rw[oB _ b];grind
theorem SetAt.relay{es:Ka}(S:SetAt Pv w s.heap a es t ds){f}(P:sizeAbove f=mask+1)(F:jG (mask+1))(ho:mask%2=1)(hz:es.size<=mask)(hz':mask<=1000){Q}
  (q:∀g t' J h',SetAt Pv w h' a g t' J->t'.mask=mask->t'.led=t.led/\t'.plain=t.plain->g.size=es.size->J.Perm ds->(∀c,c≠a->h'.get? c=s.heap.get? c)->Q () {s with heap:=h' }) :
  wpAny (model prog w) A (setRelay a f) Q E s:=by
 obtain⟨t',b,o1,o2,O,L,o5,Z,Y,_⟩:=Fh F ho (hashes:=es.map (·.1)) (by simpa using hz) t.finger (t.movedTo mask) t.led t.plain;have hl:t.relaid (es.map (·.1)) f=some (t',b):=by unfold relaid;rwa[P]
 have C:∀k∈b.toList,k<es.size:=λk B=>by
  have:=L.mem_iff.mp B;simpa using this
 have T:∀k∈b.toList,(es[k]?).isSome=true:=λk B=>by rw[Yy<|C k B];rfl
 have N:∀k∈b.toList,(ds[k]?).isSome=true:=λk B=>by rw[Yg<|by rw[S.len];exact C k B];rfl
 have u:b.size=es.size:=by have:=L.length_eq;simpa using this
 have I:(b.filterMap λk=>es[k]?).toList=b.toList.filterMap λk=>es[k]?:=by simp
 have l:∀i,(b.filterMap λk=>es[k]?)[i]?=(b[i]?).bind λk=>es[k]?:=λi=>by
  rw[<-Zc,I,oB _ T,Zc]
 have j:(b.filterMap λk=>es[k]?).size=es.size:=by rw[<-YM,I,xP _ T,YM,u]
 obtain⟨o,ep,M,k2,K⟩:=S.obj;refine Yb<|S.state λep'=>?_;dsimp only;rw[Yl<|by rw[P];show ¬(mask+1 > 2^24);lia,hl];refine Yb ?_;show wpAny _ _ (if((b.filterMap λk=>es[k]?).size != es.size)=true then _ else pure _) _ _ _;rw[Yl<|by rw[j];simp];refine Yh ?_;have x:=λg t'=>by
  have:=Zd (Obj.putSet g t') M (by rw[putSet_of g t' K];rfl);rwa[putSet_of g t' K]at this
 have m:∀c,c≠a->(s.heap.update a<|Obj.putSet (b.filterMap λk=>es[k]?) t').get? c=s.heap.get? c:=λc hc=>YV _ _ _ _ hc
 refine VM M K (q _ t' (b.toList.filterMap λk=>ds[k]?) _ ⟨⟨_,_,x _ _,k2,rfl⟩,o2.congr λi R=>?_,?_,?_,λi e d h y=>?_,λi e d h y=>?_⟩ o5 ⟨Z,Y⟩ j ?_ m)<|by rw[j];show es.size<=2^24;lia
 ·rw[O]at R;have H:i<b.size:=by rw[u];simpa using R
  unfold tP;rw[l,Yy H];simp[Yy H]
 ·rw[O,j];simp
 ·rw[xP _ N,j,YM,u]
 ·rw[l]at h;rw[oB _ N,Zc]at y;cases z:b[i]? with
  |none=>rw[z]at h;cases h
  |some k=>
   rw[z]at h y;obtain⟨X,U⟩:=S.its k e d h y;exact⟨X,U.off M K m⟩
 ·rw[l]at h;rw[oB _ N,Zc]at y;cases z:b[i]? with
  |none=>rw[z]at h;cases h
  |some k=>
   rw[z]at h y;exact S.pv k e d h y
 ·have p:=List.Perm.filterMap (λk=>ds[k]?) L;have e:(es.map (·.1)).size=ds.length:=by rw[Array.size_map,S.len]
  rwa[e,DU]at p
def Ce(h:o9 d=true):eqd d d=true:=PySem.SeqAt.eqv_refl _ (cY 8 d (bN h).2.1).1
def Gf(k:TabOk hs t):t.fill=t.place.size:=by unfold SetTable.fill;rw[k.nod];rfl
theorem Ms:sizeAbove (grown 5)=31+1:=by decide+kernel
theorem Mu:sizeAbove (grown 19)=127+1:=by decide+kernel
theorem xC(S:CB Pv w s.heap a ds){x}(hx:KeyAt s.heap x dx)(px:Pv x dx)(hu:A.units+64<cLine)(hn:ds.length<70){f}{Q:Kb}(q0:dx∈ds->Q false s)
  (q1:dx∉ds->∀J h',CB Pv w h' a J->J.Perm (dx::ds)->(∀c,c≠a->h'.get? c=s.heap.get? c)->Q true {s with heap:=h' }) :
  wpAny (model prog w) A (setAddHashedIn a x (aG w dx)<|f+1) Q E s:=by
 obtain⟨j,t,S,sz,ld⟩:=S;have hk:∀d∈ds,∃u,KeyAt s.heap u d:=λd H=>by
  obtain⟨i,hi,e⟩:=ZX H;have Z:i<j.size:=by rwa[<-S.len]
  exact⟨_,(S.its i _ d (Yy Z)<|by rw[Yg hi,e]).2⟩
 have y:∀d∈ds,eqd d dx=true->d=dx:=λd H q=>by
  obtain⟨u,k⟩:=hk d H;exact k.same hx q
 obtain⟨U,rfl⟩:=hx.ref;have hlt:j.size<70:=by rwa[<-S.len]
 have O:j.size+1<=t.mask/\t.mask<=127:=by rcases sz with⟨B,T⟩|⟨B,T⟩|⟨B,T⟩<;>omega
 obtain⟨N,N1,N2⟩:=S.tab.empty<|aG w dx;unfold setAddHashedIn;refine Yb<|S.state λep=>?_;dsimp only;have hb:byScan (.ref U) j=false:=rfl;rw[hb,Yl Yk];refine Yb ?_;unfold setSearch;refine mf S hx hu N1 N2 (λd H q=>by rw[y d H q]) (λd H q=>?_) (λm m1 m2 m3 m4=>?_) 100000 0 none rfl (YO _) ?_ λl hl=>absurd hl<|VA _
 ·exact Yh<|q0<|by rwa[<-y d H q]
 ·have R:dx∉ds:=λH=>by
   have:=m4 dx H;rw[Ce hx.1]at this;cases this
  have Y:m<10*turns t.mask:=by omega
  refine Yb<|S.state λep=>?_;dsimp only;obtain⟨b1,_,_⟩:=fK S.tab.rise<|at_ t.mask (aG w dx) m;rw[S.siz]at b1;have K:∀b:Bool,wpAny (model prog w) A (do
    storeSet a (insertAt j (t.put<|at_ t.mask (aG w dx) m).2 (aG w dx,Value.ref U))<|if b=true then(t.put<|at_ t.mask (aG w dx) m).1 else{ (t.put<|at_ t.mask (aG w dx) m).1 with plain:=false}
    if(!false&&(if b=true then(t.put<|at_ t.mask (aG w dx) m).1 else{ (t.put<|at_ t.mask (aG w dx) m).1 with plain:=false}).tooFull)=true then(do
     setRelay a<|grown<|j.size+1
     pure true)else pure true) Q E s:=by
   intro b;obtain⟨X,L⟩:=S.put hx px Y m2 m3 O.1 b rfl;obtain⟨o,ep',k1,k2,k3⟩:=S.obj;have hp:(t.put<|at_ t.mask (aG w dx) m).2<=ds.length:=by rwa[S.len]
   have pm:=zG ds _ dx hp;have I:(if b=true then(t.put<|at_ t.mask (aG w dx) m).1 else{ (t.put<|at_ t.mask (aG w dx) m).1 with plain:=false}).mask=t.mask:=by cases b<;>rfl
   have P:GZ w (if b=true then(t.put<|at_ t.mask (aG w dx) m).1 else{ (t.put<|at_ t.mask (aG w dx) m).1 with plain:=false}):=by cases b<;>exact ld
   have p:(insertAt j (t.put<|at_ t.mask _ m).2 (aG w dx,Value.ref U)).size=j.size+1:=bP _ _ _ b1;generalize (if b=true then(t.put<|at_ t.mask _ m).1 else{ (t.put<|at_ t.mask _ m).1 with plain:=false})=tb,insertAt j (t.put<|at_ t.mask _ m).2 _=es1,vj ds (t.put<|at_ t.mask _ m).2 dx=ds1 at *;have hfl:tb.fill=j.size+1:=by rw[Gf X.tab,X.siz,p]
   refine Yb<|VM k1 k3 ?_ (by rw[p];show j.size+1<=2^24;omega);have C:∀g:Nat,sizeAbove (grown<|j.size+1)=g+1->jG (g+1)->g%2=1->j.size+1<=g->g<=1000->(∀M:SetTable,M.mask=g->xN M (j.size+1))->
     wpAny (model prog w) A (do
      setRelay a<|grown<|j.size+1
      pure true) Q E {s with heap:=s.heap.update a<|Obj.putSet es1 tb}:=by
    intro g c1 c2 c3 c4 c5 c6;refine Yb<|SetAt.relay X c1 c2 c3 (by rwa[p]) c5 λes' M J h' S2 z1 zl z2 z3 z4=>?_;refine Yh<|q1 R J h' ⟨es',M,S2,?_,λz=>zl.1.trans<|P z⟩ (z3.trans pm) λc hc=>(z4 c hc).trans<|L c hc;rw[z2,p];exact c6 M z1
   have stay:xN tb (j.size+1)->Q true {s with heap:=s.heap.update a<|Obj.putSet es1 tb}:=λh=>q1 R ds1 _ ⟨es1,tb,X,by rw[p];exact h,P⟩ pm L
   have tf:tb.tooFull=decide ((j.size+1)*5 ≥ t.mask*3):=by unfold tooFull;rw[hfl,I]
   rw[tf,Bool.not_false,Vg];rcases sz with⟨B,T⟩|⟨B,T⟩|⟨B,T⟩
   ·rw[B];rcases Vw j.size 4 with z|z
    ·rw[Yl<|by simp;omega];exact Yh<|stay<|.inl ⟨I.trans B,by omega⟩
    ·have e4:j.size=4:=by omega
     rw[Yj<|by simp;omega];exact C 31 (by rw[e4];exact Ms) Jx rfl (by omega) (by omega) λM h=>.inr<|.inl ⟨h,by omega⟩
   ·rw[B];rcases Vw j.size 18 with z|z
    ·rw[Yl<|by simp;omega];exact Yh<|stay<|.inr<|.inl ⟨I.trans B,by omega⟩
    ·have e4:j.size=18:=by omega
     rw[Yj<|by simp;omega];exact C 127 (by rw[e4];exact Mu) Eu rfl (by omega) (by omega) λM h=>.inr<|.inr ⟨h,by omega⟩
   ·rw[B,Yl<|by simp;omega];exact Yh<|stay<|.inr<|.inr ⟨I.trans B,by omega⟩
  obtain⟨as,rx⟩:=hx.2;split
  ·exact Yb<|Dg 8 8 (Yr _) (bN hx.1).1 rx λb=>K b
  ·exact Yb<|Yh<|K true
 ·have:turns t.mask=t.mask+15:=rfl;omega
noncomputable def bh (ds:List D):List D:=ds.foldl (λa d=>open Classical in if d∈a then a else a++[d]) []
theorem gW ds d:bh (ds++[d])=(open Classical in if d∈bh ds then bh ds else bh ds++[d]):=by unfold bh;grind
theorem gU ds:(bh ds).length<=ds.length:=by
 have:∀n,∀ds:List D,ds.length=n->(bh ds).length<=n:=by
  intro n;induction n with
  |zero=>intro ds h;rw[Zo.mp h];exact Yr _
  |succ n ih=>
   intro ds h;have a:ds≠[]:=λe=>by rw[e]at h;cases h
   rw[<-List.dropLast_concat_getLast a,gW];have:=ih ds.dropLast (by rw[List.length_dropLast];omega);split
   ·omega
   ·rw[Yp,YQ];omega
 exact this _ ds rfl
def SetHas(Pv:Value->D->Prop)(w:World)(h:Heap)(a:Addr)(ds:List D):Prop:=∃b,CB Pv w h a b/\b.Perm (bh ds)
def SetHas.move(S:SetHas Pv w h a ds)(s:∀o,h.get? a=some o->h'.get? a=some o)(j:∀b o vs n,h.get? b=some o->o.data=.seq vs n->h'.get? b=some o):SetHas Pv w h' a ds:=by
 obtain⟨c,⟨A,t,S,sz,l⟩,p⟩:=S;refine⟨c,⟨A,t,⟨?_,S.tab,S.siz,S.len,λi e d m q=>?_,S.pv⟩,sz,l⟩,p⟩
 ·obtain⟨o,B,y,x,u⟩:=S.obj;exact⟨o,B,s o y,x,u⟩
 ·obtain⟨g,z,C,f⟩:=S.its i e d m q;exact⟨g,z,C,qr j 8 (bN z).1 f⟩
section
variable     {R:Kr}   {G:Array GenState->Array GenState->Prop}{n:Nat}{P:Nat->Value->Prop}{St:Nat->Shared->Prop}
theorem E9(S:SetHas Pv w s.heap a ds){x}(hx:KeyAt s.heap x dx)(l:Pv x dx)(o:A.units+64<cLine)(u:ds.length<70){Q:Kb}
  (q:∀b h' tk,s.toks<=tk->SetHas Pv w h' a (ds++[dx])->(∀c,c≠a->h'.get? c=s.heap.get? c)->Q b {s with heap:=h',toks:=tk}) :
  wpAny (model prog w) A (setAdd a x) Q E s:=by
 obtain⟨e,S,p⟩:=S;obtain⟨C,j⟩:=hx.2;unfold setAdd;refine ZE<|Yb<|Em 8 (by omega) (bN hx.1).1 j λtk h=>?_;unfold setAddHashed;refine ZE ?_;have y:e.length<70:=by rw[p.length_eq];exact Zk (gU ds) u
 refine xC (s:={s with toks:=tk}) S hx l o y (λg=>?_) λg i h' B m off=>?_
 ·refine q false s.heap tk h ⟨e,S,?_⟩ λc _=>rfl;rwa[gW,Yj<|p.mem_iff.mp g]
 ·refine q true h' tk h ⟨i,B,?_⟩ off;rw[gW,Yl λz=>g<|p.mem_iff.mpr z];exact m.trans<|(List.Perm.cons dx p).trans (List.perm_append_singleton dx _).symm
theorem B4(W:WalksS prog w A.in1 I fp wr G n P St)S(C:S∉fp)L(g:∀b o,L.get? b=some o->b∉S::wr)
  (hI:∀i s,St i s->∀b∈wr,∀o vs k,s.heap.get? b=some o->o.data≠.seq vs k)
  ds (Z:ds.length=n) (U:n<70) (q:∀i v,P i v->∃d,ds[i]?=some d/\KeyAt L v d/\Pv v d) (hu:A.units+70<cLine) :
  ∀k i s,n-i=k->i<=n->St i s->(∀b o,L.get? b=some o->s.heap.get? b=some o)->SetHas Pv w s.heap S (ds.take i)->
   (∀s',Moved (S::wr) G s s'->SetHas Pv w s'.heap S ds->R (.ok<|.ret .none) s')->
   codeAny (model prog w) A (.builtin "set.update.loop" ⟨[.ref S,.ref I],[]⟩) R s:=by
 have O:=λh=>C<|W.sub _ h
 have a:∀b∈wr,b∈S::wr:=λb f=>Yd _ f
 have T:∀{i}{s s'}{l},St i s->Moved wr G s s'->SetHas Pv w s.heap S l->SetHas Pv w s'.heap S l:=λX m h=>
  h.move (λo e=>m.heap S o O e) λb o vs k e z=>m.heap b o (λf=>hI _ _ X b f o vs k e z) e
 intro k;induction k with
 |zero=>
  intro i s hk hi c J K Q;have N:i=n:=by omega
  subst N;refine Zn PyProof.Rows.F.entry_set_update_loop ?_;rw[Zs PyProof.Rows.F.plain_set_update_loop _];refine Yb<|W.done s _ _ c λs' p=>?_;refine Yh<|Q s' (p.mono a)<|T c p ?_;rwa[<-Z,ZV]at K
 |succ k ih=>
  intro i s hk hi c J K Q;have B:i<n:=by omega
  refine Zn PyProof.Rows.F.entry_set_update_loop ?_;rw[Zs PyProof.Rows.F.plain_set_update_loop _];refine Yb<|W.item i s _ _ B c λv s' hP x p=>?_;obtain⟨d,hd,Y,pv⟩:=q i v hP;have j:=λb o e=>p.heap b o (λf=>g b o e<|a b f)<|J b o e
  refine Yb<|ZE<|E9 (T c p K) (Y.keeps j) pv (by show A.units+1+64<cLine;omega) (by rw[Zu];omega) λb h' tk u E off=>?_;have et:ds.take i++[d]=ds.take (i+1):=by rw[VI,hd];rfl
  rw[et]at E;refine Yh ⟨Xl PyProof.Rows.F.plain_set_update_loop _,ih (i+1) _ (by omega) B (W.frame _ s' _ _ x u λb f o e=>?_) (λb o e=>?_) E λM y H=>?_⟩
  ·rw[off b (λh:b=S=>C<|by rw[<-h];exact f)];exact e
  ·show h'.get? b=some o;rw[off b (λh:b=S=>g b o e<|by rw[h];exact Ye)];exact j b o e
  ·refine Q M (Moved.trans W.gtrans ((p.mono a).then_heap u λb o f e=>?_) y) H;rw[off b (λh:b=S=>f<|by rw[h];exact Ye)];exact e
end
theorem Ea{b}next:∀f k left (out:Array b),left.length<=f->(pickOrder.go next f k left out).toList.Perm (out.toList++left):=by
 intro f;induction f with
 |zero=>
  intro k left out h;obtain rfl:left=[]:=Zo.mp (by omega);rw[YZ];exact XA _
 |succ f ih=>
  intro k left out h;unfold pickOrder.go;split
  ·rename_i x a;obtain⟨c,g⟩:=Yn.mp a;refine(ih (k+1) _ _<|by rw[List.length_eraseIdx_of_lt c];omega).trans ?_;rw[Array.toList_push,Zi,<-g];refine List.Perm.append_left _ ?_;show((left[next k%left.length]::left.eraseIdx _)).Perm left;rw[VN];have:=VU (next k%left.length) left;refine List.Perm.trans ?_<|List.Perm.of_eq this;rw[Xk c];exact List.perm_middle.symm
  ·rename_i a;have e:left.length=0:=by
    rcases Nat.eq_zero_or_pos left.length with z|z
    ·exact z
    ·have:=Vm.mp a;have:=Uf (next k) z;omega
   obtain rfl:left=[]:=Zo.mp e;rw[YZ]
def zX{a}next(xs:Array a):(pickOrder next xs).toList.Perm xs.toList:=by
 have:=Ea next xs.size 0 xs.toList #[]<|by simp
 simpa[pickOrder]using this
def gX(w:World)(S:Addr)(ep:Nat)(es:Ka):Array (Int×Value):=if w.params.followText "set-order"=true then pickOrder (w.params.setOrder S ep) es else es
def rg w S ep es:(gX w S ep es).toList.Perm es.toList:=by
 unfold gX;split
 ·exact zX _ _
 ·exact XA _
def lH w S ep es:(gX w S ep es).size=es.size:=by have:=(rg w S ep es).length_eq;simpa using this
structure SObj (w:World) (h:Heap) (S:Addr) (es:Array (Int×Value)) (ep:Nat) (t:SetTable):Prop where
 obj:∃o,h.get? S=some o/\o.cls=.type "set"/\o.data=.set es ep t
 fits:t.fits es.size=true
 siz:t.place.size=es.size
 rise:w.params.followText "set-order"=false->Rising t.place
 led:w.params.followText "set-order"=false->t.led=true
 plain:w.params.followText "set-order"=false->(!t.plain&&decide (es.size > 1))=false
def Dj(h:Heap)(I S:Addr)(slot i n ep:Nat):Prop:=∃o,h.get? I=some o/\o.cls=.type "set_iterator"/\o.data=.fields #[.int slot 0,.int i 0,.ref S,.int n 0,.int ep 0]
theorem bu:Slot "set_iterator" "__next__" "set_iterator.__next__":=.of (owner := "set_iterator") (n := "__next__") (by rw[typeLookup_type,builtinLookup_eq_fast];kernel_rfl) (by decide+kernel) (by decide+kernel) (by decide+kernel) (by first|exact .inl (by decide+kernel)|exact .inr _)<|by rw[isSubtype_type];kernel_rfl
def eT:entryFor table "set_iterator.__next__"=some Builtin.«set_iterator.__next__»:=entryFor_of_fast (by kernel_rfl)
def fw x:argsOk "set_iterator.__next__" ⟨[x],[]⟩:=by unfold argsOk;kernel_rfl
theorem fq:Slot "set_iterator" "__iter__" "set_iterator.__iter__":=.of (owner := "set_iterator") (n := "__iter__") (by rw[typeLookup_type,builtinLookup_eq_fast];kernel_rfl) (by decide+kernel) (by decide+kernel) (by decide+kernel) (by first|exact .inl (by decide+kernel)|exact .inr _)<|by rw[isSubtype_type];kernel_rfl
theorem jw:entryFor table "set_iterator.__iter__"=some Builtin.«dict_keyiterator.__iter__»:=entryFor_alias (id' := "dict_keyiterator.__iter__") (by kernel_rfl) (by rfl) (by decide+kernel) (by kernel_rfl)
def kA x:argsOk "set_iterator.__iter__" ⟨[x],[]⟩:=by unfold argsOk;kernel_rfl
theorem j9:entryFor table "set.__iter__"=some Builtin.«frozenset.__iter__»:=entryFor_alias (id' := "frozenset.__iter__") (by kernel_rfl) (by rfl) (by decide+kernel) (by kernel_rfl)
def nZ:isSubtype (.type "StopIteration") (.type "StopIteration")=pure true:=rfl
section
variable  {es:Ka}  {t:SetTable}
def SObj.state(K:SObj w s.heap S es ep t){Q}(h:Q (es,ep,t) s):wpAny (model prog w) A (setState S) Q E s:=by obtain⟨o,b,c,a⟩:=K.obj;exact VL b a K.fits h
def SObj.entries(K:SObj w s.heap S es ep t){Q}(h:Q es s):wpAny (model prog w) A (setEntries S) Q E s:=by unfold setEntries;exact Yb<|K.state<|Yh h
def SObj.epoch(K:SObj w s.heap S es ep t){Q}(h:Q ep s):wpAny (model prog w) A (setEpoch S) Q E s:=by unfold setEpoch;exact Yb<|K.state<|Yh h
def nF{Q:Kb}(h:Q (w.params.followText "set-order") s):wpAny (model prog w) A setsByText Q E s:=by unfold setsByText;exact Yb<|wpAny_askSetting<|Yh h
theorem yh(K:SObj w s.heap S es ep t){slot}(hs:w.params.followText "set-order"=false->below t.place slot=i){Q}
  (h1:∀e a,(gX w S ep es)[i]?=some e->(w.params.followText "set-order"=false->below t.place a=i+1)->Q (some (e.2,a)) s) (h2:(gX w S ep es)[i]?=none->Q none s) :
  wpAny (model prog w) A (setNext S slot i ep) Q E s:=by
 unfold setNext;refine Yb<|K.state ?_;dsimp only;refine Yb<|nF ?_;cases h:w.params.followText "set-order" with
 |true=>
  rw[Yj rfl,Yl<|by simp];refine Yb ?_;unfold setWalk;refine Yb<|K.state ?_;dsimp only;refine Yb<|nF ?_;rw[h,Yj rfl];refine Yb<|wpAny_askSetting<|Yh<|Yh ?_;have f:gX w S ep es=pickOrder (w.params.setOrder S ep) es:=by unfold gX;rw[Yj h]
  show Q (((pickOrder (w.params.setOrder S ep) es)[i]?).map λe=>(e.2,slot)) s;rw[<-f];cases q:(gX w S ep es)[i]? with
  |none=>exact h2 q
  |some e=>exact h1 e slot q λz=>by rw[h]at z;cases z
 |false=>
  rw[Yl Yk];have f:gX w S ep es=es:=by unfold gX;rw[Yl<|by rw[h];exact Yk]
  rw[f]at h1 h2;have o:=K.plain h;have l:=K.led h;have m:=hs h;show wpAny _ _ (if((!t.plain)&&decide _)=true then _ else _) _ _ _;rw[o,Yl Yk];refine Yb ?_;show wpAny _ _ (if((!t.led)&&!es.isEmpty)=true then _ else _) _ _ _;rw[l,Yl<|by simp];refine Yh ?_
  rw[m];refine Yh ?_;cases q:es[i]? with
  |none=>exact h2 q
  |some e=>
   have c:i<t.place.size:=by rw[K.siz];exact(Zt.mp q).1
   rw[Yy];refine h1 e (t.place[i]+1) q λ_=>?_;obtain⟨b1,b2,b3⟩:=fK (K.rise h)<|t.place[i]+1;generalize below t.place _=b at b1 b2 b3;rcases UC b (i+1)with z|z|z
   ·have:=b3 i c (by omega);omega
   ·exact z
   ·have g:i+1<t.place.size:=by omega
    have u:=b2 (i+1) g z;have p:=(K.rise h).lt i (i+1) c g (by omega);omega
end
section
variable  {es:Ka}  {t:SetTable}
def SObj.at(K:SObj w h S es ep t)(k:∀o,h.get? S=some o->h'.get? S=some o):SObj w h' S es ep t:=by obtain⟨o,c,b,a⟩:=K.obj;exact⟨⟨o,k o c,b,a⟩,K.fits,K.siz,K.rise,K.led,K.plain⟩
def FB{slot}(p:Dj s.heap I S slot i es.size ep)(K:SObj w s.heap S es ep t)(hs:w.params.followText "set-order"=false->below t.place slot=i){e}(he:(gX w S ep es)[i]?=some e){Q:Ko}
  (q:∀h' a,Dj h' I S a (i+1) es.size ep->(w.params.followText "set-order"=false->below t.place a=i+1)->(∀b,b≠I->h'.get? b=s.heap.get? b)->Q (some e.2) {s with heap:=h' }) :
  wpAny (model prog w) A (pyNext<|.ref I) Q E s:=by
 obtain⟨o,g,x,j⟩:=id p;have B:s.TypeIs (.ref I) "set_iterator":=⟨o,g,x⟩
 unfold pyNext;refine Yb<|wpAny_attempt<|XL B bu<|ZU bu B eT ?_<|fw _;unfold Builtin.«set_iterator.__next__»;refine Yb<|Yh ?_;refine Yb<|wpAny_fieldsOf g j ?_;refine Yb<|K.entries ?_;rw[Yl<|by simp];show wpAny _ _ (setNext S _ _ _>>=_) _ _ s;rw[Zb,Zb,Zb];refine Yb (yh K hs (λC a f l=>?_) λz=>by rw[he]at z;cases z);rw[he]at f;cases f;refine Yb<|Vn g j (by simp) ?_;have c:=Zd (Obj.mapFields (·.setIfInBounds 0<|rawInt<|a)) g<|Vc<|Xc j _;have h:=Xc j (·.setIfInBounds 0<|rawInt<|a);refine Yb<|Vn c h (by simp) ?_;have m:=Zd (Obj.mapFields (·.setIfInBounds 1<|rawInt<|i+1)) c<|Vc<|Xc h _;have u:=Xc h (·.setIfInBounds 1<|rawInt<|i+1);refine Yh ⟨_,rfl,Yh<|q _ a ⟨_,m,?_,?_⟩ l λb y=>?_⟩
 ·rwa[Obj.cls_mapFields,Obj.cls_mapFields]
 ·rw[u];simp[rawInt]
 ·rw[YV _ _ _ _ y,YV _ _ _ _ y]
def FP{slot}(p:A.handled=none)(g:Dj s.heap I S slot i es.size ep)(K:SObj w s.heap S es ep t)(hs:w.params.followText "set-order"=false->below t.place slot=i)(he:(gX w S ep es)[i]?=none){Q:Ko}
  (q:∀h',(∀b o,b≠I->s.heap.get? b=some o->h'.get? b=some o)->Q none {s with heap:=h' }):wpAny (model prog w) A (pyNext<|.ref I) Q E s:=by
 obtain⟨o,f,x,j⟩:=id g;have l:s.TypeIs (.ref I) "set_iterator":=⟨o,f,x⟩
 unfold pyNext;refine Yb<|wpAny_attempt<|XL l bu<|ZU bu l eT ?_<|fw _;unfold Builtin.«set_iterator.__next__»;refine Yb<|Yh ?_;refine Yb<|wpAny_fieldsOf f j ?_;refine Yb<|K.entries ?_;rw[Yl<|by simp];show wpAny _ _ (setNext S _ _ _>>=_) _ _ s;rw[Zb,Zb,Zb];refine Yb<|yh K hs (λz c h u=>by rw[he]at h;cases h) λ_=>?_;refine Yb<|Vn f j (by simp) ?_;refine Yb ?_;simp only[newExc,newTuple];refine Yb<|Xh (Yb (m:=firstArgMember _ _)<|wpAny_of_eq (a:=Value.none) (by first|rfl|(simp only[firstArgMember];rfl)) ?_) (by size_fits);refine Xh ?_ (by size_fits);simp only[raiseNew];refine Yb<|wpAny_handled ?_;rw[show A.in1.handled=none from p];refine Yb<|Yh<|wpAny_throw ?_;refine Yb<|Vr (b:=true) (T := "StopIteration") ⟨_,Yq _ rfl,rfl⟩ nZ ?_;exact Yh<|q _ λb o y e=>(((Heap.SameBut.update ..).extBut.push _).push _) b o y e
def Bg(M:A.handled=none)(x:S≠I)(O:es.size<=sizeLine):Walks prog w A I [I,S] [I] es.size (λi v=>∃e,(gX w S ep es)[i]?=some e/\v=e.2)
  (λi h=>(∃slot,Dj h I S slot i es.size ep/\(w.params.followText "set-order"=false->below t.place slot=i))/\SObj w h S es ep t) where
 sub:=λb l=>by simp at l;simp[l]
 frame:=λi h q a f=>by
  obtain⟨⟨slot,⟨o,H,C,L⟩,j⟩,K⟩:=a;exact⟨⟨slot,⟨o,f I (by simp) o H,C,L⟩,j⟩,K.at λo e=>f S (by simp) o e⟩
 item:=λi s Q E N a p=>by
  obtain⟨⟨slot,g,j⟩,K⟩:=a;have y:i<(gX w S ep es).size:=by rwa[lH]
  have J:=Yy y;refine FB g K j J λq c m u f=>?_;exact p _ q s.toks ⟨_,J,rfl⟩ ⟨⟨c,m,u⟩,K.at λo e=>(f S x).trans e⟩ λb o l e=>(f b λz=>l<|by simp[z]).trans e
 done:=λs Q E a p=>by
  obtain⟨⟨slot,g,j⟩,K⟩:=a;refine FP M g K j (XW<|by rw[lH];exact Yr _) λq f=>?_;exact p q s.toks λb o l e=>f b o (λz=>l<|by simp[z]) e
 self:=λi s Q E a p=>by
  obtain⟨⟨slot,⟨o,H,C,L⟩,j⟩,K⟩:=a;have B:s.TypeIs (.ref I) "set_iterator":=⟨o,H,C⟩
  refine VO B fq<|ZU fq B jw ?_<|kA _;exact Yh ⟨_,rfl,"set_iterator",_,B,bu.lookup,p⟩
theorem Cf(K:SObj w s.heap S es ep t) 
  (q:Q (.ref s.heap.objs.size) {s with heap:=s.heap.push {cls:=.type "set_iterator",data:=.fields #[.int 0 0,.int 0 0,.ref S,.int es.size 0,.int ep 0]} }):wpAny (model prog w) A (pyIter<|.ref S) Q E s:=by
 obtain⟨o,c,b,e⟩:=id K.obj;have h:s.TypeIs (.ref S) "set":=⟨o,c,b⟩
 refine VO h PySem.F.slot_set_iter<|ZU PySem.F.slot_set_iter h j9 ?_<|PySem.F.args_set_iter_1 _;unfold Builtin.«frozenset.__iter__»;refine Yb<|Yb<|Yh<|Yh ?_;refine Yb<|Yb<|K.entries<|Yh ?_;refine Yb ?_;unfold setDrawn;refine Yb<|K.state ?_;refine Yb<|nF<|Yh ?_;have a:(!w.params.followText "set-order"&&(!t.plain&&decide (es.size > 1)))=false:=by
  cases z:w.params.followText "set-order" with
  |true=>rfl
  |false=>rw[K.plain z];rfl
 show wpAny _ _ (if(!w.params.followText "set-order"&&(!t.plain&&decide _))=true then _ else _) _ _ s;rw[a,Yl Yk];refine Yb<|Yh ?_;refine Yb<|K.epoch ?_;exact Yb<|Xh<|Yh ⟨_,rfl,"set_iterator",_,⟨_,Yq _ rfl,rfl⟩,bu.lookup,q⟩
theorem zz{acc}(h:ItemsOf (λi v=>∃e,(gX w S ep es)[i]?=some e/\v=e.2) acc es.size):acc.toList=(gX w S ep es).toList.map (·.2):=by
 obtain⟨f,c⟩:=h;apply ZY;intro i;rw[Zc,Yo,Zc];by_cases b:i<acc.size
 ·have e:=Yy b;obtain⟨x,a,q⟩:=c i _ e;rw[e,a,q];rfl
 ·rw[XW<|by omega,XW<|by rw[lH];omega];rfl
theorem BS(K:SObj w s.heap S es ep t){Q:Kb}(h:Q false s):wpAny (model prog w) A (Builtin.List.listLengthHint (.ref S)) Q E s:=by
 have⟨o,f,e,g⟩:=id K.obj;have c:s.TypeIs (.ref S) "set":=⟨o,f,e⟩
 unfold Builtin.List.listLengthHint;refine Yb<|XD c PySem.F.slot_set_len.lookup ?_;generalize a:("set.__len__")=i
 wp_delta
 rw[show splitId i=some ("set","__len__")from by subst a;decide+kernel];subst a;refine Yb<|Vr (T := "set") c sub_set_self ?_;refine Vd (λz=>absurd z<|by decide) λ_=>?_;refine Vd (λ_=>?_) λz=>absurd (by decide+kernel) z;refine Yb<|VS c ?_;exact Yh h
theorem xp{R:Kr}(T:A.handled=none)(K:SObj w s.heap S es ep t)(C:es.size<=sizeLine)(c:L≠S)(E:s.heap.get? L=some {cls:=.type "list",data:=.seq #[] c₀})
  (Y:∀h' tk a c',(∀b o,b≠L->s.heap.get? b=some o->h'.get? b=some o)->h'.get? L=some {cls:=.type "list",dict:=none,data:=.seq a c',slots:=#[]}->a.toList=(gX w S ep es).toList.map (·.2)->R (.ok<|.ret res) {s with heap:=h',toks:=tk}) :
  wpAny (model prog w) A.in1 (Builtin.List.listExtendWith (.ref L) (.ref S) res)
   (λfin s'=>match fin with|.done f=>R (.ok f) s'|.again c'=>c'.quiet=true/\codeAny (model prog w) A c' R s') (λe s'=>R (.error e) s') s:=by
 obtain⟨o,H,Z,h3⟩:=id K.obj;have X:s.TypeIs (.ref S) "set":=⟨o,H,Z⟩
 unfold Builtin.List.listExtendWith;refine Yb<|VS X ?_;have g1:Builtin.List.listSameRef (.ref L) (.ref S)=false:=by simp[Builtin.List.listSameRef,c]
 have g2:(Value.type "set" == Value.type "list")=false:=by decide
 have g3:(Value.type "set" == Value.type "tuple")=false:=by decide
 simp[g1,g2,g3,XH,ZR,Vp];refine Yb<|Cf K ?_;have j:=Ys H;have l:=Ys E;have J:SObj w (s.heap.push {cls:=.type "set_iterator",data:=.fields #[.int 0 0,.int 0 0,.ref S,.int es.size 0,.int ep 0]}) S es ep t:=K.at λo e=>Yf _ e
 have p:(s.heap.push {cls:=.type "set_iterator",data:=.fields #[.int 0 0,.int 0 0,.ref S,.int es.size 0,.int ep 0]}).get? L=some {cls:=.type "list",data:=.seq #[] c₀}:=Yf _ E;have y:Dj (s.heap.push {cls:=.type "set_iterator",data:=.fields #[.int 0 0,.int 0 0,.ref S,.int es.size 0,.int ep 0]}) s.heap.objs.size S 0 0 es.size ep:=⟨_,Yq _ rfl,rfl,rfl⟩
 have U:∀b o,s.heap.get? b=some o->(s.heap.push {cls:=.type "set_iterator",data:=.fields #[.int 0 0,.int 0 0,.ref S,.int es.size 0,.int ep 0]}).get? b=some o:=λb o e=>Yf _ e
 generalize s.heap.push {cls:=.type "set_iterator",data:=.fields #[.int 0 0,.int 0 0,.ref S,.int es.size 0,.int ep 0]}=h at *;refine Yb<|ZE<|BS J ?_;refine Vd (λ_=>?_) λz=>absurd (by decide+kernel) z;refine Yb<|wpAny_rule<|Yb ?_;show wpAny _ _ (updateSeq L (·.push .none)>>=λ_=>updateSeq L (·.pop)) _ _ _;refine Yb<|XE p rfl ?_;have m:=Zd (Obj.mapSeq (·.push Value.none)) p rfl;refine XE (hz:=by seq_fits) m rfl ?_;have x:=Zd (Obj.mapSeq (·.pop)) m rfl;have oth:∀b,b≠L->((h.update L<|Obj.mapSeq (·.push Value.none)).update L<|Obj.mapSeq (·.pop)).get? b=h.get? b:=λb g=>by
  rw[YV _ _ _ _ g,YV _ _ _ _ g]
 have q:s.heap.objs.size≠L:=ZH l;refine Yh ⟨Xl PySem.F.plain_extend_loop _,?_⟩;have W:=(Bg (prog:=prog) (w:=w) (A:=A.in1) (S:=S) (I:=s.heap.objs.size) (es:=es) (ep:=ep) (t:=t) (by simpa using T) (Yz j) C).toS;refine codeAny_extend_loopS W C L (by simp[XS q,c]) res es.size 0 _ #[] _ (Nat.sub_zero _) (YO _) ⟨⟨0,?_,λM=>?_⟩,J.at λo e=>(oth S (XS c)).trans e⟩ x (ItemsOf.nil _) λs' a c' B u i=>?_
 ·obtain⟨Q,P,O,N⟩:=y;exact⟨Q,(oth _ q).trans P,O,N⟩
 ·obtain⟨b1,b2,b3⟩:=fK (K.rise M) 0;rcases Nat.eq_zero_or_pos (below t.place 0)with z|z
  ·exact z
  ·exact absurd (b2 0 (by omega) z) (VA _)
 ·rw[Moved.eq_with B];refine Y s'.heap s'.toks a c' (λb o g e=>B.heap b o (λz=>?_) ((oth b g).trans (U b o e))) u ?_
  ·rcases Yw.mp z with z|z
   ·exact g z
   ·have:b=s.heap.objs.size:=by simpa using z
    exact absurd (Ys e) (by rw[this];exact YX _)
  ·exact zz i
theorem uQ(j:A.handled=none)(K:SObj w s.heap S es ep t)(l:es.size<=sizeLine){Q:Kl}
  (q:∀h' tk,(∀b o,s.heap.get? b=some o->h'.get? b=some o)->Q ((gX w S ep es).toList.map (·.2)) {s with heap:=h',toks:=tk}):wpAny (model prog w) A (collect<|.ref S) Q E s:=by
 obtain⟨o,u,y,x⟩:=id K.obj;have f:=Ys u;unfold collect;refine Yb<|wpAny_runValue<|Zn entry_proto_collect' ?_;refine Yb<|Ud<|Yh ⟨Va _<|by decide+kernel,Zn entry_list_iadd' ?_⟩;rw[Zs (show plainId "list.__iadd__"=true by decide+kernel) ⟨[.ref s.heap.objs.size,.ref S],[]⟩];refine xp (R:=λr i=>match r with
  |Except.ok (Flow.ret v)=>wpAny _ A (match v with
   |Value.ref a=>(load a>>=λo=>match o.data with
    |Data.seq xs _=>pure xs.toList
    |_=>unsupported "internal:collect")
   |_=>unsupported "internal:collect") Q E i
  |Except.ok _=>False
  |Except.error e=>E e i) ?_ (K.at λo e=>Yf _ e) l (ZH f) (Yq _ rfl) λh' tk c z p g h=>?_
 ·simpa using j
 ·refine Yb<|wpAny_load g ?_;show wpAny _ _ (pure c.toList) _ _ _;rw[h];exact Yh<|q h' tk λb o e=>p b o (Yz<|Ys e)<|Yf _ e
end
def SetHas.fresh(b:h.get? a=some (ij w)):SetHas Pv w h a (ds.take 0):=by
 refine⟨[],⟨#[],.fresh 0 0 _,⟨⟨_,0,b,⟨rfl,rfl,rfl⟩,rfl⟩,⟨⟨λi j g=>absurd g<|VA _⟩,rfl,λj f=>?_,by show 7%2=1;decide,by first|exact G4|(exact G4),YO _,λi j e=>?_⟩,rfl,rfl,λi e d c=>?_,λi e d c=>?_⟩,.inl ⟨rfl,YO _⟩,λz=>?_⟩,XA _⟩
 ·cases f;rename_i q;cases q
 ·cases e
 ·cases c
 ·cases c
 ·show(!w.params.followText "set-order")=true;rw[z];rfl
theorem qf{l}(J:A.handled=none)(C:s.heap.IsList l items)(hi:∀(i:Nat) v,items[i]?=some v->∃d,ds[i]?=some d/\KeyAt s.heap v d/\Pv v d)(c:ds.length=items.size)(K:items.size<70)(hu:A.units+80<cLine)
  (q:∀h' tk,SetHas Pv w h' s.heap.objs.size ds->(∀b o,s.heap.get? b=some o->h'.get? b=some o)->Q (.ref s.heap.objs.size) {s with heap:=h',toks:=tk}):wpAny (model prog w) A (call (.type "set") [.ref l]) Q E s:=by
 refine kQ C (λR M=>?_) q;obtain⟨ol,x,_⟩:=id C;have f:=Ys x;have a:(s.heap.push<|ij w).objs.size=s.heap.objs.size+1:=Xj ..;have y:l≠(s.heap.push<|ij w).objs.size:=by rw[a];exact Yz<|Zv f
 have h:∀b o,s.heap.get? b=some o->b∉s.heap.objs.size::[(s.heap.push<|ij w).objs.size]:=λb o e=>by
  have:=Ys e;rw[a];simp[Yw,YC,Xx,Uu,not_or];exact⟨Yz this,Yz<|Zv this⟩
 have B:((s.heap.push<|ij w).push<|AG l).IsList l items:=(C.push _).push _;have u:A.in1.in1.in1.handled=none:=by simpa using J
 refine B4 ((Walks.list u _ l y items).toS) s.heap.objs.size (by rw[a];simp;exact ZH f) s.heap h (λi H I b g o Y k e z=>?_) ds c K hi (by show A.units+1+1+70<cLine;omega) (items.size-0) 0 _ (by omega) (YO _)
  ⟨⟨_,Yq _ rfl,rfl,rfl⟩,B⟩ (λb o e=>Yf _<|Yf _ e) (SetHas.fresh<|Yf _<|Yq _ rfl) λH j L=>?_
 ·rw[YC]at g;subst g;obtain⟨⟨o',U,e2,T⟩,_⟩:=I;rw[U]at e;cases e;rw[T]at z;cases z
 ·obtain⟨h',N,X,m,p⟩:=H;have P:=j.gens;have S:=j.drawn;have O:=j.os;subst P S O;exact M h' m L λb o e=>j.heap b o (h b o e)<|Yf _<|Yf _ e
def E8 t(es:Ka)h x:(layNew t es h x).2.1.led=t.led:=by
 unfold layNew;split
 ·show(SetTable.orStandIn _ _).led=t.led;unfold SetTable.orStandIn;split<;>rfl
 ·rfl
def sQ{t t':SetTable}{hs}(h:t.relaid hs n=some (t',order)):t'.led=t.led/\Rising t'.place/\t'.dummies=#[]:=by
 obtain⟨ow,q,h⟩:=YE.mp h;cases h;refine⟨rfl,?_,rfl⟩;show Rising ((cG ow _).map (·.1)).toArray;have z:=k_ ow<|sizeAbove n-1;generalize cG ow _=L at z;refine⟨λi j e c a=>?_⟩;have b:=Vl.mp z i j (by simpa using e) (by simpa using c) a;simpa using b
def hV n:Rising (Array.range n):=⟨λi j b a h=>by simpa using h⟩
def zW t(es:Ka)n:(relayAll t es n).2.1.led=t.led/\Rising (relayAll t es n).2.1.place/\(relayAll t es n).2.1.dummies=#[]:=by
 unfold relayAll;split
 ·rename_i c o h;obtain⟨a,b⟩:=sQ h;dsimp only;split
  ·exact⟨a,b⟩
  ·exact⟨rfl,hV _,rfl⟩
 ·exact⟨rfl,hV _,rfl⟩
def uV{t:SetTable}(hd:t.dummies=#[])j:has t.dummies j=false:=by rw[hd];rfl
def wa{h}(hd:t.dummies=#[]):∀f p j d,p.dummy=none->probe.go t hashAt h f p=some (.empty j d)->t.slot j=.empty/\d=none:=by
 intro f;induction f with
 |zero=>intro p j d _ e;cases e
 |succ f ih=>
  intro p j d b e;have c:(t.advance p).dummy=none:=by
   unfold advance;split
   ·exact b
   ·exact b
  unfold probe.go at e;split at e
  ·rename_i a;cases e;exact⟨a,b⟩
  ·rename_i a;exfalso;unfold slot at a;dsimp only at a;split at a
   ·cases a
   ·rw[uV hd]at a;cases a
  ·split at e
   ·cases e
   ·exact ih _ _ _ c e
def zZ{t:SetTable}(r:Rising t.place)(h:t.slot j=.empty):j∉t.place:=λm=>by
 obtain⟨i,a⟩:=Array.getElem?_of_mem m;rw[lA r a]at h;cases h
def Cr(r:Rising t.place)(hd:t.dummies=#[])(es:Ka)h x:Rising (layNew t es h x).2.1.place/\(layNew t es h x).2.1.dummies=#[]:=by
 unfold layNew;split
 ·rename_i s w a;have c:s∉t.place:=by
   unfold freeSlot at a;split at a
   ·rename_i j d b;cases a;obtain⟨f,e⟩:=wa hd _ _ _ _ rfl b;subst e;exact zZ r f
   ·cases a
  dsimp only;unfold SetTable.orStandIn;split
  ·refine⟨pR r c,?_⟩;show(if has t.dummies s=true then _ else t.dummies)=#[];rwa[uV hd]
  ·exact⟨hV _,rfl⟩
 ·exact⟨hV _,rfl⟩
def enV:Value->D
 |.str x _=>.str x
 |.int i _=>.int i
 |_=>.non
def enD(e:Int×Value):D:=enV e.2
structure TxAt {prog:Program}{w:World}{K:Type} [DecidableEq K] (knd:PySem.KeyKind prog w K) (h:Heap) (a:Addr) (es:Array (Int×Value)) (ep:Nat) (t:SetTable):Prop where
 obj:∃o,h.get? a=some o/\o.ExactSet/\o.data=.set es ep t
 fits:t.fits es.size=true
 led:w.params.followText "set-order"=false->t.led=true
 rise:Rising t.place
 nod:t.dummies=#[]
 its:∀e∈es.toList,∃k,knd.is k e.2=true/\e.1=knd.hash k
 small:es.size<=1000
structure Sca {prog:Program}{w:World}{K:Type} [DecidableEq K] (knd:PySem.KeyKind prog w K) (f:K->D):Prop where
 inj:∀a b,f a=f b->a=b
 en:∀k v,knd.is k v=true->enV v=f k
 sc:∀k v,knd.is k v=true->v.scannable=true
def TxHas{K}[DecidableEq K](knd:PySem.KeyKind prog w K)(h:Heap)(a:Addr)(ds:List D):Prop:=∃e b t,TxAt knd h a e b t/\(e.toList.map enD).Perm (bh ds)
section
variable   {K:Type} [DecidableEq K] {knd:PySem.KeyKind prog w K}
def TxAt.at{es:Ka}(X:TxAt knd h a es ep t)(k:∀o,h.get? a=some o->h'.get? a=some o):TxAt knd h' a es ep t:=by obtain⟨o,e,c,b⟩:=X.obj;exact⟨⟨o,k o e,c,b⟩,X.fits,X.led,X.rise,X.nod,X.its,X.small⟩
def TxHas.move(S:TxHas knd h a ds)(k:∀o,h.get? a=some o->h'.get? a=some o):TxHas knd h' a ds:=by obtain⟨e,b,t,X,p⟩:=S;exact⟨e,b,t,X.at k,p⟩
def TxAt.elems{es:Ka}{f}(X:TxAt knd h a es ep t)(C:Sca knd f):ElemsOf knd es.toList:=by intro e c;obtain⟨x,b,g⟩:=X.its e c;exact⟨⟨x,b,g⟩,C.sc _ _ b⟩
end
def vW{o}{es:Ka}(k1:h.get? a=some o)(b:o.data=.set es ep t)(e:Ka)t':(h.update a (Obj.putSet e t')).get? a=some {o with data:=.set e (ep+1) t' }:=by have z:=Zd (Obj.putSet e t') k1 (by rw[putSet_of e t' b];rfl);rwa[putSet_of e t' b]at z
section
variable      {K:Type} [DecidableEq K] {knd:PySem.KeyKind prog w K}{f:K->D}
theorem Jq(C:Sca knd f){x}(i:knd.is x v=true)(S:TxHas knd s.heap a ds)(hn:ds.length<1000){Q:Kb}
  (q:∀b h' tk,s.toks<=tk->TxHas knd h' a (ds++[f x])->(∀c,c≠a->h'.get? c=s.heap.get? c)->Q b {s with heap:=h',toks:=tk}) :
  wpAny (model prog w) A (setAdd a v) Q E s:=by
 obtain⟨l,ep,t,X,p⟩:=S;obtain⟨o,k1,k2,k3⟩:=X.obj;have hsz:l.size<1000:=by have z:=p.length_eq;rw[Yc,YM]at z;have:=gU ds;omega
 have Z:=X.elems C;have U:=C.sc _ _ i;unfold setAdd;refine ZE<|Yb<|knd.pyHash i ?_;unfold setAddHashed setAddHashedIn;refine ZE<|Yb<|VL k1 k3 X.fits ?_;dsimp only;have hbs:=byScan_of U (by unfold scanBound;omega) Z;rw[hbs,Yj rfl];unfold setAddByScan;refine Yb<|Yb<|wpAny_rule<|Yb<|wpAny_setScan_of i k1 k3 X.fits Z ?_;cases hr:List.findIdx? _ l.toList with
 |some j=>
  dsimp only;obtain⟨hj,hpj,_⟩:=List.findIdx?_eq_some_iff_getElem.mp hr;have hm:f x∈bh ds:=by refine p.mem_iff.mp<|Ym.mpr ⟨l.toList[j],Xw hj,?_⟩;exact C.en _ _ hpj
  refine Yh<|Yh<|q false s.heap _ (ZI _) ⟨l,ep,t,X,?_⟩ λc _=>rfl;rwa[gW,Yj hm]
 |none=>
  dsimp only;have hm:f x∉bh ds:=λz=>by
   obtain⟨e,J,hx⟩:=Ym.mp<|p.mem_iff.mpr z;obtain⟨y,e1,e2⟩:=X.its e J;have hy:=C.inj _ _<|(C.en _ _ e1).symm.trans hx;subst hy;have z:=List.findIdx?_eq_none_iff.mp hr _ J;rw[e1]at z;cases z
  have gw:∀b s1 Q1,Q1 () s1->wpAny (model prog w) A (match b with|true=>rule "set.scan.the-table-gave-way" |false=>pure ()) Q1 E s1:=by
   intro b s1 Q1 z;cases b
   ·exact Yh z
   ·exact wpAny_rule z
  have M:=layNew_perm t l (knd.hash x) v;have c2:=layNew_fits t l (knd.hash x) v;have c3:=E8 t l (knd.hash x) v;have B:=Cr X.rise X.nod l (knd.hash x) v;have hL:∃L,layNew t l (knd.hash x) v=L:=⟨_,rfl⟩
  obtain⟨⟨g,N,wd,gv⟩,hL⟩:=hL;rw[hL]at M c2 c3 B;rw[hL];dsimp only at M c2 c3 B ⊢;rw[Array.toList_push]at M;have O:g.size=l.size+1:=by rw[<-YM,M.length_eq,Yp,YM];rfl
  refine Yb<|gw _ _ _ ?_;have Y:w.params.followText "set-order"=false->N.led=true:=λz=>c3.trans<|X.led z
  have i1:∀e∈g.toList,∃k,knd.is k e.2=true/\e.1=knd.hash k:=λe J=>by
   rcases Zm.mp (M.mem_iff.mp J)with z|z
   ·exact X.its e z
   ·obtain rfl:=YC.mp z;exact⟨x,i,rfl⟩
  have d1:(g.toList.map enD).Perm (bh<|ds++[f x]):=by rw[gW,Yl hm];refine(M.map enD).trans ?_;rw[Za,<-C.en _ _ i];exact p.append<|XA _
  have m:∀h:SetTable,h.fits g.size=true->Rising h.place->h.dummies=#[]->h.led=N.led->wpAny (model prog w) A (do
    storeSet a g h
    if(!wd&&h.tooFull)=true then do
      (match(relayAll h g<|SetTable.grown g.size).2.2 with|true=>rule "set.scan.the-table-gave-way" |false=>pure ())
      storeSet a (relayAll h g<|SetTable.grown g.size).1 (relayAll h g<|SetTable.grown g.size).2.1
      pure<|some true
     else pure<|some true) (λr s'=>wpAny (model prog w) A (match r with|some I=>pure I|none=>setAddHashedIn a v (knd.hash x) 99999) Q E s') E {s with toks:=s.toks+1}:=by
   intro h f2 ri2 nd2 T;refine Yb<|VM (s:={s with toks:=s.toks+1}) k1 k3 ?_ (by rw[O];show l.size+1<=2^24;omega);have g1:=vW k1 k3 g h;have u:∀c,c≠a->(s.heap.update a<|Obj.putSet g h).get? c=s.heap.get? c:=λc hc=>YV _ _ _ _ hc
   split
   ·have R:=relayAll_perm h g<|SetTable.grown g.size;have r2:=relayAll_fits h g<|SetTable.grown g.size;have P:=zW h g<|SetTable.grown g.size;generalize relayAll h g (SetTable.grown g.size)=Rl at R r2 P ⊢;obtain⟨H,t3,gv2⟩:=Rl;dsimp only at R r2 P ⊢;have sz2:H.size=g.size:=by rw[<-YM,R.length_eq,YM]
    refine Yb<|gw _ _ _ ?_;refine Yb<|VM (s:={s with heap:=s.heap.update a<|Obj.putSet g h,toks:=s.toks+1}) g1 rfl ?_ (by rw[sz2,O];show l.size+1<=2^24;omega);have g2:=vW g1 rfl H t3;refine Yh<|Yh<|q true _ (s.toks+1) (ZI _) ⟨H,_,t3,⟨⟨_,g2,k2,rfl⟩,r2,λz=>P.1.trans<|T.trans<|Y z,P.2.1,P.2.2,λe J=>i1 e<|R.mem_iff.mp J,by omega⟩,(R.map enD).trans d1⟩ λc hc=>?_;exact(YV _ _ _ _ hc).trans<|u c hc
   ·exact Yh<|Yh<|q true _ (s.toks+1) (ZI _) ⟨g,_,h,⟨⟨_,g1,k2,rfl⟩,f2,λz=>T.trans<|Y z,ri2,nd2,i1,by omega⟩,d1⟩ u
  split
  ·refine Yb ?_;rw[Xz 8 U];refine Yh ?_;cases plainKind v with
   |true=>exact m N c2 B.1 B.2 rfl
   |false=>exact m {N with plain:=false} (SetTable.fits_plain_off c2) B.1 B.2 rfl
  ·refine Yb<|Yh ?_;rw[Yj rfl];exact m N c2 B.1 B.2 rfl
end
def GB:Sca (PySem.strKind prog w) D.str where
 inj:=λa b h=>by cases h;rfl
 en:=λk v h=>by
  have c:Value.isStrOf k v=true:=h;cases v<;>simp[Value.isStrOf]at c;rw[c];rfl
 sc:=λk v h=>by
  have c:Value.isStrOf k v=true:=h;cases v<;>simp[Value.isStrOf]at c;rfl
def EF:Sca (PySem.intKind prog w) D.int where
 inj:=λa b h=>by cases h;rfl
 en:=λk v h=>by
  obtain⟨t,rfl⟩:=VG<|show Value.isInt k v=true from h;rfl
 sc:=λk v h=>by
  obtain⟨t,rfl⟩:=VG<|show Value.isInt k v=true from h;rfl
section
variable    {R:Kr}   {G:Array GenState->Array GenState->Prop}{n:Nat}{P:Nat->Value->Prop}{St:Nat->Shared->Prop}{K:Type} [DecidableEq K] {knd:PySem.KeyKind prog w K}{f:K->D}
theorem Fg(C:Sca knd f)(W:WalksS prog w A.in1 I fp wr G n P St)S(z:S∉fp)ds(O:ds.length=n)(M:n<1000)(g:∀i v,P i v->∃x,knd.is x v=true/\ds[i]?=some (f x)) :
  ∀k i s,n-i=k->i<=n->St i s->TxHas knd s.heap S (ds.take i)->
   (∀s',Moved (S::wr) G s s'->TxHas knd s'.heap S ds->R (.ok<|.ret .none) s')->
   codeAny (model prog w) A (.builtin "set.update.loop" ⟨[.ref S,.ref I],[]⟩) R s:=by
 have y:=λh=>z<|W.sub _ h
 have a:∀b∈wr,b∈S::wr:=λb u=>Yd _ u
 intro k;induction k with
 |zero=>
  intro i s Q T c H L;have K:i=n:=by omega
  subst K;refine Zn PyProof.Rows.F.entry_set_update_loop ?_;rw[Zs PyProof.Rows.F.plain_set_update_loop _];refine Yb<|W.done s _ _ c λs' p=>?_;refine Yh<|L s' (p.mono a)<|TxHas.move ?_ λo e=>p.heap S o y e;rwa[<-O,ZV]at H
 |succ k ih=>
  intro i s Q T c H L;have q:i<n:=by omega
  refine Zn PyProof.Rows.F.entry_set_update_loop ?_;rw[Zs PyProof.Rows.F.plain_set_update_loop _];refine Yb<|W.item i s _ _ q c λv s' X l p=>?_;obtain⟨x,N,U⟩:=g i v X;refine Yb<|ZE<|Jq C N (H.move λo e=>p.heap S o y e) (by rw[Zu];omega) λb h' Z j B off=>?_;have Y:ds.take i++[f x]=ds.take (i+1):=by rw[VI,U];rfl
  rw[Y]at B;refine Yh ⟨Xl PyProof.Rows.F.plain_set_update_loop _,ih (i+1) _ (by omega) q (W.frame _ s' _ _ l j λb u o e=>?_) B λJ m E=>?_⟩
  ·rwa[off b (λh:b=S=>z<|by rwa[<-h])]
  ·refine L J (Moved.trans W.gtrans ((p.mono a).then_heap j λb o u e=>?_) m) E;rwa[off b (λh:b=S=>u<|by rw[h];exact Ye)]
end
def TxHas.fresh{K}[DecidableEq K]{knd:PySem.KeyKind prog w K}(b:h.get? a=some (ij w)):TxHas knd h a (ds.take 0):=by refine⟨#[],0,.fresh 0 0 _,⟨⟨_,b,⟨rfl,rfl,rfl⟩,rfl⟩,rfl,λz=>?_,⟨λi j c=>absurd c<|VA _⟩,rfl,λe f=>(nomatch f),YO _⟩,XA _⟩;show(!w.params.followText "set-order")=true;rw[z];rfl
section
variable      {K:Type} [DecidableEq K] {knd:PySem.KeyKind prog w K}{f:K->D}
theorem nH(C:Sca knd f){l}{items}(J:A.handled=none)(H:s.heap.IsList l items)(hi:∀(i:Nat) v,items[i]?=some v->∃x,knd.is x v=true/\ds[i]?=some (f x))(c:ds.length=items.size)(K:items.size<1000)
  (q:∀h' tk,TxHas knd h' s.heap.objs.size ds->(∀b o,s.heap.get? b=some o->h'.get? b=some o)->Q (.ref s.heap.objs.size) {s with heap:=h',toks:=tk}):wpAny (model prog w) A (call (.type "set") [.ref l]) Q E s:=by
 refine kQ H (λR M=>?_) q;obtain⟨U,y,_⟩:=id H;have g:=Ys y;have h:(s.heap.push<|ij w).objs.size=s.heap.objs.size+1:=Xj ..;have z:l≠(s.heap.push<|ij w).objs.size:=by rw[h];exact Yz<|Zv g
 have a:∀b o,s.heap.get? b=some o->b∉s.heap.objs.size::[(s.heap.push<|ij w).objs.size]:=λb o e=>by
  have:=Ys e;rw[h];simp[Yw,YC,Xx,Uu,not_or];exact⟨Yz this,Yz<|Zv this⟩
 have B:((s.heap.push<|ij w).push<|AG l).IsList l items:=(H.push _).push _;have u:A.in1.in1.in1.handled=none:=by simpa using J
 refine Fg C ((Walks.list u _ l z items).toS) s.heap.objs.size (by rw[h];simp;exact ZH g) ds c K hi (items.size-0) 0 _ (by omega) (YO _)
  ⟨⟨_,Yq _ rfl,rfl,rfl⟩,B⟩ (TxHas.fresh<|Yf _<|Yq _ rfl) λI j L=>?_
 obtain⟨h',N,T,m,p⟩:=I;have P:=j.gens;have S:=j.drawn;have O:=j.os;subst P S O;exact M h' m L λb o e=>j.heap b o (a b o e)<|Yf _<|Yf _ e
end
structure DrAt (w:World) (h:Heap) (a:Addr) (es:Array (Int×Value)) (ep:Nat) (t:SetTable):Prop where
 obj:∃o,h.get? a=some o/\o.ExactSet/\o.data=.set es ep t
 fits:t.fits es.size=true
 plain:t.plain=false
 small:es.size<=1000
def DrAt.at{es:Ka}(K:DrAt w h a es ep t)(k:∀o,h.get? a=some o->h'.get? a=some o):DrAt w h' a es ep t:=by obtain⟨o,e,c,b⟩:=K.obj;exact⟨⟨o,k o e,c,b⟩,K.fits,K.plain,K.small⟩
def xQ(a:n≠0){Q}(h:∀i d,i<n->Q i {s with drawn:=d}):wpAny M A (choose src n) Q E s:=
 λc p b=>⟨a,h _ _<|Uf _<|Nat.pos_of_ne_zero a⟩
def Ef{c}:∀n xs s (Q:List c->Shared->Prop),xs.length=n->(∀ys d,ys.Perm xs->Q ys {s with drawn:=d})->wpAny M A (drawOrder n xs) Q E s:=by
 intro n;induction n with
 |zero=>
  intro xs s Q a h;obtain rfl:=Zo.mp a;exact Yh<|h [] s.drawn<|XA _
 |succ n ih=>
  intro xs s Q a h;cases xs with
  |nil=>cases a
  |cons x r=>
   unfold drawOrder;refine Yb<|xQ (by simp) λi d b=>?_;have f:=Yg b;rw[f];dsimp only;refine Yb<|ih _ _ _ (by rw[List.length_eraseIdx_of_lt b];simpa using a) λys g p=>?_;refine Yh<|h _ g ?_;refine(List.Perm.cons _ p).trans ?_;rw[VN];have e:=VU i (x::r);refine List.Perm.trans ?_<|List.Perm.of_eq e;rw[Xk b];exact List.perm_middle.symm
def Cp(h:Heap)(I S T:Addr)(ord:List Nat)(i n ep:Nat):Prop:=(∃o,h.get? I=some o/\o.cls=.type "set_iterator"/\o.data=.fields #[.ref T,.int i 0,.ref S,.int n 0,.int ep 0])/\∃o c,h.get? T=some o/\o.data=.seq (ord.map λ(j:Nat)=>rawInt j).toArray c
def lG(es:Ka)(ord:List Nat):List (Int×Value):=ord.filterMap λj=>es[j]?
theorem Bk{es}(p:ord.Perm (List.range es.size))(i:Nat):(lG es ord)[i]?=(ord[i]?).bind λj=>es[j]?:=by
 unfold lG;have:∀l:List Nat,(∀k∈l,k<es.size)->∀i:Nat,(l.filterMap λj=>es[j]?)[i]?=(l[i]?).bind λj=>es[j]?:=by
  intro l;induction l with
  |nil=>intro _ i;rfl
  |cons k l ih=>
   intro h i;have b:=h k Ye;have a:=Yy b;rw[Vx a];cases i with
   |zero=>simp[a]
   |succ i=>simpa using ih (λj c=>h j<|Yd _ c) i
 grind
def lE{es}(p:ord.Perm (List.range es.size)):(lG es ord).Perm es.toList:=by
 have z:=p.filterMap λj=>es[j]?
 rwa[filterMap_getElem?_range]at z
section
variable{T:Addr}{es:Ka}  {t:SetTable} 
def DrAt.state(K:DrAt w s.heap S es ep t){Q}(h:Q (es,ep,t) s):wpAny (model prog w) A (setState S) Q E s:=by obtain⟨o,b,c,a⟩:=K.obj;exact VL b a K.fits h
def DrAt.entries(K:DrAt w s.heap S es ep t){Q}(h:Q es s):wpAny (model prog w) A (setEntries S) Q E s:=by unfold setEntries;exact Yb<|K.state<|Yh h
def DrAt.epoch(K:DrAt w s.heap S es ep t){Q}(h:Q ep s):wpAny (model prog w) A (setEpoch S) Q E s:=by unfold setEpoch;exact Yb<|K.state<|Yh h
theorem xa(K:DrAt w s.heap S es ep t)(i:w.params.followText "set-order"=false)(h2:1<es.size) 
  (q:∀ord d h',ord.Perm (List.range es.size)->(∀b o,s.heap.get? b=some o->h'.get? b=some o)->Cp h' (s.heap.objs.size+1) S s.heap.objs.size ord 0 es.size ep->Q (.ref<|s.heap.objs.size+1) {s with heap:=h',drawn:=d}):wpAny (model prog w) A (pyIter<|.ref S) Q E s:=by
 obtain⟨o,l,⟨g,_,_⟩,u⟩:=id K.obj;have a:s.TypeIs (.ref S) "set":=⟨o,l,g⟩
 refine VO a PySem.F.slot_set_iter<|ZU PySem.F.slot_set_iter a j9 ?_<|PySem.F.args_set_iter_1 _;unfold Builtin.«frozenset.__iter__»;refine Yb<|Yb<|Yh<|Yh ?_;refine Yb<|Yb<|K.entries<|Yh ?_;refine Yb ?_;unfold setDrawn;refine Yb<|K.state ?_;refine Yb<|nF<|Yh ?_;have f:(!w.params.followText "set-order"&&(!t.plain&&decide (es.size > 1)))=true:=by rw[i,K.plain,YS h2];rfl
 show wpAny _ _ (if(!w.params.followText "set-order"&&(!t.plain&&decide _))=true then _ else _) _ _ s;rw[f,Yj rfl];refine Yb<|Ef es.size _ _ _ (Zj) λord d p=>?_;have c:ord.length=es.size:=by rw[p.length_eq,Zj]
 refine Yb<|wpAny_newTuple ?_ (by rw[Yc,c];have:=K.small;rw[YY];omega);refine Yb<|(K.at λo e=>Yf _ e).epoch ?_;refine Yb<|Xh<|Yh ⟨_,rfl,"set_iterator",_,⟨_,Yq _ rfl,rfl⟩,bu.lookup,?_⟩;have h:(s.heap.push {cls:=.type "tuple",data:=.seq (ord.map λ(j:Nat)=>rawInt j).toArray}).objs.size=s.heap.objs.size+1:=Xj ..;have z:=q ord d _ p (λb o e=>Yf _<|Yf _ e) ⟨⟨{cls:=.type "set_iterator",data:=.fields #[.ref s.heap.objs.size,.int 0 0,.ref S,.int es.size 0,.int ep 0]},by rw[<-h];exact Yq _ rfl,rfl,rfl⟩,⟨_,_,Yf _<|Yq _ rfl,rfl⟩⟩;rwa[<-h]at z
def Fd(m:Cp s.heap I S T ord i es.size ep)(K:DrAt w s.heap S es ep t)(p:ord.Perm (List.range es.size))(y:T≠I){e}(he:(lG es ord)[i]?=some e){Q:Ko}
  (q:∀h',Cp h' I S T ord (i+1) es.size ep->(∀b,b≠I->h'.get? b=s.heap.get? b)->Q (some e.2) {s with heap:=h' }) :
  wpAny (model prog w) A (pyNext<|.ref I) Q E s:=by
 obtain⟨⟨o,c,z,f⟩,C,L,h,a⟩:=id m;have B:s.TypeIs (.ref I) "set_iterator":=⟨o,c,z⟩
 rw[Bk p]at he;cases l:ord[i]? with
 |none=>rw[l]at he;cases he
 |some j=>
 rw[l]at he;have u:es[j]?=some e:=he;unfold pyNext;refine Yb<|wpAny_attempt<|XL B bu<|ZU bu B eT ?_<|fw _;unfold Builtin.«set_iterator.__next__»;refine Yb<|Yh ?_;refine Yb<|wpAny_fieldsOf c f ?_;refine Yb<|K.entries ?_;rw[Yl<|by simp];refine Yb<|XR h a ?_;have H:(ord.map λ(j:Nat)=>rawInt j).toArray[((i:Int)).toNat]?=some (rawInt j):=by rw[Zb];simp[l]
 show wpAny _ _ (match(ord.map λ(j:Nat)=>rawInt j).toArray[((i:Int)).toNat]? with|_=>_) _ _ s;rw[H];show wpAny _ _ (setNextDrawn S _ _>>=_) _ _ s;rw[Zb,Zb];unfold setNextDrawn;refine Yb<|Yb<|K.state ?_;dsimp only;rw[Yl<|by simp];rw[u];refine Yh ?_;refine Yb<|Vn c f (by simp) ?_;have g:=Zd (Obj.mapFields (·.setIfInBounds 1<|rawInt<|i+1)) c<|Vc<|Xc f _;have x:=Xc f (·.setIfInBounds 1<|rawInt<|i+1);refine Yh ⟨_,rfl,Yh<|q _ ⟨⟨_,g,?_,?_⟩,C,L,?_,a⟩ λb J=>?_⟩
 ·rwa[Obj.cls_mapFields]
 ·rw[x];simp[rawInt]
 ·rwa[YV _ _ _ _ y]
 ·rw[YV _ _ _ _ J]
theorem GC(z:A.handled=none)(l:Cp s.heap I S T ord i es.size ep)(K:DrAt w s.heap S es ep t)(hi:ord.length<=i){Q:Ko}
  (q:∀h',(∀b o,b≠I->s.heap.get? b=some o->h'.get? b=some o)->Q none {s with heap:=h' }):wpAny (model prog w) A (pyNext<|.ref I) Q E s:=by
 obtain⟨⟨o,h,C,c⟩,H,J,f,p⟩:=id l;have y:s.TypeIs (.ref I) "set_iterator":=⟨o,h,C⟩
 unfold pyNext;refine Yb<|wpAny_attempt<|XL y bu<|ZU bu y eT ?_<|fw _;unfold Builtin.«set_iterator.__next__»;refine Yb<|Yh ?_;refine Yb<|wpAny_fieldsOf h c ?_;refine Yb<|K.entries ?_;rw[Yl<|by simp];refine Yb<|XR f p ?_;have B:(ord.map λ(j:Nat)=>rawInt j).toArray[((i:Int)).toNat]?=none:=by rw[Zb];simp[hi]
 show wpAny _ _ (match(ord.map λ(j:Nat)=>rawInt j).toArray[((i:Int)).toNat]? with|_=>_) _ _ s;rw[B];refine Yb<|Vn h c (by simp) ?_;have g:=Zd (Obj.mapFields (·.setIfInBounds 0<|rawInt 0)) h<|Vc<|Xc c _;have u:=Xc c (·.setIfInBounds 0<|rawInt 0);refine Yb<|Vn g u (by simp) ?_;refine Yb ?_;simp[newExc,newTuple];refine Yb<|Xh (Yb<|wpAny_of_eq (by first|rfl|(simp[firstArgMember];rfl)) ?_) (by size_fits);refine Xh ?_ (by size_fits);simp only[raiseNew];refine Yb<|wpAny_handled ?_;rw[show A.in1.handled=none from z];refine Yb<|Yh<|wpAny_throw ?_;refine Yb<|Vr (b:=true) (T := "StopIteration") ⟨_,Yq _ rfl,rfl⟩ nZ ?_;refine Yh<|q _ λb o x e=>?_;refine Yf _<|Yf _ ?_;rw[YV _ _ _ _ x,YV _ _ _ _ x];exact e
theorem C9(J:A.handled=none)(p:ord.Perm (List.range es.size))(N:S≠I)(u:T≠I):Walks prog w A I [I,S,T] [I] es.size (λi v=>∃e,(lG es ord)[i]?=some e/\v=e.2)
  (λi h=>Cp h I S T ord i es.size ep/\DrAt w h S es ep t) where
 sub:=λb g=>by simp at g;simp[g]
 frame:=λi h m c a=>by
  obtain⟨⟨⟨o,y,x,H⟩,B,R,P,O⟩,K⟩:=c;exact⟨⟨⟨o,a I (by simp) o y,x,H⟩,B,R,a T (by simp) B P,O⟩,K.at λo e=>a S (by simp) o e⟩
 item:=λi s Q E M c l=>by
  obtain⟨f,K⟩:=c;have L:(lG es ord).length=es.size:=by rw[(lE p).length_eq,YM]
  have C:=Yg (by rwa[L]);refine Fd f K p u C λm j a=>?_;exact l _ m s.toks ⟨_,C,rfl⟩ ⟨j,K.at λo e=>(a S N).trans e⟩ λb o g e=>(a b λz=>g<|by simp[z]).trans e
 done:=λs Q E c l=>by
  obtain⟨f,K⟩:=c;refine GC J f K (by rw[p.length_eq,Zj];exact Yr _) λm a=>?_;exact l m s.toks λb o g e=>a b o (λz=>g<|by simp[z]) e
 self:=λi s Q E c l=>by
  obtain⟨⟨⟨o,y,x,H⟩,_⟩,K⟩:=c;have q:s.TypeIs (.ref I) "set_iterator":=⟨o,y,x⟩
  refine VO q fq<|ZU fq q jw ?_<|kA _;exact Yh ⟨_,rfl,"set_iterator",_,q,bu.lookup,l⟩
end
section
variable{T:Addr}{es:Ka}  {t:SetTable}
theorem vE{acc}(p:ord.Perm (List.range es.size))(h:ItemsOf (λi v=>∃e,(lG es ord)[i]?=some e/\v=e.2) acc es.size):acc.toList=(lG es ord).map (·.2):=by
 obtain⟨g,c⟩:=h;have f:(lG es ord).length=es.size:=by rw[(lE p).length_eq,YM]
 apply ZY;grind
def EZ(K:DrAt w s.heap S es ep t){Q:Kb}(h:Q false s):wpAny (model prog w) A (Builtin.List.listLengthHint (.ref S)) Q E s:=by
 obtain⟨o,f,⟨e,_,_⟩,g⟩:=id K.obj;have c:s.TypeIs (.ref S) "set":=⟨o,f,e⟩
 unfold Builtin.List.listLengthHint;refine Yb<|XD c PySem.F.slot_set_len.lookup ?_;generalize a:("set.__len__")=i
 wp_delta
 rw[show splitId i=some ("set","__len__")from by subst a;decide+kernel];subst a;refine Yb<|Vr (T := "set") c sub_set_self ?_;refine Vd (λz=>absurd z<|by decide) λ_=>?_;refine Vd (λ_=>?_) λz=>absurd (by decide+kernel) z;refine Yb<|VS c ?_;exact Yh h
theorem sr{R:Kr}(nh:A.handled=none)(K:DrAt w s.heap S es ep t)(g:w.params.followText "set-order"=false)(h2:1<es.size)(i:L≠S)(M:s.heap.get? L=some {cls:=.type "list",data:=.seq #[] c₀})
  (hR:∀ord h' d tk a c',ord.Perm (List.range es.size)->(∀b o,b≠L->s.heap.get? b=some o->h'.get? b=some o)->h'.get? L=some {cls:=.type "list",dict:=none,data:=.seq a c',slots:=#[]}->a.toList=(lG es ord).map (·.2)->R (.ok<|.ret res) {s with heap:=h',drawn:=d,toks:=tk}) :
  wpAny (model prog w) A.in1 (Builtin.List.listExtendWith (.ref L) (.ref S) res)
   (λfin s'=>match fin with|.done f=>R (.ok f) s'|.again c'=>c'.quiet=true/\codeAny (model prog w) A c' R s') (λe s'=>R (.error e) s') s:=by
 obtain⟨o,N,⟨hc,_,_⟩,h3⟩:=id K.obj;have hT:s.TypeIs (.ref S) "set":=⟨o,N,hc⟩
 have hl:es.size<=sizeLine:=by have:=K.small;rw[YY];omega
 unfold Builtin.List.listExtendWith;refine Yb<|VS hT ?_;have g1:Builtin.List.listSameRef (.ref L) (.ref S)=false:=by simp[Builtin.List.listSameRef,i]
 have g2:(Value.type "set" == Value.type "list")=false:=by decide
 have g3:(Value.type "set" == Value.type "tuple")=false:=by decide
 simp only[g1,g2,g3,XH,ZR,Vp];refine Yb<|xa K g h2 λord d h p B C=>?_;have q:S<s.heap.objs.size:=Ys N;have c:L<s.heap.objs.size:=Ys M;have O:DrAt w h S es ep t:=K.at λo e=>B S o e
 have x:h.get? L=some {cls:=.type "list",data:=.seq #[] c₀}:=B L _ M;refine Yb<|ZE<|EZ (s:={s with heap:=h,drawn:=d}) O ?_;refine Vd (λ_=>?_) λz=>absurd (by decide+kernel) z;refine Yb<|wpAny_rule<|Yb ?_;show wpAny _ _ (updateSeq L (·.push .none)>>=λ_=>updateSeq L (·.pop)) _ _ _;refine Yb<|XE x rfl ?_;have u:=Zd (Obj.mapSeq (·.push Value.none)) x rfl;refine XE (hz:=by seq_fits) u rfl ?_;have H:=Zd (Obj.mapSeq (·.pop)) u rfl;have oth:∀b,b≠L->((h.update L<|Obj.mapSeq (·.push Value.none)).update L<|Obj.mapSeq (·.pop)).get? b=h.get? b:=λb g=>by
  rw[YV _ _ _ _ g,YV _ _ _ _ g]
 have y:s.heap.objs.size+1≠L:=ZH (Zv c);have m:s.heap.objs.size≠L:=ZH c;refine Yh ⟨Xl PySem.F.plain_extend_loop _,?_⟩;have W:=(C9 (prog:=prog) (w:=w) (A:=A.in1) (S:=S) (I:=s.heap.objs.size+1) (T:=s.heap.objs.size) (es:=es) (ep:=ep) (t:=t) (ord:=ord) (by simpa using nh) p (Yz (Zv q)) (Yz (ZK _))).toS;refine codeAny_extend_loopS W hl L (by simp[XS y,XS m,i]) res es.size 0 _ #[] _ (Nat.sub_zero _) (YO _) ⟨?_,O.at λo e=>(oth S (XS i)).trans e⟩ H (ItemsOf.nil _) λs' a c' J E l=>?_
 ·obtain⟨⟨o',Z,Y,X⟩,oT,cT,U,Q⟩:=C;exact⟨⟨o',(oth _ y).trans Z,Y,X⟩,oT,cT,(oth _ m).trans U,Q⟩
 ·rw[Moved.eq_with J];refine hR ord s'.heap d s'.toks a c' p (λb o g e=>J.heap b o (λz=>?_) ((oth b g).trans (B b o e))) E (vE p l);rcases Yw.mp z with z|z
  ·exact g z
  ·have P:b=s.heap.objs.size+1:=by simpa using z
   have j:=Ys e;rw[P]at j;exact absurd (ZQ (ZK _) j) (YX _)
def qp(j:A.handled=none)(K:DrAt w s.heap S es ep t)(u:w.params.followText "set-order"=false)(h2:1<es.size){Q:Kl}
  (q:∀ord h' d tk,ord.Perm (List.range es.size)->(∀b o,s.heap.get? b=some o->h'.get? b=some o)->Q ((lG es ord).map (·.2)) {s with heap:=h',drawn:=d,toks:=tk}):wpAny (model prog w) A (collect<|.ref S) Q E s:=by
 obtain⟨o,x,_,y⟩:=id K.obj;have f:=Ys x;unfold collect;refine Yb<|wpAny_runValue<|Zn entry_proto_collect' ?_;refine Yb<|Ud<|Yh ⟨Va _<|by decide+kernel,Zn entry_list_iadd' ?_⟩;rw[Zs (show plainId "list.__iadd__"=true by decide+kernel) ⟨[.ref s.heap.objs.size,.ref S],[]⟩];refine sr (R:=λr i=>match r with
  |Except.ok (Flow.ret v)=>wpAny _ A (match v with
   |Value.ref a=>(load a>>=λo=>match o.data with
    |Data.seq xs _=>pure xs.toList
    |_=>unsupported "internal:collect")
   |_=>unsupported "internal:collect") Q E i
  |Except.ok _=>False
  |Except.error e=>E e i) ?_ (K.at λo e=>Yf _ e) u h2 (ZH f) (Yq _ rfl) λord h' d tk c z p l g h=>?_
 ·simpa using j
 ·refine Yb<|wpAny_load g ?_;show wpAny _ _ (pure c.toList) _ _ _;rw[h];exact Yh<|q ord h' d tk p λb o e=>l b o (Yz<|Ys e)<|Yf _ e
end
def Inv.keptD{σ}{d'}(I:Inv X pz σ H s)(k:∀b u,s.heap.get? b=some u->h'.get? b=some u):Inv X pz σ H {s with heap:=h',drawn:=d',toks:=t' }:=by refine I.step (ch:=[]) (λ_ z=>nomatch z) (λb o _ _ _ e _=>k b o e) (λb o _ _ _ e _=>⟨o.slots,k b o e⟩) (λ_ _ _ _ n=>n) (λb o _ e=>⟨o,k b o e⟩) (λ_ _ _ e=>e) (λm a=>?_) (I.hok.kept k) I.bare;have⟨o,c,f,h,r⟩:=a;exact⟨o,c,f,k _ o h,r⟩
theorem u7{es:Ka}(j:∃o,h.get? a=some o/\o.ExactSet/\o.data=.set es ep t)(fits:t.fits es.size=true)(b:Rising t.place)(led:w.params.followText "set-order"=false->t.led=true)(sm:es.size<=1000) :
  SObj w h a es ep t\/(DrAt w h a es ep t/\w.params.followText "set-order"=false/\1<es.size):=by
 have⟨o,g,f,e⟩:=j;have c:=fits;simp[SetTable.fits,Yu,Vu,YG]at c;by_cases z:w.params.followText "set-order"=false/\1<es.size/\t.plain=false
 ·exact .inr ⟨⟨⟨o,g,f,e⟩,fits,z.2.2,sm⟩,z.1,z.2.1⟩
 ·refine .inl ⟨⟨o,g,f.1,e⟩,fits,c.1,λ_=>b,led,λy=>?_⟩;grind
end L2
namespace L2
open PySem PySem.Spec PyProof.Rows PySem.W PySem.SetTable
def wY(w:World)(a:Addr)(vs:List V):Heap->Prop:=λh=>∃e b t,(SObj w h a e b t\/(DrAt w h a e b t/\w.params.followText "set-order"=false/\1<e.size))/\e.size<=76/\Vals vs (e.toList.map (·.2))
def di(ds:List D):Bool:=decide (ds.length<70)&&ds.all o9
def pV(h:di ds=true):ds.length<70/\∀d∈ds,o9 d=true:=by unfold di at h;rw[Yu,YG]at h;exact⟨h.1,λd m=>Yi.mp h.2 d m⟩
def L9:D->Bool
 |.str _=>true
 |_=>false
def LL:D->Bool
 |.int _=>true
 |_=>false
def c9(ds:List D):Bool:=decide (ds.length<70)&&ds.all L9
def pO(h:c9 ds=true):ds.length<70/\∀d∈ds,∃x,d=.str x:=by
 unfold c9 at h;rw[Yu,YG]at h;refine⟨h.1,λd m=>?_⟩;have z:=Yi.mp h.2 d m;cases d with
 |str x=>exact⟨x,rfl⟩
 |_=>cases z
def fE(ds:List D):Bool:=decide (ds.length<70)&&ds.all LL
def qo(h:fE ds=true):ds.length<70/\∀d∈ds,∃x,d=.int x:=by
 unfold fE at h;rw[Yu,YG]at h;refine⟨h.1,λd m=>?_⟩;have z:=Yi.mp h.2 d m;cases d with
 |int x=>exact⟨x,rfl⟩
 |_=>cases z
def qu:∀us ds,us.length=ds.length->(∀(i:Nat) u d,us[i]?=some u->ds[i]?=some d->∃x,RelV x u/\Rep K H x d)->∃vs,Vals vs us/\Reps K H vs ds:=by
 intro us;induction us with
 |nil=>
  intro ds a _;obtain rfl:ds=[]:=Zo.mp a.symm;exact⟨[],.nil,.nil⟩
 |cons u us ih=>
  intro ds a h;cases ds with
  |nil=>cases a
  |cons d ds=>
   obtain⟨x,g,f⟩:=h 0 u d rfl rfl;obtain⟨vs,e,c⟩:=ih ds (VT a) λi b m l j=>h (i+1) b m l j
   exact⟨x::vs,.cons g e,.cons f c⟩
def AX{u}(p:us.Perm u):∀{vs}{ds},Vals vs u->Reps K H vs ds->∃a b,Vals a us/\Reps K H a b/\b.Perm ds:=by
 induction p with
 |nil=>
  intro vs ds e c;exact⟨vs,ds,e,c,XA _⟩
 |cons x _ ih=>
  intro vs ds e c;cases e with
  |cons o f=>
   cases c with
   |cons b1 b2=>
    obtain⟨a,b,j,i,h⟩:=ih f b2;exact⟨_,_,.cons o j,.cons b1 i,h.cons _⟩
 |swap x y l=>
  intro vs ds e c;cases e with
  |cons o f=>
   cases f with
   |cons f z=>
    cases c with
    |cons b1 b2=>
     cases b2 with
     |cons b2 b3=>exact⟨_,_,.cons f<|.cons o z,.cons b2<|.cons b1 b3,List.Perm.swap _ _ _⟩
 |trans _ _ ih1 ih2=>
  intro vs ds e c;obtain⟨a,b,j,i,h⟩:=ih2 e c;obtain⟨g,m,w,s,q⟩:=ih1 j i;exact⟨g,m,w,s,q.trans h⟩
def n5{a:Type}{p}{as bs:List a}(h:as.Perm bs)(b:bs.all p=true):as.all p=true:=Yi.mpr λx m=>Yi.mp b x<|h.mem_iff.mp m
theorem lV(h:as.Perm bs)(ok:bV bs=true):bV as=true:=by unfold bV at ok ⊢;simp only[Yu,YG]at ok ⊢;obtain⟨⟨⟨⟨i,g⟩,f⟩,e⟩,c⟩:=ok;refine⟨⟨⟨⟨by rwa[h.length_eq],n5 h g⟩,?_⟩,n5 h e⟩,n5 h c⟩;grind
theorem Ar(hu:X.A.units+80<cLine)(hcalm:X.calm=true):CallR X (.type "set") (λxs H Q=>∃l vs ds g,xs=[.ref l]/\SqL X.K H l vs/\Same g H/\Reps X.K g vs ds/\di ds=true /\
  ∀a b c,H a=none->c.Perm (bh ds)->Reps X.K g b c->Q (.ref a) (upd H a (.ext (wY X.w a b)))):=by
 intro pz s σ H xs us Q I r h;obtain⟨l,vs,ds,g,rfl,hq,hF,U,ok,q⟩:=h;obtain⟨u,rfl,ru⟩:=eV r;cases ru;obtain⟨Y,hk⟩:=pV ok;obtain⟨L,R,pl,hz⟩:=I.list hq;have l1:=R.length;have l2:=U.length;refine qf (Pv:=λv d=>∃x,RelV x v/\Rep X.K g x d) (ds:=ds) (I.ok.hd hcalm) pl.isList (λi v hv=>?_) (by simp;omega) (by simp;omega) hu λh' tk S kp=>?_
 ·have j:L[i]?=some v:=by simpa using hv
  have Z:i<vs.length:=by rw[l1];exact(Yn.mp j).1
  obtain⟨u',f,J⟩:=R.get<|Yg Z;rw[j]at f;cases f;obtain⟨d,e3,e4⟩:=U.getV<|Yg Z;have T:=hk d<|YJ e3;exact⟨d,e3,⟨T,Rep.reads I 8 (e4.same hF) (bN T).2.1 J⟩,_,J,e4⟩
 ·obtain⟨c,⟨E,t,S,sz,ld⟩,p⟩:=S;obtain⟨b,h1,h2⟩:=qu (K:=X.K) (H:=g) (E.toList.map (·.2)) c (by rw[Yc,YM,S.len]) λi u d f J=>by
   rw[Yo,Zc]at f;obtain⟨e,z,rfl⟩:=XU.mp f;exact S.pv i e d z J
  obtain⟨o,ep,g1,g2,g3⟩:=S.obj;have N:E.size<=76:=by rcases sz with⟨_,z⟩|⟨_,z⟩|⟨_,z⟩<;>omega
  have hK:=u7 ⟨o,g1,g2,g3⟩ (S.tab.fits S.siz) S.tab.rise ld (by omega);refine⟨.ref s.heap.objs.size,_,I.laid (o:=.ext _) kp (Yr _) ⟨⟨E,ep,t,hK,N,h1⟩,⟨o,g1⟩,λha hb M m=>?_⟩,rfl,q _ b c (I.hok.fresh<|Yr _) p h2⟩;obtain⟨y,B,t',C,P,O⟩:=M;rcases C with C|⟨C,y1,y2⟩
  ·exact⟨y,B,t',.inl<|C.at m,P,O⟩
  ·exact⟨y,B,t',.inr ⟨C.at m,y1,y2⟩,P,O⟩
theorem qQ(hcalm:X.calm=true){N}[DecidableEq N]{knd:PySem.KeyKind X.prog X.w N}{f}(C:Sca knd f)(m:∀{c}{x}{u}{k},Rep X.K c x (f k)->RelV x u->knd.is k u=true)(j:∀{c}{u}{k},knd.is k u=true->∃x,RelV x u/\Rep X.K c x (f k)) :
  CallR X (.type "set") (λxs H Q=>∃l vs ds c,xs=[.ref l]/\SqL X.K H l vs/\Same c H/\Reps X.K c vs ds/\(ds.length<70/\∀d∈ds,∃k,d=f k) /\
  ∀a b M,H a=none->M.Perm (bh ds)->Reps X.K c b M->Q (.ref a) (upd H a<|.ext<|wY X.w a b)):=by
 intro pz s σ H xs us Q I r h;obtain⟨l,vs,ds,c,rfl,hq,hF,hr,⟨hlen,hk⟩,q⟩:=h;obtain⟨u,rfl,ru⟩:=eV r;cases ru;obtain⟨R,rv,pl,hz⟩:=I.list hq;have l1:=rv.length;have l2:=hr.length;refine nH C (ds:=ds) (I.ok.hd hcalm) pl.isList (λi v hv=>?_) (by simp;omega) (by simp;omega) λh' tk S kp=>?_
 ·have y:R[i]?=some v:=by simpa using hv
  have hi:i<vs.length:=by rw[l1];exact(Yn.mp y).1
  obtain⟨u',g,L⟩:=rv.get<|Yg hi;rw[y]at g;cases g;obtain⟨d,e3,e4⟩:=hr.getV<|Yg hi;obtain⟨k,rfl⟩:=hk d<|YJ e3;exact⟨k,m e4 L,e3⟩
 ·obtain⟨E,ep,t,K,p⟩:=S;obtain⟨b,h1,h2⟩:=qu (K:=X.K) (H:=c) (E.toList.map (·.2)) (E.toList.map enD) (by rw[Yc,Yc]) λi u d g L=>by
   rw[Yo]at g L;cases z:E.toList[i]? with
   |none=>rw[z]at g;cases g
   |some e=>
    rw[z]at g L;obtain⟨k,P,y2⟩:=K.its e<|YJ z;cases g;cases L;rw[show enD e=f k from C.en _ _ P];exact j P
  obtain⟨o,g1,g2,g3⟩:=K.obj;have U:E.size<=76:=by have z:=p.length_eq;rw[Yc,YM]at z;have:=gU ds;omega
  have hK:=u7 ⟨o,g1,g2,g3⟩ K.fits K.rise K.led (by omega);refine⟨.ref s.heap.objs.size,_,I.laid (o:=.ext _) kp (Yr _) ⟨⟨E,ep,t,hK,U,h1⟩,⟨o,g1⟩,λha hb T A=>?_⟩,rfl,q _ b _ (I.hok.fresh<|Yr _) p h2⟩;obtain⟨B,J,t',O,Z,Y⟩:=T;rcases O with O|⟨O,P,y2⟩
  ·exact⟨B,J,t',.inl<|O.at A,Z,Y⟩
  ·exact⟨B,J,t',.inr ⟨O.at A,P,y2⟩,Z,Y⟩
def Av(E:X.A.units+80<cLine)(hcalm:X.calm=true):CallR X (.type "set") (λxs H Q=>∃l vs ds b,xs=[.ref l]/\SqL X.K H l vs/\Same b H/\Reps X.K b vs ds/\(di ds=true\/c9 ds=true\/fE ds=true) /\
  ∀a c e,H a=none->e.Perm (bh ds)->Reps X.K b c e->Q (.ref a) (upd H a (.ext (wY X.w a c)))):=by
 intro p s f H xs g Q I r h;obtain⟨l,vs,ds,b,y,x,q,o,ok,m⟩:=h;rcases ok with ok|ok|ok
 ·exact Ar E hcalm p s f H xs g Q I r ⟨l,vs,ds,b,y,x,q,o,ok,m⟩
 ·refine qQ hcalm (GB) (λi j=>?_) (λ{b u k} z=>?_) p s f H xs g Q I r ⟨l,vs,ds,b,y,x,q,o,pO ok,m⟩
  ·cases i;obtain⟨C,rfl⟩:=j;show Value.isStrOf _ (.str _ C)=true;simp[Value.isStrOf]
  ·have B:Value.isStrOf k u=true:=z;cases u<;>simp[Value.isStrOf]at B;subst B;exact⟨.str _,⟨_,rfl⟩,.str⟩
 ·refine qQ hcalm (EF) (λi j=>?_) (λ{b u k} z=>?_) p s f H xs g Q I r ⟨l,vs,ds,b,y,x,q,o,qo ok,m⟩
  ·cases i;obtain⟨C,rfl⟩:=j;exact intKind_is _ _ _ _
  ·obtain⟨J,rfl⟩:=VG<|show Value.isInt k u=true from z;exact⟨.int _,⟨_,rfl⟩,.int⟩
theorem sC(R:X.A.units+64<cLine)(hcalm:X.calm=true):CallR X (.builtin "sorted") (λxs H Q=>∃a vs ds m,xs=[.ref a]/\H a=some (.ext (wY X.w a vs))/\Same m H/\Reps X.K m vs ds/\bV ds=true /\
  ∀l y,H l=none->Reps X.K m y (aU ds)->Q (.ref l) (upd H l (.lst y))):=by
 intro O s J H xs i Q I r h;obtain⟨a,vs,ds,m,rfl,Z,hF,T,ok,q⟩:=h;obtain⟨u,rfl,N⟩:=eV r;cases N;obtain⟨⟨E,ep,t,KK,S,M⟩,_⟩:=I.hok a _ Z;have fin:∀i e d c,i.Perm (E.toList.map (·.2))->(∀b o,s.heap.get? b=some o->e.get? b=some o)->nz X.prog X.w X.A (EP X O J Q) i {s with heap:=e,drawn:=d,toks:=c}:=by
  intro i e d c p f;obtain⟨L,g,h1,j,C⟩:=AX p M T;obtain⟨_,Y,_,_⟩:=eM ok;have x:=h_ C Y;refine v9 (I.keptD f) (j.same hF) h1 (lV C ok) R λl z s' U b1 b2 b3 I'=>⟨.ref l,_,I',rfl,q l _ U ?_⟩
  rw[<-x];by_cases B:g=[]
  ·subst B;have:z=[]:=Zo.mp b2;rw[this];exact .nil
  ·rw[<-b3];exact j.perm B z b1
 rcases KK with K|⟨K,hb,j⟩
 ·exact iV<|uQ (by have:=I.ok.hd hcalm;simpa using this) K (by rw[YY];omega) λe c f=>fin _ e s.drawn c ((rg X.w a ep E).map _) f
 ·exact iV<|qp (by have:=I.ok.hd hcalm;simpa using this) K hb j λP e d c p f=>fin _ e d c ((lE p).map _) f
noncomputable def kW (fa:Dd):DF->Option (List D):=λa=>match fa a with
 |some (.lst ds)=>if(di ds=true\/c9 ds=true\/fE ds=true)/\bV (bh ds)=true then some (aU<|bh ds)else none
 |_=>none
theorem uS(R:X.A.units+80<cLine)(hcalm:X.calm=true)(T:Gl X "sorted")(S:X.mg "sorted"=none)(y:Gl X "set")(u:X.mg "set"=none)(i:PDR X e fa)
  (hs:starEach [e] X.env=[(false,eval e X.env)]:=by rfl) (f:starEach [.Call (.Name "set" p2) [e] [] pos2] X.env=[(false,eval (.Call (.Name "set" p2) [e] [] pos2) X.env)]:=by rfl)
  (s:(backTo pos<|starEach [] X.env).any (·.1)=false:=by rfl) (g:(backTo pos2<|starEach [] X.env).any (·.1)=false:=by rfl) :
  PDO X (.Call (.Name "sorted" p) [.Call (.Name "set" p2) [e] [] pos2] [] pos) (asL<|kW fa):=
 (iL (sC (by omega) hcalm) T S l_ (aR (eQ (Av R hcalm) y u Di (aR i bK hs) (by decide) (by decide) hs g) bK f) (by decide) (by decide) f s).imp λσ H Q=>un7 λP F B ob h I k=>by
  unfold asL kW at h;cases i:fa B with
  |none=>rw[i]at h;cases h
  |some dx=>
  rw[i]at h;cases dx with
  |lst ds=>
   dsimp only at h;split at h
   ·rename_i ok;cases h;refine⟨P,F,B,_,i,I,λx m J o L=>?_⟩;have E:=I.evo o;obtain⟨l,K,rfl,Z,Y⟩:=eS E L;refine⟨l,K,ds,m,rfl,Z,E.sub,Y,ok.1,λa b z N C M=>?_⟩;have j:Evo P m J m (upd J a<|.ext<|wY X.w a b):=Evo.side o.hp N;obtain⟨_,U,_,_⟩:=eM ok.2;refine⟨a,b,z,m,rfl,aI,j.hp.sub,M,lV C ok.2,λO ws q c=>?_⟩;rw[h_ C U]at c;exact k O m _ ((o.trans j).trans<|Evo.side j.hp q) ⟨⟨(o.trans j).back I.toDHp q,(j.hp.free q).1⟩,_,aI,c⟩
   ·cases h
  |_=>cases h
end L2
namespace L2
open PySem PySem.Spec PyProof.Rows
theorem Room.h80(r:Room k A):A.units+80<cLine:=by have:=r.un;omega
noncomputable def B7 (acc:List D)(d:D):List D:=open Classical in if d∈acc then acc else acc++[d]
theorem C4(ds:List D):∀acc:List D,(∀d,d∈ds.foldl B7 acc↔d∈acc\/d∈ds)/\(acc.Nodup->(ds.foldl B7 acc).Nodup):=by
 induction ds with
 |nil=>exact λacc=>⟨λd=>by simp,λh=>h⟩
 |cons x r ih=>
  intro acc;rw[VB];by_cases c:x∈acc
  ·rw[show B7 acc x=acc from Yj c];obtain⟨f,e⟩:=ih acc;refine⟨λd=>(f d).trans ⟨λz=>z.imp id<|Yd _,λz=>?_⟩,e⟩;rcases z with z|z
   ·exact .inl z
   ·rcases Yw.mp z with rfl|z
    ·exact .inl c
    ·exact .inr z
  ·rw[show B7 acc x=acc++[x]from Yl c];grind
def ca:d∈bh ds↔d∈ds:=by have:=(C4 ds []).1 d;rw[show bh ds=ds.foldl B7 []from rfl,this];simp
def hU ds:(bh ds).Nodup:=(C4 ds []).2 List.nodup_nil
def rkD(L:List D)(d:D):Nat:=(L.filter λx=>ltD x d).length
def uJ(p:L.Perm M)d:rkD L d=rkD M d:=(p.filter _).length_eq
theorem wj:∀{L},Cmps n L->L.Pairwise (λa b=>ltD b a=false)->L.Nodup->d∈L->iK d L=some (rkD L d)
 |[],_,_,_,h=>by cases h
 |x::r,hc,hs,nd,h=>by
  have f:=hc.1 x Ye;obtain⟨s,j⟩:=ZF.mp hs;obtain⟨n1,n2⟩:=YT.mp nd;have irr:ltD x x=false:=by
   cases q:ltD x x with
   |false=>rfl
   |true=>have:=(eB n x x f f<|hc.2 x Ye x Ye).as q;rw[q]at this;cases this
  unfold iK rkD;rcases Yw.mp h with rfl|hr
  ·rw[Yj<|(cE _ _<|hc.2 _ Ye _ Ye).mpr rfl,List.filter_cons_of_neg<|by rw[irr];exact Yk];rw[List.filter_eq_nil_iff.mpr λy e=>by rw[s y e];exact Yk];rfl
  ·have c:x≠d:=λz=>n1<|z ▸ hr
   have g:=h;have i:ltD x d=true:=by
    cases q:ltD x d with
    |true=>rfl
    |false=>exact absurd ((eB n x d f (hc.1 d g)<|hc.2 x Ye d g).an q<|s d hr) c
   rw[Yl λz=>c<|(cE _ _<|hc.2 x Ye d g).mp z,List.filter_cons_of_pos (p:=λx=>ltD x d) i];rw[wj (hc.sub λy e=>Yd _ e) j n2 hr];rfl
def yv(b:Cmps n ds)(hd:d∈ds):iK d (aU (bh ds))=some (rkD (bh ds) d):=by
 have h:=b.sub λx a=>ca.mp a
 have p:=a9<|bh ds;rw[wj (h.perm p.symm) (fB h) ((p.nodup_iff).mpr<|hU ds)<|p.mem_iff.mpr<|ca.mpr hd,uJ p]
def xk(h:P a=some (.lst vs))(r:Reps K F vs ds):zR K P (Ite K a) F (d5 ds):=by intro B H e f i;have b:SqL K H a vs:=SqL.of<|f.pro _ _ h;refine⟨λd u=>?_,λs=>⟨vs,b,by rw[r.length];simpa[d5]using s⟩⟩;obtain⟨z,c,rfl⟩:=jn u;have⟨v,g,w⟩:=r.get c;refine⟨⟨vs,v,b,g⟩,λx A l=>?_⟩;obtain⟨q,y,p,rfl,rfl,m⟩:=l;have:=m vs b;rw[g]at this;cases this;have j:=Evo.laid f (o:=.tup [.int i,v]) p;exact⟨_,j,.tup aI<|.cons .int<|.cons ((w.same e).same j.ext) .nil⟩
def gy(i:Nat):DF->Option (List D):=λρ=>(cg i ρ).map d5
def lC i(m:Gl X "enumerate")(j:X.mg "enumerate"=none)(h:PE X l (eD i))(hs:starEach [l] X.env=[(false,eval l X.env)]:=by rfl):PDI X (.Tuple elts kk tpos) (.Call (.Name "enumerate" p) [l] [] pos) (gy i):=PI.imp (yR m j (aR h bK hs) hs) λs H R=>un7 λP F w x b I k=>by
 unfold gy cg at b;split at b
 ·rename_i g q;cases b;obtain⟨v,f,a,rfl,_,u,c,e⟩:=I.at q;cases u with
  |lst vs=>exact⟨_,f,a,rfl,⟨vs,SqL.of<|I.pro _ _ c⟩,k _ F H (Evo.refl I.toDHp)<|xk c e⟩
  |_=>exact e.elim
 ·rename_i g q;cases b;obtain⟨v,f,o⟩:=I.at q;cases o with
  |lst c e=>exact⟨_,f,_,rfl,⟨_,I.sub.seq c⟩,k _ F H (Evo.refl I.toDHp)<|qW c e⟩
 ·cases b
def jk{α b:Type}{o}{f:α->Option b}{y}(h:o.bind f=some y):∃a,o=some a/\f a=some y:=by
 cases o with
 |none=>cases h
 |some a=>exact⟨a,rfl,h⟩
section
variable{X:Cx}{pz:Kp}{σ:St}{H:Hp}{s:Shared}{a b:Addr}{v:V}{r:Value}{A:Around}{E:Kv}
theorem jl{kvs}{Q}(u:A.units<cLine)(I:Inv X pz σ H s)(e:H a=some (.dT kvs))(m:H b=some (.tup (k.map kV)))(l:kvs.length<sizeLine)(o:RelV v r)(h:∀s',Inv X pz σ (upd H a (.dT (h9 kvs k v))) s'->Q () s') :
  wpAny (model X.prog X.w) A (dictSet a (.ref b) r) Q E s:=by
 obtain⟨z,C,x,f,P⟩:=JI I.hok e;have p:x.length<=sizeLine:=by rwa[<-Uc f]
 have B:(h9 kvs k v).length<=sizeLine:=by have:=jb kvs k v;omega
 refine wpAny_dictSet_heap u (ou I.hok m) P λS g y=>h _ ?_;obtain⟨q,N,O,i,M,L,K,_,J⟩:=g;refine y_ I (by rw[e];exact True.intro) y ⟨q,i⟩ ⟨B,C,_,(f.put k m o).keeps λc R j=>?_,q,N,O,i,M,L,K,J⟩;rwa[aD<|JV j e λz=>nomatch z]
end
section
variable{X:Cx}{ek ev i o e:Expr}{pos p pos' apos cpos:Pos}{fk fv fd:Dd}{tk tv:TE}
def j2(tk tv:TE):TE:=λc H Q=>∀p,H p=none->tk c (upd H p<|.dT []) λy e=>tv c e λv a=>∃k b,a p=some (.dT [])/\y=.ref b/\a b=some (.tup<|k.map kV)/\Q (.ref p) (upd a p<|.dT [(k,v)])
theorem j3(P:X.A.units+64<cLine)(w:PE X ek tk)(hv:PE X ev tv):PE X (.Dict [some ek] [ev] pos) (j2 tk tv):=by intro p s c H Q I h;refine wpAny_Dict_any rfl rfl (by simp) (by simp) ?_;have L:=I.laid (t':=s.toks) (λ_ _ q=>Yf _ q) (Yr _)<|C_ s.heap I.big;have C:=h s.heap.objs.size<|I.hok.fresh<|Yr _;refine Yb<|bw (w p _ c _ _ L C) λO g y M K j m=>?_;refine Yb<|ZE<|Yb<|bw (hv p g c M _ K m) λN f v R J i l=>Yb<|wpAny_standAt<|Yh ?_;refine Yb<|ZE<|show wpAny _ _ _ _ _ f from Yh<|Yh ?_;obtain⟨k,b,u,rfl,B,q⟩:=l;cases j;unfold storeAll;rw[List.forIn_cons];refine Yb<|Yb<|jl (by omega) J u B (by decide) i λe E=>?_;refine Yh ?_;show wpAny _ _ (forIn [] PUnit.unit _) _ _ e;rw[List.forIn_nil];exact Yh ⟨.ref s.heap.objs.size,_,E,rfl,q⟩
def Evo.setNew{P F H f H'}(h:DHp P F H)(e:Evo P F H f H'){p}{u}(c:H p=none)(m:f p=none):Evo P F H f (upd H' p u):=by
 have a:∀{b}{o}{G:Hp},G b=some o->G p=none->b≠p:=λs i z=>by subst z;rw[s]at i;cases i
 have l:P p=none:=by cases z:P p with|none=>rfl|some o=>rw[h.pro p o z]at c;cases c
 exact⟨e.ext,⟨λb o q=>by rw[aD<|a q m];exact e.hp.sub b o q,λb o q=>by rw[aD<|a q l];exact e.hp.pro b o q,e.hp.dis⟩,λb o g j=>by rw[aD<|a g c];exact e.keep b o g j⟩
noncomputable def kd(fk fv:Dd):DF->Option OD:=λa=>(fk a).bind λy=>(j5 y).bind λk=>(fv a).bind λv=>some<|.dT [(k,v)]
def ke(x:X.A.units+64<cLine)(z:PDE X ek fk)(hv:PDE X ev fv):PDO X (.Dict [some ek] [ev] pos) (kd fk fv):=(j3 x z hv).imp λK H Q=>un7 λP F f M h I k=>by
 unfold kd at h;obtain⟨y,s,h⟩:=jk h;obtain⟨u,o,h⟩:=jk h;obtain⟨d,q,h⟩:=jk h;cases h;intro p a;have c:Evo P F H F (upd H p<|.dT []):=Evo.side I.toDHp a;have C:=(I.toDHp.free a).1;refine⟨P,F,f,y,s,I.evo c,λL J O j l=>⟨P,J,f,d,q,(I.evo c).evo j,λv E N i m=>?_⟩⟩;have e:=j.trans i;obtain⟨w,g⟩:=e.keep p _ aI C;obtain⟨b,rfl,B⟩:=tH e.hp (l.same i.ext) o;refine⟨u,b,w,rfl,B,k p E _ ((c.trans e).setNew I.toDHp a g) ⟨⟨a,g⟩,_,aI,.cons m .nil⟩⟩
theorem kl(S:X.A.units+64<cLine)(hi:PDE X i fk)(C:PDR X o fd)(h1:behindInMarks .NotIn o=false:=by first|exact vS _ (by decide) (by decide)|rfl):PDT X (.Compare i [.NotIn] [o] pos) (asB (d2 (g6 true) fk fd)):=(CF (zC (by omega) hi C) h1).imp λO H Q=>un7 λP F l b a I k=>by
 have a:=BN a;unfold d2 at a;obtain⟨m,w,a⟩:=jk a;obtain⟨K,B,a⟩:=jk a;cases K with
 |dT kvs=>
  have h:((j5 m).map λk=>D.bl _)=some _:=a;cases f:j5 m with
  |none=>rw[f]at h;cases h
  |some g=>
   rw[f]at h;cases h;refine⟨P,F,l,_,w,I,λy N U j u=>⟨P,N,l,_,B,I.evo j,λx M L e Pd=>?_⟩⟩;obtain⟨p,s,rfl,h1,J⟩:=wK ((I.evo j).evo e) Pd;obtain⟨q,rfl,E⟩:=tH e.hp (u.same e.ext) f;refine⟨p,_,rfl,DGet.t h1 E,_,rfl,?_⟩;have:(!(eK s g).isSome)=(true ^^ (dn kvs g).isSome):=by
    rcases J.val with⟨c,z⟩|⟨v,T,c,z,R⟩
    ·rw[c,z];rfl
    ·rw[c,z];rfl
   rw[this];exact k M L<|j.trans e
 |_=>cases a
theorem kn:CallR X (.builtin "len") (λxs H Q=>∃p kvs,xs=[.ref p]/\H p=some (.dT kvs)/\Q (.int kvs.length) H):=by
 intro E s B H xs C Q I r h;obtain⟨p,kvs,rfl,x,q⟩:=h;obtain⟨u,rfl,i⟩:=eV r;cases i;obtain⟨z,l,xs,b,A⟩:=JI I.hok x;obtain⟨o,y,J,e,w,a,j,_⟩:=id A;have g:s.TypeIs (.ref p) "dict":=⟨o,e,w.1⟩
 have f:kvs.length<2^63:=by rw[YY]at z;omega
 have c:y.size=kvs.length:=by rw[<-YM,j,Yc];exact(Uc b).symm
 refine Calls.call_function_entry kind_len plain_len entry_len (args_len1 _) ?_;unfold Builtin.«len»;refine Yb<|Yh ?_;refine Yb<|XL g F.slot_dict_len<|ZU F.slot_dict_len g F.entry_dict_len ?_<|F.args_dict_len_1 _;show wpAny _ _ (dictSize p>>=_) _ _ s;unfold dictSize;refine Yb<|Yb<|wpAny_dictEntries e a<|Yh ?_;refine Yb<|wpAny_pendingCount_other l ?_;refine wpAny_ret_mkInt ?_;rw[Nat.add_zero,c];refine Yb<|ZE<|Yh ?_;refine Yb<|wpAny_letGo ?_;rw[Yl<|by omega];rw[Yl<|by omega];exact Yb<|wpAny_mkInt<|Yh ⟨_,rfl,.int kvs.length,H,I.tok _,⟨_,rfl⟩,q⟩
noncomputable def kr:D->Option D
 |.dT kvs=>some<|.int kvs.length
 |_=>none
def ku(l:Gl X "len")(j:X.mg "len"=none)(m:PDR X e fd)(c:starEach [e] X.env=[(false,eval e X.env)]:=by rfl)(b:(backTo pos (starEach [] X.env)).any (·.1)=false:=by rfl) :
  PDE X (.Call (.Name "len" p) [e] [] pos) (d1 kr fd):=
 (iL kn l j PySem.boot_len (aR m bK c) (by decide) (by decide) c b).imp λz H Q=>un7 λP F g d h I k=>by
  unfold d1 at h;obtain⟨u,q,h⟩:=jk h;cases u with
  |dT kvs=>
   cases h;refine⟨P,F,g,_,q,I,λx y w f Pd=>?_⟩;obtain⟨a,i,rfl,s,o⟩:=wK (I.evo f) Pd;exact⟨a,i,rfl,s,k _ y w f<|by rw[o.length];exact .int⟩
  |_=>cases h
noncomputable def li(i j:Nat):DF->Option RES:=λa=>match a[j]? with
 |some (some<|.own (.lst ds) t)=>(ds[ds.length-1]?).bind λd=>if i=j then none else some<|.nx<|(a.set j<|some<|.own (.lst ds.dropLast) t).set i<|some<|.v d
 |_=>none
def lj j(hN:X.N.Nodup)(hi:X.N[ix]?=some x)(hx:Loc X.env.scope x)(h:PE X o (eD j))(e:attributeBase o "pop" X.env (eval o X.env)=eval o X.env:=by rfl)(c:(apos.endLine == cpos.line)=true:=by rfl)
  (w:swapsWith (.Call (.Attribute o "pop" apos) [] [] cpos) (some<|.Name x pos') pos.line X.env=pure false:=by rfl) (B:X.fn x=true\/X.env.scope.names.lookup x=some .local:=by first|exact .inl rfl|exact .inr rfl|assumption) :
  PD1 X (.Assign [.Name x pos'] (.Call (.Attribute o "pop" apos) [] [] cpos) pos) (li ix j):=
 PS.imp (wQ hN hi hx (bo ZN PySem.F.slot_list_pop PySem.F.type_list_pop cj h e c) w B) λE J H=>un7 λP F L r b I k=>by
  unfold li at b;split at b
  ·rename_i C t q;obtain⟨d,s,b⟩:=jk b;split at b
   ·cases b
   ·rename_i A;cases b;obtain⟨a,f,l,O,M,i,g⟩:=n_ I q;obtain⟨y,p,m⟩:=g.get s;refine⟨_,l,.inl ⟨rfl,f,SqL.of i⟩,a,f,y,rfl,rfl,i,by rwa[g.length],?_⟩;refine k _ F _ (Same.refl _)<|DInv.setV ?_ ix m;refine I.mut q rfl rfl l ?_;have z:=g.take (n:=f.length-1);rwa[List.dropLast_eq_take,List.dropLast_eq_take,<-g.length]
  ·cases b
end
section
variable{X:Cx}{i o:Expr}{pos:Pos}{fk fd:Dd}
def lk(T:X.A.units+64<cLine)(hi:PDE X i fk)(C:PDR X o fd)(h1:behindInMarks .In o=false:=by first|exact vS _ (by decide) (by decide)|rfl):PDE X (.Compare i [.In] [o] pos) (d2 (g6 false) fk fd):=(ax (cm (by omega) hi C) h1).imp λO H Q=>un7 λP F j b a I k=>by
 unfold d2 at a;obtain⟨m,w,a⟩:=jk a;obtain⟨L,B,a⟩:=jk a;cases L with
 |dT kvs=>
  have h:((j5 m).map λk=>D.bl _)=some b:=a;cases f:j5 m with
  |none=>rw[f]at h;cases h
  |some l=>
   rw[f]at h;cases h;refine⟨P,F,j,_,w,I,λy N Y g u=>⟨P,N,j,_,B,I.evo g,λx s M e Pd=>?_⟩⟩;obtain⟨p,S,rfl,h1,J⟩:=wK ((I.evo g).evo e) Pd;obtain⟨q,rfl,E⟩:=tH e.hp (u.same e.ext) f;refine⟨p,_,rfl,DGet.t h1 E,k _ s M (g.trans e) ?_⟩;show Rep X.K s _<|.bl _;rcases J.val with⟨c,z⟩|⟨v,U,c,z,R⟩
   ·rw[c,z];exact .bl
   ·rw[c,z];exact .bl
 |_=>cases a
end
section
variable{prog:Program}{w:World}{A:Around}{E:Kv}{s:Shared}{r:Addr}{a b c:Int}{t u v:Tok}{n:Nat}
theorem ll(x:A.handled=none)(y:IsRange s.heap r a b c t u v)(h:Builtin.Range.small a b c=true)(z:Builtin.Range.rangeSize a b c=n)(g:n<=2^24){Q:Kl}
  (q:∀h' tk f,(∀b o,s.heap.get? b=some o->h'.get? b=some o)->ItemsOf (λi v=>∃t,v=.int (a+i*c) t) f n->Q f.toList {s with heap:=h',toks:=tk}):wpAny (model prog w) A (collect<|.ref r) Q E s:=by
 unfold collect;refine Yb<|PySem.wpAny_runValue<|Zn PyProof.Rows.entry_proto_collect' ?_;refine Yb<|Ud<|Yh ⟨Va _<|by decide+kernel,Zn entry_list_iadd' ?_⟩;rw[Zs (show plainId "list.__iadd__"=true by decide+kernel) ⟨[.ref s.heap.objs.size,.ref r],[]⟩];refine wpAny_extend_range (R:=λr p=>match r with
  |Except.ok (Flow.ret v)=>wpAny _ A (match v with
   |Value.ref a=>(load a>>=λo=>match o.data with
    |Data.seq xs _=>pure xs.toList
    |_=>unsupported "internal:collect")
   |_=>unsupported "internal:collect") Q E p
  |Except.ok _=>False
  |Except.error e=>E e p) (by simpa using x) (Yf _ y) h z g s.heap.objs.size _ 0 (Yq _ rfl) λh' tk f C B l j=>?_
 refine Yb<|wpAny_load l ?_;exact Yh<|q h' tk f (λb o e=>B b o (Yz<|Ys e)<|Yf _ e) j
def l4(r:Addr)(a b c:Int)(t u v:Tok)(n:Nat)(j:Builtin.Range.small a b c=true)(H:Builtin.Range.rangeSize a b c=n)(l:n<=2^24) :
  Meets (Builtin.«tuple.__new__» ⟨[.type "tuple",.ref r],[]⟩)
   (λA R s=>A.handled=none/\IsRange s.heap r a b c t u v/\∀(h':Heap) (tk:Nat) (f:Array Value),(∀b o,s.heap.get? b=some o->h'.get? b=some o)->ItemsOf (λi v=>∃t,v=.int (a+i*c) t) f n->
    R (.ok (.ret (.ref h'.objs.size))) {s with heap:=h'.push {cls:=.type "tuple",data:=.seq f},toks:=tk}):=
 .of_wp λy w A R s h=>by
  obtain⟨E,g,d,tk,C⟩:=s;obtain⟨K,B,h⟩:=h;have z:=sub_tuple_self;have q:=init_tuple_lookup;have I:=madeHere_tuple;have L:Shared.TypeIs ⟨E,g,d,tk,C⟩ (.ref r) "range":=⟨_,B,rfl⟩
  have x:A.in1.handled=none:=K
  wp_walk using VS L,ll x B j H l
  intro h' p f J m;show wpAny _ _ (Builtin.Tuple.tupleExact f.toList.toArray>>=λv=>ret v) _ _ _;unfold Builtin.Tuple.tupleExact;have e:f.toList.toArray=f:=by simp
  refine Yb (Xh ?_ (show f.toList.toArray.size<=sizeLine by rw[e,m.1,YY];exact l));refine Yh ⟨_,rfl,?_⟩;rw[e];exact h h' p f J m
end
section
variable{X:Cx}{a:Expr}{fa:Dd}{pos p p' cpos:Pos}
theorem l5(K:X.calm=true):CallR X (.type "tuple") (λxs H Q=>∃(q:Addr) (lo hi:Int),xs=[.ref q]/\H q=some (.rng lo hi)/\(-(2^62)<=lo/\lo<2^62/\-(2^62)<=hi/\hi<2^62)/\(hi-lo).toNat<=16777216/\∀l,H l=none->Q (.ref l) (upd H l (.tup (CO lo (hi-lo).toNat)))):=by
 intro x s p H xs P Q I r h;obtain⟨q,lo,hi,rfl,B,⟨O,N,M,L⟩,E,k⟩:=h;obtain⟨u,rfl,w⟩:=eV r;cases w;have⟨t,u,v,C⟩:=I.hok q _ B;have f:Builtin.Range.rangeSize lo hi 1=((hi-lo).toNat):=by rw[rangeSize_one];split<;>omega
 refine callType_new F.called_tuple (by decide) (F.typeCall_tuple_1 _) (F.newCall_tuple_1 _) (λobj=>F.args_object_init_2 obj _) F.entry_tuple_new (l4 q lo hi 1 t u v (hi-lo).toNat (small_one O N M L) f<|by omega)
  ⟨I.ok.hd K,C,λi c a y g=>⟨⟨_,Yq _ rfl,rfl⟩,?_⟩⟩
 have m:=I.kept (t':=c) y;refine⟨.ref i.objs.size,_,m.laid (o:=.tup _) (λb o e=>Yf _ e) (Yr _) ⟨?_,a.toList,?_,⟨_,Yq _ rfl,rfl,0,by simp⟩,_,Yq _ rfl,rfl⟩,rfl,k _<|m.hok.fresh<|Yr _⟩
 ·unfold CO;rwa[Yc,Zj,YY]
 ·have⟨A,z⟩:=g;refine Bb (hi-lo).toNat lo a.toList (by simpa using A) λj v J=>?_;have⟨t,e⟩:=z j v (by rwa[<-Zc]);exact⟨t,by rw[e];congr 1;omega⟩
noncomputable def l7(f:Dd):DF->Option D:=λρ=>(vH f ρ).map .tup
theorem ma(E:X.calm=true)(C:Gl X "tuple")(z:X.mg "tuple"=none)(e:Gl X "range")(c:X.mg "range"=none)(J:PDE X a fa)(b:starEach [a] X.env=[(false,eval a X.env)]:=by rfl)
  (f:starEach [.Call (.Name "range" p') [a] [] cpos] X.env=[(false,eval (.Call (.Name "range" p') [a] [] cpos) X.env)]:=by rfl):PDE X (.Call (.Name "tuple" p) [.Call (.Name "range" p') [a] [] cpos] [] pos) (l7 fa):=
 (eQ (l5 E) C z wS<|aR (eQ Ax e c boot_range (aR J bK b) (he:=b)) bK f).imp λK H Q=>un7 λP F w d h I k=>by
  unfold l7 vH at h;split at h
  ·rename_i j q;split at h
   ·rename_i B;cases h;refine⟨P,F,w,_,q,I,λv u s m x=>?_⟩;cases x;refine⟨j,rfl,λq y=>⟨q,0,j,rfl,aI,⟨by decide,by decide,B.2,by omega⟩,by omega,λl A=>?_⟩⟩;have i:Evo P u s u (upd s q<|.rng 0 j):=Evo.side m.hp y;have g:=Evo.laid i.hp (o:=.tup<|CO 0 (j-0).toNat) A;rw[Int.sub_zero]at g ⊢;exact k _ _ _ ((m.trans i).trans g)<|.tup aI<|(zI 0 j.toNat).same<|Same.refl _
   ·cases h
  ·cases h
end
end L2
namespace My
open PySem PySem.Spec PyProof.Rows L2
noncomputable section
def K8(i:Nat):Stmt:=PySem.Challenge.pw_tieword_k20_whole_few_make_all.main.body.getD i<|.Pass ⟨0,0,0,0⟩
def top(i:Nat):Stmt:=if i<1000 then K8 i else D_ (K8<|i/1000)<|i%1000
noncomputable def rT:List Rw:=[⟨2,25,0,196,199,0⟩,⟨3,30,0,202,205,0⟩,⟨4,35,0,208,211,0⟩,⟨5,42,0,214,219,1⟩,⟨6,49,0,222,229,1⟩,⟨7,56,0,232,237,1⟩,⟨8,63,0,240,244,1⟩,⟨9,68,0,247,250,0⟩,⟨10,75,0,253,259,1⟩,⟨11,80,0,262,265,0⟩,⟨15,91,1,278,281,0⟩,⟨16,96,1,284,287,0⟩,⟨17,101,1,290,293,0⟩,⟨18,106,1,296,299,0⟩,⟨19000,120,1,314,319,1⟩,⟨19001,127,1,322,329,1⟩,⟨19002,134,1,332,339,1⟩,⟨19003,139,1,342,345,0⟩,⟨19004,146,1,348,353,1⟩,⟨19005,153,1,356,366,1⟩,⟨20,167,1,384,389,1⟩,⟨31,233,2,484,487,0⟩,⟨32,240,2,490,494,1⟩,⟨33,247,2,497,503,1⟩,⟨34,254,2,506,513,1⟩,⟨35,261,2,516,520,1⟩,⟨36,268,2,523,529,1⟩,⟨37,275,2,532,541,1⟩,⟨38000,287,2,556,559,0⟩,⟨38001,294,2,562,566,1⟩,⟨38002,301,2,569,575,1⟩,⟨39,322,2,597,602,1⟩,⟨40,327,2,605,608,0⟩,⟨42,334,3,613,617,1⟩,⟨44,341,4,622,627,1⟩,⟨45,348,4,630,636,1⟩,⟨46,353,4,639,642,0⟩,⟨47,358,4,645,648,0⟩,⟨48,363,4,651,654,0⟩,⟨49,368,4,657,660,0⟩,⟨50,375,4,663,672,1⟩,⟨51,382,4,675,686,1⟩,⟨52,387,4,689,692,0⟩,⟨53,394,4,695,704,1⟩,⟨54,399,4,707,710,0⟩,⟨55,404,4,713,716,0⟩,⟨56,411,4,719,727,1⟩,⟨57,416,4,730,733,0⟩]
def row(i:Nat):Option Rw:=rT.find? (·.i == i)
noncomputable def qn(i:Nat):Str:=(([(19000,"Search.__init__"),(19001,"Search.begin"),(19002,"Search.arrive"),(19003,"Search.left_out"),(19004,"Search.on_first"),(19005,"Search.go"),(38000,"Web.__init__"),(38001,"Web.size"),(38002,"Web.between")]:List<|Nat×Str).lookup i).getD<|fi<|top i
noncomputable def mdl(m:Nat):Value:=match m with
 |0=>.str "tieword.parting" 194
 |1=>.str "tieword.search" 276
 |2=>.str "tieword.webs" 476
 |3=>.str "tieword.groups" 611
 |4=>.str "law_tieword_k20_whole_few_make_all" 620
 |_=>.str "tieword.reach" 268
def fA(i:Nat):Addr:=((row i).map (·.a+1)).getD 0
def dA(i:Nat):FuncData:=((row i).map λr=>fnD (qn i) (top i) (mdl r.m) r.a).getD<|fnD "" (top 0) .none 0
def ah:Addr:=157
def fR:Addr:=87
def dR:FuncData:=PySem.W.fnOf "reached" "reached" (defArgs<|top 13) (defBody<|top 13) (defScope<|top 13) (.ref 82) .none .none (mdl 5) none (.ref 86) .none
set_option genInjectivity false
set_option genSizeOf false
set_option genSizeOfSpec false
structure Adr where
 C:Addr
 tk_MOST_PLACES:Tok
 tk_MOST_TIES:Tok
 tk_MOST_LETTERS:Tok
structure Txt (K:PySem.W.Frag) (mg:Str->Option Value) (t:Adr):Prop where
 dd:∀i,(row i).isSome=true->Df K (qn i) (top i) (fA i) (dA i)/\(i<1000->mg (fi (top i))=some (.ref (fA i)))
 cl:Cls K t.C
 mkC:Mk K t.C (fA 38000)
 mgC:mg "Web"=some (.ref t.C)
 na_joins:NoAttr K t.C "joins"
 na_kinds:NoAttr K t.C "kinds"
 na_ties:NoAttr K t.C "ties"
 naR_best_row:NoAttr K ah "best_row"
 naR_first:NoAttr K ah "first"
 naR_first_row:NoAttr K ah "first_row"
 naR_least:NoAttr K ah "least"
 naR_turnings:NoAttr K ah "turnings"
 naR_way:NoAttr K ah "way"
 naR_web:NoAttr K ah "web"
 cl_Search:Cls K ah
 mk_Search:Mk K ah (fA 19000)
 mg_Search:mg "Search"=some (.ref ah)
 mt_Web_between:Meth K t.C "between" (fA 38002)
 mt_Search_begin:Meth K ah "begin" (fA 19001)
 mt_Search_arrive:Meth K ah "arrive" (fA 19002)
 fn_reached:FunD K "reached" "reached" (top 13) fR dR
 bd_reached:Binds K dR ["starts","onward","most"] [Value.none]
 g_reached:mg "reached"=some (.ref fR)
 mt_Search_left_out:Meth K ah "left_out" (fA 19003)
 mt_Web_size:Meth K t.C "size" (fA 38001)
 mt_Search_on_first:Meth K ah "on_first" (fA 19004)
 mt_Search_go:Meth K ah "go" (fA 19005)
 b_all:mg "all"=none
 b_dict:mg "dict"=none
 b_enumerate:mg "enumerate"=none
 b_int:mg "int"=none
 b_isinstance:mg "isinstance"=none
 b_len:mg "len"=none
 b_list:mg "list"=none
 b_min:mg "min"=none
 b_range:mg "range"=none
 b_set:mg "set"=none
 b_sorted:mg "sorted"=none
 b_tuple:mg "tuple"=none
 c_MOST_PLACES:mg "MOST_PLACES"=some (.int 7 t.tk_MOST_PLACES)
 c_MOST_TIES:mg "MOST_TIES"=some (.int 12 t.tk_MOST_TIES)
 c_MOST_LETTERS:mg "MOST_LETTERS"=some (.int 3 t.tk_MOST_LETTERS)
 ch:PySem.W.codeHdIn K (nat_lit 139) (nat_lit 137)=true
 tb:f8 K (nat_lit 137) "Search.left_out.<locals>.<lambda>" ⟨98,39,98,86⟩
noncomputable def EM:Expr:=match defBody (top 19003)with|[_,.Return (some<|.Compare _ _ [.Call _ [_,l] _ _] _) _]=>l|_=>.Constant .none 0 ⟨0,0,0,0⟩
def LX:Arguments:=match EM with|.Lambda p _ _ _=>p|_=>defArgs<|top 19003
def LS:Expr:=match EM with|.Lambda _ b _ _=>b|_=>EM
def Hz:Scope:=match EM with|.Lambda _ _ s _=>s|_=>defScope<|top 19003
def Me:Pos:=⟨98,39,98,86⟩
def IB:LamS:=⟨"Search.left_out.<locals>.<lambda>",LX,LS,Hz,"at","leaving",true⟩
def Ln:LamW:=⟨IB,nat_lit 137,Me⟩
theorem IX:IB.Ok:=⟨rfl,rfl,rfl,rfl,rfl,rfl,λy h=>⟨(by decide+kernel:∀p∈Hz.names,p.2=.cell->p.1 = "at") _ (ZA h) rfl,rfl⟩,nofun,λ_ _ _=>rfl,λ_ _=>rfl,λy h=>(by decide+kernel:∀p∈Hz.names,p.2=.free->p.1 = "leaving") _ (ZA h) rfl,λ_ _ _ _ _=>rfl⟩
def Txt.F(T:Txt K mg t)i(h:(row i).isSome=true:=by kernel_rfl):Df K (qn i) (top i) (fA i) (dA i):=(T.dd i h).1
def Txt.G(T:Txt K mg t)i(h:(row i).isSome=true:=by kernel_rfl)(h2:decide (i<1000)=true:=by kernel_rfl):Df K (qn i) (top i) (fA i) (dA i)/\mg (fi (top i))=some (.ref (fA i)):=⟨(T.dd i h).1,(T.dd i h).2<|YN h2⟩
variable{P:Program}     {t:Adr}
abbrev K0:PySem.W.Frag:=[]
abbrev Ok(P:Program)(w:World)(K:Kq)(mg:Ks)(base:Heap)(t:Adr)(i k:Nat)(m:Addr->List DV->Option DV):Prop:=FnOk P w K mg base CX0 k (fA i) (dA i) (d8<|top i)<|spD K<|m t.C
def me(C:Addr):DF->Option RES:=
  (bC (d2 a8 (d2 a8 (d2 kO (d2 a8 (d2 aP (af 0) (cI 1)) (cI 2147483647)) (cI 48271)) (af 1)) (af 2)))
def mi(C:Addr):List DV->Option DV:=mOf 3 3 (me C)
def Qp(i:Nat):List Str:=((defScope (top i)).names.filter λp=>match p.2 with|.globalImplicit=>false|_=>true).map (·.1)
seal PDE PDR PDN PDO PDT PDS PD1 jL PDL PDI PDG PDW d2 d1 af getV am asB asO asL asT ag al ay bH ak dIf bC dW aP a8 bf ly kO qh ixD lF eqD neD ltd gtI
set_option hygiene false in
local macro_rules|`(tactic|ext)=>`(tactic|first|exact ac|exact aq _|exact aE _|exact be _|exact ap|exact ar|exact aO|exact pv _|exact cA _|exact pgI _|exact cQ|exact jc|exact ik|exact wJ|(refine ba _ ?_<;>ext)|(apply ae;ext;ext;rfl)|(refine aQ ?_ ?_<;>ext)|(refine ai ?_<;>ext)|(refine aa ?_ ?_<;>ext)|(refine bX _ ?_<;>ext)|(refine bO ?_ ?_ ?_<;>ext)|(refine a7 ?_<;>ext)|(refine iz _ ?_<;>ext)|(refine bE _ ?_ ?_<;>ext)|(refine aS ?_ ?_<;>ext)|(apply aL;ext;decide)|(refine bq ?_ ?_<;>ext)|(refine aK ?_ ?_<;>ext)|(refine bS ?_ ?_<;>ext)|(refine lQ ?_ ?_<;>ext)|(refine lB ?_ ?_<;>ext)|(refine tp ?_ ?_<;>ext)|(refine tV ?_ ?_<;>ext)|(refine cP rfl T.b_len ?_<;>ext)|(apply bB;ext;decide)|(refine eJ h.h64 ?_ ?_<;>ext)|(refine uX h.h64 ?_ ?_<;>ext)|(refine jI h.h64 ?_ ?_<;>ext)|(refine kj ?_ ?_<;>ext)|(refine u4 h.h64 ?_ ?_<;>ext)|(refine aT rfl T.b_range ?_<;>ext)|(refine iE ?_ ?_<;>ext)|(refine fU ?_<;>ext)|(refine tT ?_ ?_<;>ext)|(refine nk ?_<;>ext)|(refine fC ?_<;>ext)|(refine vy ?_<;>ext)|(refine iO rfl T.b_list ?_<;>ext)|(refine kh h.h64 ?_ ?_<;>ext)|(refine yS ?_<;>ext)|(refine fW rfl T.b_tuple ?_<;>ext)|(refine PDW.t ?_<;>ext)|(refine gk ?_<;>ext)|(refine im h.h64 rfl T.b_sorted ?_<;>ext)|(refine jR ?_ ?_<;>ext)|(refine sv ?_<;>ext)|(refine jq ?_ ?_ ?_<;>ext)|(refine cK ?_<;>ext)|(refine fj _ ?_<;>ext)|(refine PDE.r ?_<;>ext)|(refine PDE.n ?_<;>ext)|(refine PDO.v ?_<;>ext)|(intro _ _ _ _;ext))
def mj(T:Txt K mg t):Ok P w K mg base t 45 1 mi:=
 (T.F 45).okI (Qp 45) λh=>by ext
def mt(C:Addr):DF->Option RES:=
  (ak (dIf (asB (d2 ltd (am 1) (d1 bF (am 0)))) (bC (d2 ixD (af 0) (af 1))) dNx)
  (bC (cI 0)))
def mu(C:Addr):List DV->Option DV:=mOf 2 2 (mt C)
def mx(T:Txt K mg t):Ok P w K mg base t 44 1 mu:=
 (T.F 44).okI (Qp 44) λh=>by ext
def mz(C:Addr):DF->Option RES:=
  (ak (ay 1 (d2 lF (d2 ixD (λ_=>some (.str "abz")) (d2 a8 (af 0) (cI 3))) (d2 a8 (d2 bf (af 0) (cI 3)) (cI 3))))
  (ak (ay 2 (d2 a8 (d2 bf (af 0) (cI 9)) (d2 aP (d1 bF (am 1)) (cI 1))))
  (dI (asL (aN 1 [1,2] (vR (λ_=>some (.str "cdx"))) (setV 0) bi (d2 aP (d2 aP (slS (af 1) bNo (bI (getV 2))) (af 0)) (slS (af 1) (bI (getV 2)) bNo)))))))
def m7(C:Addr):List DV->Option DV:=mOf 3 1 (mz C)
def na(T:Txt K mg t):Ok P w K mg base t 46 1 m7:=
 (T.F 46).okI (Qp 46) λh=>aa (by ext)<|aa (by ext)<|ai<|cK<|gj ["_law_sign","_law_base","_law_at"] 1 [1,2] [0] (Gv ik) (cA 0) cQ<|aK (PDE.r<|aK (PDE.r<|hD (aq 1) wJ<|by ext)<|aq 0)<|PDE.r<|hD (aq 1) (by ext) wJ
def mH(C:Addr):DF->Option RES:=
  (ak (bH 3 (asL (vH (getV 1))))
  (ak (bH 4 (asL aA))
  (ak (dW (cM (af 1)) (setV 5) (iw 4 3 (al (mi C) (aV (d2 aP (al (mu C) (aB 0 (aB 5 nA))) (d2 kO (af 5) (af 5))) (aB 2 (aV (d1 bF (am 3)) nA))))))
  (iG 4))))
def de(C:Addr):List DV->Option DV:=mOf 6 3 (mH C)
def kP(T:Txt K mg t):Ok P w K mg base t 50 2 de:=
 (T.F 50).okI (Qp 50) λh=>aa (iz 3<|qg rfl rfl T.b_list rfl T.b_range<|aE 1)<|aa (by ext)<|aa (pfI (by ext) (cA 5)<|ai<|AK 4 3 (pv 4) (pv 3)<|pcI (mj T) (T.G 45) h<|aQ (aK (PDE.r<|pcI (mx T) (T.G 44) h<|by ext)<|by ext)<|by ext)<|by ext
def mU(C:Addr):DF->Option RES:=
  (ak (ay 2 (al (m7 C) (aV (al (mi C) (aV (al (mu C) (aB 0 (aV (cI 1) nA))) (aV (cI 10079) (aV (cI 324) nA)))) nA)))
  (ak (ay 3 (al (mi C) (aV (al (mu C) (aB 0 (aV (cI 0) nA))) (aV (cI 10091) (aV (cI 4) nA)))))
  (ak (dIf (asB (d2 ltd (am 3) (cI 2))) (dI (asL (aN 1 [2] (cM (af 1)) (setV 0) bi (d2 ixD (af 1) (cI 0))))) dNx)
  (ak (dIf (asB (d2 eqD (am 3) (cI 2))) (dI (asL (aN 1 [2] (cM (af 1)) (setV 0) bi (d2 ixD (af 1) (d2 a8 (af 0) (cI 2)))))) dNx)
  (dI (asL (aN 1 [2,0] (cM (af 1)) (setV 0) bi (d2 ixD (af 1) (al (mi C) (aV (d2 aP (al (mu C) (aB 2 (aB 0 nA))) (af 0)) (aV (cI 10093) (aV (cI 2) nA))))))))))))
def cJ(C:Addr):List DV->Option DV:=mOf 4 2 (mU C)
def kD(T:Txt K mg t):Ok P w K mg base t 47 2 cJ:=
 (T.F 47).okI (Qp 47) λh=>aa (bX 2<|pcI (na T) (T.G 46) h<|aQ (pcI (mj T) (T.G 45) h<|aQ (pcI (mx T) (T.G 44) h<|by ext)<|by ext) ar)<|aa (bX 3<|pcI (mj T) (T.G 45) h<|aQ (pcI (mx T) (T.G 44) h<|by ext)<|by ext)<|aa (bO (by ext) (ai<|cK<|gj ["_law_k","_law_words_here"] 1 [2] [0] (by ext) (cA 0) cQ<|by ext) aO)<|aa (bO (by ext) (ai<|cK<|gj ["_law_k","_law_words_here"] 1 [2] [0] (by ext) (cA 0) cQ<|by ext) aO)<|ai<|cK<|gj ["_law_k","_law_words_here","_law_cells"] 1 [2,0] [0] (by ext) (cA 0) cQ<|aS (aq 1)<|PDE.r<|pcI (mj T) (T.G 45) h<|aQ (aK (PDE.r<|pcI (mx T) (T.G 44) h<|by ext)<|aq 0)<|by ext
def vb(C:Addr):DF->Option RES:=
  (ak (ay 2 (d2 bf (af 1) (cI 2)))
  (ak (dIf (fy (asB (d2 eqD (am 0) (cI 0))) (asB (d2 gtI (af 1) (cI 2)))) (dI (asL (aN 1 [1] (cM (af 1)) (setV 0) bi (asT (ag (getV 0) (ag (d2 a8 (d2 aP (af 0) (cI 1)) (af 1)) aA)))))) dNx)
  (ak (dIf (asB (d2 eqD (am 0) (cI 1))) (dI (asL (aN 1 [] (wk (cI 1) (af 1)) (setV 0) bi (asT (ag (cI 0) (ag (getV 0) aA)))))) dNx)
  (ak (dIf (asB (d2 eqD (am 0) (cI 2))) (dI (asL (gL (asO (asL (aN 1 [] (cM (d2 ly (af 2) (cI 1))) (setV 0) bi (asT (ag (getV 0) (ag (d2 aP (af 0) (cI 1)) aA)))))) (asO (asL (aN 1 [2] (cM (d2 ly (af 2) (cI 1))) (setV 0) bi (asT (ag (d2 aP (af 1) (af 0)) (ag (d2 aP (d2 aP (af 1) (af 0)) (cI 1)) aA))))))))) dNx)
  (ak (dIf (asB (d2 eqD (am 0) (cI 3))) (dI (asL (aN 1 [2] (cM (af 2)) (setV 0) bi (asT (ag (getV 0) (ag (d2 aP (af 0) (af 1)) aA)))))) dNx)
  (ak (dIf (fy (asB (d2 eqD (am 0) (cI 4))) (asB (d2 ltd (am 1) (cI 6)))) (dI (asL (aN 1 [1] (cM (d2 kO (af 1) (af 1))) (setV 0) (asB (d2 ltd (d2 bf (af 0) (af 1)) (d2 a8 (af 0) (af 1)))) (asT (ag (d2 bf (af 0) (af 1)) (ag (d2 a8 (af 0) (af 1)) aA)))))) dNx)
  (dI (asL aA))))))))
def gr(C:Addr):List DV->Option DV:=mOf 3 2 (vb C)
def sH(T:Txt K mg t):Ok P w K mg base t 48 1 gr:=
 (T.F 48).okI (Qp 48) λh=>aa (by ext)<|aa (bO (by ext) (ai<|cK<|gj ["_law_k","_law_size"] 1 [1] [0] (by ext) (cA 0) cQ<|by ext) aO)<|aa (bO (by ext) (ai<|cK<|gj ["_law_k"] 1 [] [0] (jK rfl T.b_range (by ext)<|aq 1) (cA 0) cQ<|by ext) aO)<|aa (bO (by ext) (ai<|cK<|g5 (PDE.r<|PDO.v<|gj ["_law_k"] 1 [] [0] (by ext) (cA 0) cQ<|by ext)<|PDE.r<|PDO.v<|gj ["_law_k","_law_half"] 1 [2] [0] (by ext) (cA 0) cQ<|by ext) aO)<|aa (bO (by ext) (ai<|cK<|gj ["_law_k","_law_half"] 1 [2] [0] (by ext) (cA 0) cQ<|by ext) aO)<|aa (bO (by ext) (ai<|cK<|gj ["_law_k","_law_size"] 1 [1] [0] (by ext) (cA 0) (by ext)<|by ext) aO)<|by ext
def n7(C:Addr):DF->Option RES:=
  (ak (ay 2 (asO (asL (ag (d2 a8 (al (mu C) (aB 0 (aV (cI 2) nA))) (d2 qh (cI 10) (cI 28))) (ag (d2 a8 (al (mu C) (aB 0 (aV (cI 3) nA))) (d2 qh (cI 10) (cI 28))) aA)))))
  (ak (ay 3 (al (mi C) (aV (al (mu C) (aB 0 (aV (cI 0) nA))) (aV (cI 10099) (aV (cI 7) nA)))))
  (ak (ay 4 (d2 eqD (al (mi C) (aV (al (mu C) (aB 0 (aV (cI 1) nA))) (aV (cI 10103) (aV (cI 2) nA)))) (cI 1)))
  (ak (bH 5 (asL (aN 2 [2,4] (dX (al (gr C) (aB 3 (aB 1 nA)))) (jM [0,1]) bi (asT (ag (getV 0) (ag (getV 1) (ag (d2 ixD (af 2) (cI 0)) (ag (getV 3) aA))))))))
  (ak (ay 6 (al (mi C) (aV (al (mu C) (aB 0 (aV (cI 1) nA))) (aV (cI 10111) (aV (cI 3) nA)))))
  (ak (dIf (asB (d2 gtI (af 3) (cI 4))) (ay 6 (cI 12)) dNx)
  (ak (dW (dX (asO (asL (slL (af 0) (bI (cI 4)) (bI (d2 aP (cI 4) (af 6))))))) (setV 7) (dIf (fy (asB (d2 gtI (af 1) (cI 1))) (asB (d2 ltd (d1 bF (am 5)) (cI 12)))) (ak (ay 8 (al (mi C) (aB 7 (aV (cI 10007) (aB 1 nA)))))
  (ak (ay 9 (d2 a8 (d2 aP (d2 aP (af 8) (cI 1)) (al (mi C) (aB 7 (aV (cI 10009) (aV (d2 ly (af 1) (cI 1)) nA))))) (af 1)))
  (cV 5 (asT (ag (getV 8) (ag (getV 9) (ag (d2 ixD (af 2) (al (mi C) (aB 7 (aV (cI 10037) (aV (cI 2) nA))))) (ag (d2 eqD (al (mi C) (aB 7 (aV (cI 10039) (aV (cI 3) nA)))) (cI 0)) aA)))))))) dNx))
  (iG 5))))))))
def oa(C:Addr):List DV->Option DV:=mOf 10 2 (n7 C)
def og(T:Txt K mg t):Ok P w K mg base t 49 2 oa:=
 (T.F 49).okI ["_law_cells","_law_size","_law_tones","_law_pick","_law_oneway","_law_ties_here","_law_more","_law_cell_here","_law_one","_law_other"] λh=>aa (bX 2<|PDO.v<|bB<|ae (bq (PDE.r<|pcI (mx T) (T.G 44) h<|by ext)<|by ext)<|ae (bq (PDE.r<|pcI (mx T) (T.G 44) h<|by ext)<|by ext) ap)<|aa (bX 3<|pcI (mj T) (T.G 45) h<|aQ (pcI (mx T) (T.G 44) h<|by ext)<|by ext)<|aa (bX 4<|u4 h.h64 (PDE.n<|pcI (mj T) (T.G 45) h<|aQ (pcI (mx T) (T.G 44) h<|by ext)<|by ext)<|by ext)<|aa (NW 5 ["_law_one","_law_other","_law_tones","_law_oneway"] 2 [2,4] [0,1] (ka<|pcI (sH T) (T.G 48) h<|by ext) (jr (is:=[0,1]) rfl<|cx (pgI 0)<|cx (pgI 1) jo) cQ<|by ext)<|aa (bX 6<|pcI (mj T) (T.G 45) h<|aQ (pcI (mx T) (T.G 44) h<|by ext)<|by ext)<|aa (by ext)<|aa (pfI (ka<|by ext) (cA 7)<|ai<|bO (by ext) (aa (bX 8<|pcI (mj T) (T.G 45) h<|by ext)<|aa (bX 9<|bq (PDE.r<|aK (by ext)<|PDE.r<|pcI (mj T) (T.G 45) h<|by ext)<|aq 1)<|ai<|bE 5 (pv 5)<|aL<|ae (aE 8)<|ae (aE 9)<|ae (aS (aq 2)<|PDE.r<|pcI (mj T) (T.G 45) h<|by ext)<|ae (u4 h.h64 (PDE.n<|pcI (mj T) (T.G 45) h<|by ext)<|by ext) ap) aO)<|by ext
def jx(C:Addr):DF->Option RES:=
  (ak (bH 3 (asL aA))
  (ak (dW (cg 0) (jM [4,5,6,7]) (ak (dIf (asB (d2 eqD (asT (ag (getV 4) (ag (getV 5) aA))) (asT (ag (getV 1) (ag (getV 2) aA))))) (cV 3 (asT (ag (getV 6) (ag (d1 u6 (am 7)) aA)))) dNx)
  (dIf (asB (d2 eqD (asT (ag (getV 4) (ag (getV 5) aA))) (asT (ag (getV 2) (ag (getV 1) aA))))) (cV 3 (asT (ag (getV 6) (ag (d2 kO (cI 2) (d1 u6 (am 7))) aA)))) dNx)))
  (dI (asL (nG (af 3))))))
def dG(C:Addr):List DV->Option DV:=mOf 8 3 (jx C)
def pw(T:Txt K mg t):Ok P w K mg base t 51 1 dG:=
 (T.F 51).okI (Qp 51) λh=>aa (by ext)<|aa (pfI (iQ 0) (jr (is:=[4,5,6,7]) rfl<|cx (pgI 4)<|cx (pgI 5)<|cx (pgI 6)<|cx (pgI 7) jo)<|aa (bO (by ext) (ai<|bE 3 (pv 3)<|aL<|ae (aE 6)<|ae (yU rfl T.b_int<|be 7) ap) aO)<|ai<|bO (by ext) (ai<|bE 3 (pv 3)<|aL<|ae (aE 6)<|ae (lB (by ext)<|PDE.r<|yU rfl T.b_int<|be 7) ap) aO)<|by ext
def lZ(C:Addr):DF->Option RES:=
  (ak (bH 2 (asL aA))
  (ak (dW (cM (af 1)) (setV 3) (cV 2 (asO (asL (aN 1 [0,3] (cM (af 1)) (setV 0) bi (al (dG C) (aB 1 (aV (getV 2) (aV (getV 0) nA)))))))))
  (iG 2)))
def df(C:Addr):List DV->Option DV:=mOf 4 2 (lZ C)
def sg(T:Txt K mg t):Ok P w K mg base t 52 2 df:=
 (T.F 52).okI (Qp 52) λh=>aa (by ext)<|aa (pfI (by ext) (cA 3)<|ai<|bE 2 (pv 2)<|PDO.v<|gj ["_law_other","_law_ties_here","_law_one"] 1 [0,3] [0] (by ext) (cA 0) cQ<|pcI (pw T) (T.G 51) h<|by ext)<|by ext
def iI(C:Addr):DF->Option RES:=
  (ak (ay 1<|d1 Ai<|asO<|asL<|aN 1 [] (vR<|getV 0) (setV 0) bi<|chD leA leA (λ_=>some<|.str "a") (am 0) λ_=>some<|.str "z")
 <|bC<|i5 (getV 1)<|chD leA leA (cI 1) (d1 bF<|am 0)<|cI 3)
def cR(C:Addr):List DV->Option DV:=mOf 2 1<|iI C
def lz(T:Txt K mg t):Ok P w K mg base t 31 1 cR:=
 (T.F 31).okI (Qp 31) λh=>aa (bX 1<|BW rfl rfl T.b_all<|PDE.n<|PDO.v<|gj ["letter"] 1 [] [0] (Gv<|aE 0) (cA 0) cQ<|yu (by ext) (be 0)<|by ext)<|ai<|a7<|jR (aE 1)<|sv<|yu (by ext) (by ext)<|PDE.n<|rX rfl T.c_MOST_LETTERS
def jB(C:Addr):DF->Option RES:=
  (bC<|chD leA ltI (cI 0) (am 0)<|d2 qh (cI 10)<|cI 30)
def dJ(C:Addr):List DV->Option DV:=mOf 1 1<|jB C
def pB(T:Txt K mg t):Ok P w K mg base t 32 1 dJ:=
 (T.F 32).okI (Qp 32) λh=>ai<|a7<|sX (by ext) (be 0)<|by ext
def v8(C:Addr):DF->Option RES:=
  (ak (ay 2<|i5 (chD leA ltI (cI 0) (d2 ixD (af 0)<|cI 0)<|am 1)<|chD leA ltI (cI 0) (d2 ixD (af 0)<|cI 1)<|am 1)
 <|bC<|i5 (getV 2)<|i5 (d2 neD (d2 ixD (af 0)<|cI 0)<|d2 ixD (af 0)<|cI 1)<|al (dJ C)<|aV (d2 ixD (af 0)<|cI 2) nA)
def gY(C:Addr):List DV->Option DV:=mOf 3 2<|v8 C
def z_(T:Txt K mg t):Ok P w K mg base t 33 2 gY:=
 (T.F 33).okI (Qp 33) λh=>aa (bX 2<|jR (sX (by ext) (by ext)<|be 1)<|sv<|sX (by ext) (by ext)<|be 1)<|ai<|a7<|jR (aE 2)<|jR (JY h.h64 (by ext)<|by ext)<|sv<|pcI (pB T) (T.G 32) h<|by ext
def i7(C:Addr):DF->Option RES:=
  (ak (dIf (eA<|asB<|chD leA leA (cI 1) (d1 bF<|am 0)<|cI 7) kR dNx)
 <|ak (dIf (asB<|d2 gtI (d1 bF<|am 1)<|cI 12) kR dNx)
 <|ak (dW (cg 0) (setV 2)<|dIf (eA<|asB<|al (cR C)<|aV (getV 2) nA) kR dNx)
 <|dW (cg 1) (setV 3)<|dIf (eA<|asB<|al (gY C)<|aB 3<|aV (d1 bF<|am 0) nA) kR dNx)
def cZ(C:Addr):List DV->Option DV:=mOf 4 2<|i7 C
def m_(T:Txt K mg t):Ok P w K mg base t 34 3 cZ:=
 (T.F 34).okI (Qp 34) λh=>aa (bO (gk<|Er (by ext) (by ext)<|PDE.n<|rX rfl T.c_MOST_PLACES) (ai kM) aO)<|aa (bO (kj (by ext)<|PDE.r<|rX rfl T.c_MOST_TIES) (ai kM) aO)<|aa (pfI (iQ 0) (cA 2)<|ai<|bO (gk<|fC<|pcI (lz T) (T.G 31) h<|by ext) (ai kM) aO)<|ai<|pfI (iQ 1) (cA 3)<|ai<|bO (gk<|fC<|pcI (z_ T) (T.G 33) h<|by ext) (ai kM) aO
def jd(C:Addr):DF->Option RES:=
  (ak (dIf (orT (asB<|d2 ixD (af 0)<|cI 3)<|asB<|d2 ltd (d2 ixD (af 0)<|cI 0)<|d2 ixD (af 0)<|cI 1) (bC<|getV 0) dNx)
 <|bC<|asT<|ag (d2 ixD (af 0)<|cI 1)<|ag (d2 ixD (af 0)<|cI 0)<|ag (d2 ixD (af 0)<|cI 2)<|ag (d2 ixD (af 0)<|cI 3) aA)
def da(C:Addr):List DV->Option DV:=mOf 1 1<|jd C
def mZ(T:Txt K mg t):Ok P w K mg base t 35 1 da:=
 (T.F 35).okI (Qp 35) λh=>by ext
def pI(C:Addr):DF->Option RES:=
  (rP 0 (getV 1)<|d1 jO<|asO<|asL<|nG<|d2 aP (kH (af 0) (getV 1)<|asT aA)<|asT<|ag (getV 2) aA)
def eW(C:Addr):OD->List DV->Option (OD×D):=xF 3 3<|pI C
def mK(T:Txt K mg t):FnOk P w K mg base CX0 1 (fA 36) (dA 36) (d8 (top 36)) (spM K (eW t.C)):=
 (T.F 36).okJ (Qp 36) λh=>ai<|yk 0 h.h64 (pv 0) (aE 1)<|fW rfl T.b_tuple<|PDE.r<|PDO.v<|im h.h64 rfl T.b_sorted<|PDE.r<|aK (PDE.r<|vU h.h64 (aq 0) (aE 1)<|aL ap)<|by ext
def oK(C:Addr):DF->Option RES:=
  (ak (bH 1 λ_=>some<|.dT [])
 <|ak (dW (cg 0) (jM [2,3,4,5])<|ak (iZ K0 1 (eW C)<|aV (asT<|ag (getV 2)<|ag (getV 3) aA)<|aV (asT<|ag (getV 4)<|ag (ifV (asB<|getV 5) (cI 1)<|cI 0) aA) nA)
 <|iZ K0 1 (eW C)<|aV (asT<|ag (getV 3)<|ag (getV 2) aA)<|aV (asT<|ag (getV 4)<|ag (ifV (asB<|getV 5) (cI 2)<|cI 0) aA) nA)
 <|iG 1)
def f_(C:Addr):List DV->Option DV:=mOf 6 1<|oK C
def wn(T:Txt K mg t):Ok P w K mg base t 37 2 f_:=
 (T.F 37).okI (Qp 37) λh=>aa (iz 1 rJ)<|aa (pfI (iQ 0) (jr (is:=[2,3,4,5]) rfl<|cx (pgI 2)<|cx (pgI 3)<|cx (pgI 4)<|cx (pgI 5) jo)<|aa (uY 1 (mK T) (h.mono<|by decide) rfl (T.G 36).2 (T.F 36).fn.kp (T.F 36).bd (pv 1)<|aQ (by ext)<|aQ (aL<|ae (aE 4)<|ae (wI (by ext) ac ac) ap) ar)<|ai<|uY 1 (mK T) (h.mono<|by decide) rfl (T.G 36).2 (T.F 36).fn.kp (T.F 36).bd (pv 1)<|aQ (by ext)<|aQ (aL<|ae (aE 4)<|ae (wI (by ext) ac ac) ap) ar)<|by ext
def l0(C:Addr):DF->Option RES:=
  (ak (yo<|al (cZ C)<|aB 1<|aB 2 nA)
 <|ak (qz C 0 "kinds"<|asO<|asL<|iD<|af 1)
 <|ak (qz C 0 "ties"<|asO<|asL<|nG<|asO<|asL<|aN 1 [] (cg 2) (setV 0) bi<|al (da C)<|aV (getV 0) nA)
 <|qz C 0 "joins"<|al (f_ C)<|aV (d1 (gC C "ties")<|af 0) nA)
def dh(C:Addr):OD->List DV->Option (OD×D):=xF 3 3<|l0 C
def r9(T:Txt K mg t):FnOk P w K mg base CX0 4 (fA 38000) (dA 38000) (d8 (top 38000)) (spM K (dh t.C)):=
 (T.F 38000).okJ (Qp 38000) λh=>aa (ET<|pcI (m_ T) (T.G 34) h<|by ext)<|aa (uq 0 T.cl T.na_kinds (pv 0)<|by ext)<|aa (uq 0 T.cl T.na_ties (pv 0)<|PDO.v<|im h.h64 rfl T.b_sorted<|PDE.r<|PDO.v<|gj ["tie"] 1 [] [0] (iQ 2) (cA 0) cQ<|pcI (mZ T) (T.G 35) h<|by ext)<|ai<|uq 0 T.cl T.na_joins (pv 0)<|pcI (wn T) (T.G 37) h<|aQ (gB T.cl T.na_ties<|aq 0) ar
def j8(C:Addr):DF->Option RES:=
  (ak (ay 1<|asO<|asL<|aN 1 [0] (cg 0) (setV 0) (asB<|d2 gtI (d2 p8 (am 1)<|am 0)<|cI 1)<|getV 0)
 <|ak (dIf (eA<|j6<|getV 1) (dI<|asL aA) dNx)
 <|ak (ay 2<|d1 iJ<|af 1)
 <|dI<|asL<|aN 2 [2] (gy 0) (jM [0,1]) (asB<|d2 eqD (am 1)<|am 2)<|getV 0)
def bY(C:Addr):List DV->Option DV:=mOf 3 1<|j8 C
def jy(T:Txt K mg t):Ok P w K mg base t 11 1 bY:=
 (T.F 11).okI (Qp 11) λh=>aa (wU 1 ["rank","parting"] 1 [0] [0] (iQ 0) (cA 0) (yS<|kj (PDE.r<|vF h.h64 (be 1)<|be 0)<|by ext)<|aE 0)<|aa (bO (gk<|t8<|by ext) (by ext) aO)<|aa (bX 2<|yQ h.h64 rfl rfl T.b_min<|aq 1)<|ai<|cK<|gj ["place","rank","least"] 2 [2] [0,1] (lC 0 rfl T.b_enumerate<|pv 0) (jr (is:=[0,1]) rfl<|cx (pgI 0)<|cx (pgI 1) jo) (by ext)<|aE 0
def vK(C:Addr):DF->Option RES:=
  (ak (ay 1<|asO<|asL<|kW<|af 0)
 <|dI<|asL<|aN 1 [1] (cg 0) (setV 0) bi<|d2 gZ (am 1)<|am 0)
def fM(C:Addr):List DV->Option DV:=mOf 2 1<|vK C
def qy(T:Txt K mg t):Ok P w K mg base t 2 1 fM:=
 (T.F 2).okI (Qp 2) λh=>aa (bX 1<|PDO.v<|uS h.h80 rfl rfl T.b_sorted rfl T.b_set<|aq 0)<|ai<|cK<|gj ["key","values"] 1 [1] [0] (iQ 0) (cA 0) cQ<|by ext
def n4(C:Addr):DF->Option RES:=
  (bC<|d1 bF<|d1 (gC C "kinds")<|af 0)
def c_(C:Addr):List DV->Option DV:=mOf 1 1<|n4 C
def vl(C:Addr):DF->Option RES:=
  (bC (d2 eqD (asO (asL (nG (af 1)))) (asO (asL (vH (bJ C "size" (c_ C) (b_ (cD 0) g0)))))))
def vr(C:Addr):List DV->Option DV:=mOf 2 2 (vl C)
def wh(C:Addr):DF->Option RES:=
  (ak (dIf (eA (asB (al (vr C) (aB 0 (aB 1 nA))))) kR dNx)
  (ak (ay 2 (asO (asL (aN 1 [0] (cg 1) (setV 0) bi (d2 ixD (d1 (gC C "kinds") (af 1)) (af 0))))))
  (ak (ay 3 (asO (asL (aN 4 [1] (dX (d1 (gC C "ties") (af 0))) (jM [0,1,2,3]) bi (asT (ag (d2 gZ (am 4) (am 0)) (ag (d2 gZ (am 4) (am 1)) (ag (getV 2) (ag (getV 3) aA)))))))))
  (dI (lY C (dh C) (aB 2 (aB 3 nA)))))))
def x3(C:Addr):List DV->Option DV:=mOf 4 2 (wh C)
def mo(T:Txt K mg t):Ok P w K mg base t 38001 1 c_:=
 (T.F 38001).okI (Qp 38001) λh=>ai<|a7<|cP rfl T.b_len<|PDE.n<|gB T.cl T.na_kinds<|aq 0
def vu(T:Txt K mg t):Ok P w K mg base t 39 2 vr:=
 (T.F 39).okI (Qp 39) λh=>ai<|a7<|u4 h.h64 (by ext)<|PDE.n<|PDO.v<|qg rfl rfl T.b_list rfl T.b_range<|vg (z9 0) T.cl T.mt_Web_size (mo T) (h.mono<|by decide) (T.F 38001).bd
def y6(T:Txt K mg t):Ok P w K mg base t 40 6 x3:=
 (T.F 40).okI (Qp 40) λh=>aa (bO (gk<|fC<|pcI (vu T) (T.G 39) h<|by ext) (ai kM) aO)<|aa (wU 2 ["place","web"] 1 [0] [0] (iQ 1) (cA 0) cQ<|aS (PDE.r<|gB T.cl T.na_kinds<|aq 1)<|aq 0)<|aa (wU 3 ["one","other","kind","oneway","order"] 4 [1] [0,1,2,3] (ka<|gB T.cl T.na_ties<|aq 0) (jr (is:=[0,1,2,3]) rfl<|cx (pgI 0)<|cx (pgI 1)<|cx (pgI 2)<|cx (pgI 3) jo) cQ<|by ext)<|ai<|cK<|BO T.mkC (r9 T) (h.mono<|by decide) rfl T.mgC (T.F 38000).bd<|by ext
def jC(C:Addr):DF->Option RES:=
  (bC<|kH (d1 (gC C "joins")<|af 0) (asT<|ag (getV 1)<|ag (getV 2) aA)<|asT aA)
def cC(C:Addr):List DV->Option DV:=mOf 3 3<|jC C
def i9(T:Txt K mg t):Ok P w K mg base t 38002 1 cC:=
 (T.F 38002).okI (Qp 38002) λh=>ai<|a7<|vU h.h64 (PDE.r<|gB T.cl T.na_joins<|aq 0) (by ext)<|aL ap
def vQ(C:Addr):DF->Option RES:=
  (ak (ay 3<|asO<|asL<|aN 1 [2] (cM<|bJ C "size" (c_ C)<|b_ (cD 0) g0) (setV 0) (asB<|d2 neD (am 0)<|am 1)<|getV 0)
 <|ak (ay 4<|asO<|asL<|aN 1 [1,0,2] (cg 3) (setV 0) bi<|asT<|ag (d2 ixD (af 1)<|af 0)<|ag (bJ C "between" (cC C)<|b_ (cD 2)<|aV (getV 3)<|aV (getV 0) nA) aA)
 <|bC<|asT<|ag (d2 ixD (af 1)<|af 2)<|ag (d1 jO<|asO<|asL<|nG<|af 4) aA)
def i3(C:Addr):List DV->Option DV:=mOf 5 3<|vQ C
def zJ(T:Txt K mg t):Ok P w K mg base t 3 2 i3:=
 (T.F 3).okI (Qp 3) λh=>aa (wU 3 ["other","place"] 1 [2] [0] (aT rfl T.b_range<|PDE.r<|vg (z9 0) T.cl T.mt_Web_size (mo T) (h.mono<|by decide) (T.F 38001).bd) (cA 0) (by ext)<|aE 0)<|aa (wU 4 ["other","parting","web","place"] 1 [1,0,2] [0] (iQ 3) (cA 0) cQ<|aL<|ae (by ext)<|ae (np (z9 2) T.cl T.mt_Web_between (i9 T) (h.mono<|by decide) (T.F 38002).bd<|by ext) ap)<|by ext
def qT(C:Addr):DF->Option RES:=
  (dI<|asL<|aN 1 [0,1] (cM<|bJ C "size" (c_ C)<|b_ (cD 0) g0) (setV 0) bi<|al (i3 C)<|aB 1<|aB 2<|aV (getV 0) nA)
def gT(C:Addr):List DV->Option DV:=mOf 2 2<|qT C
def wG(T:Txt K mg t):Ok P w K mg base t 4 3 gT:=
 (T.F 4).okI (Qp 4) λh=>ai<|cK<|gj ["place","web","parting"] 1 [0,1] [0] (aT rfl T.b_range<|PDE.r<|vg (z9 0) T.cl T.mt_Web_size (mo T) (h.mono<|by decide) (T.F 38001).bd) (cA 0) cQ<|pcI (zJ T) (T.G 3) h<|by ext
def xZ(C:Addr):DF->Option RES:=
  (dI<|l8 (fM C)<|aV (al (gT C)<|aB 0<|aB 1 nA) nA)
def eE(C:Addr):List DV->Option DV:=mOf 2 2<|xZ C
def v_(T:Txt K mg t):Ok P w K mg base t 5 4 eE:=
 (T.F 5).okI (Qp 5) λh=>ai<|cK<|poI (qy T) (T.G 2) h<|aQ (pcI (wG T) (T.G 4) h<|by ext) ar
def mI(C:Addr):DF->Option RES:=
  (ak (bH 2<|asL<|ag (asO<|asL<|iD<|af 1) aA)
 <|ak (ay 3<|al (eE C)<|aB 0<|aB 1 nA)
 <|ak (dB (asB<|d2 neD (am 3)<|d2 ixD (af 2)<|d1 wL<|cI 1) (ak (cV 2<|getV 3)
 <|ay 3<|al (eE C)<|aB 0<|aB 3 nA) 100)
 <|iG 2)
def eY(C:Addr):List DV->Option DV:=mOf 4 2<|mI C
def t9(T:Txt K mg t):Ok P w K mg base t 6 5 eY:=
 (T.F 6).okI (Qp 6) λh=>aa (by ext)<|aa (bX 3<|pcI (v_ T) (T.G 5) h<|by ext)<|aa (vf 100 PassesOwn.never (uX h.h64 (be 3)<|PDE.n<|aS (aq 2)<|PDE.r<|Bz ac)<|aa (by ext)<|ai<|bX 3<|pcI (v_ T) (T.G 5) h<|by ext)<|by ext
def rQ(C:Addr):DF->Option RES:=
  (bC<|d2 ixD (al (eY C)<|aB 0<|aB 1 nA)<|d1 wL<|cI 1)
def cU(C:Addr):List DV->Option DV:=mOf 2 2<|rQ C
def pd(T:Txt K mg t):Ok P w K mg base t 7 6 cU:=
 (T.F 7).okI (Qp 7) λh=>ai<|a7<|aS (PDE.r<|pcI (t9 T) (T.G 6) h<|by ext)<|PDE.r<|Bz ac
def mO(C:Addr):DF->Option RES:=
  (ak (ay 2<|d2 ixD (af 0)<|af 1)
 <|ak (dIf (asB<|d2 eqD (d2 p8 (am 0)<|am 2)<|cI 1) (dI<|asL<|iD<|af 0) dNx)
 <|dI<|asL<|aN 2 [2,1] (gy 0) (jM [0,1]) bi<|ifV (orT (asB<|d2 ltd (am 1)<|am 2)<|asB<|d2 eqD (am 0)<|am 3) (getV 1)<|d2 aP (af 1)<|cI 1)
def e6(C:Addr):List DV->Option DV:=mOf 3 2<|mO C
def r6(T:Txt K mg t):Ok P w K mg base t 9 1 e6:=
 (T.F 9).okI (Qp 9) λh=>aa (by ext)<|aa (bO (eJ h.h64 (PDE.n<|vF h.h64 (be 0)<|be 2)<|by ext) (by ext) aO)<|ai<|cK<|gj ["at","rank","own","place"] 2 [2,1] [0,1] (lC 0 rfl T.b_enumerate<|pv 0) (jr (is:=[0,1]) rfl<|cx (pgI 0)<|cx (pgI 1) jo) cQ<|wI (by ext) (aE 1)<|by ext
def uK(C:Addr):DF->Option RES:=
  (bC<|al (cU C)<|aB 0<|aV (al (e6 C)<|aB 1<|aB 2 nA) nA)
def dE(C:Addr):List DV->Option DV:=mOf 3 3<|uK C
def qR(T:Txt K mg t):Ok P w K mg base t 10 7 dE:=
 (T.F 10).okI (Qp 10) λh=>ai<|a7<|pcI (pd T) (T.G 7) h<|ba 0<|aQ (pcI (r6 T) (T.G 9) h<|by ext) ar
def iH(C:Addr):DF->Option RES:=
  (bC<|al (cU C)<|aB 0<|aV (al (fM C)<|aV (d1 (gC C "kinds")<|af 0) nA) nA)
def bG(C:Addr):List DV->Option DV:=mOf 1 1<|iH C
def gM(T:Txt K mg t):Ok P w K mg base t 8 7 bG:=
 (T.F 8).okI (Qp 8) λh=>ai<|a7<|pcI (pd T) (T.G 7) h<|ba 0<|aQ (pcI (qy T) (T.G 2) h<|aQ (gB T.cl T.na_kinds<|aq 0) ar) ar
def f7(C:Addr):DF->Option RES:=
  (ak (jX ah 0 "web" (getV 1))
  (ak (jX ah 0 "way" (asO (asL aA)))
  (ak (jX ah 0 "first" (asO (asL aA)))
  (ak (jX ah 0 "first_row" (asT aA))
  (ak (jX ah 0 "least" (asO (asL aA)))
  (ak (jX ah 0 "best_row" (asT aA))
  (wt ah 0 "turnings" (asL aA))))))))
def dN(C:Addr):OD->List DV->Option (OD×D):=pU 2 2 (f7 C)
def mW(T:Txt K mg t):FnOk P w K mg base CX0 1 (fA 19000) (dA 19000) (d8 (top 19000)) (spO K (dN t.C)):=
 (T.F 19000).okO (Qp 19000) λh=>aa (jm 0 T.cl_Search T.naR_web (pv 0)<|aE 1)<|aa (jm 0 T.cl_Search T.naR_way (pv 0)<|by ext)<|aa (jm 0 T.cl_Search T.naR_first (pv 0)<|by ext)<|aa (jm 0 T.cl_Search T.naR_first_row (pv 0)<|aL ap)<|aa (jm 0 T.cl_Search T.naR_least (pv 0)<|by ext)<|aa (jm 0 T.cl_Search T.naR_best_row (pv 0)<|aL ap)<|ai<|DB 0 T.cl_Search T.naR_turnings (pv 0)<|bB ap
def uZ(C:Addr):DF->Option RES:=
  (ak (bH 2 (asL aA))
  (ak (dW (gy 1) (jM [3,4]) (zH 2 (aN 1 [0,4] (dX (asO (asL (slL (af 1) (bI (d2 aP (af 3) (cI 1))) bNo)))) (setV 0) bi (bJ C "between" (cC C) (b_ (cD 1) (aV (getV 2) (aV (getV 0) nA)))))))
  (bC (asT (ag (d1 jO (asO (asL (aN 1 [0] (cg 1) (setV 0) bi (d2 ixD (d1 (gC C "kinds") (af 1)) (af 0)))))) (ag (d1 jO (af 2)) aA))))))
def eX(C:Addr):List DV->Option DV:=mOf 5 2 (uZ C)
def rf(T:Txt K mg t):Ok P w K mg base t 15 2 eX:=
 (T.F 15).okI (Qp 15) λh=>aa (by ext)<|aa (pfI (lC 1 rfl T.b_enumerate<|pv 1) (jr (is:=[3,4]) rfl<|cx (pgI 3)<|cx (pgI 4) jo)<|ai<|AI 2 (pv 2)<|gj ["other","web","place"] 1 [0,4] [0] (ka<|by ext) (cA 0) cQ<|np (z9 1) T.cl T.mt_Web_between (i9 T) (h.mono<|by decide) (T.F 38002).bd<|by ext)<|ai<|a7<|aL<|ae (fW rfl T.b_tuple<|PDE.r<|PDO.v<|gj ["place","web"] 1 [0] [0] (iQ 1) (cA 0) cQ<|aS (PDE.r<|gB T.cl T.na_kinds<|aq 1)<|aq 0)<|by ext
def gf(C:Addr):DF->Option RES:=
  (ak (iF ah 0 "way" (getV 1))
  (ak (iF ah 0 "first" (getV 2))
  (ak (iF ah 0 "first_row" (getV 3))
  (ak (iF ah 0 "least" (getV 2))
  (iF ah 0 "best_row" (getV 3))))))
def dO(C:Addr):OD->List DV->Option (OD×D):=pU 4 4 (gf C)
def mX(T:Txt K mg t):FnOk P w K mg base CX0 1 (fA 19001) (dA 19001) (d8 (top 19001)) (spO K (dO t.C)):=
 (T.F 19001).okO (Qp 19001) λh=>aa (iu 0 T.cl_Search T.naR_way (pv 0)<|aE 1)<|aa (iu 0 T.cl_Search T.naR_first (pv 0)<|aE 2)<|aa (iu 0 T.cl_Search T.naR_first_row (pv 0)<|aE 3)<|aa (iu 0 T.cl_Search T.naR_least (pv 0)<|aE 2)<|ai<|iu 0 T.cl_Search T.naR_best_row (pv 0)<|aE 3
def qN(C:Addr):DF->Option RES:=
  (dI (asL (aN 1 [1,0] (cM (d1 bF (am 0))) (setV 0) bi (d2 ixD (af 1) (d2 gZ (am 2) (am 0))))))
def fF(C:Addr):List DV->Option DV:=mOf 2 2 (qN C)
def wR(T:Txt K mg t):Ok P w K mg base t 17 1 fF:=
 (T.F 17).okI (Qp 17) λh=>ai<|cK<|gj ["place","end","first"] 1 [1,0] [0] (by ext) (cA 0) cQ<|by ext
def e8(C:Addr):DF->Option RES:=
  (ak (ay 3 (al (eX C) (aV (fX (some ah) 0 "web") (aB 2 nA))))
  (ak (dIf (eA (j6 (fX (some ah) 0 "first"))) (ak (du (dC ah "begin" 0 (dO C) (cb (aZ (getV 1)) (cb (aZ (getV 2)) (cb (aZ (getV 3)) lq)))))
  (bC (λ_=>some (.bl false)))) dNx)
  (ak (dIf (asB (d2 ltd (am 3) (fX (some ah) 0 "best_row"))) (ak (iF ah 0 "least" (getV 2))
  (iF ah 0 "best_row" (getV 3))) dNx)
  (ak (dIf (asB (d2 eqD (am 3) (fX (some ah) 0 "first_row"))) (ak (zt (some ah) 0 "turnings" (al (fF C) (aV (fX (some ah) 0 "first") (aB 2 nA))))
  (bC (λ_=>some (.bl true)))) dNx)
  (bC (λ_=>some (.bl false)))))))
def cF(C:Addr):OD->List DV->Option (OD×D):=pU 4 3 (e8 C)
def lg(T:Txt K mg t):FnOk P w K mg base CX0 3 (fA 19002) (dA 19002) (d8 (top 19002)) (spO K (cF t.C)):=
 (T.F 19002).okO (Qp 19002) λh=>aa (bX 3<|pcI (rf T) (T.G 15) h<|aQ (pfB 0 T.cl_Search T.naR_web<|pv 0)<|by ext)<|aa (bO (gk<|t8<|PDE.r<|pfB 0 T.cl_Search T.naR_first<|pv 0) (aa (km<|D6 0 T.cl_Search T.mt_Search_begin (mX T) h (T.F 19001).bd (pv 0)<|eC (eR<|aE 1)<|eC (eR<|aE 2)<|eC (eR<|aE 3) nj)<|by ext) aO)<|aa (bO (jI h.h64 (be 3)<|PDE.n<|pfB 0 T.cl_Search T.naR_best_row<|pv 0) (aa (iu 0 T.cl_Search T.naR_least (pv 0)<|aE 2)<|ai<|iu 0 T.cl_Search T.naR_best_row (pv 0)<|aE 3) aO)<|aa (bO (eJ h.h64 (be 3)<|PDE.n<|pfB 0 T.cl_Search T.naR_first_row<|pv 0) (aa (GI 0 T.cl_Search T.naR_turnings (pv 0)<|pcI (wR T) (T.G 17) h<|aQ (pfB 0 T.cl_Search T.naR_first<|pv 0)<|by ext)<|by ext) aO)<|by ext
def pQ(C:Addr):DF->Option RES:=
  (dI (asL (aN 1 [0] (cM (d1 bF (am 0))) (setV 0) bi (d2 gZ (am 1) (am 0)))))
def eN(C:Addr):List DV->Option DV:=mOf 1 1 (pQ C)
def uB(T:Txt K mg t):Ok P w K mg base t 16 1 eN:=
 (T.F 16).okI (Qp 16) λh=>ai<|cK<|gj ["rank","parting"] 1 [0] [0] (by ext) (cA 0) cQ<|by ext
def wp(C:Addr):DF->Option RES:=
  (bC (d1 Ai (asO (asL (aN 1 [0] (cg 1) (setV 0) bi (d2 eqD (d2 ixD (af 1) (af 0)) (am 0)))))))
def fP(C:Addr):List DV->Option DV:=mOf 2 2 (wp C)
def AD(T:Txt K mg t):Ok P w K mg base t 18 1 fP:=
 (T.F 18).okI (Qp 18) λh=>ai<|a7<|BW rfl rfl T.b_all<|PDE.n<|PDO.v<|gj ["place","turning"] 1 [0] [0] (iQ 1) (cA 0) cQ<|by ext
def mG(C:Addr):DF->Option D:=(asO (asL (aN 1 [0] (cg 1) (setV 0) bi (d2 ixD (af 0) (af 1)))))
def g_reached(C:Addr)(a0:Addr)(v0:V)(_:D):DF->Option RES:=
  (ak (bH 3 (asL (iD (af 0))))
  (ak (bH 4 (vD 3 (yM (aN 1 [] (cg 3) (setV 0) bi (asT (ag (getV 0) (ag (λ_=>some (.bl true)) aA)))))))
  (ak (ay 5 (cI 0))
  (ak (dB (fy (asB (d2 ltd (am 5) (d1 bF (am 3)))) (orT (B_ 2) (asB (d2 leI (d1 bF (am 3)) (af 2))))) (ak (ay 6 (d2 ixD (af 3) (af 5)))
  (ak (dW (dX (oZ 1 a0 v0 (mG C) (getV 6))) (setV 7) (dIf (asB (d2 lh (getV 7) (af 4))) (ak (lc 4 (getV 7) (λ_=>some (.bl true)))
  (cV 3 (getV 7))) dNx))
  (D5 5 (cI 1)))) 10)
  (iG 3)))))
def xu(T:Txt K mg t):Fl P w K mg base 2 fR dR ["starts","onward","most"] (spR Ln K 8 (g_reached t.C)):=
 T.fn_reached.okR (scI ["starts","onward","most","found","known","done","at","thing"]) rfl λg A o s H E f i c u a j h l e=>(aa (iz 3 (iO rfl T.b_list (aq 0))) (aa (iz 4 (DQ 3 (zS rfl rfl T.b_dict (gj ["thing"] 1 [] [0] (iQ 3) (cA 0) cQ (aL (ae (aE 0) (ae jc ap))))))) (aa (bX 5 ac) (aa (vf 10 PassesOwn.never (PDW.t (iE (jI h.h64 (be 5) (PDE.n (cP rfl T.b_len (be 3)))) (fU (PDW.t (tT (FI 2 (pv 2)) (nk (Ll (PDE.r (cP rfl T.b_len (be 3))) (aq 2)))))))) (aa (bX 6 (aS (aq 3) (aq 5))) (aa (pfI (ka (DR (v0:=a) (k:=0) IX l e (h.mono (by decide)) rfl (by first|exact Or.inl rfl|exact Or.inr (Or.inl rfl)) (aE 6) (λb _ _=>have h:=Room.deeper (k:=0) (h.mono (by decide)) (fL IB b f i c);(PDO.v (gj ["turning","at"] 1 [0] [0] (iQ 1) (cA 0) cQ (aS (aq 0) (aq 1))))))) (cA 7) (ai (bO (BY h.h64 (aE 7) (aq 4)) (aa (D3 4 h.h64 (pv 4) (aE 7) jc) (ai (bE 3 (pv 3) (aE 7)))) aO))) (ai (Jj (ix:=5) ndI rfl (.inl rfl) ac))))) (ai (fj 3 (pv 3)))))))
def gm(C:Addr):DF->Option RES:=
  (ak (ay 4<|asO<|asL<|aN 1 [1] (dX<|d1 (gC ah "turnings")<|getV 0) (setV 0) (asB<|al (fP C)<|aB 0<|aB 1 nA)<|getV 0)
 <|bC<|d2 inD (am 3)<|asO<|xg 8 4 (g_reached C)<|lend 2)
def bU(C:Addr):List DV->Option DV:=mOf 5 4<|gm C
def jH(T:Txt K mg t):Ok P w K mg base t 19003 3 bU:=
 (T.F 19003).okC (pm:=mdl 1) ["self","way","tried","place","leaving"] λh=>(aa (bX 4<|PDO.v<|gj ["turning","way"] 1 [1] [0] (ka<|gB T.cl_Search T.naR_turnings<|PDE.r<|aE 0) (cA 0) (yS<|fC<|pcI (AD T) (T.G 18) h<|ba 0<|ba 1 ar)<|aE 0)<|ai<|a7<|yP h.h64 (be 3)<|PDE.n<|PDO.v<|A0 ⟨T.tb,rfl,rfl,rfl,rfl,rfl,rfl,T.ch,rfl,rfl⟩ (xu T) rfl (h.mono<|by decide) rfl T.g_reached T.fn_reached.kp T.bd_reached<|Kh 2<|pv 2)
def gs(C:Addr):DF->Option RES:=
  (bC<|d2 eqD (asO<|asL<|slL (d1 (gC ah "way")<|getV 0) bNo<|bI<|d1 bF<|am 1)<|am 1)
def bT(C:Addr):List DV->Option DV:=mOf 2 2<|gs C
def jP(T:Txt K mg t):Ok P w K mg base t 19004 1 bT:=
 (T.F 19004).okI (Qp 19004) λh=>ai<|a7<|u4 h.h64 (PDE.n<|PDO.v<|jq (PDE.r<|gB T.cl_Search T.naR_way<|by ext) wJ<|by ext)<|be 1
def dY(C:Addr)(R:Dz):DF->Option RES:=
  (ak (ay 3<|al (bY C)<|aB 2 nA)
 <|ak (dIf (eA<|j6<|getV 3) (vI<|dC ah "arrive" 0 (cF C)<|cb (aZ<|getV 1)<|cb (aZ<|al (eN C)<|aB 2 nA) lq) dNx)
 <|ak (bH 4<|asL aA)
 <|ak (dW (cg 3) (setV 5)<|dIf (gx 4<|gx 0<|eA<|asB<|bJ ah "left_out" (bU C)<|b_ (cD 0)<|aB 1<|aB 4<|aB 5 nA) (ak (cV 4<|getV 5)
 <|ak (rN 6<|dC ah "go" 0 R<|cb (aZ<|d2 aP (af 1)<|asO<|asL<|ag (getV 5) aA)<|cb (aZ<|al (dE C)<|aV (fX (some ah) 0 "web")<|aB 2<|aB 5 nA) lq)
 <|dIf (gx 0<|fy (asB<|getV 6)<|eA<|asB<|bJ ah "on_first" (bT C)<|b_ (cD 0)<|aB 1 nA) (bC λ_=>some<|.bl true) dNx) dNx)
 <|bC λ_=>some<|.bl false)
def cz(C:Addr):Nat->OD->List DV->Option (OD×D)
 |0=>λ_ _=>none
 |n+1=>pU 7 3<|dY C<|cz C n
theorem jZ(T:Txt K mg t):∀n:Nat,FnOk P w K mg base CX0 (7+n) (fA 19005) (dA 19005) (d8 (top 19005)) (spO K (cz t.C n))
 |0=>FnOk.neverO
 |n+1=>(T.F 19005).okO (k:=7+n) (Qp 19005) λh=>aa (bX 3<|pcI (jy T) (T.G 11) h<|by ext)<|aa (bO (gk<|t8<|by ext) (ai<|GG<|D6 0 T.cl_Search T.mt_Search_arrive (lg T) h (T.F 19002).bd (pv 0)<|eC (eR<|aE 1)<|eC (eR<|pcI (uB T) (T.G 16) h<|by ext) nj) aO)<|aa (by ext)<|aa (pfI (iQ 3) (cA 5)<|ai<|bO (ue 4<|ue 0<|gk<|fC<|np (z9 0) T.cl_Search T.mt_Search_left_out (jH T) (h.mono<|by omega) (T.F 19003).bd<|by ext) (aa (by ext)<|aa (Ml 6<|D6 0 T.cl_Search T.mt_Search_go (jZ T n) h (T.F 19005).bd (pv 0)<|eC (eR<|by ext)<|eC (eR<|pcI (qR T) (T.G 10) h<|aQ (pfB 0 T.cl_Search T.naR_web<|pv 0)<|by ext) nj)<|ai<|bO (ue 0<|PDW.t<|iE (by ext)<|fU<|gk<|fC<|np (z9 0) T.cl_Search T.mt_Search_on_first (jP T) (h.mono<|by omega) (T.F 19004).bd<|by ext) (by ext) aO) aO)<|by ext
def oQ(C:Addr):DF->Option RES:=
  (ak (bH 1<|wb ah (dN C)<|aV (getV 0) nA)
 <|ak (du<|dC ah "go" 1 (cz C 8)<|cb (aZ<|asO<|asL aA)<|cb (aZ<|al (bG C)<|aB 0 nA) lq)
 <|uA 1<|bC<|asT<|ag (d1 (gC ah "first")<|getV 1)<|ag (asO<|asL<|iD<|d1 (gC ah "least")<|getV 1)<|ag (d1 (gC ah "turnings")<|getV 1) aA)
def cL(C:Addr):List DV->Option DV:=mOf 2 1<|oQ C
def mR(T:Txt K mg t):Ok P w K mg base t 20 16 cL:=
 (T.F 20).okI (Qp 20) λh=>aa (iz 1<|Ah T.mk_Search (mW T) (h.mono<|by decide) rfl T.mg_Search (T.F 19000).bd<|by ext)<|aa (km<|D6 1 T.cl_Search T.mt_Search_go (jZ T 8) h (T.F 19005).bd (pv 1)<|eC (eR<|by ext)<|eC (eR<|pcI (gM T) (T.G 8) h<|by ext) nj)<|ai<|xY 1<|a7<|aL<|ae (gB T.cl_Search T.naR_first<|by ext)<|ae (PDO.v<|iO rfl T.b_list<|PDE.r<|gB T.cl_Search T.naR_least<|by ext)<|ae (gB T.cl_Search T.naR_turnings<|by ext) ap
def q7(C:Addr):DF->Option RES:=
  (bC (d2 ixD (al (cL C) (aV (getV 0) nA)) (cI 2)))
def rb(C:Addr):List DV->Option DV:=mOf 1 1 (q7 C)
def rd(T:Txt K mg t):Ok P w K mg base t 42 17 rb:=
 (T.F 42).okI (Qp 42) λh=>ai<|a7<|aS (PDE.r<|pcI (mR T) (T.G 20) h<|by ext)<|by ext
def rn(C:Addr):DF->Option RES:=
  (ak (dW (cM (d1 bF (am 0))) (setV 3) (ak (dIf (asB (d2 neD (d2 ixD (af 0) (af 3)) (d2 ixD (af 0) (d2 ixD (af 2) (af 3))))) (bC (λ_=>some (.bl false))) dNx)
  (ak (ay 4 (d2 ixD (af 1) (d2 ixD (af 2) (af 3))))
  (dW (cM (af 3)) (setV 5) (dIf (asB (d2 neD (d2 ixD (d2 ixD (af 1) (af 3)) (af 5)) (d2 ixD (af 4) (d2 ixD (af 2) (af 5))))) (bC (λ_=>some (.bl false))) dNx)))))
  (bC (λ_=>some (.bl true))))
def rs(C:Addr):List DV->Option DV:=mOf 6 3 (rn C)
def ry(T:Txt K mg t):Ok P w K mg base t 53 1 rs:=
 (T.F 53).okI (Qp 53) λh=>aa (pfI (by ext) (cA 3)<|aa (by ext)<|aa (by ext)<|ai<|pfI (by ext) (cA 5)<|by ext)<|by ext
def ss(C:Addr):DF->Option RES:=
  (ak (ay 3 (d1 bF (am 1)))
  (ak (dIf (orT (eA (asB (d1 (h7 "list") (am 0)))) (asB (d2 geI (d1 bF (am 0)) (af 3)))) (bC (λ_=>some (.bl false))) dNx)
  (ak (dW (cg 0) (setV 4) (ak (dIf (orT (eA (asB (d1 (h7 "list") (am 4)))) (orT (asB (d2 neD (asO (asL (nG (af 4)))) (asO (asL (vH (getV 3)))))) (asB (d2 eqD (am 4) (asO (asL (vH (getV 3)))))))) (bC (λ_=>some (.bl false))) dNx)
  (dIf (eA (asB (al (rs C) (aB 1 (aB 2 (aB 4 nA)))))) (bC (λ_=>some (.bl false))) dNx)))
  (bC (λ_=>some (.bl true))))))
def sy(C:Addr):List DV->Option DV:=mOf 5 3 (ss C)
def s8(T:Txt K mg t):Ok P w K mg base t 56 2 sy:=
 (T.F 56).okI (Qp 56) λh=>aa (by ext)<|aa (bO (PDW.t<|tT (gk<|fC<|ic rfl T.b_isinstance rfl T.b_list L2.rR<|be 0)<|nk<|dz (by ext)<|aq 3) (by ext) aO)<|aa (pfI (iQ 0) (cA 4)<|aa (bO (PDW.t<|tT (gk<|fC<|ic rfl T.b_isinstance rfl T.b_list L2.rR<|be 4)<|tT (uX h.h64 (by ext)<|PDE.n<|PDO.v<|qg rfl rfl T.b_list rfl T.b_range<|aE 3)<|nk<|eJ h.h64 (be 4)<|PDE.n<|PDO.v<|qg rfl rfl T.b_list rfl T.b_range<|aE 3) (by ext) aO)<|ai<|bO (gk<|fC<|pcI (ry T) (T.G 53) h<|by ext) (by ext) aO)<|by ext
def ti(C:Addr):DF->Option RES:=
  (ak (ay 2 (l7 (getV 0)))
  (ak (bH 3 (kd (getV 2) (λ_=>some (.bl true))))
  (ak (bH 4 (asL (ag (getV 2) aA)))
  (ak (dB (asB (d2 gtI (d1 bF (am 4)) (cI 0))) (ak (li 5 4)
  (dW (cg 1) (setV 6) (ak (ay 7 (d1 jO (asO (asL (aN 1 [6] (e5 (getV 5)) (setV 0) bi (d2 ixD (af 1) (af 0)))))))
  (dIf (asB (d2 (g6 true) (getV 7) (af 3))) (ak (rP 3 (getV 7) (λ_=>some (.bl true)))
  (cV 4 (getV 7))) dNx)))) 1000)
  (iG 3)))))
def tj(C:Addr):List DV->Option DV:=mOf 8 2 (ti C)
def tt(T:Txt K mg t):Ok P w K mg base t 55 1 tj:=
 (T.F 55).okI (Qp 55) λh=>aa (bX 2<|ma rfl rfl T.b_tuple rfl T.b_range<|aE 0)<|aa (iz 3<|ke h.h64 (aE 2) jc)<|aa (by ext)<|aa (vf 1000 PassesOwn.never (by ext)<|aa (lj (ix:=5) 4 ndI rfl (.inl rfl)<|pv 4)<|ai<|pfI (iQ 1) (cA 6)<|aa (bX 7<|fW rfl T.b_tuple<|PDE.r<|PDO.v<|gj ["_law_place","_law_row"] 1 [6] [0] (gl<|aE 5) (cA 0) cQ<|by ext)<|ai<|bO (kl h.h64 (aE 7)<|aq 3) (aa (yk 3 h.h64 (pv 3) (aE 7) jc)<|by ext) aO)<|by ext
def ul(C:Addr):DF->Option RES:=
  (ak (ay 1 (asO (asL (ag (asO (asL aA)) aA))))
  (ak (dW (cM (af 0)) (setV 2) (ak (bH 3 (asL aA))
  (ak (dW (cg 1) (setV 4) (zH 3 (aN 1 [4] (cM (af 0)) (setV 0) (asB (d2 dV (am 0) (am 1))) (d2 aP (af 1) (asO (asL (ag (getV 0) aA)))))))
  (uA 3 (ay 1 (getV 3))))))
  (bC (getV 1))))
def up(C:Addr):List DV->Option DV:=mOf 5 1 (ul C)
def uy(T:Txt K mg t):Ok P w K mg base t 54 1 up:=
 (T.F 54).okI (Qp 54) λh=>aa (by ext)<|aa (pfI (by ext) (cA 2)<|aa (by ext)<|aa (pfI (iQ 1) (cA 4)<|ai<|AI 3 (pv 3)<|gj ["_law_place","_law_row"] 1 [4] [0] (by ext) (cA 0) (yS<|eH h.h64 (be 0)<|be 1)<|by ext)<|ai<|xY 3<|by ext)<|by ext
def G1(C:Addr):DF->Option RES:=
  (ak (ay 1 (asO (asL (aN 1 [] (cg 0) (setV 0) bi (d2 a8 (af 0) (d2 qh (cI 10) (cI 40)))))))
  (ak (ay 2 (d2 aP (cI 1) (al (mi C) (aV (al (mu C) (aB 1 (aV (cI 0) nA))) (aV (cI 10061) (aV (cI 6) nA))))))
  (ak (ay 3 (al (cJ C) (aB 1 (aB 2 nA))))
  (ak (ay 4 (al (oa C) (aB 1 (aB 2 nA))))
  (ak (ay 5 (al (df C) (aB 4 (aB 2 nA))))
  (ak (ay 6 (asO (lY C (dh C) (aB 3 (aB 4 nA)))))
  (ak (ay 7 (al (rb C) (aV (getV 6) nA)))
  (ak (dIf (eA (asB (al (sy C) (aB 7 (aB 3 (aB 5 nA)))))) (bC (λ_=>some (.bl false))) dNx)
  (ak (bH 8 (l8 (tj C) (aV (getV 2) (aB 7 nA))))
  (ak (dW (dX (al (up C) (aB 2 nA))) (setV 9) (dIf (asB (d2 neD (al (rs C) (aB 3 (aB 5 (aB 9 nA)))) (d2 (g6 false) (d1 jO (af 9)) (af 8)))) (bC (λ_=>some (.bl false))) dNx))
  (ak (ay 10 (al (de C) (aB 1 (aV (getV 2) (aV (cI 10139) nA)))))
  (ak (ay 11 (al (rb C) (aV (al (x3 C) (aB 6 (aV (asO (asL (iD (af 10)))) nA))) nA)))
  (ak (ay 12 (asO (asL (aN 1 [5,10,2] (cM (af 2)) (setV 0) bi (asO (asL (aN 1 [1,2,0] (cM (af 3)) (setV 0) bi (d2 ixD (d2 ixD (af 1) (d2 ixD (af 2) (af 3))) (d2 ixD (af 2) (af 0))))))))))
  (ak (dIf (eA (asB (al (sy C) (aB 11 (aV (asO (asL (aN 1 [3] (cg 10) (setV 0) bi (d2 ixD (af 1) (af 0))))) (aB 12 nA)))))) (bC (λ_=>some (.bl false))) dNx)
  (bC (d2 eqD (d1 kr (al (tj C) (aV (getV 2) (aB 11 nA)))) (d1 kr (af 8))))))))))))))))))
def yT(C:Addr):List DV->Option DV:=mOf 13 1 (G1 C)
def Ig(T:Txt K mg t):Ok P w K mg base t 57 18 yT:=
 (T.F 57).okI (Qp 57) λh=>aa (wU 1 ["_law_cell_here"] 1 [] [0] (iQ 0) (cA 0) cQ<|by ext)<|aa (bX 2<|aK (by ext)<|PDE.r<|pcI (mj T) (T.G 45) h<|aQ (pcI (mx T) (T.G 44) h<|by ext)<|by ext)<|aa (bX 3<|pcI (kD T) (T.G 47) h<|by ext)<|aa (bX 4<|pcI (og T) (T.G 49) h<|by ext)<|aa (bX 5<|pcI (sg T) (T.G 52) h<|by ext)<|aa (bX 6<|PDO.v<|BO T.mkC (r9 T) (h.mono<|by decide) rfl T.mgC (T.F 38000).bd<|by ext)<|aa (bX 7<|pcI (rd T) (T.G 42) h<|by ext)<|aa (bO (gk<|fC<|pcI (s8 T) (T.G 56) h<|by ext) (by ext) aO)<|aa (iz 8<|poI (tt T) (T.G 55) h<|by ext)<|aa (pfI (ka<|pcI (uy T) (T.G 54) h<|by ext) (cA 9)<|ai<|bO (uX h.h64 (PDE.n<|pcI (ry T) (T.G 53) h<|by ext)<|PDE.n<|lk h.h64 (by ext)<|aq 8) (by ext) aO)<|aa (bX 10<|pcI (kP T) (T.G 50) h<|by ext)<|aa (bX 11<|pcI (rd T) (T.G 42) h<|aQ (pcI (y6 T) (T.G 40) h<|by ext) ar)<|aa (wU 12 ["_law_one","_law_table_here","_law_order_here","_law_size"] 1 [5,10,2] [0] (by ext) (cA 0) cQ<|PDO.v<|gj ["_law_two","_law_table_here","_law_order_here","_law_one"] 1 [1,2,0] [0] (by ext) (cA 0) cQ<|by ext)<|aa (bO (gk<|fC<|pcI (s8 T) (T.G 56) h<|ba 11<|aQ (PDO.v<|gj ["_law_place","_law_kinds_here"] 1 [3] [0] (iQ 10) (cA 0) cQ<|by ext)<|by ext) (by ext) aO)<|ai<|a7<|u4 h.h64 (PDE.n<|ku rfl T.b_len<|PDE.r<|pcI (tt T) (T.G 55) h<|by ext)<|PDE.n<|ku rfl T.b_len<|aq 8
end
abbrev sI(i:Int):Option DV:=some<|.v<|.int i
abbrev sV(d:D):Option DV:=some<|.v d
abbrev oW(o:OD)(t:Option Addr):Option DV:=some<|.own o t
theorem dQ{st}(I:Nat->DF->Prop):∀ds k ρ,I k ρ->
  (∀j d ρ,ds[j]?=some d->I (k+j) ρ->∃ρ1,st d ρ=some ρ1/\∃ρ',body ρ1=some (.nx ρ')/\I (k+j+1) ρ')->∃ρ',e_ st body ds ρ=some (.nx ρ')/\I (k+ds.length) ρ'
 |[],k,ρ,h,_=>⟨ρ,rfl,h⟩
 |d::ds,k,ρ,h,hs=>by
  obtain⟨ρ1,m,ρ',l,g⟩:=hs 0 d ρ rfl h;obtain⟨a,i,f⟩:=dQ I ds (k+1) ρ' g λj o b c e=>by
   have:=hs (j+1) o b (by simpa using c)<|by rwa[<-Vi,ZD]
   rwa [show k+(j+1)+1=k+1+j+1 by lia]at this
  refine⟨a,?_,by rwa[Yt,show k+(ds.length+1)=k+1+ds.length by lia]⟩;unfold e_;rw[m];simp[l];exact i
def nU{st}(I:DF->Prop)(h:I ρ)
  (hs:∀d∈ds,∀ρ,I ρ->∃ρ1,st d ρ=some ρ1/\∃ρ',body ρ1=some (.nx ρ')/\I ρ'):∃ρ',e_ st body ds ρ=some (.nx ρ')/\I ρ':=
 dQ (λ_=>I) ds 0 ρ h λj d ρ a b=>hs d (YJ a) ρ b
theorem bR{st}{c}{e}{a:Type}f F:∀xs:List a,(∀x∈xs,∃ρ1,st (f x) ρ=some ρ1/\c ρ1=some true/\e ρ1=some (F x))->b7 st c e ρ (xs.map f)=some (xs.map F)
 |[],_=>rfl
 |x::xs,h=>by
  obtain⟨ρ1,j,i,g⟩:=h x Ye;rw[YH];unfold b7;rw[j,Ya,i,Ya,Yj rfl,g,Ya,bR f F xs λy b=>h y<|Yd _ b];rfl
theorem z6{st:Dq}{c:Dk}{e:Dd}{ρ:DF}{α:Type}(f:α->D)(G:α->Prop):∀ds:List D,(∀d∈ds,∃ρ1,st d ρ=some ρ1/\c ρ1=some true/\∃y,e ρ1=some (f y)/\G y)->∃ys:List α,b7 st c e ρ ds=some (ys.map f)/\ys.length=ds.length/\∀y∈ys,G y
 |[],_=>⟨[],rfl,rfl,λ_ h=>by cases h⟩
 |x::xs,h=>by
  obtain⟨ρ1,m,l,y,j,i⟩:=h x Ye;obtain⟨ys,b,a,q⟩:=z6 f G xs λy g=>h y (Yd _ g)
  refine⟨y::ys,?_,by simp[a],λz hz=>?_⟩
  ·unfold b7;rw[m,Ya,l,Ya,Yj rfl,j,Ya,b];rfl
  ·rcases Yw.mp hz with rfl|hz
   ·exact i
   ·exact q z hz
def jh i j:eqd (.int i) (.int j)=decide (i=j):=by
 have h:=cE (.int i) (.int j) rfl;by_cases e:i=j
 ·rw[YS e,h,e]
 ·rw[YB e];cases q:eqd _ (.int j)with
  |false=>rfl
  |true=>exact absurd (by simpa using h.mp q) e
def Ic i j:eqd (.bl i) (.bl j)=decide (i=j):=by
 have h:=cE (.bl i) (.bl j) rfl;by_cases e:i=j
 ·rw[YS e,h,e]
 ·rw[YB e];cases q:eqd _ (.bl j)with
  |false=>rfl
  |true=>exact absurd (by simpa using h.mp q) e
@[simp] theorem xU i j:eqD (.int i) (.int j)=some (.bl (decide (i=j))):=by unfold eqD;rfl
@[simp] theorem Mn i j:eqD (.bl i) (.bl j)=some (.bl (decide (i=j))):=by unfold eqD;rfl
@[simp] theorem FD i j:neD (.int i) (.int j)=some (.bl (!decide (i=j))):=by unfold neD;rfl
@[simp] theorem Ly i j:ltd (.int i) (.int j)=some (.bl (decide (i<j))):=rfl
@[simp] theorem LC i j:gtI (.int i) (.int j)=some (.bl (decide (j<i))):=rfl
@[simp] theorem LH i j:leA (.int i) (.int j)=some (.bl (decide (i<=j))):=rfl
@[simp] theorem LB i j:ltI (.int i) (.int j)=some (.bl (decide (i<j))):=rfl
@[simp] theorem Lj i j:aP (.int i) (.int j)=some (.int (i+j)):=rfl
@[simp] theorem Lm i j:ly (.int i) (.int j)=some (.int (i-j)):=rfl
def iX i j(h:(-(2^64)<i/\i<2^64)\/(-(2^64)<j/\j<2^64)):kO (.int i) (.int j)=some (.int (i*j)):=Yj<|YS h
def bg i j(h:0<j):a8 (.int i) (.int j)=some (.int (i%j)):=Yj<|YS h
@[simp] theorem Lz:qh (.int 10) (.int 30)=some (.int 1000000000000000000000000000000):=rfl
section
variable{f:Dd}  {fl:Dl}{fv:Dv}{c c':Dk}{h:Dw}   {m:Dm}
@[simp] theorem ub:ak g h ρ=match g ρ with|some (.nx ρ')=>h ρ'|r=>r:=rfl
@[simp] theorem gn:ay i f ρ=(f ρ).map λd=>.nx (ρ.set i (sV d)):=rfl
@[simp] theorem Bw:bH i fo ρ=(fo ρ).map λo=>.nx (ρ.set i (oW o none)):=rfl
@[simp] theorem nD:bC f ρ=(f ρ).map λd=>.rt (.v d) ρ:=rfl
@[simp] theorem fY:dI fo ρ=(fo ρ).map λo=>.rt (.own o none) ρ:=rfl
@[simp] theorem Lf:iG i ρ=match ρ[i]? with|some (some x)=>some (.rt x ρ)|_=>none:=rfl
@[simp] theorem cu:dIf c g h ρ=(c ρ).bind λb=>if b=true then g ρ else h ρ:=rfl
@[simp] theorem Mm:dNx ρ=some (.nx ρ):=rfl
@[simp] theorem JQ:yo f ρ=(f ρ).map λ_=>.nx ρ:=rfl
@[simp] theorem CS:d1 F fa ρ=(fa ρ).bind F:=rfl
@[simp] theorem qF{F:Dy}:d2 F fa fb ρ=(fa ρ).bind λx=>(fb ρ).bind λy=>F x y:=rfl
@[simp] theorem LD:getV i ρ=match ρ[i]? with|some (some (.v d))=>some d|_=>none:=rfl
@[simp] theorem LI:af i ρ=match ρ[i]? with|some (some (.v d))=>some d|some (some (.own o _))=>if o.flat=true then some o.d else none|some (some (.bor o))=>if o.flat=true then some o.d else none|_=>none:=rfl
@[simp] theorem Lx:am i ρ=match ρ[i]? with|some (some (.v d))=>some d|some (some (.own o _))=>some o.d|some (some (.bor o))=>some o.d|_=>none:=rfl
@[simp] theorem Ku:aB i fv ρ=match ρ[i]? with|some (some (.own o _))=>(fv ρ).map λxs=>.bor o::xs|some (some (.bor o))=>(fv ρ).map λxs=>.bor o::xs|some (some (.v d))=>(fv ρ).map λxs=>.v d::xs|_=>none:=rfl
@[simp] theorem JR:aV f fv ρ=(f ρ).bind λd=>(fv ρ).map λxs=>.v d::xs:=rfl
@[simp] theorem we:al m fv ρ=(fv ρ).bind λxs=>(m xs).bind dvD:=rfl
@[simp] theorem JL:l8 m fv ρ=(fv ρ).bind λxs=>(m xs).bind dvO:=rfl
@[simp] theorem B3:asB f ρ=match f ρ with|some (.bl b)=>some b|_=>none:=rfl
@[simp] theorem cW:asL fl ρ=(fl ρ).map .lst:=rfl
@[simp] theorem fQ:asO fo ρ=(fo ρ).map OD.d:=rfl
@[simp] theorem Ma:asT fl ρ=(fl ρ).map .tup:=rfl
@[simp] theorem KC:ag f fl ρ=(f ρ).bind λd=>(fl ρ).map λr=>d::r:=rfl
@[simp] theorem Lu:aA ρ=some []:=rfl
@[simp] theorem rZ:eA c ρ=(c ρ).map λb=>!b:=rfl
@[simp] theorem LA:bi ρ=some true:=rfl
@[simp] theorem Gr:setV i d ρ=some (ρ.set i (sV d)):=rfl
@[simp] theorem Mv:ifV c f fa ρ=(c ρ).bind λb=>if b=true then f ρ else fa ρ:=rfl
@[simp] theorem AS:iD f ρ=(f ρ).bind e9:=rfl
def kx:nG f ρ=(f ρ).bind λd=>(e9 d).bind λds=>if bV ds=true then some (aU ds)else none:=rfl
def Ew{it}{st}:dW it st g ρ=(it ρ).bind λds=>e_ st g ds ρ:=rfl
@[simp] theorem Lw:uA i g ρ=match ρ[i]? with|some (some (.own o none))=>g (ρ.set i (sV (o.d)))|some (some (.v d))=>g ρ|_=>none:=rfl
def bp{own}{it}{st}{e}:aN own ix it st c e ρ=(it ρ).bind λds=>if ds.length<=16777216 then b7 st c e (jt own ix ρ) ds else none:=rfl
@[simp] theorem LJ:fy c c' ρ=(c ρ).bind λb=>if b=true then c' ρ else some false:=rfl
@[simp] theorem Mp:orT c c' ρ=(c ρ).bind λb=>if b=true then some true else c' ρ:=rfl
@[simp] theorem LF:i5 f fa ρ=match f ρ with|some (.bl true)=>fa ρ|some (.bl false)=>some (.bl false)|_=>none:=rfl
@[simp] theorem Mw:chD F G fa fb fc ρ=(fa ρ).bind λx=>(fb ρ).bind λy=>match F x y with|some (.bl true)=>(fc ρ).bind λz=>G y z|some (.bl false)=>some (.bl false)|_=>none:=rfl
@[simp] theorem CW:dX f ρ=match f ρ with|some (.lst ds)=>some ds|_=>none:=rfl
@[simp] theorem JX:cg i ρ=match ρ[i]? with|some (some (.bor (.lst ds)))=>some ds|some (some (.v (.lst ds)))=>some ds|_=>none:=rfl
def Gm:cM f ρ=match f ρ with|some (.int j)=>if -(2^62)<=j/\j<2^62 then some (cN 0 j.toNat)else none|_=>none:=rfl
def Cs{b a}:slL f b a ρ=match f ρ with|some (.lst xs)=>(b ρ).bind λl=>(a ρ).map λh=>gG xs l h|_=>none:=rfl
@[simp] theorem F9:cV i f ρ=match ρ[i]? with|some (some (.own (.lst ds) t))=>(f ρ).bind λd=>if ds.length<16777216 then some (.nx (ρ.set i (oW (.lst (ds++[d])) t)))else none|_=>none:=rfl
@[simp] theorem Dc:vT is f ρ=(f ρ).bind λd=>(jM is d ρ).map .nx:=rfl
@[simp] theorem MH:bI f ρ=match f ρ with|some (.int i)=>some (some i)|_=>none:=rfl
@[simp] theorem Mc:bNo ρ=some none:=rfl
end
@[simp] theorem MQ:(OD.lst ds).d=.lst ds:=rfl
@[simp] theorem MY{ds}:(OD.dT ds).d=.dT ds:=rfl
@[simp] theorem MM{ds}:(OD.dK ds).d=.dK ds:=rfl
@[simp] theorem MO{ds}:(OD.ins C ds).d=.ins C ds:=rfl
@[simp] theorem M0:(OD.lst ds).flat=true:=rfl
@[simp] theorem MP{ds}:(OD.dT ds).flat=true:=rfl
@[simp] theorem MT{ds}:(OD.dK ds).flat=true:=rfl
@[simp] theorem MZ{ds}:(OD.ins C ds).flat=true:=rfl
@[simp] theorem MS:dvD (.v d)=some d:=rfl
@[simp] theorem MX{o}:dvD (.own o t)=some o.d:=rfl
@[simp] theorem MU{o}:dvO (.own o t)=some o:=rfl
@[simp] theorem MN{x} :bZ (some (.rt x ρ))=some x:=rfl
@[simp] theorem MR:bZ (some (.nx ρ))=sV (.non):=rfl
@[simp] theorem MV:pF (sV d)=sV d:=rfl
@[simp] theorem MJ{o}:pF (oW o t)=some (.bor o):=rfl
@[simp] theorem ML{o}:pF (some (.bor o))=some (.bor o):=rfl
@[simp] theorem LG{own} :jt own ix ρ=List.replicate own none++ix.map λj=>pF (ρ[j]?).join:=rfl
@[simp] theorem MB:e9 (.lst ds)=some ds:=rfl
@[simp] theorem dq:e9 (.tup ds)=some ds:=rfl
@[simp] theorem KP:bF (.lst ds)=some (.int ds.length):=rfl
@[simp] theorem MK:bF (.tup ds)=some (.int ds.length):=rfl
def ix1{i}:ixD (.lst ds) (.int i)=atI ds i:=rfl
def ix2{i}:ixD (.tup ds) (.int i)=atI ds i:=rfl
@[simp] theorem LV{n p}  :mOf n p g xs=if xs.length=p then bZ (g (aH n p xs))else none:=rfl
@[simp] theorem JD{n p} :aH n p xs=xs.map some++List.replicate (n-p) none:=rfl
theorem Jy{x:Int}(h:1<=x/\x<8):x=1\/x=2\/x=3\/x=4\/x=5\/x=6\/x=7:=by
 obtain⟨m,a⟩:=Xr (show 0<=x-1 by lia);have key:∀m:Fin 7,(m:Int)+1=1\/(m:Int)+1=2\/(m:Int)+1=3\/(m:Int)+1=4\/(m:Int)+1=5\/(m:Int)+1=6\/(m:Int)+1=7:=by decide
 have:=key ⟨m,by lia⟩
 rwa [show(m)+1=x by lia]at this
def okW(x:Str):Prop:=1<=x.cps.size/\x.cps.size<=3/\∀c∈x.cps.toList,97<=c/\c<=122
theorem qP{a b:Type}(f:a->b):∀(l:List a) k,(l.map f).eraseIdx k=(l.eraseIdx k).map f
 |[],_=>rfl
 |_::_,0=>rfl
 |x::l,k+1=>by rw[YH,VD,VD,YH,qP]
theorem CA{n:Nat}{k:Int}(h:0<=k)(h1:k<n)(a:n<1000):yf n (.int k)=some k.toNat:=by
 show(if -(2^63)<=k/\k<2^63 then seqIndex? k n else none)=_;rw[Yj<|by lia];unfold seqIndex?;have e:¬k<0:=by lia
 simp[e,h1]
theorem iU{a:Type}:∀(l:List a) k h,(l[k]::l.eraseIdx k).Perm l
 |x::l,0,_=>.refl _
 |x::l,k+1,h=>by
  have:=iU l k (by simpa using h);exact(List.Perm.swap _ _ _).trans<|this.cons x
def ao(n:Int):List Int:=(List.range n.toNat).map λi:Nat=>i
def aC n:(ao n).length=n.toNat:=by simp[ao]
theorem az{n i}:i∈ao n↔0<=i/\i<n:=by
 unfold ao;rw[Ym];constructor
 ·rintro⟨k,h,rfl⟩;have:=YU.mp h;lia
 ·rintro⟨b,a⟩;exact⟨i.toNat,YU.mpr<|by lia,by lia⟩
theorem f9 n:(ao n).Nodup:=by unfold ao;rw[List.Nodup,Xs];exact(Vs).imp λh e=>h<|by lia
def rG n:cN 0 n.toNat=(ao n).map D.int:=by unfold cN ao;simp
noncomputable def dP(p:Int×Int):D:=.tup [.int p.1,.int p.2]
def okP(n:Int)(p:Int×Int):Prop:=0<=p.1/\p.1<n/\0<=p.2/\p.2<n/\p.1≠p.2
def mq{a}:mOf n 1 g [a]=bZ (g (aH n 1 [a])):=rfl
def i4{a b}:mOf n 2 g [a,b]=bZ (g (aH n 2 [a,b])):=rfl
def qS{a b c}:mOf n 3 g [a,b,c]=bZ (g (aH n 3 [a,b,c])):=rfl
def kG(h:((ao n).map D.int)[j]?=some d):d=.int j:=by
 unfold ao at h;rw[Yo,Yo]at h;cases q:(List.range n.toNat)[j]? with
 |none=>rw[q]at h;cases h
 |some k=>
  rw[q]at h;obtain⟨b,a⟩:=Yn.mp q;rw[List.getElem_range]at a;subst a;cases h;rfl
abbrev T4:=Int×Int×Int×Bool
noncomputable def dT4(t:T4):D:=.tup [.int t.1,.int t.2.1,.int t.2.2.1,.bl t.2.2.2]
def okT(n:Int)(t:T4):Prop:=0<=t.1/\t.1<n/\0<=t.2.1/\t.2.1<n/\t.1≠t.2.1/\0<=t.2.2.1/\t.2.2.1<1000000000000000000000000000000
def lI{a}{l:List a}{i:Int}(h:0<=i)(h1:i<l.length):atI l i=l[i.toNat]?:=by unfold atI ixN;rw[Yj h,Yj h1];rfl
theorem iC{a b:Type}{l:List a}(f:a->b){i:Int}(c:0<=i)(h1:i<l.length):∃x,l[i.toNat]?=some x/\atI (l.map f) i=some (f x):=by
 have h:i.toNat<l.length:=by lia
 refine⟨l[i.toNat],Yg h,?_⟩;rw[lI c<|by rwa[Yc],Yo,Yg];rfl
theorem oI{a}l(x:a):atI (l++[x]) (-1)=some x:=by
 unfold atI ixN;rw[Yl<|by decide,Yj<|by rw[Yp,YQ];lia,Yp,YQ];have:(-1+((l.length+1:Nat):Int)).toNat=l.length:=by lia
 rw[this,Ya,ZO<|Yr _,Nat.sub_self];rfl
theorem aY(a:1<=n)(p:out.Perm (ao n)):out.length=n/\out.Nodup/\∀x∈out,0<=x/\x<n:=
 ⟨by rw[p.length_eq,aC];lia,p.nodup_iff.mpr<|f9 n,λx h=>az.mp<|p.mem_iff.mp h⟩
def GY(h:out.Nodup){x y}(hi:out[i]?=some x)(f:out[j]?=some y)(a:i≠j):x≠y:=by intro e;subst e;obtain⟨l,c⟩:=Yn.mp hi;obtain⟨g,b⟩:=Yn.mp f;exact a<|(List.getElem_inj h).mp<|c.trans b.symm
theorem eI{f}(h:f ρ=some (.int n))(b:0<=n/\n<=1000):cM f ρ=some ((ao n).map .int):=by
 have a:-(2^62)<=n/\n<2^62:=by lia
 rw[Gm,h];simp only;rw[Yj a,rG]
def aj{h}(e:g ρ=some (.nx ρ')):ak g h ρ=h ρ':=by rw[ub,e]
def fD{h}{x}(e:g ρ=some (.rt x ρ')):ak g h ρ=some (.rt x ρ'):=by rw[ub,e]
noncomputable def lf(t:T4):T4:=if t.2.2.2=true\/t.1<t.2.1 then t else(t.2.1,t.1,t.2.2.1,t.2.2.2)
def KN(h:okT n t):okT n (lf t):=by
 unfold lf;split
 ·exact h
 ·obtain⟨a,b,c,d,e,f⟩:=h;exact⟨c,d,a,b,λq=>e q.symm,f⟩
def AE(ts:List T4)(h:ts.length<64):bV (ts.map dT4)=true:=by
 unfold bV;simp only[Yu,YG,Yi,Yc];refine⟨⟨⟨⟨h,?_⟩,?_⟩,?_⟩,?_⟩
 ·intro x a;obtain⟨t,_,rfl⟩:=Ym.mp a;rfl
 ·intro x a y b;obtain⟨t,_,rfl⟩:=Ym.mp a;obtain⟨u,_,rfl⟩:=Ym.mp b;rfl
 ·intro x a;obtain⟨t,_,rfl⟩:=Ym.mp a;rfl
 ·intro x a;obtain⟨t,_,rfl⟩:=Ym.mp a;rfl
def z7(ts:List Int)(h:ts.length<64):bV (ts.map D.int)=true:=by
 unfold bV;simp only[Yu,YG,Yi,Yc];refine⟨⟨⟨⟨h,?_⟩,?_⟩,?_⟩,?_⟩
 ·intro x a;obtain⟨t,_,rfl⟩:=Ym.mp a;rfl
 ·intro x a y b;obtain⟨t,_,rfl⟩:=Ym.mp a;obtain⟨u,_,rfl⟩:=Ym.mp b;rfl
 ·intro x a;obtain⟨t,_,rfl⟩:=Ym.mp a;rfl
 ·intro x a;obtain⟨t,_,rfl⟩:=Ym.mp a;rfl
def iq{b:Type}f(g:D->b)(c:∀a,g (f a)=a){l}{ts}(h:l.Perm (ts.map f)):∃us:List b,l=us.map f/\us.Perm ts:=by
 refine⟨l.map g,?_,?_⟩
 ·rw[YI]
  conv=>lhs;rw[<-VP l]
  refine Zl λx e=>?_;obtain⟨t,_,rfl⟩:=Ym.mp<|h.mem_iff.mp e;show _=f _;rw[c];rfl
 ·have:=h.map g;rwa[YI,show g ∘ f=id from funext c,VP]at this
noncomputable def MF:D->T4
 |.tup [.int a,.int b,.int k,.bl o]=>(a,b,k,o)
 |_=>(0,0,0,false)
def unI:D->Int
 |.int a=>a
 |_=>0
def Et ts:∃us:List T4,aU (ts.map dT4)=us.map dT4/\us.Perm ts:=iq dT4 MF (λ_=>rfl)<|a9 _
noncomputable def ren(out:List Int)(t:T4):T4:=((out.idxOf t.1:Int),(out.idxOf t.2.1:Int),t.2.2.1,t.2.2.2)
def kAt(ks:List Str)(x:Int):Str:=(ks[x.toNat]?).getD ⟨#[]⟩
def kg[DecidableEq κ]k k' v:∀kvs:List (κ×D),dn (e7 kvs k v) k'=if k=k' then some v else dn kvs k':=by
 intro kvs;unfold e7;split
 ·rename_i h;induction kvs with
  |nil=>simp at h
  |cons x r ih=>
   obtain⟨q,w⟩:=x;by_cases e:q=k
   ·subst e;by_cases f:q=k'
    ·simp[cw,f]
    ·have g:∀r:List<|κ×D,dn (r.map λc=>if c.1=q then(c.1,v)else c) k'=dn r k':=by
      intro r;induction r with
      |nil=>rfl
      |cons y r ih=>
       obtain⟨a,b⟩:=y;by_cases i:a=q
       ·subst i;simp[cw,f,ih]
       ·simp[cw,i,ih]
     simp[cw,f,g]
   ·have l:(r.any λc=>decide<|c.1=k)=true:=by simpa[e]using h
    have:=ih l;by_cases f:q=k'
    ·subst f;simp[cw,e,show ¬k=q from λz=>e z.symm]
    ·simp[e,cw,f];exact this
 ·rename_i h;induction kvs with
  |nil=>simp[dn]
  |cons x r ih=>
   obtain⟨q,w⟩:=x;have j:¬q=k:=by intro z;exact h<|by simp[z]
   have g:¬(r.any λc=>decide<|c.1=k)=true:=λz=>h<|by simp[z]
   have:=ih g;rw[List.cons_append,cw,cw,this];by_cases e:k=k'
   ·subst e;simp[j]
   ·simp[e]
def pq[DecidableEq κ]k v(kvs:List (κ×D)):(e7 kvs k v).length<=kvs.length+1:=by
 unfold e7;split
 ·simp
 ·simp
theorem vm x:∀out:List Int,x∈out->iK (.int x) (out.map .int)=some (out.idxOf x)
 |y::out,h=>by
  rw[YH];unfold iK;rw[jh,List.idxOf_cons];by_cases e:y=x
  ·simp[e]
  ·have a:x∈out:=by rcases Yw.mp h with rfl|h;exact absurd rfl e;exact h
   have b:(y == x)=false:=by simpa using e
   rw[vm x out a,Yl<|by simpa using e,b];rfl
def nI{c e}(f:c->e)l a b:gG (l.map f) a b=(gG l a b).map f:=by unfold gG;rw[Yc,List.map_take,List.map_drop]
def okK(n:Int)(ks:List Str):Prop:=ks.length=n/\∀k∈ks,okW k
def okS(n:Int)(ts:List T4):Prop:=ts.length<=12/\∀t∈ts,okT n t
theorem i6{c}q:∀xs:List Int,(∀x∈xs,c (ρ.set 0 (sI x))=some (q x))->0<ρ.length->b7 (setV 0) c (getV 0) ρ (xs.map .int)=some ((xs.filter q).map .int)
 |[],_,_=>rfl
 |x::xs,h,hl=>by
  have ih:=i6 q xs (λy a=>h y<|Yd _ a) hl;have b:=h x Ye;rw[YH];unfold b7;rw[Gr,Ya,b,Ya,List.filter_cons];cases q x with
  |false=>rw[Yl<|by decide,Yl<|by decide,ih]
  |true=>
   have e:getV 0 (ρ.set 0<|sI x)=some (.int x):=by unfold getV;rw[Xf hl]
   rw[Yj rfl,Yj rfl,e,Ya,ih];rfl
theorem zB{a}(l:List a)(h:0<=k):gG l (some k) none=l.drop k.toNat:=by
 unfold gG HT.sIx;simp;rw[Yl<|by lia];by_cases b:k.toNat<=l.length
 ·rw[Nat.min_eq_left b,<-XO,ZV]
 ·rw[Nat.min_eq_right<|by lia,Nat.sub_self,List.take_zero,XV<|by lia]
def vz xs ys(h:xs.length+ys.length<=16777216):aP (.lst xs) (.lst ys)=some (.lst (xs++ys)):=Yj h
def cX{it}{st}(h:it ρ=some ds)(e:e_ st g ds ρ=some r):dW it st g ρ=some r:=by rwa[Ew,h]
theorem nM C x(h:okW x):cR C [.v (.str x)]=sV (.bl true):=by
 obtain⟨w,u,g⟩:=h;have p:b7 (setV 0) bi (chD leA leA (λ_=>some<|.str "a") (am 0) λ_=>some<|.str "z") [none] (L2.signs x)=some (x.cps.toList.map λ_=>D.bl true):=by
  refine bR _ _ _ λc f=>?_;obtain⟨z,y⟩:=g c f;have e:leA (.str "a") (.str ⟨#[c]⟩)=some (.bl true):=by
   show some (D.bl<|!decide ([c] < [97]))=_;have:¬([c] < [97]):=λh=>by rcases List.cons_lt_cons_iff.mp h with h|⟨_,h⟩;lia;exact absurd h<|List.not_lt_nil _
   rw[YB this];rfl
  have l:leA (.str ⟨#[c]⟩) (.str "z")=some (.bl true):=by
   show some (D.bl<|!decide ([122] < [c]))=_;have:¬([122] < [c]):=λh=>by rcases List.cons_lt_cons_iff.mp h with h|⟨_,h⟩;lia;exact absurd h<|List.not_lt_nil _
   rw[YB this];rfl
  simp[e,l]
 have b:(L2.signs x).length<=16777216:=by unfold L2.signs;rw[Yc,YM];lia
 have o:Ai (.lst<|x.cps.toList.map λ_=>D.bl true)=some (.bl true):=by
  have s:((x.cps.toList.map λ_=>D.bl true).all xB)=true:=by simp[xB]
  have q:((x.cps.toList.map λ_=>D.bl true).all trD)=true:=by simp[trD]
  show(if((x.cps.toList.map λ_=>D.bl true).all xB)=true then some (D.bl _)else none)=_;rw[Yj s,q]
 have m:bF (.str x)=some (.int x.cps.size):=Yj (show x.cps.size<=16777216 by lia);have a:aN 1 [] (vR<|getV 0) (setV 0) bi (chD leA leA (λ_=>some<|.str "a") (am 0) λ_=>some<|.str "z") [sV<|.str x,none]=some (x.cps.toList.map λ_=>D.bl true):=by have:vR (getV 0) [sV<|.str x,none]=some _:=rfl;rwa[bp,this,Ya,Yj b]
 unfold cR iI;have j:1<=(x.cps.size:Int):=by lia
 have i:(x.cps.size:Int)<=3:=by lia
 simp[a,o,m,j,i]
def Hk C t n(h:okT n t):gY C [.v (dT4 t),.v (.int n)]=sV (.bl true):=by
 obtain⟨a,b,k,o⟩:=t;obtain⟨l,j,g,b1,i,e,c⟩:=h;have q:atI [D.int a,.int b,.int k,.bl o] 0=some _:=rfl;have p:atI [D.int a,.int b,.int k,.bl o] 1=some _:=rfl;have m:atI [D.int a,.int b,.int k,.bl o] 2=some _:=rfl;have f:dJ C [.v<|.int k]=sV (.bl true):=by simp[dJ,jB,e,c]
 unfold gY v8;simp[dT4,ix2,q,p,m,l,j,g,b1,i,f]
theorem Ap C ks ts n(e:1<=n/\n<=7)(f:okK n ks)(hs:okS n ts):cZ C [.v (.lst (ks.map .str)),.v (.lst (ts.map dT4))]=sV (.non):=by
 have i:=nM C;have g:=λt h=>Hk C t n h
 unfold cZ i7;generalize cR C=P at i ⊢;generalize gY C=T at g ⊢;have b:=f.1;have o:=e.1;have m:=e.2;have l:¬12<(ts.length:Int):=by have:=hs.1;lia
 have q:∀G,(ak (dIf (eA<|asB<|chD leA leA (cI 1) (d1 bF<|am 0)<|cI 7) kR dNx)<|ak (dIf (asB<|d2 gtI (d1 bF<|am 1)<|cI 12) kR dNx) G) (aH 4 2 [.v<|.lst<|ks.map .str,.v<|.lst<|ts.map dT4])=G [sV<|.lst<|ks.map .str,sV<|.lst<|ts.map dT4,none,none]:=by intro G;simp[b,o,m,l]
 obtain⟨u,s,y,rfl⟩:=nU (st:=setV 2) (body:=(dIf (eA<|asB<|al P<|aV (getV 2) nA) kR dNx)) (λρ=>∃x,ρ=[sV _,sV _,x,none]) (ρ:=[sV _,sV _,none,none]) ⟨_,rfl⟩ (by
  rintro d c _ ⟨x,rfl⟩;obtain⟨k,a,rfl⟩:=Ym.mp c;have:=i k<|f.2 k a;refine⟨[sV _,sV _,sV<|.str k,none],rfl,[sV<|.lst<|ks.map .str,sV<|.lst<|ts.map dT4,sV<|.str k,none],?_,_,rfl⟩;simp[this])
 obtain⟨z,p,w,rfl⟩:=nU (st:=setV 3) (body:=(dIf (eA<|asB<|al T<|aB 3<|aV (d1 bF<|am 0) nA) kR dNx)) (λρ=>∃j,ρ=[sV _,sV _,y,j]) (ρ:=[sV _,sV _,y,none]) ⟨_,rfl⟩ (by
  rintro d c _ ⟨x,rfl⟩;obtain⟨k,a,rfl⟩:=Ym.mp c;have:=g k<|hs.2 k a;refine⟨[sV _,sV _,y,sV<|dT4 k],rfl,[sV<|.lst<|ks.map .str,sV<|.lst<|ts.map dT4,y,sV<|dT4 k],?_,_,rfl⟩;simp[b,this])
 rw[i4,q,aj<|cX rfl s,cX rfl p];rfl
def AF C t:da C [.v (dT4 t)]=sV (dT4 (lf t)):=by
 obtain⟨a,b,k,o⟩:=t;have g:atI [D.int a,.int b,.int k,.bl o] 0=some _:=rfl;have f:atI [D.int a,.int b,.int k,.bl o] 1=some _:=rfl;have c:atI [D.int a,.int b,.int k,.bl o] 2=some _:=rfl;have e:atI [D.int a,.int b,.int k,.bl o] 3=some _:=rfl;unfold da jd;cases o with
 |true=>simp[dT4,ix2,e,lf]
 |false=>
  by_cases h:a<b
  ·simp[dT4,ix2,g,f,e,lf,h]
  ·simp[dT4,ix2,g,f,c,e,lf,h]
def uz(ts:List (Int×Int))(h:ts.length<64):bV (ts.map dP)=true:=by
 unfold bV;simp only[Yu,YG,Yi,Yc];refine⟨⟨⟨⟨h,?_⟩,?_⟩,?_⟩,?_⟩
 ·intro x a;obtain⟨t,_,rfl⟩:=Ym.mp a;rfl
 ·intro x a y b;obtain⟨t,_,rfl⟩:=Ym.mp a;obtain⟨u,_,rfl⟩:=Ym.mp b;rfl
 ·intro x a;obtain⟨t,_,rfl⟩:=Ym.mp a;rfl
 ·intro x a;obtain⟨t,_,rfl⟩:=Ym.mp a;rfl
noncomputable def unP:D->Int×Int
 |.tup [.int a,.int b]=>(a,b)
 |_=>(0,0)
def u3{fk} :rP j fk fv ρ=match ρ[j]? with
 |some (some<|.own (.dT kvs) t)=>(fv ρ).bind λv=>(fk ρ).bind λy=>(j5 y).bind λk=>if kvs.length<16777216 then some (.nx<|ρ.set j<|oW (.dT<|e7 kvs k v) t)else none
 |_=>none:=rfl
def o_{fd fk} :kH fd fk fx ρ=match fd ρ with
 |some (.dT kvs)=>(fk ρ).bind λy=>(j5 y).bind λk=>(fx ρ).map λx=>(dn kvs k).getD x
 |_=>none:=rfl
noncomputable def wFs(ks:List Str)(T J:D):List (Str×D):=[("kinds",.lst<|ks.map .str),("ties",T),("joins",J)]
theorem n1:¬(("kinds":Str) = "ties"):=by decide+kernel
theorem n2:¬(("kinds":Str) = "joins"):=by decide+kernel
theorem n3:¬(("ties":Str) = "joins"):=by decide+kernel
theorem b1:(("ties":Str) == "kinds")=false:=by decide+kernel
theorem b2:(("size":Str) == "kinds")=false:=by decide+kernel
theorem b3:(("size":Str) == "ties")=false:=by decide+kernel
theorem b4:(("size":Str) == "joins")=false:=by decide+kernel
def tW:gC C n (.ins C fs)=fs.lookup n:=Yj rfl
def lR C ks T J:gC C "kinds" (.ins C (wFs ks T J))=some (.lst (ks.map .str)):=by rw[tW];unfold wFs;simp
def Bt(C:Addr)(ks:List Str)(T J:D):gC C "ties" (.ins C (wFs ks T J))=some T:=by rw[tW];unfold wFs;simp[List.lookup,b1]
def Fe ks T J:(wFs ks T J).lookup ("size":Str)=none:=by unfold wFs;simp[List.lookup,b2,b3,b4]
def BF  :qz C i n fv ρ=match ρ[i]? with
 |some (some<|.own (.ins C' fs) t)=>if C'=C then(fv ρ).bind λd=>if fs.length<1000 then some (.nx<|ρ.set i<|oW (.ins C<|oP n d fs) t)else none else none
 |_=>none:=rfl
def srt(ts:List T4):List D:=aU<|(ts.map lf).map dT4
def vN(r:List Int):okN 30 (.lst (r.map .int))=true:=by show(r.map D.int).all _=true;rw[Yi];intro x h;obtain⟨t,_,rfl⟩:=Ym.mp h;rfl
theorem vn:∀a b:List Int,bc (a.map .int) (b.map .int)=true
 |[],_=>rfl
 |_::_,[]=>rfl
 |x::a,y::b=>by
  show(aw _ _&&bc _ _)=true;rw[vn];rfl
def wf{a b:List Int}(h:a.map D.int=b.map D.int):a=b:=by have:=YR (List.map unI) h;rwa[YI,YI,show unI ∘ D.int=id from rfl,VP,VP]at this
theorem BT{n:Int}{r:List Int}(c:1<=n)(p:r.Perm (ao n)){t:T4}(h:okT n t):okT n (ren r t):=by
 obtain⟨x,y,w⟩:=aY c p;obtain⟨u,s,o,b1,q,a⟩:=h;have g:t.1∈r:=p.mem_iff.mpr (az.mpr ⟨u,s⟩);have f:t.2.1∈r:=p.mem_iff.mpr (az.mpr ⟨o,b1⟩);have b:=List.idxOf_lt_length_of_mem g;have i:=List.idxOf_lt_length_of_mem f;refine⟨Int.natCast_nonneg _,by show((r.idxOf t.1:Nat):Int)<n;omega,Int.natCast_nonneg _,by show((r.idxOf t.2.1:Nat):Int)<n;omega,?_,a⟩;intro e;have m:r.idxOf t.1=r.idxOf t.2.1:=by have:((r.idxOf t.1:Nat):Int)=((r.idxOf t.2.1:Nat):Int):=e;omega
 have l:=List.getElem_idxOf b;have j:=List.getElem_idxOf i;apply q;rw[<-l,<-j];simp only[m]
theorem DH{r:List Int}(e:1<=n)(b:okK n ks)(p:r.Perm (ao n)):okK n (r.map (kAt ks)):=by
 obtain⟨g,m,f⟩:=aY e p;refine⟨by rwa[Yc],λk h=>?_⟩;obtain⟨x,c,rfl⟩:=Ym.mp h;obtain⟨l,j⟩:=f x c;have i:=b.1;have a:x.toNat<ks.length:=by lia
 unfold kAt;rw[Yg a];exact b.2 _<|Xw a
theorem f6{c:Type}f(h:∀x y,aw (f x) (f y)=true):∀a b:List c,bc (a.map f) (b.map f)=true
 |[],_=>rfl
 |_::_,[]=>rfl
 |x::a,y::b=>by
  show(aw (f x) (f y)&&bc _ _)=true;rw[f6 f h a b,h];rfl
def Cj{b:Type}f(h:∀x y,aw (f x) (f y)=true)(a:List b):eqd (.lst (a.map f)) (.lst (a.map f))=true:=(j7 _ _<|f6 f h a a).mpr rfl
theorem Cl{n:Int}{ks:List Str}(h:okK n ks):okN 30 (.lst (ks.map .str))=true:=by show(ks.map D.str).all (okN 29)=true;rw[Yi];intro x a;obtain⟨k,b,rfl⟩:=Ym.mp a;show PyData.strOk k=true;unfold PyData.strOk;rw[<-Array.all_toList,Yi];intro c e;have:=(h.2 k b).2.2 c e;exact YS (by omega)
def tq{x}(hx:okN 30 x=true)(h:okN 30 y=true):eqD x y=some (.bl (eqd x y)):=Yj<|by rw[hx,h];rfl
def BI{x}(hx:okN 30 x=true)(h:okN 30 y=true):neD x y=some (.bl (!eqd x y)):=Yj<|by rw[hx,h];rfl
def Js(ps:List (Int×Int)):Cmps 28 (ps.map dP):=
 ⟨λx h=>by obtain⟨t,_,rfl⟩:=Ym.mp h;rfl,λx h y a=>by obtain⟨t,_,rfl⟩:=Ym.mp h;obtain⟨u,_,rfl⟩:=Ym.mp a;rfl⟩
noncomputable def prs(i j:Int)(t:T4):List (Int×Int):=(if t.1=i/\t.2.1=j then[(t.2.2.1,if t.2.2.2=true then 1 else 0)]else[])++(if t.2.1=i/\t.1=j then[(t.2.2.1,if t.2.2.2=true then 2 else 0)]else[])
def aX(i j:Int):List T4->List (Int×Int)
 |[]=>[]
 |t::ts=>prs i j t++aX i j ts
def srP(ps:List (Int×Int)):D:=.tup<|aU<|ps.map dP
def kt{ps q}(h:ps.Perm q):srP ps=srP q:=by unfold srP;rw[h_ (h.map dP)<|Js _]
def CM i j ts us:aX i j (ts++us)=aX i j ts++aX i j us:=by
 induction ts with
 |nil=>rfl
 |cons t ts ih=>
  show prs i j t++aX i j (ts++us)=prs i j t++aX i j ts++aX i j us;rw[ih,Zi]
def uw i j ts t:aX i j (ts++[t])=aX i j ts++prs i j t:=by rw[CM];show _++(prs i j t++[])=_;rw[YZ]
def zO{i j}{us}(h:ts.Perm us):(aX i j ts).Perm (aX i j us):=by
 induction h with
 |nil=>exact .refl _
 |cons t _ ih=>exact ih.append_left _
 |swap a b l=>
  show(prs i j b++(prs i j a++aX i j l)).Perm<|prs i j a++(prs i j b++aX i j l);rw[<-Zi,<-Zi];exact List.perm_append_comm.append_right _
 |trans _ _ h1 h2=>exact h1.trans h2
def Ie i j t(h:t.1≠t.2.1):prs i j (lf t)=prs i j t:=by
 obtain⟨a,b,k,o⟩:=t;unfold lf;split
 ·rfl
 ·rename_i q;have f:o=false:=by cases o with|false=>rfl|true=>exact absurd (Or.inl rfl) q
  subst f;unfold prs;by_cases e:a=i/\b=j
  ·have c:¬(b=i/\a=j):=λz=>h<|by rw[e.1,<-z.1]
   simp[e];simp[e]at c;split
   ·rename_i z;exact absurd z.2<|c z.1
   ·rfl
  ·by_cases c:b=i/\a=j
   ·simp[c];simp[c]at e;split
    ·rename_i z;exact absurd z.2<|e z.1
    ·rfl
   ·simp[c]
def EN i j ts(h:∀t∈ts,t.1≠t.2.1):aX i j (ts.map lf)=aX i j ts:=by
 induction ts with
 |nil=>rfl
 |cons t ts ih=>
  show prs i j (lf t)++aX i j _=prs i j t++aX i j ts;rw[Ie i j t<|h t Ye,ih λu a=>h u<|Yd _ a]
theorem Gu i j t:(prs i j t).length<=2:=by
 unfold prs;rw[Yp];have h:∀c [Decidable c] (x:Int×Int),(if c then[x]else[]).length<=1:=λc _ x=>by split<;>simp
 have:=h (t.1=i/\t.2.1=j) (t.2.2.1,if t.2.2.2=true then 1 else 0);have:=h (t.2.1=i/\t.1=j) (t.2.2.1,if t.2.2.2=true then 2 else 0);lia
theorem j4 i j ts:(aX i j ts).length<=2*ts.length:=by
 induction ts with
 |nil=>exact Yr _
 |cons t ts ih=>
  show(prs i j t++aX i j ts).length<=2*(ts.length+1);rw[Yp];have:=Gu i j t;lia
def JOk(kvs:List (List Key×D))(ts:List T4):Prop:=∀i j:Int,dn kvs [.inl i,.inl j]=if aX i j ts=[]then none else some<|srP<|aX i j ts
def JOk.get(h:JOk kvs ts)i j:(dn kvs [.inl i,.inl j]).getD (.tup [])=srP (aX i j ts):=by
 rw[h];split
 ·rename_i q;rw[q];rfl
 ·rfl
def tJ{a b i j}(h:¬(a=i/\b=j)):¬([.inl a,.inl b]:List Key)=[.inl i,.inl j]:=by intro q;injection q with q1 q2;injection q2 with q2 _;exact h ⟨UF q1,UF q2⟩
theorem KO C kvs a b k f ps(l:(dn kvs [.inl a,.inl b]).getD (.tup [])=srP ps)(pl:ps.length<=50)(j:kvs.length<1000) :
  eW C (.dT kvs) [.v<|.tup [.int a,.int b],.v<|.tup [.int k,.int f]]=some (.dT<|e7 kvs [.inl a,.inl b]<|srP<|ps++[(k,f)],.non):=by
 obtain⟨u,o,g⟩:=iq dP unP (λ_=>rfl)<|a9<|ps.map dP;have e:=l.trans<|YR D.tup o;have q:u.length<=50:=by rwa[g.length_eq]
 have m:aP (.tup<|u.map dP) (.tup [.tup [.int k,.int f]])=some (.tup<|(u++[(k,f)]).map dP):=by rw[Za];exact Yj<|by rw[Yc];show u.length+1<=_;lia
 have c:=uz (u++[(k,f)]) (by rw[Yp,YQ];lia);have i:D.tup _=srP (ps++[(k,f)]):=kt<|g.append_right _;rw[<-i];refine yI rfl rfl λp=>⟨.nx [oW _ _,sV<|.tup [.int a,.int b],sV<|.tup [.int k,.int f]],?_,rfl,rfl⟩
 have h:kvs.length<16777216:=by lia
 generalize (u++[(k,f)]).map dP=L,u.map dP=s at *;unfold pI;simp[u3,o_,j5,gI,iP,e,m,kx,c,jO,h]
def J4 a b k o(h:a≠b):prs a b (a,b,k,o)=[(k,if o=true then 1 else 0)]:=by show(if a=a/\b=b then[(k,if o=true then 1 else 0)]else[])++(if b=a/\a=b then[(k,if o=true then 2 else 0)]else[])=_;rw[Yj<|⟨rfl,rfl⟩,Yl (λz:b=a/\a=b=>h z.2)];rfl
def Ky a b k o(h:a≠b):prs b a (a,b,k,o)=[(k,if o=true then 2 else 0)]:=by show(if a=b/\b=a then[(k,if o=true then 1 else 0)]else[])++(if b=b/\a=a then[(k,if o=true then 2 else 0)]else[])=_;rw[Yj (⟨rfl,rfl⟩:b=b/\a=a),Yl (λz:a=b/\b=a=>h z.1)];rfl
def Kn i j a b k o(h1:¬(b=i/\a=j))(h2:¬(a=i/\b=j)):prs i j (a,b,k,o)=[]:=by show(if a=i/\b=j then[(k,if o=true then 1 else 0)]else[])++(if b=i/\a=j then[(k,if o=true then 2 else 0)]else[])=_;rw[Yl h2,Yl h1];rfl
def JOk.step(h:JOk kvs ts)a b k o(c:a≠b) :
  JOk (e7 (e7 kvs [.inl a,.inl b]<|srP<|aX a b ts++[(k,if o=true then 1 else 0)]) [.inl b,.inl a]<|srP<|aX b a ts++[(k,if o=true then 2 else 0)]) (ts++[(a,b,k,o)]):=by
 intro i j;rw[uw,kg,kg];by_cases f:b=i/\a=j
 ·obtain⟨rfl,rfl⟩:=f;rw[Ky a b k o c];generalize (k,if o=true then(2:Int)else 0)=q;rw[Yj rfl,Yl<|by simp]
 ·rw[Yl<|tJ f];by_cases e:a=i/\b=j
  ·obtain⟨rfl,rfl⟩:=e;rw[J4 a b k o c];generalize (k,if o=true then(1:Int)else 0)=q;rw[Yj rfl,Yl<|by simp]
  ·rw[Yl<|tJ e,h,Kn i j a b k o f e,YZ]
def pM{a:Type}{l:List a}{x}(h:l[j]?=some x):l.take (j+1)=l.take j++[x]:=by rw[VI,h];rfl
theorem Eh C ts(T:ts.length<=12)(hd:∀t∈ts,t.1≠t.2.1):∃kvs,f_ C [.v (.lst (ts.map dT4))]=oW (.dT kvs) none/\JOk kvs ts:=by
 have m:=KO C;unfold f_ oK;generalize eW C=M at m ⊢;obtain⟨z,e,kvs,S,R,Q,P,rfl,A,h⟩:=dQ (st:=jM [2,3,4,5]) (body:=(ak (iZ K0 1 M<|aV (asT<|ag (getV 2)<|ag (getV 3) aA)<|aV (asT<|ag (getV 4)<|ag (ifV (asB<|getV 5) (cI 1)<|cI 0) aA) nA)
 <|iZ K0 1 M<|aV (asT<|ag (getV 3)<|ag (getV 2) aA)<|aV (asT<|ag (getV 4)<|ag (ifV (asB<|getV 5) (cI 2)<|cI 0) aA) nA))
  (λj E=>∃(kvs:List _) (y w u x:Option DV),E=[sV _,oW (.dT kvs) none,y,w,u,x]/\kvs.length<=2*j/\JOk kvs (ts.take j)) (ts.map dT4) 0
  [sV _,oW _ none,none,none,none,none] ⟨[],_,_,_,_,rfl,Yr _,λ_ _=>rfl⟩ (by
   rintro j d _ i ⟨kvs,y,w,u,x,rfl,A,h⟩;rw[Zf]at A h ⊢;rw[Yo]at i;cases g:ts[j]? with
   |none=>rw[g]at i;cases i
   |some t=>
   rw[g]at i;cases i;have O:=(Yn.mp g).1;obtain⟨a,b,k,o⟩:=t;have l:=hd _<|YJ g;have N:=j4 a b<|ts.take j;have L:=j4 b a<|ts.take j;have K:(ts.take j).length<=12:=by rw[Zu];lia
   have q:=m kvs a b k (if o=true then 1 else 0) _ (h.get a b) (by lia) (by lia);have J:=pq [.inl a,.inl b] (srP<|aX a b (ts.take j)++[(k,if o=true then 1 else 0)]) kvs;have B:(dn (e7 kvs [.inl a,.inl b]<|srP<|aX a b (ts.take j)++[(k,if o=true then 1 else 0)]) [.inl b,.inl a]).getD (.tup [])=srP (aX b a<|ts.take j):=by rw[kg,Yl<|tJ λz=>l z.1];exact h.get b a
   have p:=m _ b a k (if o=true then 2 else 0) _ B (by lia) (by lia);have s:=h.step a b k o l;rw[<-pM g]at s;have I:=pq [.inl b,.inl a] (srP<|aX b a (ts.take j)++[(k,if o=true then 2 else 0)])<|e7 kvs [.inl a,.inl b]<|srP<|aX a b (ts.take j)++[(k,if o=true then 1 else 0)];generalize e7 kvs [.inl a,.inl b] _=f at *;generalize e7 f [.inl b,.inl a] _=c at *;refine⟨[sV _,oW _ none,sI a,sI b,sI k,sV _],rfl,[sV<|.lst<|ts.map dT4,oW _ none,sI a,sI b,sI k,sV<|.bl o],?_,c,_,_,_,_,rfl,by lia,s⟩;cases o with
   |true=>
    simp at q p;simp[iZ,t7,El,q,p]
   |false=>
    simp at q p;simp[iZ,t7,El,q,p])
 rw[Zf,Yc,ZV]at h;refine⟨kvs,?_,h⟩;rw[mq];have H:bH 1 (λ_=>some _) (aH 6 1 [.v _])=some (.nx [sV<|.lst<|ts.map dT4,oW (.dT []) none,none,none,none,none]):=rfl;rw[aj H,aj<|cX (ds:=ts.map dT4) rfl e];rfl
def JOk.perm{us}(h:JOk kvs us)(p:∀i j,(aX i j us).Perm (aX i j ts)):JOk kvs ts:=by
 intro i j;have a:=p i j;rw[h,kt a];by_cases q:aX i j us=[]
 ·rw[q]at a;rw[Yj q,Yj a.symm.eq_nil]
 ·rw[Yl q,Yl λz=>q<|by rw[z]at a;exact a.eq_nil]
theorem Ju C ks ts n(w:1<=n/\n<=7)(x:okK n ks)(hs:okS n ts):∃kvs,JOk kvs ts/\dh C (.ins C []) [.v (.lst (ks.map .str)),.v (.lst (ts.map dT4))]=some (.ins C (wFs ks (.lst (srt ts)) (.dT kvs)),.non):=by
 have g:=Ap C ks ts n w x hs;have l:=AF C;obtain⟨a,o,b⟩:=Et<|ts.map lf;have z:=λt h=>(hs.2 t h).2.2.2.2.1
 obtain⟨kvs,m,B⟩:=Eh C a (by rw[b.length_eq,Yc];exact hs.1) (λt h=>by
  obtain⟨u,s,rfl⟩:=Ym.mp<|b.mem_iff.mp h;exact(KN<|hs.2 u s).2.2.2.2.1)
 have e:=AE (ts.map lf) (by rw[Yc];have:=hs.1;lia);refine⟨kvs,B.perm λi j=>?_,yI rfl rfl λH=>⟨.nx [oW _ _,sV<|.lst<|ks.map .str,sV<|.lst<|ts.map dT4],?_,rfl,rfl⟩⟩
 ·have:=zO (i:=i) (j:=j) b
  rwa [EN i j ts z]at this
 unfold l0;generalize da C=L at l ⊢;have c:srt ts=a.map dT4:=o;rw[c];have p:b7 (setV 0) bi (al L<|aV (getV 0) nA) [none] (ts.map dT4)=some ((ts.map lf).map dT4):=by
  rw[YI];refine bR dT4 _ ts λt _=>⟨[sV _],rfl,rfl,?_⟩
  simp[l]
 have q:ts.length<=16777216:=by have:=hs.1;lia
 generalize (ts.map lf).map dT4=X at *;have y:∀fs:List<|Str×D,gC C "ties" (.ins C [("kinds",.lst<|ks.map .str),("ties",.lst<|a.map dT4)])=some (.lst<|a.map dT4):=by intro _;rw[tW];simp[List.lookup,b1]
 have f:=y [];generalize a.map dT4=Y,hX:ts.map dT4=Z at *;have A:Z.length<=16777216:=by rwa[<-hX,Yc]
 simp[g,BF,oP,kx,bp,A,p,e,o,f,m,n1,n2,n3,wFs]
def Hh C ks ts n(a:1<=n/\n<=7)(b:okK n ks)(hs:okS n ts):∃kvs,JOk kvs ts/\∀g ρ,g ρ=some [.v (.lst (ks.map .str)),.v (.lst (ts.map dT4))]->lY C (dh C) g ρ=some (.ins C (wFs ks (.lst (srt ts)) (.dT kvs))):=by obtain⟨J,h,e⟩:=Ju C ks ts n a b hs;refine⟨J,h,λg ρ h=>?_⟩;unfold lY;rw[h,Ya,e];rfl
def GP a b i j:eqD (.tup [.int a,.int b]) (.tup [.int i,.int j])=some (.bl (decide (a=i/\b=j))):=by
 rw[tq rfl rfl];have h:=cE (.tup [.int a,.int b]) (.tup [.int i,.int j]) rfl;by_cases e:a=i/\b=j
 ·rw[YS e,h.mpr<|by rw[e.1,e.2]]
 ·rw[YB e];cases q:eqd _ (.tup [.int i,.int j])with
  |false=>rfl
  |true=>exact absurd (by simpa using h.mp q) e
def FS o:u6 (.bl o)=some (.int (if o=true then 1 else 0)):=rfl
theorem b8:(("between":Str) == "kinds")=false:=by decide+kernel
theorem b9:(("between":Str) == "ties")=false:=by decide+kernel
theorem b10:(("between":Str) == "joins")=false:=by decide+kernel
theorem b11:(("joins":Str) == "kinds")=false:=by decide+kernel
theorem b12:(("joins":Str) == "ties")=false:=by decide+kernel
def zV C ks T J:gC C "joins" (.ins C (wFs ks T J))=some J:=by rw[tW];simp[wFs,List.lookup,b11,b12]
def nP ks T J:(wFs ks T J).lookup ("between":Str)=none:=by simp[wFs,List.lookup,b8,b9,b10]
def sY(h:(wFs ks T J).lookup mn=none)xs:mS C mn (.v (.ins C (wFs ks T J))::xs)=true:=by show(match(if C=C then some (wFs ks T J)else none)with|some fs=>(fs.lookup mn).isNone|none=>false)=true;rw[Yj rfl];simp only;rw[h];rfl
def yC C ks T J n(b:ks.length=n)ρ(h:ρ[0]?=some (sV (.ins C (wFs ks T J)))):bJ C "size" (c_ C) (b_ (cD 0) g0) ρ=some (.int n):=by
 have c:c_ C [.v<|.ins C<|wFs ks T J]=sI n:=by have:=lR C ks T J;simp[c_,n4,this,b]
 have a:b_ (cD 0) g0 ρ=some [.v<|.ins C<|wFs ks T J]:=by unfold b_ cD g0;rw[h];rfl
 unfold bJ;rw[a,Ya,Yj<|sY (Fe ks T J) _,c];rfl
def nr(ts:List T4)(n p:Int):List Int:=(ao n).filter λo=>!decide (aX p o ts=[])
def n6 C ks T kvs ts i j(b:JOk kvs ts) :
  cC C [.v<|.ins C<|wFs ks T<|.dT kvs,.v<|.int i,.v<|.int j]=sV (srP<|aX i j ts):=by
 have a:=zV C ks T<|.dT kvs;have h:=b.get i j;simp[cC,jC,o_,a,j5,gI,iP,h]
theorem AV{f}{left order:List Int}(a:i≠j)(l:ρ[j]?=some (oW (.lst (left.map .int)) none))(hi:ρ[i]?=some (oW (.lst (order.map .int)) none))(o:f ρ=some (.int k))(p:0<=k)(h1:k<(left.length:Int))(g:left.length<1000)(q:order.length<1000) :
  ∃(m:Nat) (s:m<left.length),iw i j f ρ=some (.nx<|(ρ.set j<|oW (.lst<|(left.eraseIdx m).map .int) none).set i<|oW (.lst<|(order++[left[m]]).map .int) none):=by
 have c:k.toNat<left.length:=by lia
 have e:=CA p h1 g;have b:(left.map D.int)[k.toNat]?=some (.int left[k.toNat]):=by rw[Yo,Yg];rfl
 refine⟨k.toNat,c,?_⟩;have h:xA j f ρ=some (ρ.set j<|oW (.lst<|(left.eraseIdx k.toNat).map .int) none,.int left[k.toNat]):=by unfold xA;rw[l];simp only[o,Ya,Yc,e,b,qP];rfl
 unfold iw;rw[h,Ya];rw[Zy<|XS a,hi];simp only;rw[Yj ⟨a,by rw[Yc];lia⟩,Za];rfl
def rB{st}(h1:st d ρ=some ρ1)(h2:body ρ1=some (.nx ρ2)):e_ st body (d::ds) ρ=e_ st body ds ρ2:=by
 conv=>lhs;unfold e_
 rw[h1];simp[h2]
def ox(out:List Int)(i:Int):Int:=(out[i.toNat]?).getD 0
def kY(b:1<=n)(p:out.Perm (ao n)){i}(h:0<=i/\i<n):atI (out.map D.int) i=some (.int (ox out i))/\0<=ox out i/\ox out i<n:=by
 obtain⟨f,_,c⟩:=aY b p;obtain⟨x,a,e⟩:=iC (l:=out) D.int h.1 (by rw[f];exact h.2);have:ox out i=x:=by unfold ox;rw[a];rfl
 rw[this];exact⟨e,c x<|YJ a⟩
def xS(f:1<=n)(p:out.Perm (ao n)){i j}(hi:0<=i/\i<n)(a:0<=j/\j<n)(h:i≠j):ox out i≠ox out j:=by obtain⟨e,g,_⟩:=aY f p;obtain⟨x,c,_⟩:=iC (l:=out) D.int hi.1 (by rw[e];exact hi.2);obtain⟨y,b,_⟩:=iC (l:=out) D.int a.1 (by rw[e];exact a.2);unfold ox;rw[c,b];exact GY g c b λz=>h<|by rw[<-XM hi.1,z,XM a.1]
def GO{g}{es}(h:ρ[i]?=some (oW (.lst ds) t))(b:g ρ=some es)(a:ds.length+es.length<=16777216):zH i g ρ=some (.nx (ρ.set i (oW (.lst (ds++es)) t))):=by unfold zH;rw[h];simp;rw[b,Ya,Yj a]
def zp{f}(h:ρ[i]?=some (oW (.lst ds) t))(b:f ρ=some d)(a:ds.length<16777216):cV i f ρ=some (.nx (ρ.set i (oW (.lst (ds++[d])) t))):=by rw[F9,h];simp;rw[b,Ya,Yj a]
def c7:List Int->List (Int×Int)
 |[]=>[]
 |x::xs=>xs.map (λy=>(x,y))++c7 xs
def dw(ts:List T4)(p:Int×Int):D:=srP<|aX p.1 p.2 ts
theorem nR:∀r:List Int,(c7 r).length<=r.length*r.length
 |[]=>Yr _
 |x::xs=>by
  have:=nR xs;show(xs.map _++c7 xs).length<=(xs.length+1)*(xs.length+1);rw[Yp,Yc,Nat.succ_mul,Nat.mul_succ];lia
def yO{r:List Int}{x}(h:r[i]?=some x):r.drop i=x::r.drop (i+1):=by obtain⟨a,e⟩:=Yn.mp h;rw[Xk a,e]
noncomputable def rks (ds:List D):List Int:=ds.map λd=>(rkD (bh ds) d)
def kB ds:(rks ds).length=ds.length:=Yc ..
def CJ:∀n d,okN n d=true->okN (n+1) d=true:=by
 intro n;induction n with
 |zero=>
  intro d h;cases d with
  |tup xs=>cases xs with
   |nil=>rfl
   |cons x r=>cases h
  |lst xs=>cases xs with
   |nil=>rfl
   |cons x r=>cases h
  |_=>exact h
 |succ n ih=>
  intro d h;cases d with
  |tup xs=>exact Yi.mpr λx a=>ih x<|Yi.mp h x a
  |lst xs=>exact Yi.mpr λx a=>ih x<|Yi.mp h x a
  |_=>exact h
def pG(h:n<=m)(hd:okN n d=true):okN m d=true:=by
 induction h with
 |refl=>exact hd
 |step _ ih=>exact CJ _ _ ih
theorem rm C ds(m:di ds=true\/c9 ds=true\/fE ds=true)(hs:bV (bh ds)=true)(i:Cmps 28 ds)(p:ds.length<=100):fM C [.v (.lst ds)]=oW (.lst ((rks ds).map .int)) none:=by
 have l:∀d∈aU _,d∈ds:=λd h=>ca.mp<|(a9 _).mem_iff.mp h
 have b:(aU _).all (okN 29)=true:=Yi.mpr λd h=>pG (by decide)<|i.1 d<|l d h
 have g:∀d∈ds,gZ (.lst _) d=some _:=λd h=>by
  show(if((aU _).all _&&okN 30 d)=true then(iK d<|aU<|bh ds).map (λ(j:Nat)=>D.int _)else none)=_;rw[b,pG (by decide)<|i.1 d h,Bool.and_self,Yj rfl,yv i h];rfl
 have o:b7 (setV 0) bi (d2 gZ (am 1)<|am 0) [none,sV<|.lst<|aU<|bh ds] ds=some ((rks ds).map .int):=by
  have:=bR (st:=setV 0) (c:=bi) (e:=d2 gZ (am 1)<|am 0) (ρ:=[none,sV<|.lst _]) id _ ds λd h=>⟨_,rfl,rfl,by
   exact g d h⟩
  rw[VP]at this;rw[this];unfold rks;rw[YI];rfl
 have a:kW (af 0) [sV<|.lst ds,none]=some (aU<|bh ds):=by show(if(di ds=true\/c9 ds=true\/fE ds=true)/\bV _=true then some (aU _)else none)=_;rw[Yj ⟨m,hs⟩]
 have f:ds.length<=16777216:=by lia
 unfold fM vK;rw[mq,show aH 2 1 [.v _]=[sV _,none]from rfl,ub,gn,fQ,cW,a];show bZ (dI _ [sV _,sV _])=_;show bZ ((((if ds.length<=16777216 then b7 _ _ _ [none,sV<|.lst _] ds else none)).map OD.lst).map _)=_;rw[Yj f,o];rfl
def prD(ps:List Int)(ts:List T4)(i j:Int):D:=.tup [.int<|ox ps j,srP<|aX i j ts]
def oth(n i:Int):List Int:=(ao n).filter λj=>!decide (j=i)
def kyD(ps:List Int)(ts:List T4)(n i:Int):D:=.tup [.int<|ox ps i,.tup<|aU<|(oth n i).map<|prD ps ts i]
theorem CY{ps}{n i}(c:ps.length=n)(h:0<=i/\i<n):ixD (.lst (ps.map .int)) (.int i)=some (.int (ox ps i)):=by obtain⟨x,b,a⟩:=iC (l:=ps) D.int h.1 (by lia);rw[ix1,a];unfold ox;rw[b];rfl
def yV{n i j}:j∈oth n i↔(0<=j/\j<n)/\j≠i:=by unfold oth;rw[Zx,az];simp
def yw{m:Nat}(ps:List (Int×Int))(P:D->Prop)(h:∀p,P (dP p)):∀d∈aU (ps.map dP),P d:=λd a=>by
 obtain⟨p,_,rfl⟩:=Ym.mp<|(a9 _).mem_iff.mp a;exact h p
def Gg ps:okN 2 (srP ps)=true:=Yi.mpr<|yw (m:=0) ps _ λp=>rfl
def Fq ps:hkN 2 (srP ps)=true:=Yi.mpr<|yw (m:=0) ps _ λp=>rfl
theorem jE:∀xs ys,(∀x∈xs,∀y∈ys,aw x y=true)->bc xs ys=true
 |[],_,_=>by simp[bc]
 |_::_,[],_=>by simp[bc]
 |x::xs,y::ys,h=>by
  rw[bc,Yu];exact⟨h x Ye y Ye,jE xs ys λa e b c=>h a (Yd _ e) b<|Yd _ c⟩
def AR a b:aw (srP a) (srP b)=true:=jE _ _ λx c y h=>by
 obtain⟨p,_,rfl⟩:=Ym.mp<|(a9 _).mem_iff.mp c;obtain⟨q,_,rfl⟩:=Ym.mp<|(a9 _).mem_iff.mp h;rfl
def ya ps ts i j:okN 3 (prD ps ts i j)=true:=by show(true&&(okN 2 (srP _)&&true))=true;rw[Gg];rfl
def Ga ps ts i j:hkN 3 (prD ps ts i j)=true:=by show(true&&(hkN 2 (srP _)&&true))=true;rw[Fq];rfl
def qt ps ts i j b a:aw (prD ps ts i j) (prD ps ts b a)=true:=by show(true&&(aw (srP _) _&&true))=true;rw[AR];rfl
def su{ps}{n i}(h:d∈aU ((oth n i).map (prD ps ts i))):∃j,d=prD ps ts i j:=by obtain⟨j,_,rfl⟩:=Ym.mp<|(a9 _).mem_iff.mp h;exact⟨j,rfl⟩
def yZ ps ts n i:okN 5 (kyD ps ts n i)=true:=by
 show(true&&(okN 4 (.tup _)&&true))=true;have:okN 4 (.tup<|aU<|(oth n i).map _)=true:=Yi.mpr λd h=>by obtain⟨j,rfl⟩:=su h;exact ya ps ts i j
 rw[this];rfl
def FV ps ts n i:hkN 8 (kyD ps ts n i)=true:=by
 have u:∀m d,hkN m d=true->hkN (m+1) d=true:=by
  intro m;induction m with
  |zero=>intro d h;cases d with
   |int x=>rfl
   |str x=>rfl
   |_=>cases h
  |succ m ih=>intro d h;cases d with
   |int x=>rfl
   |str x=>rfl
   |tup xs=>exact Yi.mpr λx a=>ih x<|Yi.mp h x a
   |_=>cases h
 have c:hkN 5 (kyD ps ts n i)=true:=by
  show(true&&(hkN 4 _&&true))=true;have:hkN 4 (.tup<|aU<|(oth n i).map _)=true:=Yi.mpr λd b=>by obtain⟨j,rfl⟩:=su b;exact Ga ps ts i j
  rw[this];rfl
 exact u _ _<|u _ _<|u _ _ c
def A4 ps ts n i j:aw (kyD ps ts n i) (kyD ps ts n j)=true:=by
 show(true&&(bc (aU _) _&&true))=true;rw[jE _ _ λx c y h=>by
  obtain⟨a,rfl⟩:=su c;obtain⟨b,rfl⟩:=su h;exact qt ps ts i a j b]
 rfl
def kys(ps:List Int)(ts:List T4)(n:Int):List D:=(ao n).map<|kyD ps ts n
theorem tF ps ts n(h:1<=n/\n<=7):(kys ps ts n).length<=7:=by unfold kys;rw[Yc,aC];lia
def iY ps ts n:Cmps 28 (kys ps ts n):=by
 refine⟨λd b=>?_,λx a y h=>?_⟩
 ·obtain⟨i,_,rfl⟩:=Ym.mp b;exact pG (by decide)<|yZ ps ts n i
 ·obtain⟨i,_,rfl⟩:=Ym.mp a;obtain⟨j,_,rfl⟩:=Ym.mp h;exact A4 ps ts n i j
theorem ww ps ts n(h:1<=n/\n<=7):di (kys ps ts n)=true:=by have:=tF ps ts n h;unfold di;rw[Yu,YG];refine⟨by lia,Yi.mpr λd a=>?_⟩;obtain⟨i,_,rfl⟩:=Ym.mp a;unfold o9;rw[FV,pG (by decide)<|yZ ps ts n i];rfl
def qZ(e:ds.length<64)(a:Cmps 28 ds)(h1:∀d∈ds,∃(x:Int) (r:List D),d=.tup (.int x::r)):bV ds=true:=by
 unfold bV;simp only[Yu,YG];refine⟨⟨⟨⟨e,Yi.mpr a.1⟩,Yi.mpr λx c=>Yi.mpr λy b=>a.2 x c y b⟩,Yi.mpr λd h=>?_⟩,Yi.mpr λd h=>?_⟩
 ·obtain⟨x,r,rfl⟩:=h1 d h;rfl
 ·obtain⟨x,r,rfl⟩:=h1 d h;rfl
theorem wT ps ts n(a:1<=n/\n<=7):bV (bh (kys ps ts n))=true:=by have e:=tF ps ts n a;have c:=gU<|kys ps ts n;refine qZ (by lia) ((iY ps ts n).sub λx h=>ca.mp h) λd b=>?_;obtain⟨i,_,rfl⟩:=Ym.mp<|ca.mp b;exact⟨_,_,rfl⟩
theorem yK n i(h:1<=n/\n<=7):(oth n i).length<=7:=by have:(oth n i).length<=(ao n).length:=List.length_filter_le _ _;rw[aC]at this;lia
theorem rH ps ts n i(f:1<=n/\n<=7):bV ((oth n i).map (prD ps ts i))=true:=by
 have:=yK n i f;refine qZ (by rw[Yc];lia) ⟨λd h=>?_,λx e y c=>?_⟩ λd h=>?_
 ·obtain⟨j,_,rfl⟩:=Ym.mp h;exact pG (by decide)<|ya ps ts i j
 ·obtain⟨a,_,rfl⟩:=Ym.mp e;obtain⟨b,_,rfl⟩:=Ym.mp c;exact qt ps ts i a i b
 ·obtain⟨j,_,rfl⟩:=Ym.mp h;exact⟨_,_,rfl⟩
abbrev kcE(C:Addr)(B:Dm):DF->Option D:=(asT<|ag (d2 ixD (af 1)<|af 0)<|ag (bJ C "between" B<|b_ (cD 2)<|aV (getV 3)<|aV (getV 0) nA) aA)
theorem zx C ks T kvs ts ps n i(g:1<=n/\n<=7)(y:ks.length=n)(u:ps.length=n)(hi:0<=i/\i<n)(H:JOk kvs ts) :
  i3 C [.v<|.ins C<|wFs ks T<|.dT kvs,.v<|.lst<|ps.map .int,.v<|.int i]=sV (kyD ps ts n i):=by
 have l:=λj=>n6 C ks T kvs ts i j H
 have E:=λm=>sY (C:=C) (nP ks T<|.dT kvs) m
 have a:=λp o=>yC C ks T _ n y [sV<|.ins C<|wFs ks T<|.dT kvs,sV<|.lst<|ps.map .int,sI i,p,o] rfl
 have c:=λj h=>CY (i:=j) u h
 have e:=rH ps ts n i g;have w:=yK n i g;have f:=c i hi;unfold i3 vQ;generalize cC C=B at l ⊢;generalize (bJ C "size" (c_ C) _)=S at a ⊢;generalize wFs ks T _=F at *;have N:aN 1 [2] (cM S) (setV 0) (asB<|d2 neD (am 0)<|am 1) (getV 0) [sV<|.ins C F,sV<|.lst<|ps.map .int,sI i,none,none]=some ((oth n i).map .int):=by
  rw[bp,eI (a _ _)<|by lia,Ya,Yj<|by rw[Yc,aC];lia];exact i6 _ (ao n) (λx _=>by
   show(match neD (.int x) (.int i)with|some (.bl b)=>some b|_=>none)=_;rw[FD])<|by simp
 have M:b7 (setV 0) bi (kcE C B) [none,sV<|.lst<|ps.map .int,sV<|.ins C F,sI i] ((oth n i).map .int)=some ((oth n i).map<|prD ps ts i):=by
  refine bR D.int _ _ λj z=>⟨[sI j,sV _,sV _,sI i],rfl,rfl,?_⟩
  have K:=l j;have J:=E [.v<|.int i,.v<|.int j];have I:=c j (yV.mp z).1;unfold prD;simp[bJ,b_,cD,J,K,I]
 rw[qS,show aH 5 3 [.v _,.v _,.v _]=[sV _,sV _,sI i,none,none]from rfl];have q:ay 3 (asO<|asL<|aN 1 [2] (cM S) (setV 0) (asB<|d2 neD (am 0)<|am 1)<|getV 0) [sV<|.ins C F,sV<|.lst<|ps.map .int,sI i,none,none]=some (.nx [sV<|.ins C F,sV<|.lst<|ps.map .int,sI i,sV<|.lst<|(oth n i).map .int,none]):=by rw[gn,fQ,cW,N];rfl
 have s:ay 4 (asO<|asL<|aN 1 [1,0,2] (cg 3) (setV 0) bi<|kcE C B) [sV<|.ins C F,sV<|.lst<|ps.map .int,sI i,sV<|.lst<|(oth n i).map .int,none]=some (.nx [sV<|.ins C F,sV<|.lst<|ps.map .int,sI i,sV<|.lst<|(oth n i).map .int,sV<|.lst<|(oth n i).map<|prD ps ts i]):=by
  have A:aN 1 [1,0,2] (cg 3) (setV 0) bi (kcE C B) [sV<|.ins C F,sV<|.lst<|ps.map .int,sI i,sV<|.lst<|(oth n i).map .int,none]=some ((oth n i).map<|prD ps ts i):=by rw[bp];show(if((oth n i).map D.int).length<=16777216 then b7 _ bi _ [none,sV _,sV _,sI i] ((oth n i).map .int)else none)=_;rw[Yj<|by rw[Yc];lia,M]
  rw[gn,fQ,cW,A];rfl
 rw[aj q,aj s];unfold kyD;simp[kx,e,f,jO]
theorem ER C ks T kvs ts ps n(f:1<=n/\n<=7)(b:ks.length=n)(e:ps.length=n)(l:JOk kvs ts) :
  gT C [.v<|.ins C<|wFs ks T<|.dT kvs,.v<|.lst<|ps.map .int]=oW (.lst<|kys ps ts n) none:=by
 have c:=λi h=>zx C ks T kvs ts ps n i f b e h l
 have a:=yC C ks T _ n b [sV<|.ins C<|wFs ks T<|.dT kvs,sV<|.lst<|ps.map .int] rfl;unfold gT qT;generalize i3 C=K at c ⊢;generalize wFs ks T _=F at *;have o:b7 (setV 0) bi (al K<|aB 1<|aB 2<|aV (getV 0) nA) [none,sV<|.ins C F,sV<|.lst<|ps.map .int] ((ao n).map .int)=some (kys ps ts n):=by
  refine bR D.int _ (ao n) λj g=>⟨[sI j,sV _,sV _],rfl,rfl,?_⟩
  have m:=c j<|az.mp g;simp[m]
 rw[i4,show aH 2 2 [.v _,.v _]=[sV _,sV _]from rfl];rw[fY,cW,bp,eI a<|by lia,Ya,Yj<|by rw[Yc,aC];lia];show bZ (((b7 _ _ _ [none,sV _,sV _] _).map OD.lst).map _)=_;rw[o];rfl
theorem A8 C ks T kvs ts ps n(h:1<=n/\n<=7)(e:ks.length=n)(c:ps.length=n)(f:JOk kvs ts) :
  eE C [.v<|.ins C<|wFs ks T<|.dT kvs,.v<|.lst<|ps.map .int]=oW (.lst<|(rks<|kys ps ts n).map .int) none:=by
 have b:=ER C ks T kvs ts ps n h e c f;have a:=rm C _ (.inl<|ww ps ts n h) (wT ps ts n h) (iY ps ts n) (by have:=tF ps ts n h;lia);unfold eE xZ;generalize wFs ks T _=F,kys ps ts n=L at *;simp[b,a]
def aJ(ks:List Str)(ts:List T4)(r:List Int):D:=.tup [.tup<|(r.map<|kAt ks).map .str,.tup<|(c7 r).map<|dw ts]
def nW{r:List Int}(f:1<=n)(i:(ks.length:Int)=n)(p:r.Perm (ao n)){E}(j:∀x s,atI (ks.map D.str) x=some (.str s)->E [sI x,F]=some (.str s)):b7 (setV 0) bi E [none,F] (r.map .int)=some ((r.map (kAt ks)).map .str):=by
 rw[YI];refine bR D.int _ r λx h=>⟨[sI x,F],rfl,rfl,?_⟩
 obtain⟨_,_,g⟩:=aY f p;obtain⟨b,a⟩:=g x h;obtain⟨s,c,e⟩:=iC (l:=ks) D.str b (by rwa[i]);have:(D.str ∘ kAt ks) x=.str s:=by show D.str _=_;unfold kAt;rw[c];rfl
 rw[this];exact j x s e
abbrev roE(C:Addr)(B:Dm):DF->Option D:=(bJ C "between" B<|b_ (cD 1)<|aV (getV 2)<|aV (getV 0) nA)
abbrev roB(C:Addr)(B:Dm):DF->Option RES:=(zH 2<|aN 1 [0,4] (dX<|asO<|asL<|slL (af 1) (bI<|d2 aP (af 3)<|cI 1) bNo) (setV 0) bi<|roE C B)
theorem ro C ks T kvs ts r n(J:1<=n/\n<=7)(S:(ks.length:Int)=n)(p:r.Perm (ao n))(hJ:JOk kvs ts) :
  eX C [.v<|.ins C<|wFs ks T<|.dT kvs,.v<|.lst<|r.map .int]=sV (aJ ks ts r):=by
 have L:=λi j=>n6 C ks T kvs ts i j hJ
 have hS:=λN=>sY (C:=C) (nP ks T<|.dT kvs) N
 have H:=lR C ks T<|.dT kvs;have Q:=(aY J.1 p).1;have hR:=nR r;have g:r.length<=7:=by lia
 have hRR:=Ux g g;unfold eX uZ;generalize cC C=I at L ⊢;generalize wFs ks T _=F at *;have o:(d5<|r.map D.int).length=r.length:=by unfold d5;rw[Yc,List.length_zipIdx,Yc]
 obtain⟨z,e,b,w,u,rfl,a⟩:=dQ (st:=jM [3,4]) (body:=roB C I) (λm M=>∃b w u,M=[sV _,sV _,oW (.lst b) none,w,u]/\b++(c7<|r.drop m).map _=(c7 r).map _) _ 0
  [sV _,sV _,oW _ none,none,none] ⟨[],_,_,rfl,rfl⟩ (by
   rintro m d _ K ⟨b,w,u,rfl,a⟩;rw[Zf]at a ⊢;have hm:m<r.length:=by have:=(Yn.mp K).1;rwa [o]at this
   obtain⟨d0,q,rfl⟩:=jn K;rw[Yo]at q;cases A:r[m]? with
   |none=>rw[A]at q;cases q
   |some x=>
   rw[A]at q;cases q;have hal:b.length<=500:=by have:=YR List.length a;rw[Yp,Yc,Yc]at this;lia
   have c1:b7 (setV 0) bi (roE C I) [none,sV<|.ins C F,sI x] ((r.drop<|m+1).map .int)=some ((r.drop<|m+1).map λy=>dw ts (x,y)):=by
    refine bR D.int _ _ λy _=>⟨[sI y,sV _,sI x],rfl,rfl,?_⟩
    have h1:=L x y;have h2:=hS [.v<|.int x,.v<|.int y];show _=some (srP _);simp[bJ,b_,cD,h2,h1]
   have B:dX (asO<|asL<|slL (af 1) (bI<|d2 aP (af 3)<|cI 1) bNo) [sV<|.ins C F,sV<|.lst<|r.map .int,oW (.lst b) none,sI m,sI x]=some ((r.drop<|m+1).map .int):=by
    have U:gG (r.map D.int) (some<|m+1) none=(r.drop<|m+1).map D.int:=by
     rw[nI,zB _<|by lia]
     congr 2
    have Z:bI (d2 aP (af 3)<|cI 1) [sV<|.ins C F,sV<|.lst<|r.map .int,oW (.lst b) none,sI m,sI x]=some _:=rfl;show(match(Option.map OD.d<|Option.map OD.lst<|some<|gG _ _ none)with|some (.lst ds)=>some ds|_=>none)=_;rw[U];rfl
   have f:aN 1 [0,4] (dX<|asO<|asL<|slL (af 1) (bI<|d2 aP (af 3)<|cI 1) bNo) (setV 0) bi (roE C I) [sV<|.ins C F,sV<|.lst<|r.map .int,oW (.lst b) none,sI m,sI x]=some ((r.drop<|m+1).map λy=>dw ts (x,y)):=by rw[bp,B,Ya,Yj<|by rw[Yc,XO];lia];exact c1
   refine⟨_,rfl,_,GO rfl f<|by rw[Yc,XO];lia,_,_,_,rfl,?_⟩;rw[<-a,yO A,Zi];refine YR (λl=>b++l) ?_;show _=((r.drop<|m+1).map (λy=>(x,y))++c7 (r.drop<|m+1)).map (dw ts);rw[Za,YI];rfl)
 rw[Zf,o,List.drop_length]at a;have a:b=(c7 r).map (dw ts):=by simpa[c7]using a
 subst a;rw[i4];have O:bH 2 (asL aA) (aH 5 2 [.v<|.ins C F,.v<|.lst<|r.map .int])=some (.nx [sV<|.ins C F,sV<|.lst<|r.map .int,oW (.lst []) none,none,none]):=rfl;rw[aj O,aj<|cX (ds:=d5<|r.map D.int) rfl e];have c:=nW (E:=d2 ixD (d1 (gC C "kinds")<|af 1)<|af 0) (F:=sV<|.ins C F) J.1 S p λx s h=>by
  simp[H,ix1,h]
 have P:(r.map D.int).length<=16777216:=by rw[Yc];lia
 unfold aJ;generalize (d2 ixD (d1 (gC C "kinds")<|af 1)<|af 0)=E,(r.map<|kAt ks).map D.str=X,(c7 r).map (dw ts)=Y,r.map D.int=R at *;simp[bp,P,c,jO]
def FN{a b}(h:srP a=srP b):a.Perm b:=by have e:=D.tup.inj h;have c:(a.map dP).Perm (b.map dP):=(a9 _).symm.trans<|e ▸ a9 _;have:=c.map unP;rwa[YI,YI,show unP ∘ dP=id from rfl,VP,VP]at this
theorem vi{E:Type}(f:Int×Int->E):∀g c:List Int,g.length=c.length->((c7 g).map f=(c7 c).map f↔∀(i j:Nat) x1 s x q,i<j->g[i]?=some x1->g[j]?=some s->c[i]?=some x->c[j]?=some q->f (x1,s)=f (x,q))
 |[],[],_=>⟨λ_ i j x1 s x q _ h=>by simp at h,λ_=>rfl⟩
 |x1::xs1,x::xs2,hl=>by
  have b:=VT hl;have ih:=vi f xs1 xs2 b;show(xs1.map _++c7 xs1).map f=(xs2.map _++c7 xs2).map f↔_;rw[Za,Za];constructor
  ·intro h i j B b1 A b2 w p a o e;obtain⟨H,z⟩:=List.append_inj h (by rw[Yc,Yc,Yc,Yc,b]);cases j with
   |zero=>lia
   |succ j=>
    cases i with
    |zero=>
     obtain rfl:=Yv p;obtain rfl:=Yv o;have a:xs1[j]?=some b1:=a;have e:xs2[j]?=some b2:=e;have:=YR (λl=>l[j]?) H;simp only[Yo,a,e]at this;exact Yv this
    |succ i=>exact ih.mp z i j B b1 A b2 (by lia) p a o e
  ·intro h;have z:=ih.mpr λi j B b1 A b2 w p a o e=>h (i+1) (j+1) B b1 A b2 (by lia) p a o e
   congr 1
   rw[YI,YI];apply ZY;intro m;rw[Yo,Yo];cases u:xs1[m]? with
   |none=>
    have:xs2[m]?=none:=by rw[Vm]at u ⊢;lia
    rw[this];rfl
   |some b1=>
    have:m<xs2.length:=by have:=(Yn.mp u).1;lia
    have C:=Yg this;rw[C];exact YR some<|h 0 (m+1) x1 b1 x _ (by lia) rfl u rfl C
def kb ps:∃us:List (Int×Int),srP ps=.tup (us.map dP):=by obtain⟨us,e,u⟩:=iq dP unP (λ_=>rfl)<|a9<|ps.map dP;exact⟨us,YR D.tup e⟩
theorem yr m(h:∀k∈ks,okW k):(ks.map D.str).all (okN m)=true:=by
 rw[Yi];intro x a;obtain⟨k,b,rfl⟩:=Ym.mp a;have:okN m (.str k)=PyData.strOk k:=by cases m<;>rfl
 rw[this];unfold PyData.strOk;rw[<-Array.all_toList,Yi];intro c e;have:=(h k b).2.2 c e;exact YS<|by lia
def bL(b:1<=n)(c:okK n ks)(p:r.Perm (ao n)):okN 30 (aJ ks ts r)=true:=by
 show(okN 29 (.tup _)&&(okN 29 _&&true))=true;have f:okN 29 (.tup _)=true:=yr 28 (DH b c p).2;have e:okN 29 (.tup<|(c7 r).map<|dw ts)=true:=by show((c7 r).map _).all _=true;rw[Yi];intro x a;obtain⟨q,_,rfl⟩:=Ym.mp a;obtain⟨u,g⟩:=kb<|aX q.1 q.2 ts;show okN 28 (srP _)=true;rw[g];show(u.map dP).all _=true;rw[Yi];intro y h;obtain⟨z,_,rfl⟩:=Ym.mp h;rfl
 rw[f,e];rfl
def xb ts p q:aw (dw ts p) (dw ts q)=true:=by obtain⟨u,b⟩:=kb<|aX p.1 p.2 ts;obtain⟨a,e⟩:=kb<|aX q.1 q.2 ts;show aw (srP _) (srP _)=true;rw[b,e];exact f6 dP (λ_ _=>rfl) u a
def bj ks ts b a:aw (aJ ks ts b) (aJ ks ts a)=true:=by show(bc ((b.map<|kAt ks).map D.str) _&&(bc _ _&&true))=true;rw[f6 D.str λ_ _=>rfl,f6 _<|xb ts];rfl
def GD:∀a b:List Str,a.map D.str=b.map D.str->a=b:=λa b h=>by
 have:∀a:List Str,(a.map D.str).map (λd=>match d with|.str x=>x|_=>⟨#[]⟩)=a:=λa=>by rw[YI];exact List.map_id' a
 rw[<-this a,<-this b,h]
theorem c8{e:Type}:∀(l m:List e),l.Nodup->(∀x∈l,x∈m)->l.length<=m.length
 |[],_,_,_=>YO _
 |x::l,m,nd,h=>by
  obtain⟨n1,n2⟩:=YT.mp nd;obtain⟨a,b,rfl⟩:=List.append_of_mem<|h x Ye;have:=c8 l (a++b) n2 λy c=>by
   rcases Zm.mp (h y<|Yd _ c)with z|z
   ·exact YW _ z
   ·rcases Yw.mp z with z|z
    ·exact absurd (z ▸ c) n1
    ·exact YK _ z
  simp at this ⊢;lia
theorem uN{e}:∀{L}{k},Cmps n (e::L)->iK e L=some k->L[k]?=some e
 |[],k,_,h=>by cases h
 |x::r,k,hc,h=>by
  unfold iK at h;have a:e∈e::x::r:=Ye;have c:x∈e::x::r:=Yd _ Ye;by_cases q:eqd x e=true
  ·rw[Yj q]at h;cases h;rw[(cE _ _<|hc.2 x c e a).mp q];rfl
  ·rw[Yl q]at h;cases z:iK e r with
   |none=>rw[z]at h;cases h
   |some j=>
    rw[z]at h;cases h;rw[XJ];exact uN (hc.sub λy b=>by
     rcases Yw.mp b with w|w
     ·rwa[w]
     ·exact Yd _<|Yd _ w) z
def nK(h:Cmps n ds)(hd:d∈ds):(aU (bh ds))[rkD (bh ds) d]?=some d:=by
 have p:=a9<|bh ds;refine uN (h.sub λy a=>?_)<|yv h hd;rcases Yw.mp a with w|w
 ·rwa[w]
 ·exact ca.mp<|p.mem_iff.mp w
def CG{c:Type}{L:List c}(e:L.Nodup){x}(h1:L[i]?=some x)(h2:L[j]?=some x):i=j:=by obtain⟨a,g⟩:=Yn.mp h1;obtain⟨b,f⟩:=Yn.mp h2;exact(List.getElem_inj e).mp<|g.trans f.symm
def Can(ps:List Int):Prop:=(∀x∈ps,0<=x/\x<ps.length)/\∀x∈ps,∀r,0<=r->r<x->r∈ps
theorem GH(b:Cmps n ds):Can (rks ds):=by
 have p:=a9<|bh ds;have g:=p.nodup_iff.mpr<|hU ds;have f:(aU<|bh ds).length<=ds.length:=by rw[p.length_eq];exact gU ds
 refine⟨λx h=>?_,λx h r m l=>?_⟩
 ·obtain⟨d,a,rfl⟩:=Ym.mp h;have j:=(Yn.mp<|nK b a).1;rw[kB];lia
 ·obtain⟨d,a,rfl⟩:=Ym.mp h;have j:=(Yn.mp<|nK b a).1;have c:r.toNat<(aU<|bh ds).length:=by lia
  have i:=Yg c;have e:=ca.mp<|p.mem_iff.mp<|Xw c;have o:=CG g i<|nK b e;refine Ym.mpr ⟨_,e,?_⟩;lia
noncomputable def fin (ps:List Int)(ts:List T4)(n:Int):List Int:=rks<|kys ps ts n
def ia{ps}(h:1<=n):((fin ps ts n).length)=n:=by unfold fin kys;rw[kB,Yc,aC];lia
def kL ps ts n:Can (fin ps ts n):=GH<|iY ps ts n
theorem G_{ps}{n i j}(h:ox ps j<ox ps i):ltD (kyD ps ts n j) (kyD ps ts n i)=true:=by
 have e:eqd (.int<|ox ps j) (.int<|ox ps i)=false:=by rw[jh,YB<|by lia]
 show(if eqd _ _=true then _ else ltD _ _)=true;rw[e,Yl Yk];exact YS h
theorem Ik{ps}{n i}(b:ps.length=n)(h:0<=i/\i<n):ox ps i∈ps:=by
 unfold ox;have a:i.toNat<ps.length:=by lia
 rw[Yg];exact Xw a
theorem HP{ps}(b:ps.length=n)(h:r∈ps):∃j,(0<=j/\j<n)/\ox ps j=r:=by obtain⟨k,a,e⟩:=ZX h;refine⟨k,by lia,?_⟩;unfold ox;rw[Zb,Yg a,e];rfl
def pK{i}h:ox (rks ds) i=(rkD (bh ds) ds[i.toNat]):=by unfold ox rks;rw[Yo,Yg];rfl
theorem pP{ps}{n i}(h:0<=i/\i<n):∃a:i.toNat<(kys ps ts n).length,(kys ps ts n)[i.toNat]=kyD ps ts n i:=by
 have a:i.toNat<(kys ps ts n).length:=by unfold kys;rw[Yc,aC];lia
 refine⟨a,?_⟩;unfold kys ao;simp;have:max i 0=i:=by lia
 rw[this]
theorem IR{ps}{n i}(s:ps.length=n)(w:Can ps)(h:0<=i/\i<n):ox ps i<=ox (fin ps ts n) i:=by
 obtain⟨z,C⟩:=pP (ps:=ps) (ts:=ts) h;unfold fin;rw[pK z,C];have p:=Ik s h;have u:∀r:Nat,r<ox ps i->∃j,(0<=j/\j<n)/\ox ps j=r:=λr g=>HP s<|w.2 _ p _ (by lia) g
 have l:∃f:Nat->Int,∀r:Nat,r<ox ps i->(0<=f r/\f r<n)/\ox ps (f r)=r:=by
  refine⟨λr=>if q:r<ox ps i then Classical.choose (u r q)else 0,λr g=>?_⟩;simp[dif_pos g];exact Classical.choose_spec<|u r g
 obtain⟨f,l⟩:=l;have m:((List.range (ox ps i).toNat).map λr=>kyD ps ts n<|f r).length<=((bh<|kys ps ts n).filter λx=>ltD x<|kyD ps ts n i).length:=by
  refine c8 _ _ ?_ λd A=>?_
  ·refine List.Pairwise.map _ (λr o c e=>?_)<|(Vs).imp_of_mem (S:=λa b:Nat=>a≠b/\a<(ox ps i).toNat/\b<(ox ps i).toNat) λy m c=>⟨c,YU.mp y,YU.mp m⟩;have L:=(l r<|by lia).2;have K:=(l o<|by lia).2;have J:ox ps (f r)=ox ps (f o):=by have:=YR (λd=>match d with|.tup (.int a::_)=>a|_=>0) e;exact this
   lia
  ·obtain⟨r,g,rfl⟩:=Ym.mp A;have g:=YU.mp g;obtain⟨B,I⟩:=l r (by lia);refine Zx.mpr ⟨ca.mpr<|Ym.mpr ⟨f r,az.mpr B,rfl⟩,G_<|by lia⟩
 rw[Yc,Zj]at m;unfold rkD;lia
def sm(ps:List Int):Int:=ps.foldr (· + ·) 0
theorem GQ:∀a b,a.length=b.length->(∀(k:Nat) x y,a[k]?=some x->b[k]?=some y->x<=y)->sm a<=sm b/\(sm a=sm b->a=b)
 |[],[],_,_=>⟨Int.le_refl _,λ_=>rfl⟩
 |x::a,y::b,hl,h=>by
  obtain⟨i,g⟩:=GQ a b (VT hl) λk u v f c=>h (k+1) u v f c
  have j:=h 0 x y rfl rfl;have f:sm (x::a)=x+sm a:=rfl;have c:sm (y::b)=y+sm b:=rfl;refine⟨by lia,λe=>?_⟩;rw[g<|by lia,show x=y by lia]
theorem A9:∀a m,(∀x∈a,x<=m)->sm a<=a.length*m
 |[],m,_=>by simp[sm]
 |x::a,m,h=>by
  have f:=A9 a m λy b=>h y<|Yd _ b
  have c:=h x Ye;have e:sm (x::a)=x+sm a:=rfl;rw[e,Yt,Int.natCast_add,Int.add_mul];lia
theorem G6:∀a,(∀x∈a,0<=x)->0<=sm a
 |[],_=>Int.le_refl _
 |x::a,h=>by
  have e:=G6 a λy b=>h y<|Yd _ b
  have c:=h x Ye;have f:sm (x::a)=x+sm a:=rfl;lia
theorem DW{ps}(b:1<=n/\n<=7)(c:(ps.length:Int)=n)(a:Can ps):0<=sm ps/\sm ps<=42:=by
 refine⟨G6 ps λx h=>(a.1 x h).1,?_⟩;have e:=A9 ps (n-1) λx h=>by have:=(a.1 x h).2;lia
 rw[c]at e;have:n*(n-1)<=7*6:=Int.mul_le_mul b.2 (by lia) (by lia) (by lia);lia
theorem Hy{ps}(h:1<=n)(a:ps.length=n)(b:Can ps):sm ps<=sm (fin ps ts n)/\(sm ps=sm (fin ps ts n)->ps=fin ps ts n):=by have g:=ia (ps:=ps) (ts:=ts) h;refine GQ _ _ (by lia) λk x y e c=>?_;have f:=(Yn.mp e).1;have:=IR (ts:=ts) a b (i:=k) (by lia);unfold ox at this;rwa[Zb,e,c]at this
end My
set_option maxHeartbeats 800000
namespace My
open PySem PySem.Spec PyProof.Rows L2
abbrev dL(ps:List Int):D:=.lst<|ps.map .int
def Ca a b:eqd (dL a) (dL b)=decide (a=b):=by
 by_cases h:a=b
 ·rw[h,YS rfl];exact Cj D.int (λ_ _=>rfl) b
 ·rw[YB h];cases q:eqd (dL a) (dL b)with
  |false=>rfl
  |true=>exact absurd (wf<|(j7 _ _<|vn a b).mp q) h
def Lq a b:neD (dL a) (dL b)=some (.bl (!decide (a=b))):=by rw[BI (vN a)<|vN b,Ca]
def BK a b:eqD (dL a) (dL b)=some (.bl (decide (a=b))):=by rw[tq (vN a)<|vN b,Ca]
noncomputable def rl (ts:List T4)(n:Int):Nat->List Int->List (List Int)
 |0,q=>[q]
 |k+1,q=>if fin q ts n=q then[q]else q::rl ts n k (fin q ts n)
noncomputable def stl (ts:List T4)(n:Int):Nat->List Int->List Int
 |0,q=>q
 |k+1,q=>if fin q ts n=q then q else stl ts n k<|fin q ts n
def lD(ts:List T4)(n:Int):Nat->List Int->Prop
 |0,_=>False
 |k+1,q=>fin q ts n=q\/lD ts n k (fin q ts n)
theorem yD ts n:∀k q,∃p,rl ts n k q=p++[stl ts n k q]
 |0,q=>⟨[],rfl⟩
 |k+1,q=>by
  unfold rl stl;by_cases h:fin q ts n=q
  ·rw[Yj h,Yj h];exact⟨[],rfl⟩
  ·rw[Yl h,Yl h];obtain⟨p,e⟩:=yD ts n k<|fin q ts n;exact⟨q::p,by rw[e];rfl⟩
theorem sJ ts n:∀k q,lD ts n k q->fin (stl ts n k q) ts n=stl ts n k q
 |0,q,h=>h.elim
 |k+1,q,h=>by
  unfold stl;by_cases z:fin q ts n=q
  ·rwa[Yj z]
  ·rw[Yl z];exact sJ ts n k _<|h.resolve_left z
theorem tz ts n(a:1<=n):∀k q,q.length=n->((stl ts n k q).length)=n
 |0,q,h=>h
 |k+1,q,h=>by
  unfold stl;by_cases z:fin q ts n=q
  ·rwa[Yj z]
  ·rw[Yl z];exact tz ts n a k _<|ia a
theorem u8 ts n(a:1<=n/\n<=7):∀(k:Nat) q,q.length=n->Can q->43-sm q<=k->lD ts n k q
 |0,q,hl,hc,h=>by have:=(DW a hl hc).2;lia
 |k+1,q,hl,hc,h=>by
  by_cases z:fin q ts n=q
  ·exact .inl z
  ·obtain⟨c,b⟩:=Hy (ts:=ts) a.1 hl hc;refine .inr<|u8 ts n a k _ (ia a.1) (kL q ts n) ?_;have:sm q≠sm _:=λe=>z (b e).symm
   lia
theorem pj ts n(h:1<=n/\n<=7)q:lD ts n 100 q:=
 .inr<|u8 ts n h 99 _ (ia h.1) (kL q ts n) (by have:=(DW h (ia h.1)<|kL q ts n).1;lia)
noncomputable abbrev roF(w:D)(x1:Option DV)(R:List D)(f:D):DF:=[sV w,x1,oW (.lst R) none,sV f]
theorem k5{m}{w}{x1}{n}(o:1<=n)(u:∀ps:List Int,(ps.length:Int)=n->m [.v w,.v (dL ps)]=oW (.lst ((fin ps ts n).map .int)) none) :
  ∀k p q,q.length=n->lD ts n k q->p.length+k<=1000->∃f,dB (asB<|d2 neD (am 3)<|d2 ixD (af 2)<|d1 wL<|cI 1) (ak (cV 2<|getV 3)
 <|ay 3<|al m<|aB 0<|aB 3 nA) k (roF w x1 ((p++[q]).map dL)<|dL<|fin q ts n)=some (.nx<|roF w x1 ((p++rl ts n k q).map dL) f)
 |0,p,q,_,h,_=>h.elim
 |k+1,p,q,hl,h,hz=>by
  have i:atI ((p++[q]).map dL) (-1)=some (dL q):=by rw[Za];exact oI _ _
  have j:wL (.int 1)=some _:=rfl;have g:=Lq (fin q ts n) q
  unfold dB;have y:(asB<|d2 neD (am 3)<|d2 ixD (af 2)<|d1 wL<|cI 1) (roF w x1 ((p++[q]).map dL)<|dL<|fin q ts n)=some (!decide (fin q ts n=q)):=by
   generalize (p++[q]).map dL=R at i ⊢;simp[ix1,j,i,g]
  rw[y];by_cases z:fin q ts n=q
  ·refine⟨dL<|fin q ts n,?_⟩;rw[YS z];unfold rl;rw[Yj z];rfl
  ·rw[YB z];have l:((fin q ts n).length)=n:=ia o;have s:=u _ l;obtain⟨f,e⟩:=k5 (x1:=x1) o u k (p++[q]) _ l (h.resolve_left z) (by rw[Yp,YQ];lia);refine⟨f,?_⟩;have A:(ak (cV 2<|getV 3)
 <|ay 3<|al m<|aB 0<|aB 3 nA) (roF w x1 ((p++[q]).map dL)<|dL<|fin q ts n)=some (.nx<|roF w x1 ((p++[q]++[fin q ts n]).map dL)<|dL<|fin (fin q ts n) ts n):=by
    have c:((p++[q]).map dL).length<16777216:=by rw[Yc,Yp,YQ];lia
    rw[Za (l₁:=p++[q])];show _=some (RES.nx<|roF w x1 ((p++[q]).map dL++[dL _]) _);generalize (p++[q]).map dL=R at c ⊢;have B:dL _=.lst ((fin (fin q ts n) ts n).map .int):=rfl;rw[B];simp[c,s]
   simp only[A];unfold rl;rwa[Yl z,show p++q::rl ts n k _=p++[q]++rl ts n k (fin q ts n)by simp]
def zT{w}(b:1<=n/\n<=7)(h:∀ps:List Int,(ps.length:Int)=n->eE C [.v w,.v (dL ps)]=oW (.lst ((fin ps ts n).map .int)) none)ps(c:ps.length=n) :
  eY C [.v w,.v<|dL ps]=oW (.lst<|(rl ts n 100 ps).map dL) none:=by
 unfold eY mI;obtain⟨f,e⟩:=k5 (x1:=sV<|dL ps) b.1 h 100 [] ps c (pj ts n b ps) (by simp);rw[Uq,Uq,List.map_singleton]at e;have g:=h ps c;rw[i4,show aH 4 2 [.v w,.v _]=[sV w,sV _,none,none]from rfl,
  aj (ρ':=[sV w,sV<|dL ps,oW (.lst [dL ps]) none,none])<|by simp,
  aj (ρ':=roF w (sV<|dL ps) [dL ps]<|dL<|fin ps ts n) (by
   simp[g]),aj e]
 rfl
def jQ{w}(f:1<=n/\n<=7)(i:∀ps:List Int,(ps.length:Int)=n->eE C [.v w,.v (dL ps)]=oW (.lst ((fin ps ts n).map .int)) none)ps(g:ps.length=n) :
  cU C [.v w,.v<|dL ps]=sV (dL<|stl ts n 100 ps):=by
 have c:=zT f i ps g;obtain⟨p,e⟩:=yD ts n 100 ps;have b:atI ((rl ts n 100 ps).map dL) (-1)=some (dL<|stl ts n 100 ps):=by rw[e,Za];exact oI _ _
 have h:wL (.int 1)=some _:=rfl;unfold cU rQ;simp[c,h,ix1,b]
def KZ(h:okW x):okN 28 (.str x)=true:=by show PyData.strOk x=true;unfold PyData.strOk;rw[<-Array.all_toList,Yi];intro c a;have:=h.2.2 c a;simp;lia
def DY(h:okK n ks):Cmps 28 (ks.map D.str):=⟨λd f=>by obtain⟨x,c,rfl⟩:=Ym.mp f;exact KZ<|h.2 x c,λx c y e=>by obtain⟨a,_,rfl⟩:=Ym.mp c;obtain⟨b,_,rfl⟩:=Ym.mp e;rfl⟩
theorem D1(g:n<=7)(h:okK n ks):bV (bh (ks.map D.str))=true:=by
 have c:=(DY h).sub λd a=>ca.mp a
 have b:∀d∈bh<|ks.map D.str,∃x,d=.str x:=λd a=>by obtain⟨x,_,rfl⟩:=Ym.mp<|ca.mp a;exact⟨x,rfl⟩
 have f:=gU<|ks.map D.str;rw[Yc]at f;have:=h.1;unfold bV;simp only[Yu,YG];refine⟨⟨⟨⟨by lia,Yi.mpr c.1⟩,Yi.mpr λx b=>Yi.mpr λy e=>c.2 x b y e⟩,Yi.mpr λd a=>?_⟩,Yi.mpr λd a=>?_⟩
 ·obtain⟨x,rfl⟩:=b d a;rfl
 ·obtain⟨x,rfl⟩:=b d a;rfl
theorem AJ(b:n<=7)(h:okK n ks):c9 (ks.map D.str)=true:=by unfold c9;rw[Yu,YG,Yc];have:=h.1;exact⟨by lia,Yi.mpr λd a=>by obtain⟨x,_,rfl⟩:=Ym.mp a;rfl⟩
noncomputable def fpt (ks:List Str)(ts:List T4)(n:Int):List Int:=stl ts n 100<|rks<|ks.map D.str
theorem v5(b:1<=n/\n<=7)(h:okK n ks)(g:∀ps:List Int,ps.length=n->eE C [.v (.ins C (wFs ks T J)),.v (dL ps)]=oW (.lst ((fin ps ts n).map .int)) none) :
  bG C [.v<|.ins C<|wFs ks T J]=sV (dL<|fpt ks ts n):=by
 have c:=h.1;have f:=rm C _ (.inr<|.inl<|AJ b.2 h) (D1 b.2 h) (DY h) (by rw[Yc];lia);have a:=jQ b g (rks<|ks.map D.str) (by rwa[kB,Yc]);have fk:=lR C ks T J;unfold bG iH fpt;generalize wFs ks T J=F,stl ts n 100 _=z at *;have e:dL _=.lst ((rks<|ks.map D.str).map .int):=rfl;rw[e]at a;simp[fk,f,a]
def nE(a:1<=n/\n<=7)(b:okK n ks):((fpt ks ts n).length)=n/\Can (fpt ks ts n):=by have h:=b.1;refine⟨tz ts n a.1 100 _<|by rwa[kB,Yc],?_⟩;have:=sJ ts n 100 (rks<|ks.map D.str)<|pj ts n a _;unfold fpt;rw[<-this];exact kL _ ts n
theorem lS{st}{c}{e}{a:Type}f q F:∀xs:List a,(∀x∈xs,∃ρ1,st (f x) ρ=some ρ1/\c ρ1=some (q x)/\(q x=true->e ρ1=some (F x)))->b7 st c e ρ (xs.map f)=some ((xs.filter q).map F)
 |[],_=>rfl
 |x::xs,h=>by
  obtain⟨ρ1,l,j,i⟩:=h x Ye;have ih:=lS f q F xs λy g=>h y<|Yd _ g
  rw[YH];unfold b7;rw[l,Ya,j,Ya,ih];cases b:q x with
  |true=>rw[Yj rfl,i b,List.filter_cons_of_pos b];rfl
  |false=>rw[Yl Yk,List.filter_cons_of_neg<|by rw[b];exact Yk]
def cnt(p:List Int)(x:Int):Nat:=p.countP λy=>decide<|y=x
def G8 p x:p8 (dL p) (.int x)=some (.int (cnt p x)):=by
 have h:(p.map D.int).all (okN 29)=true:=Yi.mpr λd a=>by obtain⟨x,_,rfl⟩:=Ym.mp a;rfl
 show(if((p.map D.int).all _&&okN 30 _)=true then some (D.int _)else none)=_;rw[h,Yj<|show(true&&okN 30 _)=true from rfl,List.countP_map]
 congr 3
theorem ge{p}(a:p.length=n):p=(ao n).map (ox p):=by
 apply ZY;intro k;unfold ao;rw[YI,Yo];by_cases h:k<p.length
 ·rw[ZJ<|by lia,Yg];show _=some (ox p _);unfold ox;rw[Zb,Yg h];rfl
 ·rw[Zh<|by lia,Zh<|by rw[Zj];lia];rfl
def rwC(p:List Int)(n r:Int):List Int:=(ao n).filter λk=>decide<|ox p k=r
def yB{p}(h:p.length=n)r:(rwC p n r).length=cnt p r:=by unfold cnt rwC;have e:=ge h;rw[e,List.countP_map,List.countP_eq_length_filter,<-e];rfl
def opn(p:List Int)(n:Int):List Int:=match(ao n).find? (λr=>decide<|1<cnt p r)with
 |some r=>rwC p n r
 |none=>[]
def xT{p}(a:p.length=n):d5 (p.map D.int)=(ao n).map λk=>.tup [.int k,.int (ox p k)]:=by
 apply ZY;intro k;unfold d5 ao;rw[Yo,List.getElem?_zipIdx,Yo,YI,Yo];by_cases h:k<p.length
 ·rw[ZJ<|by lia,Yg];show some _=some (D.tup [.int _,.int _]);unfold ox;rw[Zb,Yg h,Zf];rfl
 ·rw[Zh<|by lia,Zh<|by rw[Zj];lia];rfl
theorem Dx{P}{n m}(h:0<=m)(h1:m<n)(a:P m=true)(b:∀r,0<=r->r<m->P r=false):(ao n).find? P=some m:=by
 unfold ao;rw[List.find?_map];have:(List.range n.toNat).find? (P ∘ λi:Nat=>i)=some m.toNat:=by
  rw[List.find?_range_eq_some];refine⟨?_,YU.mpr<|by lia,λj c=>?_⟩
  ·show P (m.toNat)=true;rwa[XM h]
  ·show(!P _)=true;rw[b j (by lia)<|by lia];rfl
 rw[this];show some (m.toNat:Int)=some m;rw[XM h]
def GS(h:Cmps n ds){x}(hx:x∈ds)(a:y∈ds)(hz:z∈ds)(h1:ltD x y=true)(h2:ltD y z=true):ltD x z=true:=
 (ze n x y z (h.1 x hx) (h.1 y a) (h.1 z hz) (h.2 x hx y a) (h.2 y a z hz)<|h.2 x hx z hz) h1 h2
def By(h:Cmps n ds){x}(hx:x∈ds):ltD x x=false:=by
 cases q:ltD x x with
 |false=>rfl
 |true=>exact absurd q<|by rw[(eB n x x (h.1 x hx) (h.1 x hx)<|h.2 x hx x hx).as q];exact Yk
def yb(c:Cmps n ds)(f:ds≠[]):ds.getD (pS ds) .non∈ds/\∀d∈ds,ltD d (ds.getD (pS ds) .non)=false:=by
 have mem:∀k,k<ds.length->ds.getD k .non∈ds:=λk h=>by rw[YF,Yg];exact Xw h
 have m:∀k,k<ds.length->∀j,j<=k->ltD (ds.getD j .non) (ds.getD (argBest (λi j=>ltD (ds.getD i .non)<|ds.getD j .non) k) .non)=false:=by
  intro k;induction k with
  |zero=>intro a j b;rw[Nat.le_zero.mp b];exact By c<|mem 0 a
  |succ k ih=>
   intro a j b;have l:=Zk (gh (λi j=>ltD (ds.getD i .non)<|ds.getD j .non) k)<|UD a;unfold argBest;split
   ·rename_i z;rcases Nat.lt_or_eq_of_le b with h|h
    ·have:=ih (UD a) j<|Zw h;cases q:ltD _ (ds.getD (k+1) .non)with
     |false=>rfl
     |true=>rwa[GS c (mem j<|ZQ h a) (mem _ a) (mem _ l) q z]at this
    ·rw[h];exact By c<|mem _ a
   ·rename_i z;rcases Nat.lt_or_eq_of_le b with h|h
    ·exact ih (UD a) j<|Zw h
    ·rw[h];exact UE.mpr z
 have e:=Ue (List.length_pos_iff.mpr f) Nat.one_pos;refine⟨mem _<|Zk (gh _ _) e,λd g=>?_⟩;obtain⟨j,b,rfl⟩:=ZX g;have:=m _ e j<|Xp b;rwa[YF,Yg b]at this
def vt(h:Cmps 28 ds)(a:ds≠[]):iJ (.lst ds)=some (ds.getD (pS ds) .non):=by
 refine Yj ?_;unfold zg;rw[Yi.mpr h.1,Yi.mpr λx c=>Yi.mpr λy b=>h.2 x c y b];cases ds with
 |nil=>exact absurd rfl a
 |cons _ _=>rfl
def E5{p}(h:p≠[]):∃m,iJ (dL p)=some (.int m)/\m∈p/\∀a∈p,m<=a:=by
 have c:p.map D.int≠[]:=λz=>h<|XN.mp z
 have f:Cmps 28 (p.map D.int):=⟨λd l=>by obtain⟨x,_,rfl⟩:=Ym.mp l;rfl,λx i y g=>by obtain⟨a,_,rfl⟩:=Ym.mp i;obtain⟨b,_,rfl⟩:=Ym.mp g;rfl⟩
 obtain⟨s,q⟩:=yb f c;obtain⟨m,j,e⟩:=Ym.mp s;refine⟨m,by rw[vt f c,e],j,λa o=>?_⟩;have:=q _<|Ym.mpr ⟨a,o,rfl⟩;rw[<-e,ltD]at this;exact Int.not_lt.mp<|of_decide_eq_false this
def IP(x:DV)(p:List Int):Prop:=x=.v (dL p)\/x=.bor (.lst<|p.map .int)
theorem zj C{p}{x}(X:n<=1000)(K:p.length=n)(N:Can p)(hx:IP x p):(bY C [x]).bind dvD=some (dL (opn p n)):=by
 have w:∀a b,cg 0 [some x,a,b]=some _:=λa b=>by rcases hx with rfl|rfl<;>rfl
 have M:∀a b,gy 0 [some x,a,b]=some _:=λa b=>by unfold gy;rw[w];rfl
 have L:∀a,am 1 [a,pF<|some x]=some (dL p):=λa=>by rcases hx with rfl|rfl<;>rfl
 have Q:b7 (setV 0) (asB<|d2 gtI (d2 p8 (am 1)<|am 0)<|cI 1) (getV 0) [none,pF<|some x] (p.map .int)=some ((p.filter λr=>decide<|1<cnt p r).map .int):=by
  refine i6 _ p (λr _=>?_)<|Nat.zero_lt_succ _;show asB _ [sI r,pF _]=_;have O:d2 p8 (am 1) (am 0) [sI r,pF<|some x]=some (.int<|cnt p r):=by rw[qF,L,Ya];exact G8 p r
  rw[B3,qF,O];exact YR some<|VY.mpr<|by lia
 have l:(p.map D.int).length<=16777216:=by rw[Yc];lia
 have B:(ay 1<|asO<|asL<|aN 1 [0] (cg 0) (setV 0) (asB<|d2 gtI (d2 p8 (am 1)<|am 0)<|cI 1)<|getV 0) [some x,none,none]=some (.nx [some x,sV<|dL<|p.filter λr=>decide<|1<cnt p r,none]):=by rw[gn,fQ,cW,bp,w,Ya,Yj l];show(((b7 _ _ _ [none,pF<|some x] _).map OD.lst).map OD.d).map _=_;rw[Q];rfl
 unfold bY j8;rw[mq,show aH 3 1 [x]=[some x,none,none]from rfl,aj B];by_cases q:(p.filter λr=>decide<|1<cnt p r)=[]
 ·rw[q,fD rfl];have:opn p n=[]:=by
   unfold opn;have:(ao n).find? (λr=>decide<|1<cnt p r)=none:=by rw[Uv];intro r _ c;have c:=YN c;have o:=List.countP_pos_iff.mp (by show 0<cnt p r;lia);obtain⟨y,i,e⟩:=o;have e:=YN e;subst e;have h:y∈p.filter (λr=>decide<|1<cnt p r):=Zx.mpr ⟨i,YS c⟩;rw[q]at h;cases h
   rw[this]
  rw[this];rfl
 ·obtain⟨m,J,u,H⟩:=E5 q;generalize A:(p.filter λr=>decide<|1<cnt p r)=S at *;have s:S.map D.int≠[]:=λz=>q<|XN.mp z
  have j:j6 (getV 1) [some x,sV<|dL S,none]=some true:=by
   show some _=_;cases z:S.map D.int with
   |nil=>exact absurd z s
   |cons _ _=>rfl
  rw[aj<|by rw[cu,rZ,j];rfl,
   aj (ρ':=[some x,sV<|dL S,sI m])<|by
    show(d1 iJ (af 1) _).map _=_;rw[CS,show af 1 [some x,sV<|dL S,none]=some (dL S)from rfl,Ya,J];rfl]
  rw[<-A]at u;obtain⟨E,f⟩:=Zx.mp u;have f:=YN f;obtain⟨R,Y⟩:=N.1 _ E;have I:opn p n=rwC p n m:=by
   unfold opn;rw[Dx R (by lia) (YS f) λr U T=>by
    rw[YB];intro c;have o:=List.countP_pos_iff.mp (by show 0<cnt p r;lia);obtain⟨y,i,e⟩:=o;have e:=YN e;subst e;have g:y∈S:=by rw[<-A];exact Zx.mpr ⟨i,YS c⟩
    have:=H y g;lia]
  rw[I];have P:b7 (jM [0,1]) (asB<|d2 eqD (am 1)<|am 2) (getV 0) [none,none,sI m] ((ao n).map λk=>.tup [.int k,.int<|ox p k])=some ((rwC p n m).map .int):=by
   refine lS _ _ D.int (ao n) λk _=>⟨[sI k,sI _,sI m],rfl,?_,λ_=>rfl⟩
   simp
  rw[fY,cW,bp,M,Ya,xT K,Yj<|by rw[Yc,aC];lia];show((bZ<|((b7 _ _ _ [none,none,sI m] _).map OD.lst).map _)).bind dvD=_;rw[P];rfl
def pah(p:List Int)(n k:Int):List Int:=if cnt p (ox p k)=1 then p else(ao n).map λj=>if ox p j<ox p k\/j=k then ox p j else ox p j+1
theorem iB{p}(a:0<=n)(h:p.length=n):((pah p n k).length)=n:=by
 unfold pah;split
 ·exact h
 ·rw[Yc,aC];lia
theorem sL C{p}{x}(A:n<=1000)(g:p.length=n)(m:0<=k/\k<n)(hx:IP x p):e6 C [x,.v (.int k)]=oW (.lst ((pah p n k).map .int)) none:=by
 have i:∀a,af 0 [some x,sI k,a]=some (dL p):=λa=>by rcases hx with rfl|rfl<;>rfl
 have f:∀a,am 0 [some x,sI k,a]=some (dL p):=λa=>by rcases hx with rfl|rfl<;>rfl
 have o:∀a b,gy 0 [some x,a,b]=some _:=λa b=>by rcases hx with rfl|rfl<;>rfl
 have l:=CY g m;have s:=G8 p<|ox p k;unfold e6 mO pah;rw[i4,show aH 3 2 [x,.v _]=[some x,sI k,none]from rfl,
  aj (ρ':=[some x,sI k,sI _])<|by
   rw[gn,qF,i,Ya];show((some _).bind λy=>ixD (dL p) y).map _=_;rw[Ya,show ixD (dL p) _=some (.int _)from l];rfl]
 have e:asB (d2 eqD (d2 p8 (am 0)<|am 2)<|cI 1) [some x,sI k,sI<|ox p k]=some (decide<|cnt p (ox p k)=1):=by
  have u:d2 p8 (am 0) (am 2) [some x,sI k,sI<|ox p k]=some (.int<|cnt p<|ox p k):=by rwa[qF,f,Ya]
  rw[B3,qF,u,Ya,Ya,xU];exact YR some<|VY.mpr<|by lia
 by_cases q:cnt p (ox p k)=1
 ·rw[YS q]at e;rw[Yj q,fD<|by
   rw[cu,e,Ya,Yj rfl,fY,cW,AS,i];rfl]
  rfl
 ·rw[YB q]at e;rw[Yl q,aj<|by rw[cu,e];rfl];have w:b7 (jM [0,1]) bi (ifV (orT (asB<|d2 ltd (am 1)<|am 2)<|asB<|d2 eqD (am 0)<|am 3) (getV 1)<|d2 aP (af 1)<|cI 1) [none,none,sI<|ox p k,sI k] ((ao n).map λj=>.tup [.int j,.int<|ox p j])=some (((ao n).map λj=>if ox p j<ox p k\/j=k then ox p j else ox p j+1).map .int):=by
   rw[YI];refine bR _ _ (ao n) λj _=>⟨[sI j,sI _,sI _,sI k],rfl,rfl,?_⟩
   show _=some (D.int<|if ox p j<ox p k\/j=k then ox p j else ox p j+1);by_cases h:ox p j<ox p k
   ·rw[Yj<|.inl h];simp[h]
   ·by_cases c:j=k
    ·rw[Yj<|.inr c];simp[c]
    ·rw[Yl<|by rintro (z|z);exact h z;exact c z];simp[h,c]
  rw[fY,cW,bp,o,Ya,xT g,Yj<|by rw[Yc,aC];lia];show bZ (((b7 _ _ _ [none,none,sI _,sI k] _).map OD.lst).map _)=_;rw[w];rfl
theorem qJ{w}{p}{x}(o:1<=n/\n<=7)(a:p.length=n)(g:0<=k/\k<n)(hx:IP x p)(j:∀ps:List Int,(ps.length:Int)=n->cU C [.v w,.v (dL ps)]=sV (dL (stl ts n 100 ps))) :
  dE C [.v w,x,.v<|.int k]=sV (dL<|stl ts n 100<|pah p n k):=by
 have b:=sL C (by lia) a g hx;have h:=j (pah p n k)<|iB (by lia) a;have i:∀f:DF->Option _,aB 1 f [sV w,some x,sI k]=(f [sV w,some x,sI k]).map λc=>x::c:=λf=>by rcases hx with rfl|rfl<;>rfl
 unfold dE uK;generalize e6 C=P at b ⊢;generalize cU C=S at h ⊢;have e:dL _=.lst ((pah p n k).map .int):=rfl;rw[e]at h;generalize dL _=z,(pah p n k).map D.int=y at *;rw[qS,show aH 3 3 [.v w,x,.v _]=[sV w,some x,sI k]from rfl,nD];have m:al P (aB 1<|aB 2 nA) [sV w,some x,sI k]=some (.lst y):=by rw[we,i];show(some [x,.v _]).bind _=_;rw[Ya,b];rfl
 have l:al S (aB 0<|aV (al P<|aB 1<|aB 2 nA) nA) [sV w,some x,sI k]=some z:=by rw[we,Ku,JR,m];show(some [DV.v w,.v _]).bind _=_;rw[Ya,h];rfl
 rw[l];rfl
def ix(out:List Int)(k:Int):Int:=out.idxOf k
section
variable{n:Int} 
theorem uH(b:1<=n)(p:out.Perm (ao n))(h:0<=k/\k<n):(0<=ix out k/\ix out k<n)/\ox out (ix out k)=k:=by obtain⟨f,g,e⟩:=aY b p;have c:=p.mem_iff.mpr<|az.mpr h;have a:=List.idxOf_lt_length_iff.mpr c;refine⟨by unfold ix;lia,?_⟩;unfold ix ox;rw[Zb,Yg a,List.getElem_idxOf];rfl
def sS(c:1<=n)(p:out.Perm (ao n)){k i}(h:0<=k/\k<n)(hi:0<=i/\i<n):ix out k=i↔k=ox out i:=by
 obtain⟨a,b⟩:=uH c p h;constructor
 ·intro e;rw[<-e];exact b.symm
 ·intro e;by_cases z:ix out k=i
  ·exact z
  ·exact absurd (b.trans e)<|xS c p a hi z
def tu(out q:List Int):List Int:=out.map<|ox q
theorem sx{f:Int->Int}{i}(h:0<=i/\i<L.length):ox (L.map f) i=f (ox L i):=by
 unfold ox;have a:i.toNat<L.length:=by lia
 rw[Yo,Yg a];rfl
theorem mh(a:1<=n)(p:out.Perm (ao n))q{i}(h:0<=i/\i<n):ox (tu out q) i=ox q (ox out i):=sx (by have:=(aY a p).1;lia)
theorem lN{f}(h:0<=k/\k<n):ox ((ao n).map f) k=f k:=by
 have a:k<((ao n).length):=by rw[aC];lia
 rw[sx ⟨h.1,a⟩]
 congr 1
 unfold ox ao;rw[Yo,ZJ<|by lia];show(k.toNat)=k;lia
def IM(h:1<=n)(p:out.Perm (ao n)){a b}(i:a.length=n)(g:b.length=n)(e:tu out a=tu out b):a=b:=by rw[ge i,ge g];refine Zl λk f=>?_;obtain⟨c,x⟩:=uH h p<|az.mp f;have:=YR (λl=>ox l<|ix out k) e;simp[mh h p _ c,x]at this;exact this
def yi(a:1<=n)(p:out.Perm (ao n))(h:q.length=n):(tu out q).Perm q:=by have:=p.map<|ox q;rwa[<-ge h]at this
def Twt(n:Int)(out:List Int)(us ts:List T4):Prop:=∀i j,0<=i/\i<n->0<=j/\j<n->(aX i j us).Perm (aX (ox out i) (ox out j) ts)
def Lb(a:1<=n/\n<=7)(p:out.Perm (ao n)){us}(hs:Twt n out us ts)q{i}(hi:0<=i/\i<n):kyD (tu out q) us n i=kyD q ts n (ox out i):=by
 have b:=(aY a.1 p).1;have g:(oth n i).map (prD (tu out q) us i)=((oth n i).map<|ox out).map (prD q ts<|ox out i):=by rw[YI];refine Zl λj h=>?_;obtain⟨h,_⟩:=yV.mp h;show prD _ us i j=prD q ts _ _;unfold prD;rw[mh a.1 p q h,kt<|hs i j hi h]
 have f:((oth n i).map<|ox out).Perm (oth n<|ox out i):=by
  have e:(oth n i).map (ox out)=out.filter λx=>!decide (x=ox out i):=by
   rw[ge b,List.filter_map,<-ge b]
   congr 1
   refine List.filter_congr λj h=>?_
   congr 1
   refine VY.mpr ⟨λz=>by rw[z],λz=>?_⟩;by_cases y:j=i
   ·exact y
   ·exact absurd z<|xS a.1 p (az.mp h) hi y
  rw[e];exact p.filter _
 obtain⟨_,c,_,_⟩:=eM<|rH q ts n (ox out i) a;unfold kyD;rw[mh a.1 p q hi,g,h_ (f.map _) c]
def C7(h:as.Perm bs):(bh as).Perm (bh bs):=(Xu (hU as)<|hU bs).mpr λx=>by rw[ca,ca,h.mem_iff]
def CD(h:1<=n)(p:out.Perm (ao n))f:rks (out.map f)=tu out (rks ((ao n).map f)):=by have c:=C7<|p.map f;have a:=(aY h p).2.2;unfold rks tu;rw[YI];refine Zl λk b=>?_;show(rkD _<|f k)=ox _ k;rw[YI,lN<|a k b,uJ c];rfl
def HW(h:1<=n/\n<=7)(p:out.Perm (ao n)){us}(hs:Twt n out us ts)q:fin (tu out q) us n=tu out (fin q ts n):=by
 have a:=(aY h.1 p).1;unfold fin;have:kys (tu out q) us n=out.map (kyD q ts n):=by unfold kys;rw[ge a,YI,<-ge a];exact Zl λi b=>Lb h p hs q<|az.mp b
 rw[this,CD h.1 p];rfl
theorem ud(h:1<=n/\n<=7)(p:out.Perm (ao n)){us}(hs:Twt n out us ts):∀k q,q.length=n->stl us n k (tu out q)=tu out (stl ts n k q)
 |0,q,_=>rfl
 |k+1,q,hq=>by
  unfold stl;rw[HW h p hs q];have a:((fin q ts n).length)=n:=ia h.1;by_cases z:fin q ts n=q
  ·rw[Yj z,z,Yj rfl]
  ·rw[Yl z,Yl λy=>z<|IM h.1 p a hq y,ud h p hs k _ a]
theorem G0(a:okK n ks):ks.map D.str=(ao n).map λk=>D.str (kAt ks k):=by
 have b:=a.1;apply ZY;intro k;unfold ao;rw[YI,Yo,Yo];by_cases h:k<ks.length
 ·rw[ZJ<|by lia,Yg];show some _=some (D.str _);unfold kAt;rw[Zb,Yg h];rfl
 ·rw[Zh<|by lia,Zh<|by rw[Zj];lia];rfl
def Jh(h:1<=n/\n<=7)(p:out.Perm (ao n)){us}(c:okK n ls)(a:okK n ks)(b:∀i,0<=i/\i<n->kAt ls i=kAt ks (ox out i))(hs:Twt n out us ts):fpt ls us n=tu out (fpt ks ts n):=by
 unfold fpt;have:rks (ls.map D.str)=tu out (rks<|ks.map D.str):=by
  rw[G0 a,<-CD h.1 p,G0 c]
  rw[ge (aY h.1 p).1]
  rw[YI]
  congr 1
  exact Zl λi e=>by
   show D.str _=D.str _;rw[b i<|az.mp e]
 rw[this];exact ud h p hs 100 _<|by rw[kB,Yc];exact a.1
def Bq(a:1<=n)(p:out.Perm (ao n))(h:q.length=n)r:cnt (tu out q) r=cnt q r:=(yi a p h).countP_eq _
def HX(h:1<=n)(p:out.Perm (ao n))(b:q.length=n):((opn (tu out q) n).map (ox out)).Perm (opn q n):=by
 have a:=(aY h p).1;unfold opn;have e:(λr=>decide<|1<cnt _ r)=λr=>decide _:=funext λr=>by rw[Bq h p b]
 rw[e];split
 ·rename_i r _;have f:(rwC (tu out q) n r).map (ox out)=out.filter λk=>decide (ox q k=r):=by
   rw[ge a,List.filter_map,<-ge a]
   congr 1
   refine List.filter_congr λj c=>?_;rw[mh h p q<|az.mp c];rfl
  rw[f];exact p.filter _
 ·exact XA _
def Il(h:1<=n)(p:out.Perm (ao n))(e:q.length=n)(b:0<=k/\k<n):pah (tu out q) n (ix out k)=tu out (pah q n k):=by
 obtain⟨c,x⟩:=uH h p b;have g:=(aY h p).1;unfold pah;rw[mh h p q c,x,Bq h p e];by_cases z:cnt q (ox q k)=1
 ·rw[Yj z,Yj z]
 ·rw[Yl z,Yl z];have f:=(aY h p).2.2;have l:tu out ((ao n).map λj=>if ox q j<ox q k\/j=k then ox q j else ox q j+1)=out.map λj=>if ox q j<ox q k\/j=k then ox q j else ox q j+1:=by unfold tu;exact Zl λj a=>lN<|f j a
  rw[l]
  conv=>rhs;rw[ge g]
  rw[YI];refine Zl λj a=>?_;have a:=az.mp a;rw[mh h p q a];have i:(j=ix out k)↔(ox out j=k):=⟨λy=>by rwa[y],λy=>((sS h p b a).mpr y.symm).symm⟩
  simp[i]
end
def Jz(a:Cmps n ds){d e}(hd:d∈ds)(he:e∈ds)(h:rkD (bh ds) d=rkD (bh ds) e):d=e:=by have b:=nK a hd;have c:=nK a he;rw[h,c]at b;cases b;rfl
theorem IL{n i j}(hi:0<=i/\i<n)(b:0<=j/\j<n)(h:ox q i≠ox q j):ox (fin q ts n) i≠ox (fin q ts n) j:=by obtain⟨f,c⟩:=pP (ps:=q) (ts:=ts) hi;obtain⟨b1,b2⟩:=pP (ps:=q) (ts:=ts) b;unfold fin;rw[pK f,pK b1,c,b2];intro z;have e:=Jz (iY q ts n) (Ym.mpr ⟨i,az.mpr hi,rfl⟩) (Ym.mpr ⟨j,az.mpr b,rfl⟩) (by lia);have:=YR (λd=>match d with|.tup (.int a::_)=>a|_=>0) e;exact h this
theorem xx{n i j}(hi:0<=i/\i<n)(a:0<=j/\j<n):∀k q,ox q i≠ox q j->ox (stl ts n k q) i≠ox (stl ts n k q) j
 |0,q,h=>h
 |k+1,q,h=>by
  unfold stl;by_cases z:fin q ts n=q
  ·rwa[Yj z]
  ·rw[Yl z];exact xx hi a k _<|IL hi a h
def lO{n k i}(h:¬cnt q (ox q k)=1)(hi:0<=i/\i<n):ox (pah q n k) i=if ox q i<ox q k\/i=k then ox q i else ox q i+1:=by unfold pah;rw[Yl h,lN hi]
theorem C1{c:Type}{R}(s:∀a b,R a b->R b a):∀{S:List c},S.Pairwise R->∀a∈S,∀b∈S,a≠b->R a b
 |[],_,a,ha,_,_,_=>by cases ha
 |x::S,h,a,ha,b,hb,ne=>by
  obtain⟨e,f⟩:=ZF.mp h;rcases Yw.mp ha with ea|ha
  ·rcases Yw.mp hb with eb|hb
   ·exact absurd (ea.trans eb.symm) ne
   ·rw[ea];exact e b hb
  ·rcases Yw.mp hb with eb|hb
   ·rw[eb];exact s _ _<|e a ha
   ·exact C1 s f a ha b hb ne
def uC(n:Int)(q S:List Int):Prop:=(∀s∈S,0<=s/\s<n)/\S.Pairwise λa b=>ox q a≠ox q b
def vp{S}(h:uC n q S):S.Nodup:=h.2.imp λz e=>z<|by rw[e]
theorem wN{n k m}{S}(h:uC n q S)(w:0<=k/\k<n)(p:0<=m/\m<n)(u:m≠k)(he:ox q m=ox q k)(l:¬cnt q (ox q k)=1):∃x,uC n (stl ts n 100 (pah q n k)) (x::S):=by
 have f:∀a b,(0<=a/\a<n)->(0<=b/\b<n)->ox q a≠ox q b->ox _ a≠ox _ b:=λa b g o j=>by
  rw[lO l g,lO l o];split<;>split<;>first|lia|(rename_i z y;rcases z with z|z<;>first|lia|(subst z;lia))|(rename_i z y;rcases y with y|y<;>first|lia|(subst y;lia))
 have i:∀a,(0<=a/\a<n)->a≠k->ox q a=ox q k->ox _ a≠ox _ k:=λa g A e=>by
  rw[lO l g,lO l w,Yl<|by rintro (z|z);lia;exact A z,Yj<|.inr rfl];lia
 have key:∀x,(0<=x/\x<n)->(∀s∈S,ox _ x≠ox _ s)->uC n (stl ts n 100<|pah q n k) (x::S):=λx B c=>by
  refine⟨λs z=>?_,ZF.mpr ⟨λs z=>xx B (h.1 s z) 100 _<|c s z,?_⟩⟩
  ·rcases Yw.mp z with z|z
   ·rwa[z]
   ·exact h.1 s z
  ·refine h.2.imp_of_mem λ{a b} g o j=>xx (h.1 a g) (h.1 b o) 100 _<|f a b (h.1 a g) (h.1 b o) j
 by_cases C:k∈S
 ·refine⟨m,key m p λs c=>?_⟩;by_cases z:s=k
  ·rw[z];exact i m p u he
  ·have:ox q s≠ox q k:=C1 (λ_ _ z e=>z e.symm) h.2 s c k C z;exact f m s p (h.1 s c) λe=>this<|by rwa[<-e]
 ·refine⟨k,key k w λs c=>?_⟩;by_cases z:ox q s=ox q k
  ·exact λe=>i s (h.1 s c) (λy=>C<|y ▸ c) z e.symm
  ·exact f k s w (h.1 s c) λe=>z e.symm
theorem Ex(o:(q.length:Int)=n)(e:Can q)(h:opn q n=[]):q.Perm (ao n):=by
 have c:∀r,0<=r->r<n->cnt q r<=1:=λr l j=>by
  refine Zp λz=>?_;unfold opn at h;cases y:(ao n).find? (λr=>decide<|1<cnt q r)with
  |none=>exact Uv.mp y r (az.mpr ⟨l,j⟩)<|YS<|by lia
  |some g=>
   rw[y]at h;have s:=Up y;have x:=YN s;have p:(rwC q n g).length=0:=by rw[show rwC q n g=[]from h];rfl
   rw[yB o]at p;lia
 have i:q.Nodup:=by
  rw[List.nodup_iff_count];intro a;by_cases b:a∈q
  ·obtain⟨u,A⟩:=e.1 a b;have:=c a u (by lia);refine YD (Xm ?_) this;exact YR (λf=>List.countP f q) (funext λy=>by
    by_cases z:y=a
    ·subst z;simp
    ·simp[z])
  ·rw[List.count_eq_zero_of_not_mem b];exact YO _
 refine(Xu i<|f9 n).mpr λa=>⟨λb=>?_,λb=>?_⟩
 ·have:=e.1 a b;exact az.mpr<|by lia
 ·refine Zp λz=>?_;have:=c8 (a::q) (ao n) (YT.mpr ⟨z,i⟩) λy m=>by
   rcases Yw.mp m with w|w
   ·rwa[w]
   ·have:=e.1 y w;exact az.mpr<|by lia
  rw[Yt,aC]at this;lia
end My
set_option maxHeartbeats 1000000
namespace My
open PySem PySem.Spec PyProof.Rows L2
structure Twn (n:Int) (g:List Int) (ls:List Str) (us:List T4) (ks:List Str) (ts:List T4):Prop where
 p:g.Perm (ao n)
 k:∀i,0<=i/\i<n->kAt ls i=kAt ks (ox g i)
 t:Twt n g us ts
def In(n i:Int):Prop:=0<=i/\i<n
section
variable{n:Int}{g:List Int}  {us:List T4}
def jz(a:1<=n)(p:g.Perm (ao n)){i}(h:In n i):In n (ox g i):=(kY a p h).2
def iN(a:1<=n)(p:g.Perm (ao n)){i}(h:In n i):In n (ix g i):=(uH a p h).1
def ju(a:1<=n)(p:g.Perm (ao n)){i}(h:In n i):ox g (ix g i)=i:=(uH a p h).2
def l6(a:1<=n)(p:g.Perm (ao n)){i}(h:In n i):ix g (ox g i)=i:=(sS a p (jz a p h) h).mpr rfl
theorem EB{L:List Int}(h1:L.Nodup)(h2:∀x∈L,x∈ao n)(a:L.length=n.toNat):L.Perm (ao n):=by
 refine(Xu h1<|f9 n).mpr λx=>⟨h2 x,λh=>Zp λz=>?_⟩
 have:=c8 (x::L) (ao n) (YT.mpr ⟨z,h1⟩) λy hy=>by
  rcases Yw.mp hy with rfl|hy
  ·exact h
  ·exact h2 y hy
 rw[Yt,aC]at this;lia
def tY{f}(h1:∀i,In n i->In n (f i))(h2:∀i j,In n i->In n j->f i=f j->i=j):((ao n).map f).Perm (ao n):=by
 have b:((ao n).map f).Nodup:=by rw[List.Nodup,Xs];exact(f9 n).imp_of_mem λl g a e=>a<|h2 _ _ (az.mp l) (az.mp g) e
 refine EB b (λx h=>?_) (by rw[Yc,aC]);obtain⟨i,c,rfl⟩:=Ym.mp h;exact az.mpr<|h1 i<|az.mp c
def Iw{a b}(f:a.length=n)(e:b.length=n)(h:∀i,In n i->ox a i=ox b i):a=b:=by rw[ge f,ge e];exact Zl λi c=>h i<|az.mp c
theorem vq f:∀r:List Int,c7 (r.map f)=(c7 r).map λp=>(f p.1,f p.2)
 |[]=>rfl
 |x::xs=>by
  show((xs.map f).map λy=>(f x,y))++c7 _=((xs.map λy=>(x,y))++c7 xs).map _;rw[vq,Za,YI,YI];rfl
theorem uD:∀{r}{p},p∈c7 r->p.1∈r/\p.2∈r
 |[],p,h=>nomatch h
 |x::xs,p,h=>by
  rcases Zm.mp h with h|h
  ·obtain⟨y,c,rfl⟩:=Ym.mp h;exact⟨Ye,Yd _ c⟩
  ·obtain⟨a,b⟩:=uD h;exact⟨Yd _ a,Yd _ b⟩
def Hi(T:Twn n g ls us ks ts)(h:∀x∈r,In n x):aJ ls us r=aJ ks ts (r.map (ox g)):=by
 unfold aJ;rw[vq,YI,YI,YI,YI,show r.map _=r.map ((D.str ∘ kAt ks) ∘ ox g)from Zl λx c=>by show D.str _=D.str _;rw[T.k x<|h x c]]
 congr 3
 refine YR D.tup<|Zl λp e=>?_;obtain⟨a,b⟩:=uD e;exact kt<|T.t p.1 p.2 (h _ a)<|h _ b
noncomputable def ch (ts:List T4)(n:Int)(q:List Int)(k:Int):List Int:=stl ts n 100<|pah q n k
def inv(n:Int)(q:List Int):List Int:=(ao n).map<|ix q
noncomputable def lv (ts:List T4)(n:Int):Nat->List Int->List (List Int)
 |0,_=>[]
 |m+1,q=>if opn q n=[]then[inv n q]else(opn q n).flatMap λk=>lv ts n m<|ch ts n q k
def Pt(n:Int)(q:List Int):Prop:=q.length=n/\Can q
def IH(h:1<=n/\n<=7)(a:q.length=n):Pt n (stl ts n 100 q):=
 ⟨tz ts n h.1 100 q a,sJ ts n 100 q (pj ts n h q) ▸ kL _ ts n⟩
def kF(a:1<=n/\n<=7)(h:Pt n q)k:Pt n (ch ts n q k):=IH a<|iB (Ve (by decide) a.1) h.1
def kS(h:Pt n q)(o:opn q n=[]):q.Perm (ao n):=Ex h.1 h.2 o
def dM(a:1<=n)(p:q.Perm (ao n)):(inv n q).Perm (ao n):=tY (λi h=>iN a p h) λi j c b e=>by
 rw[<-ju a p c,e,ju a p b]
def tZ{i}(h:In n i):ox (inv n q) i=ix q i:=lN h
def Hn(a:1<=n)(p:q.Perm (ao n)){i}(h:In n i):ix (inv n q) i=ox q i:=
 (sS a (dM a p) h<|jz a p h).mpr<|by rw[tZ<|jz a p h,l6 a p h]
def eO(h:k∈opn q n):In n k:=by
 unfold opn at h;split at h
 ·exact az.mp (Zx.mp h).1
 ·cases h
def vB(a:1<=n)(p:g.Perm (ao n))(h:q.Perm (ao n)):(tu g q).Perm (ao n):=(yi a p (aY a h).1).trans h
def IE(h:1<=n)(p:g.Perm (ao n))(b:q.Perm (ao n)):(inv n (tu g q)).map (ox g)=inv n q:=by unfold inv;rw[YI];refine Zl λr a=>?_;have a:=az.mp a;have pt:=vB h p b;have c:=iN h pt a;refine((sS h b a<|jz h p c).mpr ?_).symm;rw[<-mh h p q c,ju h pt a]
def zh(a:1<=n/\n<=7)(T:Twn n g ls us ks ts)(h:q.length=n)(b:In n k):ch us n (tu g q) (ix g k)=tu g (ch ts n q k):=by unfold ch;rw[Il a.1 T.p h b];exact ud a T.p T.t 100 _<|iB (Ve (by decide) a.1) h
theorem za(a:1<=n/\n<=7)(T:Twn n g ls us ks ts):∀m q,Pt n q->∀x,x∈(lv us n m (tu g q)).map (aJ ls us)↔x∈(lv ts n m q).map (aJ ks ts)
 |0,q,_,x=>Iff.rfl
 |m+1,q,h,x=>by
  have c:=HX a.1 T.p h.1;have w:opn _ n=[]↔opn q n=[]:=⟨λz=>by rw[z]at c;exact c.symm.eq_nil,λz=>by rw[z]at c;exact XN.mp c.eq_nil⟩
  unfold lv;by_cases o:opn q n=[]
  ·rw[Yj o,Yj<|w.mpr o];have s:=kS h o;show x∈[aJ ls us _]↔x∈[aJ ks ts _];rw[Hi T λy A=>az.mp<|(dM a.1<|vB a.1 T.p s).mem_iff.mp A,IE a.1 T.p s]
  ·rw[Yl o,Yl λz=>o<|w.mp z,List.map_flatMap,List.map_flatMap,XQ,XQ];constructor
   ·rintro⟨f,b,i⟩;have j:=eO b;refine⟨ox g f,c.mem_iff.mp<|Ym.mpr ⟨f,b,rfl⟩,?_⟩;have e:=zh a T h.1<|jz a.1 T.p j;rw[l6 a.1 T.p j]at e;rw[e]at i;exact(za a T m _ (kF a h _) x).mp i
   ·rintro⟨k,u,i⟩;have j:=eO u;obtain⟨f,b,e⟩:=Ym.mp<|c.mem_iff.mpr u;subst e;have l:=eO b;refine⟨f,b,?_⟩;have e:=zh a T h.1 j;rw[l6 a.1 T.p l]at e;rw[e];exact(za a T m _ (kF a h _) x).mpr i
abbrev Au(ks:List Str)(ts:List T4)(n:Int)(g:List Int):Prop:=Twn n g ks ts ks ts
def nL(n:Int)(a b:List Int):List Int:=(ao n).map λi=>ox b<|ix a i
noncomputable def flp(p:Int×Int):Int×Int:=(p.1,if p.2=1 then 2 else if p.2=2 then 1 else p.2)
def Gs{i j}(h:okT n t):prs j i t=(prs i j t).map flp:=by
 obtain⟨a,b,k,o⟩:=t;have e:=h.2.2.2.2.1;have c:¬b=a:=λz=>e z.symm
 unfold prs;by_cases g:a=i/\b=j
 ·obtain⟨rfl,rfl⟩:=g;cases o<;>simp[flp,c]
 ·by_cases f:b=i/\a=j
  ·obtain⟨rfl,rfl⟩:=f;cases o<;>simp[flp,c]
  ·have n2:¬(b=j/\a=i):=λz=>g ⟨z.2,z.1⟩
   have n1:¬(a=j/\b=i):=λz=>f ⟨z.2,z.1⟩
   simp[g,f,n2,n1]
theorem pL{i j}:∀{ts},(∀t∈ts,okT n t)->aX j i ts=(aX i j ts).map flp
 |[],_=>rfl
 |t::ts,h=>by
  show prs j i t++aX j i ts=(prs i j t++aX i j ts).map flp;rw[Za,Gs<|h t Ye,pL λu a=>h u<|Yd _ a]
theorem k9{i}:∀{ts},(∀t∈ts,okT n t)->aX i i ts=[]
 |[],_=>rfl
 |t::ts,h=>by
  show prs i i t++aX i i ts=[]
  have a:=(h t Ye).2.2.2.2.1;rw[k9 λu b=>h u<|Yd _ b];unfold prs;rw[Yl λz=>a<|z.1.trans z.2.symm,Yl λz=>a<|z.2.trans z.1.symm];rfl
theorem DN(a:1<=n)(p:r.Perm (ao n)){x}(h:In n x):r[(ix r x).toNat]?=some x:=by
 have c:=iN a p h;have b:=ju a p h;have e:=(aY a p).1;unfold ox at b;have:(ix r x).toNat<r.length:=by have:=c.1;have:=c.2;lia
 rw[Yg this]at b ⊢;exact YR some b
def qY(c:1<=n){a b}(p:a.Perm (ao n))(f:b.Perm (ao n)):(nL n a b).Perm (ao n):=tY (λi h=>jz c f<|iN c p h) λi j l g e=>by
 have o:=iN c p l;have m:=iN c p g;have:ix a i=ix a j:=by rw[<-l6 c f o,e,l6 c f m]
 rw[<-ju c p l,this,ju c p g]
theorem rO(e:1<=n)(hs:∀t∈ts,okT n t){a b}(p:a.Perm (ao n))(m:b.Perm (ao n))(h:aJ ks ts a=aJ ks ts b):Au ks ts n (nL n a b):=by
 have z:=(aY e p).1;have y:=(aY e m).1;have x:=D.tup.inj h;injection x with e1 e2;injection e2 with e2 _;have w:=GD _ _<|D.tup.inj e1;have s:=(vi _ a b<|by lia).mp<|D.tup.inj e2;have o:∀i,In n i->ox (nL n a b) i=ox b _:=λi c=>lN c
 have g:∀i,In n i->b[(ix a i).toNat]?=some (ox b _):=λi c=>by
  have q:=iN e p c;have:(ix a i).toNat<b.length:=by have:=q.1;have:=q.2;lia
  unfold ox;rw[Yg this];rfl
 have u:∀i j,In n i->In n j->ix a i<ix a j->(aX i j ts).Perm _:=λi j c f A=>
  FN<|s _ _ _ _ _ _ (by have:=(iN e p c).1;lia) (DN e p c) (DN e p f) (g i c)<|g j f
 refine⟨qY e p m,λi c=>?_,λi j c f=>?_⟩
 ·rw[o i c];have:=YR (λl=>l[(ix a i).toNat]?) w;simp[DN e p c,g i c]at this;exact this
 ·rw[o i c,o j f];rcases Int.lt_trichotomy _ (ix a j)with l|l|l
  ·exact u i j c f l
  ·have:i=j:=by rw[<-ju e p c,l,ju e p f]
   subst this;rw[k9 hs,k9 hs]
  ·rw[pL hs,pL (j:=ox b _) hs];exact(u j i f c l).map flp
end
def Ref(n:Int)(a b:List Int):Prop:=∀i j,In n i->In n j->ox a i<ox a j->ox b i<ox b j
section
variable{n:Int}{a b:List Int}  
def Ref.trans{c}(h:Ref n a b)(k:Ref n b c):Ref n a c:=λi j f e l=>k i j f e<|h i j f e l
def JM(p:Cmps m ds){d e}(hd:d∈ds)(he:e∈ds)(h:ltD d e=true):rkD (bh ds) d<rkD (bh ds) e:=by
 have g:=p.sub λx a=>ca.mp a
 have c:=ca.mpr hd;have j:=ca.mpr he;have s:∀x∈bh ds,ltD x d=true->ltD x e=true:=λx a l=>GS g a c j l h
 have key:∀L:List D,(∀x∈L,x∈bh ds)->(L.filter λx=>ltD x d).length<=(L.filter λx=>ltD x e).length/\(d∈L->(L.filter λx=>ltD x d).length<(L.filter λx=>ltD x e).length):=by
  intro L;induction L with
  |nil=>exact λ_=>⟨Yr _,λz=>nomatch z⟩
  |cons x L ih=>
   intro b;obtain⟨i,f⟩:=ih λy o=>b y<|Yd _ o
   rw[List.filter_cons,List.filter_cons];by_cases z:ltD x d=true
   ·rw[Yj z,Yj<|s x (b x Ye) z,Yt,Yt];refine⟨VV i,λm=>Nat.succ_lt_succ<|f ?_⟩;rcases Yw.mp m with e|m
    ·rw[e,By g<|b x Ye]at z;cases z
    ·exact m
   ·rw[Yl z];by_cases y:ltD x e=true
    ·rw[Yj y,Yt];exact⟨Nat.le_succ_of_le i,λ_=>Nat.lt_succ_of_le i⟩
    ·rw[Yl y];refine⟨i,λm=>f ?_⟩;rcases Yw.mp m with e'|m
     ·rw[<-e']at y;exact absurd h y
     ·exact m
 exact(key _ λ_ h=>h).2 c
theorem Fk:Ref n q (fin q ts n):=λi j a h l=>by
 obtain⟨c,b⟩:=pP (ps:=q) (ts:=ts) a;obtain⟨b1,b2⟩:=pP (ps:=q) (ts:=ts) h;unfold fin;rw[pK c,pK b1,b,b2];have:=JM (iY q ts n) (Ym.mpr ⟨i,az.mpr a,rfl⟩) (Ym.mpr ⟨j,az.mpr h,rfl⟩)<|G_ l;lia
theorem nq:∀k q,Ref n q (stl ts n k q)
 |0,q=>λ_ _ _ _ l=>l
 |k+1,q=>by
  unfold stl;split
  ·exact λ_ _ _ _ l=>l
  ·exact Fk.trans<|nq k _
theorem EE k:Ref n q (pah q n k):=λi j g h l=>by
 by_cases z:cnt q (ox q k)=1
 ·unfold pah;rwa[Yj z]
 ·rw[lO z g,lO z h];have f:i=k->ox q i=ox q k:=λe=>by rw[e]
  have c:j=k->ox q j=ox q k:=λe=>by rw[e]
  by_cases a:i=k<;>by_cases b:j=k<;>first|(have:=f a;lia)|(have:=f a;split<;>(subst a;lia))|(have:=c b;split<;>lia)|(split<;>lia)
def Bm k:Ref n q (ch ts n q k):=(EE k).trans<|nq 100 _
theorem xm(c:1<=n/\n<=7):∀m q,Pt n q->∀l∈lv ts n m q,∃b,b.Perm (ao n)/\l=inv n b/\Ref n q b
 |0,q,_,l,a=>nomatch a
 |m+1,q,h,l,a=>by
  unfold lv at a;split at a
  ·rename_i o;exact⟨q,kS h o,YC.mp a,λ_ _ _ _ l=>l⟩
  ·obtain⟨k,i,a⟩:=XQ.mp a;obtain⟨b,g,f,e⟩:=xm c m _ (kF c h k) l a;exact⟨b,g,f,(Bm k).trans e⟩
theorem vx(c:1<=n)(p1:q1.Perm (ao n))(p2:q.Perm (ao n))(o:a.length=n)(w:b.length=n)(m:Ref n a q1)(u:Ref n b q)(p:a.Perm b)(i:In n r):ox a (ix q1 r)=ox b (ix q r):=by
 have srt:∀{a q1},q1.Perm (ao n)->Ref n a q1->((inv n q1).map<|ox a).Pairwise (·<=·):=λ{a q1} p1 m=>by
  unfold inv;rw[YI,Xs];have:(ao n).Pairwise (· < ·):=by unfold ao;rw[Xs];exact List.pairwise_lt_range.imp λh=>by lia
  refine this.imp_of_mem λ{x y} g f l=>Int.not_lt.mp λz=>?_;have g:=az.mp g;have f:=az.mp f;have:=m _ _ (iN c p1 f) (iN c p1 g) z;rw[ju c p1 g,ju c p1 f]at this;lia
 have s:∀{a q1},a.length=n->q1.Perm (ao n)->((inv n q1).map<|ox a).Perm a:=λ{a q1} o p1=>by
  have:=(dM c p1).map<|ox a;rwa[<-ge o]at this
 have e:=((s o p1).trans<|p.trans (s w p2).symm).eq_of_pairwise (λx y _ _ E C=>Int.le_antisymm E C) (srt p1 m)<|srt p2 u;have j:=YR (λl=>ox l r) e;have B:=(aY c<|dM c p1).1;have A:=(aY c<|dM c p2).1;rwa[sx<|by rwa[B],sx<|by rwa[A],tZ i,tZ i]at j
theorem EA(o:q.length=n){f p}(m:In n f)(l:In n p)(e:ox q f=ox q p):(pah q n f).Perm (pah q n p):=by
 unfold pah;rw[e];split
 ·exact .refl _
 ·by_cases z:f=p
  ·rw[z]
  ·have s:∀i,In n i->In n (if i=f then p else if i=p then f else i):=λi c=>by split;exact l;split;exact m;exact c
   have g:=tY s λi j _ _ h=>by
    by_cases a:i=f<;>by_cases b:i=p<;>lia
   have:=g.map λj=>if ox q j<ox q p\/j=p then ox q j else ox q j+1
   rw[YI]at this;refine List.Perm.trans (.of_eq<|Zl λi c=>?_) this;show(if ox q i<ox q p\/i=f then ox q i else ox q i+1)=(λj=>if ox q j<ox q p\/j=p then ox q j else ox q j+1) (if i=f then p else if i=p then f else i)
   by_cases a:i=f
   ·subst a;simp;exact e
   ·by_cases b:i=p
    ·subst b;simp only[Yl a,Uk];rw[Yl λh=>h.elim (λh=>Int.lt_irrefl _ h) a,Yl λh=>h.elim (λh=>by rw[e]at h;exact Int.lt_irrefl _ h) λh=>a h.symm,e]
    ·rw[Yl a,Yl b];simp[a,b]
def Bi{f p}(h:f∈opn q n)(a:p∈opn q n):ox q f=ox q p:=by
 unfold opn at h a;split at h
 ·rename_i r b;rw[b]at a;exact(YN (Zx.mp h).2).trans (YN (Zx.mp a).2).symm
 ·cases h
def Sim(ks:List Str)(ts:List T4)(n:Int)(m:Nat)(a b:List Int):Prop:=∀x,x∈(lv ts n m a).map (aJ ks ts)↔x∈(lv ts n m b).map (aJ ks ts)
def Ba(a:1<=n/\n<=7){g}(A:Au ks ts n g)(h:Pt n q)(e:tu g q=q){u}(b:In n u)m:Sim ks ts n m (ch ts n q u) (ch ts n q (ox g u)):=by have c:=zh a A h.1<|jz a.1 A.p b;rw[l6 a.1 A.p b,e]at c;intro x;rw[c];exact za a A m _ (kF a h _) x
inductive Node (ks:List Str) (ts:List T4) (n:Int):List Int->List Int->Prop
 |nil:Node ks ts n [] (fpt ks ts n)
 |cons {w q:List Int}{k:Int}:Node ks ts n w q->k∈opn q n->Node ks ts n (w++[k]) (ch ts n q k)
def Node.pt(a:1<=n/\n<=7)(b:okK n ks){w}(h:Node ks ts n w q):Pt n q:=by
 induction h with
 |nil=>exact nE a b
 |cons _ _ ih=>exact kF a ih _
def Node.leaves(b:1<=n/\n<=7)(c:okK n ks){w g}(A:Au ks ts n g)(h:Node ks ts n w q):(∀x∈w,ox g x=x)->tu g q=q:=by
 induction h with
 |nil=>exact λ_=>(Jh b A.p c c A.k A.t).symm
 |@cons w q k h l ih=>
  intro f;have e:=ih λx j=>f x<|YW _ j
  have a:=f k<|YK _<|Zg k;have i:=eO l;have:=zh b A (h.pt b c).1 i;rw[<-this]
  congr 1
  rw[<-a,l6 b.1 A.p i,a]
section
variable{α:Type} [DecidableEq α]
def lw(F xs:List α):List α:=xs.foldl (λF x=>if x∈F then F else F++[x]) F
def ji F x(xs:List α):lw F (x::xs)=lw (if x∈F then F else F++[x]) xs:=rfl
theorem oX{y}:∀{xs F:List α},y∈lw F xs↔y∈F\/y∈xs
 |[],F=>by simp[lw]
 |x::xs,F=>by
  rw[ji,oX];by_cases h:x∈F
  ·rw[Yj h,Yw];constructor
   ·rintro (a|a);exact .inl a;exact .inr<|.inr a
   ·rintro (a|rfl|a);exact .inl a;exact .inl h;exact .inr a
  ·rw[Yl h,Zm,YC,Yw,or_assoc]
theorem sK:∀{xs F:List α},F.Nodup->(lw F xs).Nodup
 |[],F,h=>h
 |x::xs,F,h=>by
  rw[ji];by_cases q:x∈F
  ·rw[Yj q];exact sK h
  ·rw[Yl q];refine sK<|Xi.mpr ⟨h,by simp,λa e b c=>?_⟩;rw[YC]at c;subst c;exact λz=>q<|z ▸ e
theorem u_:∀(xs F:List α),∃s,lw F xs=F++s
 |[],F=>⟨[],by simp[lw]⟩
 |x::xs,F=>by
  rw[ji];obtain⟨s,e⟩:=u_ xs<|if x∈F then F else F++[x];rw[e];by_cases q:x∈F
  ·rw[Yj q];exact⟨s,rfl⟩
  ·rw[Yl q];exact⟨x::s,by rw[Zi];rfl⟩
end
noncomputable def bfs(nb:Int->List Int):Nat->List Int->Nat->List Int
 |0,F,_=>F
 |k+1,F,d=>match F[d]? with
  |none=>F
  |some a=>bfs nb k (lw F<|nb a)<|d+1
theorem zd{P:Int->Prop}(h:∀a,P a->∀b∈nb a,P b):∀k F d,(∀x∈F,P x)->∀x∈bfs nb k F d,P x
 |0,F,d,hF,x,hx=>hF x hx
 |k+1,F,d,hF,x,hx=>by
  unfold bfs at hx;split at hx
  ·exact hF x hx
  ·rename_i a q;refine zd h k _ _ (λy c=>?_) x hx;rcases oX.mp c with z|z
   ·exact hF y z
   ·exact h a (hF a<|YJ q) y z
theorem Fr(o:∀a∈ao n,∀b∈nb a,b∈ao n):∀(k:Nat) F (d:Nat),F.Nodup->(∀x∈F,x∈ao n)->n<d+k->(∀i a,i<d->F[i]?=some a->∀b∈nb a,b∈F)->
  (∀x∈F,x∈bfs nb k F d)/\∀x∈bfs nb k F d,∀b∈nb x,b∈bfs nb k F d
 |0,F,d,nd,hF,hk,h=>⟨λ_ h=>h,λx g b f=>by
  have g:x∈F:=g;obtain⟨i,j,e⟩:=ZX g;have:=c8 F (ao n) nd hF;rw[aC]at this;exact h i x (by omega) (by rw[Yg j,e]) b f⟩
 |k+1,F,d,nd,hF,hk,h=>by
  unfold bfs;split
  ·rename_i q;have:=Vm.mp q;refine⟨λ_ h=>h,λx g b f=>?_⟩;obtain⟨i,j,e⟩:=ZX g;exact h i x (by omega) (by rw[Yg j,e]) b f
  ·rename_i a q;have p:=hF a<|YJ q;obtain⟨E,w⟩:=u_ (nb a) F;obtain⟨u,s⟩:=Fr o k _ (d+1) (sK nd) (λx g=>(oX.mp g).elim (hF x)<|o a p x) (by omega) λi c j m b f=>by
    have y:=(Yn.mp q).1;rw[w,ZS<|by omega]at m;rcases Nat.lt_succ_iff_lt_or_eq.mp j with l|l
    ·exact oX.mpr<|.inl<|h i c l m b f
    ·rw[l,q]at m;cases m;exact oX.mpr<|.inr f
   exact⟨λx g=>u x<|oX.mpr<|.inl g,s⟩
inductive Gen (n:Int) (T:List (List Int)):List Int->Prop
 |one:Gen n T (ao n)
 |on {a t:List Int}:Gen n T a->t∈T->Gen n T (a.map (ox t))
section
variable{n:Int}{T:List (List Int)}
def Gen.mono(h:∀t∈T,t∈U)(g:Gen n T a):Gen n U a:=by
 induction g with
 |one=>exact .one
 |on _ ht ih=>exact ih.on<|h _ ht
def F0(b:1<=n)(p:a.Perm (ao n))(pt:t.Perm (ao n)):(a.map (ox t)).Perm (ao n):=
 (p.map<|ox t).trans<|tY (λi h=>jz b pt h) λi j f c e=>by rw[<-l6 b pt f,e,l6 b pt c]
def Gen.perm(h:1<=n)(b:∀t∈T,t.Perm (ao n))(g:Gen n T a):a.Perm (ao n):=by
 induction g with
 |one=>exact .refl _
 |on _ ht ih=>exact F0 h ih<|b _ ht
def H8(b:1<=n)(p:a.Perm (ao n)){i}(h:In n i):ox (a.map (ox t)) i=ox t (ox a i):=sx<|by rwa[(aY b p).1]
def I7{i}(h:In n i):ox (ao n) i=i:=by
 have:=lN (f:=id) h
 rwa [VP]at this
def Gen.mul(c:1<=n)(e:∀t∈T,t.Perm (ao n))(g:Gen n T a)(k:Gen n T b):Gen n T (b.map (ox a)):=by
 have p:=k.perm c e;induction g with
 |one=>
  have:=Zl (f:=ox<|ao n) (g:=id) λx h=>I7<|az.mp<|p.mem_iff.mp h
  rwa[this,VP]
 |@on a t ga ht ih=>
  rw[show b.map _=(b.map<|ox a).map (ox t)by
   rw[YI];exact Zl λx h=>H8 c (ga.perm c e)<|az.mp<|p.mem_iff.mp h]
  exact ih.on ht
def Clo(n:Int)(T:List (List Int))(P:Int->Prop):Prop:=∀t∈T,∀x,In n x->P x->P (ox t x)
def Few(n:Int)(T:List (List Int)):Prop:=∃(c:Int->Int) (L:List Int),(∀x,In n x->c x∈L)/\(L.length+T.length<=n)/\∀P,Clo n T P->∀x y,In n x->In n y->c x=c y->P x->P y
theorem Kf(a:1<=n):Few n []:=⟨id,ao n,λx h=>az.mpr h,by rw[aC];simp;omega,λP _ x y _ _ e h=>by rwa[<-show x=y from e]⟩
theorem Kt(b:1<=n)(h:Few n T):T.length<n:=by obtain⟨c,L,a,e,_⟩:=h;have:=List.length_pos_of_mem<|a 0 ⟨Int.le_refl 0,by omega⟩;omega
theorem Lv(c:1<=n){g}(p:g.Perm (ao n)){P:Int->Prop}(h:∀x,In n x->P x->P (ox g x)){f}(u:In n f)(q:P (ox g f)):P f:=by
 classical
 refine Zp λz=>?_;have inj:∀i j,In n i->In n j->ox g i=ox g j->i=j:=λi j b s e=>by rw[<-l6 c p b,e,l6 c p s]
 have m:(f::(ao n).filter λx=>P x).Nodup:=YT.mpr ⟨λy=>z<|YN (Zx.mp y).2,(f9 n).sublist List.filter_sublist⟩;have b:∀x∈f::(ao n).filter λx=>P x,In n x/\P _:=λx hx=>by
  rcases Yw.mp hx with rfl|hx
  ·exact⟨u,q⟩
  ·have a:=Zx.mp hx;exact⟨az.mp a.1,h x (az.mp a.1)<|YN a.2⟩
 have:=c8 _ ((ao n).filter λx=>P x) (by
  rw[List.Nodup,Xs];exact m.imp_of_mem λA w l e=>l<|inj _ _ (b _ A).1 (b _ w).1 e) λy o=>by
  obtain⟨x,hx,rfl⟩:=Ym.mp o;exact Zx.mpr ⟨az.mpr<|jz c p (b x hx).1,YS (b x hx).2⟩
 rw[Yc,Yt]at this;omega
theorem LE(s:1<=n)(h:Few n T){g}(p:g.Perm (ao n)){f}(a:In n f){P}(E:Clo n T P)(h1:P f)(h2:¬P (ox g f)):Few n (T++[g]):=by
 have⟨c,L,q,H,w⟩:=h;have l:=jz s p a;have B:=λe=>h2<|w P E f _ a l e h1
 refine⟨λx=>if c x=c (ox g f)then c f else c x,L.erase<|c<|ox g f,λx i=>?_,?_,λQ u x y i m e o=>?_⟩
 ·show(if _ then _ else _)∈_;split
  ·exact(List.mem_erase_of_ne B).mpr<|q f a
  ·rename_i z;exact(List.mem_erase_of_ne z).mpr<|q x i
 ·rw[List.length_erase_of_mem<|q _ l,Yp,YQ];have:=List.length_pos_of_mem<|q _ l;omega
 ·have b:=w Q λt C=>u t<|YW _ C
  have j:=u g<|YK _<|Zg g;have e:(if c x=c (ox g f)then c f else c x)=if c y=c (ox g f)then c f else c y:=e;split at e
  ·rename_i z;split at e
   ·rename_i A;exact b x y i m (z.trans A.symm) o
   ·exact b f y a m e<|Lv s p j a<|b x _ i l z o
  ·split at e
   ·rename_i z;exact b _ y l m z.symm<|j f a<|b x f i a e o
   ·exact b x y i m e o
end
structure Sst where
 way:List Int
 fst:List Int
 frow:D
 lst:List Int
 brow:D
 trn:List (List Int)
def iT(w g:List Int):Bool:=w.all λx=>decide<|ox g x=x
def nbs(T:List (List Int))(a:Int):List Int:=T.map λg=>ox g a
def lo(S:Sst)(w tr:List Int)(p:Int):Bool:=decide<|p∈bfs (nbs<|S.trn.filter<|iT w) 10 tr 0
def onf(S:Sst)(w:List Int):Bool:=decide<|S.way.take w.length=w
noncomputable def arr (ks:List Str)(ts:List T4)(n:Int)(w e:List Int)(S:Sst):Bool×Sst:=if S.fst=[]then(false,⟨w,e,aJ ks ts e,e,aJ ks ts e,S.trn⟩)else
 if eqd (aJ ks ts e) S.frow=true then(true,⟨S.way,S.fst,S.frow,if ltD (aJ ks ts e) S.brow=true then e else S.lst,if ltD (aJ ks ts e) S.brow=true then aJ ks ts e else S.brow,S.trn++[nL n S.fst e]⟩)
 else(false,⟨S.way,S.fst,S.frow,if ltD (aJ ks ts e) S.brow=true then e else S.lst,if ltD (aJ ks ts e) S.brow=true then aJ ks ts e else S.brow,S.trn⟩)
noncomputable def lp(G:Int->Sst->Bool×Sst)(w:List Int):List Int->List Int->Sst->Bool×Sst
 |[],_,S=>(false,S)
 |p::r,tr,S=>if lo S w tr p=true then lp G w r tr S else if((G p S).1&&!onf (G p S).2 w)=true then(true,(G p S).2)else lp G w r (tr++[p]) (G p S).2
noncomputable def goP (ks:List Str)(ts:List T4)(n:Int):Nat->List Int->List Int->Sst->Bool×Sst
 |0,_,_,S=>(false,S)
 |m+1,w,q,S=>if opn q n=[]then arr ks ts n w (inv n q) S else lp (λp S=>goP ks ts n m (w++[p]) (ch ts n q p) S) w (opn q n) [] S
section
variable{n:Int}{ks:List Str}{ts:List T4}
structure Cx3 (ks:List Str) (ts:List T4) (n:Int):Prop where
 hn:1<=n/\n<=7
 hk:okK n ks
 hs:∀t∈ts,okT n t
structure Good (ks:List Str) (ts:List T4) (n:Int) (S:Sst):Prop where
 l1:S.fst.Perm (ao n)
 l2:S.lst.Perm (ao n)
 r1:S.frow=aJ ks ts S.fst
 r2:S.brow=aJ ks ts S.lst
 au:∀g∈S.trn,Au ks ts n g
def JG(S:Sst):Prop:=S.fst=[]/\S.trn=[]
structure Keep (S S':Sst):Prop where
 w:S'.way=S.way
 f:S'.fst=S.fst
 r:S'.frow=S.frow
def Keep.trans{S e c}(a:Keep S e)(b:Keep e c):Keep S c:=⟨b.w.trans a.w,b.f.trans a.f,b.r.trans a.r⟩
def Fix(w g:List Int):Prop:=∀x∈w,ox g x=x
def Non(ks:List Str)(ts:List T4)(n:Int)(x:D)(m:Nat)(q:List Int):Prop:=∀l∈lv ts n m q,aJ ks ts l≠x
def Non.sim{x}(s:Sim ks ts n m a b)(c:Non ks ts n x m a):Non ks ts n x m b:=λl g e=>by
 obtain⟨f,h,i⟩:=Ym.mp<|(s _).mpr<|Ym.mpr ⟨l,g,rfl⟩;exact c f h<|i.trans e
structure Tk (ks:List Str) (ts:List T4) (n:Int) (w:List Int) (T:List (List Int)):Prop where
 fx:∀g∈T,Fix w g
 mv:∀g∈T,∃x,In n x/\ox g x≠x
 w:Few n T
def LT(ks:List Str)(ts:List T4)(n:Int)(w:List Int)(T:List (List Int)):Prop:=∀g,Au ks ts n g->Fix w g->Gen n T g
def GoS(ks:List Str)(ts:List T4)(n:Int)(m:Nat)(w q:List Int)(g:Sst->Bool×Sst):Prop:=
 (∀S,JG S->(g S).1=false/\Good ks ts n (g S).2/\(g S).2.way.take w.length=w/\(∃a,a.Perm (ao n)/\(g S).2.fst=inv n a/\Ref n q a)/\(g S).2.fst∈lv ts n m q/\Tk ks ts n w (g S).2.trn/\LT ks ts n w (g S).2.trn) /\
 ∀S,Good ks ts n S->onf S w=false->Good ks ts n (g S).2/\Keep S (g S).2/\(((g S).1=false/\(g S).2.trn=S.trn/\Non ks ts n S.frow m q)\/((g S).1=true/\∃l∈lv ts n m q,aJ ks ts l=S.frow/\(g S).2.trn=S.trn++[nL n S.fst l]))
def sP:(opn q n).Nodup:=by
 unfold opn;split
 ·exact(f9 n).sublist List.filter_sublist
 ·exact .nil
def zu{p}(e:opn q n=a++p::r):p∈opn q n/\p∉a/\opn q n=(a++[p])++r:=by have b:=sP (n:=n) (q:=q);rw[e]at b;refine⟨by rw[e];exact YK _ Ye,λz=>(Xi.mp b).2.2 p z p Ye rfl,by rw[e,Zi];rfl⟩
def fS{p x}(h:x∈a++[p]):x∈a\/x=p:=(Zm.mp h).imp id YC.mp
def L0(X:Cx3 ks ts n){S}{w q tr}{p}(N:Node ks ts n w q)(g:Good ks ts n S)(c:∀t∈tr,In n t/\Non ks ts n S.frow m (ch ts n q t))(h:lo S w tr p=true):Non ks ts n S.frow m (ch ts n q p):=by
 refine(zd (λa f b j=>?_) 10 tr 0 c p<|YN h).2;obtain⟨t,c,rfl⟩:=Ym.mp j;obtain⟨o,l⟩:=Zx.mp c;have A:=g.au t o;have e:=N.leaves X.hn X.hk A λx i=>YN<|Yi.mp l x i
 exact⟨jz X.hn.1 A.p f.1,f.2.sim<|Ba X.hn A (N.pt X.hn X.hk) e f.1 m⟩
def quo(n:Int)(h g:List Int):List Int:=(ao n).map λi=>ix h<|ox g i
def N0{h g}{i}(hi:In n i):ox (quo n h g) i=ix h (ox g i):=lN hi
def OI(f:1<=n){h g}(H:Au ks ts n h)(A:Au ks ts n g):Au ks ts n (quo n h g):=by
 have b:∀i,In n i->In n _:=λi a=>iN f H.p<|jz f A.p a
 have e:∀i,In n i->ox h _=ox g i:=λi a=>ju f H.p<|jz f A.p a
 refine⟨tY b λi j a c z=>?_,λi a=>?_,λi j a c=>?_⟩
 ·have:=e i a;rw[z,e j c]at this;rw[<-l6 f A.p a,<-this,l6 f A.p c]
 ·rw[N0 a,H.k _<|b i a,e i a];exact A.k i a
 ·rw[N0 a,N0 c];have:=H.t _ _ (b i a)<|b j c;rw[e i a,e j c]at this;exact(A.t i j a c).trans this.symm
def OJ(b:1<=n){w h g}(hw:∀x∈w,In n x)(H:Au ks ts n h)(fh:Fix w h)(f:Fix w g):Fix w (quo n h g):=λx a=>by
 rw[N0<|hw x a,f x a];have:=l6 b H.p<|hw x a
 rwa [fh x a]at this
def OK(c:1<=n){h g}(H:Au ks ts n h)(A:Au ks ts n g):Au ks ts n (g.map (ox h)):=by
 have b:∀i,In n i->In n _:=λi a=>jz c A.p a
 refine⟨F0 c A.p H.p,λi a=>?_,λi j a e=>?_⟩
 ·rw[H8 c A.p a,<-H.k _<|b i a];exact A.k i a
 ·rw[H8 c A.p a,H8 c A.p e];exact(A.t i j a e).trans<|H.t _ _ (b i a)<|b j e
def OL:Au ks ts n (ao n):=⟨.refl _,λi h=>by rw[I7 h],λi j h a=>by rw[I7 h,I7 a]⟩
def Gen.au(h:1<=n){T}(b:∀t∈T,Au ks ts n t)(g:Gen n T a):Au ks ts n a:=by
 induction g with
 |one=>exact OL
 |on _ ht ih=>exact OK h (b _ ht) ih
def Gen.fix(b:1<=n){w}(hw:∀x∈w,In n x){T}(e:∀t∈T,t.Perm (ao n))(c:∀t∈T,Fix w t)(g:Gen n T a):Fix w a:=by
 induction g with
 |one=>exact λx h=>I7<|hw x h
 |on ga ht ih=>exact λx h=>by rw[H8 b (ga.perm b e)<|hw x h,ih x h,c _ ht x h]
def OM(a:1<=n){w T}{h g}{f}(hw:∀x∈w++[f],In n x)(o:∀t∈T,Au ks ts n t)(s:∀t∈T,Fix w t)(y:LT ks ts n (w++[f]) T)(A:Au ks ts n g)(u:Fix w g)(H:Gen n T h)(e:ox h f=ox g f):Gen n T g:=by
 have P:=λt q=>(o t q).p
 have b:=H.au a o;have j:=hw f<|YK _<|Zg f;have c:=λx l=>hw x<|YW _ l
 have K:=y _ (OI a b A) λx l=>by
  rcases fS l with z|z
  ·exact OJ a c b (H.fix a c P s) u x z
  ·rw[z,N0 j,<-e,l6 a b.p j]
 have:=H.mul a P K
 rwa [show(quo n h g).map (ox h)=g from Iw (by rw[Yc];exact(aY a (OI a b A).p).1) (aY a A.p).1 λi m=>by rw[H8 a (OI a b A).p m,N0 m,ju a b.p<|jz a A.p m]]at this
def Node.In(c:1<=n/\n<=7){w q}(N:Node ks ts n w q):∀x∈w,In n x:=by
 induction N with
 |nil=>exact λ_ h=>nomatch h
 |cons _ b ih=>exact λx a=>(fS a).elim (ih x) λe=>e ▸ eO b
theorem ON{p i}(c:¬cnt q (ox q p)=1)(hi:My.In n i)(e:ox (pah q n p) i=ox q p):i=p:=by
 rw[lO c hi]at e;split at e
 ·rename_i z;rcases z with z|z
  ·omega
  ·exact z
 ·rename_i z;have:¬ox q i<ox q p:=λy=>z<|.inl y
  omega
theorem Br(g:q.length=n)(h:k∈opn q n):¬cnt q (ox q k)=1/\∃j,My.In n j/\j≠k/\ox q j=ox q k:=by
 have b:=sP (n:=n) (q:=q);unfold opn at h b;split at h
 ·rename_i r c;rw[c]at b;have l:1<cnt q r:=by simpa using Up c
  have e:=YN (Zx.mp h).2;refine⟨by rw[e];omega,?_⟩;have i:=yB g r;have:∃j∈rwC q n r,j≠k:=Zp λz=>by
   have:∀j∈rwC q n r,j∈[k]:=λj a=>YC.mpr<|Zp λy=>z ⟨j,a,y⟩
   have:=c8 (rwC q n r) [k] b this;rw[YQ]at this;omega
  obtain⟨j,a,f⟩:=this;exact⟨j,az.mp (Zx.mp a).1,f,(YN (Zx.mp a).2).trans e.symm⟩
 ·cases h
def OO{f i}(h:f∈opn q n)(hi:My.In n i)(e:ox q i=ox q f):i∈opn q n:=by
 unfold opn at h ⊢;split at h
 ·rename_i r a;exact Zx.mpr ⟨az.mpr hi,YS<|e.trans<|YN (Zx.mp h).2⟩
 ·cases h
theorem OP(h:Ref n a b){i j}(hi:My.In n i)(c:My.In n j)(e:ox b i=ox b j):ox a i=ox a j:=by
 rcases Int.lt_trichotomy _ (ox a j)with l|l|l
 ·have:=h i j hi c l;omega
 ·exact l
 ·have:=h j i c hi l;omega
def OQ{p}(c:¬cnt q (ox q p)=1)(h:My.In n p):ox (pah q n p) p=ox q p:=by rw[lO c h,Yj<|.inr rfl]
def Node.solo(X:Cx3 ks ts n){w q}(N:Node ks ts n w q):∀x∈w,∀i,My.In n i->ox q i=ox q x->i=x:=by
 induction N with
 |nil=>exact λ_ h=>nomatch h
 |@cons w q k N b ih=>
  intro x g i a e;have f:=eO b;rcases fS g with z|z
  ·exact ih x z i a<|OP (Bm k) a (N.In X.hn x z) e
  ·subst z;have c:=(Br (N.pt X.hn X.hk).1 b).1;exact ON c a<|(OP (nq 100 _) a f e).trans<|OQ c f
def M_(X:Cx3 ks ts n){w q}(N:Node ks ts n w q){f p}(m:f∈opn q n)(l:p∈opn q n){g e}(p1:g.Perm (ao n))(p2:e.Perm (ao n))(u:Ref n (pah q n f) g)(o:Ref n (pah q n p) e) :
  Fix w (nL n (inv n g)<|inv n e)/\ox (nL n (inv n g)<|inv n e) f=p:=by
 have j:=X.hn.1;have z:0<=n:=Int.le_trans (by decide) j;have h:=N.pt X.hn X.hk;have y:∀i,My.In n i->ox _ i=ix e _:=λi c=>by
  rw[show ox (nL n _ _) i=ox _ (ix _ i)from lN c,Hn j p1 c,tZ<|jz j p1 c]
 have s:∀{a b},a.length=n->b.length=n->Ref n a g->Ref n b e->a.Perm b->∀i,My.In n i->ox a i=ox b _:=λI H E C K i c=>by
  have:=vx j p1 p2 I H E C K<|jz j p1 c
  rwa [l6 j p1 c]at this
 have A:∀i,My.In n i->My.In n _:=λi c=>iN j p2<|jz j p1 c
 refine⟨λx B=>?_,?_⟩
 ·have c:=N.In X.hn x B;rw[y x c];exact N.solo X x B _ (A x c) (s h.1 h.1 ((EE f).trans u) ((EE p).trans o) (.refl _) x c).symm
 ·have c:=eO m;rw[y f c];have J:=(Br h.1 m).1;have:=s (iB z h.1) (iB z h.1) u o (EA h.1 c (eO l)<|Bi m l) f c;rw[OQ J c,Bi m l]at this;exact ON (Br h.1 l).1 (A f c) this.symm
end
section
variable{m:Nat}{w q:List Int}{G:Int->Sst->Bool×Sst}
theorem I0(X:Cx3 ks ts n)(N:Node ks ts n w q)(A:∀p∈opn q n,GoS ks ts n m (w++[p]) (ch ts n q p) (G p)):∀r a tr S,opn q n=a++r->(∀t∈tr,t∈a)->Good ks ts n S->onf S w=false->(∀p∈a,Non ks ts n S.frow m (ch ts n q p))->
  Good ks ts n (lp G w r tr S).2/\Keep S (lp G w r tr S).2/\(((lp G w r tr S).1=false/\(lp G w r tr S).2.trn=S.trn/\∀p∈opn q n,Non ks ts n S.frow m<|ch ts n q p)\/((lp G w r tr S).1=true/\∃p∈opn q n,∃l∈lv ts n m<|ch ts n q p,aJ ks ts l=S.frow/\(lp G w r tr S).2.trn=S.trn++[nL n S.fst l]))
 |[],a,tr,S,e,_,g,_,c=>⟨g,⟨rfl,rfl,rfl⟩,.inl ⟨rfl,rfl,λp s=>c p<|by rwa[e,YZ]at s⟩⟩
 |p::r,a,tr,S,e,ht,g,ho,c=>by
  obtain⟨s,I,E⟩:=zu e;have inD:∀x∈a,x∈opn q n:=λx j=>by rw[e];exact YW _ j
  unfold lp;split
  ·rename_i y;exact I0 X N A r _ tr S E (λt h=>YW _<|ht t h) g ho λx j=>by
    rcases fS j with h|h
    ·exact c x h
    ·rw[h];exact L0 X N g (λt h=>⟨eO<|inD t<|ht t h,c t<|ht t h⟩) y
  ·have u:onf S (w++[p])=false:=by refine YB λz=>of_decide_eq_false ho ?_;have:=YR (λl=>l.take w.length) z;simpa[Vo]using this
   obtain⟨C,i,K⟩:=(A p s).2 S g u;have o:onf (G p S).2 w=false:=by unfold onf;rwa[i.w]
   rw[o];rcases K with⟨b,B,L⟩|⟨b,l,J,H,B⟩
   ·rw[b,Yl<|by decide];have:=I0 X N A r _ _ _ E (λt h=>by
     rcases fS h with h|h
     ·exact YW _<|ht t h
     ·rw[h];exact YK _<|Zg p) C o λx j=>by
     rw[i.r];rcases fS j with h|h
     ·exact c x h
     ·rwa[h]
    rw[i.r,i.f,B]at this;exact⟨this.1,i.trans this.2.1,this.2.2⟩
   ·rw[b,Yj<|by decide];exact⟨C,i,.inr ⟨rfl,p,s,l,J,H,B⟩⟩
theorem HV(X:Cx3 ks ts n)(N:Node ks ts n w q)(hG:∀p∈opn q n,GoS ks ts n m (w++[p]) (ch ts n q p) (G p)){f}{q1}(p1:q1.Perm (ao n))(r1:Ref n (pah q n f) q1)(s:f∈opn q n):∀r j tr S,opn q n=j++r->tr.Nodup->(∀t∈tr,t∈j)->f∈tr->Good ks ts n S->S.way.take (w.length+1)=w++[f]->S.fst=inv n q1->S.fst∈lv ts n m (ch ts n q f)->
  Tk ks ts n w S.trn->LT ks ts n (w++[f]) S.trn->(∀p∈j,(∃g,Au ks ts n g/\Fix w g/\ox g f=p)->∃h,Gen n S.trn h/\ox h f=p)->
  Good ks ts n (lp G w r tr S).2/\Keep S (lp G w r tr S).2/\(lp G w r tr S).1=false/\Tk ks ts n w (lp G w r tr S).2.trn/\LT ks ts n w (lp G w r tr S).2.trn
 |[],j,tr,S,e,_,_,_,g,_,_,_,tk,al',c=>⟨g,⟨rfl,rfl,rfl⟩,rfl,tk,λa A O=>by
  have E:=eO s;have eq:=N.leaves X.hn X.hk A O;have U:=OO s (jz X.hn.1 A.p E) (by rw[<-mh X.hn.1 A.p q E,eq]);rw[e,YZ]at U;obtain⟨h,H,eh⟩:=c _ U ⟨a,A,O,rfl⟩;exact OM X.hn.1 (λx C=>(fS C).elim (N.In X.hn x) λz=>z ▸ E) g.au tk.fx al' A O H eh⟩
 |p::r,j,tr,S,e,nd,u,E,g,ho,hq,hl,tk,al',c=>by
  obtain⟨U,J,e'⟩:=zu e;have I:=X.hn.1;have o:=eO s;unfold lp;split
  ·rename_i L;refine HV X N hG p1 r1 s r _ tr S e' nd (λt h=>YW _<|u t h) E g ho hq hl tk al' λx C=>?_;rcases fS C with h|h
   ·exact c x h
   ·rw[h];refine(zd (P:=λx=>My.In n x/\((∃g,Au ks ts n g/\Fix w g/\ox g f=x)->∃h,Gen n S.trn h/\ox h f=x)) (λa M b Q=>?_) 10 tr 0 (λt h=>⟨eO<|by rw[e];exact YW _<|u t h,c t<|u t h⟩) p<|YN L).2;obtain⟨t,u,rfl⟩:=Ym.mp Q;have Y:=(Zx.mp u).1;have A:=g.au t Y;refine⟨jz I A.p M.1,λ⟨b,B,fb,eb⟩=>?_⟩;obtain⟨k,K,ek⟩:=M.2 ⟨quo n t b,OI I A B,OJ I (N.In X.hn) A (tk.fx t Y) fb,by rw[N0 o,eb,l6 I A.p M.1]⟩;exact⟨_,K.on Y,by rw[H8 I (K.au I g.au).p o,ek]⟩
  ·rename_i L;have ho':onf S (w++[p])=false:=by refine YB λz=>J ?_;rw[Yp,YQ,ho]at z;have:=List.append_cancel_left z;injection this with h _;rw[<-h];exact u f E
   obtain⟨g1,R,Y⟩:=(hG p U).2 S g ho';have on1:onf (G p S).2 w=true:=by unfold onf;rw[R.w];refine YS ?_;have:=YR (λl=>l.take w.length) ho;simpa[Vo]using this
   rw[on1,Bool.not_true,VQ,Yl Yk];have go:(∀t∈S.trn,t∈(G p S).2.trn)/\Tk ks ts n w (G p S).2.trn/\((∃g,Au ks ts n g/\Fix w g/\ox g f=p)->∃h,Gen n (G p S).2.trn h/\ox h f=p):=by
    rcases Y with⟨_,et,cv⟩|⟨_,l,hl2,hr,et⟩
    ·rw[et];refine⟨λ_ h=>h,tk,λ⟨a,A,O,ea⟩=>?_⟩;have:=Ba X.hn A (N.pt X.hn X.hk) (N.leaves X.hn X.hk A O) o m;rw[ea]at this;obtain⟨l',hl',e'⟩:=Ym.mp<|(this _).mp<|Ym.mpr ⟨_,hl,rfl⟩;exact absurd (e'.trans g.r1.symm)<|cv l' hl'
    ·obtain⟨q2,p2,rfl,r2⟩:=xm X.hn m _ (kF X.hn (N.pt X.hn X.hk) p) l hl2;obtain⟨j1,Z⟩:=M_ X N s U p1 p2 r1<|(nq 100 _).trans r2;rw[<-hq]at j1 Z;have A:Au ks ts n (nL n S.fst<|inv n q2):=by have:=g1.au _ (by rw[et];exact YK _<|Zg _);exact this
     rw[et];refine⟨λ_ h=>YW _ h,⟨λt h=>?_,λt h=>?_,?_⟩,λ_=>⟨(ao n).map _,Gen.one.on<|YK _<|Zg _,by rw[lN o,Z]⟩⟩
     ·rcases Zm.mp h with z|z
      ·exact tk.fx t z
      ·rwa[YC.mp z]
     ·rcases Zm.mp h with z|z
      ·exact tk.mv t z
      ·rw[YC.mp z];exact⟨f,o,λz=>J<|by rw[<-Z,z];exact u f E⟩
     ·have cl:=Fr (nb:=nbs<|S.trn.filter<|iT w) (λa M b Q=>by
       obtain⟨t,h',rfl⟩:=Ym.mp Q;exact az.mpr<|jz I (g.au t (Zx.mp h').1).p<|az.mp M) 10 tr 0 nd (λx C=>az.mpr<|eO<|by rw[e];exact YW _<|u x C) (by have:=X.hn.2;omega) λi _ hi=>absurd hi<|VA i
      refine LE I tk.w A.p o (P:=λx=>x∈bfs (nbs<|S.trn.filter<|iT w) 10 tr 0) (λt T x _ C=>?_) (cl.1 f E) ?_
      ·exact cl.2 x C _<|Ym.mpr ⟨t,Zx.mpr ⟨T,Yi.mpr λy hy=>YS<|tk.fx t T y hy⟩,rfl⟩
      ·rw[Z];exact of_decide_eq_false<|UE.mpr L
   obtain⟨m1,t1,c1⟩:=go;obtain⟨g2,k2,h2,h3⟩:=HV X N hG p1 r1 s r (j++[p]) (tr++[p]) _ e' (Xi.mpr ⟨nd,by simp,λa M b Q z=>J<|by rw[YC]at Q;rw[<-Q,<-z];exact u a M⟩) (λt h=>by
    rcases fS h with h|h
    ·exact YW _<|u t h
    ·rw[h];exact YK _<|Zg p) (YW _ E) g1 (by rw[R.w];exact ho) (R.f.trans hq) (by rw[R.f];exact hl) t1 (λa A O=>(al' a A O).mono m1) λx C=>by
    rcases fS C with h|h
    ·exact λz=>(c x h z).imp λ_ y=>⟨y.1.mono m1,y.2⟩
    ·rw[h];exact c1
   exact⟨g2,R.trans k2,h2,h3⟩
end
section
variable{n:Int}{ks:List Str}{ts:List T4}
def Fu(n:Int)(m:Nat)(q:List Int):Prop:=∃A,uC n q A/\n<A.length+m
theorem sT(b:1<=n):¬Fu n 0 q:=λ⟨A,h,l⟩=>by
 have:=c8 A (ao n) (vp h) λx a=>az.mpr<|h.1 x a
 rw[aC]at this;omega
theorem sF(g:q.length=n)(h:Fu n (m+1) q)(a:k∈opn q n):Fu n m (ch ts n q k):=by obtain⟨A,h,l⟩:=h;obtain⟨c,j,i,b,e⟩:=Br g a;obtain⟨x,f⟩:=wN (ts:=ts) h (eO a) i b e c;exact⟨_,f,by rw[Yt];omega⟩
theorem zn(X:Cx3 ks ts n):∀m w q,Node ks ts n w q->Fu n m q->GoS ks ts n m w q (goP ks ts n m w q)
 |0,w,q,_,fu=>(sT X.hn.1 fu).elim
 |m+1,w,q,N,fu=>by
  have u:=N.pt X.hn X.hk;have j:=X.hn.1;by_cases o:opn q n=[]
  ·have B:lv ts n (m+1) q=[inv n q]:=by unfold lv;rw[Yj o]
   have I:=kS u o;have J:=dM j I;rw[show goP ks ts n (m+1) w q=arr ks ts n w (inv n q)from funext λS=>Yj o];refine⟨λS K=>?_,λS g ho=>?_⟩
   ·unfold arr;rw[Yj K.1,K.2];refine⟨rfl,⟨J,J,rfl,rfl,λg R=>nomatch R⟩,ZV,⟨q,I,rfl,λ_ _ _ _ l=>l⟩,?_,⟨nofun,nofun,Kf j⟩,λa A fa=>?_⟩
    ·rw[B];exact Zg _
    ·have eq:=N.leaves X.hn X.hk A fa;rw[show a=ao n from Iw (aY j A.p).1 (aY j<|.refl _).1 λi L=>by
      rw[I7 L,<-l6 j I<|jz j A.p L,<-mh j A.p q L,eq,l6 j I L]]
     exact .one
   ·have ne:¬S.fst=[]:=λz=>by
     have:=g.l1.length_eq;rw[z,aC]at this;simp[Ze]at *;omega
    have gb:∀P,(∀g∈P,Au ks ts n g)->Good ks ts n ⟨S.way,S.fst,S.frow,if ltD (aJ ks ts<|inv n q) S.brow=true then inv n q else S.lst,if ltD (aJ ks ts<|inv n q) S.brow=true then aJ ks ts (inv n q)else S.brow,P⟩:=λP H=>by
     split
     ·exact⟨g.l1,J,g.r1,rfl,H⟩
     ·exact⟨g.l1,g.l2,g.r1,g.r2,H⟩
    have e:=cE (aJ ks ts<|inv n q) S.frow (by rw[g.r1];exact bj ..);unfold arr;rw[Yl ne];by_cases y:eqd (aJ ks ts<|inv n q) S.frow=true
    ·rw[Yj y];have e:=e.mp y;refine⟨gb _ λt ht=>?_,⟨rfl,rfl,rfl⟩,.inr ⟨rfl,inv n q,by rw[B];exact Zg _,e,rfl⟩⟩;rcases Zm.mp ht with z|z
     ·exact g.au t z
     ·rw[YC.mp z];exact rO j X.hs g.l1 J<|by rw[<-g.r1,e]
    ·rw[Yl y];exact⟨gb _ g.au,⟨rfl,rfl,rfl⟩,.inl ⟨rfl,rfl,λl s z=>y<|e.mpr<|by rw[B,YC]at s;rwa[<-s]⟩⟩
  ·have B:lv ts n (m+1) q=(opn q n).flatMap λk=>lv ts n m (ch ts n q k):=by show(if opn q n=[]then _ else _)=_;rw[Yl o]
   have T:∀p∈opn q n,GoS ks ts n m _ _ _:=λp E=>zn X m _ _ (N.cons E)<|sF u.1 fu E
   rw[show goP ks ts n (m+1) w q=lp _ w _ []from funext λS=>Yl o];refine⟨λS K=>?_,λS g ho=>?_⟩
   ·obtain⟨f,r,e⟩:∃f r,opn q n=f::r:=by
     cases z:opn q n with
     |nil=>exact absurd z o
     |cons f r=>exact⟨f,r,rfl⟩
    have M:f∈opn q n:=by rw[e];exact Ye
    obtain⟨b,g1,O,⟨q1,p1,f1,Z⟩,c1,Q,a1⟩:=(T f M).1 S K;have nl:lo S w [] f=false:=YB λz=>by
     have:bfs (nbs<|S.trn.filter<|iT w) 10 [] 0=[]:=rfl;rw[this]at z;cases z
    have st:lp (λp S=>goP ks ts n m (w++[p]) (ch ts n q p) S) w (opn q n) [] S=lp (λp S=>goP ks ts n m (w++[p]) (ch ts n q p) S) w r ([]++[f]) (goP ks ts n m (w++[f]) (ch ts n q f) S).2:=by rw[e];show(if lo S w [] f=true then _ else _)=_;rw[nl,Yl Yk,b,Vk,Yl Yk]
    rw[st];obtain⟨Y,C,U,h3,h4⟩:=HV X N T p1 ((nq 100 _).trans Z) M r [f] ([]++[f]) _ e (by simp) (λt h=>h) (Zg f) g1 (by rwa[Yp]at O) f1 c1 ⟨λg R x hx=>Q.fx g R x<|YW _ hx,Q.mv,Q.w⟩ a1 λp u _=>⟨ao n,.one,by rw[YC.mp u];exact I7<|eO M⟩
    refine⟨U,Y,?_,⟨q1,p1,C.f.trans f1,(Bm f).trans Z⟩,?_,h3,h4⟩
    ·rw[C.w];have:=YR (λl=>l.take w.length) O;simpa[Vo]using this
    ·rw[C.f,B];exact XQ.mpr ⟨f,M,c1⟩
   ·obtain⟨Y,C,U⟩:=I0 X N T _ [] [] S rfl (λ_ h=>nomatch h) g ho λ_ h=>nomatch h
    refine⟨Y,C,U.imp (λ⟨a,b,c⟩=>⟨a,b,λl s=>?_⟩) λ⟨a,p,u,l,s,hr⟩=>⟨a,l,by rw[B];exact XQ.mpr ⟨p,u,s⟩,hr⟩⟩;rw[B]at s;obtain⟨p,u,s⟩:=XQ.mp s;exact c p u l s
end
end
section
variable{n:Int}   {L:List Int->Prop}
section
variable  {w:List Int}{G:Int->Sst->Bool×Sst}
end
end
def Jn(h:F[d]?=none):bfs nb (k+1) F d=F:=by unfold bfs;rw[h]
def Ih{a}(h:F[d]?=some a):bfs nb (k+1) F d=bfs nb k (lw F (nb a)) (d+1):=by show(match F[d]? with|none=>F|some a=>bfs nb k _<|d+1)=_;rw[h]
def knw(F:List Int):List (Key×D):=F.map λx=>(.inl x,.bl true)
def F7 F x:(dn (knw F) (.inl x)).isSome=decide (x∈F):=by
 induction F with
 |nil=>rfl
 |cons y F ih=>
  unfold knw at ih ⊢;rw[YH,cw];by_cases h:(Sum.inl y:Key)=.inl x
  ·rw[Yj h];have:y=x:=UF h;subst this;simp
  ·rw[Yl h,ih];have:¬x=y:=λz=>h<|by rw[z]
   simp[this]
def yJ F x(h:x∉F):e7 (knw F) (.inl x) (.bl true)=knw (F++[x]):=by
 unfold e7 knw;rw[Yl,Za]
 ·rfl
 ·intro z;obtain⟨e,c,b⟩:=List.any_eq_true.mp z;obtain⟨y,a,rfl⟩:=Ym.mp c;have:Sum.inl y=.inl x:=YN b;exact h<|UF this ▸ a
def kN{st}(h:st d ρ=some ρ1)(a:body ρ1=some (.nx ρ2)):e_ st body (d::ds) ρ=e_ st body ds ρ2:=by rw[e_];simp[h,a]
def AT{c}(h:c ρ=some false):dB c body (k+1) ρ=some (.nx ρ):=by rw[dB];simp[h]
def Ag{c}(h:c ρ=some true)(a:body ρ=some (.nx ρ')):dB c body (k+1) ρ=dB c body k ρ':=by rw[dB];simp[h,a]
noncomputable abbrev rF(S:D)(a0:Addr)(v0:V)(dc:D)(F:List Int)(d:Nat)(x6 x:Option DV):DF:=[sV S,sV<|.fn a0 v0 dc,sV<|.non,oW (.lst<|F.map .int) none,oW (.dK<|knw F) none,sI d,x6,x]
theorem DM{S}{d} :∀xs F a,F.length+xs.length<=7000000->∃y,
  e_ (setV 7) (dIf (asB<|d2 lh (getV 7)<|af 4) (ak (lc 4 (getV 7) λ_=>some<|.bl true)
 <|cV 3<|getV 7) dNx) (xs.map .int) (rF S a0 v0 dc F d x6 a)=some (.nx<|rF S a0 v0 dc (lw F xs) d x6 y)
 |[],F,a,_=>⟨a,rfl⟩
 |x::xs,F,a,hl=>by
  rw[ji];rw[Yt]at hl;have b:=F7 F x;have c:(knw F).length<16777216:=by unfold knw;rw[Yc];lia
  have l:(F.map D.int).length<16777216:=by rw[Yc];lia
  by_cases h:x∈F
  ·obtain⟨y,e⟩:=DM xs F (sI x) (by lia);refine⟨y,?_⟩;rw[Yj h,<-e];rw[YS h]at b;obtain⟨w,f⟩:=ZG.mp b;refine kN rfl ?_;unfold rF;simp[lh,iP,f]
  ·obtain⟨y,e⟩:=DM xs (F++[x]) (sI x) (by rw[Yp];simp;lia);refine⟨y,?_⟩;rw[Yl h,<-e];rw[YB h,Option.isSome_eq_false_iff,Option.isNone_iff_eq_none]at b;refine kN rfl ?_;have g:=yJ F x h;have i:(F++[x]).map D.int=F.map D.int++[D.int x]:=by simp
   unfold rF;rw[i,<-g];generalize knw F=K,F.map D.int=U at *;simp[lh,iP,b,lc,c,l]
theorem DI{S}{a0}{v0}{dc}{nb}{M:List Int}(l:∀a∈M,∀b∈nb a,b∈M)(p:M.length<=7)(i:∀a∈M,(nb a).length<=6000000)(f:∀a∈M,mG C [sI a,sV dc]=some (.lst ((nb a).map .int))):∀k F d x6 c,F.Nodup->(∀x∈F,x∈M)->d<=F.length->M.length<d+k->∃d' o y,
  dB (fy (asB<|d2 ltd (am 5)<|d1 bF<|am 3)<|orT (B_ 2)<|asB<|d2 leI (d1 bF<|am 3)<|af 2) (ak (ay 6<|d2 ixD (af 3)<|af 5)
 <|ak (dW (dX<|oZ 1 a0 v0 (mG C)<|getV 6) (setV 7)<|dIf (asB<|d2 lh (getV 7)<|af 4) (ak (lc 4 (getV 7) λ_=>some<|.bl true)
 <|cV 3<|getV 7) dNx)
 <|D5 5<|cI 1) k (rF S a0 v0 dc F d x6 c)=some (.nx<|rF S a0 v0 dc (bfs nb k F d) d' o y)
 |0,F,d,x6,c,hn,hF,hd,hl=>by have:=c8 _ _ hn hF;lia
 |k+1,F,d,x6,c,hn,hF,hd,hl=>by
  have len:=c8 _ _ hn hF;have j:∀b,decide (d<F.length)=b->(fy (asB _)<|orT (B_ 2)<|asB<|d2 leI (d1 bF<|am 3)<|af 2) _=some b:=λb B=>by
   have e:asB (d2 ltd (am 5)<|d1 bF<|am 3) (rF S a0 v0 dc F d x6 c)=some b:=by rw[<-B];simp
   unfold fy;rw[e];cases b with
   |false=>rfl
   |true=>rfl
  cases q:F[d]? with
  |none=>
   have:=Vm.mp q;rw[Jn q];exact⟨d,x6,c,AT<|j false<|YB<|by lia⟩
  |some a=>
   have lt:=(Yn.mp q).1;have g:=hF a<|YJ q;rw[Ih q];obtain⟨y,e⟩:=DM (S:=S) (a0:=a0) (v0:=v0) (dc:=dc) (d:=d) (x6:=sI a) (nb a) F c (by have:=i a g;lia);obtain⟨d',m,z,H⟩:=DI (S:=S) (a0:=a0) (v0:=v0) l p i f k (lw F<|nb a) (d+1) (sI a) y (sK hn) (λx w=>by
    rcases oX.mp w with h|h
    ·exact hF x h
    ·exact l a g x h) (by obtain⟨s,E⟩:=u_ (nb a) F;rw[E,Yp];lia)<|by lia
   refine⟨d',m,z,?_⟩;rw[<-H];refine Ag (j true<|YS lt) ?_;have u:ixD (.lst<|F.map .int) (.int d)=some (.int a):=by exact D8<|by rw[Yo,q];rfl
   rw[aj (ρ':=rF S a0 v0 dc F d (sI a) c) (by
    unfold rF;simp[u])]
   rw[aj (by
    rw[<-e];unfold dW;have A:dX (oZ 1 a0 v0 (mG C)<|getV 6) (rF S a0 v0 dc F d (sI a) c)=some ((nb a).map .int):=by
     have:oZ 1 a0 v0 (mG C) (getV 6) (rF S a0 v0 dc F d (sI a) c)=some (.lst<|(nb a).map .int):=by unfold oZ;exact(Yj ⟨rfl,rfl⟩).trans<|f a g
     unfold dX;rw[this]
    rw[A];rfl)]
   rfl
theorem yz:∀tr F,(F++tr).Nodup->lx (knw F) (knw tr)=knw (F++tr)
 |[],F,_=>by rw[YZ];rfl
 |x::tr,F,h=>by
  show lx (e7 _ _ _) (knw tr)=_;have e:F++x::tr=(F++[x])++tr:=by rw[Zi];rfl
  rw[yJ F x λz=>(Xi.mp h).2.2 x z x Ye rfl,yz tr _<|e ▸ h,e]
theorem rA:∀tr:List Int,gE (tr.map λx=>D.tup [.int x,.bl true])=some (knw tr)
 |[]=>rfl
 |x::tr=>by
  show(gE _).map _=_;rw[rA];rfl
theorem JK{M:List Int}(p:∀a∈M,∀b∈nb a,b∈M)(m:M.length<=7)(j:∀a∈M,(nb a).length<=6000000)(h:∀a∈M,mG C [sI a,sV dc]=some (.lst ((nb a).map .int)))(c:tr.Nodup)(g:∀x∈tr,x∈M) :
  jU 8 (g_reached C) dc (.v<|dL tr)=some ((bfs nb 10 tr 0).map .int):=AL λa0 v0=>by
 have u:=c8 _ _ c g;have s:(tr.map D.int).length<=7:=by rw[Yc];lia
 obtain⟨w,q,y,e⟩:=DI (S:=dL tr) (a0:=a0) (v0:=v0) p m j h 10 tr 0 none none c g (YO _) (by lia);unfold g_reached;rw[aj (ρ':=[sV _,sV _,sV<|.non,oW _ none,none,none,none,none]) rfl];rw[aj (by
  have l:b7 (setV 0) bi (asT<|ag (getV 0)<|ag (λ_=>some _) aA) [none] _=some _:=bR D.int (λx=>D.tup [.int x,.bl true]) tr λx _=>⟨_,rfl,rfl,rfl⟩
  have o:vD 3 (yM<|aN 1 [] (cg 3) (setV 0) bi<|asT<|ag (getV 0)<|ag (λ_=>some<|.bl true) aA) [sV<|dL tr,sV<|.fn a0 v0 dc,sV<|.non,oW (.lst<|tr.map .int) none,none,none,none,none]=some (.dK<|knw tr):=by show((if(tr.map D.int).length<=16777216 then b7 _ _ _ [none] (tr.map D.int)else none).bind λi=>(gE i).bind λf=>if i.length<=1000 then some (OD.dK _)else none)=_;rw[Yj<|by lia,l,Ya,rA,Ya,Yj<|by rw[Yc];lia];exact YR (λx=>some _)<|yz tr [] c
  show(vD 3 _ _).map _=_;rw[o];rfl)]
 rw[aj (ρ':=rF _ a0 v0 dc tr 0 none none) rfl];rw[aj e];rfl
section
variable{n:Int}   
def wM(a:1<=n){g}(p:g.Perm (ao n)){i}(h:In n i):ixD (dL g) (.int i)=some (.int (ox g i)):=CY (aY a p).1 h
theorem EL(h:1<=n){T}(e:∀g∈T,g.Perm (ao n))(f:T.length<=6000000){a}(c:In n a):mG C [sI a,sV (.lst (T.map dL))]=some (.lst ((nbs T a).map .int)):=by unfold mG;show(((if(T.map dL).length<=16777216 then b7 _ bi _ [none,sI a] (T.map dL)else none)).map OD.lst).map OD.d=_;rw[Yj<|by rw[Yc];lia,bR dL _ T λg b=>⟨_,rfl,rfl,wM h (e g b) c⟩];show some (D.lst _)=some (.lst<|(T.map λg=>ox g a).map .int);rw[YI];rfl
theorem AN(b:1<=n){g w}(p:g.Perm (ao n))(hw:∀x∈w,In n x)(l:w.length<=7):fP C [.v (dL g),.v (dL w)]=sV (.bl (iT w g)):=by
 unfold fP wp;show bZ (bC _ [sV<|dL g,sV<|dL w])=_;have c:b7 (setV 0) bi (d2 eqD (d2 ixD (af 1)<|af 0)<|am 0) [none,sV<|dL g] (w.map D.int)=some ((w.map λx=>decide<|ox g x=x).map .bl):=by
  rw[YI];refine bR D.int _ w λx a=>⟨_,rfl,rfl,?_⟩
  show(ixD (dL g)<|.int x).bind _=_;rw[wM b p<|hw x a];show eqD (.int _) (.int x)=_;rfl
 have h:(w.map D.int).length<=16777216:=by rw[Yc];lia
 have f:aN 1 [0] (cg 1) (setV 0) bi (d2 eqD (d2 ixD (af 1)<|af 0)<|am 0) [sV<|dL g,sV<|dL w]=some ((w.map λx=>decide<|ox g x=x).map .bl):=by rw[bp];show(if(w.map D.int).length<=16777216 then b7 _ _ _ [none,sV<|dL g] (w.map D.int)else none)=_;rw[Yj h,c]
 rw[nD,CS,fQ,cW,f];show bZ (((Ai<|.lst _).map _))=_;have j:((w.map λx=>decide<|ox g x=x).map D.bl).all xB=true:=Yi.mpr λd e=>by obtain⟨x,_,rfl⟩:=Ym.mp e;rfl
 have i:((w.map λx=>decide<|ox g x=x).map D.bl).all trD=iT w g:=by unfold iT;rw[List.all_map,List.all_map];rfl
 rw[show Ai (.lst _)=some (.bl _)from(Yj j).trans<|by rw[i]];rfl
end
noncomputable def sFs(W:D)(S:Sst):List (Str×FO):=[("web",.d W),("way",.d<|dL S.way),("first",.d<|dL S.fst),("first_row",.d S.frow),("least",.d<|dL S.lst),("best_row",.d S.brow),("turnings",.lst<|S.trn.map dL)]
abbrev sO(W:D)(S:Sst):OD:=.obj (some ah)<|sFs W S
noncomputable abbrev sD(W:D)(S:Sst):D:=.ins ah [("web",W),("way",dL S.way),("first",dL S.fst),("first_row",S.frow),("least",dL S.lst),("best_row",S.brow),("turnings",.lst<|S.trn.map dL)]
section
variable{n:Int}   
def JU p F:inD (.int p) (dL F)=some (.bl (decide (p∈F))):=by
 have f:(F.map D.int).all (okN 29)=true:=Yi.mpr λd b=>by obtain⟨x,_,rfl⟩:=Ym.mp b;rfl
 have c:((F.map D.int).any λz=>eqd z<|.int p)=decide (p∈F):=by
  rw[List.any_map,Bool.eq_iff_iff,List.any_eq_true,YG];constructor
  ·rintro⟨x,a,e⟩;have e:eqd _ _=true:=e;exact YN e ▸ a
  ·intro h;exact⟨p,h,by show eqd _ _=true;exact YS rfl⟩
 show(if(okN 30 _&&(F.map D.int).all _)=true then some (D.bl _)else none)=_;rw[f,Yj<|show(okN 30 _&&true)=true from rfl,c]
theorem FY(e:1<=n/\n<=7){S}{w}{p}(i:∀g∈S.trn,g.Perm (ao n))(z:S.trn.length<=6000000)(hw:∀x∈w,In n x)(m:w.length<=7)(o:tr.Nodup)(s:∀x∈tr,In n x) :
  bU C [.v<|sD W S,.v<|dL w,.v<|dL tr,.v<|.int p]=sV (.bl<|lo S w tr p):=by
 have E:=λg h=>AN (C:=C) e.1 (i g h) hw m
 have y:b7 (setV 0) (asB<|al (fP C)<|aB 0<|aB 1 nA) (getV 0) [none,sV<|dL w] _=some _:=lS dL (iT w) dL S.trn λg c=>⟨[sV<|dL g,sV<|dL w],rfl,by
  have h:=E g c;simp[h],λ_=>rfl⟩
 have A:(aN 1 [1] (dX<|d1 (gC ah "turnings")<|getV 0) (setV 0) (asB<|al (fP C)<|aB 0<|aB 1 nA)<|getV 0) [sV<|sD W S,sV<|dL w,sV<|dL tr,sI p,none]=some ((S.trn.filter<|iT w).map dL):=by rw[bp];show(if(S.trn.map dL).length<=16777216 then b7 _ _ _ [none,sV<|dL w] (S.trn.map dL)else none)=_;rw[Yj<|by rw[Yc];lia,y]
 have j:(S.trn.filter<|iT w).length<=6000000:=YD (List.length_filter_le _ _) z;have l:∀g∈S.trn.filter<|iT w,g.Perm (ao n):=λg c=>i g (Zx.mp c).1
 have u:=JK (C:=C) (λa f b B=>by
   obtain⟨g,c,rfl⟩:=Ym.mp B;exact az.mpr<|jz e.1 (l g c)<|az.mp f) (by rw[aC];lia) (λa _=>by unfold nbs;rwa[Yc]) (λa f=>EL e.1 l j<|az.mp f) o λx q=>az.mpr<|s x q
 show bZ (ak _ _ [sV _,sV<|dL w,sV _,sI p,none])=_;rw[aj (ρ':=[sV _,sV<|dL w,sV _,sI p,sV<|.lst _])<|by rw[gn,fQ,cW,A];rfl];have H:asO (xg 8 4 (g_reached C)<|lend 2) [sV<|sD W S,sV<|dL w,sV<|dL tr,sI p,sV<|.lst<|(S.trn.filter<|iT w).map dL]=some (dL<|bfs (nbs<|S.trn.filter<|iT w) 10 tr 0):=by show((jU 8 _ _ _).map OD.lst).map OD.d=_;rw[u];rfl
 rw[nD,qF,H];show bZ (((inD _<|dL _)).map _)=_;rw[JU];rfl
theorem He(m k:Nat):HT.sIx m m (some k)=min k m:=by unfold HT.sIx;simp;lia
def Hq{S}{w}:bT C [.v (sD W S),.v (dL w)]=sV (.bl (onf S w)):=by
 have h:gG (S.way.map D.int) none (some<|((w.map D.int).length))=(S.way.take w.length).map D.int:=by
  unfold gG;rw[He,Yc,Yc,show HT.sIx S.way.length 0 none=0 from rfl,List.drop_zero,Nat.sub_zero,<-List.map_take]
  rw[<-Vo,ZV]
 show bZ (((eqD (.lst<|gG _ none _)<|dL w)).map _)=_;rw[h,BK];rfl
def oH{e}{f}(b:n<=7)(h:∀i,In n i->e (ρ.set 0 (sI i))=some (.int (f i))):b7 (setV 0) bi e ρ ((ao n).map .int)=some (((ao n).map f).map .int):=by rw[YI];exact bR D.int _ _ λi a=>⟨_,rfl,rfl,h i<|az.mp a⟩
end
section
variable{n:Int}   
def w6{x}(h:x∈out):gZ (dL out) (.int x)=some (.int (ix out x)):=by
 have b:(out.map D.int).all (okN 29)=true:=Yi.mpr λd a=>by obtain⟨y,_,rfl⟩:=Ym.mp a;rfl
 show(if((out.map D.int).all _&&okN 30 _)=true then(iK _ _).map (λ(j:Nat)=>D.int _)else none)=_;rw[b,Yj<|show(true&&okN 30 _)=true from rfl,vm x out h];rfl
theorem Hm(h:1<=n/\n<=7)(p:q.Perm (ao n)):eN C [.v (dL q)]=oW (.lst ((inv n q).map .int)) none:=by
 have c:=(aY h.1 p).1;unfold eN pQ;have a:cM (d1 bF<|am 0) [sV<|dL q]=some _:=eI (by show some _=_;rw[Yc,c]) (by lia);have b:=oH (e:=d2 gZ (am 1)<|am 0) (ρ:=[none,sV<|dL q]) h.2 λi g=>w6<|p.mem_iff.mpr<|az.mpr g
 rw[mq];show bZ (dI _ [sV<|dL q])=_;rw[fY,cW,bp,a,Ya,Yj<|by rw[Yc,aC];lia];show bZ (((b7 _ bi _ [none,sV<|dL q] _).map OD.lst).map _)=_;rw[b];rfl
theorem wH(h:1<=n/\n<=7){a b}(p:a.Perm (ao n))(g:b.Perm (ao n)):fF C [.v (dL a),.v (dL b)]=oW (.lst ((nL n a b).map .int)) none:=by
 have m:=(aY h.1 p).1;unfold fF qN;have j:cM (d1 bF<|am 0) [sV<|dL a,sV<|dL b]=some _:=eI (by show some _=_;rw[Yc,m]) (by lia);have l:=oH (e:=d2 ixD (af 1)<|d2 gZ (am 2)<|am 0) (ρ:=[none,sV<|dL b,sV<|dL a]) h.2 λi c=>by
  show(gZ (dL a) _).bind _=_;rw[w6<|p.mem_iff.mpr<|az.mpr c];exact wM h.1 g<|iN h.1 p c
 rw[i4];show bZ (dI _ [sV<|dL a,sV<|dL b])=_;rw[fY,cW,bp,j,Ya,Yj<|by rw[Yc,aC];lia];show bZ (((b7 _ bi _ [none,sV<|dL b,sV<|dL a] _).map OD.lst).map _)=_;rw[l];rfl
def Bv{S}{o o'}(h:S[i]?=some (oW (.obj (some ah) fs) t))(a:fs.length<1000)(h1:fs.lookup x=some o)(h2:k o=some o')(b:fN x o' fs=fs'):k7 (some ah) i x k S=some (S.set i (oW (.obj (some ah) fs') t)):=by unfold k7;rw[h];show(if some ah=some ah/\fs.length<1000 then _ else _)=_;rw[Yj ⟨rfl,a⟩,h1,Ya,h2,<-b];rfl
def jF{S S'}{f}{o}(h:ρ[0]?=some (oW (sO W S) t))(a:f ρ=some d)(h1:(sFs W S).lookup x=some o)(h2:G9 d o=some (.d d))(b:fN x (.d d) (sFs W S)=sFs W S'):iF ah 0 x f ρ=some (.nx (ρ.set 0 (oW (sO W S') t))):=by unfold iF;rw[a,Ya,Bv h (show 7<1000 by decide) h1 h2 b];rfl
def Ds{S}{w e}:dO C (sO W S) [.v (dL w),.v (dL e),.v r]=some (sO W ⟨w,e,r,e,r,S.trn⟩,.non):=j_ rfl λa=>by
 refine⟨.nx [oW _ _,sV<|dL w,sV<|dL e,sV r],?_,rfl,rfl⟩;unfold gf
 rfl
end
section
variable{n:Int}   
def nB{S}{m}{g}(h:ρ[i]?=some (oW (sO W S) t))(h1:(sFs W S).lookup x=none)(h2:g ρ=some (ds,ρ))(a:m (sO W S) (ds.map .v)=some (o',d)):dC ah x i m g ρ=some (d,ρ.set i (oW o' t)):=by unfold dC;rw[show nQ (some ah) i ρ=some (sFs W S)from by unfold nQ;rw[h];exact Yj rfl,Ya,Yj h1,h2,Ya];rw[h];show(m _ _).map _=_;rw[a];rfl
def SG(ks:List Str)(ts:List T4)(n:Int)(S:Sst):Prop:=(S.fst=[]\/(S.fst.Perm (ao n)/\S.lst.Perm (ao n)/\S.frow=aJ ks ts S.fst/\S.brow=aJ ks ts S.lst))/\∀g∈S.trn,g.Perm<|ao n
abbrev aF(W:D)(S:Sst)(a:Addr)(w e R:D):DF:=[oW (sO W S)<|some a,sV w,sV e,sV R]
section
variable{Ro Le:Dm}{Be:Dz}{R w e ld:D}{S:Sst} 
def LY(h:Ro [.v W,.v e]=sV R):(ay 3 (al Ro (aV (fX (some ah) 0 "web") (aB 2 nA)))) [oW (sO W S) (some a),sV w,sV e,none]=some (.nx (aF W S a w e R)):=by show((Ro [.v W,.v e]).bind dvD).map _=_;rw[h];rfl
def Ls(z:S.fst=[])(h:Be (sO W S) [.v w,.v e,.v R]=some (sO W S',.non)):(dIf (eA (j6 (fX (some ah) 0 "first"))) (ak (du (dC ah "begin" 0 Be (cb (aZ (getV 1)) (cb (aZ (getV 2)) (cb (aZ (getV 3)) lq)))))
  (bC (λ_=>some (.bl false)))) dNx) (aF W S a w e R)=some (.rt (.v (.bl false)) (aF W S' a w e R)):=by
 have c:eA (j6<|fX (some ah) 0 "first") (aF W S a w e R)=some true:=by show(some _).map _=_;rw[z];rfl
 rw[cu,c,Ya,Yj rfl,aj<|by
  unfold du;rw[nB rfl rfl rfl h];rfl]
 rfl
def K9(z:¬S.fst=[]):(dIf (eA (j6 (fX (some ah) 0 "first"))) (ak (du (dC ah "begin" 0 Be (cb (aZ (getV 1)) (cb (aZ (getV 2)) (cb (aZ (getV 3)) lq)))))
  (bC (λ_=>some (.bl false)))) dNx) (aF W S a w e R)=some (.nx (aF W S a w e R)):=by
 have c:eA (j6<|fX (some ah) 0 "first") (aF W S a w e R)=some false:=by
  show(some _).map _=_;cases q:S.fst with
  |nil=>exact absurd q z
  |cons _ _=>rfl
 rw[cu,c,Ya,Yl Yk];rfl
def LZ{e}(h:ltd R S.brow=some (.bl (ltD R S.brow))):(dIf (asB (d2 ltd (am 3) (fX (some ah) 0 "best_row"))) (ak (iF ah 0 "least" (getV 2))
  (iF ah 0 "best_row" (getV 3))) dNx) (aF W S a w (dL e) R)=some (.nx (aF W ⟨S.way,S.fst,S.frow,if ltD R S.brow=true then e else S.lst,if ltD R S.brow=true then R else S.brow,S.trn⟩ a w (dL e) R)):=by
 have c:asB (d2 ltd (am 3)<|fX (some ah) 0 "best_row") (aF W S a w (dL e) R)=some (ltD R S.brow):=by show asB (λ_=>ltd R S.brow) []=_;unfold asB;rw[h]
 rw[cu,c,Ya];cases ltD R S.brow with
 |true=>
  rfl
 |false=>rfl
theorem L4{l}{b}(h:eqD R S.frow=some (.bl b))(c:b=true->Le [.v (dL S.fst),.v e]=oW (.lst (l.map .int)) none/\S.trn.length<=6000000):(ak (dIf (asB (d2 eqD (am 3) (fX (some ah) 0 "first_row"))) (ak (zt (some ah) 0 "turnings" (al Le (aV (fX (some ah) 0 "first") (aB 2 nA))))
  (bC (λ_=>some (.bl true)))) dNx)
  (bC (λ_=>some (.bl false)))) (aF W S a w e R)=some (.rt (.v (.bl b)) (aF W ⟨S.way,S.fst,S.frow,S.lst,S.brow,if b=true then S.trn++[l]else S.trn⟩ a w e R)):=by
 have f:asB (d2 eqD (am 3)<|fX (some ah) 0 "first_row") (aF W S a w e R)=some b:=by show asB (λ_=>eqD R S.frow) []=_;unfold asB;rw[h]
 cases b with
 |true=>
  obtain⟨c,j⟩:=c rfl;have g:al Le (aV (fX (some ah) 0 "first")<|aB 2 nA) (aF W S a w e R)=some (dL l):=by show(Le [.v _,.v e]).bind dvD=_;rw[c];rfl
  have i:Ep (dL l) (.lst<|S.trn.map dL)=some (.lst<|(S.trn++[l]).map dL):=by unfold Ep;dsimp only;rw[Yj<|by rw[Yc];lia,Za];rfl
  refine fD ?_;rw[cu,f,Ya,Yj rfl,aj<|by
   unfold zt;rw[g,Ya,Bv (fs:=sFs W S) rfl (show 7<1000 by decide) rfl i rfl];rfl]
  rfl
 |false=>
  rw[aj<|by rw[cu,f,Ya,Yl Yk];rfl];rfl
end
def HE(h:1<=n/\n<=7)(c:okK n ks)(u:JOk kvs ts){S}{w e}(p:e.Perm (ao n))(f:SG ks ts n S)(j:S.trn.length<=6000000) :
  cF C (sO (.ins C<|wFs ks T<|.dT kvs) S) [.v<|dL w,.v<|dL e]=some (sO (.ins C<|wFs ks T<|.dT kvs) (arr ks ts n w e S).2,.bl (arr ks ts n w e S).1):=j_ rfl λa=>by
 have s:=ro C ks T kvs ts e n h c.1 p u;have o:=bL (ts:=ts) h.1 c p;have x:=λR=>Ds (C:=C) (W:=.ins C<|wFs ks T<|.dT kvs) (r:=R) (S:=S) (w:=w) (e:=e)
 obtain⟨f,I⟩:=f;have A:¬S.fst=[]->ltd _ S.brow=some (.bl<|ltD _ S.brow)/\eqD _ S.frow=some (.bl<|eqd _ S.frow)/\fF C [.v _,.v<|dL e]=oW _ none:=λz=>by
  obtain⟨g,i,m,q⟩:=f.resolve_left z;refine⟨?_,?_,wH h g p⟩
  ·unfold ltd;rw[q,o,bL h.1 c i,bj];rfl
  ·rw[m];exact tq o<|bL h.1 c g
 show ∃r,e8 C [oW _ _,sV<|dL w,sV<|dL e,none]=some r/\_;unfold e8 arr;generalize D.ins C _=W,aJ ks ts e=R,eX C=Ro,fF C=Le,dO C=J at *;rw[aj<|LY s];by_cases z:S.fst=[]
 ·rw[Yj z];exact⟨_,fD<|Ls z<|x R,rfl,rfl⟩
 ·rw[Yl z];obtain⟨H,E,B⟩:=A z;have:=L4 (W:=W) (w:=dL w) (a:=a) (S:=⟨S.way,S.fst,S.frow,if ltD R S.brow=true then e else S.lst,if ltD R S.brow=true then R else S.brow,S.trn⟩) E λ_=>⟨B,j⟩
  refine⟨_,(aj<|K9 z).trans<|(aj<|LZ H).trans this,?_⟩;by_cases y:eqd R S.frow=true
  ·rw[Yj y,y];exact⟨rfl,rfl⟩
  ·rw[Yl y,UE.mpr y];exact⟨rfl,rfl⟩
end
section
variable{n:Int}   
abbrev gF(W:D)(S:Sst)(a:Addr)(w q chs:D)(tr:List Int)(x5 x6:Option DV):DF:=[oW (sO W S)<|some a,sV w,sV q,sV chs,oW (.lst<|tr.map .int) none,x5,x6]
section
variable{On:Dm}{R:Dz}{w q:D}{S:Sst}    {p:Int}{b:Bool}
def Fs{st}{x}(h:st d ρ=some ρ1)(a:body ρ1=some (.rt x ρ2)):e_ st body (d::ds) ρ=some (.rt x ρ2):=by rw[e_];simp[h,a]
def yg(h:([("web",W),("way",dL S.way),("first",dL S.fst),("first_row",S.frow),("least",dL S.lst),("best_row",S.brow),("turnings",.lst (S.trn.map dL))]:List (Str×D)).lookup mn=none)xs:mS ah mn (.v (sD W S)::xs)=true:=by show(match(if ah=ah then some ([("web",W),("way",dL S.way),("first",dL S.fst),("first_row",S.frow),("least",dL S.lst),("best_row",S.brow),("turnings",.lst _)]:List<|Str×D)else none)with|some fs=>(fs.lookup mn).isNone|none=>false)=true;rw[Yj rfl];simp only;rw[h];rfl
def Ki(h:Lo [.v (sD W S),.v w,.v (dL tr),.v (.int p)]=sV (.bl b)):(gx 4 (gx 0 (eA (asB (bJ ah "left_out" Lo (b_ (cD 0) (aB 1 (aB 4 (aB 5 nA))))))))) (gF W S a w q chs tr (sI p) x6)=some (!b):=by
 show eA _ [sV<|sD W S,sV w,sV q,sV chs,sV<|dL tr,sI p,x6]=_;have:bJ ah "left_out" Lo (b_ (cD 0)<|aB 1<|aB 4<|aB 5 nA) [sV<|sD W S,sV w,sV q,sV chs,sV<|dL tr,sI p,x6]=some (.bl b):=by show(if mS ah "left_out" [.v<|sD W S,.v w,.v<|dL tr,.v<|.int p]=true then(Lo [.v _,.v w,.v _,.v _]).bind dvD else none)=_;rw[Yj<|yg rfl _,h];rfl
 rw[rZ];unfold asB;rw[this];rfl
def JH(h:On [.v (sD W S),.v w]=sV (.bl b)):(gx 0 (fy (asB (getV 6)) (eA (asB (bJ ah "on_first" On (b_ (cD 0) (aB 1 nA))))))) (gF W S a w q chs tr x5 (sV (.bl r)))=some (r&&!b):=by
 show fy _ _ [sV<|sD W S,sV w,sV q,sV chs,oW _ none,x5,sV _]=_;have:bJ ah "on_first" On (b_ (cD 0)<|aB 1 nA) [sV<|sD W S,sV w,sV q,sV chs,oW (.lst<|tr.map .int) none,x5,sV<|.bl r]=some (.bl b):=by show(if mS ah "on_first" [.v<|sD W S,.v w]=true then(On [.v _,.v w]).bind dvD else none)=_;rw[Yj<|yg rfl _,h];rfl
 unfold fy;rw[rZ];unfold asB;rw[this];cases r<;>rfl
theorem GK{w}(g:w.length<=1000)(h:Chs [.v W,.v q,.v (.int p)]=sV cq)(c:R (sO W S) [.v (dL (w++[p])),.v cq]=some (sO W S',.bl b)):(rN 6 (dC ah "go" 0 R (cb (aZ (d2 aP (af 1) (asO (asL (ag (getV 5) aA))))) (cb (aZ (al Chs (aV (fX (some ah) 0 "web") (aB 2 (aB 5 nA))))) lq)))) (gF W S a (dL w) q chs tr (sI p) x6)=some (.nx (gF W S' a (dL w) q chs tr (sI p) (sV (.bl b)))):=by
 unfold rN;rw[nB (ds:=[dL _,cq]) rfl rfl ?_ c]
 ·rfl
 ·have f:d2 aP (af 1) (asO<|asL<|ag (getV 5) aA) (gF W S a (dL w) q chs tr (sI p) x6)=some (dL<|w++[p]):=by rw[show dL (w++[p])=.lst (w.map D.int++[.int p])from by simp];exact vz _ _<|by rw[Yc,YQ];lia
  have e:al Chs (aV (fX (some ah) 0 "web")<|aB 2<|aB 5 nA) (gF W S a (dL w) q chs tr (sI p) x6)=some cq:=by show(Chs [.v W,.v q,.v _]).bind dvD=_;rw[h];rfl
  unfold cb aZ;rw[f];show(((al Chs _ _).map λx=>(x,gF W S a (dL w) q chs tr (sI p) x6)).bind _).map _=_;rw[e];rfl
theorem IJ(h:tr.length<=1000):(cV 4 (getV 5)) (gF W S a w q chs tr (sI p) x6)=some (.nx (gF W S a w q chs (tr++[p]) (sI p) x6)):=by rw[zp rfl rfl<|by rw[Yc];lia];show some (RES.nx [_,_,_,_,oW _ none,_,_])=_;rw[show tr.map D.int++[D.int p]=(tr++[p]).map D.int from by simp]
theorem sf{w b}{cq:Int->List Int}{SGd:Sst->Prop}{B}
  (e:∀S tr p,SGd S->S.trn.length<=6000000->tr.Nodup->(∀x∈tr,In n x)->Lo [.v<|sD W S,.v<|dL w,.v<|dL tr,.v<|.int p]=sV (.bl<|lo S w tr p)) (c:∀S:Sst,On [.v<|sD W S,.v<|dL w]=sV (.bl<|onf S w)) (s:w.length<=1000)
  (A:∀p,In n p->Chs [.v W,.v<|dL b,.v<|.int p]=sV (dL<|cq p)):∀r tr S x5 x6,(tr++r).Nodup->(∀x∈tr++r,In n x)->n<=7->(∀p∈r,∀S,SGd S->S.trn.length+B<=6000000->R (sO W S) [.v<|dL<|w++[p],.v<|dL<|cq p]=some (sO W (G p S).2,.bl (G p S).1)/\SGd (G p S).2/\(G p S).2.trn.length<=S.trn.length+B)->SGd S->S.trn.length+r.length*B<=6000000->
  (∃ρ',ρ'[0]?=some (oW (sO W (lp G w r tr S).2)<|some a)/\e_ (setV 5) (dIf (gx 4<|gx 0<|eA<|asB<|bJ ah "left_out" Lo<|b_ (cD 0)<|aB 1<|aB 4<|aB 5 nA) (ak (cV 4<|getV 5)
 <|ak (rN 6<|dC ah "go" 0 R<|cb (aZ<|d2 aP (af 1)<|asO<|asL<|ag (getV 5) aA)<|cb (aZ<|al Chs<|aV (fX (some ah) 0 "web")<|aB 2<|aB 5 nA) lq)
 <|dIf (gx 0<|fy (asB<|getV 6)<|eA<|asB<|bJ ah "on_first" On<|b_ (cD 0)<|aB 1 nA) (bC λ_=>some<|.bl true) dNx) dNx) (r.map .int) (gF W S a (dL w) (dL b) chs tr x5 x6)=some (if(lp G w r tr S).1=true then .rt (.v<|.bl true) ρ' else .nx ρ'))/\SGd (lp G w r tr S).2/\(lp G w r tr S).2.trn.length<=S.trn.length+r.length*B
 |[],tr,S,x5,x6,_,_,_,_,g,_=>⟨⟨_,rfl,rfl⟩,g,VW _ _⟩
 |p::r,tr,S,x5,x6,nd,hi,hn,hR,g,hb=>by
  have I:tr++p::r=(tr++[p])++r:=by rw[Zi];rfl
  have u:=hi p<|YK _ Ye;have l:=λx i=>hi x<|YW _ i
  have f:=(Xi.mp nd).1;have K:=c8 tr (ao n) f λx i=>az.mpr<|l x i
  rw[aC]at K;rw[Yt,Nat.succ_mul]at hb;have j:=Ki (q:=dL b) (chs:=chs) (a:=a) (x6:=x6)<|e S tr p g (by lia) f l;unfold lp;rw[Yt,Nat.succ_mul,YH];cases z:lo S w tr p with
  |true=>
   rw[Yj rfl,kN (ρ1:=gF W S a (dL w) (dL b) chs tr (sI p) x6) rfl<|by rw[cu,j,z];rfl];have o:=nd.sublist<|(List.sublist_cons_self p r).append_left tr;obtain⟨E,C,L⟩:=sf e c s A r tr S (sI p) x6 o (λx i=>hi x<|(Zm.mp i).elim (YW _) λy=>YK _<|Yd _ y) hn (λm h=>hR m<|Yd _ h) g (by lia);exact⟨E,C,by lia⟩
  |false=>
   obtain⟨J,H,M⟩:=hR p Ye S g (by lia);have bd:(dIf (gx 4<|gx 0<|eA<|asB<|bJ ah "left_out" Lo<|b_ (cD 0)<|aB 1<|aB 4<|aB 5 nA) (ak (cV 4<|getV 5)
 <|ak (rN 6<|dC ah "go" 0 R<|cb (aZ<|d2 aP (af 1)<|asO<|asL<|ag (getV 5) aA) (cb (aZ (al Chs (aV (fX (some ah) 0 "web") (aB 2 (aB 5 nA))))) lq))
  (dIf (gx 0 (fy (asB (getV 6)) (eA (asB (bJ ah "on_first" On (b_ (cD 0) (aB 1 nA))))))) (bC (λ_=>some (.bl true))) dNx)) dNx) (gF W S a (dL w) (dL b) chs tr (sI p) x6)=(if((G p S).1&&!onf (G p S).2 w)=true then bC (λ_=>some (.bl true))else dNx) (gF W (G p S).2 a (dL w) (dL b) chs (tr++[p]) (sI p) (sV (.bl (G p S).1))):=by rw[cu,j,z,Ya,Yj (by decide),aj (IJ (by lia)),aj (GK s (A p u) J),cu,JH (c _),Ya];split<;>rfl
   rw[Yl Yk];cases y:((G p S).1&&!onf (G p S).2 w)with
   |true=>
    rw[y,Yj rfl]at bd;rw[Yj rfl,Fs (ρ1:=gF W S a (dL w) (dL b) chs tr (sI p) x6) rfl (bd.trans rfl)];exact⟨⟨_,rfl,rfl⟩,H,by show(G p S).2.trn.length<=_;lia⟩
   |false=>
    rw[y,Yl Yk]at bd;rw[Yl Yk,kN (ρ1:=gF W S a (dL w) (dL b) chs tr (sI p) x6) rfl (bd.trans rfl)];obtain⟨E,C,L⟩:=sf e c s A r (tr++[p]) (G p S).2 (sI p) (sV (.bl (G p S).1)) (I ▸ nd) (I ▸ hi) hn (λm h=>hR m (Yd _ h)) H (by lia);exact⟨E,C,by lia⟩
end
end
section
variable{n:Int}   
def IW{S}{w e}(i:1<=n)(p:e.Perm (ao n))(h:SG ks ts n S):SG ks ts n (arr ks ts n w e S).2/\(arr ks ts n w e S).2.trn.length<=S.trn.length+1:=by
 unfold arr;obtain⟨l,f⟩:=h;by_cases z:S.fst=[]
 ·rw[Yj z];exact⟨⟨.inr ⟨p,p,rfl,rfl⟩,f⟩,ZI _⟩
 ·rw[Yl z];obtain⟨a,b,c,d⟩:=l.resolve_left z;have q:(if ltD (aJ ks ts e) S.brow=true then e else S.lst).Perm (ao n)/\(if ltD (aJ ks ts e) S.brow=true then aJ ks ts e else S.brow)=aJ ks ts (if ltD (aJ ks ts e) S.brow=true then e else S.lst):=by
   split
   ·exact⟨p,rfl⟩
   ·exact⟨b,d⟩
  split
  ·refine⟨⟨.inr ⟨a,q.1,c,q.2⟩,λg j=>?_⟩,by show(S.trn++[_]).length<=_;rw[Yp];exact Yr _⟩;rcases Zm.mp j with y|y
   ·exact f g y
   ·rw[YC.mp y];exact qY i a p
  ·exact⟨⟨.inr ⟨a,q.1,c,q.2⟩,f⟩,ZI _⟩
def Gy{w q e}{S S'}{b}(h1:(Opn [.v q]).bind dvD=some (.lst []))(h2:Od [.v q]=oW e' none)(he:e'.d=e)(h:Arr (sO W S) [.v w,.v e]=some (sO W S',.bl b)) :
  (ak (ay 3<|al Opn<|aB 2 nA)<|ak (dIf (eA<|j6<|getV 3) (vI<|dC ah "arrive" 0 Arr<|cb (aZ<|getV 1)<|cb (aZ<|al Od<|aB 2 nA) lq) dNx) G) [oW (sO W S)<|some a,sV w,sV q,none,none,none,none]=some (.rt (.v<|.bl b) [oW (sO W S')<|some a,sV w,sV q,sV<|.lst [],none,none,none]):=by
 rw[aj (ρ':=[oW _ _,sV w,sV q,sV _,none,none,none])<|by
  show((Opn [.v q]).bind dvD).map _=_;rw[h1];rfl]
 refine fD ?_;rw[cu,show eA _ [oW _ _,sV w,sV q,sV _,none,none,none]=some true from rfl,Ya,Yj rfl];unfold vI;rw[nB rfl rfl (by
  show(((((Od [.v q]).bind dvD).map λx=>(x,_)).bind _).map _)=_;rw[h2];show(((some e'.d).map _).bind _).map _=_;rw[he];rfl) h]
 rfl
end
section
variable{n:Int}   
def FA{w q}{S}{chs}(b:¬chs=[])(h1:(Opn [.v q]).bind dvD=some (dL chs)) :
  (ak (ay 3<|al Opn<|aB 2 nA)<|ak (dIf (eA<|j6<|getV 3) (vI<|dC ah "arrive" 0 Arr<|cb (aZ<|getV 1)<|cb (aZ<|al Od<|aB 2 nA) lq) dNx)<|ak (bH 4<|asL aA) G) [oW (sO W S)<|some a,sV w,sV q,none,none,none,none]=G (gF W S a w q (dL chs) [] none none):=by
 rw[aj (ρ':=[oW _ _,sV w,sV q,sV _,none,none,none])<|by
  show((Opn [.v q]).bind dvD).map _=_;rw[h1];rfl]
 rw[aj (by
  have:eA (j6<|getV 3) [oW (sO W S)<|some a,sV w,sV q,sV<|dL chs,none,none,none]=some false:=by
   cases chs with
   |nil=>exact absurd rfl b
   |cons _ _=>rfl
  rw[cu,this];rfl)]
 rfl
theorem Ei(a:n<=7):(opn q n).length<=7:=by
 have:=c8 (opn q n) (ao n) sP λx h=>az.mpr<|eO h
 rw[aC]at this;lia
theorem GW(c:1<=n/\n<=7)(H:okK n ks)(L:JOk kvs ts)(J:∀ps:List Int,ps.length=n->cU C [.v (.ins C (wFs ks T (.dT kvs))),.v (dL ps)]=sV (dL (stl ts n 100 ps))):∀m w q S,(∀x∈w,In n x)->w.length+m<=8->Pt n q->Fu n m q->SG ks ts n S->S.trn.length+7^m<=6000000->
  cz C m (sO (.ins C<|wFs ks T<|.dT kvs) S) [.v<|dL w,.v<|dL q]=some (sO (.ins C<|wFs ks T<|.dT kvs) (goP ks ts n m w q S).2,.bl (goP ks ts n m w q S).1)/\SG ks ts n (goP ks ts n m w q S).2/\(goP ks ts n m w q S).2.trn.length<=S.trn.length+7^m
 |0,w,q,S,_,_,_,fu,_,_=>(sT c.1 fu).elim
 |m+1,w,q,S,hw,wl,hp,fu,g,hb=>by
  have p7:1<=7^m:=Nat.one_le_pow _ _ (by decide);have u:=zj C (by lia) hp.1 hp.2<|.inl rfl;by_cases o:opn q n=[]
  ·have z:=kS hp o;have E:=dM c.1 z;rw[show goP ks ts n (m+1) w q S=arr ks ts n w _ S from Yj o];obtain⟨Q,s2⟩:=IW (w:=w) c.1 E g;refine⟨j_ rfl λa=>?_,Q,by lia⟩;have X:=HE (C:=C) (w:=w) c H (T:=T) L E g (by lia);have Y:=Hm (C:=C) c z;rw[o]at u;unfold dY;exact⟨_,Gy u Y rfl X,rfl,rfl⟩
  ·rw[show goP ks ts n (m+1) w q S=lp _ w _ [] S from Yl o];have R:=Ei c.2 (q:=q);have lb:(opn q n).length*7^m<=7^m*7:=by rw[Nat.mul_comm];exact Nat.mul_le_mul_left _ R
   have K:=λp f O g' y=>
    GW c H L J m _ (ch ts n q p) O (λx s=>by
     rcases fS s with h|h
     ·exact hw x h
     ·rw[h];exact eO f) (by rw[Yp,YQ];lia) (kF c hp p) (sF hp.1 fu f) g' y
   have M:∀p,In n p->dE C [.v _,.v<|dL q,.v _]=sV _:=λp U=>qJ c hp.1 U (.inl rfl) J
   have j:∀S e p,SG ks ts n S->S.trn.length<=6000000->e.Nodup->(∀x∈e,In n x)->bU C [.v<|sD (.ins C<|wFs ks T<|.dT kvs) S,.v<|dL w,.v<|dL e,.v _]=sV (.bl<|lo S w e p):=λS e p g h1 h2 Z=>FY c g.2 h1 hw (by lia) h2 Z
   have i:∀S:Sst,bT C [.v<|sD (.ins C<|wFs ks T<|.dT kvs) S,.v<|dL w]=sV _:=λS=>Hq
   have l:=λa=>sf (a:=a) (chs:=dL<|opn q n) j i (by lia) M (opn q n) [] S none none sP (λx s=>eO s) c.2 K g<|by lia
   refine⟨j_ rfl λa=>?_,(l 0).2.1,YD (l 0).2.2<|by lia⟩;obtain⟨⟨P,N,I⟩,_⟩:=l a;show ∃r,dY C _ [oW _ _,sV<|dL w,sV<|dL q,none,none,none,none]=some r/\_;unfold dY;rw[FA o u];generalize lp _ w _ [] S=x at *;obtain⟨b,O⟩:=x;cases b with
   |true=>exact⟨_,fD I,rfl,N⟩
   |false=>exact⟨_,(aj I).trans rfl,rfl,N⟩
end
section
variable{n:Int}   
def S0:Sst:=⟨[],[],.tup [],[],.tup [],[]⟩
noncomputable def uG (ks:List Str)(ts:List T4)(n:Int):Sst:=(goP ks ts n 8 [] (fpt ks ts n) S0).2
def Cn{o}(h:ρ[0]?=some (oW (.obj (some ah) fs) t))(h1:fs.lookup x=none)(a:fs.length<1000)(h2:fN x o fs=fs'):addF (some ah) 0 x o ρ=some (.nx (ρ.set 0 (oW (.obj (some ah) fs') t))):=by unfold addF;rw[h];show(if some ah=some ah/\fs.lookup x=none/\fs.length<1000 then _ else _)=_;rw[Yj ⟨rfl,h1,a⟩,h2]
def js{f}(h:ρ[0]?=some (oW (.obj (some ah) fs) t))(b:f ρ=some d)(h1:fs.lookup x=none)(a:fs.length<1000)(h2:fN x (.d d) fs=fs'):jX ah 0 x f ρ=some (.nx (ρ.set 0 (oW (.obj (some ah) fs') t))):=by unfold jX;rw[b,Ya];exact Cn h h1 a h2
def FF:dN C (.obj (some ah) []) [.v W]=some (sO W S0,.non):=j_ rfl λa=>by
 refine⟨.nx [oW _ _,sV W],?_,rfl,rfl⟩;unfold f7
 show addF (some ah) 0 "turnings" _ [oW (.obj (some ah) [("web",.d W),("way",.d _),("first",.d _),("first_row",.d _),("least",.d _),("best_row",.d _)]) _,sV W]=_;rfl
def Ed{a}{c I}{fp}{S S'}{b}(h1:I (.obj (some ah) []) [.v W]=some (sO W S,.non))(h2:a [.v W]=sV fp)(h:c (sO W S) [.v (dL []),.v fp]=some (sO W S',.bl b)) :
  bZ ((ak (bH 1<|wb ah I<|aV (getV 0) nA)
 <|ak (du<|dC ah "go" 1 c<|cb (aZ<|asO<|asL aA)<|cb (aZ<|al a<|aB 0 nA) lq)
 <|uA 1<|bC<|asT<|ag (d1 (gC ah "first")<|getV 1)<|ag (asO<|asL<|iD<|d1 (gC ah "least")<|getV 1)<|ag (d1 (gC ah "turnings")<|getV 1) aA) [sV W,none])=sV (.tup [dL S'.fst,dL S'.lst,.lst<|S'.trn.map dL]):=by
 rw[aj (by
  have:wb ah I (aV (getV 0) nA) [sV W,none]=some (sO W S):=by show(match I _ [.v W]with|some (o',.non)=>some o'|_=>none)=_;rw[h1]
  show(wb ah I _ [sV W,none]).map _=_;rw[this];rfl),
  aj<|by
  unfold du;rw[nB rfl rfl (by
   show(((((a [.v W]).bind dvD).map λx=>(x,_)).bind _).map _)=_;rw[h2];rfl) h]
  rfl]
 rfl
theorem Ec(a:1<=n/\n<=7)(b:okK n ks)(j:JOk kvs ts)(c:∀ps:List Int,ps.length=n->eE C [.v (.ins C (wFs ks T (.dT kvs))),.v (dL ps)]=oW (.lst ((fin ps ts n).map .int)) none) :
  cL C [.v<|.ins C<|wFs ks T<|.dT kvs]=sV (.tup [dL (uG ks ts n).fst,dL (uG ks ts n).lst,.lst<|(uG ks ts n).trn.map dL]):=by
 have i:=λps h=>jQ a c ps h
 have g:=v5 a b c;have f:=(GW a b j i 8 [] (fpt ks ts n) S0 (λ_ h=>nomatch h) (by decide) (nE a b) ⟨[],⟨(λ_ h=>nomatch h),List.Pairwise.nil⟩,by simp;lia⟩ ⟨.inl rfl,λ_ h=>nomatch h⟩<|by decide).1;unfold cL oQ;have e:=FF (C:=C) (W:=.ins C<|wFs ks T<|.dT kvs);exact Ed e g f
theorem OR C c p m(f:0<p)(h:0<m):∃r:Int,mi C [.v (.int c),.v (.int p),.v (.int m)]=sI r/\0<=r/\r<m:=by have e:=bg (c+1) 2147483647 (by decide);have u:=iX ((c+1)%2147483647) 48271<|.inr (by decide);have b:=bg ((c+1)%2147483647*48271) p f;have a:=bg ((c+1)%2147483647*48271%p) m h;exact⟨(c+1)%2147483647*48271%p%m,by simp[mi,me,e,u,b,a],ZC _<|by omega,Zq _ h⟩
def OS C(ns:List Int)k(a:0<=k):∃x:Int,mu C [.v (.lst (ns.map .int)),.v (.int k)]=sI x:=by
 by_cases h:k<ns.length
 ·have⟨x,_,e⟩:=iC D.int a h;exact⟨x,by simp[mu,mt,h,ix1,e]⟩
 ·exact⟨0,by simp[mu,mt,h]⟩
def OT(x:Str):Bool:=decide (1<=x.cps.size)&&decide (x.cps.size<=3)&&x.cps.toList.all λc=>decide<|97<=c/\c<=122
def OU(h:OT x=true):okW x:=by unfold OT at h;rw[Yu,Yu]at h;exact⟨YN h.1.1,YN h.1.2,λc a=>by simpa using Yi.mp h.2 c a⟩
noncomputable def wdB:Option DV->Bool
 |some (.own (.lst [.str a,.str b,.str c]) none)=>OT a&&OT b&&OT c
 |_=>false
theorem OV:∀s:Fin 324,wdB (m7 0 [.v (.int ((s:Nat):Int))])=true:=by decide+kernel
theorem OW C s(h:0<=s/\s<324):∃a b c:Str,m7 C [.v (.int s)]=oW (.lst [.str a,.str b,.str c]) none/\okW a/\okW b/\okW c:=by
 obtain⟨m,rfl⟩:=Xr h.1;have k:=OV ⟨m,by omega⟩;rw[show m7 C=m7 0 from rfl];simp at k;generalize m7 0 [.v _]=X at k;unfold wdB at k;split at k
 ·rw[Yu,Yu]at k;exact⟨_,_,_,rfl,OU k.1.1,OU k.1.2,OU k.2⟩
 ·cases k
theorem vA C(ns:List Int)n(hn:1<=n/\n<=7):∃ks:List Str,cJ C [.v (.lst (ns.map .int)),.v (.int n)]=oW (.lst (ks.map .str)) none/\okK n ks:=by
 obtain⟨x1,f⟩:=OS C ns 1 (by decide);obtain⟨s,m,s0,s1⟩:=OR C x1 10079 324 (by decide) (by decide);obtain⟨a,b,c,w,z,M,oc⟩:=OW C s ⟨s0,s1⟩;obtain⟨x0,g⟩:=OS C ns 0 (by decide);obtain⟨p,u,p0,p1⟩:=OR C x0 10091 4 (by decide) (by decide);have J:=OS C ns;have H:=λc=>OR C c 10093 2 (by decide)<|by decide
 unfold cJ mU;generalize mu C=A at f g J ⊢;generalize mi C=S at m u H ⊢;generalize m7 C=Wd at w ⊢;have len:((ao n).map D.int).length=n.toNat:=by rw[Yc,aC]
 have B:((ao n).map D.int).length<=16777216:=by omega
 have y:ixD (.lst [.str a,.str b,.str c]) (.int 0)=some _:=rfl;have K:ixD (.lst [.str a,.str b,.str c]) (.int 1)=some _:=rfl;generalize I:D.lst [.str a,.str b,.str c]=L at *;have g1:=z6 (st:=setV 0) (c:=bi) (e:=d2 ixD (af 1)<|cI 0) (ρ:=[none,sV L]) D.str okW ((ao n).map .int) (by
  intro d j;obtain⟨i,E,rfl⟩:=Ym.mp j;exact⟨[sI i,sV L],rfl,rfl,a,by simp[y],z⟩)
 have g2:=z6 (st:=setV 0) (c:=bi) (e:=d2 ixD (af 1)<|d2 a8 (af 0)<|cI 2) (ρ:=[none,sV L]) D.str okW ((ao n).map .int) (by
  intro d j;obtain⟨i,E,rfl⟩:=Ym.mp j;have O:=bg i 2 (by decide);rcases(show i%2=0\/i%2=1 by omega)with h|h
  ·exact⟨[sI i,sV L],rfl,rfl,a,by simp[y,O,h],z⟩
  ·exact⟨[sI i,sV L],rfl,rfl,b,by simp[K,O,h],M⟩)
 have g3:=z6 (st:=setV 0) (c:=bi) (e:=d2 ixD (af 1)<|al S<|aV (d2 aP (al A<|aB 2<|aB 0 nA)<|af 0)<|aV (cI 10093)<|aV (cI 2) nA) (ρ:=[none,sV L,sV<|.lst<|ns.map .int]) D.str okW ((ao n).map .int) (by
  intro d j;obtain⟨i,E,rfl⟩:=Ym.mp j;obtain⟨i0,i1⟩:=az.mp E;obtain⟨x,T⟩:=J i i0;obtain⟨r,o,r0,r1⟩:=H<|x+i;generalize ns.map D.int=N at *;rcases(show r=0\/r=1 by omega)with h|h
  ·exact⟨[sI i,sV L,sV _],rfl,rfl,a,by subst h;simp[y,T,o],z⟩
  ·exact⟨[sI i,sV L,sV _],rfl,rfl,b,by subst h;simp[K,T,o],M⟩)
 obtain⟨R,e1,l1,o1⟩:=g1;obtain⟨Q,e2,l2,o2⟩:=g2;obtain⟨P,e3,l3,o3⟩:=g3;clear J H;generalize (d2 ixD (af 1) _)=E3' at e3 ⊢;generalize (d2 ixD (af 1) _)=E2 at e2 ⊢;generalize (d2 ixD (af 1)<|cI 0)=E1 at e1 ⊢;have o:∀X:DF,X[1]?=some (sI n)->cM (af 1) X=some _:=λX hX=>eI (by unfold af;rw[hX]) ⟨by omega,by omega⟩
 generalize hU':(ao n).map D.int=U,ns.map D.int=N at *;have l:=o [sV<|.lst N,sI n,sV L,sI p] rfl;have j:∀q,OD.d (.lst q)=.lst q:=λ_=>rfl
 by_cases Z:p<2
 ·refine⟨R,?_,by rw[l1,len];omega,o1⟩;generalize R.map D.str=K1 at *;simp[f,m,w,I,j,g,u,Z,bp,l,B,e1]
 ·by_cases Y:p=2
  ·refine⟨Q,?_,by rw[l2,len];omega,o2⟩;subst Y;generalize Q.map D.str=K1 at *;simp[f,m,w,I,j,g,u,bp,l,B,e2]
  ·refine⟨P,?_,by rw[l3,len];omega,o3⟩;generalize P.map D.str=K1 at *;simp[f,m,w,I,j,g,u,Z,Y,bp,l,B,e3]
noncomputable def prB(n:Nat):D->Bool
 |.tup [.int a,.int b]=>decide (0<=a)&&decide (a<n)&&decide (0<=b)&&decide (b<n)&&!decide (a=b)
 |_=>false
noncomputable def OX(n:Nat):Option DV->Bool
 |some (.own (.lst ds) none)=>decide (ds.length<=12)&&ds.all (prB n)
 |_=>false
theorem OY:∀p n:Fin 7,OX (n+1) (gr 0 [.v (.int (p)),.v (.int ((n+1:Nat)))])=true:=by decide+kernel
theorem OZ{n}:∀ds:List D,ds.all (prB n)=true->∃ps:List (Int×Int),ds=ps.map dP/\∀q∈ps,okP n q
 |[],_=>⟨[],rfl,λ_ h=>by cases h⟩
 |d::ds,h=>by
  rw[List.all_cons,Yu]at h;obtain⟨ps,rfl,e⟩:=OZ ds h.2;have c:=h.1;unfold prB at c;split at c
  ·rename_i a b;simp[Yu,YG,Bool.not_eq_true',Xq]at c;refine⟨(a,b)::ps,rfl,λq hq=>?_⟩;rcases Yw.mp hq with rfl|hq
   ·exact⟨c.1.1.1.1,c.1.1.1.2,c.1.1.2,c.1.2,c.2⟩
   ·exact e q hq
  ·cases c
theorem O0 C p n(a:0<=p/\p<7)(c:1<=n/\n<=7):∃ps:List (Int×Int),gr C [.v (.int p),.v (.int n)]=oW (.lst (ps.map dP)) none/\ps.length<=12/\∀q∈ps,okP n q:=by
 obtain⟨p,rfl⟩:=Xr a.1;obtain⟨n,rfl⟩:=Xr (show 0<=n by omega);have k:=OY ⟨p,by omega⟩ ⟨n-1,by omega⟩;simp only at k;rw[show n-1+1=n by omega]at k;rw[show gr C=gr 0 from rfl];generalize gr 0 [.v _,.v _]=X at k;unfold OX at k;split at k
 ·rename_i b;rw[Yu]at k;obtain⟨ps,rfl,h⟩:=OZ b k.2;exact⟨ps,rfl,by have:=YN k.1;rwa [Yc]at this,h⟩
 ·cases k
theorem O1 A S N n f(j:Nat)x r(left order:List Int)(q:j<=7)(hx:A [.v (.lst N),.v (.int j)]=sI x)(h:S [.v (.int (x+j*j)),.v (.int f),.v (.int left.length)]=sI r)(b:0<=r)(a:r<left.length)(e:left.length<=7)(o:order.length<=7) :
  ∃(m:Nat) (p:m<left.length),iw 4 3 (al S<|aV (d2 aP (al A<|aB 0<|aB 5 nA)<|d2 kO (af 5)<|af 5)<|aB 2<|aV (d1 bF<|am 3) nA) [sV<|.lst N,sI n,sI f,oW (.lst<|left.map .int) none,oW (.lst<|order.map .int) none,sI j]
   = some (.nx [sV<|.lst N,sI n,sI f,oW (.lst<|(left.eraseIdx m).map .int) none,oW (.lst<|(order++[left[m]]).map .int) none,sI j]):=by
 have u:=iX j j<|.inl (by omega);have c:al S (aV (d2 aP (al A<|aB 0<|aB 5 nA)<|d2 kO (af 5)<|af 5)<|aB 2<|aV (d1 bF<|am 3) nA) [sV<|.lst N,sI n,sI f,oW (.lst<|left.map .int) none,oW (.lst<|order.map .int) none,sI j]=some (.int r):=by have l:(left.map D.int).length=left.length:=Yc ..;generalize left.map D.int=U at *;generalize order.map D.int=V;generalize _=g at hx h u ⊢;simp -implicitDefEqProofs [hx,u,l,h]
 exact AV (by decide) rfl rfl c b a (by omega)<|by omega
theorem lP C(ns:List Int)n f(N:1<=n/\n<=7)(L:0<f):∃out:List Int,de C [.v (.lst (ns.map .int)),.v (.int n),.v (.int f)]=oW (.lst (out.map .int)) none/\out.Perm (ao n):=by
 have u:=OS C ns;have s:=λc l b=>OR C c f l L b
 unfold de mH;generalize mu C=A at u ⊢;generalize mi C=S at s ⊢;have O:((ao n).length)=n:=by rw[aC];omega
 obtain⟨z,e,left,o,i,rfl,a,b⟩:=dQ (st:=setV 5) (λj w=>∃left o i,w=[sV _,sI n,sI f,oW (.lst<|left.map .int) none,oW (.lst<|o.map .int) none,i]/\(o++left).Perm (ao n)/\o.length=j) _ 0
  [sV _,sI n,sI f,oW _ none,oW (.lst []) none,none] ⟨ao n,[],_,rfl,.refl _,rfl⟩ (by
   rintro j d _ q ⟨left,o,i,rfl,a,b⟩;rw[Zf]at b ⊢;have K:j<n.toNat:=by have:=(Yn.mp q).1;rwa [Yc,aC]at this
   rw[kG q];have h:=a.length_eq;rw[Yp,aC]at h;obtain⟨x,I⟩:=u _<|Int.natCast_nonneg j;obtain⟨r,p,H,E⟩:=s (x+j*j) left.length (by omega);obtain⟨m,J,M⟩:=O1 A S _ n f j x r left o (by omega) I p H E (by omega) (by omega);refine⟨_,rfl,_,M,left.eraseIdx m,o++[left[m]],_,rfl,?_,by rw[Yp,YQ,b]⟩;refine List.Perm.trans ?_ a;rw[Zi];exact List.Perm.append_left _<|iU _ m J)
 rw[Zf,Yc,aC]at b;have h:=a.length_eq;rw[Yp,aC]at h;have g:left=[]:=Zo.mp (by omega);subst g;rw[YZ]at a;refine⟨o,?_,a⟩;rw[qS];have p:vH (getV 1) (aH 6 3 [.v<|.lst<|ns.map .int,.v<|.int n,.v<|.int f])=some ((ao n).map .int):=by show(if n<16777216/\-(2^62)<=n then some (cN 0 n.toNat)else none)=_;rw[Yj<|by omega,rG]
 have B:bH 3 (asL<|vH<|getV 1) (aH 6 3 [.v<|.lst<|ns.map .int,.v<|.int n,.v<|.int f])=some (.nx [sV<|.lst<|ns.map .int,sI n,sI f,oW (.lst<|(ao n).map .int) none,none,none]):=by rw[Bw,cW,p];rfl
 have y:bH 4 (asL aA) [sV _,sI n,sI f,oW _ none,none,none]=some (.nx [sV<|.lst<|ns.map .int,sI n,sI f,oW (.lst<|(ao n).map .int) none,oW _ none,none]):=rfl;rw[aj B,aj y,aj<|cX (eI rfl ⟨by omega,by omega⟩) e];rfl
noncomputable abbrev tiF(N:List D)(n:Int)(L:D)(p:Int)(o:Bool)(ts:List D)(m:Int)(x x8 x9:Option DV):DF:=[sV<|.lst N,sI n,sV L,sI p,sV<|.bl o,oW (.lst ts) none,sI m,x,x8,x9]
abbrev tiB(S:Dm):DF->Option RES:=(dIf (fy (asB<|d2 gtI (af 1)<|cI 1)<|asB<|d2 ltd (d1 bF<|am 5)<|cI 12) (ak (ay 8<|al S<|aB 7<|aV (cI 10007)<|aB 1 nA)
 <|ak (ay 9<|d2 a8 (d2 aP (d2 aP (af 8)<|cI 1)<|al S<|aB 7<|aV (cI 10009)<|aV (d2 ly (af 1)<|cI 1) nA)<|af 1)
 <|cV 5<|asT<|ag (getV 8)<|ag (getV 9)<|ag (d2 ixD (af 2)<|al S<|aB 7<|aV (cI 10037)<|aV (cI 2) nA)<|ag (d2 eqD (al S<|aB 7<|aV (cI 10039)<|aV (cI 3) nA)<|cI 0) aA) dNx)
theorem O3{S}{N}{n p m c a b u w k}{o}(h1:1<n)(s:ts.length<12)(A:S [.v (.int c),.v (.int 10007),.v (.int n)]=sI a)(y:S [.v (.int c),.v (.int 10009),.v (.int (n-1))]=sI b)(j:S [.v (.int c),.v (.int 10037),.v (.int 2)]=sI u)(hw:S [.v (.int c),.v (.int 10039),.v (.int 3)]=sI w)(x:ixD L (.int u)=some (.int k)) :
  ∃f z,tiB S (tiF N n L p o (ts.map dT4) m (sI c) x8 x9)=some (.nx<|tiF N n L p o ((ts++[(a,(a+1+b)%n,k,decide<|w=0)]).map dT4) m (sI c) f z):=by
 have g:=bg (a+1+b) n (by omega);have l:(ts.map dT4).length=ts.length:=Yc ..;have i:ts.length<16777216:=by omega
 have h:(ts.length:Int)<12:=by omega
 refine⟨sI a,sI<|(a+1+b)%n,?_⟩;rw[Za];have e:[(a,(a+1+b)%n,k,decide<|w=0)].map dT4=[.tup [.int a,.int _,.int k,.bl _]]:=rfl;rw[e];generalize ts.map dT4=T,(a+1+b)%n=q at *;simp -implicitDefEqProofs [tiB,tiF,h1,l,i,s,h,A,y,j,hw,x,g]
theorem O4{S}{N}{n p m}{o}{x x8 x9}(h:¬(1<n/\ts.length<12)):tiB S (tiF N n L p o (ts.map dT4) m x x8 x9)=some (.nx (tiF N n L p o (ts.map dT4) m x x8 x9)):=by
 have l:(ts.map dT4).length=ts.length:=Yc ..;have b:1<n->¬((ts.length:Int)<12):=λz q=>h ⟨z,by omega⟩
 generalize ts.map dT4=T at *;by_cases a:1<n
 ·have:=b a;simp -implicitDefEqProofs [tiB,tiF,a,l,this]
 ·simp -implicitDefEqProofs [tiB,tiF,a]
noncomputable def toT(k:Int)(o:Bool)(q:Int×Int):T4:=(q.1,q.2,k,o)
def M6:qh (.int 10) (.int 28)=some (.int 10000000000000000000000000000):=rfl
theorem O5{A S P}{N}{n a x1 x2 x p w m}{ps:List (Int×Int)}(B:A [.v (.lst N),.v (.int 0)]=sI a)(h1:A [.v (.lst N),.v (.int 1)]=sI x1)(h2:A [.v (.lst N),.v (.int 2)]=sI x2)(z:A [.v (.lst N),.v (.int 3)]=sI x)
  (i:S [.v<|.int a,.v<|.int 10099,.v<|.int 7]=sI p) (hw:S [.v<|.int x1,.v<|.int 10103,.v<|.int 2]=sI w) (u:S [.v<|.int x1,.v<|.int 10111,.v<|.int 3]=sI m) (y:P [.v<|.int p,.v<|.int n]=oW (.lst<|ps.map dP) none) (pl:ps.length<=12):∀G,
  (ak (ay 2<|asO<|asL<|ag (d2 a8 (al A<|aB 0<|aV (cI 2) nA)<|d2 qh (cI 10)<|cI 28)<|ag (d2 a8 (al A<|aB 0<|aV (cI 3) nA)<|d2 qh (cI 10)<|cI 28) aA)
 <|ak (ay 3<|al S<|aV (al A<|aB 0<|aV (cI 0) nA)<|aV (cI 10099)<|aV (cI 7) nA)
 <|ak (ay 4<|d2 eqD (al S<|aV (al A<|aB 0<|aV (cI 1) nA)<|aV (cI 10103)<|aV (cI 2) nA)<|cI 1)
 <|ak (bH 5<|asL<|aN 2 [2,4] (dX<|al P<|aB 3<|aB 1 nA) (jM [0,1]) bi<|asT<|ag (getV 0)<|ag (getV 1)<|ag (d2 ixD (af 2)<|cI 0)<|ag (getV 3) aA)
 <|ak (ay 6<|al S<|aV (al A<|aB 0<|aV (cI 1) nA)<|aV (cI 10111)<|aV (cI 3) nA)
  G) [sV<|.lst N,sI n,none,none,none,none,none,none,none,none]
   = G (tiF N n (.lst [.int<|x2%10000000000000000000000000000,.int<|x%10000000000000000000000000000]) p (decide<|w=1) ((ps.map<|toT (x2%10000000000000000000000000000)<|decide<|w=1).map dT4) m none none none):=by
 intro G;have g:=bg x2 10000000000000000000000000000 (by decide);have f:=bg x 10000000000000000000000000000 (by decide);generalize x2%10000000000000000000000000000=t0,x%10000000000000000000000000000=e at *;generalize b:D.lst [.int t0,.int e]=L;have c:ixD L (.int 0)=some (.int t0):=by rw[<-b];rfl
 generalize j:decide (w=1)=o;have C:b7 (jM [0,1]) bi (asT<|ag (getV 0)<|ag (getV 1)<|ag (d2 ixD (af 2)<|cI 0)<|ag (getV 3) aA) [none,none,sV L,sV<|.bl o] (ps.map dP)=some ((ps.map<|toT t0 o).map dT4):=by
  rw[YI];refine bR dP _ ps λq _=>⟨[sI<|q.1,sI<|q.2,sV L,sV _],rfl,rfl,?_⟩
  show _=some (D.tup [.int q.1,.int q.2,.int t0,.bl o]);simp[c]
 have l:(ps.map dP).length<=16777216:=by rw[Yc];omega
 generalize _=E,(ps.map _).map dT4=R,ps.map dP=Q at *;have h:∀q,OD.d (.lst q)=.lst q:=λ_=>rfl
 have s:∀G,(ak (ay 2<|asO<|asL<|ag (d2 a8 (al A<|aB 0<|aV (cI 2) nA)<|d2 qh (cI 10)<|cI 28)<|ag (d2 a8 (al A<|aB 0<|aV (cI 3) nA)<|d2 qh (cI 10)<|cI 28) aA) G) [sV<|.lst N,sI n,none,none,none,none,none,none,none,none]=G [sV<|.lst N,sI n,sV L,none,none,none,none,none,none,none]:=by intro G;simp -implicitDefEqProofs [h2,z,g,f,M6,h,b]
 rw[s];simp -implicitDefEqProofs [B,h1,i,hw,u,y,h,j,bp,l,C,tiF]
theorem O6 C(ns:List Int)n(hn:1<=n/\n<=7)(hl:ns.length<=63):∃ts:List T4,oa C [.v (.lst (ns.map .int)),.v (.int n)]=oW (.lst (ts.map dT4)) none/\okS n ts:=by
 obtain⟨x0,h0⟩:=OS C ns 0 (by decide);obtain⟨P,Z⟩:=OS C ns 1 (by decide);obtain⟨s,Y⟩:=OS C ns 2 (by decide);obtain⟨l,X⟩:=OS C ns 3 (by decide);obtain⟨p,H,p0,p1⟩:=OR C x0 10099 7 (by decide) (by decide);obtain⟨w,E,w0,w1⟩:=OR C P 10103 2 (by decide) (by decide);obtain⟨m,I,m0,m1⟩:=OR C P 10111 3 (by decide) (by decide);obtain⟨Q,K,B,R⟩:=O0 C p n ⟨p0,p1⟩ hn;have i:=OR C;unfold oa n7;generalize mu C=A at h0 Z Y X ⊢;generalize mi C=S at H E I i ⊢;generalize gr C=Pr at K ⊢;rw[i4,show aH 10 2 [.v _,.v _]=[sV _,sI n,none,none,none,none,none,none,none,none]from rfl,O5 h0 Z Y X H E I K B];have y:0<=s%10000000000000000000000000000/\s%10000000000000000000000000000<10000000000000000000000000000:=⟨ZC _<|by decide,Zq _<|by decide⟩
 have tb:0<=l%10000000000000000000000000000/\l%10000000000000000000000000000<10000000000000000000000000000:=⟨ZC _<|by decide,Zq _<|by decide⟩
 generalize s%10000000000000000000000000000=t0,l%10000000000000000000000000000=h at *;generalize decide (w=1)=o;have U:okS n (Q.map<|toT t0 o):=⟨by rwa[Yc],λt ht=>by
  obtain⟨q,hq,rfl⟩:=Ym.mp ht;obtain⟨O,M,b0,b1,ab⟩:=R q hq;exact⟨O,M,b0,b1,ab,y.1,Int.lt_trans y.2<|by decide⟩⟩
 generalize Q.map _=ts at U;clear K R B H E I;have s6:∃f:Int,0<=f/\f<=12/\(dIf (asB<|d2 gtI (af 3)<|cI 4) (ay 6<|cI 12) dNx) (tiF (ns.map .int) n (.lst [.int t0,.int h]) p o (ts.map dT4) m none none none)=some (.nx<|tiF (ns.map .int) n (.lst [.int t0,.int h]) p o (ts.map dT4) f none none none):=by
  generalize ts.map dT4=T,ns.map D.int=N,D.lst [.int t0,.int h]=L;by_cases q:4<p
  ·exact⟨12,by decide,by decide,by simp -implicitDefEqProofs [tiF,q]⟩
  ·exact⟨m,m0,by omega,by simp -implicitDefEqProofs [tiF,q]⟩
 obtain⟨f,m0',m1',e6'⟩:=s6;rw[aj e6'];have J:dX (asO<|asL<|slL (af 0) (bI<|cI 4)<|bI<|d2 aP (cI 4)<|af 6) (tiF (ns.map .int) n (.lst [.int t0,.int h]) p o (ts.map dT4) f none none none)=some ((gG ns (some 4)<|some<|4+f).map .int):=by rw[<-nI];generalize ns.map D.int=N,ts.map dT4=T;rfl
 obtain⟨z,e,g,x,x8,x9,rfl,j⟩:=nU (st:=setV 7) (λρ=>∃g x x8 x9,ρ=tiF _ n _ p o (g.map dT4) f x x8 x9/\okS n g) (ρ:=tiF _ n _ p o _ f none none none) ⟨ts,_,_,_,rfl,U⟩ (by
  rintro d hd _ ⟨g,x,x8,x9,rfl,j⟩;obtain⟨c,hc,rfl⟩:=Ym.mp hd;by_cases q:1<n/\g.length<12
  ·obtain⟨a,ea,O,M⟩:=i c 10007 n (by decide) (by omega);obtain⟨b,eb,b0,b1⟩:=i c 10009 (n-1) (by decide) (by omega);obtain⟨u,eu,u0,u1⟩:=i c 10037 2 (by decide) (by decide);obtain⟨v,ev,v0,v1⟩:=i c 10039 3 (by decide) (by decide);have hk:∃k,ixD (.lst [.int t0,.int h]) (.int u)=some (.int k)/\0<=k/\k<10000000000000000000000000000:=by
    rcases(show u=0\/u=1 by omega)with rfl|rfl
    ·exact⟨t0,rfl,y⟩
    ·exact⟨h,rfl,tb⟩
   obtain⟨k,ek,k0,k1⟩:=hk;obtain⟨z8,z9',e⟩:=O3 (N:=ns.map .int) (p:=p) (m:=f) (o:=o) (x8:=x8) (x9:=x9) q.1 q.2 ea eb eu ev ek;refine⟨_,rfl,_,e,g++[(a,(a+1+b)%n,k,decide<|v=0)],_,_,_,rfl,by rw[Yp,YQ];omega,λt ht=>?_⟩;rcases Zm.mp ht with ht|ht
   ·exact j.2 t ht
   ·rw[YC.mp ht];have c0:=ZC (a+1+b) (show n≠0 by omega);have c1:=Zq (a+1+b) (show 0<n by omega);refine⟨O,M,c0,c1,?_,k0,Int.lt_trans k1<|by decide⟩;show a≠(a+1+b)%n;by_cases z:a+1+b<n
    ·rw[Int.emod_eq_of_lt (by omega) z];omega
    ·have:(a+1+b)%n=a+1+b-n:=by rw[<-Int.sub_emod_right (a+1+b) n,Int.emod_eq_of_lt (by omega)<|by omega]
     omega
  ·exact⟨_,rfl,_,O4 q,g,_,_,_,rfl,j⟩)
 refine⟨g,?_,j⟩;rw[aj<|cX J e];rfl
abbrev O7:DF->Option RES:=(ak (dIf (asB<|d2 eqD (asT<|ag (getV 4)<|ag (getV 5) aA)<|asT<|ag (getV 1)<|ag (getV 2) aA) (cV 3<|asT<|ag (getV 6)<|ag (d1 u6<|am 7) aA) dNx)
 <|dIf (asB<|d2 eqD (asT<|ag (getV 4)<|ag (getV 5) aA)<|asT<|ag (getV 2)<|ag (getV 1) aA) (cV 3<|asT<|ag (getV 6)<|ag (d2 kO (cI 2)<|d1 u6<|am 7) aA) dNx)
theorem O8 TS i j a b k o L(x:L.length<=100) :
  O7 [sV<|.lst TS,sI i,sI j,oW (.lst<|L.map dP) none,sI a,sI b,sI k,sV<|.bl o]=some (.nx [sV<|.lst TS,sI i,sI j,oW (.lst<|(L++prs i j (a,b,k,o)).map dP) none,sI a,sI b,sI k,sV<|.bl o]):=by
 have h:L.length<16777216:=by omega
 have g:L.length+1<16777216:=by omega
 have m:=iX 2 (if o=true then 1 else 0)<|.inl (by decide);have f:(2:Int)*(if o=true then 1 else 0)=if o=true then 2 else 0:=by cases o<;>rfl
 rw[f]at m;have c:=GP a b i j;have e:=GP a b j i;have q:prs i j (a,b,k,o)=(if decide (a=i/\b=j)=true then[(k,if o=true then 1 else 0)]else[])++(if decide (a=j/\b=i)=true then[(k,if o=true then 2 else 0)]else[]):=by unfold prs;simp[YG,and_comm ]
 rw[q];generalize decide (a=i/\b=j)=u at c ⊢;generalize decide (a=j/\b=i)=s at e ⊢;have p:=FS o;generalize (if o=true then(1:Int)else 0)=w1,(if o=true then(2:Int)else 0)=w at *;have d1:dP (k,w1)=.tup [.int k,.int w1]:=rfl;have d2:dP (k,w)=.tup [.int k,.int w]:=rfl;have l:(L.map dP).length=L.length:=Yc ..;rw[Za];generalize L.map dP=M at *;cases u<;>cases s<;>simp -implicitDefEqProofs [O7,c,e,p,m,h,g,l,d1,d2]
def srL(ps:List (Int×Int)):D:=.lst<|aU<|ps.map dP
theorem Hf C ts(x:ts.length<=12)i j:dG C [.v (.lst (ts.map dT4)),.v (.int i),.v (.int j)]=oW (.lst (aU ((aX i j ts).map dP))) none:=by
 obtain⟨z,e,g,f,c,y,rfl⟩:=dQ (st:=jM [4,5,6,7]) (λm q=>∃g f c y,q=[sV _,sI i,sI j,oW (.lst<|(aX i j<|ts.take m).map dP) none,g,f,c,y]) (ts.map dT4) 0
  [sV _,sI i,sI j,oW (.lst []) none,none,none,none,none] ⟨_,_,_,_,rfl⟩ (by
   rintro m d _ h ⟨g,f,c,y,rfl⟩;rw[Zf];rw[Yo]at h;cases l:ts[m]? with
   |none=>rw[l]at h;cases h
   |some t=>
   rw[l]at h;cases h;rw[pM l,uw];have u:=j4 i j<|ts.take m;have w:(ts.take m).length<=12:=by rw[Zu];omega
   obtain⟨a,b,k,o⟩:=t;exact⟨_,rfl,_,O8 (ts.map dT4) i j a b k o _<|by omega,_,_,_,_,rfl⟩)
 rw[Zf,Yc,ZV]at e;have u:=j4 i j ts;have p:=uz (aX i j ts) (by omega);unfold dG jx;rw[qS];have s:bH 3 (asL aA) (aH 8 3 [.v _,.v _,.v _])=some (.nx [sV<|.lst<|ts.map dT4,sI i,sI j,oW _ none,none,none,none,none]):=rfl;rw[aj s,aj<|cX rfl e];generalize (aX i j ts).map dP=L,ts.map dT4=T at *;simp -implicitDefEqProofs [kx,p]
def O9(ts:List T4)(n i:Int):D:=.lst<|(ao n).map λj=>srL<|aX i j ts
def O_(ts:List T4)(n:Int):List D:=(ao n).map<|O9 ts n
theorem Pa C ts n(A:1<=n/\n<=7)(p:ts.length<=12):df C [.v (.lst (ts.map dT4)),.v (.int n)]=oW (.lst (O_ ts n)) none:=by
 have c:=Hf C ts p;unfold df lZ;generalize dG C=B at c ⊢;have l:((ao n).map D.int).length<=16777216:=by rw[Yc,aC];omega
 have H:=aC n;obtain⟨z,e,y,rfl⟩:=dQ (st:=setV 3) (body:=(cV 2<|asO<|asL<|aN 1 [0,3] _ _ bi _)) (λm f=>∃y,f=[sV _,sI n,oW (.lst<|((ao n).take m).map<|O9 ts n) none,y]) _ 0
  [sV _,sI n,oW (.lst []) none,none] ⟨_,rfl⟩ (by
   rintro m d _ a ⟨y,rfl⟩;rw[Zf];have E:m<n.toNat:=by have:=(Yn.mp a).1;rwa [Yc,aC]at this
   have b:=kG a;subst b;have b:(ao n)[m]?=some (m:Int):=by
    rw[Yo]at a;cases q:(ao n)[m]? with
    |none=>rw[q]at a;cases a
    |some x=>rw[q]at a;injection a with a;injection a with a;rw[a]
   rw[pM b,Za];have o:cM (af 1) [sV<|.lst<|ts.map dT4,sI n,oW (.lst<|((ao n).take m).map<|O9 ts n) none,sI m]=some _:=eI rfl ⟨by omega,by omega⟩;have w:b7 (setV 0) bi (al B<|aB 1<|aV (getV 2)<|aV (getV 0) nA) [none,sV<|.lst<|ts.map dT4,sI m] ((ao n).map .int)=some ((ao n).map λj=>srL<|aX m j ts):=by
    refine bR D.int _ (ao n) λj _=>⟨[sI j,sV _,sI m],rfl,rfl,?_⟩
    have h:=c m j;unfold srL;generalize _=g at *;generalize aU ((aX g j ts).map dP)=S,ts.map dT4=T at *;simp -implicitDefEqProofs [h]
   have i:(((ao n).take m).map<|O9 ts n).length<16777216:=by rw[Yc,Zu];omega
   refine⟨_,rfl,[sV<|.lst<|ts.map dT4,sI n,oW _ none,sI m],?_,_,rfl⟩;have u:O9 ts n m=OD.d (.lst _):=rfl;refine zp rfl ?_ i;rw[fQ,cW,bp];show Option.map OD.d (Option.map OD.lst<|(cM (af 1) [sV _,sI n,oW _ none,sI m]).bind _)=_;rw[o,Ya,Yj l,u];exact YR (λx=>Option.map OD.d _) w)
 rw[Zf,Yc,ZV]at e;rw[i4];have s:bH 2 (asL aA) (aH 4 2 [.v _,.v _])=some (.nx [sV<|.lst<|ts.map dT4,sI n,oW _ none,none]):=rfl;rw[aj s,aj<|cX (eI rfl ⟨by omega,by omega⟩) e];rfl
def Pb{st}{body}(h1:st d ρ=some ρ1)(h2:body ρ1=some (.rt v ρ2)):e_ st body (d::ds) ρ=some (.rt v ρ2):=by
 conv=>lhs;unfold e_
 rw[h1];simp[h2]
theorem Pc{st}{body}(I:DF->Prop)v(q:Nat->Bool):∀ds k ρ,I ρ->(∀j d ρ,ds[j]?=some d->I ρ->∃ρ1,st d ρ=some ρ1/\(q (k+j)=true->∃ρ',body ρ1=some (.nx ρ')/\I ρ')/\(q (k+j)=false->∃ρ',body ρ1=some (.rt v ρ')))->
  ((∀j,j<ds.length->q (k+j)=true)->∃ρ',e_ st body ds ρ=some (.nx ρ')/\I ρ')/\((∃j,j<ds.length/\q (k+j)=false)->∃ρ',e_ st body ds ρ=some (.rt v ρ'))
 |[],k,ρ,h,_=>⟨λ_=>⟨ρ,rfl,h⟩,λ⟨_,e,_⟩=>absurd e<|VA _⟩
 |d::ds,k,ρ,h,hs=>by
  obtain⟨ρ1,m,i,l⟩:=hs 0 d ρ rfl h;rw[Nat.add_zero]at i l;cases f:q k with
  |false=>
   obtain⟨c,g⟩:=l f;refine⟨λz=>?_,λ_=>⟨c,Pb m g⟩⟩;have:=z 0<|Nat.zero_lt_succ _;rw[Nat.add_zero,f]at this;cases this
  |true=>
   obtain⟨c,g,p⟩:=i f;obtain⟨a,b⟩:=Pc I v q ds (k+1) c p λj s ρ' e o=>by
    have:=hs (j+1) s ρ' e o
    rwa [show k+(j+1)=k+1+j by omega]at this
   rw[rB m g];refine⟨λz=>a λj e=>?_,λ⟨j,e,z⟩=>b ?_⟩
   ·have:=z (j+1)<|Nat.succ_lt_succ e
    rwa [show k+(j+1)=k+1+j by omega]at this
   ·cases j with
    |zero=>rw[Nat.add_zero,f]at z;cases z
    |succ j=>exact⟨j,Nat.lt_of_succ_lt_succ e,by rwa [show k+1+j=k+(j+1)by omega]⟩
def Pd(r:List Int)(i:Nat):Int:=(r[i]?).getD 0
def inB(ts:List T4)(r:List Int)(i j:Nat):Bool:=eqd (srL<|aX i j ts)<|srL<|aX (Pd r i) (Pd r j) ts
def Pe(ks:List Str)(ts:List T4)(r:List Int)(i:Nat):Bool:=eqd (.str<|kAt ks i) (.str<|kAt ks<|Pd r i)&&(List.range i).all (inB ts r i)
def Pf(ks:List Str)(ts:List T4)(r:List Int)(n:Int):Bool:=(List.range n.toNat).all<|Pe ks ts r
theorem Pg(a:1<=n)(p:r.Perm (ao n))(hi:i<n.toNat):ixD (.lst (r.map .int)) (.int i)=some (.int (Pd r i))/\r[i]?=some (Pd r i)/\0<=Pd r i/\Pd r i<n:=by
 obtain⟨c,_,b⟩:=aY a p;have h:r[i]?=some _:=Yg (by omega);have e:Pd r i=r[i]'(by omega):=by unfold Pd;rw[h];rfl
 rw[e];refine⟨?_,h,b _<|YJ h⟩;rw[ix1,lI (Int.natCast_nonneg i)<|by rw[Yc];omega,Zb,Yo,h];rfl
def Ph(hi:i<n.toNat):(ao n)[i]?=some (i:Int):=by unfold ao;rw[Yo,ZJ hi];rfl
theorem Pi{n x}ts(h:0<=x/\x<n):ixD (.lst (O_ ts n)) (.int x)=some (O9 ts n x):=by
 obtain⟨i,rfl⟩:=Xr h.1;have a:i<n.toNat:=by omega
 unfold O_;rw[ix1,lI h.1<|by rw[Yc,aC];omega,Zb,Yo,Ph a];rfl
def Pj{n x y}ts(h:0<=y/\y<n):ixD (O9 ts n x) (.int y)=some (srL (aX x y ts)):=by
 obtain⟨i,rfl⟩:=Xr h.1;have a:i<n.toNat:=by omega
 unfold O9;rw[ix1,lI h.1<|by rw[Yc,aC];omega,Zb,Yo,Ph a];rfl
theorem Pk{n x}(b:(ks.length:Int)=n)(h:0<=x/\x<n):ixD (.lst (ks.map .str)) (.int x)=some (.str (kAt ks x)):=by obtain⟨s,a,e⟩:=iC (l:=ks) D.str h.1 (by omega);rw[ix1,e];unfold kAt;rw[a];rfl
def Pl ps:∃us:List (Int×Int),srL ps=.lst (us.map dP):=by obtain⟨us,e,_⟩:=iq dP unP (λ_=>rfl)<|a9<|ps.map dP;exact⟨us,YR D.lst e⟩
def Pm ps:okN 30 (srL ps)=true:=by obtain⟨u,e⟩:=Pl ps;rw[e];show(u.map dP).all _=true;rw[Yi];intro y h;obtain⟨q,_,rfl⟩:=Ym.mp h;rfl
def Pn a b:eqd (srL a) (srL b)=true↔a.Perm b:=by
 have⟨u,f⟩:=Pl a;have⟨c,e⟩:=Pl b;rw[f,e,show(eqd (.lst _) (.lst _)=true↔_)from j7 _ _<|f6 dP (λ_ _=>rfl) _ _];have i:=D.lst.inj f;have g:=D.lst.inj e;rw[<-i,<-g];constructor
 ·intro h;exact FN<|YR D.tup h
 ·intro h;exact D.tup.inj<|kt h
def Po(h:okW x):okN 30 (.str x)=true:=by have:=Cl ⟨rfl,λk a=>by rwa[YC.mp a]⟩;exact(show(okN 29 _&&true)=true from this) |> λz=>by rwa[Bool.and_true]at z
abbrev ldI:DF->Option RES:=(dIf (asB<|d2 neD (d2 ixD (d2 ixD (af 1)<|af 3)<|af 5)<|d2 ixD (af 4)<|d2 ixD (af 2)<|af 5) (bC λ_=>some<|.bl false) dNx)
abbrev ldB:DF->Option RES:=(ak (dIf (asB<|d2 neD (d2 ixD (af 0)<|af 3)<|d2 ixD (af 0)<|d2 ixD (af 2)<|af 3) (bC λ_=>some<|.bl false) dNx)
 <|ak (ay 4<|d2 ixD (af 1)<|d2 ixD (af 2)<|af 3)
 <|dW (cM<|af 3) (setV 5) ldI)
noncomputable abbrev ldF(KS TB R:List D)(x x4 x5:Option DV):DF:=[sV<|.lst KS,sV<|.lst TB,sV<|.lst R,x,x4,x5]
def Pp{n}{q}:((List.range n).all q=true↔∀j,j<n->q j=true)/\((List.range n).all q=false↔∃j,j<n/\q j=false):=by
 constructor
 ·rw[Yi];exact⟨λh j a=>h j<|YU.mpr a,λh j a=>h j<|YU.mp a⟩
 ·rw[List.all_eq_false];exact⟨λ⟨j,a,h⟩=>⟨j,YU.mp a,by simpa using h⟩,λ⟨j,a,h⟩=>⟨j,YU.mpr a,by rw[h];decide⟩⟩
theorem Pq(B:1<=n/\n<=7)(p:r.Perm (ao n))(hi:i<n.toNat) :
  ((List.range i).all (inB ts r i)=true->∃c,e_ (setV 5) ldI ((ao i).map .int) (ldF KS (O_ ts n) (r.map .int) (sI i) (sV<|O9 ts n<|Pd r i) x5)=some (.nx<|ldF KS (O_ ts n) (r.map .int) (sI i) (sV<|O9 ts n<|Pd r i) c)) /\
  ((List.range i).all (inB ts r i)=false->∃z,e_ (setV 5) ldI ((ao i).map .int) (ldF KS (O_ ts n) (r.map .int) (sI i) (sV<|O9 ts n<|Pd r i) x5)=some (.rt (.v<|.bl false) z)):=by
 have len:((ao i).map D.int).length=i:=by rw[Yc,aC,Zb]
 obtain⟨a,b⟩:=Pc (st:=setV 5) (body:=ldI) (λA=>∃c,A=ldF KS _ _ (sI i) _ c) (.v<|.bl false) (inB ts r i) ((ao i).map .int) 0 (ldF KS (O_ ts n) (r.map .int) (sI i) (sV<|O9 ts n<|Pd r i) x5) ⟨_,rfl⟩ (by
  rintro j d _ q ⟨c,rfl⟩;rw[Zf];have C:j<i:=by have:=(Yn.mp q).1;rwa [len]at this
  rw[kG q];obtain⟨u,_,H,E⟩:=Pg B.1 p (show j<n.toNat by omega);have o:=Pi (n:=n) ts ⟨Int.natCast_nonneg i,by omega⟩;have m:=Pj (n:=n) ts (x:=i) ⟨Int.natCast_nonneg j,by omega⟩;have l:=Pj ts (x:=Pd r i) ⟨H,E⟩;have f:=BI (Pm<|aX i j ts)<|Pm<|aX (Pd r i) (Pd r j) ts;refine⟨_,rfl,?_⟩;unfold inB;generalize eqd _ _=w at *;generalize srL _=V1,srL _=V2,O9 ts n _=T1,O9 ts n (Pd r i)=T2,O_ ts n=TB,r.map D.int=R at *;generalize i=ii,j=jj,Pd r j=I at *;have s:setV 5 _ (ldF KS TB R _ _ c)=some (ldF KS TB R (sI ii) (sV T2)<|sI jj):=rfl;constructor
  ·intro g;subst g;exact⟨ldF KS TB R _ _<|sI jj,by simp -implicitDefEqProofs [ldI,ldF,o,m,l,u,f],_,rfl⟩
  ·intro g;subst g;exact⟨ldF KS TB R (sI ii) (sV T2)<|sI jj,by simp -implicitDefEqProofs [ldI,ldF,o,m,l,u,f]⟩)
 rw[len]at a b;simp only[Zf]at a b;constructor
 ·intro h;obtain⟨z,e,c,rfl⟩:=a<|Pp.1.mp h;exact⟨c,e⟩
 ·exact λh=>b<|Pp.2.mp h
theorem Ps{n x}(b:okK n ks)(h:0<=x/\x<n):okW (kAt ks x):=by have e:=b.1;have a:ks[x.toNat]?=some _:=Yg (by omega);unfold kAt;rw[a];exact b.2 _<|YJ a
theorem Pu C ks ts r n(H:1<=n/\n<=7)(j:okK n ks)(p:r.Perm (ao n)):rs C [.v (.lst (ks.map .str)),.v (.lst (O_ ts n)),.v (.lst (r.map .int))]=sV (.bl (Pf ks ts r n)):=by
 have len:((ao n).map D.int).length=n.toNat:=by rw[Yc,aC]
 obtain⟨a,b⟩:=Pc (st:=setV 3) (body:=ldB) (λM=>∃q f c,M=ldF _ _ _ q f c) (.v<|.bl false) (Pe ks ts r) ((ao n).map .int) 0 (ldF (ks.map .str) (O_ ts n) (r.map .int) none none none) ⟨_,_,_,rfl⟩ (by
  rintro i d _ I ⟨q,f,c,rfl⟩;rw[Zf];have J:i<n.toNat:=by have:=(Yn.mp I).1;rwa [len]at this
  rw[kG I];obtain⟨L,_,o,m⟩:=Pg H.1 p J;have E:0<=(i:Int)/\i<n:=⟨Int.natCast_nonneg i,by omega⟩
  have P:=Pk j.1 E;have O:=Pk j.1 ⟨o,m⟩;have A:=Pi ts ⟨o,m⟩;have h:=BI (Po<|Ps j E)<|Po<|Ps j ⟨o,m⟩;obtain⟨u,v⟩:=Pq (KS:=ks.map .str) (ts:=ts) (x5:=c) H p J;have l:cM (af 3) (ldF (ks.map .str) (O_ ts n) (r.map .int) (sI i) (sV<|O9 ts n<|Pd r i) c)=some _:=eI rfl ⟨by omega,by omega⟩;refine⟨ldF _ _ _ (sI i) f c,rfl,?_⟩;have s:∀w,eqd (.str<|kAt ks i) (.str<|kAt ks<|Pd r i)=w->dIf (asB<|d2 neD (d2 ixD (af 0)<|af 3)<|d2 ixD (af 0)<|d2 ixD (af 2)<|af 3) (bC λ_=>some<|.bl false) dNx (ldF (ks.map .str) (O_ ts n) (r.map .int) (sI i) f c)=some (if w=true then .nx (ldF (ks.map .str) (O_ ts n) (r.map .int) (sI i) f c)else .rt (.v<|.bl false)<|ldF (ks.map .str) (O_ ts n) (r.map .int) (sI i) f c):=by intro w g;rw[g]at h;clear u v l A g;generalize kAt ks _=V1,kAt ks _=V2,O_ ts n=TB,r.map D.int=R,ks.map D.str=KS at *;generalize i=Q at *;cases w<;>simp -implicitDefEqProofs [ldF,P,O,L,h]
  have N:ay 4 (d2 ixD (af 1)<|d2 ixD (af 2)<|af 3) (ldF (ks.map .str) (O_ ts n) (r.map .int) (sI i) f c)=some (.nx<|ldF (ks.map .str) (O_ ts n) (r.map .int) (sI i) (sV<|O9 ts n<|Pd r i) c):=by clear u v l h s;generalize O9 ts n _=T2,O_ ts n=TB,r.map D.int=R,ks.map D.str=KS,i=Q at *;simp -implicitDefEqProofs [ldF,L,A]
  unfold Pe ldB;cases g:eqd _ (.str _)with
  |false=>
   have s:=s _ g;rw[Yl<|by decide]at s;exact⟨λz=>absurd (show false=true from z) Yk,λ_=>⟨_,fD s⟩⟩
  |true=>
   have s:=s _ g;rw[Yj rfl]at s;rw[aj s,aj N,Vg];constructor
   ·intro z;obtain⟨y,e⟩:=u z;exact⟨_,cX l e,_,_,_,rfl⟩
   ·intro z;obtain⟨y,e⟩:=v z;exact⟨_,cX l e⟩)
 rw[len]at a b;simp only[Zf]at a b;have B:cM (d1 bF<|am 0) (ldF _ (O_ ts n) (r.map .int) none none none)=some _:=eI (by
  show some (D.int<|((ks.map D.str).length))=_;rw[Yc,j.1]) ⟨by omega,by omega⟩
 unfold rs rn;rw[qS,show aH 6 3 [.v _,.v _,.v _]=ldF _ _ _ none none none from rfl];cases K:Pf ks ts r n with
 |true=>
  obtain⟨z,e,_⟩:=a<|Pp.1.mp K;rw[aj<|cX B e];rfl
 |false=>
  obtain⟨z,e⟩:=b<|Pp.2.mp K;rw[fD<|cX B e];rfl
noncomputable def sw(q:Int×Int):Int×Int:=(q.1,if q.2=1 then 2 else if q.2=2 then 1 else q.2)
section
variable{n:Int}{ks:List Str}{ts:List T4}{C:Addr}
structure Pw (ks:List Str) (ts:List T4) (n:Int) (T:List (List Int)):Prop where
 au:∀g∈T,Au ks ts n g
 mv:∀g∈T,g≠ao n
 lt:(T.length:Int)<n
 a:∀g,Au ks ts n g->Gen n T g
theorem Px(c:1<=n/\n<=7)(j:okK n ks)(i:okS n ts):Pw ks ts n (uG ks ts n).trn:=by obtain⟨_,g,_,_,_,t,a⟩:=(zn ⟨c,j,i.2⟩ 8 [] _ .nil ⟨[],⟨(λ_ h=>nomatch h),List.Pairwise.nil⟩,by simp;omega⟩).1 S0 ⟨rfl,rfl⟩;refine⟨g.au,λh l e=>?_,Kt c.1 t.w,λh A=>a h A nofun⟩;obtain⟨x,f,b⟩:=t.mv h l;rw[e]at b;exact b<|I7 f
def Py(a:1<=n/\n<=7)(b:okK n ks)(c:JOk kvs ts):rb C [.v (.ins C (wFs ks T (.dT kvs)))]=sV (.lst ((uG ks ts n).trn.map dL)):=by
 have h:=Ec a b c λp h=>A8 C ks T kvs ts p n a b.1 h c
 unfold rb q7;rw[mq];generalize cL C=S,D.ins C _=W at *;show bZ (Option.map _<|Option.bind ((S [.v W]).bind dvD) _)=_;rw[h];rfl
end
def Pz{r:List Int}(a:1<=n/\n<=7)(p:r.Perm (ao n)):aU (r.map D.int)=(ao n).map D.int:=by rw[h_ (n:=28) (p.map D.int) ⟨λx h=>by obtain⟨t,_,rfl⟩:=Ym.mp h;rfl,λx h y b=>by obtain⟨t,_,rfl⟩:=Ym.mp h;obtain⟨u,_,rfl⟩:=Ym.mp b;rfl⟩];rcases Jy ⟨a.1,Int.lt_add_one_of_le a.2⟩with rfl|rfl|rfl|rfl|rfl|rfl|rfl<;>rfl
section
variable{n:Int}{ks:List Str}{ts:List T4}{r:List Int}
def PB(l:1<=n)(p:r.Perm (ao n)){i j}(hi:In n i)(h:In n j)(g:okT n t):prs i j (ren r t)=prs (ox r i) (ox r j) t:=by
 obtain⟨c,a,b,b1,_⟩:=g;have e:∀{x i},In n x->In n i->(r.idxOf x=i↔x=ox r i):=λf hi=>sS l p f hi
 unfold prs ren;simp[e ⟨c,a⟩ hi,e ⟨b,b1⟩ h,e ⟨b,b1⟩ hi,e ⟨c,a⟩ h]
theorem PD(a:1<=n)(p:r.Perm (ao n)){i j}(hi:In n i)(b:In n j):∀ts:List T4,(∀t∈ts,okT n t)->aX i j (ts.map (ren r))=aX (ox r i) (ox r j) ts
 |[],_=>rfl
 |t::ts,h=>by
  show prs i j _++aX i j _=prs _ _ t++aX _ _ ts;rw[PB a p hi b<|h t Ye,PD a p hi b ts λu m=>h u<|Yd _ m]
theorem PF(h:1<=n)(g:okK n ks)(c:∀t∈ts,okT n t)(p:r.Perm (ao n)){us:List T4}(u:us.Perm (ts.map lf))(b:∀t∈us,okT n t):Twn n r (r.map (kAt ks)) (us.map (ren r)) ks ts:=by
 refine⟨p,λi a=>?_,λi j a e=>?_⟩
 ·have f:=(aY h p).1;have:i.toNat<r.length:=by omega
  unfold kAt ox;rw[Yo,Yg this];rfl
 ·rw[PD h p a e us b];have:=zO (i:=ox r i) (j:=ox r j) u
  rwa [EN _ _ _ λt m=>(c t m).2.2.2.2.1]at this
theorem PH C(a:1<=n/\n<=7)(f:okK n ks)(c:okS n ts)(p:r.Perm (ao n))J:∃ls us kvs,okK n ls/\okS n us/\Twn n r ls us ks ts/\JOk kvs us/\ls=r.map (kAt ks) /\ 
  x3 C [.v<|.ins C<|wFs ks (.lst<|srt ts) J,.v<|dL r]=oW (.ins C<|wFs ls (.lst<|srt us)<|.dT kvs) none:=by
 obtain⟨us,eu,j⟩:=Et<|ts.map lf;have o:srt ts=us.map dT4:=eu;have h:okS n us:=⟨by rw[j.length_eq,Yc];exact c.1,λt b=>by
  obtain⟨u,h,rfl⟩:=Ym.mp<|j.mem_iff.mp b;exact KN<|c.2 u h⟩
 rw[o];obtain⟨hl,hd,X⟩:=aY a.1 p;have B:vr C [.v<|.ins C<|wFs ks (.lst<|us.map dT4) J,.v<|dL r]=sV (.bl true):=by
  have P:=yC C ks _ J n f.1 [sV<|.ins C<|wFs ks (.lst<|us.map dT4) J,sV<|dL r] rfl;have q:=z7 r (by omega);have A:=BK (ao n)<|ao n;rw[YS rfl]at A;have T:vH (bJ C "size" (c_ C)<|b_ (cD 0) g0) [sV<|.ins C<|wFs ks (.lst<|us.map dT4) J,sV<|dL r]=some ((ao n).map .int):=by
   unfold vH;rw[P];have Y:n<16777216/\-(2^62)<=n:=by omega
   simp only;rw[Yj Y,rG]
  unfold vr vl;generalize (bJ C "size" (c_ C) _)=Q at *;have c:=Pz a p;unfold dL at *;generalize (ao n).map D.int=R,r.map D.int=U at *;simp[kx,q,T,c,A]
 have z:=DH a.1 f p;have w:okS n (us.map<|ren r):=⟨by rw[Yc];exact h.1,λt b=>by obtain⟨u,m,rfl⟩:=Ym.mp b;exact BT a.1 p<|h.2 u m⟩
 obtain⟨kvs,Z,E⟩:=Hh C _ _ n a z w;refine⟨_,_,kvs,z,w,PF a.1 f c.2 p j h.2,Z,rfl,?_⟩;unfold x3 wh;generalize vr C=O at B ⊢;generalize dh C=I at E ⊢;have fk:=lR C ks (.lst<|us.map dT4) J;have ft:=Bt C ks (.lst<|us.map dT4) J;generalize wFs ks _ J=F at *;have K:b7 (setV 0) bi (d2 ixD (d1 (gC C "kinds")<|af 1)<|af 0) [none,sV<|.ins C F] (r.map .int)=some ((r.map<|kAt ks).map .str):=by rw[YI];refine bR D.int _ r λx e=>?_;obtain⟨g,s⟩:=X x e;obtain⟨y,S,ey⟩:=iC (l:=ks) D.str g (by have:=f.1;omega);refine⟨[sI x,sV _],rfl,rfl,?_⟩;simp[fk,ix1,ey,kAt,S]
 have H:b7 (jM [0,1,2,3]) bi (asT<|ag (d2 gZ (am 4)<|am 0)<|ag (d2 gZ (am 4)<|am 1)<|ag (getV 2)<|ag (getV 3) aA) [none,none,none,none,sV<|dL r] (us.map dT4)=some ((us.map<|ren r).map dT4):=by
  rw[YI];refine bR dT4 _ us λt b=>?_;obtain⟨a0,a1,b0,b1,_⟩:=h.2 t b;have e:∀x,0<=x->x<n->gZ (dL r) _=some (.int<|r.idxOf x):=λx g s=>w6<|p.mem_iff.mpr<|az.mpr ⟨g,s⟩
  refine⟨[sI<|t.1,sI _,sI _,sV _,sV<|dL r],rfl,rfl,?_⟩;simp[e t.1 a0 a1,e t.2.1 b0 b1,dT4,ren]
 generalize (d2 ixD _<|af 0)=E1 at K ⊢;generalize (asT _)=E2 at H ⊢;have N:(r.map D.int).length<=16777216:=by rw[Yc];omega
 have M:(us.map dT4).length<=16777216:=by rw[Yc];have:=h.1;omega
 unfold dL at *;generalize r.map D.int=R,us.map dT4=U,(r.map _).map D.str=A1,(us.map _).map dT4=A2 at *;rw[i4];have L:∀G,(ak (dIf (eA<|asB<|al O<|aB 0<|aB 1 nA) kR dNx)<|ak (ay 2<|asO<|asL<|aN 1 [0] (cg 1) (setV 0) bi E1)<|ak (ay 3<|asO<|asL<|aN 4 [1] (dX<|d1 (gC C "ties")<|af 0) (jM [0,1,2,3]) bi E2) G) (aH 4 2 [.v<|.ins C F,.v<|.lst R])=G [sV<|.ins C F,sV<|.lst R,sV<|.lst A1,sV<|.lst A2]:=by intro G;simp[B,bp,N,M,ft,K,H]
 rw[L,fY,E _ _ rfl];rfl
end
section
variable{n:Int}{ks ls:List Str}{ts us:List T4}{r:List Int}
theorem PJ(o:1<=n)(f:∀t∈ts,okT n t)(p:r.Perm (ao n)):Pf ks ts r n=true↔Au ks ts n r:=by
 have m:=λa b=>(cE (.str a) (.str b) rfl).trans ⟨λh=>D.str.inj h,λh=>h ▸ rfl⟩
 unfold Pf;rw[Yi];constructor
 ·intro h;have g:∀i,In n i->kAt ks i=kAt ks (ox r i)/\∀j,In n j->j<i->(aX i j ts).Perm (aX (ox r i) (ox r j) ts):=λi c=>by
   obtain⟨i,rfl⟩:=Xr c.1;have z:=h i<|YU.mpr (by have:=c.2;omega);unfold Pe at z;rw[Yu,Yi]at z;refine⟨(m _ _).mp z.1,λj e l=>?_⟩;obtain⟨j,rfl⟩:=Xr e.1;exact(Pn _ _).mp<|z.2 j<|YU.mpr<|by omega
  refine⟨p,λi c=>(g i c).1,λi j c e=>?_⟩;rcases Int.lt_trichotomy i j with l|l|l
  ·rw[pL f,pL (j:=ox r i) f];exact((g j e).2 i c l).map flp
  ·subst l;rw[k9 f,k9 f]
  ·exact(g i c).2 j e l
 ·intro A i c;have c:In n _:=⟨Int.natCast_nonneg i,by have:=YU.mp c;omega⟩
  unfold Pe;rw[Yu,Yi];exact⟨(m _ _).mpr<|A.k i c,λj e=>(Pn _ _).mpr<|A.t i j c ⟨Int.natCast_nonneg j,by have:=YU.mp e;have:=c.2;omega⟩⟩
def PK{a b}(h:a.Perm b):srL a=srL b:=by unfold srL;rw[h_ (h.map dP)<|Js _]
def cnj(n:Int)(r g:List Int):List Int:=(ao n).map λi=>ix r<|ox g<|ox r i
def PL(f:1<=n)(T:Twn n r ls us ks ts){g}(A:Au ks ts n g):Au ls us n (cnj n r g):=by
 have b:∀i,In n i->In n _:=λi h=>jz f T.p h
 have c:=λi h=>jz f A.p<|b i h
 have d:=λi h=>iN f T.p<|c i h
 have e:=λi h=>ju f T.p<|c i h
 have o:∀i,In n i->ox (cnj n r g) i=ix r _:=λi h=>lN h
 refine⟨tY d λi j h a z=>?_,λi h=>?_,λi j h a=>?_⟩
 ·have z:ox g (ox r i)=ox g (ox r j):=by rw[<-e i h,z,e j a]
  have z:ox r i=ox r j:=by rw[<-l6 f A.p<|b i h,z,l6 f A.p<|b j a]
  rw[<-l6 f T.p h,z,l6 f T.p a]
 ·rw[o i h,T.k i h,T.k _<|d i h,e i h];exact A.k _<|b i h
 ·rw[o i h,o j a];have:=T.t _ _ (d i h)<|d j a;rw[e i h,e j a]at this;exact((T.t i j h a).trans<|A.t _ _ (b i h)<|b j a).trans this.symm
def PM(a:1<=n)(p:r.Perm (ao n)){g h}(f:g.Perm (ao n))(c:h.Perm (ao n))(e:cnj n r g=cnj n r h):g=h:=by refine Iw (aY a f).1 (aY a c).1 λi b=>?_;have:=YR (λl=>ox l<|ix r i) e;have j:=iN a p b;have this:=this;rw[show ox (cnj n r g) _=_ from lN j,show ox (cnj n r h) _=_ from lN j]at this;rw[ju a p b]at this;rw[<-ju a p<|jz a f b,this,ju a p<|jz a c b]
theorem PN{α:Type}[DecidableEq α]:∀{F M:List α},F.Nodup->(∀x∈F,x∈M)->F.length<=M.length
 |[],_,_,_=>YO _
 |x::F,M,h,hs=>by
  have b:=hs x Ye;have c:=YT.mp h;have:=PN c.2 λy a=>(List.mem_erase_of_ne<|show y≠x from λz=>c.1<|z ▸ a).mpr<|hs y<|Yd _ a
  rw[List.length_erase_of_mem b]at this;have:=List.length_pos_of_mem b;rw[Yt];omega
def PP(a:1<=n)(T:Twn n r ls us ks ts){S U:List (List Int)}(c:S.Nodup)(h:∀x∈S,Au ks ts n x)(l:∀x,Au ls us n x->x∈U):S.length<=U.length:=by
 have:=PN (by
  rw[List.Nodup,Xs];exact c.imp_of_mem λj i b e=>b<|PM a T.p (h _ j).p (h _ i).p e) λx g=>by
  obtain⟨y,f,rfl⟩:=Ym.mp g;exact l _<|PL a T<|h y f
 rwa [Yc]at this
def PQ(a:1<=n)(T:Twn n r ls us ks ts):Twn n (inv n r) ks ts ls us:=by
 have o:∀i,In n i->ox _ i=ix r i:=λi h=>tZ h
 refine⟨dM a T.p,λi h=>?_,λi j h b=>?_⟩
 ·rw[o i h,T.k _<|iN a T.p h,ju a T.p h]
 ·have:=T.t _ _ (iN a T.p h)<|iN a T.p b;rw[ju a T.p h,ju a T.p b]at this;rw[o i h,o j b];exact this.symm
end
def PR(n:Int)(row:List Int):List (List Int):=((ao n).filter λp=>!decide (p∈row)).map λp=>row++[p]
def PU(n:Int):Nat->List (List Int)
 |0=>[[]]
 |k+1=>(PU n k).flatMap<|PR n
section
variable{n:Int}
theorem PV:∀{k}{r},r∈PU n k↔r.length=k/\r.Nodup/\∀x∈r,x∈ao n
 |0,r=>by
  show r∈[[]]↔_;rw[YC,Zo];exact⟨λh=>by subst h;exact⟨rfl,.nil,nofun⟩,λh=>h.1⟩
 |k+1,r=>by
  show r∈(PU n k).flatMap (PR n)↔_;rw[XQ];constructor
  ·rintro⟨w,m,h⟩;obtain⟨p,o,rfl⟩:=Ym.mp h;obtain⟨a,b,c⟩:=PV.mp m;have z:=Zx.mp o;have l:p∉w:=by simpa using z.2
   refine⟨by rw[Yp,a];rfl,Xi.mpr ⟨b,by simp,λx f y j e=>l<|by rw[YC]at j;rwa[<-j,<-e]⟩,λx f=>(fS f).elim (c x) λe=>e ▸ z.1⟩
  ·rintro⟨a,b,c⟩;have g:r≠[]:=λz=>by rw[z]at a;cases a
   obtain⟨w,p,rfl⟩:∃w p,r=w++[p]:=⟨r.dropLast,r.getLast g,(List.dropLast_concat_getLast g).symm⟩
   rw[Yp]at a;have i:=Xi.mp b;refine⟨w,PV.mpr ⟨VT a,i.1,λx f=>c x<|YW _ f⟩,Ym.mpr ⟨p,Zx.mpr ⟨c p<|by simp,?_⟩,rfl⟩⟩;simp[Bool.not_eq_true',Xq];exact λz=>i.2.2 p z p (Zg p) rfl
def PY(b:1<=n):r∈PU n n.toNat↔r.Perm (ao n):=by rw[PV];exact⟨λh=>EB h.2.1 h.2.2 h.1,λp=>⟨by rw[p.length_eq,aC],(aY b p).2.1,λx a=>p.mem_iff.mp a⟩⟩
theorem PZ(h:1<=n/\n<=6):(PU n n.toNat).length<=720:=by
 have:∀k:Fin 6,(PU (k.val+1)<|k.val+1).length<=720:=by decide+kernel
 have:=this ⟨(n-1).toNat,by omega⟩
 rwa [show(((n-1).toNat))+1=n by omega,show(n-1).toNat+1=n.toNat by omega]at this
def P0(h:1<=n/\n<=6){S:List (List Int)}(a:S.Nodup)(c:∀x∈S,x.Perm (ao n)):S.length<=720:=
 YD (PN a λx b=>(PY h.1).mpr<|c x b)<|PZ h
def P1 row:(PR n row).length<=n.toNat:=by
 unfold PR;rw[Yc];have:=List.length_filter_le (λp=>!decide (p∈row))<|ao n
 rwa [aC]at this
theorem P2(h:n<=7):∀k:Nat,(PU n k).length<=7^k
 |0=>Yr _
 |k+1=>by
  have ih:=P2 h k;have:∀L:List _,(L.flatMap<|PR n).length<=L.length*7:=λL=>by
   induction L with
   |nil=>exact Yr _
   |cons x L ih=>rw[List.flatMap_cons,Yp,Yt];have:=P1 (n:=n) x;omega
  have:=this<|PU n k;show((PU n k).flatMap<|PR n).length<=7^(k+1);rw[Nat.pow_succ];omega
def P3 p F:dV (.int p) (dL F)=some (.bl (!decide (p∈F))):=by
 have f:(F.map D.int).all (okN 29)=true:=Yi.mpr λd b=>by obtain⟨x,_,rfl⟩:=Ym.mp b;rfl
 have c:((F.map D.int).any λz=>eqd z<|.int p)=decide (p∈F):=by rw[List.any_map,Bool.eq_iff_iff,List.any_eq_true,YG];exact⟨λ⟨x,a,e⟩=>by have e:eqd _ _=true:=e;rw[jh,YG]at e;exact e ▸ a,λh=>⟨p,h,by show eqd _ _=true;rw[jh];exact YS rfl⟩⟩
 show(if(okN 30 _&&(F.map D.int).all _)=true then some (D.bl _)else none)=_;rw[f,c];rfl
noncomputable abbrev P4(n:Int)(R:List D)(x2:Option DV)(a:List D)(x4:Option DV):DF:=[sI n,sV<|.lst R,x2,oW (.lst a) none,x4]
theorem P5(f:1<=n/\n<=7){R}{x2}:∀(a:List (List Int)) c x4,(∀r∈a,r.length<=7)->c.length+a.length*7<=16777216->∃y,
  e_ (setV 4) (zH 3<|aN 1 [4] (cM<|af 0) (setV 0) (asB<|d2 dV (am 0)<|am 1)<|d2 aP (af 1)<|asO<|asL<|ag (getV 0) aA) (a.map dL) (P4 n R x2 c x4)=some (.nx<|P4 n R x2 (c++(a.flatMap<|PR n).map dL) y)
 |[],c,x4,_,_=>⟨x4,by show some _=some _;simp⟩
 |r::a,c,x4,hr,hl=>by
  have rl:=hr r Ye;have o:=P1 (n:=n) r;rw[Yt]at hl;obtain⟨y,e⟩:=P5 f (R:=R) (x2:=x2) a (c++(PR n r).map dL) (sV<|dL r) (λq h=>hr q<|Yd _ h) (by rw[Yp,Yc];omega);refine⟨y,?_⟩;rw[List.flatMap_cons,Za,<-Zi,<-e,YH];refine kN rfl<|GO rfl ?_ (by rw[Yc];omega);rw[bp,eI rfl<|by omega,Ya,Yj<|by rw[Yc,aC];omega];unfold PR;rw[YI];refine lS D.int _ _ (ao n) λp _=>⟨[sI p,sV<|dL r],rfl,?_,λ_=>?_⟩
  ·have:=P3 p r;generalize dL r=Z at *;show(match dV _ Z with|some (.bl b)=>some b|_=>none)=_;rw[this]
  ·show aP (.lst _) (.lst [.int p])=_;rw[vz _ _<|by rw[Yc,YQ];omega];show some _=some (D.lst _);rw[Za];rfl
theorem P6 C(b:1<=n/\n<=7):up C [.v (.int n)]=sV (.lst ((PU n n.toNat).map dL)):=by
 unfold up ul;rw[mq,show aH 5 1 [.v _]=[sI n,none,none,none,none]from rfl,aj (ρ':=[sI n,sV<|.lst<|(PU n 0).map dL,none,none,none]) rfl];obtain⟨_,e,x2,a,x,rfl⟩:=dQ (st:=setV 2) (body:=(ak (bH 3<|asL aA)
 <|ak (dW (cg 1) _ _)
 <|uA 3<|ay 1<|getV 3)) (λj c=>∃x2 a x,c=[sI n,sV<|.lst<|(PU n j).map dL,x2,a,x]) ((ao n).map .int) 0 _ ⟨none,none,none,rfl⟩ (by
  rintro j d _ g ⟨x2,a,x,rfl⟩;rw[Zf];have h:=(Yn.mp g).1;rw[Yc,aC]at h;have b1:=P2 b.2 j;have b2:7^j<=7^7:=Nat.pow_le_pow_right (by decide) (by omega);obtain⟨y,e⟩:=P5 b (R:=(PU n j).map dL) (x2:=sV d) (PU n j) [] x (λr f=>by have:=(PV.mp f).1;omega) (by rw[Ze];omega);refine⟨_,rfl,_,?_,sV d,sV<|.lst<|(PU n<|j+1).map dL,y,rfl⟩;rw[aj (ρ':=P4 n _ (sV d) [] x) rfl,aj<|cX rfl e,Uq];rfl)
 rw[Zf,Yc,aC]at e;rw[aj<|cX (eI rfl<|by omega) e];rfl
end
def P7(t:List Int):List Key:=t.map .inl
def P8(t:List Int):D:=.tup<|t.map .int
def P9{a b}(h:P7 a=P7 b):a=b:=(List.map_inj_right λ_ _ e=>UF e).mp h
def P_ t:j5 (P8 t)=some (P7 t):=by
 show gI _=_;induction t with
 |nil=>rfl
 |cons x t ih=>show(some _).bind _=_;rw[Ya,ih];rfl
def knT(F:List (List Int)):List (List Key×D):=F.map λx=>(P7 x,.bl true)
def Qa F x:(dn (knT F) (P7 x)).isSome=decide (x∈F):=by
 induction F with
 |nil=>rfl
 |cons y F ih=>
  unfold knT at ih ⊢;rw[YH,cw];by_cases h:P7 y=P7 x
  ·rw[Yj h];obtain rfl:=P9 h;simp
  ·rw[Yl h,ih];have:¬x=y:=λz=>h<|by rw[z]
   simp[this]
def Qb{x}(h:x∉F):e7 (knT F) (P7 x) (.bl true)=knT (F++[x]):=by
 unfold e7;rw[Yl,knT,knT,Za]
 ·rfl
 ·intro z;obtain⟨p,b,e⟩:=List.any_eq_true.mp z;obtain⟨y,a,rfl⟩:=Ym.mp b;exact h<|P9 (YN e) ▸ a
def Qc b F x:g6 b (P8 x) (.dT (knT F))=some (.bl (xor b (decide (x∈F)))):=by show((j5<|P8 x).map λk=>D.bl _)=_;rw[P_,Xa,Qa]
section
variable{n:Int}
def Qd(a:List (List Int))(t:List Int):List (List Int):=a.map λr=>t.map<|ox r
noncomputable abbrev wF(n:Int)(RS:D)(S W:List (List Int))(x5 x6 x:Option DV):DF:=[sI n,sV RS,sV<|P8<|ao n,oW (.dT<|knT S) none,oW (.lst<|W.map P8) none,x5,x6,x]
theorem Qe(g:1<=n/\n<=7){RS}{t}(f:t.Perm (ao n)):∀b S W x6 x,(∀r∈b,r.Perm (ao n))->S.length+b.length<=1000->W.length+b.length<=1000->∃s c y,lw S (Qd b t)=S++s /\
  e_ (setV 6) (ak (ay 7<|d1 jO<|asO<|asL<|aN 1 [6] (e5<|getV 5) (setV 0) bi<|d2 ixD (af 1)<|af 0)
 <|dIf (asB<|d2 (g6 true) (getV 7)<|af 3) (ak (rP 3 (getV 7) λ_=>some<|.bl true)
 <|cV 4<|getV 7) dNx) (b.map dL) (wF n RS S W (sV<|P8 t) x6 x)=some (.nx<|wF n RS (S++s) (W++s) (sV<|P8 t) c y)
 |[],S,W,x6,x,_,_,_=>⟨[],x6,x,by simp[Qd,lw],by rw[YZ,YZ];rfl⟩
 |r::b,S,W,x6,x,hr,hl,hw=>by
  rw[Yt]at hl hw;have p:=hr r Ye;rw[show Qd (r::b) t=t.map (ox r)::Qd b t from rfl,ji,YH];generalize A:t.map (ox r)=u;have J:=(aY g.1 f).1;have H:(aN 1 [6] (e5<|getV 5) (setV 0) bi<|d2 ixD (af 1)<|af 0) (wF n RS S W (sV<|P8 t) (sV<|dL r) x)=some (u.map .int):=by
   rw[bp,show e5 _ _=some (t.map .int)from rfl,Ya,Yj<|by rw[Yc];omega,bR D.int λa=>.int _,<-A,YI]
   ·rfl
   ·exact λa j=>⟨_,rfl,rfl,wM g.1 p<|az.mp<|f.mem_iff.mp j⟩
  have o:(ay 7<|d1 jO<|asO<|asL<|aN 1 [6] (e5<|getV 5) (setV 0) bi<|d2 ixD (af 1)<|af 0) (wF n RS S W (sV<|P8 t) (sV<|dL r) x)=some (.nx<|wF n RS S W (sV<|P8 t) (sV<|dL r)<|sV<|P8 u):=by
   have:(asO<|asL<|aN 1 [6] (e5<|getV 5) (setV 0) bi<|d2 ixD (af 1)<|af 0) (wF n RS S W (sV<|P8 t) (sV<|dL r) x)=some (.lst<|u.map .int):=by rw[fQ,cW,H];rfl
   generalize (asO _)=I at *;show((d1 jO I) _).map _=_;unfold d1;rw[this];rfl
  have i:=Qc true S u;have E:=P_ u;have e:=λq B=>hr q<|Yd _ B
  by_cases h:u∈S
  ·obtain⟨s,c,y,m,l⟩:=Qe g (RS:=RS) f b S W (sV<|dL r) (sV<|P8 u) e (by omega) (by omega);rw[Yj h];refine⟨s,c,y,m,?_⟩;rw[<-l];refine kN (ρ1:=wF n RS S W _ _ x) rfl ?_;rw[aj o];rw[YS h]at i;unfold wF;generalize knT S=K,P8 u=v at *;simp[i]
  ·obtain⟨s,c,y,m,l⟩:=Qe g (RS:=RS) f b (S++[u]) (W++[u]) (sV<|dL r) (sV<|P8 u) e (by rw[Yp,YQ];omega) (by rw[Yp,YQ];omega);rw[Yl h];refine⟨u::s,c,y,by rw[m,Zi];rfl,?_⟩;rw[show S++u::s=S++[u]++s by simp,show W++u::s=W++[u]++s by simp,<-l];refine kN (ρ1:=wF n RS S W _ _ x) rfl ?_;rw[aj o];rw[YB h]at i;have C:=Qb h;have j:(W++[u]).map P8=W.map P8++[P8 u]:=by simp
   have z:(knT S).length<16777216:=by unfold knT;rw[Yc];omega
   have w:(W.map P8).length<16777216:=by rw[Yc];omega
   unfold wF;rw[j,<-C];generalize knT S=K,W.map P8=U,P8 u=v at *;simp[i,rP,E,z,w]
theorem Qf(i:1<=n/\n<=6){f}(R:f.length<=7)(p:∀r∈f,r.Perm (ao n)):∀k S W x5 x6 m e,S.Nodup->ao n∈S->(∀x∈S,Gen n f x)->(∀x∈W,x∈S)->(∀a∈S,a∉W->∀b∈Qd f a,b∈S)->S.length=W.length+e->720<k+e->∃S' H P B A,
  dB (asB<|d2 gtI (d1 bF<|am 4)<|cI 0) (ak (li 5 4)
 <|dW (cg 1) (setV 6)<|ak (ay 7<|d1 jO<|asO<|asL<|aN 1 [6] (e5<|getV 5) (setV 0) bi<|d2 ixD (af 1)<|af 0)
 <|dIf (asB<|d2 (g6 true) (getV 7)<|af 3) (ak (rP 3 (getV 7) λ_=>some<|.bl true)
 <|cV 4<|getV 7) dNx) k (wF n (.lst<|f.map dL) S W x5 x6 m)=some (.nx<|wF n (.lst<|f.map dL) S' H P B A)/\S'.Nodup/\∀x,x∈S'↔Gen n f x
 |0,S,W,x5,x6,m,e,nd,hp,hS,hW,hc,he,hk=>by have:=P0 i nd λx o=>(hS x o).perm i.1 p;omega
 |k+1,S,W,x5,x6,m,e,nd,hp,hS,hW,hc,he,hk=>by
  have hl:=P0 i nd λx o=>(hS x o).perm i.1 p
  have I:(asB<|d2 gtI (d1 bF<|am 4)<|cI 0) (wF n (.lst<|f.map dL) S W x5 x6 m)=some (decide<|0<W.length):=by
   have l:(W.map P8).length=W.length:=Yc ..;show(match gtI (.int _) (.int 0)with|some (D.bl b)=>some b|_=>none)=_;rw[l];show some _=_
   congr 1
   exact VY.mpr<|by omega
  by_cases w:0<W.length
  ·have q:W≠[]:=λz=>by rw[z]at w;cases w
   obtain⟨j,a,rfl⟩:∃j a,W=j++[a]:=⟨W.dropLast,W.getLast q,(List.dropLast_concat_getLast q).symm⟩
   rw[Yp,YQ]at he;have K:=hS a<|hW a (by simp);obtain⟨s,B,A,L,Y⟩:=Qe ⟨i.1,Int.le_trans i.2<|by decide⟩ (RS:=.lst<|f.map dL) (K.perm i.1 p) f S j x6 m p (by omega) (by omega);have mem:∀x,x∈S++s↔x∈S\/x∈Qd f a:=λx=>by rw[<-L];exact oX
   obtain⟨S',H,O,N,M,X,g⟩:=Qf i R p k (S++s) (j++s) (sV<|P8 a) B A (e+1) (by rw[<-L];exact sK nd) (YW _ hp) (λx o=>by
    rcases(mem x).mp o with h|h
    ·exact hS x h
    ·obtain⟨r,C,rfl⟩:=Ym.mp h;exact K.on C) (λx o=>by
    rcases Zm.mp o with h|h
    ·exact YW _<|hW x<|by simp[h]
    ·exact YK _ h) (λc E u b J=>by
    refine(mem b).mpr ?_;have Z:=(Zm.mp E).resolve_right λh=>u<|YK _ h
    by_cases z:c=a
    ·subst z;exact .inr J
    ·exact .inl<|hc c Z (λy=>(Zm.mp y).elim (λh=>u<|YW _ h) λh=>z<|YC.mp h) b J) (by rw[Yp,Yp];omega)<|by omega
   refine⟨S',H,O,N,M,?_,g⟩;rw[<-X];refine Ag (I.trans<|YR some<|YS w) ?_;rw[aj (ρ':=wF n _ S j _ x6 m) (by
    have T:(j++[a]).map P8=j.map P8++[P8 a]:=by simp
    unfold wF;rw[T];generalize j.map P8=U;show(((U++[P8 a])[(U++[P8 a]).length-1]?).bind λd=>if 5=4 then none else some _)=_;have:(U++[P8 a])[(U++[P8 a]).length-1]?=some (P8 a):=by simp
    rw[this,Ya,Yl<|by decide,List.dropLast_concat];rfl)]
   exact Y
  ·have Q:W=[]:=List.eq_nil_of_length_eq_zero (by omega);refine⟨S,W,x5,x6,m,AT<|I.trans<|YR some<|YB w,nd,λx=>⟨hS x,λg=>?_⟩⟩;induction g with
   |one=>exact hp
   |on _ h ih=>exact hc _ ih (by rw[Q];nofun) _<|Ym.mpr ⟨_,h,rfl⟩
theorem Qg C(i:1<=n/\n<=6){b}(m:b.length<=7)(f:∀r∈b,r.Perm (ao n)):∃S,tj C [.v (.int n),.v (.lst (b.map dL))]=oW (.dT (knT S)) none/\S.Nodup/\∀x,x∈S↔Gen n b x:=by
 obtain⟨S,W,q,p,o,e,g⟩:=Qf i m f 1000 [ao n] [ao n] none none none 0 (by simp) (by simp) (λx h=>by rw[YC]at h;subst h;exact .one) (λx h=>h) (λa l c=>absurd l c) rfl (by omega);refine⟨S,?_,g⟩;unfold tj ti;rw[i4,show aH 8 2 [.v _,.v _]=[sI n,sV _,none,none,none,none,none,none]from rfl];rw[aj (by
  have c:n<16777216/\-(2^62)<=n:=by omega
  have:vH (getV 0) [sI n,sV<|.lst<|b.map dL,none,none,none,none,none,none]=some ((ao n).map .int):=by unfold vH;rw[show getV 0 [sI n,sV _,none,none,none,none,none,none]=some (.int n)from rfl];simp only;rw[Yj c,rG]
  show((vH _ _).map _).map _=_;rw[this];rfl)]
 rw[aj (by
  have j:=P_<|ao n;show(Option.bind (some<|P8<|ao n) λy=>(j5 y).bind λk=>_).map _=_;rw[Ya,j];rfl)]
 rw[aj (ρ':=wF n _ [ao n] [ao n] none none none) rfl];rw[aj e];rfl
end
section
variable{n:Int}{ks:List Str}{ts:List T4}{T:List (List Int)}
noncomputable abbrev gdF(T KS TB:List D)(n:Int)(x4:Option DV):DF:=[sV<|.lst T,sV<|.lst KS,sV<|.lst TB,sI n,x4]
def Qh{TT}{x4:Option DV}(c:vH (getV 3) (gdF TT KS TB n (sV (.lst R)))=some R')(h:bV R=true)(b:aU R=R')(h1:neD (.lst R') (.lst R')=some (.bl false))(h2:eqD (.lst R) (.lst R')=some (.bl false))(e:L [.v (.lst KS),.v (.lst TB),.v (.lst R)]=sV (.bl true)) :
  (ak (dIf (orT (eA<|asB<|d1 (h7 "list")<|am 4)<|orT (asB<|d2 neD (asO<|asL<|nG<|af 4)<|asO<|asL<|vH<|getV 3)<|asB<|d2 eqD (am 4)<|asO<|asL<|vH<|getV 3) (bC λ_=>some<|.bl false) dNx)
 <|dIf (eA<|asB<|al L<|aB 1<|aB 2<|aB 4 nA) (bC λ_=>some<|.bl false) dNx) (gdF TT KS TB n<|sV<|.lst R)=some (.nx<|gdF TT KS TB n<|sV<|.lst R):=by
 have a:h7 "list" (.lst R)=some _:=rfl;simp[a,kx,h,b,c,h1,h2,e]
theorem Qi C(b:1<=n/\n<=7)(f:okK n ks)(j:okS n ts)(F:Pw ks ts n T):sy C [.v (.lst (T.map dL)),.v (.lst (ks.map .str)),.v (.lst (O_ ts n))]=sV (.bl true):=by
 have o:∀r∈T,rs C [.v _,.v _,.v _]=sV _:=λr h=>by
  have A:=F.au r h;rw[Pu C ks ts r n b f A.p,(PJ b.1 j.2 A.p).mpr A]
 unfold sy ss;generalize rs C=L at *;have c:((ks.map D.str).length)=n:=by rw[Yc];exact f.1
 generalize ks.map D.str=KS,O_ ts n=a at *;rw[qS,show aH 5 3 [.v _,.v _,.v _]=[sV _,sV _,sV _,none,none]from rfl,
  aj<|by show some _=_;rw[c],aj (ρ':=gdF (T.map dL) KS a n none) (by
   have e:((T.map dL).length)<n:=by rw[Yc];exact F.lt
   have i:h7 "list" (.lst<|T.map dL)=some _:=rfl;generalize T.map dL=TT at *;have:geI (.int TT.length) (.int n)=some (.bl false):=by show some (D.bl _)=_;rw[YB<|by omega]
   simp[i,this])]
 obtain⟨_,e,x4,rfl⟩:=nU (st:=setV 4) (λg=>∃x4,g=gdF (T.map dL) KS a n x4) ⟨none,rfl⟩ (by
  rintro d l _ ⟨x4,rfl⟩;obtain⟨r,h,rfl⟩:=Ym.mp l;have p:=(F.au r h).p;refine⟨_,rfl,_,Qh (x4:=x4) ?_ (z7 r (by have:=(aY b.1 p).1;omega)) (Pz b p) ?_ ?_<|o r h,_,rfl⟩
  ·unfold vH;rw[show getV 3 _=some (.int n)from rfl];have m:n<16777216/\-(2^62)<=n:=by omega
   simp only;rw[Yj m,rG]
  ·exact(Lq (ao n)<|ao n).trans<|by rw[YS rfl];rfl
  ·exact(BK r<|ao n).trans<|by rw[YB<|F.mv r h])
 rw[aj<|cX rfl e];rfl
end
def N7:qh (.int 10) (.int 40)=some (.int 10000000000000000000000000000000000000000):=rfl
def odl q:OD.d (.lst q)=.lst q:=rfl
noncomputable abbrev Qj(N CS' KS TS TB:List D)(n:Int)(W f:D)(S:List (List Int))(x9 b a x:Option DV):DF:=[sV<|.lst N,sV<|.lst CS',sI n,sV<|.lst KS,sV<|.lst TS,sV<|.lst TB,sV W,sV f,oW (.dT<|knT S) none,x9,b,a,x]
theorem Qk(ns:List Int)(h:ns.length<=63):(ay 1 (asO (asL (aN 1 [] (cg 0) (setV 0) bi (d2 a8 (af 0) (d2 qh (cI 10) (cI 40))))))) [sV (.lst (ns.map .int)),none,none,none,none,none,none,none,none,none,none,none,none]=some (.nx [sV (.lst (ns.map .int)),sV (.lst ((ns.map (· % 10000000000000000000000000000000000000000)).map .int)),none,none,none,none,none,none,none,none,none,none,none]):=by
 have c:b7 (setV 0) bi (d2 a8 (af 0)<|d2 qh (cI 10)<|cI 40) [none] (ns.map .int)=some ((ns.map (· % 10000000000000000000000000000000000000000)).map .int):=by
  rw[YI];refine bR D.int _ ns λx _=>⟨[sI x],rfl,rfl,?_⟩
  have:=bg x 10000000000000000000000000000000000000000 (by decide);simp -implicitDefEqProofs [N7,this]
 have l:(ns.map D.int).length<=16777216:=by rw[Yc];omega
 generalize (ns.map _).map D.int=CS',(d2 a8 (af 0) _)=E,ns.map D.int=N at *;simp -implicitDefEqProofs [bp,l,c,odl]
def Ql{N CS' KS TS TB}{W f}{S}{c a x}(h:Ld' [.v (.lst KS),.v (.lst TB),.v (dL r)]=sV (.bl (decide (r∈S)))) :
  (dIf (asB<|d2 neD (al Ld'<|aB 3<|aB 5<|aB 9 nA)<|d2 (g6 false) (d1 jO<|af 9)<|af 8) (bC λ_=>some<|.bl false) dNx) (Qj N CS' KS TS TB n W f S (sV<|dL r) c a x)=some (.nx<|Qj N CS' KS TS TB n W f S (sV<|dL r) c a x):=by
 have e:=Qc false S r;have l:∀b,neD (.bl b) (.bl b)=some (.bl false):=λb=>by cases b<;>rfl
 have j:jO (dL r)=some (P8 r):=rfl;rw[Bool.false_xor]at e;generalize decide (r∈S)=b,dL r=R,P8 r=U at *;unfold Qj;have i:(OD.dT<|knT S).flat=true:=rfl;have g:(OD.dT _).d=.dT (knT S):=rfl;generalize knT S=K at *;simp -implicitDefEqProofs [h,e,l,j,i,g]
theorem Qm{ts us}(b:1<=n/\n<=7)(T:Twn n r ls us ks ts)(q:ρ[5]?=some (sV (.lst (O_ ts n))))(c:ρ[10]?=some (sV (dL r)))(h2:ρ[2]?=some (sI n)):(asO (asL (aN 1 [5,10,2] (cM (af 2)) (setV 0) bi (asO (asL (aN 1 [1,2,0] (cM (af 3)) (setV 0) bi (d2 ixD (d2 ixD (af 1) (d2 ixD (af 2) (af 3))) (d2 ixD (af 2) (af 0))))))))) ρ=some (.lst (O_ us n)):=by
 have m:af 2 ρ=some (.int n):=by unfold af;rw[h2]
 have o:jt 1 [5,10,2] ρ=[none,sV<|.lst<|O_ ts n,sV<|dL r,sI n]:=by show[none]++_=_;simp[q,c,h2]
 rw[fQ,cW,bp,eI m<|by omega,Ya,Yj<|by rw[Yc,aC];omega,o];unfold O_;rw[bR]
 ·rfl
 ·intro i a;have a:=az.mp a;refine⟨_,rfl,rfl,?_⟩;have g:=wM b.1 T.p a;have l:=Pi ts<|jz b.1 T.p a;rw[fQ,cW,bp,eI rfl<|by omega,Ya,Yj<|by rw[Yc,aC];omega];unfold O9;rw[bR]
  ·rfl
  ·intro j h;have h:=az.mp h;refine⟨_,rfl,rfl,?_⟩;have f:=wM b.1 T.p h;have e:=Pj (x:=ox r i) ts<|jz b.1 T.p h;rw[PK<|T.t i j a h];show Option.bind (Option.bind (ixD (dL r)<|.int i) λz=>ixD _ z) (λz=>(ixD (dL r)<|.int j).bind λy=>ixD z y)=_;rw[g,f];show Option.bind (ixD (.lst<|O_ ts n)<|.int _) _=_;rwa[l]
section
variable{C:Addr}{Kd Ti Tb Pw Gd' Wk Os Ld' Or Tu So Ce':Dm}{mk:Dz}{ns:List Int}{n x m:Int}{N CS' KS TS TB fs:List D}{Fi:List (Str×D)}{G:Dw}{S:List (List Int)}
def Qn(o:Ce' [.v (.lst CS'),.v (.int 0)]=sI x)(c:So [.v (.int x),.v (.int 10061),.v (.int 6)]=sI m)(q:1+m=n)(e:Kd [.v (.lst CS'),.v (.int n)]=oW (.lst KS) none)(b:Ti [.v (.lst CS'),.v (.int n)]=oW (.lst TS) none)(p:Tb [.v (.lst TS),.v (.int n)]=oW (.lst TB) none)
  (h:∀g ρ,g ρ=some [.v<|.lst KS,.v<|.lst TS]->lY C mk g ρ=some (.ins C Fi)) (l:Pw [.v<|.ins C Fi]=sV (.lst fs)) (f:Gd' [.v<|.lst fs,.v<|.lst KS,.v<|.lst TB]=sV (.bl true)) (a:Wk [.v<|.int n,.v<|.lst fs]=oW (.dT<|knT S) none) :
  (ak (ay 2<|d2 aP (cI 1)<|al So<|aV (al Ce'<|aB 1<|aV (cI 0) nA)<|aV (cI 10061)<|aV (cI 6) nA)
 <|ak (ay 3<|al Kd<|aB 1<|aB 2 nA)
 <|ak (ay 4<|al Ti<|aB 1<|aB 2 nA)
 <|ak (ay 5<|al Tb<|aB 4<|aB 2 nA)
 <|ak (ay 6<|asO<|lY C mk<|aB 3<|aB 4 nA)
 <|ak (ay 7<|al Pw<|aV (getV 6) nA)
 <|ak (dIf (eA<|asB<|al Gd'<|aB 7<|aB 3<|aB 5 nA) (bC λ_=>some<|.bl false) dNx)
 <|ak (bH 8<|l8 Wk<|aV (getV 2)<|aB 7 nA)
  G) [sV<|.lst N,sV<|.lst CS',none,none,none,none,none,none,none,none,none,none,none]=G (Qj N CS' KS TS TB n (.ins C Fi) (.lst fs) S none none none none):=by
 have s:∀i j:Int,aP (.int i) (.int j)=some _:=λ_ _=>rfl
 rw[aj (ρ':=[sV<|.lst N,sV<|.lst CS',sI n,none,none,none,none,none,none,none,none,none,none])<|by simp -implicitDefEqProofs [o,c,s,q],
  aj (ρ':=[sV<|.lst N,sV<|.lst CS',sI n,sV<|.lst KS,none,none,none,none,none,none,none,none,none])<|by simp -implicitDefEqProofs [e,odl],
  aj (ρ':=[sV<|.lst N,sV<|.lst CS',sI n,sV<|.lst KS,sV<|.lst TS,none,none,none,none,none,none,none,none])<|by simp -implicitDefEqProofs [b,odl],
  aj (ρ':=[sV<|.lst N,sV<|.lst CS',sI n,sV<|.lst KS,sV<|.lst TS,sV<|.lst TB,none,none,none,none,none,none,none])<|by simp -implicitDefEqProofs [p,odl],
  aj<|by rw[gn,fQ,h _ _ rfl];rfl,
  aj (ρ':=[sV<|.lst N,sV<|.lst CS',sI n,sV<|.lst KS,sV<|.lst TS,sV<|.lst TB,sV<|.ins C Fi,sV<|.lst fs,none,none,none,none,none])<|by simp -implicitDefEqProofs [l],
  aj (ρ':=[sV<|.lst N,sV<|.lst CS',sI n,sV<|.lst KS,sV<|.lst TS,sV<|.lst TB,sV<|.ins C Fi,sV<|.lst fs,none,none,none,none,none])<|by simp -implicitDefEqProofs [f]]
 rw[aj (ρ':=Qj N CS' KS TS TB n _ _ S none none none none)<|by
  show(Option.bind (Wk [.v _,.v _]) _).map _=_;rw[a];rfl]
def Qo{O f c T}{W a}{e}{b}(y:Or [.v (.lst CS'),.v (.int n),.v (.int 10139)]=oW (.lst O) none)(o:O.length<=16777216)(i:Tu [.v W,.v (.lst O)]=oW (.ins C e) none)(l:Pw [.v (.ins C e)]=sV (.lst f))
  (q:∀x9 g x,(asO<|asL<|aN 1 [5,10,2] (cM<|af 2) (setV 0) bi<|asO<|asL<|aN 1 [1,2,0] (cM<|af 3) (setV 0) bi<|d2 ixD (d2 ixD (af 1)<|d2 ixD (af 2)<|af 3)<|d2 ixD (af 2)<|af 0) (Qj N CS' KS TS TB n W a S x9 (sV<|.lst O) g x)=some (.lst T)) (u:b7 (setV 0) bi (d2 ixD (af 1)<|af 0) [none,sV<|.lst KS] O=some c) (j:Gd' [.v<|.lst f,.v<|.lst c,.v<|.lst T]=sV (.bl true)) (h:Wk [.v<|.int n,.v<|.lst f]=oW (.dT<|knT b) none) (len:b.length=S.length) :
  bZ ((ak (ay 10<|al Or<|aB 1<|aV (getV 2)<|aV (cI 10139) nA)
 <|ak (ay 11<|al Pw<|aV (al Tu<|aB 6<|aV (asO<|asL<|iD<|af 10) nA) nA)
 <|ak (ay 12<|asO<|asL<|aN 1 [5,10,2] (cM<|af 2) (setV 0) bi<|asO<|asL<|aN 1 [1,2,0] (cM<|af 3) (setV 0) bi<|d2 ixD (d2 ixD (af 1)<|d2 ixD (af 2)<|af 3)<|d2 ixD (af 2)<|af 0)
 <|ak (dIf (eA<|asB<|al Gd'<|aB 11<|aV (asO<|asL<|aN 1 [3] (cg 10) (setV 0) bi<|d2 ixD (af 1)<|af 0)<|aB 12 nA) (bC λ_=>some<|.bl false) dNx)
 <|bC<|d2 eqD (d1 kr<|al Wk<|aV (getV 2)<|aB 11 nA)<|d1 kr<|af 8)<|Qj N CS' KS TS TB n W a S x9 none none none)=sV (.bl true):=by
 generalize (asO _)=E at *;rw[aj<|by
   show((Or [.v _,.v _,.v _]).bind dvD).map _=_;rw[y];rfl,
  aj (ρ':=Qj N CS' KS TS TB n W a S x9 (sV<|.lst O) (sV<|.lst f) none) (by
   have w:e9 (.lst O)=some O:=rfl;have p:OD.d (.ins C e)=.ins C e:=rfl;simp -implicitDefEqProofs [i,l,w,p,odl]),
  aj<|by rw[gn,q];rfl,
  aj (ρ':=Qj N CS' KS TS TB n W a S x9 (sV<|.lst O) (sV<|.lst f)<|sV<|.lst T)<|by
   generalize _=H at *;simp -implicitDefEqProofs [bp,o,u,j,odl]]
 have m:kr (.dT<|knT b)=some (.int b.length):=by show some _=_;unfold knT;rw[Yc]
 have s:kr (.dT<|knT S)=some (.int S.length):=by show some _=_;unfold knT;rw[Yc]
 have B:∀K,(OD.dT K).flat=true:=λ_=>rfl
 have A:∀K,(OD.dT K).d=.dT K:=λ_=>rfl
 have z:eqD (.int S.length) (.int S.length)=some (.bl true):=by rw[tq rfl rfl,jh,YS rfl]
 unfold Qj;rw[len]at m;generalize knT S=K at *;generalize knT b=K2 at *;simp -implicitDefEqProofs [h,m,s,B,A,z]
end
theorem law_true C(ns:List Int)(hl:ns.length<=63):yT C [.v (.lst (ns.map L2.D.int))]=sV (.bl true):=by
 have hc:=Qk ns hl;have ol:(ns.map (· % 10000000000000000000000000000000000000000)).length<=63:=by rwa[Yc]
 generalize ns.map (· % 10000000000000000000000000000000000000000)=w at hc ol;obtain⟨x,H⟩:=OS C w 0 (by decide);obtain⟨m,hm,m0,m1⟩:=OR C x 10061 6 (by decide) (by decide);obtain⟨n,en⟩:∃n,1+m=n:=⟨_,rfl⟩
 have h6:1<=n/\n<=6:=by omega
 have b:1<=n/\n<=7:=by omega
 obtain⟨f,hK,q⟩:=vA C w n b;obtain⟨c,hT,y⟩:=O6 C w n b ol;have hB:=Pa C c n b y.1;obtain⟨j,hJ,O⟩:=Hh C f c n b q y;have hF:=Py (C:=C) (T:=.lst<|srt c) b q hJ;have F:=Px b q y;generalize (uG f c n).trn=T at hF F;have hG:=Qi C b q y F;obtain⟨S,hW,nd,hS⟩:=Qg C h6 (by have:=F.lt;omega) λr l=>(F.au r l).p
 have u:=λr=>(hS r).trans ⟨λg=>g.au b.1 F.au,F.a r⟩
 obtain⟨o,hO,p⟩:=lP C w n 10139 b (by decide);obtain⟨ls,J,kvs2,Z,hU',M,hJ2,el,Q⟩:=PH C b q y p<|.dT j;have I:=Py (C:=C) (T:=.lst<|srt J) b Z hJ2;have z:=Px b Z hU';generalize (uG ls J n).trn=T2 at I z;have hG2:=Qi C b Z hU' z;obtain⟨S2,P,N,U⟩:=Qg C h6 (by have:=z.lt;omega) λr l=>(z.au r l).p
 have i:=λr=>(U r).trans ⟨λg=>g.au b.1 z.au,z.a r⟩
 have len:=ZB (PP b.1 (PQ b.1 M) N (λx H=>(i x).mp H) λx A=>(u x).mpr A)<|PP b.1 M nd (λx H=>(u x).mp H) λx A=>(i x).mpr A;have Y:∀r∈PU n n.toNat,rs C [.v _,.v _,.v<|dL r]=sV (.bl<|decide<|r∈S):=λr l=>by
  have pr:=(PY b.1).mp l;rw[show rs C [.v _,.v _,.v<|dL r]=_ from Pu C f c r n b q pr]
  congr 3
  rw[Bool.eq_iff_iff,PJ b.1 y.2 pr,YG,u]
 have X:=P6 C b;unfold yT G1;rw[mq,show aH 13 1 [.v _]=[sV _,none,none,none,none,none,none,none,none,none,none,none,none]from rfl,aj hc,Qn H hm en hK hT hB O hF hG hW];have kc:=nW b.1 q.1 p (E:=d2 ixD (af 1)<|af 0) (F:=sV<|.lst _) λx s h=>h
 rw[<-el]at kc;have mv:∀B L K,(asO _) (Qj (ns.map .int) (w.map .int) (f.map .str) (c.map dT4) _ n (.ins C<|wFs f (.lst<|srt c)<|.dT j) (.lst<|T.map dL) S B _ L K)=some _:=λ_ _ _=>Qm b M rfl rfl rfl
 obtain⟨_,e,B,rfl⟩:=nU (st:=setV 9) (λρ=>∃B,ρ=Qj (ns.map .int) (w.map .int) (f.map .str) (c.map dT4) (O_ c n) n (.ins C<|wFs f (.lst<|srt c)<|.dT j) (.lst<|T.map dL) S B none none none) ⟨none,rfl⟩ (by
  rintro d hd _ ⟨B,rfl⟩;obtain⟨r,l,rfl⟩:=Ym.mp hd;exact⟨_,rfl,_,Ql<|Y r l,_,rfl⟩)
 rw[aj<|cX (by
  generalize up C=Os,(PU n n.toNat).map dL=R at *;simp -implicitDefEqProofs [X,dX]) e]
 exact Qo hO (by have:=(aY b.1 p).1;rw[Yc];omega) Q I mv kc hG2 P len
end
section
variable{n:Int}   
section
variable  {R:MW}{q:D}  {a:Option Addr}  {p:Int}
end
end
section
variable{n:Int}   
end
def spLaw(K:Kq):Sp:=λc H Q _=>∃(a:Addr) (b:List Int),c=[.ref a]/\SqL K H a (b.map V.int)/\b.length<=63/\∀e,Q (.bl true) e
theorem lL:∀ns:List Int,Reps K H (ns.map V.int) (ns.map D.int)
 |[]=>.nil
 |_::ns=>.cons .int<|lL ns
def AO{m}(h:∀ns:List Int,ns.length<=63->m [.v (.lst (ns.map D.int))]=some (.v (.bl true))):∀vs H Q E,spLaw K vs H Q E->spD K m vs H Q E:=by rintro vs H Q E ⟨a,ns,rfl,c,b,f⟩;refine⟨λ_=>none,H,_,_,h ns b,⟨λ_ _ e=>e,λ_ _ e=>(by cases e),λ_ _ e=>(by cases e)⟩,.cons rfl (show Rep K H _ _ from .lst c<|lL ns) .nil,λv i g _ _ r=>?_⟩;cases r;exact f g
def gS(P:Params)(a n:Nat):List DictEntry:=(((rT.filter (·.i<1000)).drop a).take n).map λr=>kE P (fi<|top r.i) (r.h+2)<|.ref<|r.a+1
def kz:Str := "__doc__"
noncomputable def KK:Params->PySem.W.Frag:=λP=>(λ(_:kz = "__doc__")=>[(nat_lit 3,{cls:=.type "dict",data:=.dict ([kE P "__name__" 165 (.str "law_tieword_k20_whole_few_make_all" 620),kE P "__doc__" 166 (.none),kE P "__package__" 167 (.none),kE P "__loader__" 168 (.builtin "__main__.__loader__#opaque"),kE P "__spec__" 169 (.none),kE P "__annotations__" 170 (.ref 6),kE P "__builtins__" 171 (.ref 4),kE P "__file__" 173 (.str "/claim/cut.py" 172),kE P "__cached__" 174 (.none),kE P "_wall" 193 (.ref 21)]++gS P 0 10++[kE P "reached" 275 (.ref 87)]++gS P 10 4++[kE P "Search" 383 (.ref 157)]++gS P 14 1++[kE P "WebError" 411 (.ref 178),kE P "TooGreat" 427 (.ref 191),kE P "BadPlace" 443 (.ref 203),kE P "BadTie" 459 (.ref 215),kE P "BadOrder" 475 (.ref 227),kE P "MOST_PLACES" 479 (.int 7 478),kE P "MOST_TIES" 481 (.int 12 480),kE P "MOST_LETTERS" 483 (.int 3 482)]++gS P 15 7++[kE P "Web" 596 (.ref 312)]++gS P 22 17).toArray 60}),
(nat_lit 82,{cls:=.type "tuple",data:=.seq #[.none]}),
(nat_lit 86,{cls:=.type "code",data:=.fields #[.str "reached" 270,.str "reached" 271,.str "/claim/cut.py" 272,.int 41 0,.int 3 0,.int 0 0,.int 0 0,.int 3 0,.ref 83,.bool true,.int 181 0,.ref 84,.none,.none,.none,.ref 85,.int 273 0,.int 41 0,.str "/claim/cut.py" 274]}),
(nat_lit 87,⟨.type "function",none,.func dR,#[]⟩),
(nat_lit 156,{cls:=.type "dict",data:=.dict #[kE P "__module__" 309 (.str "tieword.search" 276),kE P "__firstlineno__" 313 (.int 65 312),kE P "__init__" 321 (.ref 121),kE P "begin" 331 (.ref 128),kE P "arrive" 341 (.ref 135),kE P "left_out" 347 (.ref 140),kE P "on_first" 355 (.ref 147),kE P "go" 368 (.ref 154),kE P "__static_attributes__" 376 (.ref 155),kE P "__dict__" 378 (.ref 158),kE P "__weakref__" 380 (.ref 159),kE P "__doc__" 381 (.none)] 4}),
(nat_lit 157,{cls:=.type "type",data:=.cls {name := "Search",bases:=[.type "object"],mro:=[.ref 157,.type "object"],ns:=156,qualname := "Search" },slots:=#[none,none,some (.str "Search" 302),some (.str "Search" 310),some (.builtin "object.__new__"),some (.bool true)]}),
(nat_lit 311,{cls:=.type "dict",data:=.dict #[kE P "__module__" 551 (.str "tieword.webs" 476),kE P "__firstlineno__" 555 (.int 165 554),kE P "__init__" 561 (.ref 288),kE P "size" 568 (.ref 295),kE P "between" 577 (.ref 302),kE P "near" 585 (.ref 309),kE P "__static_attributes__" 589 (.ref 310),kE P "__dict__" 591 (.ref 313),kE P "__weakref__" 593 (.ref 314),kE P "__doc__" 594 (.none)] 4}),
(nat_lit 312,{cls:=.type "type",data:=.cls {name := "Web",bases:=[.type "object"],mro:=[.ref 312,.type "object"],ns:=311,qualname := "Web" },slots:=#[none,none,some (.str "Web" 544),some (.str "Web" 552),some (.builtin "object.__new__"),some (.bool true)]})]++rT.flatMap λr=>[(r.a,cO (fi (top r.i)) (qn r.i) r.t (lno (top r.i)) (d8 (top r.i)).length (if r.c == 1 then r.a-5 else r.a-3) (r.c == 1) r.h 181),(r.a+1,fO (qn r.i) (top r.i) (mdl r.m) r.a)]) rfl
noncomputable def tbR:Addr×Obj:=(nat_lit 3,⟨.str "Search.left_out.<locals>.<lambda>" 137,none,.fields #[.int 98 0,.int 39 0,.int 98 0,.int 86 0],#[]⟩)
def K2(P:Params):PySem.W.Frag:=KK P++[tbR]
def fnR(h1:K.lookup fR=some ⟨.type "function",none,.func dR,#[]⟩)(h2:PySem.W.codeIn K (.ref 86) "reached"=true)(a:K.lookup (nat_lit 82)=some ⟨.type "tuple",none,.seq #[Value.none] 0,#[]⟩)(h:PySem.W.keepIn K (.ref fR)=true):FunD K "reached" "reached" (top 13) fR dR:=⟨⟨_,_,_,_,_,_,_,_,_,_,_,_,rfl,h1,h2,a,rfl⟩,h⟩
def bdR(F:FunD K "reached" "reached" (top 13) fR dR):Binds K dR ["starts","onward","most"] [Value.none]:=F.binds λ_ _ _ _ _ _ _ u h=>by
 obtain⟨c,l,rfl⟩:∃a l,u=a::l:=by cases u with|nil=>cases h|cons a l=>exact⟨a,l,rfl⟩
 obtain⟨b,rfl⟩:∃a,l=[a]:=List.length_eq_one_iff.mp<|VT<|VT h;exact⟨_,rfl,rfl⟩
def tbs P:fg (K2 P)=[(nat_lit 137,("Search.left_out.<locals>.<lambda>":Str),(⟨98,39,98,86⟩))]:=by kernel_rfl
def k2_in{P}(X:(KK P).In h):(K2 P).In h:=λb o e=>by
 unfold K2 at e;rw[List.lookup_append]at e;cases q:(KK P).lookup b with
 |some u=>rw[q]at e;cases e;exact X b _ q
 |none=>
  rw[q]at e;by_cases z:b=3
  ·subst z;have:((KK P).lookup 3).isSome=true:=by kernel_rfl
   rw[q]at this;cases this
  ·have:[tbR].lookup b=none:=by unfold tbR;rw[ZL,show(b == _)=false from ZW.mpr z];rfl
   rw[this]at e;cases e
def k2_tb{P}(a:h.get? (nat_lit 137)=some (PySem.W.tabObj #[])):∀t q p,f8 (K2 P) t q p->h.get? t=some (PySem.W.tabObj #[])/\TabsOk (K2 P) t:=λt q p z=>by
 have z:(fg<|K2 P).lookup t=some (q,p):=z;rw[tbs,ZL]at z;split at z
 ·rename_i e;have e:=eq_of_beq e;subst e;exact⟨a,by kernel_rfl,by decide,nat_lit 139,by kernel_rfl⟩
 ·cases z
def lkA P:rT.map (λr=>((K2 P).lookup (r.a+1),PySem.W.codeIn (K2 P) (.ref r.a) (qn r.i),PySem.W.keepIn (K2 P) (.ref (r.a+1))))=rT.map λr=>(some (fO (qn r.i) (top r.i) (mdl r.m) r.a),true,true):=by kernel_rfl
def glA P:rT.map (λr=>if r.i<1000 then PySem.W.nsIn (K2 P) mainGlobals (fi (top r.i))else none)=rT.map λr=>if r.i<1000 then some (some (.ref (r.a+1)))else none:=by kernel_rfl
def bdA:∀r∈rT,La (qn r.i) (top r.i) (mdl r.m) r.a:=by
 unfold rT
 repeat' refine List.forall_mem_cons.2 ⟨?_,?_⟩
 all_goals first|exact List.forall_mem_nil _|((repeat intro _);show _=_;kernel_rfl)
def dfA{P}(X:(K2 P).In h)(G:h.Ns mainGlobals mg)i(hi:(row i).isSome=true):Df (K2 P) (qn i) (top i) (fA i) (dA i)/\(i<1000->mg (fi (top i))=some (.ref (fA i))):=by obtain⟨r,e⟩:=ZG.mp hi;have m:=List.mem_of_find?_eq_some e;have q:=Vu.mp<|Up (p:=λx:Rw=>x.i == i) e;subst q;have a:=List.map_inj_left.mp (lkA P) r m;have b:=List.map_inj_left.mp (glA P) r m;simp[Prod.mk.injEq]at a;unfold fA dA;rw[e];refine⟨K_ a.1 a.2.1 a.2.2<|bdA r m,λz=>?_⟩;rw[Yj z,Yj z]at b;exact PySem.W.mg_of X G b
def all_mk{l:PySem.W.OpenLaw}{w:World}{P:Params}{h:Heap}{mg:Ks}{fa:Addr}(X:(K2 P).In h)(G:h.Ns mainGlobals mg)(hfa:mg "law"=some (.ref fa)) :
  ∃fd:FuncData,(∀(s:Shared) (v:Value),BindsTo s fd ⟨[v],[]⟩ [("_law_script",v)])/\∀base:Heap,(K2 P).In base->base.Ns mainGlobals mg->FnOk l.prog w (K2 P) mg base CX0 18 fa fd ["_law_script"] (spLaw (K2 P)):=by
 have e:=hfa.symm.trans ((dfA X G 57 rfl).2 (by decide));cases e;have T:Txt (K2 P) mg ⟨312,478,480,482⟩:=by
  constructor
  ·exact dfA X G
  all_goals first
   |exact fnR (by kernel_rfl) (by kernel_rfl) (by kernel_rfl) (by kernel_rfl)
   |exact bdR (fnR (by kernel_rfl) (by kernel_rfl) (by kernel_rfl) (by kernel_rfl))
   |exact PySem.W.mg_none_of X G (by kernel_rfl)
   |exact PySem.W.mg_of X G (by kernel_rfl)
   |(delta NoAttr;kernel_rfl)
   |exact KD.mk (by kernel_rfl) (by decide) (by kernel_rfl)
   |(constructor<;>kernel_rfl)
   |kernel_rfl
   |(intro k;cases k<;>constructor<;>kernel_rfl)
   |(intro k;cases k<;>first|exact Eq.trans (b:=some true) (by kernel_rfl) (by simp)|exact Eq.trans (b:=some false) (by kernel_rfl) (by simp)|kernel_rfl)
 exact⟨_,λs v=>.of_eq rfl,λbase _ _=>(Ig T).imp (AO (law_true _))⟩
end My
structure PySem.W.Fast:Prop where
 (tw15120464780955634573 tw10610558959427029873 tw5152082886189782468 tw3905001745652176084 tw13690557853704031378 tw15772582600789383721 tw13927866940232231869 tw11240565310602939748 tw4102115740959630171 tw10284193578574212834 tw16435234323422722585 tw13792079612799140139 tw12158826143840646831 tw173331216401149040 tw8298649188516225849 tw14031442849054932559 tw7136879922068414212 tw7618884320847925772 tw12824019791317529917 tw3852815509357439556 tw17524118982168415421 tw7636074691265731603 tw5323281154116104217 tw3707553596674856289 tw6469102769140115485 tw5111336087410788125 tw15167765207522735358 tw15269213398294741380 tw2756809409822836155 tw3045065759685924452 tw9523274127716893989 tw5776782814439483280 tw7123091343464549305 tw5899593635235990369 tw11856464276178761914 tw9889195495449337583 tw1840443734740104431 tw5031993197722572864 tw1964289511819133236 tw4255351006784520388 tw13834953708178278225 tw3145266544761353021 tw9751733764770068538 tw13763440695726387306 tw17045245906053087894 tw4341585992799268252 tw1212757494229354187 tw15300738633800617764 tw6825260906792418588 tw5615823070017272373 tw1501976888574005355 tw5441848700883386514 tw264221370292920689 tw2047026548971449343 tw10255699854663291429 tw17821990084059336842 tw4123239600977348594 tw17319082250121573057 tw18396650642394592422 tw13088945036541558664 tw15377451988497954891 tw16122983592839103995 tw11881774178434963780 tw8100078034649329161 tw14432951803403141330 tw12644953652745733368 tw1060283731558732362 tw9733992708190574950 tw5320353192701025932 tw12550116109463593418 tw908176089948801527 tw13719941932335297493 tw3813728343821341170 tw5637038019442196532 tw11408585599678955539 tw6851216666873825127 tw16485602576359912169 tw321925537629443019 tw16830739562280661765 tw504694094099824894 tw11688796377816866454 tw7826522249621584819 tw16486620682648536844 tw8837119817867105765 tw10147857317820296265 tw1643800783319041224 tw216483529664322925 tw5005059106959814070 tw4960403591191731141 tw10155231981942410850 tw16109534380161217172 tw15167301389103463996 tw17667304428464809931 tw6259840410257725371 tw14671794889244205789 tw13758637257194844097 tw16377570005924758633 tw13937181766098277082 tw9333629251168444110 tw11884779522719031342 tw13618850825043691514 tw2802395674270148757 tw12184149529374047191 tw6576824941749347049 tw14828365518727649380 tw11661377874698088612 tw263310352823637438 tw7085071635358892509 tw9704928083379292418 tw8474179012877197026 tw17293695040642552617 tw17249910418602669780 tw8213778893976548148 tw278324324456000669 tw13339522179989771184 tw9117188057163396691 tw4332412021812421258 tw1454292609811719600 tw3771051793974227600 tw7385902788066907903 tw14890646806582070265 tw6342590363279458457 tw11155369382104337853 tw9246228988900090890 tw3207274104915437221 tw7418413891435388837 tw9799327264685828213 tw4931033269924754087 tw12729091258179427360 tw9094790909945140870 tw14311963500037862618 tw5452829527444638488 tw15716715233024358126 tw6406301755633272599 tw1395869609386022766 tw9455588451135476845 tw13507867664508007294 tw5108565318707189082 tw12447635861444248101 tw15361125765319909423:True)
open PySem PySem.W PyProof.Rows
set_option maxRecDepth 100000 in
set_option maxHeartbeats 0 in
theorem PySem.Challenge.cw_tieword_k20_whole_few_make_all_holds : PySem.Challenge.rw_tieword_k20_whole_few_make_all.Holds := by
  w_on; o_law; o_head (PySem.W.kmHook My.KK [3,82,86,87,156,157,311,312,25,26,30,31,35,36,42,43,49,50,56,57,63,64,68,69,75,76,80,81,91,92,96,97,101,102,106,107,120,121,127,128,134,135,139,140,146,147,153,154,167,168,233,234,240,241,247,248,254,255,261,262,268,269,275,276,287,288,294,295,301,302,322,323,327,328,334,335,341,342,348,349,353,354,358,359,363,364,368,369,375,376,382,383,387,388,394,395,399,400,404,405,411,412,416,417] (λ_=>by kernel_rfl) [137]); (case hw=>w_witness2)
  k_fill
  refine L2.walk_ofK (l:=PySem.Challenge.rw_tieword_k20_whole_few_make_all) (n:=63) (k:=18) (x := "_law_script") (K:=My.K2) (CX:=L2.CX0) (sp:=My.spLaw) rfl (by decide) rfl ⟨rfl,by decide,by decide⟩ (λw h Y=>⟨My.k2_in (PySem.W.km_in_of Y),My.k2_tb (PySem.W.km_tabs_of Y _ (List.mem_singleton.2 rfl))⟩) ?F (λK H a ns hl hS=>⟨a,ns,rfl,hS,hl,λ_=>rfl⟩) λ_ _ _ _ z=>z
  case F=>
    intro w mg fa h KX G hmg
    exact My.all_mk KX G hmg
