import PyProof.Rows.All
import Wide.All
import OpenK.AllK
import Wide.FinOn
import Lean
import PyProof.EqAt
import PyProof.EqKinds
import PyProof.TupleCall
import PyProof.Rows.SetFrom
import PyProof.EnumFor
import PyProof.EnumMake
import PyProof.ZipIter
import KE.KRevIter
import PyProof.ListRange
import PyProof.FactsAll.range_iterator_1
import PySem.Challenge.RW_tieword_k31_whole_all_ways
set_option Elab.async false
set_option linter.all false
set_option maxRecDepth 100000
set_option compiler.extract_closed false
set_option bootstrap.genMatcherCode false
set_option genSizeOf false
set_option genSizeOfSpec false
namespace L2
def Ya:=@Option.bind_some
def Yb:=@List.length_map
def Yc:=@List.mem_cons_of_mem
def Yd:=@PySem.wpAny_bind
def Ye:=@PySem.Heap.get?_push_of_some
def Yf:=@List.mem_cons_self
def Yg:=@List.getElem?_eq_getElem
def Yh:=@List.getElem?_eq_some_iff
def Yi:=@if_pos
def Yj:=@List.length_append
def Yk:=@Bool.false_ne_true
def Yl:=@Bool.and_eq_true
def Ym:=@Nat.le_refl
def Yn:=@if_neg
def Yo:=@PySem.Heap.get?_push_size
def Yp:=@List.size_toArray
def Yq:=@PySem.Heap.lt_size
def Yr:=@Option.some.inj
def Ys:=@Nat.lt_of_lt_of_le
def Yt:=@PySem.W.mg_of
def Yu:=@List.length_cons
def Yv:=@List.mem_of_getElem?
def Yw:=@List.getElem?_map
def Yx:=@List.all_eq_true
def Yy:=@List.getD_eq_getElem?_getD
def Yz:=@List.length_replicate
def YA:=@PySem.wpAny_pure
def YB:=@decide_eq_false
def YC:=@List.mem_map
def YD:=@List.length_singleton
def YE:=@Int.emod_lt_of_pos
def YF:=@List.mem_cons
def YG:=@Nat.ne_of_lt
def YH:=@Nat.le_trans
def YI:=@Int.natCast_nonneg
def YJ:=@decide_eq_true_eq
def YK:=@PySem.PassesOwn.never
def YL:=@decide_eq_true
def YM:=@List.map_cons
def YN:=@Int.emod_nonneg
def YO:=@Int.toNat_natCast
def YQ:=@PySem.sizeLine_eq
def YR:=@List.length_take
def YS:=@List.length_nil
def YT:=@Nat.zero_le
def YU:=@List.mem_singleton
def YV:=@Nat.zero_add
def YW:=@List.getElem?_append_right
def YX:=@List.mem_append_right
def YY:=@List.length_set
def YZ:=@List.getElem?_set_ne
def Za:=@PySem.W.mg_none_of
def Zb:=@Nat.lt_irrefl
def Zc:=@Bool.true_and
def Zd:=@PySem.F.plainAttrs_list
def Ze:=@List.append_nil
def Zf:=@List.map_append
def Zg:=@List.mem_append
def Zh:=@Nat.le_antisymm
def Zi:=@congrArg
def Zj:=@of_decide_eq_true
def Zk:=@Int.eq_ofNat_of_zero_le
def Zl:=@List.mem_range
def Zm:=@List.getElem?_append_left
def Zn:=@PySem.mem_of_lookup
def Zo:=@Nat.le_of_lt_succ
def Zp:=@List.nodup_cons
def Zq:=@Nat.lt_of_le_of_ne
def Zr:=@PySem.wpAny_truthy_bool
def Zs:=@Array.length_toList
def Zt:=@List.append_assoc
def Zu:=@Nat.le_of_lt
def Zv:=@Nat.le_add_left
def Zw:=@PySem.wpAny_mono
def Zx:=@PySem.F.slot_list_append
def Zy:=@PySem.F.type_list_append
def Zz:=@List.pairwise_cons
def ZA:=@Nat.le_of_not_lt
def ZB:=@List.length_eq_zero_iff
def ZC:=@PySem.Heap.size_push
def ZD:=@beq_eq_false_iff_ne
def ZE:=@PyProof.Rows.callWith_type1
def ZF:=@Option.map_some
def ZG:=@List.find?_cons
def ZH:=@PySem.wpAny_field
def ZI:=@List.getElem?_set_self
def ZJ:=@PySem.F.slot_tuple_iterator_next
def ZK:=@List.getElem?_eq_none
def ZL:=@Nat.lt_of_le_of_lt
def ZM:=@List.map_map
def ZN:=@Nat.le_sub_one_of_lt
def ZO:=@PySem.wpAny_passesOwn
def ZP:=@Int.emod_eq_of_lt
def ZQ:=@Nat.le_of_eq
def ZR:=@List.getElem?_replicate
def ZS:=@decide_eq_false_iff_not
def ZT:=@PySem.wpAny_callSpecial?_slot
def ZU:=@List.countP_cons
def ZV:=@PySem.wpAny_seqItems
def ZW:=@PySem.W.cellsFrom_some
def ZX:=@List.take_of_length_le
def ZY:=@PySem.wpAny_setField_rec
def ZZ:=@Nat.ne_of_gt
def Xa:=@Nat.lt_trans
def Xb:=@Array.getD_eq_getD_getElem?
def Xc:=@Bool.eq_iff_iff
def Xd:=@Nat.lt_succ_of_lt
def Xe:=@List.any_cons
def Xf:=@List.length_range
def Xg:=@PySem.Heap.get?_push_ne
def Xh:=@List.mem_iff_getElem
def Xi:=@Bool.false_and
def Xj:=@List.length_drop
def Xk:=@PySem.wpAny_call_entry
def Xl:=@List.take_length
def Xm:=@List.getElem?_range
def Xn:=@Nat.add_sub_cancel'
def Xo:=@beq_iff_eq
def Xp:=@Option.isSome_iff_exists
def Xq:=@List.getElem?_take_of_lt
def Xr:=@PySem.wpAny_Call_Name_kw
def Xs:=@Bool.false_eq_true
def Xt:=@Nat.lt_add_of_pos_right
def Xu:=@Nat.add_right_comm
def Xv:=@List.eraseIdx_cons_succ
def Xw:=@List.nil_append
def Xx:=@PySem.Calls.callWith_builtin
def Xy:=@Nat.le_of_succ_le
def Xz:=@Bool.eq_false_iff
def XA:=@List.nodup_nil
def XB:=@Array.getElem?_toList
def XC:=@PySem.F.slot_dict_get
def XD:=@Ne.symm
def XE:=@Nat.lt_succ_self
def XF:=@PySem.Heap.size_update
def XG:=@List.getElem_mem
def XH:=@PySem.Calls.evalArgs_plain
def XI:=@PySem.wpAny_holding
def XJ:=@List.filterMap_cons
def XL:=@PySem.wpAny_execs_nil
def XM:=@PySem.W.plainGet_of
def XN:=@PySem.pushCells_keeps
def XO:=@List.getElem_of_mem
def XQ:=@PySem.F.slot_zip_next
def XR:=@List.flatMap_append
def XS:=@PySem.W.callWith_K
def XT:=@List.zip_cons_cons
def XU:=@Int.sub_emod_right
def XV:=@Nat.add_zero
def XW:=@List.any_eq_false
def XX:=@List.nodup_append
def XY:=@List.flatMap_cons
def XZ:=@List.countP_congr
def Va:=@if_true
def Vb:=@if_false
def Vc:=@Nat.sub_lt
end L2
namespace L2
open PySem PySem.Spec PyProof.Rows
abbrev Kq:=PySem.W.Frag
abbrev Kv:=Value->Shared->Prop
abbrev Kp:=List (Addr×Obj)
abbrev Ks:=Str->Option Value
abbrev Ka:=Array (Int×Value)
abbrev Kb:=Bool->Shared->Prop
abbrev Ko:=Option Value->Shared->Prop
abbrev Kl:=List Value->Shared->Prop
abbrev Kr:=Result->Shared->Prop
abbrev Key:=Sum Int Str
def kf:Key->Value->Bool
 |.inl k,v=>Value.isInt k v
 |.inr x,v=>Value.isStrOf x v
def CO(w:World):Key->Int
 |.inl k=>hashInt k
 |.inr x=>hashStr w x
theorem bE:∀{k:Key}{v:Value},kf k v=true->(∃i t,k=Sum.inl i/\v=Value.int i t)\/(∃x t,k=Sum.inr x/\v=Value.str x t)
 |.inl i,v,h=>by
  obtain⟨t,e⟩:=Value.isInt_shape (k:=i) (v:=v) h;exact .inl ⟨i,t,rfl,e⟩
 |.inr x,v,h=>by
  obtain⟨t,e⟩:=Value.isStrOf_shape (x:=x) (v:=v) h;exact .inr ⟨x,t,rfl,e⟩
theorem rn(i:Int)(t:Tok):kf (.inl i) (.int i t)=true:=by simp[kf,Value.isInt]
theorem qU(x:Str)(t:Tok):kf (.inr x) (.str x t)=true:=by simp[kf,Value.isStrOf]
theorem yn(a b:Int):decide ((Sum.inl a:Key)=Sum.inl b)=(a == b):=by
 by_cases e:a=b
 ·subst e;simp
 ·have h:¬(Sum.inl a:Key)=Sum.inl b:=fun q=>e (Sum.inl.inj q)
  rw[YB h];exact(ZD.mpr e).symm
theorem ye(a b:Str):decide ((Sum.inr a:Key)=Sum.inr b)=decide (a=b):=by
 by_cases e:a=b
 ·subst e;simp
 ·have h:¬(Sum.inr a:Key)=Sum.inr b:=fun q=>e (Sum.inr.inj q)
  rw[YB h,YB e]
theorem xI(a:Int)(b:Str):decide ((Sum.inl a:Key)=Sum.inr b)=false:=YB (fun q=>nomatch q)
theorem yt(a:Str)(b:Int):decide ((Sum.inr a:Key)=Sum.inl b)=false:=YB (fun q=>nomatch q)
def bN(prog:Program)(w:World):PySem.KeyKind prog w Key where
 is:=kf
 hash:=CO w
 inj:=fun v a b ha hb=>by
  rcases bE ha with⟨i,t,rfl,rfl⟩|⟨x,t,rfl,rfl⟩
  ·rcases bE hb with⟨j,u,rfl,e⟩|⟨y,u,rfl,e⟩
   ·injection e with e1 _;rw[e1]
   ·exact nomatch e
  ·rcases bE hb with⟨j,u,rfl,e⟩|⟨y,u,rfl,e⟩
   ·exact nomatch e
   ·injection e with e1 _;rw[e1]
 byValue:=fun k v h=>by
  rcases bE h with⟨i,t,rfl,rfl⟩|⟨x,t,rfl,rfl⟩<;>rfl
 pyHash:=fun hv h=>by
  rcases bE hv with⟨i,t,rfl,rfl⟩|⟨x,t,rfl,rfl⟩
  ·exact wpAny_pyHash_int h
  ·exact wpAny_pyHash_str h
 eqBool:=fun hu hv h=>by
  rcases bE hu with⟨i,t,rfl,rfl⟩|⟨x,t,rfl,rfl⟩
  ·rcases bE hv with⟨j,u,rfl,rfl⟩|⟨y,u,rfl,rfl⟩
   ·rw[yn]at h;exact wpAny_eqBool_int h
   ·rw[xI]at h;exact SeqAt.EqAt.int_str i t y u _ _ _ _ h
  ·rcases bE hv with⟨j,u,rfl,rfl⟩|⟨y,u,rfl,rfl⟩
   ·rw[yt]at h;exact SeqAt.EqAt.str_int x t j u _ _ _ _ h
   ·rw[ye]at h;exact wpAny_eqBool_str h
 «strs»:=fun k x t v h=>by
  rcases bE h with⟨i,u,rfl,e⟩|⟨y,u,rfl,e⟩
  ·exact nomatch e
  ·injection e with e1 _;subst e1;cases v<;>rfl
theorem mZ(prog:Program)(w:World)(i:Int)(t:Tok):(bN prog w).is (.inl i) (.int i t)=true:=rn i t
theorem mN(prog:Program)(w:World)(x:Str)(t:Tok):(bN prog w).is (.inr x) (.str x t)=true:=qU x t
inductive V where
 |non|bl (b:Bool)|int (i:Int)|str (x:Str)|byt (b:Array UInt8)|flt (b:UInt64)|ref (a:Addr)|ty (n:String)
def RelV:V->Value->Prop
 |.non,u=>u=Value.none
 |.bl b,u=>u=Value.bool b
 |.int i,u=>∃t,u=Value.int i t
 |.str x,u=>∃t,u=Value.str x t
 |.byt b,u=>∃t,u=Value.bytes b t
 |.flt b,u=>∃t,u=Value.float b t
 |.ref a,u=>u=Value.ref a
 |.ty n,u=>u=Value.type n
abbrev Vals:List V->List Value->Prop:=Paired RelV
theorem Vals.length{xs:List V}{us:List Value}(r:Vals xs us):xs.length=us.length:=Paired.length r
theorem Vals.get:∀{xs:List V}{us:List Value}{i:Nat}{x:V},Vals xs us->xs[i]?=some x->∃u,us[i]?=some u/\RelV x u
 |_,_,_,_,.nil,e=>by simp at e
 |_,_,0,_,.cons r _,e=>by simp at e;subst e;exact⟨_,rfl,r⟩
 |_,_,i+1,x,.cons _ t,e=>by
  obtain⟨u,h1,h2⟩:=Vals.get (i:=i) (x:=x) t (by simpa using e);exact⟨u,by simpa using h1,h2⟩
theorem Vals.set{x:V}{u:Value}(r:RelV x u):∀{xs:List V}{us:List Value} (i:Nat),Vals xs us->Vals (xs.set i x) (us.set i u)
 |_,_,_,.nil=>.nil
 |_,_,0,.cons _ t=>.cons r t
 |_,_,i+1,.cons q t=>.cons q (Vals.set r i t)
theorem Vals.append{xs ys:List V}{us ws:List Value}(h:Vals xs us)(s:Vals ys ws):Vals (xs++ys) (us++ws):=by
 induction h with
 |nil=>exact s
 |cons r _ ih=>exact .cons r ih
theorem Vals.take:∀{xs:List V}{us:List Value} (n:Nat),Vals xs us->Vals (xs.take n) (us.take n)
 |_,_,0,_=>.nil
 |_,_,_+1,.nil=>.nil
 |_,_,n+1,.cons r t=>.cons r (Vals.take n t)
theorem Vals.drop:∀{xs:List V}{us:List Value} (n:Nat),Vals xs us->Vals (xs.drop n) (us.drop n)
 |_,_,0,r=>r
 |_,_,_+1,.nil=>.nil
 |_,_,n+1,.cons _ t=>Vals.drop n t
def RelO:Option V->Option Value->Prop
 |some v,some u=>RelV v u
 |none,none=>True
 |_,_=>False
def KV{κ:Type}:List (κ×V)->List (κ×Value)->Prop:=Paired fun(p:κ×V) (q:κ×Value)=>p.1=q.1/\RelV p.2 q.2
def kV:Key->V
 |.inl i=>.int i
 |.inr x=>.str x
inductive HO where
 /-- a list -/
 |lst (xs:List V)
 /-- a tuple (never changes) -/
 |tup (xs:List V)
 /-- a dict whose keys are ints and texts;one whose keys are tuples of ints and texts (the empty one is both) -/
 |dK (kvs:List (Key×V))|dT (kvs:List (List Key×V))
 /-- a set of ints: its members,its size -/
 |set (S:Int->Bool) (n:Nat)
 /-- an instance of the class at C,its dict at dx,its attributes -/
 |ins (C dx:Addr) (fs:List (Str×V))
 /-- the dict of the instance at x -/
 |own (x:Addr)
 /-- the dict of an exception -/
 |xd (fs:List (Str×V))
 /-- a bound method,f of x -/
 |met (f x:Addr)
 /-- a range object lo,lo+1,.. below hi -/
 |rng (lo hi:Int)
 /-- a thing that is known to the object (the script;a dict while a loop walks it): read,never written while it is so -/
 |frz (o:Obj) (u:HO)
 /-- a code object's table -/
 |tbl (ps:Array Value)
 /-- any other thing,by what is true of its one object (a def of one's own: SetO a S n:=HO.ext fun h=>..) -/
 |ext (φ:Heap->Prop)
abbrev Hp:=Addr->Option HO
def upd(H:Hp)(a:Addr)(o:HO):Hp:=fun b=>if b=a then some o else H b
theorem aR{H:Hp}{a:Addr}{o:HO}:upd H a o a=some o:=by unfold upd;rw[Yi rfl]
theorem aA{H:Hp}{a b:Addr}{o:HO}(h:b≠a):upd H a o b=H b:=by unfold upd;rw[Yn h]
theorem A8{H:Hp}{a b:Addr}{o u:HO}(h:H a=some o)(h':H b=some u)(d:o≠u):a≠b:=by intro e;subst e;rw[h]at h';exact d (Yr h')
theorem aO{H:Hp}{a b:Addr}{o:HO}(h:H a=some o)(h':H b=none):a≠b:=by intro e;subst e;rw[h]at h';cases h'
def NoD(h:Heap)(a:Addr):Prop:=∃o,h.get? a=some o/\o.dict=none
theorem NoD.new(h:Heap)(items:Array Value):NoD (h.push {cls:=.type "tuple",data:=.seq items}) h.objs.size:=⟨_,Yo _ rfl,rfl⟩
section
variable(P:Program) (w:World)
def ObjOk(H:Hp)(h:Heap)(a:Addr):HO->Prop
 |.lst xs=>xs.length<=sizeLine/\∃(its:List Value) (n:Nat),Vals xs its/\h.get? a=some {cls:=.type "list",data:=.seq its.toArray n}
 |.tup xs=>xs.length<=sizeLine/\∃its:List Value,Vals xs its/\IsTup h a its.toArray/\NoD h a
 |.dK kvs=>kvs.length<=sizeLine/\(a == sysModules)=false/\∃vs,KV kvs vs/\h.DictOf (bN P w) a vs
 |.dT kvs=>kvs.length<=sizeLine/\(a == sysModules)=false/\∃xs:List (List Key×Addr×Value),
   Paired (fun(p:List Key×V) (q:List Key×Addr×Value)=>p.1=q.1/\H q.2.1=some (.tup (p.1.map kV))/\RelV p.2 q.2.2) kvs xs /\
   ∃o es ep,h.get? a=some o/\o.ExactDict/\o.data=.dict es ep/\es.toList=xs.map (entryOfKey (tupleKind (bN P w)))/\(xs.map (·.1)).Nodup
 |.set S n=>h.SetOf (intKind P w) a S n
 |.ins C dx fs=>H dx=some (.own a)/\fs.length<=1000/\dx≠a/\h.get? a=some (PySem.W.instObj C dx) /\
   ∃mA,h.Ns1 dx mA/\(∀f,RelO (fs.lookup f) (mA f))/\PySem.Within mA (fs.map (·.1))
 |.own _=>∃o,h.get? a=some o
 |.xd fs=>∃mA,h.Ns1 a mA/\∀f,RelO (fs.lookup f) (mA f)
 |.rng lo hi=>∃t u v,h.get? a=some {cls:=.type "range",data:=.fields #[.int lo t,.int hi u,.int 1 v]}
 |.frz o u=>h.get? a=some o/\ObjOk H h a u
 |.tbl ps=>h.get? a=some {cls:=.none,data:=.fields ps}
 |.met f x=>h.get? a=some (PySem.W.methodObj (.ref f) (.ref x))
 |.ext φ=>φ h/\(∃o,h.get? a=some o)/\∀h1 h2:Heap,φ h1->(∀o,h1.get? a=some o->h2.get? a=some o)->φ h2
def HOk(H:Hp)(h:Heap):Prop:=∀a o,H a=some o->ObjOk P w H h a o
end
section
variable{P:Program}{w:World}{H H':Hp}{h h':Heap}{a:Addr}{o:HO}
theorem ObjOk.lt(x:ObjOk P w H h a o):a<h.objs.size:=by
 cases o with
 |lst xs=>obtain⟨_,_,_,_,e⟩:=x;exact Yq e
 |tup xs=>obtain⟨_,_,_,p,_⟩:=x;exact p.lt
 |dK kvs=>obtain⟨_,_,_,_,o,_,_,e,_⟩:=x;exact Yq e
 |dT kvs=>obtain⟨_,_,_,_,o,_,_,e,_⟩:=x;exact Yq e
 |set S n=>obtain⟨o,_,_,_,e,_⟩:=x;exact Yq e
 |ins C dx fs=>obtain⟨_,_,_,e,_⟩:=x;exact Yq e
 |own y=>obtain⟨_,e⟩:=x;exact Yq e
 |xd fs=>obtain⟨_,⟨_,_,_,e,_⟩,_⟩:=x;exact Yq e
 |rng lo hi=>obtain⟨_,_,_,e⟩:=x;exact Yq e
 |frz ob u=>obtain⟨e,_⟩:=x;exact Yq e
 |tbl ps=>exact Yq (show h.get? a=some _ from x)
 |met f y=>exact Yq (show h.get? a=some _ from x)
 |ext φ=>obtain⟨_,⟨_,e⟩,_⟩:=x;exact Yq e
theorem Paired.mapP{α β:Type}{F G:α->β->Prop}{l₁:List α}{l₂:List β}(h:Paired F l₁ l₂)(f:∀a b,F a b->G a b):Paired G l₁ l₂:=by
 induction h with
 |nil=>exact .nil
 |cons r _ ih=>exact .cons (f _ _ r) ih
theorem ObjOk.stay(x:ObjOk P w H h a o)(k:∀b u,(b=a\/H b=some (.own a))->h.get? b=some u->h'.get? b=some u)
  (ho:∀b,H b=some (.own a)->H' b=some (.own a)) (ht:∀b xs,H b=some (.tup xs)->H' b=some (.tup xs)):ObjOk P w H' h' a o:=by
 induction o with
 |lst xs=>obtain⟨z,its,n,r,e⟩:=x;exact⟨z,its,n,r,k _ _ (.inl rfl) e⟩
 |tup xs=>obtain⟨z,its,r,⟨ob,e,c⟩,ob2,e2,c2⟩:=x;exact⟨z,its,r,⟨ob,k _ _ (.inl rfl) e,c⟩,ob2,k _ _ (.inl rfl) e2,c2⟩
 |dK kvs=>obtain⟨z,y,vs,r,ob,es,ep,e,c⟩:=x;exact⟨z,y,vs,r,ob,es,ep,k _ _ (.inl rfl) e,c⟩
 |dT kvs=>
  obtain⟨z,y,xs,r,ob,es,ep,e,c⟩:=x;exact⟨z,y,xs,Paired.mapP r fun p q z=>⟨z.1,ht _ _ z.2.1,z.2.2⟩,ob,es,ep,k _ _ (.inl rfl) e,c⟩
 |set S n=>obtain⟨ob,es,ep,t,e,c⟩:=x;exact⟨ob,es,ep,t,k _ _ (.inl rfl) e,c⟩
 |ins C dx fs=>
  obtain⟨d,z,ne,e,mA,⟨od,es,ep,e2,c⟩,r⟩:=x;exact⟨ho _ d,z,ne,k _ _ (.inl rfl) e,mA,⟨od,es,ep,k _ _ (.inr d) e2,c⟩,r⟩
 |own y=>obtain⟨ob,e⟩:=x;exact⟨ob,k _ _ (.inl rfl) e⟩
 |xd fs=>obtain⟨mA,⟨od,es,ep,e,c⟩,r⟩:=x;exact⟨mA,⟨od,es,ep,k _ _ (.inl rfl) e,c⟩,r⟩
 |rng lo hi=>obtain⟨t,u,v,e⟩:=x;exact⟨t,u,v,k _ _ (.inl rfl) e⟩
 |frz ob u ih=>obtain⟨e,q⟩:=x;exact⟨k _ _ (.inl rfl) e,ih q⟩
 |tbl ps=>
  have e:h.get? a=some {cls:=.none,data:=.fields ps}:=x;show h'.get? a=some {cls:=.none,data:=.fields ps};exact k a _ (.inl rfl) e
 |met f y=>
  have e:h.get? a=some (PySem.W.methodObj (.ref f) (.ref y)):=x;show h'.get? a=some (PySem.W.methodObj (.ref f) (.ref y));exact k a _ (.inl rfl) e
 |ext φ=>obtain⟨p,⟨o,e⟩,st⟩:=x;exact⟨st _ _ p fun o q=>k _ _ (.inl rfl) q,⟨o,k _ _ (.inl rfl) e⟩,st⟩
theorem HOk.lt(x:HOk P w H h)(e:H a=some o):a<h.objs.size:=(x a o e).lt
theorem HOk.fresh(x:HOk P w H h)(e:h.objs.size<=a):H a=none:=by
 cases q:H a with
 |none=>rfl
 |some u=>exact absurd (Ys (x.lt q) e) (Zb _)
theorem HOk.kept(x:HOk P w H h)(k:∀b u,h.get? b=some u->h'.get? b=some u):HOk P w H h':=fun a o e=>
 (x a o e).stay (fun b u _ q=>k b u q) (fun _ q=>q) fun _ _ q=>q
theorem HOk.laid(x:HOk P w H h)(k:∀b u,h.get? b=some u->h'.get? b=some u)(hp:h.objs.size<=a)(new:ObjOk P w (upd H a o) h' a o):HOk P w (upd H a o) h':=fun b u e=>by
 have hn:=x.fresh hp;by_cases hb:b=a
 ·subst hb;rw[aR]at e;cases e;exact new
 ·rw[aA hb]at e;exact(x b u e).stay (fun c v _ q=>k c v q) (fun c q=>by rw[aA (aO q hn)];exact q) fun c xs q=>by rw[aA (aO q hn)];exact q
end
def Rd(H:Hp)(a:Addr)(u:HO):Prop:=H a=some u\/∃o,H a=some (.frz o u)
theorem Rd.ok{P:Program}{w:World}{H:Hp}{h:Heap}{a:Addr}{u:HO}(r:Rd H a u)(x:HOk P w H h):ObjOk P w H h a u:=by
 rcases r with r|⟨o,r⟩
 ·exact x a u r
 ·obtain⟨_,q⟩:=x a _ r;exact q
def Mut:Option HO->Prop
 |some (.lst _)=>True
 |some (.dK _)=>True
 |some (.dT _)=>True
 |some (.set _ _)=>True
 |some (.ins _ _ _)=>True
 |some (.ext _)=>True
 |_=>False
section
variable{P:Program}{w:World}{H:Hp}{h h':Heap}{x e:Addr}{o':HO}
theorem HOk.write(ok:HOk P w H h)(mu:Mut (H x))(he:e=x\/H e=some (.own x))(k:∀b u,b≠e->h.get? b=some u->h'.get? b=some u)(heo:∃u,h'.get? e=some u)
  (new:ObjOk P w (upd H x o') h' x o'):HOk P w (upd H x o') h':=fun b u q=>by
 have nown:∀c y,H c=some (.own y)->c≠x:=fun c y r z=>by subst z;rw[r]at mu;exact mu
 have ntup:∀c xs,H c=some (.tup xs)->c≠x:=fun c xs r z=>by subst z;rw[r]at mu;exact mu
 by_cases hb:b=x
 ·subst hb;rw[aR]at q;cases q;exact new
 ·rw[aA hb]at q;by_cases hbe:b=e
  ·have q':H b=some (.own x):=by
    rcases he with z|z
    ·exact absurd (hbe.trans z) hb
    ·rw[hbe];exact z
   rw[q]at q';cases q';obtain⟨v,hv⟩:=heo;exact⟨v,by rw[hbe];exact hv⟩
  ·refine(ok b u q).stay (fun c v hc r=>k c v ?_ r) (fun c r=>by rw[aA (nown c b r)];exact r) fun c xs r=>by rw[aA (ntup c xs r)];exact r
   rcases hc with rfl|hc
   ·exact hbe
   ·rintro rfl;rcases he with z|z
    ·exact nown c b hc z
    ·rw[hc]at z;cases z;exact hb rfl
end
structure Un (fs ex:List Addr) (H H':Hp) (h h':Heap):Prop where
 keep:∀b o,h.get? b=some o->H b=none->b∉fs->b∉ex->h'.get? b=some o
 slot:∀b o,h.get? b=some o->H b=none->b∈fs->b∉ex->∃sl,h'.get? b=some {o with slots:=sl}
 free:∀b o,h.get? b=some o->H b=none->b∉ex->H' b=none
 there:∀b o,h.get? b=some o->b∉ex->∃o',h'.get? b=some o'
 tups:∀b xs,H b=some (.tup xs)->H' b=some (.tup xs)
 frzs:∀b o u,H b=some (.frz o u)->H' b=some (.frz o u)
 tbls:∀b ps,H b=some (.tbl ps)->∃more,H' b=some (.tbl (ps++more))
section
variable{fs fs' ex ex':List Addr}{H H1 H2:Hp}{h h1 h2 h':Heap}{a x e:Addr}{o:HO}
theorem Un.any(u:Un fs ex H H1 h h1){b:Addr}{ob:Obj}(q:h.get? b=some ob)(n:H b=none)(hx:b∉ex):∃sl,h1.get? b=some {ob with slots:=sl}:=by
 by_cases hb:b∈fs
 ·exact u.slot b ob q n hb hx
 ·exact⟨ob.slots,u.keep b ob q n hb hx⟩
theorem Un.kept(k:∀b u,h.get? b=some u->h'.get? b=some u):Un fs ex H H h h':=
 ⟨fun b ob q _ _ _=>k b ob q,fun b ob q _ _ _=>⟨ob.slots,k b ob q⟩,fun _ _ _ n _=>n,fun b ob q _=>⟨ob,k b ob q⟩,fun _ _ q=>q,fun _ _ _ q=>q,fun _ ps q=>⟨#[],by rw[q];simp⟩⟩
theorem Un.refl:Un fs ex H H h h:=Un.kept fun _ _ q=>q
theorem Un.laid(k:∀b u,h.get? b=some u->h'.get? b=some u)(hp:h.objs.size<=a)(hn:H a=none):Un fs ex H (upd H a o) h h' where
 keep:=fun b u q _ _ _=>k b u q
 slot:=fun b u q _ _ _=>⟨u.slots,k b u q⟩
 free:=fun b u q n _=>by rw[aA (YG (Ys (Yq q) hp))];exact n
 there:=fun b u q _=>⟨u,k b u q⟩
 tups:=fun b xs q=>by rw[aA (aO q hn)];exact q
 frzs:=fun b u xs q=>by rw[aA (aO q hn)];exact q
 tbls:=fun b ps q=>⟨#[],by rw[aA (aO q hn),q];simp⟩
theorem Un.write(mu:Mut (H x))(he:e=x\/H e=some (.own x))(k:∀b u,b≠e->h.get? b=some u->h'.get? b=some u)(heo:∃u,h'.get? e=some u):Un fs ex H (upd H x o) h h':=by
 have hx:∀b,H b=none->b≠x:=fun b n z=>by subst z;rw[n]at mu;exact mu
 have hb:∀b,H b=none->b≠e:=fun b n z=>by
  subst z;rcases he with r|r
  ·exact hx b n r
  ·rw[n]at r;cases r
 have hm:∀b u,H b=some u->¬Mut (some u)->b≠x:=fun b u q nm z=>by subst z;rw[q]at mu;exact nm mu
 refine⟨fun b u q n _ _=>k b u (hb b n) q,fun b u q n _ _=>⟨u.slots,k b u (hb b n) q⟩,fun b u q n _=>by rw[aA (hx b n)];exact n,fun b u q _=>?_,
  fun b xs q=>by rw[aA (hm b _ q fun z=>z)];exact q,fun b u xs q=>by rw[aA (hm b _ q fun z=>z)];exact q,fun b ps q=>⟨#[],by rw[aA (hm b _ q fun z=>z),q];simp⟩⟩
 by_cases hbe:b=e
 ·subst hbe;exact heo
 ·exact⟨u,k b u hbe q⟩
end
def trk(h:Heap)(H:Hp):List Addr:=(List.range h.objs.size).filter fun a=>(H a).isSome
def k9(h:Heap)(H:Hp):Heap:=PySem.W.hideAll h (trk h H)
theorem re(h:Heap)(H:Hp):(k9 h H).objs.size=h.objs.size:=PySem.W.hideAll_size _ _
theorem uS{h:Heap}{H:Hp}{b:Addr}{o:Obj}(e:h.get? b=some o)(n:H b=none):(k9 h H).get? b=some o:=
 PySem.W.hideAll_get _ e fun hm=>by
  have q:(H b).isSome=true:=(List.mem_filter.mp hm).2;rw[n]at q;simp at q
theorem v7{h:Heap}{H:Hp}{b:Addr}{o:Obj}(e:(k9 h H).get? b=some o):h.get? b=some o/\H b=none:=by
 have e':h.get? b=some o:=PySem.W.of_hideAll (trk h H) e;refine⟨e',?_⟩;cases q:H b with
 |none=>rfl
 |some x=>
  have hm:b∈trk h H:=List.mem_filter.mpr ⟨Zl.mpr (Yq e'),by simp[q]⟩;have z:(k9 h H).get? b=none:=PySem.W.hideAll_none (trk h H) hm;rw[z]at e;cases e
def vY(g h:Heap)(L:Addr):List (Addr×Obj):=(List.range h.objs.size).filterMap fun a=>if a=L\/(g.get? a).isSome=true then none else(h.get? a).map fun o=>(a,o)
def bP(g h:Heap)(L d:Addr):List (Addr×Obj):=(vY g h L).filter fun p=>decide (p.1≠d)
structure Mod (K:PySem.W.Frag) (mg:Str->Option Value) (base:Heap):Prop where
 kin:K.In base
 glob:base.Ns mainGlobals mg
 blt:∃mb,base.Ns builtinsNs mb/\∀x:Str,x ≠ "__name__"->mb x=bootBuiltins x
 nolimit:base.NoLimit
structure Cx where
 prog:Program
 w:World
 K:PySem.W.Frag
 mg:Str->Option Value
 base:Heap
 A:Around
 N:List Str
 s₀:Shared
 H₀:Hp
 env:Env
 outer:List Env
 stack:List Env
 ex:List Addr
 fn:Str->Bool
 calm:Bool
 pn:List (Addr×Obj)
 xe:Value->Shared->Prop
def frs(l:List Env):List Addr:=l.filterMap (·.frame)
abbrev Cx.fs(X:Cx):List Addr:=frs X.outer
def Vis(sc:Scope)(x:Str):Prop:=sc.names.lookup x=some .local\/sc.names.lookup x=some .cell\/sc.names.lookup x=some .free
def Loc(sc:Scope)(x:Str):Prop:=sc.names.lookup x=some .local\/sc.names.lookup x=some .cell
def Cy(env:Env)(h:Heap)(m:Ks)(x:Str)(u:Value):Prop:=
 (env.kindOf x=some .local/\m x=some u)\/((env.kindOf x=some .cell\/env.kindOf x=some .free)/\∃c,env.cells.lookup x=some c/\h.IsCell c (some u))
structure Cx.Ok (X:Cx):Prop where
 mod:Mod X.K X.mg X.base
 kind:X.env.scope.kind=.function
 glob:X.env.globals=mainGlobals
 blt:X.env.builtins=builtinsNs
 above:X.s₀.heap.objs.size<=X.env.locals
 inj:∀x y c,X.env.cells.lookup x=some c->X.env.cells.lookup y=some c->x=y
 has:∀x,(X.env.kindOf x=some .cell\/X.env.kindOf x=some .free)->∃c,X.env.cells.lookup x=some c
 cab:∀x c,X.fn x=true->X.env.cells.lookup x=some c->X.s₀.heap.objs.size<=c
 hd:X.calm=true->X.A.handled=none
 frames:X.A.frames=some X.stack
 stk:X.stack=X.outer\/(X.stack=X.env::X.outer/\X.env.frame=some X.env.locals)
 exf:∀b∈X.ex,b≠X.env.locals/\∀x c,X.env.cells.lookup x=some c->c≠b
 bs:∀b o,X.base.get? b=some o->X.s₀.heap.get? b=some o/\X.H₀ b=none
 bsz:X.base.objs.size<=X.s₀.heap.objs.size
 noex:∀b o,X.base.get? b=some o->b∉X.ex
 exfs:∀b∈X.ex,b∉X.fs
 funs:X.s₀.heap.FunFrames X.base X.outer
 frf:∀b∈X.fs,X.H₀ b=none
structure Inv (X:Cx) (pz:List (Addr×Obj)) (σ:List (Option V)) (H:Hp) (s:Shared):Prop where
 ok:X.Ok
 os:s.os=X.s₀.os
 bare:AllBare s.gens
 base:Un X.fs X.ex X.H₀ H X.s₀.heap s.heap
 loc:∃m,s.heap.Ns X.env.locals m/\∀(i:Nat) (x:Str) (v:V),X.N[i]?=some x->σ[i]?=some (some v)->Vis X.env.scope x->∃u,RelV v u/\Cy X.env s.heap m x u
 cell:∀x c,X.env.cells.lookup x=some c->∃v,s.heap.IsCell c v
 free:H X.env.locals=none
 freeC:∀x c,X.env.cells.lookup x=some c->H c=none
 pin:∀p∈X.pn++pz,s.heap.get? p.1=some p.2/\H p.1=none/\p.1≠X.env.locals/\p.1∉X.fs/\∀v,p.2.data≠.cell v
 hok:HOk X.prog X.w H s.heap
 len:σ.length=X.N.length
section
variable{X:Cx}{pz:Kp}{σ:List (Option V)}{H H':Hp}{s:Shared}{h':Heap}
theorem Cx.Ok.nofr(ok:X.Ok){b:Addr}{o:Obj}(e:X.base.get? b=some o):b∉X.fs:=fun hb=>by
 have:=(ok.funs.mem hb).1;rw[e]at this;cases this
theorem Inv.bs(I:Inv X pz σ H s):∀b o,X.base.get? b=some o->s.heap.get? b=some o/\H b=none:=fun b o e=>
 ⟨I.base.keep b o (I.ok.bs b o e).1 (I.ok.bs b o e).2 (I.ok.nofr e) (I.ok.noex b o e),I.base.free b o (I.ok.bs b o e).1 (I.ok.bs b o e).2 (I.ok.noex b o e)⟩
theorem Inv.bk(I:Inv X pz σ H s):∀b o,X.base.get? b=some o->s.heap.get? b=some o:=fun b o e=>(I.bs b o e).1
theorem Inv.mod(I:Inv X pz σ H s):Mod X.K X.mg X.base:=I.ok.mod
theorem Inv.kIn(I:Inv X pz σ H s):X.K.In s.heap:=I.ok.mod.kin.keeps I.bk
theorem Inv.lt(I:Inv X pz σ H s):X.env.locals<s.heap.objs.size:=let ⟨_,hn,_⟩:=I.loc;hn.lt
theorem Inv.sz(I:Inv X pz σ H s):X.s₀.heap.objs.size<=s.heap.objs.size:=YH I.ok.above (Zu I.lt)
theorem Inv.nofs(I:Inv X pz σ H s){a:Addr}(h:s.heap.objs.size<=a):a∉X.fs:=fun hb=>by
 obtain⟨_,o,ho,_⟩:=I.ok.funs.mem hb;exact absurd (Ys (Yq ho) (YH I.sz h)) (Zb _)
theorem Inv.cne(I:Inv X pz σ H s):∀x c,X.env.cells.lookup x=some c->c≠X.env.locals:=fun x c e z=>by
 obtain⟨v,o,ho,hd⟩:=I.cell x c e;obtain⟨m,⟨o',es,ep,ho',hd',_⟩,_⟩:=I.loc;rw[z,ho']at ho;cases ho;rw[hd']at hd;cases hd
theorem Inv.funs(I:Inv X pz σ H s):s.heap.FunFrames X.base X.outer:=by
 have all:∀(l:List Env),(∀b∈frs l,b∈X.fs)->X.s₀.heap.FunFrames X.base l->s.heap.FunFrames X.base l:=by
  intro l;induction l with
  |nil=>intro _ _;trivial
  |cons env r ih=>
   intro hs hl;obtain⟨hk,⟨L,o,hf,hn,ho,hd⟩,hr⟩:=hl;have hL:L∈X.fs:=hs L (by unfold frs;rw[XJ,hf];exact Yf);obtain⟨sl,e⟩:=I.base.slot L o ho (I.ok.frf L hL) hL fun z=>I.ok.exfs L z hL
   exact⟨hk,⟨L,_,hf,hn,e,hd⟩,ih (fun b hb=>hs b (by unfold frs;rw[XJ,hf];exact Yc _ hb)) hr⟩
 exact all X.outer (fun _ hb=>hb) I.ok.funs
theorem Inv.stack(I:Inv X pz σ H s):s.heap.FunFrames X.base X.stack:=by
 rcases I.ok.stk with e|⟨e,hf⟩
 ·rw[e];exact I.funs
 ·rw[e];obtain⟨m,hn,_⟩:=I.loc;refine .cons (by rw[I.ok.kind];decide) hf hn ?_ I.funs;exact Heap.get?_none_of_le (YH I.ok.bsz I.ok.above)
theorem Inv.stkSub(I:Inv X pz σ H s):∀b∈frs X.stack,b∈X.env.locals::X.fs:=fun b hb=>by
 rcases I.ok.stk with e|⟨e,hf⟩
 ·rw[e]at hb;exact Yc _ hb
 ·rw[e]at hb;unfold frs at hb;rw[XJ,hf]at hb;exact hb
theorem Inv.stkFree(I:Inv X pz σ H s):∀b∈frs X.stack,H b=none:=fun b hb=>by
 rcases YF.mp (I.stkSub b hb)with e|hb
 ·rw[e];exact I.free
 ·obtain⟨_,o,ho,_⟩:=I.ok.funs.mem hb;exact I.base.free b o ho (I.ok.frf b hb) fun z=>I.ok.exfs b z hb
theorem Inv.step{g':Array GenState}{t':Nat}{d':Drawn}{ch:List Addr}(I:Inv X pz σ H s)
  (hch:∀b∈ch,(b∈X.ex\/X.s₀.heap.objs.size<=b)/\b≠X.env.locals/\(∀x c,X.env.cells.lookup x=some c->c≠b)/\∀p∈X.pn++pz,p.1≠b)
  (keep:∀b o,b≠X.env.locals->b∉X.fs->b∉ch->s.heap.get? b=some o->H b=none->h'.get? b=some o)
  (slot:∀b o,b≠X.env.locals->b∈X.fs->b∉ch->s.heap.get? b=some o->H b=none->∃sl,h'.get? b=some {o with slots:=sl}) (free:∀b o,b∉ch->s.heap.get? b=some o->H b=none->H' b=none)
  (there:∀b o,b∉ch->s.heap.get? b=some o->∃o',h'.get? b=some o')
  (tups:∀b xs,H b=some (.tup xs)->H' b=some (.tup xs)) (frzs:∀b o u,H b=some (.frz o u)->H' b=some (.frz o u)) (tbls:∀b ps,H b=some (.tbl ps)->∃more,H' b=some (.tbl (ps++more)))
  (ns:∀m,s.heap.Ns X.env.locals m->h'.Ns X.env.locals m) (hok:HOk X.prog X.w H' h') (hg:AllBare g') :
  Inv X pz σ H' {s with heap:=h',gens:=g',drawn:=d',toks:=t' }:=by
 have neL:∀b o,X.s₀.heap.get? b=some o->b≠X.env.locals:=fun b o e=>YG (Ys (Yq e) I.ok.above)
 have neC:∀b o,X.s₀.heap.get? b=some o->b∉X.ex->b∉ch:=fun b o e hx hb=>by
  rcases(hch b hb).1 with z|z
  ·exact hx z
  ·exact absurd (Ys (Yq e) z) (Zb _)
 have cellK:∀x c,X.env.cells.lookup x=some c->∀v,s.heap.IsCell c v->h'.IsCell c v:=fun x c e v hh_=>by
  obtain⟨o,ho,hd⟩:=hh_;have nch:c∉ch:=fun z=>(hch c z).2.2.1 x c e rfl
  by_cases hc:c∈X.fs
  ·obtain⟨sl,q⟩:=slot c o (I.cne x c e) hc nch ho (I.freeC x c e);exact⟨_,q,hd⟩
  ·exact⟨o,keep c o (I.cne x c e) hc nch ho (I.freeC x c e),hd⟩
 refine⟨I.ok,I.os,hg,⟨fun b o e n hb hx=>?_,fun b o e n hb hx=>?_,fun b o e n hx=>?_,fun b o e hx=>?_,fun b xs e=>tups b xs (I.base.tups b xs e),fun b o xs e=>frzs b o xs (I.base.frzs b o xs e),fun b ps e=>?_⟩,?_,fun x c e=>?_,?_,fun x c e=>?_,fun p hp=>?_,hok,I.len⟩
 ·exact keep b o (neL b o e) hb (neC b o e hx) (I.base.keep b o e n hb hx) (I.base.free b o e n hx)
 ·obtain⟨sl,e1⟩:=I.base.slot b o e n hb hx;obtain⟨sl',e2⟩:=slot b _ (neL b o e) hb (neC b o e hx) e1 (I.base.free b o e n hx);exact⟨sl',e2⟩
 ·obtain⟨o',e1⟩:=I.base.there b o e hx;exact free b o' (neC b o e hx) e1 (I.base.free b o e n hx)
 ·obtain⟨o',e1⟩:=I.base.there b o e hx;exact there b o' (neC b o e hx) e1
 ·obtain⟨m1,e1⟩:=I.base.tbls b ps e;obtain⟨m2,e2⟩:=tbls b _ e1;exact⟨m1++m2,by rw[e2,Array.append_assoc]⟩
 ·obtain⟨m,hn,hl⟩:=I.loc;refine⟨m,ns m hn,fun i x v e1 e2 e3=>?_⟩;obtain⟨u,r,l⟩:=hl i x v e1 e2 e3;refine⟨u,r,?_⟩;rcases l with l|⟨k,c,e,z⟩
  ·exact .inl l
  ·exact .inr ⟨k,c,e,cellK x c e _ z⟩
 ·obtain⟨v,z⟩:=I.cell x c e;exact⟨v,cellK x c e v z⟩
 ·obtain⟨m,⟨o,_,_,ho,_⟩,_⟩:=I.loc;exact free _ o (fun z=>(hch _ z).2.1 rfl) ho I.free
 ·obtain⟨v,o,ho,hd⟩:=I.cell x c e;exact free c o (fun z=>(hch c z).2.2.1 x c e rfl) ho (I.freeC x c e)
 ·obtain⟨e,n,ne,nf,d⟩:=I.pin p hp;have nch:p.1∉ch:=fun z=>(hch p.1 z).2.2.2 p hp rfl
  exact⟨keep p.1 p.2 ne nf nch e n,free p.1 p.2 nch e n,ne,nf,d⟩
theorem Inv.un{t':Nat}(I:Inv X pz σ H s)(u:Un X.fs [] H H' s.heap h')(hok:HOk X.prog X.w H' h'):Inv X pz σ H' {s with heap:=h',toks:=t' }:=by
 obtain⟨m,⟨o,es,ep,ho,r⟩,_⟩:=id I.loc;obtain⟨sl,hL⟩:=u.any ho I.free (by simp);exact I.step (g':=s.gens) (d':=s.drawn) (ch:=[]) (fun _ z=>nomatch z) (fun b o _ hb _ e n=>u.keep b o e n hb (by simp)) (fun b o _ hb _ e n=>u.slot b o e n hb (by simp)) (fun b o _ e n=>u.free b o e n (by simp)) (fun b o _ e=>u.there b o e (by simp)) u.tups u.frzs u.tbls (fun m' hm=>by
  obtain⟨o',es',ep',ho',r'⟩:=hm;rw[ho]at ho';cases ho';exact⟨_,es',ep',hL,r'⟩) hok I.bare
theorem Inv.call{g':Array GenState}{t':Nat}{d':Drawn}{ch:List Addr}(I:Inv X pz σ H s)(u:Un (frs X.stack) ch H H' s.heap h')(hok:HOk X.prog X.w H' h')(hg:AllBare g')
  (hch:∀b∈ch,(b∈X.ex\/X.s₀.heap.objs.size<=b)/\b≠X.env.locals/\(∀x c,X.env.cells.lookup x=some c->c≠b)/\∀p∈X.pn++pz,p.1≠b) :
  Inv X pz σ H' {s with heap:=h',gens:=g',drawn:=d',toks:=t' }:=by
 obtain⟨m,⟨o,es,ep,ho,r⟩,_⟩:=id I.loc;obtain⟨sl,hL⟩:=u.any ho I.free fun z=>(hch _ z).2.1 rfl
 exact I.step (ch:=ch) hch (fun b o hL hb hc e n=>u.keep b o e n (fun z=>(YF.mp (I.stkSub b z)).elim hL hb) hc) (fun b o _ _ hc e n=>u.any e n hc) (fun b o hc e n=>u.free b o e n hc) (fun b o hc e=>u.there b o e hc) u.tups u.frzs u.tbls (fun m' hm=>by
  obtain⟨o',es',ep',ho',r'⟩:=hm;rw[ho]at ho';cases ho';exact⟨_,es',ep',hL,r'⟩) hok hg
theorem Inv.turned{t':Nat}{it:Addr}(I:Inv X pz σ H s)(k:∀b o,b≠it->s.heap.get? b=some o->h'.get? b=some o)(hn:H it=none)(hL:it≠X.env.locals)
  (h1:it∈X.ex\/X.s₀.heap.objs.size<=it) (h2:∀x c,X.env.cells.lookup x=some c->c≠it) (h3:∀p∈X.pn++pz,p.1≠it):Inv X pz σ H {s with heap:=h',toks:=t' }:=by
 have nit:∀b u,H b=some u->b≠it:=fun b u e z=>by rw[z,hn]at e;cases e
 refine I.step (g':=s.gens) (d':=s.drawn) (ch:=[it]) (fun b hb=>?_) (fun b o _ _ hc e _=>k b o (fun z=>hc (by simp[z])) e) (fun b o _ _ hc e _=>⟨o.slots,k b o (fun z=>hc (by simp[z])) e⟩) (fun _ _ _ _ n=>n)
  (fun b o hc e=>⟨o,k b o (fun z=>hc (by simp[z])) e⟩) (fun _ _ e=>e) (fun _ _ _ e=>e) (fun b ps e=>⟨#[],by rw[e];simp⟩) (fun m hm=>?_) (fun b u e=>?_) I.bare
 ·have e:b=it:=by simpa using hb
  subst e;exact⟨h1,hL,h2,h3⟩
 ·obtain⟨o,es,ep,ho,r⟩:=hm;exact⟨o,es,ep,k _ o (XD hL) ho,r⟩
 ·refine(I.hok b u e).stay (fun c v hc q=>k c v ?_ q) (fun _ q=>q) fun _ _ q=>q;rcases hc with z|z
  ·rw[z];exact nit b u e
  ·exact nit c _ z
theorem Inv.tok(I:Inv X pz σ H s)(t:Nat):Inv X pz σ H {s with toks:=t}:=I.un (h':=s.heap) (t':=t) Un.refl I.hok
theorem Inv.kept{t':Nat}(I:Inv X pz σ H s)(k:∀b u,s.heap.get? b=some u->h'.get? b=some u):Inv X pz σ H {s with heap:=h',toks:=t' }:=I.un (Un.kept k) (I.hok.kept k)
theorem Inv.laid{a:Addr}{o:HO}{t':Nat}(I:Inv X pz σ H s)(k:∀b u,s.heap.get? b=some u->h'.get? b=some u)(hp:s.heap.objs.size<=a)(new:ObjOk X.prog X.w (upd H a o) h' a o) :
  Inv X pz σ (upd H a o) {s with heap:=h',toks:=t' }:=I.un (Un.laid k hp (I.hok.fresh hp)) (I.hok.laid k hp new)
theorem Inv.write{x e:Addr}{o:HO}{t':Nat}(I:Inv X pz σ H s)(mu:Mut (H x))(he:e=x\/H e=some (.own x))(k:∀b u,b≠e->s.heap.get? b=some u->h'.get? b=some u)(heo:∃u,h'.get? e=some u)
  (new:ObjOk X.prog X.w (upd H x o) h' x o):Inv X pz σ (upd H x o) {s with heap:=h',toks:=t' }:=I.un (Un.write mu he k heo) (I.hok.write mu he k heo new)
theorem Inv.weak{σ':List (Option V)}(I:Inv X pz σ H s)(hl:σ'.length=σ.length)(w:∀(i:Nat) v,σ'[i]?=some (some v)->σ[i]?=some (some v)):Inv X pz σ' H s:=
 ⟨I.ok,I.os,I.bare,I.base,let ⟨m,hn,hl'⟩:=I.loc;⟨m,hn,fun i x v e1 e2 e3=>hl' i x v e1 (w i v e2) e3⟩,I.cell,I.free,I.freeC,I.pin,I.hok,hl.trans I.len⟩
theorem Inv.pins_of{pz':Kp}(I:Inv X pz σ H s)(h:∀p∈pz',s.heap.get? p.1=some p.2/\H p.1=none/\p.1≠X.env.locals/\p.1∉X.fs/\∀v,p.2.data≠.cell v):Inv X pz' σ H s:=
 ⟨I.ok,I.os,I.bare,I.base,I.loc,I.cell,I.free,I.freeC,fun p hp=>(Zg.mp hp).elim (fun z=>I.pin p (List.mem_append_left _ z)) (h p),I.hok,I.len⟩
theorem ms{N:List Str}(hN:N.Nodup){i j:Nat}{x:Str}(a:N[i]?=some x)(b:N[j]?=some x):i=j:=by obtain⟨h1,e1⟩:=Yh.mp a;obtain⟨h2,e2⟩:=Yh.mp b;exact(List.getElem_inj hN).mp (e1.trans e2.symm)
theorem kx{M:Model}{A:Around}{E:Kv}{i:Nat}{x:Str}{v:V}{u:Value}{Q:Unit->Shared->Prop}(I:Inv X pz σ H s)(hN:X.N.Nodup)(hi:X.N[i]?=some x)(hx:Loc X.env.scope x)(r:RelV v u)
  (h:∀s',Inv X pz (σ.set i (some v)) H s'->(∃a,Heap.SameBut a s.heap s'.heap/\(a=X.env.locals\/X.env.cells.lookup x=some a))->Q () s') (hf:X.fn x=true\/X.env.scope.names.lookup x=some .local:=by first|exact .inl rfl|exact .inr rfl|assumption):wpAny M A (storeName X.env x u) Q E s:=by
 obtain⟨m,hn,hl⟩:=id I.loc;have hcls:(X.env.scope.kind == .class||(X.env.scope.kind == .module&&X.env.locals != X.env.globals))=false:=by rw[I.ok.kind];rfl
 have hiσ:i<σ.length:=by rw[I.len];exact(Yh.mp hi).1
 have cne:=I.cne;have tracked:∀{a:Addr}{h':Heap},(∃o,s.heap.get? a=some o/\H a=none)->Heap.SameBut a s.heap h'->HOk X.prog X.w H h':=fun{a h'} ha hs b ob e=>by
  obtain⟨_,_,hfree⟩:=ha;refine(I.hok b ob e).stay (fun c w' hc q=>(hs.2 c ?_).trans q) (fun _ q=>q) fun _ _ q=>q;rintro rfl;rcases hc with rfl|hc
  ·rw[hfree]at e;cases e
  ·rw[hfree]at hc;cases hc
 rcases hx with hk|hk
 ·refine wpAny_storeName_local hk hn (fun h' hn' hs=>?_) hcls;obtain⟨oL,_,_,hoL,_⟩:=id hn;refine h _ ⟨I.ok,I.os,I.bare,⟨fun b o e n hb hx=>?_,fun b o e n hb hx=>?_,I.base.free,fun b o e hx=>?_,I.base.tups,I.base.frzs,I.base.tbls⟩,⟨_,hn',fun j y v' e1 e2 e3=>?_⟩,fun y c e=>?_,I.free,I.freeC,fun p hp=>?_,tracked ⟨oL,hoL,I.free⟩ hs,by simpa using I.len⟩ ⟨_,hs,.inl rfl⟩
  ·exact(hs.2 b (YG (Ys (Yq e) I.ok.above))).trans (I.base.keep b o e n hb hx)
  ·obtain⟨sl,e1⟩:=I.base.slot b o e n hb hx;exact⟨sl,(hs.2 b (YG (Ys (Yq e) I.ok.above))).trans e1⟩
  ·obtain⟨o',e1⟩:=I.base.there b o e hx;exact⟨o',(hs.2 b (YG (Ys (Yq e) I.ok.above))).trans e1⟩
  ·by_cases hj:j=i
   ·subst hj;rw[hi]at e1;cases e1;rw[ZI hiσ]at e2;cases e2;exact⟨u,r,.inl ⟨hk,by simp⟩⟩
   ·rw[YZ (XD hj)]at e2;obtain⟨u',r',q⟩:=hl j y v' e1 e2 e3;refine⟨u',r',?_⟩;rcases q with⟨k,e⟩|⟨k,c,e,z⟩
    ·refine .inl ⟨k,?_⟩;have:y≠x:=fun e=>hj (ms hN e1 (e ▸ hi))
     simp[this,e]
    ·exact .inr ⟨k,c,e,z.sameBut hs (cne y c e)⟩
  ·obtain⟨w',z⟩:=I.cell y c e;exact⟨w',z.sameBut hs (cne y c e)⟩
  ·obtain⟨e,n,ne,nf,d⟩:=I.pin p hp;exact⟨(hs.2 p.1 ne).trans e,n,ne,nf,d⟩
 ·have hfn:X.fn x=true:=by
   rcases hf with z|z
   ·exact z
   ·rw[z]at hk;cases hk
  obtain⟨c,hc⟩:=I.ok.has x (.inl hk);obtain⟨w',z⟩:=I.cell x c hc;refine wpAny_storeName_cell I.ok.kind hk hc z (fun h' hc' hs=>?_);obtain⟨oc,hoc,hocd⟩:=id z;refine h {s with heap:=h' } ⟨I.ok,I.os,I.bare,⟨fun b o e n hb hx=>?_,fun b o e n hb hx=>?_,I.base.free,fun b o e hx=>?_,I.base.tups,I.base.frzs,I.base.tbls⟩,⟨m,hn.sameBut hs (XD (cne x c hc)),fun j y v' e1 e2 e3=>?_⟩,fun y c' e=>?_,I.free,I.freeC,fun p hp=>?_,tracked ⟨oc,hoc,I.freeC x c hc⟩ hs,by simpa using I.len⟩ ⟨c,hs,.inr hc⟩
  ·exact(hs.2 b (YG (Ys (Yq e) (I.ok.cab x c hfn hc)))).trans (I.base.keep b o e n hb hx)
  ·obtain⟨sl,e1⟩:=I.base.slot b o e n hb hx;exact⟨sl,(hs.2 b (YG (Ys (Yq e) (I.ok.cab x c hfn hc)))).trans e1⟩
  ·obtain⟨o',e1⟩:=I.base.there b o e hx;exact⟨o',(hs.2 b (YG (Ys (Yq e) (I.ok.cab x c hfn hc)))).trans e1⟩
  ·by_cases hj:j=i
   ·subst hj;rw[hi]at e1;cases e1;rw[ZI hiσ]at e2;cases e2;exact⟨u,r,.inr ⟨.inl hk,c,hc,hc'⟩⟩
   ·rw[YZ (XD hj)]at e2;obtain⟨u',r',q⟩:=hl j y v' e1 e2 e3;refine⟨u',r',?_⟩;rcases q with q|⟨k,c',e,z'⟩
    ·exact .inl q
    ·refine .inr ⟨k,c',e,z'.sameBut hs ?_⟩;rintro rfl;exact hj (ms hN e1 (I.ok.inj _ _ _ e hc ▸ hi))
  ·by_cases hcc:c'=c
   ·subst hcc;exact⟨_,hc'⟩
   ·obtain⟨w2,z2⟩:=I.cell y c' e;exact⟨w2,z2.sameBut hs hcc⟩
  ·obtain⟨e,n,ne,nf,d⟩:=I.pin p hp;refine⟨(hs.2 p.1 ?_).trans e,n,ne,nf,d⟩;intro q;rw[q,hoc]at e;have q':oc=p.2:=Yr e;exact d w' (by rw[<-q'];exact hocd)
theorem me{M:Model}{A:Around}{E:Kv}{i:Nat}{x:Str}{v:V}{u:Value}{Q:Unit->Shared->Prop}(I:Inv X pz σ H s)(hN:X.N.Nodup)(hi:X.N[i]?=some x)(hx:Loc X.env.scope x)(r:RelV v u)
  (h:∀s',Inv X pz (σ.set i (some v)) H s'->Q () s') (hf:X.fn x=true\/X.env.scope.names.lookup x=some .local:=by first|exact .inl rfl|exact .inr rfl|assumption):wpAny M A (storeName X.env x u) Q E s:=
 kx I hN hi hx r (fun s' I' _=>h s' I') hf
theorem Inv.call'{s':Shared}{ch:List Addr}(I:Inv X pz σ H s)(ho:s'.os=s.os)(u:Un (frs X.stack) ch H H' s.heap s'.heap)(hok:HOk X.prog X.w H' s'.heap)(hg:AllBare s'.gens)
  (hch:∀b∈ch,(b∈X.ex\/X.s₀.heap.objs.size<=b)/\b≠X.env.locals/\(∀x c,X.env.cells.lookup x=some c->c≠b)/\∀p∈X.pn++pz,p.1≠b):Inv X pz σ H' s':=by
 obtain⟨h',g',d',t',o'⟩:=s';have e:o'=s.os:=ho;subst e;exact I.call (g':=g') (t':=t') (d':=d') u hok hg hch
end
abbrev XK:=Value->Option Addr->Hp->Prop
abbrev St:=List (Option V)
abbrev VK:=V->Hp->Prop
abbrev TE:=St->Hp->VK->Prop
abbrev TT:=St->Hp->(Bool->Hp->Prop)->Prop
abbrev TA:=St->Hp->(List V->Hp->Prop)->Prop
structure Ends where
 nx:St->Hp->Prop
 rt:VK
 bk:St->Hp->Prop:=fun _ _=>False
 ct:St->Hp->Prop:=fun _ _=>False
abbrev TS:=Ends->St->Hp->Prop
def EP(X:Cx)(pz:Kp)(σ:St)(Q:VK)(u:Value)(s':Shared):Prop:=∃v H',Inv X pz σ H' s'/\RelV v u/\Q v H'
def TP(X:Cx)(pz:Kp)(σ:St)(Q:Bool->Hp->Prop)(b:Bool)(s':Shared):Prop:=∃H',Inv X pz σ H' s'/\Q b H'
def AP(X:Cx)(pz:Kp)(σ:St)(Q:List V->Hp->Prop)(us:List Value)(s':Shared):Prop:=∃vs H',Inv X pz σ H' s'/\Vals vs us/\Q vs H'
def SP(X:Cx)(pz:Kp)(D:Ends)(f:Flow)(s':Shared):Prop:=
 match f with
 |.next=>∃σ' H',Inv X pz σ' H' s'/\D.nx σ' H'
 |.brk=>∃σ' H',Inv X pz σ' H' s'/\D.bk σ' H'
 |.cont=>∃σ' H',Inv X pz σ' H' s'/\D.ct σ' H'
 |.ret u=>∃v σ' H',Inv X pz σ' H' s'/\RelV v u/\D.rt v H'
def PE(X:Cx)(e:Expr)(t:TE):Prop:=
 ∀(pz:Kp) (s:Shared) (σ:St) (H:Hp) (Q:VK),Inv X pz σ H s->t σ H Q->wpAny (model X.prog X.w) X.A (eval e X.env) (EP X pz σ Q) X.xe s
def PT(X:Cx)(e:Expr)(t:TT):Prop:=
 ∀(pz:Kp) (s:Shared) (σ:St) (H:Hp) (Q:Bool->Hp->Prop),Inv X pz σ H s->t σ H Q->wpAny (model X.prog X.w) X.A (isTrue e X.env (eval e X.env)) (TP X pz σ Q) X.xe s
def PW(X:Cx)(e:Expr)(t:TT):Prop:=
 ∀(whole:Sem Value) (pz:Kp) (s:Shared) (σ:St) (H:Hp) (Q:Bool->Hp->Prop),Inv X pz σ H s->t σ H Q->wpAny (model X.prog X.w) X.A (isTrue e X.env whole) (TP X pz σ Q) X.xe s
theorem PW.pt{X:Cx}{e:Expr}{t:TT}(h:PW X e t):PT X e t:=h _
def PA(X:Cx)(es:List Expr)(t:TA):Prop:=
 ∀(pos:Pos) (pz:Kp) (s:Shared) (σ:St) (H:Hp) (Q:List V->Hp->Prop),Inv X pz σ H s->t σ H Q->wpAny (model X.prog X.w) X.A (spliced (backTo pos (starEach es X.env))) (AP X pz σ Q) X.xe s
def PS(X:Cx)(st:Stmt)(t:TS):Prop:=
 ∀(pz:Kp) (s:Shared) (σ:St) (H:Hp) (D:Ends),Inv X pz σ H s->t D σ H->wpAny (model X.prog X.w) X.A (exec st X.env) (SP X pz D) X.xe s
def PSs(X:Cx)(st:List Stmt)(t:TS):Prop:=
 ∀(pz:Kp) (s:Shared) (σ:St) (H:Hp) (D:Ends),Inv X pz σ H s->t D σ H->wpAny (model X.prog X.w) X.A (execs st X.env) (SP X pz D) X.xe s
theorem thn{α:Type}{t:Sem α}{Q Q':α->Shared->Prop}{M:Model}{A:Around}{E:Kv}{s:Shared}(h:wpAny M A t Q E s)(hQ:∀a s,Q a s->Q' a s):wpAny M A t Q' E s:=Zw h hQ fun _ _ x=>x
theorem bn{α β:Type}{X:Cx}{pz:Kp}{σ:St}{t:Sem β}{R:α->β->Prop}{Q:α->Hp->Prop}{T:β->Shared->Prop}{M:Model}{A:Around}{E:Kv}{s:Shared}
  (h:wpAny M A t (fun u s1=>∃x H1,Inv X pz σ H1 s1/\R x u/\Q x H1) E s) (k:∀u s1 x H1,Inv X pz σ H1 s1->R x u->Q x H1->T u s1):wpAny M A t T E s:=
 thn h fun u s1 z=>by obtain⟨x,H1,a,b,c⟩:=z;exact k u s1 x H1 a b c
theorem un7{β γ δ α:Type}{B A Z:β->γ->δ->α->Prop}{C:Prop}(k:∀P F ρ d,B P F ρ d->A P F ρ d->Z P F ρ d->C)(h:∃P F ρ d,B P F ρ d/\A P F ρ d/\Z P F ρ d):C:=by obtain⟨P,F,ρ,d,a,b,c⟩:=h;exact k P F ρ d a b c
section
variable{X:Cx}
def cG(i:Nat):TE:=fun σ H Q=>∃v,σ[i]?=some (some v)/\Q v H
def tC(v:V):TE:=fun _ H Q=>Q v H
theorem xW{i:Nat}{x:Str}{pos:Pos}(hN:X.N[i]?=some x)(hv:Vis X.env.scope x)(hd:(x == ("__debug__":Str))=false:=by decide)(hcd:(x == ("__classdict__":Str))=false:=by decide):PE X (.Name x pos) (cG i):=by
 intro pz s σ H Q I h;obtain⟨v,e,h⟩:=h;obtain⟨m,hn,hl⟩:=I.loc;obtain⟨u,r,l⟩:=hl i x v hN e hv;have fin:EP X pz σ Q u s:=⟨v,H,I,r,h⟩
 rcases l with⟨hk,hm⟩|⟨hk,c,hc,hcell⟩
 ·exact wpAny_Name (wpAny_loadName_local I.ok.kind hk hn hm fin) hd
 ·rcases hk with hk|hk
  ·exact wpAny_Name (wpAny_loadName_cell I.ok.kind hk hc hcell fin) hd
  ·exact wpAny_Name (wpAny_loadName_free I.ok.kind hk hc hcell fin hcd) hd
theorem nE{i j pos}:PE X (.Constant (.int i) j pos) (tC (.int i)):=fun _ _ _ H _ I h=>wpAny_Constant_int ⟨.int i,H,I.tok _,⟨_,rfl⟩,h⟩
theorem AG{b j pos}:PE X (.Constant (.bool b) j pos) (tC (.bl b)):=fun _ _ _ H _ I h=>Constant_bool ⟨.bl b,H,I,rfl,h⟩
theorem zv{x j pos}:PE X (.Constant (.str x) j pos) (tC (.str x)):=fun _ _ _ H _ I h=>Calls.Constant_str ⟨.str x,H,I.tok _,⟨_,rfl⟩,h⟩
def Gl(X:Cx)(x:Str):Prop:=X.env.kindOf x=some .globalImplicit
theorem k5{E:Kv}{pz:Kp}{s:Shared}{σ:St}{H:Hp}{x:Str}{u:Value}{pos:Pos}{Q:Kv}(I:Inv X pz σ H s)(hg:Gl X x)(hm:X.mg x=some u)(h:Q u s)
  (hd:(x == ("__debug__":Str))=false:=by decide):wpAny (model X.prog X.w) X.A (eval (.Name x pos) X.env) Q E s:=
 Calls.Name_function_global I.ok.kind hg (Calls.loadGlobal_global (by rw[I.ok.glob];exact I.mod.glob.keeps I.bk) hm h) hd
theorem gD{E:Kv}{pz:Kp}{s:Shared}{σ:St}{H:Hp}{x:Str}{u:Value}{pos:Pos}{Q:Kv}(I:Inv X pz σ H s)(hg:Gl X x)(hm:X.mg x=none)(hv:bootBuiltins x=some u)(h:Q u s)
  (hn:x ≠ "__name__":=by decide) (hd:(x == ("__debug__":Str))=false:=by decide):wpAny (model X.prog X.w) X.A (eval (.Name x pos) X.env) Q E s:=by
 obtain⟨mb,h1,h2⟩:=I.mod.blt;exact Calls.Name_function_global I.ok.kind hg (Calls.loadGlobal_builtin (by rw[I.ok.glob];exact I.mod.glob.keeps I.bk) hm (by rw[I.ok.blt];exact h1.keeps I.bk) ((h2 x hn).trans hv) h) hd
theorem vV{x:Str}{v:V}{u:Value}{pos:Pos}(hg:Gl X x)(hm:X.mg x=some u)(r:RelV v u)(hd:(x == ("__debug__":Str))=false:=by decide):PE X (.Name x pos) (tC v):=
 fun _ _ _ H _ I h=>k5 I hg hm ⟨v,H,I,r,h⟩ hd
theorem vP{x:Str}{v:V}{u:Value}{pos:Pos}(hg:Gl X x)(hm:X.mg x=none)(hv:bootBuiltins x=some u)(r:RelV v u)(hn:x ≠ "__name__":=by decide)(hd:(x == ("__debug__":Str))=false:=by decide):PE X (.Name x pos) (tC v):=
 fun _ _ _ H _ I h=>gD I hg hm hv ⟨v,H,I,r,h⟩ hn hd
variable{a b:Expr}{ta tb:TE}{pos:Pos}
def tB(t:TE):TT:=fun σ H Q=>t σ H fun x H1=>∃c,x=.bl c/\Q c H1
theorem xz{e:Expr}{t:TE}(h:PE X e t)(he:∀whole,isTrue e X.env whole=(do let v <-whole;standAt e.pos;holding [v] (truthy v)):=by intro _;rfl):PT X e (tB t):=by intro pz s σ H Q I hw;refine isTrue_plain (bn (h pz s σ H _ I hw) fun v s1 x H1 I1 r1 q1=>?_) (he _);obtain⟨d,rfl,q⟩:=q1;cases r1;exact Zr ⟨H1,I1,q⟩
variable{tA tB':TT}{bP:List Expr}
def CF(t u:TT):TT:=fun σ H Q=>t σ H fun c H1=>if c=true then u σ H1 Q else Q false H1
def tOr(t u:TT):TT:=fun σ H Q=>t σ H fun c H1=>if c=true then Q true H1 else u σ H1 Q
def Cr(t:TT):TT:=fun σ H Q=>t σ H fun c H1=>Q (!c) H1
theorem vo(ha:PT X a tA):PW X (.BoolOp .And [a] pos) tA:=by
 intro wh pz s σ H Q I h;refine isTrue_and (thn (ha pz s σ H Q I h) fun c s1 e=>?_);cases c with
 |true=>exact isTrue_and_nil e
 |false=>exact e
theorem xU(ha:PT X a tA):PW X (.BoolOp .Or [a] pos) tA:=by
 intro wh pz s σ H Q I h;refine isTrue_or (thn (ha pz s σ H Q I h) fun c s1 e=>?_);cases c with
 |false=>exact isTrue_or_nil e
 |true=>exact e
theorem yT(ha:PT X a tA)(hb:PW X (.BoolOp .And (b::bP) pos) tB'):PW X (.BoolOp .And (a::b::bP) pos) (CF tA tB'):=by
 intro wh pz s σ H Q I h;refine isTrue_and (thn (ha pz s σ H _ I h) fun c s1 hh_=>?_);obtain⟨H1,I1,q1⟩:=hh_;cases c with
 |true=>exact hb wh pz s1 σ H1 Q I1 q1
 |false=>exact⟨H1,I1,q1⟩
theorem A4(ha:PT X a tA)(hb:PW X (.BoolOp .Or (b::bP) pos) tB'):PW X (.BoolOp .Or (a::b::bP) pos) (tOr tA tB'):=by
 intro wh pz s σ H Q I h;refine isTrue_or (thn (ha pz s σ H _ I h) fun c s1 hh_=>?_);obtain⟨H1,I1,q1⟩:=hh_;cases c with
 |true=>exact⟨H1,I1,q1⟩
 |false=>exact hb wh pz s1 σ H1 Q I1 q1
theorem xR(ha:PT X a tA):PT X (.UnaryOp .Not a pos) (Cr tA):=by intro pz s σ H Q I h;exact isTrue_not (ha pz s σ H (fun c H1=>Q (!c) H1) I h)
def BK(ta tb:TE):TE:=fun σ H Q=>ta σ H fun x H1=>∃c,x=.bl c/\if c=true then tb σ H1 Q else Q (.bl false) H1
def AS(ta:TE):TE:=fun σ H Q=>ta σ H fun x H1=>∃c,x=.bl c/\Q (.bl (!c)) H1
theorem yC{op}{t:TE}(h:PE X a t):PE X (.BoolOp op [a] pos) t:=fun pz s σ H Q I hw=>BoolOp_one (h pz s σ H Q I hw)
theorem yq(ha:PE X a ta)(hb:PE X (.BoolOp .And (b::bP) pos) tb):PE X (.BoolOp .And (a::b::bP) pos) (BK ta tb):=by
 intro pz s σ H Q I h;refine BoolOp_and (bn (ha pz s σ H _ I h) fun v s1 x H1 I1 r1 q1=>?_);obtain⟨c,rfl,q1⟩:=q1;cases r1;refine Zr ?_;cases c with
 |true=>exact hb pz s1 σ H1 Q I1 q1
 |false=>exact⟨.bl false,H1,I1,rfl,q1⟩
theorem yk(ha:PE X a ta):PE X (.UnaryOp .Not a pos) (AS ta):=by intro pz s σ H Q I h;refine UnaryOp_ (bn (ha pz s σ H _ I h) fun v s1 x H1 I1 r1 q1=>?_);obtain⟨c,rfl,q1⟩:=q1;cases r1;exact not_of (Zr ⟨.bl (!c),H1,I1,rfl,q1⟩)
def tIf(t:TT)(ta tb:TE):TE:=fun σ H Q=>t σ H fun c H1=>if c=true then ta σ H1 Q else tb σ H1 Q
theorem uj{c:Expr}(hc:PT X c tA)(ha:PE X a ta)(hb:PE X b tb):PE X (.IfExp c a b pos) (tIf tA ta tb):=by
 intro pz s σ H Q I h;refine wpAny_IfExp (thn (hc pz s σ H _ I h) fun d s1 hh_=>?_);obtain⟨H1,I1,q1⟩:=hh_;cases d with
 |true=>exact ha pz s1 σ H1 Q I1 q1
 |false=>exact hb pz s1 σ H1 Q I1 q1
end
def SqL(K:Kq)(H:Hp)(a:Addr)(xs:List V):Prop:=
 Rd H a (.lst xs) \/
  ∃(o:Obj) (its:Array Value) (n:Nat),K.lookup a=some o/\o.cls=.type "list"/\o.dict=none/\o.data=.seq its n/\its.size<=sizeLine/\Vals xs its.toList
def SqT(K:Kq)(H:Hp)(a:Addr)(xs:List V):Prop:=
 Rd H a (.tup xs) \/
  ∃(o:Obj) (its:Array Value) (n:Nat),K.lookup a=some o/\o.cls=.type "tuple"/\o.data=.seq its n/\its.size<=sizeLine/\Vals xs its.toList
def Cd:Value->Option V
 |.none=>some .non
 |.bool b=>some (.bl b)
 |.int i _=>some (.int i)
 |.str x _=>some (.str x)
 |.bytes b _=>some (.byt b)
 |.float b _=>some (.flt b)
 |.ref a=>some (.ref a)
 |.type n=>some (.ty n)
 |_=>none
theorem RelV.abs{x:V}{u:Value}(r:RelV x u):Cd u=some x:=by
 cases x with
 |non=>cases r;rfl
 |bl _=>cases r;rfl
 |int _=>obtain⟨t,rfl⟩:=r;rfl
 |str _=>obtain⟨t,rfl⟩:=r;rfl
 |byt _=>obtain⟨t,rfl⟩:=r;rfl
 |flt _=>obtain⟨t,rfl⟩:=r;rfl
 |ref _=>cases r;rfl
 |ty _=>cases r;rfl
theorem RelV.inj{x y:V}{u:Value}(r:RelV x u)(q:RelV y u):x=y:=Yr (r.abs.symm.trans q.abs)
theorem Vals.inj{xs ys:List V}{us:List Value}(h:Vals xs us):Vals ys us->xs=ys:=by
 induction h generalizing ys with
 |nil=>intro q;cases q;rfl
 |cons r _ ih=>
  intro q;cases q with
  |cons r' t'=>rw[r.inj r',ih t']
section
variable{X:Cx}{pz:Kp}{σ:St}{H:Hp}{s:Shared}{a:Addr}{xs ys:List V}
theorem SqL.of{K:Kq}(h:H a=some (.lst xs)):SqL K H a xs:=.inl (.inl h)
theorem SqT.of{K:Kq}(h:H a=some (.tup xs)):SqT K H a xs:=.inl (.inl h)
theorem Inv.list(I:Inv X pz σ H s)(h:SqL X.K H a xs):∃its:List Value,Vals xs its/\PlainL s.heap a its.toArray/\xs.length<=sizeLine:=by
 rcases h with h|⟨o,its,n,hk,hc,hd,hs,hz,r⟩
 ·obtain⟨z,its,n,r,e⟩:=h.ok I.hok;exact⟨its,r,⟨_,n,e,rfl,rfl,rfl⟩,z⟩
 ·refine⟨its.toList,r,⟨o,n,I.kIn a o hk,hc,hd,by simpa using hs⟩,?_⟩;have e:=r.length;simp only[Zs]at e;omega
theorem Inv.tuple(I:Inv X pz σ H s)(h:SqT X.K H a xs):∃its:List Value,Vals xs its/\IsTup s.heap a its.toArray/\xs.length<=sizeLine:=by
 rcases h with h|⟨o,its,n,hk,hc,hs,hz,r⟩
 ·obtain⟨z,its,r,p,_⟩:=h.ok I.hok;exact⟨its,r,p,z⟩
 ·refine⟨its.toList,r,⟨o,I.kIn a o hk,hc,n,by simpa using hs⟩,?_⟩;have e:=r.length;simp only[Zs]at e;omega
theorem Inv.list_inj(I:Inv X pz σ H s)(h:SqL X.K H a xs)(h':SqL X.K H a ys):xs=ys:=by
 obtain⟨its,r,⟨o,n,e,_,_,d⟩,_⟩:=I.list h;obtain⟨its',r',⟨o',n',e',_,_,d'⟩,_⟩:=I.list h';rw[e]at e';cases e';rw[d]at d';injection d' with d1 _;have:its=its':=by simpa using Zi Array.toList d1
 subst this;exact r.inj r'
theorem Inv.tuple_inj(I:Inv X pz σ H s)(h:SqT X.K H a xs)(h':SqT X.K H a ys):xs=ys:=by
 obtain⟨its,r,⟨o,e,_,n,d⟩,_⟩:=I.tuple h;obtain⟨its',r',⟨o',e',_,n',d'⟩,_⟩:=I.tuple h';rw[e]at e';cases e';rw[d]at d';injection d' with d1 _;have:its=its':=by simpa using Zi Array.toList d1
 subst this;exact r.inj r'
end
abbrev Cx.wish(X:Cx)(E:Kv):Cx:={X with xe:=E}
abbrev Cx.nox(X:Cx):Cx:=X.wish fun _ _=>False
theorem Cx.Ok.wish{X:Cx}(ok:X.Ok)(E:Kv):(X.wish E).Ok:=
 ⟨ok.mod,ok.kind,ok.glob,ok.blt,ok.above,ok.inj,ok.has,ok.cab,ok.hd,ok.frames,ok.stk,ok.exf,ok.bs,ok.bsz,ok.noex,ok.exfs,ok.funs,ok.frf⟩
theorem Cx.Ok.unwish{X:Cx}{E:Kv}(ok:(X.wish E).Ok):X.Ok:=
 ⟨ok.mod,ok.kind,ok.glob,ok.blt,ok.above,ok.inj,ok.has,ok.cab,ok.hd,ok.frames,ok.stk,ok.exf,ok.bs,ok.bsz,ok.noex,ok.exfs,ok.funs,ok.frf⟩
section
variable{X:Cx}{pz:Kp}{σ:St}{H:Hp}{s:Shared}{E:Kv}
theorem Inv.wish(I:Inv X pz σ H s)(E:Kv):Inv (X.wish E) pz σ H s:=⟨I.ok.wish E,I.os,I.bare,I.base,I.loc,I.cell,I.free,I.freeC,I.pin,I.hok,I.len⟩
theorem Inv.unwish(I:Inv (X.wish E) pz σ H s):Inv X pz σ H s:=⟨I.ok.unwish,I.os,I.bare,I.base,I.loc,I.cell,I.free,I.freeC,I.pin,I.hok,I.len⟩
theorem SP.unwish{D:Ends}{f:Flow}{s':Shared}(h:SP (X.wish E) pz D f s'):SP X pz D f s':=by
 cases f with
 |next=>obtain⟨σ',H',I,q⟩:=h;exact⟨σ',H',I.unwish,q⟩
 |brk=>obtain⟨σ',H',I,q⟩:=h;exact⟨σ',H',I.unwish,q⟩
 |cont=>obtain⟨σ',H',I,q⟩:=h;exact⟨σ',H',I.unwish,q⟩
 |ret u=>obtain⟨v,σ',H',I,r,q⟩:=h;exact⟨v,σ',H',I.unwish,r,q⟩
theorem PSs.nox{st:List Stmt}{t:TS}(h:PSs X.nox st t):PSs X st t:=fun pz s σ H D I hw=>
 Zw (h pz s σ H D (I.wish _) hw) (fun _ _ q=>q.unwish) fun _ _ z=>False.elim z
end
section
variable{X:Cx}{st:Stmt}{bP:List Stmt}{t u:TS}{e:Expr}{te:TE}{pos:Pos}
def Ai:TS:=fun D σ H=>D.nx σ H
def C1(t u:TS):TS:=fun D σ H=>t {D with nx:=u D} σ H
theorem wG:PSs X [] Ai:=fun _ _ σ H _ I h=>XL ⟨σ,H,I,h⟩
theorem sF(h1:PS X st t)(h2:PSs X bP u):PSs X (st::bP) (C1 t u):=by
 intro pz s σ H D I h;refine wpAny_execs_cons (thn (h1 pz s σ H {D with nx:=u D} I h) fun f s1 q=>?_);cases f with
 |next=>
  obtain⟨σ',H',I',q⟩:=q;exact h2 pz s1 σ' H' D I' q
 |ret v=>exact q
 |brk=>exact q
 |cont=>exact q
theorem wk(h1:PS X st t):PSs X [st] t:=by
 intro pz s σ H D I h;refine wpAny_execs_cons (thn (h1 pz s σ H D I h) fun f s1 q=>?_);cases f with
 |next=>exact XL q
 |ret v=>exact q
 |brk=>exact q
 |cont=>exact q
theorem Inv.quiet{pz:Kp}{σ:St}{H:Hp}{s:Shared}(I:Inv X pz σ H s):interactive X.env=false:=by simp[interactive,I.ok.kind]
def BG(te:TE):TS:=fun D σ H=>te σ H fun _ H1=>D.nx σ H1
theorem cK(he:PE X e te)(hs:swapsWith e none pos.line X.env=pure false:=by rfl):PS X (.Expr e pos) (BG te):=by intro pz s σ H D I h;exact wpAny_Expr_any (bn (he pz s σ H _ I h) fun v s1 x H1 I1 r1 q1=>⟨σ,H1,I1,q1⟩) I.quiet hs
def CJ(te:TE):TS:=fun D σ H=>te σ H D.rt
theorem nB(he:PE X e te):PS X (.Return (some e) pos) (CJ te):=by intro pz s σ H D I h;exact wpAny_Return_some (bn (he pz s σ H _ I h) fun v s1 x H1 I1 r1 q1=>⟨x,σ,H1,I1,r1,q1⟩)
def AI:TS:=fun D _ H=>D.rt .non H
theorem vR:PS X (.Return none pos) AI:=fun _ _ σ H _ I h=>wpAny_Return_none ⟨.non,σ,H,I,rfl,h⟩
def C5(c:TT)(t u:TS):TS:=fun D σ H=>c σ H fun b H1=>if b=true then t D σ H1 else u D σ H1
theorem AH{c:Expr}{a b:List Stmt}{tc:TT}(hc:PT X c tc)(ha:PSs X a t)(hb:PSs X b u):PS X (.If c a b pos) (C5 tc t u):=by
 intro pz s σ H D I h;refine wpAny_If (thn (hc pz s σ H _ I h) fun d s1 hh_=>?_);obtain⟨H1,I1,q1⟩:=hh_;cases d with
 |true=>exact ha pz s1 σ H1 D I1 q1
 |false=>exact hb pz s1 σ H1 D I1 q1
def xK:TS:=fun _ _ _=>False
theorem sS:PS X st xK:=fun _ _ _ _ _ _ h=>h.elim
end
abbrev TG:=V->St->Hp->(St->Hp->Prop)->Prop
abbrev TGs:=List V->St->Hp->(St->Hp->Prop)->Prop
def PG(X:Cx)(target:Expr)(t:TG):Prop:=
 ∀(pz:Kp) (s:Shared) (σ:St) (H:Hp) (v:V) (u:Value) (Q:St->Hp->Prop),Inv X pz σ H s->RelV v u->t v σ H Q->
  wpAny (model X.prog X.w) X.A (assign target X.env u) (fun _ s'=>∃σ' H',Inv X pz σ' H' s'/\Q σ' H') X.xe s
def PGs(X:Cx)(ts:List Expr)(t:TGs):Prop:=
 ∀(pz:Kp) (s:Shared) (σ:St) (H:Hp) (vs:List V) (us:List Value) (Q:St->Hp->Prop),Inv X pz σ H s->Vals vs us->t vs σ H Q->
  wpAny (model X.prog X.w) X.A (assignInOrder ((assignEach ts X.env).map (·.2)) us) (fun _ s'=>∃σ' H',Inv X pz σ' H' s'/\Q σ' H') X.xe s
abbrev zd:=V->V->V->Hp->(Hp->Prop)->Prop
def Bg(X:Cx)(t:zd):Prop:=
 ∀(pz:Kp) (s:Shared) (σ:St) (H:Hp) (o i v:V) (ov iv u:Value) (Q:Hp->Prop),Inv X pz σ H s->RelV o ov->RelV i iv->RelV v u->t o i v H Q->
  wpAny (model X.prog X.w) X.A (setItem ov iv u) (fun _ s'=>∃H',Inv X pz σ H' s'/\Q H') X.xe s
section
variable{X:Cx}{pos:Pos}
def jH(i:Nat):TG:=fun v σ H Q=>Q (σ.set i (some v)) H
theorem bh{i:Nat}{x:Str}(hN:X.N.Nodup)(hi:X.N[i]?=some x)(hx:Loc X.env.scope x)(hf:X.fn x=true\/X.env.scope.names.lookup x=some .local:=by first|exact .inl rfl|exact .inr rfl|assumption):PG X (.Name x pos) (jH i):=by intro pz s σ H v u Q I r h;exact wpAny_assign_Name (me I hN hi hx r (fun s' I'=>⟨_,H,I',h⟩) hf)
def zT:TGs:=fun vs σ H Q=>vs=[]/\Q σ H
def wZ(t:TG)(u:TGs):TGs:=fun vs σ H Q=>∃v r,vs=v::r/\t v σ H fun σ' H'=>u r σ' H' Q
theorem dq:PGs X [] zT:=by intro pz s σ H vs us Q I r h;obtain⟨e,h⟩:=h;subst e;cases r;exact assignInOrder_nil ⟨σ,H,I,h⟩
theorem aY{e:Expr}{es:List Expr}{t:TG}{u:TGs}(h1:PG X e t)(h2:PGs X es u)
  (hs:(assignEach (e::es) X.env).map (·.2)=assign e X.env::(assignEach es X.env).map (·.2):=by rfl):PGs X (e::es) (wZ t u):=by
 intro pz s σ H vs us Q I r h;obtain⟨v,vr,e1,h⟩:=h;subst e1;cases r with
 |cons r rr=>
  rw[hs];refine assignInOrder_cons (thn (h1 pz s σ H _ _ _ I r h) fun _ s1 hh_=>?_);obtain⟨σ1,H1,I1,q1⟩:=hh_;exact h2 pz s1 σ1 H1 _ _ Q I1 rr q1
def Cn(K:Kq)(n:Nat)(t:TGs):TG:=fun v σ H Q=>∃a xs,v=.ref a/\SqT K H a xs/\xs.length=n/\t xs σ H Q
theorem zJ{es:List Expr}{k:Nat}{t:TGs}{n:Nat}(hc:X.calm=true)(h:PGs X es t)
  (hn:(assignEach es X.env).length=n:=by rfl) (hst:(assignEach es X.env).findIdx? (·.1)=none:=by rfl):PG X (.Tuple es k pos) (Cn X.K n t):=by
 intro pz s σ H v u Q I r hw;obtain⟨a,xs,e1,hq,hl,hw⟩:=hw;subst e1;cases r;obtain⟨its,rv,ht,hz⟩:=I.tuple hq;refine assign_Tuple_tuple (I.ok.hd hc) ht (by simp[hn,<-hl,rv.length]) hst fun h' hx=>?_;have I1:Inv X pz σ H {s with heap:=h' }:=I.kept (t':=s.toks) fun b o e=>hx b o (YG (Yq e)) e
 exact h pz _ σ H xs _ Q I1 (by simpa using rv) hw
def Co(to ti:TE)(t:zd):TG:=fun v σ H Q=>to σ H fun o H1=>ti σ H1 fun i H2=>t o i v H2 fun H3=>Q σ H3
theorem yY{o i:Expr}{to ti:TE}{t:zd}(ho:PE X o to)(hi:PE X i ti)(hs:Bg X t)
  (ha:∀v,assign (.Subscript o i pos) X.env v=(do
   let ov <-holding [v] (eval o X.env)
   let iv <-holding [v,ov] (eval i X.env)
   standAt pos
   holding [v,ov,iv] (setItem ov iv v)
   release [v,ov,iv] []):=by intro _;rfl):PG X (.Subscript o i pos) (Co to ti t):=by
 intro pz s σ H v u Q I r h;rw[ha];refine Yd (XI (bn (ho pz s σ H _ I h) fun ov s1 x H1 I1 r1 q1=>?_));refine Yd (XI (bn (hi pz s1 σ H1 _ I1 q1) fun iv s2 y H2 I2 r2 q2=>?_));refine Yd (wpAny_standAt (Yd (XI (thn (hs pz s2 σ H2 x y v ov iv u _ I2 r1 r2 r q2) fun _ s3 hh_=>?_))));obtain⟨H3,I3,q3⟩:=hh_;exact wpAny_release ⟨σ,H3,I3,q3⟩
def tX(te:TE)(g:TG):TS:=fun D σ H=>te σ H fun x H1=>g x σ H1 D.nx
theorem uc{tg e:Expr}{te:TE}{g:TG}(he:PE X e te)(hg:PG X tg g)(hs:swapsWithSole [tg] e pos.line X.env=pure false:=by rfl)(hw:swappedStores [tg] e X.env=pure none:=by rfl)
  (h1:(assignEach [tg] X.env).map (·.2)=[assign tg X.env]:=by rfl):PS X (.Assign [tg] e pos) (tX te g):=by
 intro pz s σ H D I h;refine wpAny_Assign_stores (bn (he pz s σ H _ I h) fun v s1 x H1 I1 r1 q1=>?_) hs hw;rw[h1];exact thn (hg pz s1 σ H1 x v _ I1 r1 q1) fun _ s2 q=>q
theorem su{i:Nat}{x:Str}{e:Expr}{te:TE}{pos':Pos}(hN:X.N.Nodup)(hi:X.N[i]?=some x)(hx:Loc X.env.scope x)(he:PE X e te)(hs:swapsWith e (some (.Name x pos')) pos.line X.env=pure false:=by rfl)(hf:X.fn x=true\/X.env.scope.names.lookup x=some .local:=by first|exact .inl rfl|exact .inr rfl|assumption) :
  PS X (.Assign [.Name x pos'] e pos) (tX te (jH i)):=by
 intro pz s σ H D I h;refine wpAny_Assign_Name (bn (he pz s σ H _ I h) fun v s1 y H1 I1 r1 q1=>?_) hs;exact me I1 hN hi hx r1 (fun s2 I2=>⟨_,H1,I2,q1⟩) hf
end
section
variable{X:Cx}{pos:Pos}
def zG(c:TT)(tb:TS):TS:=fun D σ H=>∃W:Nat->St->Hp->Prop,(∃m,W m σ H)/\∀m σ H,W m σ H->
 c σ H fun b H1=>if b=true then ∃N:St->Hp->Prop,(∀σ' H',N σ' H'->∃m',m' < m/\W m' σ' H')/\tb {D with nx:=N,ct:=N,bk:=D.nx} σ H1 else D.nx σ H1
theorem tj{c:Expr}{body:List Stmt}{tc:TT}{tb:TS}(hp:PassesOwn (model X.prog X.w) X.A X.env X.xe)(hc:PT X c tc)(hb:PSs X body tb):PS X (.While c body [] pos) (zG tc tb):=by
 intro pz s σ H D I h;obtain⟨W,⟨m0,w0⟩,turn⟩:=h;refine wpAny_While (codeAny_whileLoop (fun n s'=>∃σ' H',Inv X pz σ' H' s'/\W n σ' H') ?_ m0 ⟨σ,H,I,w0⟩);rintro n s1 ⟨σ1,H1,I1,w1⟩;refine ZO hp (thn (hc pz s1 σ1 H1 _ I1 (turn n σ1 H1 w1)) fun b s2 hh_=>?_);obtain⟨H2,I2,q2⟩:=hh_;cases b with
 |true=>
  obtain⟨N,hN,q2⟩:=q2;rw[Yi rfl];refine ZO hp (thn (hb pz s2 σ1 H2 _ I2 q2) fun f s3 q3=>?_);cases f with
  |next=>
   obtain⟨σ3,H3,I3,n3⟩:=q3;obtain⟨m',hm,w3⟩:=hN σ3 H3 n3;exact⟨m',hm,σ3,H3,I3,w3⟩
  |cont=>
   obtain⟨σ3,H3,I3,n3⟩:=q3;obtain⟨m',hm,w3⟩:=hN σ3 H3 n3;exact⟨m',hm,σ3,H3,I3,w3⟩
  |brk=>exact q3
  |ret v=>exact q3
 |false=>
  rw[Yn Yk];exact XL ⟨σ1,H2,I2,q2⟩
end
structure It where
 go:Nat->Hp->Prop
 yld:Nat->Hp->V->Hp->Prop
 stop:Nat->Hp->Prop
def e7(X:Cx)(pz:Kp)(H:Hp)(b:Addr):Prop:=
 H b=none/\b≠X.env.locals/\b∉X.fs/\(b∈X.ex\/X.s₀.heap.objs.size<=b)/\(∀x c,X.env.cells.lookup x=some c->c≠b)/\∀p∈X.pn++pz,p.1≠b
theorem Inv.fpOk{X:Cx}{pz:Kp}{σ:St}{H H':Hp}{s:Shared}{b:Addr}(I:Inv X pz σ H s)(hb:s.heap.objs.size<=b)(hn:H' b=none):e7 X pz H' b:=by
 refine⟨hn,ZZ (Ys I.lt hb),I.nofs hb,.inr (YH I.sz hb),fun x c e z=>?_,fun p hp z=>?_⟩
 ·obtain⟨v,q⟩:=I.cell x c e;exact absurd (Ys q.lt (by rw[z];exact hb)) (Zb _)
 ·exact absurd (Ys (Yq (I.pin p hp).1) (by rw[z];exact hb)) (Zb _)
structure Turn (P:Program) (w:World) (K:PySem.W.Frag) (tg:Expr) (J:It) (fp:List Addr) (it:Addr) (tn:Nat->Heap->Prop):Prop where
 mem:it∈fp
 obj:∀i h,tn i h->∀b∈fp,∃o,h.get? b=some o/\∀v,o.data≠.cell v
 keep:∀i h h',tn i h->(∀b∈fp,∀o,h.get? b=some o->h'.get? b=some o)->tn i h'
 item:∀(X:Cx),X.prog=P->X.w=w->X.K=K->X.calm=true->∀(i:Nat) (pz:Kp) (s:Shared) (σ:St) (H:Hp) (E:Kv),Inv X pz σ H s->(∀b∈fp,e7 X pz H b)->tn i s.heap->J.go i H->
  wpAny (model P w) X.A (pyNext (.ref it)) (fun r s1=>∃u,r=some u /\
   wpAny (model P w) X.A (letOwnedTupleGo tg (.ref it) u) (fun _ s2=>∃x H',Inv X pz σ H' s2/\RelV x u/\J.yld i H x H'/\tn (i+1) s2.heap/\∀b∈fp,H' b=none) E s1) E s
 done:∀(X:Cx),X.prog=P->X.w=w->X.K=K->X.calm=true->∀(i:Nat) (pz:Kp) (s:Shared) (σ:St) (H:Hp) (E:Kv),Inv X pz σ H s->(∀b∈fp,e7 X pz H b)->tn i s.heap->J.stop i H->
  wpAny (model P w) X.A (pyNext (.ref it)) (fun r s1=>r=none/\Inv X pz σ H s1) E s
 self:∀(A:Around) (i:Nat) (s:Shared) (Q:Kv) (E:Kv),tn i s.heap->Q (.ref it) s->wpAny (model P w) A (pyIter (.ref it)) Q E s
abbrev TI:=St->Hp->(It->Hp->Prop)->Prop
def PIE(X:Cx)(pz:Kp)(σ:St)(tg:Expr)(R:It->Hp->Prop)(itv:Value)(s2:Shared):Prop:=
 ∃(it:Addr) (fp:List Addr) (tn:Nat->Heap->Prop) (J:It) (H':Hp),itv=.ref it/\Inv X pz σ H' s2/\Turn X.prog X.w X.K tg J fp it tn/\tn 0 s2.heap/\(∀b∈fp,e7 X pz H' b)/\R J H'
def PI(X:Cx)(tg iter:Expr)(wi:TI):Prop:=
 ∀(pz:Kp) (s:Shared) (σ:St) (H:Hp) (R:It->Hp->Prop),Inv X pz σ H s->wi σ H R->
  wpAny (model X.prog X.w) X.A (eval iter X.env) (fun v s1=>wpAny (model X.prog X.w) X.A (pyIter v) (PIE X pz σ tg R) X.xe s1) X.xe s
theorem pw{M:Model}{A:Around}{E:Kv}{s:Shared}{tg:Expr}{it:Addr}{u:Value}{o:Obj}{n:String}{vs:Array Value}{Q:Unit->Shared->Prop}(ho:s.heap.get? it=some o)(hc:o.cls=.type n)(hd:o.data=.fields vs)
  (hn:["enumerate","zip","dict_itemiterator","dict_reverseitemiterator","odict_iterator","itertools.zip_longest","itertools.pairwise"].contains n=false) (hQ:Q () s):wpAny M A (letOwnedTupleGo tg (.ref it) u) Q E s:=by
 unfold letOwnedTupleGo;cases tg<;>first
  |exact YA hQ
  |(cases u<;>first
    |exact YA hQ
    |(
     refine Yd (wpAny_load ho ?_);rw[hc,hd];show wpAny M A (if(["enumerate","zip","dict_itemiterator","dict_reverseitemiterator","odict_iterator","itertools.zip_longest","itertools.pairwise"].contains n&&vs[0]? == some (rawInt _))=true then _ else _) Q E s;rw[Yn (by intro h;rw[hn,Xi]at h;cases h)];exact YA hQ))
def Itl(K:Kq)(a:Addr):It:=
 ⟨fun i H=>∃xs x,SqL K H a xs/\xs[i]?=some x,fun i H x H'=>H'=H/\∀xs,SqL K H a xs->xs[i]?=some x,fun i H=>∃xs,SqL K H a xs/\xs.length<=i⟩
def Itt(K:Kq)(a:Addr):It:=
 ⟨fun i H=>∃xs x,SqT K H a xs/\xs[i]?=some x,fun i H x H'=>H'=H/\∀xs,SqT K H a xs->xs[i]?=some x,fun i H=>∃xs,SqT K H a xs/\xs.length<=i⟩
def Itr(lo:Int)(n:Nat):It:=⟨fun i _=>i<n,fun i H x H'=>H'=H/\x=.int (lo+i),fun i _=>n<=i⟩
theorem rc{P:Program}{w:World}{K:Kq}{tg:Expr}(a it:Addr):Turn P w K tg (Itl K a) [it] it (fun i h=>h.IsListIter it a i) where
 mem:=by simp
 obj:=fun i h st b hb=>by
  have e:b=it:=by simpa using hb
  subst e;obtain⟨o,e,c,d⟩:=st;exact⟨o,e,fun v z=>by rw[d]at z;cases z⟩
 keep:=fun i h h' st k=>st.at fun o e=>k it (by simp) o e
 item:=by intro X hP hw hK hc i pz s σ H E I hf st hg;subst hP hw hK;obtain⟨xs,x,hq,hx⟩:=hg;obtain⟨its,rv,p,hz⟩:=I.list hq;obtain⟨u,hu,ru⟩:=rv.get hx;obtain⟨f0,f1,f2,f3,f4,f5⟩:=hf it (by simp);refine wpAny_pyNext_list_item st p.isList (x:=u) (by simpa using hu) fun h' st' sb=>?_;have I1:Inv X pz σ H {s with heap:=h' }:=I.turned (t':=s.toks) (fun b o hb e=>(sb.2 b hb).trans e) f0 f1 f3 f4 f5;obtain⟨o,e,c,d⟩:=id st';exact⟨u,rfl,pw (s:={s with heap:=h' }) e c d (by decide) ⟨x,H,I1,ru,⟨rfl,fun ys hy=>by rw[I.list_inj hy hq];exact hx⟩,st',fun b hb=>(hf b hb).1⟩⟩
 done:=by intro X hP hw hK hc i pz s σ H E I hf st hg;subst hP hw hK;obtain⟨xs,hq,hx⟩:=hg;obtain⟨its,rv,p,hz⟩:=I.list hq;obtain⟨f0,f1,f2,f3,f4,f5⟩:=hf it (by simp);have hl:=rv.length;exact wpAny_pyNext_list_end (I.ok.hd hc) st p.isList (by simp;omega) fun h' eb=>⟨rfl,I.turned (t':=s.toks) (fun b o hb e=>eb b o hb e) f0 f1 f3 f4 f5⟩
 self:=fun _ _ _ _ _ st h=>wpAny_pyIter_listiter st h
theorem nW{P:Program}{w:World}{K:Kq}{tg:Expr}(a it:Addr):Turn P w K tg (Itt K a) [it] it (fun i h=>h.IsTupleIter it a i) where
 mem:=by simp
 obj:=fun i h st b hb=>by
  have e:b=it:=by simpa using hb
  subst e;obtain⟨o,e,c,d⟩:=st;exact⟨o,e,fun v z=>by rw[d]at z;cases z⟩
 keep:=fun i h h' st k=>st.at fun o e=>k it (by simp) o e
 item:=by intro X hP hw hK hc i pz s σ H E I hf st hg;subst hP hw hK;obtain⟨xs,x,hq,hx⟩:=hg;obtain⟨its,rv,p,hz⟩:=I.tuple hq;obtain⟨u,hu,ru⟩:=rv.get hx;obtain⟨f0,f1,f2,f3,f4,f5⟩:=hf it (by simp);refine wpAny_pyNext_tuple_item st (show s.heap.IsTuple a its.toArray from p) (x:=u) (by simpa using hu) fun h' st' sb=>?_;have I1:Inv X pz σ H {s with heap:=h' }:=I.turned (t':=s.toks) (fun b o hb e=>(sb.2 b hb).trans e) f0 f1 f3 f4 f5;obtain⟨o,e,c,d⟩:=id st';exact⟨u,rfl,pw (s:={s with heap:=h' }) e c d (by decide) ⟨x,H,I1,ru,⟨rfl,fun ys hy=>by rw[I.tuple_inj hy hq];exact hx⟩,st',fun b hb=>(hf b hb).1⟩⟩
 done:=by intro X hP hw hK hc i pz s σ H E I hf st hg;subst hP hw hK;obtain⟨xs,hq,hx⟩:=hg;obtain⟨its,rv,p,hz⟩:=I.tuple hq;obtain⟨f0,f1,f2,f3,f4,f5⟩:=hf it (by simp);have hl:=rv.length;exact wpAny_pyNext_tuple_end (I.ok.hd hc) st (show s.heap.IsTuple a its.toArray from p) (by simp;omega) fun h' eb=>⟨rfl,I.turned (t':=s.toks) (fun b o hb e=>eb b o hb e) f0 f1 f3 f4 f5⟩
 self:=fun _ _ _ _ _ st h=>wpAny_pyIter_tupleiter st h
theorem nU{P:Program}{w:World}{K:Kq}{tg:Expr}(it:Addr)(lo:Int)(n:Nat):Turn P w K tg (Itr lo n) [it] it (fun i h=>IsRangeIter h it (lo+(i:Nat)*1) ((n:Int)-(i:Nat)) 1) where
 mem:=by simp
 obj:=fun i h st b hb=>by
  have e:b=it:=by simpa using hb
  subst e;exact⟨_,st,fun v z=>by
   have z':Data.fields _=Data.cell v:=z;cases z'⟩
 keep:=fun i h h' st k=>k it (by simp) _ st
 item:=by intro X hP hw hK hc i pz s σ H E I hf st hg;subst hP hw hK;obtain⟨f0,f1,f2,f3,f4,f5⟩:=hf it (by simp);have W:=Walks.range (prog:=X.prog) (w:=X.w) (I.ok.hd hc) it lo 1 n;refine W.item i s _ _ hg st fun v h' tk hv st' kk=>?_;obtain⟨t,rfl⟩:=hv;have I1:Inv X pz σ H {s with heap:=h',toks:=tk}:=I.turned (fun b o hb e=>kk b o (by simpa using hb) e) f0 f1 f3 f4 f5;refine⟨_,rfl,pw (s:={s with heap:=h',toks:=tk}) (n := "range_iterator") st' rfl rfl (by decide) ⟨.int (lo+i),H,I1,⟨t,?_⟩,⟨rfl,rfl⟩,st',fun b hb=>(hf b hb).1⟩⟩;rw[Int.mul_one]
 done:=by intro X hP hw hK hc i pz s σ H E I hf st hg;subst hP hw hK;obtain⟨f0,f1,f2,f3,f4,f5⟩:=hf it (by simp);exact wpAny_pyNext_range_end (I.ok.hd hc) st (by have:n<=i:=hg;omega) fun h' eb=>⟨rfl,I.turned (t':=s.toks) (fun b o hb e=>eb b o hb e) f0 f1 f3 f4 f5⟩
 self:=fun _ _ _ _ _ st h=>wpAny_pyIter_rangeiter st h
section
variable{X:Cx}{tg:Expr}
def AL(K:Kq)(tl:TE):TI:=fun σ H R=>tl σ H fun x H1=>∃a,x=.ref a/\(∃xs,SqL K H1 a xs)/\R (Itl K a) H1
def CL(K:Kq)(tl:TE):TI:=fun σ H R=>tl σ H fun x H1=>∃a,x=.ref a/\(∃xs,SqT K H1 a xs)/\R (Itt K a) H1
theorem pR{l:Expr}{tl:TE}(hl:PE X l tl):PI X tg l (AL X.K tl):=by
 intro pz s σ H R I h;refine bn (hl pz s σ H _ I h) fun v s1 x H1 I1 r1 q1=>?_;obtain⟨a,e,⟨xs,hq⟩,q⟩:=q1;subst e;cases r1;obtain⟨its,rv,p,hz⟩:=I1.list hq;refine wpAny_pyIter_list p.isList ?_;refine⟨s1.heap.objs.size,[s1.heap.objs.size],_,_,H1,rfl,I1.kept (t':=s1.toks) fun b o e=>Ye _ e,rc a _,⟨_,Yo _ rfl,rfl,rfl⟩,fun b hb=>?_,q⟩;have e:b=s1.heap.objs.size:=by simpa using hb
 subst e;exact I1.fpOk (Ym _) (I1.hok.fresh (Ym _))
theorem yf{l:Expr}{tl:TE}(hl:PE X l tl):PI X tg l (CL X.K tl):=by
 intro pz s σ H R I h;refine bn (hl pz s σ H _ I h) fun v s1 x H1 I1 r1 q1=>?_;obtain⟨a,e,⟨xs,hq⟩,q⟩:=q1;subst e;cases r1;obtain⟨its,rv,p,hz⟩:=I1.tuple hq;refine wpAny_pyIter_tuple (show s1.heap.IsTuple a its.toArray from p) ?_;refine⟨s1.heap.objs.size,[s1.heap.objs.size],_,_,H1,rfl,I1.kept (t':=s1.toks) fun b o e=>Ye _ e,nW a _,⟨_,Yo _ rfl,rfl,rfl⟩,fun b hb=>?_,q⟩;have e:b=s1.heap.objs.size:=by simpa using hb
 subst e;exact I1.fpOk (Ym _) (I1.hok.fresh (Ym _))
theorem mS{pz:Kp}{σ:St}{H:Hp}{s:Shared}{R:It->Hp->Prop}{E:Kv}{lo hi:Int}{t u v:Tok}{tk:Nat}(I:Inv X pz σ H s)(h1:-(2^62)<=lo)(h2:lo<2^62)(h3:-(2^62)<=hi)(h4:hi<2^62)
  (q:R (Itr lo (hi-lo).toNat) H):wpAny (model X.prog X.w) X.A (pyIter (.ref s.heap.objs.size)) (PIE X pz σ tg R) E {s with heap:=s.heap.push {cls:=.type "range",data:=.fields #[.int lo t,.int hi u,.int 1 v]},toks:=tk}:=by
 refine wpAny_pyIter_range (IsRange.new ..) (small_one h1 h2 h3 h4) ?_;have I1:Inv X pz σ H {s with heap:=s.heap.push {cls:=.type "range",data:=.fields #[.int lo t,.int hi u,.int 1 v]},toks:=tk}:=I.kept fun b o e=>Ye _ e
 refine⟨(s.heap.push {cls:=.type "range",data:=.fields #[.int lo t,.int hi u,.int 1 v]}).objs.size,[(s.heap.push {cls:=.type "range",data:=.fields #[.int lo t,.int hi u,.int 1 v]}).objs.size],_,_,H,rfl,
  I1.kept (t':=tk) fun b o e=>Ye _ e,nU _ lo (hi-lo).toNat,?_,fun b hb=>?_,q⟩
 ·have e1:lo+((0:Nat):Int)*1=lo:=by simp
  have e2:(((hi-lo).toNat:Nat):Int)-((0:Nat):Int)=Builtin.Range.rangeSize lo hi 1:=by rw[rangeSize_one];split<;>omega
  show IsRangeIter _ _ (lo+((0:Nat):Int)*1) ((((hi-lo).toNat:Nat):Int)-((0:Nat):Int)) 1;rw[e1,e2];exact Yo _ rfl
 ·have e:b=(s.heap.push {cls:=.type "range",data:=.fields #[.int lo t,.int hi u,.int 1 v]}).objs.size:=by simpa using hb
  subst e;exact I1.fpOk (Ym _) (I1.hok.fresh (Ym _))
def An(ta:TA):TI:=fun σ H R=>ta σ H fun vs H1=>∃j:Int,vs=[.int j]/\-(2^62)<=j/\j<2^62/\R (Itr 0 j.toNat) H1
def Bc(ta:TA):TI:=fun σ H R=>ta σ H fun vs H1=>∃i j:Int,vs=[.int i,.int j]/\(-(2^62)<=i/\i<2^62/\-(2^62)<=j/\j<2^62)/\R (Itr i (j-i).toNat) H1
theorem rg{a:Expr}{ta:TA}{p pos:Pos}(hg:Gl X "range")(hm:X.mg "range"=none)(ha:PA X [a] ta)(hs:starEach [a] X.env=[(false,eval a X.env)]:=by rfl):PI X tg (.Call (.Name "range" p) [a] [] pos) (An ta):=by
 intro pz s σ H R I h;refine Call_ (gD I hg hm boot_range (ZE (bn (ha pos pz s σ H _ I h) fun us s1 vs H1 I1 r1 q1=>?_) hs rfl));obtain⟨j,e,q1,q2,q⟩:=q1;subst e;cases r1 with
 |cons r rr=>
  cases rr;obtain⟨t,rfl⟩:=r;exact call_range_1 (mS I1 (by omega) (by omega) q1 q2 (by simpa using q))
theorem qK{a b:Expr}{ta:TA}{p pos:Pos}(hg:Gl X "range")(hm:X.mg "range"=none)(ha:PA X [a,b] ta)(hs:starEach [a,b] X.env=[(false,eval a X.env),(false,eval b X.env)]:=by rfl)(hs2:starEach [b] X.env=[(false,eval b X.env)]:=by rfl) :
  PI X tg (.Call (.Name "range" p) [a,b] [] pos) (Bc ta):=by
 intro pz s σ H R I h;refine Call_ (gD I hg hm boot_range (ZE (bn (ha pos pz s σ H _ I h) fun us s1 vs H1 I1 r1 q1=>?_) (by rw[hs,hs2]) (by rw[hs2];rfl)));obtain⟨i,j,e,⟨q1,q2,q3,q4⟩,q⟩:=q1;subst e;cases r1 with
 |cons r rr=>
  cases rr with
  |cons r' rr=>
   cases rr;obtain⟨t,rfl⟩:=r;obtain⟨t',rfl⟩:=r';exact call_range_2 (mS I1 q1 q2 q3 q4 q)
def B8(wi:TI)(g:TG)(tb:TS):TS:=fun D σ H=>wi σ H fun J H1=>∃W:Nat->Nat->St->Hp->Prop,(∃m,W 0 m σ H1)/\∀i m σ H,W i m σ H->
 (J.stop i H/\D.nx σ H)\/(J.go i H/\∃N:St->Hp->Prop,(∀σ' H',N σ' H'->∃m',m' < m/\W (i+1) m' σ' H')/\∀x H',J.yld i H x H'->g x σ H' fun σ2 H2=>tb {D with nx:=N,ct:=N,bk:=D.nx} σ2 H2)
def iU(fp:List Addr)(h:Heap):List (Addr×Obj):=fp.filterMap fun b=>(h.get? b).map fun o=>(b,o)
theorem dU{fp:List Addr}{h:Heap}{b:Addr}{o:Obj}(hb:b∈fp)(e:h.get? b=some o):(b,o)∈iU fp h:=List.mem_filterMap.mpr ⟨b,hb,by rw[e];rfl⟩
theorem qP{fp:List Addr}{h:Heap}{p:Addr×Obj}(hp:p∈iU fp h):p.1∈fp/\h.get? p.1=some p.2:=by
 obtain⟨b,hb,e⟩:=List.mem_filterMap.mp hp;cases q:h.get? b with
 |none=>rw[q]at e;cases e
 |some o=>
  rw[q]at e;have e':(b,o)=p:=Yr e;subst e';exact⟨hb,q⟩
theorem Inv.pinned{pz:Kp}{σ:St}{H:Hp}{s:Shared}{fp:List Addr}(I:Inv X pz σ H s)(hf:∀b∈fp,e7 X pz H b)(ho:∀b∈fp,∃o,s.heap.get? b=some o/\∀v,o.data≠.cell v):Inv X (pz++iU fp s.heap) σ H s:=
 I.pins_of fun p hp=>(Zg.mp hp).elim (fun z=>I.pin p (YX _ z)) fun z=>by
  obtain⟨hb,e⟩:=qP z;obtain⟨f0,f1,f2,_⟩:=hf p.1 hb;obtain⟨o,e',d⟩:=ho p.1 hb;rw[e]at e';cases e';exact⟨e,f0,f1,f2,d⟩
theorem Inv.unpinned{pz pl:Kp}{σ:St}{H:Hp}{s:Shared}(I:Inv X (pz++pl) σ H s):Inv X pz σ H s:=I.pins_of fun p hp=>I.pin p (YX _ (List.mem_append_left _ hp))
theorem yd{iter:Expr}{body:List Stmt}{wi:TI}{g:TG}{tb:TS}{pos:Pos}(hp:PassesOwn (model X.prog X.w) X.A X.env X.xe)(hc:X.calm=true)(hi:PI X tg iter wi)(hg:PG X tg g)(hb:PSs X body tb)
  (hs:∀x,foldedSetIterable iter X.env x=pure x:=by intro _;rfl):PS X (.For tg iter body [] pos) (B8 wi g tb):=by
 intro pz s σ H D I h;refine wpAny_For (thn (hi pz s σ H _ I h) fun v s1 h1=>thn h1 fun itv s2 h2=>?_) hs;obtain⟨it,fp,tn,J,H2,e,I2,T,st2,f2,W,⟨m0,w0⟩,turn⟩:=h2;subst e
 -- what stays true of the iterator's objects through the loop
 have stat:∀{H':Hp},(∀b∈fp,H' b=none)->∀b∈fp,e7 X pz H' b:=fun hn b hb=>⟨hn b hb,(f2 b hb).2⟩
 refine codeAny_forLoop_any (fun n s'=>∃i σ' H',Inv X pz σ' H' s'/\tn i s'.heap/\(∀b∈fp,H' b=none)/\W i n σ' H') ?_ m0 ⟨0,σ,H2,I2,st2,fun b hb=>(f2 b hb).1,w0⟩;rintro n s3 ⟨i,σ3,H3,I3,st3,fr3,w3⟩;rcases turn i n σ3 H3 w3 with⟨stop,qn⟩|⟨go,N,hN,step⟩
 ·refine ZO hp (thn (T.done X rfl rfl rfl hc i pz s3 σ3 H3 X.xe I3 (stat fr3) st3 stop) fun r s4 ⟨hr,I4⟩=>?_);subst hr;exact XL ⟨σ3,H3,I4,qn⟩
 ·refine ZO hp (thn (T.item X rfl rfl rfl hc i pz s3 σ3 H3 X.xe I3 (stat fr3) st3 go) fun r s4 ⟨u,hr,h4⟩=>?_);subst hr;refine ZO hp (thn h4 fun _ s5 hh_=>?_);obtain⟨x,H5,I5,r5,y5,st5,fr5⟩:=hh_;have I5':=I5.pinned (stat fr5) (T.obj _ _ st5);refine ZO hp (thn (hg _ s5 σ3 H5 x u _ I5' r5 (step x H5 y5)) fun _ s6 hh_=>?_);obtain⟨σ6,H6,I6,q6⟩:=hh_;refine ZO hp (thn (hb _ s6 σ6 H6 _ I6 q6) fun f s7 q7=>?_);have again:∀{σ7:St}{H7:Hp},Inv X (pz++iU fp s5.heap) σ7 H7 s7->N σ7 H7->∃m,m<n/\∃i σ' H',Inv X pz σ' H' s7/\tn i s7.heap/\(∀b∈fp,H' b=none)/\W i m σ' H':=fun{σ7 H7} I7 n7=>by
   obtain⟨m',hm,w7⟩:=hN σ7 H7 n7;refine⟨m',hm,i+1,σ7,H7,I7.unpinned,T.keep _ _ _ st5 fun b hb o e=>(I7.pin (b,o) (YX _ (YX _ (dU hb e)))).1,fun b hb=>?_,w7⟩;obtain⟨o,e,d⟩:=T.obj _ _ st5 b hb;exact(I7.pin (b,o) (YX _ (YX _ (dU hb e)))).2.1
  cases f with
  |next=>obtain⟨σ7,H7,I7,n7⟩:=q7;exact again I7 n7
  |cont=>obtain⟨σ7,H7,I7,n7⟩:=q7;exact again I7 n7
  |brk=>obtain⟨σ7,H7,I7,q7⟩:=q7;exact⟨σ7,H7,I7.unpinned,q7⟩
  |ret v=>obtain⟨x7,σ7,H7,I7,r7,q7⟩:=q7;exact⟨x7,σ7,H7,I7.unpinned,r7,q7⟩
end
abbrev R2:=V->V->Hp->VK->Prop
def OpR(X:Cx)(f:Value->Value->Sem Value)(r:R2):Prop:=
 ∀(pz:Kp) (s:Shared) (σ:St) (H:Hp) (x y:V) (v u:Value) (Q:VK),Inv X pz σ H s->RelV x v->RelV y u->r x y H Q->
  wpAny (model X.prog X.w) X.A (f v u) (EP X pz σ Q) X.xe s
def UnR(X:Cx)(f:Value->Sem Value)(r:V->Hp->VK->Prop):Prop:=
 ∀(pz:Kp) (s:Shared) (σ:St) (H:Hp) (x:V) (v:Value) (Q:VK),Inv X pz σ H s->RelV x v->r x H Q->
  wpAny (model X.prog X.w) X.A (f v) (EP X pz σ Q) X.xe s
def CallR(X:Cx)(f:Value)(r:List V->Hp->VK->Prop):Prop:=
 ∀(pz:Kp) (s:Shared) (σ:St) (H:Hp) (xs:List V) (us:List Value) (Q:VK),Inv X pz σ H s->Vals xs us->r xs H Q->
  wpAny (model X.prog X.w) X.A (call f us) (EP X pz σ Q) X.xe s
def tOp(r:R2)(ta tb:TE):TE:=fun σ H Q=>ta σ H fun x H1=>tb σ H1 fun y H2=>r x y H2 Q
def tUn(r:V->Hp->VK->Prop)(ta:TE):TE:=fun σ H Q=>ta σ H fun x H1=>r x H1 Q
def rI(C:Int->Int->Prop)(g:Int->Int->V):R2:=fun x y H Q=>∃i j,x=.int i/\y=.int j/\C i j/\Q (g i j) H
def rI0(g:Int->Int->V):R2:=fun x y H Q=>∃i j,x=.int i/\y=.int j/\Q (g i j) H
def rU(g:Int->V):V->Hp->VK->Prop:=fun x H Q=>∃i,x=.int i/\Q (g i) H
section
variable{X:Cx}{a b c:Expr}{ta tb tc:TE}{pos:Pos}
theorem zL(ha:PE X a ta)(hb:PE X b tb){pz:Kp}{s:Shared}{σ:St}{H:Hp}{R:V->V->Hp->Prop}(I:Inv X pz σ H s)
  (h:ta σ H fun x H1=>tb σ H1 fun y H2=>R x y H2) {Q:Kv}{f:Value->Value->Sem Value}
  (hf:∀v u s2 x y H2,Inv X pz σ H2 s2->RelV x v->RelV y u->R x y H2->wpAny (model X.prog X.w) X.A (f v u) Q X.xe s2) :
  wpAny (model X.prog X.w) X.A (eval a X.env) (fun v s₁=>wpAny (model X.prog X.w) X.A (eval b X.env) (fun u s₂=>wpAny (model X.prog X.w) X.A (f v u) Q X.xe s₂) X.xe s₁) X.xe s:=by
 refine bn (ha pz s σ H _ I h) fun v s1 x H1 I1 r1 q1=>?_;refine bn (hb pz s1 σ H1 _ I1 q1) fun u s2 y H2 I2 r2 q2=>?_;exact hf v u s2 x y H2 I2 r1 r2 q2
theorem xq{op:Operator}{r:R2}(ho:OpR X (binaryOp op) r)(ha:PE X a ta)(hb:PE X b tb):PE X (.BinOp a op b pos) (tOp r ta tb):=by intro pz s σ H Q I h;exact wpAny_BinOp (zL ha hb I h fun v u s2 x y H2 I2 rx ry q=>ho pz s2 σ H2 x y v u Q I2 rx ry q)
theorem Ar{op:UnaryOp}{r:V->Hp->VK->Prop}(ho:UnR X (unaryOp op) r)(ha:PE X a ta):PE X (.UnaryOp op a pos) (tUn r ta):=by intro pz s σ H Q I h;exact UnaryOp_ (bn (ha pz s σ H _ I h) fun v s1 x H1 I1 r1 q1=>ho pz s1 σ H1 x v Q I1 r1 q1)
theorem opI{f:Value->Value->Sem Value}{C:Int->Int->Prop}{g:Int->Int->Int}
  (rule:∀(i j:Int) (t u:Tok) (s:Shared) (Q:Kv) (E:Kv),C i j->Q (.int (g i j) s.toks) {s with toks:=s.toks+1}->wpAny (model X.prog X.w) X.A (f (.int i t) (.int j u)) Q E s) :
  OpR X f (rI C fun i j=>.int (g i j)):=by
 intro pz s σ H x y v u Q I rx ry h;obtain⟨i,j,rfl,rfl,hc,q⟩:=h;obtain⟨t,rfl⟩:=rx;obtain⟨t',rfl⟩:=ry;exact rule i j t t' s _ _ hc ⟨.int (g i j),H,I.tok _,⟨_,rfl⟩,q⟩
theorem Aw{f:Value->Value->Sem Value}{g:Int->Int->Int}
  (rule:∀(i j:Int) (t u:Tok) (s:Shared) (Q:Kv) (E:Kv),Q (.int (g i j) s.toks) {s with toks:=s.toks+1}->wpAny (model X.prog X.w) X.A (f (.int i t) (.int j u)) Q E s) :
  OpR X f (rI0 fun i j=>.int (g i j)):=by
 intro pz s σ H x y v u Q I rx ry h;obtain⟨i,j,rfl,rfl,q⟩:=h;obtain⟨t,rfl⟩:=rx;obtain⟨t',rfl⟩:=ry;exact rule i j t t' s _ _ ⟨.int (g i j),H,I.tok _,⟨_,rfl⟩,q⟩
theorem vb{f:Value->Value->Sem Value}{g:Int->Int->Bool}
  (rule:∀(i j:Int) (t u:Tok) (s:Shared) (Q:Kv) (E:Kv),Q (.bool (g i j)) s->wpAny (model X.prog X.w) X.A (f (.int i t) (.int j u)) Q E s) :
  OpR X f (rI0 fun i j=>.bl (g i j)):=by
 intro pz s σ H x y v u Q I rx ry h;obtain⟨i,j,rfl,rfl,q⟩:=h;obtain⟨t,rfl⟩:=rx;obtain⟨t',rfl⟩:=ry;exact rule i j t t' s _ _ ⟨.bl (g i j),H,I,rfl,q⟩
def B9(i j:Int):Prop:=0<j/\j<1073741824
def CZ(i j:Int):Prop:=0<=j/\j<=1000000/\i.natAbs<2^64
def CMul(i j:Int):Prop:=(-(2^64)<i/\i<2^64)\/(-(2^64)<j/\j<2^64)
theorem CMul.ok{i j:Int}(h:CMul i j):IntMulOk i j:=by
 rcases h with⟨h1,h2⟩|⟨h1,h2⟩
 ·exact .of_left (intBits_le_64 h1 h2)
 ·exact .of_right (intBits_le_64 h1 h2)
theorem yr:OpR X (binaryOp .Add) (rI0 fun i j=>.int (i+j)):=Aw fun _ _ _ _ _ _ _ q=>add_int q
theorem yA:OpR X (binaryOp .Sub) (rI0 fun i j=>.int (i-j)):=Aw fun _ _ _ _ _ _ _ q=>sub_int q
theorem yv:OpR X (binaryOp .Mult) (rI CMul fun i j=>.int (i*j)):=opI fun _ _ _ _ _ _ _ hc q=>mul_int q hc.ok
theorem wd:OpR X (binaryOp .FloorDiv) (rI B9 fun i j=>.int (i/j)):=opI fun i j _ _ _ _ _ hc q=>by
 have h1:(0:Int)<j:=hc.1;have h2:j<1073741824:=hc.2;exact floordiv_int (by omega) (by rw[Int.fdiv_eq_ediv_of_nonneg i (by omega)];exact q) (.inl (PyProof.noPylong_small (by omega)))
theorem yX:OpR X (binaryOp .Mod) (rI (fun _ j=>0<j) fun i j=>.int (i%j)):=opI fun i j _ _ _ _ _ hc q=>by
 have h1:(0:Int)<j:=hc;exact mod_int' (by omega) (by rw[Int.fmod_eq_emod_of_nonneg i (by omega)];exact q)
theorem zN:OpR X (binaryOp .Pow) (rI CZ fun i j=>.int (i^j.toNat)):=opI fun _ _ _ _ _ _ _ hc q=>pow_int_small hc.1 hc.2.1 hc.2.2 q
theorem unI{f:Value->Sem Value}{g:Int->Int}
  (rule:∀(i:Int) (t:Tok) (s:Shared) (Q:Kv) (E:Kv),Q (.int (g i) s.toks) {s with toks:=s.toks+1}->wpAny (model X.prog X.w) X.A (f (.int i t)) Q E s) :
  UnR X f (rU fun i=>.int (g i)):=by
 intro pz s σ H x v Q I rx h;obtain⟨i,rfl,q⟩:=h;obtain⟨t,rfl⟩:=rx;exact rule i t s _ _ ⟨.int (g i),H,I.tok _,⟨_,rfl⟩,q⟩
theorem zy:UnR X (unaryOp .USub) (rU fun i=>.int (-i)):=unI fun _ _ _ _ _ q=>neg_int q
end
section
variable{X:Cx}{a b c:Expr}{ta tb tc:TE}{pos:Pos}
theorem BE:OpR X (compareOp .Lt) (rI0 fun i j=>.bl (decide (i<j))):=vb fun _ _ _ _ _ _ _ q=>lt_int q
theorem Br:OpR X (compareOp .LtE) (rI0 fun i j=>.bl (decide (i<=j))):=vb fun _ _ _ _ _ _ _ q=>le_int q
theorem xk:OpR X (compareOp .Gt) (rI0 fun i j=>.bl (decide (j<i))):=vb fun _ _ _ _ _ _ _ q=>gt_int q
theorem Aq:OpR X (compareOp .GtE) (rI0 fun i j=>.bl (decide (j<=i))):=vb fun _ _ _ _ _ _ _ q=>ge_int q
theorem OpR.or{f:Value->Value->Sem Value}{r r':R2}(h:OpR X f r)(h':OpR X f r'):OpR X f (fun x y H Q=>r x y H Q\/r' x y H Q):=by
 intro pz s σ H x y v u Q I rx ry q;rcases q with q|q
 ·exact h pz s σ H x y v u Q I rx ry q
 ·exact h' pz s σ H x y v u Q I rx ry q
theorem eJ(b:Expr){op:CmpOp}(h:op≠.In:=by decide)(h2:op≠.NotIn:=by decide):behindInMarks op b=false:=by
 have e1:(op == CmpOp.In)=false:=by cases op<;>first|rfl|exact absurd rfl h
 have e2:(op == CmpOp.NotIn)=false:=by cases op<;>first|rfl|exact absurd rfl h2
 cases b<;>simp[behindInMarks,e1,e2]
theorem pN{op:CmpOp}{r:R2}(ho:OpR X (compareOp op) r)(ha:PE X a ta)(hb:PE X b tb)(hm:behindInMarks op b=false):PE X (.Compare a [op] [b] pos) (tOp r ta tb):=by intro pz s σ H Q I h;exact wpAny_Compare1 (zL ha hb I h fun v u s2 x y H2 I2 rx ry q=>ho pz s2 σ H2 x y v u Q I2 rx ry q) hm
def sE(t:TE):TT:=fun σ H Q=>t σ H fun x H'=>∃k,x=.bl k/\Q k H'
theorem p0{op:CmpOp}{r:R2}(ho:OpR X (compareOp op) r)(ha:PE X a ta)(hb:PE X b tb)(hm:behindInMarks op b=false):PT X (.Compare a [op] [b] pos) (sE (tOp r ta tb)):=by
 intro pz s σ H Q I h;refine wpAny_isTrue_Compare1 (bn (ha pz s σ H _ I h) fun v s1 x H1 I1 r1 q1=>bn (hb pz s1 σ H1 _ I1 q1) fun u s2 y H2 I2 r2 q2=>
  bn (ho pz s2 σ H2 x y v u _ I2 r1 r2 q2) fun c s3 z H3 I3 r3 ⟨k,e,q3⟩=>?_) hm
 subst e;cases r3;exact Zr ⟨H3,I3,q3⟩
def oI(r r':R2)(ta tb tc:TE):TE:=fun σ H Q=>ta σ H fun x H1=>tb σ H1 fun y H2=>r x y H2 fun z H3=>∃k,z=.bl k /\
 (if k=true then tc σ H3 fun w' H4=>r' y w' H4 Q else Q (.bl false) H3)
theorem na{op op':CmpOp}{r r':R2}(ho:OpR X (compareOp op) r)(ho':OpR X (compareOp op') r')(ha:PE X a ta)(hb:PE X b tb)(hc:PE X c tc)
  (hm:lastMarks [op,op'] [b,c]=false:=by with_unfolding_all rfl):PE X (.Compare a [op,op'] [b,c] pos) (oI r r' ta tb tc):=by
 intro pz s σ H Q I h;refine Compare_chain (bn (ha pz s σ H _ I h) fun v s1 x H1 I1 r1 q1=>chain_link (bn (hb pz s1 σ H1 _ I1 q1) fun u s2 y H2 I2 r2 q2=>
  bn (ho pz s2 σ H2 x y v u _ I2 r1 r2 q2) fun d s3 z H3 I3 r3 ⟨k,e,q3⟩=>?_)) hm
 subst e;cases r3;refine Zr ?_;cases k with
 |false=>exact ite_ff ⟨.bl false,H3,I3,rfl,q3⟩
 |true=>exact ite_tt (chain_last (bn (hc pz s3 σ H3 _ I3 q3) fun w' s4 z' H4 I4 r4 q4=>ho' pz s4 σ H4 y z' u w' Q I4 r2 r4 q4))
theorem t9{op op':CmpOp}{r r':R2}(ho:OpR X (compareOp op) r)(ho':OpR X (compareOp op') r')(ha:PE X a ta)(hb:PE X b tb)(hc:PE X c tc)
  (hm:lastMarks [op,op'] [b,c]=false:=by with_unfolding_all rfl):PT X (.Compare a [op,op'] [b,c] pos) (sE (oI r r' ta tb tc)):=by
 intro pz s σ H Q I h;refine isTrue_chain (bn (ha pz s σ H _ I h) fun v s1 x H1 I1 r1 q1=>test_link (bn (hb pz s1 σ H1 _ I1 q1) fun u s2 y H2 I2 r2 q2=>
  bn (ho pz s2 σ H2 x y v u _ I2 r1 r2 q2) fun d s3 z H3 I3 r3 ⟨k,e,q3⟩=>?_)) hm
 subst e;cases r3;refine Zr ?_;cases k with
 |false=>
  obtain⟨k',e',q'⟩:=q3;cases e';exact ite_ff ⟨H3,I3,q'⟩
 |true=>
  refine ite_tt (test_last (bn (hc pz s3 σ H3 _ I3 q3) fun w' s4 z' H4 I4 r4 q4=>bn (ho' pz s4 σ H4 y z' u w' _ I4 r2 r4 q4) fun d' s5 z2 H5 I5 r5 hh_=>?_));obtain⟨k2,e2,q5⟩:=hh_;subst e2;cases r5;exact Zr ⟨H5,I5,q5⟩
theorem gA:(sizeLine:Nat)<2^63:=by rw[YQ];decide
theorem nJ:OpR X (binaryOp .Add) (fun x y H Q=>∃i j,x=.str i/\y=.str j/\i.length+j.length<=sizeLine/\Q (.str (i++j)) H):=by intro pz s σ H x y v u Q I rx ry h;obtain⟨i,j,rfl,rfl,hz,q⟩:=h;obtain⟨t,rfl⟩:=rx;obtain⟨t',rfl⟩:=ry;exact add_str (fun t' tk=>⟨.str (i++j),H,I.tok _,⟨_,rfl⟩,q⟩) hz
theorem eI{x:V}{us:List Value}(r:Vals [x] us):∃u,us=[u]/\RelV x u:=by
 cases r with
 |cons r1 r2=>cases r2;exact⟨_,rfl,r1⟩
theorem wX{x y:V}{us:List Value}(r:Vals [x,y] us):∃u w',us=[u,w']/\RelV x u/\RelV y w':=by
 cases r with
 |cons r1 r2=>
  cases r2 with
  |cons r3 r4=>cases r4;exact⟨_,_,rfl,r1,r3⟩
theorem rN(hc:X.calm=true):CallR X (.builtin "min") (fun xs H Q=>∃i j,xs=[.int i,.int j]/\Q (.int (if j<i then j else i)) H):=by
 intro pz s σ H xs us Q I r h;obtain⟨i,j,rfl,q⟩:=h;obtain⟨u,w',rfl,⟨t,rfl⟩,⟨t',rfl⟩⟩:=wX r;refine min_two_ints (I.ok.hd hc) fun h' tk k=>⟨_,H,I.kept k,?_,q⟩
 by_cases hj:j<i
 ·rw[Yi hj,Yi hj];exact⟨_,rfl⟩
 ·rw[Yn hj,Yn hj];exact⟨_,rfl⟩
theorem rV:CallR X (.type "int") (fun xs H Q=>(∃i,xs=[.int i]/\Q (.int i) H)\/∃k,xs=[.bl k]/\Q (.int (if k then 1 else 0)) H):=by
 intro pz s σ H xs us Q I r h;rcases h with⟨i,rfl,q⟩|⟨k,rfl,q⟩
 ·obtain⟨u,rfl,t,rfl⟩:=eI r;exact call_int_int ⟨.int i,H,I,⟨_,rfl⟩,q⟩
 ·obtain⟨u,rfl,r1⟩:=eI r;cases r1;exact call_int_bool ⟨.int (if k then 1 else 0),H,I.tok _,⟨_,rfl⟩,q⟩
end
structure ObjM (h:Heap) (x dx C:Addr) (mA:Str->Option Value):Prop where
 obj:h.get? x=some (PySem.W.instObj C dx)
 ns:h.Ns1 dx mA
 ne:dx≠x
theorem qJ{h:Heap}{dx:Addr}{mA:Ks}(n:h.Ns1 dx mA):∃od,h.get? dx=some od/\∀name,PySem.W.lookIn name od=some (mA name):=by
 obtain⟨o,es,ep,ho,hd,hk,_,hm⟩:=n;refine⟨o,ho,fun name=>?_⟩;have e:=hm name;unfold nsFind findBy at e;rw[<-Array.find?_toList]at e;unfold PySem.W.lookIn;rw[hd];dsimp only;split
 ·rename_i y q;rw[q]at e;exact Zi some e
 ·rename_i q;rw[q]at e;have a:es.toList.any (·.refKey)=false:=by rw[XW];intro y hy;obtain⟨z,t,hkey⟩:=hk y (Array.mem_toList_iff.mp hy);simp[DictEntry.refKey,hkey]
  have a':¬es.toList.any (·.refKey)=true:=by rw[a];exact Yk
  rw[Yn a'];exact Zi some e
theorem ObjM.look{h:Heap}{x dx C:Addr}{mA:Ks}(I:ObjM h x dx C mA):∃od,PySem.W.InstAt h x (PySem.W.instObj C dx) C (some od)/\∀name,PySem.W.lookIn name od=some (mA name):=
 let ⟨od,ho,hl⟩:=qJ I.ns
 ⟨od,⟨I.obj,rfl,rfl,ho⟩,hl⟩
section
variable{prog:Program}{w:World}{A:Around}{E:Kv}{s:Shared}{K:Kq}{x dx C f:Addr}{mA:Ks}{name:Str}{v:Value}
theorem u_{expr:Bool}{Q:Kv}(X:K.In s.heap)(I:ObjM s.heap x dx C mA)(hg:PySem.W.plainGet K C name=true)(hh:PySem.W.hasDictIn K C=true)
  (ha:PySem.W.findIn K (.ref C) name=some none) (hv:mA name=some v) (hv':PySem.W.handedIn v=true) (h:Q v {s with toks:=s.toks+1}) :
  wpAny (model prog w) A (getAttr (.ref x) name expr) Q E s:=by
 obtain⟨od,J,hl⟩:=I.look;exact PySem.W.get_value X J (XM hg).1 (PySem.W.findObj_own hh ha rfl (by rw[hl,hv])) hv' h
theorem sq{pl:Sem Bool}{Q:Value×List Value->Shared->Prop}(X:K.In s.heap)(I:ObjM s.heap x dx C mA)(hg:PySem.W.plainGet K C name=true)
  (hf:PySem.W.findIn K (.ref C) name=some (some (.ref f))) (ht:PySem.W.isFn K (.ref f)=true) (hv:mA name=none) (h:Q (.ref f,[.ref x]) s) :
  wpAny (model prog w) A (getMethod (.ref x) name pl) Q E s:=by
 obtain⟨od,J,hl⟩:=I.look;exact PySem.W.method_fn X J (XM hg).1 (XM hg).2 hf (Xo.mp ht) (by show(PySem.W.lookIn name od).map (·.isSome)=some false;rw[hl,hv];rfl) h
theorem wH{ns:List Str}{Q:Unit->Shared->Prop}(X:K.In s.heap)(I:ObjM s.heap x dx C mA)
  (hs:PySem.W.findIn K (.ref C) "__setattr__"=some (some (.builtin "object.__setattr__"))) (hp:PySem.W.plainOver K C=true) (ht:PySem.W.takerIn K C name=some none) (hh:PySem.W.hasDictIn K C=true)
  (hw:PySem.Within mA ns) (hsz:ns.length<=sizeLine)
  (h:∀h',ObjM h' x dx C (fun y=>if y=name then some v else mA y)->Heap.SameBut dx s.heap h'->Q () {s with heap:=h',toks:=s.toks+2}) :
  wpAny (model prog w) A (setAttr (.ref x) name v) Q E s:=by
 obtain⟨od,J,hl⟩:=I.look;refine PySem.W.set_plain X J hs (PySem.W.osa_open (s:={s with toks:=s.toks+1}) (r:=none) X J hp ht fun b=>?_);obtain⟨cd,hc,hd'⟩:=PySem.W.any_some hh;have hx:s.heap.get? x=some ⟨.ref C,some dx,.plain,#[]⟩:=I.obj;refine Yd (YA (Yd (Yd (wpAny_loadPart hx (Yd (PySem.W.Looks.here (s:={s with toks:=s.toks+1}) (PySem.W.looks_clsIn X hc) ?_))))));rw[hd'];refine YA (a:=some dx) (Yd (YA (Yd ?_)));refine wpAny_nsSet1 (s:={s with toks:=s.toks+1}) I.ns fun h' hn2 hs2=>?_;obtain⟨oD,esD,epD,hoD,hdD,hcD⟩:=hn2.count (PySem.Within.cons name v hw);refine Yd (wpAny_lookBehind hoD (by rw[hdD];exact pastItsLine_dict (YH hcD (by rw[Yu];omega))) ?_);exact YA (h _ ⟨(hs2.2 _ (XD I.ne)).trans I.obj,hn2,I.ne⟩ hs2)
theorem uu{R:Kr}{vs:List Value}{kw:List (Str×Value)}(X:K.In s.heap)(hm:PySem.W.makesIn K C=true)
  (hi:PySem.W.findIn K (.ref C) "__init__"=some (some (.ref f))) (hf:PySem.W.typeIn K (.ref f)=some (.type "function"))
  (h:codeAny (model prog w) (A.under (.builtin "type.__call__" ⟨.ref C::vs,kw⟩)) (.call (.ref f) ⟨.ref (s.heap.objs.size+1)::vs,kw⟩) (PySem.W.InitBack (s.heap.objs.size+1) R)
   {s with heap:=(s.heap.push PySem.W.emptyDict).push (PySem.W.instObj C s.heap.objs.size)}) :
  codeAny (model prog w) A (.call (.ref C) ⟨vs,kw⟩) R s:=by
 obtain⟨hh,g,d,t,os⟩:=s;exact PySem.W.make_core (PySem.W.makes_of X hm) (PySem.W.looks_findIn X hi) (fun self=>PySem.W.bind_fn X self hf) (.inl rfl) h
end
def d8(f:Str)(v:V):List (Str×V)->List (Str×V)
 |[]=>[(f,v)]
 |(g,x)::r=>if g=f then(g,v)::r else(g,x)::d8 f v r
theorem g_(f g:Str)(v:V):∀fs:List (Str×V),(d8 f v fs).lookup g=if g=f then some v else fs.lookup g
 |[]=>by
  show List.lookup g [(f,v)]=_;by_cases h:g=f
  ·have hb:(g == f)=true:=Xo.mpr h;simp only[List.lookup,hb,Yi h]
  ·have hb:(g == f)=false:=ZD.mpr h;simp only[List.lookup,hb,Yn h]
 |(k,x)::r=>by
  have ih:=g_ f g v r;rw[show d8 f v ((k,x)::r)=(if k=f then(k,v)::r else(k,x)::d8 f v r)from rfl];by_cases hk:k=f
  ·rw[Yi hk];by_cases h:g=k
   ·have hb:(g == k)=true:=Xo.mpr h;simp only[List.lookup,hb,Yi (h.trans hk)]
   ·have hb:(g == k)=false:=ZD.mpr h;simp only[List.lookup,hb,Yn (fun e:g=f=>h (e.trans hk.symm))]
  ·rw[Yn hk];by_cases h:g=k
   ·have hb:(g == k)=true:=Xo.mpr h;simp only[List.lookup,hb,Yn (fun e:g=f=>hk (h.symm.trans e))]
   ·have hb:(g == k)=false:=ZD.mpr h;simp only[List.lookup,hb];exact ih
theorem gy(f:Str)(v:V):∀fs:List (Str×V),f∈(d8 f v fs).map (·.1)/\∀g,g∈fs.map (·.1)->g∈(d8 f v fs).map (·.1)
 |[]=>⟨by simp[d8],fun g h=>by simp at h⟩
 |(k,x)::r=>by
  obtain⟨i1,i2⟩:=gy f v r;rw[show d8 f v ((k,x)::r)=(if k=f then(k,v)::r else(k,x)::d8 f v r)from rfl];by_cases hk:k=f
  ·rw[Yi hk];subst hk;exact⟨by simp,fun g h=>by simpa using h⟩
  ·rw[Yn hk];refine⟨?_,fun g h=>?_⟩
   ·rw[YM];exact Yc _ i1
   ·rw[YM]at h ⊢;rcases YF.mp h with e|e
    ·exact YF.mpr (.inl e)
    ·exact Yc _ (i2 g e)
theorem gX(f:Str)(v:V):∀fs:List (Str×V),(d8 f v fs).length<=fs.length+1
 |[]=>by simp[d8]
 |(k,x)::r=>by
  have ih:=gX f v r;rw[show d8 f v ((k,x)::r)=(if k=f then(k,v)::r else(k,x)::d8 f v r)from rfl];by_cases hk:k=f
  ·rw[Yi hk,Yu,Yu];omega
  ·rw[Yn hk,Yu,Yu];omega
theorem RelO.some_of{v:V}{o:Option Value}(r:RelO (some v) o):∃u,o=some u/\RelV v u:=by
 cases o with
 |none=>exact(show False from r).elim
 |some u=>exact⟨u,rfl,r⟩
theorem RelO.none_of{o:Option Value}(r:RelO none o):o=none:=by
 cases o with
 |none=>rfl
 |some u=>exact(show False from r).elim
theorem qS{v:V}{u:Value}(r:RelV v u):PySem.W.handedIn u=true:=by
 cases v with
 |non=>cases(show u=Value.none from r);rfl
 |bl b=>cases(show u=Value.bool b from r);rfl
 |int i=>obtain⟨t,e⟩:=(show ∃t,u=Value.int i t from r);cases e;rfl
 |str x=>obtain⟨t,e⟩:=(show ∃t,u=Value.str x t from r);cases e;rfl
 |byt b=>obtain⟨t,e⟩:=(show ∃t,u=Value.bytes b t from r);cases e;rfl
 |flt b=>obtain⟨t,e⟩:=(show ∃t,u=Value.float b t from r);cases e;rfl
 |ref a=>cases(show u=Value.ref a from r);rfl
 |ty n=>cases(show u=Value.type n from r);rfl
section
variable{P:Program}{w:World}{H H':Hp}{h h':Heap}{a C dx:Addr}{fs fs':List (Str×V)}
theorem kZ(hok:HOk P w H h)(e:H a=some (.ins C dx fs)):∃mA,ObjM h a dx C mA/\(∀f,RelO (fs.lookup f) (mA f))/\PySem.Within mA (fs.map (·.1))/\fs.length<=1000/\H dx=some (.own a):=by
 obtain⟨d,z,ne,ob,mA,n,r,q⟩:=(show ObjOk P w H h a (.ins C dx fs)from hok a _ e)
 exact⟨mA,⟨ob,n,ne⟩,r,q,z,d⟩
end
structure Cls (K:PySem.W.Frag) (C:Addr):Prop where
 pg:PySem.W.plainGet K C Str.empty=true
 hd:PySem.W.hasDictIn K C=true
 po:PySem.W.plainOver K C=true
 sa:PySem.W.findIn K (.ref C) "__setattr__"=some (some (.builtin "object.__setattr__"))
theorem Cls.get{K:Kq}{C:Addr}(c:Cls K C)(f:Str):PySem.W.plainGet K C f=true:=c.pg
def NoAttr(K:Kq)(C:Addr)(f:Str):Prop:=PySem.W.findIn K (.ref C) f=some none
theorem NoAttr.taker{K:Kq}{C:Addr}{f:Str}(n:NoAttr K C f):PySem.W.takerIn K C f=some none:=by unfold PySem.W.takerIn;rw[show PySem.W.findIn K (.ref C) f=some none from n];rfl
structure Meth (K:PySem.W.Frag) (C:Addr) (m:Str) (f:Addr):Prop where
 at_:PySem.W.findIn K (.ref C) m=some (some (.ref f))
 fn:PySem.W.isFn K (.ref f)=true
 kp:PySem.W.keepIn K (.ref f)=true
section
variable{X:Cx}{pz:Kp}{σ:St}{H:Hp}{s:Shared}{a C dx:Addr}{fs:List (Str×V)}{f:Str}{v:V}{A:Around}{E:Kv}
theorem oJ{b:Bool}{Q:Kv}(I:Inv X pz σ H s)(e:H a=some (.ins C dx fs))(c:Cls X.K C)(n:NoAttr X.K C f)(l:fs.lookup f=some v)
  (h:∀u s',Inv X pz σ H s'->RelV v u->Q u s'):wpAny (model X.prog X.w) A (getAttr (.ref a) f b) Q E s:=by
 obtain⟨mA,O,r,_,_,_⟩:=kZ I.hok e;obtain⟨u,hu,ru⟩:=RelO.some_of (v:=v) (o:=mA f) (by rw[<-l];exact r f);exact u_ I.kIn O (c.get f) c.hd n hu (qS ru) (h u _ (I.tok _) ru)
theorem jB{m:Str}{g:Addr}{pl:Sem Bool}{Q:Value×List Value->Shared->Prop}(I:Inv X pz σ H s)(e:H a=some (.ins C dx fs))(c:Cls X.K C)(k:Meth X.K C m g)(l:fs.lookup m=none)
  (h:Q (.ref g,[.ref a]) s):wpAny (model X.prog X.w) A (getMethod (.ref a) m pl) Q E s:=by
 obtain⟨mA,O,r,_,_,_⟩:=kZ I.hok e;have hn:mA m=none:=RelO.none_of (by rw[<-l];exact r m);exact sq I.kIn O (c.get m) k.at_ k.fn hn h
theorem nP{y:V}{u:Value}{Q:Unit->Shared->Prop}(I:Inv X pz σ H s)(e:H a=some (.ins C dx fs))(c:Cls X.K C)(n:NoAttr X.K C f)(hl:fs.length<1000)(ry:RelV y u)
  (h:∀s',Inv X pz σ (upd H a (.ins C dx (d8 f y fs))) s'->Q () s'):wpAny (model X.prog X.w) A (setAttr (.ref a) f u) Q E s:=by
 obtain⟨mA,O,r,wi,_,ho⟩:=kZ I.hok e;have hz:(fs.map (·.1)).length<=sizeLine:=by rw[Yb,YQ];omega
 refine wH I.kIn O c.sa c.po n.taker c.hd wi hz fun h' O' sb=>h _ ?_;have hd:∃o,h'.get? dx=some o:=let ⟨o,_,_,e',_⟩:=O'.ns;⟨o,e'⟩
 refine I.write (x:=a) (e:=dx) (by rw[e];exact True.intro) (.inr ho) (fun b q hb z=>(sb.2 b hb).trans z) hd ?_;refine⟨by rw[aA O.ne];exact ho,?_,O.ne,O'.obj,_,O'.ns,fun g=>?_,fun g hg=>?_⟩
 ·have:=gX f y fs;omega
 ·show RelO ((d8 f y fs).lookup g) (if g=f then some u else mA g);rw[g_];by_cases q:g=f
  ·rw[Yi q,Yi q];exact ry
  ·rw[Yn q,Yn q];exact r g
 ·by_cases q:g=f
  ·rw[q];exact(gy f y fs).1
  ·refine(gy f y fs).2 g (wi g fun z=>hg ?_);show(if g=f then some u else mA g)=none;rw[Yn q];exact z
theorem Inv.made(I:Inv X pz σ H s):Inv X pz σ (upd (upd H s.heap.objs.size (.own (s.heap.objs.size+1))) (s.heap.objs.size+1) (.ins C s.heap.objs.size []))
  {s with heap:=(s.heap.push PySem.W.emptyDict).push (PySem.W.instObj C s.heap.objs.size)}:=by
 have e1:(s.heap.push PySem.W.emptyDict).get? s.heap.objs.size=some PySem.W.emptyDict:=Yo s.heap rfl;have e2:((s.heap.push PySem.W.emptyDict).push (PySem.W.instObj C s.heap.objs.size)).get? (s.heap.objs.size+1)=some (PySem.W.instObj C s.heap.objs.size):=by
  have:=Yo (s.heap.push PySem.W.emptyDict) (o:=PySem.W.instObj C s.heap.objs.size) rfl
  rwa [ZC]at this
 have e3:(s.heap.push PySem.W.emptyDict).Ns s.heap.objs.size (fun _=>none):=⟨PySem.W.emptyDict,#[],_,e1,rfl,(fun e he=>absurd he (by simp)),fun _=>rfl⟩
 have I1:=I.laid (a:=s.heap.objs.size) (o:=.own (s.heap.objs.size+1)) (h':=s.heap.push PySem.W.emptyDict) (t':=s.toks) (fun b u q=>Ye _ q) (Ym _) ⟨_,e1⟩;refine I1.laid (a:=s.heap.objs.size+1) (o:=.ins C s.heap.objs.size []) (t':=s.toks) (fun b u q=>Ye _ q) (ZQ (ZC _ _)) ?_;have ne:s.heap.objs.size≠s.heap.objs.size+1:=YG (XE _);refine⟨by rw[aA ne,aR],YT _,ne,e2,fun _=>none,(Heap.Ns1.of_empty e3).at fun o q=>Ye _ q,fun _=>True.intro,fun y hy=>absurd rfl hy⟩
theorem wq{prog:Program}{w:World}{env:Env}{e:Expr}{f:Str}{pos:Pos}{s:Shared}{Q:Kv}(hb:attributeBase e f env (eval e env)=eval e env)
  (h:wpAny (model prog w) A (eval e env) (fun o s₁=>wpAny (model prog w) A (getAttr o f true) Q E s₁) E s):wpAny (model prog w) A (eval (.Attribute e f pos) env) Q E s:=
 Attribute_any_ h (by rw[arm_eval_Attribute,hb])
end
def CM(K:Kq)(ta:TE)(f:Str):TE:=fun σ H Q=>ta σ H fun x H1=>∃a C dx fs v,x=.ref a/\H1 a=some (.ins C dx fs)/\Cls K C/\NoAttr K C f/\fs.lookup f=some v/\Q v H1
def CB(K:Kq)(ta tv:TE)(f:Str):TS:=fun D σ H=>tv σ H fun y H1=>ta σ H1 fun x H2=>∃a C dx fs,x=.ref a/\H2 a=some (.ins C dx fs)/\Cls K C/\NoAttr K C f/\fs.length<1000 /\
 D.nx σ (upd H2 a (.ins C dx (d8 f y fs)))
section
variable{X:Cx}{o e value:Expr}{f:Str}{pos pos' tpos:Pos}{ta tv:TE}
theorem yW(he:PE X e ta)(hb:attributeBase e f X.env (eval e X.env)=eval e X.env):PE X (.Attribute e f pos) (CM X.K ta f):=by intro pz s σ H Q I h;refine wq hb (bn (he pz s σ H _ I h) fun u s1 x H1 I1 rx hh_=>?_);obtain⟨a,C,dx,fs,v,ex,ea,c,n,l,q⟩:=hh_;subst ex;obtain rfl:u=Value.ref a:=rx;exact oJ I1 ea c n l fun u' s2 I2 ru=>⟨v,H1,I2,ru,q⟩
theorem yG(ha:PE X o ta)(hv:PE X value tv)(hs:swapsWith value (some (.Attribute o f pos')) pos.line X.env=pure false):PS X (.Assign [.Attribute o f pos'] value pos) (CB X.K ta tv f):=by intro pz s σ H D I h;refine plainObj_wpAny_Assign_Attribute (bn (hv pz s σ H _ I h) fun u s1 y H1 I1 ry q=>bn (ha pz s1 σ H1 _ I1 q) fun ov s2 x H2 I2 rx hh_=>?_) hs;obtain⟨a,C,dx,fs,ex,ea,c,n,l,q2⟩:=hh_;subst ex;obtain rfl:ov=Value.ref a:=rx;exact nP I2 ea c n l ry fun s3 I3=>⟨σ,_,I3,q2⟩
end
section
variable{X:Cx}{pz:Kp}{σ:St}{H:Hp}{s:Shared}{A:Around}{E:Kv}{Q:Kv}{c:Value}{b:Bool}
end
structure Room (k:Nat) (A:Around):Prop where
 hd:A.handled=none
 dp:A.depth+3*k+5<recursionLimit
 un:A.units+16*k+200<cLine
theorem Room.mono{j k:Nat}{A:Around}(r:Room k A)(h:j<=k):Room j A:=⟨r.hd,by have:=r.dp;omega,by have:=r.un;omega⟩
theorem Room.deeper{k:Nat}{A:Around}(r:Room (k+1) A)(env:Env):Room k (A.deeper env):=
 ⟨r.hd,by have:=r.dp;show A.depth+1+3*k+5<_;omega,by have:=r.un;show A.units+3+16*k+200<_;omega⟩
theorem oR{A:Around}{C:Addr}{us:List Value}{kw:List (Str×Value)}:(A.under (.builtin "type.__call__" ⟨.ref C::us,kw⟩)).depth=A.depth+1:=by
 first|rfl|simp[Around.under,Code.weight,Code.isCreation,Code.isGuard,Code.isCaller,Code.frames,Code.isFrame,guardIds]
theorem n_{A:Around}{C:Addr}{us:List Value}{kw:List (Str×Value)}:(A.under (.builtin "type.__call__" ⟨.ref C::us,kw⟩)).units=A.units+1:=by
 first|rfl|simp[Around.under,Code.cUnits,Code.frames,Code.isFrame]
theorem Room.make{k:Nat}{A:Around}(r:Room (k+1) A)(C:Addr)(us:List Value)(kw:List (Str×Value)):Room k (A.under (.builtin "type.__call__" ⟨.ref C::us,kw⟩)):=
 ⟨r.hd,by have:=r.dp;rw[oR];omega,by have:=r.un;rw[n_];omega⟩
theorem Room.depth{k:Nat}{A:Around}(r:Room k A):A.depth<recursionLimit:=by have:=r.dp;omega
def nV:TA:=fun _ H Q=>Q [] H
def ju(ta:TE)(tr:TA):TA:=fun σ H Q=>ta σ H fun x H1=>tr σ H1 fun xs H2=>Q (x::xs) H2
section
variable{X:Cx}{e:Expr}{es:List Expr}{te:TE}{t:TA}{pos:Pos}
theorem bp:PA X [] nV:=fun _ _ _ _ H Q I h=>Calls.spliced_nil ⟨[],H,I,.nil,h⟩
theorem aE(ha:PE X e te)(hr:PA X es t)(hs:starEach (e::es) X.env=(false,eval e X.env)::starEach es X.env:=by rfl):PA X (e::es) (ju te t):=by intro pos pz s σ H Q I h;rw[hs];show wpAny _ _ (spliced ((false,eval e X.env)::backTo pos (starEach es X.env))) _ _ s;refine Calls.spliced_cons (bn (ha pz s σ H _ I h) fun u s1 x H1 I1 r1 q1=>?_);exact bn (hr pos pz s1 σ H1 _ I1 q1) fun us s2 xs H2 I2 r2 q2=>⟨x::xs,H2,I2,.cons r1 r2,q2⟩
def CI(t:TA):TE:=fun σ H Q=>t σ H fun xs H1=>xs.length<=sizeLine/\∀p,H1 p=none->Q (.ref p) (upd H1 p (.tup xs))
def Cb(t:TA):TE:=fun σ H Q=>t σ H fun xs H1=>xs.length<=sizeLine/\∀p,H1 p=none->Q (.ref p) (upd H1 p (.lst xs))
theorem zD{x1}(h:PA X es t):PE X (.Tuple es x1 pos) (CI t):=by intro pz s σ H Q I hq;refine wpAny_Tuple_spliced (bn (h pos pz s σ H _ I hq) fun us s1 xs H1 I1 r ⟨z,q⟩=>⟨by rw[<-r.length];exact z,?_⟩);have hf:H1 s1.heap.objs.size=none:=I1.hok.fresh (Ym _);refine⟨.ref s1.heap.objs.size,upd H1 s1.heap.objs.size (.tup xs),I1.laid (t':=s1.toks) (fun b u e=>Ye _ e) (Ym _) ?_,rfl,q _ hf⟩;exact⟨z,us,r,⟨_,Yo _ rfl,rfl,_,rfl⟩,_,Yo _ rfl,rfl⟩
theorem xY(h:PA X es t):PE X (.List es pos) (Cb t):=by intro pz s σ H Q I hq;refine wpAny_List_spliced (bn (h pos pz s σ H _ I hq) fun us s1 xs H1 I1 r ⟨z,q⟩=>⟨by rw[<-r.length];exact z,?_⟩);have hf:H1 s1.heap.objs.size=none:=I1.hok.fresh (Ym _);refine⟨.ref s1.heap.objs.size,upd H1 s1.heap.objs.size (.lst xs),I1.laid (t':=s1.toks) (fun b u e=>Ye _ e) (Ym _) ?_,rfl,q _ hf⟩;exact⟨z,us,0,r,Yo _ rfl⟩
end
abbrev Sp:=List V->Hp->VK->XK->Prop
abbrev CXT:=List Env->Hp->Shared->XK->Value->Shared->Prop
structure Env0 (P:Program) (w:World) (K:PySem.W.Frag) (mg:Str->Option Value) (base:Heap) (A:Around) (outer:List Env) (s:Shared) (H:Hp):Prop where
 frames:A.frames=some outer
 mod:Mod K mg base
 bs:∀b o,base.get? b=some o->s.heap.get? b=some o/\H b=none
 bsz:base.objs.size<=s.heap.objs.size
 funs:s.heap.FunFrames base outer
 frf:∀b∈frs outer,H b=none
 hok:HOk P w H s.heap
 bare:AllBare s.gens
def CE(outer:List Env)(P:Program)(w:World)(H:Hp)(s:Shared)(Q:VK)(u:Value)(s':Shared):Prop:=
 ∃v H',s'.os=s.os/\AllBare s'.gens/\Un (frs outer) [] H H' s.heap s'.heap/\HOk P w H' s'.heap/\RelV v u/\Q v H'
def CR(CX:CXT)(outer:List Env)(P:Program)(w:World)(H:Hp)(s:Shared)(Q:VK)(E:XK)(r:Result)(s':Shared):Prop:=
 match r with
 |.ok (.ret u)=>CE outer P w H s Q u s'
 |.ok _=>False
 |.error e=>CX outer H s E e s'
structure FnOk (P:Program) (w:World) (K:PySem.W.Frag) (mg:Str->Option Value) (base:Heap) (CX:CXT) (k:Nat) (f:Addr) (fd:FuncData) (ps:List Str) (sp:Sp):Prop where
 len:∀vs H Q E,sp vs H Q E->vs.length=ps.length
 run:∀(A:Around) (outer:List Env) (s:Shared) (H:Hp) (args:Args) (us:List Value) (vs:List V) (Q:VK) (E:XK),Room k A->Env0 P w K mg base A outer s H->BindsTo s fd args (ps.zip us)->Vals vs us->sp vs H Q E->
  codeAny (model P w) A (.call (.ref f) args) (CR CX outer P w H s Q E) s
theorem FnOk.imp{P:Program}{w:World}{K:Kq}{mg:Ks}{base:Heap}{CX:CXT}{k:Nat}{f:Addr}{fd:FuncData}{ps:List Str}{sp sp':Sp}(F:FnOk P w K mg base CX k f fd ps sp)
  (h:∀vs H Q E,sp' vs H Q E->sp vs H Q E):FnOk P w K mg base CX k f fd ps sp':=
 ⟨fun vs H Q E q=>F.len vs H Q E (h _ _ _ _ q),fun A outer s H args us vs Q E hr he hb hv hs=>F.run A outer s H args us vs Q E hr he hb hv (h _ _ _ _ hs)⟩
theorem Env0.make{P:Program}{w:World}{K:Kq}{mg:Ks}{base:Heap}{A:Around}{outer:List Env}{s:Shared}{H:Hp}(e:Env0 P w K mg base A outer s H)(C:Addr)(us:List Value)(kw:List (Str×Value)) :
  Env0 P w K mg base (A.under (.builtin "type.__call__" ⟨.ref C::us,kw⟩)) outer s H:=⟨by first|exact e.frames|(simpa[Around.under,Code.envs,Code.isFrame,pushEnvs]using e.frames),e.mod,e.bs,e.bsz,e.funs,e.frf,e.hok,e.bare⟩
section
variable{X:Cx}{pz:Kp}{σ:St}{H:Hp}{s s':Shared}
theorem Inv.env0(I:Inv X pz σ H s):Env0 X.prog X.w X.K X.mg X.base X.A X.stack s H:=
 ⟨I.ok.frames,I.ok.mod,I.bs,YH I.ok.bsz I.sz,I.stack,I.stkFree,I.hok,I.bare⟩
theorem Inv.after{Q:VK}{u:Value}(I:Inv X pz σ H s)(h:CE X.stack X.prog X.w H s Q u s'):EP X pz σ Q u s':=by obtain⟨v,H',os,bare,un,hok,r,q⟩:=h;obtain⟨hh,g,d,t,os'⟩:=s';obtain rfl:os'=s.os:=os;exact⟨v,H',I.call (h':=hh) (g':=g) (d':=d) (t':=t) (ch:=[]) un hok bare (fun b z=>absurd z (by simp)),r,q⟩
end
def uZ(sp:Sp)(dvs:List V)(E:XK)(t:TA):TE:=fun σ H Q=>t σ H fun vs H1=>sp (vs++dvs) H1 Q E
def qr(C:Addr)(m:Str)(sp:Sp)(dvs:List V)(E:XK)(ta:TE)(t:TA):TE:=fun σ H Q=>ta σ H fun x H1=>∃a dx fs,x=.ref a/\H1 a=some (.ins C dx fs)/\fs.lookup m=none /\
 t σ H1 fun vs H2=>sp (x::(vs++dvs)) H2 Q E
def A_(C:Addr)(sp:Sp)(dvs:List V)(E:XK)(t:TA):TE:=fun σ H Q=>t σ H fun vs H1=>∀x dx,H1 x=none->H1 dx=none->dx≠x->
 sp (.ref x::(vs++dvs)) (upd (upd H1 dx (.own x)) x (.ins C dx [])) (fun v H2=>v=.non/\Q (.ref x) H2) E
def Binds(K:Kq)(fd:FuncData)(ps:List Str)(ds:List Value):Prop:=
 ∀(s:Shared) (us:List Value),K.In s.heap->(us++ds).length=ps.length->BindsTo s fd ⟨us,[]⟩ (ps.zip (us++ds))
theorem Binds.all{K:Kq}{fd:FuncData}{ps:List Str}(h:∀us:List Value,us.length=ps.length->bindArgs fd ⟨us,[]⟩=pure (ps.zip us)):Binds K fd ps []:=fun s us _ hl=>by
 rw[Ze]at hl ⊢;exact .of_eq (h us hl)
def fq(CX:CXT)(X:Cx)(E:XK):Prop:=∀(pz:Kp) (σ:St) (H:Hp) (s:Shared) (e:Value) (s':Shared),Inv X pz σ H s->CX X.stack H s E e s'->X.xe e s'
section
variable{X:Cx}{CX:CXT}{k:Nat}{f C:Addr}{fd:FuncData}{ps:List Str}{sp:Sp}{dvs:List V}{ds:List Value}{E:XK}{x m:Str}{p pos apos:Pos}{e o:Expr}{es:List Expr}{ta:TE}{t:TA}
theorem n5{pz:Kp}{σ:St}{H:Hp}{s:Shared}{Q:VK}{us:List Value}{vs:List V}(F:FnOk X.prog X.w X.K X.mg X.base CX k f fd ps sp)(hr:Room k X.A)(hb:Binds X.K fd ps ds)(hd:Vals dvs ds)(hx:fq CX X E)
  (I:Inv X pz σ H s) (r:Vals vs us) (h:sp (vs++dvs) H Q E):wpAny (model X.prog X.w) X.A (call (.ref f) us) (EP X pz σ Q) X.xe s:=by
 have r2:Vals (vs++dvs) (us++ds):=r.append hd;have hl:(us++ds).length=ps.length:=by rw[<-r2.length];exact F.len _ _ _ _ h
 refine wpAny_call (codeAny_mono (F.run X.A X.stack s H ⟨us,[]⟩ (us++ds) (vs++dvs) Q E hr I.env0 (hb s us I.kIn hl) r2 h) fun r s' hq=>?_);cases r with
 |error e=>exact hx pz σ H s e s' I hq
 |ok fl=>
  cases fl with
  |ret u=>exact I.after hq
  |next=>exact False.elim hq
  |brk=>exact False.elim hq
  |cont=>exact False.elim hq
theorem gt(F:FnOk X.prog X.w X.K X.mg X.base CX k f fd ps sp)(hr:Room k X.A)(hg:Gl X x)(hm:X.mg x=some (.ref f))(hk:PySem.W.keepIn X.K (.ref f)=true)(hb:Binds X.K fd ps ds)(hd:Vals dvs ds)(hx:fq CX X E)
  (ha:PA X (e::es) t) (hdb:(x == ("__debug__":Str))=false:=by decide) (he:starEach (e::es) X.env=(false,eval e X.env)::starEach es X.env:=by rfl) (hpl:(backTo pos (starEach es X.env)).any (·.1)=false:=by rfl) :
  PE X (.Call (.Name x p) (e::es) [] pos) (uZ sp dvs E t):=by
 intro pz s σ H Q I h;refine Xr (k5 I hg hm ?_ hdb);refine XS (h₀:=X.base) I.ok.mod.kin hk (bn (ha pos pz s σ H _ I h) fun us s1 vs H1 I1 r q=>⟨I1.kIn,?_⟩) he hpl;exact n5 F hr hb hd hx I1 r q
theorem ww{pl:Sem Bool}(he:PE X o ta)(c:Cls X.K C)(hm:Meth X.K C m f)(F:FnOk X.prog X.w X.K X.mg X.base CX k f fd ps sp)(hr:Room k X.A)(hb:Binds X.K fd ps ds)(hd:Vals dvs ds)(hx:fq CX X E)(ha:PA X (e::es) t)
  (hst:starEach (e::es) X.env=(false,eval e X.env)::starEach es X.env:=by rfl) (hpl:(backTo pos (starEach es X.env)).any (·.1)=false:=by rfl)
  (ht:eval (.Call (.Attribute o m apos) (e::es) [] pos) X.env=(do
   let ov <-eval o X.env
   standAt apos.atName
   let (f,first) <-holding [ov] (getMethod ov m pl)
   callWith pos f first (backTo pos (starEach (e::es) X.env)) (backToKw pos (keywordEach [] X.env))):=by rfl) :
  PE X (.Call (.Attribute o m apos) (e::es) [] pos) (qr C m sp dvs E ta t):=by
 intro pz s σ H Q I h;refine PySem.W.methodCall_KW (pl:=pl) (bn (he pz s σ H _ I h) fun u s1 x H1 I1 rx hh_=>?_) ht;obtain⟨a,dx,fs,ex,ea,l,q⟩:=hh_;subst ex;obtain rfl:u=Value.ref a:=rx;refine jB I1 ea c hm l ?_;refine XS (first:=[.ref a]) (h₀:=X.base) I.ok.mod.kin hm.kp (bn (ha pos pz s1 σ H1 _ I1 q) fun us s2 vs H2 I2 r q2=>⟨I2.kIn,?_⟩) hst hpl;exact n5 (us:=.ref a::us) (vs:=.ref a::vs) F hr hb hd hx I2 (.cons rfl r) q2
theorem sM{pl:Sem Bool}(he:PE X o ta)(c:Cls X.K C)(hm:Meth X.K C m f)(F:FnOk X.prog X.w X.K X.mg X.base CX k f fd ps sp)(hr:Room k X.A)(hb:Binds X.K fd ps ds)(hd:Vals dvs ds)(hx:fq CX X E)
  (ht:eval (.Call (.Attribute o m apos) [] [] pos) X.env=(do
   let ov <-eval o X.env
   standAt apos.atName
   let (f,first) <-holding [ov] (getMethod ov m pl)
   callWith pos f first (backTo pos (starEach [] X.env)) (backToKw pos (keywordEach [] X.env))):=by rfl) :
  PE X (.Call (.Attribute o m apos) [] [] pos) (qr C m sp dvs E ta nV):=by
 intro pz s σ H Q I h;refine PySem.W.methodCall_KW (pl:=pl) (bn (he pz s σ H _ I h) fun u s1 x H1 I1 rx hh_=>?_) ht;obtain⟨a,dx,fs,ex,ea,l,q⟩:=hh_;subst ex;obtain rfl:u=Value.ref a:=rx;refine jB I1 ea c hm l ?_;exact PySem.W.callWith_K0 (first:=[.ref a]) I1.kIn hm.kp (n5 (us:=[.ref a]) (vs:=[.ref a]) F hr hb hd hx I1 (.cons rfl .nil) q)
structure Mk (K:PySem.W.Frag) (C f:Addr):Prop where
 makes:PySem.W.makesIn K C=true
 init:PySem.W.findIn K (.ref C) "__init__"=some (some (.ref f))
 fn:PySem.W.isFn K (.ref f)=true
 kp:PySem.W.keepIn K (.ref C)=true
theorem sr{pz:Kp}{σ:St}{H:Hp}{s:Shared}{Q:VK}{us:List Value}{vs:List V}(M:Mk X.K C f)(F:FnOk X.prog X.w X.K X.mg X.base CX k f fd ps sp)(hr:Room (k+1) X.A)(hb:Binds X.K fd ps ds)(hd:Vals dvs ds)
  (hx:fq CX X E) (I:Inv X pz σ H s) (r:Vals vs us)
  (h:∀x dx,H x=none->H dx=none->dx≠x->sp (.ref x::(vs++dvs)) (upd (upd H dx (.own x)) x (.ins C dx [])) (fun v H2=>v=.non/\Q (.ref x) H2) E) :
  wpAny (model X.prog X.w) X.A (call (.ref C) us) (EP X pz σ Q) X.xe s:=by
 have hq:=h (s.heap.objs.size+1) s.heap.objs.size (I.hok.fresh (Nat.le_succ _)) (I.hok.fresh (Ym _)) (YG (XE _));have I2:=Inv.made (C:=C) I;have r2:Vals (V.ref (s.heap.objs.size+1)::(vs++dvs)) (Value.ref (s.heap.objs.size+1)::(us++ds)):=.cons rfl (r.append hd);have hl:(Value.ref (s.heap.objs.size+1)::us++ds).length=ps.length:=by have e:=r2.length;rw[F.len _ _ _ _ hq]at e;exact e.symm
 refine wpAny_call (uu (f:=f) I.kIn M.makes M.init (Xo.mp M.fn) (codeAny_mono (F.run _ X.stack _ _ ⟨Value.ref (s.heap.objs.size+1)::us,[]⟩ (Value.ref (s.heap.objs.size+1)::(us++ds)) _ _ E (hr.make C us [])
  (I2.env0.make C us []) (hb _ (Value.ref (s.heap.objs.size+1)::us) I2.kIn hl) r2 hq) fun r s' hq'=>?_))
 cases r with
 |error e=>exact hx pz σ _ _ e s' I2 hq'
 |ok fl=>
  cases fl with
  |ret u=>
   obtain⟨v,H',I3,rv,ev,q3⟩:=I2.after hq';subst ev;exact⟨rv,⟨V.ref (s.heap.objs.size+1),H',I3,rfl,q3⟩⟩
  |next=>exact False.elim hq'
  |brk=>exact False.elim hq'
  |cont=>exact False.elim hq'
theorem vx(M:Mk X.K C f)(F:FnOk X.prog X.w X.K X.mg X.base CX k f fd ps sp)(hr:Room (k+1) X.A)(hg:Gl X x)(hm:X.mg x=some (.ref C))(hb:Binds X.K fd ps ds)(hd:Vals dvs ds)(hx:fq CX X E)
  (ha:PA X (e::es) t) (hdb:(x == ("__debug__":Str))=false:=by decide) (he:starEach (e::es) X.env=(false,eval e X.env)::starEach es X.env:=by rfl) (hpl:(backTo pos (starEach es X.env)).any (·.1)=false:=by rfl) :
  PE X (.Call (.Name x p) (e::es) [] pos) (A_ C sp dvs E t):=by
 intro pz s σ H Q I h;refine Xr (k5 I hg hm ?_ hdb);refine XS (h₀:=X.base) I.ok.mod.kin M.kp (bn (ha pos pz s σ H _ I h) fun us s1 vs H1 I1 r q=>⟨I1.kIn,?_⟩) he hpl;exact sr M F hr hb hd hx I1 r q
end
section
variable{X:Cx}{CX:CXT}{k:Nat}{f C:Addr}{fd:FuncData}{ps ks:List Str}{sp:Sp}{E:XK}{x m:Str}{p pos apos kpos:Pos}{e o:Expr}{es:List Expr}{kws:List Keyword}{te ta:TE}{t tk:TA}{nm:Option Str}
variable{g:List Value->List Value->List Value}{gV:List V->List V->List V}
end
structure FnScope (N P:List Str) (sc:Scope):Prop where
 kind:sc.kind=.function
 co:sc.isCoroutine=false
 gen:sc.isGenerator=false
 nd:N.Nodup
 pre:N.take P.length=P
 par:∀x∈P,sc.names.lookup x=some .local\/sc.names.lookup x=some .cell
 nofree:∀y∈sc.names,y.2≠.free
theorem j_{kindOf:Str->Option NameKind}{x:Str}:∀{binds:List (Str×Value)}{m:Ks},(∀v,(x,v)∉binds)->bindL kindOf binds m x=m x
 |[],_,_=>rfl
 |(n,v)::r,m,h=>by
  unfold bindL;rw[j_ fun w hw=>h w (Yc _ hw)];split
  ·have:x≠n:=by rintro rfl;exact h v Yf
   simp[this]
  ·rfl
theorem kh{kindOf:Str->Option NameKind}{x:Str}:∀{binds:List (Str×Value)}{m:Ks},(∀v,(x,v)∉binds)->bindC kindOf binds m x=m x
 |[],_,_=>rfl
 |(n,v)::r,m,h=>by
  unfold bindC;rw[kh fun w hw=>h w (Yc _ hw)];split
  ·rfl
  ·have:x≠n:=by rintro rfl;exact h v Yf
   simp[this]
theorem jZ{kindOf:Str->Option NameKind}{x:Str}{v:Value}:∀{P:List Str}{vs:List Value}{i:Nat}{m:Ks},P.Nodup->P[i]?=some x->vs[i]?=some v->kindOf x=some .local->
  bindL kindOf (P.zip vs) m x=some v
 |[],_,_,_,_,h,_,_=>by simp at h
 |_::_,[],_,_,_,_,h,_=>by simp at h
 |p::P,w::vs,0,m,nd,h1,h2,hk=>by
  simp at h1 h2;subst h1;subst h2;show bindL kindOf ((p,w)::P.zip vs) m p=_;unfold bindL;rw[j_ fun v hv=>(Zp.mp nd).1 (List.of_mem_zip hv).1,Yi hk];simp
 |p::P,w::vs,i+1,m,nd,h1,h2,hk=>by
  show bindL kindOf ((p,w)::P.zip vs) m x=_;unfold bindL;exact jZ (i:=i) (Zp.mp nd).2 (by simpa using h1) (by simpa using h2) hk
theorem ku{kindOf:Str->Option NameKind}{x:Str}{v:Value}:∀{P:List Str}{vs:List Value}{i:Nat}{m:Ks},P.Nodup->P[i]?=some x->vs[i]?=some v->kindOf x≠some .local->
  bindC kindOf (P.zip vs) m x=some v
 |[],_,_,_,_,h,_,_=>by simp at h
 |_::_,[],_,_,_,_,h,_=>by simp at h
 |p::P,w::vs,0,m,nd,h1,h2,hk=>by
  simp at h1 h2;subst h1;subst h2;show bindC kindOf ((p,w)::P.zip vs) m p=_;unfold bindC;rw[kh fun v hv=>(Zp.mp nd).1 (List.of_mem_zip hv).1,Yn hk];simp
 |p::P,w::vs,i+1,m,nd,h1,h2,hk=>by
  show bindC kindOf ((p,w)::P.zip vs) m x=_;unfold bindC;exact ku (i:=i) (Zp.mp nd).2 (by simpa using h1) (by simpa using h2) hk
def start(N:List Str)(vs:List V):St:=vs.map some++List.replicate (N.length-vs.length) none
def lp(CX:CXT)(P:Program)(w:World)(K:Kq)(mg:Ks)(base:Heap)(N:List Str)(qual:Str)(scope:Scope)(f:Addr)(cd:Value)(A:Around)(outer:List Env)(s:Shared)(H:Hp)(E:XK):Cx where
 prog:=P
 w:=w
 K:=K
 mg:=mg
 base:=base
 A:=A.deeper (envOfC qual scope s.heap.objs.size f cd)
 N:=N
 s₀:=s
 H₀:=H
 env:=envOfC qual scope s.heap.objs.size f cd
 outer:=outer
 stack:=envOfC qual scope s.heap.objs.size f cd::outer
 ex:=[]
 calm:=true
 fn:=fun _=>true
 pn:=[]
 xe:=fun e s'=>wpAny (model P w) (A.deeper (envOfC qual scope s.heap.objs.size f cd)) (leaving (envOfC qual scope s.heap.objs.size f cd) e) (fun _ s''=>CX outer H s E e s'') (fun e' s''=>CX outer H s E e' s'') s'
theorem lZ{sc:Scope}{n:Nat}{x:Str}(h:sc.names.lookup x=some .cell):∃c,(cellsFrom n sc.names []).lookup x=some c:=by have q:=ZW sc.names n [] (.inl h);exact Xp.mp q
theorem rl{CX:CXT}{P:Program}{w:World}{K:Kq}{mg:Ks}{base:Heap}{N ps:List Str}{qual:Str}{scope:Scope}{f:Addr}{cd:Value}{A:Around}{outer:List Env}{s s1:Shared}{H:Hp}{E:XK}{us:List Value}{vs:List V}
  (S:FnScope N ps scope) (hd:A.handled=none) (e0:Env0 P w K mg base A outer s H) (hl:vs.length=ps.length) (r:Vals vs us)
  (x:InCallC s s.heap.objs.size (bindL (envOfC qual scope s.heap.objs.size f cd).kindOf (ps.zip us) fun _=>none) (cellsFrom (s.heap.objs.size+1) scope.names []) (bindC (envOfC qual scope s.heap.objs.size f cd).kindOf (ps.zip us) fun _=>none) s1) :
  Inv (lp CX P w K mg base N qual scope f cd A outer s H E) [] (start N vs) H s1:=by
 have hpl:ps.length<=N.length:=by have:=Zi List.length S.pre;rw[YR]at this;omega
 obtain⟨h1,tk,rfl,hk⟩:=x.done;have noA:∀b:Addr,b∉(lp CX P w K mg base N qual scope f cd A outer s H E).ex:=fun b z=>absurd (show b∈([]:List Addr)from z) (by simp)
 refine⟨⟨e0.mod,S.kind,rfl,rfl,Ym _,fun y z c h1 h2=>?_,fun y hy=>?_,fun y c _ h=>?_,fun _=>hd,Around.frames_deeper e0.frames,.inr ⟨rfl,rfl⟩,fun b z=>absurd z (noA b),e0.bs,e0.bsz,fun b _ _=>noA b,fun b z=>absurd z (noA b),e0.funs,e0.frf⟩,
  rfl,e0.bare,Un.kept hk,⟨_,x.toInCall.ns,fun i y v h1 h2 h3=>?_⟩,fun y c h=>⟨_,x.cell y c h⟩,e0.hok.fresh (Ym _),fun y c h=>?_,fun p hp=>absurd (show p∈([]:Kp)from hp) (by simp),e0.hok.kept hk,?_⟩
 ·exact name_of_addr x.apart (Zn h1) (Zn h2)
 ·have hy:scope.names.lookup y=some .cell\/scope.names.lookup y=some .free:=hy;rcases hy with hy|hy
  ·exact lZ hy
  ·exact absurd rfl (S.nofree _ (Zn hy))
 ·exact Zu (x.above y c (Zn h))
 ·have hi:i<vs.length:=by
   unfold start at h2;by_cases hi:i<vs.length
   ·exact hi
   ·rw[YW (by simpa using hi)]at h2;rw[ZR]at h2;split at h2<;>cases h2
  have ha:vs[i]?=some v:=by
   unfold start at h2;rw[Zm (by simpa using hi),Yw]at h2;cases e:vs[i]? with
   |none=>rw[e]at h2;cases h2
   |some a=>rw[e]at h2;cases h2;rfl
  obtain⟨u,hu,rv⟩:=r.get ha;have hp:ps[i]?=some y:=by rw[<-S.pre,Xq (by omega)];exact h1
  have ndP:ps.Nodup:=by rw[<-S.pre];exact S.nd.sublist (List.take_sublist _ _)
  refine⟨u,rv,?_⟩;rcases S.par y (Yv hp)with k|k
  ·exact .inl ⟨k,jZ ndP hp hu k⟩
  ·obtain⟨c,e⟩:=lZ (n:=s.heap.objs.size+1) k;refine .inr ⟨.inl k,c,e,?_⟩;have q:=x.cell y c e;rw[ku ndP hp hu (by show scope.names.lookup y≠_;rw[k];decide)]at q;exact q
 ·exact e0.hok.fresh (Zu (x.above y c (Zn h)))
 ·unfold start;show _=N.length;rw[Yj,Yb,Yz];omega
theorem AB{CX:CXT}{P:Program}{w:World}{K:Kq}{mg:Ks}{base:Heap}{k:Nat}{f:Addr}{name qual:Str}{params:Arguments}{body:List Stmt}{scope:Scope}{dV kV doc pm cdv ct oc:Value}{an od:Option Addr}
  {osl:Array (Option Value)}{N ps:List Str}{sp:Sp} (lk:K.lookup f=some ⟨oc,od,.func (PySem.W.fnOf name qual params body scope dV kV doc pm an cdv ct),osl⟩) (hcd:PySem.W.codeIn K cdv qual=true) (S:FnScope N ps scope)
  (len:∀vs H Q E,sp vs H Q E->vs.length=ps.length)
  (hbody:∀(A:Around) (outer:List Env) (s:Shared) (H:Hp) (vs:List V) (Q:VK) (E:XK),Room k (A.deeper (envOfC qual scope s.heap.objs.size f cdv))->sp vs H Q E->
   ∃t,PSs (lp CX P w K mg base N qual scope f cdv A outer s H E) body t/\t {nx:=fun _ H'=>Q .non H',rt:=Q} (start N vs) H) :
  FnOk P w K mg base CX (k+1) f (PySem.W.fnOf name qual params body scope dV kV doc pm an cdv ct) ps sp:=by
 refine⟨len,fun A outer s H args us vs Q E hr e0 hb r hsp=>?_⟩;have hl:=len _ _ _ _ hsp;have KX:K.In s.heap:=e0.mod.kin.keeps fun b o e=>(e0.bs b o e).1
 have lim:s.heap.NoLimit:=e0.mod.nolimit.keeps fun b o e=>(e0.bs b o e).1
 have hkind:∀y∈ps.zip us,scope.names.lookup y.1=some .local\/(scope.names.lookup y.1=some .cell/\((cellsFrom (s.heap.objs.size+1) scope.names []).lookup y.1).isSome=true):=fun⟨n,v⟩ hy=>by
  rcases S.par n (List.of_mem_zip hy).1 with q|q
  ·exact .inl q
  ·exact .inr ⟨q,ZW _ _ _ (.inl q)⟩
 refine codeAny_call_function hr.depth (KX _ _ lk) rfl S.co S.gen rfl (PySem.W.codeRec_of KX hcd) (hb _ _ _ _ ?_);refine wpAny_newFunctionEnv_cells S.kind hkind fun env he s1 x=>?_;subst he;refine⟨lim.keeps x.toInCall.keep,codeAny_func ?_⟩;obtain⟨t,ht,hq⟩:=hbody A outer s H vs Q E (hr.deeper _) hsp;have I:Inv (lp CX P w K mg base N qual scope f cdv A outer s H E) [] (start N vs) H s1:=rl S hr.hd e0 hl r x;refine Zw (ht [] s1 (start N vs) H _ I hq) (fun fl s' hs=>?_) fun e s' hs=>hs;have fin:∀{σ':St}{H':Hp}{v:V}{u:Value},Inv (lp CX P w K mg base N qual scope f cdv A outer s H E) [] σ' H' s'->RelV v u->Q v H'->CE outer P w H s Q u s':=
  fun{σ' H' v u} J rv q=>⟨v,H',J.os,J.bare,J.base,J.hok,rv,q⟩
 cases fl with
 |ret u=>
  obtain⟨v,σ',H',J,rv,q⟩:=hs;exact fin J rv q
 |next=>
  obtain⟨σ',H',J,q⟩:=hs;exact fin (v:=V.non) (u:=Value.none) J rfl q
 |brk=>
  obtain⟨_,_,_,q⟩:=hs;exact False.elim q
 |cont=>
  obtain⟨_,_,_,q⟩:=hs;exact False.elim q
section
variable{X:Cx}{x:Str}{p pos:Pos}{e:Expr}{es:List Expr}{t:TA}{id T:String}{r:List V->Hp->VK->Prop}
def tCB(r:List V->Hp->VK->Prop)(t:TA):TE:=fun σ H Q=>t σ H fun vs H1=>r vs H1 Q
theorem eE(hc:CallR X (.builtin id) r)(hg:Gl X x)(hm:X.mg x=none)(hv:bootBuiltins x=some (.builtin id))(ha:PA X (e::es) t)(hn:x ≠ "__name__":=by decide)(hdb:(x == ("__debug__":Str))=false:=by decide)
  (he:starEach (e::es) X.env=(false,eval e X.env)::starEach es X.env:=by rfl) (hpl:(backTo pos (starEach es X.env)).any (·.1)=false:=by rfl):PE X (.Call (.Name x p) (e::es) [] pos) (tCB r t):=by
 intro pz s σ H Q I h;refine Xr (gD I hg hm hv ?_ hn hdb);exact PyProof.Rows.callWith_builtin1 (bn (ha pos pz s σ H _ I h) fun us s1 vs H1 I1 r1 q1=>hc pz s1 σ H1 vs us Q I1 r1 q1) he hpl
theorem dG(hc:CallR X (.type T) r)(hg:Gl X x)(hm:X.mg x=none)(hv:bootBuiltins x=some (.type T))(ha:PA X (e::es) t)(hn:x ≠ "__name__":=by decide)(hdb:(x == ("__debug__":Str))=false:=by decide)
  (he:starEach (e::es) X.env=(false,eval e X.env)::starEach es X.env:=by rfl) (hpl:(backTo pos (starEach es X.env)).any (·.1)=false:=by rfl):PE X (.Call (.Name x p) (e::es) [] pos) (tCB r t):=by
 intro pz s σ H Q I h;refine Xr (gD I hg hm hv ?_ hn hdb);exact ZE (bn (ha pos pz s σ H _ I h) fun us s1 vs H1 I1 r1 q1=>hc pz s1 σ H1 vs us Q I1 r1 q1) he hpl
end
end L2
namespace HT
open PySem PyProof.Rows
theorem rcLt_int(A:Around)(s:Shared)(a:Int)(t:Tok)(c:Int)(u:Tok)(prog:Program)(w:World)(E:Value->Shared->Prop)(Q:Value->Shared->Prop)(h:Q (.bool (decide (a<c))) s) :
  wpAny (model prog w) A (richCompare .Lt (.int a t) (.int c u)) Q E s:=
 (PyProof.Rows.lt_int h:wpAny (model prog w) A (compareOp .Lt (.int a t) (.int c u)) Q E s)
section
open PySem.SeqAt
open PySem.AutoSeq1 (wpAny_loadPart')
open PySem.MeetsSeq PySem.MeetsSeq2 PySem.MeetsSeq3
end
section
variable{prog:Program}{w:World}{A:Around}{E:Value->Shared->Prop}{s:Shared}
theorem cat_tup{t b:Addr}{vs ws:List Value}{Q:Value->Shared->Prop}(ht:IsTup s.heap t vs.toArray)(hb:IsTup s.heap b ws.toArray)(hv:vs≠[])
  (h1:ws=[]->Q (.ref t) s) (h2:ws≠[]->Q (.ref s.heap.objs.size) {s with heap:=s.heap.push {cls:=.type "tuple",data:=.seq (vs++ws).toArray} })
  (hsz:vs.length+ws.length<=sizeLine):wpAny (model prog w) A (binaryOp .Add (.ref t) (.ref b)) Q E s:=by
 obtain⟨⟨cls,dd,data,sl⟩,ho,hc,n,hd⟩:=id ht;obtain⟨⟨cls2,dd2,data2,sl2⟩,ho2,hc2,n2,hd2⟩:=id hb;simp only at hc hd hc2 hd2;subst hc hd hc2 hd2;have e:vs.toArray++ws.toArray=(vs++ws).toArray:=by simp
 by_cases hw:ws=[]
 ·exact concat_meets ⟨_,ho,rfl⟩ ⟨_,ho2,rfl⟩ noFill_tuple_add seq_tuple_add PySem.F.slot_tuple_add PySem.F.entry_tuple_add (PySem.F.args_tuple_add_2 _ _)
   (tuple_addW1 t b vs.toArray ws.toArray n n2 dd dd2 sl sl2 (by simpa using hv) (by simp[hw])) ⟨ho,ho2,h1 hw⟩
 ·refine concat_meets ⟨_,ho,rfl⟩ ⟨_,ho2,rfl⟩ noFill_tuple_add seq_tuple_add PySem.F.slot_tuple_add PySem.F.entry_tuple_add (PySem.F.args_tuple_add_2 _ _)
   (tuple_addW2 t b vs.toArray ws.toArray n n2 dd dd2 sl sl2 (by simpa using hv) (by simpa using hw) (by rw[List.size_toArray,List.size_toArray];exact hsz)) ⟨ho,ho2,?_⟩
  rw[e];exact h2 hw
def sIx(n d:Nat):Option Int->Nat
 |none=>d
 |some v=>if v<0 then(v+(n:Int)).toNat else min v.toNat n
theorem xV(n d:Nat)(hd:d<=n)(o:Option Int):sIx n d o<=n:=by
 cases o with
 |none=>exact hd
 |some v=>
  show(if v<0 then(v+(n:Int)).toNat else min v.toNat n)<=n;by_cases hv:v<0
  ·rw[if_pos hv];omega
  ·rw[if_neg hv];exact Nat.min_le_right _ _
theorem pW(v:Int)(n d:Nat):(if v<0 then max (v+(n:Int)) 0 else min v (n:Int))=((sIx n d (some v):Nat):Int):=by
 show(if v<0 then max (v+(n:Int)) 0 else min v (n:Int))=(((if v<0 then(v+(n:Int)).toNat else min v.toNat n):Nat):Int)
 by_cases hv:v<0
 ·simp only[if_pos hv];omega
 ·simp only[if_neg hv];omega
theorem ou(lo hi:Option Int)(n:Nat):Builtin.Slice.sliceAdjust lo hi 1 (n:Int)=(((sIx n 0 lo:Nat):Int),((sIx n n hi:Nat):Int)):=by
 have h1:¬((1:Int)<0):=by omega
 unfold Builtin.Slice.sliceAdjust;simp only[h1,if_false];refine Prod.ext ?_ ?_
 ·cases lo with
  |none=>rfl
  |some v=>exact pW v n 0
 ·cases hi with
  |none=>rfl
  |some v=>exact pW v n n
theorem n4(i j:Nat):Builtin.Slice.slicePlaces (i:Int) (j:Int) 1=j-i:=by
 unfold Builtin.Slice.slicePlaces;have h1:(1:Int) > 0:=by omega
 simp only[h1,if_true,Int.ediv_one];split<;>omega
theorem jy{v:Value}{o:Option Int}{Q:Option Int->Shared->Prop}(p:IsPart v o)(h:Q o s):wpAny (model prog w) A (Builtin.Slice.slicePartIndex v) Q E s:=by
 cases p with
 |none=>exact slicePart_none h
 |int i t=>exact slicePart_int h
theorem gG{sl:Addr}{vl vu:Value}{lo hi:Option Int}{n:Nat}{Q:Int×Int×Nat->Shared->Prop}(hs:s.heap.IsSliceOf sl vl vu .none)(pl:IsPart vl lo)(pu:IsPart vu hi)
  (h:Q (((sIx n 0 lo:Nat):Int),1,sIx n n hi-sIx n 0 lo) s):wpAny (model prog w) A (Builtin.Slice.sliceApplied (.ref sl) (pure (n:Int))) Q E s:=by
 obtain⟨os,hos,hcs,hds⟩:=id hs;unfold Builtin.Slice.sliceApplied Builtin.Slice.sliceFields;refine wpAny_bind (wpAny_bind (wpAny_field hos hds (x:=vl) rfl (wpAny_bind (wpAny_field hos hds (x:=vu) rfl (wpAny_bind (wpAny_field hos hds (x:=.none) rfl (wpAny_pure ?_)))))));refine wpAny_bind (slicePart_none ?_);show wpAny _ _ (if((1:Int) == 0)=true then _ else _) _ _ s;rw[if_neg (by decide)];refine wpAny_bind (jy pl (wpAny_bind (jy pu (wpAny_bind (wpAny_pure ?_)))));show wpAny _ _ (match Builtin.Slice.sliceAdjust lo hi 1 (n:Int)with|(lo,hi)=>pure (lo,(1:Int),Builtin.Slice.slicePlaces lo hi 1)) _ _ s;rw[ou lo hi n];show wpAny _ _ (pure (((sIx n 0 lo:Nat):Int),(1:Int),Builtin.Slice.slicePlaces ((sIx n 0 lo:Nat):Int) ((sIx n n hi:Nat):Int) 1)) _ _ s;rw[n4];exact wpAny_pure h
theorem sG(xs:Array Value)(i k:Nat):((List.range k).filterMap fun(m:Nat)=>xs[((i:Int)+(m:Int)*1).toNat]?).toArray=((xs.toList.drop i).take k).toArray:=by
 have e:(fun(m:Nat)=>xs[((i:Int)+(m:Int)*1).toNat]?)=fun m=>xs[i+m]?:=by
  funext m;have:((i:Int)+(m:Int)*1).toNat=i+m:=by omega
  rw[this]
 rw[e];have:=pick_run xs i k;rw[List.filterMap_map]at this;have e2:((fun x=>xs[x]?) ∘ fun x=>i+x)=fun m=>xs[i+m]?:=rfl
 rw[e2]at this;rw[this]
theorem getItem_tuple_cut{t sl:Addr}{items:Array Value}{vl vu:Value}{lo hi:Option Int}{Q:Value->Shared->Prop}(ht:IsTup s.heap t items)(hs:s.heap.IsSliceOf sl vl vu .none)(pl:IsPart vl lo)(pu:IsPart vu hi)
  (hw:¬(sIx items.size 0 lo=0/\sIx items.size items.size hi=items.size))
  (h:Q (.ref s.heap.objs.size) {s with heap:=s.heap.push {cls:=.type "tuple",data:=.seq ((items.toList.drop (sIx items.size 0 lo)).take (sIx items.size items.size hi-sIx items.size 0 lo)).toArray} })
  (hsz:items.size<=sizeLine):wpAny (model prog w) A (getItem (.ref t) (.ref sl)) Q E s:=by
 have htake:sizeOk (.seq ((items.toList.drop (sIx items.size 0 lo)).take (sIx items.size items.size hi-sIx items.size 0 lo)).toArray):=by show((items.toList.drop (sIx items.size 0 lo)).take (sIx items.size items.size hi-sIx items.size 0 lo)).toArray.size<=sizeLine;rw[List.size_toArray,List.length_take,List.length_drop,Array.length_toList];omega
 have hj:sIx items.size items.size hi<=items.size:=xV _ _ (Nat.le_refl _) hi;obtain⟨os,hos,hcs,hds⟩:=id hs;have hTs:s.TypeIs (.ref sl) "slice":=⟨os,hos,hcs⟩
 unfold getItem
 try with_reducible refine wpAny_holding ?_
 first|refine wpAny_bind (wpAny_pure ?_)|skip
 refine wpAny_bind (wpAny_sequenceKey ht.typeIs (by decide) ?_);refine wpAny_bind (wpAny_callSpecial?_slot (name:=Str.ofString "__getitem__") ht.typeIs PyProof.Rows.slot_tuple_getitem
  (wpAny_call_entry PyProof.Rows.slot_tuple_getitem ht.typeIs entry_tuple_getitem ?_ (args_tuple_getitem _ _)))
 show wpAny _ _ (Builtin.Tuple.tupleItemsOf (.ref t)>>=_) _ _ s;refine wpAny_bind (tupleItemsOf_ ht ?_);refine wpAny_bind (wpAny_typeOf hTs ?_);rw[if_pos (by decide)];refine wpAny_bind (gG hs pl pu ?_);have hno:¬((((sIx items.size 0 lo:Nat):Int) == 0&&(1:Int) == 1&&(sIx items.size items.size hi-sIx items.size 0 lo) == items.size)=true):=by intro q;rw[Bool.and_eq_true,Bool.and_eq_true]at q;have q1:((sIx items.size 0 lo:Nat):Int)=0:=eq_of_beq q.1.1;have q2:sIx items.size items.size hi-sIx items.size 0 lo=items.size:=eq_of_beq q.2;exact hw ⟨by omega,by omega⟩
 show wpAny _ _ (if(((sIx items.size 0 lo:Nat):Int) == 0&&(1:Int) == 1&&(sIx items.size items.size hi-sIx items.size 0 lo) == items.size)=true then _ else _) _ _ s;rw[if_neg hno,sG]
 first
  |exact wpAny_bind (m:=Builtin.Tuple.tupleExact _) (wpAny_newObj_type (wpAny_pure ⟨_,rfl,wpAny_pure h⟩) htake)
  |exact wpAny_bind (m:=Builtin.Tuple.tupleExact _) (wpAny_newObj_type (wpAny_bind (wpAny_pure (wpAny_pure ⟨_,rfl,wpAny_pure h⟩))) htake)
  |exact wpAny_bind (wpAny_bind (m:=Builtin.Tuple.tupleExact _) (wpAny_newObj_type (wpAny_pure (wpAny_pure ⟨_,rfl,wpAny_pure h⟩)) htake))
  |exact wpAny_bind (wpAny_bind (m:=Builtin.Tuple.tupleExact _) (wpAny_newObj_type (wpAny_pure ⟨_,rfl,wpAny_pure h⟩) htake))
end
end HT
namespace L2
open PySem PySem.Spec PyProof.Rows
abbrev TO:=St->Hp->(Option Int->Hp->Prop)->Prop
def PO(X:Cx)(e:Option Expr)(t:TO):Prop:=
 ∀(pz:Kp) (s:Shared) (σ:St) (H:Hp) (Q:Option Int->Hp->Prop),Inv X pz σ H s->t σ H Q->
  wpAny (model X.prog X.w) X.A (evalPart e X.env) (fun u s'=>∃o H',Inv X pz σ H' s'/\IsPart u o/\Q o H') X.xe s
def wa:TO:=fun _ H Q=>Q none H
def A6(t:TE):TO:=fun σ H Q=>t σ H fun x H1=>∃i,x=.int i/\Q (some i) H1
section
variable{X:Cx}{e:Expr}{te:TE}{lo hi:Option Expr}{tl th:TO}{pos p2:Pos}
theorem vK:PO X none wa:=by intro pz s σ H Q I h;rw[evalPart_none];exact YA ⟨none,H,I,.none,h⟩
theorem vZ(h:PE X e te):PO X (some e) (A6 te):=by intro pz s σ H Q I hw;rw[evalPart_some];refine bn (h pz s σ H _ I hw) fun u s1 x H1 I1 r1 q1=>?_;obtain⟨i,rfl,q⟩:=q1;obtain⟨t,rfl⟩:=r1;exact⟨some i,H1,I1,.int i t,q⟩
def SlR(X:Cx)(r:V->Option Int->Option Int->Hp->VK->Prop):Prop:=
 ∀(pz:Kp) (s:Shared) (σ:St) (H:Hp) (x:V) (v vl vu:Value) (lo hi:Option Int) (sl:Addr) (Q:VK),Inv X pz σ H s->RelV x v->s.heap.IsSliceOf sl vl vu .none->IsPart vl lo->IsPart vu hi->r x lo hi H Q->
  ∃T id,typeLookup (.type T) "__getitem__"=pure (some (.builtin id))/\s.TypeIs v T/\wpAny (model X.prog X.w) X.A (getItem v (.ref sl)) (EP X pz σ Q) X.xe s
def tSl(r:V->Option Int->Option Int->Hp->VK->Prop)(te:TE)(tl th:TO):TE:=fun σ H Q=>te σ H fun x H1=>tl σ H1 fun l H2=>th σ H2 fun u H3=>r x l u H3 Q
theorem iV{r:V->Option Int->Option Int->Hp->VK->Prop}(hr:SlR X r)(he:PE X e te)(hl:PO X lo tl)(hu:PO X hi th):PE X (.Subscript e (.Slice lo hi none p2) pos) (tSl r te tl th):=by
 intro pz s σ H Q I h;refine Subscript_ (bn (he pz s σ H _ I h) fun v s1 x H1 I1 r1 q1=>?_);refine wpAny_Slice (bn (hl pz s1 σ H1 _ I1 q1) fun vl s2 l H2 I2 pl q2=>bn (hu pz s2 σ H2 _ I2 q2) fun vu s3 u H3 I3 pu q3=>?_);rw[evalPart_none];refine YA ?_;have I4:Inv X pz σ H3 {s3 with heap:=s3.heap.push {cls:=.type "slice",data:=.fields #[vl,vu,.none]} }:=I3.kept (t':=s3.toks) fun b ob q=>Ye _ q
 obtain⟨T,id,hT,ht,hg⟩:=hr pz {s3 with heap:=s3.heap.push {cls:=.type "slice",data:=.fields #[vl,vu,.none]} } σ H3 x v vl vu l u s3.heap.objs.size Q I4 r1 (Heap.IsSliceOf.new ..) pl pu q3;show wpAny (model X.prog X.w) X.A (subscriptTail e (.Slice lo hi none p2) v (.ref s3.heap.objs.size)) (EP X pz σ Q) X.xe {s3 with heap:=s3.heap.push {cls:=.type "slice",data:=.fields #[vl,vu,.none]} };exact tail_any (ops:=[.ref s3.heap.objs.size,v]) ht hT hg (by with_unfolding_all rfl)
def lw(xs:List V)(lo hi:Option Int):List V:=(xs.drop (HT.sIx xs.length 0 lo)).take (HT.sIx xs.length xs.length hi-HT.sIx xs.length 0 lo)
theorem gQ(xs:List V)(lo hi:Option Int):(lw xs lo hi).length<=xs.length:=by unfold lw;rw[YR,Xj];omega
def C6(K:Kq):V->Option Int->Option Int->Hp->VK->Prop:=fun x lo hi H Q=>∃a xs,x=.ref a/\SqT K H a xs /\
 ¬(HT.sIx xs.length 0 lo=0/\HT.sIx xs.length xs.length hi=xs.length)/\∀p,H p=none->Q (.ref p) (upd H p (.tup (lw xs lo hi)))
theorem y_:SlR X (C6 X.K):=by
 intro pz s σ H x v vl vu lo hi sl Q I rx hs pl pu h;obtain⟨a,xs,rfl,hx,hw,q⟩:=h;cases rx;obtain⟨its,r,ht,hz⟩:=I.tuple hx;have hlen:its.toArray.size=xs.length:=by rw[Yp];exact r.length.symm
 refine⟨"tuple",_,PyProof.Rows.slot_tuple_getitem.lookup,ht.typeIs,?_⟩;refine HT.getItem_tuple_cut ht hs pl pu (by rw[hlen];exact hw) ?_ (by rw[hlen];exact hz);rw[hlen];refine⟨.ref s.heap.objs.size,_,I.laid (t':=s.toks) (o:=.tup (lw xs lo hi)) (fun b ob q=>Ye _ q) (Ym _) ?_,rfl,q _ (I.hok.fresh (Ym _))⟩;exact⟨YH (gQ xs lo hi) hz,_,(r.drop (HT.sIx xs.length 0 lo)).take (HT.sIx xs.length xs.length hi-HT.sIx xs.length 0 lo),IsTup.new _ _,NoD.new _ _⟩
def Bo(K:Kq):R2:=fun x y H Q=>∃a b xs ys,x=.ref a/\y=.ref b/\SqT K H a xs/\SqT K H b ys/\xs≠[]/\xs.length+ys.length<=sizeLine /\
 (ys=[]->Q (.ref a) H)/\(ys≠[]->∀p,H p=none->Q (.ref p) (upd H p (.tup (xs++ys))))
theorem Vals.nil_iff{xs:List V}{us:List Value}(r:Vals xs us):us=[]↔xs=[]:=by
 cases r with
 |nil=>simp
 |cons _ _=>simp
theorem wo:OpR X (binaryOp .Add) (Bo X.K):=by intro pz s σ H x y v u Q I rx ry h;obtain⟨a,b,xs,ys,rfl,rfl,ha,hb,hx,hz,q1,q2⟩:=h;cases rx;cases ry;obtain⟨its,r1,p1,_⟩:=I.tuple ha;obtain⟨its2,r2,p2,_⟩:=I.tuple hb;refine HT.cat_tup p1 p2 (fun z=>hx (r1.nil_iff.mp z)) (fun z=>⟨.ref a,H,I,rfl,q1 (r2.nil_iff.mp z)⟩) (fun z=>?_) (by rw[<-r1.length,<-r2.length];exact hz);refine⟨.ref s.heap.objs.size,_,I.laid (t':=s.toks) (o:=.tup (xs++ys)) (fun b ob q=>Ye _ q) (Ym _) ?_,rfl,q2 (fun w=>z (r2.nil_iff.mpr w)) _ (I.hok.fresh (Ym _))⟩;exact⟨by rw[Yj];exact hz,_,r1.append r2,IsTup.new _ _,NoD.new _ _⟩
end
def ixN(n:Nat)(i:Int):Option Nat:=if 0<=i then(if i<n then some i.toNat else none)else if -(n:Int)<=i then some (i+n).toNat else none
def atI{α:Type}(xs:List α)(i:Int):Option α:=(ixN xs.length i).bind fun j=>xs[j]?
theorem qu{n:Nat}{i:Int}{j:Nat}(h:ixN n i=some j):seqIndex? i n=some j/\j<n/\-(n:Int)<=i/\i<n:=by
 unfold ixN at h;by_cases h0:0<=i
 ·rw[Yi h0]at h;by_cases h1:i<n
  ·rw[Yi h1]at h;have e:i.toNat=j:=Yr h;exact⟨by rw[seqIndex_of h0 h1,e],by omega,by omega,h1⟩
  ·rw[Yn h1]at h;cases h
 ·rw[Yn h0]at h;by_cases h1:-(n:Int)<=i
  ·rw[Yi h1]at h;have e:(i+n).toNat=j:=Yr h;exact⟨by rw[seqIndex_neg (by omega) h1,e],by omega,h1,by omega⟩
  ·rw[Yn h1]at h;cases h
theorem ly{α:Type}{xs:List α}{i:Int}{v:α}(h:atI xs i=some v):∃j,seqIndex? i xs.length=some j/\xs[j]?=some v/\j<xs.length/\-(xs.length:Int)<=i/\i<xs.length:=by
 unfold atI at h;cases e:ixN xs.length i with
 |none=>rw[e]at h;cases h
 |some j=>
  rw[e]at h;obtain⟨h1,h2,h3,h4⟩:=qu e;exact⟨j,h1,h,h2,h3,h4⟩
theorem eY{α:Type}{xs:List α}{j:Nat}{v:α}(h:xs[j]?=some v):atI xs (j:Int)=some v:=by
 have hj:j<xs.length:=(Yh.mp h).1;have e:ixN xs.length (j:Int)=some j:=by unfold ixN;rw[Yi (by omega),Yi (by omega)];simp
 unfold atI;rw[e];exact h
theorem mv{α:Type}(xs:List α)(v:α):atI (xs++[v]) (-1)=some v:=by
 have hl:(xs++[v]).length=xs.length+1:=by simp
 have e:ixN (xs++[v]).length (-1)=some xs.length:=by
  unfold ixN;rw[hl,Yn (by decide),Yi (by omega)]
  congr 1
  omega
 unfold atI;rw[e];show(xs++[v])[xs.length]?=some v;simp
def iw(b:Expr):Prop:=∀o i,subscripted b false o i=operate [o,i] (getItem o i)
def IxR(X:Cx)(r:R2):Prop:=
 ∀(value slice:Expr) (pz:Kp) (s:Shared) (σ:St) (H:Hp) (x y:V) (v u:Value) (Q:VK),Inv X pz σ H s->RelV x v->RelV y u->r x y H Q->
  subscripted slice false v u=operate [v,u] (getItem v u)->wpAny (model X.prog X.w) X.A (subscriptTail value slice v u) (EP X pz σ Q) X.xe s
def MtR(X:Cx)(id:String)(r:V->List V->Hp->VK->Prop):Prop:=
 ∀(pz:Kp) (s:Shared) (σ:St) (H:Hp) (x:V) (xs:List V) (v:Value) (us:List Value) (Q:VK),Inv X pz σ H s->RelV x v->Vals xs us->r x xs H Q->
  wpAny (model X.prog X.w) X.A (call (.builtin id) (v::us)) (EP X pz σ Q) X.xe s
section
variable{X:Cx}{a b:Expr}{ta tb:TE}{pos:Pos}
theorem IxR.or{r r':R2}(h:IxR X r)(h':IxR X r'):IxR X (fun x y H Q=>r x y H Q\/r' x y H Q):=by
 intro value slice pz s σ H x y v u Q I rx ry q hs;rcases q with q|q
 ·exact h value slice pz s σ H x y v u Q I rx ry q hs
 ·exact h' value slice pz s σ H x y v u Q I rx ry q hs
theorem sf{r:R2}(hr:IxR X r)(ha:PE X a ta)(hb:PE X b tb)(hs:iw b):PE X (.Subscript a b pos) (tOp r ta tb):=by intro pz s σ H Q I h;exact Subscript_ (zL ha hb I h fun v u s2 x y H2 I2 rx ry q=>hr a b pz s2 σ H2 x y v u Q I2 rx ry q (hs _ _))
def zU(K:Kq):R2:=fun x y H Q=>∃p xs i v,x=.ref p/\y=.int i/\SqL K H p xs/\atI xs i=some v/\Q v H
def zY(K:Kq):R2:=fun x y H Q=>∃p xs i v,x=.ref p/\y=.int i/\SqT K H p xs/\atI xs i=some v/\Q v H
def Bp:R2:=fun x y H Q=>∃z i c,x=.str z/\y=.int i/\z.length<=sizeLine/\atI z.cps.toList i=some c/\Q (.str ⟨#[c]⟩) H
theorem u9:IxR X (zU X.K):=by
 intro value slice pz s σ H x y v u Q I rx ry h hs;obtain⟨p,xs,i,z,rfl,rfl,hq,he,q⟩:=h;cases rx;obtain⟨t,rfl⟩:=ry;obtain⟨its,r,pl,hz⟩:=I.list hq;obtain⟨j,h1,h2,h3,h4,h5⟩:=ly he;obtain⟨w,ew,rw'⟩:=r.get h2;have hl:=r.length;have hn:=gA;have fin:EP X pz σ Q w s:=⟨z,H,I,rw',q⟩
 by_cases h0:0<=i
 ·have hj:i.toNat=j:=by rw[seqIndex_of h0 h5]at h1;exact Yr h1
  exact item_listR pl.isList h0 (by omega) (by rw[hj];simpa using ew) fin hs
 ·have hj:(i+(its.toArray.size:Int)).toNat=j:=by rw[seqIndex_neg (by omega) h4]at h1;rw[Yp,<-hl];exact Yr h1
  exact subscriptTail_builtinR (x:=w) pl.isList.typeIs slot_list_getitem.lookup
   (wpAny_getItem_list_neg (Q:=fun r s'=>r=w/\EP X pz σ Q r s') pl.isList (by omega) (by rw[Yp]<;>omega) (by omega) (by rw[hj];simpa using ew) ⟨rfl,fin⟩) hs
theorem xL:IxR X (zY X.K):=by
 intro value slice pz s σ H x y v u Q I rx ry h hs;obtain⟨p,xs,i,z,rfl,rfl,hq,he,q⟩:=h;cases rx;obtain⟨t,rfl⟩:=ry;obtain⟨its,r,pl,hz⟩:=I.tuple hq;obtain⟨j,h1,h2,h3,h4,h5⟩:=ly he;obtain⟨w,ew,rw'⟩:=r.get h2;have hl:=r.length;have hn:=gA;have fin:EP X pz σ Q w s:=⟨z,H,I,rw',q⟩
 exact subscriptTail_builtinR (x:=w) pl.typeIs slot_tuple_getitem.lookup
  (getItem_tuple (j:=j) (Q:=fun r s'=>r=w/\EP X pz σ Q r s') pl (by omega) (by omega) (by rw[Yp,<-hl];exact h1) (by simpa using ew) ⟨rfl,fin⟩) hs
theorem yL:IxR X Bp:=by
 intro value slice pz s σ H x y v u Q I rx ry h hs;obtain⟨z,i,c,rfl,rfl,hz,he,q⟩:=h;obtain⟨t,rfl⟩:=rx;obtain⟨t',rfl⟩:=ry;obtain⟨j,h1,h2,h3,h4,h5⟩:=ly he;have hl:z.cps.toList.length=z.length:=by simp[Str.length]
 rw[hl]at h1 h4 h5;have hn:=gA;exact tail_any (typeIs_str s z t) slot_str_getitem.lookup (getItem_str (c:=c) (by
  have e1:decide (i < -(2^63:Int))=false:=YB (by omega);have e2:decide (i ≥ 2^63)=false:=YB (by omega);rw[e1,e2,Bool.or_false]) (by rw[h1];simpa using h2) ⟨.str ⟨#[c]⟩,H,I.tok _,⟨_,rfl⟩,q⟩) hs
def rIx(K:Kq):R2:=fun x y H Q=>zU K x y H Q\/zY K x y H Q\/Bp x y H Q
theorem o6:IxR X (rIx X.K):=u9.or (xL.or yL)
theorem nT(its:List Value)(n j:Nat)(u:Value):Obj.mapSeq (·.setIfInBounds j u) {cls:=.type "list",data:=.seq its.toArray n}={cls:=.type "list",data:=.seq (its.set j u).toArray n}:=by simp[Obj.mapSeq]
theorem Inv.lst{pz:Kp}{σ:St}{H:Hp}{s:Shared}{p:Addr}{xs:List V}(I:Inv X pz σ H s)(h:H p=some (.lst xs)) :
  ∃(its:List Value) (n:Nat),Vals xs its/\s.heap.get? p=some {cls:=.type "list",data:=.seq its.toArray n}/\xs.length<=sizeLine:=by
 obtain⟨z,its,n,r,e⟩:=I.hok p _ h;exact⟨its,n,r,e,z⟩
theorem Inv.lstUpd{pz:Kp}{σ:St}{H:Hp}{s:Shared}{p:Addr}{xs ys:List V}{its its':List Value}{n n':Nat}{f:Obj->Obj}(I:Inv X pz σ H s)(h:H p=some (.lst xs))
  (ho:s.heap.get? p=some {cls:=.type "list",data:=.seq its.toArray n}) (hf:f {cls:=.type "list",data:=.seq its.toArray n}={cls:=.type "list",data:=.seq its'.toArray n' }) (r:Vals ys its') (hz:ys.length<=sizeLine) (t:Nat) :
  Inv X pz σ (upd H p (.lst ys)) {s with heap:=s.heap.update p f,toks:=t}:=by
 have e:(s.heap.update p f).get? p=some {cls:=.type "list",data:=.seq its'.toArray n' }:=by rw[Heap.get?_update_self f ho (by rw[hf]<;>rfl),hf]
 refine I.write (x:=p) (e:=p) (by rw[h];trivial) (.inl rfl) (fun b u hb q=>(Heap.get?_update_other _ _ (XD hb)).trans q) ⟨_,e⟩ ?_;exact⟨hz,its',n',r,e⟩
def Bb:V->V->V->Hp->(Hp->Prop)->Prop:=fun o i v H Q=>∃p xs k j,o=.ref p/\i=.int k/\H p=some (.lst xs)/\ixN xs.length k=some j/\Q (upd H p (.lst (xs.set j v)))
theorem uM:Bg X Bb:=by
 intro pz s σ H o i v ov iv u Q I ro ri rv h;obtain⟨p,xs,k,j,rfl,rfl,hp,hj,q⟩:=h;cases ro;obtain⟨t,rfl⟩:=ri;obtain⟨its,n,r,ho,hz⟩:=I.lst hp;obtain⟨h1,h2,h3,h4⟩:=qu hj;have hl:=r.length;have hn:=gA;have I':Inv X pz σ (upd H p (.lst (xs.set j v))) {s with heap:=s.heap.update p (Obj.mapSeq (·.setIfInBounds j u))}:=
  I.lstUpd hp ho (nT its n j u) (r.set rv j) (by rw[YY];exact hz) s.toks
 by_cases h0:0<=k
 ·have hk:k.toNat=j:=by rw[seqIndex_of h0 h4]at h1;exact Yr h1
  exact PySem.W.ki_setAt ho h0 (by omega) (by rw[Yp,<-hl];exact h4) (by rw[hk];exact⟨_,I',q⟩)
 ·have hk:(k+(its.toArray.size:Int)).toNat=j:=by rw[seqIndex_neg (by omega) h3]at h1;rw[Yp,<-hl];exact Yr h1
  exact PySem.W.ki_setBack ho (by omega) (by rw[Yp,<-hl];exact h3) (by omega) (by rw[hk];exact⟨_,I',q⟩)
theorem kQ(lo hi:Option Int)(n:Nat):(sliceBounds lo hi none n).1=((HT.sIx n 0 lo:Nat):Int)/\(sliceBounds lo hi none n).2.1=((HT.sIx n n hi:Nat):Int)/\(sliceBounds lo hi none n).2.2=1:=by
 refine⟨?_,?_,rfl⟩
 ·cases lo with
  |none=>simp[sliceBounds,HT.sIx]
  |some i=>
   simp only[sliceBounds,HT.sIx,Option.getD_none,show(1:Int) > 0 by decide,Va];by_cases h:i<0
   ·simp only[h,Va]<;>omega
   ·simp only[h,Vb]<;>omega
 ·cases hi with
  |none=>simp[sliceBounds,HT.sIx]
  |some i=>
   simp only[sliceBounds,HT.sIx,Option.getD_none,show(1:Int) > 0 by decide,Va];by_cases h:i<0
   ·simp only[h,Va]<;>omega
   ·simp only[h,Vb]<;>omega
theorem jX(its:List Value)(lo hi:Option Int):slicePick its.toArray lo hi none=((its.drop (HT.sIx its.length 0 lo)).take (HT.sIx its.length its.length hi-HT.sIx its.length 0 lo)).toArray:=by obtain⟨h1,h2,h3⟩:=kQ lo hi its.toArray.size;unfold slicePick;rw[h1,h2,h3];simp only[sliceRange_one,pick_run,Yp]<;>rfl
def Cm(K:Kq):V->Option Int->Option Int->Hp->VK->Prop:=fun x lo hi H Q=>∃a xs,x=.ref a/\SqL K H a xs/\∀p,H p=none->Q (.ref p) (upd H p (.lst (lw xs lo hi)))
theorem vv:SlR X (Cm X.K):=by intro pz s σ H x v vl vu lo hi sl Q I rx hs pl pu h;obtain⟨a,xs,rfl,hx,q⟩:=h;cases rx;obtain⟨its,r,ht,hz⟩:=I.list hx;have hlen:=r.length;refine⟨"list",_,slot_list_getitem.lookup,ht.isList.typeIs,?_⟩;refine wpAny_getItem_list_slice ht.isList hs pl pu .none (by simp) ?_ (by rw[Yp]<;>omega);rw[jX,<-hlen];refine⟨.ref s.heap.objs.size,_,I.laid (t':=s.toks) (o:=.lst (lw xs lo hi)) (fun b ob q=>Ye _ q) (Ym _) ?_,rfl,q _ (I.hok.fresh (Ym _))⟩;exact⟨YH (gQ xs lo hi) hz,_,0,(r.drop (HT.sIx xs.length 0 lo)).take (HT.sIx xs.length xs.length hi-HT.sIx xs.length 0 lo),Yo _ rfl⟩
theorem kP:CallR X (.builtin "len") (fun xs H Q=>∃p ys,xs=[.ref p]/\(SqL X.K H p ys\/SqT X.K H p ys)/\Q (.int ys.length) H):=by
 intro pz s σ H xs us Q I r h;obtain⟨p,ys,rfl,hq,q⟩:=h;obtain⟨u,rfl,rx⟩:=eI r;cases rx;have hn:=gA;rcases hq with hq|hq
 ·obtain⟨its,r',pl,hz⟩:=I.list hq;have hlen:=r'.length;exact Calls.call_len_list pl.isList (by simp only[Yp]<;>omega) ⟨.int ys.length,H,I.tok _,⟨s.toks+1,by rw[Yp,hlen]⟩,q⟩
 ·obtain⟨its,r',pl,hz⟩:=I.tuple hq;have hlen:=r'.length;exact len_tuple pl (by simp only[Yp]<;>omega) ⟨.int ys.length,H,I.tok _,⟨s.toks+1,by rw[Yp,hlen]⟩,q⟩
theorem k7:CallR X (.builtin "len") (fun xs H Q=>∃z,xs=[.str z]/\z.length<=sizeLine/\Q (.int z.length) H):=by intro pz s σ H xs us Q I r h;obtain⟨z,rfl,hz,q⟩:=h;obtain⟨u,rfl,t,rfl⟩:=eI r;have hn:=gA;exact len_str (by omega) ⟨.int z.length,H,I.tok _,⟨_,rfl⟩,q⟩
theorem CallR.or{f:Value}{r r':List V->Hp->VK->Prop}(h:CallR X f r)(h':CallR X f r'):CallR X f (fun xs H Q=>r xs H Q\/r' xs H Q):=by
 intro pz s σ H xs us Q I rs q;rcases q with q|q
 ·exact h pz s σ H xs us Q I rs q
 ·exact h' pz s σ H xs us Q I rs q
theorem lB:CallR X (.type "list") (fun xs H Q=>∃p ys,xs=[.ref p]/\(SqL X.K H p ys\/SqT X.K H p ys)/\∀l,H l=none->Q (.ref l) (upd H l (.lst ys))):=by
 intro pz s σ H xs us Q I r h;obtain⟨p,ys,rfl,hq,q⟩:=h;obtain⟨u,rfl,rx⟩:=eI r;cases rx;have fin:∀(its:List Value),Vals ys its->ys.length<=sizeLine->∀(h':Heap) (c':Nat),(∀b o',s.heap.get? b=some o'->h'.get? b=some o')->
   h'.get? s.heap.objs.size=some {cls:=.type "list",dict:=none,data:=.seq its.toArray c',slots:=#[]}->EP X pz σ Q (.ref s.heap.objs.size) {s with heap:=h' }:=fun its r' hz h' c' kp e=>
  ⟨.ref s.heap.objs.size,_,I.laid (t':=s.toks) kp (Ym _) (show ObjOk X.prog X.w _ h' _ (.lst ys)from⟨hz,its,c',r',e⟩),rfl,q _ (I.hok.fresh (Ym _))⟩
 rcases hq with hq|hq
 ·obtain⟨its,r',pl,hz⟩:=I.list hq;have hlen:=r'.length;obtain⟨o,ho,hc,n,hd⟩:=pl.isList;exact call_list_seq p (.inl rfl) ho hc hd (fun h' c' kp e=>fin its r' hz h' c' kp e) (by simp only[Yp]<;>omega)
 ·obtain⟨its,r',pl,hz⟩:=I.tuple hq;have hlen:=r'.length;obtain⟨o,ho,hc,n,hd⟩:=pl;exact call_list_seq p (.inr rfl) ho hc hd (fun h' c' kp e=>fin its r' hz h' c' kp e) (by simp only[Yp]<;>omega)
theorem jR:CallR X (.type "tuple") (fun xs H Q=>∃p ys,xs=[.ref p]/\((SqL X.K H p ys/\∀l,H l=none->Q (.ref l) (upd H l (.tup ys)))\/(SqT X.K H p ys/\Q (.ref p) H))):=by
 intro pz s σ H xs us Q I r h;obtain⟨p,ys,rfl,h⟩:=h;obtain⟨u,rfl,rx⟩:=eI r;cases rx;rcases h with⟨hq,q⟩|⟨hq,q⟩
 ·obtain⟨its,r',pl,hz⟩:=I.list hq;have hlen:=r'.length;refine call_tuple_list pl.isList (fun h' kp=>?_) (by simp only[Yp]<;>omega);have I1:Inv X pz σ H {s with heap:=h' }:=I.kept (t':=s.toks) kp;have I2:Inv X pz σ (upd H h'.objs.size (.tup ys)) {s with heap:=h'.push {cls:=.type "tuple",data:=.seq its.toArray} }:=
   I1.laid (t':=s.toks) (fun b o e=>Ye _ e) (Ym _) (show ObjOk X.prog X.w _ _ _ (.tup ys)from⟨hz,its,r',IsTup.new _ _,NoD.new _ _⟩)
  exact⟨.ref h'.objs.size,_,I2,rfl,q _ (I1.hok.fresh (Ym _))⟩
 ·obtain⟨its,r',pl,hz⟩:=I.tuple hq;exact call_tuple_same pl ⟨.ref p,H,I,rfl,q⟩
def tyV(K:Kq)(T:String)(x:V)(H:Hp):Prop:=match x with
 |.str _=>T = "str"
 |.int _=>T = "int"
 |.ref p=>(T = "list"/\∃xs,SqL K H p xs)\/(T = "tuple"/\∃o,K.lookup p=some o/\o.cls=.type "tuple"/\o.dict=none) \/
   (T = "dict"/\((∃kvs,H p=some (.dK kvs))\/∃kvs,H p=some (.dT kvs)))\/(T = "set"/\∃S n,H p=some (.set S n))
 |_=>False
theorem xH{pz:Kp}{σ:St}{H:Hp}{s:Shared}{T:String}{x:V}{v:Value}(I:Inv X pz σ H s)(r:RelV x v)(ty:tyV X.K T x H) :
  s.TypeIs v T/\∀a,v=.ref a->∃ob,s.heap.get? a=some ob/\ob.dict=none:=by
 cases x with
 |str z=>
  obtain⟨t,rfl⟩:=r;cases(show T = "str" from ty);exact⟨typeIs_str s z t,fun _ e=>nomatch e⟩
 |int i=>
  obtain⟨t,rfl⟩:=r;cases(show T = "int" from ty);exact⟨typeIs_int s i t,fun _ e=>nomatch e⟩
 |ref p=>
  cases r;rcases ty with⟨rfl,xs,hq⟩|⟨rfl,o,hk,hc,hd⟩|⟨rfl,hk⟩|⟨rfl,S,n,hk⟩
  ·obtain⟨its,_,pl,_⟩:=I.list hq;refine⟨pl.isList.typeIs,fun a e=>?_⟩;cases e;obtain⟨o,n,e,c,hd,_⟩:=pl;exact⟨o,e,hd⟩
  ·refine⟨⟨o,I.kIn p o hk,hc⟩,fun a e=>?_⟩;cases e;exact⟨o,I.kIn _ o hk,hd⟩
  ·have z:∃o,s.heap.get? p=some o/\o.ExactDict:=by
    rcases hk with⟨kvs,hk⟩|⟨kvs,hk⟩
    ·obtain⟨_,_,_,_,o,_,_,e,ex,_⟩:=I.hok p _ hk;exact⟨o,e,ex⟩
    ·obtain⟨_,_,_,_,o,_,_,e,ex,_⟩:=I.hok p _ hk;exact⟨o,e,ex⟩
   obtain⟨o,e,ex⟩:=z;refine⟨⟨o,e,ex.1⟩,fun a e2=>?_⟩;cases e2;exact⟨o,e,ex.2.1⟩
  ·obtain⟨o,_,_,_,e,ex,_⟩:=I.hok p _ hk;refine⟨⟨o,e,ex.1⟩,fun a e2=>?_⟩;cases e2;exact⟨o,e,ex.2.1⟩
 |_=>exact False.elim ty
def tBM(K:Kq)(T:String)(r:V->List V->Hp->VK->Prop)(to:TE)(t:TA):TE:=fun σ H Q=>to σ H fun x H1=>tyV K T x H1/\t σ H1 fun xs H2=>r x xs H2 Q
variable{o e:Expr}{es:List Expr}{to:TE}{t:TA}{name:Str}{apos cpos:Pos}{T id:String}{r:V->List V->Hp->VK->Prop}
theorem f_(pa:PlainAttrs T)(slot:Slot T name id)(hty:typeOf (.builtin id)=pure (.type "method_descriptor"))(hm:MtR X id r)(ho:PE X o to)(ha:PA X (e::es) t)
  (hbase:attributeBase o name X.env (eval o X.env)=eval o X.env:=by rfl)
  (hfew:((backTo cpos (starEach (e::es) X.env)).all (fun x=>!x.1)&&(backToKw cpos (keywordEach [] X.env)).all (fun x=>x.1.isSome)
   && decide ((e::es).length+([]:List Keyword).length+(if([]:List Keyword).isEmpty then 0 else 1)<30))=true:=by rfl)
  (hline:(apos.endLine == cpos.line)=true:=by rfl) (hs:starEach (e::es) X.env=(false,eval e X.env)::starEach es X.env:=by rfl) (hplain:(backTo cpos (starEach es X.env)).any (·.1)=false:=by rfl) :
  PE X (.Call (.Attribute o name apos) (e::es) [] cpos) (tBM X.K T r to t):=by
 intro pz s σ H Q I h;refine wpAny_Call_method_late hbase hfew hline rfl (bn (ho pz s σ H _ I h) fun v s1 x H1 I1 r1 hh_=>?_);obtain⟨ty,q1⟩:=hh_;obtain⟨h1,h2⟩:=xH I1 r1 ty;refine⟨T,id,pa,slot,hty,h1,h2,?_⟩;have hA:=ha cpos pz s1 σ H1 _ I1 q1;rw[hs]at hA ⊢;refine Xx (by show(false||(backTo cpos (starEach es X.env)).any (·.1))=false;rw[hplain]<;>rfl) (XH ?_);exact bn hA fun us s2 vs H2 I2 r2 q2=>hm pz s2 σ H2 x vs v us Q I2 r1 r2 q2
end
def MtM(X:Cx)(id:String)(r:V->List V->Hp->VK->Prop):Prop:=
 ∀(pz:Kp) (s:Shared) (σ:St) (H:Hp) (x:V) (xs:List V) (v:Value) (us:List Value) (Q:VK),Inv X pz σ H s->RelV x v->Vals xs us->r x xs H Q->
  wpAny (model X.prog X.w) X.A (call (.builtin id) (v::us)) (EP X pz σ Q) X.xe s
theorem Vals.one{x:V}{us:List Value}(h:Vals [x] us):∃u,us=[u]/\RelV x u:=eI h
theorem Vals.eraseIdx:∀{xs:List V}{us:List Value} (i:Nat),Vals xs us->Vals (xs.eraseIdx i) (us.eraseIdx i)
 |_,_,_,.nil=>.nil
 |_,_,0,.cons _ t=>t
 |_,_,i+1,.cons r t=>.cons r (Vals.eraseIdx i t)
theorem km{α:Type}:∀(l:List α) (i:Nat),(l.eraseIdx i).length<=l.length
 |[],_=>Ym _
 |_::_,0=>Nat.le_succ _
 |_::r,i+1=>Nat.succ_le_succ (km r i)
section
variable{X:Cx}{pz:Kp}{σ:St}{H:Hp}{s:Shared}{l b:Addr}{xs ys zs:List V}
theorem Inv.lset{its its':List Value}{n:Nat}{f:Array Value->Array Value}{t':Nat}(I:Inv X pz σ H s)(hH:H l=some (.lst xs))
  (e:s.heap.get? l=some {cls:=.type "list",data:=.seq its.toArray n}) (hf:f its.toArray=its'.toArray) (hv:Vals ys its') (hz:ys.length<=sizeLine) :
  Inv X pz σ (upd H l (.lst ys)) {s with heap:=s.heap.update l (Obj.mapSeq f),toks:=t' }:=by
 have q:=PySem.IsL.update e f;rw[hf]at q;refine I.write (x:=l) (e:=l) (by rw[hH];exact trivial) (.inl rfl) (fun b' u hb hu=>(Heap.get?_update_other s.heap (Obj.mapSeq f) (XD hb)).trans hu) ⟨_,q⟩ ?_;exact⟨hz,its',_,hv,q⟩
theorem Inv.lnew{its:List Value}{t':Nat}(I:Inv X pz σ H s)(hv:Vals ys its)(hz:ys.length<=sizeLine) :
  Inv X pz σ (upd H s.heap.objs.size (.lst ys)) {s with heap:=s.heap.push {cls:=.type "list",data:=.seq its.toArray},toks:=t' }:=
 I.laid (fun _ _ q=>Ye _ q) (Ym _) ⟨hz,its,0,hv,Yo _ rfl⟩
theorem Inv.fresh(I:Inv X pz σ H s):H s.heap.objs.size=none:=I.hok.fresh (Ym _)
theorem Inv.lstM(I:Inv X pz σ H s)(hH:H l=some (.lst xs)):xs.length<=sizeLine/\∃(its:List Value) (n:Nat),Vals xs its/\xs.length=its.length/\s.heap.get? l=some {cls:=.type "list",data:=.seq its.toArray n}:=by obtain⟨z,its,n,r,e⟩:=I.hok l _ hH;exact⟨z,its,n,r,r.length,e⟩
theorem sT{n:Nat}(h:n<=sizeLine):Builtin.List.listTooLong n=false:=by unfold Builtin.List.listTooLong;exact YB (by omega)
end
section
variable{X:Cx}
def wv:V->List V->Hp->VK->Prop:=fun x vs H Q=>∃l xs y,x=.ref l/\vs=[y]/\H l=some (.lst xs)/\xs.length<sizeLine/\Q .non (upd H l (.lst (xs++[y])))
theorem da:MtM X "list.append" wv:=by intro pz s σ H x vs v us Q I rx rv h;obtain⟨l,xs,y,rfl,rfl,hH,hz,q⟩:=h;cases rx;obtain⟨u,rfl,ru⟩:=rv.one;obtain⟨z,its,n,r,hl,e⟩:=I.lstM hH;refine call_meets F.slot_list_append ⟨_,e,rfl⟩ F.entry_list_append (F.args_list_append_2 _ _) (PySem.list_append l its.toArray n u (by rw[Yp];omega)) ⟨e,?_⟩;refine⟨.non,_,I.lset (its':=its++[u]) hH e (by simp) (r.append (.cons ru .nil)) ?_,rfl,q⟩;rw[Yj,YD];omega
def vS:V->List V->Hp->VK->Prop:=fun x vs H Q=>∃l b xs zs,x=.ref l/\vs=[.ref b]/\H l=some (.lst xs)/\H b=some (.lst zs)/\xs.length+zs.length<=sizeLine/\Q .non (upd H l (.lst (xs++zs)))
theorem qD:MtM X "list.extend" vS:=by
 intro pz s σ H x vs v us Q I rx rv h;obtain⟨l,b,xs,zs,rfl,rfl,hH,hB,hz,q⟩:=h;cases rx;obtain⟨u,rfl,ru⟩:=rv.one;cases ru;obtain⟨z,its,n,r,hl,e⟩:=I.lstM hH;obtain⟨z2,its2,n2,r2,hl2,e2⟩:=I.lstM hB;have hsz:its.toArray.size+its2.toArray.size<=sizeLine:=by rw[Yp,Yp];omega
 have hlong:¬(!its.toArray.isEmpty&&Builtin.List.listTooLong (its.toArray.size+its2.toArray.size))=true:=by rw[sT hsz,Bool.and_false];exact Yk
 refine call_meets F.slot_list_extend ⟨_,e,rfl⟩ F.entry_list_extend (F.args_list_extend_2 _ _)
  (AutoSeq1.list_extend_list_list_0 l its.toArray n b its2.toArray n2 hlong (by rw[Yp];omega) (by omega)) ⟨e,e2,?_⟩
 refine⟨.non,_,I.lset (its':=its++its2) hH e (by simp) (r.append r2) ?_,rfl,q⟩;rw[Yj];omega
def ua:V->List V->Hp->VK->Prop:=fun x vs H Q=>∃l xs i k y,x=.ref l/\vs=[.int i]/\H l=some (.lst xs)/\-(2^63)<=i/\i<2^63/\seqIndex? i xs.length=some k/\xs[k]?=some y/\Q y (upd H l (.lst (xs.eraseIdx k)))
theorem tE:MtM X "list.pop" ua:=by
 intro pz s σ H x vs v us Q I rx rv h;obtain⟨l,xs,i,k,y,rfl,rfl,hH,h1,h2,hk,hy,q⟩:=h;cases rx;obtain⟨u,rfl,ru⟩:=rv.one;obtain⟨t,rfl⟩:=ru;obtain⟨z,its,n,r,hl,e⟩:=I.lstM hH;obtain⟨w,hw,rw'⟩:=r.get hy;refine call_meets F.slot_list_pop ⟨_,e,rfl⟩ F.entry_list_pop (F.args_list_pop_2 _ _)
  (MeetsSeq.list_pop_at l its.toArray n i t k w (fitsIndex_both h1 h2) (by rw[Yp,<-hl];exact hk) (by rw[<-XB];exact hw) (by rw[Yp];omega)) ⟨e,?_⟩
 refine⟨y,_,I.lset (its':=its.eraseIdx k) hH e ?_ (r.eraseIdx k) ?_,rw',q⟩
 ·show its.toArray.eraseIdxIfInBounds k=(its.eraseIdx k).toArray;rw[List.eraseIdxIfInBounds_toArray]
 ·have:=km xs k;omega
end
section
variable{prog:Program}{w:World}{A:Around}{E:Kv}{s:Shared}
set_option maxRecDepth 100000 in
end
section
variable{X:Cx}
end
end L2
namespace Att
open PySem PySem.W PySem.Calls PyProof.Rows
theorem im{P:Params}{h:Heap}:∀(ns:List Int) (vs:List Value),WellAll P h vs (ns.map WData.int)->IntsAre vs ns:=by
 intro ns;induction ns with
 |nil=>
  intro vs w;rw[List.map_nil]at w;cases w;exact .nil
 |cons n ns ih=>
  intro vs w;rw[List.map_cons]at w;cases w with
  |cons a b=>
   cases a;exact .cons _ _ (ih _ b)
theorem rD{l:OpenLaw}{n:Nat}(hn:l.most=some n){P:Params}{h:Heap}{args:List WData}{vals:List Value}
  (hpre:l.row.toRowW.claim.pre args=true) (hwl:WellAll P h vals args) :
  ∃a vs ns,vals=[Value.ref a]/\args=[WData.list (ns.map WData.int)]/\h.get? a=some {cls:=.type "list",data:=.seq vs.toArray}/\IntsAre vs ns/\ns.length<=n:=by
 have hsh:WShape.hasAll [] args [.list .int]=true:=(pre_splitW hpre).1;have hc:l.pre.holds [] {args:=args}=true:=(pre_splitW hpre).2;obtain⟨d,r,rfl,h1,h2⟩:=hasAllW_cons hsh;obtain rfl:=hasAllW_nil h2;obtain⟨xs,rfl,h3⟩:=hasW_list h1;obtain⟨ns,rfl⟩:=items_int h3;have hlen:ns.length<=n:=by
  unfold OpenLaw.pre at hc;have h4:(WTm.not (.lt (.lit (.int (n:Int))) (.len (.arg 0)))).holds [] {args:=[.list (ns.map .int)]}=true:=by have h4:=(holds_andW hc).1;rw[hn]at h4;exact h4
  have h5:=condW_of h4 (w_not (w_lt w_lit (w_len_list (w_arg rfl))));rw[List.length_map]at h5;refine Nat.le_of_not_lt fun q=>?_;have q':(n:Int)<((ns.length:Nat):Int):=by omega
  first
   |(rw[decide_eq_true q']at h5;exact absurd h5 (by decide))
   |(simp at h5;omega)
 cases hwl with
 |cons w1 w2=>
  cases w2;cases w1 with
  |list ho hall=>exact⟨_,_,ns,rfl,rfl,ho,im ns _ hall,hlen⟩
theorem rO(l:OpenLaw)(args:List WData):l.row.toRowW.claim.post args (.bool true) args=true:=
 postW_of (r:=l.row.toRowW) (X:=(true == true))
  (show WShape.has [] (.bool true) .bool=true by first|rfl|decide|simp[WShape.has,WShape.arms,WShape.armsAll])
  (show(WTm.eq .res (.lit (.bool true))).value [] {args:=args,res:=some (.bool true),after:=args}=some (.bool (true == true))from w_eq_bool (w_res rfl) w_lit) rfl
theorem attach_call{l:OpenLaw}{n:Nat}{q:Program}{loose:List Str}{XP:(Str->Option Value)->Heap->Prop}{YP:World->Heap->Prop}{d:DefRec}
  (hn:l.most=some n) (hdf:d.params.defaults=[])
  (call:∀(w:World) (s₀ s₁:Shared) (mg mb:Str->Option Value) (fa:Addr) (o:Obj) (pm cd doc:Value) (a:Addr) (vs:List Value) (ns:List Int),
   Ground q loose [] XP w s₀ mg mb s₁.heap->YP w s₁.heap->
   s₁.heap.get? fa=some o->o.data=.func (docDef d.name d.params d.body d.scope pm cd doc)->s₁.heap.CodeRec cd d.name->mg d.name=some (.ref fa)->
   s₁.heap.get? a=some {cls:=.type "list",data:=.seq vs.toArray}->IntsAre vs ns->ns.length<=n->s₁.gens=#[]->
   codeAny (model l.prog w) callerA (.call (.ref fa) ⟨[.ref a],[]⟩) (fun r s'=>r=.ok (.ret (.bool true))/\OldK s₁.heap s'.heap/\s'.os=s₁.os/\AllBare s'.gens) s₁) :
  WalkO q loose XP YP l.row.toRowW d [] (fun f vs=>PySem.call f vs):=by
 intro w s₀ s₁ mg mb G Y fa o pm cd doc dV kV ho hd hcd hD hmg hg args vals as hpre hlay hrd hwl hlo;obtain rfl:dV=.none:=Dflts.none hD hdf;obtain rfl:kV=.none:=Dflts.noKw hD;obtain⟨a,vs,ns,rfl,rfl,hobj,hints,hlen⟩:=rD hn hpre hwl;refine enter_call (codeAny_mono (call w s₀ s₁ mg mb fa o pm cd doc a vs ns G Y ho (fd_plain hd) hcd hmg hobj hints hlen hg) fun r s' hq=>?_);obtain⟨rfl,h2,h3,h4⟩:=hq;exact⟨.inl ⟨.bool true,.bool true,[],rfl,fun _=>rfl,.bool true,rO l _,fun _=>⟨List.Pairwise.nil,fun _ hm=>(nomatch hm)⟩⟩,h2,h3,h4⟩
section
variable{prog:Program}{w:World}{A:Around}{E:Value->Shared->Prop}{s:Shared}{K:Frag}
end
end Att
namespace L2
open PySem PySem.Spec PyProof.Rows
theorem j0:∀{vs:List Value}{ns:List Int},IntsAre vs ns->Vals (ns.map V.int) vs
 |_,_,.nil=>.nil
 |_,_,.cons n t h=>.cons ⟨t,rfl⟩ (j0 h)
def wE(H:Hp):Prop:=∀b,H b=none\/∃o xs,H b=some (.frz o (.lst xs))
theorem tf{P:Program}{w:World}{K:Kq}{mg mb:Ks}{CX:CXT}{k:Nat}{fa a:Addr}{fd:FuncData}{x:Str}{sp:Sp}{s₁:Shared}{vs:List Value}{ns:List Int}
  (KX:K.In s₁.heap) (hns:s₁.heap.Ns mainGlobals mg) (hb:s₁.heap.Ns builtinsNs mb) (hbb:∀x:Str,x ≠ "__name__"->mb x=bootBuiltins x) (hlim:s₁.heap.NoLimit) (hg:s₁.gens=#[])
  (ha:s₁.heap.get? a=some {cls:=.type "list",data:=.seq vs.toArray}) (hi:IntsAre vs ns) (hl:ns.length<=sizeLine) (hr:Room k callerA)
  (F:∀base:Heap,K.In base->base.Ns mainGlobals mg->FnOk P w K mg base CX k fa fd [x] sp) (hbind:∀(s:Shared) (u:Value),BindsTo s fd ⟨[u],[]⟩ [(x,u)])
  (hsp:∀H:Hp,wE H->SqL K H a (ns.map V.int)->sp [.ref a] H (fun v _=>v=.bl true) fun _ _ _=>False)
  (hCX:∀H e s',CX [] H s₁ (fun _ _ _=>False) e s'->False) :
  codeAny (model P w) callerA (.call (.ref fa) ⟨[.ref a],[]⟩) (fun r s'=>r=.ok (.ret (.bool true))/\OldK s₁.heap s'.heap/\s'.os=s₁.os/\AllBare s'.gens) s₁:=by
 have rv:=j0 hi;have lenV:=hi.length
 -- from an abstract heap in which nothing but the script may be tracked
 have core:∀H:Hp,wE H->SqL K H a (ns.map V.int)->HOk P w H s₁.heap->(∀b,H b≠none->b=a)->(H a≠none->K.lookup a=none)->
   codeAny (model P w) callerA (.call (.ref fa) ⟨[.ref a],[]⟩) (fun r s'=>r=.ok (.ret (.bool true))/\OldK s₁.heap s'.heap/\s'.os=s₁.os/\AllBare s'.gens) s₁:=by
  intro H hO hS hok hA hK;have base_of:∀{b:Addr}{o:Obj},s₁.heap.get? b=some o->H b=none->(k9 s₁.heap H).get? b=some o:=fun e n=>uS e n
  have noA:∀{b:Addr}{o:Obj}{es:Array DictEntry}{ep:Nat},s₁.heap.get? b=some o->o.data=.dict es ep->H b=none:=fun{b o es ep} e d=>by
   cases q:H b with
   |none=>rfl
   |some u=>
    have e':b=a:=hA b (by rw[q];simp);subst e';rw[ha]at e;cases e;have d':Data.seq vs.toArray _=Data.dict es ep:=d;cases d'
  have nsK:∀{b:Addr}{m:Ks},s₁.heap.Ns b m->(k9 s₁.heap H).Ns b m:=fun{b m} ⟨o,es,ep,e,d,r⟩=>⟨o,es,ep,base_of e (noA e d),d,r⟩
  have hKb:K.In (k9 s₁.heap H):=fun b o e=>base_of (KX b o e) (by
   cases q:H b with
   |none=>rfl
   |some u=>
    have e':b=a:=hA b (by rw[q];simp);subst e';rw[hK (by rw[q];simp)]at e;cases e)
  have hM:Mod K mg (k9 s₁.heap H):=⟨hKb,nsK hns,⟨mb,nsK hb,hbb⟩,let ⟨mc,h1,h2⟩:=hlim;⟨mc,nsK h1,h2⟩⟩
  have e0:Env0 P w K mg (k9 s₁.heap H) callerA [] s₁ H:=⟨rfl,hM,fun b o e=>v7 e,ZQ (re _ _),trivial,fun b hb=>absurd (show b∈([]:List Addr)from hb) (by simp),hok,.of_eq hg⟩
  refine codeAny_mono ((F _ hKb (nsK hns)).run callerA [] s₁ H ⟨[.ref a],[]⟩ [.ref a] [.ref a] _ _ hr e0 (hbind s₁ (.ref a)) (.cons rfl .nil) (hsp H hO hS)) fun r s' h=>?_;cases r with
  |error e=>exact(hCX H e s' h).elim
  |ok fl=>
   cases fl with
   |next=>exact False.elim h
   |brk=>exact False.elim h
   |cont=>exact False.elim h
   |ret u=>
    obtain⟨v,H',os,bare,un,hok',r',q⟩:=h;have q':v=.bl true:=q;subst q';obtain rfl:u=Value.bool true:=r';refine⟨rfl,OldK.of_keep fun b o e=>?_,os,bare⟩;cases q:H b with
    |none=>exact un.keep b o e q (by intro z;exact absurd (show b∈([]:List Addr)from z) (by simp)) (by simp)
    |some u=>
     rcases hO b with z|⟨ob,xs,z⟩
     ·rw[q]at z;cases z
     ·have z2:=un.frzs b ob _ z;obtain⟨e1,_⟩:=hok b _ z;obtain⟨e2,_⟩:=hok' b _ z2;rw[e]at e1;cases e1;exact e2
 cases hk:K.lookup a with
 |some o=>
  -- the script is one of the module's own objects
  have e:=KX a o hk;rw[ha]at e;cases e;refine core (fun _=>none) (fun _=>.inl rfl) (.inr ⟨_,vs.toArray,_,hk,rfl,rfl,rfl,by rw[Yp,lenV];exact hl,by simpa using rv⟩) (fun b u z=>by have z':(none:Option HO)=some u:=z;cases z') (fun b z=>absurd rfl z) fun z=>absurd rfl z
 |none=>
  refine core (fun b=>if b=a then some (.frz {cls:=.type "list",data:=.seq vs.toArray} (.lst (ns.map V.int)))else none) (fun b=>?_) (.inl (.inr ⟨{cls:=.type "list",data:=.seq vs.toArray},Yi rfl⟩)) (fun b u z=>?_) (fun b z=>?_) fun _=>hk
  ·by_cases hb:b=a
   ·exact .inr ⟨_,_,Yi hb⟩
   ·exact .inl (Yn hb)
  ·by_cases hb:b=a
   ·have z':=(Yi hb).symm.trans z;cases z';subst hb;exact⟨ha,by rw[Yb];exact hl,vs,_,rv,ha⟩
   ·have z':=(Yn hb).symm.trans z;cases z'
  ·by_cases hb:b=a
   ·exact hb
   ·exact absurd (Yn hb) z
theorem wM{l:PySem.W.OpenLaw}{n k:Nat}{q:Program}{loose:List Str}{XP:(Str->Option Value)->Heap->Prop}{YP:World->Heap->Prop}{d:DefRec}{K:Params->PySem.W.Frag}{CX:World->CXT}{sp:World->Sp}{x:Str}
  (hn:l.most=some n) (hn2:n<=sizeLine) (hdf:d.params.defaults=[]) (hr:Room k callerA)
  (hY:∀(w:World) (h:Heap),YP w h->(K w.params).In h)
  (F:∀(w:World) (mg:Ks) (fa:Addr) (h:Heap),(K w.params).In h->h.Ns mainGlobals mg->mg d.name=some (.ref fa)->
   ∃fd:FuncData,(∀(s:Shared) (u:Value),BindsTo s fd ⟨[u],[]⟩ [(x,u)]) /\
    ∀base:Heap,(K w.params).In base->base.Ns mainGlobals mg->FnOk l.prog w (K w.params) mg base (CX w) k fa fd [x] (sp w))
  (hsp:∀(w:World) (H:Hp) (a:Addr) (ns:List Int),ns.length<=n->wE H->SqL (K w.params) H a (ns.map V.int)->sp w [.ref a] H (fun v _=>v=.bl true) fun _ _ _=>False)
  (hCX:∀(w:World) (H:Hp) (s:Shared) (e:Value) (s':Shared),CX w [] H s (fun _ _ _=>False) e s'->False) :
  PySem.W.WalkO q loose XP YP l.row.toRowW d [] (fun f vs=>PySem.call f vs):=by
 refine Att.attach_call hn hdf fun w s₀ s₁ mg mb fa o pm cd doc a vs ns G Y ho hd hcd hmg hobj hints hlen hg=>?_;have KX:=hY w _ Y;obtain⟨fd,hb,hF⟩:=F w mg fa _ KX G.T.g hmg;exact tf KX G.T.g G.T.b G.T.builtins G.T.nolimit hg hobj hints (YH hlen hn2) hr hF hb (fun H hO hS=>hsp w H a ns hlen hO hS) fun H e s'=>hCX w H s₁ e s'
theorem walk_ofK{l:PySem.W.OpenLaw}{n k:Nat}{q:Program}{loose:List Str}{XP:(Str->Option Value)->Heap->Prop}{YP:World->Heap->Prop}{d:DefRec}{K:Params->PySem.W.Frag}{CX:CXT}{sp:PySem.W.Frag->Sp}{x:Str}
  (hn:l.most=some n) (hn2:n<=sizeLine) (hdf:d.params.defaults=[]) (hr:Room k callerA)
  (hY:∀(w:World) (h:Heap),YP w h->(K w.params).In h)
  (F:∀(w:World) (mg:Ks) (fa:Addr) (h:Heap),(K w.params).In h->h.Ns mainGlobals mg->mg d.name=some (.ref fa)->
   ∃fd:FuncData,(∀(s:Shared) (u:Value),BindsTo s fd ⟨[u],[]⟩ [(x,u)]) /\
    ∀base:Heap,(K w.params).In base->base.Ns mainGlobals mg->FnOk l.prog w (K w.params) mg base CX k fa fd [x] (sp (K w.params)))
  (hsp:∀(K:Kq) (H:Hp) (a:Addr) (ns:List Int),ns.length<=n->wE H->SqL K H a (ns.map V.int)->sp K [.ref a] H (fun v _=>v=.bl true) fun _ _ _=>False)
  (hCX:∀(H:Hp) (s:Shared) (e:Value) (s':Shared),CX [] H s (fun _ _ _=>False) e s'->False) :
  PySem.W.WalkO q loose XP YP l.row.toRowW d [] (fun f vs=>PySem.call f vs):=
 wM (K:=K) (CX:=fun _=>CX) (sp:=fun w=>sp (K w.params)) hn hn2 hdf hr hY F (fun w H a ns h1 h2 h3=>hsp (K w.params) H a ns h1 h2 h3) fun _ H s e s'=>hCX H s e s'
def lA(s:Stmt)(j:Nat):Stmt:=match s with
 |.ClassDef _ _ _ body _ _ _ _ _ _ _=>body.getD j (.Pass ⟨0,0,0,0⟩)
 |_=>.Pass ⟨0,0,0,0⟩
def defArgs(s:Stmt):Arguments:=match s with
 |.FunctionDef _ a _ _ _ _ _ _ _ _=>a
 |_=>{posonlyargs:=[],args:=[],vararg:=none,kwonlyargs:=[],kw_defaults:=[],kwarg:=none,defaults:=[]}
def defBody(s:Stmt):List Stmt:=match s with
 |.FunctionDef _ _ b _ _ _ _ _ _ _=>b
 |_=>[]
def defScope(s:Stmt):Scope:=match s with
 |.FunctionDef _ _ _ _ _ _ sc _ _ _=>sc
 |_=>{kind:=.function,names:=[],isGenerator:=false,isCoroutine:=false}
abbrev CX0:CXT:=fun _ _ _ _ _ _=>False
abbrev E0:XK:=fun _ _ _=>False
theorem ig{X:Cx}:fq CX0 X E0:=fun _ _ _ _ _ _ _ h=>h.elim
structure Fun (K:PySem.W.Frag) (x qual:Str) (st:Stmt) (f:Addr) (fd:FuncData):Prop where
 ex:∃(oc:Value) (od:Option Addr) (kV doc pm:Value) (an:Option Addr) (cdv ct:Value) (osl:Array (Option Value)),
  fd=PySem.W.fnOf x qual (defArgs st) (defBody st) (defScope st) .none kV doc pm an cdv ct/\K.lookup f=some ⟨oc,od,.func fd,osl⟩/\PySem.W.codeIn K cdv qual=true
 kp:PySem.W.keepIn K (.ref f)=true
section
variable{P:Program}{w:World}{K:Kq}{mg:Ks}{base:Heap}
theorem Fun.ok{x qual:Str}{st:Stmt}{f:Addr}{fd:FuncData}{N ps:List Str}{k:Nat}{sp:Sp}(F:Fun K x qual st f fd)(S:FnScope N ps (defScope st))(len:∀vs H Q E,sp vs H Q E->vs.length=ps.length)
  (hbody:∀(cdv:Value) (A:Around) (outer:List Env) (s:Shared) (H:Hp) (vs:List V) (Q:VK) (E:XK),Room k (A.deeper (envOfC qual (defScope st) s.heap.objs.size f cdv))->sp vs H Q E->
   ∃t,PSs (lp CX0 P w K mg base N qual (defScope st) f cdv A outer s H E).nox (defBody st) t/\t {nx:=fun _ H'=>Q .non H',rt:=Q} (start N vs) H):FnOk P w K mg base CX0 (k+1) f fd ps sp:=by
 obtain⟨oc,od,kV,doc,pm,an,cdv,ct,osl,rfl,lk,hcd⟩:=F.ex;refine AB lk hcd S len fun A outer s H vs Q E hr hsp=>?_;obtain⟨t,h,q⟩:=hbody cdv A outer s H vs Q E hr hsp;exact⟨t,h.nox,q⟩
theorem Fun.binds{x qual:Str}{st:Stmt}{f:Addr}{fd:FuncData}{ps:List Str}(F:Fun K x qual st f fd)
  (h:∀(kV doc pm:Value) (an:Option Addr) (cdv ct:Value) (us:List Value),us.length=ps.length->bindArgs (PySem.W.fnOf x qual (defArgs st) (defBody st) (defScope st) .none kV doc pm an cdv ct) ⟨us,[]⟩=pure (ps.zip us)):Binds K fd ps []:=by
 obtain⟨oc,od,kV,doc,pm,an,cdv,ct,osl,rfl,lk,hcd⟩:=F.ex;exact .all (h kV doc pm an cdv ct)
theorem a_{x qual:Str}{st:Stmt}{f:Addr}{oc:Value}{od an:Option Addr}{osl:Array (Option Value)}{kV doc pm cdv ct:Value}(l:K.lookup f=some ⟨oc,od,.func (PySem.W.fnOf x qual (defArgs st) (defBody st) (defScope st) .none kV doc pm an cdv ct),osl⟩)
  (c:PySem.W.codeIn K cdv qual=true) (k:PySem.W.keepIn K (.ref f)=true):Fun K x qual st f (PySem.W.fnOf x qual (defArgs st) (defBody st) (defScope st) .none kV doc pm an cdv ct):=⟨⟨oc,od,kV,doc,pm,an,cdv,ct,osl,rfl,l,c⟩,k⟩
end
section
variable{X:Cx}
theorem pv(i:Nat){x:Str}{pos:Pos}(hN:X.N[i]?=some x:=by rfl)(hv:Vis X.env.scope x:=by first|exact Or.inl rfl|exact Or.inr (Or.inl rfl)|exact Or.inr (Or.inr rfl))(hd:(x == ("__debug__":Str))=false:=by decide)
  (hcd:(x == ("__classdict__":Str))=false:=by decide):PE X (.Name x pos) (cG i):=xW hN hv hd hcd
end
def Same(H H':Hp):Prop:=∀b o,H b=some o->H' b=some o
theorem Same.refl(H:Hp):Same H H:=fun _ _ h=>h
theorem Same.trans{H H1 H2:Hp}(a:Same H H1)(b:Same H1 H2):Same H H2:=fun c o h=>b c o (a c o h)
theorem Same.free{H H':Hp}(e:Same H H'){l:Addr}(h:H' l=Option.none):H l=Option.none:=by
 cases q:H l with
 |none=>rfl
 |some o=>
  rw[e l o q]at h;cases h
theorem Same.seq{K:Kq}{H H':Hp}{a:Addr}{xs:List V}(e:Same H H')(h:SqL K H a xs):SqL K H' a xs:=by
 rcases h with (h|⟨o,h⟩)|h
 ·exact .inl (.inl (e _ _ h))
 ·exact .inl (.inr ⟨o,e _ _ h⟩)
 ·exact .inr h
end L2
set_option maxHeartbeats 4000000
namespace L2
open PySem PySem.Spec PyProof.Rows
def cc(cs:List (Str×Addr)):List (Str×NameKind)->List (Str×Addr)->List (Str×Addr)
 |[],acc=>acc
 |(n,k)::r,acc=>if k == .free then cc cs r ((n,(cs.lookup n).getD 0)::acc)else cc cs r acc
theorem jC{scope:Scope}{env:Env}(h:∀x∈scope.names,x.2=.free->∃c,env.cells.lookup x.1=some c):closureFor scope env=pure (cc env.cells scope.names []):=by
 have key:∀(names:List (Str×NameKind)) (acc:List (Str×Addr)) (f:Str×NameKind->List (Str×Addr)->Sem (ForInStep (List (Str×Addr)))),
   (∀n k r,f (n,k) r=if k == .free then(cellOf env n>>=fun c=>pure (.yield ((n,c)::r)))else pure (.yield r))->
   (∀x∈names,x.2=.free->∃c,env.cells.lookup x.1=some c)->forIn names acc f=pure (cc env.cells names acc):=by
  intro names;induction names with
  |nil=>intro acc f _ _;rfl
  |cons x r ih=>
   intro acc f hf hx;obtain⟨n,k⟩:=x;rw[List.forIn_cons,hf];unfold cc;by_cases hk:(k == NameKind.free)=true
   ·rw[Yi hk,Yi hk];obtain⟨c,hc⟩:=hx (n,k) Yf (by simpa using hk);have e:cellOf env n=pure c:=by unfold cellOf;rw[hc]
    rw[e,pure_bind,pure_bind,hc];exact ih _ f hf fun y hy=>hx y (Yc _ hy)
   ·rw[Yn hk,Yn hk,pure_bind];exact ih _ f hf fun y hy=>hx y (Yc _ hy)
 unfold closureFor;show(forIn scope.names ([]:List (Str×Addr)) _>>=fun cs=>pure cs)=_;rw[key scope.names [] _ (fun n k r=>by
  by_cases hk:(k == NameKind.free)=true
  ·simp only[hk,Va]
  ·simp only[hk]) h]
 rfl
theorem bu{α:Type}(y n:Str)(c:α)(l:List (Str×α)):((n,c)::l).lookup y=if y=n then some c else l.lookup y:=by
 rw[List.lookup_cons];by_cases h:y=n
 ·subst h;simp
 ·have:(y == n)=false:=by simpa using h
  rw[this,Yn h]
theorem cn{cs:List (Str×Addr)}:∀(names:List (Str×NameKind)) (acc:List (Str×Addr)) (y:Str) (c:Addr),
  (∀x∈names,x.2=.free->∃c,cs.lookup x.1=some c)->(∀y c,acc.lookup y=some c->cs.lookup y=some c)->(cc cs names acc).lookup y=some c->cs.lookup y=some c
 |[],acc,y,c,_,h,e=>h y c e
 |(n,k)::r,acc,y,c,hx,h,e=>by
  unfold cc at e;have hr:∀x∈r,x.2=.free->∃c,cs.lookup x.1=some c:=fun x hm=>hx x (Yc _ hm)
  by_cases hk:(k == NameKind.free)=true
  ·rw[Yi hk]at e;refine cn r _ y c hr (fun z d ez=>?_) e;obtain⟨c',hc'⟩:=hx (n,k) Yf (by simpa using hk);rw[bu]at ez;split at ez
   ·rename_i q;subst q;cases ez;rw[hc'];rfl
   ·exact h z d ez
  ·rw[Yn hk]at e;exact cn r acc y c hr h e
theorem dS{cs:List (Str×Addr)}:∀(names:List (Str×NameKind)) (acc:List (Str×Addr)) (y:Str) (c:Addr),
  (cc cs names acc).lookup y=some c->(y,NameKind.free)∈names\/acc.lookup y=some c
 |[],acc,y,c,e=>.inr e
 |(n,k)::r,acc,y,c,e=>by
  unfold cc at e;by_cases hk:(k == NameKind.free)=true
  ·rw[Yi hk]at e;have hk':k=.free:=by simpa using hk
   rcases dS r _ y c e with q|q
   ·exact .inl (Yc _ q)
   ·rw[bu]at q;split at q
    ·rename_i z;subst z;subst hk';exact .inl Yf
    ·exact .inr q
  ·rw[Yn hk]at e;rcases dS r acc y c e with q|q
   ·exact .inl (Yc _ q)
   ·exact .inr q
theorem dM{cs:List (Str×Addr)}:∀(names:List (Str×NameKind)) (acc:List (Str×Addr)) (y:Str),
  ((y,NameKind.free)∈names\/∃c,acc.lookup y=some c)->∃c,(cc cs names acc).lookup y=some c
 |[],acc,y,h=>h.elim (fun z=>by cases z) id
 |(n,k)::r,acc,y,h=>by
  unfold cc;by_cases hk:(k == NameKind.free)=true
  ·rw[Yi hk];refine dM r _ y ?_;rcases h with h|⟨c,h⟩
   ·rcases YF.mp h with q|q
    ·cases q;exact .inr ⟨_,by rw[bu,Yi rfl]⟩
    ·exact .inl q
   ·refine .inr ?_;by_cases q:y=n
    ·exact⟨_,by rw[bu,Yi q]⟩
    ·exact⟨c,by rw[bu,Yn q];exact h⟩
  ·rw[Yn hk];refine dM r acc y ?_;rcases h with h|h
   ·rcases YF.mp h with q|q
    ·cases q;exact absurd rfl hk
    ·exact .inl q
   ·exact .inr h
theorem kO:∀(names:List (Str×NameKind)) (h:Heap) (acc:List (Str×Addr)) (y:Str) (c:Addr),(cellsFrom h.objs.size names acc).lookup y=some c->
  (h.objs.size<=c/\(pushCells h names).IsCell c none/\(y,NameKind.cell)∈names)\/acc.lookup y=some c
 |[],_,_,_,_,e=>.inr e
 |(n,k)::r,h,acc,y,c,e=>by
  unfold cellsFrom at e;unfold pushCells;by_cases hk:(k == NameKind.cell)=true
  ·rw[Yi hk]at e ⊢;have hk':k=.cell:=by simpa using hk
   have hz:(h.push {cls:=.type "cell",data:=.cell none}).objs.size=h.objs.size+1:=ZC ..;rw[<-hz]at e;rcases kO r _ _ y c e with⟨q1,q2,q3⟩|q
   ·exact .inl ⟨by rw[hz]at q1;omega,q2,Yc _ q3⟩
   ·rw[bu]at q;split at q
    ·rename_i z;subst z;cases q;subst hk';exact .inl ⟨Ym _,⟨_,XN r _ _ _ (Yo _ rfl),rfl⟩,Yf⟩
    ·exact .inr q
  ·rw[Yn hk]at e ⊢;rcases kO r h acc y c e with⟨q1,q2,q3⟩|q
   ·exact .inl ⟨q1,q2,Yc _ q3⟩
   ·exact .inr q
theorem oo{y:Str}:∀(names:List (Str×NameKind)) (n:Nat) (acc:List (Str×Addr)),(∀k,(y,k)∈names->k≠.cell)->(cellsFrom n names acc).lookup y=acc.lookup y
 |[],_,_,_=>rfl
 |(m,k)::r,n,acc,h=>by
  unfold cellsFrom;have hr:∀k,(y,k)∈r->k≠.cell:=fun k hk=>h k (Yc _ hk)
  by_cases hk:(k == NameKind.cell)=true
  ·rw[Yi hk,oo r _ _ hr,bu,Yn];rintro rfl;exact h k Yf (by simpa using hk)
  ·rw[Yn hk];exact oo r n acc hr
theorem nH:∀(names:List (Str×NameKind)) (n:Nat) (acc:List (Str×Addr)),(∀y c,acc.lookup y=some c->c<n)->(∀y z c,acc.lookup y=some c->acc.lookup z=some c->y=z)->
  ∀y z c,(cellsFrom n names acc).lookup y=some c->(cellsFrom n names acc).lookup z=some c->y=z
 |[],_,_,_,h=>h
 |(m,k)::r,n,acc,hlt,h=>by
  unfold cellsFrom;by_cases hk:(k == NameKind.cell)=true
  ·rw[Yi hk];refine nH r (n+1) _ (fun y c e=>?_) fun y z c e e'=>?_
   ·rw[bu]at e;split at e
    ·cases e;exact XE _
    ·exact Xd (hlt y c e)
   ·rw[bu]at e e';split at e<;>split at e'
    ·rename_i a b;rw[a,b]
    ·cases e;exact absurd (hlt z _ e') (Zb _)
    ·cases e';exact absurd (hlt y _ e) (Zb _)
    ·exact h y z c e e'
  ·rw[Yn hk];exact nH r n acc hlt h
def eM(env:Env)(scope:Scope)(C:Addr):Env:=
 {scope:=relabel scope env,locals:=C,globals:=env.globals,cells:=cellsFrom (C+1) scope.names (cc env.cells scope.names []),qual:=env.qual,func:=none,code:=env.code,frame:=env.frame,builtins:=env.builtins}
def blk(X:Cx)(scope:Scope)(N:List Str)(s:Shared)(H:Hp)(fp:List Addr)(pz:Kp):Cx where
 prog:=X.prog
 w:=X.w
 K:=X.K
 mg:=X.mg
 base:=X.base
 A:=X.A
 N:=N
 s₀:=s
 H₀:=H
 env:=eM X.env scope s.heap.objs.size
 outer:=X.stack
 stack:=X.stack
 ex:=fp
 fn:=fun x=>scope.names.lookup x == some .local||scope.names.lookup x == some .cell
 calm:=X.calm
 pn:=X.pn++pz
 xe:=fun _ _=>False
structure BlkScope (X:Cx) (scope:Scope):Prop where
 kind:scope.kind=.function
 nd:(scope.names.map (·.1)).Nodup
 free:∀x∈scope.names,x.2=.free->X.env.kindOf x.1=some .cell\/X.env.kindOf x.1=some .free
theorem dA{α:Type}:∀{l:List (Str×α)}{n:Str}{c:α},(l.map (·.1)).Nodup->(n,c)∈l->l.lookup n=some c
 |[],_,_,_,h=>by cases h
 |(k,v)::r,n,c,nd,h=>by
  rw[bu];rcases YF.mp h with q|q
  ·cases q;rw[Yi rfl]
  ·have nd':=Zp.mp nd;rw[Yn]
   ·exact dA nd'.2 q
   ·rintro rfl;exact nd'.1 (YC.mpr ⟨_,q,rfl⟩)
theorem fZ{env:Env}{x:Str}:∀(names:List (Str×NameKind)),
  (names.map fun(n,k)=>if(k == NameKind.free&&env.scope.kind == .function&&env.kindOf n == some .cell)then(n,NameKind.cell)else(n,k)).lookup x =
   (names.lookup x).map fun k=>if(k == NameKind.free&&env.scope.kind == .function&&env.kindOf x == some .cell)then NameKind.cell else k
 |[]=>rfl
 |(n,k)::r=>by
  show List.lookup x ((if(k == NameKind.free&&env.scope.kind == .function&&env.kindOf n == some .cell)=true then(n,NameKind.cell)else(n,k))::_)=_;have e:(if(k == NameKind.free&&env.scope.kind == .function&&env.kindOf n == some .cell)=true then(n,NameKind.cell)else(n,k)) =
    (n,if(k == NameKind.free&&env.scope.kind == .function&&env.kindOf n == some .cell)=true then NameKind.cell else k):=by split<;>rfl
  rw[e,bu,bu];split
  ·rename_i q;subst q;rfl
  ·exact fZ r
theorem iT{env:Env}{scope:Scope}{C:Addr}(x:Str):(eM env scope C).kindOf x =
  (scope.names.lookup x).map fun k=>if(k == NameKind.free&&env.scope.kind == .function&&env.kindOf x == some .cell)then NameKind.cell else k:=fZ scope.names
section
variable{X:Cx}{pz:Kp}{σ:St}{H:Hp}{s:Shared}{scope:Scope}{N:List Str}{fp:List Addr}
theorem BlkScope.cl(b:BlkScope X scope)(ok:X.Ok):∀x∈scope.names,x.2=.free->∃c,X.env.cells.lookup x.1=some c:=fun x hx e=>ok.has x.1 (b.free x hx e)
theorem dE(b:BlkScope X scope)(I:Inv X pz σ H s){y:Str}{c:Addr}(e:(eM X.env scope s.heap.objs.size).cells.lookup y=some c) :
  (s.heap.objs.size<c/\(pushCells (s.heap.push {cls:=.type "dict",data:=.dict #[]}) scope.names).IsCell c none/\(y,NameKind.cell)∈scope.names)\/(X.env.cells.lookup y=some c/\(y,NameKind.free)∈scope.names):=by
 have hz:(s.heap.push {cls:=.type "dict",data:=.dict #[]}).objs.size=s.heap.objs.size+1:=ZC ..;have e':(cellsFrom (s.heap.push {cls:=.type "dict",data:=.dict #[]}).objs.size scope.names (cc X.env.cells scope.names [])).lookup y=some c:=by rw[hz];exact e
 rcases kO _ _ _ _ _ e' with⟨h1,h2,h3⟩|h
 ·exact .inl ⟨by rw[hz]at h1;omega,h2,h3⟩
 ·refine .inr ⟨cn _ _ y c (b.cl I.ok) (fun _ _ z=>by cases z) h,?_⟩;rcases dS _ _ _ _ h with q|q
  ·exact q
  ·cases q
theorem ym(b:BlkScope X scope)(I:Inv X pz σ H s)(hf:∀a∈fp,e7 X pz H a)(hlt:∀a∈fp,a<s.heap.objs.size):(blk X scope N s H fp pz).Ok:=by
 have clt:∀y c,X.env.cells.lookup y=some c->c<s.heap.objs.size:=fun y c e=>by obtain⟨v,q⟩:=I.cell y c e;exact q.lt
 refine⟨I.ok.mod,b.kind,I.ok.glob,I.ok.blt,Ym _,fun x y c e e'=>?_,fun x hx=>?_,fun x c hx e=>?_,I.ok.hd,I.ok.frames,.inl rfl,fun a ha=>⟨YG (hlt a ha),fun x c e=>?_⟩,I.bs,YH I.ok.bsz I.sz,fun a o e ha=>?_,fun a ha=>?_,I.stack,I.stkFree⟩
 ·refine nH scope.names (s.heap.objs.size+1) _ (fun y c q=>?_) (fun y z c q q'=>?_) x y c e e'
  ·exact Xd (clt y c (cn _ _ y c (b.cl I.ok) (fun _ _ z=>by cases z) q))
  ·exact I.ok.inj y z c (cn _ _ y c (b.cl I.ok) (fun _ _ z=>by cases z) q) (cn _ _ z c (b.cl I.ok) (fun _ _ z=>by cases z) q')
 ·have hx':(eM X.env scope s.heap.objs.size).kindOf x=some .cell\/(eM X.env scope s.heap.objs.size).kindOf x=some .free:=hx;rw[iT]at hx';show ∃c,(cellsFrom (s.heap.objs.size+1) scope.names (cc X.env.cells scope.names [])).lookup x=some c;cases q:scope.names.lookup x with
  |none=>rw[q]at hx';rcases hx' with z|z<;>cases z
  |some k=>
   have hm:(x,k)∈scope.names:=Zn q;cases k with
   |cell=>exact Xp.mp (ZW scope.names _ _ (.inl q))
   |free=>
    obtain⟨c,hc⟩:=dM (cs:=X.env.cells) scope.names [] x (.inl hm);exact Xp.mp (ZW scope.names _ _ (.inr (by rw[hc];rfl)))
   |_=>rw[q]at hx';exfalso;revert hx';simp
 ·rcases dE b I e with⟨h1,_,_⟩|⟨_,h2⟩
  ·exact Zu h1
  ·exfalso;have q:=dA b.nd h2;have hx':(scope.names.lookup x == some .local||scope.names.lookup x == some .cell)=true:=hx;rw[q]at hx';revert hx';decide
 ·rcases dE b I e with⟨h1,_,_⟩|⟨h1,_⟩
  ·intro z;subst z;exact absurd (Xa (hlt _ ha) h1) (Zb _)
  ·exact(hf a ha).2.2.2.2.1 x c h1
 ·have h4:=(hf a ha).2.2.2.1;rcases h4 with z|z
  ·exact I.ok.noex a o e z
  ·exact absurd (Ys (Yq e) (YH I.ok.bsz z)) (Zb _)
 ·intro z;rcases YF.mp (I.stkSub a z)with q|q
  ·exact(hf a ha).2.1 q
  ·exact(hf a ha).2.2.1 q
def cP(own:Nat)(ix:List Nat)(σ:St):St:=List.replicate own none++ix.map fun j=>(σ[j]?).join
theorem e6(own:Nat)(ix:List Nat)(σ:St):(cP own ix σ).length=own+ix.length:=by unfold cP;rw[Yj,Yz,Yb]
theorem j8{own:Nat}{ix:List Nat}{σ:St}{i:Nat}{v:V}(h:(cP own ix σ)[i]?=some (some v)):own<=i/\∃j,ix[i-own]?=some j/\σ[j]?=some (some v):=by
 unfold cP at h;by_cases hi:i<own
 ·rw[Zm (by rw[Yz];exact hi),ZR,Yi hi]at h;cases h
 ·rw[YW (by rw[Yz];omega),Yz,Yw]at h;refine⟨by omega,?_⟩;cases q:ix[i-own]? with
  |none=>rw[q]at h;cases h
  |some j=>
   rw[q]at h;refine⟨j,rfl,?_⟩;cases q2:σ[j]? with
   |none=>rw[ZF,q2]at h;cases h
   |some o=>
    rw[ZF,q2]at h;cases o with
    |none=>cases h
    |some v'=>rw[Option.join_some]at h;cases h;rfl
structure Caps (X:Cx) (scope:Scope) (N:List Str) (own:Nat) (ix:List Nat):Prop where
 len:N.length=own+ix.length
 cap:∀(i:Nat) (j:Nat) (x:Str),N[own+i]?=some x->ix[i]?=some j->X.N[j]?=some x/\scope.names.lookup x=some .free
theorem qI{own:Nat}{ix:List Nat}(b:BlkScope X scope)(cp:Caps X scope N own ix)(I:Inv X pz σ H s)(hf:∀a∈fp,e7 X pz H a)(hlt:∀a∈fp,a<s.heap.objs.size) :
  Inv (blk X scope N s H fp pz) [] (cP own ix σ) H {s with heap:=pushCells (s.heap.push {cls:=.type "dict",data:=.dict #[]}) scope.names}:=by
 have kp:∀a o,s.heap.get? a=some o->(pushCells (s.heap.push {cls:=.type "dict",data:=.dict #[]}) scope.names).get? a=some o:=fun a o e=>XN _ _ a o (Ye _ e)
 refine⟨ym b I hf hlt,rfl,I.bare,Un.kept kp,⟨_,(Heap.Ns.new s.heap (.type "dict")).keeps (XN _ _),fun i x v e1 e2 e3=>?_⟩,fun y c e=>?_,I.fresh,fun y c e=>?_,fun p hp=>?_,I.hok.kept kp,?_⟩
 ·obtain⟨ho,j,ej,ev⟩:=j8 e2;have e1':N[own+(i-own)]?=some x:=by rw[show own+(i-own)=i by omega];exact e1
  obtain⟨hN,hfree⟩:=cp.cap (i-own) j x e1' ej;obtain⟨m,hn,hl⟩:=I.loc;have hk:X.env.kindOf x=some .cell\/X.env.kindOf x=some .free:=b.free (x,.free) (Zn hfree) rfl;have hv:Vis X.env.scope x:=hk.elim (fun z=>.inr (.inl z)) fun z=>.inr (.inr z)
  obtain⟨u,r,lk⟩:=hl j x v hN ev hv;refine⟨u,r,.inr ⟨?_,?_⟩⟩
  ·show(eM X.env scope s.heap.objs.size).kindOf x=some .cell\/(eM X.env scope s.heap.objs.size).kindOf x=some .free;rw[iT,hfree];show some (if _ then NameKind.cell else NameKind.free)=some .cell\/some (if _ then NameKind.cell else NameKind.free)=some .free;split
   ·exact .inl rfl
   ·exact .inr rfl
  ·rcases lk with⟨k,_⟩|⟨_,c,ec,z⟩
   ·rw[k]at hk;rcases hk with z|z<;>cases z
   ·refine⟨c,?_,z.keeps kp⟩;show(cellsFrom (s.heap.objs.size+1) scope.names (cc X.env.cells scope.names [])).lookup x=some c;rw[oo]
    ·obtain⟨c',hc'⟩:=dM (cs:=X.env.cells) scope.names [] x (.inl (Zn hfree));have:=cn _ _ x c' (b.cl I.ok) (fun _ _ z=>by cases z) hc';rw[ec]at this;cases this;exact hc'
    ·intro k hk' z;rw[dA b.nd hk']at hfree;cases hfree;cases z
 ·rcases dE b I e with⟨_,h2,_⟩|⟨h1,_⟩
  ·exact⟨_,h2⟩
  ·obtain⟨v,z⟩:=I.cell y c h1;exact⟨v,z.keeps kp⟩
 ·rcases dE b I e with⟨h1,_,_⟩|⟨h1,_⟩
  ·exact I.hok.fresh (Zu h1)
  ·exact I.freeC y c h1
 ·have hp':p∈X.pn++pz:=by
   have:p∈(X.pn++pz)++[]:=hp
   rwa [Ze]at this
  obtain⟨e,n,ne,nf,d⟩:=I.pin p hp';refine⟨kp _ _ e,n,YG (Yq e),fun z=>?_,d⟩;rcases YF.mp (I.stkSub p.1 z)with q|q
  ·exact ne q
  ·exact nf q
 ·rw[e6];exact cp.len.symm
theorem lT{σ':St}{H':Hp}{s':Shared}{h':Heap}{pl:Kp}(I:Inv X pz σ H s)(hf:∀a∈fp,e7 X pz H a)(J:Inv (blk X scope N s H fp pz) pl σ' H' s')(hs:Heap.SameBut s.heap.objs.size s'.heap h') :
  Inv X pz σ H' {s' with heap:=h' }:=by
 have hC:H' s.heap.objs.size=none:=J.free;have ne:∀a o,s.heap.get? a=some o->a≠s.heap.objs.size:=fun a o e=>YG (Yq e)
 have u:Un (frs X.stack) fp H H' s.heap s'.heap:=J.base;refine I.call' (ch:=fp) (s':={s' with heap:=h' }) J.os ⟨fun a o e n h1 h2=>(hs.2 a (ne a o e)).trans (u.keep a o e n h1 h2),fun a o e n h1 h2=>?_,fun a o e n h2=>u.free a o e n h2,fun a o e h2=>?_,u.tups,u.frzs,u.tbls⟩ (fun a o e=>?_) J.bare fun a ha=>?_
 ·obtain⟨sl,q⟩:=u.slot a o e n h1 h2;exact⟨sl,(hs.2 a (ne a o e)).trans q⟩
 ·obtain⟨o',q⟩:=u.there a o e h2;exact⟨o',(hs.2 a (ne a o e)).trans q⟩
 ·refine(J.hok a o e).stay (fun c v hc q=>(hs.2 c ?_).trans q) (fun _ q=>q) fun _ _ q=>q;rintro rfl;rcases hc with rfl|hc
  ·rw[hC]at e;cases e
  ·rw[hC]at hc;cases hc
 ·obtain⟨_,h2,_,h4,h5,h6⟩:=hf a ha;exact⟨h4,h2,h5,h6⟩
theorem uA{pl:Kp}{H':Hp}(b:BlkScope X scope)(I:Inv X pz σ H s)(hf:∀a∈fp,e7 X pz H a)(hlt:∀a∈fp,a<s.heap.objs.size)(hn:∀a∈fp,H' a=none) :
  ∀a∈fp,e7 (blk X scope N s H fp pz) [] H' a:=fun a ha=>by
 obtain⟨_,h2,h3,h4,h5,h6⟩:=hf a ha;refine⟨hn a ha,YG (hlt a ha),fun z=>?_,.inl ha,fun x c e=>?_,fun p hp=>?_⟩
 ·rcases YF.mp (I.stkSub a z)with q|q
  ·exact h2 q
  ·exact h3 q
 ·rcases dE b I e with⟨q,_,_⟩|⟨q,_⟩
  ·intro z;subst z;exact absurd (Xa (hlt _ ha) q) (Zb _)
  ·exact h5 x c q
 ·have hp':p∈X.pn++pz:=by
   have:p∈(X.pn++pz)++[]:=hp
   rwa [Ze]at this
  exact h6 p hp'
end
theorem nY{M:Model}{A:Around}{E:Kv}{s:Shared}{scope:Scope}{env:Env}{Q:Env->Shared->Prop}(cl:List (Str×Addr))
  (h:∀cenv:Env,cenv={scope:=scope,locals:=s.heap.objs.size,globals:=env.globals,cells:=cellsFrom (s.heap.objs.size+1) scope.names cl,qual:=env.qual,func:=none,code:=env.code,frame:=env.frame,builtins:=env.builtins}->
   Q cenv {s with heap:=pushCells (s.heap.push {cls:=.type "dict",data:=.dict #[]}) scope.names}) :
  wpAny M A (newFunctionEnv scope env.globals cl [] env.qual none .none (some env)) Q E s:=by
 simp only[newFunctionEnv,Option.isSome_some,Va];refine Yd (wpAny_alloc ?_);refine Yd (wpAny_layCells _ (fun name kind cells=>by cases hkc:kind == NameKind.cell<;>simp[hkc]) _ _ _ _ ?_);rw[show({s with heap:=s.heap.push {cls:=.type "dict",data:=.dict #[]} }:Shared).heap.objs.size=s.heap.objs.size+1 from ZC ..];refine Yd ?_;rw[List.forIn_nil];exact YA (YA (h _ rfl))
theorem qF{prog:Program}{w:World}{A:Around}{R:Kr}{s:Shared}{elt target iter:Expr}{ifs:List Expr}{scope:Scope}{pos:Pos}{it acc:Value}{env:Env}(I:Nat->Shared->Prop)
  (turn:∀n s,I n s->wpAny (model prog w) A (pyNext it) (fun r s₁=>match r with
   |none=>R (.ok .next) s₁
   |some v=>wpAny (model prog w) A (letOwnedTupleGo target it v) (fun _ s₁=>wpAny (model prog w) A (assign target env v) (fun _ s₂=>
     wpAny (model prog w) A (forIn ifs true fun c r=>if r=true then do let ok <-isTrue c env (eval c env);pure (ForInStep.yield ok)else pure (ForInStep.yield r)) (fun ok s₃=>
      if ok=true then wpAny (model prog w) A (eval elt env) (fun x s₄=>
       wpAny (model prog w) A (call (.builtin "list.append") [acc,x]) (fun _ s₅=>∃m,m<n/\I m s₅) (fun _ _=>False) s₄) (fun _ _=>False) s₃
      else ∃m,m<n/\I m s₃) (fun _ _=>False) s₂) (fun _ _=>False) s₁) (fun _ _=>False) s₁) (fun _ _=>False) s)
  (n:Nat) (h:I n s) :
  codeAny (model prog w) A (.compLoop (.ListComp elt [⟨target,iter,ifs,0⟩] scope pos) 0 it acc env) R s:=by
 refine codeAny_loop rfl I (fun n s hI=>?_) n h;show wpAny _ A ((compTurn (.ListComp elt [⟨target,iter,ifs,0⟩] scope pos) 0 it acc env).onRaise (fun x=>do noteFrame x env;theTreesLotGoes x)) _ _ s;refine wpAny_noted ?_;rw[compTurn_list];refine Yd (wpAny_standAt (Yd (Zw (turn n s hI) (fun r s₁ h₁=>?_) fun _ _ h'=>h'.elim)));cases r with
 |none=>exact YA h₁
 |some v=>
  refine Yd (Zw h₁ (fun _ s₁' h₁'=>?_) fun _ _ h'=>h'.elim);refine Yd (Zw h₁' (fun _ s₂ h₂=>Yd (Zw h₂ (fun ok s₃ h₃=>?_) fun _ _ h'=>h'.elim)) fun _ _ h'=>h'.elim);cases ok with
  |true=>
   rw[Yi rfl]at h₃;simp only[Va];exact Yd (Yd (Zw h₃ (fun x s₄ h₄=>Yd (Zw h₄ (fun _ s₅ h₅=>YA (YA ⟨rfl,h₅⟩)) fun _ _ h'=>h'.elim)) fun _ _ h'=>h'.elim))
  |false=>
   rw[Yn Yk]at h₃;simp only[Xs,Vb];exact YA ⟨rfl,h₃⟩
def Ca:TT:=fun _ H Q=>Q true H
def jQ(X:Cx)(ifs:List Expr)(t:TT):Prop:=
 ∀(pz:Kp) (s:Shared) (σ:St) (H:Hp) (Q:Bool->Hp->Prop),Inv X pz σ H s->t σ H Q->
  wpAny (model X.prog X.w) X.A (forIn ifs true fun c r=>if r=true then do let ok <-isTrue c X.env (eval c X.env);pure (ForInStep.yield ok)else pure (ForInStep.yield r)) (TP X pz σ Q) X.xe s
theorem uR{X:Cx}:jQ X [] Ca:=fun _ _ _ H _ I h=>YA ⟨H,I,h⟩
theorem tY{X:Cx}{c:Expr}{t:TT}(h:PT X c t):jQ X [c] t:=fun pz s σ H Q I q=>wpAny_tests_one (h pz s σ H Q I q)
def um(own:Nat)(ix:List Nat)(wi:TI)(g:TG)(tc:TT)(te:TE):TE:=fun σ H Q=>wi σ H fun J H1=>∀acc,H1 acc=none->∃W:Nat->Nat->List V->Hp->Prop,
 (∃m,W 0 m [] (upd H1 acc (.lst [])))/\∀i m ys H,W i m ys H->
  (J.stop i H/\Q (.ref acc) H)\/(J.go i H/\∃N:List V->Hp->Prop,(∀ys' H',N ys' H'->∃m',m' < m/\W (i+1) m' ys' H')/\∀x H',J.yld i H x H'->g x (cP own ix σ) H' fun σ2 H2=>
   (σ2.length=own+ix.length/\∀(j:Nat) v,(cP own ix σ)[j]?=some (some v)->σ2[j]?=some (some v)) /\
   tc σ2 H2 fun ok H3=>if ok=true then te σ2 H3 fun y H4=>H4 acc=some (.lst ys)/\ys.length<sizeLine/\N (ys++[y]) (upd H4 acc (.lst (ys++[y])))else N ys H3)
section
variable{X:Cx}{elt tg iter:Expr}{ifs:List Expr}{scope:Scope}{pos:Pos}{N:List Str}{own:Nat}{ix:List Nat}{wi:TI}{g:TG}{tc:TT}{te:TE}
theorem jL{pz:Kp}{σ:St}{s:Shared}{Q:VK}{itv:Value}{RR:Value->Addr->Result->Shared->Prop}{E:Kv}(hcalm:X.calm=true)(b:BlkScope X scope)(cp:Caps X scope N own ix)
  (hg:∀s H fp pz,PG (blk X scope N s H fp pz) tg g) (hc:∀s H fp pz,jQ (blk X scope N s H fp pz) ifs tc) (he:∀s H fp pz,PE (blk X scope N s H fp pz) elt te)
  (hp:PIE X pz σ tg (fun J H1=>∀acc,H1 acc=none->∃W:Nat->Nat->List V->Hp->Prop,
   (∃m,W 0 m [] (upd H1 acc (.lst [])))/\∀i m ys H,W i m ys H->
    (J.stop i H/\Q (.ref acc) H)\/(J.go i H/\∃N:List V->Hp->Prop,(∀ys' H',N ys' H'->∃m',m' < m/\W (i+1) m' ys' H')/\∀x H',J.yld i H x H'->g x (cP own ix σ) H' fun σ2 H2=>
     (σ2.length=own+ix.length/\∀(j:Nat) v,(cP own ix σ)[j]?=some (some v)->σ2[j]?=some (some v)) /\
     tc σ2 H2 fun ok H3=>if ok=true then te σ2 H3 fun y H4=>H4 acc=some (.lst ys)/\ys.length<sizeLine/\N (ys++[y]) (upd H4 acc (.lst (ys++[y])))else N ys H3)) itv s)
  (hR:∀(s3:Shared) (H3:Hp) (fp:List Addr) (acc:Addr) (σ':St) (H':Hp) (s':Shared),Inv X pz σ H3 s3->(∀a∈fp,e7 X pz H3 a)->Inv (blk X scope N s3 H3 fp pz) [] σ' H' s'->Q (.ref acc) H'->RR (.ref acc) s3.heap.objs.size (.ok .next) s') :
  wpAny (model X.prog X.w) X.A (newList []) (fun acc s₃=>wpAny (model X.prog X.w) X.A (newFunctionEnv scope X.env.globals (cc X.env.cells scope.names []) [] X.env.qual none .none (some X.env)) (fun cenv s₄=>
   codeAny (model X.prog X.w) X.A (.compStart (.ListComp elt [⟨tg,iter,ifs,0⟩] scope pos) 0 itv acc {cenv with scope:=relabel scope X.env}) (RR acc cenv.locals) s₄) E s₃) E s:=by
 obtain⟨it,fp,tn,J,H1,rfl,I1,T,st1,f1,hacc⟩:=hp;refine wpAny_newObj_type ?_
 -- the list
 have I3:Inv X pz σ (upd H1 s.heap.objs.size (.lst [])) {s with heap:=s.heap.push {cls:=.type "list",dict:=none,data:=.seq ([]:List Value).toArray} }:=I1.lnew (ys:=[]) (its:=[]) .nil (YT _);generalize hs3:({s with heap:=s.heap.push {cls:=.type "list",dict:=none,data:=.seq ([]:List Value).toArray} }:Shared)=s3 at I3 ⊢;have kp3:∀a o,s.heap.get? a=some o->s3.heap.get? a=some o:=fun a o e=>by rw[<-hs3];exact Ye _ e
 have st3:tn 0 s3.heap:=T.keep _ _ _ st1 fun a _ o e=>kp3 a o e
 have lt1:∀a∈fp,a<s.heap.objs.size:=fun a ha=>by obtain⟨o,e,_⟩:=T.obj _ _ st1 a ha;exact Yq e
 have f3:∀a∈fp,e7 X pz (upd H1 s.heap.objs.size (.lst [])) a:=fun a ha=>⟨by rw[aA (YG (lt1 a ha))];exact(f1 a ha).1,(f1 a ha).2⟩
 have lt3:∀a∈fp,a<s3.heap.objs.size:=fun a ha=>by obtain⟨o,e,_⟩:=T.obj _ _ st3 a ha;exact Yq e
 obtain⟨W,⟨m0,w0⟩,turn⟩:=hacc s.heap.objs.size I1.fresh;generalize hH3:upd H1 s.heap.objs.size (.lst [])=H3 at I3 f3 w0;generalize hacc':s.heap.objs.size=acc at w0 turn ⊢;refine nY _ fun cenv hc'=>?_;subst hc';have J0:=qI (N:=N) (fp:=fp) b cp I3 f3 lt3;have st4:tn 0 (pushCells (s3.heap.push {cls:=.type "dict",data:=.dict #[]}) scope.names):=T.keep _ _ _ st3 fun a _ o e=>XN _ _ a o (Ye _ e)
 generalize hs4:({s3 with heap:=pushCells (s3.heap.push {cls:=.type "dict",data:=.dict #[]}) scope.names}:Shared)=s4 at J0 ⊢;have st4':tn 0 s4.heap:=by rw[<-hs4];exact st4
 -- the loop
 have loop:codeAny (model X.prog X.w) X.A (.compLoop (.ListComp elt [⟨tg,iter,ifs,0⟩] scope pos) 0 (.ref it) (.ref acc) (eM X.env scope s3.heap.objs.size)) (RR (.ref acc) s3.heap.objs.size) s4:=by
  refine qF (fun n s'=>∃i ys H',Inv (blk X scope N s3 H3 fp pz) [] (cP own ix σ) H' s'/\tn i s'.heap/\(∀a∈fp,H' a=none)/\W i n ys H') ?_ m0 ⟨0,[],H3,J0,st4',fun a ha=>(f3 a ha).1,w0⟩;rintro n s5 ⟨i,ys,H5,J5,st5,fr5,w5⟩;have fp5:=uA (pl:=[]) (N:=N) b I3 f3 lt3 fr5;rcases turn i n ys H5 w5 with⟨stop,q⟩|⟨go,NN,hN,step⟩
  ·refine thn (T.done (blk X scope N s3 H3 fp pz) rfl rfl rfl hcalm i [] s5 _ H5 _ J5 fp5 st5 stop) fun r s6 ⟨hr,J6⟩=>?_;subst hr;exact hR s3 H3 fp acc _ H5 s6 I3 f3 J6 q
  ·refine thn (T.item (blk X scope N s3 H3 fp pz) rfl rfl rfl hcalm i [] s5 _ H5 _ J5 fp5 st5 go) fun r s6 ⟨u,hr,h6⟩=>?_;subst hr;refine thn h6 fun _ s7 hh_=>?_;obtain⟨x,H7,J7,r7,y7,st7,fr7⟩:=hh_;have fp7:=uA (pl:=[]) (N:=N) b I3 f3 lt3 fr7;have J7':=J7.pinned fp7 (T.obj _ _ st7);have back:∀{σ8:St}{H8:Hp}{s8:Shared}{zs:List V},Inv (blk X scope N s3 H3 fp pz) ([]++iU fp s7.heap) σ8 H8 s8->(σ8.length=own+ix.length/\∀(j:Nat) v,(cP own ix σ)[j]?=some (some v)->σ8[j]?=some (some v))->NN zs H8->
     ∃m,m<n/\∃i ys H',Inv (blk X scope N s3 H3 fp pz) [] (cP own ix σ) H' s8/\tn i s8.heap/\(∀a∈fp,H' a=none)/\W i m ys H':=fun{σ8 H8 s8 zs} J8 hw n8=>by
    obtain⟨m',hm,w8⟩:=hN zs H8 n8;refine⟨m',hm,i+1,zs,H8,(J8.unpinned).weak (by rw[e6,hw.1]) hw.2,T.keep _ _ _ st7 fun a ha o e=>(J8.pin (a,o) (YX _ (YX _ (dU ha e)))).1,fun a ha=>?_,w8⟩;obtain⟨o,e,d⟩:=T.obj _ _ st7 a ha;exact(J8.pin (a,o) (YX _ (YX _ (dU ha e)))).2.1
   refine thn (hg s3 H3 fp pz _ s7 _ H7 x u _ J7' r7 (step x H7 y7)) fun _ s8 hh_=>?_;obtain⟨σ8,H8,J8,hw,q8⟩:=hh_;refine thn (hc s3 H3 fp pz _ s8 σ8 H8 _ J8 q8) fun ok s9 hh_=>?_;obtain⟨H9,J9,q9⟩:=hh_;cases ok with
   |false=>
    rw[Yn Yk]at q9 ⊢;exact back J9 hw q9
   |true=>
    rw[Yi rfl]at q9 ⊢;refine thn (he s3 H3 fp pz _ s9 σ8 H9 _ J9 q9) fun y s10 hh_=>?_;obtain⟨z,H10,J10,rz,e10,hlt,n10⟩:=hh_;refine thn (da (X:=blk X scope N s3 H3 fp pz) _ s10 σ8 H10 (.ref acc) [z] (.ref acc) [y] (fun v H'=>v=.non/\H'=upd H10 acc (.lst (ys++[z]))) J10 rfl (.cons rz .nil) ⟨acc,ys,z,rfl,rfl,e10,hlt,rfl,rfl⟩) fun _ s11 hh_=>?_;obtain⟨_,H11,J11,_,_,e11⟩:=hh_;subst e11;exact back J11 hw n10
 subst hs4;exact codeAny_compStart_list loop (T.self _ _ _ _ _ st4' loop)
theorem vM(hcalm:X.calm=true)(b:BlkScope X scope)(cp:Caps X scope N own ix)(hi:PI X tg iter wi)
  (hg:∀s H fp pz,PG (blk X scope N s H fp pz) tg g) (hc:∀s H fp pz,jQ (blk X scope N s H fp pz) ifs tc) (he:∀s H fp pz,PE (blk X scope N s H fp pz) elt te)
  (hnames:∀y∈scope.names,y.2=.local->scope.names.lookup y.1=some .local:=by decide)
  (hs:∀x,foldedSetIterable iter X.env x=pure x:=by intro _;rfl):PE X (.ListComp elt [⟨tg,iter,ifs,0⟩] scope pos) (um own ix wi g tc te):=by
 intro pz s σ H Q I h;rw[eval_ListComp];refine wpAny_comprehension_free (use:=none) rfl hs (jC (b.cl I.ok)) b.kind hnames (thn (hi pz s σ H _ I h) fun v s1 h1=>thn h1 fun itv s2 h2=>?_);refine jL (RR:=fun acc C=>compPost (model X.prog X.w) X.A X.xe none (EP X pz σ Q) acc C) hcalm b cp hg hc he h2 ?_;intro s3 H3 fp acc σ' H' s' I3 f3 J q;obtain⟨m,hn,_⟩:=id J.loc;exact⟨m,hn,fun h' hs'=>⟨.ref acc,H',lT I3 f3 J hs',rfl,q⟩⟩
theorem jt{i:Nat}{y:Str}{py spos:Pos}(hcalm:X.calm=true)(hN:X.N.Nodup)(hiN:X.N[i]?=some y)(hx:Loc X.env.scope y)(b:BlkScope X scope)(cp:Caps X scope N own ix)(hi:PI X tg iter wi)
  (hg:∀s H fp pz,PG (blk X scope N s H fp pz) tg g) (hc:∀s H fp pz,jQ (blk X scope N s H fp pz) ifs tc) (he:∀s H fp pz,PE (blk X scope N s H fp pz) elt te)
  (hsw:swapsWith (.ListComp elt [⟨tg,iter,ifs,0⟩] scope pos) (some (.Name y py)) spos.line X.env=pure true:=by rfl)
  (hnames:∀y∈scope.names,y.2=.local->scope.names.lookup y.1=some .local:=by decide)
  (hs:∀x,foldedSetIterable iter X.env x=pure x:=by intro _;rfl)
  (hf:X.fn y=true\/X.env.scope.names.lookup y=some .local:=by first|exact .inl rfl|exact .inr rfl|assumption) :
  PS X (.Assign [.Name y py] (.ListComp elt [⟨tg,iter,ifs,0⟩] scope pos) spos) (tX (um own ix wi g tc te) (jH i)):=by
 intro pz s σ H D I h;rw[exec_Assign_Name_used _ _ _ _ hsw];refine Yd (wpAny_standAt (Yd ?_));show wpAny _ X.A (do let _ <-comprehension (.ListComp elt [⟨tg,iter,ifs,0⟩] scope pos) scope X.env _ (newList []) false (eval iter X.env) (some (assign (.Name y py) X.env))) _ _ s;refine Yd (Zw (wpAny_comprehension_free (use:=some (assign (.Name y py) X.env)) (Q:=fun _ s'=>SP X pz D .next s') rfl hs (jC (b.cl I.ok)) b.kind hnames
  (thn (hi pz s σ H _ I h) fun v s1 h1=>thn h1 fun itv s2 h2=>?_)) (fun _ s' hq=>YA (YA hq)) fun _ _ e=>e)
 refine jL (Q:=fun x H1=>jH i x σ H1 D.nx) (RR:=fun acc C=>compPost (model X.prog X.w) X.A X.xe (some (assign (.Name y py) X.env)) (fun _ s'=>SP X pz D .next s') acc C) hcalm b cp hg hc he h2 ?_;intro s3 H3 fp acc σ' H' s' I3 f3 J q;obtain⟨m,hn,_⟩:=id J.loc;have hn:s'.heap.Ns s3.heap.objs.size m:=hn;have I':Inv X pz σ H' s':=lT I3 f3 J (Heap.SameBut.refl ..);show wpAny _ X.A (assign (.Name y py) X.env (.ref acc)) _ _ s';refine wpAny_assign_Name (kx (v:=.ref acc) I' hN hiN hx rfl (fun s'' I'' hh_=>?_) hf);obtain⟨a,hsb,ha⟩:=hh_;have hne:s3.heap.objs.size≠a:=by
  rcases ha with ha|ha
  ·rw[ha];exact ZZ I3.lt
  ·obtain⟨v,z⟩:=I3.cell y a ha;exact ZZ z.lt
 refine⟨m,hn.sameBut hsb hne,fun h' hs'=>?_⟩;refine⟨σ.set i (some (.ref acc)),H',?_,q⟩;exact I''.turned (h':=h') (t':=s''.toks) (it:=s3.heap.objs.size) (fun c o hc e=>(hs'.2 c hc).trans e) J.free (ZZ I3.lt) (.inr I3.sz) (fun x c e=>by obtain⟨v,z⟩:=I3.cell x c e;exact YG z.lt) fun p hp=>YG (Yq (I3.pin p hp).1)
end
section
variable{κ:Type} [DecidableEq κ]
def el(kvs:List (κ×V))(k:κ):Option V:=(kvs.find? fun kv=>decide (kv.1=k)).map (·.2)
def gH(kvs:List (κ×V))(k:κ)(v:V):List (κ×V):=
 if(kvs.any fun kv=>decide (kv.1=k))=true then kvs.map (fun kv=>if kv.1=k then(kv.1,v)else kv)else kvs++[(k,v)]
theorem iY{p:κ×V}{r:List (κ×V)}{k:κ}(e:p.1=k):el (p::r) k=some p.2:=by simp[el,ZG,e]
theorem jo{p:κ×V}{r:List (κ×V)}{k:κ}(e:¬p.1=k):el (p::r) k=el r k:=by simp[el,ZG,e]
theorem mO(k:κ):∀kvs:List (κ×V),(kvs.any fun kv=>decide (kv.1=k))=(el kvs k).isSome
 |[]=>rfl
 |p::r=>by
  rw[Xe];by_cases e:p.1=k
  ·simp only[iY e,YL e,Bool.true_or,Option.isSome_some]
  ·rw[jo e,YB e,Bool.false_or];exact mO k r
theorem gZ(kvs:List (κ×V))(k:κ)(v:V):(gH kvs k v).length<=kvs.length+1:=by
 unfold gH;split
 ·rw[Yb];omega
 ·rw[Yj,Yu,YS];omega
theorem RelO.isSome_eq{o:Option V}{u:Option Value}(r:RelO o u):o.isSome=u.isSome:=by
 cases o with
 |none=>cases u with
  |none=>rfl
  |some _=>exact(show False from r).elim
 |some _=>cases u with
  |none=>exact(show False from r).elim
  |some _=>rfl
theorem RelO.getD{o:Option V}{u:Option Value}{d:V}{d':Value}(r:RelO o u)(rd:RelV d d'):RelV (o.getD d) (u.getD d'):=by
 cases o with
 |none=>cases u with
  |none=>exact rd
  |some _=>exact(show False from r).elim
 |some _=>cases u with
  |none=>exact(show False from r).elim
  |some _=>exact r
theorem KV.val{kvs:List (κ×V)}{vs:List (κ×Value)}(r:KV kvs vs)(k:κ):RelO (el kvs k) (valueAt vs k):=by
 unfold KV at r;induction r with
 |nil=>exact True.intro
 |@cons p q ps qs h t ih=>
  obtain⟨h1,h2⟩:=h;by_cases e:p.1=k
  ·have e':q.1=k:=h1.symm.trans e;have b:valueAt (q::qs) k=some q.2:=by simp[valueAt,ZG,e']
   rw[iY e,b];exact h2
  ·have e':¬q.1=k:=fun z=>e (h1.trans z)
   have b:valueAt (q::qs) k=valueAt qs k:=by simp[valueAt,ZG,e']
   rw[jo e,b];exact ih
theorem KV.any{kvs:List (κ×V)}{vs:List (κ×Value)}(r:KV kvs vs)(k:κ):(kvs.any fun kv=>decide (kv.1=k))=vs.any fun kv=>decide (kv.1=k):=by
 unfold KV at r;induction r with
 |nil=>rfl
 |cons h t ih=>rw[Xe,Xe,ih,h.1]
theorem KV.repl{kvs:List (κ×V)}{vs:List (κ×Value)}(r:KV kvs vs)(k:κ){y:V}{u:Value}(ry:RelV y u) :
  KV (kvs.map fun kv=>if kv.1=k then(kv.1,y)else kv) (vs.map fun kv=>if kv.1=k then(kv.1,u)else kv):=by
 unfold KV at r ⊢;induction r with
 |nil=>exact .nil
 |@cons p q ps qs h t ih=>
  rw[YM,YM];refine .cons ?_ ih;obtain⟨h1,h2⟩:=h;by_cases e:p.1=k
  ·rw[Yi e,Yi (h1.symm.trans e)];exact⟨h1,ry⟩
  ·rw[Yn e,Yn (fun z=>e (h1.trans z))];exact⟨h1,h2⟩
theorem KV.put{kvs:List (κ×V)}{vs:List (κ×Value)}(r:KV kvs vs)(k:κ){y:V}{u:Value}(ry:RelV y u):KV (gH kvs k y) (stored vs k u):=by
 unfold gH stored;rw[r.any k];by_cases e:(vs.any fun kv=>decide (kv.1=k))=true
 ·rw[Yi e,Yi e];exact r.repl k ry
 ·rw[Yn e,Yn e];exact Paired.snoc r ⟨rfl,ry⟩
theorem KV.length{kvs:List (κ×V)}{vs:List (κ×Value)}(r:KV kvs vs):kvs.length=vs.length:=Paired.length r
end
theorem pe{P:Program}{w:World}{k:Key}{u:Value}(r:RelV (kV k) u):(bN P w).is k u=true:=by
 cases k with
 |inl i=>obtain⟨t,e⟩:=(show ∃t,u=Value.int i t from r);subst e;exact mZ P w i t
 |inr x=>obtain⟨t,e⟩:=(show ∃t,u=Value.str x t from r);subst e;exact mN P w x t
theorem j4{P:Program}{w:World}:∀{ks:List Key}{us:List Value},Vals (ks.map kV) us->ItemsAre (bN P w) ks us
 |[],_,r=>by rw[List.map_nil]at r;cases r;exact .nil
 |k::ks,_,r=>by
  rw[YM]at r;cases r with
  |cons h t=>exact .cons (pe h) (j4 t)
abbrev KT(H:Hp):List (List Key×V)->List (List Key×Addr×Value)->Prop:=Paired fun p q=>p.1=q.1/\H q.2.1=some (.tup (p.1.map kV))/\RelV p.2 q.2.2
theorem KT.val{H:Hp}{kvs:List (List Key×V)}{xs:List (List Key×Addr×Value)}(r:KT H kvs xs)(k:List Key):RelO (el kvs k) ((atKey xs k).map (·.2)):=by
 induction r with
 |nil=>exact True.intro
 |@cons p q ps qs h t ih=>
  obtain⟨h1,_,h2⟩:=h;by_cases e:p.1=k
  ·have e':q.1=k:=h1.symm.trans e;have b:atKey (q::qs) k=some q.2:=by simp[atKey,ZG,e']
   rw[iY e,b];exact h2
  ·have e':¬q.1=k:=fun z=>e (h1.trans z)
   have b:atKey (q::qs) k=atKey qs k:=by simp[atKey,ZG,e']
   rw[jo e,b];exact ih
theorem KT.repl{H:Hp}{kvs:List (List Key×V)}{xs:List (List Key×Addr×Value)}(r:KT H kvs xs)(k:List Key){y:V}{u:Value}(ry:RelV y u) :
  KT H (kvs.map fun kv=>if kv.1=k then(kv.1,y)else kv) (xs.map (putAt k u)):=by
 induction r with
 |nil=>exact .nil
 |@cons p q ps qs h t ih=>
  rw[YM,YM];refine .cons ?_ ih;obtain⟨h1,h2,h3⟩:=h;unfold putAt;by_cases e:p.1=k
  ·rw[Yi e,Yi (h1.symm.trans e)];exact⟨h1,h2,ry⟩
  ·rw[Yn e,Yn (fun z=>e (h1.trans z))];exact⟨h1,h2,h3⟩
theorem KT.put{H:Hp}{kvs:List (List Key×V)}{xs:List (List Key×Addr×Value)}(r:KT H kvs xs)(k:List Key){b:Addr}{y:V}{u:Value}(hb:H b=some (.tup (k.map kV)))(ry:RelV y u) :
  KT H (gH kvs k y) (storedH xs k b u):=by
 have e:(kvs.any fun kv=>decide (kv.1=k))=(atKey xs k).isSome:=by rw[mO,(r.val k).isSome_eq,Option.isSome_map]
 unfold gH storedH;rw[e];by_cases q:(atKey xs k).isSome=true
 ·rw[Yi q,Yi q];exact r.repl k ry
 ·rw[Yn q,Yn q];exact Paired.snoc r ⟨rfl,hb,ry⟩
theorem KT.keeps{H H':Hp}{kvs:List (List Key×V)}{xs:List (List Key×Addr×Value)}(r:KT H kvs xs)(ht:∀b ys,H b=some (.tup ys)->H' b=some (.tup ys)):KT H' kvs xs:=
 Paired.mapP r fun _ _ z=>⟨z.1,ht _ _ z.2.1,z.2.2⟩
section
variable{P:Program}{w:World}{H:Hp}{h:Heap}{a:Addr}
theorem xi{u:HO}(ok:HOk P w H h)(e:Rd H a u):ObjOk P w H h a u:=e.ok ok
theorem mB{kvs:List (Key×V)}(ok:HOk P w H h)(e:Rd H a (.dK kvs)):kvs.length<=sizeLine/\(a == sysModules)=false/\∃vs,KV kvs vs/\h.DictOf (bN P w) a vs:=
 show ObjOk P w H h a (.dK kvs)from xi ok e
theorem zR{kvs:List (Key×V)}(ok:HOk P w H h)(e:H a=some (.dK kvs)):kvs.length<=sizeLine/\(a == sysModules)=false/\∃vs,KV kvs vs/\h.DictOf (bN P w) a vs:=mB ok (.inl e)
theorem kI{ks:List Key}(ok:HOk P w H h)(e:H a=some (.tup (ks.map kV))):(tupleKind (bN P w)).is h ks a:=by
 obtain⟨_,its,r,⟨o,h1,h2,n,h3⟩,_⟩:=(show ObjOk P w H h a (.tup (ks.map kV))from ok a _ e)
 exact⟨o,its.toArray,n,h1,h2,h3,by simpa using j4 r⟩
theorem mH{kvs:List (List Key×V)}(ok:HOk P w H h)(e:Rd H a (.dT kvs)):kvs.length<=sizeLine/\(a == sysModules)=false /\
  ∃xs,KT H kvs xs/\h.DictOfH (tupleKind (bN P w)) a xs:=by
 obtain⟨z,y,xs,r,o,es,ep,h1,h2,h3,h4,h5⟩:=(show ObjOk P w H h a (.dT kvs)from xi ok e)
 refine⟨z,y,xs,r,o,es,ep,h1,h2,h3,h4,fun x hx=>?_,h5⟩;have all:∀{l:List (List Key×V)}{m:List (List Key×Addr×Value)},KT H l m->∀x∈m,(tupleKind (bN P w)).is h x.1 x.2.1:=by
  intro l m q;induction q with
  |nil=>intro x hx;exact nomatch hx
  |@cons p q ps qs hq t ih=>
   intro x hx;rcases YF.mp hx with e|hx
   ·subst e;exact kI ok (by rw[<-hq.1];exact hq.2.1)
   ·exact ih x hx
 exact all r x hx
theorem AA{kvs:List (List Key×V)}(ok:HOk P w H h)(e:H a=some (.dT kvs)):kvs.length<=sizeLine/\(a == sysModules)=false /\
  ∃xs,KT H kvs xs/\h.DictOfH (tupleKind (bN P w)) a xs:=mH ok (.inl e)
end
def DGet(H:Hp)(a:Addr)(y:V)(r:Option V):Prop:=
 (∃kvs k,Rd H a (.dK kvs)/\y=kV k/\r=el kvs k)\/∃kvs k b,Rd H a (.dT kvs)/\y=.ref b/\H b=some (.tup (k.map kV))/\r=el kvs k
def DPut(H:Hp)(a:Addr)(y v:V)(H':Hp):Prop:=
 (∃kvs k,H a=some (.dK kvs)/\y=kV k/\kvs.length<sizeLine/\H'=upd H a (.dK (gH kvs k v))) \/
 ∃kvs k b,H a=some (.dT kvs)/\y=.ref b/\H b=some (.tup (k.map kV))/\kvs.length<sizeLine/\H'=upd H a (.dT (gH kvs k v))
theorem DGet.t{H:Hp}{a b:Addr}{kvs:List (List Key×V)}{k:List Key}(e:H a=some (.dT kvs))(eb:H b=some (.tup (k.map kV))):DGet H a (.ref b) (el kvs k):=.inr ⟨kvs,k,b,.inl e,rfl,eb,rfl⟩
theorem DPut.t{H:Hp}{a b:Addr}{kvs:List (List Key×V)}{k:List Key}{v:V}(e:H a=some (.dT kvs))(eb:H b=some (.tup (k.map kV)))(hl:kvs.length<sizeLine) :
  DPut H a (.ref b) v (upd H a (.dT (gH kvs k v))):=.inr ⟨kvs,k,b,e,rfl,eb,hl,rfl⟩
section
variable{X:Cx}{pz:Kp}{σ:St}{H:Hp}{s:Shared}{a:Addr}{y v:V}{u r:Value}{o:Option V}{A:Around}{E:Kv}
theorem Inv.big(I:Inv X pz σ H s):sysModules<s.heap.objs.size:=by have h:mainGlobals<s.heap.objs.size:=(I.mod.glob.keeps I.bk).lt;exact Xa (by decide) h
theorem qE{Q:Kv}(hu:A.units+1<cLine)(I:Inv X pz σ H s)(g:DGet H a y (some v))(ry:RelV y u)(h:∀w' s',Inv X pz σ H s'->RelV v w'->Q w' s') :
  wpAny (model X.prog X.w) A (getItem (.ref a) u) Q E s:=by
 rcases g with⟨kvs,k,e,ey,l⟩|⟨kvs,k,b,e,ey,eb,l⟩
 ·subst ey;obtain⟨z,hd,vs,rel,dd⟩:=mB I.hok e;obtain⟨w',hw,rw'⟩:=RelO.some_of (v:=v) (o:=valueAt vs k) (by rw[l];exact rel.val k);exact wpAny_getItem_of (pe ry) dd.mapOf hw (h w' _ (I.tok _) rw')
 ·subst ey;cases(show u=Value.ref b from ry);obtain⟨z,hd,xs,rel,dd⟩:=mH I.hok e;obtain⟨w',hw,rw'⟩:=RelO.some_of (v:=v) (o:=(atKey xs k).map (·.2)) (by rw[l];exact rel.val k);obtain⟨p,hp,hp2⟩:=Option.map_eq_some_iff.mp hw;refine wpAny_getItem_heap (tupleKind_room_in1 hu) (kI I.hok eb) dd hp ?_;rw[hp2];exact h w' _ (I.tok _) rw'
theorem pV{h':Heap}{t':Nat}{ob:HO}(I:Inv X pz σ H s)(mu:Mut (H a))(hs:Heap.SameBut a s.heap h')(he:∃q,h'.get? a=some q)(new:ObjOk X.prog X.w (upd H a ob) h' a ob) :
  Inv X pz σ (upd H a ob) {s with heap:=h',toks:=t' }:=
 I.write (x:=a) (e:=a) mu (.inl rfl) (fun b q hb z=>(hs.2 b hb).trans z) he new
theorem zM{P:Program}{w:World}{H':Hp}{h':Heap}{kvs:List (Key×V)}{vs:List (Key×Value)}(z:kvs.length<=sizeLine)(hd:(a == sysModules)=false)(rel:KV kvs vs)(dd:h'.DictOf (bN P w) a vs) :
  ObjOk P w H' h' a (.dK kvs):=⟨z,hd,vs,rel,dd⟩
theorem rL{H':Hp}{Q:Unit->Shared->Prop}(hu:A.units+1<cLine)(I:Inv X pz σ H s)(g:DPut H a y v H')(ry:RelV y u)(rv:RelV v r)(h:∀s',Inv X pz σ H' s'->Q () s') :
  wpAny (model X.prog X.w) A (setItem (.ref a) u r) Q E s:=by
 rcases g with⟨kvs,k,e,ey,l,eH⟩|⟨kvs,k,b,e,ey,eb,l,eH⟩
 ·subst ey eH;obtain⟨z,hd,vs,rel,dd⟩:=zR I.hok e;have hz:vs.length<=sizeLine:=by rw[<-rel.length];exact z
  have hl:(gH kvs k v).length<=sizeLine:=by have:=gZ kvs k v;omega
  refine wpAny_setItem_pairs (hsz:=hz) (pe ry) dd fun h' dd' hs=>h _ ?_;have he:∃q,h'.get? a=some q:=let ⟨q,_,_,hq,_⟩:=dd';⟨q,hq⟩
  exact pV I (by rw[e];exact True.intro) hs he (zM hl hd (rel.put k rv) dd')
 ·subst ey eH;cases(show u=Value.ref b from ry);obtain⟨z,hd,xs,rel,dd⟩:=AA I.hok e;have hz:xs.length<=sizeLine:=by rw[<-Paired.length rel];exact z
  have hl:(gH kvs k v).length<=sizeLine:=by have:=gZ kvs k v;omega
  refine wpAny_setItem_heap (hsz:=hz) (tupleKind_room_in1 hu) (kI I.hok eb) dd fun h' dd' hs=>h _ ?_;obtain⟨q,es,ep,hq,h2,h3,h4,_,h5⟩:=dd';refine pV I (by rw[e];exact True.intro) hs ⟨q,hq⟩ ⟨hl,hd,_,(rel.put k eb rv).keeps fun c ys ec=>?_,q,es,ep,hq,h2,h3,h4,h5⟩;rw[aA (A8 ec e (fun z=>nomatch z))];exact ec
end
section
variable{X:Cx}{pz:Kp}{σ:St}{H:Hp}{s:Shared}{a:Addr}{kvs:List (Key×V)}{k:Key}{u:Value}{A:Around}{E:Kv}
end
def yo(i:Expr):Prop:=∀ov iv,subscripted i false ov iv=operate [ov,iv] (getItem ov iv)
theorem wA{prog:Program}{w:World}{A:Around}{E:Kv}{s:Shared}{env:Env}{value slice:Expr}{pos:Pos}{T id:String}{Q:Kv}
  (hl:typeLookup (.type T) "__getitem__"=pure (some (.builtin id))) (hs:yo slice)
  (h:wpAny (model prog w) A (eval value env) (fun o s₁=>wpAny (model prog w) A (eval slice env) (fun i s₂=>s₂.TypeIs o T/\wpAny (model prog w) A (getItem o i) Q E s₂) E s₁) E s) :
  wpAny (model prog w) A (eval (.Subscript value slice pos) env) Q E s:=by
 refine Subscript_ (Zw h (fun o s₁ h₁=>Zw h₁ (fun i s₂ h₂=>?_) fun _ _ x=>x) fun _ _ x=>x);obtain⟨hT,h₂⟩:=h₂;unfold subscriptTail;refine Yd ?_;rw[getitemInPython_of_ne hT.not_modules];refine Yd (wpAny_specialOf hT hl ?_);have fin:wpAny (model prog w) A (subscripted slice false o i) (fun r s₃=>wpAny (model prog w) A (letTemporaryGo value o r>>=fun _=>pure r) Q E s₃) E s₂:=by rw[hs o i];exact wpAny_operating (Zw h₂ (fun r s₃ h₃=>Yd (wpAny_letTemporaryGo (YA h₃))) fun _ _ x=>x)
 first
  |exact YA (Yd fin)
  |exact Yd (YA (Yd fin))
  |exact Yd fin
theorem mw{X:Cx}{pz:Kp}{σ:St}{H:Hp}{s:Shared}{a:Addr}{y:V}{o:Option V}(I:Inv X pz σ H s)(g:DGet H a y o):s.TypeIs (.ref a) "dict":=by
 rcases g with⟨kvs,k,e,_,_⟩|⟨kvs,k,b,e,_,_,_⟩
 ·obtain⟨_,_,vs,_,dd⟩:=mB I.hok e;exact dd.typeIs
 ·obtain⟨_,_,xs,_,dd⟩:=mH I.hok e;exact dd.typeIs
def At(td ty:TE):TE:=fun σ H Q=>td σ H fun x H1=>ty σ H1 fun y H2=>∃a v,x=.ref a/\DGet H2 a y (some v)/\Q v H2
def AW(td ty tv:TE):TS:=fun D σ H=>tv σ H fun v H1=>td σ H1 fun x H2=>ty σ H2 fun y H3=>∃a H4,x=.ref a/\DPut H3 a y v H4/\D.nx σ H4
section
variable{X:Cx}{o i e value:Expr}{pos pos' tpos:Pos}{td ty tv:TE}
theorem v_(hu:X.A.units+1<cLine)(ho:PE X o td)(hi:PE X i ty)(hs:yo i):PE X (.Subscript o i pos) (At td ty):=by intro pz s σ H Q I h;refine wA PySem.F.slot_dict_getitem.lookup hs (bn (ho pz s σ H _ I h) fun u s1 x H1 I1 rx q1=>bn (hi pz s1 σ H1 _ I1 q1) fun iv s2 y H2 I2 ry hh_=>?_);obtain⟨a,v,ex,g,q2⟩:=hh_;subst ex;obtain rfl:u=Value.ref a:=rx;exact⟨mw I2 g,qE hu I2 g ry fun w' s3 I3 rw'=>⟨v,H2,I3,rw',q2⟩⟩
theorem wc(hu:X.A.units+1<cLine)(ho:PE X o td)(hi:PE X i ty)(hv:PE X value tv)(hs:swapsWith value (some (.Subscript o i pos')) pos.line X.env=pure false) :
  PS X (.Assign [.Subscript o i pos'] value pos) (AW td ty tv):=by
 intro pz s σ H D I h;refine wpAny_Assign_Subscript (bn (hv pz s σ H _ I h) fun r s1 v H1 I1 rv q1=>bn (ho pz s1 σ H1 _ I1 q1) fun u s2 x H2 I2 rx q2=>bn (hi pz s2 σ H2 _ I2 q2) fun iv s3 y H3 I3 ry hh_=>?_) hs;obtain⟨a,H4,ex,g,q3⟩:=hh_;subst ex;obtain rfl:u=Value.ref a:=rx;exact rL hu I3 g ry rv fun s4 I4=>⟨σ,H4,I4,q3⟩
end
theorem tz{P:Program}{w:World}{H:Hp}(h:Heap)(hb:sysModules<h.objs.size):ObjOk P w H (h.push {cls:=.type "dict",data:=.dict #[]}) h.objs.size (.dT []):=
 ⟨YT _,ZD.mpr (XD (YG hb)),[],.nil,_,#[],0,Yo _ rfl,⟨rfl,rfl,rfl⟩,rfl,rfl,XA⟩
def yI:TE:=fun _ H Q=>∀p,H p=none->Q (.ref p) (upd H p (.dT []))
section
variable{X:Cx}{pos:Pos}
theorem uh:PE X (.Dict [] [] pos) yI:=fun pz s σ H Q I h=>
 wpAny_Dict_empty ⟨.ref s.heap.objs.size,_,I.laid (a:=s.heap.objs.size) (o:=.dT []) (t':=s.toks) (fun _ _ q=>Ye _ q) (Ym _) (tz s.heap I.big),rfl,h _ (I.hok.fresh (Ym _))⟩
end
structure M2 (X:Cx) (o:Expr) (m:Str) (apos:Pos) (e f:Expr) (cpos:Pos):Prop where
 base:attributeBase o m X.env (eval o X.env)=eval o X.env
 few:((backTo cpos (starEach [e,f] X.env)).all (fun x=>!x.1)&&(backToKw cpos (keywordEach [] X.env)).all (fun x=>x.1.isSome)
  && decide (([e,f]:List Expr).length+([]:List Keyword).length+(if([]:List Keyword).isEmpty then 0 else 1)<30))=true
 line:(apos.endLine == cpos.line)=true
 trees:backTo cpos (starEach [e,f] X.env)=[(false,eval e X.env),(false,eval f X.env)]
def IsD(H:Hp)(a:Addr):Prop:=(∃kvs,Rd H a (.dK kvs))\/∃kvs,Rd H a (.dT kvs)
theorem zw{X:Cx}{pz:Kp}{σ:St}{H:Hp}{s:Shared}{a:Addr}(I:Inv X pz σ H s)(d:IsD H a) :
  s.TypeIs (.ref a) "dict"/\(∀b,Value.ref a=.ref b->∃ob,s.heap.get? b=some ob/\ob.dict=none)/\(a == sysModules)=false:=by
 rcases d with⟨kvs,e⟩|⟨kvs,e⟩
 ·obtain⟨_,hd,vs,_,dd⟩:=mB I.hok e;refine⟨dd.typeIs,fun b q=>?_,hd⟩;cases q;obtain⟨ob,_,_,h1,h2,_⟩:=dd;exact⟨ob,h1,h2.2.1⟩
 ·obtain⟨_,hd,xs,_,dd⟩:=mH I.hok e;refine⟨dd.typeIs,fun b q=>?_,hd⟩;cases q;obtain⟨ob,_,_,h1,h2,_⟩:=dd;exact⟨ob,h1,h2.2.1⟩
section
variable{X:Cx}{pz:Kp}{σ:St}{H:Hp}{s:Shared}{a:Addr}{y d:V}{u r:Value}{o:Option V}{A:Around}{E:Kv}
theorem xG{Q:Kv}(hu:A.units+1<cLine)(I:Inv X pz σ H s)(g:DGet H a y o)(ry:RelV y u)(rd:RelV d r)(h:∀w' s',Inv X pz σ H s'->RelV (o.getD d) w'->Q w' s') :
  wpAny (model X.prog X.w) A (call (.builtin "dict.get") [.ref a,u,r]) Q E s:=by
 rcases g with⟨kvs,k,e,ey,l⟩|⟨kvs,k,b,e,ey,eb,l⟩
 ·subst ey;obtain⟨z,hd,vs,rel,dd⟩:=mB I.hok e;refine call_meetsIn XC dd.typeIs PySem.F.entry_dict_get (PySem.F.args_dict_get_3 _ _ _) (meets_dict_get_default (bN X.prog X.w) a (pe ry) hd r) ⟨_,dd.mapOf,h _ _ (I.tok _) ?_⟩;rw[l];exact(rel.val k).getD rd
 ·subst ey;cases(show u=Value.ref b from ry);obtain⟨z,hd,xs,rel,dd⟩:=mH I.hok e;refine call_meetsIn XC dd.typeIs PySem.F.entry_dict_get (PySem.F.args_dict_get_3 _ _ _) (meetsH_dict_get_default (tupleKind (bN X.prog X.w)) a b hd r) ⟨tupleKind_room_in1 hu,k,xs,kI I.hok eb,dd,h _ _ (I.tok _) ?_⟩;rw[l];exact(rel.val k).getD rd
end
def zm(td ty tx:TE):TE:=fun σ H Q=>td σ H fun x H1=>∃a,x=.ref a/\IsD H1 a/\ty σ H1 fun y H2=>tx σ H2 fun z H3=>∃o,DGet H3 a y o/\Q (o.getD z) H3
section
variable{X:Cx}{o e f:Expr}{apos cpos:Pos}{td ty tx:TE}
theorem t7(hu:X.A.units+1<cLine)(ho:PE X o td)(he:PE X e ty)(hf:PE X f tx)(m:M2 X o "get" apos e f cpos):PE X (.Call (.Attribute o "get" apos) [e,f] [] cpos) (zm td ty tx):=by
 intro pz s σ H Q I h;refine wpAny_Call_method m.base m.few m.line PySem.F.plainAttrs_dict XC PySem.F.type_dict_get (bn (ho pz s σ H _ I h) fun u s1 x H1 I1 rx hh_=>?_);obtain⟨a,ex,d,q1⟩:=hh_;subst ex;obtain rfl:u=Value.ref a:=rx;obtain⟨t1,t2,_⟩:=zw I1 d;refine⟨t1,t2,?_⟩;rw[m.trees];refine Xx rfl (XH (Calls.spliced_cons (bn (he pz s1 σ H1 _ I1 q1) fun iv s2 y H2 I2 ry q2=>
  Calls.spliced_cons (bn (hf pz s2 σ H2 _ I2 q2) fun fv s3 z H3 I3 rz ⟨ov,g,q3⟩=>Calls.spliced_nil ?_))))
 exact xG hu I3 g ry rz fun w' s4 I4 rw'=>⟨_,H3,I4,rw',q3⟩
end
section
variable{X:Cx}{pz:Kp}{σ:St}{H:Hp}{s:Shared}{a:Addr}{kvs:List (Key×V)}{A:Around}{E:Kv}
end
section
variable{X:Cx}{pz:Kp}{σ:St}{H:Hp}{s:Shared}{a:Addr}{y:V}{u:Value}{A:Around}{E:Kv}
end
section
variable{κ:Type} [DecidableEq κ]
end
inductive D where
 |non|bl (b:Bool)|int (i:Int)|str (x:Str)
 |tup (xs:List D)|lst (xs:List D)
 |dT (kvs:List (List Key×D))|dK (kvs:List (Key×D))
 |ins (C:Addr) (fs:List (Str×D))
mutual
inductive Rep (K:PySem.W.Frag) (H:Hp):V->D->Prop
 |non:Rep K H .non .non
 |bl {b:Bool}:Rep K H (.bl b) (.bl b)
 |int {i:Int}:Rep K H (.int i) (.int i)
 |str {x:Str}:Rep K H (.str x) (.str x)
 |tup {a:Addr}{vs:List V}{ds:List D}:H a=some (.tup vs)->Reps K H vs ds->Rep K H (.ref a) (.tup ds)
 |lst {a:Addr}{vs:List V}{ds:List D}:SqL K H a vs->Reps K H vs ds->Rep K H (.ref a) (.lst ds)
 |dT {a:Addr}{vs:List (List Key×V)}{ds:List (List Key×D)}:H a=some (.dT vs)->RepsT K H vs ds->Rep K H (.ref a) (.dT ds)
 |dK {a:Addr}{vs:List (Key×V)}{ds:List (Key×D)}:H a=some (.dK vs)->RepsK K H vs ds->Rep K H (.ref a) (.dK ds)
 |ins {a C dx:Addr}{vs:List (Str×V)}{ds:List (Str×D)}:H a=some (.ins C dx vs)->RepsF K H vs ds->Rep K H (.ref a) (.ins C ds)
inductive Reps (K:PySem.W.Frag) (H:Hp):List V->List D->Prop
 |nil:Reps K H [] []
 |cons {v:V}{d:D}{vs:List V}{ds:List D}:Rep K H v d->Reps K H vs ds->Reps K H (v::vs) (d::ds)
inductive RepsT (K:PySem.W.Frag) (H:Hp):List (List Key×V)->List (List Key×D)->Prop
 |nil:RepsT K H [] []
 |cons {k:List Key}{v:V}{d:D}{vs:List (List Key×V)}{ds:List (List Key×D)}:Rep K H v d->RepsT K H vs ds->RepsT K H ((k,v)::vs) ((k,d)::ds)
inductive RepsK (K:PySem.W.Frag) (H:Hp):List (Key×V)->List (Key×D)->Prop
 |nil:RepsK K H [] []
 |cons {k:Key}{v:V}{d:D}{vs:List (Key×V)}{ds:List (Key×D)}:Rep K H v d->RepsK K H vs ds->RepsK K H ((k,v)::vs) ((k,d)::ds)
inductive RepsF (K:PySem.W.Frag) (H:Hp):List (Str×V)->List (Str×D)->Prop
 |nil:RepsF K H [] []
 |cons {k:Str}{v:V}{d:D}{vs:List (Str×V)}{ds:List (Str×D)}:Rep K H v d->RepsF K H vs ds->RepsF K H ((k,v)::vs) ((k,d)::ds)
end
theorem Same.seqT{K:Kq}{H H':Hp}{a:Addr}{xs:List V}(e:Same H H')(h:SqT K H a xs):SqT K H' a xs:=by
 rcases h with (h|⟨o,h⟩)|h
 ·exact .inl (.inl (e _ _ h))
 ·exact .inl (.inr ⟨o,e _ _ h⟩)
 ·exact .inr h
section
variable{K:Kq}{H H':Hp}
theorem Rep.same(e:Same H H'){v:V}{d:D}(h:Rep K H v d):Rep K H' v d:=
 Rep.rec (motive_1:=fun v d _=>Rep K H' v d) (motive_2:=fun v d _=>Reps K H' v d) (motive_3:=fun v d _=>RepsT K H' v d) (motive_4:=fun v d _=>RepsK K H' v d) (motive_5:=fun v d _=>RepsF K H' v d) .non .bl .int .str (fun h _ i=>.tup (e _ _ h) i) (fun h _ i=>.lst (e.seq h) i) (fun h _ i=>.dT (e _ _ h) i) (fun h _ i=>.dK (e _ _ h) i) (fun h _ i=>.ins (e _ _ h) i) .nil (fun _ _ a b=>.cons a b) .nil (fun _ _ a b=>.cons a b) .nil (fun _ _ a b=>.cons a b) .nil (fun _ _ a b=>.cons a b) h
theorem Reps.same(e:Same H H'){v:List V}{d:List D}(h:Reps K H v d):Reps K H' v d:=
 Reps.rec (motive_1:=fun v d _=>Rep K H' v d) (motive_2:=fun v d _=>Reps K H' v d) (motive_3:=fun v d _=>RepsT K H' v d) (motive_4:=fun v d _=>RepsK K H' v d) (motive_5:=fun v d _=>RepsF K H' v d) .non .bl .int .str (fun h _ i=>.tup (e _ _ h) i) (fun h _ i=>.lst (e.seq h) i) (fun h _ i=>.dT (e _ _ h) i) (fun h _ i=>.dK (e _ _ h) i) (fun h _ i=>.ins (e _ _ h) i) .nil (fun _ _ a b=>.cons a b) .nil (fun _ _ a b=>.cons a b) .nil (fun _ _ a b=>.cons a b) .nil (fun _ _ a b=>.cons a b) h
theorem RepsT.same(e:Same H H'){v:List (List Key×V)}{d:List (List Key×D)}(h:RepsT K H v d):RepsT K H' v d:=
 RepsT.rec (motive_1:=fun v d _=>Rep K H' v d) (motive_2:=fun v d _=>Reps K H' v d) (motive_3:=fun v d _=>RepsT K H' v d) (motive_4:=fun v d _=>RepsK K H' v d) (motive_5:=fun v d _=>RepsF K H' v d) .non .bl .int .str (fun h _ i=>.tup (e _ _ h) i) (fun h _ i=>.lst (e.seq h) i) (fun h _ i=>.dT (e _ _ h) i) (fun h _ i=>.dK (e _ _ h) i) (fun h _ i=>.ins (e _ _ h) i) .nil (fun _ _ a b=>.cons a b) .nil (fun _ _ a b=>.cons a b) .nil (fun _ _ a b=>.cons a b) .nil (fun _ _ a b=>.cons a b) h
theorem RepsK.same(e:Same H H'){v:List (Key×V)}{d:List (Key×D)}(h:RepsK K H v d):RepsK K H' v d:=
 RepsK.rec (motive_1:=fun v d _=>Rep K H' v d) (motive_2:=fun v d _=>Reps K H' v d) (motive_3:=fun v d _=>RepsT K H' v d) (motive_4:=fun v d _=>RepsK K H' v d) (motive_5:=fun v d _=>RepsF K H' v d) .non .bl .int .str (fun h _ i=>.tup (e _ _ h) i) (fun h _ i=>.lst (e.seq h) i) (fun h _ i=>.dT (e _ _ h) i) (fun h _ i=>.dK (e _ _ h) i) (fun h _ i=>.ins (e _ _ h) i) .nil (fun _ _ a b=>.cons a b) .nil (fun _ _ a b=>.cons a b) .nil (fun _ _ a b=>.cons a b) .nil (fun _ _ a b=>.cons a b) h
theorem RepsF.same(e:Same H H'){v:List (Str×V)}{d:List (Str×D)}(h:RepsF K H v d):RepsF K H' v d:=
 RepsF.rec (motive_1:=fun v d _=>Rep K H' v d) (motive_2:=fun v d _=>Reps K H' v d) (motive_3:=fun v d _=>RepsT K H' v d) (motive_4:=fun v d _=>RepsK K H' v d) (motive_5:=fun v d _=>RepsF K H' v d) .non .bl .int .str (fun h _ i=>.tup (e _ _ h) i) (fun h _ i=>.lst (e.seq h) i) (fun h _ i=>.dT (e _ _ h) i) (fun h _ i=>.dK (e _ _ h) i) (fun h _ i=>.ins (e _ _ h) i) .nil (fun _ _ a b=>.cons a b) .nil (fun _ _ a b=>.cons a b) .nil (fun _ _ a b=>.cons a b) .nil (fun _ _ a b=>.cons a b) h
end
section
variable{K:Kq}{H H':Hp}
theorem Reps.ind{M:List V->List D->Prop}(n:M [] [])(c:∀{v:V}{d:D}{vs:List V}{ds:List D},Rep K H v d->Reps K H vs ds->M vs ds->M (v::vs) (d::ds)){vs:List V}{ds:List D}(h:Reps K H vs ds):M vs ds:=
 Reps.rec (motive_1:=fun _ _ _=>True) (motive_2:=fun vs ds _=>M vs ds) (motive_3:=fun _ _ _=>True) (motive_4:=fun _ _ _=>True) (motive_5:=fun _ _ _=>True) trivial trivial trivial trivial (fun _ _ _=>trivial) (fun _ _ _=>trivial) (fun _ _ _=>trivial) (fun _ _ _=>trivial) (fun _ _ _=>trivial) n (fun h q _ ih=>c h q ih) trivial (fun _ _ _ _=>trivial) trivial (fun _ _ _ _=>trivial) trivial (fun _ _ _ _=>trivial) h
theorem RepsT.ind{M:List (List Key×V)->List (List Key×D)->Prop}(n:M [] [])(c:∀{k:List Key}{v:V}{d:D}{vs:List (List Key×V)}{ds:List (List Key×D)},Rep K H v d->RepsT K H vs ds->M vs ds->M ((k,v)::vs) ((k,d)::ds)){vs:List (List Key×V)}{ds:List (List Key×D)}(h:RepsT K H vs ds):M vs ds:=
 RepsT.rec (motive_1:=fun _ _ _=>True) (motive_2:=fun _ _ _=>True) (motive_3:=fun vs ds _=>M vs ds) (motive_4:=fun _ _ _=>True) (motive_5:=fun _ _ _=>True) trivial trivial trivial trivial (fun _ _ _=>trivial) (fun _ _ _=>trivial) (fun _ _ _=>trivial) (fun _ _ _=>trivial) (fun _ _ _=>trivial) trivial (fun _ _ _ _=>trivial) n (fun h q _ ih=>c h q ih) trivial (fun _ _ _ _=>trivial) trivial (fun _ _ _ _=>trivial) h
theorem RepsF.ind{M:List (Str×V)->List (Str×D)->Prop}(n:M [] [])(c:∀{k:Str}{v:V}{d:D}{vs:List (Str×V)}{ds:List (Str×D)},Rep K H v d->RepsF K H vs ds->M vs ds->M ((k,v)::vs) ((k,d)::ds)){vs:List (Str×V)}{ds:List (Str×D)}(h:RepsF K H vs ds):M vs ds:=
 RepsF.rec (motive_1:=fun _ _ _=>True) (motive_2:=fun _ _ _=>True) (motive_3:=fun _ _ _=>True) (motive_4:=fun _ _ _=>True) (motive_5:=fun vs ds _=>M vs ds) trivial trivial trivial trivial (fun _ _ _=>trivial) (fun _ _ _=>trivial) (fun _ _ _=>trivial) (fun _ _ _=>trivial) (fun _ _ _=>trivial) trivial (fun _ _ _ _=>trivial) trivial (fun _ _ _ _=>trivial) trivial (fun _ _ _ _=>trivial) n (fun h q _ ih=>c h q ih) h
theorem Reps.length{vs:List V}{ds:List D}(h:Reps K H vs ds):vs.length=ds.length:=Reps.ind (M:=fun vs ds=>vs.length=ds.length) rfl (fun _ _ ih=>Zi Nat.succ ih) h
theorem Reps.get{vs:List V}{ds:List D}{i:Nat}{d:D}(h:Reps K H vs ds):ds[i]?=some d->∃v,vs[i]?=some v/\Rep K H v d:=
 Reps.ind (M:=fun vs ds=>∀i:Nat,ds[i]?=some d->∃v,vs[i]?=some v/\Rep K H v d) (fun _ e=>nomatch e) (fun r _ ih i e=>by
  cases i with
  |zero=>obtain rfl:=Yr e;exact⟨_,rfl,r⟩
  |succ i=>exact ih i e) h i
theorem Reps.getV{vs:List V}{ds:List D}{i:Nat}{v:V}(h:Reps K H vs ds):vs[i]?=some v->∃d,ds[i]?=some d/\Rep K H v d:=
 Reps.ind (M:=fun vs ds=>∀i:Nat,vs[i]?=some v->∃d,ds[i]?=some d/\Rep K H v d) (fun _ e=>nomatch e) (fun r _ ih i e=>by
  cases i with
  |zero=>obtain rfl:=Yr e;exact⟨_,rfl,r⟩
  |succ i=>exact ih i e) h i
theorem Reps.append{vs ws:List V}{ds es:List D}(h:Reps K H vs ds)(s:Reps K H ws es):Reps K H (vs++ws) (ds++es):=Reps.ind (M:=fun vs ds=>Reps K H (vs++ws) (ds++es)) s (fun r _ ih=>.cons r ih) h
theorem Reps.take{vs:List V}{ds:List D}(n:Nat)(h:Reps K H vs ds):Reps K H (vs.take n) (ds.take n):=Reps.ind (M:=fun vs ds=>∀n,Reps K H (vs.take n) (ds.take n)) (fun n=>by cases n<;>exact .nil) (fun r _ ih n=>by
  cases n with
  |zero=>exact .nil
  |succ n=>exact .cons r (ih n)) h n
theorem Reps.drop{vs:List V}{ds:List D}(n:Nat)(h:Reps K H vs ds):Reps K H (vs.drop n) (ds.drop n):=Reps.ind (M:=fun vs ds=>∀n,Reps K H (vs.drop n) (ds.drop n)) (fun n=>by cases n<;>exact .nil) (fun r q ih n=>by
  cases n with
  |zero=>exact .cons r q
  |succ n=>exact ih n) h n
theorem Reps.set{v:V}{d:D}(r:Rep K H v d){vs:List V}{ds:List D}(i:Nat)(h:Reps K H vs ds):Reps K H (vs.set i v) (ds.set i d):=Reps.ind (M:=fun vs ds=>∀i,Reps K H (vs.set i v) (ds.set i d)) (fun _=>.nil) (fun q t ih i=>by
  cases i with
  |zero=>exact .cons r t
  |succ i=>exact .cons q (ih i)) h i
theorem Reps.eraseIdx{vs:List V}{ds:List D}(i:Nat)(h:Reps K H vs ds):Reps K H (vs.eraseIdx i) (ds.eraseIdx i):=Reps.ind (M:=fun vs ds=>∀i,Reps K H (vs.eraseIdx i) (ds.eraseIdx i)) (fun _=>.nil) (fun q t ih i=>by
  cases i with
  |zero=>exact t
  |succ i=>exact .cons q (ih i)) h i
theorem Reps.one{v:V}{d:D}(r:Rep K H v d):Reps K H [v] [d]:=.cons r .nil
end
inductive OD where
 |lst (ds:List D)|lst2 (dss:List (List D))|tup2 (dss:List (List D))|dT (kvs:List (List Key×D))|dK (kvs:List (Key×D))|ins (C:Addr) (fs:List (Str×D))
def OD.d:OD->D
 |.lst ds=>.lst ds
 |.lst2 dss=>.lst (dss.map .lst)
 |.tup2 dss=>.tup (dss.map .lst)
 |.dT kvs=>.dT kvs
 |.dK kvs=>.dK kvs
 |.ins C fs=>.ins C fs
def OD.flat:OD->Bool
 |.lst2 _=>false
 |.tup2 _=>false
 |_=>true
inductive All2 {α β:Type} (R:α->β->Prop):List α->List β->Prop
 |nil:All2 R [] []
 |cons {a:α}{b:β}{as:List α}{bs:List β}:R a b->All2 R as bs->All2 R (a::as) (b::bs)
theorem All2.imp{α β:Type}{R S:α->β->Prop}(f:∀a b,R a b->S a b){as:List α}{bs:List β}(h:All2 R as bs):All2 S as bs:=by
 induction h with
 |nil=>exact .nil
 |cons h _ ih=>exact .cons (f _ _ h) ih
theorem All2.length{α β:Type}{R:α->β->Prop}{as:List α}{bs:List β}(h:All2 R as bs):as.length=bs.length:=by
 induction h with
 |nil=>rfl
 |cons _ _ ih=>exact Zi Nat.succ ih
def ORep1(K:Kq)(F:Hp):OD->HO->Prop
 |.lst ds,.lst vs=>Reps K F vs ds
 |.dT ds,.dT vs=>RepsT K F vs ds
 |.dK ds,.dK vs=>RepsK K F vs ds
 |.ins C fs,.ins C' _ vs=>C=C'/\RepsF K F vs fs
 |_,_=>False
def ORep(K:Kq)(F H:Hp)(ow:Addr->Prop):OD->Addr->Prop
 |.lst2 dss,a=>ow a/\∃bs,H a=some (.lst (bs.map .ref))/\(a::bs).Nodup/\All2 (fun b ds=>ow b/\∃u,H b=some u/\ORep1 K F (.lst ds) u) bs dss
 |.tup2 dss,a=>ow a/\∃bs,H a=some (.tup (bs.map .ref))/\(a::bs).Nodup/\All2 (fun b ds=>ow b/\∃u,H b=some u/\ORep1 K F (.lst ds) u) bs dss
 |o,a=>ow a/\∃u,H a=some u/\ORep1 K F o u
theorem ORep1.same{K:Kq}{F F':Hp}(e:Same F F'){o:OD}{u:HO}(h:ORep1 K F o u):ORep1 K F' o u:=by cases o<;>cases u<;>first|exact h.elim|exact Reps.same e h|exact RepsT.same e h|exact RepsK.same e h|exact⟨h.1,RepsF.same e h.2⟩
theorem ORep.flat{K:Kq}{F H:Hp}{ow:Addr->Prop}{o:OD}{a:Addr}(f:o.flat=true):ORep K F H ow o a↔ow a/\∃u,H a=some u/\ORep1 K F o u:=by cases o<;>first|exact Iff.rfl|cases f
theorem ORep.mono{K:Kq}{F F' H H':Hp}{ow ow':Addr->Prop}{o:OD}{a:Addr}(e:Same F F')(k:∀b u,ow b->H b=some u->H' b=some u/\ow' b)(h:ORep K F H ow o a):ORep K F' H' ow' o a:=by
 by_cases f:o.flat=true
 ·obtain⟨h1,u,h2,h3⟩:=(ORep.flat f).mp h;obtain⟨k1,k2⟩:=k a u h1 h2;exact(ORep.flat f).mpr ⟨k2,u,k1,h3.same e⟩
 ·cases o with
  |lst2 dss=>
   obtain⟨h1,bs,h2,h3,h4⟩:=h;obtain⟨k1,k2⟩:=k a _ h1 h2;exact⟨k2,bs,k1,h3,h4.imp fun b ds ⟨q1,u,q2,q3⟩=>by obtain⟨c1,c2⟩:=k b u q1 q2;exact⟨c2,u,c1,q3.same e⟩⟩
  |tup2 dss=>
   obtain⟨h1,bs,h2,h3,h4⟩:=h;obtain⟨k1,k2⟩:=k a _ h1 h2;exact⟨k2,bs,k1,h3,h4.imp fun b ds ⟨q1,u,q2,q3⟩=>by obtain⟨c1,c2⟩:=k b u q1 q2;exact⟨c2,u,c1,q3.same e⟩⟩
  |_=>exact absurd rfl f
theorem ORep1.rep{K:Kq}{F H:Hp}{o:OD}{u:HO}{a:Addr}(f:o.flat=true)(h:ORep1 K F o u)(hH:H a=some u)(e:Same F H):Rep K H (.ref a) o.d:=by
 cases o with
 |lst ds=>cases u with|lst vs=>exact .lst (SqL.of hH) (Reps.same e h)|_=>exact h.elim
 |dT ds=>cases u with|dT vs=>exact .dT hH (RepsT.same e h)|_=>exact h.elim
 |dK ds=>cases u with|dK vs=>exact .dK hH (RepsK.same e h)|_=>exact h.elim
 |ins C fs=>cases u with|ins C' dx vs=>(obtain⟨rfl,h⟩:=h;exact .ins hH (RepsF.same e h))|_=>exact h.elim
 |lst2 _=>cases f
 |tup2 _=>cases f
theorem ORep.rep{K:Kq}{F H G:Hp}{ow:Addr->Prop}{o:OD}{a:Addr}(h:ORep K F H ow o a)(e:Same F G)(k:∀b u,ow b->H b=some u->G b=some u):Rep K G (.ref a) o.d:=by
 by_cases f:o.flat=true
 ·obtain⟨h1,u,h2,h3⟩:=(ORep.flat f).mp h;exact h3.rep f (k a u h1 h2) e
 ·cases o with
  |lst2 dss=>
   obtain⟨h1,bs,h2,h3,h4⟩:=h;refine .lst (SqL.of (k a _ h1 h2)) ?_;clear h2 h1 h3 f;induction h4 with
   |nil=>exact .nil
   |cons q r ih=>
    obtain⟨q1,u,q2,q3⟩:=q;exact .cons (q3.rep (o:=.lst _) rfl (k _ u q1 q2) e) ih
  |tup2 dss=>
   obtain⟨h1,bs,h2,h3,h4⟩:=h;refine .tup (k a _ h1 h2) ?_;clear h2 h1 h3 f;induction h4 with
   |nil=>exact .nil
   |cons q r ih=>
    obtain⟨q1,u,q2,q3⟩:=q;exact .cons (q3.rep (o:=.lst _) rfl (k _ u q1 q2) e) ih
  |_=>exact absurd rfl f
inductive DV where
 |v (d:D)|own (o:OD) (t:Option Addr)|bor (o:OD)
abbrev DF:=List (Option DV)
def DVRep(K:Kq)(P F H:Hp)(ow:Addr->Prop):DV->V->Prop
 |.v d,x=>Rep K F x d
 |.own o t,x=>∃a,x=.ref a/\ORep K F H (fun b=>F b=none/\P b=none/\ow b) o a/\∀b,t=some b->b=a
 |.bor o,x=>∃a,x=.ref a/\ORep K F P (fun _=>True) o a
def om:Addr->Prop:=fun _=>True
structure DHp (P F H:Hp):Prop where
 sub:Same F H
 pro:Same P H
 dis:∀a o,P a=some o->F a=none
structure DInv (K:PySem.W.Frag) (P F H:Hp) (ρ:DF) (σ:St):Prop extends DHp P F H where
 len:ρ.length=σ.length
 rep:∃O:Addr->Option Nat,∀(i:Nat) (x:DV),ρ[i]?=some (some x)->∃v,σ[i]?=some (some v)/\DVRep K P F H (fun b=>O b=some i) x v
structure Evo (P F H F' H':Hp):Prop where
 ext:Same F F'
 hp:DHp P F' H'
 keep:∀a o,H a=some o->F a=none->H' a=some o/\F' a=none
theorem Evo.same{P F H F' H':Hp}(h:DHp P F H)(e:Evo P F H F' H'):Same H H':=fun a o q=>by
 cases c:F a with
 |none=>exact(e.keep a o q c).1
 |some u=>
  have:=h.sub a u c;rw[q]at this;cases this;exact e.hp.sub a o (e.ext a o c)
theorem DVRep.evo{K:Kq}{P F H F' H':Hp}{ow:Addr->Prop}(e:Evo P F H F' H'){x:DV}{v:V}(r:DVRep K P F H ow x v):DVRep K P F' H' ow x v:=by
 cases x with
 |v d=>exact Rep.same e.ext r
 |own o t=>
  obtain⟨a,rfl,h,ht⟩:=r;exact⟨a,rfl,h.mono e.ext fun b u ⟨q1,q2,q3⟩ hb=>by(obtain⟨k1,k2⟩:=e.keep b u hb q1;exact⟨k1,k2,q2,q3⟩),ht⟩
 |bor o=>
  obtain⟨a,rfl,h⟩:=r;exact⟨a,rfl,h.mono e.ext fun b u q hb=>⟨hb,q⟩⟩
theorem DVRep.imp{K:Kq}{P F H:Hp}{ow ow':Addr->Prop}(f:∀b u,F b=none->P b=none->H b=some u->ow b->ow' b){x:DV}{v:V}(r:DVRep K P F H ow x v):DVRep K P F H ow' x v:=by
 cases x with
 |v d=>exact r
 |own o t=>
  obtain⟨a,rfl,h,ht⟩:=r;exact⟨a,rfl,h.mono (Same.refl _) fun b u ⟨q1,q2,q3⟩ hb=>⟨hb,q1,q2,f b u q1 q2 hb q3⟩,ht⟩
 |bor o=>exact r
theorem DInv.evo{K:Kq}{P F H F' H':Hp}{ρ:DF}{σ:St}(I:DInv K P F H ρ σ)(e:Evo P F H F' H'):DInv K P F' H' ρ σ:=
 ⟨e.hp,I.len,by obtain⟨O,h⟩:=I.rep;exact⟨O,fun i x hx=>by obtain⟨v,h1,h2⟩:=h i x hx;exact⟨v,h1,h2.evo e⟩⟩⟩
theorem DInv.at{K:Kq}{P F H:Hp}{ρ:DF}{σ:St}(I:DInv K P F H ρ σ){i:Nat}{x:DV}(h:ρ[i]?=some (some x)):∃v,σ[i]?=some (some v)/\DVRep K P F H om x v:=by obtain⟨O,k⟩:=I.rep;obtain⟨v,h1,h2⟩:=k i x h;exact⟨v,h1,h2.imp fun _ _ _ _ _ _=>trivial⟩
theorem Evo.refl{P F H:Hp}(h:DHp P F H):Evo P F H F H:=⟨Same.refl _,h,fun _ _ a b=>⟨a,b⟩⟩
theorem Evo.trans{P F H F1 H1 F2 H2:Hp}(a:Evo P F H F1 H1)(b:Evo P F1 H1 F2 H2):Evo P F H F2 H2:=
 ⟨a.ext.trans b.ext,b.hp,fun c o h n=>by obtain⟨h1,n1⟩:=a.keep c o h n;exact b.keep c o h1 n1⟩
theorem Evo.laid{P F H:Hp}(h:DHp P F H){a:Addr}{o:HO}(hn:H a=none):Evo P F H (upd F a o) (upd H a o) where
 ext:=fun b u e=>by rw[aA (fun z=>by subst z;rw[h.sub _ _ e]at hn;cases hn)];exact e
 hp:=⟨fun b u e=>by
   by_cases hb:b=a
   ·subst hb;rw[aR]at e ⊢;exact e
   ·rw[aA hb]at e ⊢;exact h.sub b u e,
  fun b u e=>by rw[aA (fun z=>by subst z;rw[h.pro _ _ e]at hn;cases hn)];exact h.pro b u e,
  fun b u e=>by rw[aA (fun z=>by subst z;rw[h.pro _ _ e]at hn;cases hn)];exact h.dis b u e⟩
 keep:=fun b u e n=>by
  have hb:b≠a:=fun z=>by subst z;rw[e]at hn;cases hn
  rw[aA hb,aA hb];exact⟨e,n⟩
theorem Evo.side{P F H:Hp}(h:DHp P F H){a:Addr}{o:HO}(hn:H a=none):Evo P F H F (upd H a o) where
 ext:=Same.refl _
 hp:=⟨fun b u e=>by rw[aA (fun z=>by subst z;rw[h.sub _ _ e]at hn;cases hn)];exact h.sub b u e,
  fun b u e=>by rw[aA (fun z=>by subst z;rw[h.pro _ _ e]at hn;cases hn)];exact h.pro b u e,h.dis⟩
 keep:=fun b u e n=>by
  have hb:b≠a:=fun z=>by subst z;rw[e]at hn;cases hn
  rw[aA hb];exact⟨e,n⟩
theorem DHp.free{P F H:Hp}(h:DHp P F H){a:Addr}(hn:H a=none):F a=none/\P a=none:=⟨h.sub.free hn,h.pro.free hn⟩
def RepS(K:Kq)(H F:Hp)(v:V)(d:D):Prop:=
 Rep K F v d\/∃(a:Addr) (o:OD) (u:HO),v=.ref a/\F a=none/\H a=some u/\ORep1 K F o u/\o.flat=true/\d=o.d
theorem RepS.evo{K:Kq}{P F H F' H':Hp}{v:V}{d:D}(r:RepS K H F v d)(e:Evo P F H F' H'):RepS K H' F' v d:=
 r.imp (Rep.same e.ext) fun⟨a,o,u,h1,h2,h3,h4,h5⟩=>⟨a,o,u,h1,(e.keep a u h3 h2).2,(e.keep a u h3 h2).1,h4.same e.ext,h5⟩
theorem DInv.slot{K:Kq}{P F H:Hp}{ρ:DF}{σ:St}(I:DInv K P F H ρ σ){i:Nat}{o:OD}{v:V}(hv:σ[i]?=some (some v))(h:(∃t,ρ[i]?=some (some (.own o t)))\/ρ[i]?=some (some (.bor o))):∃a,v=.ref a/\ORep K F H (fun b=>F b=none) o a:=by
 rcases h with⟨t,h⟩|h
 ·obtain⟨v',h1,a,rfl,h2,_⟩:=I.at h;rw[hv]at h1;cases h1;exact⟨a,rfl,h2.mono (Same.refl _) fun b u q hb=>⟨hb,q.1⟩⟩
 ·obtain⟨v',h1,a,rfl,h2⟩:=I.at h;rw[hv]at h1;cases h1;exact⟨a,rfl,h2.mono (Same.refl _) fun b u q hb=>⟨I.pro b u hb,I.dis b u hb⟩⟩
theorem RepS.now{K:Kq}{F H:Hp}{v:V}{d:D}(I:Same F H)(r:RepS K H F v d):Rep K H v d:=by
 rcases r with r|⟨a,o,u,rfl,_,h3,h4,hfl,rfl⟩
 ·exact r.same I
 ·exact h4.rep hfl h3 I
theorem RepS.slot{K:Kq}{P F H:Hp}{ρ:DF}{σ:St}(I:DInv K P F H ρ σ){i:Nat}{o:OD}{v:V}(hv:σ[i]?=some (some v))(h:(∃t,ρ[i]?=some (some (.own o t)))\/ρ[i]?=some (some (.bor o)))(hfl:o.flat=true):RepS K H F v o.d:=by obtain⟨a,rfl,h2⟩:=I.slot hv h;obtain⟨h3,u,h4,h5⟩:=(ORep.flat hfl).mp h2;exact .inr ⟨a,o,u,rfl,h3,h4,h5,hfl,rfl⟩
def tD(K:Kq)(f:DF->Option D):TE:=fun σ H Q=>∃P F ρ d,f ρ=some d/\DInv K P F H ρ σ/\∀v F' H',Evo P F H F' H'->Rep K F' v d->Q v H'
def tR(K:Kq)(f:DF->Option D):TE:=fun σ H Q=>∃P F ρ d,f ρ=some d/\DInv K P F H ρ σ/\∀v F' H',Evo P F H F' H'->RepS K H' F' v d->Q v H'
def tN(K:Kq)(f:DF->Option D):TE:=fun σ H Q=>∃P F ρ d,f ρ=some d/\DInv K P F H ρ σ/\∀v F' H',Evo P F H F' H'->Rep K H' v d->Q v H'
def tB'(K:Kq)(f:DF->Option Bool):TT:=fun σ H Q=>∃P F ρ b,f ρ=some b/\DInv K P F H ρ σ/\∀F' H',Evo P F H F' H'->Q b H'
def tL(K:Kq)(f:DF->Option (List D)):TA:=fun σ H Q=>∃P F ρ ds,f ρ=some ds/\DInv K P F H ρ σ/\∀vs F' H',Evo P F H F' H'->Reps K F' vs ds->Q vs H'
def PDE(X:Cx)(e:Expr)(f:DF->Option D):Prop:=PE X e (tD X.K f)
def PDR(X:Cx)(e:Expr)(f:DF->Option D):Prop:=PE X e (tR X.K f)
def PDN(X:Cx)(e:Expr)(f:DF->Option D):Prop:=PE X e (tN X.K f)
def PDT(X:Cx)(e:Expr)(f:DF->Option Bool):Prop:=PT X e (tB' X.K f)
def PDA(X:Cx)(es:List Expr)(f:DF->Option (List D)):Prop:=PA X es (tL X.K f)
section
variable{X:Cx}{e a b c:Expr}{es:List Expr}{pos:Pos}
theorem PE.imp{t t':TE}(h:PE X e t)(i:∀σ H Q,t' σ H Q->t σ H Q):PE X e t':=fun pz s σ H Q I q=>h pz s σ H Q I (i σ H Q q)
theorem PT.imp{t t':TT}(h:PT X e t)(i:∀σ H Q,t' σ H Q->t σ H Q):PT X e t':=fun pz s σ H Q I q=>h pz s σ H Q I (i σ H Q q)
theorem PA.imp{t t':TA}(h:PA X es t)(i:∀σ H Q,t' σ H Q->t σ H Q):PA X es t':=fun pos pz s σ H Q I q=>h pos pz s σ H Q I (i σ H Q q)
def getV(i:Nat)(ρ:DF):Option D:=match ρ[i]? with
 |some (some (.v d))=>some d
 |_=>none
def ac(i:Nat)(ρ:DF):Option D:=match ρ[i]? with
 |some (some (.v d))=>some d
 |some (some (.own o _))=>if o.flat=true then some o.d else none
 |some (some (.bor o))=>if o.flat=true then some o.d else none
 |_=>none
def am(i:Nat)(ρ:DF):Option D:=match ρ[i]? with
 |some (some (.v d))=>some d
 |some (some (.own o _))=>some o.d
 |some (some (.bor o))=>some o.d
 |_=>none
theorem vn{i:Nat}{ρ:DF}{d:D}(h:getV i ρ=some d):ρ[i]?=some (some (.v d)):=by
 unfold getV at h;split at h
 ·rename_i q;cases h;exact q
 ·cases h
theorem ak(i:Nat)(h:PE X e (cG i)):PDE X e (getV i):=h.imp fun σ H Q=>un7 fun P F ρ d hf I k=>by
 obtain⟨v,h1,h2⟩:=I.at (vn hf)
 exact⟨v,h1,k v F H (Evo.refl I.toDHp) h2⟩
theorem ae(i:Nat)(h:PE X e (cG i)):PDR X e (ac i):=h.imp fun σ H Q=>un7 fun P F ρ d hf I k=>by
 unfold ac at hf;split at hf
 ·rename_i d' q;cases hf;obtain⟨v,h1,h2⟩:=I.at q;exact⟨v,h1,k v F H (Evo.refl I.toDHp) (.inl h2)⟩
 ·rename_i o t q;split at hf
  ·rename_i hfl;cases hf;obtain⟨v,h1,h2⟩:=I.at q;exact⟨v,h1,k v F H (Evo.refl I.toDHp) (RepS.slot I h1 (.inl ⟨t,q⟩) hfl)⟩
  ·cases hf
 ·rename_i o q;split at hf
  ·rename_i hfl;cases hf;obtain⟨v,h1,h2⟩:=I.at q;exact⟨v,h1,k v F H (Evo.refl I.toDHp) (RepS.slot I h1 (.inr q) hfl)⟩
  ·cases hf
 ·cases hf
theorem au(i:Nat)(h:PE X e (cG i)):PDN X e (am i):=h.imp fun σ H Q=>un7 fun P F ρ d hf I k=>by
 unfold am at hf;split at hf
 ·rename_i d' q;cases hf;obtain⟨v,h1,h2⟩:=I.at q;exact⟨v,h1,k v F H (Evo.refl I.toDHp) (Rep.same I.sub h2)⟩
 ·rename_i o t q;cases hf;obtain⟨v,h1,_⟩:=I.at q;obtain⟨a,rfl,h2⟩:=I.slot h1 (.inl ⟨t,q⟩);exact⟨_,h1,k _ F H (Evo.refl I.toDHp) (h2.rep I.sub fun _ _ _ q=>q)⟩
 ·rename_i o q;cases hf;obtain⟨v,h1,_⟩:=I.at q;obtain⟨a,rfl,h2⟩:=I.slot h1 (.inr q);exact⟨_,h1,k _ F H (Evo.refl I.toDHp) (h2.rep I.sub fun _ _ _ q=>q)⟩
 ·cases hf
theorem PDE.r{f:DF->Option D}(h:PDE X e f):PDR X e f:=PE.imp h fun σ H Q=>un7 fun P F ρ d hf I k=>⟨P,F,ρ,d,hf,I,fun v F' H' ev r=>k v F' H' ev (.inl r)⟩
theorem PDR.n{f:DF->Option D}(h:PDR X e f):PDN X e f:=PE.imp h fun σ H Q=>un7 fun P F ρ d hf I k=>⟨P,F,ρ,d,hf,I,fun v F' H' ev r=>k v F' H' ev (r.now ev.hp.sub)⟩
theorem PDE.n{f:DF->Option D}(h:PDE X e f):PDN X e f:=h.r.n
theorem pX{d:D}{v:V}(h:PE X e (tC v))(r:∀F,Rep X.K F v d):PDE X e (fun _=>some d):=h.imp fun σ H Q=>un7 fun P F ρ d' hf I k=>by
 cases hf;exact k v F H (Evo.refl I.toDHp) (r F)
theorem aa{i j p}:PDE X (.Constant (.int i) j p) (fun _=>some (.int i)):=pX nE fun _=>.int
theorem eh{i j p}:PDE X (.Constant (.bool i) j p) (fun _=>some (.bl i)):=pX AG fun _=>.bl
theorem kN{i j p}:PDE X (.Constant (.str i) j p) (fun _=>some (.str i)):=pX zv fun _=>.str
def OpN2(K:Kq)(r:R2)(f:D->D->Option D):Prop:=
 ∀(P F H:Hp) (x y:V) (dx dy d:D) (Q:VK),f dx dy=some d->DHp P F H->Rep K H x dx->Rep K H y dy->(∀v F' H',Evo P F H F' H'->Rep K F' v d->Q v H')->r x y H Q
def d2(f:D->D->Option D)(fa fb:DF->Option D):DF->Option D:=fun ρ=>(fa ρ).bind fun x=>(fb ρ).bind fun y=>f x y
theorem oQ{K:Kq}{r:R2}{f:D->D->Option D}{fa fb:DF->Option D}(ho:OpN2 K r f):∀σ H Q,tD K (d2 f fa fb) σ H Q->tOp r (tN K fa) (tN K fb) σ H Q:=fun σ H Q=>un7 fun P F ρ d hf I k=>by
 unfold d2 at hf;cases ha:fa ρ with
 |none=>rw[ha]at hf;cases hf
 |some dx=>
  rw[ha]at hf;cases hb:fb ρ with
  |none=>rw[Ya,hb]at hf;cases hf
  |some dy=>
   rw[Ya,hb,Ya]at hf;refine⟨P,F,ρ,dx,ha,I,fun x F1 H1 e1 rx=>⟨P,F1,ρ,dy,hb,I.evo e1,fun y F2 H2 e2 ry=>?_⟩⟩;exact ho P F2 H2 x y dx dy d Q hf e2.hp (rx.same (e2.same e1.hp)) ry fun v F3 H3 e3 rv=>k v F3 H3 ((e1.trans e2).trans e3) rv
theorem ut{op:CmpOp}{r:R2}{f:D->D->Option D}{fa fb:DF->Option D}(ho:OpR X (compareOp op) r)(hf:OpN2 X.K r f)(ha:PDN X a fa)(hb:PDN X b fb)(hm:behindInMarks op b=false):PDE X (.Compare a [op] [b] pos) (d2 f fa fb):=
 (pN ho ha hb hm).imp (oQ hf)
def mP(K:Kq)(r:R2)(f:D->D->Option D):Prop:=
 ∀(P F H:Hp) (ρ:DF) (σ:St) (x y:V) (dx dy d:D) (Q:VK),f dx dy=some d->DInv K P F H ρ σ->RepS K H F x dx->RepS K H F y dy->(∀v F' H',Evo P F H F' H'->Rep K F' v d->Q v H')->r x y H Q
theorem lK{K:Kq}{r:R2}{f:D->D->Option D}{fa fb:DF->Option D}(ho:mP K r f):∀σ H Q,tD K (d2 f fa fb) σ H Q->tOp r (tR K fa) (tR K fb) σ H Q:=fun σ H Q=>un7 fun P F ρ d hf I k=>by
 unfold d2 at hf;cases ha:fa ρ with
 |none=>rw[ha]at hf;cases hf
 |some dx=>
  rw[ha]at hf;cases hb:fb ρ with
  |none=>rw[Ya,hb]at hf;cases hf
  |some dy=>
   rw[Ya,hb,Ya]at hf;refine⟨P,F,ρ,dx,ha,I,fun x F1 H1 e1 rx=>⟨P,F1,ρ,dy,hb,I.evo e1,fun y F2 H2 e2 ry=>?_⟩⟩;exact ho P F2 H2 ρ σ x y dx dy d Q hf ((I.evo e1).evo e2) (rx.evo e2) ry fun v F3 H3 e3 rv=>k v F3 H3 ((e1.trans e2).trans e3) rv
theorem gv{op:Operator}{r:R2}{f:D->D->Option D}{fa fb:DF->Option D}(ho:OpR X (binaryOp op) r)(hf:mP X.K r f)(ha:PDR X a fa)(hb:PDR X b fb):PDE X (.BinOp a op b pos) (d2 f fa fb):=
 (xq ho ha hb).imp (lK hf)
theorem r_{op:CmpOp}{r:R2}{f:D->D->Option D}{fa fb:DF->Option D}(ho:OpR X (compareOp op) r)(hf:mP X.K r f)(ha:PDR X a fa)(hb:PDR X b fb)(hm:behindInMarks op b=false):PDE X (.Compare a [op] [b] pos) (d2 f fa fb):=
 (pN ho ha hb hm).imp (lK hf)
def asB(f:DF->Option D):DF->Option Bool:=fun ρ=>match f ρ with
 |some (.bl b)=>some b
 |_=>none
theorem yJ{f:DF->Option D}{ρ:DF}{b:Bool}(h:asB f ρ=some b):f ρ=some (.bl b):=by
 unfold asB at h;split at h
 ·rename_i q;cases h;exact q
 ·cases h
theorem fH{K:Kq}{t:TE}{f:DF->Option D}(h:∀σ H Q,tD K f σ H Q->t σ H Q):∀σ H Q,tB' K (asB f) σ H Q->sE t σ H Q:=fun σ H Q=>un7 fun P F ρ b hf I k=>by
 refine h σ H _ ⟨P,F,ρ,.bl b,yJ hf,I,fun v F' H' ev r=>?_⟩;cases r;exact⟨b,rfl,k F' H' ev⟩
theorem vT{op:CmpOp}{r:R2}{f:D->D->Option D}{fa fb:DF->Option D}(ho:OpR X (compareOp op) r)(hf:mP X.K r f)(ha:PDR X a fa)(hb:PDR X b fb)(hm:behindInMarks op b=false):PDT X (.Compare a [op] [b] pos) (asB (d2 f fa fb)):=
 (p0 ho ha hb hm).imp (fH (lK hf))
theorem gs{op:CmpOp}{r:R2}{f:D->D->Option D}{fa fb:DF->Option D}(ho:OpR X (compareOp op) r)(hf:OpN2 X.K r f)(ha:PDN X a fa)(hb:PDN X b fb)(hm:behindInMarks op b=false):PDT X (.Compare a [op] [b] pos) (asB (d2 f fa fb)):=
 (p0 ho ha hb hm).imp (fH (oQ hf))
theorem bV{f:DF->Option D}(h:PDE X e f)(he:∀whole,isTrue e X.env whole=(do let v <-whole;standAt e.pos;holding [v] (truthy v)):=by intro _;rfl):PDT X e (asB f):=
 (xz h he).imp (fH (t:=tD X.K f) fun _ _ _ q=>q)
theorem ck{K:Kq}{H F:Hp}{x:V}{i:Int}(r:RepS K H F x (.int i)):x=.int i:=by
 rcases r with r|⟨_,o,_,_,_,_,_,_,z⟩
 ·cases r;rfl
 ·cases o<;>cases z
theorem iC{K:Kq}{H F:Hp}{x:V}{i:Str}(r:RepS K H F x (.str i)):x=.str i:=by
 rcases r with r|⟨_,o,_,_,_,_,_,_,z⟩
 ·cases r;rfl
 ·cases o<;>cases z
theorem c9{K:Kq}{P F H:Hp}{ρ:DF}{σ:St}{x:V}{ds:List D}(I:DInv K P F H ρ σ)(r:RepS K H F x (.lst ds)):∃a vs,x=.ref a/\SqL K H a vs/\Reps K F vs ds:=by
 rcases r with r|⟨a,o,u,rfl,_,h3,h4,hfl,z⟩
 ·cases r with|lst h q=>exact⟨_,_,rfl,I.sub.seq h,q⟩
 ·cases o with
  |lst ds'=>
   cases z;cases u with
   |lst vs=>exact⟨a,vs,rfl,SqL.of h3,h4⟩
   |_=>exact h4.elim
  |lst2 _=>cases hfl
  |tup2 _=>cases hfl
  |_=>cases z
theorem fT{K:Kq}{P F H:Hp}{ρ:DF}{σ:St}{x:V}{ds:List D}(I:DInv K P F H ρ σ)(r:RepS K H F x (.tup ds)):∃a vs,x=.ref a/\SqT K H a vs/\Reps K F vs ds:=by
 rcases r with r|⟨a,o,u,rfl,_,h3,h4,hfl,z⟩
 ·cases r with|tup h q=>exact⟨_,_,rfl,SqT.of (I.sub _ _ h),q⟩
 ·cases o<;>first|(cases z;done)|cases hfl
theorem nC{K:Kq}{P F H:Hp}{ρ:DF}{σ:St}{x:V}{ds:List (List Key×D)}(I:DInv K P F H ρ σ)(r:RepS K H F x (.dT ds)):∃a vs,x=.ref a/\H a=some (.dT vs)/\RepsT K F vs ds:=by
 rcases r with r|⟨a,o,u,rfl,_,h3,h4,hfl,z⟩
 ·cases r with|dT h q=>exact⟨_,_,rfl,I.sub _ _ h,q⟩
 ·cases o with
  |dT ds'=>
   cases z;cases u with
   |dT vs=>exact⟨a,vs,rfl,h3,h4⟩
   |_=>exact h4.elim
  |lst2 _=>cases hfl
  |tup2 _=>cases hfl
  |_=>cases z
theorem kT{K:Kq}{P F H:Hp}{ρ:DF}{σ:St}{x:V}{C:Addr}{fs:List (Str×D)}(I:DInv K P F H ρ σ)(r:RepS K H F x (.ins C fs)):∃a dx vs,x=.ref a/\H a=some (.ins C dx vs)/\RepsF K F vs fs:=by
 rcases r with r|⟨a,o,u,rfl,_,h3,h4,hfl,z⟩
 ·cases r with|ins h q=>exact⟨_,_,_,rfl,I.sub _ _ h,q⟩
 ·cases o with
  |ins C' fs'=>
   cases z;cases u with
   |ins C'' dx vs=>(obtain⟨rfl,h4⟩:=h4;exact⟨a,dx,vs,rfl,h3,h4⟩)
   |_=>exact h4.elim
  |lst2 _=>cases hfl
  |tup2 _=>cases hfl
  |_=>cases z
def fI(C:Int->Int->Bool)(g:Int->Int->D):D->D->Option D
 |.int i,.int j=>if C i j=true then some (g i j)else none
 |_,_=>none
theorem kS{K:Kq}{C:Int->Int->Prop}{C':Int->Int->Bool}{g:Int->Int->V}{g':Int->Int->D}(hC:∀i j,C' i j=true->C i j)(hg:∀F i j,Rep K F (g i j) (g' i j)):mP K (rI C g) (fI C' g'):=by
 intro P F H ρ σ x y dx dy d Q hf I rx ry k;unfold fI at hf;split at hf
 ·rename_i i j;split at hf
  ·rename_i hc;cases hf;exact⟨i,j,ck rx,ck ry,hC i j hc,k _ F H (Evo.refl I.toDHp) (hg F i j)⟩
  ·cases hf
 ·cases hf
def fI0(g:Int->Int->D):D->D->Option D
 |.int i,.int j=>some (g i j)
 |_,_=>none
theorem iy{K:Kq}{g:Int->Int->V}{g':Int->Int->D}(hg:∀F i j,Rep K F (g i j) (g' i j)):mP K (rI0 g) (fI0 g'):=by
 intro P F H ρ σ x y dx dy d Q hf I rx ry k;unfold fI0 at hf;split at hf
 ·rename_i i j;cases hf;exact⟨i,j,ck rx,ck ry,k _ F H (Evo.refl I.toDHp) (hg F i j)⟩
 ·cases hf
def dC:=fI0 fun i j=>.int (i-j)
def cT:=fI (fun i j=>decide ((-(2^64)<i/\i<2^64)\/(-(2^64)<j/\j<2^64))) fun i j=>.int (i*j)
def aZ:=fI (fun _ j=>decide (0<j/\j<1073741824)) fun i j=>.int (i/j)
def aG:=fI (fun _ j=>decide (0<j)) fun i j=>.int (i%j)
def l0:=fI (fun i j=>decide (0<=j/\j<=1000000/\i.natAbs<2^64)) fun i j=>.int (i^j.toNat)
def ltI:=fI0 fun i j=>.bl (decide (i<j))
def leI:=fI0 fun i j=>.bl (decide (i<=j))
def gtI:=fI0 fun i j=>.bl (decide (j<i))
def geI:=fI0 fun i j=>.bl (decide (j<=i))
theorem dQ{fa fb:DF->Option D}(ha:PDR X a fa)(hb:PDR X b fb):PDE X (.BinOp a .Sub b pos) (d2 dC fa fb):=gv yA (iy fun _ _ _=>.int) ha hb
theorem dg{fa fb:DF->Option D}(ha:PDR X a fa)(hb:PDR X b fb):PDE X (.BinOp a .Mult b pos) (d2 cT fa fb):=gv yv (kS (fun _ _ h=>by have q:=Zj h;exact q) fun _ _ _=>.int) ha hb
theorem bA{fa fb:DF->Option D}(ha:PDR X a fa)(hb:PDR X b fb):PDE X (.BinOp a .FloorDiv b pos) (d2 aZ fa fb):=gv wd (kS (fun _ _ h=>by have q:=Zj h;exact q) fun _ _ _=>.int) ha hb
theorem aH{fa fb:DF->Option D}(ha:PDR X a fa)(hb:PDR X b fb):PDE X (.BinOp a .Mod b pos) (d2 aG fa fb):=gv yX (kS (fun _ _ h=>by have q:=Zj h;exact q) fun _ _ _=>.int) ha hb
theorem i_{fa fb:DF->Option D}(ha:PDR X a fa)(hb:PDR X b fb):PDE X (.BinOp a .Pow b pos) (d2 l0 fa fb):=gv zN (kS (fun _ _ h=>by have q:=Zj h;exact q) fun _ _ _=>.int) ha hb
end
def tO(K:Kq)(f:DF->Option OD):TE:=fun σ H Q=>∃P F ρ o,f ρ=some o/\DInv K P F H ρ σ /\
 ∀a F' H',Evo P F H F' H'->ORep K F' H' (fun b=>H b=none/\F' b=none) o a->Q (.ref a) H'
def PDO(X:Cx)(e:Expr)(f:DF->Option OD):Prop:=PE X e (tO X.K f)
def asO(f:DF->Option OD):DF->Option D:=fun ρ=>(f ρ).map OD.d
theorem Evo.back{P F H F' H':Hp}(h:DHp P F H)(e:Evo P F H F' H'){a:Addr}(n:H' a=none):H a=none:=by
 cases q:H a with
 |none=>rfl
 |some o=>rw[e.same h a o q]at n;cases n
open Classical in
noncomputable def r9 (F H:Hp)(ow:Addr->Prop):Hp:=fun b=>if ow b then H b else F b
theorem de{F H:Hp}{ow:Addr->Prop}{b:Addr}(h:ow b):r9 F H ow b=H b:=Yi h
theorem dZ{F H:Hp}{ow:Addr->Prop}{b:Addr}(h:¬ow b):r9 F H ow b=F b:=Yn h
theorem bS{F H:Hp}{ow:Addr->Prop}(h:∀b,ow b->F b=none):Same F (r9 F H ow):=fun b u e=>by
 by_cases q:ow b
 ·rw[h b q]at e;cases e
 ·rw[dZ q];exact e
theorem Evo.freeze{P F H F' H':Hp}(h0:DHp P F H)(e:Evo P F H F' H')(ow:Addr->Prop)(hn:∀b,ow b->H b=none/\F' b=none):Evo P F H (r9 F' H' ow) H' where
 ext:=e.ext.trans (bS fun b q=>(hn b q).2)
 hp:=⟨fun b u h=>by
   by_cases q:ow b
   ·rw[de q]at h;exact h
   ·rw[dZ q]at h;exact e.hp.sub b u h,e.hp.pro,fun b u h=>by
   rw[dZ fun q=>by rw[(h0.pro.free (hn b q).1)]at h;cases h];exact e.hp.dis b u h⟩
 keep:=fun b u h n=>by
  obtain⟨k1,k2⟩:=e.keep b u h n;refine⟨k1,?_⟩;rw[dZ fun q=>by rw[(hn b q).1]at h;cases h];exact k2
theorem fG{F:Hp}{a:Addr}{o:HO}(h:F a=none):Same F (upd F a o):=fun b u e=>by rw[aA (aO e h)];exact e
section
variable{X:Cx}{e:Expr}{es:List Expr}{st:Stmt}{sts bP:List Stmt}{pos:Pos}
theorem PDO.v{f:DF->Option OD}(h:PDO X e f):PDE X e (asO f):=PE.imp h fun σ H Q=>un7 fun P F ρ d hf I k=>by
 unfold asO at hf;cases q:f ρ with
 |none=>rw[q]at hf;cases hf
 |some o=>
  rw[q]at hf;cases hf;refine⟨P,F,ρ,o,q,I,fun a F' H' ev ho=>?_⟩;have hn:∀b,(H b=none/\F' b=none)->H b=none/\F' b=none:=fun _ q=>q
  exact k (.ref a) _ H' (ev.freeze I.toDHp (fun b=>H b=none/\F' b=none) hn) (ho.rep (bS fun b q=>q.2) fun b u q hb=>by rw[de q];exact hb)
def asL(f:DF->Option (List D)):DF->Option OD:=fun ρ=>(f ρ).map .lst
inductive RES where
 |nx (ρ:DF)|rt (x:DV) (ρ:DF)|bk (ρ:DF)|ct (ρ:DF)
abbrev Dd:=DF->Option D
abbrev Dw:=DF->Option RES
abbrev Dk:=DF->Option Bool
abbrev Dv:=DF->Option (List DV)
abbrev Dl:=DF->Option (List D)
abbrev Dm:=List DV->Option DV
abbrev Dq:=D->DF->Option DF
abbrev Do:=DF->Option OD
abbrev Dz:=OD->List DV->Option (OD×D)
abbrev Dy:=D->D->Option D
def EndsD(K:Kq)(P F:Hp)(E:Ends):RES->Prop
 |.nx ρ=>∀σ F' H',Same F F'->DInv K P F' H' ρ σ->E.nx σ H'
 |.bk ρ=>∀σ F' H',Same F F'->DInv K P F' H' ρ σ->E.bk σ H'
 |.ct ρ=>∀σ F' H',Same F F'->DInv K P F' H' ρ σ->E.ct σ H'
 |.rt x ρ=>∀v σ F' H',Same F F'->DInv K P F' H' ρ σ->DVRep K P F' H' om x v->E.rt v H'
theorem EndsD.ext{K:Kq}{P F F1:Hp}{E:Ends}{r:RES}(h:EndsD K P F E r)(e:Same F F1):EndsD K P F1 E r:=by
 cases r with
 |nx ρ=>exact fun σ F' H' e' I=>h σ F' H' (e.trans e') I
 |bk ρ=>exact fun σ F' H' e' I=>h σ F' H' (e.trans e') I
 |ct ρ=>exact fun σ F' H' e' I=>h σ F' H' (e.trans e') I
 |rt x ρ=>exact fun v σ F' H' e' I r=>h v σ F' H' (e.trans e') I r
def tS(K:Kq)(g:Dw):TS:=fun E σ H=>∃P F ρ r,g ρ=some r/\DInv K P F H ρ σ/\EndsD K P F E r
def PD1(X:Cx)(st:Stmt)(g:Dw):Prop:=PS X st (tS X.K g)
def PDS(X:Cx)(sts:List Stmt)(g:Dw):Prop:=PSs X sts (tS X.K g)
theorem PS.imp{t t':TS}(h:PS X st t)(i:∀E σ H,t' E σ H->t E σ H):PS X st t':=fun pz s σ H E I q=>h pz s σ H E I (i E σ H q)
theorem PSs.imp{t t':TS}(h:PSs X sts t)(i:∀E σ H,t' E σ H->t E σ H):PSs X sts t':=fun pz s σ H E I q=>h pz s σ H E I (i E σ H q)
def dNx:DF->Option RES:=fun ρ=>some (.nx ρ)
theorem Bv{K:Kq}:∀E σ H,tS K dNx E σ H->E.nx σ H:=fun E σ H=>un7 fun P F ρ r hg I k=>by
 cases hg;exact k σ F H (Same.refl _) I
theorem aJ:PDS X [] dNx:=PSs.imp wG Bv
def al(g h:Dw):DF->Option RES:=fun ρ=>match g ρ with
 |some (.nx ρ')=>h ρ'
 |r=>r
theorem af{g h:Dw}(h1:PD1 X st g)(h2:PDS X bP h):PDS X (st::bP) (al g h):=PSs.imp (sF h1 h2) fun E σ H=>un7 fun P F ρ r hg I k=>by
 unfold al at hg;split at hg
 ·rename_i ρ' q;exact⟨P,F,ρ,_,q,I,fun σ' F' H' e I'=>⟨P,F',ρ',r,hg,I',k.ext e⟩⟩
 ·rename_i q;refine⟨P,F,ρ,r,hg,I,?_⟩;cases r with
  |nx ρ'=>exact absurd hg (q ρ')
  |bk ρ=>exact k
  |ct ρ=>exact k
  |rt x ρ=>exact k
theorem ai{g:Dw}(h1:PD1 X st g):PDS X [st] g:=PSs.imp (wk h1) fun _ _ _ q=>q
def bb(f:Dd):DF->Option RES:=fun ρ=>(f ρ).map fun d=>.rt (.v d) ρ
theorem aX{f:Dd}(h:PDE X e f):PD1 X (.Return (some e) pos) (bb f):=PS.imp (nB h) fun E σ H=>un7 fun P F ρ r hg I k=>by
 unfold bb at hg;cases q:f ρ with
 |none=>rw[q]at hg;cases hg
 |some d=>
  rw[q]at hg;cases hg;exact⟨P,F,ρ,d,q,I,fun v F' H' ev rv=>k v σ F' H' ev.ext (I.evo ev) rv⟩
def d9(f:Do):DF->Option RES:=fun ρ=>(f ρ).map fun o=>.rt (.own o none) ρ
theorem fN{f:Do}(h:PDO X e f):PD1 X (.Return (some e) pos) (d9 f):=PS.imp (nB h) fun E σ H=>un7 fun P F ρ r hg I k=>by
 unfold d9 at hg;cases q:f ρ with
 |none=>rw[q]at hg;cases hg
 |some o=>
  rw[q]at hg;cases hg;exact⟨P,F,ρ,o,q,I,fun a F' H' ev ho=>k (.ref a) σ F' H' ev.ext (I.evo ev) ⟨a,rfl,ho.mono (Same.refl _) fun b u q hb=>⟨hb,q.2,I.pro.free q.1,trivial⟩,fun _ z=>nomatch z⟩⟩
def e9(i:Nat):DF->Option RES:=fun ρ=>match ρ[i]? with
 |some (some x)=>some (.rt x ρ)
 |_=>none
theorem eX(i:Nat)(h:PE X e (cG i)):PD1 X (.Return (some e) pos) (e9 i):=PS.imp (nB h) fun E σ H=>un7 fun P F ρ r hg I k=>by
 unfold e9 at hg;split at hg
 ·rename_i x q;cases hg;obtain⟨v,h1,h2⟩:=I.at q;exact⟨v,h1,k v σ F H (Same.refl _) I h2⟩
 ·cases hg
theorem c6{α:Type}{l:List α}{i j:Nat}{x y:α}(h:(l.set i x)[j]?=some y):(i=j/\y=x/\i<l.length)\/(i≠j/\l[j]?=some y):=by
 by_cases hj:i=j
 ·subst hj;have hl:i<l.length:=by have:=(Yh.mp h).1;rwa [YY]at this
  rw[ZI hl]at h;exact .inl ⟨rfl,(Yr h).symm,hl⟩
 ·rw[YZ hj]at h;exact .inr ⟨hj,h⟩
theorem DInv.setO{K:Kq}{P F H:Hp}{ρ:DF}{σ:St}(I:DInv K P F H ρ σ)(i:Nat){v:V}{x:DV}(nw:Addr->Prop)(hn:∀(j:Nat) (y:DV) (w:V) (O:Addr->Option Nat),j≠i->ρ[j]?=some (some y)->DVRep K P F H (fun b=>O b=some j) y w->DVRep K P F H (fun b=>O b=some j/\¬nw b) y w)(r:DVRep K P F H nw x v) :
  DInv K P F H (ρ.set i (some x)) (σ.set i (some v)):=by
 obtain⟨O,h⟩:=I.rep;refine⟨I.toDHp,by rw[YY,YY];exact I.len,?_⟩
 classical
 refine⟨fun b=>if nw b then some i else if O b=some i then none else O b,fun j y hj=>?_⟩;rcases c6 hj with⟨rfl,e,hl⟩|⟨hij,hj'⟩
 ·cases e;refine⟨v,by rw[ZI (by rw[<-I.len];exact hl)],r.imp fun b u _ _ _ q=>Yi q⟩
 ·obtain⟨w,h1,h2⟩:=h j y hj';refine⟨w,by rw[YZ hij];exact h1,(hn j y w O (XD hij) hj' h2).imp fun b u _ _ _ q=>?_⟩;show(if nw b then some i else if O b=some i then none else O b)=some j;rw[Yn q.2,Yn (by rw[q.1];intro z;exact hij (Yr z).symm),q.1]
theorem DInv.setV{K:Kq}{P F H:Hp}{ρ:DF}{σ:St}(I:DInv K P F H ρ σ)(i:Nat){v:V}{d:D}(r:Rep K F v d):DInv K P F H (ρ.set i (some (.v d))) (σ.set i (some v)):=
 I.setO i (fun _=>False) (fun j y w O _ _ q=>q.imp fun b u _ _ _ z=>⟨z,id⟩) r
theorem DInv.setN{K:Kq}{P F H F' H':Hp}{ρ:DF}{σ:St}(I:DInv K P F H ρ σ)(ev:Evo P F H F' H')(i:Nat){a:Addr}{o:OD}(ho:ORep K F' H' (fun b=>H b=none/\F' b=none) o a):DInv K P F' H' (ρ.set i (some (.own o none))) (σ.set i (some (.ref a))):=by
 obtain⟨O,h⟩:=I.rep;refine⟨ev.hp,by rw[YY,YY];exact I.len,?_⟩
 classical
 refine⟨fun b=>if H b=none then some i else if O b=some i then none else O b,fun j y hj=>?_⟩;rcases c6 hj with⟨rfl,e,hl⟩|⟨hij,hj'⟩
 ·cases e;refine⟨.ref a,by rw[ZI (by rw[<-I.len];exact hl)],a,rfl,ho.mono (Same.refl _) fun b u q hb=>⟨hb,q.2,I.pro.free q.1,Yi q.1⟩,fun _ z=>nomatch z⟩
 ·obtain⟨w,h1,h2⟩:=h j y hj';refine⟨w,by rw[YZ hij];exact h1,?_⟩;have h3:DVRep K P F H (fun b=>(if H b=none then some i else if O b=some i then none else O b)=some j) y w:=h2.imp fun b u _ _ hb q=>by
   show(if H b=none then some i else if O b=some i then none else O b)=some j;rw[Yn (by rw[hb];simp),Yn (by rw[q];intro z;exact hij (Yr z).symm),q]
  exact h3.evo ev
def setV(i:Nat)(d:D)(ρ:DF):Option DF:=some (ρ.set i (some (.v d)))
def aw(i:Nat)(f:Dd):DF->Option RES:=fun ρ=>(f ρ).map fun d=>.nx (ρ.set i (some (.v d)))
theorem sn{K:Kq}{i:Nat}{f:Dd}:∀E σ H,tS K (aw i f) E σ H->tX (tD K f) (jH i) E σ H:=fun E σ H=>un7 fun P F ρ r hg I k=>by
 unfold aw at hg;cases q:f ρ with
 |none=>rw[q]at hg;cases hg
 |some d=>
  rw[q]at hg;cases hg;exact⟨P,F,ρ,d,q,I,fun v F' H' ev rv=>k _ F' H' ev.ext ((I.evo ev).setV i rv)⟩
theorem aF{i:Nat}{x:Str}{pos':Pos}{f:Dd}(hN:X.N.Nodup)(hi:X.N[i]?=some x)(hx:Loc X.env.scope x)(he:PDE X e f)(hs:swapsWith e (some (.Name x pos')) pos.line X.env=pure false:=by rfl)(hf:X.fn x=true\/X.env.scope.names.lookup x=some .local:=by first|exact .inl rfl|exact .inr rfl|assumption) :
  PD1 X (.Assign [.Name x pos'] e pos) (aw i f):=PS.imp (su hN hi hx he hs hf) sn
def bt(i:Nat)(f:Do):DF->Option RES:=fun ρ=>(f ρ).map fun o=>.nx (ρ.set i (some (.own o none)))
theorem sP{K:Kq}{i:Nat}{f:Do}:∀E σ H,tS K (bt i f) E σ H->tX (tO K f) (jH i) E σ H:=fun E σ H=>un7 fun P F ρ r hg I k=>by
 unfold bt at hg;cases q:f ρ with
 |none=>rw[q]at hg;cases hg
 |some o=>
  rw[q]at hg;cases hg;exact⟨P,F,ρ,o,q,I,fun a F' H' ev ho=>k _ F' H' ev.ext (I.setN ev i ho)⟩
theorem bW{i:Nat}{x:Str}{pos':Pos}{f:Do}(hN:X.N.Nodup)(hi:X.N[i]?=some x)(hx:Loc X.env.scope x)(he:PDO X e f)(hs:swapsWith e (some (.Name x pos')) pos.line X.env=pure false:=by rfl)(hf:X.fn x=true\/X.env.scope.names.lookup x=some .local:=by first|exact .inl rfl|exact .inr rfl|assumption) :
  PD1 X (.Assign [.Name x pos'] e pos) (bt i f):=PS.imp (su hN hi hx he hs hf) sP
def jV(i:Nat)(g:Dw):DF->Option RES:=fun ρ=>match ρ[i]? with
 |some (some (.own o none))=>g (ρ.set i (some (.v o.d)))
 |some (some (.v d))=>g ρ
 |_=>none
theorem DInv.frz{K:Kq}{P F H:Hp}{ρ:DF}{σ:St}(I:DInv K P F H ρ σ){i:Nat}{o:OD}{t:Option Addr}(h:ρ[i]?=some (some (.own o t))):∃F',Same F F'/\DInv K P F' H (ρ.set i (some (.v o.d))) σ:=by
 obtain⟨O,hr⟩:=I.rep;have hn:∀b,(F b=none/\P b=none/\O b=some i)->F b=none:=fun b q=>q.1
 refine⟨r9 F H (fun b=>F b=none/\P b=none/\O b=some i),bS hn,⟨fun b u q=>?_,I.pro,fun b u q=>?_⟩,by rw[YY];exact I.len,O,fun j y hj=>?_⟩
 ·by_cases c:F b=none/\P b=none/\O b=some i
  ·rw[de (ow:=fun b=>F b=none/\P b=none/\O b=some i) c]at q;exact q
  ·rw[dZ (ow:=fun b=>F b=none/\P b=none/\O b=some i) c]at q;exact I.sub b u q
 ·rw[dZ (ow:=fun b=>F b=none/\P b=none/\O b=some i) fun c=>by rw[c.2.1]at q;cases q];exact I.dis b u q
 ·rcases c6 hj with⟨rfl,e,hl⟩|⟨hij,hj'⟩
  ·cases e;obtain⟨v,h1,a,rfl,h2,_⟩:=hr i _ h;exact⟨_,h1,h2.rep (bS hn) fun b u q hb=>by rw[de (ow:=fun b=>F b=none/\P b=none/\O b=some i) q];exact hb⟩
  ·obtain⟨v,h1,h2⟩:=hr j y hj';refine⟨v,h1,?_⟩;cases y with
   |v d=>exact Rep.same (bS hn) h2
   |own o' t'=>
    obtain⟨a,rfl,h3,ht⟩:=h2;exact⟨a,rfl,h3.mono (bS hn) fun b u q hb=>⟨hb,by
     rw[dZ (ow:=fun b=>F b=none/\P b=none/\O b=some i) fun c=>by rw[q.2.2]at c;exact hij (Yr c.2.2).symm];exact q.1,q.2⟩,ht⟩
   |bor o'=>
    obtain⟨a,rfl,h3⟩:=h2;exact⟨a,rfl,h3.mono (bS hn) fun b u q hb=>⟨hb,q⟩⟩
theorem yy{K:Kq}{i:Nat}{g:Dw}:∀E σ H,tS K (jV i g) E σ H->tS K g E σ H:=fun E σ H=>un7 fun P F ρ r hg I k=>by
 unfold jV at hg;split at hg
 ·rename_i o q;obtain⟨F',e,I'⟩:=I.frz q;exact⟨P,F',_,r,hg,I',k.ext e⟩
 ·exact⟨P,F,ρ,r,hg,I,k⟩
 ·cases hg
theorem iB(i:Nat){g:Dw}(h:PD1 X st g):PD1 X st (jV i g):=PS.imp h yy
def e_:DF->Option RES:=fun _=>none
theorem eB:PD1 X st e_:=PS.imp sS fun _ _ _ ⟨_,_,_,_,h,_⟩=>by cases h
def pZ(f:Dd):DF->Option RES:=fun ρ=>(f ρ).map fun _=>.nx ρ
theorem vg{f:Dd}(h:PDE X e f)(hs:swapsWith e none pos.line X.env=pure false:=by rfl):PD1 X (.Expr e pos) (pZ f):=PS.imp (cK h hs) fun E σ H=>un7 fun P F ρ r hg I k=>by
 unfold pZ at hg;cases q:f ρ with
 |none=>rw[q]at hg;cases hg
 |some d=>
  rw[q]at hg;cases hg;exact⟨P,F,ρ,d,q,I,fun v F' H' ev _=>k σ F' H' ev.ext (I.evo ev)⟩
def dIf(c:Dk)(g h:Dw):DF->Option RES:=fun ρ=>(c ρ).bind fun b=>if b=true then g ρ else h ρ
theorem br{c:Expr}{a b:List Stmt}{fc:Dk}{g h:Dw}(hc:PDT X c fc)(ha:PDS X a g)(hb:PDS X b h):PD1 X (.If c a b pos) (dIf fc g h):=PS.imp (AH hc ha hb) fun E σ H=>un7 fun P F ρ r hg I k=>by
 unfold dIf at hg;cases q:fc ρ with
 |none=>rw[q]at hg;cases hg
 |some b=>
  rw[q,Ya]at hg;refine⟨P,F,ρ,b,q,I,fun F' H' ev=>?_⟩;cases b with
  |true=>
   rw[Yi rfl]at hg ⊢;exact⟨P,F',ρ,r,hg,I.evo ev,k.ext ev.ext⟩
  |false=>
   rw[Yn Yk]at hg ⊢;exact⟨P,F',ρ,r,hg,I.evo ev,k.ext ev.ext⟩
def rm(K:Kq)(P:Hp)(J:It)(F:Hp)(ds:List D):Prop:=
 ∀F' H',Same F F'->DHp P F' H'->∀i:Nat,(∀d,ds[i]?=some d->J.go i H'/\∀x H2,J.yld i H' x H2->∃F2,Evo P F' H' F2 H2/\Rep K F2 x d)/\(ds.length<=i->J.stop i H')
def tI(K:Kq)(f:Dl):TI:=fun σ H R=>∃P F ρ ds,f ρ=some ds/\DInv K P F H ρ σ/\∀(J:It) F' H',Evo P F H F' H'->rm K P J F' ds->R J H'
def PDI(X:Cx)(tg iter:Expr)(f:Dl):Prop:=PI X tg iter (tI X.K f)
theorem PI.imp{tg iter:Expr}{t t':TI}(h:PI X tg iter t)(i:∀σ H R,t' σ H R->t σ H R):PI X tg iter t':=fun pz s σ H R I q=>h pz s σ H R I (i σ H R q)
def tG(K:Kq)(is:List Nat)(st:Dq):TG:=fun v σ H Q=>∃P F ρ d ρ',st d ρ=some ρ'/\DInv K P F H ρ σ/\Rep K F v d/\∀σ' F' H',Evo P F H F' H'->DInv K P F' H' ρ' σ'->σ'.length=σ.length->(∀j,j∉is->σ'[j]?=σ[j]?)->Q σ' H'
def PDG(X:Cx)(tg:Expr)(is:List Nat)(st:Dq):Prop:=PG X tg (tG X.K is st)
theorem PG.imp{tg:Expr}{t t':TG}(h:PG X tg t)(i:∀v σ H Q,t' v σ H Q->t v σ H Q):PG X tg t':=fun pz s σ H v u Q I r q=>h pz s σ H v u Q I r (i v σ H Q q)
theorem aN{i:Nat}{x:Str}(hN:X.N.Nodup)(hi:X.N[i]?=some x)(hx:Loc X.env.scope x)(hf:X.fn x=true\/X.env.scope.names.lookup x=some .local:=by first|exact .inl rfl|exact .inr rfl|assumption):PDG X (.Name x pos) [i] (setV i):=
 PG.imp (bh hN hi hx hf) fun v σ H Q hh_=>by
  obtain⟨P,F,ρ,d,ρ',hs,I,r,k⟩:=hh_;cases hs;exact k _ F H (Evo.refl I.toDHp) (I.setV i r) (YY ..) fun j hj=>by rw[YZ (fun z=>hj (by rw[z];exact List.mem_singleton_self _))]
def cE(st:Dq)(body:Dw):List D->DF->Option RES
 |[],ρ=>some (.nx ρ)
 |d::ds,ρ=>match st d ρ with
  |none=>none
  |some ρ1=>match body ρ1 with
   |some (.nx ρ')=>cE st body ds ρ'
   |some (.ct ρ')=>cE st body ds ρ'
   |some (.bk ρ')=>some (.nx ρ')
   |r=>r
def cb(it:Dl)(st:Dq)(body:Dw):DF->Option RES:=fun ρ=>(it ρ).bind fun ds=>cE st body ds ρ
theorem bO{tg iter:Expr}{body:List Stmt}{f:Dl}{is:List Nat}{st:Dq}{g:Dw}(hp:PassesOwn (model X.prog X.w) X.A X.env X.xe)(hc:X.calm=true)(hi:PDI X tg iter f)(hg:PDG X tg is st)(hb:PDS X body g)
  (hs:∀x,foldedSetIterable iter X.env x=pure x:=by intro _;rfl):PD1 X (.For tg iter body [] pos) (cb f st g):=PS.imp (yd hp hc hi hg hb hs) fun E σ H=>un7 fun P F ρ r hr I k=>by
 unfold cb at hr;cases q:f ρ with
 |none=>rw[q]at hr;cases hr
 |some ds=>
  rw[q,Ya]at hr;refine⟨P,F,ρ,ds,q,I,fun J F1 H1 ev ok=>?_⟩;refine⟨fun i m σ' H'=>m=ds.length-i/\i<=ds.length/\∃F' ρ',Same F1 F'/\DInv X.K P F' H' ρ' σ'/\cE st g (ds.drop i) ρ'=some r,⟨_,rfl,YT _,F1,ρ,Same.refl _,I.evo ev,hr⟩,?_⟩;rintro i m σ' H' ⟨rfl,hil,F',ρ',se,I',hf⟩;obtain⟨ok1,ok2⟩:=ok F' H' se I'.toDHp i;by_cases hlt:i<ds.length
  ·have hd:ds[i]?=some ds[i]:=Yg hlt;obtain⟨go,yl⟩:=ok1 _ hd;have hdrop:ds.drop i=ds[i]::ds.drop (i+1):=List.drop_eq_getElem_cons hlt;rw[hdrop]at hf;unfold cE at hf;cases hst:st ds[i] ρ' with
   |none=>rw[hst]at hf;cases hf
   |some ρ1=>
    rw[hst]at hf;dsimp only at hf;have hE:Same F F':=ev.ext.trans se;refine .inr ⟨go,fun σ2 H2=>∃F2 ρ2,Same F1 F2/\DInv X.K P F2 H2 ρ2 σ2/\cE st g (ds.drop (i+1)) ρ2=some r,fun σ2 H2 ⟨F2,ρ2,s2,I2,hf2⟩=>⟨ds.length-(i+1),by omega,rfl,hlt,F2,ρ2,s2,I2,hf2⟩,fun x H2 hy=>?_⟩;obtain⟨F2,ev2,rx⟩:=yl x H2 hy;refine⟨P,F2,ρ',ds[i],ρ1,hst,I'.evo ev2,rx,fun σ3 F3 H3 ev3 I3 _ _=>?_⟩;have s13:Same F1 F3:=se.trans (ev2.ext.trans ev3.ext);cases hb':g ρ1 with
    |none=>rw[hb']at hf;cases hf
    |some res=>
     rw[hb']at hf;refine⟨P,F3,ρ1,res,hb',I3,?_⟩;cases res with
     |nx ρ4=>exact fun σ4 F4 H4 e4 I4=>⟨F4,ρ4,s13.trans e4,I4,hf⟩
     |ct ρ4=>exact fun σ4 F4 H4 e4 I4=>⟨F4,ρ4,s13.trans e4,I4,hf⟩
     |bk ρ4=>
      cases hf;exact fun σ4 F4 H4 e4 I4=>k σ4 F4 H4 (ev.ext.trans (s13.trans e4)) I4
     |rt x4 ρ4=>
      cases hf;exact fun v4 σ4 F4 H4 e4 I4 r4=>k v4 σ4 F4 H4 (ev.ext.trans (s13.trans e4)) I4 r4
  ·have hz:ds.drop i=[]:=List.drop_eq_nil_of_le (by omega);rw[hz]at hf;cases hf;exact .inl ⟨ok2 (by omega),k σ' F' H' (ev.ext.trans se) I'⟩
def cy(c:Dk)(body:Dw):Nat->DF->Option RES
 |0,_=>none
 |n+1,ρ=>match c ρ with
  |none=>none
  |some false=>some (.nx ρ)
  |some true=>match body ρ with
   |some (.nx ρ')=>cy c body n ρ'
   |some (.ct ρ')=>cy c body n ρ'
   |some (.bk ρ')=>some (.nx ρ')
   |r=>r
theorem mV(n:Nat){c:Expr}{body:List Stmt}{fc:Dk}{g:Dw}(hp:PassesOwn (model X.prog X.w) X.A X.env X.xe)(hc:PDT X c fc)(hb:PDS X body g):PD1 X (.While c body [] pos) (cy fc g n):=PS.imp (tj hp hc hb) fun E σ H=>un7 fun P F ρ r hr I k=>by
 refine⟨fun m σ' H'=>∃F' ρ',Same F F'/\DInv X.K P F' H' ρ' σ'/\cy fc g m ρ'=some r,⟨n,F,ρ,Same.refl _,I,hr⟩,?_⟩;rintro m σ' H' ⟨F',ρ',se,I',hf⟩;cases m with
 |zero=>cases hf
 |succ m=>
  unfold cy at hf;cases hc':fc ρ' with
  |none=>rw[hc']at hf;cases hf
  |some b=>
   rw[hc']at hf;refine⟨P,F',ρ',b,hc',I',fun F2 H2 ev2=>?_⟩;cases b with
   |false=>
    rw[Yn Yk];cases hf;exact k σ' F2 H2 (se.trans ev2.ext) (I'.evo ev2)
   |true=>
    rw[Yi rfl];refine⟨fun σ3 H3=>∃F3 ρ3,Same F F3/\DInv X.K P F3 H3 ρ3 σ3/\cy fc g m ρ3=some r,fun σ3 H3 h=>⟨m,XE m,h⟩,?_⟩;have s2:Same F F2:=se.trans ev2.ext;dsimp only at hf;cases hb':g ρ' with
    |none=>rw[hb']at hf;cases hf
    |some res=>
     rw[hb']at hf;refine⟨P,F2,ρ',res,hb',I'.evo ev2,?_⟩;cases res with
     |nx ρ4=>exact fun σ4 F4 H4 e4 I4=>⟨F4,ρ4,s2.trans e4,I4,hf⟩
     |ct ρ4=>exact fun σ4 F4 H4 e4 I4=>⟨F4,ρ4,s2.trans e4,I4,hf⟩
     |bk ρ4=>
      cases hf;exact fun σ4 F4 H4 e4 I4=>k σ4 F4 H4 (s2.trans e4) I4
     |rt x4 ρ4=>
      cases hf;exact fun v4 σ4 F4 H4 e4 I4 r4=>k v4 σ4 F4 H4 (s2.trans e4) I4 r4
end
def gd(F H:Hp):Hp:=fun a=>match F a with
 |none=>H a
 |some _=>none
theorem fU{F H:Hp}{a:Addr}{o:HO}:gd F H a=some o↔F a=none/\H a=some o:=by
 unfold gd;cases q:F a with
 |none=>simp
 |some u=>simp
theorem g8{F H:Hp}(s:Same F H):DHp (gd F H) F H:=⟨s,fun a o e=>(fU.mp e).2,fun a o e=>(fU.mp e).1⟩
theorem DHp.gd{P F H F' H':Hp}(h:DHp P F H)(e:Same F F')(g:DHp (gd F H) F' H'):Evo P F H F' H' where
 ext:=e
 hp:=⟨g.sub,fun a o q=>g.pro a o (fU.mpr ⟨h.dis a o q,h.pro a o q⟩),fun a o q=>g.dis a o (fU.mpr ⟨h.dis a o q,h.pro a o q⟩)⟩
 keep:=fun a o q n=>⟨g.pro a o (fU.mpr ⟨n,q⟩),g.dis a o (fU.mpr ⟨n,q⟩)⟩
theorem Evo.change{P P1 F H F' H':Hp}(e:Evo P F H F' H')(h:DHp P1 F H):Evo P1 F H F' H':=
 ⟨e.ext,⟨e.hp.sub,fun a o q=>(e.keep a o (h.pro a o q) (h.dis a o q)).1,fun a o q=>(e.keep a o (h.pro a o q) (h.dis a o q)).2⟩,e.keep⟩
def xb:DV->Bool
 |.own _ _=>true
 |_=>false
inductive DVs (K:PySem.W.Frag) (P F H:Hp):List DV->List V->Prop
 |nil:DVs K P F H [] []
 |cons {x:DV}{v:V}{xs:List DV}{vs:List V}:xb x=false->DVRep K P F H om x v->DVs K P F H xs vs->DVs K P F H (x::xs) (v::vs)
theorem DVs.length{K:Kq}{P F H:Hp}{xs:List DV}{vs:List V}(h:DVs K P F H xs vs):xs.length=vs.length:=by
 induction h with
 |nil=>rfl
 |cons _ _ _ ih=>exact Zi Nat.succ ih
theorem DVs.get{K:Kq}{P F H:Hp}{xs:List DV}{vs:List V}{i:Nat}{x:DV}(h:DVs K P F H xs vs)(e:xs[i]?=some x):xb x=false/\∃v,vs[i]?=some v/\DVRep K P F H om x v:=by
 induction h generalizing i with
 |nil=>exact nomatch e
 |cons h r _ ih=>
  cases i with
  |zero=>obtain rfl:=Yr e;exact⟨h,_,rfl,r⟩
  |succ i=>exact ih e
def spD(K:Kq)(m:Dm):Sp:=fun vs H Q _=>∃P F xs x,m xs=some x/\DHp P F H/\DVs K P F H xs vs/\∀v F' H',Same F F'->DHp P F' H'->DVRep K P F' H' om x v->Q v H'
def aQ(n p:Nat)(xs:List DV):DF:=xs.map some++List.replicate (n-p) none
def dl:Option RES->Option DV
 |some (.rt x _)=>some x
 |some (.nx _)=>some (.v .non)
 |_=>none
def mOf(n p:Nat)(g:Dw):List DV->Option DV:=fun xs=>if xs.length=p then dl (g (aQ n p xs))else none
theorem fr{n p:Nat}{xs:List DV}{i:Nat}{x:DV}(h:(aQ n p xs)[i]?=some (some x)):xs[i]?=some x:=by
 unfold aQ at h;by_cases hi:i<xs.length
 ·rw[Zm (by simpa using hi),Yw]at h;cases q:xs[i]? with
  |none=>rw[q]at h;cases h
  |some y=>rw[q]at h;cases h;rfl
 ·rw[YW (by simpa using hi),ZR]at h;split at h<;>cases h
theorem cr{N:List Str}{vs:List V}{i:Nat}{v:V}(h:vs[i]?=some v):(start N vs)[i]?=some (some v):=by unfold start;have hi:i<vs.length:=(Yh.mp h).1;rw[Zm (by simpa using hi),Yw,h];rfl
theorem DInv.start{K:Kq}{P F H:Hp}{xs:List DV}{vs:List V}(N:List Str)(p:Nat)(h:DHp P F H)(r:DVs K P F H xs vs)(hp:xs.length=p):DInv K P F H (aQ N.length p xs) (start N vs):=by
 refine⟨h,?_,fun _=>none,fun i x e=>?_⟩
 ·unfold aQ L2.start;rw[Yj,Yj,Yb,Yb,Yz,Yz,r.length,<-r.length,hp]
 ·obtain⟨ho,v,h1,h2⟩:=r.get (fr e);refine⟨v,cr h1,?_⟩;cases x with
  |own o t=>cases ho
  |v d=>exact h2
  |bor o=>exact h2
theorem Fun.okD{P:Program}{w:World}{K:Kq}{mg:Ks}{base:Heap}{x qual:Str}{st:Stmt}{f:Addr}{fd:FuncData}{N ps:List Str}{k:Nat}{g:Dw}(F:Fun K x qual st f fd)(S:FnScope N ps (defScope st))
  (hbody:∀(cdv:Value) (A:Around) (outer:List Env) (s:Shared) (H:Hp) (E:XK),Room k (A.deeper (envOfC qual (defScope st) s.heap.objs.size f cdv))->
   PDS (lp CX0 P w K mg base N qual (defScope st) f cdv A outer s H E).nox (defBody st) g):FnOk P w K mg base CX0 (k+1) f fd ps (spD K (mOf N.length ps.length g)):=by
 have lens:∀vs H Q E,spD K (mOf N.length ps.length g) vs H Q E->vs.length=ps.length:=fun vs H Q E hh_=>by
  obtain⟨P',F',xs,x',hm,hp,hv,_⟩:=hh_;unfold mOf at hm;split at hm
  ·rename_i h;rw[<-hv.length];exact h
  ·cases hm
 refine F.ok S lens fun cdv A outer s H vs Q E hr h=>?_;refine⟨_,hbody cdv A outer s H E hr,?_⟩;obtain⟨P',F',xs,x',hm,hp,hv,hQ⟩:=h;unfold mOf at hm;split at hm
 ·rename_i hl;have I:DInv K P' F' H (aQ N.length ps.length xs) (start N vs):=DInv.start N ps.length hp hv hl;cases q:g (aQ N.length ps.length xs)with
  |none=>rw[q]at hm;cases hm
  |some r=>
   rw[q]at hm;refine⟨P',F',_,r,q,I,?_⟩;cases r with
   |rt y ρ=>cases hm;exact fun v σ F2 H2 e h r=>hQ v F2 H2 e h.toDHp r
   |nx ρ=>cases hm;exact fun σ F2 H2 e I2=>hQ .non F2 H2 e I2.toDHp .non
   |bk ρ=>cases hm
   |ct ρ=>cases hm
 ·cases hm
inductive ArgsS (K:PySem.W.Frag) (ρ:DF) (σ:St) (F:Hp):List DV->List V->Prop
 |nil:ArgsS K ρ σ F [] []
 |v {d:D}{v:V}{xs:List DV}{vs:List V}:Rep K F v d->ArgsS K ρ σ F xs vs->ArgsS K ρ σ F (.v d::xs) (v::vs)
 |b {o:OD}{v:V}{xs:List DV}{vs:List V} (i:Nat):σ[i]?=some (some v)->((∃t,ρ[i]?=some (some (.own o t)))\/ρ[i]?=some (some (.bor o)))->ArgsS K ρ σ F xs vs->ArgsS K ρ σ F (.bor o::xs) (v::vs)
theorem ArgsS.dvs{K:Kq}{P F H:Hp}{ρ:DF}{σ:St}(I:DInv K P F H ρ σ){xs:List DV}{vs:List V}(h:ArgsS K ρ σ F xs vs):DVs K (gd F H) F H xs vs:=by
 induction h with
 |nil=>exact .nil
 |v h _ ih=>exact .cons rfl h ih
 |b i h1 h2 _ ih=>
  obtain⟨a,rfl,h3⟩:=I.slot h1 h2;exact .cons rfl ⟨a,rfl,h3.mono (Same.refl _) fun b u q hb=>⟨fU.mpr ⟨q,hb⟩,trivial⟩⟩ ih
def tLV(K:Kq)(f:Dv):TA:=fun σ H Q=>∃P F ρ xs,f ρ=some xs/\DInv K P F H ρ σ/\∀vs F' H',Evo P F H F' H'->ArgsS K ρ σ F' xs vs->Q vs H'
def jW(X:Cx)(es:List Expr)(f:Dv):Prop:=PA X es (tLV X.K f)
section
variable{X:Cx}{e:Expr}{es:List Expr}{pos:Pos}
theorem ap:jW X [] (fun _=>some []):=PA.imp bp fun σ H Q=>un7 fun P F ρ xs hf I k=>by
 cases hf;exact k [] F H (Evo.refl I.toDHp) .nil
def aV(f:Dd)(g:Dv):DF->Option (List DV):=fun ρ=>(f ρ).bind fun d=>(g ρ).map fun xs=>.v d::xs
theorem ar{f:Dd}{g:Dv}(h:PDE X e f)(hr:jW X es g)(hs:starEach (e::es) X.env=(false,eval e X.env)::starEach es X.env:=by rfl):jW X (e::es) (aV f g):=PA.imp (aE h hr hs) fun σ H Q=>un7 fun P F ρ xs hf I k=>by
 unfold aV at hf;cases q:f ρ with
 |none=>rw[q]at hf;cases hf
 |some d=>
  rw[q,Ya]at hf;cases q2:g ρ with
  |none=>rw[q2]at hf;cases hf
  |some ys=>
   rw[q2]at hf;cases hf;exact⟨P,F,ρ,d,q,I,fun v F1 H1 e1 r1=>⟨P,F1,ρ,ys,q2,I.evo e1,fun vs F2 H2 e2 r2=>k (v::vs) F2 H2 (e1.trans e2) (.v (r1.same e2.ext) r2)⟩⟩
def aB(i:Nat)(g:Dv):DF->Option (List DV):=fun ρ=>match ρ[i]? with
 |some (some (.own o _))=>(g ρ).map fun xs=>.bor o::xs
 |some (some (.bor o))=>(g ρ).map fun xs=>.bor o::xs
 |some (some (.v d))=>(g ρ).map fun xs=>.v d::xs
 |_=>none
theorem aT(i:Nat){g:Dv}(h:PE X e (cG i))(hr:jW X es g)(hs:starEach (e::es) X.env=(false,eval e X.env)::starEach es X.env:=by rfl):jW X (e::es) (aB i g):=PA.imp (aE h hr hs) fun σ H Q=>un7 fun P F ρ xs hf I k=>by
 unfold aB at hf;split at hf
 ·rename_i o t q;obtain⟨v,h1,h2⟩:=I.at q;cases q2:g ρ with
  |none=>rw[q2]at hf;cases hf
  |some ys=>
   rw[q2]at hf;cases hf;exact⟨v,h1,P,F,ρ,ys,q2,I,fun vs F2 H2 e2 r2=>k (v::vs) F2 H2 e2 (.b i h1 (.inl ⟨t,q⟩) r2)⟩
 ·rename_i o q;obtain⟨v,h1,h2⟩:=I.at q;cases q2:g ρ with
  |none=>rw[q2]at hf;cases hf
  |some ys=>
   rw[q2]at hf;cases hf;exact⟨v,h1,P,F,ρ,ys,q2,I,fun vs F2 H2 e2 r2=>k (v::vs) F2 H2 e2 (.b i h1 (.inr q) r2)⟩
 ·rename_i d q;obtain⟨v,h1,h2⟩:=I.at q;cases q2:g ρ with
  |none=>rw[q2]at hf;cases hf
  |some ys=>
   rw[q2]at hf;cases hf;exact⟨v,h1,P,F,ρ,ys,q2,I,fun vs F2 H2 e2 r2=>k (v::vs) F2 H2 e2 (.v (Rep.same e2.ext h2) r2)⟩
 ·cases hf
def dvD:DV->Option D
 |.v d=>some d
 |.own o _=>some o.d
 |.bor _=>none
def aj(m:Dm)(g:Dv):DF->Option D:=fun ρ=>(g ρ).bind fun xs=>(m xs).bind dvD
def dvO:DV->Option OD
 |.own o _=>some o
 |_=>none
def gm(m:Dm)(g:Dv):DF->Option OD:=fun ρ=>(g ρ).bind fun xs=>(m xs).bind dvO
theorem ya{F H:Hp}{F':Hp}{a:Addr}(e:Same F F')(h1:F' a=none)(h2:gd F H a=none):H a=none:=by
 unfold gd at h2;have:F a=none:=by
  cases q:F a with
  |none=>rfl
  |some o=>rw[e a o q]at h1;cases h1
 rw[this]at h2;exact h2
theorem lJ{K:Kq}{F1 H1 F2 H2:Hp}{o:OD}{a:Addr}(e2:Same F1 F2)(h:ORep K F2 H2 (fun b=>F2 b=none/\gd F1 H1 b=none/\om b) o a):ORep K F2 H2 (fun b=>H1 b=none/\F2 b=none) o a:=
 h.mono (Same.refl _) fun b u q hb=>⟨hb,ya e2 q.1 q.2.1,q.1⟩
theorem vB{K:Kq}{m:Dm}{g:Dv}{E:XK}:∀σ H Q,tD K (aj m g) σ H Q->uZ (spD K m) [] E (tLV K g) σ H Q:=fun σ H Q=>un7 fun P F ρ d hf I k=>by
 unfold aj at hf;cases q:g ρ with
 |none=>rw[q]at hf;cases hf
 |some xs=>
  rw[q,Ya]at hf;cases q2:m xs with
  |none=>rw[q2]at hf;cases hf
  |some x=>
   rw[q2,Ya]at hf;refine⟨P,F,ρ,xs,q,I,fun vs F1 H1 e1 r1=>?_⟩;have I1:=I.evo e1;refine⟨gd F1 H1,F1,xs,x,q2,g8 I1.sub,by rw[Ze];exact r1.dvs I1,fun v F2 H2 e2 hp2 r2=>?_⟩;have ev:Evo P F1 H1 F2 H2:=I1.toDHp.gd e2 hp2;cases x with
   |v d'=>cases hf;exact k v F2 H2 (e1.trans ev) r2
   |own o t=>
    cases hf;obtain⟨a,rfl,ho,_⟩:=r2;have ho':=lJ e2 ho;exact k _ _ H2 (e1.trans (ev.freeze I1.toDHp (fun b=>H1 b=none/\F2 b=none) fun _ q=>q)) (ho'.rep (bS fun b q=>q.2) fun b u q hb=>by rw[de q];exact hb)
   |bor o=>cases hf
theorem va{K:Kq}{m:Dm}{g:Dv}{E:XK}:∀σ H Q,tO K (gm m g) σ H Q->uZ (spD K m) [] E (tLV K g) σ H Q:=fun σ H Q=>un7 fun P F ρ d hf I k=>by
 unfold gm at hf;cases q:g ρ with
 |none=>rw[q]at hf;cases hf
 |some xs=>
  rw[q,Ya]at hf;cases q2:m xs with
  |none=>rw[q2]at hf;cases hf
  |some x=>
   rw[q2,Ya]at hf;refine⟨P,F,ρ,xs,q,I,fun vs F1 H1 e1 r1=>?_⟩;have I1:=I.evo e1;refine⟨gd F1 H1,F1,xs,x,q2,g8 I1.sub,by rw[Ze];exact r1.dvs I1,fun v F2 H2 e2 hp2 r2=>?_⟩;have ev:Evo P F1 H1 F2 H2:=I1.toDHp.gd e2 hp2;cases x with
   |own o t=>
    cases hf;obtain⟨a,rfl,ho,_⟩:=r2;exact k a F2 H2 (e1.trans ev) ((lJ e2 ho).mono (Same.refl _) fun b u q hb=>⟨hb,e1.back I.toDHp q.1,q.2⟩)
   |_=>cases hf
section
variable{k:Nat}{f:Addr}{fd:FuncData}{ps:List Str}{m:Dm}{x:Str}{p:Pos}{g:Dv}
theorem aq(F:FnOk X.prog X.w X.K X.mg X.base CX0 k f fd ps (spD X.K m))(hr:Room k X.A)(hg:Gl X x)(hm:X.mg x=some (.ref f))(hk:PySem.W.keepIn X.K (.ref f)=true)(hb:Binds X.K fd ps [])(ha:jW X (e::es) g)
  (hd:(x == ("__debug__":Str))=false:=by decide) (he:starEach (e::es) X.env=(false,eval e X.env)::starEach es X.env:=by rfl) (hpl:(backTo pos (starEach es X.env)).any (·.1)=false:=by rfl):PDE X (.Call (.Name x p) (e::es) [] pos) (aj m g):=
 (gt F hr hg hm hk hb .nil ig ha hd he hpl).imp vB
theorem mm(F:FnOk X.prog X.w X.K X.mg X.base CX0 k f fd ps (spD X.K m))(hr:Room k X.A)(hg:Gl X x)(hm:X.mg x=some (.ref f))(hk:PySem.W.keepIn X.K (.ref f)=true)(hb:Binds X.K fd ps [])(ha:jW X (e::es) g)
  (hd:(x == ("__debug__":Str))=false:=by decide) (he:starEach (e::es) X.env=(false,eval e X.env)::starEach es X.env:=by rfl) (hpl:(backTo pos (starEach es X.env)).any (·.1)=false:=by rfl):PDO X (.Call (.Name x p) (e::es) [] pos) (gm m g):=
 (gt F hr hg hm hk hb .nil ig ha hd he hpl).imp va
end
end
def rE:Option DV->Option DV
 |some (.v d)=>some (.v d)
 |some (.own o _)=>some (.bor o)
 |some (.bor o)=>some (.bor o)
 |_=>none
def eC(own:Nat)(ix:List Nat)(ρ:DF):DF:=List.replicate own none++ix.map fun j=>rE (ρ[j]?).join
def c8(st:Dq)(c:Dk)(e:Dd)(ρ:DF):List D->Option (List D)
 |[]=>some []
 |d::ds=>(st d ρ).bind fun ρ1=>(c ρ1).bind fun b=>if b=true then(e ρ1).bind fun y=>(c8 st c e ρ ds).map fun r=>y::r else c8 st c e ρ ds
def aS(own:Nat)(ix:List Nat)(it:Dl)(st:Dq)(c:Dk)(e:Dd):DF->Option (List D):=
 fun ρ=>(it ρ).bind fun ds=>if ds.length<=16777216 then c8 st c e (eC own ix ρ) ds else none
def bC:DF->Option Bool:=fun _=>some true
theorem lW{own:Nat}{ix:List Nat}{ρ:DF}{i:Nat}{x:DV}(h:(eC own ix ρ)[i]?=some (some x)):own<=i/\∃j y,ix[i-own]?=some j/\ρ[j]?=some (some y)/\rE (some y)=some x:=by
 unfold eC at h;by_cases hi:i<own
 ·rw[Zm (by rw[Yz];exact hi),ZR,Yi hi]at h;cases h
 ·rw[YW (by rw[Yz];omega),Yz,Yw]at h;refine⟨by omega,?_⟩;cases q:ix[i-own]? with
  |none=>rw[q]at h;cases h
  |some j=>
   rw[q,ZF]at h;have h':=Yr h;cases q2:ρ[j]? with
   |none=>rw[q2]at h';cases h'
   |some o=>
    rw[q2,Option.join_some]at h';cases o with
    |none=>cases h'
    |some y=>exact⟨j,y,rfl,q2,h'⟩
theorem u5{own:Nat}{ix:List Nat}{σ:St}{i j:Nat}{v:V}(hi:own<=i)(h:ix[i-own]?=some j)(hv:σ[j]?=some (some v)):(cP own ix σ)[i]?=some (some v):=by unfold cP;rw[YW (by rw[Yz];exact hi),Yz,Yw,h,ZF,hv];rfl
theorem DInv.cap{K:Kq}{P F H:Hp}{ρ:DF}{σ:St}(I:DInv K P F H ρ σ)(own:Nat)(ix:List Nat):DInv K (gd F H) F H (eC own ix ρ) (cP own ix σ):=by
 refine⟨g8 I.sub,?_,fun _=>none,fun i x h=>?_⟩
 ·rw[e6];unfold eC;rw[Yj,Yz,Yb]
 ·obtain⟨hi,j,y,h1,h2,h3⟩:=lW h;obtain⟨v,q1,q2⟩:=I.at h2;refine⟨v,u5 hi h1 q1,?_⟩;have bo:∀o,((∃t,ρ[j]?=some (some (.own o t)))\/ρ[j]?=some (some (.bor o)))->DVRep K (gd F H) F H (fun b=>none=some i) (.bor o) v:=fun o ho=>by
   obtain⟨a,rfl,h3⟩:=I.slot q1 ho;exact⟨a,rfl,h3.mono (Same.refl _) fun b u q hb=>⟨fU.mpr ⟨q,hb⟩,trivial⟩⟩
  cases y with
  |v d=>cases h3;exact q2
  |own o t=>cases h3;exact bo o (.inl ⟨t,h2⟩)
  |bor o=>cases h3;exact bo o (.inr h2)
theorem ud{K:Kq}{G F H F2 H2:Hp}{own:Nat}{ix:List Nat}{ρ:DF}{τ:St}(B:DInv K G F H (eC own ix ρ) τ)(e:Same F F2)(hp:DHp G F2 H2):DInv K G F2 H2 (eC own ix ρ) τ:=by
 obtain⟨O,h⟩:=B.rep;refine⟨hp,B.len,O,fun i x hx=>?_⟩;obtain⟨v,h1,h2⟩:=h i x hx;refine⟨v,h1,?_⟩;cases x with
 |v d=>exact Rep.same e h2
 |bor o=>obtain⟨a,rfl,h3⟩:=h2;exact⟨a,rfl,h3.mono e fun b u q hb=>⟨hb,q⟩⟩
 |own o t=>(obtain⟨_,j,y,_,_,h3⟩:=lW hx;cases y<;>cases h3)
section
variable{X:Cx}{elt tg iter:Expr}{ifs:List Expr}{scope:Scope}{pos:Pos}{N:List Str}{own:Nat}{ix is:List Nat}{f:Dl}{st:Dq}{c:Dk}{e:Dd}
theorem lE{K:Kq}(his:∀j∈is,j<own):∀σ H Q,tO K (asL (aS own ix f st c e)) σ H Q->um own ix (tI K f) (tG K is st) (tB' K c) (tD K e) σ H Q:=fun σ H Q=>un7 fun P F ρ ob hf I k=>by
 unfold asL at hf;cases hout:aS own ix f st c e ρ with
 |none=>rw[hout]at hf;cases hf
 |some out=>
 rw[hout]at hf;cases hf;have hf:=hout;unfold aS at hf;cases q:f ρ with
 |none=>rw[q]at hf;cases hf
 |some ds=>
  rw[q,Ya]at hf;split at hf
  rotate_left
  ·cases hf
  rename_i hlen;refine⟨P,F,ρ,ds,q,I,fun J F1 H1 ev ok acc hacc=>?_⟩;have I1:=I.evo ev;have hp1:DHp (gd F1 H1) F1 H1:=g8 I1.sub;have hg:gd F1 H1 acc=none:=by unfold gd;rw[I1.sub.free hacc];exact hacc
  have B1:DInv K (gd F1 H1) F1 H1 (eC own ix ρ) (cP own ix σ):=I1.cap own ix;have hP:∀{F' H':Hp},Same F1 F'->DHp (gd F1 H1) F' H'->DHp P F' H':=fun s h=>(I1.toDHp.gd s h).hp
  refine⟨fun i m ys H'=>m=ds.length-i/\i<=ds.length/\∃F',Same F1 F'/\DHp (gd F1 H1) F' H'/\F' acc=none/\H' acc=some (.lst ys)/\ys.length<=i/\∃pre,Reps K F' ys pre/\(c8 st c e (eC own ix ρ) (ds.drop i)).map (fun r=>pre++r)=some out,
   ⟨_,rfl,YT _,F1,Same.refl _,(Evo.side hp1 hacc).hp,I1.sub.free hacc,aR,Ym _,[],.nil,by rw[List.drop_zero,hf];rfl⟩,?_⟩
  rintro i m ys H' ⟨rfl,hi,F',se,hp',fa,ha,hy,pre,rp,hm⟩;obtain⟨ok1,ok2⟩:=ok F' H' se (hP se hp') i;by_cases hlt:i<ds.length
  ·have hd:ds[i]?=some ds[i]:=Yg hlt;obtain⟨go,yl⟩:=ok1 _ hd;have hdrop:ds.drop i=ds[i]::ds.drop (i+1):=List.drop_eq_getElem_cons hlt;rw[hdrop]at hm;unfold c8 at hm;cases hst:st ds[i] (eC own ix ρ)with
   |none=>rw[hst]at hm;cases hm
   |some ρ1=>
    rw[hst,Ya]at hm;refine .inr ⟨go,fun ys' H2=>∃F2,Same F1 F2/\DHp (gd F1 H1) F2 H2/\F2 acc=none/\H2 acc=some (.lst ys')/\ys'.length<=i+1/\∃pre',Reps K F2 ys' pre'/\(c8 st c e (eC own ix ρ) (ds.drop (i+1))).map (fun r=>pre'++r)=some out,
     fun ys' H2 h=>⟨ds.length-(i+1),by omega,rfl,hlt,h⟩,fun x H2 hyl=>?_⟩
    obtain⟨F2,ev2,rx⟩:=yl x H2 hyl;have ev2':Evo (gd F1 H1) F' H' F2 H2:=ev2.change hp';obtain⟨a2,fa2⟩:=ev2'.keep acc _ ha fa;have B2:DInv K (gd F1 H1) F2 H2 (eC own ix ρ) (cP own ix σ):=ud B1 (se.trans ev2.ext) ev2'.hp;refine⟨gd F1 H1,F2,eC own ix ρ,ds[i],ρ1,hst,B2,rx,fun σ3 F3 H3 ev3 I3 hl3 hσ=>?_⟩;refine⟨⟨?_,fun j v hj=>?_⟩,?_⟩
    ·rw[hl3,e6]
    ·rw[hσ j]
     ·exact hj
     ·intro hj';obtain⟨ho,_⟩:=j8 hj;have:=his j hj';omega
    obtain⟨a3,fa3⟩:=ev3.keep acc _ a2 fa2;cases hc:c ρ1 with
    |none=>rw[hc]at hm;cases hm
    |some b=>
     rw[hc,Ya]at hm;refine⟨gd F1 H1,F3,ρ1,b,hc,I3,fun F4 H4 ev4=>?_⟩;obtain⟨a4,fa4⟩:=ev4.keep acc _ a3 fa3;have s14:Same F' F4:=ev2.ext.trans (ev3.ext.trans ev4.ext);cases b with
     |false=>
      rw[Yn Yk]at hm ⊢;exact⟨F4,se.trans s14,ev4.hp,fa4,a4,by omega,pre,rp.same s14,hm⟩
     |true=>
      rw[Yi rfl]at hm ⊢;cases he:e ρ1 with
      |none=>rw[he]at hm;cases hm
      |some y=>
       rw[he,Ya]at hm;refine⟨gd F1 H1,F4,ρ1,y,he,I3.evo ev4,fun v F5 H5 ev5 rv=>?_⟩;obtain⟨a5,fa5⟩:=ev5.keep acc _ a4 fa4;have s15:Same F' F5:=s14.trans ev5.ext;refine⟨a5,by rw[YQ];omega,F5,se.trans s15,⟨fun b u h=>by rw[aA (aO h fa5)];exact ev5.hp.sub b u h,fun b u h=>by rw[aA (aO h hg)];exact ev5.hp.pro b u h,ev5.hp.dis⟩,fa5,aR,by rw[Yj,YD];omega,pre++[y],(rp.same s15).append (.one rv),?_⟩;cases hmm:c8 st c e (eC own ix ρ) (ds.drop (i+1))with
       |none=>rw[hmm]at hm;cases hm
       |some r=>
        rw[hmm]at hm;simp only[ZF]at hm ⊢;rw[Zt];exact hm
  ·have hz:ds.drop i=[]:=List.drop_eq_nil_of_le (by omega);rw[hz]at hm;unfold c8 at hm;rw[ZF,Ze]at hm;cases hm;exact .inl ⟨ok2 (by omega),k acc F' H' (ev.trans (I1.toDHp.gd se hp')) ⟨⟨ev.back I.toDHp hacc,fa⟩,_,ha,rp⟩⟩
theorem bQ(hcalm:X.calm=true)(b:BlkScope X scope)(cp:Caps X scope N own ix)(his:∀j∈is,j<own)(hi:PDI X tg iter f)
  (hg:∀s H fp pz,PDG (blk X scope N s H fp pz) tg is st) (hc:∀s H fp pz,jQ (blk X scope N s H fp pz) ifs (tB' X.K c)) (he:∀s H fp pz,PDE (blk X scope N s H fp pz) elt e)
  (hnames:∀y∈scope.names,y.2=.local->scope.names.lookup y.1=some .local:=by decide)
  (hs:∀x,foldedSetIterable iter X.env x=pure x:=by intro _;rfl):PDO X (.ListComp elt [⟨tg,iter,ifs,0⟩] scope pos) (asL (aS own ix f st c e)):=
 (vM (g:=tG X.K is st) (tc:=tB' X.K c) (te:=tD X.K e) hcalm b cp hi hg hc he hnames hs).imp (lE his)
end
section
variable{X:Cx}{e a b c:Expr}{es:List Expr}{pos:Pos}
def A9(n:Nat)(f:Dl):Prop:=∀ρ ds,f ρ=some ds->ds.length=n
def PDL(X:Cx)(es:List Expr)(n:Nat)(f:Dl):Prop:=PDA X es f/\A9 n f
def aD:DF->Option (List D):=fun _=>some []
def ag(f:Dd)(g:Dl):DF->Option (List D):=fun ρ=>(f ρ).bind fun d=>(g ρ).map fun r=>d::r
theorem ax:PDL X [] 0 aD:=⟨PA.imp bp fun σ H Q=>un7 fun P F ρ xs hf I k=>by
 cases hf;exact k [] F H (Evo.refl I.toDHp) .nil,fun ρ ds h=>by cases h;rfl⟩
theorem ah{f:Dd}{n:Nat}{g:Dl}(h:PDE X e f)(hr:PDL X es n g)(hs:starEach (e::es) X.env=(false,eval e X.env)::starEach es X.env:=by rfl):PDL X (e::es) (n+1) (ag f g):=
 ⟨PA.imp (aE h hr.1 hs) fun σ H Q=>un7 fun P F ρ xs hf I k=>by
  unfold ag at hf;cases q:f ρ with
  |none=>rw[q]at hf;cases hf
  |some d=>
   rw[q,Ya]at hf;cases q2:g ρ with
   |none=>rw[q2]at hf;cases hf
   |some ys=>
    rw[q2]at hf;cases hf;exact⟨P,F,ρ,d,q,I,fun v F1 H1 e1 r1=>⟨P,F1,ρ,ys,q2,I.evo e1,fun vs F2 H2 e2 r2=>k (v::vs) F2 H2 (e1.trans e2) (.cons (r1.same e2.ext) r2)⟩⟩,fun ρ ds hf=>by
  unfold ag at hf;cases q:f ρ with
  |none=>rw[q]at hf;cases hf
  |some d=>
   rw[q,Ya]at hf;cases q2:g ρ with
   |none=>rw[q2]at hf;cases hf
   |some ys=>
    rw[q2]at hf;cases hf;rw[Yu,hr.2 ρ ys q2]⟩
def asT(f:Dl):DF->Option D:=fun ρ=>(f ρ).map .tup
theorem ba{x1}{n:Nat}{f:Dl}(h:PDL X es n f)(hn:n<=16777216:=by decide):PDE X (.Tuple es x1 pos) (asT f):=(zD h.1).imp fun σ H Q=>un7 fun P F ρ d hf I k=>by
 unfold asT at hf;cases q:f ρ with
 |none=>rw[q]at hf;cases hf
 |some ds=>
  rw[q]at hf;cases hf;refine⟨P,F,ρ,ds,q,I,fun vs F1 H1 e1 r1=>⟨by rw[r1.length,h.2 ρ ds q,YQ];exact hn,fun p hp=>?_⟩⟩;exact k (.ref p) _ _ (e1.trans (Evo.laid e1.hp hp)) (.tup aR (r1.same (fG (e1.hp.free hp).1)))
theorem bM{n:Nat}{f:Dl}(h:PDL X es n f)(hn:n<=16777216:=by decide):PDO X (.List es pos) (asL f):=(xY h.1).imp fun σ H Q=>un7 fun P F ρ ob hf I k=>by
 unfold asL at hf;cases q:f ρ with
 |none=>rw[q]at hf;cases hf
 |some ds=>
 rw[q]at hf;cases hf;refine⟨P,F,ρ,ds,q,I,fun vs F1 H1 e1 r1=>⟨by rw[r1.length,h.2 ρ ds q,YQ];exact hn,fun p hp=>?_⟩⟩;exact k p F1 _ (e1.trans (Evo.side e1.hp hp)) ⟨⟨e1.back I.toDHp hp,(e1.hp.free hp).1⟩,_,aR,r1⟩
theorem Reps.atI{K:Kq}{F:Hp}{vs:List V}{ds:List D}{i:Int}{d:D}(r:Reps K F vs ds)(h:atI ds i=some d):∃v,atI vs i=some v/\Rep K F v d:=by
 unfold L2.atI at h ⊢;rw[r.length];cases q:ixN ds.length i with
 |none=>rw[q]at h;cases h
 |some j=>
  rw[q,Ya]at h;obtain⟨v,h1,h2⟩:=r.get h;exact⟨v,h1,h2⟩
def ixD:D->D->Option D
 |.lst ds,.int i=>atI ds i
 |.tup ds,.int i=>atI ds i
 |.str z,.int i=>if z.length<=16777216 then(atI z.cps.toList i).map fun c=>.str ⟨#[c]⟩else none
 |_,_=>none
theorem By{K:Kq}:mP K (rIx K) ixD:=by
 intro P F H ρ σ x y dx dy d Q hf I rx ry k;unfold ixD at hf;split at hf
 ·obtain⟨p,vs,rfl,h1,h2⟩:=c9 I rx;obtain⟨v,h3,h4⟩:=h2.atI hf;exact .inl ⟨p,vs,_,v,rfl,ck ry,h1,h3,k v F H (Evo.refl I.toDHp) h4⟩
 ·obtain⟨p,vs,rfl,h1,h2⟩:=fT I rx;obtain⟨v,h3,h4⟩:=h2.atI hf;exact .inr (.inl ⟨p,vs,_,v,rfl,ck ry,h1,h3,k v F H (Evo.refl I.toDHp) h4⟩)
 ·split at hf
  ·rename_i z i hz;cases q:atI z.cps.toList i with
   |none=>rw[q]at hf;cases hf
   |some c=>
    rw[q]at hf;cases hf;exact .inr (.inr ⟨z,i,c,iC rx,ck ry,by rw[YQ];exact hz,q,k _ F H (Evo.refl I.toDHp) .str⟩)
  ·cases hf
 ·cases hf
theorem aL{fa fb:Dd}(ha:PDR X a fa)(hb:PDR X b fb)(hs:iw b:=by exact fun _ _=>rfl):PDE X (.Subscript a b pos) (d2 ixD fa fb):=(sf o6 ha hb hs).imp (lK By)
def Ba:R2:=fun x y H Q=>(∃i j,x=.int i/\y=.int j/\Q (.int (i+j)) H)\/∃i j,x=.str i/\y=.str j/\i.length+j.length<=sizeLine/\Q (.str (i++j)) H
theorem r8{fa fb:Dd}(ha:PDR X a fa)(hb:PDR X b fb):PDE X (.Compare a [.Gt] [b] pos) (d2 gtI fa fb):=r_ xk (iy fun _ _ _=>.bl) ha hb (eJ _)
theorem Ad{fa fb:Dd}(ha:PDR X a fa)(hb:PDR X b fb):PDE X (.Compare a [.GtE] [b] pos) (d2 geI fa fb):=r_ Aq (iy fun _ _ _=>.bl) ha hb (eJ _)
theorem eQ{fa fb:Dd}(ha:PDR X a fa)(hb:PDR X b fb):PDT X (.Compare a [.Gt] [b] pos) (asB (d2 gtI fa fb)):=vT xk (iy fun _ _ _=>.bl) ha hb (eJ _)
def cR(f g:Dk):DF->Option Bool:=fun ρ=>(f ρ).bind fun b=>if b=true then g ρ else some false
def orT(f g:Dk):DF->Option Bool:=fun ρ=>(f ρ).bind fun b=>if b=true then some true else g ρ
def bX(f:Dk):DF->Option Bool:=fun ρ=>(f ρ).map fun b=>!b
def PDW(X:Cx)(e:Expr)(f:Dk):Prop:=PW X e (tB' X.K f)
theorem PDW.t{f:Dk}(h:PDW X e f):PDT X e f:=PW.pt h
theorem PW.imp{t t':TT}(h:PW X e t)(i:∀σ H Q,t' σ H Q->t σ H Q):PW X e t':=fun w pz s σ H Q I q=>h w pz s σ H Q I (i σ H Q q)
theorem cN{f:Dk}(h:PDT X a f):PDW X (.BoolOp .And [a] pos) f:=vo h
theorem dR{f:Dk}(h:PDT X a f):PDW X (.BoolOp .Or [a] pos) f:=xU h
theorem cJ{bP:List Expr}{f g:Dk}(ha:PDT X a f)(hb:PDW X (.BoolOp .And (b::bP) pos) g):PDW X (.BoolOp .And (a::b::bP) pos) (cR f g):=PW.imp (yT ha hb) fun σ H Q=>un7 fun P F ρ r hf I k=>by
 unfold cR at hf;cases q:f ρ with
 |none=>rw[q]at hf;cases hf
 |some x=>
  rw[q,Ya]at hf;refine⟨P,F,ρ,x,q,I,fun F1 H1 e1=>?_⟩;cases x with
  |true=>rw[Yi rfl]at hf ⊢;exact⟨P,F1,ρ,r,hf,I.evo e1,fun F2 H2 e2=>k F2 H2 (e1.trans e2)⟩
  |false=>rw[Yn Yk]at hf ⊢;cases hf;exact k F1 H1 e1
theorem fC{bP:List Expr}{f g:Dk}(ha:PDT X a f)(hb:PDW X (.BoolOp .Or (b::bP) pos) g):PDW X (.BoolOp .Or (a::b::bP) pos) (orT f g):=PW.imp (A4 ha hb) fun σ H Q=>un7 fun P F ρ r hf I k=>by
 unfold orT at hf;cases q:f ρ with
 |none=>rw[q]at hf;cases hf
 |some x=>
  rw[q,Ya]at hf;refine⟨P,F,ρ,x,q,I,fun F1 H1 e1=>?_⟩;cases x with
  |true=>rw[Yi rfl]at hf ⊢;cases hf;exact k F1 H1 e1
  |false=>rw[Yn Yk]at hf ⊢;exact⟨P,F1,ρ,r,hf,I.evo e1,fun F2 H2 e2=>k F2 H2 (e1.trans e2)⟩
theorem cM{f:Dk}(ha:PDT X a f):PDT X (.UnaryOp .Not a pos) (bX f):=(xR ha).imp fun σ H Q=>un7 fun P F ρ r hf I k=>by
 unfold bX at hf;cases q:f ρ with
 |none=>rw[q]at hf;cases hf
 |some x=>rw[q]at hf;cases hf;exact⟨P,F,ρ,x,q,I,fun F1 H1 e1=>k F1 H1 e1⟩
def ln(f g:Dd):DF->Option D:=fun ρ=>match f ρ with
 |some (.bl true)=>g ρ
 |some (.bl false)=>some (.bl false)
 |_=>none
def orV(f g:Dd):DF->Option D:=fun ρ=>match f ρ with
 |some (.bl false)=>g ρ
 |some (.bl true)=>some (.bl true)
 |_=>none
def wI(f:Dd):DF->Option D:=fun ρ=>match f ρ with
 |some (.bl b)=>some (.bl (!b))
 |_=>none
theorem i7{op}{f:Dd}(h:PDE X a f):PDE X (.BoolOp op [a] pos) f:=yC h
theorem gC{bP:List Expr}{f g:Dd}(ha:PDE X a f)(hb:PDE X (.BoolOp .And (b::bP) pos) g):PDE X (.BoolOp .And (a::b::bP) pos) (ln f g):=(yq ha hb).imp fun σ H Q=>un7 fun P F ρ r hf I k=>by
 unfold ln at hf;split at hf
 ·rename_i q;refine⟨P,F,ρ,_,q,I,fun v F1 H1 e1 r1=>?_⟩;cases r1;exact⟨true,rfl,by rw[Yi rfl];exact⟨P,F1,ρ,r,hf,I.evo e1,fun v F2 H2 e2 r2=>k v F2 H2 (e1.trans e2) r2⟩⟩
 ·rename_i q;refine⟨P,F,ρ,_,q,I,fun v F1 H1 e1 r1=>?_⟩;cases r1;cases hf;exact⟨false,rfl,by rw[Yn Yk];exact k _ F1 H1 e1 .bl⟩
 ·cases hf
theorem yj{f:Dd}(ha:PDE X a f):PDE X (.UnaryOp .Not a pos) (wI f):=(yk ha).imp fun σ H Q=>un7 fun P F ρ r hf I k=>by
 unfold wI at hf;split at hf
 ·rename_i q;cases hf;refine⟨P,F,ρ,_,q,I,fun v F1 H1 e1 r1=>?_⟩;cases r1;exact⟨_,rfl,k _ F1 H1 e1 .bl⟩
 ·cases hf
def ifV(c:Dk)(f g:Dd):DF->Option D:=fun ρ=>(c ρ).bind fun b=>if b=true then f ρ else g ρ
theorem uK{fc:Dk}{f g:Dd}(hc:PDT X c fc)(ha:PDE X a f)(hb:PDE X b g):PDE X (.IfExp c a b pos) (ifV fc f g):=(uj hc ha hb).imp fun σ H Q=>un7 fun P F ρ r hf I k=>by
 unfold ifV at hf;cases q:fc ρ with
 |none=>rw[q]at hf;cases hf
 |some x=>
  rw[q,Ya]at hf;refine⟨P,F,ρ,x,q,I,fun F1 H1 e1=>?_⟩;cases x with
  |true=>rw[Yi rfl]at hf ⊢;exact⟨P,F1,ρ,r,hf,I.evo e1,fun v F2 H2 e2 r2=>k v F2 H2 (e1.trans e2) r2⟩
  |false=>rw[Yn Yk]at hf ⊢;exact⟨P,F1,ρ,r,hf,I.evo e1,fun v F2 H2 e2 r2=>k v F2 H2 (e1.trans e2) r2⟩
def Bz(K:Kq)(r:List V->Hp->VK->Prop)(f:D->Option D):Prop:=
 ∀(P F H:Hp) (ρ:DF) (σ:St) (x:V) (dx d:D) (Q:VK),f dx=some d->DInv K P F H ρ σ->RepS K H F x dx->(∀v F' H',Evo P F H F' H'->Rep K F' v d->Q v H')->r [x] H Q
def d1(f:D->Option D)(fa:Dd):DF->Option D:=fun ρ=>(fa ρ).bind f
theorem yE{K:Kq}{r:List V->Hp->VK->Prop}{f:D->Option D}{fa:Dd}(ho:Bz K r f):∀σ H Q,tD K (d1 f fa) σ H Q->tCB r (ju (tR K fa) nV) σ H Q:=fun σ H Q=>un7 fun P F ρ d hf I k=>by
 unfold d1 at hf;cases ha:fa ρ with
 |none=>rw[ha]at hf;cases hf
 |some dx=>
  rw[ha,Ya]at hf;exact⟨P,F,ρ,dx,ha,I,fun x F1 H1 e1 rx=>ho P F1 H1 ρ σ x dx d Q hf (I.evo e1) rx fun v F2 H2 e2 rv=>k v F2 H2 (e1.trans e2) rv⟩
def aM:D->Option D
 |.lst ds=>some (.int ds.length)
 |.tup ds=>some (.int ds.length)
 |.str z=>if z.length<=16777216 then some (.int z.length)else none
 |_=>none
def Bx(K:Kq):List V->Hp->VK->Prop:=fun xs H Q=>(∃p ys,xs=[.ref p]/\(SqL K H p ys\/SqT K H p ys)/\Q (.int ys.length) H)\/∃z,xs=[.str z]/\z.length<=sizeLine/\Q (.int z.length) H
end
mutual
def bZ:D->PyData
 |.non=>.none
 |.bl b=>.bool b
 |.int i=>.int i
 |.str x=>.str x
 |.tup xs=>.tuple (cu xs)
 |.lst xs=>.list (cu xs)
 |.dT _=>.none
 |.dK _=>.none
 |.ins _ _=>.none
def cu:List D->List PyData
 |[]=>[]
 |d::ds=>bZ d::cu ds
end
def okN:Nat->D->Bool
 |_,.non=>true
 |_,.bl _=>true
 |_,.int _=>true
 |_,.str x=>PyData.strOk x
 |n+1,.tup xs=>xs.all (okN n)
 |n+1,.lst xs=>xs.all (okN n)
 |_,_=>false
theorem bB{n:Nat}:∀{ds:List D},ds.all (okN n)=true->∀d∈ds,okN n d=true:=fun h d hd=>Yx.mp h d hd
theorem bU:∀(n:Nat) (d:D),okN n d=true->(bZ d).canLay0=true/\(bZ d).depth<=n+1:=by
 intro n;induction n with
 |zero=>
  intro d h;cases d with
  |non=>exact⟨rfl,by simp[bZ,PyData.depth]⟩
  |bl b=>exact⟨rfl,by simp[bZ,PyData.depth]⟩
  |int b=>exact⟨rfl,by simp[bZ,PyData.depth]⟩
  |str b=>exact⟨h,by simp[bZ,PyData.depth]⟩
  |_=>cases h
 |succ n ih=>
  have all:∀ds:List D,ds.all (okN n)=true->PyData.canLayAll0 (cu ds)=true/\PyData.depthAll (cu ds)<=n+1:=by
   intro ds;induction ds with
   |nil=>intro _;exact⟨rfl,by simp[cu,PyData.depthAll]⟩
   |cons x r ihr=>
    intro h;rw[List.all_cons,Yl]at h;obtain⟨h1,h2⟩:=ih x h.1;obtain⟨h3,h4⟩:=ihr h.2;refine⟨?_,?_⟩
    ·show(PyData.canLay0 (bZ x)&&PyData.canLayAll0 (cu r))=true;rw[h1,h3];rfl
    ·show PyData.depthAll (bZ x::cu r)<=n+1;simp only[PyData.depthAll];omega
  intro d h;cases d with
  |non=>exact⟨rfl,by simp[bZ,PyData.depth]⟩
  |bl b=>exact⟨rfl,by simp[bZ,PyData.depth]⟩
  |int b=>exact⟨rfl,by simp[bZ,PyData.depth]⟩
  |str b=>exact⟨h,by simp[bZ,PyData.depth]⟩
  |tup xs=>
   obtain⟨h1,h2⟩:=all xs h;exact⟨h1,by simp only[bZ,PyData.depth];omega⟩
  |lst xs=>
   obtain⟨h1,h2⟩:=all xs h;exact⟨h1,by simp only[bZ,PyData.depth];omega⟩
  |_=>cases h
section
variable{X:Cx}{pz:Kp}{σ:St}{H:Hp}{s:Shared}
theorem Reps.readsOf{n:Nat}(ih:∀{v:V}{d:D}{u:Value},Rep X.K H v d->okN n d=true->RelV v u->∃as,Reads s.heap u (bZ d) as){vs:List V}{ds:List D}(h:Reps X.K H vs ds):∀us:List Value,(∀d∈ds,okN n d=true)->Vals vs us->∃as,ReadsAll s.heap us (cu ds) as:=
 Reps.ind (M:=fun vs ds=>∀us:List Value,(∀d∈ds,okN n d=true)->Vals vs us->∃as,ReadsAll s.heap us (cu ds) as) (fun us _ r=>by cases r;exact⟨_,.nil⟩) (fun h _ i us ho r=>by
  cases r with
  |cons r t=>
   obtain⟨a1,r1⟩:=ih h (ho _ Yf) r;obtain⟨a2,r2⟩:=i _ (fun d hd=>ho d (Yc _ hd)) t;exact⟨_,.cons r1 r2⟩) h
theorem Rep.reads1(I:Inv X pz σ H s)(n:Nat)(ih:∀m,n=m+1->∀{v:V}{d:D}{u:Value},Rep X.K H v d->okN m d=true->RelV v u->∃as,Reads s.heap u (bZ d) as){v:V}{d:D}{u:Value}(h:Rep X.K H v d)(ho:okN n d=true)(r:RelV v u):∃as,Reads s.heap u (bZ d) as:=by
 cases h with
 |non=>cases(show u=Value.none from r);exact⟨_,.none⟩
 |bl=>cases(show u=Value.bool _ from r);exact⟨_,.bool _⟩
 |int=>obtain⟨t,rfl⟩:=(show ∃t,u=Value.int _ t from r);exact⟨_,.int _ _⟩
 |str=>obtain⟨t,rfl⟩:=(show ∃t,u=Value.str _ t from r);exact⟨_,.str _ _⟩
 |tup h q=>
  cases n with
  |zero=>cases ho
  |succ m=>
   cases(show u=Value.ref _ from r);obtain⟨its,rv,ht,_⟩:=I.tuple (SqT.of h);obtain⟨as,ra⟩:=Reps.readsOf (ih m rfl) q _ (bB ho) rv;obtain⟨o,h1,h2,m,h3⟩:=ht;exact⟨_,.tuple h1 h2 h3 (by simpa using ra)⟩
 |lst h q=>
  cases n with
  |zero=>cases ho
  |succ m=>
   cases(show u=Value.ref _ from r);obtain⟨its,rv,ht,_⟩:=I.list h;obtain⟨as,ra⟩:=Reps.readsOf (ih m rfl) q _ (bB ho) rv;obtain⟨o,m,h1,h2,_,h3⟩:=ht;exact⟨_,.list h1 h2 h3 (by simpa using ra)⟩
 |_=>cases n<;>cases ho
theorem Rep.reads(I:Inv X pz σ H s)(n:Nat):∀{v:V}{d:D}{u:Value},Rep X.K H v d->okN n d=true->RelV v u->∃as,Reads s.heap u (bZ d) as:=by
 induction n with
 |zero=>exact fun h ho r=>Rep.reads1 I 0 (fun m e=>by cases e) h ho r
 |succ n ih=>exact fun h ho r=>Rep.reads1 I (n+1) (fun m e=>by cases e;exact ih) h ho r
end
def eqd(x y:D):Bool:=PyData.eqv (bZ x) (bZ y)
def eqD(x y:D):Option D:=if(okN 30 x&&okN 30 y)=true then some (.bl (eqd x y))else none
def neD(x y:D):Option D:=if(okN 30 x&&okN 30 y)=true then some (.bl (!eqd x y))else none
def vD(K:Kq)(g:Bool->Bool):R2:=fun x y H Q=>∃dx dy,Rep K H x dx/\Rep K H y dy/\okN 30 dx=true/\okN 30 dy=true/\Q (.bl (g (eqd dx dy))) H
section
variable{X:Cx}{e a b c:Expr}{es:List Expr}{pos:Pos}
theorem sQ(hu:X.A.units+64<cLine):OpR X (compareOp .Eq) (vD X.K fun b=>b):=by
 intro pz s σ H x y v u Q I rx ry h;obtain⟨dx,dy,h1,h2,o1,o2,q⟩:=h;obtain⟨a1,r1⟩:=h1.reads I 30 o1 rx;obtain⟨a2,r2⟩:=h2.reads I 30 o2 ry;obtain⟨l1,p1⟩:=bU 30 dx o1;obtain⟨l2,p2⟩:=bU 30 dy o2;refine PySem.SeqAt.compareEq_shaped r1 r2 ?_ ?_ hu ⟨.bl _,H,I,rfl,q⟩
 ·unfold PySem.SeqAt.shaped;rw[l1,Zc,YJ];omega
 ·unfold PySem.SeqAt.shaped;rw[l2,Zc,YJ];omega
theorem sX(hu:X.A.units+64<cLine):OpR X (compareOp .NotEq) (vD X.K fun b=>!b):=by
 intro pz s σ H x y v u Q I rx ry h;obtain⟨dx,dy,h1,h2,o1,o2,q⟩:=h;obtain⟨a1,r1⟩:=h1.reads I 30 o1 rx;obtain⟨a2,r2⟩:=h2.reads I 30 o2 ry;obtain⟨l1,p1⟩:=bU 30 dx o1;obtain⟨l2,p2⟩:=bU 30 dy o2;refine PySem.SeqAt.compareNe_shaped r1 r2 ?_ ?_ hu ⟨.bl _,H,I,rfl,q⟩
 ·unfold PySem.SeqAt.shaped;rw[l1,Zc,YJ];omega
 ·unfold PySem.SeqAt.shaped;rw[l2,Zc,YJ];omega
theorem uq{K:Kq}:OpN2 K (vD K fun b=>b) eqD:=by
 intro P F H x y dx dy d Q hf hp rx ry k;unfold eqD at hf;split at hf
 ·rename_i h;rw[Yl]at h;cases hf;exact⟨dx,dy,rx,ry,h.1,h.2,k _ F H (Evo.refl hp) .bl⟩
 ·cases hf
theorem si{K:Kq}:OpN2 K (vD K fun b=>!b) neD:=by
 intro P F H x y dx dy d Q hf hp rx ry k;unfold neD at hf;split at hf
 ·rename_i h;rw[Yl]at h;cases hf;exact⟨dx,dy,rx,ry,h.1,h.2,k _ F H (Evo.refl hp) .bl⟩
 ·cases hf
theorem pE{fa fb:Dd}(hu:X.A.units+64<cLine)(ha:PDN X a fa)(hb:PDN X b fb):PDE X (.Compare a [.Eq] [b] pos) (d2 eqD fa fb):=ut (sQ hu) uq ha hb (eJ _)
theorem Af{fa fb:Dd}(hu:X.A.units+64<cLine)(ha:PDN X a fa)(hb:PDN X b fb):PDE X (.Compare a [.NotEq] [b] pos) (d2 neD fa fb):=ut (sX hu) si ha hb (eJ _)
theorem cQ{fa fb:Dd}(hu:X.A.units+64<cLine)(ha:PDN X a fa)(hb:PDN X b fb):PDT X (.Compare a [.Eq] [b] pos) (asB (d2 eqD fa fb)):=gs (sQ hu) uq ha hb (eJ _)
theorem kH{fa fb:Dd}(hu:X.A.units+64<cLine)(ha:PDN X a fa)(hb:PDN X b fb):PDT X (.Compare a [.NotEq] [b] pos) (asB (d2 neD fa fb)):=gs (sX hu) si ha hb (eJ _)
def cv:D->Option (List D)
 |.lst ds=>some ds
 |.tup ds=>some ds
 |_=>none
def inD(x y:D):Option D:=(cv y).bind fun ds=>if(okN 30 x&&ds.all (okN 29))=true then some (.bl (ds.any fun z=>eqd z x))else none
def fg(x y:D):Option D:=(cv y).bind fun ds=>if(okN 30 x&&ds.all (okN 29))=true then some (.bl (!ds.any fun z=>eqd z x))else none
def wD(K:Kq)(g:Bool->Bool):R2:=fun x y H Q=>∃dx dy ds,Rep K H x dx/\Rep K H y dy/\cv dy=some ds/\okN 30 dx=true/\ds.all (okN 29)=true/\Q (.bl (g (ds.any fun z=>eqd z dx))) H
theorem dH(x:D):∀ds:List D,(cu ds).any (fun y=>PyData.eqv y (bZ x))=ds.any fun z=>eqd z x
 |[]=>rfl
 |d::ds=>by
  show((PyData.eqv (bZ d) (bZ x))||(cu ds).any _)=_;rw[dH x ds];rfl
theorem xF(hu:X.A.units+64<cLine):OpR X (compareOp .In) (wD X.K fun b=>b):=by
 intro pz s σ H x y v u Q I rx ry h;obtain⟨dx,dy,ds,h1,h2,hi,o1,o2,q⟩:=h;obtain⟨a1,r1⟩:=h1.reads I 30 o1 rx;obtain⟨l1,p1⟩:=bU 30 dx o1;have hm:min (PyData.depthAll (cu ds)) (bZ dx).depth<=31:=YH (Nat.min_le_right _ _) p1;cases dy with
 |lst xs=>
  cases hi;obtain⟨a2,r2⟩:=h2.reads I 30 (d:=.lst ds) o2 ry;obtain⟨l2,p2⟩:=bU 30 (.lst ds) o2;exact PySem.SeqAt.in_list_reads r2 r1 l2 l1 (by omega) ⟨.bl _,H,I,(by show Value.bool _=Value.bool _;rw[dH]),q⟩
 |tup xs=>
  cases hi;obtain⟨a2,r2⟩:=h2.reads I 30 (d:=.tup ds) o2 ry;obtain⟨l2,p2⟩:=bU 30 (.tup ds) o2;exact PySem.SeqAt.in_tuple_reads r2 r1 l2 l1 (by omega) ⟨.bl _,H,I,(by show Value.bool _=Value.bool _;rw[dH]),q⟩
 |_=>cases hi
theorem rY(hu:X.A.units+64<cLine):OpR X (compareOp .NotIn) (wD X.K fun b=>!b):=by
 intro pz s σ H x y v u Q I rx ry h;obtain⟨dx,dy,ds,h1,h2,hi,o1,o2,q⟩:=h;obtain⟨a1,r1⟩:=h1.reads I 30 o1 rx;obtain⟨l1,p1⟩:=bU 30 dx o1;have hm:min (PyData.depthAll (cu ds)) (bZ dx).depth<=31:=YH (Nat.min_le_right _ _) p1;cases dy with
 |lst xs=>
  cases hi;obtain⟨a2,r2⟩:=h2.reads I 30 (d:=.lst ds) o2 ry;obtain⟨l2,p2⟩:=bU 30 (.lst ds) o2;exact PySem.SeqAt.notIn_list_reads r2 r1 l2 l1 (by omega) ⟨.bl _,H,I,(by show Value.bool _=Value.bool _;rw[dH]),q⟩
 |tup xs=>
  cases hi;obtain⟨a2,r2⟩:=h2.reads I 30 (d:=.tup ds) o2 ry;obtain⟨l2,p2⟩:=bU 30 (.tup ds) o2;exact PySem.SeqAt.notIn_tuple_reads r2 r1 l2 l1 (by omega) ⟨.bl _,H,I,(by show Value.bool _=Value.bool _;rw[dH]),q⟩
 |_=>cases hi
theorem zt{K:Kq}:OpN2 K (wD K fun b=>b) inD:=by
 intro P F H x y dx dy d Q hf hp rx ry k;unfold inD at hf;cases q:cv dy with
 |none=>rw[q]at hf;cases hf
 |some ds=>
  rw[q,Ya]at hf;split at hf
  ·rename_i h;rw[Yl]at h;cases hf;exact⟨dx,dy,ds,rx,ry,q,h.1,h.2,k _ F H (Evo.refl hp) .bl⟩
  ·cases hf
theorem rQ{K:Kq}:OpN2 K (wD K fun b=>!b) fg:=by
 intro P F H x y dx dy d Q hf hp rx ry k;unfold fg at hf;cases q:cv dy with
 |none=>rw[q]at hf;cases hf
 |some ds=>
  rw[q,Ya]at hf;split at hf
  ·rename_i h;rw[Yl]at h;cases hf;exact⟨dx,dy,ds,rx,ry,q,h.1,h.2,k _ F H (Evo.refl hp) .bl⟩
  ·cases hf
theorem Ab{fa fb:Dd}(hu:X.A.units+64<cLine)(ha:PDN X a fa)(hb:PDN X b fb)(hm:behindInMarks .In b=false:=by with_unfolding_all rfl):PDT X (.Compare a [.In] [b] pos) (asB (d2 inD fa fb)):=gs (xF hu) zt ha hb hm
theorem sY{fa fb:Dd}(hu:X.A.units+64<cLine)(ha:PDN X a fa)(hb:PDN X b fb)(hm:behindInMarks .NotIn b=false:=by with_unfolding_all rfl):PDT X (.Compare a [.NotIn] [b] pos) (asB (d2 fg fa fb)):=gs (rY hu) rQ ha hb hm
end
section
variable{X:Cx}{tg e a b l:Expr}{pos p:Pos}
def eP(f:Dd):DF->Option (List D):=fun ρ=>match f ρ with
 |some (.lst ds)=>some ds
 |_=>none
def gp(f:Dd):DF->Option (List D):=fun ρ=>match f ρ with
 |some (.tup ds)=>some ds
 |_=>none
theorem tV{f:Dd}{ρ:DF}{ds:List D}(h:eP f ρ=some ds):f ρ=some (.lst ds):=by
 unfold eP at h;split at h
 ·rename_i q;cases h;exact q
 ·cases h
theorem sC{f:Dd}{ρ:DF}{ds:List D}(h:gp f ρ=some ds):f ρ=some (.tup ds):=by
 unfold gp at h;split at h
 ·rename_i q;cases h;exact q
 ·cases h
theorem kA{K:Kq}{P F:Hp}{a:Addr}{vs:List V}{ds:List D}(h:SqL K F a vs)(r:Reps K F vs ds):rm K P (Itl K a) F ds:=by intro F' H' e hp i;have hv:SqL K H' a vs:=hp.sub.seq (e.seq h);refine⟨fun d hd=>?_,fun hl=>⟨vs,hv,by rw[r.length];exact hl⟩⟩;obtain⟨v,h1,h2⟩:=r.get hd;refine⟨⟨vs,v,hv,h1⟩,fun x H2 hy=>?_⟩;obtain⟨rfl,hx⟩:=hy;have:=hx vs hv;rw[h1]at this;cases this;exact⟨F',Evo.refl hp,h2.same e⟩
theorem s_{K:Kq}{P F:Hp}{a:Addr}{vs:List V}{ds:List D}(h:SqT K F a vs)(r:Reps K F vs ds):rm K P (Itt K a) F ds:=by intro F' H' e hp i;have hv:SqT K H' a vs:=hp.sub.seqT (e.seqT h);refine⟨fun d hd=>?_,fun hl=>⟨vs,hv,by rw[r.length];exact hl⟩⟩;obtain⟨v,h1,h2⟩:=r.get hd;refine⟨⟨vs,v,hv,h1⟩,fun x H2 hy=>?_⟩;obtain⟨rfl,hx⟩:=hy;have:=hx vs hv;rw[h1]at this;cases this;exact⟨F',Evo.refl hp,h2.same e⟩
theorem pG{f:Dd}(h:PDE X l f):PDI X tg l (eP f):=PI.imp (pR h) fun σ H R=>un7 fun P F ρ ds hf I k=>by
 refine⟨P,F,ρ,_,tV hf,I,fun v F' H' ev rv=>?_⟩;cases rv with
 |lst h1 h2=>exact⟨_,rfl,⟨_,ev.hp.sub.seq h1⟩,k _ F' H' ev (kA h1 h2)⟩
theorem p7{f:Dd}(h:PDE X l f):PDI X tg l (gp f):=PI.imp (yf h) fun σ H R=>un7 fun P F ρ ds hf I k=>by
 refine⟨P,F,ρ,_,sC hf,I,fun v F' H' ev rv=>?_⟩;cases rv with
 |tup h1 h2=>exact⟨_,rfl,⟨_,SqT.of (ev.hp.sub _ _ h1)⟩,k _ F' H' ev (s_ (SqT.of h1) h2)⟩
def bL(i:Nat):DF->Option (List D):=fun ρ=>match ρ[i]? with
 |some (some (.bor (.lst ds)))=>some ds
 |some (some (.v (.lst ds)))=>some ds
 |_=>none
theorem uC{K:Kq}{P F:Hp}{a:Addr}{vs:List V}{ds:List D}(h:P a=some (.lst vs))(r:Reps K F vs ds):rm K P (Itl K a) F ds:=by intro F' H' e hp i;have hv:SqL K H' a vs:=SqL.of (hp.pro _ _ h);refine⟨fun d hd=>?_,fun hl=>⟨vs,hv,by rw[r.length];exact hl⟩⟩;obtain⟨v,h1,h2⟩:=r.get hd;refine⟨⟨vs,v,hv,h1⟩,fun x H2 hy=>?_⟩;obtain⟨rfl,hx⟩:=hy;have:=hx vs hv;rw[h1]at this;cases this;exact⟨F',Evo.refl hp,h2.same e⟩
theorem cw(i:Nat)(h:PE X l (cG i)):PDI X tg l (bL i):=PI.imp (pR h) fun σ H R=>un7 fun P F ρ ds hf I k=>by
 unfold bL at hf;split at hf
 ·rename_i ds' q;cases hf;obtain⟨v,h1,a,rfl,_,u,h3,h4⟩:=I.at q;cases u with
  |lst vs=>exact⟨_,h1,a,rfl,⟨vs,SqL.of (I.pro _ _ h3)⟩,k _ F H (Evo.refl I.toDHp) (uC h3 h4)⟩
  |_=>exact h4.elim
 ·rename_i ds' q;cases hf;obtain⟨v,h1,h2⟩:=I.at q;cases h2 with
  |lst h3 h4=>exact⟨_,h1,_,rfl,⟨_,I.sub.seq h3⟩,k _ F H (Evo.refl I.toDHp) (kA h3 h4)⟩
 ·cases hf
def cm(lo:Int)(n:Nat):List D:=(List.range n).map fun i:Nat=>.int (lo+(i:Int))
theorem nD{lo:Int}{n i:Nat}{d:D}(h:(cm lo n)[i]?=some d):i<n/\d=.int (lo+(i:Int)):=by
 unfold cm at h;rw[Yw]at h;by_cases hi:i<n
 ·rw[Xm hi,ZF]at h;cases h;exact⟨hi,rfl⟩
 ·rw[ZK (by rw[Xf];omega)]at h;cases h
theorem oX(lo:Int)(n:Nat):(cm lo n).length=n:=by unfold cm;rw[Yb,Xf]
theorem iH{K:Kq}{P F:Hp}(lo:Int)(n:Nat):rm K P (Itr lo n) F (cm lo n):=by intro F' H' e hp i;refine⟨fun d hd=>?_,fun hl=>by rw[oX]at hl;exact hl⟩;obtain⟨hi,rfl⟩:=nD hd;refine⟨hi,fun x H2 hy=>?_⟩;obtain⟨rfl,rfl⟩:=hy;exact⟨F',Evo.refl hp,.int⟩
def bK(f:Dd):DF->Option (List D):=fun ρ=>match f ρ with
 |some (.int j)=>if -(2^62)<=j/\j<2^62 then some (cm 0 j.toNat)else none
 |_=>none
def rf(f g:Dd):DF->Option (List D):=fun ρ=>match f ρ,g ρ with
 |some (.int i),some (.int j)=>if -(2^62)<=i/\i<2^62/\-(2^62)<=j/\j<2^62 then some (cm i (j-i).toNat)else none
 |_,_=>none
theorem bf{f:Dd}(hg:Gl X "range")(hm:X.mg "range"=none)(ha:PDR X a f)(hs:starEach [a] X.env=[(false,eval a X.env)]:=by rfl):PDI X tg (.Call (.Name "range" p) [a] [] pos) (bK f):=
 PI.imp (rg hg hm (aE ha bp hs) hs) fun σ H R=>un7 fun P F ρ ds hf I k=>by
  unfold bK at hf;split at hf
  ·rename_i j q;split at hf
   ·rename_i hj;cases hf;refine⟨P,F,ρ,_,q,I,fun v F1 H1 e1 r1=>⟨j,by rw[ck r1],hj.1,hj.2,k _ F1 H1 e1 (iH 0 _)⟩⟩
   ·cases hf
  ·cases hf
theorem jw{f g:Dd}(hg:Gl X "range")(hm:X.mg "range"=none)(ha:PDR X a f)(hb:PDR X b g)(hs:starEach [a,b] X.env=[(false,eval a X.env),(false,eval b X.env)]:=by rfl)(hs2:starEach [b] X.env=[(false,eval b X.env)]:=by rfl):PDI X tg (.Call (.Name "range" p) [a,b] [] pos) (rf f g):=
 PI.imp (qK hg hm (aE ha (aE hb bp hs2) (by rw[hs,hs2])) hs hs2) fun σ H R=>un7 fun P F ρ ds hf I k=>by
  unfold rf at hf;split at hf
  ·rename_i i j q1 q2;split at hf
   ·rename_i hj;cases hf;refine⟨P,F,ρ,_,q1,I,fun v F1 H1 e1 r1=>⟨P,F1,ρ,_,q2,I.evo e1,fun v2 F2 H2 e2 r2=>⟨i,j,by rw[ck r1,ck r2],hj,k _ F2 H2 (e1.trans e2) (iH i _)⟩⟩⟩
   ·cases hf
  ·cases hf
def lM:List Nat->List D->DF->Option DF
 |[],[],ρ=>some ρ
 |i::is,d::ds,ρ=>lM is ds (ρ.set i (some (.v d)))
 |_,_,_=>none
def cS(is:List Nat)(d:D)(ρ:DF):Option DF:=match d with
 |.tup ds=>lM is ds ρ
 |_=>none
def o0:List Nat->TGs
 |[]=>zT
 |i::is=>wZ (jH i) (o0 is)
theorem kB{K:Kq}{P F H:Hp}{Q:St->Hp->Prop}:∀(is:List Nat) (vs:List V) (ds:List D) (ρ ρ':DF) (σ:St),Reps K F vs ds->lM is ds ρ=some ρ'->DInv K P F H ρ σ->
  (∀σ',DInv K P F H ρ' σ'->σ'.length=σ.length->(∀j,j∉is->σ'[j]?=σ[j]?)->Q σ' H)->o0 is vs σ H Q
 |[],vs,ds,ρ,ρ',σ,r,hs,I,k=>by
  cases r with
  |nil=>cases hs;exact⟨rfl,k σ I rfl fun _ _=>rfl⟩
  |cons _ _=>cases hs
 |i::is,vs,ds,ρ,ρ',σ,r,hs,I,k=>by
  cases r with
  |nil=>cases hs
  |cons h q=>
   refine⟨_,_,rfl,kB is _ _ _ ρ' _ q hs (I.setV i h) fun σ' I' hl hj=>k σ' I' (by rw[hl,YY]) fun j hn=>?_⟩;rw[hj j (fun z=>hn (Yc _ z)),YZ (fun z=>hn (by rw[z];exact Yf))]
theorem j7:∀(is:List Nat) (ds:List D) (ρ ρ':DF),lM is ds ρ=some ρ'->ds.length=is.length
 |[],[],_,_,_=>rfl
 |[],_::_,_,_,h=>by cases h
 |_::_,[],_,_,h=>by cases h
 |i::is,d::ds,ρ,ρ',h=>by rw[Yu,Yu,j7 is ds _ _ h]
theorem dn{es:List Expr}{k:Nat}{is:List Nat}(hc:X.calm=true)(h:PGs X es (o0 is))(hn:(assignEach es X.env).length=is.length:=by rfl)(hst:(assignEach es X.env).findIdx? (·.1)=none:=by rfl):PDG X (.Tuple es k pos) is (cS is):=
 PG.imp (zJ (n:=is.length) hc h hn hst) fun v σ H Q hh_=>by
  obtain⟨P,F,ρ,d,ρ',hs,I,r,kk⟩:=hh_;cases d with
  |tup ds=>
   cases r with
   |tup h1 h2=>
    exact⟨_,_,rfl,SqT.of (I.sub _ _ h1),by rw[h2.length];exact j7 is ds ρ ρ' hs,kB is _ ds ρ ρ' σ h2 hs I fun σ' I' hl hj=>kk σ' F H (Evo.refl I.toDHp) I' hl hj⟩
  |_=>cases hs
def eR(is:List Nat)(f:Dd):DF->Option RES:=fun ρ=>(f ρ).bind fun d=>(cS is d ρ).map .nx
theorem pf{es:List Expr}{k:Nat}{pos':Pos}{is:List Nat}{f:Dd}(hg:PDG X (.Tuple es k pos') is (cS is))(he:PDE X e f)(hs:swapsWithSole [.Tuple es k pos'] e pos.line X.env=pure false:=by rfl)(hw:swappedStores [.Tuple es k pos'] e X.env=pure none:=by rfl)
  (h1:(assignEach [.Tuple es k pos'] X.env).map (·.2)=[assign (.Tuple es k pos') X.env]:=by rfl):PD1 X (.Assign [.Tuple es k pos'] e pos) (eR is f):=PS.imp (uc he hg hs hw h1) fun E σ H=>un7 fun P F ρ r hr I kk=>by
 unfold eR at hr;cases q:f ρ with
 |none=>rw[q]at hr;cases hr
 |some d=>
  rw[q,Ya]at hr;cases q2:cS is d ρ with
  |none=>rw[q2]at hr;cases hr
  |some ρ'=>
   rw[q2]at hr;cases hr;exact⟨P,F,ρ,d,q,I,fun v F1 H1 e1 r1=>⟨P,F1,ρ,d,ρ',q2,I.evo e1,r1,fun σ' F2 H2 e2 I2 _ _=>kk σ' F2 H2 (e1.ext.trans e2.ext) I2⟩⟩
end
theorem DInv.mut{K:Kq}{P F H:Hp}{ρ:DF}{σ:St}(I:DInv K P F H ρ σ){i:Nat}{o o':OD}{t:Option Addr}{a:Addr}{u:HO}(h:ρ[i]?=some (some (.own o t)))(hf:o.flat=true)(hf':o'.flat=true)(hs:σ[i]?=some (some (.ref a)))(hr:ORep1 K F o' u) :
  DInv K P F (upd H a u) (ρ.set i (some (.own o' t))) σ:=by
 obtain⟨O,hR⟩:=I.rep;obtain⟨v,h1,b,rfl,h2,ht⟩:=hR i _ h;rw[hs]at h1;cases h1;obtain⟨⟨q1,q2,q3⟩,u',q4,_⟩:=(ORep.flat hf).mp h2;refine⟨⟨fun c w e=>by rw[aA (aO e q1)];exact I.sub c w e,fun c w e=>by rw[aA (aO e q2)];exact I.pro c w e,I.dis⟩,by rw[YY];exact I.len,O,fun j z hj=>?_⟩;rcases c6 hj with⟨rfl,e,hl⟩|⟨hij,hj'⟩
 ·cases e;exact⟨_,hs,a,rfl,(ORep.flat hf').mpr ⟨⟨q1,q2,q3⟩,u,aR,hr⟩,ht⟩
 ·obtain⟨w,e1,e2⟩:=hR j z hj';refine⟨w,e1,?_⟩;cases z with
  |v d'=>exact e2
  |own od t'=>(obtain⟨c,rfl,e3,ht'⟩:=e2;exact⟨c,rfl,e3.mono (Same.refl _) fun b w' q hb=>⟨by rw[aA (fun z=>by subst z;rw[q.2.2]at q3;exact hij (Yr q3).symm)];exact hb,q⟩,ht'⟩)
  |bor od=>exact e2
section
variable{X:Cx}{o e:Expr}{pos apos cpos:Pos}
def dF(i:Nat)(f:Dd):DF->Option RES:=fun ρ=>match ρ[i]? with
 |some (some (.own (.lst ds) t))=>(f ρ).bind fun d=>if ds.length<16777216 then some (.nx (ρ.set i (some (.own (.lst (ds++[d])) t))))else none
 |_=>none
theorem gK{K:Kq}{P F H:Hp}{ρ:DF}{σ:St}(I:DInv K P F H ρ σ){i:Nat}{ds:List D}{t:Option Addr}(q:ρ[i]?=some (some (.own (.lst ds) t))):∃a vs,σ[i]?=some (some (.ref a))/\F a=none/\P a=none/\H a=some (.lst vs)/\Reps K F vs ds:=by
 obtain⟨v,h1,a,rfl,⟨⟨q1,q2,_⟩,u,q3,q4⟩,_⟩:=I.at q;cases u with
 |lst vs=>exact⟨a,vs,h1,q1,q2,q3,q4⟩
 |_=>exact q4.elim
theorem cH(i:Nat){f:Dd}(h:PE X o (cG i))(ha:PDE X e f)(hbase:attributeBase o "append" X.env (eval o X.env)=eval o X.env:=by rfl)
  (hfew:((backTo cpos (starEach [e] X.env)).all (fun x=>!x.1)&&(backToKw cpos (keywordEach [] X.env)).all (fun x=>x.1.isSome)
   && decide (([e]:List Expr).length+([]:List Keyword).length+(if([]:List Keyword).isEmpty then 0 else 1)<30))=true:=by rfl)
  (hline:(apos.endLine == cpos.line)=true:=by rfl) (hs:starEach [e] X.env=[(false,eval e X.env)]:=by rfl) (hsw:swapsWith (.Call (.Attribute o "append" apos) [e] [] cpos) none pos.line X.env=pure false:=by rfl) :
  PD1 X (.Expr (.Call (.Attribute o "append" apos) [e] [] cpos) pos) (dF i f):=
 PS.imp (cK (f_ Zd Zx Zy da h (aE ha bp hs) hbase hfew hline hs rfl) hsw) fun E σ H=>un7 fun P F ρ r hr I k=>by
  unfold dF at hr;split at hr
  ·rename_i ds t q;cases q2:f ρ with
   |none=>rw[q2]at hr;cases hr
   |some d=>
    rw[q2,Ya]at hr;split at hr
    ·rename_i hl;cases hr;obtain⟨a,vs,h1,h2,h3,h4,h5⟩:=gK I q;refine⟨_,h1,.inl ⟨rfl,vs,SqL.of h4⟩,P,F,ρ,d,q2,I,fun v F1 H1 e1 r1=>?_⟩;obtain⟨k1,k2⟩:=e1.keep a _ h4 h2;have I1:=I.evo e1;refine⟨a,vs,v,rfl,rfl,k1,by rw[YQ,h5.length];exact hl,k σ F1 _ e1.ext ?_⟩;exact I1.mut (o':=.lst _) (u:=.lst _) q rfl rfl h1 ((h5.same e1.ext).append (.one r1))
    ·cases hr
  ·cases hr
def jD(i:Nat)(f g:Dd):DF->Option RES:=fun ρ=>match ρ[i]? with
 |some (some (.own (.lst ds) t))=>(g ρ).bind fun d=>(f ρ).bind fun
  |.int k=>(ixN ds.length k).map fun j=>.nx (ρ.set i (some (.own (.lst (ds.set j d)) t)))
  |_=>none
 |_=>none
theorem tm(i:Nat){ix:Expr}{f g:Dd}(h:PE X o (cG i))(hf:PDE X ix f)(hg:PDE X e g)
  (ha:∀v,assign (.Subscript o ix apos) X.env v=(do
   let ov <-holding [v] (eval o X.env)
   let iv <-holding [v,ov] (eval ix X.env)
   standAt apos
   holding [v,ov,iv] (setItem ov iv v)
   release [v,ov,iv] []):=by intro _;rfl) (hs:swapsWithSole [.Subscript o ix apos] e pos.line X.env=pure false:=by rfl) (hw:swappedStores [.Subscript o ix apos] e X.env=pure none:=by rfl)
  (h1:(assignEach [.Subscript o ix apos] X.env).map (·.2)=[assign (.Subscript o ix apos) X.env]:=by rfl) :
  PD1 X (.Assign [.Subscript o ix apos] e pos) (jD i f g):=
 PS.imp (uc hg (yY h hf uM ha) hs hw h1) fun E σ H=>un7 fun P F ρ r hr I k=>by
  unfold jD at hr;split at hr
  ·rename_i ds t q;cases q2:g ρ with
   |none=>rw[q2]at hr;cases hr
   |some d=>
    rw[q2,Ya]at hr;cases q3:f ρ with
    |none=>rw[q3]at hr;cases hr
    |some dk=>
     rw[q3,Ya]at hr;cases dk with
     |int kk=>
      dsimp only at hr;cases q4:ixN ds.length kk with
      |none=>rw[q4]at hr;cases hr
      |some j=>
       rw[q4]at hr;cases hr;obtain⟨a,vs,h1,h2,h3,h4,h5⟩:=gK I q;refine⟨P,F,ρ,d,q2,I,fun v F1 H1 e1 r1=>⟨_,h1,P,F1,ρ,_,q3,I.evo e1,fun w F2 H2 e2 r2=>?_⟩⟩;cases r2;have e12:=e1.trans e2;obtain⟨k1,k2⟩:=e12.keep a _ h4 h2;refine⟨a,vs,kk,j,rfl,rfl,k1,by rw[h5.length];exact q4,k σ F2 _ e12.ext ?_⟩;exact(I.evo e12).mut (o':=.lst _) (u:=.lst _) q rfl rfl h1 ((h5.same e12.ext).set (r1.same e2.ext) j)
     |_=>cases hr
  ·cases hr
end
mutual
def ltD:D->D->Bool
 |.int i,.int j=>decide (i<j)
 |.bl a,.bl b=>!a&&b
 |.str x,.str y=>decide (x.cps.toList<y.cps.toList)
 |.tup xs,.tup ys=>bJ xs ys
 |_,_=>false
def bJ:List D->List D->Bool
 |[],[]=>false
 |[],_::_=>true
 |_::_,[]=>false
 |x::xs,y::ys=>if eqd x y=true then bJ xs ys else ltD x y
end
mutual
def az:D->D->Bool
 |.int _,.int _=>true
 |.bl _,.bl _=>true
 |.str _,.str _=>true
 |.tup xs,.tup ys=>bD xs ys
 |_,_=>false
def bD:List D->List D->Bool
 |x::xs,y::ys=>az x y&&bD xs ys
 |_,_=>true
end
def tw(A:Around)(s:Shared)(y x:Value)(b:Bool):Prop:=
 ∀(prog:Program) (w:World) (E:Kv) (Q:Kv),Q (.bool b) s->wpAny (model prog w) A (richCompare .Lt y x) Q E s
inductive LexOk (A:Around) (s:Shared):List Value->List Value->List D->List D->Prop
 |nl {ws:List Value}{es:List D}:ws.length=es.length->LexOk A s [] ws [] es
 |nr {vs:List Value}{ds:List D}:vs.length=ds.length->LexOk A s vs [] ds []
 |cons {v w:Value}{d e:D}{vs ws:List Value}{ds es:List D}:SeqAt.EqAt A s v w (eqd d e)->(eqd d e=false->tw A s v w (ltD d e))->LexOk A s vs ws ds es->LexOk A s (v::vs) (w::ws) (d::ds) (e::es)
theorem LexOk.len{A:Around}{s:Shared}{vs ws:List Value}{ds es:List D}(h:LexOk A s vs ws ds es):vs.length=ds.length/\ws.length=es.length:=by
 induction h with
 |nl h=>exact⟨rfl,h⟩
 |nr h=>exact⟨h,rfl⟩
 |cons _ _ _ ih=>exact⟨Zi Nat.succ ih.1,Zi Nat.succ ih.2⟩
section
open PySem.SeqAt
open PySem.AutoSeq1 (wpAny_loadPart')
open PySem.MeetsSeq PySem.MeetsSeq2 PySem.MeetsSeq3
theorem li(l b:Addr)(items db:Array Value)(n n2:Nat)(dd dd2:Option Addr)(sl sl2:Array (Option Value))(ds es:List D) :
  Meets (Builtin.«tuple.__lt__» ⟨[.ref l,.ref b],[]⟩)
   (fun A R s=>LexOk A.in1 s items.toList db.toList ds es/\s.heap.get? l=some {cls:=.type "tuple",dict:=dd,data:=.seq items n,slots:=sl}/\s.heap.get? b=some {cls:=.type "tuple",dict:=dd2,data:=.seq db n2,slots:=sl2} /\
    R (.ok (.ret (.bool (bJ ds es)))) s):=
 .of_wp fun prog w A R s h=>by
  obtain⟨hp,g,d,tk,os⟩:=s;obtain⟨hlex,hl,hb,h⟩:=h;have f2:=AutoSeq1.sub_tuple_tuple;have z1:items.size=ds.length:=by rw[<-hlex.len.1];simp
  have z2:db.size=es.length:=by rw[<-hlex.len.2];simp
  wp_walk using wpAny_loadPart' hl,wpAny_loadPart' hb,wpAny_forIn_list _ (fun bP b s'=>b.1=none/\s'=⟨hp,g,d,tk,os⟩/\∃(vs ws:List Value) (ds' es':List D),bP=vs.zip ws /\
   LexOk A.in1 ⟨hp,g,d,tk,os⟩ vs ws ds' es'/\ds'.length+db.size=es'.length+items.size/\R (.ok (.ret (.bool (bJ ds' es')))) ⟨hp,g,d,tk,os⟩) _
  case turn=>
   rintro⟨y,x⟩ bP b s' ⟨hb',rfl,vs,ws,ds',es',hz,hx,hlen,hR⟩;cases hx with
   |nl _=>rw[List.zip_nil_left]at hz;cases hz
   |nr _=>rw[List.zip_nil_right]at hz;cases hz
   |@cons v w' dd' ee' vs' ws' ds'' es'' he hlt hx'=>
    rw[XT]at hz;injection hz with hyx hrest;injection hyx with hy hxx;subst hy hxx;simp only[Yu]at hlen;refine Yd (he prog w _ _ ?_);cases q:eqd dd' ee' with
    |true=>
     have hR':R (.ok (.ret (.bool (bJ ds'' es'')))) ⟨hp,g,d,tk,os⟩:=by rw[bJ,Yi q]at hR;exact hR
     wp_walk
     exact⟨rfl,rfl,_,_,_,_,hrest,hx',by omega,hR'⟩
    |false=>
     have hR':R (.ok (.ret (.bool (ltD dd' ee')))) ⟨hp,g,d,tk,os⟩:=by rw[bJ,Yn (by rw[q];exact Yk)]at hR;exact hR
     have hri:=hlt q prog w
     wp_walk using hri
     exact⟨_,rfl,by simpa using hR'⟩
  case fin=>
   rintro⟨b1,b2⟩ s' ⟨hb',rfl,vs,ws,ds',es',hz,hx,hlen,hR⟩;simp only at hb';subst hb';have hv:bJ ds' es'=decide (items.size<db.size):=by
    cases hx with
    |nl hw=>
     cases es' with
     |nil=>
      simp only[YS]at hlen;rw[show bJ [] []=false by simp[bJ]];exact(YB (by omega)).symm
     |cons c u=>
      simp only[YS,Yu]at hlen;rw[show bJ [] (c::u)=true by simp[bJ]];exact(YL (by omega)).symm
    |nr hw=>
     cases ds' with
     |nil=>
      simp only[YS]at hlen;rw[show bJ [] []=false by simp[bJ]];exact(YB (by omega)).symm
     |cons c u=>
      simp only[YS,Yu]at hlen;rw[show bJ (c::u) []=false by simp[bJ]];exact(YB (by omega)).symm
    |cons _ _ _=>
     rw[XT]at hz;cases hz
   rw[hv]at hR
   wp_walk
   exact⟨_,rfl,by simpa[Builtin.Tuple.tupleCompareSizes]using hR⟩
  case h=>
   exact⟨rfl,rfl,items.toList,db.toList,ds,es,rfl,hlex,by omega,h⟩
end
theorem qQ{A:Around}{s:Shared}{l b:Addr}{items db:Array Value}{ds es:List D}(hl:IsTup s.heap l items)(hb:IsTup s.heap b db)(hx:LexOk A.in1 s items.toList db.toList ds es)(hu:A.units<cLine) :
  tw A s (.ref l) (.ref b) (bJ ds es):=by
 intro prog w E Q h;obtain⟨⟨cls,dd,data,sl⟩,ho,hc,n,hd⟩:=id hl;obtain⟨⟨cls2,dd2,data2,sl2⟩,ho2,hc2,n2,hd2⟩:=id hb;simp only at hc hd hc2 hd2;subst hc hd hc2 hd2;exact richCompare_meets_room (op:=.Lt) ⟨_,ho,rfl⟩ ⟨_,ho2,rfl⟩ PySem.F.slot_tuple_lt PySem.F.entry_tuple_lt (PySem.F.args_tuple_lt_2 _ _) (li l b items db n n2 dd dd2 sl sl2 ds es)
  ⟨hx,ho,ho2,show Value.bool (bJ ds es)≠Value.notImplemented/\Q (.bool (bJ ds es)) s from⟨(fun x=>nomatch x),h⟩⟩ hu
section
variable{X:Cx}{pz:Kp}{σ:St}{H:Hp}{s:Shared}
def fE:D->Bool
 |.tup _=>true
 |_=>false
theorem Rep.ltS(A:Around){x y:V}{d e:D}{u w:Value}(h1:Rep X.K H x d)(h2:Rep X.K H y e)(c:az d e=true)(hd:fE d=false)(r1:RelV x u)(r2:RelV y w):tw A s u w (ltD d e):=by
 cases d with
 |int i=>
  cases e with
  |int j=>
   cases h1;cases h2;obtain⟨t,rfl⟩:=(show ∃t,u=Value.int _ t from r1)
   obtain⟨t',rfl⟩:=(show ∃t,w=Value.int _ t from r2)
   intro prog w' E Q h;exact HT.rcLt_int A s _ _ _ _ prog w' E Q (by rw[ltD]at h;exact h)
  |_=>exact absurd c Yk
 |bl b1=>
  cases e with
  |bl b2=>
   cases h1;cases h2;cases(show u=Value.bool _ from r1);cases(show w=Value.bool _ from r2);intro prog w' E Q h;exact(PyProof.Rows.lt_bool (by cases b1<;>cases b2<;>(rw[ltD]at h;exact h)):wpAny (model prog w') A (compareOp .Lt (.bool b1) (.bool b2)) Q E s)
  |_=>exact absurd c Yk
 |str x1=>
  cases e with
  |str x2=>
   cases h1;cases h2;obtain⟨t,rfl⟩:=(show ∃t,u=Value.str _ t from r1)
   obtain⟨t',rfl⟩:=(show ∃t,w=Value.str _ t from r2)
   intro prog w' E Q h;exact(PyProof.Rows.lt_str (by rw[ltD]at h;exact h):wpAny (model prog w') A (compareOp .Lt (.str x1 t) (.str x2 t')) Q E s)
  |_=>exact absurd c Yk
 |tup xs=>cases hd
 |_=>exact absurd c Yk
theorem Reps.lex(I:Inv X pz σ H s)(n:Nat)(A:Around)(hu:A.units+n+2<cLine)
  (ih:∀{x y:V}{d e:D}{u w:Value},Rep X.K H x d->Rep X.K H y e->okN n d=true->okN n e=true->az d e=true->RelV x u->RelV y w->tw A s u w (ltD d e)) :
  ∀{xs ys:List V}{ds es:List D}{us ws:List Value},Reps X.K H xs ds->Reps X.K H ys es->(∀d∈ds,okN n d=true)->(∀d∈es,okN n d=true)->bD ds es=true->Vals xs us->Vals ys ws->LexOk A s us ws ds es:=by
 intro xs ys ds;induction ds generalizing xs ys with
 |nil=>
  intro es us ws q1 q2 _ _ _ r1 r2;cases q1;cases r1;exact .nl (by rw[<-r2.length,q2.length])
 |cons d ds ihd=>
  intro es us ws q1 q2 o1 o2 c r1 r2;cases es with
  |nil=>
   cases q2;cases r2;exact .nr (by rw[<-r1.length,q1.length])
  |cons e es=>
   cases q1 with
   |cons h q=>
    cases q2 with
    |cons h' q'=>
     cases r1 with
     |cons r t=>
      cases r2 with
      |cons r' t'=>
       rw[bD,Yl]at c;have a1:=o1 _ Yf;have a2:=o2 _ Yf;obtain⟨x1,p1⟩:=h.reads I n a1 r;obtain⟨x2,p2⟩:=h'.reads I n a2 r';obtain⟨l1,m1⟩:=bU n _ a1;obtain⟨l2,m2⟩:=bU n _ a2;refine .cons (PySem.SeqAt.eqAt_reads _ _ A s _ _ _ _ p1 p2 l1 l2 ?_) (fun _=>ih h h' a1 a2 c.1 r r') (ihd q q' (fun d hd=>o1 d (Yc _ hd)) (fun d hd=>o2 d (Yc _ hd)) c.2 t t');have:min (bZ d).depth (bZ e).depth<=n+1:=YH (Nat.min_le_left _ _) m1;omega
theorem Rep.lt(I:Inv X pz σ H s):∀(n:Nat) (A:Around),A.units+n+2<cLine->∀{x y:V}{d e:D}{u w:Value},Rep X.K H x d->Rep X.K H y e->okN n d=true->okN n e=true->az d e=true->RelV x u->RelV y w->tw A s u w (ltD d e):=by
 intro n;induction n with
 |zero=>
  intro A hu x y d e u w h1 h2 o1 o2 c r1 r2;refine h1.ltS A h2 c ?_ r1 r2;cases d<;>first|rfl|(simp[okN]at o1)
 |succ n ihn=>
  intro A hu x y d e u w h1 h2 o1 o2 c r1 r2;cases hd:fE d with
  |false=>exact h1.ltS A h2 c hd r1 r2
  |true=>
   cases d with
   |tup ds=>
    cases e with
    |tup es=>
     cases h1 with
     |tup h1 q1=>
      cases h2 with
      |tup h2 q2=>
       cases(show u=Value.ref _ from r1);cases(show w=Value.ref _ from r2);obtain⟨its1,rv1,ht1,_⟩:=I.tuple (SqT.of h1);obtain⟨its2,rv2,ht2,_⟩:=I.tuple (SqT.of h2);rw[ltD];have hu':A.in1.units+n+2<cLine:=by show A.units+1+n+2<cLine;omega
       exact qQ ht1 ht2 (Reps.lex I n A.in1 hu' (ihn A.in1 hu') q1 q2 (bB o1) (bB o2) (by rw[az]at c;exact c) rv1 rv2) (by omega)
    |_=>exact absurd c Yk
   |_=>cases hd
end
def ltd(x y:D):Option D:=if(okN 30 x&&okN 30 y&&az x y)=true then some (.bl (ltD x y))else none
def Ae(K:Kq):R2:=fun x y H Q=>∃dx dy,Rep K H x dx/\Rep K H y dy/\okN 30 dx=true/\okN 30 dy=true/\az dx dy=true/\Q (.bl (ltD dx dy)) H
section
variable{X:Cx}{a b:Expr}{pos:Pos}
theorem zz(hu:X.A.units+64<cLine):OpR X (compareOp .Lt) (Ae X.K):=by intro pz s σ H x y v u Q I rx ry h;obtain⟨dx,dy,h1,h2,o1,o2,c,q⟩:=h;exact Rep.lt I 30 X.A (by omega) h1 h2 o1 o2 c rx ry X.prog X.w X.xe _ ⟨.bl _,H,I,rfl,q⟩
theorem zA{K:Kq}:OpN2 K (Ae K) ltd:=by
 intro P F H x y dx dy d Q hf hp rx ry k;unfold ltd at hf;split at hf
 ·rename_i h;rw[Yl,Yl]at h;cases hf;exact⟨dx,dy,rx,ry,h.1.1,h.1.2,h.2,k _ F H (Evo.refl hp) .bl⟩
 ·cases hf
theorem eU{fa fb:Dd}(hu:X.A.units+64<cLine)(ha:PDN X a fa)(hb:PDN X b fb):PDT X (.Compare a [.Lt] [b] pos) (asB (d2 ltd fa fb)):=gs (zz hu) zA ha hb (eJ _)
end
end L2
namespace L2
open PySem PySem.Spec PyProof.Rows PySem.W
def kok{α:Type}(n:Nat)(lt:Nat->Nat->Bool):KasT α->(α->Prop)->Prop
 |.ret a,Q=>Q a
 |.ask i j k,Q=>i<n/\j<n/\kok n lt (k (lt i j)) Q
theorem eO{α β:Type}{n:Nat}{lt:Nat->Nat->Bool}{f:α->KasT β}{Q:β->Prop}(t:KasT α):kok n lt t (fun a=>kok n lt (f a) Q)->kok n lt (t.bind f) Q:=by
 induction t with
 |ret a=>exact fun h=>h
 |ask i j k ih=>exact fun h=>⟨h.1,h.2.1,ih _ h.2.2⟩
theorem cD{α:Type}{n:Nat}{lt:Nat->Nat->Bool}{Q Q':α->Prop}(hq:∀a,Q a->Q' a)(t:KasT α):kok n lt t Q->kok n lt t Q':=by
 induction t with
 |ret a=>exact hq a
 |ask i j k ih=>exact fun h=>⟨h.1,h.2.1,ih _ h.2.2⟩
theorem zk{α:Type}{n:Nat}{lt:Nat->Nat->Bool}{cmp:Nat->Nat->(Bool->Shared->Prop)->Shared->Prop}{s:Shared}{Q:α->Prop}{G:α->Shared->Prop}(hc:∀i j C,i<n->j<n->C (lt i j) s->cmp i j C s)(hG:∀a,Q a->G a s)(t:KasT α):kok n lt t Q->t.kasWp cmp G s:=by
 induction t with
 |ret a=>exact hG a
 |ask i j k ih=>exact fun h=>hc i j _ h.1 h.2.1 (ih _ h.2.2)
structure Ord (lt:Nat->Nat->Bool):Prop where
 asym:∀i j,lt i j=true->lt j i=false
 trans:∀i j k,lt j i=false->lt k j=false->lt k i=false
section
variable{n:Nat}{lt:Nat->Nat->Bool}
structure PermN (n:Nat) (p:Array Nat):Prop where
 size:p.size=n
 perm:p.toList.Perm (List.range n)
theorem PermN.bd{p:Array Nat}(h:PermN n p){i:Nat}(hi:i<n):p.getD i 0<n:=by
 have hs:i<p.size:=by rw[h.size];exact hi
 have e:p.getD i 0=p[i]:=by simp[Array.getD,hs]
 rw[e];have hm:p[i]∈p.toList:=by simp
 exact Zl.mp (h.perm.mem_iff.mp hm)
theorem PermN.rev{p:Array Nat}(h:PermN n p)(i j:Nat):PermN n (kas_rev p i j):=
 ⟨by unfold kas_rev;rw[mirror_size,h.size],((Array.perm_iff_toList_perm.mp (mirror_perm _ _ _ _)).trans h.perm)⟩
theorem PermN.bub{p:Array Nat}(h:PermN n p)(i j:Nat):PermN n (bubble p i j):=
 ⟨by rw[bubble_size,h.size],((Array.perm_iff_toList_perm.mp (bubble_perm _ _ _)).trans h.perm)⟩
theorem fQ{p q:Array Nat}{i j:Nat}(h:p[i]?=q[j]?):p.getD i 0=q.getD j 0:=by simp only[Xb,h]
theorem dw{p:Array Nat}(h:PermN n p){i j:Nat}(hj:j<=n)(k:Nat):(kas_rev p i j).getD k 0=if i<=k/\k<j then p.getD (i+j-1-k) 0 else p.getD k 0:=by
 have e:=getElem?_mirror_all (xs:=p) (i:=i) (j:=j) (by rw[h.size];exact hj) k;unfold kas_rev;split
 ·rename_i q;rw[Yi q]at e;exact fQ e
 ·rename_i q;rw[Yn q]at e;exact fQ e
def Ris(lt:Nat->Nat->Bool)(p:Array Nat)(b:Nat):Prop:=∀i j,i<=j->j<b->lt (p.getD j 0) (p.getD i 0)=false
def Fal(lt:Nat->Nat->Bool)(p:Array Nat)(b:Nat):Prop:=∀i j,i<=j->j<b->lt (p.getD i 0) (p.getD j 0)=false
def Eqs(lt:Nat->Nat->Bool)(p:Array Nat)(a b:Nat):Prop:=∀i j,a<=i->i<b->a<=j->j<b->lt (p.getD i 0) (p.getD j 0)=false
theorem Ord.irr(o:Ord lt)(i:Nat):lt i i=false:=by
 cases q:lt i i with
 |false=>rfl
 |true=>have:=o.asym i i q;rw[q]at this;cases this
theorem ir{a b i:Nat}(h:a<=i/\i<b):a<=a+b-1-i/\a+b-1-i<b:=by omega
theorem uD(o:Ord lt){p:Array Nat}(hp:PermN n p):∀(f k:Nat),1<=k->k+f<=n->Ris lt p k->kok n lt (kas_asc p f k) (fun m=>k<=m/\m<=k+f/\Ris lt p m/\(m=k+f\/lt (p.getD m 0) (p.getD (m-1) 0)=true)):=by
 intro f;induction f with
 |zero=>exact fun k _ _ hr=>⟨Ym _,Ym _,hr,.inl rfl⟩
 |succ f ih=>
  intro k h1 hk hr;have kn:k<n:=Ys (Xt (Nat.succ_pos f)) hk;have k1:k-1<k:=Vc h1 Nat.one_pos;have ek:=Xu k 1 f;unfold kas_asc;refine⟨hp.bd kn,hp.bd (Xa k1 kn),?_⟩;cases c:lt (p.getD k 0) (p.getD (k-1) 0)with
  |true=>
   (try dsimp only);rw[Yi rfl]
   exact⟨Ym _,Nat.le_add_right _ _,hr,.inr c⟩
  |false=>
   (try dsimp only);rw[Yn Yk]
   refine cD (fun m h=>⟨Xy h.1,YH h.2.1 (ZQ ek),h.2.2.1,h.2.2.2.imp (fun e=>e.trans ek) id⟩) _ (ih (k+1) (Zv 1 k) (YH (ZQ ek) hk) fun i j hij hj=>?_);by_cases hjk:j<k
   ·exact hr i j hij hjk
   ·have:j=k:=Zh (Zo hj) (ZA hjk);subst this;by_cases hik:i=j
    ·subst hik;exact o.irr _
    ·exact o.trans _ _ _ (hr i (j-1) (ZN (Zq hij hik)) k1) c
theorem pL{p:Array Nat}(hp:PermN n p){a b:Nat}(hb:b<=n)(he:Eqs lt p a b)(o:Ord lt)(hf:Fal lt p b):Fal lt (kas_rev p a b) b:=by
 intro i j hij hj;rw[dw hp hb,dw hp hb];by_cases hi:a<=i/\i<b
 ·rw[Yi hi];have hj':a<=j/\j<b:=⟨YH hi.1 hij,hj⟩
  rw[Yi hj'];exact he _ _ (ir hi).1 (ir hi).2 (ir hj').1 (ir hj').2
 ·rw[Yn hi];have hia:i<a:=Nat.lt_of_not_le fun z=>hi ⟨z,ZL hij hj⟩
  by_cases hj':a<=j/\j<b
  ·rw[Yi hj'];exact hf _ _ (YH (Zu hia) (ir hj').1) (ir hj').2
  ·rw[Yn hj'];exact hf i j hij hj
theorem jx(o:Ord lt){p':Array Nat}{k:Nat}(h1:1<=k)(hf':Fal lt p' k)(hc:lt (p'.getD (k-1) 0) (p'.getD k 0)=false):Fal lt p' (k+1):=by
 intro i j hij hj;by_cases hjk:j<k
 ·exact hf' i j hij hjk
 ·have:j=k:=Zh (Zo hj) (ZA hjk);subst this;by_cases hik:i=j
  ·subst hik;exact o.irr _
  ·exact o.trans _ _ _ hc (hf' i (j-1) (ZN (Zq hij hik)) (Vc h1 Nat.one_pos))
theorem lh(o:Ord lt)(p':Array Nat)(k:Nat):Eqs lt p' (k+1-(0+1)) (k+1):=by intro i j a1 a2 a3 a4;have e1:i=k:=Zh (Zo a2) a1;have e2:j=k:=Zh (Zo a4) a3;subst e1;subst e2;exact o.irr _
theorem uI(o:Ord lt){p:Array Nat}{k q:Nat}(hb:k-(q+1)<=k-1/\k-1<k)(he:Eqs lt p (k-(q+1)) k)(c:lt (p.getD k 0) (p.getD (k-1) 0)=false)(d:lt (p.getD (k-1) 0) (p.getD k 0)=false):Eqs lt p (k+1-(q+1+1)) (k+1):=by
 have e1:∀i,k+1-(q+1+1)<=i->i<k+1->lt (p.getD i 0) (p.getD k 0)=false/\lt (p.getD k 0) (p.getD i 0)=false:=fun i b1 b2=>by
  rw[Nat.add_sub_add_right]at b1;by_cases hik:i=k
  ·subst hik;exact⟨o.irr _,o.irr _⟩
  ·have il:i<k:=Zq (Zo b2) hik;exact⟨o.trans _ _ _ d (he i (k-1) b1 il hb.1 hb.2),o.trans _ _ _ (he (k-1) i hb.1 hb.2 b1 il) c⟩
 exact fun i j a1 a2 a3 a4=>o.trans _ _ _ (e1 j a3 a4).2 (e1 i a1 a2).1
theorem u6(o:Ord lt):∀(f:Nat) (p:Array Nat) (k q:Nat),PermN n p->1<=k->k+f<=n->q+1<=k->Fal lt p k->Eqs lt p (k-(q+1)) k->
  kok n lt (kas_desc f p k q) (fun r=>PermN n r.1/\k<=r.2.1/\r.2.1<=n/\r.2.2+1<=r.2.1/\Fal lt r.1 r.2.1/\Eqs lt r.1 (r.2.1-(r.2.2+1)) r.2.1):=by
 intro f;induction f with
 |zero=>exact fun p k q hp h1 hk hq hf he=>⟨hp,Ym _,hk,hq,hf,he⟩
 |succ f ih=>
  intro p k q hp h1 hk hq hf he;have kn:k<n:=Ys (Xt (Nat.succ_pos f)) hk;have k1:k-1<k:=Vc h1 Nat.one_pos;have hk':k+1+f<=n:=YH (ZQ (Xu k 1 f)) hk;have hb:k-(q+1)<=k-1/\k-1<k:=⟨Nat.sub_le_sub_left (Nat.succ_le_succ (YT q)) k,k1⟩
  unfold kas_desc;refine⟨hp.bd kn,hp.bd (Xa k1 kn),?_⟩;cases c:lt (p.getD k 0) (p.getD (k-1) 0)with
  |true=>
   (try dsimp only);rw[Yi rfl]
   have hc:lt (p.getD (k-1) 0) (p.getD k 0)=false:=o.asym _ _ c;by_cases hq0:q > 0
   ·rw[Yi hq0];have hf':=pL hp (Zu kn) he o hf;have hc':lt ((kas_rev p (k-(q+1)) k).getD (k-1) 0) ((kas_rev p (k-(q+1)) k).getD k 0)=false:=by rw[dw hp (Zu kn),dw hp (Zu kn),Yi hb,Yn (fun z=>Zb _ z.2)];exact o.trans _ _ _ hc (he _ _ (ir hb).1 (ir hb).2 hb.1 hb.2)
    exact cD (fun r h=>⟨h.1,Xy h.2.1,h.2.2⟩) _ (ih _ (k+1) 0 (hp.rev _ _) (Zv 1 k) hk' (Zv 1 k) (jx o h1 hf' hc') (lh o _ k))
   ·rw[Yn hq0];exact cD (fun r h=>⟨h.1,Xy h.2.1,h.2.2⟩) _ (ih _ (k+1) 0 hp (Zv 1 k) hk' (Zv 1 k) (jx o h1 hf hc) (lh o _ k))
  |false=>
   (try dsimp only);rw[Yn Yk]
   refine⟨hp.bd (Xa k1 kn),hp.bd kn,?_⟩;cases d:lt (p.getD (k-1) 0) (p.getD k 0)with
   |true=>
    (try dsimp only);rw[Yi rfl]
    exact⟨hp,Ym _,Zu kn,hq,hf,he⟩
   |false=>
    (try dsimp only);rw[Yn Yk]
    exact cD (fun r h=>⟨h.1,Xy h.2.1,h.2.2⟩) _ (ih p (k+1) (q+1) hp (Zv 1 k) hk' (Nat.succ_le_succ hq) (jx o h1 hf d) (uI o hb he c d))
theorem vC{p:Array Nat}(hp:PermN n p){b:Nat}(hb:b<=n)(hf:Fal lt p b):Ris lt (kas_rev p 0 b) b:=by
 intro i j hij hj;have hi:0<=i/\i<b:=⟨YT _,ZL hij hj⟩
 rw[dw hp hb,dw hp hb,Yi ⟨YT _,hj⟩,Yi hi];exact hf _ _ (Nat.sub_le_sub_left hij _) (ir hi).2
theorem ng(o:Ord lt){p:Array Nat}(hp:PermN n p){k:Nat}(h1:1<=k)(hk:k<=n)(hf:Fal lt p k):kok n lt (kas_tail3 k n p) (fun r=>1<=r.1/\r.1<=n/\PermN n r.2/\Ris lt r.2 r.1):=by unfold kas_tail3;have e:=ZQ (Xn hk);exact eO _ (cD (fun m h=>⟨YH h1 h.1,YH h.2.1 e,hp.rev _ _,h.2.2.1⟩) _ (uD o (hp.rev 0 k) (n-k) k h1 e (vC hp hk hf)))
theorem h_(o:Ord lt){p:Array Nat}(hp:PermN n p){k:Nat}(h1:1<=k)(hk:k<n)(hf:Fal lt p (k+1)):kok n lt (kas_descPart k n p) (fun r=>1<=r.1/\r.1<=n/\PermN n r.2/\Ris lt r.2 r.1):=by
 unfold kas_descPart;refine eO _ (cD ?_ _ (u6 o (n-(k+1)) p (k+1) 0 hp (Zv 1 k) (ZQ (Xn hk)) (Zv 1 k) hf (lh o p k)));intro r h;obtain⟨a1,a2,a3,a4,a5,a6⟩:=h;have h1':=YH (Zv 1 k) a2;by_cases hq:r.2.2 > 0
 ·rw[Yi hq];exact ng o (a1.rev _ _) h1' a3 (pL a1 a3 a6 o a5)
 ·rw[Yn hq];exact ng o a1 h1' a3 a5
theorem uB(o:Ord lt){p:Array Nat}(hp:PermN n p)(hn:1<=n):kok n lt (kas_count n p) (fun r=>1<=r.1/\r.1<=n/\PermN n r.2/\Ris lt r.2 r.1):=by
 unfold kas_count;have en:=Xn hn;refine eO _ (cD (fun k hh_=>?_) _ (uD o hp (n-1) 1 (Ym _) (ZQ en) fun i j hij hj=>by
  have e2:j=0:=Nat.lt_one_iff.mp hj;subst e2;have e1:i=0:=Nat.le_zero.mp hij;subst e1;exact o.irr _))
 obtain⟨a1,a2,a3,a4⟩:=hh_;have a2:k<=n:=YH a2 (ZQ en);by_cases hk:(k == n)=true
 ·rw[Yi hk];exact⟨a1,a2,hp,a3⟩
 ·rw[Yn hk];have hkn:k≠n:=by simpa using hk
  have kn:k<n:=Zq a2 hkn;have k1:k-1<k:=Vc a1 Nat.one_pos;have hlt:lt (p.getD k 0) (p.getD (k-1) 0)=true:=by
   rcases a4 with e|e
   ·exact absurd (e.trans en) hkn
   ·exact e
  have hc:=o.asym _ _ hlt;by_cases h1:k > 1
  ·rw[Yi h1];refine⟨hp.bd (Ys Nat.one_pos hn),hp.bd (Xa k1 kn),?_⟩;cases c:lt (p.getD 0 0) (p.getD (k-1) 0)with
   |true=>
    (try dsimp only);rw[Yi rfl]
    exact⟨a1,a2,hp,a3⟩
   |false=>
    (try dsimp only);rw[Yn Yk]
    have alike:∀i j,i<k->j<k->lt (p.getD i 0) (p.getD j 0)=false:=fun i j hi hj=>
     o.trans _ _ _ (o.trans _ _ _ (a3 j (k-1) (ZN hj) k1) c) (a3 0 i (YT _) hi)
    refine h_ o (hp.rev _ _) a1 kn fun i j hij hj=>?_;rw[dw hp a2,dw hp a2];by_cases hjk:j<k
    ·have hi:0<=i/\i<k:=⟨YT _,ZL hij hjk⟩
     rw[Yi hi,Yi ⟨YT _,hjk⟩];exact alike _ _ (ir hi).2 (ir ⟨YT _,hjk⟩).2
    ·have ej:j=k:=Zh (Zo hj) (ZA hjk);subst ej;rw[Yn (fun z:0<=j/\j<j=>Zb _ z.2)];by_cases hij':i<j
     ·rw[Yi ⟨YT _,hij'⟩];exact o.trans _ _ _ hc (alike _ _ (ir ⟨YT _,hij'⟩).2 k1)
     ·rw[Yn fun z=>hij' z.2];have:i=j:=Zh hij (ZA hij');subst this;exact o.irr _
  ·rw[Yn h1];have ek:k=1:=Zh (ZA h1) a1;subst ek;refine h_ o hp (Ym _) kn fun i j hij hj=>?_;by_cases hij':i=j
   ·subst hij';exact o.irr _
   ·have lj:i<j:=Zq hij hij';have e2:j=1:=Zh (Zo hj) (ZL (YT i) lj);subst e2;have e1:i=0:=Nat.lt_one_iff.mp lj;subst e1;exact hc
theorem jJ(o:Ord lt){p:Array Nat}(hp:PermN n p){k:Nat}(hk:k<n)(hr:Ris lt p k):∀(f l r:Nat),l<=r->r<=k->r-l<=f->(∀i,i<l->lt (p.getD k 0) (p.getD i 0)=false)->(∀i,r<=i->i<k->lt (p.getD k 0) (p.getD i 0)=true)->
  kok n lt (kas_place p k f l r) (fun m=>m<=k/\(∀i,i<m->lt (p.getD k 0) (p.getD i 0)=false)/\∀i,m<=i->i<k->lt (p.getD k 0) (p.getD i 0)=true):=by
 intro f;induction f with
 |zero=>
  intro l r h1 h2 h3 h4 h5;have e:l=r:=Zh h1 (Nat.le_of_sub_eq_zero (Nat.le_zero.mp h3));subst e;exact⟨h2,h4,h5⟩
 |succ f ih=>
  intro l r h1 h2 h3 h4 h5;unfold kas_place;by_cases hlr:l ≥ r
  ·rw[Yi hlr];have e:l=r:=Zh h1 hlr;subst e;exact⟨h2,h4,h5⟩
  ·rw[Yn hlr];have mid:l<=(l+r)/2/\(l+r)/2<r/\(l+r)/2-l<=f/\r-((l+r)/2+1)<=f:=by clear h4 h5 hr hp ih h2 hk;omega
   obtain⟨m1,m2,m3,m4⟩:=mid;refine⟨hp.bd hk,hp.bd (Xa (Ys m2 h2) hk),?_⟩;cases c:lt (p.getD k 0) (p.getD ((l+r)/2) 0)with
   |true=>
    (try dsimp only);rw[Yi rfl]
    refine ih l _ m1 (YH (Zu m2) h2) m3 h4 fun i a1 a2=>?_;cases q:lt (p.getD k 0) (p.getD i 0)with
    |true=>rfl
    |false=>
     have:=o.trans _ _ _ (hr ((l+r)/2) i a1 a2) q;rw[c]at this;cases this
   |false=>
    (try dsimp only);rw[Yn Yk]
    exact ih _ r m2 h2 m4 (fun i a1=>o.trans _ _ _ (hr i ((l+r)/2) (Zo a1) (Ys m2 h2)) c) h5
theorem pJ{p:Array Nat}(hp:PermN n p){k l:Nat}(hk:k<n)(hl:l<=k)(i:Nat):(bubble p k (k-l)).getD i 0=if i=l then p.getD k 0 else if l<i/\i<=k then p.getD (i-1) 0 else p.getD i 0:=by
 have e:=getElem?_bubble (xs:=p) (src:=k) (by rw[hp.size];exact hk) (k-l) (Nat.sub_le _ _) i;rw[Nat.sub_sub_self hl]at e;by_cases h1:i=l
 ·rw[Yi h1]at e ⊢;exact fQ e
 ·rw[Yn h1]at e ⊢;by_cases h2:l<i/\i<=k
  ·rw[Yi h2]at e ⊢;exact fQ e
  ·rw[Yn h2]at e ⊢;exact fQ e
theorem vc(o:Ord lt){p:Array Nat}(hp:PermN n p){k l:Nat}(kn:k<n)(hr:Ris lt p k)(a1:l<=k)(a2:∀i,i<l->lt (p.getD k 0) (p.getD i 0)=false)(a3:∀i,l<=i->i<k->lt (p.getD k 0) (p.getD i 0)=true):Ris lt (bubble p k (k-l)) (k+1):=by
 intro i j hij hj;have jk:j<=k:=Zo hj;have jl:l<j->j-1<k:=fun z=>Ys (Vc (ZL (YT l) z) Nat.one_pos) jk
 rw[pJ hp kn a1,pJ hp kn a1];by_cases ei:i=l
 ·rw[Yi ei];by_cases ej:j=l
  ·rw[Yi ej];exact o.irr _
  ·have lj:l<j:=Zq (ei ▸ hij) (XD ej);rw[Yn ej,Yi ⟨lj,jk⟩];exact o.asym _ _ (a3 (j-1) (ZN lj) (jl lj))
 ·rw[Yn ei];by_cases ej:j=l
  ·have il:i<=l:=ej ▸ hij;rw[Yi ej,Yn fun z=>Zb _ (Ys z.1 il)];exact a2 i (Zq il ei)
  ·rw[Yn ej];by_cases ci:l<i/\i<=k
   ·have lj:=Ys ci.1 hij;rw[Yi ci,Yi ⟨lj,jk⟩];exact hr _ _ (Nat.sub_le_sub_right hij 1) (jl lj)
   ·rw[Yn ci];by_cases cj:l<j/\j<=k
    ·rw[Yi cj];exact hr _ _ (ZN (ZL (ZA fun z=>ci ⟨z,YH hij jk⟩) cj.1)) (jl cj.1)
    ·rw[Yn cj];exact hr _ _ hij (Ys (Zq (ZA fun z=>cj ⟨z,jk⟩) ej) a1)
theorem xZ(o:Ord lt):∀(f:Nat) (p:Array Nat) (k:Nat),PermN n p->k+f=n->Ris lt p k->kok n lt (kas_bin f p k) (fun r=>PermN n r/\Ris lt r n):=by
 intro f;induction f with
 |zero=>exact fun p k hp hk hr=>⟨hp,by rw[<-hk];exact hr⟩
 |succ f ih=>
  intro p k hp hk hr;have kn:k<n:=hk ▸ Xt (Nat.succ_pos f);unfold kas_bin;refine eO _ (cD (fun l hh_=>?_) _ (jJ o hp kn hr k 0 k (YT _) (Ym _) (Ym _) (fun i hi=>absurd hi (Nat.not_lt_zero _)) fun i h1 h2=>absurd h2 (Nat.not_lt_of_le h1)));obtain⟨a1,a2,a3⟩:=hh_;exact ih _ (k+1) (hp.bub _ _) ((Xu k 1 f).trans hk) (vc o hp kn hr a1 a2 a3)
theorem iQ(n:Nat):PermN n (List.toArray (List.range n)):=⟨by simp,by simp⟩
theorem mq(o:Ord lt)(hn:1<=n):kok n lt (kas_sort n) (fun r=>PermN n r/\Ris lt r n):=by
 unfold kas_sort;refine eO _ (cD (fun r hh_=>?_) _ (uB o (iQ n) hn));obtain⟨a1,a2,a3,a4⟩:=hh_;by_cases hr:r.1<n
 ·rw[Yi hr];have e:max r.1 1=r.1:=Nat.max_eq_left a1;rw[e];exact xZ o _ _ _ a3 (Xn a2) a4
 ·rw[Yn hr];have e:r.1=n:=Zh a2 (ZA hr);rw[e]at a4;exact⟨a3,a4⟩
end
section
variable{prog:Program}{w:World}{A:Around}{E:Kv}{s:Shared}
def gR(vs:List Value)(p:Array Nat):Array Value:=(p.toList.map fun i=>vs.getD i Value.none).toArray
theorem rM(vs:List Value)(h:vs.length<2):gR vs (List.toArray (List.range vs.length))=(vs.toArray.zip vs.toArray).map (·.2):=by
 cases vs with
 |nil=>simp[gR]
 |cons v r=>
  cases r with
  |nil=>simp[gR,List.range,List.range.loop]
  |cons _ _=>simp at h;omega
theorem jU{a:Addr}{vs:List Value}{n:Nat}{P:PySem.Fin->Shared->Prop}(ho:s.heap.get? a=some (seqObj "list" vs.toArray n))(h64:vs.length<64)(κ:SortKind)(lt:Nat->Nat->Bool)(o:Ord lt)
  (hk:2<=vs.length->∀h',(∀b u,b≠a->s.heap.get? b=some u->h'.get? b=some u)->∀Q:SortKind->Shared->Prop,Q κ {s with heap:=h' }->wpAny (model prog w) A (keyKind' vs.toArray) Q E {s with heap:=h' })
  (hc:∀h',(∀b u,b≠a->s.heap.get? b=some u->h'.get? b=some u)->∀i j C,i<vs.length->j<vs.length->C (lt i j) {s with heap:=h' }->kas_ask prog w A κ vs i j C {s with heap:=h' })
  (h:∀p,PermN vs.length p->Ris lt p vs.length->P (.done (.ret .none)) {s with heap:=sortedHeap s.heap a vs (gR vs p)}) :
  wpAny (model prog w) A (Builtin.«list.sort» ⟨[.ref a],[]⟩) P E s:=by
 rw[list_sort_plain];have ha:a<s.heap.objs.size:=Yq ho;refine Yd (listItems_at ho rfl ?_);refine Yd (listUpdate_at ho rfl ?_ (by rw[Yp,YQ];omega) (YT _));obtain⟨e1,ho1⟩:∃e1,(s.heap.update a (Obj.mapSeq fun _=>(#[]:Array Value))).get? a=some (seqObj "list" #[] e1):=⟨_,get?_update_seq ho (fun _=>#[])⟩
 refine Yd (seqEpoch_at ho1 rfl ?_);refine Yd (wpAny_newTuple ?_ (by show vs.length<=_;rw[YQ];omega));refine Yd (wpAny_newList ?_ (YT _));refine XI ?_;have ho6:(((s.heap.update a (Obj.mapSeq fun _=>(#[]:Array Value))).push (seqObj "tuple" vs.toArray 0)).push (seqObj "list" #[] 0)).get? a=some (seqObj "list" #[] e1):=by rw[Xg _ _ _ (by rw[size_push',XF];exact YG (Xd ha)),Xg _ _ _ (by rw[XF];exact YG ha)];exact ho1
 have kept:∀b u,b≠a->s.heap.get? b=some u->(((s.heap.update a (Obj.mapSeq fun _=>(#[]:Array Value))).push (seqObj "tuple" vs.toArray 0)).push (seqObj "list" #[] 0)).get? b=some u:=fun b u hb e=>by
  have hlt:b<s.heap.objs.size:=Yq e;rw[Xg _ _ _ (by rw[size_push',XF];exact YG (Xd hlt)),Xg _ _ _ (by rw[XF];exact YG hlt),Heap.get?_update_ne _ _ _ _ hb];exact e
 show wpAny (model prog w) A _ P E {s with heap:=((s.heap.update a (Obj.mapSeq fun _=>(#[]:Array Value))).push (seqObj "tuple" vs.toArray 0)).push (seqObj "list" #[] 0)};dsimp only;have hsz:vs.toArray.size=vs.length:=by simp
 by_cases h2:vs.toArray.size<2
 ·rw[Yi h2,Yi h2];refine Yd (YA ?_);rw[StateT.run_pure];refine Yd (YA ?_);dsimp only;refine Yd (seqEpoch_at ho6 rfl ?_);refine Yd (listUpdate_at ho6 rfl ?_ (YT _) (by rw[Array.size_map];show(pairsOf vs).size<=_;rw[pairsOf_size,YQ];omega));simp only[bne_self_eq_false,Xs,Vb];have q:=h (List.toArray (List.range vs.length)) (iQ _) (fun i j hij hj=>by
   have e1:i=j:=by omega
   subst e1;exact o.irr _)
  have e:gR vs (List.toArray (List.range vs.length))=(vs.toArray.zip vs.toArray).map (·.2):=by exact rM vs (by omega)
  rw[e]at q;exact YA q
 ·rw[Yn h2,Yn h2];have h2':2<=vs.length:=by omega
  refine Yd (hk h2' _ kept _ ?_);refine Yd (Zw (kat_run (Q:=fun st' s'=>s'={s with heap:=((s.heap.update a (Obj.mapSeq fun _=>(#[]:Array Value))).push (seqObj "tuple" vs.toArray 0)).push (seqObj "list" #[] 0)}/\∃p:Array Nat,PermN vs.length p/\Ris lt p vs.length/\arrOf st'=p.map (kas_item (vs.toArray.zip vs.toArray))/\failedOf st'=none)
   (G:=fun p s'=>s'={s with heap:=((s.heap.update a (Obj.mapSeq fun _=>(#[]:Array Value))).push (seqObj "tuple" vs.toArray 0)).push (seqObj "list" #[] 0)}/\PermN vs.length p/\Ris lt p vs.length)
   rfl h2' h64 (fun p st' s' a1 a2 a3 ⟨b1,b2,b3⟩=>⟨b1,p,b2,b3,a2,a3⟩) (zk (hc _ kept) (fun p ⟨b2,b3⟩=>⟨rfl,b2,b3⟩) _ (mq o (by omega)))) ?_ fun _ _ e=>e)
  rintro⟨⟨⟩,st'⟩ s' ⟨rfl,p,hp,hr,har,hf⟩;dsimp only;have hout:=kat_snds rfl har;rw[hout];refine Yd (seqEpoch_at ho6 rfl ?_);refine Yd (listUpdate_at ho6 rfl ?_ (YT _) (by rw[Yp,Yb,Zs,hp.size,YQ];omega));rw[hf];simp only[bne_self_eq_false,Xs,Vb];exact YA (h p hp hr)
end
theorem wb{x y:Str}(h:x.cps.toList=y.cps.toList):x=y:=by
 cases x;cases y
 congr
 exact Array.toList_inj.mp h
mutual
theorem cB:∀x y:D,az x y=true->(eqd x y=true↔x=y)
 |.int i,.int j,_=>by simp[eqd,bZ,PyData.eqv]
 |.bl a,.bl b,_=>by simp[eqd,bZ,PyData.eqv]
 |.str a,.str b,_=>by simp[eqd,bZ,PyData.eqv]
 |.tup xs,.tup ys,h=>by
  have:=mJ xs ys (by simpa[az]using h);simp only[eqd,bZ,PyData.eqv,D.tup.injEq];exact this
 |.non,y,h=>by cases y<;>simp[az]at h
 |.lst _,y,h=>by cases y<;>simp[az]at h
 |.dT _,y,h=>by cases y<;>simp[az]at h
 |.dK _,y,h=>by cases y<;>simp[az]at h
 |.ins _ _,y,h=>by cases y<;>simp[az]at h
 |.int _,.non,h=>by simp[az]at h
 |.int _,.bl _,h=>by simp[az]at h
 |.int _,.str _,h=>by simp[az]at h
 |.int _,.tup _,h=>by simp[az]at h
 |.int _,.lst _,h=>by simp[az]at h
 |.int _,.dT _,h=>by simp[az]at h
 |.int _,.dK _,h=>by simp[az]at h
 |.int _,.ins _ _,h=>by simp[az]at h
 |.bl _,.non,h=>by simp[az]at h
 |.bl _,.int _,h=>by simp[az]at h
 |.bl _,.str _,h=>by simp[az]at h
 |.bl _,.tup _,h=>by simp[az]at h
 |.bl _,.lst _,h=>by simp[az]at h
 |.bl _,.dT _,h=>by simp[az]at h
 |.bl _,.dK _,h=>by simp[az]at h
 |.bl _,.ins _ _,h=>by simp[az]at h
 |.str _,.non,h=>by simp[az]at h
 |.str _,.bl _,h=>by simp[az]at h
 |.str _,.int _,h=>by simp[az]at h
 |.str _,.tup _,h=>by simp[az]at h
 |.str _,.lst _,h=>by simp[az]at h
 |.str _,.dT _,h=>by simp[az]at h
 |.str _,.dK _,h=>by simp[az]at h
 |.str _,.ins _ _,h=>by simp[az]at h
 |.tup _,.non,h=>by simp[az]at h
 |.tup _,.bl _,h=>by simp[az]at h
 |.tup _,.int _,h=>by simp[az]at h
 |.tup _,.str _,h=>by simp[az]at h
 |.tup _,.lst _,h=>by simp[az]at h
 |.tup _,.dT _,h=>by simp[az]at h
 |.tup _,.dK _,h=>by simp[az]at h
 |.tup _,.ins _ _,h=>by simp[az]at h
theorem mJ:∀xs ys:List D,bD xs ys=true->(PyData.eqvAll (cu xs) (cu ys)=true↔xs=ys)
 |[],[],_=>by simp[cu,PyData.eqvAll]
 |[],_::_,_=>by simp[cu,PyData.eqvAll]
 |_::_,[],_=>by simp[cu,PyData.eqvAll]
 |x::xs,y::ys,h=>by
  rw[bD,Yl]at h;have h1:=cB x y h.1;have h2:=mJ xs ys h.2;simp only[cu,PyData.eqvAll,Yl,List.cons.injEq];rw[h2];unfold eqd at h1;rw[h1]
end
structure Fc2 {α:Type} (l:α->α->Bool) (x y:α):Prop where
 as:l x y=true->l y x=false
 an:l x y=false->l y x=false->x=y
def Fc3{α:Type}(l:α->α->Bool)(x y z:α):Prop:=l x y=true->l y z=true->l x z=true
theorem bg{x y:D}(h:az x y=true):(∃i j,x=.int i/\y=.int j)\/(∃i j,x=.bl i/\y=.bl j)\/(∃i j,x=.str i/\y=.str j)\/∃i j,x=.tup i/\y=.tup j/\bD i j=true:=by
 cases x with
 |int i=>
  refine .inl ?_;cases y with
  |int j=>exact⟨_,_,rfl,rfl⟩
  |_=>exact absurd h Yk
 |bl i=>
  refine .inr (.inl ?_);cases y with
  |bl j=>exact⟨_,_,rfl,rfl⟩
  |_=>exact absurd h Yk
 |str i=>
  refine .inr (.inr (.inl ?_));cases y with
  |str j=>exact⟨_,_,rfl,rfl⟩
  |_=>exact absurd h Yk
 |tup i=>
  refine .inr (.inr (.inr ?_));cases y with
  |tup j=>exact⟨_,_,rfl,rfl,h⟩
  |_=>exact absurd h Yk
 |_=>exact absurd h Yk
theorem rB{a b:List Nat}(h:a<b):¬b<a:=fun h'=>List.lt_irrefl a (List.lt_trans h h')
theorem fR{x y:D}(h1:az x y=true)(ht:fE x=false):Fc2 ltD x y:=by
 rcases bg h1 with⟨i,j,rfl,rfl⟩|⟨i,j,rfl,rfl⟩|⟨i,j,rfl,rfl⟩|⟨i,j,rfl,rfl,_⟩
 ·refine⟨fun h=>?_,fun h h'=>?_⟩
  ·simp only[ltD,YJ,ZS]at h ⊢;omega
  ·simp only[ltD,ZS]at h h';rw[show i=j by omega]
 ·refine⟨fun h=>?_,fun h h'=>?_⟩
  ·cases i<;>cases j<;>simp_all [ltD]
  ·cases i<;>cases j<;>simp_all [ltD]
 ·refine⟨fun h=>?_,fun h h'=>?_⟩
  ·simp only[ltD,YJ,ZS]at h ⊢;exact rB h
  ·simp only[ltD,ZS]at h h';rw[wb (List.le_antisymm h' h)]
 ·cases ht
theorem fM{x y z:D}(h1:az x y=true)(h2:az y z=true)(ht:fE x=false):Fc3 ltD x y z:=by
 rcases bg h1 with⟨i,j,rfl,rfl⟩|⟨i,j,rfl,rfl⟩|⟨i,j,rfl,rfl⟩|⟨i,j,rfl,rfl,_⟩
 ·rcases bg h2 with⟨j',k,e,rfl⟩|⟨j',k,e,rfl⟩|⟨j',k,e,rfl⟩|⟨j',k,e,rfl,_⟩<;>cases e;intro h h';simp only[ltD,YJ]at h h' ⊢;omega
 ·rcases bg h2 with⟨j',k,e,rfl⟩|⟨j',k,e,rfl⟩|⟨j',k,e,rfl⟩|⟨j',k,e,rfl,_⟩<;>cases e;intro h h';cases i<;>cases j<;>cases k<;>simp_all [ltD]
 ·rcases bg h2 with⟨j',k,e,rfl⟩|⟨j',k,e,rfl⟩|⟨j',k,e,rfl⟩|⟨j',k,e,rfl,_⟩<;>cases e;intro h h';simp only[ltD,YJ]at h h' ⊢;exact List.lt_trans h h'
 ·cases ht
theorem rX(n:Nat):∀x y:D,okN n x=true->az x y=true->az y x=true:=by
 induction n with
 |zero=>
  intro x y o h;rcases bg h with⟨i,j,rfl,rfl⟩|⟨i,j,rfl,rfl⟩|⟨i,j,rfl,rfl⟩|⟨i,j,rfl,rfl,_⟩
  ·rfl
  ·rfl
  ·rfl
  ·simp[okN]at o
 |succ n ih=>
  intro x y o h;rcases bg h with⟨i,j,rfl,rfl⟩|⟨i,j,rfl,rfl⟩|⟨i,j,rfl,rfl⟩|⟨i,j,rfl,rfl,hc⟩
  ·rfl
  ·rfl
  ·rfl
  ·have key:∀(xs ys:List D),(∀d∈xs,okN n d=true)->bD xs ys=true->bD ys xs=true:=by
    intro xs;induction xs with
    |nil=>intro ys _ _;cases ys<;>simp[bD]
    |cons x xs ihx=>
     intro ys ho hc;cases ys with
     |nil=>simp[bD]
     |cons y ys=>
      rw[bD,Yl]at hc ⊢;exact⟨ih x y (ho x Yf) hc.1,ihx ys (fun d hd=>ho d (Yc _ hd)) hc.2⟩
   rw[az];exact key i j (bB o) hc
theorem vO{n:Nat}(ih:∀x y:D,okN n x=true->okN n y=true->az x y=true->Fc2 ltD x y) :
  ∀(xs ys:List D),(∀d∈xs,okN n d=true)->(∀d∈ys,okN n d=true)->bD xs ys=true->Fc2 bJ xs ys:=by
 intro xs;induction xs with
 |nil=>
  intro ys _ _ _;refine⟨fun h=>?_,fun h h'=>?_⟩
  ·cases ys<;>simp_all [bJ]
  ·cases ys<;>simp_all [bJ]
 |cons x xs ihx=>
  intro ys ox oy c1;cases ys with
  |nil=>
   refine⟨fun h=>?_,fun h h'=>?_⟩
   ·simp[bJ]at h
   ·simp[bJ]at h'
  |cons y ys=>
   rw[bD,Yl]at c1;have px:=ox x Yf;have py:=oy y Yf;have exy:=cB x y c1.1;have eyx:=cB y x (rX n x y px c1.1);have G:=ihx ys (fun d hd=>ox d (Yc _ hd)) (fun d hd=>oy d (Yc _ hd)) c1.2;refine⟨fun h=>?_,fun h h'=>?_⟩
   ·rw[bJ]at h ⊢;by_cases hxy:x=y
    ·rw[Yi (exy.mpr hxy)]at h;rw[Yi (eyx.mpr hxy.symm)];exact G.as h
    ·rw[Yn (fun q=>hxy (exy.mp q))]at h;rw[Yn (fun q=>hxy (eyx.mp q).symm)];exact(ih x y px py c1.1).as h
   ·rw[bJ]at h h';by_cases hxy:x=y
    ·rw[Yi (exy.mpr hxy)]at h;rw[Yi (eyx.mpr hxy.symm)]at h';rw[hxy,G.an h h']
    ·rw[Yn (fun q=>hxy (exy.mp q))]at h;rw[Yn (fun q=>hxy (eyx.mp q).symm)]at h';exact absurd ((ih x y px py c1.1).an h h') hxy
theorem gj(n:Nat):∀x y:D,okN n x=true->okN n y=true->az x y=true->Fc2 ltD x y:=by
 induction n with
 |zero=>
  intro x y ox oy c1;refine fR c1 ?_;cases x<;>first|rfl|(simp[okN]at ox)
 |succ n ih=>
  intro x y ox oy c1;rcases bg c1 with⟨i,j,rfl,rfl⟩|⟨i,j,rfl,rfl⟩|⟨i,j,rfl,rfl⟩|⟨i,j,rfl,rfl,d1⟩
  ·exact fR c1 rfl
  ·exact fR c1 rfl
  ·exact fR c1 rfl
  ·have F:=vO ih i j (bB ox) (bB oy) d1;refine⟨fun h=>?_,fun h h'=>?_⟩
   ·rw[ltD]at h ⊢;exact F.as h
   ·rw[ltD]at h h';rw[F.an h h']
theorem vm{n:Nat}(ih:∀x y z:D,okN n x=true->okN n y=true->okN n z=true->az x y=true->az y z=true->az x z=true->Fc3 ltD x y z) :
  ∀(xs ys zs:List D),(∀d∈xs,okN n d=true)->(∀d∈ys,okN n d=true)->(∀d∈zs,okN n d=true)->bD xs ys=true->bD ys zs=true->bD xs zs=true->Fc3 bJ xs ys zs:=by
 intro xs;induction xs with
 |nil=>
  intro ys zs _ _ _ _ _ _ h h';cases ys<;>cases zs<;>simp_all [bJ]
 |cons x xs ihx=>
  intro ys zs ox oy oz c1 c2 c3 h h';cases ys with
  |nil=>simp[bJ]at h
  |cons y ys=>
   rw[bD,Yl]at c1;have px:=ox x Yf;have py:=oy y Yf;have exy:=cB x y c1.1;cases zs with
   |nil=>simp[bJ]at h'
   |cons z zs=>
    rw[bD,Yl]at c2 c3;have pz:=oz z Yf;have eyz:=cB y z c2.1;have exz:=cB x z c3.1;have F:=ih x y z px py pz c1.1 c2.1 c3.1;rw[bJ]at h h' ⊢;by_cases hxy:x=y
    ·rw[Yi (exy.mpr hxy)]at h;by_cases hyz:y=z
     ·rw[Yi (eyz.mpr hyz)]at h';rw[Yi (exz.mpr (hxy.trans hyz))];exact ihx ys zs (fun d hd=>ox d (Yc _ hd)) (fun d hd=>oy d (Yc _ hd)) (fun d hd=>oz d (Yc _ hd)) c1.2 c2.2 c3.2 h h'
     ·rw[Yn (fun q=>hyz (eyz.mp q))]at h';rw[Yn (fun q=>hyz (hxy.symm.trans (exz.mp q)))];rw[hxy];exact h'
    ·rw[Yn (fun q=>hxy (exy.mp q))]at h;by_cases hyz:y=z
     ·rw[Yn (fun q=>hxy ((exz.mp q).trans hyz.symm))];rw[<-hyz];exact h
     ·rw[Yn (fun q=>hyz (eyz.mp q))]at h';have hxz:=F h h';by_cases he:x=z
      ·subst he;have:=(gj n x y px py c1.1).as h;rw[h']at this;cases this
      ·rw[Yn (fun q=>he (exz.mp q))];exact hxz
theorem wJ(n:Nat):∀x y z:D,okN n x=true->okN n y=true->okN n z=true->az x y=true->az y z=true->az x z=true->Fc3 ltD x y z:=by
 induction n with
 |zero=>
  intro x y z ox oy oz c1 c2 c3;refine fM c1 c2 ?_;cases x<;>first|rfl|(simp[okN]at ox)
 |succ n ih=>
  intro x y z ox oy oz c1 c2 c3;rcases bg c1 with⟨i,j,rfl,rfl⟩|⟨i,j,rfl,rfl⟩|⟨i,j,rfl,rfl⟩|⟨i,j,rfl,rfl,d1⟩
  ·exact fM c1 c2 rfl
  ·exact fM c1 c2 rfl
  ·exact fM c1 c2 rfl
  ·rcases bg c2 with⟨j',k,e,rfl⟩|⟨j',k,e,rfl⟩|⟨j',k,e,rfl⟩|⟨j',k,e,rfl,d2⟩<;>cases e;have F:=vm ih i j k (bB ox) (bB oy) (bB oz) d1 d2 (by simpa[az]using c3);intro h h';rw[ltD]at h h' ⊢;exact F h h'
def rP(x:D):List D->List D
 |[]=>[x]
 |y::r=>if ltD x y=true then x::y::r else y::rP x r
def cx:List D->List D
 |[]=>[]
 |x::r=>rP x (cx r)
theorem gL(x:D):∀l:List D,(rP x l).Perm (x::l)
 |[]=>.refl _
 |y::r=>by
  unfold rP;split
  ·exact .refl _
  ·exact((gL x r).cons y).trans (.swap x y r)
theorem bF:∀l:List D,(cx l).Perm l
 |[]=>.refl _
 |x::r=>(gL x (cx r)).trans ((bF r).cons x)
def Cmps(n:Nat)(ds:List D):Prop:=(∀d∈ds,okN n d=true)/\∀x∈ds,∀y∈ds,az x y=true
theorem lU{n:Nat}:∀{as bs:List D},as.Perm bs->Cmps n as->as.Pairwise (fun x y=>ltD y x=false)->bs.Pairwise (fun x y=>ltD y x=false)->as=bs:=by
 intro as;induction as with
 |nil=>intro bs hp _ _ _;exact(List.Perm.nil_eq hp)
 |cons a as ih=>
  intro bs hp hc pa pb;cases bs with
  |nil=>exact absurd hp.symm (List.not_perm_nil_cons _ _)
  |cons b bs=>
   have ma:a∈b::bs:=hp.mem_iff.mp Yf;have mb:b∈a::as:=hp.mem_iff.mpr Yf;have e:a=b:=by
    rcases YF.mp ma with h|h
    ·exact h
    ·rcases YF.mp mb with h'|h'
     ·exact h'.symm
     ·have l1:=(Zz.mp pa).1 b h';have l2:=(Zz.mp pb).1 a h;exact(gj n a b (hc.1 a Yf) (hc.1 b mb) (hc.2 a Yf b mb)).an l2 l1
   subst e;rw[ih (List.Perm.cons_inv hp) ⟨fun d hd=>hc.1 d (Yc _ hd),fun x hx y hy=>hc.2 x (Yc _ hx) y (Yc _ hy)⟩ (Zz.mp pa).2 (Zz.mp pb).2]
theorem Cmps.perm{n:Nat}{as bs:List D}(h:Cmps n as)(p:as.Perm bs):Cmps n bs:=⟨fun d hd=>h.1 d (p.mem_iff.mpr hd),fun x hx y hy=>h.2 x (p.mem_iff.mpr hx) y (p.mem_iff.mpr hy)⟩
theorem jY{n:Nat}{x y z:D}(ox:okN n x=true)(oy:okN n y=true)(oz:okN n z=true)(cxy:az x y=true)(cyz:az y z=true)(cxz:az x z=true)(cyx:az y x=true)(czy:az z y=true)(czx:az z x=true)
  (h1:ltD y x=false) (h2:ltD z y=false):ltD z x=false:=by
 cases q:ltD z x with
 |false=>rfl
 |true=>
  -- z<x;x<=y
  by_cases hxy:ltD x y=true
  ·have:=wJ n z x y oz ox oy czx cxy czy q hxy;rw[h2]at this;cases this
  ·have e:x=y:=(gj n x y ox oy cxy).an (by simpa using hxy) h1;subst e;rw[h2]at q;cases q
theorem gW{n:Nat}{x:D}:∀{l:List D},Cmps n (x::l)->l.Pairwise (fun a b=>ltD b a=false)->(rP x l).Pairwise (fun a b=>ltD b a=false)
 |[],_,_=>List.pairwise_singleton _ _
 |y::r,hc,hp=>by
  have mx:x∈x::y::r:=Yf;have my:y∈x::y::r:=Yc _ Yf;obtain⟨h1,h2⟩:=Zz.mp hp;unfold rP;split
  ·rename_i q;refine Zz.mpr ⟨fun z hz=>?_,hp⟩;have hyx:ltD y x=false:=(gj n x y (hc.1 x mx) (hc.1 y my) (hc.2 x mx y my)).as q;rcases YF.mp hz with rfl|hz
   ·exact hyx
   ·have mz:z∈x::y::r:=Yc _ (Yc _ hz);exact jY (hc.1 x mx) (hc.1 y my) (hc.1 z mz) (hc.2 x mx y my) (hc.2 y my z mz) (hc.2 x mx z mz) (hc.2 y my x mx) (hc.2 z mz y my) (hc.2 z mz x mx) hyx (h1 z hz)
  ·rename_i q;refine Zz.mpr ⟨fun z hz=>?_,gW (x:=x) ⟨fun d hd=>hc.1 d ?_,fun a ha b hb=>hc.2 a ?_ b ?_⟩ h2⟩
   ·rcases YF.mp ((gL x r).mem_iff.mp hz)with rfl|hz
    ·simpa using q
    ·exact h1 z hz
   all_goals
    first
     |(
      rcases YF.mp hd with rfl|hd
      ·exact mx
      ·exact Yc _ (Yc _ hd))
     |(
      rcases YF.mp ha with rfl|ha
      ·exact mx
      ·exact Yc _ (Yc _ ha))
     |(
      rcases YF.mp hb with rfl|hb
      ·exact mx
      ·exact Yc _ (Yc _ hb))
theorem Cmps.sub{n:Nat}{as bs:List D}(h:Cmps n bs)(k:∀x∈as,x∈bs):Cmps n as:=⟨fun d hd=>h.1 d (k d hd),fun x hx y hy=>h.2 x (k x hx) y (k y hy)⟩
theorem dN{n:Nat}:∀{l:List D},Cmps n l->(cx l).Pairwise (fun a b=>ltD b a=false)
 |[],_=>.nil
 |x::r,hc=>gW (hc.sub fun y hy=>by
   rcases YF.mp hy with rfl|hy
   ·exact Yf
   ·exact Yc _ ((bF r).mem_iff.mp hy)) (dN (hc.sub fun y hy=>Yc _ hy))
theorem jE{n:Nat}{as bs:List D}(hp:as.Perm bs)(hc:Cmps n bs)(hs:as.Pairwise (fun x y=>ltD y x=false)):as=cx bs:=
 lU (hp.trans (bF bs).symm) (hc.perm hp.symm) hs (dN hc)
theorem o5{n:Nat}{as bs:List D}(hp:as.Perm bs)(hc:Cmps n bs):cx as=cx bs:=
 jE ((bF as).trans hp) hc (dN (hc.perm hp.symm))
end L2
namespace L2
open PySem PySem.Spec PyProof.Rows
section
variable{X:Cx}{e a b c o:Expr}{es:List Expr}{pos p:Pos}
theorem mC{K:Kq}{H:Hp}{x:V}{i:Int}(r:Rep K H x (.int i)):x=.int i:=by cases r;rfl
theorem jz{K:Kq}{H:Hp}{x:V}{i:Str}(r:Rep K H x (.str i)):x=.str i:=by cases r;rfl
theorem ph{K:Kq}{g:Int->Int->V}{g':Int->Int->D}(hg:∀F i j,Rep K F (g i j) (g' i j)):OpN2 K (rI0 g) (fI0 g'):=by
 intro P F H x y dx dy d Q hf hp rx ry k;unfold fI0 at hf;split at hf
 ·rename_i i j;cases hf;exact⟨i,j,mC rx,mC ry,k _ F H (Evo.refl hp) (hg F i j)⟩
 ·cases hf
theorem OpN2.or{K:Kq}{r r':R2}{f g:Dy}(h:OpN2 K r f)(h':OpN2 K r' g):OpN2 K (fun x y H Q=>r x y H Q\/r' x y H Q) (fun x y=>(f x y).or (g x y)):=by
 intro P F H x y dx dy d Q hf hp rx ry k;dsimp only at hf;cases q:f dx dy with
 |some d'=>rw[q]at hf;have hf:=Yr hf;subst hf;exact .inl (h P F H x y dx dy _ Q q hp rx ry k)
 |none=>rw[q]at hf;exact .inr (h' P F H x y dx dy d Q hf hp rx ry k)
def leS:D->D->Option D
 |.str x,.str y=>some (.bl (!decide (y.cps.toList<x.cps.toList)))
 |_,_=>none
def wN:R2:=fun x y H Q=>∃i j,x=.str i/\y=.str j/\Q (.bl (!decide (j.cps.toList<i.cps.toList))) H
theorem qX:OpR X (compareOp .LtE) wN:=by intro pz s σ H x y v u Q I rx ry h;obtain⟨i,j,rfl,rfl,q⟩:=h;obtain⟨t,rfl⟩:=rx;obtain⟨t',rfl⟩:=ry;exact PySem.P.le_str ⟨.bl _,H,I,rfl,q⟩
theorem zB{K:Kq}:OpN2 K wN leS:=by
 intro P F H x y dx dy d Q hf hp rx ry k;unfold leS at hf;split at hf
 ·cases hf;exact⟨_,_,jz rx,jz ry,k _ F H (Evo.refl hp) .bl⟩
 ·cases hf
def leA(x y:D):Option D:=(leI x y).or (leS x y)
theorem jg:OpR X (compareOp .LtE) (fun x y H Q=>rI0 (fun i j=>.bl (decide (i<=j))) x y H Q\/wN x y H Q):=Br.or qX
theorem jI{K:Kq}:OpN2 K (fun x y H Q=>rI0 (fun i j=>.bl (decide (i<=j))) x y H Q\/wN x y H Q) leA:=(ph fun _ _ _=>.bl).or zB
def chD(f g:Dy)(fa fb fc:Dd):DF->Option D:=fun ρ=>(fa ρ).bind fun x=>(fb ρ).bind fun y=>match f x y with
 |some (.bl true)=>(fc ρ).bind fun z=>g y z
 |some (.bl false)=>some (.bl false)
 |_=>none
theorem iF{K:Kq}{r r':R2}{f g:Dy}{fa fb fc:Dd}(ho:OpN2 K r f)(ho':OpN2 K r' g):∀σ H Q,tD K (chD f g fa fb fc) σ H Q->oI r r' (tN K fa) (tN K fb) (tN K fc) σ H Q:=fun σ H Q=>un7 fun P F ρ d hf I k=>by
 unfold chD at hf;cases ha:fa ρ with
 |none=>rw[ha]at hf;cases hf
 |some dx=>
 cases hb:fb ρ with
 |none=>rw[ha,Ya,hb]at hf;cases hf
 |some dy=>
 rw[ha,Ya,hb,Ya]at hf;split at hf
 ·rename_i hxy;cases hc:fc ρ with
  |none=>rw[hc]at hf;cases hf
  |some dz=>
   rw[hc,Ya]at hf;refine⟨P,F,ρ,dx,ha,I,fun x F1 H1 e1 rx=>⟨P,F1,ρ,dy,hb,I.evo e1,fun y F2 H2 e2 ry=>?_⟩⟩;refine ho P F2 H2 x y dx dy _ _ hxy e2.hp (rx.same (e2.same e1.hp)) ry fun v F3 H3 e3 rv=>?_;cases rv;refine⟨true,rfl,?_⟩;rw[Yi rfl];have e123:=(e1.trans e2).trans e3;refine⟨P,F3,ρ,dz,hc,I.evo e123,fun z F4 H4 e4 rz=>?_⟩;exact ho' P F4 H4 y z dy dz d Q hf e4.hp ((ry.same (e3.same e2.hp)).same (e4.same e3.hp)) rz fun v F5 H5 e5 rv=>k v F5 H5 ((e123.trans e4).trans e5) rv
 ·rename_i hxy;cases hf;refine⟨P,F,ρ,dx,ha,I,fun x F1 H1 e1 rx=>⟨P,F1,ρ,dy,hb,I.evo e1,fun y F2 H2 e2 ry=>?_⟩⟩;refine ho P F2 H2 x y dx dy _ _ hxy e2.hp (rx.same (e2.same e1.hp)) ry fun v F3 H3 e3 rv=>?_;cases rv;refine⟨false,rfl,?_⟩;rw[Yn Yk];exact k _ F3 H3 ((e1.trans e2).trans e3) .bl
 ·cases hf
theorem p5{fa fb fc:Dd}(ha:PDN X a fa)(hb:PDN X b fb)(hc:PDN X c fc)(hm:lastMarks [CmpOp.LtE,CmpOp.LtE] [b,c]=false:=by with_unfolding_all rfl):PDE X (.Compare a [.LtE,.LtE] [b,c] pos) (chD leA leA fa fb fc):=(na jg jg ha hb hc hm).imp (iF jI jI)
theorem kU{fa fb fc:Dd}(ha:PDN X a fa)(hb:PDN X b fb)(hc:PDN X c fc)(hm:lastMarks [CmpOp.LtE,CmpOp.Lt] [b,c]=false:=by with_unfolding_all rfl):PDE X (.Compare a [.LtE,.Lt] [b,c] pos) (chD leA ltI fa fb fc):=(na jg BE ha hb hc hm).imp (iF jI (ph fun _ _ _=>.bl))
theorem vI{fa fb fc:Dd}(ha:PDN X a fa)(hb:PDN X b fb)(hc:PDN X c fc)(hm:lastMarks [CmpOp.LtE,CmpOp.LtE] [b,c]=false:=by with_unfolding_all rfl):PDT X (.Compare a [.LtE,.LtE] [b,c] pos) (asB (chD leA leA fa fb fc)):=(t9 jg jg ha hb hc hm).imp (fH (iF jI jI))
def yp(K:Kq)(r:List V->Hp->VK->Prop)(f:D->Option D):Prop:=
 ∀(P F H:Hp) (x:V) (dx d:D) (Q:VK),f dx=some d->DHp P F H->Rep K H x dx->(∀v F' H',Evo P F H F' H'->Rep K F' v d->Q v H')->r [x] H Q
theorem n6{K:Kq}{r:List V->Hp->VK->Prop}{f:D->Option D}{fa:Dd}(ho:yp K r f):∀σ H Q,tD K (d1 f fa) σ H Q->tCB r (ju (tN K fa) nV) σ H Q:=fun σ H Q=>un7 fun P F ρ d hf I k=>by
 unfold d1 at hf;cases ha:fa ρ with
 |none=>rw[ha]at hf;cases hf
 |some dx=>
  rw[ha,Ya]at hf;exact⟨P,F,ρ,dx,ha,I,fun x F1 H1 e1 rx=>ho P F1 H1 x dx d Q hf e1.hp rx fun v F2 H2 e2 rv=>k v F2 H2 (e1.trans e2) rv⟩
theorem xP{K:Kq}:yp K (Bx K) aM:=by
 intro P F H x dx d Q hf hp rx k;unfold aM at hf;split at hf
 ·cases hf;cases rx with|lst h1 h2=>exact .inl ⟨_,_,rfl,.inl h1,by rw[h2.length];exact k _ F H (Evo.refl hp) .int⟩
 ·cases hf;cases rx with|tup h1 h2=>exact .inl ⟨_,_,rfl,.inr (SqT.of h1),by rw[h2.length];exact k _ F H (Evo.refl hp) .int⟩
 ·split at hf
  ·rename_i h;cases hf;exact .inr ⟨_,by rw[jz rx],by rw[YQ];exact h,k _ F H (Evo.refl hp) .int⟩
  ·cases hf
 ·cases hf
theorem aU{fa:Dd}(hg:Gl X "len")(hm:X.mg "len"=none)(ha:PDN X e fa)(hs:starEach [e] X.env=[(false,eval e X.env)]:=by rfl)(hpl:(backTo pos (starEach [] X.env)).any (·.1)=false:=by rfl) :
  PDE X (.Call (.Name "len" p) [e] [] pos) (d1 aM fa):=
 (eE (kP.or k7) hg hm PySem.boot_len (aE ha bp hs) (by decide) (by decide) hs hpl).imp (n6 xP)
def mT:D->Option D
 |.int i=>some (.int i)
 |.bl k=>some (.int (if k then 1 else 0))
 |_=>none
theorem vL{K:Kq}:yp K (fun xs H Q=>(∃i,xs=[.int i]/\Q (.int i) H)\/∃k,xs=[.bl k]/\Q (.int (if k then 1 else 0)) H) mT:=by
 intro P F H x dx d Q hf hp rx k;unfold mT at hf;split at hf
 ·cases hf;cases rx;exact .inl ⟨_,rfl,k _ F H (Evo.refl hp) .int⟩
 ·cases hf;cases rx;exact .inr ⟨_,rfl,k _ F H (Evo.refl hp) .int⟩
 ·cases hf
theorem boot_int:bootBuiltins "int"=some (.type "int"):=by rfl
theorem boot_list:bootBuiltins "list"=some (.type "list"):=by rfl
theorem oT:bootBuiltins "tuple"=some (.type "tuple"):=by rfl
theorem boot_bool:bootBuiltins "bool"=some (.type "bool"):=by rfl
theorem iq:bootBuiltins "isinstance"=some (.builtin "isinstance"):=by rfl
theorem t8:bootBuiltins "all"=some (.builtin "all"):=by rfl
theorem ug:bootBuiltins "min"=some (.builtin "min"):=by rfl
theorem nu:bootBuiltins "sorted"=some (.builtin "sorted"):=by rfl
theorem qe{fa:Dd}(hg:Gl X "int")(hm:X.mg "int"=none)(ha:PDN X e fa)(hs:starEach [e] X.env=[(false,eval e X.env)]:=by rfl) :
  PDE X (.Call (.Name "int" p) [e] [] pos) (d1 mT fa):=
 (dG rV hg hm boot_int (aE ha bp hs) (he:=hs)).imp (n6 vL)
def mD:D->Option D
 |.lst ds=>some (.tup ds)
 |.tup ds=>some (.tup ds)
 |_=>none
theorem yB{K:Kq}:Bz K (fun xs H Q=>∃p ys,xs=[.ref p]/\((SqL K H p ys/\∀l,H l=none->Q (.ref l) (upd H l (.tup ys)))\/(SqT K H p ys/\Q (.ref p) H))) mD:=by
 intro P F H ρ σ x dx d Q hf I rx k;unfold mD at hf;split at hf
 ·cases hf;obtain⟨p,vs,rfl,h1,h2⟩:=c9 I rx;refine⟨p,vs,rfl,.inl ⟨h1,fun l hl=>?_⟩⟩;exact k _ _ _ (Evo.laid I.toDHp hl) (.tup aR (h2.same (fG (I.toDHp.free hl).1)))
 ·cases hf;rcases rx with rx|⟨_,ob,_,_,_,_,_,hfl,z⟩
  ·cases rx with|tup h1 h2=>exact⟨_,_,rfl,.inr ⟨SqT.of (I.sub _ _ h1),k _ F H (Evo.refl I.toDHp) (.tup h1 h2)⟩⟩
  ·cases ob<;>first|(cases z;done)|cases hfl
 ·cases hf
theorem lP{fa:Dd}(hg:Gl X "tuple")(hm:X.mg "tuple"=none)(ha:PDR X e fa)(hs:starEach [e] X.env=[(false,eval e X.env)]:=by rfl) :
  PDE X (.Call (.Name "tuple" p) [e] [] pos) (d1 mD fa):=
 (dG jR hg hm oT (aE ha bp hs) (he:=hs)).imp (yE yB)
def eK(f:Dd):DF->Option (List D):=fun ρ=>(f ρ).bind cv
theorem ji{fa:Dd}(hg:Gl X "list")(hm:X.mg "list"=none)(ha:PDR X e fa)(hs:starEach [e] X.env=[(false,eval e X.env)]:=by rfl) :
  PDO X (.Call (.Name "list" p) [e] [] pos) (asL (eK fa)):=
 (dG lB hg hm boot_list (aE ha bp hs) (he:=hs)).imp fun σ H Q=>un7 fun P F ρ ob hf I k=>by
  unfold asL eK at hf;cases ha:fa ρ with
  |none=>rw[ha]at hf;cases hf
  |some dx=>
   rw[ha,Ya]at hf;cases hi:cv dx with
   |none=>rw[hi]at hf;cases hf
   |some ds=>
    rw[hi]at hf;cases hf;refine⟨P,F,ρ,dx,ha,I,fun x F1 H1 e1 rx=>?_⟩;have I1:=I.evo e1;have fin:∀vs,Reps X.K F1 vs ds->∀l,H1 l=none->Q (.ref l) (upd H1 l (.lst vs)):=fun vs r l hl=>
     k l F1 _ (e1.trans (Evo.side e1.hp hl)) ⟨⟨e1.back I.toDHp hl,(e1.hp.free hl).1⟩,_,aR,r⟩
    cases dx with
    |lst ds'=>
     cases hi;obtain⟨q,vs,rfl,h1,h2⟩:=c9 I1 rx;exact⟨q,vs,rfl,.inl h1,fin vs h2⟩
    |tup ds'=>
     cases hi;obtain⟨q,vs,rfl,h1,h2⟩:=fT I1 rx;exact⟨q,vs,rfl,.inr h1,fin vs h2⟩
    |_=>cases hi
def xt(K:Kq):R2:=fun x y H Q=>∃l b xs zs,x=.ref l/\y=.ref b/\SqL K H l xs/\SqL K H b zs/\xs.length+zs.length<=sizeLine/\∀p,H p=none->Q (.ref p) (upd H p (.lst (xs++zs)))
theorem pj:OpR X (binaryOp .Add) (xt X.K):=by
 intro pz s σ H x y v u Q I rx ry h;obtain⟨l,b,xs,zs,rfl,rfl,hH,hB,hz,q⟩:=h;cases rx;cases ry;obtain⟨its,r,p1,_⟩:=I.list hH;obtain⟨its2,r2,p2,_⟩:=I.list hB;obtain⟨⟨cls,dd,data,sl⟩,n,ho,hc,hdd,hd⟩:=p1;obtain⟨⟨cls2,dd2,data2,sl2⟩,n2,ho2,hc2,hdd2,hd2⟩:=p2;simp only at hc hd hc2 hd2;subst hc hd hc2 hd2;have e1:=r.length;have e2:=r2.length;refine concat_meets ⟨_,ho,rfl⟩ ⟨_,ho2,rfl⟩ PySem.noFill_list_add PySem.seq_list_add PySem.F.slot_list_add PySem.F.entry_list_add (PySem.F.args_list_add_2 _ _) (list_addW l b its.toArray its2.toArray n n2 dd dd2 sl sl2 (by rw[Yp,Yp];omega)) ⟨ho,ho2,?_⟩;have ea:its.toArray++its2.toArray=(its++its2).toArray:=by simp
 rw[ea];exact⟨.ref _,_,I.lnew (t':=s.toks) (r.append r2) (by rw[Yj];omega),rfl,q _ I.fresh⟩
def io(fa fb:Dd):DF->Option (List D):=fun ρ=>match fa ρ,fb ρ with
 |some (.lst xs),some (.lst ys)=>if xs.length+ys.length<=16777216 then some (xs++ys)else none
 |_,_=>none
theorem qm{fa fb:Dd}(ha:PDR X a fa)(hb:PDR X b fb):PDO X (.BinOp a .Add b pos) (asL (io fa fb)):=(xq pj ha hb).imp fun σ H Q=>un7 fun P F ρ ob hf I k=>by
 unfold asL at hf;cases q:io fa fb ρ with
 |none=>rw[q]at hf;cases hf
 |some out=>
 rw[q]at hf;cases hf;unfold io at q;split at q
 ·rename_i xs ys qa qb;split at q
  ·rename_i hz;cases q;refine⟨P,F,ρ,_,qa,I,fun x F1 H1 e1 rx=>⟨P,F1,ρ,_,qb,I.evo e1,fun y F2 H2 e2 ry=>?_⟩⟩;have I2:=(I.evo e1).evo e2;obtain⟨l,vs,rfl,h1,h2⟩:=c9 I2 (rx.evo e2);obtain⟨l2,vs2,rfl,h3,h4⟩:=c9 I2 ry;refine⟨l,l2,vs,vs2,rfl,rfl,h1,h3,by rw[h2.length,h4.length,YQ];exact hz,fun p hp=>?_⟩;have e12:=e1.trans e2;exact k p F2 _ (e12.trans (Evo.side e12.hp hp)) ⟨⟨e12.back I.toDHp hp,(e12.hp.free hp).1⟩,_,aR,h2.append h4⟩
  ·cases q
 ·cases q
end
def spM(K:Kq)(f:Dz):Sp:=fun vs H Q _=>∃P F a vs' o xs o' d,vs=.ref a::vs'/\f o xs=some (o',d)/\DHp P F H/\F a=none/\P a=none/\o.flat=true/\(∃u,H a=some u/\ORep1 K F o u)/\DVs K P F H xs vs' /\
 ∀v F' H',Same F F'->DHp P F' H'->F' a=none->(∃u',H' a=some u'/\ORep1 K F' o' u')->o'.flat=true->Rep K F' v d->Q v H'
def kd(a:Addr)(o':OD)(d:D):RES->Prop
 |.nx ρ=>ρ[0]?=some (some (.own o' (some a)))/\d=.non
 |.rt x ρ=>x=.v d/\ρ[0]?=some (some (.own o' (some a)))
 |_=>False
theorem DInv.startM{K:Kq}{P F H:Hp}{xs:List DV}{vs:List V}{a:Addr}{o:OD}(N:List Str)(p:Nat)(h:DHp P F H)(hf:F a=none)(hp:P a=none)(fl:o.flat=true)(ho:∃u,H a=some u/\ORep1 K F o u)(r:DVs K P F H xs vs)(hl:xs.length+1=p) :
  DInv K P F H (aQ N.length p (.own o (some a)::xs)) (L2.start N (.ref a::vs)):=by
 refine⟨h,?_,fun b=>if b=a then some 0 else none,fun i x e=>?_⟩
 ·unfold aQ L2.start;rw[Yj,Yj,Yb,Yb,Yz,Yz,Yu,Yu,<-r.length,hl]
 ·have e':=fr e;cases i with
  |zero=>
   cases e';refine⟨.ref a,cr (i:=0) rfl,a,rfl,(ORep.flat fl).mpr ⟨⟨hf,hp,Yi rfl⟩,ho⟩,fun b z=>by cases z;rfl⟩
  |succ i=>
   obtain⟨hno,v,h1,h2⟩:=r.get (i:=i) (x:=x) e';refine⟨v,cr (i:=i+1) (by simpa using h1),?_⟩;cases x with
   |own o t=>cases hno
   |v d=>exact h2
   |bor o=>exact h2
theorem Fun.okM{P:Program}{w:World}{K:Kq}{mg:Ks}{base:Heap}{x qual:Str}{st:Stmt}{f:Addr}{fd:FuncData}{N ps:List Str}{k:Nat}{g:Dw}{m:Dz}(F:Fun K x qual st f fd)(S:FnScope N ps (defScope st))
  (hm:∀a o xs o' d,m o xs=some (o',d)->xs.length+1=ps.length/\o'.flat=true/\∃r,g (aQ N.length ps.length (.own o (some a)::xs))=some r/\kd a o' d r)
  (hbody:∀(cdv:Value) (A:Around) (outer:List Env) (s:Shared) (H:Hp) (E:XK),Room k (A.deeper (envOfC qual (defScope st) s.heap.objs.size f cdv))->
   PDS (lp CX0 P w K mg base N qual (defScope st) f cdv A outer s H E).nox (defBody st) g):FnOk P w K mg base CX0 (k+1) f fd ps (spM K m):=by
 refine F.ok S (fun vs H Q E hh_=>?_) fun cdv A outer s H vs Q E hr h=>?_
 ·obtain⟨P',F',a,vs',o,xs,o',d,e,h1,_,_,_,_,_,hv,_⟩:=hh_;rw[e,Yu,<-hv.length];exact(hm 0 o xs o' d h1).1
 ·refine⟨_,hbody cdv A outer s H E hr,?_⟩;obtain⟨P',F',a,vs',o,xs,o',d,rfl,h1,hp,hf,hP,fl,ho,hv,hQ⟩:=h;obtain⟨hl,fl',r,hg,he⟩:=hm a o xs o' d h1;have I:=DInv.startM N ps.length hp hf hP fl ho hv hl;refine⟨P',F',_,r,hg,I,?_⟩;have fin:∀(ρ:DF) (σ:St) (F2 H2:Hp) (v:V),ρ[0]?=some (some (.own o' (some a)))->Same F' F2->DInv K P' F2 H2 ρ σ->Rep K F2 v d->Q v H2:=fun ρ σ F2 H2 v h0 e I2 rv=>by
   obtain⟨v',_,a',rfl,h3,h4⟩:=I2.at h0;have ea:=h4 a rfl;subst ea;obtain⟨⟨q1,q2,_⟩,u,q3,q4⟩:=(ORep.flat fl').mp h3;exact hQ v F2 H2 e I2.toDHp q1 ⟨u,q3,q4⟩ fl' rv
  cases r with
  |nx ρ=>(obtain⟨h0,rfl⟩:=he;exact fun σ F2 H2 e I2=>fin ρ σ F2 H2 .non h0 e I2 .non)
  |rt x ρ=>(obtain⟨rfl,h0⟩:=he;exact fun v σ F2 H2 e I2 rv=>fin ρ σ F2 H2 v h0 e I2 rv)
  |bk ρ=>exact he.elim
  |ct ρ=>exact he.elim
def gdx(F H:Hp)(a:Addr):Hp:=fun b=>if b=a then none else gd F H b
theorem lc{F H:Hp}{a b:Addr}{o:HO}:gdx F H a b=some o↔b≠a/\F b=none/\H b=some o:=by
 unfold gdx;by_cases h:b=a
 ·rw[Yi h];simp[h]
 ·rw[Yn h,fU];simp[h]
theorem xx{F H:Hp}(s:Same F H)(a:Addr):DHp (gdx F H a) F H:=⟨s,fun b o e=>(lc.mp e).2.2,fun b o e=>(lc.mp e).2.1⟩
theorem ArgsS.dvx{K:Kq}{P F H:Hp}{ρ:DF}{σ:St}(I:DInv K P F H ρ σ){i:Nat}{o:OD}{t:Option Addr}{a:Addr}(hi:ρ[i]?=some (some (.own o t)))(hs:σ[i]?=some (some (.ref a)))(fl:o.flat=true):∀{xs:List DV}{vs:List V},ArgsS K ρ σ F xs vs->(∀x∈xs,∃d,x=.v d)->DVs K (gdx F H a) F H xs vs:=by
 intro xs vs h;induction h with
 |nil=>exact fun _=>.nil
 |v h _ ih=>exact fun hx=>.cons rfl h (ih fun x m=>hx x (Yc _ m))
 |b j h1 h2 _ ih=>
  intro hx;obtain⟨d,e⟩:=hx _ Yf;cases e
def v6(xs:List DV):Bool:=xs.all fun x=>match x with
 |.v _=>true
 |_=>false
theorem zn{xs:List DV}(h:v6 xs=true):∀x∈xs,∃d,x=.v d:=fun x m=>by
 have:=Yx.mp h x m;cases x with
 |v d=>exact⟨d,rfl⟩
 |_=>cases this
def kJ(K:Kq)(i:Nat)(m:Dz)(g:Dv):DF->Option (DF×D):=fun ρ=>match ρ[i]? with
 |some (some (.own o t))=>if o.flat=true then(g ρ).bind fun xs=>if v6 xs=true then(m o xs).map fun r=>(ρ.set i (some (.own r.1 t)),r.2)else none else none
 |_=>none
def eG(K:Kq)(i:Nat)(m:Dz)(g:Dv):DF->Option RES:=fun ρ=>(kJ K i m g ρ).map fun r=>.nx r.1
theorem o8{K:Kq}{P F1 H1 F2 H2:Hp}{ρ:DF}{σ:St}{i:Nat}{o o':OD}{t:Option Addr}{a:Addr}(I:DInv K P F1 H1 ρ σ)(hi:ρ[i]?=some (some (.own o t)))(hs:σ[i]?=some (some (.ref a)))(fl:o.flat=true)(fl':o'.flat=true)
  (e2:Same F1 F2) (hp2:DHp (gdx F1 H1 a) F2 H2) (f2:F2 a=none) (ho:∃u',H2 a=some u'/\ORep1 K F2 o' u'):DInv K P F2 H2 (ρ.set i (some (.own o' t))) σ:=by
 obtain⟨O,hR⟩:=I.rep;obtain⟨v,h1,b,rfl,h2,ht⟩:=hR i _ hi;rw[hs]at h1;cases h1;obtain⟨⟨q1,q2,q3⟩,u,q4,_⟩:=(ORep.flat fl).mp h2;have keep:∀b u,b≠a->F1 b=none->H1 b=some u->H2 b=some u/\F2 b=none:=fun b u hb n q=>⟨hp2.pro b u (lc.mpr ⟨hb,n,q⟩),hp2.dis b u (lc.mpr ⟨hb,n,q⟩)⟩
 refine⟨⟨hp2.sub,fun b u q=>(keep b u (fun z=>by subst z;rw[q2]at q;cases q) (I.dis b u q) (I.pro b u q)).1,fun b u q=>(keep b u (fun z=>by subst z;rw[q2]at q;cases q) (I.dis b u q) (I.pro b u q)).2⟩,by rw[YY];exact I.len,O,fun j z hj=>?_⟩;rcases c6 hj with⟨rfl,e,hl⟩|⟨hij,hj'⟩
 ·cases e;exact⟨_,hs,a,rfl,(ORep.flat fl').mpr ⟨⟨f2,q2,q3⟩,ho⟩,ht⟩
 ·obtain⟨w,e1,e3⟩:=hR j z hj';refine⟨w,e1,?_⟩;cases z with
  |v d'=>exact Rep.same e2 e3
  |own od t'=>
   obtain⟨c,rfl,e4,ht'⟩:=e3;refine⟨c,rfl,e4.mono e2 fun b w' q hb=>?_,ht'⟩;obtain⟨k1,k2⟩:=keep b w' (fun z=>by subst z;rw[q.2.2]at q3;exact hij (Yr q3).symm) q.1 hb;exact⟨k1,k2,q.2⟩
  |bor od=>(obtain⟨c,rfl,e4⟩:=e3;exact⟨c,rfl,e4.mono e2 fun b u q hb=>⟨hb,q⟩⟩)
section
variable{X:Cx}{k:Nat}{f C:Addr}{fd:FuncData}{ps:List Str}{m:Dm}{mM:Dz}{x mn:Str}{p pos apos spos:Pos}{e o:Expr}{es:List Expr}{g:Dv}
theorem np(i:Nat)(G:FnOk X.prog X.w X.K X.mg X.base CX0 k f fd ps (spM X.K mM))(hr:Room k X.A)(hg:Gl X x)(hm:X.mg x=some (.ref f))(hk:PySem.W.keepIn X.K (.ref f)=true)(hb:Binds X.K fd ps [])(h0:PE X e (cG i))(ha:jW X es g)
  (hd:(x == ("__debug__":Str))=false:=by decide) (he:starEach (e::es) X.env=(false,eval e X.env)::starEach es X.env:=by rfl) (hpl:(backTo pos (starEach es X.env)).any (·.1)=false:=by rfl) (hsw:swapsWith (.Call (.Name x p) (e::es) [] pos) none spos.line X.env=pure false:=by rfl) :
  PD1 X (.Expr (.Call (.Name x p) (e::es) [] pos) spos) (eG X.K i mM g):=
 PS.imp (cK (gt G hr hg hm hk hb .nil ig (aE h0 ha he) hd he hpl) hsw) fun E σ H=>un7 fun P F ρ r hr I k=>by
  unfold eG kJ at hr;split at hr
  ·rename_i od t q;split at hr
   ·rename_i fl;cases q2:g ρ with
    |none=>rw[q2]at hr;cases hr
    |some xs=>
     rw[q2,Ya]at hr;split at hr
     ·rename_i av;cases q3:mM od xs with
      |none=>rw[q3]at hr;cases hr
      |some res=>
       rw[q3]at hr;cases hr;obtain⟨v,h1,a,rfl,h2,h3⟩:=I.at q;obtain⟨⟨a1,a2,_⟩,u,a3,a4⟩:=(ORep.flat fl).mp h2;refine⟨_,h1,P,F,ρ,xs,q2,I,fun vs F1 H1 e1 r1=>?_⟩;have I1:=I.evo e1;obtain⟨k1,k2⟩:=e1.keep a u a3 a1;refine⟨gdx F1 H1 a,F1,a,vs,od,xs,res.1,res.2,by simp,q3,xx I1.sub a,k2,by unfold gdx;rw[Yi rfl],fl,⟨u,k1,a4.same e1.ext⟩,r1.dvx I1 q h1 fl (zn av),fun v F2 H2 e2 hp2 f2 ho fl' rv=>?_⟩;exact k σ F2 H2 (e1.ext.trans e2) (o8 I1 q h1 fl fl' e2 hp2 f2 ho)
     ·cases hr
   ·cases hr
  ·cases hr
theorem RepsF.look{K:Kq}{H:Hp}{n:Str}{vs:List (Str×V)}{ds:List (Str×D)}{d:D}(h:RepsF K H vs ds):ds.lookup n=some d->∃v,vs.lookup n=some v/\Rep K H v d:=
 RepsF.ind (M:=fun vs ds=>ds.lookup n=some d->∃v,vs.lookup n=some v/\Rep K H v d) (fun e=>by cases e) (fun h _ ih e=>by
  rw[bu]at e ⊢;split at e
  ·rename_i q;cases e;rw[Yi q];exact⟨_,rfl,h⟩
  ·rename_i q;rw[Yn q];exact ih e) h
theorem RepsF.no{K:Kq}{H:Hp}{n:Str}{vs:List (Str×V)}{ds:List (Str×D)}(h:RepsF K H vs ds):ds.lookup n=none->vs.lookup n=none:=
 RepsF.ind (M:=fun vs ds=>ds.lookup n=none->vs.lookup n=none) (fun _=>rfl) (fun _ _ ih e=>by
  rw[bu]at e ⊢;split at e
  ·cases e
  ·rename_i q;rw[Yn q];exact ih e) h
def iu(C:Addr)(n:Str):D->Option D
 |.ins C' fs=>if C'=C then fs.lookup n else none
 |_=>none
theorem jm{fa:Dd}{n:Str}(c:Cls X.K C)(hn:NoAttr X.K C n)(h:PDR X e fa)(hb:attributeBase e n X.env (eval e X.env)=eval e X.env:=by rfl):PDE X (.Attribute e n pos) (d1 (iu C n) fa):=
 (yW h hb).imp fun σ H Q=>un7 fun P F ρ d hf I k=>by
  unfold d1 at hf;cases q:fa ρ with
  |none=>rw[q]at hf;cases hf
  |some dx=>
   rw[q,Ya]at hf;refine⟨P,F,ρ,dx,q,I,fun y F1 H1 e1 rx=>?_⟩;cases dx with
   |ins C' fs=>
    have hf':(if C'=C then fs.lookup n else none)=some d:=hf;split at hf'
    ·rename_i hC;subst hC;obtain⟨a,dx,vs,rfl,h1,h2⟩:=kT (I.evo e1) rx;obtain⟨v,h3,h4⟩:=h2.look hf';exact⟨a,C',dx,vs,v,rfl,h1,c,hn,h3,k v F1 H1 e1 h4⟩
    ·cases hf'
   |_=>cases hf
def jr(f:Str)(v:D):List (Str×D)->List (Str×D)
 |[]=>[(f,v)]
 |(g,x)::r=>if g=f then(g,v)::r else(g,x)::jr f v r
theorem RepsF.put{K:Kq}{H:Hp}{n:Str}{v:V}{d:D}(rv:Rep K H v d){vs:List (Str×V)}{ds:List (Str×D)}(h:RepsF K H vs ds):RepsF K H (d8 n v vs) (jr n d ds):=
 RepsF.ind (M:=fun vs ds=>RepsF K H (d8 n v vs) (jr n d ds)) (.cons rv .nil) (fun{k _ _ _ _} h r ih=>by
  unfold d8 jr;by_cases q:k=n
  ·rw[Yi q,Yi q];exact .cons rv r
  ·rw[Yn q,Yn q];exact .cons h ih) h
theorem RepsF.length{K:Kq}{H:Hp}{vs:List (Str×V)}{ds:List (Str×D)}(h:RepsF K H vs ds):vs.length=ds.length:=RepsF.ind (M:=fun vs ds=>vs.length=ds.length) rfl (fun _ _ ih=>Zi Nat.succ ih) h
def j6(C:Addr)(i:Nat)(n:Str)(fv:Dd):DF->Option RES:=fun ρ=>match ρ[i]? with
 |some (some (.own (.ins C' fs) t))=>if C'=C then(fv ρ).bind fun d=>if fs.length<1000 then some (.nx (ρ.set i (some (.own (.ins C (jr n d fs)) t))))else none else none
 |_=>none
theorem lF{value:Expr}{n:Str}{fv:Dd}{pos':Pos}(i:Nat)(c:Cls X.K C)(hn:NoAttr X.K C n)(ho:PE X o (cG i))(hv:PDE X value fv)(hs:swapsWith value (some (.Attribute o n pos')) pos.line X.env=pure false:=by rfl) :
  PD1 X (.Assign [.Attribute o n pos'] value pos) (j6 C i n fv):=PS.imp (yG ho hv hs) fun E σ H=>un7 fun P F ρ r hr I k=>by
 unfold j6 at hr;split at hr
 ·rename_i C' fs t q;split at hr
  ·rename_i hC;subst hC;cases q2:fv ρ with
   |none=>rw[q2]at hr;cases hr
   |some d=>
    rw[q2,Ya]at hr;split at hr
    ·rename_i hl;cases hr;obtain⟨v,h1,a,rfl,⟨⟨a1,a2,_⟩,u,a3,a4⟩,_⟩:=I.at q;cases u with
     |ins C'' dx vs=>
      obtain⟨rfl,a4⟩:=a4;refine⟨P,F,ρ,d,q2,I,fun y F1 H1 e1 ry=>⟨_,h1,a,C',dx,vs,rfl,(e1.keep a _ a3 a1).1,c,hn,by rw[a4.length];exact hl,k σ F1 _ e1.ext ?_⟩⟩;exact(I.evo e1).mut (o':=.ins C' _) (u:=.ins C' dx _) q rfl rfl h1 ⟨rfl,(RepsF.same e1.ext a4).put ry⟩
     |_=>exact a4.elim
    ·cases hr
  ·cases hr
 ·cases hr
def pA(C:Addr):DV->Option (List (Str×D))
 |.v (.ins C' fs)=>if C'=C then some fs else none
 |.bor (.ins C' fs)=>if C'=C then some fs else none
 |_=>none
def l9(C:Addr)(mn:Str):List DV->Bool
 |x::_=>match pA C x with
  |some fs=>(fs.lookup mn).isNone
  |none=>false
 |[]=>false
def bT(C:Addr)(mn:Str)(m:Dm)(g:Dv):DF->Option D:=fun ρ=>(g ρ).bind fun xs=>if l9 C mn xs=true then(m xs).bind dvD else none
end
theorem DVs.heap{K:Kq}{P F H H':Hp}{xs:List DV}{vs:List V}(h:DVs K P F H xs vs):DVs K P F H' xs vs:=by
 induction h with
 |nil=>exact .nil
 |@cons x _ _ _ h r _ ih=>
  refine .cons h ?_ ih;cases x with
  |v d=>exact r
  |bor o=>exact r
  |own o t=>cases h
def cF(i:Nat):DF->Option DV:=fun ρ=>match ρ[i]? with
 |some (some (.own o _))=>some (.bor o)
 |some (some (.bor o))=>some (.bor o)
 |some (some (.v d))=>some (.v d)
 |_=>none
def b7(s:DF->Option DV)(g:Dv):DF->Option (List DV):=fun ρ=>(s ρ).bind fun x=>(g ρ).map fun xs=>x::xs
def g0:DF->Option (List DV):=fun _=>some []
def Self1(K:Kq)(ρ:DF)(σ:St)(F:Hp)(x:DV)(v:V):Prop:=ArgsS K ρ σ F [x] [v]
theorem Self1.cons{K:Kq}{ρ:DF}{σ:St}{F F':Hp}{x:DV}{v:V}{xs:List DV}{vs:List V}(h:Self1 K ρ σ F x v)(e:Same F F')(r:ArgsS K ρ σ F' xs vs):ArgsS K ρ σ F' (x::xs) (v::vs):=by
 cases h with
 |v h _=>exact .v (h.same e) r
 |b i h1 h2 _=>exact .b i h1 h2 r
theorem Self1.ins{K:Kq}{P F H:Hp}{ρ:DF}{σ:St}{x:DV}{v:V}{C:Addr}{fs:List (Str×D)}(I:DInv K P F H ρ σ)(h:Self1 K ρ σ F x v)(hi:pA C x=some fs):∃a dx vs,v=.ref a/\H a=some (.ins C dx vs)/\RepsF K F vs fs:=by
 cases h with
 |@v d _ _ _ h _=>
  cases d with
  |ins C' fs'=>
   have hi':(if C'=C then some fs' else none)=some fs:=hi;split at hi'
   ·rename_i hC;subst hC;cases hi';exact kT I (.inl h)
   ·cases hi'
  |_=>cases hi
 |@b o _ _ _ i h1 h2 _=>
  cases o with
  |ins C' fs'=>
   have hi':(if C'=C then some fs' else none)=some fs:=hi;split at hi'
   ·rename_i hC;subst hC;cases hi';exact kT I (RepS.slot I h1 h2 rfl)
   ·cases hi'
  |_=>cases hi
def tJ(K:Kq)(s:DF->Option DV):TE:=fun σ H Q=>∃P F ρ x,s ρ=some x/\DInv K P F H ρ σ/\∀v F' H',Evo P F H F' H'->Self1 K ρ σ F' x v->Q v H'
def nZ(X:Cx)(e:Expr)(s:DF->Option DV):Prop:=PE X e (tJ X.K s)
section
variable{X:Cx}{k:Nat}{f C:Addr}{fd:FuncData}{ps:List Str}{m:Dm}{mM:Dz}{x mn:Str}{p pos apos spos:Pos}{e o:Expr}{es:List Expr}{g:Dv}{s:DF->Option DV}
theorem iD(i:Nat)(h:PE X e (cG i)):nZ X e (cF i):=PE.imp h fun σ H Q=>un7 fun P F ρ x hf I k=>by
 unfold cF at hf;split at hf
 ·rename_i o t q;cases hf;obtain⟨v,h1,_⟩:=I.at q;exact⟨v,h1,k v F H (Evo.refl I.toDHp) (.b i h1 (.inl ⟨t,q⟩) .nil)⟩
 ·rename_i o q;cases hf;obtain⟨v,h1,_⟩:=I.at q;exact⟨v,h1,k v F H (Evo.refl I.toDHp) (.b i h1 (.inr q) .nil)⟩
 ·rename_i d q;cases hf;obtain⟨v,h1,h2⟩:=I.at q;exact⟨v,h1,k v F H (Evo.refl I.toDHp) (.v h2 .nil)⟩
 ·cases hf
theorem nR{C:Addr}{mn:Str}{x:DV}{xs:List DV}(h:l9 C mn (x::xs)=true):∃fs,pA C x=some fs/\fs.lookup mn=none:=by
 unfold l9 at h;cases q:pA C x with
 |none=>simp[q]at h
 |some fs=>exact⟨fs,rfl,by simpa[q]using h⟩
theorem uz{K:Kq}{E:XK}{σ:St}{H:Hp}{Q:VK}{P F:Hp}{ρ:DF}{xs:List DV}{y:DV}(hg:b7 s g ρ=some xs)(hs:l9 C mn xs=true)(hm:m xs=some y)(I:DInv K P F H ρ σ)
  (k:∀v F1 H1 F2 H2,Evo P F H F1 H1->Same F1 F2->DHp (gd F1 H1) F2 H2->DVRep K (gd F1 H1) F2 H2 om y v->Q v H2):qr C mn (spD K m) [] E (tJ K s) (tLV K g) σ H Q:=by
 unfold b7 at hg;cases q:s ρ with
 |none=>rw[q]at hg;cases hg
 |some x=>
  rw[q,Ya]at hg;cases q2:g ρ with
  |none=>rw[q2]at hg;cases hg
  |some ys=>
   rw[q2]at hg;cases hg;obtain⟨fs,hi,hl⟩:=nR hs;refine⟨P,F,ρ,x,q,I,fun v F1 H1 e1 r1=>?_⟩;have I1:=I.evo e1;obtain⟨a,dx,vs,rfl,h1,h2⟩:=r1.ins I1 hi;refine⟨a,dx,vs,rfl,h1,h2.no hl,P,F1,ρ,ys,q2,I1,fun ws F2 H2 e2 r2=>?_⟩;have I2:=I1.evo e2;refine⟨gd F2 H2,F2,x::ys,y,hm,g8 I2.sub,by rw[Ze];exact(r1.cons e2.ext r2).dvs I2,fun w F3 H3 e3 hp3 r3=>k w F2 H2 F3 H3 (e1.trans e2) e3 hp3 r3⟩
theorem pI{K:Kq}{E:XK}:∀σ H Q,tD K (bT C mn m (b7 s g)) σ H Q->qr C mn (spD K m) [] E (tJ K s) (tLV K g) σ H Q:=fun σ H Q=>un7 fun P F ρ d hf I k=>by
 unfold bT at hf;cases q:b7 s g ρ with
 |none=>rw[q]at hf;cases hf
 |some xs=>
  rw[q,Ya]at hf;split at hf
  ·rename_i hs;cases q2:m xs with
   |none=>rw[q2]at hf;cases hf
   |some y=>
    rw[q2,Ya]at hf;refine uz q hs q2 I fun v F1 H1 F2 H2 e1 e2 hp2 r2=>?_;have I1:=I.evo e1;have ev:Evo P F1 H1 F2 H2:=I1.toDHp.gd e2 hp2;cases y with
    |v d'=>cases hf;exact k v F2 H2 (e1.trans ev) r2
    |own o t=>
     cases hf;obtain⟨a,rfl,ho,_⟩:=r2;have ho':=lJ e2 ho;exact k _ _ H2 (e1.trans (ev.freeze I1.toDHp (fun b=>H1 b=none/\F2 b=none) fun _ q=>q)) (ho'.rep (bS fun b q=>q.2) fun b u q hb=>by rw[de q];exact hb)
    |bor o=>cases hf
  ·cases hf
theorem qt{pl:Sem Bool}(he:nZ X o s)(c:Cls X.K C)(hm:Meth X.K C mn f)(G:FnOk X.prog X.w X.K X.mg X.base CX0 k f fd ps (spD X.K m))(hr:Room k X.A)(hb:Binds X.K fd ps [])(ha:jW X (e::es) g)
  (hst:starEach (e::es) X.env=(false,eval e X.env)::starEach es X.env:=by rfl) (hpl:(backTo pos (starEach es X.env)).any (·.1)=false:=by rfl)
  (ht:eval (.Call (.Attribute o mn apos) (e::es) [] pos) X.env=(do
   let ov <-eval o X.env
   standAt apos.atName
   let (f,first) <-holding [ov] (getMethod ov mn pl)
   callWith pos f first (backTo pos (starEach (e::es) X.env)) (backToKw pos (keywordEach [] X.env))):=by rfl):PDE X (.Call (.Attribute o mn apos) (e::es) [] pos) (bT C mn m (b7 s g)):=
 (ww he c hm G hr hb .nil ig ha hst hpl ht).imp pI
theorem lN{pl:Sem Bool}(he:nZ X o s)(c:Cls X.K C)(hm:Meth X.K C mn f)(G:FnOk X.prog X.w X.K X.mg X.base CX0 k f fd ps (spD X.K m))(hr:Room k X.A)(hb:Binds X.K fd ps [])
  (ht:eval (.Call (.Attribute o mn apos) [] [] pos) X.env=(do
   let ov <-eval o X.env
   standAt apos.atName
   let (f,first) <-holding [ov] (getMethod ov mn pl)
   callWith pos f first (backTo pos (starEach [] X.env)) (backToKw pos (keywordEach [] X.env))):=by rfl):PDE X (.Call (.Attribute o mn apos) [] [] pos) (bT C mn m (b7 s g0)):=
 (sM he c hm G hr hb .nil ig ht).imp fun σ H Q h=>by
  have:=pI (K:=X.K) (E:=E0) σ H Q h;obtain⟨P,F,ρ,x,h1,h2,h3⟩:=this;refine⟨P,F,ρ,x,h1,h2,fun v F' H' ev r=>?_⟩;obtain⟨a,dx,fs,ex,ea,l,P2,F2,ρ2,xs,hx,I2,h4⟩:=h3 v F' H' ev r;cases hx;exact⟨a,dx,fs,ex,ea,l,h4 [] F2 H' (Evo.refl I2.toDHp) .nil⟩
def bH(C:Addr)(mM:Dz)(g:Dv):DF->Option OD:=fun ρ=>(g ρ).bind fun xs=>match mM (.ins C []) xs with
 |some (o',.non)=>if o'.flat=true then some o' else none
 |_=>none
theorem gf(M:Mk X.K C f)(G:FnOk X.prog X.w X.K X.mg X.base CX0 k f fd ps (spM X.K mM))(hr:Room (k+1) X.A)(hg:Gl X x)(hm:X.mg x=some (.ref C))(hb:Binds X.K fd ps [])(ha:jW X (e::es) g)
  (hdb:(x == ("__debug__":Str))=false:=by decide) (he:starEach (e::es) X.env=(false,eval e X.env)::starEach es X.env:=by rfl) (hpl:(backTo pos (starEach es X.env)).any (·.1)=false:=by rfl):PDO X (.Call (.Name x p) (e::es) [] pos) (bH C mM g):=
 (vx M G hr hg hm hb .nil ig ha hdb he hpl).imp fun σ H Q=>un7 fun P F ρ ob hf I k=>by
  unfold bH at hf;cases q:g ρ with
  |none=>rw[q]at hf;cases hf
  |some xs=>
   rw[q,Ya]at hf;split at hf
   ·rename_i o' q2;split at hf
    ·rename_i fl;cases hf;refine⟨P,F,ρ,xs,q,I,fun vs F1 H1 e1 r1 y dx hy hdx hne=>?_⟩;have I1:=I.evo e1;have sm:Same H1 (upd (upd H1 dx (.own y)) y (.ins C dx [])):=fun b u z=>by rw[aA (aO z hy),aA (aO z hdx)];exact z
     refine⟨gd F1 H1,F1,y,vs,.ins C [],xs,ob,.non,by simp,q2,⟨I1.sub.trans sm,fun b u z=>sm b u ((g8 I1.sub).pro b u z),(g8 I1.sub).dis⟩,I1.sub.free hy,(g8 I1.sub).pro.free hy,rfl,⟨_,aR,rfl,.nil⟩,(r1.dvs I1).heap,fun v F2 H2 e2 hp2 f2 ho fl' rv=>?_⟩;cases rv;exact⟨rfl,k y F2 H2 (e1.trans (I1.toDHp.gd e2 hp2)) ((ORep.flat fl).mpr ⟨⟨e1.back I.toDHp hy,f2⟩,ho⟩)⟩
    ·cases hf
   ·cases hf
end
section
variable{κ:Type} [DecidableEq κ]
def c7(kvs:List (κ×D))(k:κ):Option D:=(kvs.find? fun kv=>decide (kv.1=k)).map (·.2)
def em(kvs:List (κ×D))(k:κ)(v:D):List (κ×D):=
 if(kvs.any fun kv=>decide (kv.1=k))=true then kvs.map (fun kv=>if kv.1=k then(kv.1,v)else kv)else kvs++[(k,v)]
end
theorem rR{k k':List Key}{v:V}{vs:List (List Key×V)}:el ((k',v)::vs) k=if k'=k then some v else el vs k:=by unfold el;by_cases q:k'=k<;>simp[ZG,q]
theorem bR{κ:Type}[DecidableEq κ]{k k':κ}{v:D}{vs:List (κ×D)}:c7 ((k',v)::vs) k=if k'=k then some v else c7 vs k:=by unfold c7;by_cases q:k'=k<;>simp[ZG,q]
theorem RepsT.val{K:Kq}{H:Hp}{k:List Key}{vs:List (List Key×V)}{ds:List (List Key×D)}(h:RepsT K H vs ds):(el vs k=none/\c7 ds k=none)\/∃v d,el vs k=some v/\c7 ds k=some d/\Rep K H v d:=
 RepsT.ind (M:=fun vs ds=>(el vs k=none/\c7 ds k=none)\/∃v d,el vs k=some v/\c7 ds k=some d/\Rep K H v d) (.inl ⟨rfl,rfl⟩) (fun{k' v d vs ds} h _ ih=>by
  rw[rR,bR];by_cases q:k'=k
  ·rw[Yi q,Yi q];exact .inr ⟨v,d,rfl,rfl,h⟩
  ·rw[Yn q,Yn q];exact ih) h
theorem RepsT.any{K:Kq}{H:Hp}{k:List Key}{vs:List (List Key×V)}{ds:List (List Key×D)}(h:RepsT K H vs ds):(vs.any fun kv=>decide (kv.1=k))=ds.any fun kv=>decide (kv.1=k):=
 RepsT.ind (M:=fun vs ds=>(vs.any fun kv=>decide (kv.1=k))=ds.any fun kv=>decide (kv.1=k)) rfl (fun _ _ ih=>by rw[Xe,Xe,ih]) h
theorem RepsT.map{K:Kq}{H:Hp}{k:List Key}{v:V}{d:D}(rv:Rep K H v d){vs:List (List Key×V)}{ds:List (List Key×D)}(h:RepsT K H vs ds):RepsT K H (vs.map fun kv=>if kv.1=k then(kv.1,v)else kv) (ds.map fun kv=>if kv.1=k then(kv.1,d)else kv):=
 RepsT.ind (M:=fun vs ds=>RepsT K H (vs.map fun kv=>if kv.1=k then(kv.1,v)else kv) (ds.map fun kv=>if kv.1=k then(kv.1,d)else kv)) .nil (fun{k' v' d' vs ds} h _ ih=>by
  rw[YM,YM];by_cases q:k'=k
  ·rw[Yi (show(k',v').1=k from q),Yi (show(k',d').1=k from q)];exact .cons rv ih
  ·rw[Yn (show ¬(k',v').1=k from q),Yn (show ¬(k',d').1=k from q)];exact .cons h ih) h
theorem RepsT.snoc{K:Kq}{H:Hp}{k:List Key}{v:V}{d:D}(rv:Rep K H v d){vs:List (List Key×V)}{ds:List (List Key×D)}(h:RepsT K H vs ds):RepsT K H (vs++[(k,v)]) (ds++[(k,d)]):=
 RepsT.ind (M:=fun vs ds=>RepsT K H (vs++[(k,v)]) (ds++[(k,d)])) (.cons rv .nil) (fun h _ ih=>.cons h ih) h
theorem RepsT.put{K:Kq}{H:Hp}{k:List Key}{v:V}{d:D}{vs:List (List Key×V)}{ds:List (List Key×D)}(rv:Rep K H v d)(r:RepsT K H vs ds):RepsT K H (gH vs k v) (em ds k d):=by
 unfold gH em;rw[r.any (k:=k)];split
 ·exact r.map rv
 ·exact r.snoc rv
theorem RepsT.length{K:Kq}{H:Hp}{vs:List (List Key×V)}{ds:List (List Key×D)}(h:RepsT K H vs ds):vs.length=ds.length:=RepsT.ind (M:=fun vs ds=>vs.length=ds.length) rfl (fun _ _ ih=>Zi Nat.succ ih) h
def oH:D->Option Key
 |.int i=>some (.inl i)
 |.str x=>some (.inr x)
 |_=>none
def dj:List D->Option (List Key)
 |[]=>some []
 |d::ds=>(oH d).bind fun k=>(dj ds).map fun r=>k::r
def fB:D->Option (List Key)
 |.tup ds=>dj ds
 |_=>none
theorem Reps.keys{K:Kq}{H:Hp}{vs:List V}{ds:List D}{ks:List Key}(h:Reps K H vs ds):dj ds=some ks->vs=ks.map kV:=
 Reps.ind (M:=fun vs ds=>∀ks:List Key,dj ds=some ks->vs=ks.map kV) (fun ks e=>by cases e;rfl) (fun{v d vs ds} h _ ih ks e=>by
  unfold dj at e;cases q:oH d with
  |none=>rw[q]at e;cases e
  |some k=>
   rw[q,Ya]at e;cases q2:dj ds with
   |none=>rw[q2]at e;cases e
   |some kr=>
    rw[q2]at e;cases e;rw[ih _ q2,YM];cases d with
    |int i=>cases q;cases h;rfl
    |str i=>cases q;cases h;rfl
    |_=>cases q) h ks
theorem lv{K:Kq}{P F H:Hp}{y:V}{dy:D}{ks:List Key}(hp:DHp P F H)(r:Rep K F y dy)(h:fB dy=some ks):∃b,y=.ref b/\H b=some (.tup (ks.map kV)):=by
 cases dy with
 |tup ds=>cases r with|tup h1 h2=>exact⟨_,rfl,by rw[hp.sub _ _ h1,h2.keys h]⟩
 |_=>cases h
section
variable{X:Cx}{a b o i e f:Expr}{pos pos' apos cpos:Pos}{fd fk fx fv:Dd}
def dL:D->D->Option D
 |.dT kvs,y=>(fB y).bind fun k=>c7 kvs k
 |_,_=>none
theorem p8(hu:X.A.units+64<cLine)(ho:PDR X o fd)(hi:PDE X i fk)(hs:yo i:=by exact fun _ _=>rfl):PDE X (.Subscript o i pos) (d2 dL fd fk):=(v_ (by omega) ho hi hs).imp fun σ H Q=>un7 fun P F ρ d hf I k=>by
 unfold d2 at hf;cases qa:fd ρ with
 |none=>rw[qa]at hf;cases hf
 |some dx=>
 cases qb:fk ρ with
 |none=>rw[qa,Ya,qb]at hf;cases hf
 |some dy=>
 rw[qa,Ya,qb,Ya]at hf;cases dx with
 |dT kvs=>
  have hf':((fB dy).bind fun k=>c7 kvs k)=some d:=hf;cases qk:fB dy with
  |none=>rw[qk]at hf';cases hf'
  |some ks=>
   rw[qk,Ya]at hf';refine⟨P,F,ρ,_,qa,I,fun x F1 H1 e1 rx=>⟨P,F1,ρ,_,qb,I.evo e1,fun y F2 H2 e2 ry=>?_⟩⟩;obtain⟨p,vs,rfl,h1,h2⟩:=nC ((I.evo e1).evo e2) (rx.evo e2);obtain⟨q,rfl,h3⟩:=lv e2.hp ry qk;rcases h2.val (k:=ks)with⟨_,z⟩|⟨v,d',z1,z2,z3⟩
   ·rw[z]at hf';cases hf'
   ·rw[z2]at hf';cases hf';exact⟨p,v,rfl,by have:=DGet.t h1 h3;rw[z1]at this;exact this,k v F2 H2 (e1.trans e2) z3⟩
 |_=>cases hf
def fV(fd fk fx:Dd):DF->Option D:=fun ρ=>match fd ρ with
 |some (.dT kvs)=>(fk ρ).bind fun y=>(fB y).bind fun k=>(fx ρ).map fun x=>(c7 kvs k).getD x
 |_=>none
theorem mf(hu:X.A.units+64<cLine)(ho:PDR X o fd)(hi:PDE X e fk)(hx:PDE X f fx)(m:M2 X o "get" apos e f cpos:=by exact⟨rfl,rfl,rfl,rfl⟩):PDE X (.Call (.Attribute o "get" apos) [e,f] [] cpos) (fV fd fk fx):=(t7 (by omega) ho hi hx m).imp fun σ H Q=>un7 fun P F ρ d hf I k=>by
 unfold fV at hf;split at hf
 ·rename_i kvs qa;cases qb:fk ρ with
  |none=>rw[qb]at hf;cases hf
  |some dy=>
   rw[qb,Ya]at hf;cases qk:fB dy with
   |none=>rw[qk]at hf;cases hf
   |some ks=>
    rw[qk,Ya]at hf;cases qx:fx ρ with
    |none=>rw[qx]at hf;cases hf
    |some dz=>
     rw[qx]at hf;cases hf;refine⟨P,F,ρ,_,qa,I,fun x F1 H1 e1 rx=>?_⟩;obtain⟨p,vs,rfl,h1,h2⟩:=nC (I.evo e1) rx;refine⟨p,rfl,.inr ⟨vs,.inl h1⟩,P,F1,ρ,_,qb,I.evo e1,fun y F2 H2 e2 ry=>⟨P,F2,ρ,_,qx,(I.evo e1).evo e2,fun z F3 H3 e3 rz=>?_⟩⟩;have I3:=((I.evo e1).evo e2).evo e3;obtain⟨p',vs',ep,h1',h2'⟩:=nC I3 ((rx.evo e2).evo e3);cases ep;obtain⟨q,rfl,h3⟩:=lv e3.hp (ry.same e3.ext) qk;refine⟨_,DGet.t h1' h3,?_⟩;have e123:=(e1.trans e2).trans e3;rcases h2'.val (k:=ks)with⟨z1,z2⟩|⟨v,d',z1,z2,z3⟩
     ·rw[z1];exact k _ F3 H3 e123 (by show Rep X.K F3 z ((c7 kvs ks).getD dz);rw[z2];exact rz)
     ·rw[z1];exact k _ F3 H3 e123 (by show Rep X.K F3 v ((c7 kvs ks).getD dz);rw[z2];exact z3)
 ·cases hf
theorem kD:PDO X (.Dict [] [] pos) (fun _=>some (.dT [])):=uh.imp fun σ H Q=>un7 fun P F ρ ob hf I k=>by
 cases hf;exact fun p hp=>k p F _ (Evo.side I.toDHp hp) ⟨⟨hp,(I.toDHp.free hp).1⟩,_,aR,.nil⟩
def kF(j:Nat)(fk fv:Dd):DF->Option RES:=fun ρ=>match ρ[j]? with
 |some (some (.own (.dT kvs) t))=>(fv ρ).bind fun v=>(fk ρ).bind fun y=>(fB y).bind fun k=>if kvs.length<16777216 then some (.nx (ρ.set j (some (.own (.dT (em kvs k v)) t))))else none
 |_=>none
theorem ql(j:Nat)(hu:X.A.units+64<cLine)(ho:PE X o (cG j))(hi:PDE X i fk)(hv:PDE X e fv)(hs:swapsWith e (some (.Subscript o i pos')) pos.line X.env=pure false:=by rfl):PD1 X (.Assign [.Subscript o i pos'] e pos) (kF j fk fv):=
 PS.imp (wc (by omega) ho hi hv hs) fun E σ H=>un7 fun P F ρ r hr I k=>by
  unfold kF at hr;split at hr
  ·rename_i kvs t q;cases qv:fv ρ with
   |none=>rw[qv]at hr;cases hr
   |some dv=>
   rw[qv,Ya]at hr;cases qb:fk ρ with
   |none=>rw[qb]at hr;cases hr
   |some dy=>
   rw[qb,Ya]at hr;cases qk:fB dy with
   |none=>rw[qk]at hr;cases hr
   |some ks=>
   rw[qk,Ya]at hr;split at hr
   ·rename_i hl;cases hr;obtain⟨v,h1,p,rfl,⟨⟨a1,a2,_⟩,u,a3,a4⟩,_⟩:=I.at q;cases u with
    |dT vs=>
     have a4:RepsT X.K F vs kvs:=a4;refine⟨P,F,ρ,_,qv,I,fun v F1 H1 e1 rv=>⟨_,h1,P,F1,ρ,_,qb,I.evo e1,fun y F2 H2 e2 ry=>?_⟩⟩;have e12:=e1.trans e2;obtain⟨k1,k2⟩:=e12.keep p _ a3 a1;obtain⟨b',rfl,h3⟩:=lv e12.hp ry qk;refine⟨p,_,rfl,DPut.t k1 h3 (by rw[YQ,a4.length];exact hl),k σ F2 _ e12.ext ?_⟩;exact(I.evo e12).mut (o':=.dT _) (u:=.dT _) q rfl rfl h1 ((RepsT.same e12.ext a4).put (rv.same e2.ext))
    |_=>exact a4.elim
   ·cases hr
  ·cases hr
end
end L2
namespace L2
open PySem PySem.Spec PyProof.Rows PySem.W
section
variable{prog:Program}{w:World}{A:Around}{E:Kv}{s:Shared}
def kL(prog:Program)(w:World)(A:Around)(Q:Kv)(vs:List Value)(s1:Shared):Prop:=
 vs.length<64/\∃(κ:SortKind) (lt:Nat->Nat->Bool),Ord lt /\
  (2<=vs.length->∀h',(∀b u,s1.heap.get? b=some u->h'.get? b=some u)->∀(Q:SortKind->Shared->Prop) (E:Kv),Q κ {s1 with heap:=h' }->wpAny (model prog w) A.in1.in1 (keyKind' vs.toArray) Q E {s1 with heap:=h' }) /\
  (∀h',(∀b u,s1.heap.get? b=some u->h'.get? b=some u)->∀i j C,i<vs.length->j<vs.length->C (lt i j) {s1 with heap:=h' }->kas_ask prog w A.in1.in1 κ vs i j C {s1 with heap:=h' }) /\
  ∀p,PermN vs.length p->Ris lt p vs.length->∀(a:Addr) (h':Heap) (e:Nat),(∀b u,s1.heap.get? b=some u->h'.get? b=some u)->s1.heap.objs.size<=a->h'.get? a=some (seqObj "list" (gR vs p) e)->Q (.ref a) {s1 with heap:=h' }
theorem mK{v:Value}{Q:Kv}(hcol:wpAny (model prog w) A.in1 (collect v) (kL prog w A Q) E s) :
  wpAny (model prog w) A (call (.builtin "sorted") [v]) Q E s:=by
 refine Calls.call_function_entry kind_sorted plain_sorted entry_sorted (args_sorted1 _) ?_;unfold Builtin.«sorted»;refine Yd (m:=checkCount "sorted" 1 1 _) (YA ?_);refine Yd (Zw hcol (fun vs s1 hh_=>?_) fun _ _ e=>e);obtain⟨h64,κ,lt,o,hk,hc,h⟩:=hh_;refine Yd (wpAny_newList ?_ (by rw[YQ];omega));have hoL:(s1.heap.push (seqObj "list" vs.toArray 0)).get? s1.heap.objs.size=some (seqObj "list" vs.toArray 0):=Yo _ rfl;have keep:∀b u,s1.heap.get? b=some u->(s1.heap.push (seqObj "list" vs.toArray 0)).get? b=some u:=fun b u q=>Ye _ q
 show wpAny _ _ _ _ _ {s1 with heap:=s1.heap.push (seqObj "list" vs.toArray 0)};have lift:∀h':Heap,(∀b u,b≠s1.heap.objs.size->(s1.heap.push (seqObj "list" vs.toArray 0)).get? b=some u->h'.get? b=some u)->∀b u,s1.heap.get? b=some u->h'.get? b=some u:=fun h' k b u e=>
  k b u (YG (Yq e)) (keep b u e)
 refine Yd (XI (Xk slot_list_sort ⟨_,hoL,rfl⟩ entry_list_sort ?body (args_list_sort _)))
 case body=>
  refine jU hoL h64 κ lt o (fun h2 h' k Q q=>hk h2 h' (lift h' k) Q _ q) (fun h' k=>hc h' (lift h' k)) fun p hp hr=>⟨_,rfl,?_⟩
  obtain⟨e,he⟩:=sortedHeap_at (out:=gR vs p) hoL;refine YA ⟨_,rfl,h p hp hr s1.heap.objs.size _ e (fun b u q=>?_) (Ym _) he⟩;have hlt:b<s1.heap.objs.size:=Yq q;show(sortedHeap (s1.heap.push (seqObj "list" vs.toArray 0)) s1.heap.objs.size vs (gR vs p)).get? b=some u;rw[sortedHeap_old (YG hlt) (by rw[size_push'];exact Xd hlt)];exact keep b u q
theorem jS{l:Addr}{vs:List Value}{Q:Kl}(hl:IsTup s.heap l vs.toArray)
  (h:Q vs {s with heap:=(s.heap.push (seqObj "list" #[] 0)).update s.heap.objs.size (Obj.mapSeq (·++vs.toArray))}) (hsz:vs.length<=sizeLine) :
  wpAny (model prog w) A (collect (.ref l)) Q E s:=by
 obtain⟨o,ho,hc,n,hd⟩:=id hl;unfold collect;refine Yd (wpAny_runValue (codeAny_builtin entry_proto_collect' ?_));show wpAny _ _ (do again (.builtin "list.__iadd__" ⟨[<-newList [],.ref l],[]⟩)) _ _ s;refine Yd (wpAny_newList (YA ⟨Code.quiet_builtin _ (by decide+kernel),codeAny_builtin entry_list_iadd' ?_⟩));show wpAny _ _ (Builtin.List.listExtendWith (.ref s.heap.objs.size) (.ref l) (.ref s.heap.objs.size)) _ _ {s with heap:=s.heap.push (seqObj "list" #[] 0)};unfold Builtin.List.listExtendWith;have ho':(s.heap.push (seqObj "list" #[] 0)).get? l=some o:=Ye _ ho;refine Yd (wpAny_typeOf (T := "tuple") ⟨o,ho',hc⟩ ?_);have ht:(Value.type "tuple" == Value.type "tuple")=true:=by rfl
 rw[Yi (by rw[ht];simp)];refine Yd (listItems_at ho' hd ?_);refine Yd (listItems_at (xs:=#[]) (n:=0) (Yo _ rfl) rfl ?_);rw[Yn (by simp)];refine Yd (listUpdate_at (xs:=#[]) (n:=0) (Yo _ rfl) rfl ?_ (YT _) (by show(#[]++vs.toArray).size<=sizeLine+1;simp only[Array.size_append,Yp,YS];omega));refine YA ?_;show wpAny (model prog w) A (do
   let o <-load s.heap.objs.size
   match o.data with
   |.seq xs _=>pure xs.toList
   |_=>unsupported "internal:collect") Q E {s with heap:=(s.heap.push (seqObj "list" #[] 0)).update s.heap.objs.size (Obj.mapSeq (·++vs.toArray))}
 refine Yd (wpAny_load (get?_update_seq (Yo _ rfl) _) ?_);show wpAny _ _ (pure ((#[]:Array Value)++vs.toArray).toList) Q E _;rw[show((#[]:Array Value)++vs.toArray).toList=vs by simp];exact YA h
theorem jv{h:Heap}{vs:List Value}{b:Addr}{u:Obj}(q:h.get? b=some u):((h.push (seqObj "list" #[] 0)).update h.objs.size (Obj.mapSeq (·++vs.toArray))).get? b=some u:=by have hlt:b<h.objs.size:=Yq q;rw[Heap.get?_update_ne _ _ _ _ (YG hlt),Xg _ _ _ (YG hlt)];exact q
end
def sk:D->Bool
 |.int _=>true
 |.str _=>true
 |.tup (_::_)=>true
 |_=>false
def fk:D->Bool
 |.int _=>true
 |.str _=>true
 |.tup _=>true
 |_=>false
def pT:D->Bool
 |.tup (d::_)=>fk d
 |_=>true
def cV(ds:List D):Bool:=decide (ds.length<64)&&ds.all (okN 28)&&(ds.all fun x=>ds.all fun y=>az x y)&&ds.all sk&&ds.all pT
theorem fw{ds:List D}(h:cV ds=true):ds.length<64/\Cmps 28 ds/\(∀d∈ds,sk d=true)/\∀d∈ds,pT d=true:=by unfold cV at h;simp only[Yl,YJ]at h;obtain⟨⟨⟨⟨h1,h2⟩,h3⟩,h4⟩,h5⟩:=h;exact⟨h1,⟨fun d hd=>Yx.mp h2 d hd,fun x hx y hy=>Yx.mp (Yx.mp h3 x hx) y hy⟩,fun d hd=>Yx.mp h4 d hd,fun d hd=>Yx.mp h5 d hd⟩
def dAt(ds:List D)(i:Nat):D:=ds.getD i (ds.headD (.int 0))
theorem k_{ds:List D}(h:ds≠[])(i:Nat):dAt ds i∈ds:=by
 unfold dAt;cases ds with
 |nil=>exact absurd rfl h
 |cons d r=>
  rw[Yy];cases q:(d::r)[i]? with
  |none=>exact Yf
  |some x=>exact Yv q
theorem lG{ds:List D}{i:Nat}(h:i<ds.length):ds[i]?=some (dAt ds i):=by unfold dAt;rw[Yy,Yg h];rfl
theorem zu{n:Nat}{ds:List D}(hc:Cmps n ds):Ord fun i j=>ltD (dAt ds i) (dAt ds j):=by
 by_cases hn:ds=[]
 ·subst hn;have e:∀i,dAt [] i=.int 0:=fun i=>by simp[dAt]
  refine⟨fun i j h=>?_,fun i j k h1 h2=>?_⟩
  ·rw[e,e]at h;simp[ltD]at h
  ·rw[e,e];simp[ltD]
 ·have m:=fun i=>k_ hn i
  refine⟨fun i j h=>?_,fun i j k h1 h2=>?_⟩
  ·exact(gj n _ _ (hc.1 _ (m i)) (hc.1 _ (m j)) (hc.2 _ (m i) _ (m j))).as h
  ·exact jY (hc.1 _ (m i)) (hc.1 _ (m j)) (hc.1 _ (m k)) (hc.2 _ (m i) _ (m j)) (hc.2 _ (m j) _ (m k)) (hc.2 _ (m i) _ (m k)) (hc.2 _ (m j) _ (m i)) (hc.2 _ (m k) _ (m j)) (hc.2 _ (m k) _ (m i)) h1 h2
theorem oO{n:Nat}{ds:List D}(hc:Cmps n ds){p:Array Nat}(hp:PermN ds.length p)(hr:Ris (fun i j=>ltD (dAt ds i) (dAt ds j)) p ds.length):p.toList.map (dAt ds)=cx ds:=by
 refine jE (n:=n) ?_ hc ?_
 ·have h1:(p.toList.map (dAt ds)).Perm ((List.range ds.length).map (dAt ds)):=hp.perm.map _;have h2:(List.range ds.length).map (dAt ds)=ds:=by
   apply List.ext_getElem?;intro i;rw[Yw];by_cases h:i<ds.length
   ·rw[Xm h,ZF,lG h]
   ·rw[ZK (by rw[Xf];omega),ZK (by omega)];rfl
  rw[h2]at h1;exact h1
 ·rw[List.pairwise_map,List.pairwise_iff_getElem];intro i j hi hj hij;have hs:=hp.size;rw[Zs]at hi hj;have:=hr i j (Zu hij) (by omega);have e:∀k (h:k<p.size),p.getD k 0=p[k]:=fun k h=>by simp[Array.getD,h]
  rw[e i hi,e j hj]at this;simpa using this
theorem Reps.perm{K:Kq}{H:Hp}{vs:List V}{ds:List D}(r:Reps K H vs ds)(hn:ds≠[]):∀(l:List Nat),(∀i∈l,i<ds.length)->Reps K H (l.map fun i=>vs.getD i .non) (l.map (dAt ds))
 |[],_=>.nil
 |i::l,h=>by
  obtain⟨v,h1,h2⟩:=r.get (lG (h i Yf));have e:vs.getD i .non=v:=by rw[Yy,h1];rfl
  rw[YM,YM];show Reps K H (vs.getD i .non::_) _;rw[e];exact .cons h2 (Reps.perm r hn l fun j hj=>h j (Yc _ hj))
theorem Vals.perm{vs:List V}{us:List Value}(r:Vals vs us):∀(l:List Nat),(∀i∈l,i<vs.length)->Vals (l.map fun i=>vs.getD i .non) (l.map fun i=>us.getD i Value.none)
 |[],_=>.nil
 |i::l,h=>by
  have hi:=h i Yf;obtain⟨u,h1,h2⟩:=r.get (Yg hi);have e1:vs.getD i .non=vs[i]:=by rw[Yy,Yg hi];rfl
  have e2:us.getD i Value.none=u:=by rw[Yy,h1];rfl
  rw[YM,YM];show Vals (vs.getD i .non::_) (us.getD i Value.none::_);rw[e1,e2];exact .cons h2 (Vals.perm r l fun j hj=>h j (Yc _ hj))
def tyD:D->Value
 |.int _=>.type "int"
 |.str _=>.type "str"
 |_=>.type "tuple"
section
variable{X:Cx}{pz:Kp}{σ:St}{H:Hp}{s:Shared}
theorem Rep.ty(I:Inv X pz σ H s){v:V}{d:D}{u:Value}(h:Rep X.K H v d)(hk:fk d=true)(r:RelV v u)(M:Model):Looks M s.heap (typeOf u) (tyD d):=by
 cases d with
 |int i=>cases h;obtain⟨t,rfl⟩:=(show ∃t,u=Value.int _ t from r);exact Looks.of_pure rfl
 |str i=>cases h;obtain⟨t,rfl⟩:=(show ∃t,u=Value.str _ t from r);exact Looks.of_pure rfl
 |tup ds=>
  cases h with
  |tup h1 h2=>
   cases(show u=Value.ref _ from r);obtain⟨its,rv,⟨o,ho,hc,n,hd⟩,_⟩:=I.tuple (SqT.of h1);have:=(Looks.ld (M:=M) (part:=none) ho).andThen (f:=fun o=>pure o.cls) .now;rw[hc]at this;exact this
 |_=>cases hk
theorem nG{x y:D}(h:az x y=true)(hx:fk x=true):tyD x=tyD y:=by
 rcases bg h with⟨i,j,rfl,rfl⟩|⟨i,j,rfl,rfl⟩|⟨i,j,rfl,rfl⟩|⟨i,j,rfl,rfl,_⟩
 ·rfl
 ·cases hx
 ·rfl
 ·rfl
def kg:List D->SortKind
 |.tup (d::_)::_=>tuples' (tyD d != .type "tuple")
 |_=>oneType'
theorem oG(I:Inv X pz σ H s):∀{vs:List V}{ds:List D}{us:List Value},Reps X.K H vs ds->Vals vs us->(∀d∈ds,∃x r,d=.tup (x::r)/\fk x=true)->∀T:Value,(∀x r,.tup (x::r)∈ds->tyD x=T)->
  ∃fs:List Value,KatTups s.heap us fs/\fs.length=us.length/\∀M,∀v∈fs,Looks M s.heap (typeOf v) T:=by
 intro vs ds us h;exact Reps.ind (M:=fun vs ds=>∀us:List Value,Vals vs us->(∀d∈ds,∃x r,d=.tup (x::r)/\fk x=true)->∀T:Value,(∀x r,.tup (x::r)∈ds->tyD x=T) ->     ∃fs:List Value,KatTups s.heap us fs/\fs.length=us.length/\∀M,∀v∈fs,Looks M s.heap (typeOf v) T) (fun us r _ _ _=>by cases r;exact⟨[],.nil,rfl,fun _ _ h=>by cases h⟩) (fun h _ ih us r0 hd T hT=>by
  cases r0 with
  |cons r t=>
  obtain⟨x,rr,rfl,hx⟩:=hd _ Yf;obtain⟨fs,f1,f2,f3⟩:=ih _ t (fun d m=>hd d (Yc _ m)) T fun x r m=>hT x r (Yc _ m)
  cases h with
  |tup h1 h2=>
   cases(show _=Value.ref _ from r);obtain⟨its,rv,⟨o,ho,hc,n,hdt⟩,_⟩:=I.tuple (SqT.of h1);cases h2 with
   |cons g1 g2=>
    cases rv with
    |cons k1 k2=>
     refine⟨_::fs,KatTups.cons ho hc hdt (by simp;rfl) f1,by rw[Yu,Yu,f2],fun M v hv=>?_⟩;rcases YF.mp hv with rfl|hv
     ·rw[<-hT x rr Yf];exact g1.ty I hx k1 M
     ·exact f3 M v hv) h us
theorem kY{d:D}(h:sk d=true)(ht:fE d=false):fk d=true:=by cases d<;>first|rfl|cases h|cases ht
theorem iA(I:Inv X pz σ H s){vs:List V}{ds:List D}{us:List Value}(r:Reps X.K H vs ds)(rv:Vals vs us)(ok:cV ds=true)(h2:2<=us.length){A:Around}{M:Model}{Q:SortKind->Shared->Prop}{E:Kv}(hQ:Q (kg ds) s) :
  wpAny M A (keyKind' us.toArray) Q E s:=by
 obtain⟨hl,hc,hs,hf⟩:=fw ok;have l1:=r.length;have l2:=rv.length;cases ds with
 |nil=>rw[YS]at l1;omega
 |cons d dr=>
  have md:d∈d::dr:=Yf;cases ht:fE d with
  |true=>
   cases d with
   |tup xs=>
    cases xs with
    |nil=>have:=hs _ md;cases this
    |cons x rr=>
     have hx:fk x=true:=hf _ md;have all:∀d'∈(D.tup (x::rr)::dr),∃y r',d'=.tup (y::r')/\fk y=true/\tyD y=tyD x:=fun d' m=>by
      have hcm:=hc.2 _ md _ m;rcases bg hcm with⟨i,j,e,_⟩|⟨i,j,e,_⟩|⟨i,j,e,_⟩|⟨i,j,e,e2,hcs⟩
      ·cases e
      ·cases e
      ·cases e
      ·cases e;subst e2;cases j with
       |nil=>have:=hs _ m;cases this
       |cons y r'=>
        rw[bD,Yl]at hcs;exact⟨y,r',rfl,hf _ m,(nG hcs.1 hx).symm⟩
     obtain⟨fs,f1,f2,f3⟩:=oG I r rv (fun d' m=>by obtain⟨y,r',e,h,_⟩:=all d' m;exact⟨y,r',e,h⟩) (tyD x) fun y r' m=>by
      obtain⟨y',r'',e,_,h⟩:=all _ m;cases e;exact h
     exact kat_kind f1 (by omega) (f3 M) (by cases x<;>rfl) hQ
   |_=>cases ht
  |false=>
   have hd:fk d=true:=kY (hs d md) ht;have e:kg (d::dr)=oneType':=by cases d<;>first|rfl|cases ht
   rw[e]at hQ;have hT:∀u∈us,Looks M s.heap (typeOf u) (tyD d):=fun u hu=>by
    obtain⟨i,hi,eu⟩:=XO hu;have hiv:i<vs.length:=by omega
    obtain⟨u',e1,e2⟩:=rv.get (Yg hiv);rw[Yg hi,eu]at e1;cases e1;obtain⟨d',e3,e4⟩:=r.getV (Yg hiv);have m:=Yv e3;have hcm:=hc.2 _ md _ m;rw[nG hcm hd];refine e4.ty I ?_ e2 M;refine kY (hs d' m) ?_;rcases bg hcm with⟨i,j,rfl,rfl⟩|⟨i,j,rfl,rfl⟩|⟨i,j,rfl,rfl⟩|⟨i,j,rfl,rfl,_⟩
    ·rfl
    ·rfl
    ·rfl
    ·cases ht
   refine kas_kind h2 hT ?_ ?_ hQ
   ·cases d<;>first|rfl|(simp[fk]at hd;done)|(simp[fE]at ht;done)
   ·cases d<;>rfl
theorem u8{A:Around}{prog:Program}{w:World}{b:Bool}{Q:Kb}{n1 n2:Nat}:∀{us ws:List Value}{ds es:List D} (i:Nat),LexOk A s us ws ds es->(b=true->i=0->∀u w' d e ur wr dr er,us=u::ur->ws=w'::wr->ds=d::dr->es=e::er->∀(Q:Kb) (E:Kv),Q (ltD d e) s->wpAny (model prog w) A (oneLt' true u w') Q E s)->
  us.length+n2=ws.length+n1->Q (bJ ds es) s->KatLex prog w A b (decide (n1<n2)) Q (us.zip ws) i s:=by
 intro us ws ds es i h;induction h generalizing i with
 |@nl ws es hl=>
  intro _ hn hQ;rw[List.zip_nil_left];refine kat_nil ?_;rw[YS]at hn;cases es with
  |nil=>
   rw[YS]at hl;rw[show bJ [] []=false by simp[bJ]]at hQ;rw[YB (by omega)];exact hQ
  |cons c r=>
   rw[Yu]at hl;rw[show bJ [] (c::r)=true by simp[bJ]]at hQ;rw[YL (by omega)];exact hQ
 |@nr vs ds hl=>
  intro _ hn hQ;rw[List.zip_nil_right];refine kat_nil ?_;rw[YS]at hn;cases ds with
  |nil=>
   rw[YS]at hl;rw[show bJ [] []=false by simp[bJ]]at hQ;rw[YB (by omega)];exact hQ
  |cons c r=>
   rw[Yu]at hl;rw[show bJ (c::r) []=false by simp[bJ]]at hQ;rw[YB (by omega)];exact hQ
 |@cons v w' d e _ _ _ _ he hlt hx ih=>
  intro h1 hn hQ;rw[XT];rw[Yu,Yu]at hn;refine kat_cons (he prog w _ _ ?_);cases q:eqd d e with
  |true=>
   rw[bJ,Yi q]at hQ;exact kat_yes (ih (i+1) (fun _ z=>by omega) (by omega) hQ)
  |false=>
   rw[bJ,Yn (by rw[q];exact Yk)]at hQ;refine kat_no ?_;cases hb:(b&&i == 0)with
   |true=>
    rw[Yl]at hb;exact h1 hb.1 (by simpa using hb.2) _ _ _ _ _ _ _ _ rfl rfl rfl rfl _ _ hQ
   |false=>exact kat_one _ _ (hlt q prog w _ _ hQ)
theorem tZ{A:Around}{prog:Program}{w:World}{x y:V}{d e:D}{u v:Value}(h1:Rep X.K H x d)(h2:Rep X.K H y e)(c:az d e=true)(hd:fk d=true)(ht:fE d=false)(r1:RelV x u)(r2:RelV y v){Q:Kb}{E:Kv}(hQ:Q (ltD d e) s) :
  wpAny (model prog w) A (oneLt' true u v) Q E s:=by
 rcases bg c with⟨i,j,rfl,rfl⟩|⟨i,j,rfl,rfl⟩|⟨i,j,rfl,rfl⟩|⟨i,j,rfl,rfl,_⟩
 ·cases h1;cases h2;obtain⟨t,rfl⟩:=(show ∃t,u=Value.int _ t from r1)
  obtain⟨t',rfl⟩:=(show ∃t,v=Value.int _ t from r2)
  exact oneLt_int (by rw[ltD]at hQ;exact hQ)
 ·cases hd
 ·cases h1;cases h2;obtain⟨t,rfl⟩:=(show ∃t,u=Value.str _ t from r1)
  obtain⟨t',rfl⟩:=(show ∃t,v=Value.str _ t from r2)
  exact oneLt_str (by rw[ltD]at hQ;exact hQ)
 ·cases ht
theorem yu(I:Inv X pz σ H s){vs:List V}{ds:List D}{us:List Value}(r:Reps X.K H vs ds)(rv:Vals vs us)(ok:cV ds=true){A:Around}(hu:A.units+60<cLine){prog:Program}{w:World}{i j:Nat}{C:Kb}(hi:i<us.length)(hj:j<us.length)(hQ:C (ltD (dAt ds i) (dAt ds j)) s) :
  kas_ask prog w A (kg ds) us i j C s:=by
 obtain⟨hl,hc,hs,hf⟩:=fw ok;have l1:=r.length;have l2:=rv.length;obtain⟨v,e1,r1⟩:=r.get (lG (show i<ds.length by omega));obtain⟨v',e2,r2⟩:=r.get (lG (show j<ds.length by omega));obtain⟨u,e3,k1⟩:=rv.get e1;obtain⟨u',e4,k2⟩:=rv.get e2;have hn:ds≠[]:=fun z=>by rw[z,YS]at l1;omega
 have mi:=k_ hn i;have mj:=k_ hn j;have hcm:=hc.2 _ mi _ mj;unfold kas_ask;have g1:us.getD i Value.none=u:=by rw[Yy,e3];rfl
 have g2:us.getD j Value.none=u':=by rw[Yy,e4];rfl
 rw[g1,g2];generalize hx:dAt ds i=x at *;generalize hy:dAt ds j=y at *;cases ht:fE x with
 |false=>
  have e:kg ds=oneType':=by
   cases ds with
   |nil=>exact absurd rfl hn
   |cons d dr=>
    have:=hc.2 _ mi d Yf;rcases bg this with⟨i,j,rfl,rfl⟩|⟨i,j,rfl,rfl⟩|⟨i,j,rfl,rfl⟩|⟨i,j,rfl,rfl,_⟩
    ·rfl
    ·rfl
    ·rfl
    ·cases ht
  rw[e,keyLt'_oneType];exact tZ r1 r2 hcm (kY (hs _ mi) ht) ht k1 k2 hQ
 |true=>
  cases x with
  |tup xs=>
   cases xs with
   |nil=>have:=hs _ mi;cases this
   |cons x0 xr=>
    rcases bg hcm with⟨_,_,e,_⟩|⟨_,_,e,_⟩|⟨_,_,e,_⟩|⟨xs',ys,e,rfl,hcs⟩
    ·cases e
    ·cases e
    ·cases e
    ·cases e;have ek:kg ds=tuples' (tyD x0 != .type "tuple"):=by
      cases ds with
      |nil=>exact absurd rfl hn
      |cons d dr=>
       have:=hc.2 _ mi d Yf;rcases bg this with⟨_,_,e,_⟩|⟨_,_,e,_⟩|⟨_,_,e,_⟩|⟨_,zs,e,rfl,hz⟩
       ·cases e
       ·cases e
       ·cases e
       ·cases e;cases zs with
        |nil=>have:=hs (.tup []) Yf;cases this
        |cons z0 zr=>
         rw[bD,Yl]at hz;show tuples' (tyD z0 != _)=_;rw[nG hz.1 (hf _ mi)]
     rw[ek];cases r1 with
     |tup a1 a2=>
      cases r2 with
      |tup b1 b2=>
       cases(show u=Value.ref _ from k1);cases(show u'=Value.ref _ from k2);obtain⟨its1,rv1,⟨o1,ho1,hc1,n1,hd1⟩,_⟩:=I.tuple (SqT.of a1);obtain⟨its2,rv2,⟨o2,ho2,hc2,n2,hd2⟩,_⟩:=I.tuple (SqT.of b1);have oi:okN 28 (.tup (x0::xr))=true:=hc.1 _ mi;have oj:okN 28 (.tup ys)=true:=hc.1 _ mj;have hlex:=Reps.lex I 27 A (by omega) (Rep.lt I 27 A (by omega)) a2 b2 (bB oi) (bB oj) hcs rv1 rv2;refine kat_lt ho1 hd1 ho2 hd2 ?_;simp only[Yp];refine u8 0 hlex (fun hb _ u0 w0 d0 e0 ur wr dr er q1 q2 q3 q4 Q E hq=>?_) (by omega) (by rw[ltD]at hQ;exact hQ);subst q1 q2 q4;cases q3;cases a2 with
       |cons a3 a4=>
        cases b2 with
        |cons b3 b4=>
         cases rv1 with
         |cons c1 c2=>
          cases rv2 with
          |cons c3 c4=>
           rw[bD,Yl]at hcs;refine tZ a3 b3 hcs.1 (hf _ mi) ?_ c1 c3 hq;cases x0<;>first|rfl|(simp[tyD]at hb)
  |_=>cases ht
theorem uH(I:Inv X pz σ H s){vs:List V}{ds:List D}{us:List Value}(r:Reps X.K H vs ds)(rv:Vals vs us)(ok:cV ds=true)(hu:X.A.units+64<cLine){Q:Kv}
  (hQ:∀(a:Addr) (p:List Nat) (s':Shared),H a=none->(∀i∈p,i<ds.length)->p.length=ds.length->p.map (dAt ds)=cx ds->Inv X pz σ (upd H a (.lst (p.map fun i=>vs.getD i .non))) s'->Q (.ref a) s'):kL X.prog X.w X.A Q us s:=by
 obtain⟨hl,hc,_,_⟩:=fw ok;have l1:=r.length;have l2:=rv.length;refine⟨by omega,kg ds,_,zu hc,fun h2 h' k Q E q=>iA (I.kept (t':=s.toks) k) r rv ok h2 q,fun h' k i j C hi hj hq=>?_,fun p hp hr a h' e k hsz hget=>?_⟩
 ·have hu':X.A.in1.in1.units+60<cLine:=by show X.A.units+1+1+60<cLine;omega
  exact yu (I.kept (t':=s.toks) k) r rv ok hu' hi hj hq
 ·have hp':PermN ds.length p:=by rw[<-l1,l2];exact hp
  have hr':Ris (fun i j=>ltD (dAt ds i) (dAt ds j)) p ds.length:=by rw[<-l1,l2];exact hr
  have eo:=oO hc hp' hr';have bd:∀i∈p.toList,i<ds.length:=fun i hi=>Zl.mp (hp'.perm.mem_iff.mp hi)
  have hna:H a=none:=I.hok.fresh hsz;have lenp:p.toList.length=ds.length:=by rw[Zs];exact hp'.size
  refine hQ a p.toList _ hna bd lenp eo (I.laid (t':=s.toks) k hsz ⟨?_,p.toList.map fun i=>us.getD i Value.none,e,Vals.perm rv p.toList fun i hi=>by rw[l1];exact bd i hi,?_⟩)
  ·rw[Yb,lenp,YQ];omega
  ·exact hget
end
section
variable{X:Cx}{e:Expr}{p pos:Pos}{fa:Dd}
theorem lR(hu:X.A.units+64<cLine):CallR X (.builtin "sorted") (fun xs H Q=>∃a vs ds,xs=[.ref a]/\(SqL X.K H a vs\/SqT X.K H a vs)/\Reps X.K H vs ds/\cV ds=true/\∀l (p:List Nat),H l=none->(∀i∈p,i<ds.length)->p.length=ds.length->p.map (dAt ds)=cx ds->Q (.ref l) (upd H l (.lst (p.map fun i=>vs.getD i .non)))):=by
 intro pz s σ H xs us Q I r h;obtain⟨a,vs,ds,rfl,hq,hr,ok,q⟩:=h;obtain⟨u,rfl,ru⟩:=eI r;cases ru;refine mK ?_;have fin:∀its:List Value,Vals vs its->kL X.prog X.w X.A (EP X pz σ Q) its {s with heap:=(s.heap.push (seqObj "list" #[] 0)).update s.heap.objs.size (Obj.mapSeq (·++its.toArray))}:=fun its rv=>
  uH (I.kept (t':=s.toks) fun b u e=>jv e) hr rv ok hu fun l p s' hl b1 b2 b3 I'=>⟨.ref l,_,I',rfl,q l p hl b1 b2 b3⟩
 rcases hq with hq|hq
 ·obtain⟨its,rv,pl,hz⟩:=I.list hq;exact collect_list pl.isList (fin its rv) (by rw[<-rv.length];exact hz)
 ·obtain⟨its,rv,pl,hz⟩:=I.tuple hq;exact jS pl (fin its rv) (by rw[<-rv.length];exact hz)
def iO(fa:Dd):DF->Option (List D):=fun ρ=>(fa ρ).bind fun d=>(cv d).bind fun ds=>if cV ds=true then some (cx ds)else none
theorem fj(hu:X.A.units+64<cLine)(hg:Gl X "sorted")(hm:X.mg "sorted"=none)(ha:PDR X e fa)(hs:starEach [e] X.env=[(false,eval e X.env)]:=by rfl)(hpl:(backTo pos (starEach [] X.env)).any (·.1)=false:=by rfl) :
  PDO X (.Call (.Name "sorted" p) [e] [] pos) (asL (iO fa)):=
 (eE (lR hu) hg hm nu (aE ha bp hs) (by decide) (by decide) hs hpl).imp fun σ H Q=>un7 fun P F ρ ob hf I k=>by
  unfold asL iO at hf;cases ha:fa ρ with
  |none=>rw[ha]at hf;cases hf
  |some dx=>
  rw[ha,Ya]at hf;cases hi:cv dx with
  |none=>rw[hi]at hf;cases hf
  |some ds=>
  rw[hi,Ya]at hf;split at hf
  ·rename_i ok;cases hf;refine⟨P,F,ρ,dx,ha,I,fun x F1 H1 e1 rx=>?_⟩;have I1:=I.evo e1;have fin:∀(vs:List V),Reps X.K F1 vs ds->∀l (p:List Nat),H1 l=none->(∀i∈p,i<ds.length)->p.length=ds.length->p.map (dAt ds)=cx ds->Q (.ref l) (upd H1 l (.lst (p.map fun i=>vs.getD i .non))):=fun vs r l p hl b1 b2 b3=>by
    refine k l F1 _ (e1.trans (Evo.side e1.hp hl)) ⟨⟨e1.back I.toDHp hl,(e1.hp.free hl).1⟩,_,aR,?_⟩;show Reps X.K F1 _ (cx ds);by_cases hn:ds=[]
    ·subst hn;have:p=[]:=ZB.mp b2;rw[this];exact .nil
    ·rw[<-b3];exact r.perm hn p b1
   cases dx with
   |lst ds'=>
    cases hi;obtain⟨q,vs,rfl,h1,h2⟩:=c9 I1 rx;exact⟨q,vs,ds,rfl,.inl h1,h2.same I1.sub,ok,fin vs h2⟩
   |tup ds'=>
    cases hi;obtain⟨q,vs,rfl,h1,h2⟩:=fT I1 rx;exact⟨q,vs,ds,rfl,.inr h1,h2.same I1.sub,ok,fin vs h2⟩
   |_=>cases hi
  ·cases hf
end
end L2
namespace L2
open PySem PySem.Spec PyProof.Rows
def bG{α:Type}(xs:List α)(lo hi:Option Int):List α:=(xs.drop (HT.sIx xs.length 0 lo)).take (HT.sIx xs.length xs.length hi-HT.sIx xs.length 0 lo)
theorem Reps.cut{K:Kq}{F:Hp}{vs:List V}{ds:List D}(r:Reps K F vs ds)(lo hi:Option Int):Reps K F (lw vs lo hi) (bG ds lo hi):=by unfold lw bG;rw[r.length];exact(r.drop _).take _
def tOI(K:Kq)(f:DF->Option (Option Int)):TO:=fun σ H Q=>∃P F ρ b,f ρ=some b/\DInv K P F H ρ σ/\∀F' H',Evo P F H F' H'->Q b H'
def PDB(X:Cx)(e:Option Expr)(f:DF->Option (Option Int)):Prop:=PO X e (tOI X.K f)
def bNo:DF->Option (Option Int):=fun _=>some none
def bI(f:Dd):DF->Option (Option Int):=fun ρ=>match f ρ with
 |some (.int i)=>some (some i)
 |_=>none
section
variable{X:Cx}{e a b c o:Expr}{es:List Expr}{pos p p2:Pos}{lo hi:Option Expr}{fe fa fb:Dd}{fl fh:DF->Option (Option Int)}
theorem PO.imp{t t':TO}{e:Option Expr}(h:PO X e t)(i:∀σ H Q,t' σ H Q->t σ H Q):PO X e t':=fun pz s σ H Q I q=>h pz s σ H Q I (i σ H Q q)
theorem fm:PDB X none bNo:=PO.imp vK fun σ H Q=>un7 fun P F ρ b hf I k=>by
 cases hf;exact k F H (Evo.refl I.toDHp)
theorem cA{f:Dd}(h:PDE X e f):PDB X (some e) (bI f):=PO.imp (vZ h) fun σ H Q=>un7 fun P F ρ b hf I k=>by
 unfold bI at hf;split at hf
 ·rename_i i q;cases hf;refine⟨P,F,ρ,_,q,I,fun v F' H' ev r=>?_⟩;cases r;exact⟨i,rfl,k F' H' ev⟩
 ·cases hf
def slL(fe:Dd)(fl fh:DF->Option (Option Int)):DF->Option (List D):=fun ρ=>match fe ρ with
 |some (.lst xs)=>(fl ρ).bind fun l=>(fh ρ).map fun h=>bG xs l h
 |_=>none
theorem b5(he:PDR X e fe)(hl:PDB X lo fl)(hh:PDB X hi fh):PDO X (.Subscript e (.Slice lo hi none p2) pos) (asL (slL fe fl fh)):=(iV vv he hl hh).imp fun σ H Q=>un7 fun P F ρ ob hf I k=>by
 unfold asL at hf;cases q:slL fe fl fh ρ with
 |none=>rw[q]at hf;cases hf
 |some out=>
 rw[q]at hf;cases hf;unfold slL at q;split at q
 ·rename_i xs q1;cases q2:fl ρ with
  |none=>rw[q2]at q;cases q
  |some l=>
  rw[q2,Ya]at q;cases q3:fh ρ with
  |none=>rw[q3]at q;cases q
  |some h=>
  rw[q3]at q;cases q;refine⟨P,F,ρ,_,q1,I,fun x F1 H1 e1 rx=>⟨P,F1,ρ,l,q2,I.evo e1,fun F2 H2 e2=>⟨P,F2,ρ,h,q3,(I.evo e1).evo e2,fun F3 H3 e3=>?_⟩⟩⟩;have e123:=(e1.trans e2).trans e3;obtain⟨l',vs,rfl,h1,h2⟩:=c9 (I.evo e123) ((rx.evo e2).evo e3);exact⟨l',vs,rfl,h1,fun p hp=>k p F3 _ (e123.trans (Evo.side e123.hp hp)) ⟨⟨e123.back I.toDHp hp,(e123.hp.free hp).1⟩,_,aR,h2.cut l h⟩⟩
 ·cases q
def CH:V->Option Int->Option Int->Hp->VK->Prop:=fun x lo hi H Q=>∃z,x=.str z/\z.length<=sizeLine/\Q (.str (Txt.slice z lo hi)) H
theorem qd{v:Value}{o:Option Int}(h:IsPart v o):∃l:Option (Int×Tok),v=partValue l/\l.map (·.1)=o:=by
 cases h with
 |none=>exact⟨none,rfl,rfl⟩
 |int i t=>exact⟨some (i,t),rfl,rfl⟩
theorem xC:SlR X CH:=by
 intro pz s σ H x v vl vu lo hi sl Q I rx hs pl pu h;obtain⟨z,rfl,hz,q⟩:=h;have hle:=Txt.slice_le z lo hi;obtain⟨t,rfl⟩:=rx;obtain⟨l,rfl,e1⟩:=qd pl;obtain⟨u,rfl,e2⟩:=qd pu;refine⟨"str",_,PySem.F.slot_str_getitem.lookup,typeIs_str s z t,wpAny_getItem_str_slice (st:=none) hs rfl ?_⟩;have e:slicePicked z l u none=Builtin.Str.strSliceIndices lo hi 1 z.length:=by unfold slicePicked;rw[e1,e2];rfl
 unfold sliceMade;rw[e];unfold Txt.slice at q hle;show(if((1:Int) == 1&&(Builtin.Str.strSliceIndices lo hi 1 z.length).length == z.length)=true then Made.val (.str z t)else Made.str ⟨((Builtin.Str.strSliceIndices lo hi 1 z.length).filterMap (z.cps[·]?)).toArray⟩).post _ _;split
 ·rename_i c;rw[Yi c]at q;exact⟨.str z,H,I,⟨t,rfl⟩,q⟩
 ·rename_i c;rw[Yn c]at q hle;exact⟨YH hle hz,⟨.str _,H,I.tok _,⟨_,rfl⟩,q⟩⟩
def slS(fe:Dd)(fl fh:DF->Option (Option Int)):DF->Option D:=fun ρ=>match fe ρ with
 |some (.str x)=>if x.length<=16777216 then(fl ρ).bind fun l=>(fh ρ).map fun h=>.str (Txt.slice x l h)else none
 |_=>none
theorem gO(he:PDR X e fe)(hl:PDB X lo fl)(hh:PDB X hi fh):PDE X (.Subscript e (.Slice lo hi none p2) pos) (slS fe fl fh):=(iV xC he hl hh).imp fun σ H Q=>un7 fun P F ρ d q I k=>by
 unfold slS at q;split at q
 ·rename_i x q1;split at q
  rotate_left
  ·cases q
  rename_i hz;cases q2:fl ρ with
  |none=>rw[q2]at q;cases q
  |some l=>
  rw[q2,Ya]at q;cases q3:fh ρ with
  |none=>rw[q3]at q;cases q
  |some h=>
  rw[q3]at q;cases q;refine⟨P,F,ρ,_,q1,I,fun y F1 H1 e1 rx=>⟨P,F1,ρ,l,q2,I.evo e1,fun F2 H2 e2=>⟨P,F2,ρ,h,q3,(I.evo e1).evo e2,fun F3 H3 e3=>?_⟩⟩⟩;exact⟨x,iC rx,by rw[YQ];exact hz,k _ F3 H3 ((e1.trans e2).trans e3) .str⟩
 ·cases q
def sy(K:Kq):R2:=fun x y H Q=>∃a b xs ys,x=.ref a/\y=.ref b/\SqT K H a xs/\SqT K H b ys/\xs.length+ys.length<=sizeLine /\
 (xs=[]->Q (.ref b) H)/\(xs≠[]->ys=[]->Q (.ref a) H)/\(xs≠[]->ys≠[]->∀p,H p=none->Q (.ref p) (upd H p (.tup (xs++ys))))
theorem t5:OpR X (binaryOp .Add) (sy X.K):=by
 intro pz s σ H x y v u Q I rx ry h;obtain⟨a,b,xs,ys,rfl,rfl,ha,hb,hz,q0,q1,q2⟩:=h;by_cases hx:xs=[]
 ·cases rx;cases ry;obtain⟨its,r1,p1,_⟩:=I.tuple ha;obtain⟨its2,r2,p2,_⟩:=I.tuple hb;have hi:its=[]:=r1.nil_iff.mpr hx;obtain⟨⟨cls,dd,data,sl⟩,ho,hc,n,hd⟩:=id p1;obtain⟨⟨cls2,dd2,data2,sl2⟩,ho2,hc2,n2,hd2⟩:=id p2;simp only at hc hd hc2 hd2;subst hc hd hc2 hd2;exact concat_meets ⟨_,ho,rfl⟩ ⟨_,ho2,rfl⟩ noFill_tuple_add seq_tuple_add PySem.F.slot_tuple_add PySem.F.entry_tuple_add (PySem.F.args_tuple_add_2 _ _)
   (tuple_addW0 a b its.toArray its2.toArray n n2 dd dd2 sl sl2 (by simp[hi])) ⟨ho,ho2,⟨.ref b,H,I,rfl,q0 hx⟩⟩
 ·exact wo pz s σ H _ _ v u Q I rx ry ⟨a,b,xs,ys,rfl,rfl,ha,hb,hx,hz,q1 hx,q2 hx⟩
def aW:D->D->Option D
 |.int i,.int j=>some (.int (i+j))
 |.str x,.str y=>if x.length+y.length<=16777216 then some (.str (x++y))else none
 |.lst xs,.lst ys=>if xs.length+ys.length<=16777216 then some (.lst (xs++ys))else none
 |.tup xs,.tup ys=>if xs.length+ys.length<=16777216 then some (.tup (xs++ys))else none
 |_,_=>none
theorem Reps.nil_iff{K:Kq}{H:Hp}{vs:List V}{ds:List D}(r:Reps K H vs ds):vs=[]↔ds=[]:=by
 cases r with
 |nil=>simp
 |cons _ _=>simp
theorem vQ{K:Kq}:mP K (fun x y H Q=>Ba x y H Q\/(xt K x y H Q\/sy K x y H Q)) aW:=by
 intro P F H ρ σ x y dx dy d Q hf I rx ry k;unfold aW at hf;split at hf
 ·cases hf;exact .inl (.inl ⟨_,_,ck rx,ck ry,k _ F H (Evo.refl I.toDHp) .int⟩)
 ·split at hf
  ·rename_i h;cases hf;exact .inl (.inr ⟨_,_,iC rx,iC ry,by rw[YQ];exact h,k _ F H (Evo.refl I.toDHp) .str⟩)
  ·cases hf
 ·split at hf
  ·rename_i hz;cases hf;obtain⟨l,vs,rfl,h1,h2⟩:=c9 I rx;obtain⟨l2,vs2,rfl,h3,h4⟩:=c9 I ry;exact .inr (.inl ⟨l,l2,vs,vs2,rfl,rfl,h1,h3,by rw[h2.length,h4.length,YQ];exact hz,fun p hp=>k _ _ _ (Evo.laid I.toDHp hp) (.lst (SqL.of aR) ((h2.append h4).same (fG (I.toDHp.free hp).1)))⟩)
  ·cases hf
 ·split at hf
  ·rename_i xs ys hz;cases hf;obtain⟨l,vs,rfl,h1,h2⟩:=fT I rx;obtain⟨l2,vs2,rfl,h3,h4⟩:=fT I ry;have tr:∀{y:V}{ds:List D},RepS K H F y (.tup ds)->Rep K F y (.tup ds):=fun h=>by
    rcases h with h|⟨_,ob,_,_,_,_,_,hfl,z⟩
    ·exact h
    ·cases ob<;>first|(cases z;done)|cases hfl
   refine .inr (.inr ⟨l,l2,vs,vs2,rfl,rfl,h1,h3,by rw[h2.length,h4.length,YQ];exact hz,fun z=>?_,fun _ z=>?_,fun _ _ p hp=>?_⟩)
   ·have:xs=[]:=h2.nil_iff.mp z;subst this;exact k _ F H (Evo.refl I.toDHp) (tr ry)
   ·have:ys=[]:=h4.nil_iff.mp z;subst this;rw[Ze]at k;exact k _ F H (Evo.refl I.toDHp) (tr rx)
   ·exact k _ _ _ (Evo.laid I.toDHp hp) (.tup aR ((h2.append h4).same (fG (I.toDHp.free hp).1)))
  ·cases hf
 ·cases hf
theorem aI(ha:PDR X a fa)(hb:PDR X b fb):PDE X (.BinOp a .Add b pos) (d2 aW fa fb):=gv ((yr.or nJ).or (pj.or t5)) vQ ha hb
def isT:String->D->Option Bool
 | "int",.int _=>some true
 | "bool",.int _=>some false
 | "bool",.bl _=>some true
 | "list",.lst _=>some true
 |_,_=>none
def Cf(K:Kq):List V->Hp->VK->Prop:=fun xs H Q=>∃x T d b,xs=[x,.ty T]/\Rep K H x d/\isT T d=some b/\Q (.bl b) H
theorem sL:CallR X (.builtin "isinstance") (Cf X.K):=by
 intro pz s σ H xs us Q I r h;obtain⟨x,T,d,b,rfl,hr,ht,q⟩:=h;obtain⟨u,w',rfl,r1,r2⟩:=wX r;cases(show w'=Value.type T from r2);have f1:EP X pz σ Q (.bool b) s:=⟨.bl b,H,I,rfl,q⟩
 have f2:EP X pz σ Q (.bool b) {s with toks:=s.toks+1}:=⟨.bl b,H,I.tok _,rfl,q⟩
 unfold isT at ht;split at ht<;>cases ht<;>cases hr
 ·obtain⟨t,rfl⟩:=(show ∃t,u=Value.int _ t from r1);exact PySem.IsiPair.int_int f1
 ·obtain⟨t,rfl⟩:=(show ∃t,u=Value.int _ t from r1);exact PySem.IsiPair.int_bool f2
 ·cases(show u=Value.bool _ from r1);exact PySem.IsiPair.bool_bool f1
 ·cases(show u=Value.ref _ from r1);rename_i hs _;obtain⟨_,_,⟨o,n,e,c,_⟩,_⟩:=I.list hs;exact PySem.IsiPair.list_list e c f1
def e8(T:String)(d:D):Option D:=(isT T d).map .bl
theorem iJ{x:Str}{T:String}{p1:Pos}(hg:Gl X "isinstance")(hm:X.mg "isinstance"=none)(hgt:Gl X x)(hmt:X.mg x=none)(hv:bootBuiltins x=some (.type T))(ha:PDN X a fa)(hn:x ≠ "__name__":=by decide)(hd:(x == ("__debug__":Str))=false:=by decide)
  (hs:starEach [a,.Name x p1] X.env=[(false,eval a X.env),(false,eval (.Name x p1) X.env)]:=by rfl) (hs2:starEach [.Name x p1] X.env=[(false,eval (.Name x p1) X.env)]:=by rfl) (hpl:(backTo pos (starEach [.Name x p1] X.env)).any (·.1)=false:=by rfl) :
  PDE X (.Call (.Name "isinstance" p) [a,.Name x p1] [] pos) (d1 (e8 T) fa):=
 (eE sL hg hm iq (aE ha (aE (vP (v:=.ty T) hgt hmt hv rfl hn hd) bp hs2) (by rw[hs,hs2])) (by decide) (by decide) (by rw[hs,hs2]) hpl).imp fun σ H Q=>un7 fun P F ρ d hf I k=>by
  unfold d1 e8 at hf;cases q:fa ρ with
  |none=>rw[q]at hf;cases hf
  |some dx=>
   rw[q,Ya]at hf;cases q2:isT T dx with
   |none=>rw[q2]at hf;cases hf
   |some b=>
    rw[q2]at hf;cases hf;exact⟨P,F,ρ,dx,q,I,fun y F1 H1 e1 r1=>⟨y,T,dx,b,rfl,r1,q2,k _ F1 H1 e1 .bl⟩⟩
end
section
variable{X:Cx}{pz:Kp}{σ:St}{H:Hp}{s:Shared}
theorem m7(I:Inv X pz σ H s){a:Addr}{xs ys:List V}(h1:SqT X.K H a xs)(h2:SqL X.K H a ys):False:=by obtain⟨_,_,⟨o,e,c,_⟩,_⟩:=I.tuple h1;obtain⟨_,_,⟨o',n,e',c',_⟩,_⟩:=I.list h2;rw[e]at e';cases e';rw[c]at c';injection c' with z;exact absurd z (by decide)
theorem Reps.detOf{n:Nat}(ih:∀{v:V}{d d':D},okN n d=true->okN n d'=true->Rep X.K H v d->Rep X.K H v d'->d=d'){vs:List V}{ds:List D}(h:Reps X.K H vs ds):∀ds':List D,(∀d∈ds,okN n d=true)->(∀d∈ds',okN n d=true)->Reps X.K H vs ds'->ds=ds':=
 Reps.ind (M:=fun vs ds=>∀ds':List D,(∀d∈ds,okN n d=true)->(∀d∈ds',okN n d=true)->Reps X.K H vs ds'->ds=ds') (fun ds' _ _ r=>by cases r;rfl) (fun a _ i ds' h h' r=>by
  cases r with
  |cons a' r'=>rw[ih (h _ Yf) (h' _ Yf) a a',i _ (fun d m=>h d (Yc _ m)) (fun d m=>h' d (Yc _ m)) r']) h
theorem Rep.det1(I:Inv X pz σ H s)(n:Nat)(ih:∀m,n=m+1->∀{v:V}{d d':D},okN m d=true->okN m d'=true->Rep X.K H v d->Rep X.K H v d'->d=d'){v:V}{d d':D}(h:okN n d=true)(h':okN n d'=true)(q:Rep X.K H v d)(r:Rep X.K H v d'):d=d':=by
 cases q with
 |non=>cases r;rfl
 |bl=>cases r;rfl
 |int=>cases r;rfl
 |str=>cases r;rfl
 |tup a1 a2=>
  cases r with
  |tup b1 b2=>
   rw[a1]at b1;cases b1;cases n with
   |zero=>cases h
   |succ n=>rw[Reps.detOf (ih n rfl) a2 _ (bB h) (bB h') b2]
  |lst b1 b2=>exact(m7 I (SqT.of a1) b1).elim
  |dT b1 b2=>rw[a1]at b1;cases b1
  |dK b1 b2=>rw[a1]at b1;cases b1
  |ins b1 b2=>rw[a1]at b1;cases b1
 |lst a1 a2=>
  cases r with
  |tup b1 b2=>exact(m7 I (SqT.of b1) a1).elim
  |lst b1 b2=>
   have e:=I.list_inj a1 b1;subst e;cases n with
   |zero=>cases h
   |succ n=>rw[Reps.detOf (ih n rfl) a2 _ (bB h) (bB h') b2]
  |_=>cases n<;>cases h'
 |_=>cases n<;>cases h
theorem Rep.det(I:Inv X pz σ H s)(n:Nat):∀{v:V}{d d':D},okN n d=true->okN n d'=true->Rep X.K H v d->Rep X.K H v d'->d=d':=by
 induction n with
 |zero=>exact fun h h' q r=>Rep.det1 I 0 (fun m e=>by cases e) h h' q r
 |succ n ih=>exact fun h h' q r=>Rep.det1 I (n+1) (fun m e=>by cases e;exact ih) h h' q r
theorem sU{v v':V}{u:Value}(h:RelV v u)(h':RelV v' u):v=v':=RelV.inj h h'
open Classical in
noncomputable def o7 (us:List Value)(ds:List D)(dy:D)(u:Value):Bool:=decide (∃(i:Nat) (d:D),us[i]?=some u/\ds[i]?=some d/\eqd d dy=true)
open Classical in
theorem kM(I:Inv X pz σ H s){n:Nat}{vs:List V}{ds:List D}{us:List Value}{dy:D}(r:Reps X.K H vs ds)(rv:Vals vs us)(ok:∀d∈ds,okN n d=true){i:Nat}{u:Value}{d:D}(hu:us[i]?=some u)(hd:ds[i]?=some d):o7 us ds dy u=eqd d dy:=by
 unfold o7;cases q:eqd d dy with
 |true=>exact YL ⟨i,d,hu,hd,q⟩
 |false=>
  refine YB ?_;rintro⟨j,d',h1,h2,h3⟩;obtain⟨v,a1,a2⟩:=r.get hd;obtain⟨v',b1,b2⟩:=r.get h2;obtain⟨u1,c1,c2⟩:=rv.get a1;obtain⟨u2,c3,c4⟩:=rv.get b1;rw[hu]at c1;cases c1;rw[h1]at c3;cases c3;have e:=sU c2 c4;subst e;have:=a2.det I n (ok d (Yv hd)) (ok d' (Yv h2)) b2;rw[this,h3]at q;cases q
theorem nt(I:Inv X pz σ H s){vs:List V}{ds:List D}{us:List Value}{y:V}{dy:D}{uy:Value}(r:Reps X.K H vs ds)(rv:Vals vs us)(ok:∀d∈ds,okN 29 d=true)(ry:Rep X.K H y dy)(oy:okN 30 dy=true)(ky:RelV y uy){A:Around}(hu:A.units+60<cLine) :
  ∀u∈us,SeqAt.EqAt A s u uy (o7 us ds dy u):=fun u hu'=>by
 obtain⟨i,hi,eu⟩:=XO hu';have l1:=r.length;have l2:=rv.length;have hiv:i<vs.length:=by omega
 obtain⟨u',e1,k1⟩:=rv.get (Yg hiv);rw[Yg hi,eu]at e1;cases e1;obtain⟨d,e2,r2⟩:=r.getV (Yg hiv);rw[kM I r rv ok (by rw[Yg hi,eu]) e2];have od:=ok d (Yv e2);obtain⟨a1,p1⟩:=r2.reads I 29 od k1;obtain⟨a2,p2⟩:=ry.reads I 30 oy ky;obtain⟨l1',m1⟩:=bU 29 d od;obtain⟨l2',m2⟩:=bU 30 dy oy;refine PySem.SeqAt.eqAt_reads _ _ A s _ _ _ _ p1 p2 l1' l2' ?_;have:min (bZ d).depth (bZ dy).depth<=30:=YH (Nat.min_le_left _ _) m1;omega
end
def jK(dy:D):List D->Option Nat
 |[]=>none
 |d::r=>if eqd d dy=true then some 0 else(jK dy r).map (· + 1)
theorem j9{dy:D}:∀{ds:List D}{j:Nat},jK dy ds=some j->(∃d,ds[j]?=some d/\eqd d dy=true)/\∀m,m<j->∃d,ds[m]?=some d/\eqd d dy=false
 |[],_,h=>by cases h
 |d::r,j,h=>by
  unfold jK at h;split at h
  ·rename_i q;cases h;exact⟨⟨d,rfl,q⟩,fun m hm=>by omega⟩
  ·rename_i q;cases q2:jK dy r with
   |none=>rw[q2]at h;cases h
   |some k=>
    rw[q2]at h;have h:=Yr h;have h:k+1=j:=h;subst h;obtain⟨h1,h2⟩:=j9 q2;refine⟨by simpa using h1,fun m hm=>?_⟩;cases m with
    |zero=>exact⟨d,rfl,by simpa using q⟩
    |succ m=>simpa using h2 m (by omega)
def CK(K:Kq):V->List V->Hp->VK->Prop:=fun x vs H Q=>∃l xs ds y dy j,x=.ref l/\vs=[y]/\SqL K H l xs/\Reps K H xs ds/\Rep K H y dy/\ds.all (okN 29)=true/\okN 30 dy=true/\jK dy ds=some j/\Q (.int j) H
section
variable{X:Cx}{e a b c o:Expr}{es:List Expr}{pos p apos cpos:Pos}{fe fa fb:Dd}
theorem uv(hu:X.A.units+64<cLine):MtR X "list.index" (CK X.K):=by
 intro pz s σ H x vs v us Q I rx rvv h;obtain⟨l,xs,ds,y,dy,j,rfl,rfl,hq,r,ry,ok,oy,hj,q⟩:=h;cases rx;obtain⟨u,rfl,ru⟩:=rvv.one;obtain⟨its,rv,pl,hz⟩:=I.list hq;obtain⟨⟨cls,dd,data,sl⟩,n,ho,hc,hdd,hd⟩:=pl;simp only at hc hd;subst hc hd;obtain⟨⟨d0,j1,j2⟩,j3⟩:=j9 hj;have l1:=r.length;have l2:=rv.length;have hjl:j<ds.length:=(Yh.mp j1).1;have hlt:j<its.toArray.size:=by rw[Yp];omega
 have ok':=bB ok;have at':∀(m:Nat) (hm:m<its.toArray.size) d,ds[m]?=some d->o7 its ds dy its.toArray[m]=eqd d dy:=fun m hm d hd=>kM I r rv ok' (by simp) hd
 refine call_meets PySem.F.slot_list_index ⟨_,ho,rfl⟩ PySem.F.entry_list_index (PySem.F.args_list_index_2 _ _)
  (PySem.SeqAt.list_indexAt l its.toArray n dd sl u (o7 its ds dy) j hlt (by have:=YQ;omega) (by rw[at' j hlt d0 j1];exact j2) fun m hm hmj=>?_) ⟨ho,fun z hz=>nt I r rv ok' ry oy ru (A:=X.A.in1) (by show X.A.units+1+60<cLine;omega) z (by simpa using hz),⟨.int j,H,I.tok _,⟨_,rfl⟩,q⟩⟩
 obtain⟨d,e1,e2⟩:=j3 m hmj;rw[at' m hm d e1];exact e2
theorem ol{ds:List D}{dy:D}{us:List Value}{f:Value->Bool}(hl:us.length=ds.length)(h:∀(i:Nat) u d,us[i]?=some u->ds[i]?=some d->f u=eqd d dy):us.countP f=ds.countP (fun d=>eqd d dy):=by
 induction us generalizing ds with
 |nil=>cases ds with|nil=>rfl|cons _ _=>simp at hl
 |cons u us ih=>
  cases ds with
  |nil=>simp at hl
  |cons d ds=>
   rw[ZU,ZU,ih (by simpa using hl) fun i u d h1 h2=>h (i+1) u d (by simpa using h1) (by simpa using h2),h 0 u d rfl rfl]
def qA:D->D->Option D
 |.lst ds,y=>if(ds.all (okN 29)&&okN 30 y)=true then(jK y ds).map (fun(j:Nat)=>D.int (j:Int))else none
 |_,_=>none
theorem xE{K:Kq}{r:V->List V->Hp->VK->Prop}{f:Dy}{fa fb:Dd}(hl:∀dx dy d,f dx dy=some d->∃ds,dx=.lst ds)
  (ho:∀(P F H:Hp) (l:Addr) (vs:List V) (y:V) (ds:List D) (dy d:D) (Q:VK),f (.lst ds) dy=some d->DHp P F H->SqL K H l vs->Reps K H vs ds->Rep K H y dy->(∀v F' H',Evo P F H F' H'->Rep K F' v d->Q v H')->r (.ref l) [y] H Q) :
  ∀σ H Q,tD K (d2 f fa fb) σ H Q->tBM K "list" r (tN K fa) (ju (tN K fb) nV) σ H Q:=fun σ H Q=>un7 fun P F ρ d hf I k=>by
 unfold d2 at hf;cases ha:fa ρ with
 |none=>rw[ha]at hf;cases hf
 |some dx=>
  rw[ha]at hf;cases hb:fb ρ with
  |none=>rw[Ya,hb]at hf;cases hf
  |some dy=>
   rw[Ya,hb,Ya]at hf;obtain⟨ds,rfl⟩:=hl dx dy d hf;refine⟨P,F,ρ,_,ha,I,fun x F1 H1 e1 rx=>?_⟩;cases rx with
   |lst h1 h2=>
    refine⟨.inl ⟨rfl,_,h1⟩,P,F1,ρ,dy,hb,I.evo e1,fun y F2 H2 e2 ry=>?_⟩;have sm:=e2.same e1.hp;exact ho P F2 H2 _ _ y ds dy d Q hf e2.hp (sm.seq h1) (h2.same sm) ry fun v F3 H3 e3 rv=>k v F3 H3 ((e1.trans e2).trans e3) rv
theorem sO(hu:X.A.units+64<cLine)(ho:PDN X o fa)(ha:PDN X e fb)(hbase:attributeBase o "index" X.env (eval o X.env)=eval o X.env:=by rfl)
  (hfew:((backTo cpos (starEach [e] X.env)).all (fun x=>!x.1)&&(backToKw cpos (keywordEach [] X.env)).all (fun x=>x.1.isSome)
   && decide (([e]:List Expr).length+([]:List Keyword).length+(if([]:List Keyword).isEmpty then 0 else 1)<30))=true:=by rfl)
  (hline:(apos.endLine == cpos.line)=true:=by rfl) (hs:starEach [e] X.env=[(false,eval e X.env)]:=by rfl) :
  PDE X (.Call (.Attribute o "index" apos) [e] [] cpos) (d2 qA fa fb):=
 (f_ Zd PySem.F.slot_list_index PySem.F.type_list_index (uv hu) ho (aE ha bp hs) hbase hfew hline hs rfl).imp (xE (fun dx dy d h=>by cases dx<;>first|exact⟨_,rfl⟩|cases h)
  fun P F H l vs y ds dy d Q hf hp h1 h2 h3 k=>by
   have hf:(if(ds.all (okN 29)&&okN 30 dy)=true then(jK dy ds).map (fun(j:Nat)=>D.int (j:Int))else none)=some d:=hf;split at hf
   ·rename_i c;rw[Yl]at c;cases q:jK dy ds with
    |none=>rw[q]at hf;cases hf
    |some j=>rw[q]at hf;cases hf;exact⟨l,vs,ds,y,dy,j,rfl,rfl,h1,h2,h3,c.1,c.2,q,k _ F H (Evo.refl hp) .int⟩
   ·cases hf)
end
section
variable{X:Cx}{tg e a b c o l:Expr}{es:List Expr}{pos p apos cpos spos:Pos}{fe fa fb fc:Dd}
def l_:D->Option D
 |.int i=>some (.int (-i))
 |_=>none
theorem uX(h:PDE X a fa):PDE X (.UnaryOp .USub a pos) (d1 l_ fa):=(Ar zy h).imp fun σ H Q=>un7 fun P F ρ d hf I k=>by
 unfold d1 at hf;cases q:fa ρ with
 |none=>rw[q]at hf;cases hf
 |some dx=>
  rw[q,Ya]at hf;cases dx with
  |int i=>
   cases hf;refine⟨P,F,ρ,_,q,I,fun v F1 H1 e1 r1=>?_⟩;cases r1;exact⟨i,rfl,k _ F1 H1 e1 .int⟩
  |_=>cases hf
theorem f7{x:Str}{i:Int}{t:Tok}(hg:Gl X x)(hm:X.mg x=some (.int i t))(hd:(x == ("__debug__":Str))=false:=by decide):PDE X (.Name x pos) (fun _=>some (.int i)):=pX (vV hg hm (v:=.int i) ⟨t,rfl⟩ hd) fun _=>.int
def mL:D->D->Option D
 |.int i,.int j=>some (.int (if j<i then j else i))
 |_,_=>none
theorem yb{K:Kq}{r:List V->Hp->VK->Prop}{f:Dy}(ho:OpN2 K (fun x y=>r [x,y]) f):∀σ H Q,tD K (d2 f fa fb) σ H Q->tCB r (ju (tN K fa) (ju (tN K fb) nV)) σ H Q:=fun σ H Q h=>oQ ho σ H Q h
theorem zc{K:Kq}:OpN2 K (fun x y H Q=>∃i j,[x,y]=[V.int i,.int j]/\Q (.int (if j<i then j else i)) H) mL:=by
 intro P F H x y dx dy d Q hf hp rx ry k;unfold mL at hf;split at hf
 ·cases hf;cases rx;cases ry;exact⟨_,_,rfl,k _ F H (Evo.refl hp) .int⟩
 ·cases hf
theorem vp(hc:X.calm=true)(hg:Gl X "min")(hm:X.mg "min"=none)(ha:PDN X a fa)(hb:PDN X b fb)(hs:starEach [a,b] X.env=[(false,eval a X.env),(false,eval b X.env)]:=by rfl)(hs2:starEach [b] X.env=[(false,eval b X.env)]:=by rfl)(hpl:(backTo pos (starEach [b] X.env)).any (·.1)=false:=by rfl) :
  PDE X (.Call (.Name "min" p) [a,b] [] pos) (d2 mL fa fb):=
 (eE (rN hc) hg hm ug (aE ha (aE hb bp hs2) (by rw[hs,hs2])) (by decide) (by decide) (by rw[hs,hs2]) hpl).imp (yb zc)
def l6:D->Bool
 |.bl _=>true
 |_=>false
def trD:D->Bool
 |.bl b=>b
 |_=>false
def nX:D->Option D
 |.lst ds=>if ds.all l6=true then some (.bl (ds.all trD))else none
 |_=>none
def Ch(K:Kq):List V->Hp->VK->Prop:=fun xs H Q=>∃l vs ds,xs=[.ref l]/\SqL K H l vs/\Reps K H vs ds/\ds.all l6=true/\Q (.bl (ds.all trD)) H
theorem cq{ds:List D}:(List.range ds.length).all (fun i=>trD (ds.getD i .non))=ds.all trD:=by
 rw[Xc,Yx,Yx];constructor
 ·intro h d hd;obtain⟨i,hi,e⟩:=XO hd;have:=h i (Zl.mpr hi);rw[Yy,Yg hi,e]at this;exact this
 ·intro h i hi;have hi:=Zl.mp hi;rw[Yy,Yg hi];exact h _ (XG hi)
theorem rZ(hc:X.calm=true):CallR X (.builtin "all") (Ch X.K):=by
 intro pz s σ H xs us Q I r h;obtain⟨l,vs,ds,rfl,hq,hr,hb,q⟩:=h;obtain⟨u,rfl,ru⟩:=eI r;cases ru;obtain⟨its,rv,pl,hz⟩:=I.list hq;have ho:=pl.isList;have l1:=hr.length;have l2:=rv.length;refine call_all_walk (wpAny_pyIter_list ho ?_);have hlt:l<s.heap.objs.size:=by obtain⟨o,e,_⟩:=ho;exact Yq e
 refine⟨s.heap.objs.size,[s.heap.objs.size,l],[s.heap.objs.size],its.toArray.size,_,_,fun i=>trD (ds.getD i .non),rfl,Walks.list (by show X.A.in1.handled=none;exact I.ok.hd hc) s.heap.objs.size l (YG hlt) its.toArray,⟨⟨_,Yo _ rfl,rfl,rfl⟩,ho.at fun o e=>Ye _ e⟩,fun i v s' Q' E' hv hq'=>?_,fun h' tk k=>?_⟩
 ·have hv:its[i]?=some v:=by simpa using hv
  have hi:i<its.length:=(Yh.mp hv).1;have hid:i<ds.length:=by omega
  obtain⟨w',a1,a2⟩:=hr.get (Yg hid);obtain⟨u',a3,a4⟩:=rv.get a1;rw[hv]at a3;cases a3;have hbd:=Yx.mp hb _ (XG hid);have eg:ds.getD i .non=ds[i]:=by rw[Yy,Yg hid];rfl
  have hq':Q' (trD (ds.getD i .non)) s':=hq';rw[eg]at hq';generalize ds[i]=d at *;cases d with
  |bl b=>cases a2;cases(show v=Value.bool _ from a4);exact Zr hq'
  |_=>cases hbd
 ·have e:its.toArray.size=ds.length:=by rw[Yp];omega
  rw[e,cq];refine⟨.bl _,H,I.kept (t':=tk) fun b o e=>k b o (fun z=>?_) (Ye _ e),rfl,q⟩;have z:b=s.heap.objs.size:=by simpa using z
  rw[z]at e;exact absurd (Yq e) (Zb _)
theorem oA(hc:X.calm=true)(hg:Gl X "all")(hm:X.mg "all"=none)(ha:PDN X e fa)(hs:starEach [e] X.env=[(false,eval e X.env)]:=by rfl)(hpl:(backTo pos (starEach [] X.env)).any (·.1)=false:=by rfl) :
  PDE X (.Call (.Name "all" p) [e] [] pos) (d1 nX fa):=
 (eE (rZ hc) hg hm t8 (aE ha bp hs) (by decide) (by decide) hs hpl).imp (n6 fun P F H x dx d Q hf hp rx k=>by
  cases dx with
  |lst ds=>
   have hf:(if ds.all l6=true then some (D.bl (ds.all trD))else none)=some d:=hf;split at hf
   ·rename_i hb;cases hf;cases rx with|lst h1 h2=>exact⟨_,_,ds,rfl,h1,h2,hb,k _ F H (Evo.refl hp) .bl⟩
   ·cases hf
  |_=>cases hf)
def Its(x:Str):It:=⟨fun i _=>i<x.cps.size,fun i H v H'=>H'=H/\v=.str ⟨#[x.cps.getD i 0]⟩,fun i _=>x.cps.size<=i⟩
theorem uO{P:Program}{w:World}{K:Kq}{tg:Expr}(it:Addr)(x:Str)(t:Tok)(ty:String)(hty:["enumerate","zip","dict_itemiterator","dict_reverseitemiterator","odict_iterator","itertools.zip_longest","itertools.pairwise"].contains ty=false)(W:∀A:Around,A.handled=none->Walks P w A it [it] [it] x.cps.size (SignAt x) (fun i h=>h.IsStrIter it ty x t i))
  (hself:∀(A:Around) (i:Nat) (s:Shared) (Q:Kv) (E:Kv),s.heap.IsStrIter it ty x t i->Q (.ref it) s->wpAny (model P w) A (pyIter (.ref it)) Q E s):Turn P w K tg (Its x) [it] it (fun i h=>h.IsStrIter it ty x t i/\i<=x.cps.size) where
 mem:=by simp
 obj:=fun i h st b hb=>by
  have e:b=it:=by simpa using hb
  subst e;obtain⟨⟨o,e,c,d⟩,_⟩:=st;exact⟨o,e,fun v z=>by rw[d]at z;cases z⟩
 keep:=fun i h h' st k=>by obtain⟨⟨o,e,r⟩,hl⟩:=st;exact⟨⟨o,k it (by simp) o e,r⟩,hl⟩
 item:=by
  intro X hP hw hK hc i pz s σ H E I hf st hg;subst hP hw hK;obtain⟨f0,f1,f2,f3,f4,f5⟩:=hf it (by simp);have hg:i<x.cps.size:=hg;refine(W X.A (I.ok.hd hc)).item i s _ _ hg st.1 fun v h' tk hv st' kk=>?_;obtain⟨c,u,hcs,rfl⟩:=hv;have I1:Inv X pz σ H {s with heap:=h',toks:=tk}:=I.turned (fun b o hb e=>kk b o (by simpa using hb) e) f0 f1 f3 f4 f5;obtain⟨o,ho,hoc,hod⟩:=id st';have ec:x.cps.getD i 0=c:=by simp[Xb,hcs]
  refine⟨_,rfl,pw (s:={s with heap:=h',toks:=tk}) (n:=ty) ho hoc hod hty ⟨.str ⟨#[c]⟩,H,I1,⟨u,rfl⟩,⟨rfl,by rw[ec]⟩,⟨st',hg⟩,fun b hb=>(hf b hb).1⟩⟩
 done:=by intro X hP hw hK hc i pz s σ H E I hf st hg;subst hP hw hK;obtain⟨f0,f1,f2,f3,f4,f5⟩:=hf it (by simp);have hg:x.cps.size<=i:=hg;have hi:i=x.cps.size:=Zh st.2 hg;subst hi;exact(W X.A (I.ok.hd hc)).done s _ _ st.1 fun h' tk kk=>⟨rfl,I.turned (fun b o hb e=>kk b o (by simpa using hb) e) f0 f1 f3 f4 f5⟩
 self:=fun A i s Q E st h=>hself A i s Q E st.1 h
def Ck(tl:TE):TI:=fun σ H R=>tl σ H fun x H1=>∃z,x=.str z/\R (Its z) H1
theorem zH{tl:TE}(hl:PE X l tl):PI X tg l (Ck tl):=by
 intro pz s σ H R I h;refine bn (hl pz s σ H _ I h) fun v s1 x H1 I1 r1 hh_=>?_;obtain⟨z,e,q⟩:=hh_;subst e;obtain⟨t,rfl⟩:=r1;have fin:∀(ob:Obj) (ty:String),["enumerate","zip","dict_itemiterator","dict_reverseitemiterator","odict_iterator","itertools.zip_longest","itertools.pairwise"].contains ty=false->(∀A:Around,A.handled=none->Walks X.prog X.w A s1.heap.objs.size [s1.heap.objs.size] [s1.heap.objs.size] z.cps.size (SignAt z) (fun i h=>h.IsStrIter s1.heap.objs.size ty z t i))->
   (∀(A:Around) (i:Nat) (s:Shared) (Q:Kv) (E:Kv),s.heap.IsStrIter s1.heap.objs.size ty z t i->Q (.ref s1.heap.objs.size) s->wpAny (model X.prog X.w) A (pyIter (.ref s1.heap.objs.size)) Q E s)->
   (s1.heap.push ob).IsStrIter s1.heap.objs.size ty z t 0->PIE X pz σ tg R (.ref s1.heap.objs.size) {s1 with heap:=s1.heap.push ob}:=fun ob ty h1 h2 h3 h4=>by
  refine⟨s1.heap.objs.size,[s1.heap.objs.size],_,_,H1,rfl,I1.kept (t':=s1.toks) fun b o e=>Ye _ e,uO _ z t ty h1 h2 h3,⟨h4,YT _⟩,fun b hb=>?_,q⟩;have e:b=s1.heap.objs.size:=by simpa using hb
  subst e;exact I1.fpOk (Ym _) (I1.hok.fresh (Ym _))
 cases ha:z.cps.all (· < 128)
 ·exact wpAny_pyIter_wide ha (fin _ "str_iterator" (by decide) (fun A' hA=>Walks.strWide hA _ z t) (fun A i s Q E st h=>wpAny_pyIter_striter_wide st h) ⟨_,Yo _ rfl,rfl,rfl⟩)
 ·exact wpAny_pyIter_ascii ha (fin _ "str_ascii_iterator" (by decide) (fun A' hA=>Walks.strAscii hA _ z t) (fun A i s Q E st h=>wpAny_pyIter_striter_ascii st h) ⟨_,Yo _ rfl,rfl,rfl⟩)
def signs(x:Str):List D:=x.cps.toList.map fun c=>.str ⟨#[c]⟩
def mG(f:Dd):DF->Option (List D):=fun ρ=>match f ρ with
 |some (.str x)=>some (signs x)
 |_=>none
theorem vh(h:PDE X l fa):PDI X tg l (mG fa):=PI.imp (zH h) fun σ H R=>un7 fun P F ρ ds hf I k=>by
 unfold mG at hf;split at hf
 ·rename_i x q;cases hf;refine⟨P,F,ρ,_,q,I,fun v F1 H1 e1 r1=>?_⟩;cases r1;refine⟨x,rfl,k _ F1 H1 e1 fun F' H' e hp i=>⟨fun d hd=>?_,fun hl=>?_⟩⟩
  ·unfold signs at hd;rw[Yw]at hd;cases qc:x.cps.toList[i]? with
   |none=>rw[qc]at hd;cases hd
   |some c=>
    rw[qc]at hd;cases hd;have hi:i<x.cps.size:=by have:=(Yh.mp qc).1;simpa using this
    refine⟨hi,fun y H2 hy=>?_⟩;obtain⟨rfl,rfl⟩:=hy;have ec:x.cps.getD i 0=c:=by
     have:x.cps[i]?=some c:=by rw[<-XB];exact qc
     simp[Xb,this]
    rw[ec];exact⟨F',Evo.refl hp,.str⟩
  ·unfold signs at hl;rw[Yb,Zs]at hl;exact hl
 ·cases hf
def sR:D->Bool
 |.str _=>true
 |_=>false
def txt:D->Str
 |.str x=>x
 |_=>⟨#[]⟩
def lg(x:Str)(ds:List D):Bool:=ds.all sR&&decide (((ds.map txt).map (·.length)).sum+(ds.map txt).length*x.length<=16777216)
def tp:D->D->Option D
 |.str x,.lst ds=>if lg x ds=true then some (.str (Txt.join x (ds.map txt)))else none
 |_,_=>none
def Ax(K:Kq):V->List V->Hp->VK->Prop:=fun x vs H Q=>∃z l xs ds,x=.str z/\vs=[.ref l]/\SqL K H l xs/\Reps K H xs ds/\lg z ds=true/\Q (.str (Txt.join z (ds.map txt))) H
theorem sv{K:Kq}{H:Hp}{vs:List V}{ds:List D}{us:List Value}(h:Reps K H vs ds):Vals vs us->ds.all sR=true->StrsAre us (ds.map txt):=
 Reps.ind (M:=fun vs ds=>∀us:List Value,Vals vs us->ds.all sR=true->StrsAre us (ds.map txt)) (fun us r _=>by cases r;exact .nil) (fun{v d vs ds} h _ ih us r0 ha=>by
  cases r0 with
  |cons r t=>
   rw[List.all_cons,Yl]at ha;cases d with
   |str x=>
    cases h;obtain⟨tk,rfl⟩:=(show ∃t,_=Value.str _ t from r)
    exact .cons _ _ (ih _ t ha.2)
   |_=>cases ha.1) h us
theorem vw:MtR X "str.join" (Ax X.K):=by intro pz s σ H x vs v us Q I rx rvv h;obtain⟨z,l,xs,ds,rfl,rfl,hq,r,ok,q⟩:=h;obtain⟨t,rfl⟩:=rx;obtain⟨u,rfl,ru⟩:=rvv.one;cases ru;obtain⟨its,rv,pl,hz⟩:=I.list hq;unfold lg at ok;rw[Yl,YJ]at ok;exact join_list pl.isList (sv r (by simpa using rv) ok.1) ok.2 fun t' k=>⟨.str _,H,I.tok _,⟨_,rfl⟩,q⟩
theorem ve(ho:PDN X o fa)(ha:PDN X e fb)(hbase:attributeBase o "join" X.env (eval o X.env)=eval o X.env:=by rfl)
  (hfew:((backTo cpos (starEach [e] X.env)).all (fun x=>!x.1)&&(backToKw cpos (keywordEach [] X.env)).all (fun x=>x.1.isSome)
   && decide (([e]:List Expr).length+([]:List Keyword).length+(if([]:List Keyword).isEmpty then 0 else 1)<30))=true:=by rfl)
  (hline:(apos.endLine == cpos.line)=true:=by rfl) (hs:starEach [e] X.env=[(false,eval e X.env)]:=by rfl) :
  PDE X (.Call (.Attribute o "join" apos) [e] [] cpos) (d2 tp fa fb):=
 (f_ PySem.F.plainAttrs_str PySem.F.slot_str_join PySem.F.type_str_join vw ho (aE ha bp hs) hbase hfew hline hs rfl).imp fun σ H Q=>un7 fun P F ρ d hf I k=>by
  unfold d2 at hf;cases ha:fa ρ with
  |none=>rw[ha]at hf;cases hf
  |some dx=>
   cases hb:fb ρ with
   |none=>rw[ha,Ya,hb]at hf;cases hf
   |some dy=>
    rw[ha,Ya,hb,Ya]at hf;cases dx with
    |str x=>
     cases dy with
     |lst ds=>
      have hf:(if lg x ds=true then some (D.str (Txt.join x (ds.map txt)))else none)=some d:=hf;split at hf
      ·rename_i ok;cases hf;refine⟨P,F,ρ,_,ha,I,fun v F1 H1 e1 rx=>?_⟩;cases rx;refine⟨rfl,P,F1,ρ,_,hb,I.evo e1,fun y F2 H2 e2 ry=>?_⟩;cases ry with
       |lst h1 h2=>exact⟨x,_,_,ds,rfl,rfl,h1,h2,ok,k _ F2 H2 (e1.trans e2) .str⟩
      ·cases hf
     |_=>cases hf
    |_=>cases hf
end
section
variable{X:Cx}{tg e a b c o l r:Expr}{es:List Expr}{pos p p' apos cpos spos apos' cpos':Pos}{f fe fa fb fc:Dd}
theorem rh:CallR X (.type "range") (fun xs H Q=>∃j:Int,xs=[.int j]/\∀q,H q=none->Q (.ref q) (upd H q (.rng 0 j))):=by intro pz s σ H xs us Q I r h;obtain⟨j,rfl,q⟩:=h;obtain⟨u,rfl,t,rfl⟩:=eI r;exact call_range_1 ⟨.ref s.heap.objs.size,_,I.laid (o:=.rng 0 j) (fun b ob z=>Ye _ z) (Ym _) ⟨_,_,_,Yo _ rfl⟩,rfl,q _ (I.hok.fresh (Ym _))⟩
def ub(lo:Int)(n:Nat):List V:=(List.range n).map fun i:Nat=>.int (lo+(i:Int))
theorem jT(hc:X.calm=true):CallR X (.type "list") (fun xs H Q=>∃(q:Addr) (lo hi:Int),xs=[.ref q]/\H q=some (.rng lo hi)/\(-(2^62)<=lo/\lo<2^62/\-(2^62)<=hi/\hi<2^62)/\(hi-lo).toNat<=16777216/\∀l,H l=none->Q (.ref l) (upd H l (.lst (ub lo (hi-lo).toNat)))):=by
 intro pz s σ H xs us Q I r h;obtain⟨q,lo,hi,rfl,hq,⟨h1,h2,h3,h4⟩,hn,k⟩:=h;obtain⟨u,rfl,ru⟩:=eI r;cases ru;obtain⟨t,u,v,ho⟩:=I.hok q _ hq;have hsz:Builtin.Range.rangeSize lo hi 1=((hi-lo).toNat:Int):=by rw[rangeSize_one];split<;>omega
 refine call_list_range (I.ok.hd hc) (n:=(hi-lo).toNat) ho (small_one h1 h2 h3 h4) hsz (by omega) fun h' tk acc' c' kp hget hit=>?_;refine⟨.ref s.heap.objs.size,_,I.laid (t':=tk) (o:=.lst (ub lo (hi-lo).toNat)) kp (Ym _) ⟨?_,acc'.toList,c',?_,?_⟩,rfl,k _ (I.hok.fresh (Ym _))⟩
 ·unfold ub;rw[Yb,Xf,YQ];exact hn
 ·obtain⟨hs,hv⟩:=hit;have key:∀(n:Nat) (lo:Int) (vs:List Value),vs.length=n->(∀(j:Nat) v,vs[j]?=some v->∃t,v=Value.int (lo+(j:Int)) t)->Vals ((List.range n).map fun i:Nat=>V.int (lo+(i:Int))) vs:=by
   intro n;induction n with
   |zero=>intro lo vs hl _;rw[ZB.mp hl];exact .nil
   |succ n ih=>
    intro lo vs hl hv;cases vs with
    |nil=>simp at hl
    |cons v vs=>
     rw[List.range_succ_eq_map,YM,ZM];refine .cons ?_ ?_
     ·obtain⟨t,e⟩:=hv 0 v rfl;exact⟨t,e⟩
     ·have:=ih (lo+1) vs (by simpa using hl) fun j w hw=>by
       obtain⟨t,e⟩:=hv (j+1) w (by simpa using hw);exact⟨t,by rw[e];congr 1;push_cast;omega⟩
      have ef:((fun i:Nat=>V.int (lo+(i:Int))) ∘ Nat.succ)=fun i:Nat=>V.int (lo+1+(i:Int)):=by
       funext i;show V.int (lo+((i+1:Nat):Int))=_
       congr 1;push_cast;omega
      rw[ef];exact this
  refine key _ lo _ (by simpa using hs) fun j v hj=>?_;obtain⟨t,e⟩:=hv j v (by rw[<-XB];exact hj);exact⟨t,by rw[e];congr 1;omega⟩
 ·simpa using hget
theorem rJ{K:Kq}{F:Hp}(lo:Int)(n:Nat):Reps K F (ub lo n) (cm lo n):=by
 unfold ub cm;generalize List.range n=l;induction l with
 |nil=>exact .nil
 |cons i l ih=>exact .cons .int ih
def pi(f:Dd):DF->Option (List D):=fun ρ=>match f ρ with
 |some (.int j)=>if j<16777216/\-(2^62)<=j then some (cm 0 j.toNat)else none
 |_=>none
theorem jO(hc:X.calm=true)(hg:Gl X "list")(hm:X.mg "list"=none)(hg2:Gl X "range")(hm2:X.mg "range"=none)(ha:PDE X a fa)(hs0:starEach [a] X.env=[(false,eval a X.env)]:=by rfl)
  (hs:starEach [.Call (.Name "range" p') [a] [] cpos] X.env=[(false,eval (.Call (.Name "range" p') [a] [] cpos) X.env)]:=by rfl):PDO X (.Call (.Name "list" p) [.Call (.Name "range" p') [a] [] cpos] [] pos) (asL (pi fa)):=
 (dG (jT hc) hg hm boot_list (aE (dG rh hg2 hm2 boot_range (aE ha bp hs0) (he:=hs0)) bp hs) (he:=hs)).imp fun σ H Q=>un7 fun P F ρ ob hf I k=>by
  unfold asL pi at hf;cases q:fa ρ with
  |none=>rw[q]at hf;cases hf
  |some dx=>
   rw[q]at hf;cases dx with
   |int j=>
    dsimp only at hf;split at hf
    ·rename_i hj;cases hf;refine⟨P,F,ρ,_,q,I,fun v F1 H1 e1 r1=>?_⟩;cases r1;refine⟨j,rfl,fun q1 hq1=>⟨q1,0,j,rfl,aR,⟨by omega,by omega,hj.2,by omega⟩,by omega,fun l hl=>?_⟩⟩;have e2:=e1.trans (Evo.side e1.hp (o:=.rng 0 j) hq1);have ej:(j-0).toNat=j.toNat:=by omega
     rw[ej];exact k l F1 _ (e2.trans (Evo.side e2.hp hl)) ⟨⟨e2.back I.toDHp hl,(e2.hp.free hl).1⟩,_,aR,rJ 0 _⟩
    ·cases hf
   |_=>cases hf
def jP(i:Nat)(g:Dl):DF->Option RES:=fun ρ=>match ρ[i]? with
 |some (some (.own (.lst ds) t))=>(g ρ).bind fun es=>if ds.length+es.length<=16777216 then some (.nx (ρ.set i (some (.own (.lst (ds++es)) t))))else none
 |_=>none
theorem j5(i:Nat){g:Dl}(h:PE X o (cG i))(ha:PDO X e (asL g))(hbase:attributeBase o "extend" X.env (eval o X.env)=eval o X.env:=by rfl)
  (hfew:((backTo cpos (starEach [e] X.env)).all (fun x=>!x.1)&&(backToKw cpos (keywordEach [] X.env)).all (fun x=>x.1.isSome)
   && decide (([e]:List Expr).length+([]:List Keyword).length+(if([]:List Keyword).isEmpty then 0 else 1)<30))=true:=by rfl)
  (hline:(apos.endLine == cpos.line)=true:=by rfl) (hs:starEach [e] X.env=[(false,eval e X.env)]:=by rfl) (hsw:swapsWith (.Call (.Attribute o "extend" apos) [e] [] cpos) none pos.line X.env=pure false:=by rfl) :
  PD1 X (.Expr (.Call (.Attribute o "extend" apos) [e] [] cpos) pos) (jP i g):=
 PS.imp (cK (f_ Zd PySem.F.slot_list_extend PySem.F.type_list_extend qD h (aE ha bp hs) hbase hfew hline hs rfl) hsw) fun E σ H=>un7 fun P F ρ r hr I k=>by
  unfold jP at hr;split at hr
  ·rename_i ds t q;cases q2:g ρ with
   |none=>rw[q2]at hr;cases hr
   |some es'=>
    rw[q2,Ya]at hr;split at hr
    ·rename_i hl;cases hr;obtain⟨a,vs,h1,h2,h3,h4,h5⟩:=gK I q;refine⟨_,h1,.inl ⟨rfl,vs,SqL.of h4⟩,P,F,ρ,.lst es',by unfold asL;rw[q2];rfl,I,fun b F1 H1 e1 ho=>?_⟩;obtain⟨⟨n1,n2⟩,u,u1,u2⟩:=ho;cases u with
     |lst ws=>
      have u2:Reps X.K F1 ws es':=u2;obtain⟨k1,k2⟩:=e1.keep a _ h4 h2;have I1:=I.evo e1;refine⟨a,b,vs,ws,rfl,rfl,k1,u1,by rw[YQ,h5.length,u2.length];exact hl,k σ F1 _ e1.ext ?_⟩;exact I1.mut (o':=.lst _) (u:=.lst _) q rfl rfl h1 ((h5.same e1.ext).append u2)
     |_=>exact u2.elim
    ·cases hr
  ·cases hr
def mo(n:Nat):D->Option Nat
 |.int k=>if -(2^63)<=k/\k<2^63 then seqIndex? k n else none
 |_=>none
def oZ(j:Nat)(f:Dd):DF->Option (DF×D):=fun ρ=>match ρ[j]? with
 |some (some (.own (.lst ds) t))=>(f ρ).bind fun dk=>(mo ds.length dk).bind fun k=>(ds[k]?).map fun d=>(ρ.set j (some (.own (.lst (ds.eraseIdx k)) t)),d)
 |_=>none
theorem wu{K:Kq}{j:Nat}{f:Dd}{σ:St}{H:Hp}{Q:VK}{P F:Hp}{ρ ρ':DF}{d:D}(hp:oZ j f ρ=some (ρ',d))(I:DInv K P F H ρ σ)(k:∀v F' H',Same F F'->DInv K P F' H' ρ' σ->Rep K F' v d->Q v H') :
  tBM K "list" ua (cG j) (ju (tD K f) nV) σ H Q:=by
 unfold oZ at hp;split at hp
 ·rename_i ds t q;cases q2:f ρ with
  |none=>rw[q2]at hp;cases hp
  |some dk=>
   rw[q2,Ya]at hp;cases q3:mo ds.length dk with
   |none=>rw[q3]at hp;cases hp
   |some kk=>
    rw[q3,Ya]at hp;cases q4:ds[kk]? with
    |none=>rw[q4]at hp;cases hp
    |some d'=>
     rw[q4]at hp;cases hp;cases dk with
     |int i=>
      have q3':(if -(2^63)<=i/\i<2^63 then seqIndex? i ds.length else none)=some kk:=q3;split at q3'
      ·rename_i hb;obtain⟨a,vs,h1,h2,h3,h4,h5⟩:=gK I q;refine⟨_,h1,.inl ⟨rfl,vs,SqL.of h4⟩,P,F,ρ,_,q2,I,fun v F1 H1 e1 r1=>?_⟩;cases r1;obtain⟨k1,k2⟩:=e1.keep a _ h4 h2;have r5:=h5.same e1.ext;obtain⟨y,y1,y2⟩:=r5.get q4;refine⟨a,vs,i,kk,y,rfl,rfl,k1,hb.1,hb.2,by rw[h5.length];exact q3',y1,?_⟩;exact k y F1 _ e1.ext ((I.evo e1).mut (o':=.lst _) (u:=.lst _) q rfl rfl h1 (r5.eraseIdx kk)) y2
      ·cases q3'
     |_=>cases q3
 ·cases hp
def eW(i j:Nat)(f:Dd):DF->Option RES:=fun ρ=>(oZ j f ρ).bind fun r=>match r.1[i]? with
 |some (some (.own (.lst ds) t))=>if i≠j/\ds.length<16777216 then some (.nx (r.1.set i (some (.own (.lst (ds++[r.2])) t))))else none
 |_=>none
theorem rW(i j:Nat)(ho:PE X o (cG i))(hr:PE X r (cG j))(ha:PDE X e f)(hbase:attributeBase o "append" X.env (eval o X.env)=eval o X.env:=by rfl)(hbase':attributeBase r "pop" X.env (eval r X.env)=eval r X.env:=by rfl)
  (hfew':((backTo cpos' (starEach [e] X.env)).all (fun x=>!x.1)&&(backToKw cpos' (keywordEach [] X.env)).all (fun x=>x.1.isSome)
   && decide (([e]:List Expr).length+([]:List Keyword).length+(if([]:List Keyword).isEmpty then 0 else 1)<30))=true:=by rfl)
  (hfew:((backTo cpos (starEach [.Call (.Attribute r "pop" apos') [e] [] cpos'] X.env)).all (fun x=>!x.1)&&(backToKw cpos (keywordEach [] X.env)).all (fun x=>x.1.isSome)
   && decide (([.Call (.Attribute r "pop" apos') [e] [] cpos']:List Expr).length+([]:List Keyword).length+(if([]:List Keyword).isEmpty then 0 else 1)<30))=true:=by rfl)
  (hline:(apos.endLine == cpos.line)=true:=by rfl) (hline':(apos'.endLine == cpos'.line)=true:=by rfl) (hs':starEach [e] X.env=[(false,eval e X.env)]:=by rfl)
  (hs:starEach [.Call (.Attribute r "pop" apos') [e] [] cpos'] X.env=[(false,eval (.Call (.Attribute r "pop" apos') [e] [] cpos') X.env)]:=by rfl) (hsw:swapsWith (.Call (.Attribute o "append" apos) [.Call (.Attribute r "pop" apos') [e] [] cpos'] [] cpos) none pos.line X.env=pure false:=by rfl) :
  PD1 X (.Expr (.Call (.Attribute o "append" apos) [.Call (.Attribute r "pop" apos') [e] [] cpos'] [] cpos) pos) (eW i j f):=
 PS.imp (cK (f_ Zd Zx Zy da ho (aE (f_ Zd PySem.F.slot_list_pop PySem.F.type_list_pop tE hr (aE ha bp hs') hbase' hfew' hline' hs' rfl) bp hs) hbase hfew hline hs rfl) hsw) fun E σ H=>un7 fun P F ρ res hres I k=>by
  unfold eW at hres;cases q:oZ j f ρ with
  |none=>rw[q]at hres;cases hres
  |some pr=>
   rw[q,Ya]at hres;split at hres
   ·rename_i ds t qi;split at hres
    ·rename_i hc;cases hres
     -- the i-th slot is not touched by the pop
     have qi0:ρ[i]?=some (some (.own (.lst ds) t)):=by
      have q':=q;unfold oZ at q';split at q'
      ·rename_i ds' t' qj;cases z1:f ρ with
       |none=>rw[z1]at q';cases q'
       |some dk=>
        rw[z1,Ya]at q';cases z2:mo ds'.length dk with
        |none=>rw[z2]at q';cases q'
        |some kk=>
         rw[z2,Ya]at q';cases z3:ds'[kk]? with
         |none=>rw[z3]at q';cases q'
         |some d'=>
          rw[z3]at q';cases q';rw[YZ (fun z=>hc.1 z.symm)]at qi;exact qi
      ·cases q'
     obtain⟨a,vs,h1,h2,h3,h4,h5⟩:=gK I qi0;refine⟨_,h1,.inl ⟨rfl,vs,SqL.of h4⟩,?_⟩;refine wu q I fun v F' H' e I' rv=>?_;obtain⟨a',vs',g1,g2,g3,g4,g5⟩:=gK I' qi;rw[h1]at g1;cases g1;refine⟨a,vs',v,rfl,rfl,g4,by rw[YQ,g5.length];exact hc.2,k σ F' _ e ?_⟩;exact I'.mut (o':=.lst _) (u:=.lst _) qi rfl rfl h1 (g5.append (.one rv))
    ·cases hres
   ·cases hres
end
section
variable{X:Cx}{tg a b c o i e f:Expr}{pos pos' apos cpos p:Pos}{fd fk fx fv fa fb fc:Dd}
end
theorem Room.h64{k:Nat}{A:Around}(r:Room k A):A.units+64<cLine:=by have:=r.un;omega
def zS(sc0 scope:Scope):Bool:=scope.kind == .function&&(scope.names.map (·.1)).Nodup&&(scope.names.all fun x=>x.2 != .free||(sc0.names.lookup x.1 == some .cell||sc0.names.lookup x.1 == some .free))
theorem cY{X:Cx}{scope:Scope}(sc0:Scope)(e:X.env.scope=sc0)(h:zS sc0 scope=true):BlkScope X scope:=by
 unfold zS at h;simp only[Yl,YJ]at h;obtain⟨⟨h1,h2⟩,h3⟩:=h;refine⟨by simpa using h1,h2,fun x hx hk=>?_⟩;have:=Yx.mp h3 x hx;rw[hk]at this;have e2:X.env.kindOf x.1=sc0.names.lookup x.1:=by show X.env.scope.names.lookup x.1=_;rw[e]
 rw[e2];simpa using this
def BI(N0:List Str)(scope:Scope)(N:List Str)(own:Nat)(ix:List Nat):Bool:=
 decide (N.length=own+ix.length)&&(List.range ix.length).all fun i=>match N[own+i]?,ix[i]? with
  |some x,some j=>N0[j]? == some x&&scope.names.lookup x == some .free
  |_,_=>true
theorem cZ{X:Cx}{scope:Scope}{N:List Str}{own:Nat}{ix:List Nat}(N0:List Str)(e:X.N=N0)(h:BI N0 scope N own ix=true):Caps X scope N own ix:=by unfold BI at h;rw[Yl,YJ]at h;refine⟨h.1,fun i j x h1 h2=>?_⟩;have hi:i<ix.length:=(Yh.mp h2).1;have:=Yx.mp h.2 i (Zl.mpr hi);rw[h1,h2]at this;simp only[Yl,Xo]at this;rw[e];exact this
section
variable{X:Cx}
theorem dm:jQ X [] (tB' X.K bC):=fun pz s σ H Q I hh_=>by
 obtain⟨P,F,ρ,b,hf,J,k⟩:=hh_;cases hf;exact uR pz s σ H Q I (k F H (Evo.refl J.toDHp))
theorem wU{c:Expr}{f:Dk}(h:PDT X c f):jQ X [c] (tB' X.K f):=tY h
end
theorem b_{is:List Nat}{own:Nat}(h:(is.all fun j=>decide (j<own))=true):∀j∈is,j<own:=fun j m=>Zj (Yx.mp h j m)
theorem vJ{K:Kq}{f:Do}:∀σ H Q,tD K (asO f) σ H Q->tO K f σ H Q:=fun σ H Q=>un7 fun P F ρ d hf I k=>by
 unfold asO at hf;cases q:f ρ with
 |none=>rw[q]at hf;cases hf
 |some o=>
  rw[q]at hf;cases hf;refine⟨P,F,ρ,o,q,I,fun a F' H' ev ho=>?_⟩;exact k (.ref a) _ H' (ev.freeze I.toDHp (fun b=>H b=none/\F' b=none) fun _ q=>q) (ho.rep (bS fun b q=>q.2) fun b u q hb=>by rw[de q];exact hb)
section
variable{X:Cx}{tg iter elt:Expr}{ifs:List Expr}{scope:Scope}{pos:Pos}{N:List Str}{own:Nat}{ix is:List Nat}{f:Dl}{st:Dq}{c:Dk}{e:Dd}
theorem mh{i:Nat}{y:Str}{py spos:Pos}(hN:X.N.Nodup)(hiN:X.N[i]?=some y)(hx:Loc X.env.scope y)(hcalm:X.calm=true)(b:BlkScope X scope)(cp:Caps X scope N own ix)(his:∀j∈is,j<own)(hi:PDI X tg iter f)
  (hg:∀s H fp pz,PDG (blk X scope N s H fp pz) tg is st) (hc:∀s H fp pz,jQ (blk X scope N s H fp pz) ifs (tB' X.K c)) (he:∀s H fp pz,PDE (blk X scope N s H fp pz) elt e)
  (hnames:∀y∈scope.names,y.2=.local->scope.names.lookup y.1=some .local)
  (hsw:swapsWith (.ListComp elt [⟨tg,iter,ifs,0⟩] scope pos) (some (.Name y py)) spos.line X.env=pure true:=by rfl)
  (hs:∀x,foldedSetIterable iter X.env x=pure x:=by intro _;rfl)
  (hf:X.fn y=true\/X.env.scope.names.lookup y=some .local:=by first|exact .inl rfl|exact .inr rfl|assumption) :
  PD1 X (.Assign [.Name y py] (.ListComp elt [⟨tg,iter,ifs,0⟩] scope pos) spos) (bt i (asL (aS own ix f st c e))):=
 PS.imp (jt (g:=tG X.K is st) (tc:=tB' X.K c) (te:=tD X.K e) hcalm hN hiN hx b cp hi hg hc he hsw hnames hs hf) fun E σ H q=>lE his σ H _ (sP E σ H q)
theorem fy{i:Nat}{y:Str}{py spos:Pos}(hN:X.N.Nodup)(hiN:X.N[i]?=some y)(hx:Loc X.env.scope y)(hcalm:X.calm=true)(b:BlkScope X scope)(cp:Caps X scope N own ix)(his:∀j∈is,j<own)(hi:PDI X tg iter f)
  (hg:∀s H fp pz,PDG (blk X scope N s H fp pz) tg is st) (hc:∀s H fp pz,jQ (blk X scope N s H fp pz) ifs (tB' X.K c)) (he:∀s H fp pz,PDE (blk X scope N s H fp pz) elt e)
  (hnames:∀y∈scope.names,y.2=.local->scope.names.lookup y.1=some .local)
  (hsw:swapsWith (.ListComp elt [⟨tg,iter,ifs,0⟩] scope pos) (some (.Name y py)) spos.line X.env=pure true:=by rfl)
  (hs:∀x,foldedSetIterable iter X.env x=pure x:=by intro _;rfl)
  (hf:X.fn y=true\/X.env.scope.names.lookup y=some .local:=by first|exact .inl rfl|exact .inr rfl|assumption) :
  PD1 X (.Assign [.Name y py] (.ListComp elt [⟨tg,iter,ifs,0⟩] scope pos) spos) (aw i (asO (asL (aS own ix f st c e)))):=
 PS.imp (jt (g:=tG X.K is st) (tc:=tB' X.K c) (te:=tD X.K e) hcalm hN hiN hx b cp hi hg hc he hsw hnames hs hf) fun E σ H q=>lE his σ H _ (vJ σ H _ (sn E σ H q))
end
def AJ(n p:Nat)(g:Dw)(o:OD)(xs:List DV)(q:OD×D):Prop:=xs.length+1=p/\q.1.flat=true/\∀a,∃r,g (aQ n p (.own o (some a)::xs))=some r/\kd a q.1 q.2 r
noncomputable def qZ (n p:Nat)(g:Dw)(o:OD)(xs:List DV):Option (OD×D):=
 open Classical in if h:∃q,AJ n p g o xs q then some h.choose else none
theorem pC{n p:Nat}{g:Dw}:∀a o xs o' d,qZ n p g o xs=some (o',d)->xs.length+1=p/\o'.flat=true/\∃r,g (aQ n p (.own o (some a)::xs))=some r/\kd a o' d r:=by
 intro a o xs o' d h;unfold qZ at h;split at h
 ·rename_i hq;obtain⟨h1,h2,h3⟩:=hq.choose_spec;rw[Yr h]at h2 h3;exact⟨h1,h2,h3 a⟩
 ·cases h
theorem qW{a:Addr}{o o':OD}{d d':D}{r:RES}(h:kd a o d r)(h':kd a o' d' r):(o,d)=(o',d'):=by
 cases r with
 |nx ρ=>obtain⟨h1,h2⟩:=h;obtain⟨h3,h4⟩:=h';rw[h1]at h3;cases h3;rw[h2,h4]
 |rt x ρ=>obtain⟨h1,h2⟩:=h;obtain⟨h3,h4⟩:=h';rw[h2]at h4;cases h4;rw[h1]at h3;cases h3;rfl
 |bk ρ=>cases h
 |ct ρ=>cases h
theorem pF{n p:Nat}{g:Dw}{o:OD}{xs:List DV}{o':OD}{d:D}(hl:xs.length+1=p)(hf:o'.flat=true)(h:∀a,∃r,g (aQ n p (.own o (some a)::xs))=some r/\kd a o' d r):qZ n p g o xs=some (o',d):=by
 have hq:∃q,AJ n p g o xs q:=⟨(o',d),hl,hf,h⟩
 unfold qZ;rw[dif_pos hq];obtain⟨_,_,h3⟩:=hq.choose_spec;obtain⟨r,e,q⟩:=h3 0;obtain⟨r',e',q'⟩:=h 0;rw[e']at e;cases e;exact Zi some (qW q q')
theorem All2.get{α β:Type}{R:α->β->Prop}{as:List α}{bs:List β}(h:All2 R as bs){j:Nat}{d:β}(e:bs[j]?=some d):∃a,as[j]?=some a/\R a d:=by
 induction h generalizing j with
 |nil=>exact nomatch e
 |cons q _ ih=>
  cases j with
  |zero=>obtain rfl:=Yr e;exact⟨_,rfl,q⟩
  |succ j=>exact ih e
theorem All2.impM{α β:Type}{R S:α->β->Prop}{as:List α}{bs:List β}(h:All2 R as bs)(f:∀a b,a∈as->R a b->S a b):All2 S as bs:=by
 induction h with
 |nil=>exact .nil
 |cons q _ ih=>exact .cons (f _ _ Yf q) (ih fun a b m=>f a b (Yc _ m))
theorem All2.set{α β:Type}{R S:α->β->Prop}{as:List α}{bs:List β}(h:All2 R as bs){j:Nat}{a:α}{d:β}(nd:as.Nodup)(ea:as[j]?=some a)(hS:S a d)(hR:∀b x,b≠a->R b x->S b x):All2 S as (bs.set j d):=by
 induction h generalizing j with
 |nil=>exact nomatch ea
 |@cons a' b' as' bs' q r ih=>
  obtain⟨n1,n2⟩:=Zp.mp nd;cases j with
  |zero=>
   obtain rfl:=Yr ea;exact .cons hS (r.impM fun b x hb=>hR b x fun z=>by subst z;exact n1 hb)
  |succ j=>
   have:a'≠a:=fun z=>by subst z;exact n1 (Yv ea)
   exact .cons (hR _ _ this q) (ih n2 ea)
def dJ(i j:Nat)(ρ:DF):Option D:=match ρ[i]? with
 |some (some (.own (.tup2 dss) _))=>(dss[j]?).map .lst
 |some (some (.bor (.tup2 dss)))=>(dss[j]?).map .lst
 |some (some (.v (.tup ds)))=>ds[j]?
 |_=>none
section
variable{X:Cx}{e:Expr}{pos:Pos}
theorem DInv.nest{K:Kq}{P F H:Hp}{ρ:DF}{σ:St}(I:DInv K P F H ρ σ){i j:Nat}{dss:List (List D)}{ds:List D}(q:(∃t,ρ[i]?=some (some (.own (.tup2 dss) t)))\/ρ[i]?=some (some (.bor (.tup2 dss))))(hj:dss[j]?=some ds):∃(a:Addr) (bs:List Addr) (b:Addr) (u:HO),σ[i]?=some (some (.ref a))/\H a=some (.tup (bs.map .ref))/\bs[j]?=some b/\F b=none/\H b=some u/\ORep1 K F (.lst ds) u:=by
 have hs:∃v,σ[i]?=some (some v):=by
  rcases q with⟨t,q⟩|q
  ·obtain⟨v,h1,_⟩:=I.at q;exact⟨v,h1⟩
  ·obtain⟨v,h1,_⟩:=I.at q;exact⟨v,h1⟩
 obtain⟨v,hv⟩:=hs;obtain⟨a,rfl,h2,bs,h3,h4,h5⟩:=I.slot hv q;obtain⟨b,h6,h7,u,h8,h9⟩:=h5.get hj;exact⟨a,bs,b,u,hv,h3,h6,h7,h8,h9⟩
theorem ij(i j:Nat){k p}(h:PE X e (cG i))(hs:iw (.Constant (.int (j:Int)) k p):=by exact fun _ _=>rfl):PDR X (.Subscript e (.Constant (.int (j:Int)) k p) pos) (dJ i j):=(sf o6 h nE hs).imp fun σ H Q=>un7 fun P F ρ d hf I k=>by
 have nested:∀dss:List (List D),((∃t,ρ[i]?=some (some (.own (.tup2 dss) t)))\/ρ[i]?=some (some (.bor (.tup2 dss))))->(dss[j]?).map D.lst=some d->tOp (rIx X.K) (cG i) (tC (.int (j:Int))) σ H Q:=fun dss q hf=>by
  cases hj:dss[j]? with
  |none=>rw[hj]at hf;cases hf
  |some ds=>
   rw[hj]at hf;cases hf;obtain⟨a,bs,b,u,h1,h2,h3,h4,h5,h6⟩:=I.nest q hj;refine⟨_,h1,.inr (.inl ⟨a,_,_,.ref b,rfl,rfl,SqT.of h2,eY (by rw[Yw,h3];rfl),?_⟩)⟩;exact k _ F H (Evo.refl I.toDHp) (.inr ⟨b,.lst ds,u,rfl,h4,h5,h6,rfl,rfl⟩)
 unfold dJ at hf;split at hf
 ·rename_i dss t q;exact nested dss (.inl ⟨t,q⟩) hf
 ·rename_i dss q;exact nested dss (.inr q) hf
 ·rename_i ds q;obtain⟨v,h1,h2⟩:=I.at q;cases h2 with
  |tup h2 h3=>
   obtain⟨x,hx,rx⟩:=h3.get hf;exact⟨_,h1,.inr (.inl ⟨_,_,_,x,rfl,rfl,SqT.of (I.sub _ _ h2),eY hx,k x F H (Evo.refl I.toDHp) (.inl rx)⟩)⟩
 ·cases hf
end
section
variable{X:Cx}{o e:Expr}{pos:Pos}
end
def Av(K:Kq):V->List V->Hp->VK->Prop:=fun x vs H Q=>∃l xs ds y dy,x=.ref l/\vs=[y]/\SqT K H l xs/\Reps K H xs ds/\Rep K H y dy/\ds.all (okN 29)=true/\okN 30 dy=true/\Q (.int (ds.countP (fun d=>eqd d dy))) H
def ik:D->D->Option D
 |.tup ds,y=>if(ds.all (okN 29)&&okN 30 y)=true then some (.int (ds.countP (fun d=>eqd d y)))else none
 |_,_=>none
section
variable{X:Cx}{e a b c o:Expr}{es:List Expr}{pos p apos cpos:Pos}{fe fa fb:Dd}
theorem qO(hu:X.A.units+64<cLine):MtR X "tuple.count" (Av X.K):=by
 intro pz s σ H x vs v us Q I rx rvv h;obtain⟨l,xs,ds,y,dy,rfl,rfl,hq,r,ry,ok,oy,q⟩:=h;cases rx;obtain⟨u,rfl,ru⟩:=rvv.one;obtain⟨its,rv,pl,hz⟩:=I.tuple hq;obtain⟨⟨cls,dd,data,sl⟩,ho,hc,n,hd⟩:=pl;simp only at hc hd;subst hc hd;have ok':=bB ok;refine call_meets PySem.F.slot_tuple_count ⟨_,ho,rfl⟩ PySem.F.entry_tuple_count (PySem.F.args_tuple_count_2 _ _) (PySem.SeqAt.tuple_countAt l its.toArray n dd sl u (o7 its ds dy))
  ⟨ho,fun z hz=>nt I r rv ok' ry oy ru (A:=X.A.in1) (by show X.A.units+1+60<cLine;omega) z (by simpa using hz),?_⟩
 refine⟨.int _,H,I.tok _,⟨s.toks,?_⟩,q⟩;show Value.int ((its.countP (o7 its ds dy):Nat):Int) s.toks=_;rw[ol (ds:=ds) (by rw[<-rv.length,r.length]) fun i u d h1 h2=>kM I r rv ok' h1 h2]
def C2(r:V->List V->Hp->VK->Prop)(to:TE)(t:TA):TE:=fun σ H Q=>to σ H fun x H1=>(∃a xs,x=.ref a/\H1 a=some (.tup xs))/\t σ H1 fun xs H2=>r x xs H2 Q
theorem yQ{to:TE}{t:TA}{name:Str}{id:String}{r:V->List V->Hp->VK->Prop}(slot:Slot "tuple" name id)(hty:typeOf (.builtin id)=pure (.type "method_descriptor"))(hm:MtR X id r)(ho:PE X o to)(ha:PA X (e::es) t)
  (hbase:attributeBase o name X.env (eval o X.env)=eval o X.env:=by rfl)
  (hfew:((backTo cpos (starEach (e::es) X.env)).all (fun x=>!x.1)&&(backToKw cpos (keywordEach [] X.env)).all (fun x=>x.1.isSome)
   && decide ((e::es).length+([]:List Keyword).length+(if([]:List Keyword).isEmpty then 0 else 1)<30))=true:=by rfl)
  (hline:(apos.endLine == cpos.line)=true:=by rfl) (hs:starEach (e::es) X.env=(false,eval e X.env)::starEach es X.env:=by rfl) (hplain:(backTo cpos (starEach es X.env)).any (·.1)=false:=by rfl) :
  PE X (.Call (.Attribute o name apos) (e::es) [] cpos) (C2 r to t):=by
 intro pz s σ H Q I h;refine wpAny_Call_method_late hbase hfew hline rfl (bn (ho pz s σ H _ I h) fun v s1 x H1 I1 r1 hh_=>?_);obtain⟨⟨a,xs,rfl,ty⟩,q1⟩:=hh_;cases(show v=Value.ref a from r1);obtain⟨_,_,_,⟨ob,h1,h2,_⟩,ob2,h3,h4⟩:=(show ObjOk X.prog X.w H1 s1.heap a (.tup xs)from I1.hok a _ ty)
 refine⟨"tuple",id,PySem.F.plainAttrs_tuple,slot,hty,⟨ob,h1,h2⟩,fun c ec=>by cases ec;exact⟨ob2,h3,h4⟩,?_⟩;have hA:=ha cpos pz s1 σ H1 _ I1 q1;rw[hs]at hA ⊢;refine Xx (by show(false||(backTo cpos (starEach es X.env)).any (·.1))=false;rw[hplain]<;>rfl) (XH ?_);exact bn hA fun us s2 vs H2 I2 r2 q2=>hm pz s2 σ H2 _ vs _ us Q I2 r1 r2 q2
theorem eZ(hu:X.A.units+64<cLine)(ho:PDN X o fa)(ha:PDN X e fb)(hbase:attributeBase o "count" X.env (eval o X.env)=eval o X.env:=by rfl)
  (hfew:((backTo cpos (starEach [e] X.env)).all (fun x=>!x.1)&&(backToKw cpos (keywordEach [] X.env)).all (fun x=>x.1.isSome)
   && decide (([e]:List Expr).length+([]:List Keyword).length+(if([]:List Keyword).isEmpty then 0 else 1)<30))=true:=by rfl)
  (hline:(apos.endLine == cpos.line)=true:=by rfl) (hs:starEach [e] X.env=[(false,eval e X.env)]:=by rfl) :
  PDE X (.Call (.Attribute o "count" apos) [e] [] cpos) (d2 ik fa fb):=
 (yQ PySem.F.slot_tuple_count PySem.F.type_tuple_count (qO hu) ho (aE ha bp hs) hbase hfew hline hs rfl).imp fun σ H Q=>un7 fun P F ρ d hf I k=>by
 unfold d2 at hf;cases ha:fa ρ with
 |none=>rw[ha]at hf;cases hf
 |some dx=>
  rw[ha]at hf;cases hb:fb ρ with
  |none=>rw[Ya,hb]at hf;cases hf
  |some dy=>
   rw[Ya,hb,Ya]at hf;cases dx with
   |tup ds=>
    have hf:(if(ds.all (okN 29)&&okN 30 dy)=true then some (D.int (ds.countP (fun d=>eqd d dy)))else none)=some d:=hf;split at hf
    ·rename_i c;rw[Yl]at c;cases hf;refine⟨P,F,ρ,_,ha,I,fun x F1 H1 e1 rx=>?_⟩;cases rx with
     |tup h1 h2=>
      refine⟨⟨_,_,rfl,h1⟩,P,F1,ρ,dy,hb,I.evo e1,fun y F2 H2 e2 ry=>?_⟩;have sm:=e2.same e1.hp;exact⟨_,_,ds,y,dy,rfl,rfl,SqT.of (sm _ _ h1),h2.same sm,ry,c.1,c.2,k _ F2 H2 (e1.trans e2) .int⟩
    ·cases hf
   |_=>cases hf
end
def isI:D->Bool
 |.int _=>true
 |_=>false
def toI:D->Int
 |.int i=>i
 |_=>0
def ja(ns:List Int):List Int:=ns.foldl step_dedup []
theorem nA(ns:List Int):firstMet (fun i=>ns.getD i 0) ns.length=ja ns:=by
 unfold firstMet ja;refine Zi (List.foldl step_dedup []) ?_;apply List.ext_getElem?;intro i;rw[Yw];by_cases h:i<ns.length
 ·rw[Xm h,Yg h];show some (ns.getD i 0)=_;rw[Yy,Yg h];rfl
 ·rw[ZK (by rw[Xf];omega),ZK (by omega)];rfl
theorem gM{K:Kq}{F:Hp}:∀{vs:List V}{ds:List D},Reps K F vs ds->ds.all isI=true->vs=(ds.map toI).map V.int:=by
 intro vs ds h;refine Reps.ind (M:=fun vs ds=>ds.all isI=true->vs=(ds.map toI).map V.int) (fun _=>rfl) (fun{v d vs ds} r _ ih q=>?_) h;rw[List.all_cons,Yl]at q;cases d with
 |int i=>
  cases r;rw[ih q.2];rfl
 |_=>cases q.1
section
variable{X:Cx}{e:Expr}{pos pos2 p p2:Pos}
theorem ui(ns:List Int):(ja ns).length<=ns.length:=by rw[<-nA];exact firstMet_length_le _ _
end
end L2
namespace L2
open PySem PySem.Spec PySem.Calls PySem.W PyProof.Rows Builtin Builtin.ObjectAttr Builtin.Getset_descriptor
section
variable{K:Kq}{e C:Addr}{prog:Program}{w:World}{A:Around}{E:Kv}{s:Shared}
end
end L2
namespace L2
open PySem PySem.Spec PySem.Calls PySem.W PyProof.Rows
section
variable{P:Program}{w:World}{K:Kq}{mg:Ks}{base:Heap}{N:List Str}{qual:Str}{scope:Scope}{f C:Addr}{cd:Value}{A:Around}{outer:List Env}{s:Shared}{H:Hp}{E:XK}
end
section
variable{X:Cx}{a C:Addr}{ob:Obj}{pz:Kp}{σ:St}{H:Hp}{s:Shared}
end
section
variable{X:Cx}{a C:Addr}{ob:Obj}{pos p p1 p2 p3 p4:Pos}
end
section
variable{P:Program}{w:World}{K:Kq}{mg:Ks}{base:Heap}{N:List Str}{qual:Str}{scope:Scope}{f:Addr}{cl:Nat->Addr}{cd:Value}{A:Around}{outer:List Env}{s:Shared}{H:Hp}{E:XK}
end
section
variable{X:Cx}{cl:Nat->Addr}{E:XK}{st:Stmt}{bP sts:List Stmt}{pos:Pos}
end
end L2
namespace L2
open PySem PySem.Spec PyProof.Rows
section
variable{X:Cx}{e:Expr}{pos:Pos}
theorem DInv.nestL{K:Kq}{P F H:Hp}{ρ:DF}{σ:St}(I:DInv K P F H ρ σ){i j:Nat}{dss:List (List D)}{ds:List D}(q:(∃t,ρ[i]?=some (some (.own (.lst2 dss) t)))\/ρ[i]?=some (some (.bor (.lst2 dss))))(hj:dss[j]?=some ds):∃(a:Addr) (bs:List Addr) (b:Addr) (u:HO),σ[i]?=some (some (.ref a))/\H a=some (.lst (bs.map .ref))/\bs[j]?=some b/\F b=none/\H b=some u/\ORep1 K F (.lst ds) u:=by
 have hs:∃v,σ[i]?=some (some v):=by
  rcases q with⟨t,q⟩|q
  ·obtain⟨v,h1,_⟩:=I.at q;exact⟨v,h1⟩
  ·obtain⟨v,h1,_⟩:=I.at q;exact⟨v,h1⟩
 obtain⟨v,hv⟩:=hs;obtain⟨a,rfl,h2,bs,h3,h4,h5⟩:=I.slot hv q;obtain⟨b,h6,h7,u,h8,h9⟩:=h5.get hj;exact⟨a,bs,b,u,hv,h3,h6,h7,h8,h9⟩
def fz(i j:Nat)(f:Dd):DF->Option RES:=fun ρ=>match ρ[i]? with
 |some (some (.own (.lst2 dss) t))=>match dss[j]? with
  |some ds=>(f ρ).bind fun d=>if ds.length<16777216 then some (.nx (ρ.set i (some (.own (.lst2 (dss.set j (ds++[d]))) t))))else none
  |none=>none
 |_=>none
theorem DInv.mutNL{K:Kq}{P F H:Hp}{ρ:DF}{σ:St}(I:DInv K P F H ρ σ){i j:Nat}{dss:List (List D)}{ds ds':List D}{t:Option Addr}(h:ρ[i]?=some (some (.own (.lst2 dss) t)))(hj:dss[j]?=some ds):∃(a:Addr) (bs:List Addr) (b:Addr) (vs:List V),σ[i]?=some (some (.ref a))/\H a=some (.lst (bs.map .ref))/\bs[j]?=some b/\F b=none/\H b=some (.lst vs)/\Reps K F vs ds /\
  ∀F1 H1,Evo P F H F1 H1->∀vs',Reps K F1 vs' ds'->DInv K P F1 (upd H1 b (.lst vs')) (ρ.set i (some (.own (.lst2 (dss.set j ds')) t))) σ:=by
 obtain⟨a,bs,b,u,h1,h2,h3,h4,h5,h6⟩:=I.nestL (.inl ⟨t,h⟩) hj;cases u with
 |lst vs=>
  refine⟨a,bs,b,vs,h1,h2,h3,h4,h5,h6,fun F1 H1 ev vs' hv=>?_⟩;have I1:=I.evo ev;obtain⟨O,hR⟩:=I1.rep;obtain⟨v,g1,a',rfl,⟨g2,bs',g3,g4,g5⟩,ht⟩:=hR i _ h;rw[h1]at g1;cases g1;rw[(ev.keep a _ h2 (by
   obtain⟨v,y1,y2,rfl,⟨⟨y3,_⟩,_⟩,_⟩:=I.at h;rw[h1]at y1;cases y1;exact y3)).1]at g3
  have hb:bs'=bs:=by
   have z:bs.map V.ref=bs'.map V.ref:=HO.lst.inj (Yr g3);have inj:∀x y:List Addr,x.map V.ref=y.map V.ref->x=y:=fun x y e=>by
    have:=Zi (List.map fun v:V=>match v with|.ref a=>a|_=>0) e;rw[ZM,ZM]at this;have e0:((fun v:V=>match v with|.ref a=>a|_=>0) ∘ V.ref)=id:=rfl;rw[e0,List.map_id,List.map_id]at this;exact this
   exact(inj _ _ z).symm
  subst hb;obtain⟨n1,n2⟩:=Zp.mp g4;obtain⟨b',y1,⟨y2,y3,y4⟩,_⟩:=g5.get hj;rw[h3]at y1;cases y1;have hab:a≠b:=fun z=>by subst z;exact n1 (Yv h3)
  refine⟨⟨fun c w e=>by rw[aA (aO e y2)];exact I1.sub c w e,fun c w e=>by rw[aA (aO e y3)];exact I1.pro c w e,I1.dis⟩,by rw[YY];exact I1.len,O,fun m z hm=>?_⟩;rcases c6 hm with⟨rfl,e,hl⟩|⟨him,hm'⟩
  ·cases e;refine⟨_,h1,a,rfl,⟨g2,bs',by rw[aA hab];exact(ev.keep a _ h2 (by
    obtain⟨v,y1,y2,rfl,⟨⟨y3,_⟩,_⟩,_⟩:=I.at h;rw[h1]at y1;cases y1;exact y3)).1,g4,?_⟩,ht⟩
   exact g5.set n2 h3 ⟨⟨y2,y3,y4⟩,.lst vs',aR,hv⟩ fun c x hc ⟨o1,o2,o3,o4⟩=>⟨o1,o2,by rw[aA hc];exact o3,o4⟩
  ·obtain⟨w,e1,e2⟩:=hR m z hm';refine⟨w,e1,?_⟩;cases z with
   |v d'=>exact e2
   |own od t'=>(obtain⟨c,rfl,e3,ht'⟩:=e2;exact⟨c,rfl,e3.mono (Same.refl _) fun b w' q hb=>⟨by rw[aA (fun z=>by subst z;rw[q.2.2]at y4;exact him (Yr y4).symm)];exact hb,q⟩,ht'⟩)
   |bor od=>exact e2
 |_=>exact h6.elim
theorem sj(i j:Nat){o e:Expr}{k}{p ipos apos cpos:Pos}{f:Dd}(h:PE X o (cG i))(ha:PDE X e f)(hp:iw (.Constant (.int (j:Int)) k p):=by exact fun _ _=>rfl)(hbase:attributeBase (.Subscript o (.Constant (.int (j:Int)) k p) ipos) "append" X.env (eval (.Subscript o (.Constant (.int (j:Int)) k p) ipos) X.env)=eval (.Subscript o (.Constant (.int (j:Int)) k p) ipos) X.env:=by rfl)
  (hfew:((backTo cpos (starEach [e] X.env)).all (fun x=>!x.1)&&(backToKw cpos (keywordEach [] X.env)).all (fun x=>x.1.isSome)
   && decide (([e]:List Expr).length+([]:List Keyword).length+(if([]:List Keyword).isEmpty then 0 else 1)<30))=true:=by rfl)
  (hline:(apos.endLine == cpos.line)=true:=by rfl) (hs:starEach [e] X.env=[(false,eval e X.env)]:=by rfl) (hsw:swapsWith (.Call (.Attribute (.Subscript o (.Constant (.int (j:Int)) k p) ipos) "append" apos) [e] [] cpos) none pos.line X.env=pure false:=by rfl) :
  PD1 X (.Expr (.Call (.Attribute (.Subscript o (.Constant (.int (j:Int)) k p) ipos) "append" apos) [e] [] cpos) pos) (fz i j f):=
 PS.imp (cK (f_ Zd Zx Zy da (sf o6 h nE hp) (aE ha bp hs) hbase hfew hline hs rfl) hsw) fun E σ H=>un7 fun P F ρ r hr I k=>by
  unfold fz at hr;split at hr
  ·rename_i dss t q;split at hr
   ·rename_i ds hj;cases q2:f ρ with
    |none=>rw[q2]at hr;cases hr
    |some d=>
     rw[q2,Ya]at hr;split at hr
     ·rename_i hl;cases hr;obtain⟨a,bs,b,vs,h1,h2,h3,h4,h5,h6,h7⟩:=I.mutNL (ds':=ds++[d]) q hj;refine⟨_,h1,.inl ⟨a,_,_,.ref b,rfl,rfl,SqL.of h2,eY (by rw[Yw,h3];rfl),?_⟩⟩;refine⟨.inl ⟨rfl,vs,SqL.of h5⟩,P,F,ρ,d,q2,I,fun v F1 H1 e1 r1=>?_⟩;obtain⟨k1,k2⟩:=e1.keep b _ h5 h4;exact⟨b,vs,v,rfl,rfl,k1,by rw[YQ,h6.length];exact hl,k σ F1 _ e1.ext (h7 F1 H1 e1 _ ((h6.same e1.ext).append (.one r1)))⟩
     ·cases hr
   ·cases hr
  ·cases hr
end
section
variable{X:Cx}{a b e:Expr}{pos:Pos}
theorem All2.app{α β:Type}{R:α->β->Prop}{as as':List α}{bs bs':List β}(h:All2 R as bs)(h':All2 R as' bs'):All2 R (as++as') (bs++bs'):=by
 induction h with
 |nil=>exact h'
 |cons q _ ih=>exact .cons q ih
end
section
variable{X:Cx}{pz:Kp}{σ:List (Option V)}{H:Hp}{s:Shared}{h':Heap}
theorem Inv.turnedL{t':Nat}{fp:List Addr}(I:Inv X pz σ H s)(k:∀b o,b∉fp->s.heap.get? b=some o->h'.get? b=some o)(hf:∀b∈fp,e7 X pz H b):Inv X pz σ H {s with heap:=h',toks:=t' }:=by
 have nit:∀b u,H b=some u->b∉fp:=fun b u e z=>by rw[(hf b z).1]at e;cases e
 refine I.step (g':=s.gens) (d':=s.drawn) (ch:=fp) (fun b hb=>?_) (fun b o _ _ hc e _=>k b o hc e) (fun b o _ _ hc e _=>⟨o.slots,k b o hc e⟩) (fun _ _ _ _ n=>n)
  (fun b o hc e=>⟨o,k b o hc e⟩) (fun _ _ e=>e) (fun _ _ _ e=>e) (fun b ps e=>⟨#[],by rw[e];simp⟩) (fun m hm=>?_) (fun b u e=>?_) I.bare
 ·obtain⟨_,hL,_,h1,h2,h3⟩:=hf b hb;exact⟨h1,hL,h2,h3⟩
 ·obtain⟨o,es,ep,ho,r⟩:=hm;exact⟨o,es,ep,k _ o (fun z=>(hf _ z).2.1 rfl) ho,r⟩
 ·refine(I.hok b u e).stay (fun c v hc q=>k c v ?_ q) (fun _ q=>q) fun _ _ q=>q;rcases hc with z|z
  ·rw[z];exact nit b u e
  ·exact nit c _ z
theorem Inv.turnedLaid{t':Nat}{fp:List Addr}{a:Addr}{o:HO}(I:Inv X pz σ H s)(k:∀b o,b∉fp->s.heap.get? b=some o->h'.get? b=some o)(hf:∀b∈fp,e7 X pz H b)(hp:s.heap.objs.size<=a)(new:ObjOk X.prog X.w (upd H a o) h' a o) :
  Inv X pz σ (upd H a o) {s with heap:=h',toks:=t' }:=by
 have hn:H a=none:=I.hok.fresh hp;have nit:∀b u,H b=some u->b∉fp:=fun b u e z=>by rw[(hf b z).1]at e;cases e
 have ne1:∀b u,s.heap.get? b=some u->b≠a:=fun b u q=>YG (Ys (Yq q) hp)
 refine I.step (g':=s.gens) (d':=s.drawn) (ch:=fp) (fun b hb=>?_) (fun b o _ _ hc e _=>k b o hc e) (fun b o _ _ hc e _=>⟨o.slots,k b o hc e⟩) (fun b u _ q n=>by rw[aA (ne1 b u q)];exact n)
  (fun b o hc e=>⟨o,k b o hc e⟩) (fun b xs e=>by rw[aA (aO e hn)];exact e) (fun b _ _ e=>by rw[aA (aO e hn)];exact e) (fun b ps e=>⟨#[],by rw[aA (aO e hn),e];simp⟩) (fun m hm=>?_) (fun b u e=>?_) I.bare
 ·obtain⟨_,hL,_,h1,h2,h3⟩:=hf b hb;exact⟨h1,hL,h2,h3⟩
 ·obtain⟨o,es,ep,ho,r⟩:=hm;exact⟨o,es,ep,k _ o (fun z=>(hf _ z).2.1 rfl) ho,r⟩
 ·by_cases hb:b=a
  ·subst hb;rw[aR]at e;cases e;exact new
  ·rw[aA hb]at e;refine(I.hok b u e).stay (fun c v hc q=>k c v ?_ q) (fun c q=>by rw[aA (aO q hn)];exact q) fun c xs q=>by rw[aA (aO q hn)];exact q
   rcases hc with z|z
   ·rw[z];exact nit b u e
   ·exact nit c _ z
end
section
variable{X:Cx}{l:Expr}{elts:List Expr}{kk:Nat}{tpos pos p:Pos}
end
section
variable{prog:Program}{w:World}{A:Around}{E:Kv}{s:Shared}
theorem A0{it t:Addr}{i:Nat}{ys:Array Value}{y:Value}{Q:Kv}(a:s.heap.IsTupleIter it t i)(b:s.heap.IsTuple t ys)(c:ys[i]?=some y)
  (q:∀g,g.IsTupleIter it t (i+1)->Heap.SameBut it s.heap g->Q y {s with heap:=g}):wpAny (model prog w) A (Builtin.SmallTypes.nextOf (.ref it)) Q E s:=by
 have ty:=a.typeIs;obtain⟨u,e1,e2,e3⟩:=a;obtain⟨v,f1,f2,m,f3⟩:=b;unfold Builtin.SmallTypes.nextOf;refine Yd (ZT (name:=Str.ofString "__next__") ty ZJ (Xk ZJ ty F.entry_tuple_iterator_next ?_ (F.args_tuple_iterator_next_1 _)));refine Yd (m:=field (.ref it) 0) (ZH e1 e3 (x:=.ref t) rfl ?_);have nn:¬((Value.ref t == Value.none)=true):=Yk;show wpAny _ _ (if(Value.ref t == Value.none)=true then _ else field (.ref it) 1>>=_) _ _ s;rw[Yn nn];refine Yd (ZH e1 e3 (x:=.int i 0) rfl ?_);refine Yd (m:=seqItems? (.ref t)) (ZV f1 f3 ?_);simp only[YO,c];refine Yd (wpAny_setField e1 e3 (by simp) (YA ⟨y,rfl,YA (q _ ⟨_,Heap.get?_update_self _ e1 (Obj.isFreed_of_fields (Obj.data_mapFields e3 _)),(Obj.cls_mapFields ..).trans e2,?_⟩ (Heap.SameBut.update ..))⟩));rw[Obj.data_mapFields e3];simp[rawInt]
theorem Cu{it t:Addr}{i:Nat}{ys:Array Value}{Q:Kv}(hd:A.handled=none)(a:s.heap.IsTupleIter it t i)(b:s.heap.IsTuple t ys)(c:ys[i]?=none)
  (q:∀g x,Heap.ExtBut it s.heap g->(∃o,g.get? x=some o/\o.cls=.type "StopIteration")->E (.ref x) {s with heap:=g}):wpAny (model prog w) A (Builtin.SmallTypes.nextOf (.ref it)) Q E s:=by
 have ty:=a.typeIs;obtain⟨u,e1,e2,e3⟩:=a;obtain⟨v,f1,f2,m,f3⟩:=b;unfold Builtin.SmallTypes.nextOf;refine Yd (ZT (name:=Str.ofString "__next__") ty ZJ (Xk ZJ ty F.entry_tuple_iterator_next ?_ (F.args_tuple_iterator_next_1 _)));refine Yd (m:=field (.ref it) 0) (ZH e1 e3 (x:=.ref t) rfl ?_);have nn:¬((Value.ref t == Value.none)=true):=Yk;show wpAny _ _ (if(Value.ref t == Value.none)=true then _ else field (.ref it) 1>>=_) _ _ s;rw[Yn nn];refine Yd (ZH e1 e3 (x:=.int i 0) rfl ?_);refine Yd (m:=seqItems? (.ref t)) (ZV f1 f3 ?_);simp only[YO,c];refine Yd (wpAny_rule (Yd (wpAny_setField e1 e3 (by simp) ?_)));refine Yd (m:=newExc (.type "StopIteration") []) ?_;simp only[newExc,newTuple];refine Yd (wpAny_newObj_type ?_ (by size_fits));refine Yd (m:=firstArgMember _ _) (wpAny_of_eq (a:=Value.none) (by first|rfl|(simp only[firstArgMember];rfl)) (wpAny_newObj_type ?_ (by size_fits)));simp only[raiseNew];refine Yd (wpAny_handled ?_);rw[show A.in1.handled=none from hd];refine Yd (YA (wpAny_throw ?_));exact q _ _ (((Heap.SameBut.update ..).extBut.push _).push _) ⟨_,Yo _ rfl,rfl⟩
end
def SIt(b:Bool)(h:Heap)(it l:Addr)(i:Nat):Prop:=if b=true then h.IsListIter it l i else h.IsTupleIter it l i
def SSq(b:Bool)(h:Heap)(l:Addr)(ys:Array Value):Prop:=if b=true then h.IsList l ys else h.IsTuple l ys
theorem SIt.at{b:Bool}{h h':Heap}{it l:Addr}{i:Nat}(x:SIt b h it l i)(e:∀o,h.get? it=some o->h'.get? it=some o):SIt b h' it l i:=by
 cases b
 ·exact Heap.IsTupleIter.at x e
 ·exact Heap.IsListIter.at x e
theorem SSq.at{b:Bool}{h h':Heap}{l:Addr}{ys:Array Value}(x:SSq b h l ys)(e:∀o,h.get? l=some o->h'.get? l=some o):SSq b h' l ys:=by
 cases b
 ·exact Heap.IsTuple.at x e
 ·exact Heap.IsList.at x e
theorem SIt.obj{b:Bool}{h:Heap}{it l:Addr}{i:Nat}(x:SIt b h it l i):∃o,h.get? it=some o/\∀v,o.data≠.cell v:=by
 cases b
 ·obtain⟨o,e,_,d⟩:=(show h.IsTupleIter it l i from x);exact⟨o,e,fun v z=>by rw[d]at z;cases z⟩
 ·obtain⟨o,e,_,d⟩:=(show h.IsListIter it l i from x);exact⟨o,e,fun v z=>by rw[d]at z;cases z⟩
section
variable{prog:Program}{w:World}{A:Around}{E:Kv}{s:Shared}
theorem xu{b:Bool}{it l:Addr}{i:Nat}{ys:Array Value}{y:Value}{Q:Kv}(a:SIt b s.heap it l i)(c:SSq b s.heap l ys)(d:ys[i]?=some y)
  (q:∀g,SIt b g it l (i+1)->Heap.SameBut it s.heap g->Q y {s with heap:=g}):wpAny (model prog w) A (Builtin.SmallTypes.nextOf (.ref it)) Q E s:=by
 cases b
 ·exact A0 a c d q
 ·exact wpAny_nextOf_list_item a c d q
theorem Cv{b:Bool}{it l:Addr}{i:Nat}{ys:Array Value}{Q:Kv}(hd:A.handled=none)(a:SIt b s.heap it l i)(c:SSq b s.heap l ys)(d:ys[i]?=none)
  (q:∀g x,Heap.ExtBut it s.heap g->(∃o,g.get? x=some o/\o.cls=.type "StopIteration")->E (.ref x) {s with heap:=g}):wpAny (model prog w) A (Builtin.SmallTypes.nextOf (.ref it)) Q E s:=by
 cases b
 ·exact Cu hd a c d q
 ·exact wpAny_nextOf_list_end hd a c d q
theorem vE{b1 b2:Bool}{z TI TO i1 i2 l1 l2:Addr}{k:Nat}{xs ys:Array Value}{x y a b:Value}{Q:Kv}(D:ZipApart z TI TO i1 i2 l1 l2)
  (hz:IsZip s.heap z TI TO .none) (hTI:IsPair s.heap TI (.ref i1) (.ref i2)) (hTO:IsPair s.heap TO a b) (h1:SIt b1 s.heap i1 l1 k) (h2:SIt b2 s.heap i2 l2 k) (q1:SSq b1 s.heap l1 xs) (q2:SSq b2 s.heap l2 ys)
  (hx:xs[k]?=some x) (hy:ys[k]?=some y)
  (hQ:∀g,IsZip g z TI TO (rawInt s.heap.objs.size)->IsPair g TO x y->SIt b1 g i1 l1 (k+1)->SIt b2 g i2 l2 (k+1)->IsPair g s.heap.objs.size x y->
   (∀c o,c∉[z,TO,i1,i2]->s.heap.get? c=some o->g.get? c=some o)->Q (.ref s.heap.objs.size) {s with heap:=g}) :
  wpAny (model prog w) A (Builtin.«zip.__next__» ⟨[.ref z],[]⟩) (fun fin s'=>∃v,fin=.done (.ret v)/\Q v s') E s:=by
 refine Yd (m:=field (.ref z) 2) (ZH hz rfl (x:=.bool false) rfl ?_);refine Yd (m:=field (.ref z) 3) (ZH hz rfl (x:=.ref TI) rfl ?_);refine Yd (ZV hTI rfl ?_);refine Yd (m:=Builtin.SmallTypes.ownedTupleIsFree (.ref z)) ?_;unfold Builtin.SmallTypes.ownedTupleIsFree;refine Yd (ZH hz rfl (x:=.none) rfl (YA ?_));simp only[Va];refine Yd (wpAny_rule (Yd (ZH hz rfl (x:=.ref TO) rfl (Yd (ZY hz (by simp) fun ga za sa=>?_)))));have za:IsZip ga z TI TO .ellipsis:=za;have ka:∀c o,c≠z->s.heap.get? c=some o->ga.get? c=some o:=fun c o n e=>sa.extBut _ _ n e
 refine Yd ?_;simp only[List.zipIdx_cons,List.zipIdx_nil,List.forIn_cons,List.forIn_nil];refine Yd (Yd (wpAny_onRaise (Yd (m:=Builtin.SmallTypes.nextOf (.ref i1)) ?_)));refine xu (h1.at fun o e=>ka _ o D.i1z e) (q1.at fun o e=>ka _ o D.l1z e) hx fun gb ib sb=>YA ?_;have kb:∀c o,c≠z->c≠i1->s.heap.get? c=some o->gb.get? c=some o:=fun c o n m e=>sb.extBut _ _ m (ka c o n e)
 have tb:IsPair gb TO a b:=kb _ _ D.TOz D.TOi1 hTO;refine Yd (ZV tb rfl (Yd (wpAny_updateSeq_pair tb fun gc tc sc=>?_)));have tc:IsPair gc TO x b:=tc;have kc:∀c o,c≠z->c≠i1->c≠TO->s.heap.get? c=some o->gc.get? c=some o:=fun c o n m l e=>sc.extBut _ _ l (kb c o n m e)
 refine Yd (wpAny_letGo (YA ?_));refine Yd (Yd (wpAny_onRaise (Yd (m:=Builtin.SmallTypes.nextOf (.ref i2)) ?_)));refine xu (h2.at fun o e=>kc _ o D.i2z D.i12.symm D.TOi2.symm e) (q2.at fun o e=>kc _ o D.l2z D.l2i1 D.l2TO e) hy fun gd id' sd=>YA ?_;have td:IsPair gd TO x b:=sd.extBut _ _ D.TOi2 tc;refine Yd (ZV td rfl (Yd (wpAny_updateSeq_pair td fun ge te se=>?_)));have te:IsPair ge TO x y:=te;have ke:∀c o,c≠z->c≠i1->c≠TO->c≠i2->s.heap.get? c=some o->ge.get? c=some o:=fun c o n m l r e=>se.extBut _ _ l (sd.extBut _ _ r (kc c o n m l e))
 refine Yd (wpAny_letGo (YA (YA ?_)));refine Yd (ZV te rfl (Yd (wpAny_newTuple ?_)));have hsz:ge.objs.size=s.heap.objs.size:=by rw[se.1,sd.1,sc.1,sb.1,sa.1]
 have ze:IsZip ge z TI TO .ellipsis:=se.extBut _ _ D.TOz.symm (sd.extBut _ _ D.i2z.symm (sc.extBut _ _ D.TOz.symm (sb.extBut _ _ D.i1z.symm za)));have ie:SIt b1 ge i1 l1 (k+1):=ib.at fun o e=>se.extBut _ _ D.TOi1.symm (sd.extBut _ _ D.i12 (sc.extBut _ _ D.TOi1.symm e))
 have je:SIt b2 ge i2 l2 (k+1):=id'.at fun o e=>se.extBut _ _ D.TOi2.symm e
 have zlt:z<ge.objs.size:=Yq ze;refine Yd (m:=Builtin.SmallTypes.ownedTupleHandOut (.ref z) (.ref ge.objs.size)) ?_;unfold Builtin.SmallTypes.ownedTupleHandOut;have zf:IsZip (ge.push {cls:=.type "tuple",data:=.seq #[x,y]}) z TI TO .ellipsis:=Ye _ ze;refine Yd (ZY zf (by simp) fun gg zg sg=>?_);have zg:IsZip gg z TI TO (rawInt ge.objs.size):=zg;refine ZY zg (by simp) fun gh zh sh=>YA ⟨_,rfl,?_⟩;have zh:IsZip gh z TI TO (rawInt ge.objs.size):=zh;have up:∀c o,c≠z->ge.get? c=some o->gh.get? c=some o:=fun c o n e=>sh.extBut _ _ n (sg.extBut _ _ n (Ye _ e))
 have tn:IsPair gh ge.objs.size x y:=sh.extBut _ _ (ZZ zlt) (sg.extBut _ _ (ZZ zlt) (Yo _ rfl));show Q (.ref ge.objs.size) _;rw[hsz]at zh tn ⊢;exact hQ gh zh (up _ _ D.TOz te) (ie.at fun o e=>up _ o D.i1z e) (je.at fun o e=>up _ o D.i2z e) tn fun c o hc e=>up c o (fun z=>hc (by simp[z])) (ke c o (fun z=>hc (by simp[z])) (fun z=>hc (by simp[z])) (fun z=>hc (by simp[z])) (fun z=>hc (by simp[z])) e)
theorem yc{b1 b2:Bool}{z TI TO i1 i2 l1 l2:Addr}{k:Nat}{xs ys:Array Value}{a b:Value}{Q:Fin->Shared->Prop}(hh:A.handled=none)(D:ZipApart z TI TO i1 i2 l1 l2)
  (hz:IsZip s.heap z TI TO .none) (hTI:IsPair s.heap TI (.ref i1) (.ref i2)) (hTO:IsPair s.heap TO a b) (h1:SIt b1 s.heap i1 l1 k) (h2:SIt b2 s.heap i2 l2 k) (q1:SSq b1 s.heap l1 xs) (q2:SSq b2 s.heap l2 ys)
  (hend:xs[k]?=none)
  (hE:∀g e,(∀c o,c∉[z,TO,i1,i2]->s.heap.get? c=some o->g.get? c=some o)->(∃o,g.get? e=some o/\o.cls=.type "StopIteration")->E (.ref e) {s with heap:=g}) :
  wpAny (model prog w) A (Builtin.«zip.__next__» ⟨[.ref z],[]⟩) Q E s:=by
 refine Yd (m:=field (.ref z) 2) (ZH hz rfl (x:=.bool false) rfl ?_);refine Yd (m:=field (.ref z) 3) (ZH hz rfl (x:=.ref TI) rfl ?_);refine Yd (ZV hTI rfl ?_);refine Yd (m:=Builtin.SmallTypes.ownedTupleIsFree (.ref z)) ?_;unfold Builtin.SmallTypes.ownedTupleIsFree;refine Yd (ZH hz rfl (x:=.none) rfl (YA ?_));simp only[Va];refine Yd (wpAny_rule (Yd (ZH hz rfl (x:=.ref TO) rfl (Yd (ZY hz (by simp) fun ga za sa=>?_)))));have za:IsZip ga z TI TO .ellipsis:=za;have ka:∀c o,c≠z->s.heap.get? c=some o->ga.get? c=some o:=fun c o n e=>sa.extBut _ _ n e
 refine Yd ?_;simp only[List.zipIdx_cons,List.zipIdx_nil,List.forIn_cons,List.forIn_nil];refine Yd (Yd (wpAny_onRaise (Yd (m:=Builtin.SmallTypes.nextOf (.ref i1)) ?_)));refine Cv hh (h1.at fun o e=>ka _ o D.i1z e) (q1.at fun o e=>ka _ o D.l1z e) hend fun gb e sb ⟨oe,e1,e2⟩=>?_;have zb:IsZip gb z TI TO .ellipsis:=sb _ _ D.i1z.symm za;have hez:e≠z:=fun q=>by subst q;rw[zb]at e1;cases e1;simp at e2
 exact ZY zb (by simp) fun gc _ sc=>hE gc e (fun c o hc q=>sc.extBut _ _ (fun z=>hc (by simp[z])) (sb _ _ (fun z=>hc (by simp[z])) (ka c o (fun z=>hc (by simp[z])) q))) ⟨oe,sc.extBut _ _ hez e1,e2⟩
end
abbrev zT1(h:Heap)(a:Addr):Heap:=h.push {cls:=.type "tuple_iterator",data:=.fields #[.ref a,.int 0 0]}
abbrev zT2(h:Heap)(a b:Addr):Heap:=zT1 (zT1 h a) b
abbrev zT3(h:Heap)(a b:Addr):Heap:=(zT2 h a b).push {cls:=.type "tuple",data:=.seq #[.ref h.objs.size,.ref (zT1 h a).objs.size]}
abbrev zT4(h:Heap)(a b:Addr):Heap:=(zT3 h a b).push {cls:=.type "tuple",data:=.seq #[.none,.none]}
abbrev zT5(h:Heap)(a b:Addr):Heap:=(zT4 h a b).push {cls:=.type "zip",data:=.fields #[.none,.bool false,.bool false,.ref (zT2 h a b).objs.size,.ref (zT3 h a b).objs.size]}
theorem r6(a b:Addr)(xs ys:Array Value):Meets (Builtin.«zip.__new__» ⟨[.type "zip",.ref a,.ref b],[]⟩) (fun _ R s=>s.heap.IsTuple a xs/\s.heap.IsTuple b ys/\R (.ok (.ret (.ref (zT4 s.heap a b).objs.size))) {s with heap:=zT5 s.heap a b}):=
 .of_wp fun prog w A R s h=>by
  obtain⟨hp,g,d,tk,os⟩:=s;obtain⟨h1,h2,h⟩:=h;have hsub:=sub_zip;have k1:Heap.IsTuple (Shared.heap ⟨hp,g,d,tk,os⟩) a xs:=h1;have k2:Heap.IsTuple (Shared.heap ⟨zT1 hp a,g,d,tk,os⟩) b ys:=Heap.IsTuple.push h2 _
  wp_walk using wpAny_pyIter_tuple k1,wpAny_pyIter_tuple k2
  exact⟨_,rfl,h⟩
section
variable{prog:Program}{w:World}{A:Around}{E:Kv}{s:Shared}
theorem wL{b:Bool}{l1 l2:Addr}{xs ys:Array Value}{Q:Kv}(q1:SSq b s.heap l1 xs)(q2:SSq b s.heap l2 ys)
  (h:∀g,IsZip g (s.heap.objs.size+4) (s.heap.objs.size+2) (s.heap.objs.size+3) .none->IsPair g (s.heap.objs.size+2) (.ref s.heap.objs.size) (.ref (s.heap.objs.size+1))->
   IsPair g (s.heap.objs.size+3) .none .none->SIt b g s.heap.objs.size l1 0->SIt b g (s.heap.objs.size+1) l2 0->
   (∀c o,s.heap.get? c=some o->g.get? c=some o)->Q (.ref (s.heap.objs.size+4)) {s with heap:=g}) :
  wpAny (model prog w) A (call (.type "zip") [.ref l1,.ref l2]) Q E s:=by
 cases b with
 |true=>exact call_zip_2 q1 q2 fun g a1 a2 a3 a4 a5 _ a7=>h g a1 a2 a3 a4 a5 a7
 |false=>
  refine callType_new F.called_zip (by decide) (F.typeCall_zip_2 _ _) (F.newCall_zip_2 _ _) (fun obj=>F.args_object_init_3 obj _ _) F.entry_zip_new (r6 l1 l2 xs ys) ⟨q1,q2,?_⟩;have z1:(zT1 s.heap l1).objs.size=s.heap.objs.size+1:=ZC ..;have z2:(zT2 s.heap l1 l2).objs.size=s.heap.objs.size+2:=by rw[ZC,z1]
  have z3:(zT3 s.heap l1 l2).objs.size=s.heap.objs.size+3:=by rw[ZC,z2]
  have z4:(zT4 s.heap l1 l2).objs.size=s.heap.objs.size+4:=by rw[ZC,z3]
  have up:=fun{c o} (e:s.heap.get? c=some o)=>(Ye _ (Ye _ (Ye _ (Ye _ (Ye _ e)))):(zT5 s.heap l1 l2).get? c=some o)
  have g5:(zT5 s.heap l1 l2).get? (zT4 s.heap l1 l2).objs.size=some _:=Yo _ rfl;have g4:(zT5 s.heap l1 l2).get? (zT3 s.heap l1 l2).objs.size=some _:=Ye _ (Yo _ rfl);have g3:(zT5 s.heap l1 l2).get? (zT2 s.heap l1 l2).objs.size=some _:=Ye _ (Ye _ (Yo _ rfl));have g2:(zT5 s.heap l1 l2).get? (zT1 s.heap l1).objs.size=some _:=Ye _ (Ye _ (Ye _ (Yo _ rfl)));have g1:(zT5 s.heap l1 l2).get? s.heap.objs.size=some _:=Ye _ (Ye _ (Ye _ (Ye _ (Yo _ rfl))));show _/\_;rw[z2,z3,z4]at g5;rw[z1,z2]at g3;rw[z3]at g4;rw[z1]at g2;rw[z4];exact⟨⟨_,g5,rfl⟩,h _ g5 g3 g4 (show Heap.IsTupleIter _ _ _ _ from⟨_,g1,rfl,rfl⟩) (show Heap.IsTupleIter _ _ _ _ from⟨_,g2,rfl,rfl⟩) fun c o e=>up e⟩
end
def SqB(b:Bool)(K:Kq)(H:Hp)(a:Addr)(xs:List V):Prop:=if b=true then SqL K H a xs else SqT K H a xs
def Itz(b:Bool)(K:Kq)(a1 a2:Addr):It:=
  ⟨fun i H=>∃xs ys x y,SqB b K H a1 xs/\SqB b K H a2 ys/\xs[i]?=some x/\ys[i]?=some y,
   fun i H u H'=>∃p x y,H p=none/\u=.ref p/\H'=upd H p (.tup [x,y])/\(∀xs,SqB b K H a1 xs->xs[i]?=some x)/\∀ys,SqB b K H a2 ys->ys[i]?=some y,
   fun i H=>∃xs ys,SqB b K H a1 xs/\SqB b K H a2 ys/\xs.length<=i⟩
theorem Inv.sqB{X:Cx}{pz:Kp}{σ:St}{H:Hp}{s:Shared}{b:Bool}{a:Addr}{xs:List V}(I:Inv X pz σ H s)(h:SqB b X.K H a xs):∃its:List Value,Vals xs its/\SSq b s.heap a its.toArray:=by
 cases b with
 |true=>obtain⟨its,rv,p,_⟩:=I.list h;exact⟨its,rv,p.isList⟩
 |false=>obtain⟨its,rv,p,_⟩:=I.tuple h;exact⟨its,rv,p⟩
theorem Inv.sqB_inj{X:Cx}{pz:Kp}{σ:St}{H:Hp}{s:Shared}{b:Bool}{a:Addr}{xs ys:List V}(I:Inv X pz σ H s)(h:SqB b X.K H a xs)(h':SqB b X.K H a ys):xs=ys:=by
 cases b with
 |true=>exact I.list_inj h h'
 |false=>exact I.tuple_inj h h'
theorem Rd.no{H:Hp}{a:Addr}{o:HO}(h:Rd H a o)(n:H a=none):False:=by
 rcases h with h|⟨u,h⟩
 ·rw[n]at h;cases h
 ·rw[n]at h;cases h
theorem Inv.sq_out{X:Cx}{pz:Kp}{σ:St}{H:Hp}{s:Shared}{b:Bool}{a c:Addr}{ws:List V}(I:Inv X pz σ H s)(hf:e7 X pz H c)(h:SqB b X.K H a ws):a≠c:=by
 intro e;subst e;have kk:∀o,X.K.lookup a=some o->False:=fun o hk=>by
  have hb:X.base.get? a=some o:=I.mod.kin a o hk;rcases hf.2.2.2.1 with z|z
  ·exact I.ok.noex a o hb z
  ·exact absurd (Ys (Yq (I.ok.bs a o hb).1) z) (Zb _)
 cases b with
 |true=>
  rcases(show SqL X.K H a ws from h)with h|⟨o,its,n,hk,_⟩
  ·exact h.no hf.1
  ·exact kk o hk
 |false=>
  rcases(show SqT X.K H a ws from h)with h|⟨o,its,n,hk,_⟩
  ·exact h.no hf.1
  ·exact kk o hk
theorem uN{P:Program}{w:World}{K:Kq}{elts:List Expr}{kk:Nat}{pos:Pos}{b:Bool}(z TI TO i1 i2 a1 a2:Addr)(D:∀l1 l2:Addr,l1∉[z,TO,i1,i2]->l2∉[z,TO,i1,i2]->ZipApart z TI TO i1 i2 l1 l2) :
  Turn P w K (.Tuple elts kk pos) (Itz b K a1 a2) [z,TI,TO,i1,i2] z (fun i h=>IsZip h z TI TO .none/\IsPair h TI (.ref i1) (.ref i2)/\(∃u v,IsPair h TO u v)/\SIt b h i1 a1 i/\SIt b h i2 a2 i) where
 mem:=by simp
 obj:=fun i h st c hc=>by
  obtain⟨h1,h2,⟨u,v,h3⟩,h4,h5⟩:=st;have hc':c=z\/c=TI\/c=TO\/c=i1\/c=i2:=by simpa using hc
  rcases hc' with rfl|rfl|rfl|rfl|rfl
  ·exact⟨_,h1,fun v z=>by cases z⟩
  ·exact⟨_,h2,fun v z=>by cases z⟩
  ·exact⟨_,h3,fun v z=>by cases z⟩
  ·exact h4.obj
  ·exact h5.obj
 keep:=fun i h h' st k=>by
  obtain⟨h1,h2,⟨u,v,h3⟩,h4,h5⟩:=st;exact⟨k z (by simp) _ h1,k TI (by simp) _ h2,⟨u,v,k TO (by simp) _ h3⟩,h4.at fun o e=>k i1 (by simp) o e,h5.at fun o e=>k i2 (by simp) o e⟩
 item:=by
  intro X hP hw hK hc i pz s σ H E I hf st hg;subst hP hw hK;obtain⟨hz,hTI,⟨u,v,hTO⟩,h1,h2⟩:=st;obtain⟨xs,ys,x,y,qx,qy,ex,ey⟩:=hg;obtain⟨itx,rx,px⟩:=I.sqB qx;obtain⟨ity,ry,py⟩:=I.sqB qy;obtain⟨ux,hux,rux⟩:=rx.get ex;obtain⟨uy,huy,ruy⟩:=ry.get ey;have hout:∀a (ws:List V),SqB b X.K H a ws->a∉[z,TO,i1,i2]:=by
   intro a ws hq hm;have hm':a∈[z,TI,TO,i1,i2]:=by simp at hm ⊢;rcases hm with q|q|q|q<;>simp[q]
   exact I.sq_out (hf a hm') hq rfl
  have D':=D a1 a2 (hout a1 xs qx) (hout a2 ys qy);have hT:s.TypeIs (.ref z) "zip":=⟨_,hz,rfl⟩
  unfold pyNext;refine Yd (wpAny_attempt (ZT (name:=Str.ofString "__next__") hT XQ (Xk XQ hT F.entry_zip_next
   (vE D' hz hTI hTO h1 h2 px py (x:=ux) (y:=uy) (by simpa using hux) (by simpa using huy) fun g gz gTO g1 g2 gT gk=>YA ?_) (F.args_zip_next_1 _))))
  refine⟨_,rfl,wpAny_letOwnedTupleGo_zip gz fun h2' hz2 hs2=>?_⟩;have zlt:z<s.heap.objs.size:=Yq hz;have hTz:s.heap.objs.size≠z:=ZZ zlt;have kk2:∀c o,c∉[z,TI,TO,i1,i2]->s.heap.get? c=some o->h2'.get? c=some o:=fun c o hc e=>(hs2.2 c (fun q=>hc (by simp[q]))).trans (gk c o (fun q=>hc (by simp at q ⊢;rcases q with q|q|q|q<;>simp[q])) e)
  have hT2:IsPair h2' s.heap.objs.size ux uy:=(hs2.2 _ hTz).trans gT;have I2:Inv X pz σ (upd H s.heap.objs.size (.tup [x,y])) {s with heap:=h2' }:=
   I.turnedLaid (t':=s.toks) kk2 hf (Ym _) ⟨show 2<=sizeLine by decide,[ux,uy],.cons rux (.cons ruy .nil),⟨_,hT2,rfl,_,rfl⟩,_,hT2,rfl⟩
  have hn:H s.heap.objs.size=none:=I.hok.fresh (Ym _);refine⟨.ref s.heap.objs.size,_,I2,rfl,⟨_,x,y,hn,rfl,rfl,fun ws hy'=>by rw[I.sqB_inj hy' qx];exact ex,fun ws hy'=>by rw[I.sqB_inj hy' qy];exact ey⟩,⟨hz2,(hs2.2 _ D'.TIz).trans (gk _ _ (by simp[D'.TIz,D'.TITO,D'.TIi1,D'.TIi2]) hTI),⟨_,_,(hs2.2 _ D'.TOz).trans gTO⟩,g1.at fun o e=>(hs2.2 _ D'.i1z).trans e,g2.at fun o e=>(hs2.2 _ D'.i2z).trans e⟩,fun c hc=>?_⟩;have hlt:c<s.heap.objs.size:=by
   have hc':c=z\/c=TI\/c=TO\/c=i1\/c=i2:=by simpa using hc
   rcases hc' with rfl|rfl|rfl|rfl|rfl
   ·exact zlt
   ·exact Yq hTI
   ·exact Yq hTO
   ·obtain⟨o,e,_⟩:=h1.obj;exact Yq e
   ·obtain⟨o,e,_⟩:=h2.obj;exact Yq e
  rw[aA (YG hlt)];exact(hf c hc).1
 done:=by
  intro X hP hw hK hc i pz s σ H E I hf st hg;subst hP hw hK;obtain⟨hz,hTI,⟨u,v,hTO⟩,h1,h2⟩:=st;obtain⟨xs,ys,qx,qy,hl⟩:=hg;obtain⟨itx,rx,px⟩:=I.sqB qx;obtain⟨ity,ry,py⟩:=I.sqB qy;have hout:∀a (ws:List V),SqB b X.K H a ws->a∉[z,TO,i1,i2]:=by
   intro a ws hq hm;have hm':a∈[z,TI,TO,i1,i2]:=by simp at hm ⊢;rcases hm with q|q|q|q<;>simp[q]
   exact I.sq_out (hf a hm') hq rfl
  have D':=D a1 a2 (hout a1 xs qx) (hout a2 ys qy);have hT:s.TypeIs (.ref z) "zip":=⟨_,hz,rfl⟩
  have hlen:=rx.length;unfold pyNext;refine Yd (wpAny_attempt (ZT (name:=Str.ofString "__next__") hT XQ (Xk XQ hT F.entry_zip_next
   (yc (I.ok.hd hc) D' hz hTI hTO h1 h2 px py (by simp;omega) fun g e gk ⟨o,e1,e2⟩=>?_) (F.args_zip_next_1 _))))
  refine Yd (wpAny_isInstance (T := "StopIteration") (b:=true) ⟨o,e1,e2⟩ isSubtype_stop (YA ⟨rfl,?_⟩));exact I.turnedL (t':=s.toks) (fun c o hc e=>gk c o (fun q=>hc (by simp at q ⊢;rcases q with q|q|q|q<;>simp[q])) e) hf
 self:=fun _ _ _ _ _ st h=>wpAny_pyIter_zip st.1 h
section
variable{X:Cx}{e1 e2:Expr}{elts:List Expr}{kk:Nat}{tpos pos p:Pos}
def CP(K:Kq)(ta:TA):TI:=fun σ H R=>ta σ H fun vs H1=>∃b a1 a2,vs=[.ref a1,.ref a2]/\(∃xs,SqB b K H1 a1 xs)/\(∃ys,SqB b K H1 a2 ys)/\R (Itz b K a1 a2) H1
theorem u3:bootBuiltins "zip"=some (.type "zip"):=by rfl
theorem yK{ta:TA}(hg:Gl X "zip")(hm:X.mg "zip"=none)(ha:PA X [e1,e2] ta)(hs:starEach [e1,e2] X.env=[(false,eval e1 X.env),(false,eval e2 X.env)]:=by rfl)(hs2:starEach [e2] X.env=[(false,eval e2 X.env)]:=by rfl):PI X (.Tuple elts kk tpos) (.Call (.Name "zip" p) [e1,e2] [] pos) (CP X.K ta):=by
 intro pz s σ H R I h;refine Call_ (gD I hg hm u3 (ZE (thn (ha pos pz s σ H _ I h) fun us s1 ⟨vs,H1,I1,r1,q1⟩=>?_) (by rw[hs,hs2]) (by rw[hs2];rfl)));obtain⟨b,a1,a2,e,⟨xs,qx⟩,⟨ys,qy⟩,q⟩:=q1;subst e;cases r1 with
 |cons ra rr=>
 cases rr with
 |cons rb rr=>
 cases rr;cases ra;cases rb;obtain⟨itx,rx,px⟩:=I1.sqB qx;obtain⟨ity,ry,py⟩:=I1.sqB qy;refine wL px py fun g gz gTI gTO g1 g2 kp=>?_;have I2:Inv X pz σ H1 {s1 with heap:=g}:=I1.kept (t':=s1.toks) kp;refine wpAny_pyIter_zip gz ?_;refine⟨s1.heap.objs.size+4,[s1.heap.objs.size+4,s1.heap.objs.size+2,s1.heap.objs.size+3,s1.heap.objs.size,s1.heap.objs.size+1],_,_,H1,rfl,I2,uN _ _ _ _ _ a1 a2 (fun l1 l2 n1 n2=>?_),⟨gz,gTI,⟨_,_,gTO⟩,g1,g2⟩,fun b hb=>?_,q⟩
 ·simp only[YF,List.not_mem_nil,or_false,not_or]at n1 n2;obtain⟨n11,n12,n13,n14⟩:=n1;obtain⟨n21,n22,n23,n24⟩:=n2;constructor<;>first|assumption|exact YG (by omega)|exact ZZ (by omega)
 ·have hge:s1.heap.objs.size<=b:=by simp only[YF,List.not_mem_nil,or_false]at hb;rcases hb with rfl|rfl|rfl|rfl|rfl<;>first|exact Ym _|exact Nat.le_add_right _ _
  exact I1.fpOk hge (I1.hok.fresh hge)
def ip(as bs:List D):List D:=(as.zip bs).map fun x=>.tup [x.1,x.2]
def iN(f g:Dd):DF->Option (List D):=fun ρ=>match f ρ,g ρ with
 |some (.lst as),some (.lst bs)=>if as.length=bs.length then some (ip as bs)else none
 |some (.tup as),some (.tup bs)=>if as.length=bs.length then some (ip as bs)else none
 |_,_=>none
theorem mW{as bs:List D}{i:Nat}{d:D}(h:(ip as bs)[i]?=some d):∃x y,as[i]?=some x/\bs[i]?=some y/\d=.tup [x,y]:=by
 unfold ip at h;rw[Yw]at h;cases q:(as.zip bs)[i]? with
 |none=>rw[q]at h;cases h
 |some z=>
  rw[q]at h;cases h;obtain⟨h1,h2⟩:=List.getElem?_zip_eq_some.mp q;exact⟨z.1,z.2,h1,h2,rfl⟩
theorem mt{K:Kq}{P F:Hp}{b:Bool}{a1 a2:Addr}{vs us:List V}{as bs:List D}(h1:∀F' H',Same F F'->DHp P F' H'->SqB b K H' a1 vs)(h2:∀F' H',Same F F'->DHp P F' H'->SqB b K H' a2 us)(r1:Reps K F vs as)(r2:Reps K F us bs)(hl:as.length=bs.length):rm K P (Itz b K a1 a2) F (ip as bs):=by intro F' H' e hp i;refine⟨fun d hd=>?_,fun hle=>⟨vs,us,h1 F' H' e hp,h2 F' H' e hp,by rw[r1.length];simpa[ip,hl]using hle⟩⟩;obtain⟨x,y,hx,hy,rfl⟩:=mW hd;obtain⟨v,e1,q1⟩:=r1.get hx;obtain⟨u,e2,q2⟩:=r2.get hy;refine⟨⟨vs,us,v,u,h1 F' H' e hp,h2 F' H' e hp,e1,e2⟩,fun w H2 hy'=>?_⟩;obtain⟨q,v',u',hn,rfl,rfl,hv,hu⟩:=hy';have t1:=hv vs (h1 F' H' e hp);have t2:=hu us (h2 F' H' e hp);rw[e1]at t1;cases t1;rw[e2]at t2;cases t2;have ev:=Evo.laid hp (o:=.tup [v,u]) hn;exact⟨_,ev,.tup aR (.cons ((q1.same e).same ev.ext) (.cons ((q2.same e).same ev.ext) .nil))⟩
theorem p9{f g:Dd}(hg:Gl X "zip")(hm:X.mg "zip"=none)(h1:PDE X e1 f)(h2:PDE X e2 g)(hs:starEach [e1,e2] X.env=[(false,eval e1 X.env),(false,eval e2 X.env)]:=by rfl)(hs2:starEach [e2] X.env=[(false,eval e2 X.env)]:=by rfl):PDI X (.Tuple elts kk tpos) (.Call (.Name "zip" p) [e1,e2] [] pos) (iN f g):=
 PI.imp (yK hg hm (aE h1 (aE h2 bp hs2) (by rw[hs,hs2])) hs hs2) fun σ H R ⟨P,F,ρ,ds,hf,I,k⟩=>by
  unfold iN at hf;split at hf
  ·rename_i as bs qa qb;split at hf
   ·rename_i hl;cases hf;refine⟨P,F,ρ,_,qa,I,fun v F1 H1 ev1 rv=>⟨P,F1,ρ,_,qb,I.evo ev1,fun u F2 H2 ev2 ru=>?_⟩⟩;cases rv with
    |lst x1 x2=>
     cases ru with
     |lst y1 y2=>
      refine⟨true,_,_,rfl,⟨_,ev2.hp.sub.seq (ev2.ext.seq x1)⟩,⟨_,ev2.hp.sub.seq y1⟩,k _ F2 H2 (ev1.trans ev2) (mt (fun F' H' e hp=>hp.sub.seq (e.seq (ev2.ext.seq x1))) (fun F' H' e hp=>hp.sub.seq (e.seq y1)) (x2.same ev2.ext) y2 hl)⟩
   ·cases hf
  ·rename_i as bs qa qb;split at hf
   ·rename_i hl;cases hf;refine⟨P,F,ρ,_,qa,I,fun v F1 H1 ev1 rv=>⟨P,F1,ρ,_,qb,I.evo ev1,fun u F2 H2 ev2 ru=>?_⟩⟩;cases rv with
    |tup x1 x2=>
     cases ru with
     |tup y1 y2=>
      refine⟨false,_,_,rfl,⟨_,SqT.of (ev2.hp.sub _ _ (ev2.ext _ _ x1))⟩,⟨_,SqT.of (ev2.hp.sub _ _ y1)⟩,k _ F2 H2 (ev1.trans ev2) (mt (fun F' H' e hp=>SqT.of (hp.sub _ _ (e _ _ (ev2.ext _ _ x1)))) (fun F' H' e hp=>SqT.of (hp.sub _ _ (e _ _ y1))) (x2.same ev2.ext) y2 hl)⟩
   ·cases hf
  ·cases hf
end
section
variable{prog:Program}{w:World}{A:Around}{s:Shared}{R:Kr}
variable{I:Addr}{fp wr:List Addr}{n:Nat}{P:Nat->Value->Prop}{St:Nat->Heap->Prop}{T:String}
end
section
variable{prog:Program}{w:World}{A:Around}{E:Kv}{s:Shared}
variable{I:Addr}{fp wr:List Addr}{n:Nat}{P:Nat->Value->Prop}{St:Nat->Heap->Prop}{T:String}
end
section
variable{prog:Program}{w:World}{A:Around}{E:Kv}{s:Shared}
end
section
variable{X:Cx}{e a:Expr}{p p' p2 pos cpos rpos:Pos}{t:TA}
variable{fa:Dd}
end
theorem All2.mem{α β:Type}{R:α->β->Prop}{as:List α}{bs:List β}(h:All2 R as bs){a:α}(ha:a∈as):∃b∈bs,R a b:=by
 induction h with
 |nil=>cases ha
 |cons q _ ih=>
  rcases YF.mp ha with rfl|ha
  ·exact⟨_,Yf,q⟩
  ·obtain⟨b,h1,h2⟩:=ih ha;exact⟨b,Yc _ h1,h2⟩
section
variable{X:Cx}{a b e:Expr}{pos:Pos}
def du(i:Nat)(g:Dk):DF->Option Bool:=fun ρ=>match ρ[i]? with
 |some (some (.own o _))=>g (ρ.set i (some (.v o.d)))
 |_=>none
theorem iz(i:Nat){g:Dk}(h:PDT X e g):PDT X e (du i g):=PT.imp h fun σ H Q=>un7 fun P F ρ b hf I k=>by
 unfold du at hf;split at hf
 ·rename_i o t q;obtain⟨F1,e1,I1⟩:=I.frz q;exact⟨P,F1,_,b,hf,I1,fun F' H' ev=>k F H' ⟨Same.refl _,⟨(e1.trans ev.ext).trans ev.hp.sub,ev.hp.pro,I.dis⟩,fun a u hH hF=>⟨Evo.same I1.toDHp ev a u hH,hF⟩⟩⟩
 ·cases hf
end
end L2
namespace L2
open PySem PySem.Spec PySem.W PyProof.Rows
section
variable{X:Cx}{k:Nat}{f:Addr}{fd:FuncData}{ps:List Str}{mM:Dz}{x:Str}{p pos spos:Pos}{e0 e1 e2 e3 e4:Expr}{f0 f1 f2 f4:Dd}
end
theorem vG{X:Cx}{pos:Pos}:PD1 X (.Return none pos) (bb fun _=>some .non):=PS.imp vR fun E σ H=>un7 fun P F ρ r hr I k=>by
 cases hr;exact k .non σ F H (Same.refl _) I .non
structure Sep (K:PySem.W.Frag) (P F H:Hp) (ρ:DF) (σ:St) (b:Addr):Prop extends DHp P F H where
 len:ρ.length=σ.length
 rep:∃O:Addr->Option Nat,∀(i:Nat) (x:DV),ρ[i]?=some (some x)->∃v,σ[i]?=some (some v)/\DVRep K P F H (fun c=>O c=some i/\c≠b) x v
theorem DInv.sepV{K:Kq}{P F H:Hp}{ρ:DF}{σ:St}(I:DInv K P F H ρ σ){j:Nat}{ds:List D}{t:Option Addr}(hj:ρ[j]?=some (some (.own (.lst ds) t))) :
  ∃b,σ[j]?=some (some (.ref b))/\F b=none/\P b=none/\(∃u,H b=some u/\ORep1 K F (.lst ds) u)/\Sep K P F H (ρ.set j none) σ b:=by
 obtain⟨O,hR⟩:=I.rep;obtain⟨_,g1,b,rfl,⟨⟨fb,pb,ob⟩,u,g3,g4⟩,_⟩:=hR j _ hj;refine⟨b,g1,fb,pb,⟨u,g3,g4⟩,I.toDHp,by rw[YY];exact I.len,O,fun m x hm=>?_⟩;rcases c6 hm with⟨rfl,e,hl⟩|⟨hjm,hm'⟩
 ·cases e
 ·obtain⟨v,h1,h2⟩:=hR m x hm';exact⟨v,h1,h2.imp fun c w _ _ _ q=>⟨q,fun z=>by subst z;rw[ob]at q;exact hjm (Yr q)⟩⟩
theorem DInv.sepN{K:Kq}{P F H F' H':Hp}{ρ:DF}{σ:St}(I:DInv K P F H ρ σ){b:Addr}(hb:H b=none)(ev:Evo P F H F' H'):Sep K P F' H' ρ σ b:=by obtain⟨O,hR⟩:=I.rep;refine⟨ev.hp,I.len,O,fun m x hm=>?_⟩;obtain⟨v,h1,h2⟩:=hR m x hm;exact⟨v,h1,DVRep.evo ev (h2.imp fun c w _ _ hc q=>⟨q,fun z=>by subst z;rw[hb]at hc;cases hc⟩)⟩
theorem Sep.evo{K:Kq}{P F H F' H':Hp}{ρ:DF}{σ:St}{b:Addr}(I:Sep K P F H ρ σ b)(ev:Evo P F H F' H'):Sep K P F' H' ρ σ b:=
 ⟨ev.hp,I.len,by obtain⟨O,hR⟩:=I.rep;exact⟨O,fun m x hm=>by obtain⟨v,h1,h2⟩:=hR m x hm;exact⟨v,h1,h2.evo ev⟩⟩⟩
theorem Sep.into{K:Kq}{P F H:Hp}{ρ:DF}{σ:St}{b:Addr}(I:Sep K P F H ρ σ b){i:Nat}{dss:List (List D)}{ds:List D}{t:Option Addr}(hi:ρ[i]?=some (some (.own (.lst2 dss) t)))(fb:F b=none)(pb:P b=none)(hu:∃u,H b=some u/\ORep1 K F (.lst ds) u) :
  ∃(a:Addr) (bs:List Addr),σ[i]?=some (some (.ref a))/\H a=some (.lst (bs.map .ref))/\bs.length=dss.length/\DInv K P F (upd H a (.lst (bs.map .ref++[.ref b]))) (ρ.set i (some (.own (.lst2 (dss++[ds])) t))) σ:=by
 obtain⟨O,hR⟩:=I.rep;obtain⟨u,g3,g4⟩:=hu;obtain⟨_,h1,a,rfl,⟨⟨fa,pa,oa,ab⟩,bs,h3,h4,h5⟩,ht⟩:=hR i _ hi;obtain⟨n1,n2⟩:=Zp.mp h4;have nb:b∉bs:=fun z=>by
  obtain⟨x,_,⟨_,_,_,y⟩,_⟩:=h5.mem z;exact y rfl
 refine⟨a,bs,h1,h3,h5.length,⟨fun c w e=>by rw[aA (aO e fa)];exact I.sub c w e,fun c w e=>by rw[aA (aO e pa)];exact I.pro c w e,I.dis⟩,by rw[YY];exact I.len,?_⟩
 classical
 refine⟨fun c=>if c=b then some i else O c,fun m z hm=>?_⟩;have keepO:∀{c:Addr}{m:Nat},O c=some m->c≠b->(if c=b then some i else O c)=some m:=fun h h'=>by rw[Yn h'];exact h
 rcases c6 hm with⟨rfl,e,hl⟩|⟨him,hm'⟩
 ·cases e;refine⟨_,h1,a,rfl,⟨⟨fa,pa,keepO oa ab⟩,bs++[b],by rw[aR,Zf];rfl,?_,?_⟩,ht⟩
  ·rw[<-List.cons_append];refine XX.mpr ⟨h4,by simp,fun x hx y hy=>?_⟩;rw[YU]at hy;subst hy;rcases YF.mp hx with rfl|hx
   ·exact ab
   ·exact fun z=>by subst z;exact nb hx
  ·refine All2.app (h5.impM fun c x hc ⟨⟨c1,c2,c3,c3'⟩,w,c4,c5⟩=>?_) (.cons ?_ .nil)
   ·have ca:c≠a:=fun z=>by subst z;exact n1 hc
    exact⟨⟨c1,c2,keepO c3 c3'⟩,w,by rw[aA ca];exact c4,c5⟩
   ·exact⟨⟨fb,pb,Yi rfl⟩,u,by rw[aA (XD ab)];exact g3,g4⟩
 ·obtain⟨w,e1,e2⟩:=hR m z hm';refine⟨w,e1,?_⟩;cases z with
  |v d'=>exact e2
  |own od t'=>
   obtain⟨c,rfl,e3,ht'⟩:=e2;refine⟨c,rfl,e3.mono (Same.refl _) fun c' w' q hb=>⟨?_,q.1,q.2.1,keepO q.2.2.1 q.2.2.2⟩,ht'⟩;rw[aA (fun z=>by subst z;have q2:O _=some m:=q.2.2.1;rw[oa]at q2;exact him (Yr q2))];exact hb
  |bor od=>exact e2
noncomputable def gdL (O:Addr->Option Nat)(P F H:Hp)(i:Nat)(b:Addr):Hp:=fun c=>open Classical in if(O c=some i/\P c=none)\/c=b\/F c≠none then none else H c
theorem Sep.lend{K:Kq}{P F H:Hp}{ρ:DF}{σ:St}{b:Addr}(I:Sep K P F H ρ σ b){i:Nat}{dss:List (List D)}{t:Option Addr}(hi:ρ[i]?=some (some (.own (.lst2 dss) t)))(pb:P b=none) :
  ∃(a:Addr) (P':Hp),σ[i]?=some (some (.ref a))/\DHp P' F H/\P' b=none/\ORep K F H (fun c=>(F c=none/\P' c=none)/\c≠b) (.lst2 dss) a /\
   ∀F' H' dss',Same F F'->DHp P' F' H'->ORep K F' H' (fun c=>F' c=none/\P' c=none) (.lst2 dss') a->DInv K P F' H' (ρ.set i (some (.own (.lst2 dss') t))) σ:=by
 obtain⟨O,hR⟩:=I.rep;obtain⟨_,h1,a,rfl,h2,ht⟩:=hR i _ hi;have off:∀{c:Addr},(O c=some i/\P c=none)\/c=b\/F c≠none->gdL O P F H i b c=none:=fun h=>by unfold gdL;exact Yi h
 have on:∀{c:Addr},¬((O c=some i/\P c=none)\/c=b\/F c≠none)->gdL O P F H i b c=H c:=fun h=>by unfold gdL;exact Yn h
 have isP:∀{c:Addr}{w:HO},P c=some w->gdL O P F H i b c=some w:=fun{c w} h=>by
  rw[on,I.pro c w h];rintro (⟨_,q⟩|q|q)
  ·rw[h]at q;cases q
  ·subst q;rw[h]at pb;cases pb
  ·exact q (I.dis c w h)
 refine⟨a,gdL O P F H i b,h1,⟨I.sub,fun c w e=>?_,fun c w e=>?_⟩,off (.inr (.inl rfl)),ORep.mono (o:=.lst2 dss) (Same.refl _) (fun c w q hc=>⟨hc,⟨q.1,off (.inl ⟨q.2.2.1,q.2.1⟩)⟩,q.2.2.2⟩) h2,fun F' H' dss' eF hp ho=>?_⟩
 ·by_cases q:(O c=some i/\P c=none)\/c=b\/F c≠none
  ·rw[off q]at e;cases e
  ·rw[on q]at e;exact e
 ·by_cases q:(O c=some i/\P c=none)\/c=b\/F c≠none
  ·rw[off q]at e;cases e
  ·cases z:F c with
   |none=>rfl
   |some u=>exact absurd (.inr (.inr (by rw[z];simp))) q
 ·classical
  refine⟨⟨hp.sub,fun c w e=>hp.pro c w (isP e),fun c w e=>hp.dis c w (isP e)⟩,by rw[YY];exact I.len,fun c=>if gdL O P F H i b c=none then some i else O c,fun m z hm=>?_⟩;rcases c6 hm with⟨rfl,e,hl⟩|⟨him,hm'⟩
  ·cases e;refine⟨_,h1,a,rfl,ORep.mono (o:=.lst2 dss') (Same.refl _) (fun c w q hc=>⟨hc,q.1,?_,Yi q.2⟩) ho,ht⟩;cases z:P c with
   |none=>rfl
   |some u=>rw[isP z]at q;cases q.2
  ·obtain⟨w,e1,e2⟩:=hR m z hm';refine⟨w,e1,?_⟩;cases z with
   |v d'=>exact Rep.same eF e2
   |own od t'=>
    obtain⟨c,rfl,e3,ht'⟩:=e2;refine⟨c,rfl,e3.mono eF fun c' w' q hc=>?_,ht'⟩;have hg:gdL O P F H i b c'=some w':=by
     rw[on,hc];rintro (⟨z,_⟩|z|z)
     ·rw[q.2.2.1]at z;exact him (Yr z).symm
     ·exact q.2.2.2 z
     ·exact z q.1
    exact⟨hp.pro c' w' hg,hp.dis c' w' hg,q.2.1,(Yn (by rw[hg];simp)).trans q.2.2.1⟩
   |bor od=>(obtain⟨c,rfl,e3⟩:=e2;exact⟨c,rfl,e3.mono eF fun c' w' q hb=>⟨hb,q⟩⟩)
def spL(K:Kq)(m:List (List D)->List D->List DV->Option (List (List D))):Sp:=fun vs H Q _=>∃v0 v1 b a v4 P F x0 x1 x4 dss ds dss',vs=[v0,v1,.ref b,.ref a,v4]/\m dss ds [x0,x1,x4]=some dss'/\DHp P F H/\(F b=none/\P b=none)/\(∃u,H b=some u/\ORep1 K F (.lst ds) u) /\
 ORep K F H (fun c=>(F c=none/\P c=none)/\c≠b) (.lst2 dss) a/\DVs K P F H [x0,x1,x4] [v0,v1,v4]/\∀F' H',Same F F'->DHp P F' H'->ORep K F' H' (fun c=>F' c=none/\P c=none) (.lst2 dss') a->Q .non H'
def pQ(a:Addr)(q:List (List D)):RES->Prop
 |.nx ρ=>ρ[3]?=some (some (.own (.lst2 q) (some a)))
 |.rt x ρ=>x=.v .non/\ρ[3]?=some (some (.own (.lst2 q) (some a)))
 |_=>False
theorem rK{a:Addr}{q q':List (List D)}{r:RES}(h:pQ a q r)(h':pQ a q' r):q=q':=by
 cases r with
 |nx ρ=>have h1:ρ[3]?=_:=h;have h2:ρ[3]?=_:=h';rw[h1]at h2;cases h2;rfl
 |rt x ρ=>obtain⟨_,h1⟩:=h;obtain⟨_,h2⟩:=h';rw[h1]at h2;cases h2;rfl
 |bk ρ=>cases h
 |ct ρ=>cases h
def yM(n:Nat)(g:Dw)(dss:List (List D))(ds:List D)(xs:List DV)(q:List (List D)):Prop:=∃x0 x1 x4,xs=[x0,x1,x4]/\∀a,∃r,g (aQ n 5 [x0,x1,.own (.lst ds) none,.own (.lst2 dss) (some a),x4])=some r/\pQ a q r
noncomputable def qR (n:Nat)(g:Dw)(dss:List (List D))(ds:List D)(xs:List DV):Option (List (List D)):=
 open Classical in if h:∃q,yM n g dss ds xs q then some h.choose else none
theorem wK{n:Nat}{g:Dw}{dss:List (List D)}{ds:List D}{xs:List DV}{q:List (List D)}(h:qR n g dss ds xs=some q):yM n g dss ds xs q:=by
 unfold qR at h;split at h
 ·rename_i hq;rw[<-Yr h];exact hq.choose_spec
 ·cases h
theorem pY{n:Nat}{g:Dw}{dss:List (List D)}{ds:List D}{x0 x1 x4:DV}{q:List (List D)}(h:∀a,∃r,g (aQ n 5 [x0,x1,.own (.lst ds) none,.own (.lst2 dss) (some a),x4])=some r/\pQ a q r):qR n g dss ds [x0,x1,x4]=some q:=by
 have hq:∃q,yM n g dss ds [x0,x1,x4] q:=⟨q,x0,x1,x4,rfl,h⟩
 unfold qR;rw[dif_pos hq];obtain⟨y0,y1,y4,e0,h3⟩:=hq.choose_spec;cases e0;obtain⟨r,e,z⟩:=h3 0;obtain⟨r',e',z'⟩:=h 0;rw[e']at e;cases e;exact Zi some (rK z z')
theorem DInv.startL{K:Kq}{P F H:Hp}{x0 x1 x4:DV}{v0 v1 v4:V}{a b:Addr}{dss:List (List D)}{ds:List D}(N:List Str)(h:DHp P F H)(hf:F b=none)(hp:P b=none)(hu:∃u,H b=some u/\ORep1 K F (.lst ds) u)(ho:ORep K F H (fun c=>(F c=none/\P c=none)/\c≠b) (.lst2 dss) a)(r:DVs K P F H [x0,x1,x4] [v0,v1,v4]) :
  DInv K P F H (aQ N.length 5 [x0,x1,.own (.lst ds) none,.own (.lst2 dss) (some a),x4]) (L2.start N [v0,v1,.ref b,.ref a,v4]):=by
 refine⟨h,?_,fun c=>if c=b then some 2 else some 3,fun i x e=>?_⟩
 ·unfold aQ L2.start;rw[Yj,Yj,Yb,Yb,Yz,Yz];rfl
 ·have e':=fr e;have old:∀(j:Nat) (y:DV) (z:V),[x0,x1,x4][j]?=some y->[v0,v1,v4][j]?=some z->∀(O:Addr->Option Nat),DVRep K P F H (fun b=>O b=some i) y z:=fun j y z h1 h2 O=>by
   obtain⟨hno,v,h3,h4⟩:=r.get h1;rw[h2]at h3;cases h3;cases y with
   |own o t=>cases hno
   |v d=>exact h4
   |bor o=>exact h4
  match i,e' with
  |0,e'=>cases e';exact⟨v0,cr (i:=0) rfl,old 0 _ _ rfl rfl _⟩
  |1,e'=>cases e';exact⟨v1,cr (i:=1) rfl,old 1 _ _ rfl rfl _⟩
  |2,e'=>cases e';exact⟨.ref b,cr (i:=2) rfl,b,rfl,⟨⟨hf,hp,Yi rfl⟩,hu⟩,fun b z=>by cases z⟩
  |3,e'=>cases e';exact⟨.ref a,cr (i:=3) rfl,a,rfl,ORep.mono (o:=.lst2 dss) (Same.refl _) (fun c w q hc=>⟨hc,q.1.1,q.1.2,Yn q.2⟩) ho,fun b z=>by cases z;rfl⟩
  |4,e'=>cases e';exact⟨v4,cr (i:=4) rfl,old 2 _ _ rfl rfl _⟩
  |i+5,e'=>cases e'
theorem Fun.okL{P:Program}{w:World}{K:Kq}{mg:Ks}{base:Heap}{x qual:Str}{st:Stmt}{f:Addr}{fd:FuncData}{N ps:List Str}{k:Nat}{g:Dw}(F:Fun K x qual st f fd)(S:FnScope N ps (defScope st))(hp5:ps.length=5)
  (hbody:∀(cdv:Value) (A:Around) (outer:List Env) (s:Shared) (H:Hp) (E:XK),Room k (A.deeper (envOfC qual (defScope st) s.heap.objs.size f cdv))->
   PDS (lp CX0 P w K mg base N qual (defScope st) f cdv A outer s H E).nox (defBody st) g):FnOk P w K mg base CX0 (k+1) f fd ps (spL K (qR N.length g)):=by
 refine F.ok S (fun vs H Q E hh_=>?_) fun cdv A outer s H vs Q E hr h=>?_
 ·obtain⟨v0,v1,b,a,v4,_,_,_,_,_,_,_,_,rfl,_⟩:=hh_;exact hp5.symm
 ·refine⟨_,hbody cdv A outer s H E hr,?_⟩;obtain⟨v0,v1,b,a,v4,P',F',x0,x1,x4,dss,ds,dss',rfl,h1,hp,⟨hf,hP⟩,hu,ho,hv,hQ⟩:=h;obtain⟨y0,y1,y4,e0,hq⟩:=wK h1;cases e0;obtain⟨r,hg,he⟩:=hq a;have I:=DInv.startL N hp hf hP hu ho hv;refine⟨P',F',_,r,hg,I,?_⟩;have fin:∀(ρ:DF) (σ:St) (F2 H2:Hp),ρ[3]?=some (some (.own (.lst2 dss') (some a)))->Same F' F2->DInv K P' F2 H2 ρ σ->Q .non H2:=fun ρ σ F2 H2 h0 e I2=>by
   obtain⟨v',_,a',rfl,h3,h4⟩:=I2.at h0;have ea:=h4 a rfl;subst ea;exact hQ F2 H2 e I2.toDHp (ORep.mono (o:=.lst2 dss') (Same.refl _) (fun c w q hc=>⟨hc,q.1,q.2.1⟩) h3)
  cases r with
  |nx ρ=>exact fun σ F2 H2 e I2=>fin ρ σ F2 H2 he e I2
  |rt x ρ=>(obtain⟨rfl,h0⟩:=he;exact fun v σ F2 H2 e I2 rv=>by cases rv;exact fin ρ σ F2 H2 h0 e I2)
  |bk ρ=>exact he.elim
  |ct ρ=>exact he.elim
theorem FnOk.neverL{P:Program}{w:World}{K:Kq}{mg:Ks}{base:Heap}{k:Nat}{f:Addr}{fd:FuncData}{ps:List Str}:FnOk P w K mg base CX0 k f fd ps (spL K fun _ _ _=>none):=
 ⟨fun _ _ _ _ z=>(by obtain⟨_,_,_,_,_,_,_,_,_,_,_,_,_,_,e,_⟩:=z;cases e),fun _ _ _ _ _ _ _ _ _ _ _ _ _ z=>(by obtain⟨_,_,_,_,_,_,_,_,_,_,_,_,_,_,e,_⟩:=z;cases e)⟩
def fF(i j:Nat)(m:List (List D)->List D->List DV->Option (List (List D)))(f0 f1 f4:Dd):DF->Option RES:=fun ρ=>match ρ[i]?,ρ[j]? with
 |some (some (.own (.lst2 dss) t)),some (some (.own (.lst ds) _))=>(f0 ρ).bind fun d0=>(f1 ρ).bind fun d1=>(f4 ρ).bind fun d4=>(m dss ds [.v d0,.v d1,.v d4]).map fun q=>.nx ((ρ.set j none).set i (some (.own (.lst2 q) t)))
 |_,_=>none
def gl(i:Nat)(m:List (List D)->List D->List DV->Option (List (List D)))(f0 f1:Dd)(f2:Dl)(f4:Dd):DF->Option RES:=fun ρ=>match ρ[i]? with
 |some (some (.own (.lst2 dss) t))=>(f0 ρ).bind fun d0=>(f1 ρ).bind fun d1=>(f2 ρ).bind fun ds=>(f4 ρ).bind fun d4=>(m dss ds [.v d0,.v d1,.v d4]).map fun q=>.nx (ρ.set i (some (.own (.lst2 q) t)))
 |_=>none
section
variable{X:Cx}{k:Nat}{f:Addr}{fd:FuncData}{ps:List Str}{m:List (List D)->List D->List DV->Option (List (List D))}{x:Str}{p pos spos:Pos}{e0 e1 e2 e3 e4:Expr}{f0 f1 f4:Dd}
theorem Sep.call{K:Kq}{P F H:Hp}{ρ:DF}{σ:St}{b:Addr}(I:Sep K P F H ρ σ b){i:Nat}{dss q:List (List D)}{ds:List D}{t:Option Addr}{a:Addr}(hi:ρ[i]?=some (some (.own (.lst2 dss) t)))(ha:σ[i]?=some (some (.ref a)))(fb:F b=none)(pb:P b=none)(hu:∃u,H b=some u/\ORep1 K F (.lst ds) u){v0 v1 v4:V}{d0 d1 d4:D}(r0:Rep K F v0 d0)(r1:Rep K F v1 d1)(r4:Rep K F v4 d4)(hm:m dss ds [.v d0,.v d1,.v d4]=some q){Q:VK}{E:XK}
  (k:∀F' H',Same F F'->DInv K P F' H' (ρ.set i (some (.own (.lst2 q) t))) σ->Q .non H'):spL K m [v0,v1,.ref b,.ref a,v4] H Q E:=by
 obtain⟨a',P',h1,hp,pb',ho,back⟩:=I.lend hi pb;rw[ha]at h1;cases h1;exact⟨v0,v1,b,a,v4,P',F,.v d0,.v d1,.v d4,dss,ds,q,rfl,hm,hp,⟨fb,pb'⟩,hu,ho,.cons rfl r0 (.cons rfl r1 (.cons rfl r4 .nil)),fun F' H' e hp' ho'=>k F' H' e (back F' H' q e hp' ho')⟩
theorem qY(i j:Nat)(G:FnOk X.prog X.w X.K X.mg X.base CX0 k f fd ps (spL X.K m))(hr:Room k X.A)(hg:Gl X x)(hm:X.mg x=some (.ref f))(hk:PySem.W.keepIn X.K (.ref f)=true)(hb:Binds X.K fd ps [])(h0:PDE X e0 f0)(h1:PDE X e1 f1)(h2:PE X e2 (cG j))(h3:PE X e3 (cG i))(h4:PDE X e4 f4)
  (hd:(x == ("__debug__":Str))=false:=by decide) (he:starEach [e0,e1,e2,e3,e4] X.env=(false,eval e0 X.env)::starEach [e1,e2,e3,e4] X.env:=by rfl) (he1:starEach [e1,e2,e3,e4] X.env=(false,eval e1 X.env)::starEach [e2,e3,e4] X.env:=by rfl) (he2:starEach [e2,e3,e4] X.env=(false,eval e2 X.env)::starEach [e3,e4] X.env:=by rfl)
  (he3:starEach [e3,e4] X.env=(false,eval e3 X.env)::starEach [e4] X.env:=by rfl) (he4:starEach [e4] X.env=(false,eval e4 X.env)::starEach [] X.env:=by rfl)
  (hpl:(backTo pos (starEach [e1,e2,e3,e4] X.env)).any (·.1)=false:=by rfl) (hsw:swapsWith (.Call (.Name x p) [e0,e1,e2,e3,e4] [] pos) none spos.line X.env=pure false:=by rfl) :
  PD1 X (.Expr (.Call (.Name x p) [e0,e1,e2,e3,e4] [] pos) spos) (fF i j m f0 f1 f4):=
 PS.imp (cK (gt G hr hg hm hk hb .nil ig (aE h0 (aE h1 (aE h2 (aE h3 (aE h4 bp he4) he3) he2) he1) he) hd he hpl) hsw) fun E σ H=>un7 fun P F ρ r hr I k=>by
  unfold fF at hr;split at hr
  ·rename_i dss t ds t' q q';have hij:i≠j:=fun z=>by subst z;rw[q]at q';cases q'
   cases q0:f0 ρ with
   |none=>rw[q0]at hr;cases hr
   |some d0=>
   cases q1:f1 ρ with
   |none=>rw[q0,q1]at hr;cases hr
   |some d1=>
   cases q4:f4 ρ with
   |none=>rw[q0,q1,q4]at hr;cases hr
   |some d4=>
    rw[q0,q1,q4,Ya,Ya,Ya]at hr;cases q5:m dss ds [.v d0,.v d1,.v d4]with
    |none=>rw[q5]at hr;cases hr
    |some res=>
     rw[q5]at hr;cases hr;refine⟨P,F,ρ,d0,q0,I,fun v0 F0 H0 ev0 r0=>⟨P,F0,ρ,d1,q1,I.evo ev0,fun v1 F1 H1 ev1 r1=>?_⟩⟩;have I1:=(I.evo ev0).evo ev1;obtain⟨b,g1,_⟩:=I1.sepV q';obtain⟨_,g2,a,rfl,_,_⟩:=I1.at q;refine⟨_,g1,_,g2,P,F1,ρ,d4,q4,I1,fun v4 F4 H4 ev4 r4=>?_⟩;have I4:=I1.evo ev4;obtain⟨b',g3,fb,pb,hu,S⟩:=I4.sepV q';rw[g1]at g3;cases g3;have qi:(ρ.set j none)[i]?=some (some (.own (.lst2 dss) t)):=by rw[YZ (XD hij)];exact q
     exact S.call (Q:=fun _ H=>E.nx σ H) (E:=fun _ _ _=>True) qi g2 fb pb hu (Rep.same (ev1.ext.trans ev4.ext) r0) (Rep.same ev4.ext r1) r4 q5 fun F5 H5 e5 I5=>k σ F5 H5 (((ev0.ext.trans ev1.ext).trans ev4.ext).trans e5) I5
  ·cases hr
theorem oV(i:Nat){f2:Dl}(G:FnOk X.prog X.w X.K X.mg X.base CX0 k f fd ps (spL X.K m))(hr:Room k X.A)(hg:Gl X x)(hm:X.mg x=some (.ref f))(hk:PySem.W.keepIn X.K (.ref f)=true)(hb:Binds X.K fd ps [])(h0:PDE X e0 f0)(h1:PDE X e1 f1)(h2:PDO X e2 (asL f2))(h3:PE X e3 (cG i))(h4:PDE X e4 f4)
  (hd:(x == ("__debug__":Str))=false:=by decide) (he:starEach [e0,e1,e2,e3,e4] X.env=(false,eval e0 X.env)::starEach [e1,e2,e3,e4] X.env:=by rfl) (he1:starEach [e1,e2,e3,e4] X.env=(false,eval e1 X.env)::starEach [e2,e3,e4] X.env:=by rfl) (he2:starEach [e2,e3,e4] X.env=(false,eval e2 X.env)::starEach [e3,e4] X.env:=by rfl)
  (he3:starEach [e3,e4] X.env=(false,eval e3 X.env)::starEach [e4] X.env:=by rfl) (he4:starEach [e4] X.env=(false,eval e4 X.env)::starEach [] X.env:=by rfl)
  (hpl:(backTo pos (starEach [e1,e2,e3,e4] X.env)).any (·.1)=false:=by rfl) (hsw:swapsWith (.Call (.Name x p) [e0,e1,e2,e3,e4] [] pos) none spos.line X.env=pure false:=by rfl) :
  PD1 X (.Expr (.Call (.Name x p) [e0,e1,e2,e3,e4] [] pos) spos) (gl i m f0 f1 f2 f4):=
 PS.imp (cK (gt G hr hg hm hk hb .nil ig (aE h0 (aE h1 (aE h2 (aE h3 (aE h4 bp he4) he3) he2) he1) he) hd he hpl) hsw) fun E σ H=>un7 fun P F ρ r hr I k=>by
  unfold gl at hr;split at hr
  ·rename_i dss t q;cases q0:f0 ρ with
   |none=>rw[q0]at hr;cases hr
   |some d0=>
   cases q1:f1 ρ with
   |none=>rw[q0,q1]at hr;cases hr
   |some d1=>
   cases q2:f2 ρ with
   |none=>rw[q0,q1,q2]at hr;cases hr
   |some ds=>
   cases q4:f4 ρ with
   |none=>rw[q0,q1,q2,q4]at hr;cases hr
   |some d4=>
    rw[q0,q1,q2,q4,Ya,Ya,Ya,Ya]at hr;cases q5:m dss ds [.v d0,.v d1,.v d4]with
    |none=>rw[q5]at hr;cases hr
    |some res=>
     rw[q5]at hr;cases hr;refine⟨P,F,ρ,d0,q0,I,fun v0 F0 H0 ev0 r0=>⟨P,F0,ρ,d1,q1,I.evo ev0,fun v1 F1 H1 ev1 r1=>⟨P,F1,ρ,.lst ds,by unfold asL;rw[q2];rfl,(I.evo ev0).evo ev1,fun b F2 H2 ev2 o2=>?_⟩⟩⟩;have I1:=(I.evo ev0).evo ev1;obtain⟨⟨b1,b2⟩,u,b3,b4⟩:=o2;obtain⟨_,g2,a,rfl,_,_⟩:=(I1.evo ev2).at q;refine⟨_,g2,P,F2,ρ,d4,q4,I1.evo ev2,fun v4 F4 H4 ev4 r4=>?_⟩;have S:=(I1.sepN b1 ev2).evo ev4;obtain⟨z1,z2⟩:=ev4.keep b u b3 b2;exact S.call (Q:=fun _ H=>E.nx σ H) (E:=fun _ _ _=>True) q g2 z2 (I1.pro.free b1) ⟨u,z1,ORep1.same (o:=.lst ds) ev4.ext b4⟩ (Rep.same ((ev1.ext.trans ev2.ext).trans ev4.ext) r0) (Rep.same (ev2.ext.trans ev4.ext) r1) r4 q5 fun F5 H5 e5 I5=>k σ F5 H5 ((((ev0.ext.trans ev1.ext).trans ev2.ext).trans ev4.ext).trans e5) I5
  ·cases hr
end
section
variable{X:Cx}{e o y:Expr}{pos apos cpos p2:Pos}
def le(i j:Nat):DF->Option RES:=fun ρ=>match ρ[i]?,ρ[j]? with
 |some (some (.own (.lst2 dss) t)),some (some (.own (.lst ds) _))=>if dss.length<16777216 then some (.nx ((ρ.set j none).set i (some (.own (.lst2 (dss++[ds])) t))))else none
 |_,_=>none
theorem uf(i j:Nat)(h:PE X o (cG i))(hy:PE X y (cG j))(hbase:attributeBase o "append" X.env (eval o X.env)=eval o X.env:=by rfl)
  (hfew:((backTo cpos (starEach [y] X.env)).all (fun x=>!x.1)&&(backToKw cpos (keywordEach [] X.env)).all (fun x=>x.1.isSome)
   && decide (([y]:List Expr).length+([]:List Keyword).length+(if([]:List Keyword).isEmpty then 0 else 1)<30))=true:=by rfl)
  (hline:(apos.endLine == cpos.line)=true:=by rfl) (hs:starEach [y] X.env=[(false,eval y X.env)]:=by rfl) (hsw:swapsWith (.Call (.Attribute o "append" apos) [y] [] cpos) none pos.line X.env=pure false:=by rfl) :
  PD1 X (.Expr (.Call (.Attribute o "append" apos) [y] [] cpos) pos) (le i j):=
 PS.imp (cK (f_ Zd Zx Zy da h (aE hy bp hs) hbase hfew hline hs rfl) hsw) fun E σ H=>un7 fun P F ρ r hr I k=>by
  unfold le at hr;split at hr
  ·rename_i dss t ds t' q q';split at hr
   ·rename_i hl;cases hr;have hij:i≠j:=fun z=>by subst z;rw[q]at q';cases q'
    obtain⟨b,g1,fb,pb,hu,S⟩:=I.sepV q';have qi:(ρ.set j none)[i]?=some (some (.own (.lst2 dss) t)):=by rw[YZ (XD hij)];exact q
    obtain⟨a,bs,h1,h3,h4,h5⟩:=S.into qi fb pb hu;exact⟨_,h1,.inl ⟨rfl,_,SqL.of h3⟩,_,g1,a,_,.ref b,rfl,rfl,h3,by rw[YQ,Yb,h4];exact hl,k σ F _ (Same.refl _) h5⟩
   ·cases hr
  ·cases hr
def iZ(i:Nat)(f:Dl):DF->Option RES:=fun ρ=>match ρ[i]? with
 |some (some (.own (.lst2 dss) t))=>(f ρ).bind fun ds=>if dss.length<16777216 then some (.nx (ρ.set i (some (.own (.lst2 (dss++[ds])) t))))else none
 |_=>none
theorem vk(i:Nat){f:Dl}(h:PE X o (cG i))(hy:PDO X y (asL f))(hbase:attributeBase o "append" X.env (eval o X.env)=eval o X.env:=by rfl)
  (hfew:((backTo cpos (starEach [y] X.env)).all (fun x=>!x.1)&&(backToKw cpos (keywordEach [] X.env)).all (fun x=>x.1.isSome)
   && decide (([y]:List Expr).length+([]:List Keyword).length+(if([]:List Keyword).isEmpty then 0 else 1)<30))=true:=by rfl)
  (hline:(apos.endLine == cpos.line)=true:=by rfl) (hs:starEach [y] X.env=[(false,eval y X.env)]:=by rfl) (hsw:swapsWith (.Call (.Attribute o "append" apos) [y] [] cpos) none pos.line X.env=pure false:=by rfl) :
  PD1 X (.Expr (.Call (.Attribute o "append" apos) [y] [] cpos) pos) (iZ i f):=
 PS.imp (cK (f_ Zd Zx Zy da h (aE hy bp hs) hbase hfew hline hs rfl) hsw) fun E σ H=>un7 fun P F ρ r hr I k=>by
  unfold iZ at hr;split at hr
  ·rename_i dss t q;cases q2:f ρ with
   |none=>rw[q2]at hr;cases hr
   |some ds=>
    rw[q2,Ya]at hr;split at hr
    ·rename_i hl;cases hr;obtain⟨_,g1,a0,rfl,⟨g2,bs0,g3,_⟩,_⟩:=I.at q;refine⟨_,g1,.inl ⟨rfl,_,SqL.of g3⟩,P,F,ρ,.lst ds,by unfold asL;rw[q2];rfl,I,fun b F2 H2 ev2 o2=>?_⟩;obtain⟨⟨b1,b2⟩,u,b3,b4⟩:=o2;obtain⟨a,bs,h1,h3,h4,h5⟩:=(I.sepN b1 ev2).into q b2 (I.pro.free b1) ⟨u,b3,b4⟩;rw[g1]at h1;cases h1;exact⟨a0,_,.ref b,rfl,rfl,h3,by rw[YQ,Yb,h4];exact hl,k σ F2 _ ev2.ext h5⟩
    ·cases hr
  ·cases hr
theorem uw:PDO X (.List [] pos) (fun _=>some (.lst2 [])):=PE.imp (bM ax) fun σ H Q=>un7 fun P F ρ ob hf I k=>by
 cases hf;refine⟨P,F,ρ,.lst [],rfl,I,fun a F' H' ev ho=>k a F' H' ev ?_⟩;obtain⟨h1,u,h2,h3⟩:=ho;cases u with
 |lst vs=>
  cases vs with
  |nil=>exact⟨h1,[],h2,by simp,.nil⟩
  |cons v vs=>cases h3
 |_=>exact h3.elim
def slT(fe:Dd)(fl fh:DF->Option (Option Int)):DF->Option D:=fun ρ=>match fe ρ with
 |some (.tup xs)=>(fl ρ).bind fun l=>(fh ρ).bind fun h=>if HT.sIx xs.length 0 l=0/\HT.sIx xs.length xs.length h=xs.length then none else some (.tup (bG xs l h))
 |_=>none
theorem rA{fe:Dd}{fl fh:DF->Option (Option Int)}{lo hi:Option Expr}(he:PDE X e fe)(hl:PDB X lo fl)(hh:PDB X hi fh):PDE X (.Subscript e (.Slice lo hi none p2) pos) (slT fe fl fh):=(iV y_ he hl hh).imp fun σ H Q=>un7 fun P F ρ d q I k=>by
 unfold slT at q;split at q
 ·rename_i xs q1;cases q2:fl ρ with
  |none=>rw[q2]at q;cases q
  |some l=>
  rw[q2,Ya]at q;cases q3:fh ρ with
  |none=>rw[q3]at q;cases q
  |some h=>
  rw[q3,Ya]at q;split at q
  ·cases q
  ·rename_i hw;cases q;refine⟨P,F,ρ,_,q1,I,fun x F1 H1 e1 rx=>⟨P,F1,ρ,l,q2,I.evo e1,fun F2 H2 e2=>⟨P,F2,ρ,h,q3,(I.evo e1).evo e2,fun F3 H3 e3=>?_⟩⟩⟩;have e123:=(e1.trans e2).trans e3;have rx3:Rep X.K F3 x (.tup xs):=Rep.same (e2.ext.trans e3.ext) rx;cases rx3 with
   |tup h1 h2=>
    rename_i a vs;refine⟨a,vs,rfl,.inl (.inl (e123.hp.sub _ _ h1)),by rw[h2.length];exact hw,fun p hp=>k _ _ _ (e123.trans (Evo.laid e123.hp hp)) (.tup aR ?_)⟩;exact Reps.same (Evo.laid (o:=.tup (lw vs l h)) e123.hp hp).ext (h2.cut l h)
 ·cases q
end
end L2
namespace My
open PySem PySem.Spec PyProof.Rows L2
noncomputable section
def top(i:Nat):Stmt:=PySem.Challenge.pw_tieword_k31_whole_all_ways.main.body.getD i (.Pass ⟨0,0,0,0⟩)
abbrev jb:Stmt:=top 30
abbrev iM:Stmt:=top 28
abbrev iG:Stmt:=top 29
abbrev js:Stmt:=top 34
abbrev d_:Stmt:=top 35
abbrev iL:Stmt:=top 33
abbrev gY:Stmt:=top 32
abbrev ic:Stmt:=top 36
abbrev gr:Stmt:=top 37
abbrev iR:Stmt:=top 43
abbrev jc:Stmt:=top 38
abbrev g9:Stmt:=top 39
abbrev i8:Stmt:=top 40
abbrev hV:Stmt:=top 41
abbrev m_:Stmt:=top 11
abbrev oM:Stmt:=top 12
abbrev nQ:Stmt:=top 13
abbrev jn:Stmt:=top 14
abbrev iI:Stmt:=top 15
abbrev jG:Stmt:=top 16
abbrev oK:Stmt:=top 17
abbrev nj:Stmt:=lA (top 18) 0
abbrev n9:Stmt:=lA (top 18) 1
abbrev g6:Stmt:=top 21
abbrev oq:Stmt:=lA (top 18) 2
abbrev gS:Stmt:=top 22
abbrev oW:Stmt:=top 23
abbrev oE:Stmt:=top 24
abbrev iX:Stmt:=top 26
abbrev og:Stmt:=top 25
abbrev jM:Stmt:=top 31
abbrev jf:Stmt:=top 42
abbrev iP:Stmt:=top 44
abbrev g7:Stmt:=top 45
set_option genInjectivity false
set_option genSizeOf false
set_option genSizeOfSpec false
structure Adr where
 C:Addr
 f_q15:Addr
 d_q15:FuncData
 f_q12:Addr
 d_q12:FuncData
 f_q21:Addr
 d_q21:FuncData
 f_q23:Addr
 d_q23:FuncData
 f_q14:Addr
 d_q14:FuncData
 f_q18:Addr
 d_q18:FuncData
 f_q28:Addr
 d_q28:FuncData
 f_q26:Addr
 d_q26:FuncData
 f_q16:Addr
 d_q16:FuncData
 f_q22:Addr
 d_q22:FuncData
 f_q24:Addr
 d_q24:FuncData
 f_q19:Addr
 d_q19:FuncData
 f_q17:Addr
 d_q17:FuncData
 f_q25:Addr
 d_q25:FuncData
 f_q6:Addr
 d_q6:FuncData
 f_q8:Addr
 d_q8:FuncData
 f_q7:Addr
 d_q7:FuncData
 f_q32:Addr
 d_q32:FuncData
 f_q29:Addr
 d_q29:FuncData
 f_q31:Addr
 d_q31:FuncData
 f_q9:Addr
 d_q9:FuncData
 f_q0:Addr
 d_q0:FuncData
 f_q2:Addr
 d_q2:FuncData
 f_q33:Addr
 d_q33:FuncData
 f_q1:Addr
 d_q1:FuncData
 f_q10:Addr
 d_q10:FuncData
 f_q5:Addr
 d_q5:FuncData
 f_q4:Addr
 d_q4:FuncData
 f_q30:Addr
 d_q30:FuncData
 f_q3:Addr
 d_q3:FuncData
 f_q27:Addr
 d_q27:FuncData
 f_q20:Addr
 d_q20:FuncData
 f_q13:Addr
 d_q13:FuncData
 f_q11:Addr
 d_q11:FuncData
 tk_MOST_PLACES:Tok
 tk_MOST_TIES:Tok
 tk_MOST_LETTERS:Tok
 tk_MOST_TOLD:Tok
structure Txt (K:PySem.W.Frag) (mg:Str->Option Value) (t:Adr):Prop where
 cl:Cls K t.C
 mkC:Mk K t.C t.f_q0
 mgC:mg "Web"=some (.ref t.C)
 na_joins:NoAttr K t.C "joins"
 na_kinds:NoAttr K t.C "kinds"
 na_ties:NoAttr K t.C "ties"
 fn_q15:Fun K "_law_fold" "_law_fold" jb t.f_q15 t.d_q15
 bd_q15:Binds K t.d_q15 ["_law_script"] []
 g_q15:mg "_law_fold"=some (.ref t.f_q15)
 fn_q12:Fun K "_law_cells" "_law_cells" iM t.f_q12 t.d_q12
 bd_q12:Binds K t.d_q12 ["_law_script","_law_at","_law_many"] []
 g_q12:mg "_law_cells"=some (.ref t.f_q12)
 fn_q21:Fun K "_law_mix" "_law_mix" iG t.f_q21 t.d_q21
 bd_q21:Binds K t.d_q21 ["_law_cell","_law_k"] []
 g_q21:mg "_law_mix"=some (.ref t.f_q21)
 fn_q23:Fun K "_law_shuffled" "_law_shuffled" js t.f_q23 t.d_q23
 bd_q23:Binds K t.d_q23 ["_law_seed","_law_many"] []
 g_q23:mg "_law_shuffled"=some (.ref t.f_q23)
 fn_q14:Fun K "_law_family" "_law_family" d_ t.f_q14 t.d_q14
 bd_q14:Binds K t.d_q14 ["_law_seed","_law_many"] []
 g_q14:mg "_law_family"=some (.ref t.f_q14)
 fn_q18:Fun K "_law_kind" "_law_kind" iL t.f_q18 t.d_q18
 bd_q18:Binds K t.d_q18 ["_law_cell","_law_seed"] []
 g_q18:mg "_law_kind"=some (.ref t.f_q18)
 fn_q28:Fun K "_law_word" "_law_word" gY t.f_q28 t.d_q28
 bd_q28:Binds K t.d_q28 ["_law_seed","_law_which"] []
 g_q28:mg "_law_word"=some (.ref t.f_q28)
 fn_q26:Fun K "_law_web" "_law_web" ic t.f_q26 t.d_q26
 bd_q26:Binds K t.d_q26 ["_law_cells_here","_law_seed","_law_many"] []
 g_q26:mg "_law_web"=some (.ref t.f_q26)
 fn_q16:Fun K "_law_great" "_law_great" gr t.f_q16 t.d_q16
 bd_q16:Binds K t.d_q16 ["_law_small","_law_cells_here","_law_seed","_law_many"] []
 g_q16:mg "_law_great"=some (.ref t.f_q16)
 fn_q22:Fun K "_law_other_end" "_law_other_end" iR t.f_q22 t.d_q22
 bd_q22:Binds K t.d_q22 ["_law_tie","_law_many"] []
 g_q22:mg "_law_other_end"=some (.ref t.f_q22)
 fn_q24:Fun K "_law_table" "_law_table" jc t.f_q24 t.d_q24
 bd_q24:Binds K t.d_q24 ["_law_many","_law_ties"] []
 g_q24:mg "_law_table"=some (.ref t.f_q24)
 fn_q19:Fun K "_law_lists" "_law_lists" g9 t.f_q19 t.d_q19
 bd_q19:Binds K t.d_q19 ["_law_many","_law_most"] []
 g_q19:mg "_law_lists"=some (.ref t.f_q19)
 fn_q17:Fun K "_law_is_way" "_law_is_way" i8 t.f_q17 t.d_q17
 bd_q17:Binds K t.d_q17 ["_law_small","_law_great_here","_law_tables","_law_way"] []
 g_q17:mg "_law_is_way"=some (.ref t.f_q17)
 fn_q25:Fun K "_law_ways" "_law_ways" hV t.f_q25 t.d_q25
 bd_q25:Binds K t.d_q25 ["_law_small","_law_great_here"] []
 g_q25:mg "_law_ways"=some (.ref t.f_q25)
 fn_q6:Fun K "is_place_kind" "is_place_kind" m_ t.f_q6 t.d_q6
 bd_q6:Binds K t.d_q6 ["kind"] []
 g_q6:mg "is_place_kind"=some (.ref t.f_q6)
 fn_q8:Fun K "is_tie_kind" "is_tie_kind" oM t.f_q8 t.d_q8
 bd_q8:Binds K t.d_q8 ["kind"] []
 g_q8:mg "is_tie_kind"=some (.ref t.f_q8)
 fn_q7:Fun K "is_tie" "is_tie" nQ t.f_q7 t.d_q7
 bd_q7:Binds K t.d_q7 ["tie","size"] []
 g_q7:mg "is_tie"=some (.ref t.f_q7)
 fn_q32:Fun K "refuse_wrong" "refuse_wrong" jn t.f_q32 t.d_q32
 bd_q32:Binds K t.d_q32 ["kinds","ties"] []
 g_q32:mg "refuse_wrong"=some (.ref t.f_q32)
 fn_q29:Fun K "lesser_first" "lesser_first" iI t.f_q29 t.d_q29
 bd_q29:Binds K t.d_q29 ["tie"] []
 g_q29:mg "lesser_first"=some (.ref t.f_q29)
 fn_q31:Fun K "put_pair" "put_pair" jG t.f_q31 t.d_q31
 bd_q31:Binds K t.d_q31 ["joins","ends","pair"] []
 g_q31:mg "put_pair"=some (.ref t.f_q31)
 fn_q9:Fun K "joins_of" "joins_of" oK t.f_q9 t.d_q9
 bd_q9:Binds K t.d_q9 ["ties"] []
 g_q9:mg "joins_of"=some (.ref t.f_q9)
 fn_q0:Fun K "__init__" "Web.__init__" nj t.f_q0 t.d_q0
 bd_q0:Binds K t.d_q0 ["self","kinds","ties"] []
 fn_q2:Fun K "size" "Web.size" n9 t.f_q2 t.d_q2
 bd_q2:Binds K t.d_q2 ["self"] []
 mt_q2:Meth K t.C "size" t.f_q2
 fn_q33:Fun K "stands_in" "stands_in" g6 t.f_q33 t.d_q33
 bd_q33:Binds K t.d_q33 ["pairs","more"] []
 g_q33:mg "stands_in"=some (.ref t.f_q33)
 fn_q1:Fun K "between" "Web.between" oq t.f_q1 t.d_q1
 bd_q1:Binds K t.d_q1 ["self","one","other"] []
 mt_q1:Meth K t.C "between" t.f_q1
 fn_q10:Fun K "last_fits" "last_fits" gS t.f_q10 t.d_q10
 bd_q10:Binds K t.d_q10 ["small","great","way"] []
 g_q10:mg "last_fits"=some (.ref t.f_q10)
 fn_q5:Fun K "go_on" "go_on" oW t.f_q5 t.d_q5
 bd_q5:Binds K t.d_q5 ["small","great","begun","found","most"] []
 g_q5:mg "go_on"=some (.ref t.f_q5)
 fn_q4:Fun K "first_ways" "first_ways" oE t.f_q4 t.d_q4
 bd_q4:Binds K t.d_q4 ["small","great","most"] []
 g_q4:mg "first_ways"=some (.ref t.f_q4)
 fn_q30:Fun K "lies_in" "lies_in" iX t.f_q30 t.d_q30
 bd_q30:Binds K t.d_q30 ["small","great"] []
 g_q30:mg "lies_in"=some (.ref t.f_q30)
 fn_q3:Fun K "all_ways" "all_ways" og t.f_q3 t.d_q3
 bd_q3:Binds K t.d_q3 ["small","great"] []
 g_q3:mg "all_ways"=some (.ref t.f_q3)
 fn_q27:Fun K "_law_whole" "_law_whole" jM t.f_q27 t.d_q27
 bd_q27:Binds K t.d_q27 ["_law_found"] []
 g_q27:mg "_law_whole"=some (.ref t.f_q27)
 fn_q20:Fun K "_law_lists_are" "_law_lists_are" jf t.f_q20 t.d_q20
 bd_q20:Binds K t.d_q20 ["_law_found","_law_due"] []
 g_q20:mg "_law_lists_are"=some (.ref t.f_q20)
 fn_q13:Fun K "_law_crosswise" "_law_crosswise" iP t.f_q13 t.d_q13
 bd_q13:Binds K t.d_q13 ["_law_one","_law_small","_law_other","_law_great_here"] []
 g_q13:mg "_law_crosswise"=some (.ref t.f_q13)
 fn_q11:Fun K "law" "law" g7 t.f_q11 t.d_q11
 bd_q11:Binds K t.d_q11 ["_law_script"] []
 g_q11:mg "law"=some (.ref t.f_q11)
 b_all:mg "all"=none
 b_bool:mg "bool"=none
 b_int:mg "int"=none
 b_isinstance:mg "isinstance"=none
 b_len:mg "len"=none
 b_list:mg "list"=none
 b_min:mg "min"=none
 b_range:mg "range"=none
 b_sorted:mg "sorted"=none
 b_tuple:mg "tuple"=none
 b_zip:mg "zip"=none
 c_MOST_PLACES:mg "MOST_PLACES"=some (.int 7 t.tk_MOST_PLACES)
 c_MOST_TIES:mg "MOST_TIES"=some (.int 12 t.tk_MOST_TIES)
 c_MOST_LETTERS:mg "MOST_LETTERS"=some (.int 3 t.tk_MOST_LETTERS)
 c_MOST_TOLD:mg "MOST_TOLD"=some (.int 720 t.tk_MOST_TOLD)
variable{P:Program}{w:World}{K:Kq}{mg:Ks}{base:Heap}{t:Adr}
abbrev K0:PySem.W.Frag:=[]
abbrev z_:List Str:=["_law_script","_law_fold_here","_law_cell"]
theorem lb:FnScope z_ ["_law_script"] (defScope jb):=⟨rfl,rfl,rfl,by decide+kernel,rfl,by decide+kernel,by decide+kernel⟩
def g_q15(C:Addr):DF->Option RES:=
  (al (aw 1 (fun _=>some (.int 1)))
  (al (cb (bL 0) (setV 2) (aw 1 (d2 aG (d2 aW (d2 cT (ac 1) (fun _=>some (.int 48271))) (d2 aG (ac 2) (fun _=>some (.int 2147483647)))) (fun _=>some (.int 2147483629)))))
  (bb (getV 1))))
def pP(C:Addr):List DV->Option DV:=mOf 3 1 (g_q15 C)
theorem zq(T:Txt K mg t):FnOk P w K mg base CX0 1 t.f_q15 t.d_q15 ["_law_script"] (spD K (pP t.C)):=
 T.fn_q15.okD lb fun cdv A outer s H E hr=>(af (aF (i:=1) lb.nd rfl (.inl rfl) aa) (af (bO YK rfl (cw 0 (pv 0)) (aN (i:=2) lb.nd rfl (.inl rfl)) (ai (aF (i:=1) lb.nd rfl (.inl rfl) (aH (PDE.r (aI (PDE.r (dg (ae 1 (pv 1)) (PDE.r aa))) (PDE.r (aH (ae 2 (pv 2)) (PDE.r aa))))) (PDE.r aa))))) (ai (aX (ak 1 (pv 1))))))
abbrev BJ:List Str:=["_law_script","_law_at","_law_many"]
theorem xT:FnScope BJ ["_law_script","_law_at","_law_many"] (defScope iM):=⟨rfl,rfl,rfl,by decide+kernel,rfl,by decide+kernel,by decide+kernel⟩
def g_q12(C:Addr):DF->Option RES:=
  (d9 (asL (slL (d2 aW (asO (asL (slL (ac 0) (bI (getV 1)) (bI (d2 aW (ac 1) (ac 2)))))) (asO (asL (ag (d2 aW (ac 1) (fun _=>some (.int 1))) (ag (fun _=>some (.int 5)) (ag (fun _=>some (.int 2)) (ag (fun _=>some (.int 9)) (ag (fun _=>some (.int 4)) (ag (fun _=>some (.int 7)) (ag (fun _=>some (.int 1)) (ag (fun _=>some (.int 8)) (ag (fun _=>some (.int 3)) (ag (fun _=>some (.int 6)) (ag (fun _=>some (.int 0)) (ag (fun _=>some (.int 11)) (ag (fun _=>some (.int 13)) (ag (fun _=>some (.int 12)) (ag (fun _=>some (.int 10)) (ag (fun _=>some (.int 14)) aD))))))))))))))))))) bNo (bI (getV 2)))))
def pc(C:Addr):List DV->Option DV:=mOf 3 3 (g_q12 C)
theorem zi(T:Txt K mg t):FnOk P w K mg base CX0 1 t.f_q12 t.d_q12 ["_law_script","_law_at","_law_many"] (spD K (pc t.C)):=
 T.fn_q12.okD xT fun cdv A outer s H E hr=>(ai (fN (b5 (PDE.r (aI (PDE.r (PDO.v (b5 (ae 0 (pv 0)) (cA (ak 1 (pv 1))) (cA (aI (ae 1 (pv 1)) (ae 2 (pv 2))))))) (PDE.r (PDO.v (bM (ah (aI (ae 1 (pv 1)) (PDE.r aa)) (ah aa (ah aa (ah aa (ah aa (ah aa (ah aa (ah aa (ah aa (ah aa (ah aa (ah aa (ah aa (ah aa (ah aa (ah aa ax))))))))))))))))))))) fm (cA (ak 2 (pv 2))))))
abbrev AD:List Str:=["_law_cell","_law_k","_law_seed"]
theorem uo:FnScope AD ["_law_cell","_law_k"] (defScope iG):=⟨rfl,rfl,rfl,by decide+kernel,rfl,by decide+kernel,by decide+kernel⟩
def g_q21(C:Addr):DF->Option RES:=
  (al (aw 2 (d2 aG (d2 cT (d2 aW (d2 aW (d2 aG (ac 0) (fun _=>some (.int 2147483647))) (fun _=>some (.int 1))) (d2 cT (d2 cT (fun _=>some (.int 7919)) (ac 1)) (ac 1))) (fun _=>some (.int 48271))) (fun _=>some (.int 2147483629))))
  (bb (d2 aG (d2 cT (ac 2) (ac 2)) (fun _=>some (.int 998244353)))))
def b6(C:Addr):List DV->Option DV:=mOf 3 2 (g_q21 C)
theorem cI(T:Txt K mg t):FnOk P w K mg base CX0 1 t.f_q21 t.d_q21 ["_law_cell","_law_k"] (spD K (b6 t.C)):=
 T.fn_q21.okD uo fun cdv A outer s H E hr=>(af (aF (i:=2) uo.nd rfl (.inl rfl) (aH (PDE.r (dg (PDE.r (aI (PDE.r (aI (PDE.r (aH (ae 0 (pv 0)) (PDE.r aa))) (PDE.r aa))) (PDE.r (dg (PDE.r (dg (PDE.r aa) (ae 1 (pv 1)))) (ae 1 (pv 1)))))) (PDE.r aa))) (PDE.r aa))) (ai (aX (aH (PDE.r (dg (ae 2 (pv 2)) (ae 2 (pv 2)))) (PDE.r aa)))))
abbrev Bf:List Str:=["_law_seed","_law_many","_law_rest","_law_order"]
theorem oC:FnScope Bf ["_law_seed","_law_many"] (defScope js):=⟨rfl,rfl,rfl,by decide+kernel,rfl,by decide+kernel,by decide+kernel⟩
def g_q23(C:Addr):DF->Option RES:=
  (al (bt 2 (asL (pi (getV 1))))
  (al (bt 3 (asL aD))
  (al (cy (asB (d2 gtI (d1 aM (am 2)) (fun _=>some (.int 0)))) (eW 3 2 (d2 aG (aj (b6 C) (aB 0 (aV (d2 aW (fun _=>some (.int 50)) (d1 aM (am 2))) (fun _=>some [])))) (d1 aM (am 2)))) 10)
  (e9 3))))
def jF(C:Addr):List DV->Option DV:=mOf 4 2 (g_q23 C)
theorem uQ(T:Txt K mg t):FnOk P w K mg base CX0 2 t.f_q23 t.d_q23 ["_law_seed","_law_many"] (spD K (jF t.C)):=
 T.fn_q23.okD oC fun cdv A outer s H E hr=>(af (bW (i:=2) oC.nd rfl (.inl rfl) (jO rfl rfl T.b_list rfl T.b_range (ak 1 (pv 1)))) (af (bW (i:=3) oC.nd rfl (.inl rfl) (bM ax)) (af (mV 10 YK (eQ (PDE.r (aU rfl T.b_len (au 2 (pv 2)))) (PDE.r aa)) (ai (rW 3 2 (pv 3) (pv 2) (aH (PDE.r (aq (cI T) (hr.mono (by decide)) rfl T.g_q21 T.fn_q21.kp T.bd_q21 (aT 0 (pv 0) (ar (aI (PDE.r aa) (PDE.r (aU rfl T.b_len (au 2 (pv 2))))) ap)))) (PDE.r (aU rfl T.b_len (au 2 (pv 2)))))))) (ai (eX 3 (pv 3))))))
abbrev kj:List Str:=["_law_seed","_law_many","_law_how","_law_half","_law_ends","_law_k"]
theorem i6:FnScope kj ["_law_seed","_law_many"] (defScope d_):=⟨rfl,rfl,rfl,by decide+kernel,rfl,by decide+kernel,by decide+kernel⟩
def g_q14(C:Addr):DF->Option RES:=
  (al (aw 2 (d2 aG (ac 0) (fun _=>some (.int 6))))
  (al (aw 3 (d2 aZ (ac 1) (fun _=>some (.int 2))))
  (al (dIf (cR (asB (d2 eqD (am 2) (fun _=>some (.int 1)))) (asB (d2 gtI (ac 1) (fun _=>some (.int 1))))) (d9 (asL (aS 1 [1] (bK (ac 1)) (setV 0) bC (asT (ag (getV 0) (ag (d2 aG (d2 aW (ac 0) (fun _=>some (.int 1))) (ac 1)) aD)))))) dNx)
  (al (dIf (asB (d2 eqD (am 2) (fun _=>some (.int 2)))) (d9 (asL (aS 1 [] (rf (fun _=>some (.int 1)) (ac 1)) (setV 0) bC (asT (ag (fun _=>some (.int 0)) (ag (getV 0) aD)))))) dNx)
  (al (dIf (asB (d2 eqD (am 2) (fun _=>some (.int 3)))) (d9 (asL (io (asO (asL (aS 1 [] (bK (d2 dC (ac 3) (fun _=>some (.int 1)))) (setV 0) bC (asT (ag (getV 0) (ag (d2 aW (ac 0) (fun _=>some (.int 1))) aD)))))) (asO (asL (aS 1 [] (rf (ac 3) (d2 dC (d2 cT (fun _=>some (.int 2)) (ac 3)) (fun _=>some (.int 1)))) (setV 0) bC (asT (ag (getV 0) (ag (d2 aW (ac 0) (fun _=>some (.int 1))) aD))))))))) dNx)
  (al (bt 4 (asL aD))
  (al (dIf (cR (asB (d2 eqD (am 2) (fun _=>some (.int 4)))) (asB (d2 ltd (am 1) (fun _=>some (.int 6))))) (cb (bK (ac 1)) (setV 5) (jP 4 (aS 1 [5] (bK (ac 5)) (setV 0) bC (asT (ag (getV 0) (ag (getV 1) aD)))))) dNx)
  (e9 4))))))))
def nk(C:Addr):List DV->Option DV:=mOf 6 2 (g_q14 C)
theorem yi(T:Txt K mg t):FnOk P w K mg base CX0 1 t.f_q14 t.d_q14 ["_law_seed","_law_many"] (spD K (nk t.C)):=
 T.fn_q14.okD i6 fun cdv A outer s H E hr=>(af (aF (i:=2) i6.nd rfl (.inl rfl) (aH (ae 0 (pv 0)) (PDE.r aa))) (af (aF (i:=3) i6.nd rfl (.inl rfl) (bA (ae 1 (pv 1)) (PDE.r aa))) (af (br (PDW.t (cJ (cQ hr.h64 (au 2 (pv 2)) (PDE.n aa)) (cN (eQ (ae 1 (pv 1)) (PDE.r aa))))) (ai (fN (bQ (N:=["_law_k","_law_many"]) (own:=1) (ix:=[1]) (is:=[0]) rfl (cY (defScope d_) rfl (by decide+kernel)) (cZ kj rfl (by decide+kernel)) (b_ (by decide)) (bf rfl T.b_range (ae 1 (pv 1))) (fun _ _ _ _=>(aN (i:=0) (show(["_law_k","_law_many"]:List Str).Nodup from by decide+kernel) rfl (.inl rfl))) (fun _ _ _ _=>dm) (fun _ _ _ _=>(ba (ah (ak 0 (pv 0)) (ah (aH (PDE.r (aI (ae 0 (pv 0)) (PDE.r aa))) (ae 1 (pv 1))) ax)))) (by decide+kernel)))) aJ) (af (br (cQ hr.h64 (au 2 (pv 2)) (PDE.n aa)) (ai (fN (bQ (N:=["_law_k"]) (own:=1) (ix:=[]) (is:=[0]) rfl (cY (defScope d_) rfl (by decide+kernel)) (cZ kj rfl (by decide+kernel)) (b_ (by decide)) (jw rfl T.b_range (PDE.r aa) (ae 1 (pv 1))) (fun _ _ _ _=>(aN (i:=0) (show(["_law_k"]:List Str).Nodup from by decide+kernel) rfl (.inl rfl))) (fun _ _ _ _=>dm) (fun _ _ _ _=>(ba (ah aa (ah (ak 0 (pv 0)) ax)))) (by decide+kernel)))) aJ) (af (br (cQ hr.h64 (au 2 (pv 2)) (PDE.n aa)) (ai (fN (qm (PDE.r (PDO.v (bQ (N:=["_law_k"]) (own:=1) (ix:=[]) (is:=[0]) rfl (cY (defScope d_) rfl (by decide+kernel)) (cZ kj rfl (by decide+kernel)) (b_ (by decide)) (bf rfl T.b_range (PDE.r (dQ (ae 3 (pv 3)) (PDE.r aa)))) (fun _ _ _ _=>(aN (i:=0) (show(["_law_k"]:List Str).Nodup from by decide+kernel) rfl (.inl rfl))) (fun _ _ _ _=>dm) (fun _ _ _ _=>(ba (ah (ak 0 (pv 0)) (ah (aI (ae 0 (pv 0)) (PDE.r aa)) ax)))) (by decide+kernel)))) (PDE.r (PDO.v (bQ (N:=["_law_k"]) (own:=1) (ix:=[]) (is:=[0]) rfl (cY (defScope d_) rfl (by decide+kernel)) (cZ kj rfl (by decide+kernel)) (b_ (by decide)) (jw rfl T.b_range (ae 3 (pv 3)) (PDE.r (dQ (PDE.r (dg (PDE.r aa) (ae 3 (pv 3)))) (PDE.r aa)))) (fun _ _ _ _=>(aN (i:=0) (show(["_law_k"]:List Str).Nodup from by decide+kernel) rfl (.inl rfl))) (fun _ _ _ _=>dm) (fun _ _ _ _=>(ba (ah (ak 0 (pv 0)) (ah (aI (ae 0 (pv 0)) (PDE.r aa)) ax)))) (by decide+kernel))))))) aJ) (af (bW (i:=4) i6.nd rfl (.inl rfl) (bM ax)) (af (br (PDW.t (cJ (cQ hr.h64 (au 2 (pv 2)) (PDE.n aa)) (cN (eU hr.h64 (au 1 (pv 1)) (PDE.n aa))))) (ai (bO YK rfl (bf rfl T.b_range (ae 1 (pv 1))) (aN (i:=5) i6.nd rfl (.inr rfl)) (ai (j5 4 (pv 4) (bQ (N:=["_law_j","_law_k"]) (own:=1) (ix:=[5]) (is:=[0]) rfl (cY (defScope d_) rfl (by decide+kernel)) (cZ kj rfl (by decide+kernel)) (b_ (by decide)) (bf rfl T.b_range (ae 5 (pv 5))) (fun _ _ _ _=>(aN (i:=0) (show(["_law_j","_law_k"]:List Str).Nodup from by decide+kernel) rfl (.inl rfl))) (fun _ _ _ _=>dm) (fun _ _ _ _=>(ba (ah (ak 0 (pv 0)) (ah (ak 1 (pv 1)) ax)))) (by decide+kernel)))))) aJ) (ai (eX 4 (pv 4))))))))))
abbrev Ao:List Str:=["_law_cell","_law_seed","_law_far","_law_how"]
theorem nS:FnScope Ao ["_law_cell","_law_seed"] (defScope iL):=⟨rfl,rfl,rfl,by decide+kernel,rfl,by decide+kernel,by decide+kernel⟩
def g_q18(C:Addr):DF->Option RES:=
  (al (aw 2 (d2 aG (d2 cT (d2 aW (ac 1) (fun _=>some (.int 1))) (fun _=>some (.int 618033988749894848204586834367))) (d2 l0 (fun _=>some (.int 10)) (fun _=>some (.int 30)))))
  (al (aw 3 (d2 aG (aj (b6 C) (aB 0 (aV (fun _=>some (.int 3)) (fun _=>some [])))) (fun _=>some (.int 5))))
  (al (dIf (asB (d2 eqD (am 3) (fun _=>some (.int 4)))) (bb (d2 aG (ac 0) (d2 l0 (fun _=>some (.int 10)) (fun _=>some (.int 30))))) dNx)
  (bb (d2 ixD (asO (asL (ag (getV 2) (ag (getV 2) (ag (d2 aG (d2 aW (ac 2) (fun _=>some (.int 1))) (d2 l0 (fun _=>some (.int 10)) (fun _=>some (.int 30)))) (ag (fun _=>some (.int 0)) aD)))))) (ac 3))))))
def eL(C:Addr):List DV->Option DV:=mOf 4 2 (g_q18 C)
theorem sx(T:Txt K mg t):FnOk P w K mg base CX0 2 t.f_q18 t.d_q18 ["_law_cell","_law_seed"] (spD K (eL t.C)):=
 T.fn_q18.okD nS fun cdv A outer s H E hr=>(af (aF (i:=2) nS.nd rfl (.inl rfl) (aH (PDE.r (dg (PDE.r (aI (ae 1 (pv 1)) (PDE.r aa))) (PDE.r aa))) (PDE.r (i_ (PDE.r aa) (PDE.r aa))))) (af (aF (i:=3) nS.nd rfl (.inl rfl) (aH (PDE.r (aq (cI T) (hr.mono (by decide)) rfl T.g_q21 T.fn_q21.kp T.bd_q21 (aT 0 (pv 0) (ar aa ap)))) (PDE.r aa))) (af (br (cQ hr.h64 (au 3 (pv 3)) (PDE.n aa)) (ai (aX (aH (ae 0 (pv 0)) (PDE.r (i_ (PDE.r aa) (PDE.r aa)))))) aJ) (ai (aX (aL (PDE.r (PDO.v (bM (ah (ak 2 (pv 2)) (ah (ak 2 (pv 2)) (ah (aH (PDE.r (aI (ae 2 (pv 2)) (PDE.r aa))) (PDE.r (i_ (PDE.r aa) (PDE.r aa)))) (ah aa ax))))))) (ae 3 (pv 3))))))))
abbrev xj:List Str:=["_law_seed","_law_which","_law_letters","_law_base","_law_size","_law_place","_law_sign"]
theorem gw:FnScope xj ["_law_seed","_law_which"] (defScope gY):=⟨rfl,rfl,rfl,by decide+kernel,rfl,by decide+kernel,by decide+kernel⟩
def g_q28(C:Addr):DF->Option RES:=
  (al (aw 2 (fun _=>some (.str "abcdefghijklmnopqrstuvwxyz")))
  (al (aw 3 (d2 tp (fun _=>some (.str "")) (asO (asL (aS 1 [2,0] (bK (fun _=>some (.int 3))) (setV 0) bC (d2 ixD (ac 1) (d2 aG (d2 aW (d2 aZ (ac 2) (fun _=>some (.int 9))) (d2 cT (fun _=>some (.int 7)) (ac 0))) (fun _=>some (.int 26)))))))))
  (al (aw 4 (d2 aW (fun _=>some (.int 1)) (d2 aG (ac 0) (fun _=>some (.int 3)))))
  (al (dIf (asB (d2 eqD (d2 aG (d2 aZ (ac 0) (fun _=>some (.int 3))) (fun _=>some (.int 4))) (fun _=>some (.int 0)))) (bb (slS (ac 3) bNo (bI (d2 aW (fun _=>some (.int 1)) (d2 aG (ac 1) (fun _=>some (.int 3))))))) dNx)
  (al (aw 5 (d2 aG (d2 aZ (ac 0) (fun _=>some (.int 3))) (ac 4)))
  (al (aw 6 (d2 ixD (ac 2) (d2 aG (d2 aW (d2 aW (d2 aZ (ac 0) (fun _=>some (.int 9))) (d2 cT (fun _=>some (.int 7)) (ac 5))) (ac 1)) (fun _=>some (.int 26)))))
  (bb (d2 aW (d2 aW (slS (ac 3) bNo (bI (getV 5))) (ac 6)) (slS (ac 3) (bI (d2 aW (ac 5) (fun _=>some (.int 1)))) (bI (getV 4)))))))))))
def gn(C:Addr):List DV->Option DV:=mOf 7 2 (g_q28 C)
theorem yH(T:Txt K mg t):FnOk P w K mg base CX0 1 t.f_q28 t.d_q28 ["_law_seed","_law_which"] (spD K (gn t.C)):=
 T.fn_q28.okD gw fun cdv A outer s H E hr=>(af (aF (i:=2) gw.nd rfl (.inr rfl) kN) (af (aF (i:=3) gw.nd rfl (.inl rfl) (ve (PDE.n kN) (PDE.n (PDO.v (bQ (N:=["_law_k","_law_letters","_law_seed"]) (own:=1) (ix:=[2,0]) (is:=[0]) rfl (cY (defScope gY) rfl (by decide+kernel)) (cZ xj rfl (by decide+kernel)) (b_ (by decide)) (bf rfl T.b_range (PDE.r aa)) (fun _ _ _ _=>(aN (i:=0) (show(["_law_k","_law_letters","_law_seed"]:List Str).Nodup from by decide+kernel) rfl (.inl rfl))) (fun _ _ _ _=>dm) (fun _ _ _ _=>(aL (ae 1 (pv 1)) (PDE.r (aH (PDE.r (aI (PDE.r (bA (ae 2 (pv 2)) (PDE.r aa))) (PDE.r (dg (PDE.r aa) (ae 0 (pv 0)))))) (PDE.r aa))))) (by decide+kernel)))))) (af (aF (i:=4) gw.nd rfl (.inl rfl) (aI (PDE.r aa) (PDE.r (aH (ae 0 (pv 0)) (PDE.r aa))))) (af (br (cQ hr.h64 (PDE.n (aH (PDE.r (bA (ae 0 (pv 0)) (PDE.r aa))) (PDE.r aa))) (PDE.n aa)) (ai (aX (gO (ae 3 (pv 3)) fm (cA (aI (PDE.r aa) (PDE.r (aH (ae 1 (pv 1)) (PDE.r aa)))))))) aJ) (af (aF (i:=5) gw.nd rfl (.inl rfl) (aH (PDE.r (bA (ae 0 (pv 0)) (PDE.r aa))) (ae 4 (pv 4)))) (af (aF (i:=6) gw.nd rfl (.inl rfl) (aL (ae 2 (pv 2)) (PDE.r (aH (PDE.r (aI (PDE.r (aI (PDE.r (bA (ae 0 (pv 0)) (PDE.r aa))) (PDE.r (dg (PDE.r aa) (ae 5 (pv 5)))))) (ae 1 (pv 1)))) (PDE.r aa))))) (ai (aX (aI (PDE.r (aI (PDE.r (gO (ae 3 (pv 3)) fm (cA (ak 5 (pv 5))))) (ae 6 (pv 6)))) (PDE.r (gO (ae 3 (pv 3)) (cA (aI (ae 5 (pv 5)) (PDE.r aa))) (cA (ak 4 (pv 4))))))))))))))
abbrev xc:List Str:=["_law_cells_here","_law_seed","_law_many","_law_order","_law_far","_law_ties","_law_cell","_law_draw","_law_one","_law_other","_law_kinds","_law_k","_law_which"]
theorem cW:FnScope xc ["_law_cells_here","_law_seed","_law_many"] (defScope ic):=⟨rfl,rfl,rfl,by decide+kernel,rfl,by decide+kernel,by decide+kernel⟩
def g_q26(C:Addr):DF->Option RES:=
  (al (aw 3 (aj (jF C) (aB 1 (aV (getV 2) (fun _=>some [])))))
  (al (aw 4 (d2 aG (d2 cT (d2 aW (ac 1) (fun _=>some (.int 1))) (fun _=>some (.int 618033988749894848204586834367))) (d2 l0 (fun _=>some (.int 10)) (fun _=>some (.int 30)))))
  (al (bt 5 (asL (aS 2 [3,4,1] (eP (aj (nk C) (aB 1 (aB 2 (fun _=>some []))))) (cS [0,1]) bC (asT (ag (d2 ixD (ac 2) (ac 0)) (ag (d2 ixD (ac 2) (ac 1)) (ag (getV 3) (ag (d2 eqD (d2 aG (d2 aZ (ac 4) (fun _=>some (.int 6))) (fun _=>some (.int 2))) (fun _=>some (.int 1))) aD))))))))
  (al (cb (bL 0) (setV 6) (al (aw 7 (aj (b6 C) (aB 6 (aV (fun _=>some (.int 8)) (fun _=>some [])))))
  (dIf (cR (asB (d2 gtI (ac 2) (fun _=>some (.int 1)))) (cR (asB (d2 ltd (d1 aM (am 5)) (fun _=>some (.int 12)))) (orT (asB (d2 eqD (d2 aG (ac 1) (fun _=>some (.int 6))) (fun _=>some (.int 0)))) (asB (d2 eqD (d2 aG (ac 7) (fun _=>some (.int 6))) (fun _=>some (.int 0))))))) (al (aw 8 (d2 aG (d2 aZ (ac 7) (fun _=>some (.int 6))) (ac 2)))
  (al (aw 9 (d2 aG (d2 aW (d2 aW (ac 8) (fun _=>some (.int 1))) (d2 aG (d2 aZ (ac 7) (fun _=>some (.int 60))) (d2 dC (ac 2) (fun _=>some (.int 1))))) (ac 2)))
  (al (dF 5 (asT (ag (getV 8) (ag (getV 9) (ag (aj (eL C) (aB 6 (aB 1 (fun _=>some [])))) (ag (d2 eqD (d2 aG (d2 aZ (ac 7) (fun _=>some (.int 7))) (fun _=>some (.int 3))) (fun _=>some (.int 0))) aD))))))
  (dIf (cR (asB (d2 eqD (d2 aG (d2 aZ (ac 7) (fun _=>some (.int 21))) (fun _=>some (.int 5))) (fun _=>some (.int 0)))) (asB (d2 ltd (d1 aM (am 5)) (fun _=>some (.int 12))))) (dF 5 (d2 ixD (ac 5) (d1 l_ (fun _=>some (.int 1))))) dNx)))) dNx)))
  (al (bt 10 (asL aD))
  (al (cb (bK (ac 2)) (setV 11) (al (aw 12 (fun _=>some (.int 0)))
  (al (dIf (asB (d2 eqD (d2 aG (d2 aZ (ac 1) (fun _=>some (.int 12))) (fun _=>some (.int 2))) (fun _=>some (.int 1)))) (aw 12 (d2 aG (aj (b6 C) (aV (d2 ixD (ac 0) (d2 aG (ac 11) (d1 aM (am 0)))) (aV (d2 aW (fun _=>some (.int 20)) (ac 11)) (fun _=>some [])))) (fun _=>some (.int 3)))) dNx)
  (dF 10 (aj (gn C) (aB 1 (aB 12 (fun _=>some []))))))))
  (jV 5 (jV 10 (bb (asT (ag (getV 10) (ag (getV 5) aD))))))))))))
def ia(C:Addr):List DV->Option DV:=mOf 13 3 (g_q26 C)
theorem oU(T:Txt K mg t):FnOk P w K mg base CX0 3 t.f_q26 t.d_q26 ["_law_cells_here","_law_seed","_law_many"] (spD K (ia t.C)):=
 T.fn_q26.okD cW fun cdv A outer s H E hr=>(af (aF (i:=3) cW.nd rfl (.inr rfl) (aq (uQ T) (hr.mono (by decide)) rfl T.g_q23 T.fn_q23.kp T.bd_q23 (aT 1 (pv 1) (ar (ak 2 (pv 2)) ap)))) (af (aF (i:=4) cW.nd rfl (.inr rfl) (aH (PDE.r (dg (PDE.r (aI (ae 1 (pv 1)) (PDE.r aa))) (PDE.r aa))) (PDE.r (i_ (PDE.r aa) (PDE.r aa))))) (af (mh (i:=5) (N:=["_law_one","_law_other","_law_order","_law_far","_law_seed"]) (own:=2) (ix:=[3,4,1]) (is:=[0,1]) cW.nd rfl (.inl rfl) rfl (cY (defScope ic) rfl (by decide+kernel)) (cZ xc rfl (by decide+kernel)) (b_ (by decide)) (pG (aq (yi T) (hr.mono (by decide)) rfl T.g_q14 T.fn_q14.kp T.bd_q14 (aT 1 (pv 1) (aT 2 (pv 2) ap)))) (fun _ _ _ _=>(dn (is:=[0,1]) rfl (aY (bh (i:=0) (show(["_law_one","_law_other","_law_order","_law_far","_law_seed"]:List Str).Nodup from by decide+kernel) rfl (.inl rfl)) (aY (bh (i:=1) (show(["_law_one","_law_other","_law_order","_law_far","_law_seed"]:List Str).Nodup from by decide+kernel) rfl (.inl rfl)) dq)))) (fun _ _ _ _=>dm) (fun _ _ _ _=>(ba (ah (aL (ae 2 (pv 2)) (ae 0 (pv 0))) (ah (aL (ae 2 (pv 2)) (ae 1 (pv 1))) (ah (ak 3 (pv 3)) (ah (pE hr.h64 (PDE.n (aH (PDE.r (bA (ae 4 (pv 4)) (PDE.r aa))) (PDE.r aa))) (PDE.n aa)) ax)))))) (by decide+kernel)) (af (bO YK rfl (cw 0 (pv 0)) (aN (i:=6) cW.nd rfl (.inl rfl)) (af (aF (i:=7) cW.nd rfl (.inl rfl) (aq (cI T) (hr.mono (by decide)) rfl T.g_q21 T.fn_q21.kp T.bd_q21 (aT 6 (pv 6) (ar aa ap)))) (ai (br (PDW.t (cJ (eQ (ae 2 (pv 2)) (PDE.r aa)) (cJ (eU hr.h64 (PDE.n (aU rfl T.b_len (au 5 (pv 5)))) (PDE.n aa)) (cN (PDW.t (fC (cQ hr.h64 (PDE.n (aH (ae 1 (pv 1)) (PDE.r aa))) (PDE.n aa)) (dR (cQ hr.h64 (PDE.n (aH (ae 7 (pv 7)) (PDE.r aa))) (PDE.n aa))))))))) (af (aF (i:=8) cW.nd rfl (.inl rfl) (aH (PDE.r (bA (ae 7 (pv 7)) (PDE.r aa))) (ae 2 (pv 2)))) (af (aF (i:=9) cW.nd rfl (.inl rfl) (aH (PDE.r (aI (PDE.r (aI (ae 8 (pv 8)) (PDE.r aa))) (PDE.r (aH (PDE.r (bA (ae 7 (pv 7)) (PDE.r aa))) (PDE.r (dQ (ae 2 (pv 2)) (PDE.r aa))))))) (ae 2 (pv 2)))) (af (cH 5 (pv 5) (ba (ah (ak 8 (pv 8)) (ah (ak 9 (pv 9)) (ah (aq (sx T) (hr.mono (by decide)) rfl T.g_q18 T.fn_q18.kp T.bd_q18 (aT 6 (pv 6) (aT 1 (pv 1) ap))) (ah (pE hr.h64 (PDE.n (aH (PDE.r (bA (ae 7 (pv 7)) (PDE.r aa))) (PDE.r aa))) (PDE.n aa)) ax)))))) (ai (br (PDW.t (cJ (cQ hr.h64 (PDE.n (aH (PDE.r (bA (ae 7 (pv 7)) (PDE.r aa))) (PDE.r aa))) (PDE.n aa)) (cN (eU hr.h64 (PDE.n (aU rfl T.b_len (au 5 (pv 5)))) (PDE.n aa))))) (ai (cH 5 (pv 5) (aL (ae 5 (pv 5)) (PDE.r (uX aa))))) aJ))))) aJ)))) (af (bW (i:=10) cW.nd rfl (.inl rfl) (bM ax)) (af (bO YK rfl (bf rfl T.b_range (ae 2 (pv 2))) (aN (i:=11) cW.nd rfl (.inl rfl)) (af (aF (i:=12) cW.nd rfl (.inl rfl) aa) (af (br (cQ hr.h64 (PDE.n (aH (PDE.r (bA (ae 1 (pv 1)) (PDE.r aa))) (PDE.r aa))) (PDE.n aa)) (ai (aF (i:=12) cW.nd rfl (.inl rfl) (aH (PDE.r (aq (cI T) (hr.mono (by decide)) rfl T.g_q21 T.fn_q21.kp T.bd_q21 (ar (aL (ae 0 (pv 0)) (PDE.r (aH (ae 11 (pv 11)) (PDE.r (aU rfl T.b_len (au 0 (pv 0))))))) (ar (aI (PDE.r aa) (ae 11 (pv 11))) ap)))) (PDE.r aa)))) aJ) (ai (cH 10 (pv 10) (aq (yH T) (hr.mono (by decide)) rfl T.g_q28 T.fn_q28.kp T.bd_q28 (aT 1 (pv 1) (aT 12 (pv 12) ap)))))))) (ai (iB 5 (iB 10 (aX (ba (ah (ak 10 (pv 10)) (ah (ak 5 (pv 5)) ax)))))))))))))
abbrev tt:List Str:=["_law_small","_law_cells_here","_law_seed","_law_many","_law_kinds","_law_ties","_law_cell","_law_draw","_law_one","_law_other","_law_order","_law_led","_law_stood"]
theorem dB:FnScope tt ["_law_small","_law_cells_here","_law_seed","_law_many"] (defScope gr):=⟨rfl,rfl,rfl,by decide+kernel,rfl,by decide+kernel,by decide+kernel⟩
def g_q16(C:Addr):DF->Option RES:=
  (al (bt 4 (asL (eK (dJ 0 0))))
  (al (bt 5 (asL (eK (dJ 0 1))))
  (al (cy (asB (d2 ltd (d1 aM (am 4)) (am 3))) (dF 4 (d2 ixD (dJ 0 0) (d2 aG (aj (b6 C) (aB 2 (aV (d1 aM (am 4)) (fun _=>some [])))) (d1 aM (dJ 0 0))))) 100)
  (al (cb (bL 1) (setV 6) (al (aw 7 (aj (b6 C) (aB 6 (aV (fun _=>some (.int 9)) (fun _=>some [])))))
  (dIf (cR (asB (d2 ltd (d1 aM (am 5)) (fun _=>some (.int 12)))) (cR (asB (d2 gtI (ac 3) (fun _=>some (.int 1)))) (asB (d2 gtI (d2 aG (ac 7) (fun _=>some (.int 3))) (fun _=>some (.int 0)))))) (al (aw 8 (d2 aG (d2 aZ (ac 7) (fun _=>some (.int 3))) (ac 3)))
  (al (aw 9 (d2 aG (d2 aW (d2 aW (ac 8) (fun _=>some (.int 1))) (d2 aG (d2 aZ (ac 7) (fun _=>some (.int 30))) (d2 dC (ac 3) (fun _=>some (.int 1))))) (ac 3)))
  (al (dF 5 (asT (ag (getV 8) (ag (getV 9) (ag (aj (eL C) (aB 6 (aB 2 (fun _=>some [])))) (ag (d2 eqD (d2 aG (d2 aZ (ac 7) (fun _=>some (.int 7))) (fun _=>some (.int 3))) (fun _=>some (.int 0))) aD))))))
  (dIf (cR (asB (d2 eqD (d2 aG (d2 aZ (ac 7) (fun _=>some (.int 300))) (fun _=>some (.int 4))) (fun _=>some (.int 0)))) (asB (d2 gtI (d1 aM (dJ 0 1)) (fun _=>some (.int 0))))) (jD 5 (d1 l_ (fun _=>some (.int 1))) (asT (ag (getV 8) (ag (getV 9) (ag (d2 ixD (d2 ixD (dJ 0 1) (fun _=>some (.int 0))) (fun _=>some (.int 2))) (ag (d2 ixD (d2 ixD (dJ 0 1) (fun _=>some (.int 0))) (fun _=>some (.int 3))) aD)))))) dNx)))) dNx)))
  (al (aw 10 (aj (jF C) (aV (d2 aZ (ac 2) (fun _=>some (.int 5))) (aV (d1 aM (am 4)) (fun _=>some [])))))
  (al (jV 5 (aw 11 (asO (asL (aS 4 [10] (eP (getV 5)) (cS [0,1,2,3]) bC (asT (ag (d2 ixD (ac 4) (ac 0)) (ag (d2 ixD (ac 4) (ac 1)) (ag (getV 2) (ag (getV 3) aD))))))))))
  (al (aw 12 (asO (asL (aS 1 [4,10] (bK (d1 aM (am 4))) (setV 0) bC (d2 ixD (ac 1) (d2 qA (am 2) (am 0)))))))
  (bb (asT (ag (getV 12) (ag (getV 11) (ag (asO (asL (slL (ac 10) bNo (bI (d1 aM (dJ 0 0)))))) aD))))))))))))
def jd(C:Addr):List DV->Option DV:=mOf 13 4 (g_q16 C)
theorem uT(T:Txt K mg t):FnOk P w K mg base CX0 3 t.f_q16 t.d_q16 ["_law_small","_law_cells_here","_law_seed","_law_many"] (spD K (jd t.C)):=
 T.fn_q16.okD dB fun cdv A outer s H E hr=>(af (bW (i:=4) dB.nd rfl (.inr rfl) (ji rfl T.b_list (ij 0 0 (pv 0)))) (af (bW (i:=5) dB.nd rfl (.inl rfl) (ji rfl T.b_list (ij 0 1 (pv 0)))) (af (mV 100 YK (eU hr.h64 (PDE.n (aU rfl T.b_len (au 4 (pv 4)))) (au 3 (pv 3))) (ai (cH 4 (pv 4) (aL (ij 0 0 (pv 0)) (PDE.r (aH (PDE.r (aq (cI T) (hr.mono (by decide)) rfl T.g_q21 T.fn_q21.kp T.bd_q21 (aT 2 (pv 2) (ar (aU rfl T.b_len (au 4 (pv 4))) ap)))) (PDE.r (aU rfl T.b_len (PDR.n (ij 0 0 (pv 0))))))))))) (af (bO YK rfl (cw 1 (pv 1)) (aN (i:=6) dB.nd rfl (.inl rfl)) (af (aF (i:=7) dB.nd rfl (.inl rfl) (aq (cI T) (hr.mono (by decide)) rfl T.g_q21 T.fn_q21.kp T.bd_q21 (aT 6 (pv 6) (ar aa ap)))) (ai (br (PDW.t (cJ (eU hr.h64 (PDE.n (aU rfl T.b_len (au 5 (pv 5)))) (PDE.n aa)) (cJ (eQ (ae 3 (pv 3)) (PDE.r aa)) (cN (eQ (PDE.r (aH (ae 7 (pv 7)) (PDE.r aa))) (PDE.r aa)))))) (af (aF (i:=8) dB.nd rfl (.inl rfl) (aH (PDE.r (bA (ae 7 (pv 7)) (PDE.r aa))) (ae 3 (pv 3)))) (af (aF (i:=9) dB.nd rfl (.inl rfl) (aH (PDE.r (aI (PDE.r (aI (ae 8 (pv 8)) (PDE.r aa))) (PDE.r (aH (PDE.r (bA (ae 7 (pv 7)) (PDE.r aa))) (PDE.r (dQ (ae 3 (pv 3)) (PDE.r aa))))))) (ae 3 (pv 3)))) (af (cH 5 (pv 5) (ba (ah (ak 8 (pv 8)) (ah (ak 9 (pv 9)) (ah (aq (sx T) (hr.mono (by decide)) rfl T.g_q18 T.fn_q18.kp T.bd_q18 (aT 6 (pv 6) (aT 2 (pv 2) ap))) (ah (pE hr.h64 (PDE.n (aH (PDE.r (bA (ae 7 (pv 7)) (PDE.r aa))) (PDE.r aa))) (PDE.n aa)) ax)))))) (ai (br (PDW.t (cJ (cQ hr.h64 (PDE.n (aH (PDE.r (bA (ae 7 (pv 7)) (PDE.r aa))) (PDE.r aa))) (PDE.n aa)) (cN (eQ (PDE.r (aU rfl T.b_len (PDR.n (ij 0 1 (pv 0))))) (PDE.r aa))))) (ai (tm 5 (pv 5) (uX aa) (ba (ah (ak 8 (pv 8)) (ah (ak 9 (pv 9)) (ah (aL (PDE.r (aL (ij 0 1 (pv 0)) (PDE.r aa))) (PDE.r aa)) (ah (aL (PDE.r (aL (ij 0 1 (pv 0)) (PDE.r aa))) (PDE.r aa)) ax))))))) aJ))))) aJ)))) (af (aF (i:=10) dB.nd rfl (.inr rfl) (aq (uQ T) (hr.mono (by decide)) rfl T.g_q23 T.fn_q23.kp T.bd_q23 (ar (bA (ae 2 (pv 2)) (PDE.r aa)) (ar (aU rfl T.b_len (au 4 (pv 4))) ap)))) (af (iB 5 (fy (i:=11) (N:=["_law_one","_law_other","_law_kind_here","_law_oneway","_law_order"]) (own:=4) (ix:=[10]) (is:=[0,1,2,3]) dB.nd rfl (.inl rfl) rfl (cY (defScope gr) rfl (by decide+kernel)) (cZ tt rfl (by decide+kernel)) (b_ (by decide)) (pG (ak 5 (pv 5))) (fun _ _ _ _=>(dn (is:=[0,1,2,3]) rfl (aY (bh (i:=0) (show(["_law_one","_law_other","_law_kind_here","_law_oneway","_law_order"]:List Str).Nodup from by decide+kernel) rfl (.inl rfl)) (aY (bh (i:=1) (show(["_law_one","_law_other","_law_kind_here","_law_oneway","_law_order"]:List Str).Nodup from by decide+kernel) rfl (.inl rfl)) (aY (bh (i:=2) (show(["_law_one","_law_other","_law_kind_here","_law_oneway","_law_order"]:List Str).Nodup from by decide+kernel) rfl (.inl rfl)) (aY (bh (i:=3) (show(["_law_one","_law_other","_law_kind_here","_law_oneway","_law_order"]:List Str).Nodup from by decide+kernel) rfl (.inl rfl)) dq)))))) (fun _ _ _ _=>dm) (fun _ _ _ _=>(ba (ah (aL (ae 4 (pv 4)) (ae 0 (pv 0))) (ah (aL (ae 4 (pv 4)) (ae 1 (pv 1))) (ah (ak 2 (pv 2)) (ah (ak 3 (pv 3)) ax)))))) (by decide+kernel))) (af (fy (i:=12) (N:=["_law_k","_law_kinds","_law_order"]) (own:=1) (ix:=[4,10]) (is:=[0]) dB.nd rfl (.inl rfl) rfl (cY (defScope gr) rfl (by decide+kernel)) (cZ tt rfl (by decide+kernel)) (b_ (by decide)) (bf rfl T.b_range (PDE.r (aU rfl T.b_len (au 4 (pv 4))))) (fun _ _ _ _=>(aN (i:=0) (show(["_law_k","_law_kinds","_law_order"]:List Str).Nodup from by decide+kernel) rfl (.inl rfl))) (fun _ _ _ _=>dm) (fun _ _ _ _=>(aL (ae 1 (pv 1)) (PDE.r (sO hr.h64 (au 2 (pv 2)) (au 0 (pv 0)))))) (by decide+kernel)) (ai (aX (ba (ah (ak 12 (pv 12)) (ah (ak 11 (pv 11)) (ah (PDO.v (b5 (ae 10 (pv 10)) fm (cA (aU rfl T.b_len (PDR.n (ij 0 0 (pv 0))))))) ax)))))))))))))
abbrev AQ:List Str:=["_law_tie","_law_many","_law_far"]
theorem ue:FnScope AQ ["_law_tie","_law_many"] (defScope iR):=⟨rfl,rfl,rfl,by decide+kernel,rfl,by decide+kernel,by decide+kernel⟩
def g_q22(C:Addr):DF->Option RES:=
  (al (aw 2 (d2 aG (d2 dC (d2 ixD (ac 0) (fun _=>some (.int 1))) (d2 ixD (ac 0) (fun _=>some (.int 0)))) (ac 1)))
  (bb (d2 aG (d2 aW (d2 aW (d2 ixD (ac 0) (fun _=>some (.int 0))) (fun _=>some (.int 1))) (d2 aG (ac 2) (d2 dC (ac 1) (fun _=>some (.int 1))))) (ac 1))))
def nh(C:Addr):List DV->Option DV:=mOf 3 2 (g_q22 C)
theorem yU(T:Txt K mg t):FnOk P w K mg base CX0 1 t.f_q22 t.d_q22 ["_law_tie","_law_many"] (spD K (nh t.C)):=
 T.fn_q22.okD ue fun cdv A outer s H E hr=>(af (aF (i:=2) ue.nd rfl (.inl rfl) (aH (PDE.r (dQ (PDE.r (aL (ae 0 (pv 0)) (PDE.r aa))) (PDE.r (aL (ae 0 (pv 0)) (PDE.r aa))))) (ae 1 (pv 1)))) (ai (aX (aH (PDE.r (aI (PDE.r (aI (PDE.r (aL (ae 0 (pv 0)) (PDE.r aa))) (PDE.r aa))) (PDE.r (aH (ae 2 (pv 2)) (PDE.r (dQ (ae 1 (pv 1)) (PDE.r aa))))))) (ae 1 (pv 1))))))
abbrev Au:List Str:=["_law_many","_law_ties","_law_table_here","_law_i","_law_j","_law_found","_law_one","_law_other","_law_kind_here","_law_oneway"]
theorem dO:FnScope Au ["_law_many","_law_ties"] (defScope jc):=⟨rfl,rfl,rfl,by decide+kernel,rfl,by decide+kernel,by decide+kernel⟩
def g_q24(C:Addr):DF->Option RES:=
  (al (bt 2 (fun _=>some (.dT [])))
  (al (cb (bK (ac 0)) (setV 3) (cb (bK (ac 0)) (setV 4) (al (bt 5 (asL aD))
  (al (cb (bL 1) (cS [6,7,8,9]) (al (dIf (asB (d2 eqD (asT (ag (getV 6) (ag (getV 7) aD))) (asT (ag (getV 3) (ag (getV 4) aD))))) (dF 5 (asT (ag (getV 8) (ag (d1 mT (am 9)) aD)))) dNx)
  (dIf (asB (d2 eqD (asT (ag (getV 7) (ag (getV 6) aD))) (asT (ag (getV 3) (ag (getV 4) aD))))) (dF 5 (asT (ag (getV 8) (ag (d2 cT (fun _=>some (.int 2)) (d1 mT (am 9))) aD)))) dNx)))
  (kF 2 (asT (ag (getV 3) (ag (getV 4) aD))) (d1 mD (asO (asL (iO (ac 5))))))))))
  (e9 2)))
def lS(C:Addr):List DV->Option DV:=mOf 10 2 (g_q24 C)
theorem uE(T:Txt K mg t):FnOk P w K mg base CX0 1 t.f_q24 t.d_q24 ["_law_many","_law_ties"] (spD K (lS t.C)):=
 T.fn_q24.okD dO fun cdv A outer s H E hr=>(af (bW (i:=2) dO.nd rfl (.inl rfl) kD) (af (bO YK rfl (bf rfl T.b_range (ae 0 (pv 0))) (aN (i:=3) dO.nd rfl (.inl rfl)) (ai (bO YK rfl (bf rfl T.b_range (ae 0 (pv 0))) (aN (i:=4) dO.nd rfl (.inl rfl)) (af (bW (i:=5) dO.nd rfl (.inl rfl) (bM ax)) (af (bO YK rfl (cw 1 (pv 1)) (dn (is:=[6,7,8,9]) rfl (aY (bh (i:=6) dO.nd rfl (.inl rfl)) (aY (bh (i:=7) dO.nd rfl (.inl rfl)) (aY (bh (i:=8) dO.nd rfl (.inl rfl)) (aY (bh (i:=9) dO.nd rfl (.inl rfl)) dq))))) (af (br (cQ hr.h64 (PDE.n (ba (ah (ak 6 (pv 6)) (ah (ak 7 (pv 7)) ax)))) (PDE.n (ba (ah (ak 3 (pv 3)) (ah (ak 4 (pv 4)) ax))))) (ai (cH 5 (pv 5) (ba (ah (ak 8 (pv 8)) (ah (qe rfl T.b_int (au 9 (pv 9))) ax))))) aJ) (ai (br (cQ hr.h64 (PDE.n (ba (ah (ak 7 (pv 7)) (ah (ak 6 (pv 6)) ax)))) (PDE.n (ba (ah (ak 3 (pv 3)) (ah (ak 4 (pv 4)) ax))))) (ai (cH 5 (pv 5) (ba (ah (ak 8 (pv 8)) (ah (dg (PDE.r aa) (PDE.r (qe rfl T.b_int (au 9 (pv 9))))) ax))))) aJ)))) (ai (ql 2 hr.h64 (pv 2) (ba (ah (ak 3 (pv 3)) (ah (ak 4 (pv 4)) ax))) (lP rfl T.b_tuple (PDE.r (PDO.v (fj hr.h64 rfl T.b_sorted (ae 5 (pv 5))))))))))))) (ai (eX 2 (pv 2)))))
abbrev xn:List Str:=["_law_many","_law_most","_law_rows","_law_k","_law_longer","_law_row"]
theorem gB:FnScope xn ["_law_many","_law_most"] (defScope g9):=⟨rfl,rfl,rfl,by decide+kernel,rfl,by decide+kernel,by decide+kernel⟩
def g_q19(C:Addr):DF->Option RES:=
  (al (aw 2 (asO (asL (ag (asO (asL aD)) aD))))
  (al (cb (bK (ac 0)) (setV 3) (al (bt 4 (asL aD))
  (al (cb (bL 2) (setV 5) (jP 4 (aS 1 [5] (bK (ac 1)) (setV 0) (asB (d2 fg (am 0) (am 1))) (d2 aW (ac 1) (asO (asL (ag (getV 0) aD)))))))
  (jV 4 (aw 2 (getV 4))))))
  (bb (getV 2))))
def pU(C:Addr):List DV->Option DV:=mOf 6 2 (g_q19 C)
theorem xB(T:Txt K mg t):FnOk P w K mg base CX0 1 t.f_q19 t.d_q19 ["_law_many","_law_most"] (spD K (pU t.C)):=
 T.fn_q19.okD gB fun cdv A outer s H E hr=>(af (aF (i:=2) gB.nd rfl (.inl rfl) (PDO.v (bM (ah (PDO.v (bM ax)) ax)))) (af (bO YK rfl (bf rfl T.b_range (ae 0 (pv 0))) (aN (i:=3) gB.nd rfl (.inl rfl)) (af (bW (i:=4) gB.nd rfl (.inl rfl) (bM ax)) (af (bO YK rfl (cw 2 (pv 2)) (aN (i:=5) gB.nd rfl (.inr rfl)) (ai (j5 4 (pv 4) (bQ (N:=["_law_place","_law_row"]) (own:=1) (ix:=[5]) (is:=[0]) rfl (cY (defScope g9) rfl (by decide+kernel)) (cZ xn rfl (by decide+kernel)) (b_ (by decide)) (bf rfl T.b_range (ae 1 (pv 1))) (fun _ _ _ _=>(aN (i:=0) (show(["_law_place","_law_row"]:List Str).Nodup from by decide+kernel) rfl (.inl rfl))) (fun _ _ _ _=>(wU (sY hr.h64 (au 0 (pv 0)) (au 1 (pv 1))))) (fun _ _ _ _=>(aI (ae 1 (pv 1)) (PDE.r (PDO.v (bM (ah (ak 0 (pv 0)) ax)))))) (by decide+kernel))))) (ai (iB 4 (aF (i:=2) gB.nd rfl (.inl rfl) (ak 4 (pv 4)))))))) (ai (aX (ak 2 (pv 2))))))
abbrev Ac:List Str:=["_law_small","_law_great_here","_law_tables","_law_way","_law_i","_law_j","_law_pairs","_law_others","_law_pair"]
theorem gE:FnScope Ac ["_law_small","_law_great_here","_law_tables","_law_way"] (defScope i8):=⟨rfl,rfl,rfl,by decide+kernel,rfl,by decide+kernel,by decide+kernel⟩
def g_q17(C:Addr):DF->Option RES:=
  (al (cb (bK (d1 aM (am 3))) (setV 4) (al (dIf (asB (d2 neD (d2 ixD (d2 ixD (ac 0) (fun _=>some (.int 0))) (ac 4)) (d2 ixD (d2 ixD (ac 1) (fun _=>some (.int 0))) (d2 ixD (ac 3) (ac 4))))) (bb (fun _=>some (.bl false))) dNx)
  (cb (bK (ac 4)) (setV 5) (al (aw 6 (d2 dL (d2 ixD (ac 2) (fun _=>some (.int 0))) (asT (ag (getV 4) (ag (getV 5) aD)))))
  (al (aw 7 (d2 dL (d2 ixD (ac 2) (fun _=>some (.int 1))) (asT (ag (d2 ixD (ac 3) (ac 4)) (ag (d2 ixD (ac 3) (ac 5)) aD)))))
  (cb (gp (getV 6)) (setV 8) (dIf (asB (d2 ltd (d2 ik (am 7) (am 8)) (d2 ik (am 6) (am 8)))) (bb (fun _=>some (.bl false))) dNx)))))))
  (bb (fun _=>some (.bl true))))
def mU(C:Addr):List DV->Option DV:=mOf 9 4 (g_q17 C)
theorem yg(T:Txt K mg t):FnOk P w K mg base CX0 1 t.f_q17 t.d_q17 ["_law_small","_law_great_here","_law_tables","_law_way"] (spD K (mU t.C)):=
 T.fn_q17.okD gE fun cdv A outer s H E hr=>(af (bO YK rfl (bf rfl T.b_range (PDE.r (aU rfl T.b_len (au 3 (pv 3))))) (aN (i:=4) gE.nd rfl (.inl rfl)) (af (br (kH hr.h64 (PDE.n (aL (PDE.r (aL (ae 0 (pv 0)) (PDE.r aa))) (ae 4 (pv 4)))) (PDE.n (aL (PDE.r (aL (ae 1 (pv 1)) (PDE.r aa))) (PDE.r (aL (ae 3 (pv 3)) (ae 4 (pv 4))))))) (ai (aX eh)) aJ) (ai (bO YK rfl (bf rfl T.b_range (ae 4 (pv 4))) (aN (i:=5) gE.nd rfl (.inl rfl)) (af (aF (i:=6) gE.nd rfl (.inl rfl) (p8 hr.h64 (PDE.r (aL (ae 2 (pv 2)) (PDE.r aa))) (ba (ah (ak 4 (pv 4)) (ah (ak 5 (pv 5)) ax))))) (af (aF (i:=7) gE.nd rfl (.inl rfl) (p8 hr.h64 (PDE.r (aL (ae 2 (pv 2)) (PDE.r aa))) (ba (ah (aL (ae 3 (pv 3)) (ae 4 (pv 4))) (ah (aL (ae 3 (pv 3)) (ae 5 (pv 5))) ax))))) (ai (bO YK rfl (p7 (ak 6 (pv 6))) (aN (i:=8) gE.nd rfl (.inl rfl)) (ai (br (eU hr.h64 (PDE.n (eZ hr.h64 (au 7 (pv 7)) (au 8 (pv 8)))) (PDE.n (eZ hr.h64 (au 6 (pv 6)) (au 8 (pv 8))))) (ai (aX eh)) aJ)))))))))) (ai (aX eh)))
abbrev xl:List Str:=["_law_small","_law_great_here","_law_tables","_law_rows"]
theorem oP:FnScope xl ["_law_small","_law_great_here"] (defScope hV):=⟨rfl,rfl,rfl,by decide+kernel,rfl,by decide+kernel,by decide+kernel⟩
def g_q25(C:Addr):DF->Option RES:=
  (al (aw 2 (asO (asL (ag (aj (lS C) (aV (d1 aM (d2 ixD (ac 0) (fun _=>some (.int 0)))) (aV (d2 ixD (ac 0) (fun _=>some (.int 1))) (fun _=>some [])))) (ag (aj (lS C) (aV (d1 aM (d2 ixD (ac 1) (fun _=>some (.int 0)))) (aV (d2 ixD (ac 1) (fun _=>some (.int 1))) (fun _=>some [])))) aD)))))
  (al (aw 3 (aj (pU C) (aV (d1 aM (d2 ixD (ac 0) (fun _=>some (.int 0)))) (aV (d1 aM (d2 ixD (ac 1) (fun _=>some (.int 0)))) (fun _=>some [])))))
  (d9 (asL (aS 1 [0,1,2] (bL 3) (setV 0) (asB (aj (mU C) (aB 1 (aB 2 (aB 3 (aB 0 (fun _=>some []))))))) (getV 0))))))
def fX(C:Addr):List DV->Option DV:=mOf 4 2 (g_q25 C)
theorem uY(T:Txt K mg t):FnOk P w K mg base CX0 2 t.f_q25 t.d_q25 ["_law_small","_law_great_here"] (spD K (fX t.C)):=
 T.fn_q25.okD oP fun cdv A outer s H E hr=>(af (aF (i:=2) oP.nd rfl (.inr rfl) (PDO.v (bM (ah (aq (uE T) (hr.mono (by decide)) rfl T.g_q24 T.fn_q24.kp T.bd_q24 (ar (aU rfl T.b_len (PDE.n (aL (ae 0 (pv 0)) (PDE.r aa)))) (ar (aL (ae 0 (pv 0)) (PDE.r aa)) ap))) (ah (aq (uE T) (hr.mono (by decide)) rfl T.g_q24 T.fn_q24.kp T.bd_q24 (ar (aU rfl T.b_len (PDE.n (aL (ae 1 (pv 1)) (PDE.r aa)))) (ar (aL (ae 1 (pv 1)) (PDE.r aa)) ap))) ax))))) (af (aF (i:=3) oP.nd rfl (.inl rfl) (aq (xB T) (hr.mono (by decide)) rfl T.g_q19 T.fn_q19.kp T.bd_q19 (ar (aU rfl T.b_len (PDE.n (aL (ae 0 (pv 0)) (PDE.r aa)))) (ar (aU rfl T.b_len (PDE.n (aL (ae 1 (pv 1)) (PDE.r aa)))) ap)))) (ai (fN (bQ (N:=["_law_row","_law_small","_law_great_here","_law_tables"]) (own:=1) (ix:=[0,1,2]) (is:=[0]) rfl (cY (defScope hV) rfl (by decide+kernel)) (cZ xl rfl (by decide+kernel)) (b_ (by decide)) (cw 3 (pv 3)) (fun _ _ _ _=>(aN (i:=0) (show(["_law_row","_law_small","_law_great_here","_law_tables"]:List Str).Nodup from by decide+kernel) rfl (.inl rfl))) (fun _ _ _ _=>(wU (bV (aq (yg T) (hr.mono (by decide)) rfl T.g_q17 T.fn_q17.kp T.bd_q17 (aT 1 (pv 1) (aT 2 (pv 2) (aT 3 (pv 3) (aT 0 (pv 0) ap)))))))) (fun _ _ _ _=>(ak 0 (pv 0))) (by decide+kernel))))))
abbrev AK:List Str:=["kind","letters_fit"]
theorem wY:FnScope AK ["kind"] (defScope m_):=⟨rfl,rfl,rfl,by decide+kernel,rfl,by decide+kernel,by decide+kernel⟩
def g_q6(C:Addr):DF->Option RES:=
  (al (aw 1 (d1 nX (asO (asL (aS 1 [] (mG (getV 0)) (setV 0) bC (chD leA leA (fun _=>some (.str "a")) (am 0) (fun _=>some (.str "z"))))))))
  (bb (ln (getV 1) (chD leA leA (fun _=>some (.int 1)) (d1 aM (am 0)) (fun _=>some (.int 3))))))
def tU(C:Addr):List DV->Option DV:=mOf 2 1 (g_q6 C)
theorem AN(T:Txt K mg t):FnOk P w K mg base CX0 1 t.f_q6 t.d_q6 ["kind"] (spD K (tU t.C)):=
 T.fn_q6.okD wY fun cdv A outer s H E hr=>(af (aF (i:=1) wY.nd rfl (.inl rfl) (oA rfl rfl T.b_all (PDE.n (PDO.v (bQ (N:=["letter"]) (own:=1) (ix:=[]) (is:=[0]) rfl (cY (defScope m_) rfl (by decide+kernel)) (cZ AK rfl (by decide+kernel)) (b_ (by decide)) (vh (ak 0 (pv 0))) (fun _ _ _ _=>(aN (i:=0) (show(["letter"]:List Str).Nodup from by decide+kernel) rfl (.inl rfl))) (fun _ _ _ _=>dm) (fun _ _ _ _=>(p5 (PDE.n kN) (au 0 (pv 0)) (PDE.n kN))) (by decide+kernel)))))) (ai (aX (gC (ak 1 (pv 1)) (i7 (p5 (PDE.n aa) (PDE.n (aU rfl T.b_len (au 0 (pv 0)))) (PDE.n (f7 rfl T.c_MOST_LETTERS))))))))
abbrev C7:List Str:=["kind"]
theorem BH:FnScope C7 ["kind"] (defScope oM):=⟨rfl,rfl,rfl,by decide+kernel,rfl,by decide+kernel,by decide+kernel⟩
def g_q8(C:Addr):DF->Option RES:=
  (bb (chD leA ltI (fun _=>some (.int 0)) (am 0) (d2 l0 (fun _=>some (.int 10)) (fun _=>some (.int 30)))))
def tP(C:Addr):List DV->Option DV:=mOf 1 1 (g_q8 C)
theorem Bw(T:Txt K mg t):FnOk P w K mg base CX0 1 t.f_q8 t.d_q8 ["kind"] (spD K (tP t.C)):=
 T.fn_q8.okD BH fun cdv A outer s H E hr=>(ai (aX (kU (PDE.n aa) (au 0 (pv 0)) (PDE.n (i_ (PDE.r aa) (PDE.r aa))))))
abbrev B_:List Str:=["tie","size","places_fit"]
theorem xm:FnScope B_ ["tie","size"] (defScope nQ):=⟨rfl,rfl,rfl,by decide+kernel,rfl,by decide+kernel,by decide+kernel⟩
def g_q7(C:Addr):DF->Option RES:=
  (al (aw 2 (ln (chD leA ltI (fun _=>some (.int 0)) (d2 ixD (ac 0) (fun _=>some (.int 0))) (am 1)) (chD leA ltI (fun _=>some (.int 0)) (d2 ixD (ac 0) (fun _=>some (.int 1))) (am 1))))
  (bb (ln (getV 2) (ln (d2 neD (d2 ixD (ac 0) (fun _=>some (.int 0))) (d2 ixD (ac 0) (fun _=>some (.int 1)))) (aj (tP C) (aV (d2 ixD (ac 0) (fun _=>some (.int 2))) (fun _=>some [])))))))
def rF(C:Addr):List DV->Option DV:=mOf 3 2 (g_q7 C)
theorem AT(T:Txt K mg t):FnOk P w K mg base CX0 2 t.f_q7 t.d_q7 ["tie","size"] (spD K (rF t.C)):=
 T.fn_q7.okD xm fun cdv A outer s H E hr=>(af (aF (i:=2) xm.nd rfl (.inl rfl) (gC (kU (PDE.n aa) (PDE.n (aL (ae 0 (pv 0)) (PDE.r aa))) (au 1 (pv 1))) (i7 (kU (PDE.n aa) (PDE.n (aL (ae 0 (pv 0)) (PDE.r aa))) (au 1 (pv 1)))))) (ai (aX (gC (ak 2 (pv 2)) (gC (Af hr.h64 (PDE.n (aL (ae 0 (pv 0)) (PDE.r aa))) (PDE.n (aL (ae 0 (pv 0)) (PDE.r aa)))) (i7 (aq (Bw T) (hr.mono (by decide)) rfl T.g_q8 T.fn_q8.kp T.bd_q8 (ar (aL (ae 0 (pv 0)) (PDE.r aa)) ap))))))))
abbrev AV:List Str:=["kinds","ties","kind","tie"]
theorem oN:FnScope AV ["kinds","ties"] (defScope jn):=⟨rfl,rfl,rfl,by decide+kernel,rfl,by decide+kernel,by decide+kernel⟩
def g_q32(C:Addr):DF->Option RES:=
  (al (dIf (bX (asB (chD leA leA (fun _=>some (.int 1)) (d1 aM (am 0)) (fun _=>some (.int 7))))) e_ dNx)
  (al (dIf (asB (d2 gtI (d1 aM (am 1)) (fun _=>some (.int 12)))) e_ dNx)
  (al (cb (bL 0) (setV 2) (dIf (bX (asB (aj (tU C) (aV (getV 2) (fun _=>some []))))) e_ dNx))
  (cb (bL 1) (setV 3) (dIf (bX (asB (aj (rF C) (aB 3 (aV (d1 aM (am 0)) (fun _=>some [])))))) e_ dNx)))))
def lQ(C:Addr):List DV->Option DV:=mOf 4 2 (g_q32 C)
theorem yS(T:Txt K mg t):FnOk P w K mg base CX0 3 t.f_q32 t.d_q32 ["kinds","ties"] (spD K (lQ t.C)):=
 T.fn_q32.okD oN fun cdv A outer s H E hr=>(af (br (cM (vI (PDE.n aa) (PDE.n (aU rfl T.b_len (au 0 (pv 0)))) (PDE.n (f7 rfl T.c_MOST_PLACES)))) (ai eB) aJ) (af (br (eQ (PDE.r (aU rfl T.b_len (au 1 (pv 1)))) (PDE.r (f7 rfl T.c_MOST_TIES))) (ai eB) aJ) (af (bO YK rfl (cw 0 (pv 0)) (aN (i:=2) oN.nd rfl (.inl rfl)) (ai (br (cM (bV (aq (AN T) (hr.mono (by decide)) rfl T.g_q6 T.fn_q6.kp T.bd_q6 (ar (ak 2 (pv 2)) ap)))) (ai eB) aJ))) (ai (bO YK rfl (cw 1 (pv 1)) (aN (i:=3) oN.nd rfl (.inl rfl)) (ai (br (cM (bV (aq (AT T) (hr.mono (by decide)) rfl T.g_q7 T.fn_q7.kp T.bd_q7 (aT 3 (pv 3) (ar (aU rfl T.b_len (au 0 (pv 0))) ap))))) (ai eB) aJ)))))))
abbrev Ap:List Str:=["tie"]
theorem yZ:FnScope Ap ["tie"] (defScope iI):=⟨rfl,rfl,rfl,by decide+kernel,rfl,by decide+kernel,by decide+kernel⟩
def g_q29(C:Addr):DF->Option RES:=
  (al (dIf (orT (asB (d2 ixD (ac 0) (fun _=>some (.int 3)))) (asB (d2 ltd (d2 ixD (ac 0) (fun _=>some (.int 0))) (d2 ixD (ac 0) (fun _=>some (.int 1)))))) (bb (getV 0)) dNx)
  (bb (asT (ag (d2 ixD (ac 0) (fun _=>some (.int 1))) (ag (d2 ixD (ac 0) (fun _=>some (.int 0))) (ag (d2 ixD (ac 0) (fun _=>some (.int 2))) (ag (d2 ixD (ac 0) (fun _=>some (.int 3))) aD)))))))
def lO(C:Addr):List DV->Option DV:=mOf 1 1 (g_q29 C)
theorem yD(T:Txt K mg t):FnOk P w K mg base CX0 1 t.f_q29 t.d_q29 ["tie"] (spD K (lO t.C)):=
 T.fn_q29.okD yZ fun cdv A outer s H E hr=>(af (br (PDW.t (fC (bV (aL (ae 0 (pv 0)) (PDE.r aa))) (dR (eU hr.h64 (PDE.n (aL (ae 0 (pv 0)) (PDE.r aa))) (PDE.n (aL (ae 0 (pv 0)) (PDE.r aa))))))) (ai (aX (ak 0 (pv 0)))) aJ) (ai (aX (ba (ah (aL (ae 0 (pv 0)) (PDE.r aa)) (ah (aL (ae 0 (pv 0)) (PDE.r aa)) (ah (aL (ae 0 (pv 0)) (PDE.r aa)) (ah (aL (ae 0 (pv 0)) (PDE.r aa)) ax))))))))
abbrev BD:List Str:=["joins","ends","pair"]
theorem xJ:FnScope BD ["joins","ends","pair"] (defScope jG):=⟨rfl,rfl,rfl,by decide+kernel,rfl,by decide+kernel,by decide+kernel⟩
def g_q31(C:Addr):DF->Option RES:=
  (kF 0 (getV 1) (d1 mD (asO (asL (iO (d2 aW (fV (ac 0) (getV 1) (asT aD)) (asT (ag (getV 2) aD))))))))
def iS(C:Addr):OD->List DV->Option (OD×D):=qZ 3 3 (g_q31 C)
theorem t6(T:Txt K mg t):FnOk P w K mg base CX0 1 t.f_q31 t.d_q31 ["joins","ends","pair"] (spM K (iS t.C)):=
 T.fn_q31.okM xJ pC fun cdv A outer s H E hr=>(ai (ql 0 hr.h64 (pv 0) (ak 1 (pv 1)) (lP rfl T.b_tuple (PDE.r (PDO.v (fj hr.h64 rfl T.b_sorted (PDE.r (aI (PDE.r (mf hr.h64 (ae 0 (pv 0)) (ak 1 (pv 1)) (ba ax))) (PDE.r (ba (ah (ak 2 (pv 2)) ax)))))))))))
abbrev Cq:List Str:=["ties","joins","one","other","kind","oneway"]
theorem kq:FnScope Cq ["ties"] (defScope oK):=⟨rfl,rfl,rfl,by decide+kernel,rfl,by decide+kernel,by decide+kernel⟩
def g_q9(C:Addr):DF->Option RES:=
  (al (bt 1 (fun _=>some (.dT [])))
  (al (cb (bL 0) (cS [2,3,4,5]) (al (eG K0 1 (iS C) (aV (asT (ag (getV 2) (ag (getV 3) aD))) (aV (asT (ag (getV 4) (ag (ifV (asB (getV 5)) (fun _=>some (.int 1)) (fun _=>some (.int 0))) aD))) (fun _=>some []))))
  (eG K0 1 (iS C) (aV (asT (ag (getV 3) (ag (getV 2) aD))) (aV (asT (ag (getV 4) (ag (ifV (asB (getV 5)) (fun _=>some (.int 2)) (fun _=>some (.int 0))) aD))) (fun _=>some []))))))
  (e9 1)))
def tT(C:Addr):List DV->Option DV:=mOf 6 1 (g_q9 C)
theorem AO(T:Txt K mg t):FnOk P w K mg base CX0 2 t.f_q9 t.d_q9 ["ties"] (spD K (tT t.C)):=
 T.fn_q9.okD kq fun cdv A outer s H E hr=>(af (bW (i:=1) kq.nd rfl (.inl rfl) kD) (af (bO YK rfl (cw 0 (pv 0)) (dn (is:=[2,3,4,5]) rfl (aY (bh (i:=2) kq.nd rfl (.inl rfl)) (aY (bh (i:=3) kq.nd rfl (.inl rfl)) (aY (bh (i:=4) kq.nd rfl (.inl rfl)) (aY (bh (i:=5) kq.nd rfl (.inl rfl)) dq))))) (af (np 1 (t6 T) (hr.mono (by decide)) rfl T.g_q31 T.fn_q31.kp T.bd_q31 (pv 1) (ar (ba (ah (ak 2 (pv 2)) (ah (ak 3 (pv 3)) ax))) (ar (ba (ah (ak 4 (pv 4)) (ah (uK (bV (ak 5 (pv 5))) aa aa) ax))) ap))) (ai (np 1 (t6 T) (hr.mono (by decide)) rfl T.g_q31 T.fn_q31.kp T.bd_q31 (pv 1) (ar (ba (ah (ak 3 (pv 3)) (ah (ak 2 (pv 2)) ax))) (ar (ba (ah (ak 4 (pv 4)) (ah (uK (bV (ak 5 (pv 5))) aa aa) ax))) ap)))))) (ai (eX 1 (pv 1)))))
abbrev Aa:List Str:=["self","kinds","ties"]
theorem Bd:FnScope Aa ["self","kinds","ties"] (defScope nj):=⟨rfl,rfl,rfl,by decide+kernel,rfl,by decide+kernel,by decide+kernel⟩
def Az(C:Addr):DF->Option RES:=
  (al (pZ (aj (lQ C) (aB 1 (aB 2 (fun _=>some [])))))
  (al (j6 C 0 "kinds" (asO (asL (eK (ac 1)))))
  (al (j6 C 0 "ties" (asO (asL (iO (asO (asL (aS 1 [] (bL 2) (setV 0) bC (aj (lO C) (aV (getV 0) (fun _=>some []))))))))))
  (j6 C 0 "joins" (aj (tT C) (aV (d1 (iu C "ties") (ac 0)) (fun _=>some [])))))))
def eS(C:Addr):OD->List DV->Option (OD×D):=qZ 3 3 (Az C)
theorem qp(T:Txt K mg t):FnOk P w K mg base CX0 4 t.f_q0 t.d_q0 ["self","kinds","ties"] (spM K (eS t.C)):=
 T.fn_q0.okM Bd pC fun cdv A outer s H E hr=>(af (vg (aq (yS T) (hr.mono (by decide)) rfl T.g_q32 T.fn_q32.kp T.bd_q32 (aT 1 (pv 1) (aT 2 (pv 2) ap)))) (af (lF 0 T.cl T.na_kinds (pv 0) (PDO.v (ji rfl T.b_list (ae 1 (pv 1))))) (af (lF 0 T.cl T.na_ties (pv 0) (PDO.v (fj hr.h64 rfl T.b_sorted (PDE.r (PDO.v (bQ (N:=["tie"]) (own:=1) (ix:=[]) (is:=[0]) rfl (cY (defScope nj) rfl (by decide+kernel)) (cZ Aa rfl (by decide+kernel)) (b_ (by decide)) (cw 2 (pv 2)) (fun _ _ _ _=>(aN (i:=0) (show(["tie"]:List Str).Nodup from by decide+kernel) rfl (.inl rfl))) (fun _ _ _ _=>dm) (fun _ _ _ _=>(aq (yD T) (hr.mono (by decide)) rfl T.g_q29 T.fn_q29.kp T.bd_q29 (ar (ak 0 (pv 0)) ap))) (by decide+kernel))))))) (ai (lF 0 T.cl T.na_joins (pv 0) (aq (AO T) (hr.mono (by decide)) rfl T.g_q9 T.fn_q9.kp T.bd_q9 (ar (jm T.cl T.na_ties (ae 0 (pv 0))) ap)))))))
abbrev C0:List Str:=["self"]
theorem BA:FnScope C0 ["self"] (defScope n9):=⟨rfl,rfl,rfl,by decide+kernel,rfl,by decide+kernel,by decide+kernel⟩
def AE(C:Addr):DF->Option RES:=
  (bb (d1 aM (d1 (iu C "kinds") (ac 0))))
def mQ(C:Addr):List DV->Option DV:=mOf 1 1 (AE C)
theorem xh(T:Txt K mg t):FnOk P w K mg base CX0 1 t.f_q2 t.d_q2 ["self"] (spD K (mQ t.C)):=
 T.fn_q2.okD BA fun cdv A outer s H E hr=>(ai (aX (aU rfl T.b_len (PDE.n (jm T.cl T.na_kinds (ae 0 (pv 0)))))))
abbrev xw:List Str:=["pairs","more"]
theorem x_:FnScope xw ["pairs","more"] (defScope g6):=⟨rfl,rfl,rfl,by decide+kernel,rfl,by decide+kernel,by decide+kernel⟩
def g_q33(C:Addr):DF->Option RES:=
  (bb (d1 nX (asO (asL (aS 1 [1,0] (gp (getV 0)) (setV 0) bC (d2 geI (d2 ik (am 1) (am 0)) (d2 ik (am 2) (am 0))))))))
def kG(C:Addr):List DV->Option DV:=mOf 2 2 (g_q33 C)
theorem yP(T:Txt K mg t):FnOk P w K mg base CX0 1 t.f_q33 t.d_q33 ["pairs","more"] (spD K (kG t.C)):=
 T.fn_q33.okD x_ fun cdv A outer s H E hr=>(ai (aX (oA rfl rfl T.b_all (PDE.n (PDO.v (bQ (N:=["pair","more","pairs"]) (own:=1) (ix:=[1,0]) (is:=[0]) rfl (cY (defScope g6) rfl (by decide+kernel)) (cZ xw rfl (by decide+kernel)) (b_ (by decide)) (p7 (ak 0 (pv 0))) (fun _ _ _ _=>(aN (i:=0) (show(["pair","more","pairs"]:List Str).Nodup from by decide+kernel) rfl (.inl rfl))) (fun _ _ _ _=>dm) (fun _ _ _ _=>(Ad (PDE.r (eZ hr.h64 (au 1 (pv 1)) (au 0 (pv 0)))) (PDE.r (eZ hr.h64 (au 2 (pv 2)) (au 0 (pv 0)))))) (by decide+kernel)))))))
abbrev Cs:List Str:=["self","one","other"]
theorem Ag:FnScope Cs ["self","one","other"] (defScope oq):=⟨rfl,rfl,rfl,by decide+kernel,rfl,by decide+kernel,by decide+kernel⟩
def Bk(C:Addr):DF->Option RES:=
  (bb (fV (d1 (iu C "joins") (ac 0)) (asT (ag (getV 1) (ag (getV 2) aD))) (asT aD)))
def oB(C:Addr):List DV->Option DV:=mOf 3 3 (Bk C)
theorem wS(T:Txt K mg t):FnOk P w K mg base CX0 1 t.f_q1 t.d_q1 ["self","one","other"] (spD K (oB t.C)):=
 T.fn_q1.okD Ag fun cdv A outer s H E hr=>(ai (aX (mf hr.h64 (PDE.r (jm T.cl T.na_joins (ae 0 (pv 0)))) (ba (ah (ak 1 (pv 1)) (ah (ak 2 (pv 2)) ax))) (ba ax))))
abbrev xp:List Str:=["small","great","way","at","last"]
theorem nN:FnScope xp ["small","great","way"] (defScope gS):=⟨rfl,rfl,rfl,by decide+kernel,rfl,by decide+kernel,by decide+kernel⟩
def g_q10(C:Addr):DF->Option RES:=
  (al (aw 3 (d2 dC (d1 aM (am 2)) (fun _=>some (.int 1))))
  (al (aw 4 (d2 ixD (ac 2) (ac 3)))
  (al (dIf (orT (asB (d2 inD (am 4) (asO (asL (slL (ac 2) bNo (bI (getV 3))))))) (asB (d2 neD (d2 ixD (d1 (iu C "kinds") (ac 1)) (ac 4)) (d2 ixD (d1 (iu C "kinds") (ac 0)) (ac 3))))) (bb (fun _=>some (.bl false))) dNx)
  (bb (d1 nX (asO (asL (aS 1 [0,3,1,2,4] (bK (ac 3)) (setV 0) bC (aj (kG C) (aV (bT C "between" (oB C) (b7 (cF 1) (aV (getV 0) (aV (getV 2) (fun _=>some []))))) (aV (bT C "between" (oB C) (b7 (cF 3) (aV (d2 ixD (ac 4) (ac 0)) (aV (getV 5) (fun _=>some []))))) (fun _=>some []))))))))))))
def mI(C:Addr):List DV->Option DV:=mOf 5 3 (g_q10 C)
theorem zE(T:Txt K mg t):FnOk P w K mg base CX0 2 t.f_q10 t.d_q10 ["small","great","way"] (spD K (mI t.C)):=
 T.fn_q10.okD nN fun cdv A outer s H E hr=>(af (aF (i:=3) nN.nd rfl (.inr rfl) (dQ (PDE.r (aU rfl T.b_len (au 2 (pv 2)))) (PDE.r aa))) (af (aF (i:=4) nN.nd rfl (.inr rfl) (aL (ae 2 (pv 2)) (ae 3 (pv 3)))) (af (br (PDW.t (fC (Ab hr.h64 (au 4 (pv 4)) (PDE.n (PDO.v (b5 (ae 2 (pv 2)) fm (cA (ak 3 (pv 3))))))) (dR (kH hr.h64 (PDE.n (aL (PDE.r (jm T.cl T.na_kinds (ae 1 (pv 1)))) (ae 4 (pv 4)))) (PDE.n (aL (PDE.r (jm T.cl T.na_kinds (ae 0 (pv 0)))) (ae 3 (pv 3)))))))) (ai (aX eh)) aJ) (ai (aX (oA rfl rfl T.b_all (PDE.n (PDO.v (bQ (N:=["k","small","at","great","way","last"]) (own:=1) (ix:=[0,3,1,2,4]) (is:=[0]) rfl (cY (defScope gS) rfl (by decide+kernel)) (cZ xp rfl (by decide+kernel)) (b_ (by decide)) (bf rfl T.b_range (ae 3 (pv 3))) (fun _ _ _ _=>(aN (i:=0) (show(["k","small","at","great","way","last"]:List Str).Nodup from by decide+kernel) rfl (.inl rfl))) (fun _ _ _ _=>dm) (fun _ _ _ _=>(aq (yP T) (hr.mono (by decide)) rfl T.g_q33 T.fn_q33.kp T.bd_q33 (ar (qt (iD 1 (pv 1)) T.cl T.mt_q1 (wS T) (hr.mono (by decide)) T.bd_q1 (ar (ak 0 (pv 0)) (ar (ak 2 (pv 2)) ap))) (ar (qt (iD 3 (pv 3)) T.cl T.mt_q1 (wS T) (hr.mono (by decide)) T.bd_q1 (ar (aL (ae 4 (pv 4)) (ae 0 (pv 0))) (ar (ak 5 (pv 5)) ap))) ap)))) (by decide+kernel))))))))))
abbrev C3:List Str:=["small","great","begun","found","most","place","longer"]
theorem uG:FnScope C3 ["small","great","begun","found","most"] (defScope oW):=⟨rfl,rfl,rfl,by decide+kernel,rfl,by decide+kernel,by decide+kernel⟩
def g_q5(C:Addr)(R:List (List D)->List D->List DV->Option (List (List D))):DF->Option RES:=
  (al (dIf (asB (d2 eqD (d1 aM (am 2)) (bT C "size" (mQ C) (b7 (cF 0) g0)))) (al (le 3 2)
  (bb (fun _=>some .non))) dNx)
  (cb (bK (bT C "size" (mQ C) (b7 (cF 1) g0))) (setV 5) (al (bt 6 (asL (io (ac 2) (asO (asL (ag (getV 5) aD))))))
  (dIf (du 6 (du 3 (cR (asB (d2 ltd (d1 aM (am 3)) (am 4))) (asB (aj (mI C) (aB 0 (aB 1 (aB 6 (fun _=>some []))))))))) (fF 3 6 R (getV 0) (getV 1) (getV 4)) dNx))))
def dh(C:Addr):Nat->List (List D)->List D->List DV->Option (List (List D))
 |0=>fun _ _ _=>none
 |n+1=>qR 7 (g_q5 C (dh C n))
theorem xg(T:Txt K mg t):∀n:Nat,FnOk P w K mg base CX0 (2+n) t.f_q5 t.d_q5 ["small","great","begun","found","most"] (spL K (dh t.C n))
 |0=>FnOk.neverL
 |n+1=>T.fn_q5.okL (k:=2+n) (g:=g_q5 t.C (dh t.C n)) uG rfl fun cdv A outer s H E hr=>(af (br (cQ hr.h64 (PDE.n (aU rfl T.b_len (au 2 (pv 2)))) (PDE.n (lN (iD 0 (pv 0)) T.cl T.mt_q2 (xh T) (hr.mono (by omega)) T.bd_q2))) (af (uf 3 2 (pv 3) (pv 2)) (ai vG)) aJ) (ai (bO YK rfl (bf rfl T.b_range (PDE.r (lN (iD 1 (pv 1)) T.cl T.mt_q2 (xh T) (hr.mono (by omega)) T.bd_q2))) (aN (i:=5) uG.nd rfl (.inl rfl)) (af (bW (i:=6) uG.nd rfl (.inl rfl) (qm (ae 2 (pv 2)) (PDE.r (PDO.v (bM (ah (ak 5 (pv 5)) ax)))))) (ai (br (iz 6 (iz 3 (PDW.t (cJ (eU hr.h64 (PDE.n (aU rfl T.b_len (au 3 (pv 3)))) (au 4 (pv 4))) (cN (bV (aq (zE T) (hr.mono (by omega)) rfl T.g_q10 T.fn_q10.kp T.bd_q10 (aT 0 (pv 0) (aT 1 (pv 1) (aT 6 (pv 6) ap)))))))))) (ai (qY 3 6 (xg T n) (hr.mono (by omega)) rfl T.g_q5 T.fn_q5.kp T.bd_q5 (ak 0 (pv 0)) (ak 1 (pv 1)) (pv 6) (pv 3) (ak 4 (pv 4)))) aJ))))))
abbrev C4:List Str:=["small","great","most","found"]
theorem wR:FnScope C4 ["small","great","most"] (defScope oE):=⟨rfl,rfl,rfl,by decide+kernel,rfl,by decide+kernel,by decide+kernel⟩
def g_q4(C:Addr):DF->Option RES:=
  (al (bt 3 (fun _=>some (OD.lst2 [])))
  (al (gl 3 (dh C 9) (getV 0) (getV 1) aD (getV 2))
  (e9 3)))
def o9(C:Addr):List DV->Option DV:=mOf 4 3 (g_q4 C)
theorem w9(T:Txt K mg t):FnOk P w K mg base CX0 12 t.f_q4 t.d_q4 ["small","great","most"] (spD K (o9 t.C)):=
 T.fn_q4.okD wR fun cdv A outer s H E hr=>(af (bW (i:=3) wR.nd rfl (.inl rfl) uw) (af (oV 3 (xg T 9) (hr.mono (by decide)) rfl T.g_q5 T.fn_q5.kp T.bd_q5 (ak 0 (pv 0)) (ak 1 (pv 1)) (bM ax) (pv 3) (ak 2 (pv 2))) (ai (eX 3 (pv 3)))))
abbrev Aj:List Str:=["small","great"]
theorem yF:FnScope Aj ["small","great"] (defScope iX):=⟨rfl,rfl,rfl,by decide+kernel,rfl,by decide+kernel,by decide+kernel⟩
def g_q30(C:Addr):DF->Option RES:=
  (bb (d2 gtI (d1 aM (aj (o9 C) (aV (getV 0) (aV (getV 1) (aV (fun _=>some (.int 1)) (fun _=>some [])))))) (fun _=>some (.int 0))))
def fK(C:Addr):List DV->Option DV:=mOf 2 2 (g_q30 C)
theorem uV(T:Txt K mg t):FnOk P w K mg base CX0 13 t.f_q30 t.d_q30 ["small","great"] (spD K (fK t.C)):=
 T.fn_q30.okD yF fun cdv A outer s H E hr=>(ai (aX (r8 (PDE.r (aU rfl T.b_len (PDE.n (aq (w9 T) (hr.mono (by decide)) rfl T.g_q4 T.fn_q4.kp T.bd_q4 (ar (ak 0 (pv 0)) (ar (ak 1 (pv 1)) (ar aa ap))))))) (PDE.r aa))))
abbrev CT:List Str:=["small","great","ways"]
theorem xa:FnScope CT ["small","great"] (defScope og):=⟨rfl,rfl,rfl,by decide+kernel,rfl,by decide+kernel,by decide+kernel⟩
def g_q3(C:Addr):DF->Option RES:=
  (al (bt 2 (gm (o9 C) (aV (getV 0) (aV (getV 1) (aV (d2 aW (fun _=>some (.int 720)) (fun _=>some (.int 1))) (fun _=>some []))))))
  (al (dIf (du 2 (asB (d2 gtI (d1 aM (am 2)) (fun _=>some (.int 720))))) e_ dNx)
  (e9 2)))
def i5(C:Addr):List DV->Option DV:=mOf 3 2 (g_q3 C)
theorem uW(T:Txt K mg t):FnOk P w K mg base CX0 13 t.f_q3 t.d_q3 ["small","great"] (spD K (i5 t.C)):=
 T.fn_q3.okD xa fun cdv A outer s H E hr=>(af (bW (i:=2) xa.nd rfl (.inl rfl) (mm (w9 T) (hr.mono (by decide)) rfl T.g_q4 T.fn_q4.kp T.bd_q4 (ar (ak 0 (pv 0)) (ar (ak 1 (pv 1)) (ar (aI (PDE.r (f7 rfl T.c_MOST_TOLD)) (PDE.r aa)) ap))))) (af (br (iz 2 (eQ (PDE.r (aU rfl T.b_len (au 2 (pv 2)))) (PDE.r (f7 rfl T.c_MOST_TOLD)))) (ai eB) aJ) (ai (eX 2 (pv 2)))))
abbrev zQ:List Str:=["_law_found"]
theorem yV:FnScope zQ ["_law_found"] (defScope jM):=⟨rfl,rfl,rfl,by decide+kernel,rfl,by decide+kernel,by decide+kernel⟩
def g_q27(C:Addr):DF->Option RES:=
  (bb (ln (d1 (e8 "int") (am 0)) (wI (d1 (e8 "bool") (am 0)))))
def pM(C:Addr):List DV->Option DV:=mOf 1 1 (g_q27 C)
theorem xA(T:Txt K mg t):FnOk P w K mg base CX0 1 t.f_q27 t.d_q27 ["_law_found"] (spD K (pM t.C)):=
 T.fn_q27.okD yV fun cdv A outer s H E hr=>(ai (aX (gC (iJ rfl T.b_isinstance rfl T.b_int L2.boot_int (au 0 (pv 0))) (i7 (yj (iJ rfl T.b_isinstance rfl T.b_bool L2.boot_bool (au 0 (pv 0))))))))
abbrev AF:List Str:=["_law_found","_law_due","_law_one","_law_want","_law_number","_law_wanted"]
theorem jA:FnScope AF ["_law_found","_law_due"] (defScope jf):=⟨rfl,rfl,rfl,by decide+kernel,rfl,by decide+kernel,by decide+kernel⟩
def g_q20(C:Addr):DF->Option RES:=
  (al (dIf (orT (bX (asB (d1 (e8 "list") (am 0)))) (asB (d2 neD (d1 aM (am 0)) (d1 aM (am 1))))) (bb (fun _=>some (.bl false))) dNx)
  (al (cb (iN (getV 0) (getV 1)) (cS [2,3]) (al (dIf (orT (bX (asB (d1 (e8 "list") (am 2)))) (asB (d2 neD (d1 aM (am 2)) (d1 aM (am 3))))) (bb (fun _=>some (.bl false))) dNx)
  (cb (iN (getV 2) (getV 3)) (cS [4,5]) (dIf (orT (bX (asB (aj (pM C) (aB 4 (fun _=>some []))))) (asB (d2 neD (am 4) (am 5)))) (bb (fun _=>some (.bl false))) dNx))))
  (bb (fun _=>some (.bl true)))))
def fW(C:Addr):List DV->Option DV:=mOf 6 2 (g_q20 C)
theorem nI(T:Txt K mg t):FnOk P w K mg base CX0 2 t.f_q20 t.d_q20 ["_law_found","_law_due"] (spD K (fW t.C)):=
 T.fn_q20.okD jA fun cdv A outer s H E hr=>(af (br (PDW.t (fC (cM (bV (iJ rfl T.b_isinstance rfl T.b_list L2.boot_list (au 0 (pv 0))))) (dR (kH hr.h64 (PDE.n (aU rfl T.b_len (au 0 (pv 0)))) (PDE.n (aU rfl T.b_len (au 1 (pv 1)))))))) (ai (aX eh)) aJ) (af (bO YK rfl (p9 rfl T.b_zip (ak 0 (pv 0)) (ak 1 (pv 1))) (dn (is:=[2,3]) rfl (aY (bh (i:=2) jA.nd rfl (.inl rfl)) (aY (bh (i:=3) jA.nd rfl (.inl rfl)) dq))) (af (br (PDW.t (fC (cM (bV (iJ rfl T.b_isinstance rfl T.b_list L2.boot_list (au 2 (pv 2))))) (dR (kH hr.h64 (PDE.n (aU rfl T.b_len (au 2 (pv 2)))) (PDE.n (aU rfl T.b_len (au 3 (pv 3)))))))) (ai (aX eh)) aJ) (ai (bO YK rfl (p9 rfl T.b_zip (ak 2 (pv 2)) (ak 3 (pv 3))) (dn (is:=[4,5]) rfl (aY (bh (i:=4) jA.nd rfl (.inl rfl)) (aY (bh (i:=5) jA.nd rfl (.inl rfl)) dq))) (ai (br (PDW.t (fC (cM (bV (aq (xA T) (hr.mono (by decide)) rfl T.g_q27 T.fn_q27.kp T.bd_q27 (aT 4 (pv 4) ap)))) (dR (kH hr.h64 (au 4 (pv 4)) (au 5 (pv 5)))))) (ai (aX eh)) aJ)))))) (ai (aX eh))))
abbrev Bl:List Str:=["_law_one","_law_small","_law_other","_law_great_here","_law_due"]
theorem tu:FnScope Bl ["_law_one","_law_small","_law_other","_law_great_here"] (defScope iP):=⟨rfl,rfl,rfl,by decide+kernel,rfl,by decide+kernel,by decide+kernel⟩
def g_q13(C:Addr):DF->Option RES:=
  (al (aw 4 (aj (fX C) (aB 1 (aB 3 (fun _=>some [])))))
  (bb (ln (aj (fW C) (aV (aj (i5 C) (aV (getV 0) (aV (getV 2) (fun _=>some [])))) (aV (getV 4) (fun _=>some [])))) (d2 eqD (aj (fK C) (aV (getV 0) (aV (getV 2) (fun _=>some [])))) (d2 gtI (d1 aM (am 4)) (fun _=>some (.int 0)))))))
def jp(C:Addr):List DV->Option DV:=mOf 5 4 (g_q13 C)
theorem tK(T:Txt K mg t):FnOk P w K mg base CX0 14 t.f_q13 t.d_q13 ["_law_one","_law_small","_law_other","_law_great_here"] (spD K (jp t.C)):=
 T.fn_q13.okD tu fun cdv A outer s H E hr=>(af (aF (i:=4) tu.nd rfl (.inl rfl) (aq (uY T) (hr.mono (by decide)) rfl T.g_q25 T.fn_q25.kp T.bd_q25 (aT 1 (pv 1) (aT 3 (pv 3) ap)))) (ai (aX (gC (aq (nI T) (hr.mono (by decide)) rfl T.g_q20 T.fn_q20.kp T.bd_q20 (ar (aq (uW T) (hr.mono (by decide)) rfl T.g_q3 T.fn_q3.kp T.bd_q3 (ar (ak 0 (pv 0)) (ar (ak 2 (pv 2)) ap))) (ar (ak 4 (pv 4)) ap))) (i7 (pE hr.h64 (PDE.n (aq (uV T) (hr.mono (by decide)) rfl T.g_q30 T.fn_q30.kp T.bd_q30 (ar (ak 0 (pv 0)) (ar (ak 2 (pv 2)) ap)))) (PDE.n (r8 (PDE.r (aU rfl T.b_len (au 4 (pv 4)))) (PDE.r aa)))))))))
abbrev w_:List Str:=["_law_script","_law_fold_here","_law_cells_here","_law_seed","_law_size","_law_small","_law_many","_law_stood","_law_ties","_law_way","_law_how","_law_due","_law_one","_law_other","_law_there","_law_found","_law_more","_law_less"]
theorem bz:FnScope w_ ["_law_script"] (defScope g7):=⟨rfl,rfl,rfl,by decide+kernel,rfl,by decide+kernel,by decide+kernel⟩
def g_q11(C:Addr):DF->Option RES:=
  (al (aw 1 (aj (pP C) (aB 0 (fun _=>some []))))
  (al (aw 2 (aj (pc C) (aB 0 (aV (fun _=>some (.int 0)) (aV (fun _=>some (.int 16)) (fun _=>some []))))))
  (al (aw 3 (aj (b6 C) (aV (d2 aW (d2 ixD (ac 2) (fun _=>some (.int 0))) (ac 1)) (aV (fun _=>some (.int 1)) (fun _=>some [])))))
  (al (aw 4 (d2 aW (fun _=>some (.int 1)) (d2 aG (aj (b6 C) (aV (d2 ixD (ac 2) (fun _=>some (.int 0))) (aV (fun _=>some (.int 2)) (fun _=>some [])))) (fun _=>some (.int 4)))))
  (al (dIf (asB (d2 eqD (d2 aG (aj (b6 C) (aB 1 (aV (fun _=>some (.int 5)) (fun _=>some [])))) (fun _=>some (.int 8))) (fun _=>some (.int 0)))) (aw 4 (fun _=>some (.int 5))) dNx)
  (al (aw 5 (aj (ia C) (aV (asO (asL (slL (ac 2) (bI (fun _=>some (.int 1))) (bI (fun _=>some (.int 6)))))) (aB 3 (aV (getV 4) (fun _=>some []))))))
  (al (aw 6 (d2 aW (ac 4) (d2 aG (aj (b6 C) (aB 1 (aV (fun _=>some (.int 3)) (fun _=>some [])))) (d2 mL (fun _=>some (.int 4)) (d2 dC (fun _=>some (.int 7)) (ac 4))))))
  (al (dIf (asB (d2 gtI (ac 4) (fun _=>some (.int 3)))) (aw 6 (d2 aW (ac 4) (d2 aG (aj (b6 C) (aB 1 (aV (fun _=>some (.int 3)) (fun _=>some [])))) (d2 dC (fun _=>some (.int 6)) (ac 4))))) dNx)
  (al (eR [7,8,9] (aj (jd C) (aB 5 (aV (asO (asL (slL (ac 2) (bI (fun _=>some (.int 6))) (bI (fun _=>some (.int 12)))))) (aB 3 (aB 6 (fun _=>some [])))))))
  (al (aw 10 (d2 aG (aj (b6 C) (aB 1 (aV (fun _=>some (.int 4)) (fun _=>some [])))) (fun _=>some (.int 4))))
  (al (dIf (asB (d2 eqD (am 10) (fun _=>some (.int 0)))) (eR [7,8] (aj (ia C) (aV (asO (asL (slL (ac 2) (bI (fun _=>some (.int 6))) bNo))) (aB 3 (aV (getV 6) (fun _=>some [])))))) dNx)
  (al (dIf (cR (asB (d2 eqD (am 10) (fun _=>some (.int 1)))) (asB (d2 gtI (ac 6) (fun _=>some (.int 1))))) (aw 8 (asO (asL (aS 1 [6] (bL 8) (setV 0) bC (asT (ag (d2 ixD (ac 0) (fun _=>some (.int 0))) (ag (aj (nh C) (aB 0 (aB 1 (fun _=>some [])))) (ag (d2 ixD (ac 0) (fun _=>some (.int 2))) (ag (d2 ixD (ac 0) (fun _=>some (.int 3))) aD))))))))) dNx)
  (al (aw 11 (aj (fX C) (aB 5 (aV (asT (ag (getV 7) (ag (getV 8) aD))) (fun _=>some [])))))
  (al (aw 12 (asO (bH C (eS C) (aV (d2 ixD (ac 5) (fun _=>some (.int 0))) (aV (d2 ixD (ac 5) (fun _=>some (.int 1))) (fun _=>some []))))))
  (al (aw 13 (asO (bH C (eS C) (aB 7 (aB 8 (fun _=>some []))))))
  (al (aw 14 (aj (fK C) (aV (getV 12) (aV (getV 13) (fun _=>some [])))))
  (al (dIf (orT (bX (asB (d1 (e8 "bool") (am 14)))) (asB (d2 neD (am 14) (d2 gtI (d1 aM (am 11)) (fun _=>some (.int 0)))))) (bb (fun _=>some (.bl false))) dNx)
  (al (bt 15 (gm (i5 C) (aV (getV 12) (aV (getV 13) (fun _=>some [])))))
  (al (dIf (du 15 (bX (asB (aj (fW C) (aV (getV 15) (aV (getV 11) (fun _=>some []))))))) (bb (fun _=>some (.bl false))) dNx)
  (al (aw 16 (slT (aj (jd C) (aB 5 (aV (asO (asL (slL (ac 2) (bI (fun _=>some (.int 8))) (bI (fun _=>some (.int 14)))))) (aV (d2 aZ (ac 3) (fun _=>some (.int 3))) (aB 6 (fun _=>some [])))))) bNo (bI (fun _=>some (.int 2)))))
  (al (dIf (bX (asB (aj (jp C) (aV (getV 12) (aB 5 (aV (asO (bH C (eS C) (aV (d2 ixD (ac 16) (fun _=>some (.int 0))) (aV (d2 ixD (ac 16) (fun _=>some (.int 1))) (fun _=>some []))))) (aB 16 (fun _=>some [])))))))) (bb (fun _=>some (.bl false))) dNx)
  (al (aw 17 (aj (ia C) (aV (asO (asL (slL (ac 2) (bI (fun _=>some (.int 3))) (bI (fun _=>some (.int 8)))))) (aV (d2 aZ (ac 3) (fun _=>some (.int 5))) (aV (d2 aW (fun _=>some (.int 1)) (d2 aG (aj (b6 C) (aB 1 (aV (fun _=>some (.int 6)) (fun _=>some [])))) (fun _=>some (.int 3)))) (fun _=>some []))))))
  (al (dIf (bX (asB (aj (jp C) (aV (asO (bH C (eS C) (aV (d2 ixD (ac 17) (fun _=>some (.int 0))) (aV (d2 ixD (ac 17) (fun _=>some (.int 1))) (fun _=>some []))))) (aB 17 (aV (getV 13) (aV (asT (ag (getV 7) (ag (getV 8) aD))) (fun _=>some [])))))))) (bb (fun _=>some (.bl false))) dNx)
  (al (iZ 15 aD)
  (al (dIf (asB (d2 gtI (d1 aM (am 11)) (fun _=>some (.int 0)))) (fz 15 0 (fun _=>some (.int 9))) dNx)
  (bb (aj (fW C) (aV (aj (i5 C) (aV (getV 12) (aV (getV 13) (fun _=>some [])))) (aV (getV 11) (fun _=>some []))))))))))))))))))))))))))))))
def tq(C:Addr):List DV->Option DV:=mOf 18 1 (g_q11 C)
theorem xD(T:Txt K mg t):FnOk P w K mg base CX0 15 t.f_q11 t.d_q11 ["_law_script"] (spD K (tq t.C)):=
 T.fn_q11.okD bz fun cdv A outer s H E hr=>(af (aF (i:=1) bz.nd rfl (.inl rfl) (aq (zq T) (hr.mono (by decide)) rfl T.g_q15 T.fn_q15.kp T.bd_q15 (aT 0 (pv 0) ap))) (af (aF (i:=2) bz.nd rfl (.inl rfl) (aq (zi T) (hr.mono (by decide)) rfl T.g_q12 T.fn_q12.kp T.bd_q12 (aT 0 (pv 0) (ar aa (ar aa ap))))) (af (aF (i:=3) bz.nd rfl (.inl rfl) (aq (cI T) (hr.mono (by decide)) rfl T.g_q21 T.fn_q21.kp T.bd_q21 (ar (aI (PDE.r (aL (ae 2 (pv 2)) (PDE.r aa))) (ae 1 (pv 1))) (ar aa ap)))) (af (aF (i:=4) bz.nd rfl (.inl rfl) (aI (PDE.r aa) (PDE.r (aH (PDE.r (aq (cI T) (hr.mono (by decide)) rfl T.g_q21 T.fn_q21.kp T.bd_q21 (ar (aL (ae 2 (pv 2)) (PDE.r aa)) (ar aa ap)))) (PDE.r aa))))) (af (br (cQ hr.h64 (PDE.n (aH (PDE.r (aq (cI T) (hr.mono (by decide)) rfl T.g_q21 T.fn_q21.kp T.bd_q21 (aT 1 (pv 1) (ar aa ap)))) (PDE.r aa))) (PDE.n aa)) (ai (aF (i:=4) bz.nd rfl (.inl rfl) aa)) aJ) (af (aF (i:=5) bz.nd rfl (.inl rfl) (aq (oU T) (hr.mono (by decide)) rfl T.g_q26 T.fn_q26.kp T.bd_q26 (ar (PDO.v (b5 (ae 2 (pv 2)) (cA aa) (cA aa))) (aT 3 (pv 3) (ar (ak 4 (pv 4)) ap))))) (af (aF (i:=6) bz.nd rfl (.inr rfl) (aI (ae 4 (pv 4)) (PDE.r (aH (PDE.r (aq (cI T) (hr.mono (by decide)) rfl T.g_q21 T.fn_q21.kp T.bd_q21 (aT 1 (pv 1) (ar aa ap)))) (PDE.r (vp rfl rfl T.b_min (PDE.n aa) (PDE.n (dQ (PDE.r aa) (ae 4 (pv 4)))))))))) (af (br (eQ (ae 4 (pv 4)) (PDE.r aa)) (ai (aF (i:=6) bz.nd rfl (.inr rfl) (aI (ae 4 (pv 4)) (PDE.r (aH (PDE.r (aq (cI T) (hr.mono (by decide)) rfl T.g_q21 T.fn_q21.kp T.bd_q21 (aT 1 (pv 1) (ar aa ap)))) (PDE.r (dQ (PDE.r aa) (ae 4 (pv 4))))))))) aJ) (af (pf (dn (is:=[7,8,9]) rfl (aY (bh (i:=7) bz.nd rfl (.inl rfl)) (aY (bh (i:=8) bz.nd rfl (.inl rfl)) (aY (bh (i:=9) bz.nd rfl (.inl rfl)) dq)))) (aq (uT T) (hr.mono (by decide)) rfl T.g_q16 T.fn_q16.kp T.bd_q16 (aT 5 (pv 5) (ar (PDO.v (b5 (ae 2 (pv 2)) (cA aa) (cA aa))) (aT 3 (pv 3) (aT 6 (pv 6) ap)))))) (af (aF (i:=10) bz.nd rfl (.inl rfl) (aH (PDE.r (aq (cI T) (hr.mono (by decide)) rfl T.g_q21 T.fn_q21.kp T.bd_q21 (aT 1 (pv 1) (ar aa ap)))) (PDE.r aa))) (af (br (cQ hr.h64 (au 10 (pv 10)) (PDE.n aa)) (ai (pf (dn (is:=[7,8]) rfl (aY (bh (i:=7) bz.nd rfl (.inl rfl)) (aY (bh (i:=8) bz.nd rfl (.inl rfl)) dq))) (aq (oU T) (hr.mono (by decide)) rfl T.g_q26 T.fn_q26.kp T.bd_q26 (ar (PDO.v (b5 (ae 2 (pv 2)) (cA aa) fm)) (aT 3 (pv 3) (ar (ak 6 (pv 6)) ap)))))) aJ) (af (br (PDW.t (cJ (cQ hr.h64 (au 10 (pv 10)) (PDE.n aa)) (cN (eQ (ae 6 (pv 6)) (PDE.r aa))))) (ai (fy (i:=8) (N:=["_law_tie","_law_many"]) (own:=1) (ix:=[6]) (is:=[0]) bz.nd rfl (.inl rfl) rfl (cY (defScope g7) rfl (by decide+kernel)) (cZ w_ rfl (by decide+kernel)) (b_ (by decide)) (cw 8 (pv 8)) (fun _ _ _ _=>(aN (i:=0) (show(["_law_tie","_law_many"]:List Str).Nodup from by decide+kernel) rfl (.inl rfl))) (fun _ _ _ _=>dm) (fun _ _ _ _=>(ba (ah (aL (ae 0 (pv 0)) (PDE.r aa)) (ah (aq (yU T) (hr.mono (by decide)) rfl T.g_q22 T.fn_q22.kp T.bd_q22 (aT 0 (pv 0) (aT 1 (pv 1) ap))) (ah (aL (ae 0 (pv 0)) (PDE.r aa)) (ah (aL (ae 0 (pv 0)) (PDE.r aa)) ax)))))) (by decide+kernel))) aJ) (af (aF (i:=11) bz.nd rfl (.inl rfl) (aq (uY T) (hr.mono (by decide)) rfl T.g_q25 T.fn_q25.kp T.bd_q25 (aT 5 (pv 5) (ar (ba (ah (ak 7 (pv 7)) (ah (ak 8 (pv 8)) ax))) ap)))) (af (aF (i:=12) bz.nd rfl (.inl rfl) (PDO.v (gf T.mkC (qp T) (hr.mono (by decide)) rfl T.mgC T.bd_q0 (ar (aL (ae 5 (pv 5)) (PDE.r aa)) (ar (aL (ae 5 (pv 5)) (PDE.r aa)) ap))))) (af (aF (i:=13) bz.nd rfl (.inl rfl) (PDO.v (gf T.mkC (qp T) (hr.mono (by decide)) rfl T.mgC T.bd_q0 (aT 7 (pv 7) (aT 8 (pv 8) ap))))) (af (aF (i:=14) bz.nd rfl (.inl rfl) (aq (uV T) (hr.mono (by decide)) rfl T.g_q30 T.fn_q30.kp T.bd_q30 (ar (ak 12 (pv 12)) (ar (ak 13 (pv 13)) ap)))) (af (br (PDW.t (fC (cM (bV (iJ rfl T.b_isinstance rfl T.b_bool L2.boot_bool (au 14 (pv 14))))) (dR (kH hr.h64 (au 14 (pv 14)) (PDE.n (r8 (PDE.r (aU rfl T.b_len (au 11 (pv 11)))) (PDE.r aa))))))) (ai (aX eh)) aJ) (af (bW (i:=15) bz.nd rfl (.inl rfl) (mm (uW T) (hr.mono (by decide)) rfl T.g_q3 T.fn_q3.kp T.bd_q3 (ar (ak 12 (pv 12)) (ar (ak 13 (pv 13)) ap)))) (af (br (iz 15 (cM (bV (aq (nI T) (hr.mono (by decide)) rfl T.g_q20 T.fn_q20.kp T.bd_q20 (ar (ak 15 (pv 15)) (ar (ak 11 (pv 11)) ap)))))) (ai (aX eh)) aJ) (af (aF (i:=16) bz.nd rfl (.inl rfl) (rA (aq (uT T) (hr.mono (by decide)) rfl T.g_q16 T.fn_q16.kp T.bd_q16 (aT 5 (pv 5) (ar (PDO.v (b5 (ae 2 (pv 2)) (cA aa) (cA aa))) (ar (bA (ae 3 (pv 3)) (PDE.r aa)) (aT 6 (pv 6) ap))))) fm (cA aa))) (af (br (cM (bV (aq (tK T) (hr.mono (by decide)) rfl T.g_q13 T.fn_q13.kp T.bd_q13 (ar (ak 12 (pv 12)) (aT 5 (pv 5) (ar (PDO.v (gf T.mkC (qp T) (hr.mono (by decide)) rfl T.mgC T.bd_q0 (ar (aL (ae 16 (pv 16)) (PDE.r aa)) (ar (aL (ae 16 (pv 16)) (PDE.r aa)) ap)))) (aT 16 (pv 16) ap))))))) (ai (aX eh)) aJ) (af (aF (i:=17) bz.nd rfl (.inl rfl) (aq (oU T) (hr.mono (by decide)) rfl T.g_q26 T.fn_q26.kp T.bd_q26 (ar (PDO.v (b5 (ae 2 (pv 2)) (cA aa) (cA aa))) (ar (bA (ae 3 (pv 3)) (PDE.r aa)) (ar (aI (PDE.r aa) (PDE.r (aH (PDE.r (aq (cI T) (hr.mono (by decide)) rfl T.g_q21 T.fn_q21.kp T.bd_q21 (aT 1 (pv 1) (ar aa ap)))) (PDE.r aa)))) ap))))) (af (br (cM (bV (aq (tK T) (hr.mono (by decide)) rfl T.g_q13 T.fn_q13.kp T.bd_q13 (ar (PDO.v (gf T.mkC (qp T) (hr.mono (by decide)) rfl T.mgC T.bd_q0 (ar (aL (ae 17 (pv 17)) (PDE.r aa)) (ar (aL (ae 17 (pv 17)) (PDE.r aa)) ap)))) (aT 17 (pv 17) (ar (ak 13 (pv 13)) (ar (ba (ah (ak 7 (pv 7)) (ah (ak 8 (pv 8)) ax))) ap))))))) (ai (aX eh)) aJ) (af (vk 15 (pv 15) (bM ax)) (af (br (eQ (PDE.r (aU rfl T.b_len (au 11 (pv 11)))) (PDE.r aa)) (ai (sj 15 0 (pv 15) aa)) aJ) (ai (aX (aq (nI T) (hr.mono (by decide)) rfl T.g_q20 T.fn_q20.kp T.bd_q20 (ar (aq (uW T) (hr.mono (by decide)) rfl T.g_q3 T.fn_q3.kp T.bd_q3 (ar (ak 12 (pv 12)) (ar (ak 13 (pv 13)) ap))) (ar (ak 11 (pv 11)) ap))))))))))))))))))))))))))))))
end
theorem cL{st:Dq}{body:Dw}(I:Nat->DF->Prop):∀(ds:List D) (k:Nat) (ρ:DF),I k ρ->
  (∀j d ρ,ds[j]?=some d->I (k+j) ρ->∃ρ1,st d ρ=some ρ1/\∃ρ',body ρ1=some (.nx ρ')/\I (k+j+1) ρ')->∃ρ',cE st body ds ρ=some (.nx ρ')/\I (k+ds.length) ρ'
 |[],k,ρ,h,_=>⟨ρ,rfl,h⟩
 |d::ds,k,ρ,h,hs=>by
  obtain⟨ρ1,e1,ρ',e2,h'⟩:=hs 0 d ρ rfl h;obtain⟨ρ2,e3,h3⟩:=cL I ds (k+1) ρ' h' fun j d' ρ0 hj hI=>by
   have:=hs (j+1) d' ρ0 (by simpa using hj) (by rw[<-Nat.add_assoc,Xu];exact hI)
   rwa [show k+(j+1)+1=k+1+j+1 by omega]at this
  refine⟨ρ2,?_,by rw[Yu,show k+(ds.length+1)=k+1+ds.length by omega];exact h3⟩;unfold cE;rw[e1];simp only[e2];exact e3
theorem dc{st:Dq}{body:Dw}(I:DF->Prop){ds:List D}{ρ:DF}(h:I ρ)
  (hs:∀d∈ds,∀ρ,I ρ->∃ρ1,st d ρ=some ρ1/\∃ρ',body ρ1=some (.nx ρ')/\I ρ'):∃ρ',cE st body ds ρ=some (.nx ρ')/\I ρ':=
 cL (fun _=>I) ds 0 ρ h fun j d ρ hj hI=>hs d (Yv hj) ρ hI
theorem di{st:Dq}{c:Dk}{e:Dd}{ρ:DF}{α:Type}(f:α->D)(F:α->D):∀xs:List α,(∀x∈xs,∃ρ1,st (f x) ρ=some ρ1/\c ρ1=some true/\e ρ1=some (F x))->c8 st c e ρ (xs.map f)=some (xs.map F)
 |[],_=>rfl
 |x::xs,h=>by
  obtain⟨ρ1,h1,h2,h3⟩:=h x Yf;rw[YM];unfold c8;rw[h1,Ya,h2,Ya,Yi rfl,h3,Ya,di f F xs fun y hy=>h y (Yc _ hy)];rfl
theorem gI{st:Dq}{c:Dk}{e:Dd}{ρ:DF}{α:Type}(f:α->D)(G:α->Prop):∀ds:List D,(∀d∈ds,∃ρ1,st d ρ=some ρ1/\c ρ1=some true/\∃y,e ρ1=some (f y)/\G y)->∃ys:List α,c8 st c e ρ ds=some (ys.map f)/\ys.length=ds.length/\∀y∈ys,G y
 |[],_=>⟨[],rfl,rfl,fun _ h=>by cases h⟩
 |x::xs,h=>by
  obtain⟨ρ1,h1,h2,y,h3,h4⟩:=h x Yf;obtain⟨ys,q1,q2,q3⟩:=gI f G xs fun y hy=>h y (Yc _ hy)
  refine⟨y::ys,?_,by simp[q2],fun z hz=>?_⟩
  ·unfold c8;rw[h1,Ya,h2,Ya,Yi rfl,h3,Ya,q1];rfl
  ·rcases YF.mp hz with rfl|hz
   ·exact h4
   ·exact q3 z hz
theorem fL(i j:Int):eqd (.int i) (.int j)=decide (i=j):=by
 have h:=cB (.int i) (.int j) rfl;by_cases e:i=j
 ·rw[YL e,h,e]
 ·rw[YB e];cases q:eqd (.int i) (.int j)with
  |false=>rfl
  |true=>exact absurd (by simpa using h.mp q) e
theorem zx(i j:Bool):eqd (.bl i) (.bl j)=decide (i=j):=by
 have h:=cB (.bl i) (.bl j) rfl;by_cases e:i=j
 ·rw[YL e,h,e]
 ·rw[YB e];cases q:eqd (.bl i) (.bl j)with
  |false=>rfl
  |true=>exact absurd (by simpa using h.mp q) e
@[simp] theorem BR(i j:Int):eqD (.int i) (.int j)=some (.bl (decide (i=j))):=by unfold eqD;rw[fL];rfl
@[simp] theorem Ct(i j:Bool):eqD (.bl i) (.bl j)=some (.bl (decide (i=j))):=by unfold eqD;rw[zx];rfl
@[simp] theorem B0(i j:Int):neD (.int i) (.int j)=some (.bl (!decide (i=j))):=by unfold neD;rw[fL];rfl
@[simp] theorem BX(i j:Int):ltd (.int i) (.int j)=some (.bl (decide (i<j))):=rfl
@[simp] theorem B5(i j:Int):gtI (.int i) (.int j)=some (.bl (decide (j<i))):=rfl
@[simp] theorem BQ(i j:Int):leA (.int i) (.int j)=some (.bl (decide (i<=j))):=rfl
@[simp] theorem BT(i j:Int):ltI (.int i) (.int j)=some (.bl (decide (i<j))):=rfl
@[simp] theorem AU(i j:Int):aW (.int i) (.int j)=some (.int (i+j)):=rfl
@[simp] theorem Ak(i j:Int):dC (.int i) (.int j)=some (.int (i-j)):=rfl
theorem cC(i j:Int)(h:(-(2^64)<i/\i<2^64)\/(-(2^64)<j/\j<2^64)):cT (.int i) (.int j)=some (.int (i*j)):=Yi (YL h)
theorem ay(i j:Int)(h:0<j):aG (.int i) (.int j)=some (.int (i%j)):=Yi (YL h)
theorem bq(i j:Int)(h:0<j/\j<1073741824):aZ (.int i) (.int j)=some (.int (i/j)):=Yi (YL h)
@[simp] theorem BM:l0 (.int 10) (.int 30)=some (.int 1000000000000000000000000000000):=rfl
section
variable{f fa fb fc:Dd}{fo:Do}{fl:Dl}{fv:Dv}{c c':Dk}{g h:Dw}{ρ:DF}{i j:Nat}{m:Dm}
@[simp] theorem fD:al g h ρ=match g ρ with|some (.nx ρ')=>h ρ'|r=>r:=rfl
@[simp] theorem fP:aw i f ρ=(f ρ).map fun d=>.nx (ρ.set i (some (.v d))):=rfl
@[simp] theorem Bm:bt i fo ρ=(fo ρ).map fun o=>.nx (ρ.set i (some (.own o none))):=rfl
@[simp] theorem wp:bb f ρ=(f ρ).map fun d=>.rt (.v d) ρ:=rfl
@[simp] theorem AM:d9 fo ρ=(fo ρ).map fun o=>.rt (.own o none) ρ:=rfl
@[simp] theorem AZ:e9 i ρ=match ρ[i]? with|some (some x)=>some (.rt x ρ)|_=>none:=rfl
@[simp] theorem cU:dIf c g h ρ=(c ρ).bind fun b=>if b=true then g ρ else h ρ:=rfl
@[simp] theorem B7:dNx ρ=some (.nx ρ):=rfl
@[simp] theorem Bq:pZ f ρ=(f ρ).map fun _=>.nx ρ:=rfl
@[simp] theorem xf{F:D->Option D}:d1 F fa ρ=(fa ρ).bind F:=rfl
@[simp] theorem wW{F:Dy}:d2 F fa fb ρ=(fa ρ).bind fun x=>(fb ρ).bind fun y=>F x y:=rfl
@[simp] theorem pS:getV i ρ=match ρ[i]? with|some (some (.v d))=>some d|_=>none:=rfl
@[simp] theorem BN:ac i ρ=match ρ[i]? with|some (some (.v d))=>some d|some (some (.own o _))=>if o.flat=true then some o.d else none|some (some (.bor o))=>if o.flat=true then some o.d else none|_=>none:=rfl
@[simp] theorem vf:am i ρ=match ρ[i]? with|some (some (.v d))=>some d|some (some (.own o _))=>some o.d|some (some (.bor o))=>some o.d|_=>none:=rfl
@[simp] theorem C8:aB i fv ρ=match ρ[i]? with|some (some (.own o _))=>(fv ρ).map fun xs=>.bor o::xs|some (some (.bor o))=>(fv ρ).map fun xs=>.bor o::xs|some (some (.v d))=>(fv ρ).map fun xs=>.v d::xs|_=>none:=rfl
@[simp] theorem xo:aV f fv ρ=(f ρ).bind fun d=>(fv ρ).map fun xs=>.v d::xs:=rfl
@[simp] theorem lL:aj m fv ρ=(fv ρ).bind fun xs=>(m xs).bind dvD:=rfl
@[simp] theorem Bj:gm m fv ρ=(fv ρ).bind fun xs=>(m xs).bind dvO:=rfl
@[simp] theorem yz:asB f ρ=match f ρ with|some (.bl b)=>some b|_=>none:=rfl
@[simp] theorem tM:asL fl ρ=(fl ρ).map .lst:=rfl
@[simp] theorem gF:asO fo ρ=(fo ρ).map OD.d:=rfl
@[simp] theorem Cp:asT fl ρ=(fl ρ).map .tup:=rfl
@[simp] theorem zZ:ag f fl ρ=(f ρ).bind fun d=>(fl ρ).map fun r=>d::r:=rfl
@[simp] theorem B4:aD ρ=some []:=rfl
@[simp] theorem BS:bX c ρ=(c ρ).map fun b=>!b:=rfl
@[simp] theorem BO:bC ρ=some true:=rfl
@[simp] theorem BU{d:D}:setV i d ρ=some (ρ.set i (some (.v d))):=rfl
@[simp] theorem CD:ifV c f fa ρ=(c ρ).bind fun b=>if b=true then f ρ else fa ρ:=rfl
@[simp] theorem zP:eK f ρ=(f ρ).bind cv:=rfl
theorem iW:iO f ρ=(f ρ).bind fun d=>(cv d).bind fun ds=>if cV ds=true then some (cx ds)else none:=rfl
theorem lq{it:Dl}{st:Dq}:cb it st g ρ=(it ρ).bind fun ds=>cE st g ds ρ:=rfl
@[simp] theorem BL:jV i g ρ=match ρ[i]? with|some (some (.own o none))=>g (ρ.set i (some (.v o.d)))|some (some (.v d))=>g ρ|_=>none:=rfl
theorem cf{own:Nat}{ix:List Nat}{it:Dl}{st:Dq}{e:Dd}:aS own ix it st c e ρ=(it ρ).bind fun ds=>if ds.length<=16777216 then c8 st c e (eC own ix ρ) ds else none:=rfl
@[simp] theorem BV:cR c c' ρ=(c ρ).bind fun b=>if b=true then c' ρ else some false:=rfl
@[simp] theorem yO:orT c c' ρ=(c ρ).bind fun b=>if b=true then some true else c' ρ:=rfl
@[simp] theorem BY:ln f fa ρ=match f ρ with|some (.bl true)=>fa ρ|some (.bl false)=>some (.bl false)|_=>none:=rfl
@[simp] theorem CA:orV f fa ρ=match f ρ with|some (.bl false)=>fa ρ|some (.bl true)=>some (.bl true)|_=>none:=rfl
@[simp] theorem B6:wI f ρ=match f ρ with|some (.bl b)=>some (.bl (!b))|_=>none:=rfl
@[simp] theorem Cl{F G:Dy}:chD F G fa fb fc ρ=(fa ρ).bind fun x=>(fb ρ).bind fun y=>match F x y with|some (.bl true)=>(fc ρ).bind fun z=>G y z|some (.bl false)=>some (.bl false)|_=>none:=rfl
@[simp] theorem AC:eP f ρ=match f ρ with|some (.lst ds)=>some ds|_=>none:=rfl
@[simp] theorem uJ:bL i ρ=match ρ[i]? with|some (some (.bor (.lst ds)))=>some ds|some (some (.v (.lst ds)))=>some ds|_=>none:=rfl
theorem wj:bK f ρ=match f ρ with|some (.int j)=>if -(2^62)<=j/\j<2^62 then some (cm 0 j.toNat)else none|_=>none:=rfl
@[simp] theorem CN{b b':DF->Option (Option Int)}:slS f b b' ρ=match f ρ with|some (.str x)=>if x.length<=16777216 then(b ρ).bind fun l=>(b' ρ).map fun h=>.str (Txt.slice x l h)else none|_=>none:=rfl
theorem gu{b b':DF->Option (Option Int)}:slL f b b' ρ=match f ρ with|some (.lst xs)=>(b ρ).bind fun l=>(b' ρ).map fun h=>bG xs l h|_=>none:=rfl
@[simp] theorem BP:dF i f ρ=match ρ[i]? with|some (some (.own (.lst ds) t))=>(f ρ).bind fun d=>if ds.length<16777216 then some (.nx (ρ.set i (some (.own (.lst (ds++[d])) t))))else none|_=>none:=rfl
@[simp] theorem nq{is:List Nat}:eR is f ρ=(f ρ).bind fun d=>(cS is d ρ).map .nx:=rfl
@[simp] theorem C9:bI f ρ=match f ρ with|some (.int i)=>some (some i)|_=>none:=rfl
@[simp] theorem CW:bNo ρ=some none:=rfl
end
@[simp] theorem Dn{ds:List D}:(OD.lst ds).d=.lst ds:=rfl
@[simp] theorem Dx{ds:List (List Key×D)}:(OD.dT ds).d=.dT ds:=rfl
@[simp] theorem Du{ds:List (Key×D)}:(OD.dK ds).d=.dK ds:=rfl
@[simp] theorem Ds{C:Addr}{ds:List (Str×D)}:(OD.ins C ds).d=.ins C ds:=rfl
@[simp] theorem Dh{ds:List D}:(OD.lst ds).flat=true:=rfl
@[simp] theorem Dj{ds:List (List Key×D)}:(OD.dT ds).flat=true:=rfl
@[simp] theorem Dt{ds:List (Key×D)}:(OD.dK ds).flat=true:=rfl
@[simp] theorem Df{C:Addr}{ds:List (Str×D)}:(OD.ins C ds).flat=true:=rfl
@[simp] theorem Dr{d:D}:dvD (.v d)=some d:=rfl
@[simp] theorem De{o:OD}{t:Option Addr}:dvD (.own o t)=some o.d:=rfl
@[simp] theorem C_{o:OD}{t:Option Addr}:dvO (.own o t)=some o:=rfl
@[simp] theorem Dc{x:DV}{ρ:DF}:dl (some (.rt x ρ))=some x:=rfl
@[simp] theorem DA{ρ:DF}:dl (some (.nx ρ))=some (.v .non):=rfl
@[simp] theorem Dp{d:D}:rE (some (.v d))=some (.v d):=rfl
@[simp] theorem Da{o:OD}{t:Option Addr}:rE (some (.own o t))=some (.bor o):=rfl
@[simp] theorem Db{o:OD}:rE (some (.bor o))=some (.bor o):=rfl
@[simp] theorem BW{own:Nat}{ix:List Nat}{ρ:DF}:eC own ix ρ=List.replicate own none++ix.map fun j=>rE (ρ[j]?).join:=rfl
@[simp] theorem Cg{ds:List D}:cv (.lst ds)=some ds:=rfl
@[simp] theorem db{ds:List D}:cv (.tup ds)=some ds:=rfl
@[simp] theorem Dg{ds:List D}:aM (.lst ds)=some (.int ds.length):=rfl
@[simp] theorem Di{ds:List D}:aM (.tup ds)=some (.int ds.length):=rfl
theorem ix1{ds:List D}{i:Int}:ixD (.lst ds) (.int i)=atI ds i:=rfl
theorem ix2{ds:List D}{i:Int}:ixD (.tup ds) (.int i)=atI ds i:=rfl
@[simp] theorem Cc{n p:Nat}{g:Dw}{xs:List DV}:mOf n p g xs=if xs.length=p then dl (g (aQ n p xs))else none:=rfl
@[simp] theorem zO{n p:Nat}{xs:List DV}:aQ n p xs=xs.map some++List.replicate (n-p) none:=rfl
theorem CQ{x:Int}(h:0<=x/\x<3):x=0\/x=1\/x=2:=by
 obtain⟨m,rfl⟩:=Zk h.1;have key:∀m:Fin 3,((m:Nat):Int)=0\/((m:Nat):Int)=1\/((m:Nat):Int)=2:=by decide
 exact key ⟨m,Int.ofNat_lt.mp h.2⟩
theorem CG{x:Int}(h:0<=x/\x<5):x=0\/x=1\/x=2\/x=3\/x=4:=by
 obtain⟨m,rfl⟩:=Zk h.1;have key:∀m:Fin 5,((m:Nat):Int)=0\/((m:Nat):Int)=1\/((m:Nat):Int)=2\/((m:Nat):Int)=3\/((m:Nat):Int)=4:=by decide
 exact key ⟨m,Int.ofNat_lt.mp h.2⟩
theorem CU{x:Int}(h:0<=x/\x<6):x=0\/x=1\/x=2\/x=3\/x=4\/x=5:=by
 obtain⟨m,rfl⟩:=Zk h.1;have key:∀m:Fin 6,((m:Nat):Int)=0\/((m:Nat):Int)=1\/((m:Nat):Int)=2\/((m:Nat):Int)=3\/((m:Nat):Int)=4\/((m:Nat):Int)=5:=by decide
 exact key ⟨m,Int.ofNat_lt.mp h.2⟩
theorem yN{x:Int}(h:1<=x/\x<8):x=1\/x=2\/x=3\/x=4\/x=5\/x=6\/x=7:=by
 obtain⟨m,hm⟩:=Zk (show 0<=x-1 by omega);have key:∀m:Fin 7,((m:Nat):Int)+1=1\/((m:Nat):Int)+1=2\/((m:Nat):Int)+1=3\/((m:Nat):Int)+1=4\/((m:Nat):Int)+1=5\/((m:Nat):Int)+1=6\/((m:Nat):Int)+1=7:=by decide
 have:=key ⟨m,by omega⟩
 rwa [show((m:Nat):Int)+1=x by omega]at this
theorem Bu(s:Int):s%3=0\/s%3=1\/s%3=2:=CQ ⟨YN s (by decide),YE s (by decide)⟩
theorem Ci(s:Int):s%5=0\/s%5=1\/s%5=2\/s%5=3\/s%5=4:=CG ⟨YN s (by decide),YE s (by decide)⟩
theorem Cz(s:Int):s%6=0\/s%6=1\/s%6=2\/s%6=3\/s%6=4\/s%6=5:=CU ⟨YN s (by decide),YE s (by decide)⟩
theorem dD(C:Addr)(c k:Int)(hk:0<=k/\k<=1000):∃r:Int,b6 C [.v (.int c),.v (.int k)]=some (.v (.int r))/\0<=r/\r<998244353:=by
 have h1:cT (.int 7919) (.int k)=some (.int (7919*k)):=cC _ _ (.inl (by decide));have h2:cT (.int (7919*k)) (.int k)=some (.int (7919*k*k)):=cC _ _ (.inr (by omega));have h3:∀x,cT (.int x) (.int 48271)=some (.int (x*48271)):=fun x=>cC _ _ (.inr (by decide))
 have h4:∀x:Int,0<=x->x<2147483629->cT (.int x) (.int x)=some (.int (x*x)):=fun x _ _=>cC _ _ (.inr (by omega))
 have m1:=ay c 2147483647 (by decide);have m2:=fun x=>ay x 2147483629 (by decide)
 have m3:=fun x=>ay x 998244353 (by decide)
 refine⟨((c%2147483647+1+7919*k*k)*48271%2147483629)*((c%2147483647+1+7919*k*k)*48271%2147483629)%998244353,?_,YN _ (by decide),YE _ (by decide)⟩;simp[b6,g_q21,h1,h2,h3,h4,m1,m2,m3];rw[h4 _ (YN _ (by decide)) (YE _ (by decide))];simp[m3]
def okW(x:Str):Prop:=1<=x.cps.size/\x.cps.size<=3/\∀c∈x.cps.toList,97<=c/\c<=122
abbrev abc:Str := "abcdefghijklmnopqrstuvwxyz"
theorem k6(i:Int):∃c:Nat,ixD (.str abc) (.int (i%26))=some (.str ⟨#[c]⟩)/\97<=c/\c<=122:=by
 have h:∀j:Fin 26,∃c:Fin 123,ixD (.str abc) (.int (j:Nat))=some (.str ⟨#[(c:Nat)]⟩)/\97<=(c:Nat):=by
  intro j;refine⟨⟨97+j,by omega⟩,?_,by simp⟩;revert j;have:∀j:Fin 26,(atI abc.cps.toList ((j:Nat):Int))=some (97+(j:Nat)):=by decide+kernel
  intro j;show(if abc.length<=16777216 then(atI abc.cps.toList ((j:Nat):Int)).map fun c=>D.str ⟨#[c]⟩else none)=_;rw[this j];rfl
 have h0:0<=i%26:=YN _ (by decide);have h1:i%26<26:=YE _ (by decide);obtain⟨c,hc,hl⟩:=h ⟨(i%26).toNat,by omega⟩;refine⟨c,?_,hl,by omega⟩;rw[<-hc]
 congr 2
 simp only;omega
theorem vd(C:Addr)(s w:Int)(hs:0<=s)(hw:0<=w):∃x:Str,gn C [.v (.int s),.v (.int w)]=some (.v (.str x))/\okW x:=by
 have f9:=bq s 9 (by decide);have f3:=bq s 3 (by decide);have m26:=fun x=>ay x 26 (by decide)
 have m3:=fun x=>ay x 3 (by decide)
 have m4:=fun x=>ay x 4 (by decide)
 have u7:∀x,cT (.int 7) (.int x)=some (.int (7*x)):=fun x=>cC _ _ (.inl (by decide))
 obtain⟨a0,h0,g0⟩:=k6 (s/9+7*0);obtain⟨a1,h1,g1⟩:=k6 (s/9+7*1);obtain⟨a2,h2,g2⟩:=k6 (s/9+7*2);have hc:∀ρ:DF,ρ[2]?=some (some (.v (.str abc)))->ρ[0]?=some (some (.v (.int s)))->aS 1 [2,0] (bK (fun _=>some (.int 3))) (setV 0) bC (d2 ixD (ac 1) (d2 aG (d2 aW (d2 aZ (ac 2) (fun _=>some (.int 9))) (d2 cT (fun _=>some (.int 7)) (ac 0))) (fun _=>some (.int 26)))) ρ=some [.str ⟨#[a0]⟩,.str ⟨#[a1]⟩,.str ⟨#[a2]⟩]:=by intro ρ e1 e2;have r3:bK (fun _=>some (.int 3)) ρ=some [.int 0,.int 1,.int 2]:=rfl;unfold aS;rw[r3];simp only[Int.mul_zero,Int.mul_one]at h0 h1 h2;simp[c8,e1,e2,f9,u7,m26];simp at h0 h2;rw[h0,h1,h2];rfl
 have hj:tp (.str "") (.lst [.str ⟨#[a0]⟩,.str ⟨#[a1]⟩,.str ⟨#[a2]⟩])=some (.str ⟨#[a0,a1,a2]⟩):=rfl;have hl:(⟨#[a0,a1,a2]⟩:Str).length=3:=rfl;have hs3:=Bu s;have hw3:=Bu w;have mz:∀x:Int,aG (.int x) (.int (1+s%3))=some (.int (x%(1+s%3))):=fun x=>ay _ _ (by omega)
 have t1:Txt.slice ⟨#[a0,a1,a2]⟩ none (some 1)=⟨#[a0]⟩:=rfl;have t2:Txt.slice ⟨#[a0,a1,a2]⟩ none (some 2)=⟨#[a0,a1]⟩:=rfl;have t3:Txt.slice ⟨#[a0,a1,a2]⟩ none (some 3)=⟨#[a0,a1,a2]⟩:=rfl;have t0:Txt.slice ⟨#[a0,a1,a2]⟩ none (some 0)=⟨#[]⟩:=rfl;have t11:Txt.slice ⟨#[a0,a1,a2]⟩ (some 1) (some 1)=⟨#[]⟩:=rfl;have t12:Txt.slice ⟨#[a0,a1,a2]⟩ (some 1) (some 2)=⟨#[a1]⟩:=rfl;have t13:Txt.slice ⟨#[a0,a1,a2]⟩ (some 1) (some 3)=⟨#[a1,a2]⟩:=rfl;have t22:Txt.slice ⟨#[a0,a1,a2]⟩ (some 2) (some 2)=⟨#[]⟩:=rfl;have t23:Txt.slice ⟨#[a0,a1,a2]⟩ (some 2) (some 3)=⟨#[a2]⟩:=rfl;have t33:Txt.slice ⟨#[a0,a1,a2]⟩ (some 3) (some 3)=⟨#[]⟩:=rfl;by_cases h4:s/3%4=0
 ·have e:gn C [.v (.int s),.v (.int w)]=some (.v (.str (Txt.slice ⟨#[a0,a1,a2]⟩ none (some (1+w%3))))):=by simp[gn,g_q28,hc,hj,hl,f9,f3,m26,m3,m4,u7,h4]
  refine⟨_,e,?_⟩;rcases hw3 with h|h|h<;>rw[h]
  ·show okW (Txt.slice _ none (some 1));rw[t1];simp[okW];omega
  ·show okW (Txt.slice _ none (some 2));rw[t2];simp[okW];omega
  ·show okW (Txt.slice _ none (some 3));rw[t3];simp[okW];omega
 ·obtain⟨b,hb,gb⟩:=k6 (s/9+7*(s/3%(1+s%3))+w);have go:∀p z:Int,s/3%(1+s%3)=p->1+s%3=z->∀x y:Str,Txt.slice ⟨#[a0,a1,a2]⟩ none (some p)=x->Txt.slice ⟨#[a0,a1,a2]⟩ (some (p+1)) (some z)=y->x.length+1+y.length<=16777216->
    gn C [.v (.int s),.v (.int w)]=some (.v (.str (x++⟨#[b]⟩++y))):=by
   intro p z hp hz x y hx hy hn;rw[hp]at hb;have q1:aW (.str x) (.str ⟨#[b]⟩)=some (.str (x++⟨#[b]⟩)):=Yi (show x.length+1<=16777216 by omega);have q2:aW (.str (x++⟨#[b]⟩)) (.str y)=some (.str (x++⟨#[b]⟩++y)):=Yi (by
    have:(x++(⟨#[b]⟩:Str)).length=x.length+1:=by show(x.cps++#[b]).size=_;simp;rfl
    rw[this];exact hn)
   have mz':aG (.int (s/3)) (.int z)=some (.int p):=by rw[<-hz,<-hp];exact mz _
   simp[gn,g_q28,hc,hj,hl,f9,f3,m26,m3,m4,mz',u7,h4,hz,hb,hx,hy,q1,q2]
  have hp:(s%3=0/\s/3%(1+s%3)=0)\/(s%3=1/\(s/3%(1+s%3)=0\/s/3%(1+s%3)=1))\/(s%3=2/\(s/3%(1+s%3)=0\/s/3%(1+s%3)=1\/s/3%(1+s%3)=2)):=by
   rcases hs3 with h|h|h
   ·refine .inl ⟨h,?_⟩;rw[h];show s/3%1=0;omega
   ·refine .inr (.inl ⟨h,?_⟩);rw[h];show s/3%2=0\/s/3%2=1;omega
   ·refine .inr (.inr ⟨h,?_⟩);rw[h];show s/3%3=0\/s/3%3=1\/s/3%3=2;omega
  rcases hp with⟨h,p⟩|⟨h,p|p⟩|⟨h,p|p|p⟩
  ·exact⟨_,go 0 1 p (by rw[h];rfl) _ _ t0 t11 (by decide),by show okW ⟨#[b]⟩;simp[okW];omega⟩
  ·exact⟨_,go 0 2 p (by rw[h];rfl) _ _ t0 t12 (by show 0+1+1<=_;decide),by show okW ⟨#[b,a1]⟩;simp[okW];omega⟩
  ·exact⟨_,go 1 2 p (by rw[h];rfl) _ _ t1 t22 (by show 1+1+0<=_;decide),by show okW ⟨#[a0,b]⟩;simp[okW];omega⟩
  ·exact⟨_,go 0 3 p (by rw[h];rfl) _ _ t0 t13 (by show 0+1+2<=_;decide),by show okW ⟨#[b,a1,a2]⟩;simp[okW];omega⟩
  ·exact⟨_,go 1 3 p (by rw[h];rfl) _ _ t1 t23 (by show 1+1+1<=_;decide),by show okW ⟨#[a0,b,a2]⟩;simp[okW];omega⟩
  ·exact⟨_,go 2 3 p (by rw[h];rfl) _ _ t2 t33 (by show 2+1+0<=_;decide),by show okW ⟨#[a0,a1,b]⟩;simp[okW];omega⟩
theorem iA(C:Addr)(c s:Int)(hs:0<=s/\s<998244353):∃k:Int,eL C [.v (.int c),.v (.int s)]=some (.v (.int k))/\0<=k/\k<1000000000000000000000000000000:=by
 obtain⟨r,hr,r0,r1⟩:=dD C c 3 (by decide);have u1:cT (.int (s+1)) (.int 618033988749894848204586834367)=some (.int ((s+1)*618033988749894848204586834367)):=cC _ _ (.inl (by omega));have m1:=fun x=>ay x 1000000000000000000000000000000 (by decide)
 have m5:=fun x=>ay x 5 (by decide)
 generalize hf:(s+1)*618033988749894848204586834367%1000000000000000000000000000000=f;have f0:0<=f:=by omega
 have f1:f<1000000000000000000000000000000:=by omega
 have h5:=Ci r;have base:eL C [.v (.int c),.v (.int s)]=if r%5=4 then some (.v (.int (c%1000000000000000000000000000000)))else(atI [D.int f,.int f,.int ((f+1)%1000000000000000000000000000000),.int 0] (r%5)).map .v:=by
  by_cases h:r%5=4
  ·simp[eL,g_q18,u1,m1,m5,hr,h,hf]
  ·simp[eL,g_q18,u1,m1,m5,hr,h,hf,ix1];cases atI [D.int f,.int f,.int ((f+1)%1000000000000000000000000000000),.int 0] (r%5)<;>rfl
 rcases h5 with h|h|h|h|h<;>rw[base,h]
 ·exact⟨f,rfl,f0,f1⟩
 ·exact⟨f,rfl,f0,f1⟩
 ·exact⟨_,rfl,by omega,by omega⟩
 ·exact⟨0,rfl,by decide,by decide⟩
 ·exact⟨_,rfl,by omega,by omega⟩
theorem kC{α β:Type}(f:α->β):∀(l:List α) (k:Nat),(l.map f).eraseIdx k=(l.eraseIdx k).map f
 |[],_=>rfl
 |_::_,0=>rfl
 |x::l,k+1=>by rw[YM,Xv,Xv,YM,kC f l k]
theorem uU{n:Nat}{k:Int}(h0:0<=k)(h1:k<n)(hn:n<1000):mo n (.int k)=some k.toNat:=by
 show(if -(2^63)<=k/\k<2^63 then seqIndex? k n else none)=_;rw[Yi (by omega)];unfold seqIndex?;simp only;have e:¬k<0:=by omega
 simp[e,h0,h1]
theorem eN{α:Type}:∀(l:List α) (k:Nat) (h:k<l.length),(l[k]::l.eraseIdx k).Perm l
 |x::l,0,_=>.refl _
 |x::l,k+1,h=>by
  have:=eN l k (by simpa using h);rw[List.getElem_cons_succ,Xv];exact(List.Perm.swap _ _ _).trans (this.cons x)
abbrev shC:DF->Option Bool:=asB (d2 gtI (d1 aM (am 2)) (fun _=>some (.int 0)))
abbrev shI(M:Dm):DF->Option D:=d2 aG (aj M (aB 0 (aV (d2 aW (fun _=>some (.int 50)) (d1 aM (am 2))) (fun _=>some [])))) (d1 aM (am 2))
abbrev shF(s n:Int)(bP order:List Int):DF:=[some (.v (.int s)),some (.v (.int n)),some (.own (.lst (bP.map .int)) none),some (.own (.lst (order.map .int)) none)]
theorem qB(M:Dm)(s n:Int)(hM:∀k:Int,0<=k/\k<=1000->∃r:Int,M [.v (.int s),.v (.int k)]=some (.v (.int r))/\0<=r/\r<998244353)(x:Int)(r order:List Int)(h7:r.length+1<=7)(ho:order.length<=7):∃k:Nat,∃kl:k<(x::r).length,
  eW 3 2 (shI M) (shF s n (x::r) order)=some (.nx (shF s n ((x::r).eraseIdx k) (order++[(x::r)[k]]))):=by
 obtain⟨m,hm,m0,m1⟩:=hM (50+((r.length:Int)+1)) (by omega);have hmod:=ay m ((r.length+1:Nat):Int) (by omega);generalize hk:m%((r.length+1:Nat):Int)=k at hmod;have k0:0<=k:=by rw[<-hk];exact YN _ (by omega)
 have k1:k<((r.length+1:Nat):Int):=by rw[<-hk];exact YE _ (by omega)
 have hp:=uU (n:=r.length+1) k0 k1 (by omega);have kl:k.toNat<(x::r).length:=by rw[Yu];omega
 refine⟨k.toNat,kl,?_⟩;have hget:((x::r).map D.int)[k.toNat]?=some (.int ((x::r)[k.toNat])):=by rw[Yw,Yg kl];rfl
 have hf:shI M (shF s n (x::r) order)=some (.int k):=by have hmod:aG (.int m) (.int ((r.length:Int)+1))=some (.int k):=hmod;simp[hm,hmod]
 have hlen:((x::r).map D.int).length=r.length+1:=by simp
 have hpop:oZ 2 (shI M) (shF s n (x::r) order)=some (shF s n ((x::r).eraseIdx k.toNat) order,.int ((x::r)[k.toNat])):=by
  have:oZ 2 (shI M) (shF s n (x::r) order)=(shI M (shF s n (x::r) order)).bind fun dk=>(mo ((x::r).map D.int).length dk).bind fun k=>(((x::r).map D.int)[k]?).map fun d=>((shF s n (x::r) order).set 2 (some (.own (.lst (((x::r).map D.int).eraseIdx k)) none)),d):=rfl
  rw[this,hf,Ya,hlen,hp,Ya,hget,kC];rfl
 unfold eW;rw[hpop,Ya];have:(3:Nat)≠2/\(order.map D.int).length<16777216:=⟨by decide,by rw[Yb];omega⟩
 show(if _ then _ else _)=_;rw[Yi this];show _=some (RES.nx [_,_,_,some (.own (.lst ((order++[(x::r)[k.toNat]]).map .int)) none)]);rw[Zf];rfl
theorem oS(M:Dm)(s n:Int)(hM:∀k:Int,0<=k/\k<=1000->∃r:Int,M [.v (.int s),.v (.int k)]=some (.v (.int r))/\0<=r/\r<998244353):∀(fuel:Nat) (bP order:List Int),bP.length<fuel->order.length+bP.length<=7->∃out:List Int,
  cy shC (eW 3 2 (shI M)) fuel (shF s n bP order)=some (.nx (shF s n [] out))/\out.Perm (order++bP):=by
 intro fuel;induction fuel with
 |zero=>intro bP order h;exact absurd h (Nat.not_lt_zero _)
 |succ fuel ih=>
  intro bP order h ho;cases bP with
  |nil=>
   refine⟨order,?_,by simp⟩;unfold cy;simp
  |cons x r=>
   rw[Yu]at h ho;obtain⟨k,kl,hb⟩:=qB M s n hM x r order (by omega) (by omega);obtain⟨out,e,p⟩:=ih ((x::r).eraseIdx k) (order++[(x::r)[k]]) (by rw[List.length_eraseIdx_of_lt kl,Yu];omega) (by rw[List.length_eraseIdx_of_lt kl,Yj,YD,Yu];omega);refine⟨out,?_,p.trans ?_⟩
   ·have hc:shC (shF s n (x::r) order)=some true:=by simp
    unfold cy;rw[hc];simp only[hb];exact e
   ·rw[Zt];exact List.Perm.append_left _ (eN _ k kl)
def aK(n:Int):List Int:=(List.range n.toNat).map fun i:Nat=>(i:Int)
theorem bc(n:Int):(aK n).length=n.toNat:=by simp[aK]
theorem ce{n i:Int}:i∈aK n↔0<=i/\i<n:=by
 unfold aK;rw[YC];constructor
 ·rintro⟨k,hk,rfl⟩;have:=Zl.mp hk;omega
 ·rintro⟨h0,h1⟩;exact⟨i.toNat,Zl.mpr (by omega),by omega⟩
theorem nL(n:Int):(aK n).Nodup:=by unfold aK;rw[List.Nodup,List.pairwise_map];exact(List.nodup_range (n:=n.toNat)).imp fun h e=>h (by omega)
theorem gx(n:Int):cm 0 n.toNat=(aK n).map D.int:=by unfold cm aK;simp
theorem pD(C:Addr)(s n:Int)(hn:1<=n/\n<=7):∃out:List Int,jF C [.v (.int s),.v (.int n)]=some (.own (.lst (out.map .int)) none)/\out.Perm (aK n):=by
 obtain⟨out,e,p⟩:=oS (b6 C) s n (dD C s) 10 (aK n) [] (by rw[bc];omega) (by rw[bc,YS];omega);refine⟨out,?_,by simpa using p⟩;have hr:pi (getV 1) [some (.v (.int s)),some (.v (.int n)),none,none]=some ((aK n).map .int):=by show(if n<16777216/\-(2^62)<=n then some (cm 0 n.toNat)else none)=_;rw[Yi (by omega),gx]
 simp only[shF,List.map_nil]at e;unfold jF g_q23;generalize b6 C=M at e ⊢;simp[hr,e]
def dP(p:Int×Int):D:=.tup [.int p.1,.int p.2]
def okP(n:Int)(p:Int×Int):Prop:=0<=p.1/\p.1<n/\0<=p.2/\p.2<n/\p.1≠p.2
abbrev CV:DF->Option RES:=(al (aw 3 (d2 aZ (ac 1) (fun _=>some (.int 2))))
  (al (dIf (cR (asB (d2 eqD (am 2) (fun _=>some (.int 1)))) (asB (d2 gtI (ac 1) (fun _=>some (.int 1))))) (d9 (asL (aS 1 [1] (bK (ac 1)) (setV 0) bC (asT (ag (getV 0) (ag (d2 aG (d2 aW (ac 0) (fun _=>some (.int 1))) (ac 1)) aD)))))) dNx)
  (al (dIf (asB (d2 eqD (am 2) (fun _=>some (.int 2)))) (d9 (asL (aS 1 [] (rf (fun _=>some (.int 1)) (ac 1)) (setV 0) bC (asT (ag (fun _=>some (.int 0)) (ag (getV 0) aD)))))) dNx)
  (al (dIf (asB (d2 eqD (am 2) (fun _=>some (.int 3)))) (d9 (asL (io (asO (asL (aS 1 [] (bK (d2 dC (ac 3) (fun _=>some (.int 1)))) (setV 0) bC (asT (ag (getV 0) (ag (d2 aW (ac 0) (fun _=>some (.int 1))) aD)))))) (asO (asL (aS 1 [] (rf (ac 3) (d2 dC (d2 cT (fun _=>some (.int 2)) (ac 3)) (fun _=>some (.int 1)))) (setV 0) bC (asT (ag (getV 0) (ag (d2 aW (ac 0) (fun _=>some (.int 1))) aD))))))))) dNx)
  (al (bt 4 (asL aD))
  (al (dIf (cR (asB (d2 eqD (am 2) (fun _=>some (.int 4)))) (asB (d2 ltd (am 1) (fun _=>some (.int 6))))) (cb (bK (ac 1)) (setV 5) (jP 4 (aS 1 [5] (bK (ac 5)) (setV 0) bC (asT (ag (getV 0) (ag (getV 1) aD)))))) dNx)
  (e9 4)))))))
theorem vF(s how n:Int)(hh:how=0\/how=1\/how=2\/how=3\/how=4\/how=5)(hn:n=1\/n=2\/n=3\/n=4\/n=5\/n=6\/n=7):∃(ps:List (Int×Int)) (z:DF),CV
  [some (.v (.int s)),some (.v (.int n)),some (.v (.int how)),none,none,none]=some (.rt (.own (.lst (ps.map dP)) none) z)/\ps.length<=12/\∀p∈ps,okP n p:=by
 rcases hh with rfl|rfl|rfl|rfl|rfl|rfl<;>rcases hn with rfl|rfl|rfl|rfl|rfl|rfl|rfl
 ·exact⟨[],_,rfl,by decide,by simp[okP]⟩
 ·exact⟨[],_,rfl,by decide,by simp[okP]⟩
 ·exact⟨[],_,rfl,by decide,by simp[okP]⟩
 ·exact⟨[],_,rfl,by decide,by simp[okP]⟩
 ·exact⟨[],_,rfl,by decide,by simp[okP]⟩
 ·exact⟨[],_,rfl,by decide,by simp[okP]⟩
 ·exact⟨[],_,rfl,by decide,by simp[okP]⟩
 ·exact⟨[],_,rfl,by decide,by simp[okP]⟩
 ·exact⟨[(0,1),(1,0)],_,rfl,by decide,by simp[okP]⟩
 ·exact⟨[(0,1),(1,2),(2,0)],_,rfl,by decide,by simp[okP]⟩
 ·exact⟨[(0,1),(1,2),(2,3),(3,0)],_,rfl,by decide,by simp[okP]⟩
 ·exact⟨[(0,1),(1,2),(2,3),(3,4),(4,0)],_,rfl,by decide,by simp[okP]⟩
 ·exact⟨[(0,1),(1,2),(2,3),(3,4),(4,5),(5,0)],_,rfl,by decide,by simp[okP]⟩
 ·exact⟨[(0,1),(1,2),(2,3),(3,4),(4,5),(5,6),(6,0)],_,rfl,by decide,by simp[okP]⟩
 ·exact⟨[],_,rfl,by decide,by simp[okP]⟩
 ·exact⟨[(0,1)],_,rfl,by decide,by simp[okP]⟩
 ·exact⟨[(0,1),(0,2)],_,rfl,by decide,by simp[okP]⟩
 ·exact⟨[(0,1),(0,2),(0,3)],_,rfl,by decide,by simp[okP]⟩
 ·exact⟨[(0,1),(0,2),(0,3),(0,4)],_,rfl,by decide,by simp[okP]⟩
 ·exact⟨[(0,1),(0,2),(0,3),(0,4),(0,5)],_,rfl,by decide,by simp[okP]⟩
 ·exact⟨[(0,1),(0,2),(0,3),(0,4),(0,5),(0,6)],_,rfl,by decide,by simp[okP]⟩
 ·exact⟨[],_,rfl,by decide,by simp[okP]⟩
 ·exact⟨[],_,rfl,by decide,by simp[okP]⟩
 ·exact⟨[],_,rfl,by decide,by simp[okP]⟩
 ·exact⟨[(0,1),(2,3)],_,rfl,by decide,by simp[okP]⟩
 ·exact⟨[(0,1),(2,3)],_,rfl,by decide,by simp[okP]⟩
 ·exact⟨[(0,1),(1,2),(3,4),(4,5)],_,rfl,by decide,by simp[okP]⟩
 ·exact⟨[(0,1),(1,2),(3,4),(4,5)],_,rfl,by decide,by simp[okP]⟩
 ·exact⟨[],_,rfl,by decide,by simp[okP]⟩
 ·exact⟨[(0,1)],_,rfl,by decide,by simp[okP]⟩
 ·exact⟨[(0,1),(0,2),(1,2)],_,rfl,by decide,by simp[okP]⟩
 ·exact⟨[(0,1),(0,2),(1,2),(0,3),(1,3),(2,3)],_,rfl,by decide,by simp[okP]⟩
 ·exact⟨[(0,1),(0,2),(1,2),(0,3),(1,3),(2,3),(0,4),(1,4),(2,4),(3,4)],_,rfl,by decide,by simp[okP]⟩
 ·exact⟨[],_,rfl,by decide,by simp[okP]⟩
 ·exact⟨[],_,rfl,by decide,by simp[okP]⟩
 ·exact⟨[],_,rfl,by decide,by simp[okP]⟩
 ·exact⟨[],_,rfl,by decide,by simp[okP]⟩
 ·exact⟨[],_,rfl,by decide,by simp[okP]⟩
 ·exact⟨[],_,rfl,by decide,by simp[okP]⟩
 ·exact⟨[],_,rfl,by decide,by simp[okP]⟩
 ·exact⟨[],_,rfl,by decide,by simp[okP]⟩
 ·exact⟨[],_,rfl,by decide,by simp[okP]⟩
theorem zI(C:Addr)(s n:Int)(hn:1<=n/\n<=7):∃ps:List (Int×Int),nk C [.v (.int s),.v (.int n)]=some (.own (.lst (ps.map dP)) none)/\ps.length<=12/\∀p∈ps,okP n p:=by
 obtain⟨ps,z,e,h⟩:=vF s (s%6) n (Cz s) (yN ⟨hn.1,Int.lt_add_one_of_le hn.2⟩);refine⟨ps,?_,h⟩;have e1:g_q14 C (aQ 6 2 [.v (.int s),.v (.int n)])=some (.rt (.own (.lst (ps.map dP)) none) z):=by unfold g_q14;rw[<-e,fD];simp[ay s 6 (by decide)]
 unfold nk mOf;rw[e1];rfl
theorem uP{n:Nat}{g:Dw}{a:DV}:mOf n 1 g [a]=dl (g (aQ n 1 [a])):=rfl
theorem hU{n:Nat}{g:Dw}{a b:DV}:mOf n 2 g [a,b]=dl (g (aQ n 2 [a,b])):=rfl
theorem w6{n:Nat}{g:Dw}{a b c:DV}:mOf n 3 g [a,b,c]=dl (g (aQ n 3 [a,b,c])):=rfl
theorem tH{n:Nat}{g:Dw}{a b c d:DV}:mOf n 4 g [a,b,c,d]=dl (g (aQ n 4 [a,b,c,d])):=rfl
theorem eV{n:Int}{j:Nat}{d:D}(h:((aK n).map D.int)[j]?=some d):d=.int (j:Int):=by
 unfold aK at h;rw[Yw,Yw]at h;cases q:(List.range n.toNat)[j]? with
 |none=>rw[q]at h;cases h
 |some k=>
  rw[q]at h;obtain⟨h1,h2⟩:=Yh.mp q;rw[List.getElem_range]at h2;subst h2;cases h;rfl
abbrev T4:=Int×Int×Int×Bool
def dT4(t:T4):D:=.tup [.int t.1,.int t.2.1,.int t.2.2.1,.bl t.2.2.2]
def okT(n:Int)(t:T4):Prop:=0<=t.1/\t.1<n/\0<=t.2.1/\t.2.1<n/\t.1≠t.2.1/\0<=t.2.2.1/\t.2.2.1<1000000000000000000000000000000
theorem sN{α:Type}{l:List α}{i:Int}(h0:0<=i)(h1:i<l.length):atI l i=l[i.toNat]?:=by unfold atI ixN;rw[Yi h0,Yi h1];rfl
theorem dY{α β:Type}{l:List α}(f:α->β){i:Int}(h0:0<=i)(h1:i<l.length):∃x,l[i.toNat]?=some x/\atI (l.map f) i=some (f x):=by
 have h:i.toNat<l.length:=by omega
 refine⟨l[i.toNat],Yg h,?_⟩;rw[sN h0 (by rw[Yb];exact h1),Yw,Yg h];rfl
theorem mv{α:Type}(l:List α)(x:α):atI (l++[x]) (-1)=some x:=by
 unfold atI ixN;rw[Yn (by decide),Yi (by rw[Yj,YD];omega),Yj,YD];have:(-1+((l.length+1:Nat):Int)).toNat=l.length:=by omega
 rw[this,Ya,YW (Ym _),Nat.sub_self];rfl
theorem kR{n:Int}{out:List Int}(hn:1<=n)(p:out.Perm (aK n)):(out.length:Int)=n/\out.Nodup/\∀x∈out,0<=x/\x<n:=
 ⟨by rw[p.length_eq,bc];omega,p.nodup_iff.mpr (nL n),fun x hx=>ce.mp (p.mem_iff.mp hx)⟩
theorem pO{out:List Int}(h:out.Nodup){i j:Nat}{x y:Int}(hi:out[i]?=some x)(hj:out[j]?=some y)(hij:i≠j):x≠y:=by intro e;subst e;obtain⟨h1,h1'⟩:=Yh.mp hi;obtain⟨h2,h2'⟩:=Yh.mp hj;exact hij ((List.getElem_inj h).mp (h1'.trans h2'.symm))
abbrev wbE:DF->Option D:=(asT (ag (d2 ixD (ac 2) (ac 0)) (ag (d2 ixD (ac 2) (ac 1)) (ag (getV 3) (ag (d2 eqD (d2 aG (d2 aZ (ac 4) (fun _=>some (.int 6))) (fun _=>some (.int 2))) (fun _=>some (.int 1))) aD)))))
theorem vz(s n f:Int)(out:List Int)(ps:List (Int×Int))(hn:1<=n/\n<=7)(p:out.Perm (aK n))(hf:0<=f/\f<1000000000000000000000000000000)(hp:∀q∈ps,okP n q) :
  ∃ts:List T4,c8 (cS [0,1]) bC wbE [none,none,some (.v (.lst (out.map .int))),some (.v (.int f)),some (.v (.int s))] (ps.map dP)=some (ts.map dT4)/\ts.length=(ps.map dP).length/\∀t∈ts,okT n t:=by
 obtain⟨hl,hd,hm⟩:=kR hn.1 p;refine gI dT4 (okT n) _ fun d hd'=>?_;obtain⟨q,hq,rfl⟩:=YC.mp hd';obtain⟨a0,a1,b0,b1,ab⟩:=hp q hq;obtain⟨x,hx,ex⟩:=dY (l:=out) D.int a0 (by omega);obtain⟨y,hy,ey⟩:=dY (l:=out) D.int b0 (by omega);refine⟨_,rfl,rfl,(x,y,f,decide (s/6%2=1)),?_,?_⟩
 ·simp[lM,ix1,ex,ey,bq s 6 (by decide),ay (s/6) 2 (by decide),dT4]
 ·have h1:=hm x (Yv hx);have h2:=hm y (Yv hy);exact⟨h1.1,h1.2,h2.1,h2.2,pO hd hx hy (by omega),hf⟩
abbrev wbC:DF->Option Bool:=(cR (asB (d2 gtI (ac 2) (fun _=>some (.int 1)))) (cR (asB (d2 ltd (d1 aM (am 5)) (fun _=>some (.int 12)))) (orT (asB (d2 eqD (d2 aG (ac 1) (fun _=>some (.int 6))) (fun _=>some (.int 0)))) (asB (d2 eqD (d2 aG (ac 7) (fun _=>some (.int 6))) (fun _=>some (.int 0)))))))
abbrev xO:DF->Option Bool:=(cR (asB (d2 eqD (d2 aG (d2 aZ (ac 7) (fun _=>some (.int 21))) (fun _=>some (.int 5))) (fun _=>some (.int 0)))) (asB (d2 ltd (d1 aM (am 5)) (fun _=>some (.int 12)))))
abbrev wbB(M Kd:Dm):DF->Option RES:=(al (aw 7 (aj M (aB 6 (aV (fun _=>some (.int 8)) (fun _=>some [])))))
  (dIf wbC (al (aw 8 (d2 aG (d2 aZ (ac 7) (fun _=>some (.int 6))) (ac 2)))
  (al (aw 9 (d2 aG (d2 aW (d2 aW (ac 8) (fun _=>some (.int 1))) (d2 aG (d2 aZ (ac 7) (fun _=>some (.int 60))) (d2 dC (ac 2) (fun _=>some (.int 1))))) (ac 2)))
  (al (dF 5 (asT (ag (getV 8) (ag (getV 9) (ag (aj Kd (aB 6 (aB 1 (fun _=>some [])))) (ag (d2 eqD (d2 aG (d2 aZ (ac 7) (fun _=>some (.int 7))) (fun _=>some (.int 3))) (fun _=>some (.int 0))) aD))))))
  (dIf xO (dF 5 (d2 ixD (ac 5) (d1 l_ (fun _=>some (.int 1))))) dNx)))) dNx))
abbrev wbF(cs order:D)(s n f:Int)(ts:List T4)(x6 x7 x8 x9:Option DV):DF:=[some (.v cs),some (.v (.int s)),some (.v (.int n)),some (.v order),some (.v (.int f)),some (.own (.lst (ts.map dT4)) none),x6,x7,x8,x9,none,none,none]
theorem sD(M Kd:Dm)(cs order:D)(s n f c r k:Int)(ts:List T4)(x7 x8 x9:Option DV)(hn:1<=n/\n<=7)(hl:ts.length<=12)(ht:∀t∈ts,okT n t)(hr:0<=r)
  (hM:M [.v (.int c),.v (.int 8)]=some (.v (.int r))) (hK:Kd [.v (.int c),.v (.int s)]=some (.v (.int k))) (hk:0<=k/\k<1000000000000000000000000000000) :
  ∃ts' y7 y8 y9,wbB M Kd (wbF cs order s n f ts (some (.v (.int c))) x7 x8 x9)=some (.nx (wbF cs order s n f ts' (some (.v (.int c))) y7 y8 y9))/\ts'.length<=12/\∀t∈ts',okT n t:=by
 have hc:∀z8 z9,wbC (wbF cs order s n f ts (some (.v (.int c))) (some (.v (.int r))) z8 z9)=some (decide (1<n)&&(decide (ts.length<12)&&(decide (s%6=0)||decide (r%6=0)))):=by
  intro z8 z9;by_cases a:1<n<;>by_cases b:ts.length<12<;>by_cases d:s%6=0<;>by_cases e:r%6=0<;>
   simp[ay s 6 (by decide),ay r 6 (by decide),a,b,d,e]<;>omega
 by_cases hq:(decide (1<n)&&(decide (ts.length<12)&&(decide (s%6=0)||decide (r%6=0))))=true
 ·rw[hq]at hc;simp only[Yl,YJ]at hq;obtain⟨n1,l12,_⟩:=hq;have d6:=bq r 6 (by decide);have d60:=bq r 60 (by decide);have d7:=bq r 7 (by decide);have d21:=bq r 21 (by decide);have mn:=fun x=>ay x n (by omega)
  have mn1:=fun x=>ay x (n-1) (by omega)
  have m3:=fun x=>ay x 3 (by decide)
  have m5:=fun x=>ay x 5 (by decide)
  generalize ha:r/6%n=a;generalize hb:(a+1+r/60%(n-1))%n=b;have a0:0<=a:=by rw[<-ha];exact YN _ (by omega)
  have a1:a<n:=by rw[<-ha];exact YE _ (by omega)
  have b0:0<=b:=by rw[<-hb];exact YN _ (by omega)
  have b1:b<n:=by rw[<-hb];exact YE _ (by omega)
  have g0:0<=r/60%(n-1):=YN _ (by omega);have g1:r/60%(n-1)<n-1:=YE _ (by omega);have ab:a≠b:=by
   generalize r/60%(n-1)=g at *;by_cases h:a+1+g<n
   ·rw[ZP (by omega) h]at hb;omega
   ·have:(a+1+g)%n=a+1+g-n:=by rw[<-XU (a+1+g) n,ZP (by omega) (by omega)]
    omega
  let t:T4:=(a,b,k,decide (r/7%3=0))
  have ot:okT n t:=⟨a0,a1,b0,b1,ab,hk⟩
  have hlen:ts.length<16777216:=by omega
  have hc2:xO (wbF cs order s n f (ts++[t]) (some (.v (.int c))) (some (.v (.int r))) (some (.v (.int a))) (some (.v (.int b))))=some (decide (r/21%5=0)&&decide (ts.length+1<12)):=by by_cases e1:r/21%5=0<;>by_cases e2:ts.length+1<12<;>simp[d21,m5,e1,e2]<;>omega
  have eq:wbB M Kd (wbF cs order s n f ts (some (.v (.int c))) x7 x8 x9)=(dIf xO (dF 5 (d2 ixD (ac 5) (d1 l_ (fun _=>some (.int 1))))) dNx) (wbF cs order s n f (ts++[t]) (some (.v (.int c))) (some (.v (.int r))) (some (.v (.int a))) (some (.v (.int b)))):=by
   have s1:∀G,(al (aw 7 (aj M (aB 6 (aV (fun _=>some (.int 8)) (fun _=>some []))))) G) (wbF cs order s n f ts (some (.v (.int c))) x7 x8 x9)=G (wbF cs order s n f ts (some (.v (.int c))) (some (.v (.int r))) x8 x9):=by intro G;simp[hM]
   have s2:∀G,(al (aw 8 (d2 aG (d2 aZ (ac 7) (fun _=>some (.int 6))) (ac 2)))
  (al (aw 9 (d2 aG (d2 aW (d2 aW (ac 8) (fun _=>some (.int 1))) (d2 aG (d2 aZ (ac 7) (fun _=>some (.int 60))) (d2 dC (ac 2) (fun _=>some (.int 1))))) (ac 2)))
  (al (dF 5 (asT (ag (getV 8) (ag (getV 9) (ag (aj Kd (aB 6 (aB 1 (fun _=>some [])))) (ag (d2 eqD (d2 aG (d2 aZ (ac 7) (fun _=>some (.int 7))) (fun _=>some (.int 3))) (fun _=>some (.int 0))) aD))))))
  G))) (wbF cs order s n f ts (some (.v (.int c))) (some (.v (.int r))) x8 x9)=G (wbF cs order s n f (ts++[t]) (some (.v (.int c))) (some (.v (.int r))) (some (.v (.int a))) (some (.v (.int b)))):=by intro G;simp[d6,d60,d7,mn,mn1,m3,ha,hb,hK,hlen,dT4,t,wbF]
   unfold wbB;rw[s1,cU,hc,Ya,Yi rfl,s2]
  rw[eq,cU,hc2,Ya];by_cases hz:(decide (r/21%5=0)&&decide (ts.length+1<12))=true
  ·rw[Yi hz];simp only[Yl,YJ]at hz;refine⟨ts++[t]++[t],some (.v (.int r)),some (.v (.int a)),some (.v (.int b)),?_,by simp;omega,?_⟩
   ·have hlast:=mv (ts.map dT4) (dT4 t);have hl2:ts.length+1<16777216:=by omega
    simp[l_,ix1,hlast,hl2]
   ·intro u hu;simp only[Zg,YU]at hu;rcases hu with (hu|rfl)|rfl
    ·exact ht u hu
    ·exact ot
    ·exact ot
  ·rw[Yn hz];refine⟨ts++[t],_,_,_,rfl,by simp;omega,?_⟩;intro u hu;simp only[Zg,YU]at hu;rcases hu with hu|rfl
   ·exact ht u hu
   ·exact ot
 ·rw[Xz.mpr hq]at hc;refine⟨ts,some (.v (.int r)),x8,x9,?_,hl,ht⟩
  ·have s1:∀G,(al (aw 7 (aj M (aB 6 (aV (fun _=>some (.int 8)) (fun _=>some []))))) G) (wbF cs order s n f ts (some (.v (.int c))) x7 x8 x9)=G (wbF cs order s n f ts (some (.v (.int c))) (some (.v (.int r))) x8 x9):=by intro G;simp[hM]
   unfold wbB;rw[s1,cU,hc];rfl
abbrev wbG(M Wd:Dm):DF->Option RES:=(al (aw 12 (fun _=>some (.int 0)))
  (al (dIf (asB (d2 eqD (d2 aG (d2 aZ (ac 1) (fun _=>some (.int 12))) (fun _=>some (.int 2))) (fun _=>some (.int 1)))) (aw 12 (d2 aG (aj M (aV (d2 ixD (ac 0) (d2 aG (ac 11) (d1 aM (am 0)))) (aV (d2 aW (fun _=>some (.int 20)) (ac 11)) (fun _=>some [])))) (fun _=>some (.int 3)))) dNx)
  (dF 10 (aj Wd (aB 1 (aB 12 (fun _=>some [])))))))
abbrev lI(cs order:D)(s n f:Int)(ts:List T4)(x6 x7 x8 x9:Option DV)(ks:List Str)(x11 x12:Option DV):DF:=[some (.v cs),some (.v (.int s)),some (.v (.int n)),some (.v order),some (.v (.int f)),some (.own (.lst (ts.map dT4)) none),x6,x7,x8,x9,some (.own (.lst (ks.map .str)) none),x11,x12]
theorem rq(M Wd:Dm)(order:D)(cs:List Int)(s n f:Int)(ts:List T4)(x6 x7 x8 x9:Option DV)(ks:List Str)(x12:Option DV)(i:Nat)(hi:i<7)(hk:ks.length<=7)(hc:1<=cs.length)
  (hM:∀c k:Int,0<=k/\k<=1000->∃r:Int,M [.v (.int c),.v (.int k)]=some (.v (.int r))/\0<=r/\r<998244353)
  (hW:∀w:Int,0<=w->∃x:Str,Wd [.v (.int s),.v (.int w)]=some (.v (.str x))/\okW x) :
  ∃x y12,wbG M Wd (lI (.lst (cs.map .int)) order s n f ts x6 x7 x8 x9 ks (some (.v (.int i))) x12)=some (.nx (lI (.lst (cs.map .int)) order s n f ts x6 x7 x8 x9 (ks++[x]) (some (.v (.int i))) y12))/\okW x:=by
 have d12:=bq s 12 (by decide);have m2:=fun x=>ay x 2 (by decide)
 have m3:=fun x=>ay x 3 (by decide)
 have hk2:ks.length<16777216:=by omega
 by_cases h:s/12%2=1
 ·have mc:=ay (i:Int) (cs.length:Int) (by omega);obtain⟨c,_,ec⟩:=dY (l:=cs) D.int (i:=(i:Int)%(cs.length:Int)) (YN _ (by omega)) (YE _ (by omega));obtain⟨r,hr,r0,_⟩:=hM c (20+(i:Int)) (by omega);obtain⟨x,hx,ox⟩:=hW (r%3) (by omega);refine⟨x,some (.v (.int (r%3))),?_,ox⟩;simp[d12,m2,m3,mc,ix1,ec,hr,hx,h,hk2,lI]
 ·obtain⟨x,hx,ox⟩:=hW 0 (by decide);refine⟨x,some (.v (.int 0)),?_,ox⟩;simp[d12,m2,h,hx,hk2,lI]
theorem oY(C:Addr)(cs:List Int)(s n:Int)(hc:1<=cs.length)(hs:0<=s/\s<998244353)(hn:1<=n/\n<=7):∃(ks:List Str) (ts:List T4),ia C [.v (.lst (cs.map .int)),.v (.int s),.v (.int n)]=some (.v (.tup [.lst (ks.map .str),.lst (ts.map dT4)])) /\
  (ks.length:Int)=n/\(∀k∈ks,okW k)/\ts.length<=12/\∀t∈ts,okT n t:=by
 obtain⟨out,hsh,p⟩:=pD C s n hn;obtain⟨ps,hfa,pl,pk⟩:=zI C s n hn;have u1:cT (.int (s+1)) (.int 618033988749894848204586834367)=some (.int ((s+1)*618033988749894848204586834367)):=cC _ _ (.inl (by omega));have m1:=fun x=>ay x 1000000000000000000000000000000 (by decide)
 generalize hf:(s+1)*618033988749894848204586834367%1000000000000000000000000000000=f;have f0:0<=f/\f<1000000000000000000000000000000:=by omega
 obtain⟨ts,et,tl,tk⟩:=vz s n f out ps hn p f0 pk;have hM:=dD C;have hK:∀c,∃k:Int,eL C [.v (.int c),.v (.int s)]=some (.v (.int k))/\0<=k/\k<1000000000000000000000000000000:=fun c=>iA C c s hs
 have hW:∀w:Int,0<=w->∃x:Str,gn C [.v (.int s),.v (.int w)]=some (.v (.str x))/\okW x:=fun w hw=>vd C s w hs.1 hw
 unfold ia g_q26;generalize b6 C=M at hM ⊢;generalize eL C=Kd at hK ⊢;generalize gn C=Wd at hW ⊢;generalize jF C=Sh at hsh ⊢;generalize nk C=Fa at hfa ⊢;obtain⟨z1,e1,ts1,y6,y7,y8,y9,rfl,l1,k1⟩:=dc (st:=setV 6) (body:=wbB M Kd) (fun ρ=>∃(ts:List T4) (x6 x7 x8 x9:Option DV),ρ=wbF (.lst (cs.map .int)) (.lst (out.map .int)) s n f ts x6 x7 x8 x9/\ts.length<=12/\∀t∈ts,okT n t) (ds:=cs.map .int)
  (ρ:=wbF (.lst (cs.map .int)) (.lst (out.map .int)) s n f ts none none none none) ⟨ts,_,_,_,_,rfl,by rw[tl,Yb];exact pl,tk⟩ (by
   rintro d hd _ ⟨ts,x6,x7,x8,x9,rfl,hl,hk⟩;obtain⟨c,_,rfl⟩:=YC.mp hd;obtain⟨r,hr,r0,_⟩:=hM c 8 (by decide);obtain⟨k,hk',k0⟩:=hK c;obtain⟨ts',y7,y8,y9,e,h1,h2⟩:=sD M Kd (.lst (cs.map .int)) (.lst (out.map .int)) s n f c r k ts x7 x8 x9 hn hl hk r0 hr hk' k0;exact⟨_,rfl,_,e,ts',_,y7,y8,y9,rfl,h1,h2⟩)
 obtain⟨z2,e2,ks,y11,y12,rfl,l2,k2⟩:=cL (st:=setV 11) (body:=wbG M Wd) (fun j ρ=>∃(ks:List Str) (x11 x12:Option DV),ρ=lI (.lst (cs.map .int)) (.lst (out.map .int)) s n f ts1 y6 y7 y8 y9 ks x11 x12/\ks.length=j/\∀k∈ks,okW k) ((aK n).map .int) 0
  (lI (.lst (cs.map .int)) (.lst (out.map .int)) s n f ts1 y6 y7 y8 y9 [] none none) ⟨[],_,_,rfl,rfl,fun _ h=>by cases h⟩ (by
   rintro j d _ hj ⟨ks,x11,x12,rfl,hl,hk⟩;have hj7:j<7:=by have:=(Yh.mp hj).1;rw[Yb,bc]at this;omega
   have hd:d=.int (j:Int):=eV hj;subst hd;obtain⟨x,y12,e,ox⟩:=rq M Wd (.lst (out.map .int)) cs s n f ts1 y6 y7 y8 y9 ks x12 j hj7 (by omega) hc hM hW;refine⟨_,rfl,_,e,ks++[x],_,y12,rfl,by rw[Yj,hl];rfl,fun k hk'=>?_⟩;rcases Zg.mp hk' with h|h
   ·exact hk k h
   ·rw[YU.mp h];exact ox)
 refine⟨ks,ts1,?_,?_,k2,l1,k1⟩
 ·have er:bK (ac 2) (lI (.lst (cs.map .int)) (.lst (out.map .int)) s n f ts1 y6 y7 y8 y9 [] none none)=some ((aK n).map .int):=by show(if -(2^62)<=n/\n<2^62 then some (cm 0 n.toNat)else none)=_;rw[Yi (by omega),gx]
  have pl2:ps.length<=16777216:=by omega
  have q1:∀G,(al (aw 3 (aj Sh (aB 1 (aV (getV 2) (fun _=>some [])))))
  (al (aw 4 (d2 aG (d2 cT (d2 aW (ac 1) (fun _=>some (.int 1))) (fun _=>some (.int 618033988749894848204586834367))) (d2 l0 (fun _=>some (.int 10)) (fun _=>some (.int 30)))))
  (al (bt 5 (asL (aS 2 [3,4,1] (eP (aj Fa (aB 1 (aB 2 (fun _=>some []))))) (cS [0,1]) bC wbE))) G))) (aQ 13 3 [.v (.lst (cs.map .int)),.v (.int s),.v (.int n)])=G (wbF (.lst (cs.map .int)) (.lst (out.map .int)) s n f ts none none none none):=by intro G;generalize wbE=E at et ⊢;simp[hsh,u1,m1,hf,cf,hfa,pl2,et,wbF]
  have q2:∀G,(al (cb (bL 0) (setV 6) (wbB M Kd)) G) (wbF (.lst (cs.map .int)) (.lst (out.map .int)) s n f ts none none none none)=G (wbF (.lst (cs.map .int)) (.lst (out.map .int)) s n f ts1 y6 y7 y8 y9):=by intro G;rw[fD,lq];show(match cE (setV 6) (wbB M Kd) (cs.map .int) _ with|some (.nx ρ')=>G ρ'|r=>r)=_;rw[e1]
  have q3:∀G,(al (bt 10 (asL aD)) (al (cb (bK (ac 2)) (setV 11) (wbG M Wd)) G)) (wbF (.lst (cs.map .int)) (.lst (out.map .int)) s n f ts1 y6 y7 y8 y9)=G (lI (.lst (cs.map .int)) (.lst (out.map .int)) s n f ts1 y6 y7 y8 y9 ks y11 y12):=by intro G;show(al (cb (bK (ac 2)) (setV 11) (wbG M Wd)) G) (lI (.lst (cs.map .int)) (.lst (out.map .int)) s n f ts1 y6 y7 y8 y9 [] none none)=_;rw[fD,lq,er,Ya,e2]
  rw[w6,q1,q2,q3];rfl
 ·rw[l2,Yb,bc];omega
theorem c_{f:Dd}{ρ:DF}{n:Int}(h:f ρ=some (.int n))(hn:0<=n/\n<=1000):bK f ρ=some ((aK n).map .int):=by
 have hb:-(2^62)<=n/\n<2^62:=by omega
 rw[wj,h];simp only;rw[Yi hb,gx]
theorem ao{g h:Dw}{ρ ρ':DF}(e:g ρ=some (.nx ρ')):al g h ρ=h ρ':=by rw[fD,e]
theorem lD{g h:Dw}{ρ ρ':DF}{x:DV}(e:g ρ=some (.rt x ρ')):al g h ρ=some (.rt x ρ'):=by rw[fD,e]
def lf(t:T4):T4:=if t.2.2.2=true\/t.1<t.2.1 then t else(t.2.1,t.1,t.2.2.1,t.2.2.2)
theorem zV{n:Int}{t:T4}(h:okT n t):okT n (lf t):=by
 unfold lf;split
 ·exact h
 ·obtain⟨a,b,c,d,e,f⟩:=h;exact⟨c,d,a,b,fun q=>e q.symm,f⟩
theorem qG(ts:List T4)(h:ts.length<64):cV (ts.map dT4)=true:=by
 unfold cV;simp only[Yl,YJ,Yx,Yb];refine⟨⟨⟨⟨h,?_⟩,?_⟩,?_⟩,?_⟩
 ·intro x hx;obtain⟨t,_,rfl⟩:=YC.mp hx;rfl
 ·intro x hx y hy;obtain⟨t,_,rfl⟩:=YC.mp hx;obtain⟨u,_,rfl⟩:=YC.mp hy;rfl
 ·intro x hx;obtain⟨t,_,rfl⟩:=YC.mp hx;rfl
 ·intro x hx;obtain⟨t,_,rfl⟩:=YC.mp hx;rfl
theorem bY{α:Type}(f:α->D)(g:D->α)(hg:∀a,g (f a)=a){l:List D}{ts:List α}(h:l.Perm (ts.map f)):∃us:List α,l=us.map f/\us.Perm ts:=by
 refine⟨l.map g,?_,?_⟩
 ·rw[ZM]
  conv=>lhs;rw[<-List.map_id l]
  refine List.map_congr_left fun x hx=>?_;obtain⟨t,_,rfl⟩:=YC.mp (h.mem_iff.mp hx);show _=f (g (f t));rw[hg];rfl
 ·have:=h.map g;rw[ZM,show g ∘ f=id from funext hg,List.map_id]at this;exact this
def CY:D->T4
 |.tup [.int a,.int b,.int k,.bl o]=>(a,b,k,o)
 |_=>(0,0,0,false)
def unI:D->Int
 |.int a=>a
 |_=>0
theorem wz(ts:List T4):∃us:List T4,cx (ts.map dT4)=us.map dT4/\us.Perm ts:=bY dT4 CY (fun _=>rfl) (bF _)
def kAt(ks:List Str)(x:Int):Str:=(ks[x.toNat]?).getD ⟨#[]⟩
theorem fS{κ:Type}[DecidableEq κ](k k':κ)(v:D):∀kvs:List (κ×D),c7 (em kvs k v) k'=if k=k' then some v else c7 kvs k':=by
 intro kvs;unfold em;split
 ·rename_i h;induction kvs with
  |nil=>simp at h
  |cons x r ih=>
   obtain⟨q,w⟩:=x;rw[YM];by_cases e:q=k
   ·subst e;by_cases e2:q=k'
    ·simp[bR,e2]
    ·have hr:∀r:List (κ×D),c7 (r.map fun kv=>if kv.1=q then(kv.1,v)else kv) k'=c7 r k':=by
      intro r;induction r with
      |nil=>rfl
      |cons y r ih=>
       obtain⟨a,b⟩:=y;rw[YM];by_cases e3:a=q
       ·subst e3;simp[bR,e2,ih]
       ·simp[bR,e3,ih]
     simp[bR,e2,hr]
   ·have h':(r.any fun kv=>decide (kv.1=k))=true:=by simpa[e]using h
    have:=ih h';by_cases e2:q=k'
    ·subst e2;simp[bR,e,show ¬k=q from fun z=>e z.symm]
    ·simp only[e,Vb,bR,e2];exact this
 ·rename_i h;induction kvs with
  |nil=>simp[bR,c7]
  |cons x r ih=>
   obtain⟨q,w⟩:=x;have hq:¬q=k:=by intro z;exact h (by simp[z])
   have hr:¬(r.any fun kv=>decide (kv.1=k))=true:=fun z=>h (by simp only[Xe,z,Bool.or_true])
   have:=ih hr;rw[List.cons_append,bR,bR,this];by_cases e:k=k'
   ·subst e;simp[hq]
   ·simp[e]
theorem i4{κ:Type}[DecidableEq κ](k:κ)(v:D)(kvs:List (κ×D)):(em kvs k v).length<=kvs.length+1:=by
 unfold em;split
 ·simp
 ·simp
theorem mE(x:Int):∀out:List Int,x∈out->jK (.int x) (out.map .int)=some (out.idxOf x)
 |y::out,h=>by
  rw[YM];unfold jK;rw[fL,List.idxOf_cons];by_cases e:y=x
  ·simp[e]
  ·have hx:x∈out:=by rcases YF.mp h with rfl|h;exact absurd rfl e;exact h
   have e':(y == x)=false:=by simpa using e
   rw[mE x out hx,Yn (by simpa using e),e'];rfl
theorem cz{α β:Type}(f:α->β)(l:List α)(a b:Option Int):bG (l.map f) a b=(bG l a b).map f:=by unfold bG;rw[Yb,List.map_take,List.map_drop]
theorem sV{α:Type}(l:List α)(a b:Option Int):(bG l a b).length<=l.length:=by unfold bG;rw[YR,Xj];omega
def okK(n:Int)(ks:List Str):Prop:=(ks.length:Int)=n/\∀k∈ks,okW k
def okS(n:Int)(ts:List T4):Prop:=ts.length<=12/\∀t∈ts,okT n t
theorem qz{i:Nat}{f g:Dd}{ρ:DF}:jD i f g ρ=match ρ[i]? with
 |some (some (.own (.lst ds) t))=>(g ρ).bind fun d=>(f ρ).bind fun
  |.int k=>(ixN ds.length k).map fun j=>.nx (ρ.set i (some (.own (.lst (ds.set j d)) t)))
  |_=>none
 |_=>none:=rfl
theorem k8{α:Type}(l:List α){k:Int}(h:0<=k):bG l none (some k)=l.take k.toNat:=by unfold bG HT.sIx;simp only[List.drop_zero,Nat.sub_zero];rw[Yn (by omega),<-List.take_take,Xl]
theorem l7(xs ys:List D)(h:xs.length+ys.length<=16777216):aW (.lst xs) (.lst ys)=some (.lst (xs++ys)):=Yi h
theorem sW(C:Addr)(ns:List Int)(a:Int)(ha:0<=a)(hl:ns.length<=63):∃cs:List Int,pc C [.v (.lst (ns.map .int)),.v (.int a),.v (.int 16)]=some (.own (.lst (cs.map .int)) none)/\cs.length=16:=by
 have hq:=sV ns (some a) (some (a+16));have e1:bG (ns.map D.int) (some a) (some (a+16))=(bG ns (some a) (some (a+16))).map D.int:=cz _ _ _ _;generalize hQ:bG ns (some a) (some (a+16))=Q at *
 let X:List Int:=[a+1,5,2,9,4,7,1,8,3,6,0,11,13,12,10,14]
 have e2:bG ((Q++X).map D.int) none (some 16)=((Q++X).take 16).map D.int:=by rw[cz,k8 _ (by decide)];rfl
 refine⟨(Q++X).take 16,?_,by rw[YR,Yj];show min 16 (Q.length+16)=16;omega⟩;have e3:aW (.lst (Q.map D.int)) (.lst (X.map D.int))=some (.lst ((Q++X).map D.int)):=by rw[l7 _ _ (by rw[Yb,Yb];show Q.length+16<=_;omega),Zf]
 generalize ((Q++X).take 16).map D.int=R at *;generalize (Q++X).map D.int=S at *;have e3:aW (.lst (Q.map D.int)) (.lst [.int (a+1),.int 5,.int 2,.int 9,.int 4,.int 7,.int 1,.int 8,.int 3,.int 6,.int 0,.int 11,.int 13,.int 12,.int 10,.int 14])=some (.lst S):=e3;simp[pc,g_q12,gu,e1,e2,e3]
theorem bw{it:Dl}{st:Dq}{g:Dw}{ρ:DF}{ds:List D}{r:RES}(h:it ρ=some ds)(e:cE st g ds ρ=some r):cb it st g ρ=some r:=by rw[lq,h];exact e
theorem jJ(C:Addr)(x:Str)(h:okW x):tU C [.v (.str x)]=some (.v (.bl true)):=by
 obtain⟨h1,h3,hc⟩:=h;have e1:c8 (setV 0) bC (chD leA leA (fun _=>some (.str "a")) (am 0) (fun _=>some (.str "z"))) [none] (L2.signs x)=some (x.cps.toList.map fun _=>D.bl true):=by
  unfold L2.signs;refine di (fun c=>D.str ⟨#[c]⟩) (fun _=>D.bl true) _ fun c hm=>?_;obtain⟨c1,c2⟩:=hc c hm;refine⟨[some (.v (.str ⟨#[c]⟩))],rfl,rfl,?_⟩;have l1:leA (.str "a") (.str ⟨#[c]⟩)=some (.bl true):=by
   show some (D.bl (!decide ([c] < [97])))=_;have:¬([c] < [97]):=fun h=>by rcases List.cons_lt_cons_iff.mp h with h|⟨_,h⟩;omega;exact absurd h (List.not_lt_nil _)
   rw[YB this];rfl
  have l2:leA (.str ⟨#[c]⟩) (.str "z")=some (.bl true):=by
   show some (D.bl (!decide ([122] < [c])))=_;have:¬([122] < [c]):=fun h=>by rcases List.cons_lt_cons_iff.mp h with h|⟨_,h⟩;omega;exact absurd h (List.not_lt_nil _)
   rw[YB this];rfl
  simp[l1,l2]
 have hsz:(L2.signs x).length<=16777216:=by unfold L2.signs;rw[Yb,Zs];omega
 have e2:nX (.lst (x.cps.toList.map fun _=>D.bl true))=some (.bl true):=by
  have a1:((x.cps.toList.map fun _=>D.bl true).all l6)=true:=by simp[l6]
  have a2:((x.cps.toList.map fun _=>D.bl true).all trD)=true:=by simp[trD]
  show(if((x.cps.toList.map fun _=>D.bl true).all l6)=true then some (D.bl ((x.cps.toList.map fun _=>D.bl true).all trD))else none)=_;rw[Yi a1,a2]
 have e3:aM (.str x)=some (.int (x.cps.size:Int)):=Yi (show x.cps.size<=16777216 by omega);have d1':aS 1 [] (mG (getV 0)) (setV 0) bC (chD leA leA (fun _=>some (.str "a")) (am 0) (fun _=>some (.str "z"))) [some (.v (.str x)),none]=some (x.cps.toList.map fun _=>D.bl true):=by have:mG (getV 0) [some (.v (.str x)),none]=some (L2.signs x):=rfl;rw[cf,this,Ya,Yi hsz];exact e1
 unfold tU g_q6;have g1:(1:Int)<=(x.cps.size:Int):=by omega
 have g2:(x.cps.size:Int)<=3:=by omega
 generalize (chD leA leA (fun _=>some (.str "a")) (am 0) (fun _=>some (.str "z")))=E' at d1' ⊢;generalize (x.cps.toList.map fun _=>D.bl true)=L at *;simp[d1',e2,e3,g1,g2]
theorem zl(C:Addr)(t:T4)(n:Int)(h:okT n t):rF C [.v (dT4 t),.v (.int n)]=some (.v (.bl true)):=by
 obtain⟨a,b,k,o⟩:=t;obtain⟨a0,a1,b0,b1,ab,k0,k1⟩:=h;simp only at a0 a1 b0 b1 ab k0 k1;have ea:atI [D.int a,.int b,.int k,.bl o] 0=some (.int a):=rfl;have eb:atI [D.int a,.int b,.int k,.bl o] 1=some (.int b):=rfl;have ek:atI [D.int a,.int b,.int k,.bl o] 2=some (.int k):=rfl;have hk:tP C [.v (.int k)]=some (.v (.bl true)):=by simp[tP,g_q8,k0,k1]
 unfold rF g_q7;generalize tP C=M at hk ⊢;simp[dT4,ix2,ea,eb,ek,a0,a1,b0,b1,ab,hk]
theorem rH(C:Addr)(ks:List Str)(ts:List T4)(n:Int)(hn:1<=n/\n<=7)(hk:okK n ks)(hs:okS n ts):lQ C [.v (.lst (ks.map .str)),.v (.lst (ts.map dT4))]=some (.v .non):=by
 have hP:=jJ C;have hT:∀t,okT n t->rF C [.v (dT4 t),.v (.int n)]=some (.v (.bl true)):=fun t h=>zl C t n h
 unfold lQ g_q32;generalize tU C=P at hP ⊢;generalize rF C=T at hT ⊢;have hkl:(ks.length:Int)=n:=hk.1;have g1:1<=n:=hn.1;have g2:n<=7:=hn.2;have g3:¬(12:Int)<(ts.length:Int):=by have:=hs.1;omega
 have q1:∀G,(al (dIf (bX (asB (chD leA leA (fun _=>some (.int 1)) (d1 aM (am 0)) (fun _=>some (.int 7))))) e_ dNx) (al (dIf (asB (d2 gtI (d1 aM (am 1)) (fun _=>some (.int 12)))) e_ dNx) G)) (aQ 4 2 [.v (.lst (ks.map .str)),.v (.lst (ts.map dT4))])=G [some (.v (.lst (ks.map .str))),some (.v (.lst (ts.map dT4))),none,none]:=by intro G;simp[hkl,g1,g2,g3]
 obtain⟨z1,e1,y2,rfl⟩:=dc (st:=setV 2) (body:=(dIf (bX (asB (aj P (aV (getV 2) (fun _=>some []))))) e_ dNx)) (fun ρ=>∃x2,ρ=[some (.v (.lst (ks.map .str))),some (.v (.lst (ts.map dT4))),x2,none]) (ds:=ks.map .str) (ρ:=[some (.v (.lst (ks.map .str))),some (.v (.lst (ts.map dT4))),none,none]) ⟨_,rfl⟩ (by
  rintro d hd _ ⟨x2,rfl⟩;obtain⟨k,hk',rfl⟩:=YC.mp hd;have:=hP k (hk.2 k hk');refine⟨[some (.v (.lst (ks.map .str))),some (.v (.lst (ts.map dT4))),some (.v (.str k)),none],rfl,[some (.v (.lst (ks.map .str))),some (.v (.lst (ts.map dT4))),some (.v (.str k)),none],?_,_,rfl⟩;simp[this])
 obtain⟨z2,e2,y3,rfl⟩:=dc (st:=setV 3) (body:=(dIf (bX (asB (aj T (aB 3 (aV (d1 aM (am 0)) (fun _=>some [])))))) e_ dNx)) (fun ρ=>∃x3,ρ=[some (.v (.lst (ks.map .str))),some (.v (.lst (ts.map dT4))),y2,x3]) (ds:=ts.map dT4) (ρ:=[some (.v (.lst (ks.map .str))),some (.v (.lst (ts.map dT4))),y2,none]) ⟨_,rfl⟩ (by
  rintro d hd _ ⟨x2,rfl⟩;obtain⟨k,hk',rfl⟩:=YC.mp hd;have:=hT k (hs.2 k hk');refine⟨[some (.v (.lst (ks.map .str))),some (.v (.lst (ts.map dT4))),y2,some (.v (dT4 k))],rfl,[some (.v (.lst (ks.map .str))),some (.v (.lst (ts.map dT4))),y2,some (.v (dT4 k))],?_,_,rfl⟩;simp[hkl,this])
 rw[hU,q1,ao (bw (ds:=ks.map D.str) rfl e1),bw (ds:=ts.map dT4) rfl e2];rfl
theorem rT(C:Addr)(t:T4):lO C [.v (dT4 t)]=some (.v (dT4 (lf t))):=by
 obtain⟨a,b,k,o⟩:=t;have ea:atI [D.int a,.int b,.int k,.bl o] 0=some (.int a):=rfl;have eb:atI [D.int a,.int b,.int k,.bl o] 1=some (.int b):=rfl;have ek:atI [D.int a,.int b,.int k,.bl o] 2=some (.int k):=rfl;have eo:atI [D.int a,.int b,.int k,.bl o] 3=some (.bl o):=rfl;unfold lO g_q29;cases o with
 |true=>simp[dT4,ix2,ea,eb,ek,eo,lf]
 |false=>
  by_cases h:a<b
  ·simp[dT4,ix2,ea,eb,ek,eo,lf,h]
  ·simp[dT4,ix2,ea,eb,ek,eo,lf,h]
theorem nc(ts:List (Int×Int))(h:ts.length<64):cV (ts.map dP)=true:=by
 unfold cV;simp only[Yl,YJ,Yx,Yb];refine⟨⟨⟨⟨h,?_⟩,?_⟩,?_⟩,?_⟩
 ·intro x hx;obtain⟨t,_,rfl⟩:=YC.mp hx;rfl
 ·intro x hx y hy;obtain⟨t,_,rfl⟩:=YC.mp hx;obtain⟨u,_,rfl⟩:=YC.mp hy;rfl
 ·intro x hx;obtain⟨t,_,rfl⟩:=YC.mp hx;rfl
 ·intro x hx;obtain⟨t,_,rfl⟩:=YC.mp hx;rfl
def unP:D->Int×Int
 |.tup [.int a,.int b]=>(a,b)
 |_=>(0,0)
theorem mr{j:Nat}{fk fv:Dd}{ρ:DF}:kF j fk fv ρ=match ρ[j]? with
 |some (some (.own (.dT kvs) t))=>(fv ρ).bind fun v=>(fk ρ).bind fun y=>(fB y).bind fun k=>if kvs.length<16777216 then some (.nx (ρ.set j (some (.own (.dT (em kvs k v)) t))))else none
 |_=>none:=rfl
theorem iE{fd fk fx:Dd}{ρ:DF}:fV fd fk fx ρ=match fd ρ with
 |some (.dT kvs)=>(fk ρ).bind fun y=>(fB y).bind fun k=>(fx ρ).map fun x=>(c7 kvs k).getD x
 |_=>none:=rfl
def wFs(ks:List Str)(T J:D):List (Str×D):=[("kinds",.lst (ks.map .str)),("ties",T),("joins",J)]
theorem n1:¬(("kinds":Str) = "ties"):=by decide+kernel
theorem n2:¬(("kinds":Str) = "joins"):=by decide+kernel
theorem n3:¬(("ties":Str) = "joins"):=by decide+kernel
theorem b1:(("ties":Str) == "kinds")=false:=by decide+kernel
theorem b2:(("size":Str) == "kinds")=false:=by decide+kernel
theorem b3:(("size":Str) == "ties")=false:=by decide+kernel
theorem b4:(("size":Str) == "joins")=false:=by decide+kernel
theorem lC{C:Addr}{fs:List (Str×D)}{n:Str}:iu C n (.ins C fs)=fs.lookup n:=Yi rfl
theorem gJ(C:Addr)(ks:List Str)(T J:D):iu C "kinds" (.ins C (wFs ks T J))=some (.lst (ks.map .str)):=by rw[lC];unfold wFs;simp
theorem vU(ks:List Str)(T J:D):(wFs ks T J).lookup ("size":Str)=none:=by unfold wFs;simp[List.lookup,b2,b3,b4]
theorem sJ{C:Addr}{i:Nat}{n:Str}{fv:Dd}{ρ:DF}:j6 C i n fv ρ=match ρ[i]? with
 |some (some (.own (.ins C' fs) t))=>if C'=C then(fv ρ).bind fun d=>if fs.length<1000 then some (.nx (ρ.set i (some (.own (.ins C (jr n d fs)) t))))else none else none
 |_=>none:=rfl
def srt(ts:List T4):List D:=cx ((ts.map lf).map dT4)
theorem wT(r:List Int):okN 30 (.lst (r.map .int))=true:=by show(r.map D.int).all (okN 29)=true;rw[Yx];intro x hx;obtain⟨t,_,rfl⟩:=YC.mp hx;rfl
theorem Bs{n:Int}{ks:List Str}(h:okK n ks):okN 30 (.lst (ks.map .str))=true:=by show(ks.map D.str).all (okN 29)=true;rw[Yx];intro x hx;obtain⟨k,hk,rfl⟩:=YC.mp hx;show PyData.strOk k=true;unfold PyData.strOk;rw[<-Array.all_toList,Yx];intro c hc;have:=(h.2 k hk).2.2 c hc;exact YL (by omega)
theorem zp{x y:D}(hx:okN 30 x=true)(hy:okN 30 y=true):eqD x y=some (.bl (eqd x y)):=Yi (by rw[hx,hy];rfl)
theorem nO{x y:D}(hx:okN 30 x=true)(hy:okN 30 y=true):neD x y=some (.bl (!eqd x y)):=Yi (by rw[hx,hy];rfl)
theorem xy(ps:List (Int×Int)):Cmps 28 (ps.map dP):=
 ⟨fun x hx=>by obtain⟨t,_,rfl⟩:=YC.mp hx;rfl,fun x hx y hy=>by obtain⟨t,_,rfl⟩:=YC.mp hx;obtain⟨u,_,rfl⟩:=YC.mp hy;rfl⟩
def prs(i j:Int)(t:T4):List (Int×Int):=(if t.1=i/\t.2.1=j then[(t.2.2.1,if t.2.2.2=true then 1 else 0)]else[])++(if t.2.1=i/\t.1=j then[(t.2.2.1,if t.2.2.2=true then 2 else 0)]else[])
def aP(i j:Int):List T4->List (Int×Int)
 |[]=>[]
 |t::ts=>prs i j t++aP i j ts
def srP(ps:List (Int×Int)):D:=.tup (cx (ps.map dP))
theorem nz{ps qs:List (Int×Int)}(h:ps.Perm qs):srP ps=srP qs:=by unfold srP;rw[o5 (h.map dP) (xy _)]
theorem tF(i j:Int)(ts us:List T4):aP i j (ts++us)=aP i j ts++aP i j us:=by
 induction ts with
 |nil=>rfl
 |cons t ts ih=>
  show prs i j t++aP i j (ts++us)=prs i j t++aP i j ts++aP i j us;rw[ih,Zt]
theorem lV(i j:Int)(ts:List T4)(t:T4):aP i j (ts++[t])=aP i j ts++prs i j t:=by rw[tF];show _++(prs i j t++[])=_;rw[Ze]
theorem rk{i j:Int}{ts us:List T4}(h:ts.Perm us):(aP i j ts).Perm (aP i j us):=by
 induction h with
 |nil=>exact .refl _
 |cons t _ ih=>exact ih.append_left _
 |swap a b l=>
  show(prs i j b++(prs i j a++aP i j l)).Perm (prs i j a++(prs i j b++aP i j l));rw[<-Zt,<-Zt];exact List.perm_append_comm.append_right _
 |trans _ _ h1 h2=>exact h1.trans h2
theorem xX(i j:Int)(t:T4)(h:t.1≠t.2.1):prs i j (lf t)=prs i j t:=by
 obtain⟨a,b,k,o⟩:=t;simp only at h;unfold lf;split
 ·rfl
 ·rename_i q;have ho:o=false:=by cases o with|false=>rfl|true=>exact absurd (Or.inl rfl) q
  subst ho;unfold prs;by_cases h1:a=i/\b=j
  ·have h2:¬(b=i/\a=j):=fun z=>h (by rw[h1.1,<-z.1])
   simp[h1,h2];simp[h1]at h2;split
   ·rename_i z;exact absurd z.2 (h2 z.1)
   ·rfl
  ·by_cases h2:b=i/\a=j
   ·simp[h1,h2];simp[h2]at h1;split
    ·rename_i z;exact absurd z.2 (h1 z.1)
    ·rfl
   ·simp[h1,h2]
theorem wC(i j:Int)(ts:List T4)(h:∀t∈ts,t.1≠t.2.1):aP i j (ts.map lf)=aP i j ts:=by
 induction ts with
 |nil=>rfl
 |cons t ts ih=>
  show prs i j (lf t)++aP i j (ts.map lf)=prs i j t++aP i j ts;rw[xX i j t (h t Yf),ih fun u hu=>h u (Yc _ hu)]
theorem wF(i j:Int)(t:T4):(prs i j t).length<=2:=by
 unfold prs;rw[Yj];have h1:∀(c:Prop) [Decidable c] (x:Int×Int),(if c then[x]else[]).length<=1:=fun c _ x=>by split<;>simp
 have:=h1 (t.1=i/\t.2.1=j) (t.2.2.1,if t.2.2.2=true then 1 else 0);have:=h1 (t.2.1=i/\t.1=j) (t.2.2.1,if t.2.2.2=true then 2 else 0);omega
theorem eD(i j:Int)(ts:List T4):(aP i j ts).length<=2*ts.length:=by
 induction ts with
 |nil=>exact Ym _
 |cons t ts ih=>
  show(prs i j t++aP i j ts).length<=2*(ts.length+1);rw[Yj];have:=wF i j t;omega
def JOk(kvs:List (List Key×D))(ts:List T4):Prop:=∀i j:Int,c7 kvs [.inl i,.inl j]=if aP i j ts=[]then none else some (srP (aP i j ts))
theorem JOk.get{kvs:List (List Key×D)}{ts:List T4}(h:JOk kvs ts)(i j:Int):(c7 kvs [.inl i,.inl j]).getD (.tup [])=srP (aP i j ts):=by
 rw[h i j];split
 ·rename_i q;rw[q];rfl
 ·rfl
theorem ls{a b i j:Int}(h:¬(a=i/\b=j)):¬([.inl a,.inl b]:List Key)=[.inl i,.inl j]:=by intro q;injection q with q1 q2;injection q2 with q2 _;exact h ⟨Sum.inl.inj q1,Sum.inl.inj q2⟩
theorem Am(C:Addr)(kvs:List (List Key×D))(a b k f:Int)(ps:List (Int×Int))(hg:(c7 kvs [.inl a,.inl b]).getD (.tup [])=srP ps)(pl:ps.length<=50)(hkl:kvs.length<1000) :
  iS C (.dT kvs) [.v (.tup [.int a,.int b]),.v (.tup [.int k,.int f])]=some (.dT (em kvs [.inl a,.inl b] (srP (ps++[(k,f)]))),.non):=by
 obtain⟨us,eu,up⟩:=bY dP unP (fun _=>rfl) (bF (ps.map dP));have hg':(c7 kvs [.inl a,.inl b]).getD (.tup [])=.tup (us.map dP):=hg.trans (Zi D.tup eu);have ul:us.length<=50:=by rw[up.length_eq];exact pl
 have ha:aW (.tup (us.map dP)) (.tup [.tup [.int k,.int f]])=some (.tup ((us++[(k,f)]).map dP)):=by rw[Zf];exact Yi (by rw[Yb];show us.length+1<=_;omega)
 have hso:=nc (us++[(k,f)]) (by rw[Yj,YD];omega);have hs:D.tup (cx ((us++[(k,f)]).map dP))=srP (ps++[(k,f)]):=nz (up.append_right _);rw[<-hs];refine pF rfl rfl fun ad=>⟨.nx [some (.own (.dT (em kvs [.inl a,.inl b] (.tup (cx ((us++[(k,f)]).map dP))))) (some ad)),some (.v (.tup [.int a,.int b])),some (.v (.tup [.int k,.int f]))],?_,rfl,rfl⟩
 have hkl':kvs.length<16777216:=by omega
 generalize (us++[(k,f)]).map dP=L at *;generalize us.map dP=L0 at *;unfold g_q31;simp[mr,iE,fB,dj,oH,hg',ha,iW,hso,mD,hkl']
theorem Ah(a b k:Int)(o:Bool)(hab:a≠b):prs a b (a,b,k,o)=[(k,if o=true then 1 else 0)]:=by show(if a=a/\b=b then[(k,if o=true then(1:Int)else 0)]else[])++(if b=a/\a=b then[(k,if o=true then(2:Int)else 0)]else[])=_;rw[Yi (⟨rfl,rfl⟩:a=a/\b=b),Yn (fun z:b=a/\a=b=>hab z.2)];rfl
theorem Ay(a b k:Int)(o:Bool)(hab:a≠b):prs b a (a,b,k,o)=[(k,if o=true then 2 else 0)]:=by show(if a=b/\b=a then[(k,if o=true then(1:Int)else 0)]else[])++(if b=b/\a=a then[(k,if o=true then(2:Int)else 0)]else[])=_;rw[Yi (⟨rfl,rfl⟩:b=b/\a=a),Yn (fun z:a=b/\b=a=>hab z.1)];rfl
theorem AY(i j a b k:Int)(o:Bool)(h1:¬(b=i/\a=j))(h2:¬(a=i/\b=j)):prs i j (a,b,k,o)=[]:=by show(if a=i/\b=j then[(k,if o=true then(1:Int)else 0)]else[])++(if b=i/\a=j then[(k,if o=true then(2:Int)else 0)]else[])=_;rw[Yn h2,Yn h1];rfl
theorem JOk.step{kvs:List (List Key×D)}{ts:List T4}(h:JOk kvs ts)(a b k:Int)(o:Bool)(hab:a≠b) :
  JOk (em (em kvs [.inl a,.inl b] (srP (aP a b ts++[(k,if o=true then 1 else 0)]))) [.inl b,.inl a] (srP (aP b a ts++[(k,if o=true then 2 else 0)]))) (ts++[(a,b,k,o)]):=by
 intro i j;rw[lV,fS,fS];by_cases h1:b=i/\a=j
 ·obtain⟨rfl,rfl⟩:=h1;rw[Ay a b k o hab];generalize (k,if o=true then(2:Int)else 0)=q;rw[Yi rfl,Yn (by simp)]
 ·rw[Yn (ls h1)];by_cases h2:a=i/\b=j
  ·obtain⟨rfl,rfl⟩:=h2;rw[Ah a b k o hab];generalize (k,if o=true then(1:Int)else 0)=q;rw[Yi rfl,Yn (by simp)]
  ·rw[Yn (ls h2),h i j,AY i j a b k o h1 h2,Ze]
theorem jq{α:Type}{l:List α}{j:Nat}{x:α}(h:l[j]?=some x):l.take (j+1)=l.take j++[x]:=by rw[List.take_add_one,h];rfl
theorem v5(C:Addr)(ts:List T4)(hl:ts.length<=12)(hd:∀t∈ts,t.1≠t.2.1):∃kvs,tT C [.v (.lst (ts.map dT4))]=some (.own (.dT kvs) none)/\JOk kvs ts:=by
 have hM:=Am C;unfold tT g_q9;generalize iS C=M at hM ⊢;obtain⟨z,e,kvs,y2,y3,y4,y5,rfl,hk,hJ⟩:=cL (st:=cS [2,3,4,5]) (body:=(al (eG K0 1 M (aV (asT (ag (getV 2) (ag (getV 3) aD))) (aV (asT (ag (getV 4) (ag (ifV (asB (getV 5)) (fun _=>some (.int 1)) (fun _=>some (.int 0))) aD))) (fun _=>some []))))
  (eG K0 1 M (aV (asT (ag (getV 3) (ag (getV 2) aD))) (aV (asT (ag (getV 4) (ag (ifV (asB (getV 5)) (fun _=>some (.int 2)) (fun _=>some (.int 0))) aD))) (fun _=>some []))))))
  (fun j ρ=>∃(kvs:List (List Key×D)) (x2 x3 x4 x5:Option DV),ρ=[some (.v (.lst (ts.map dT4))),some (.own (.dT kvs) none),x2,x3,x4,x5]/\kvs.length<=2*j/\JOk kvs (ts.take j)) (ts.map dT4) 0
  [some (.v (.lst (ts.map dT4))),some (.own (.dT []) none),none,none,none,none] ⟨[],_,_,_,_,rfl,Ym _,fun _ _=>rfl⟩ (by
   rintro j d _ hj ⟨kvs,x2,x3,x4,x5,rfl,hk,hJ⟩;rw[YV]at hk hJ ⊢;rw[Yw]at hj;cases ht:ts[j]? with
   |none=>rw[ht]at hj;cases hj
   |some t=>
   rw[ht]at hj;cases hj;have hlt:j<ts.length:=(Yh.mp ht).1;obtain⟨a,b,k,o⟩:=t;have hab:a≠b:=hd _ (Yv ht);have l1:=eD a b (ts.take j);have l2:=eD b a (ts.take j);have l3:(ts.take j).length<=12:=by rw[YR];omega
   have e1:=hM kvs a b k (if o=true then 1 else 0) _ (hJ.get a b) (by omega) (by omega);have l4:=i4 [.inl a,.inl b] (srP (aP a b (ts.take j)++[(k,if o=true then 1 else 0)])) kvs;have g2:(c7 (em kvs [.inl a,.inl b] (srP (aP a b (ts.take j)++[(k,if o=true then 1 else 0)]))) [.inl b,.inl a]).getD (.tup [])=srP (aP b a (ts.take j)):=by rw[fS,Yn (ls fun z=>hab z.1)];exact hJ.get b a
   have e2:=hM _ b a k (if o=true then 2 else 0) _ g2 (by omega) (by omega);have hs:=hJ.step a b k o hab;rw[<-jq ht]at hs;have l5:=i4 [.inl b,.inl a] (srP (aP b a (ts.take j)++[(k,if o=true then 2 else 0)])) (em kvs [.inl a,.inl b] (srP (aP a b (ts.take j)++[(k,if o=true then 1 else 0)])));generalize em kvs [.inl a,.inl b] (srP (aP a b (ts.take j)++[(k,if o=true then 1 else 0)]))=kvs1 at *;generalize em kvs1 [.inl b,.inl a] (srP (aP b a (ts.take j)++[(k,if o=true then 2 else 0)]))=kvs2 at *;refine⟨[some (.v (.lst (ts.map dT4))),some (.own (.dT kvs) none),some (.v (.int a)),some (.v (.int b)),some (.v (.int k)),some (.v (.bl o))],rfl,[some (.v (.lst (ts.map dT4))),some (.own (.dT kvs2) none),some (.v (.int a)),some (.v (.int b)),some (.v (.int k)),some (.v (.bl o))],?_,kvs2,_,_,_,_,rfl,by omega,hs⟩;clear g2 hs hJ l1 l2 l3 l4 l5 hM;cases o with
   |true=>
    simp only[Va]at e1 e2;simp[eG,kJ,v6,e1,e2]
   |false=>
    simp at e1 e2;simp[eG,kJ,v6,e1,e2])
 rw[YV,Yb,Xl]at hJ;refine⟨kvs,?_,hJ⟩;rw[uP];have s0:bt 1 (fun _=>some (.dT [])) (aQ 6 1 [.v (.lst (ts.map dT4))])=some (.nx [some (.v (.lst (ts.map dT4))),some (.own (.dT []) none),none,none,none,none]):=rfl;rw[ao s0,ao (bw (ds:=ts.map dT4) rfl e)];rfl
theorem JOk.perm{kvs:List (List Key×D)}{us ts:List T4}(h:JOk kvs us)(p:∀i j,(aP i j us).Perm (aP i j ts)):JOk kvs ts:=by
 intro i j;have hp:=p i j;rw[h i j,nz hp];by_cases q:aP i j us=[]
 ·rw[q]at hp;rw[Yi q,Yi hp.symm.eq_nil]
 ·rw[Yn q,Yn fun z=>q (by rw[z]at hp;exact hp.eq_nil)]
theorem yw(C:Addr)(ks:List Str)(ts:List T4)(n:Int)(hn:1<=n/\n<=7)(hk:okK n ks)(hs:okS n ts):∃kvs,JOk kvs ts/\eS C (.ins C []) [.v (.lst (ks.map .str)),.v (.lst (ts.map dT4))]=some (.ins C (wFs ks (.lst (srt ts)) (.dT kvs)),.non):=by
 have hR:=rH C ks ts n hn hk hs;have hL:=rT C;obtain⟨us,eu,up⟩:=wz (ts.map lf);have hd:∀t∈ts,t.1≠t.2.1:=fun t ht=>(hs.2 t ht).2.2.2.2.1
 obtain⟨kvs,hJ,hO⟩:=v5 C us (by rw[up.length_eq,Yb];exact hs.1) (fun t ht=>by
  obtain⟨u,hu,rfl⟩:=YC.mp (up.mem_iff.mp ht);exact(zV (hs.2 u hu)).2.2.2.2.1)
 have hso:=qG (ts.map lf) (by rw[Yb];have:=hs.1;omega);refine⟨kvs,hO.perm fun i j=>?_,pF rfl rfl fun ad=>⟨.nx [some (.own (.ins C (wFs ks (.lst (srt ts)) (.dT kvs))) (some ad)),some (.v (.lst (ks.map .str))),some (.v (.lst (ts.map dT4)))],?_,rfl,rfl⟩⟩
 ·have:=rk (i:=i) (j:=j) up
  rwa [wC i j ts hd]at this
 unfold Az;generalize lQ C=R at hR ⊢;generalize lO C=L at hL ⊢;generalize tT C=J at hJ ⊢;have hsr:srt ts=us.map dT4:=eu;rw[hsr];have c1:c8 (setV 0) bC (aj L (aV (getV 0) (fun _=>some []))) [none] (ts.map dT4)=some ((ts.map lf).map dT4):=by
  rw[ZM];refine di dT4 _ ts fun t _=>⟨[some (.v (dT4 t))],rfl,rfl,?_⟩
  simp[hL]
 have tl:ts.length<=16777216:=by have:=hs.1;omega
 generalize (aj L (aV (getV 0) (fun _=>some [])))=E at c1 ⊢;generalize (ts.map lf).map dT4=X at *;have hf:∀fs:List (Str×D),iu C "ties" (.ins C [("kinds",.lst (ks.map .str)),("ties",.lst (us.map dT4))])=some (.lst (us.map dT4)):=by intro _;rw[lC];simp[List.lookup,b1]
 have hf':=hf [];generalize us.map dT4=Y at *;generalize hX:ts.map dT4=Z at *;have hZ:Z.length<=16777216:=by rw[<-hX,Yb];exact tl
 simp[hR,sJ,jr,iW,cf,hZ,c1,hso,eu,hf',hJ,n1,n2,n3,wFs]
theorem lH(C:Addr)(ks:List Str)(ts:List T4)(n:Int)(hn:1<=n/\n<=7)(hk:okK n ks)(hs:okS n ts):∃kvs,JOk kvs ts/\∀(g:Dv) (ρ:DF),g ρ=some [.v (.lst (ks.map .str)),.v (.lst (ts.map dT4))]->bH C (eS C) g ρ=some (.ins C (wFs ks (.lst (srt ts)) (.dT kvs))):=by obtain⟨J,h,e⟩:=yw C ks ts n hn hk hs;refine⟨J,h,fun g ρ h=>?_⟩;unfold bH;rw[h,Ya,e];rfl
theorem xv(a b i j:Int):eqD (.tup [.int a,.int b]) (.tup [.int i,.int j])=some (.bl (decide (a=i/\b=j))):=by
 rw[zp rfl rfl];have h:=cB (.tup [.int a,.int b]) (.tup [.int i,.int j]) rfl;by_cases e:a=i/\b=j
 ·rw[YL e,h.mpr (by rw[e.1,e.2])]
 ·rw[YB e];cases q:eqd (.tup [.int a,.int b]) (.tup [.int i,.int j])with
  |false=>rfl
  |true=>exact absurd (by simpa using h.mp q) e
theorem we(o:Bool):mT (.bl o)=some (.int (if o=true then 1 else 0)):=rfl
abbrev tbT:DF->Option RES:=(al (dIf (asB (d2 eqD (asT (ag (getV 6) (ag (getV 7) aD))) (asT (ag (getV 3) (ag (getV 4) aD))))) (dF 5 (asT (ag (getV 8) (ag (d1 mT (am 9)) aD)))) dNx)
  (dIf (asB (d2 eqD (asT (ag (getV 7) (ag (getV 6) aD))) (asT (ag (getV 3) (ag (getV 4) aD))))) (dF 5 (asT (ag (getV 8) (ag (d2 cT (fun _=>some (.int 2)) (d1 mT (am 9))) aD)))) dNx))
abbrev tbB:DF->Option RES:=(al (bt 5 (asL aD)) (al (cb (bL 1) (cS [6,7,8,9]) tbT) (kF 2 (asT (ag (getV 3) (ag (getV 4) aD))) (d1 mD (asO (asL (iO (ac 5))))))))
abbrev tbF(n:Int)(TS:List D)(kvs:List (List Key×D))(x3 x4 x5 x6 x7 x8 x9:Option DV):DF:=[some (.v (.int n)),some (.v (.lst TS)),some (.own (.dT kvs) none),x3,x4,x5,x6,x7,x8,x9]
theorem v8(n:Int)(TS:List D)(kvs:List (List Key×D))(i j a b k:Int)(o:Bool)(L:List (Int×Int))(hL:L.length<=100) :
  tbT (tbF n TS kvs (some (.v (.int i))) (some (.v (.int j))) (some (.own (.lst (L.map dP)) none)) (some (.v (.int a))) (some (.v (.int b))) (some (.v (.int k))) (some (.v (.bl o)))) =
   some (.nx (tbF n TS kvs (some (.v (.int i))) (some (.v (.int j))) (some (.own (.lst ((L++prs i j (a,b,k,o)).map dP)) none)) (some (.v (.int a))) (some (.v (.int b))) (some (.v (.int k))) (some (.v (.bl o))))):=by
 have l1:L.length<16777216:=by omega
 have l2:L.length+1<16777216:=by omega
 have m1:=cC 2 (if o=true then 1 else 0) (.inl (by decide));have m2:(2:Int)*(if o=true then 1 else 0)=if o=true then 2 else 0:=by cases o<;>rfl
 rw[m2]at m1;have e1:=xv a b i j;have e2:=xv b a i j;have hp:prs i j (a,b,k,o)=(if decide (a=i/\b=j)=true then[(k,if o=true then 1 else 0)]else[])++(if decide (b=i/\a=j)=true then[(k,if o=true then 2 else 0)]else[]):=by simp only[YJ];rfl
 rw[hp];generalize decide (a=i/\b=j)=c1 at e1 ⊢;generalize decide (b=i/\a=j)=c2 at e2 ⊢;have i1:=we o;generalize (if o=true then(1:Int)else 0)=w1 at *;generalize (if o=true then(2:Int)else 0)=w2 at *;have d1:dP (k,w1)=.tup [.int k,.int w1]:=rfl;have d2:dP (k,w2)=.tup [.int k,.int w2]:=rfl;have lm:(L.map dP).length=L.length:=Yb ..;rw[Zf];generalize L.map dP=M at *;cases c1<;>cases c2<;>simp[e1,e2,i1,m1,l1,l2,lm,d1,d2]
theorem BF(n:Int)(kvs:List (List Key×D))(i j:Int)(ts:List T4)(hl:ts.length<=12)(x6 x7 x8 x9:Option DV):∃y6 y7 y8 y9,
  cE (cS [6,7,8,9]) tbT (ts.map dT4) (tbF n (ts.map dT4) kvs (some (.v (.int i))) (some (.v (.int j))) (some (.own (.lst []) none)) x6 x7 x8 x9) =
   some (.nx (tbF n (ts.map dT4) kvs (some (.v (.int i))) (some (.v (.int j))) (some (.own (.lst ((aP i j ts).map dP)) none)) y6 y7 y8 y9)):=by
 obtain⟨z,e,y6,y7,y8,y9,rfl⟩:=cL (st:=cS [6,7,8,9]) (body:=tbT) (fun m ρ=>∃y6 y7 y8 y9,ρ=tbF n (ts.map dT4) kvs (some (.v (.int i))) (some (.v (.int j))) (some (.own (.lst ((aP i j (ts.take m)).map dP)) none)) y6 y7 y8 y9) (ts.map dT4) 0
  (tbF n (ts.map dT4) kvs (some (.v (.int i))) (some (.v (.int j))) (some (.own (.lst []) none)) x6 x7 x8 x9) ⟨_,_,_,_,rfl⟩ (by
   rintro m d _ hj ⟨y6,y7,y8,y9,rfl⟩;rw[YV];rw[Yw]at hj;cases ht:ts[m]? with
   |none=>rw[ht]at hj;cases hj
   |some t=>
   rw[ht]at hj;cases hj;obtain⟨a,b,k,o⟩:=t;rw[jq ht,lV];have l1:=eD i j (ts.take m);have l3:(ts.take m).length<=12:=by rw[YR];omega
   exact⟨_,rfl,_,v8 n (ts.map dT4) kvs i j a b k o (aP i j (ts.take m)) (by omega),_,_,_,_,rfl⟩)
 rw[YV,Yb,Xl]at e;exact⟨_,_,_,_,e⟩
theorem zj(n:Int)(kvs:List (List Key×D))(i j:Int)(ts:List T4)(hl:ts.length<=12)(hk:kvs.length<1000)(x5 x6 x7 x8 x9:Option DV):∃y5 y6 y7 y8 y9,
  tbB (tbF n (ts.map dT4) kvs (some (.v (.int i))) (some (.v (.int j))) x5 x6 x7 x8 x9) =
   some (.nx (tbF n (ts.map dT4) (em kvs [.inl i,.inl j] (srP (aP i j ts))) (some (.v (.int i))) (some (.v (.int j))) y5 y6 y7 y8 y9)):=by
 obtain⟨y6,y7,y8,y9,e⟩:=BF n kvs i j ts hl x6 x7 x8 x9;have l1:=eD i j ts;have hso:=nc (aP i j ts) (by omega);have hk':kvs.length<16777216:=by omega
 refine⟨some (.own (.lst ((aP i j ts).map dP)) none),y6,y7,y8,y9,?_⟩;have s0:bt 5 (asL aD) (tbF n (ts.map dT4) kvs (some (.v (.int i))) (some (.v (.int j))) x5 x6 x7 x8 x9)=some (.nx (tbF n (ts.map dT4) kvs (some (.v (.int i))) (some (.v (.int j))) (some (.own (.lst []) none)) x6 x7 x8 x9)):=rfl;show al _ _ _=_;rw[ao s0,ao (bw (ds:=ts.map dT4) rfl e)];unfold srP;generalize (aP i j ts).map dP=L at *;simp[mr,fB,dj,oH,iW,hso,mD,hk']
abbrev tbS(ts:List T4)(kvs:List (List Key×D))(S:Int->Int->Prop):Prop:=∀a b,S a b->c7 kvs [.inl a,.inl b]=some (srP (aP a b ts))
theorem yx{ts:List T4}{kvs:List (List Key×D)}{S S':Int->Int->Prop}(h:tbS ts kvs S)(i j:Int)(hs:∀a b,S' a b->S a b\/(i=a/\j=b)):tbS ts (em kvs [.inl i,.inl j] (srP (aP i j ts))) S':=by
 intro a b q;rw[fS];by_cases e:i=a/\j=b
 ·obtain⟨rfl,rfl⟩:=e;rw[Yi rfl]
 ·rw[Yn (ls e)];rcases hs a b q with z|z
  ·exact h a b z
  ·exact absurd z e
theorem zo(n:Int)(hn:1<=n/\n<=7)(kvs:List (List Key×D))(i:Nat)(hi:i<7)(ts:List T4)(hl:ts.length<=12)(hk:kvs.length<=7*i)(x4 x5 x6 x7 x8 x9:Option DV)(hS:tbS ts kvs fun a b=>0<=a/\a<(i:Int)/\0<=b/\b<n) :
  ∃kvs' y4 y5 y6 y7 y8 y9,cE (setV 4) tbB ((aK n).map .int) (tbF n (ts.map dT4) kvs (some (.v (.int i))) x4 x5 x6 x7 x8 x9)=some (.nx (tbF n (ts.map dT4) kvs' (some (.v (.int i))) y4 y5 y6 y7 y8 y9))/\kvs'.length<=7*(i+1) /\
   tbS ts kvs' fun a b=>0<=a/\a<((i+1:Nat):Int)/\0<=b/\b<n:=by
 obtain⟨z,e,kvs',y4,y5,y6,y7,y8,y9,rfl,h1,h2⟩:=cL (st:=setV 4) (body:=tbB) (fun m ρ=>∃kvs' y4 y5 y6 y7 y8 y9,ρ=tbF n (ts.map dT4) kvs' (some (.v (.int i))) y4 y5 y6 y7 y8 y9/\kvs'.length<=7*i+m /\
   tbS ts kvs' fun a b=>(0<=a/\a<(i:Int)/\0<=b/\b<n)\/(a=(i:Int)/\0<=b/\b<(m:Int))) ((aK n).map .int) 0 (tbF n (ts.map dT4) kvs (some (.v (.int i))) x4 x5 x6 x7 x8 x9)
   ⟨kvs,_,_,_,_,_,_,rfl,hk,fun a b q=>by
    rcases q with q|q
    ·exact hS a b q
    ·have:=q.2.1;have:=q.2.2;omega⟩ (by
   rintro m d _ hj ⟨kvs',y4,y5,y6,y7,y8,y9,rfl,h1,h2⟩;rw[YV]at h1 h2 ⊢;have hm:m<n.toNat:=by have:=(Yh.mp hj).1;rwa [Yb,bc]at this
   rw[eV hj];obtain⟨z5,z6,z7,z8,z9,e⟩:=zj n kvs' i m ts hl (by omega) y5 y6 y7 y8 y9;have l:=i4 [.inl (i:Int),.inl (m:Int)] (srP (aP i m ts)) kvs';refine⟨_,rfl,_,e,_,_,_,_,_,_,_,rfl,by omega,yx h2 i m fun a b q=>?_⟩;rcases q with q|⟨q1,q2,q3⟩
   ·exact .inl (.inl q)
   ·by_cases z:b=(m:Int)
    ·exact .inr ⟨q1.symm,z.symm⟩
    ·exact .inl (.inr ⟨q1,q2,by omega⟩))
 rw[YV,Yb,bc]at h1 h2;refine⟨kvs',y4,y5,y6,y7,y8,y9,e,by omega,fun a b q=>h2 a b ?_⟩;by_cases z:a=(i:Int)
 ·exact .inr ⟨z,q.2.2.1,by omega⟩
 ·exact .inl ⟨q.1,by omega,q.2.2.1,q.2.2.2⟩
theorem nv(C:Addr)(n:Int)(ts:List T4)(hn:1<=n/\n<=7)(hl:ts.length<=12):∃kvs,lS C [.v (.int n),.v (.lst (ts.map dT4))]=some (.own (.dT kvs) none)/\tbS ts kvs fun a b=>0<=a/\a<n/\0<=b/\b<n:=by
 obtain⟨z,e,kvs,y3,y4,y5,y6,y7,y8,y9,rfl,h1,h2⟩:=cL (st:=setV 3) (body:=cb (bK (ac 0)) (setV 4) tbB) (fun m ρ=>∃kvs y3 y4 y5 y6 y7 y8 y9,ρ=tbF n (ts.map dT4) kvs y3 y4 y5 y6 y7 y8 y9/\kvs.length<=7*m /\
   tbS ts kvs fun a b=>0<=a/\a<(m:Int)/\0<=b/\b<n) ((aK n).map .int) 0 (tbF n (ts.map dT4) [] none none none none none none none)
   ⟨[],_,_,_,_,_,_,_,rfl,Ym _,fun a b q=>by have:=q.1;have:=q.2.1;omega⟩ (by
   rintro m d _ hj ⟨kvs,y3,y4,y5,y6,y7,y8,y9,rfl,h1,h2⟩;rw[YV]at h1 h2 ⊢;have hm:m<n.toNat:=by have:=(Yh.mp hj).1;rwa [Yb,bc]at this
   rw[eV hj];obtain⟨kvs',z4,z5,z6,z7,z8,z9,e,h3,h4⟩:=zo n hn kvs m (by omega) ts hl h1 y4 y5 y6 y7 y8 y9 h2;exact⟨_,rfl,_,bw (c_ rfl ⟨by omega,by omega⟩) e,kvs',_,_,_,_,_,_,_,rfl,h3,h4⟩)
 rw[YV,Yb,bc]at h2;refine⟨kvs,?_,fun a b q=>h2 a b ⟨q.1,by omega,q.2.2⟩⟩;unfold lS g_q24;rw[hU];have s0:bt 2 (fun _=>some (.dT [])) (aQ 10 2 [.v (.int n),.v (.lst (ts.map dT4))])=some (.nx (tbF n (ts.map dT4) [] none none none none none none none)):=rfl;rw[ao s0,ao (bw (ds:=(aK n).map .int) (c_ rfl ⟨by omega,by omega⟩) e)];rfl
theorem b8:(("between":Str) == "kinds")=false:=by decide+kernel
theorem b9:(("between":Str) == "ties")=false:=by decide+kernel
theorem b10:(("between":Str) == "joins")=false:=by decide+kernel
theorem b11:(("joins":Str) == "kinds")=false:=by decide+kernel
theorem b12:(("joins":Str) == "ties")=false:=by decide+kernel
theorem qV(C:Addr)(ks:List Str)(T J:D):iu C "joins" (.ins C (wFs ks T J))=some J:=by rw[lC];simp[wFs,List.lookup,b11,b12]
theorem oh(ks:List Str)(T J:D):(wFs ks T J).lookup ("between":Str)=none:=by simp[wFs,List.lookup,b8,b9,b10]
theorem p6{C:Addr}{ks:List Str}{T J:D}{mn:Str}(h:(wFs ks T J).lookup mn=none)(xs:List DV):l9 C mn (.v (.ins C (wFs ks T J))::xs)=true:=by show(match(if C=C then some (wFs ks T J)else none)with|some fs=>(fs.lookup mn).isNone|none=>false)=true;rw[Yi rfl];simp only;rw[h];rfl
def nr(ts:List T4)(n p:Int):List Int:=(aK n).filter fun o=>!decide (aP p o ts=[])
theorem oF(C:Addr)(ks:List Str)(T:D)(kvs:List (List Key×D))(ts:List T4)(i j:Int)(hJ:JOk kvs ts) :
  oB C [.v (.ins C (wFs ks T (.dT kvs))),.v (.int i),.v (.int j)]=some (.v (srP (aP i j ts))):=by
 have hf:=qV C ks T (.dT kvs);have hg:=hJ.get i j;generalize wFs ks T (.dT kvs)=F at *;generalize srP (aP i j ts)=R at *;simp[oB,Bk,iE,hf,fB,dj,oH,hg]
@[simp] theorem A5{f g:Dd}{ρ:DF}:iN f g ρ=match f ρ,g ρ with
 |some (.lst as),some (.lst bs)=>if as.length=bs.length then some (ip as bs)else none
 |some (.tup as),some (.tup bs)=>if as.length=bs.length then some (ip as bs)else none
 |_,_=>none:=rfl
theorem ki{as:List D}{d:D}(h:d∈ip as as):∃x∈as,d=.tup [x,x]:=by obtain⟨i,hi,e⟩:=Xh.mp h;obtain⟨x,y,h1,h2,rfl⟩:=mW (i:=i) (Yh.mpr ⟨hi,e⟩);rw[h1]at h2;cases h2;exact⟨x,Yv h1,rfl⟩
theorem sK(C:Addr)(i:Int):pM C [.v (.int i)]=some (.v (.bl true)):=rfl
theorem p_(ds:List D):e8 "list" (.lst ds)=some (.bl true):=rfl
theorem qN{st:Dq}{body:Dw}{d:D}{ds:List D}{ρ ρ1 ρ2:DF}(h1:st d ρ=some ρ1)(h2:body ρ1=some (.nx ρ2)):cE st body (d::ds) ρ=cE st body ds ρ2:=by
 conv=>lhs;unfold cE
 rw[h1];simp only[h2]
theorem v9{i:Nat}{g:Dl}{ρ:DF}{ds es:List D}{t:Option Addr}(h:ρ[i]?=some (some (.own (.lst ds) t)))(hg:g ρ=some es)(hl:ds.length+es.length<=16777216):jP i g ρ=some (.nx (ρ.set i (some (.own (.lst (ds++es)) t)))):=by unfold jP;rw[h];simp only;rw[hg,Ya,Yi hl]
@[simp] theorem BZ{i j:Nat}{ρ:DF}:dJ i j ρ=match ρ[i]? with
 |some (some (.own (.tup2 dss) _))=>(dss[j]?).map .lst
 |some (some (.bor (.tup2 dss)))=>(dss[j]?).map .lst
 |some (some (.v (.tup ds)))=>ds[j]?
 |_=>none:=rfl
theorem sZ(m:Nat):ixN (m+1) (-1)=some m:=by unfold ixN;rw[Yn (by decide),Yi (by omega)];exact Zi some (by omega)
abbrev gtF(KS TS CS:List D)(s N:Int)(x4 x5 x6 x7 x8 x9 x10 x11 x12:Option DV):DF:=[some (.v (.tup [.lst KS,.lst TS])),some (.v (.lst CS)),some (.v (.int s)),some (.v (.int N)),x4,x5,x6,x7,x8,x9,x10,x11,x12]
abbrev gtC:DF->Option Bool:=asB (d2 ltd (d1 aM (am 4)) (am 3))
abbrev gtK(M:Dm):DF->Option RES:=dF 4 (d2 ixD (dJ 0 0) (d2 aG (aj M (aB 2 (aV (d1 aM (am 4)) (fun _=>some [])))) (d1 aM (dJ 0 0))))
theorem uL(M:Dm)(s N:Int)(ks:List Str)(TS CS:List D)(x5:Option DV)(hM:∀k:Int,0<=k/\k<=1000->∃r:Int,M [.v (.int s),.v (.int k)]=some (.v (.int r))/\0<=r/\r<998244353)(hk:∀k∈ks,okW k)(h0:0<ks.length)(h7:N<=7):∀(fuel:Nat) (kk:List Str),(∀k∈kk,okW k)->(kk.length:Int)<=N->N-kk.length<fuel->∃out:List Str,
  cy gtC (gtK M) fuel (gtF (ks.map .str) TS CS s N (some (.own (.lst (kk.map .str)) none)) x5 none none none none none none none)=some (.nx (gtF (ks.map .str) TS CS s N (some (.own (.lst (out.map .str)) none)) x5 none none none none none none none))/\(out.length:Int)=N/\∀k∈out,okW k:=by
 intro fuel;induction fuel with
 |zero=>intro kk _ h1 h2;omega
 |succ fuel ih=>
  intro kk hkk h1 h2;have lm:(kk.map D.str).length=kk.length:=Yb ..;have lk:(ks.map D.str).length=ks.length:=Yb ..;by_cases h:(kk.length:Int)<N
  ·obtain⟨r,hr,r0,_⟩:=hM (kk.length:Int) (by omega);have ml:=ay r (ks.length:Int) (by omega);obtain⟨x,hx,ex⟩:=dY (l:=ks) D.str (i:=r%(ks.length:Int)) (YN _ (by omega)) (YE _ (by omega));obtain⟨out,e,ho⟩:=ih (kk++[x]) (fun k hk'=>by
    rcases Zg.mp hk' with hk'|hk'
    ·exact hkk k hk'
    ·rw[YU.mp hk'];exact hk x (Yv hx)) (by rw[Yj,YD];omega) (by rw[Yj,YD];omega)
   refine⟨out,?_,ho⟩;have hl:kk.length<16777216:=by omega
   rw[Zf]at e;have hb:gtK M (gtF (ks.map .str) TS CS s N (some (.own (.lst (kk.map .str)) none)) x5 none none none none none none none)=some (.nx (gtF (ks.map .str) TS CS s N (some (.own (.lst (kk.map .str++[.str x])) none)) x5 none none none none none none none)):=by generalize kk.map D.str=A at *;generalize ks.map D.str=B at *;simp -implicitDefEqProofs [gtK,gtF,lm,lk,hl,hr,ml,ix1,ex]
   have hc:gtC (gtF (ks.map .str) TS CS s N (some (.own (.lst (kk.map .str)) none)) x5 none none none none none none none)=some true:=by generalize kk.map D.str=A at *;simp -implicitDefEqProofs [gtC,gtF,lm,h]
   unfold cy;rw[hc];simp only[hb];exact e
  ·refine⟨kk,?_,by omega,hkk⟩;have hc:gtC (gtF (ks.map .str) TS CS s N (some (.own (.lst (kk.map .str)) none)) x5 none none none none none none none)=some false:=by generalize kk.map D.str=A at *;simp -implicitDefEqProofs [gtC,gtF,lm,h]
   unfold cy;rw[hc]
abbrev gtQ:DF->Option Bool:=(cR (asB (d2 ltd (d1 aM (am 5)) (fun _=>some (.int 12)))) (cR (asB (d2 gtI (ac 3) (fun _=>some (.int 1)))) (asB (d2 gtI (d2 aG (ac 7) (fun _=>some (.int 3))) (fun _=>some (.int 0))))))
abbrev sA:DF->Option Bool:=(cR (asB (d2 eqD (d2 aG (d2 aZ (ac 7) (fun _=>some (.int 300))) (fun _=>some (.int 4))) (fun _=>some (.int 0)))) (asB (d2 gtI (d1 aM (dJ 0 1)) (fun _=>some (.int 0)))))
abbrev gtL:DF->Option RES:=(jD 5 (d1 l_ (fun _=>some (.int 1))) (asT (ag (getV 8) (ag (getV 9) (ag (d2 ixD (d2 ixD (dJ 0 1) (fun _=>some (.int 0))) (fun _=>some (.int 2))) (ag (d2 ixD (d2 ixD (dJ 0 1) (fun _=>some (.int 0))) (fun _=>some (.int 3))) aD))))))
abbrev gtB(M Kd:Dm):DF->Option RES:=(al (aw 7 (aj M (aB 6 (aV (fun _=>some (.int 9)) (fun _=>some [])))))
  (dIf gtQ (al (aw 8 (d2 aG (d2 aZ (ac 7) (fun _=>some (.int 3))) (ac 3)))
  (al (aw 9 (d2 aG (d2 aW (d2 aW (ac 8) (fun _=>some (.int 1))) (d2 aG (d2 aZ (ac 7) (fun _=>some (.int 30))) (d2 dC (ac 3) (fun _=>some (.int 1))))) (ac 3)))
  (al (dF 5 (asT (ag (getV 8) (ag (getV 9) (ag (aj Kd (aB 6 (aB 2 (fun _=>some [])))) (ag (d2 eqD (d2 aG (d2 aZ (ac 7) (fun _=>some (.int 7))) (fun _=>some (.int 3))) (fun _=>some (.int 0))) aD))))))
  (dIf sA gtL dNx)))) dNx))
theorem vH(M Kd:Dm)(KS CS:List D)(ts0:List T4)(s N c r k n0:Int)(ts:List T4)(x4 x7 x8 x9:Option DV)(hn:1<=N/\N<=7)(hl:ts.length<=12)(ht:∀t∈ts,okT N t)(h0:∀t∈ts0,okT n0 t)(hr:0<=r)
  (hM:M [.v (.int c),.v (.int 9)]=some (.v (.int r))) (hK:Kd [.v (.int c),.v (.int s)]=some (.v (.int k))) (hk:0<=k/\k<1000000000000000000000000000000) :
  ∃(ts':List T4) (y7 y8 y9:Option DV),gtB M Kd (gtF KS (ts0.map dT4) CS s N x4 (some (.own (.lst (ts.map dT4)) none)) (some (.v (.int c))) x7 x8 x9 none none none)=some (.nx (gtF KS (ts0.map dT4) CS s N x4 (some (.own (.lst (ts'.map dT4)) none)) (some (.v (.int c))) y7 y8 y9 none none none))/\ts'.length<=12/\∀t∈ts',okT N t:=by
 have m3:=fun x=>ay x 3 (by decide)
 have lm:(ts.map dT4).length=ts.length:=Yb ..;have s1:∀G,(al (aw 7 (aj M (aB 6 (aV (fun _=>some (.int 9)) (fun _=>some []))))) G) (gtF KS (ts0.map dT4) CS s N x4 (some (.own (.lst (ts.map dT4)) none)) (some (.v (.int c))) x7 x8 x9 none none none)=G (gtF KS (ts0.map dT4) CS s N x4 (some (.own (.lst (ts.map dT4)) none)) (some (.v (.int c))) (some (.v (.int r))) x8 x9 none none none):=by intro G;generalize ts.map dT4=T at *;generalize ts0.map dT4=T0 at *;simp -implicitDefEqProofs [gtF,hM]
 unfold gtB;rw[s1];by_cases hq:ts.length<12/\1<N/\0<r%3
 ·obtain⟨l12,n1,r3⟩:=hq;have l12':(ts.length:Int)<12:=by omega
  have hc:gtQ (gtF KS (ts0.map dT4) CS s N x4 (some (.own (.lst (ts.map dT4)) none)) (some (.v (.int c))) (some (.v (.int r))) x8 x9 none none none)=some true:=by generalize ts.map dT4=T at *;generalize ts0.map dT4=T0 at *;simp -implicitDefEqProofs [gtQ,gtF,lm,l12',m3,n1,r3]
  have d3:=bq r 3 (by decide);have d30:=bq r 30 (by decide);have d7:=bq r 7 (by decide);have d300:=bq r 300 (by decide);have mn:=fun x=>ay x N (by omega)
  have mn1:=fun x=>ay x (N-1) (by omega)
  have m4:=fun x=>ay x 4 (by decide)
  generalize ha:r/3%N=a;generalize hb:(a+1+r/30%(N-1))%N=b;have a0:0<=a:=by rw[<-ha];exact YN _ (by omega)
  have a1:a<N:=by rw[<-ha];exact YE _ (by omega)
  have b0:0<=b:=by rw[<-hb];exact YN _ (by omega)
  have b1:b<N:=by rw[<-hb];exact YE _ (by omega)
  have g0:0<=r/30%(N-1):=YN _ (by omega);have g1:r/30%(N-1)<N-1:=YE _ (by omega);have ab:a≠b:=by
   generalize r/30%(N-1)=g at *;by_cases h:a+1+g<N
   ·rw[ZP (by omega) h]at hb;omega
   ·have:(a+1+g)%N=a+1+g-N:=by rw[<-XU (a+1+g) N,ZP (by omega) (by omega)]
    omega
  have ot:okT N (a,b,k,decide (r/7%3=0)):=⟨a0,a1,b0,b1,ab,hk⟩
  have hlen:ts.length<16777216:=by omega
  have s2:∀G,(al (aw 8 (d2 aG (d2 aZ (ac 7) (fun _=>some (.int 3))) (ac 3)))
  (al (aw 9 (d2 aG (d2 aW (d2 aW (ac 8) (fun _=>some (.int 1))) (d2 aG (d2 aZ (ac 7) (fun _=>some (.int 30))) (d2 dC (ac 3) (fun _=>some (.int 1))))) (ac 3)))
  (al (dF 5 (asT (ag (getV 8) (ag (getV 9) (ag (aj Kd (aB 6 (aB 2 (fun _=>some [])))) (ag (d2 eqD (d2 aG (d2 aZ (ac 7) (fun _=>some (.int 7))) (fun _=>some (.int 3))) (fun _=>some (.int 0))) aD))))))
  G))) (gtF KS (ts0.map dT4) CS s N x4 (some (.own (.lst (ts.map dT4)) none)) (some (.v (.int c))) (some (.v (.int r))) x8 x9 none none none)=G (gtF KS (ts0.map dT4) CS s N x4 (some (.own (.lst (ts.map dT4++[dT4 (a,b,k,decide (r/7%3=0))])) none)) (some (.v (.int c))) (some (.v (.int r))) (some (.v (.int a))) (some (.v (.int b))) none none none):=by intro G;have e:dT4 (a,b,k,decide (r/7%3=0))=.tup [.int a,.int b,.int k,.bl (decide (r/7%3=0))]:=rfl;rw[e];generalize ts.map dT4=T at *;generalize ts0.map dT4=T0 at *;simp -implicitDefEqProofs [d3,d30,d7,mn,mn1,m3,ha,hb,hK,hlen,lm,gtF]
  rw[cU,hc,Ya,Yi rfl,s2];by_cases hz:r/300%4=0/\0<ts0.length
  ·have lz:(ts0.map dT4).length=ts0.length:=Yb ..;have hz2:(0:Int)<(ts0.length:Int):=by omega
   obtain⟨t0,bP,ez⟩:∃t0 bP,ts0=t0::bP:=by
    cases ts0 with
    |nil=>exact absurd hz.2 (Zb _)
    |cons x y=>exact⟨x,y,rfl⟩
   have ok0:=h0 t0 (by rw[ez];exact Yf);have i0:ixD (.lst (ts0.map dT4)) (.int 0)=some (dT4 t0):=by rw[ez];exact eY (j:=0) rfl
   have i2:ixD (dT4 t0) (.int 2)=some (.int t0.2.2.1):=rfl;have i3:ixD (dT4 t0) (.int 3)=some (.bl t0.2.2.2):=rfl;have hix:ixN (ts.length+1) (-1)=some ts.length:=by exact sZ _
   refine⟨ts++[(a,b,t0.2.2.1,t0.2.2.2)],some (.v (.int r)),some (.v (.int a)),some (.v (.int b)),?_,by simp;omega,?_⟩
   ·have hset:(ts.map dT4++[dT4 (a,b,k,decide (r/7%3=0))]).set ts.length (.tup [.int a,.int b,.int t0.2.2.1,.bl t0.2.2.2])=(ts++[(a,b,t0.2.2.1,t0.2.2.2)]).map dT4:=by rw[Zf,<-lm,List.set_append_right _ _ (Ym _),Nat.sub_self];rfl
    rw[<-hset];have hlm:(ts.map dT4++[dT4 (a,b,k,decide (r/7%3=0))]).length=ts.length+1:=by rw[Yj,lm];rfl
    generalize ts.map dT4++[dT4 (a,b,k,decide (r/7%3=0))]=T at *;generalize ts0.map dT4=T0 at *;generalize dT4 t0=Z at *;simp -implicitDefEqProofs [sA,gtL,gtF,d300,m4,hz.1,lz,hz2,hz.2,qz,i0,i2,i3,l_,hlm,hix]
   ·intro u hu;rcases Zg.mp hu with hu|hu
    ·exact ht u hu
    ·rw[YU.mp hu];exact⟨a0,a1,b0,b1,ab,ok0.2.2.2.2.2⟩
  ·have lz:(ts0.map dT4).length=ts0.length:=Yb ..;refine⟨ts++[(a,b,k,decide (r/7%3=0))],some (.v (.int r)),some (.v (.int a)),some (.v (.int b)),?_,by simp;omega,?_⟩
   ·rw[Zf];show dIf sA gtL dNx (gtF KS (ts0.map dT4) CS s N x4 (some (.own (.lst (ts.map dT4++[dT4 (a,b,k,decide (r/7%3=0))])) none)) (some (.v (.int c))) (some (.v (.int r))) (some (.v (.int a))) (some (.v (.int b))) none none none)=some (.nx (gtF KS (ts0.map dT4) CS s N x4 (some (.own (.lst (ts.map dT4++[dT4 (a,b,k,decide (r/7%3=0))])) none)) (some (.v (.int c))) (some (.v (.int r))) (some (.v (.int a))) (some (.v (.int b))) none none none));generalize ts.map dT4++[dT4 (a,b,k,decide (r/7%3=0))]=T at *;generalize hT0:ts0.map dT4=T0 at *;by_cases hy:r/300%4=0
    ·have:ts0=[]:=ZB.mp (by have:¬0<ts0.length:=fun q=>hz ⟨hy,q⟩;omega);subst this;subst hT0;simp -implicitDefEqProofs [sA,gtF,d300,m4,hy]
    ·simp -implicitDefEqProofs [sA,gtF,d300,m4,hy]
   ·intro u hu;rcases Zg.mp hu with hu|hu
    ·exact ht u hu
    ·rw[YU.mp hu];exact ot
 ·refine⟨ts,some (.v (.int r)),x8,x9,?_,hl,ht⟩;have hc:gtQ (gtF KS (ts0.map dT4) CS s N x4 (some (.own (.lst (ts.map dT4)) none)) (some (.v (.int c))) (some (.v (.int r))) x8 x9 none none none)=some false:=by
   have hq':(ts.length:Int)<12->1<N->¬0<r%3:=fun p1 p2 p3=>hq ⟨by omega,p2,p3⟩
   generalize ts.map dT4=T at *;generalize ts0.map dT4=T0 at *;by_cases p1:(ts.length:Int)<12
   ·by_cases p2:1<N
    ·have:=hq' p1 p2;simp -implicitDefEqProofs [gtQ,gtF,lm,p1,m3,p2,this]
    ·simp -implicitDefEqProofs [gtQ,gtF,lm,p1,p2]
   ·simp -implicitDefEqProofs [gtQ,gtF,lm,p1]
  rw[cU,hc];rfl
theorem odl(q:List D):OD.d (.lst q)=.lst q:=rfl
def bx(b:List Int)(x:Int):Int:=(b[x.toNat]?).getD 0
theorem fu{b:List Int}{x:Int}(h:0<=x/\x<(b.length:Int)):b[x.toNat]?=some (bx b x):=by have hx:b[x.toNat]?=some (b[x.toNat]'(by omega)):=Yg (by omega);unfold bx;rw[hx];rfl
theorem mF{b:List Int}{x:Int}(h:0<=x/\x<(b.length:Int)):ixD (.lst (b.map .int)) (.int x)=some (.int (bx b x)):=by rw[ix1,sN h.1 (by rw[Yb];exact h.2),Yw,fu h];rfl
theorem yR{r:List Int}{x:Int}(h:x∈r):qA (.lst (r.map .int)) (.int x)=some (.int (r.idxOf x:Int)):=by
 have ok:((r.map D.int).all (okN 29)&&okN 30 (.int x))=true:=by have:(r.map D.int).all (okN 29)=true:=wT r;rw[this];rfl
 show(if((r.map D.int).all (okN 29)&&okN 30 (.int x))=true then(jK (.int x) (r.map .int)).map (fun(j:Nat)=>D.int (j:Int))else none)=_;rw[Yi ok,mE x r h];rfl
def jN(out:List Int)(t:T4):T4:=(bx out t.1,bx out t.2.1,t.2.2.1,t.2.2.2)
theorem wn{N:Int}{out:List Int}{ts:List T4}(hn:1<=N)(p:out.Perm (aK N))(h:okS N ts):okS N (ts.map (jN out)):=by obtain⟨hl,hd,hm⟩:=kR hn p;refine⟨by rw[Yb];exact h.1,fun t ht=>?_⟩;obtain⟨u,hu,rfl⟩:=YC.mp ht;obtain⟨a0,a1,b0,b1,ab,k⟩:=h.2 u hu;have e1:=fu (b:=out) (x:=u.1) ⟨a0,by omega⟩;have e2:=fu (b:=out) (x:=u.2.1) ⟨b0,by omega⟩;have m1:=hm _ (Yv e1);have m2:=hm _ (Yv e2);exact⟨m1.1,m1.2,m2.1,m2.2,pO hd e1 e2 (by omega),k⟩
theorem lY(C:Addr)(cs:List Int)(ks:List Str)(ts:List T4)(s n N:Int)(hs:0<=s/\s<998244353)(hn:1<=n)(hN:n<=N/\N<=7)(hk:okK n ks)(ht:okS n ts) :
  ∃(ks2:List Str) (ts2:List T4) (way:List Int),jd C [.v (.tup [.lst (ks.map .str),.lst (ts.map dT4)]),.v (.lst (cs.map .int)),.v (.int s),.v (.int N)]=some (.v (.tup [.lst (ks2.map .str),.lst (ts2.map dT4),.lst (way.map .int)]))/\okK N ks2/\okS N ts2/\(way.length:Int)=n:=by
 have hN1:1<=N/\N<=7:=⟨by omega,hN.2⟩
 obtain⟨out,hsh,p⟩:=pD C (s/5) N hN1;obtain⟨pl,pd,pm⟩:=kR hN1.1 p;have hM:=dD C;have hK:∀c,∃k:Int,eL C [.v (.int c),.v (.int s)]=some (.v (.int k))/\0<=k/\k<1000000000000000000000000000000:=fun c=>iA C c s hs
 unfold jd g_q16;generalize b6 C=M at hM ⊢;generalize eL C=Kd at hK ⊢;generalize jF C=Sh at hsh ⊢;have hkl:=hk.1;obtain⟨kk,e1,kl,ko⟩:=uL M s N ks (ts.map dT4) (cs.map .int) (some (.own (.lst (ts.map dT4)) none)) (hM s) hk.2 (by omega) hN.2 100 ks hk.2 (by omega) (by omega);obtain⟨z,e2,us,y6,y7,y8,y9,rfl,ul,uk⟩:=dc (st:=setV 6) (body:=gtB M Kd) (fun ρ=>∃(us:List T4) (x6 x7 x8 x9:Option DV),ρ=gtF (ks.map .str) (ts.map dT4) (cs.map .int) s N (some (.own (.lst (kk.map .str)) none)) (some (.own (.lst (us.map dT4)) none)) x6 x7 x8 x9 none none none/\us.length<=12/\∀t∈us,okT N t) (ds:=cs.map .int)
  (ρ:=gtF (ks.map .str) (ts.map dT4) (cs.map .int) s N (some (.own (.lst (kk.map .str)) none)) (some (.own (.lst (ts.map dT4)) none)) none none none none none none none) ⟨ts,_,_,_,_,rfl,ht.1,fun t h=>by obtain⟨a,b,c,d,e⟩:=ht.2 t h;exact⟨a,by omega,c,by omega,e⟩⟩ (by
   rintro d hd _ ⟨us,x6,x7,x8,x9,rfl,hl,hk'⟩;obtain⟨c,_,rfl⟩:=YC.mp hd;obtain⟨r,hr,r0,_⟩:=hM c 9 (by decide);obtain⟨k,hk2,k0⟩:=hK c;obtain⟨us',y7,y8,y9,e,h1,h2⟩:=vH M Kd (ks.map .str) (cs.map .int) ts s N c r k n us (some (.own (.lst (kk.map .str)) none)) x7 x8 x9 hN1 hl hk' ht.2 r0 hr hk2 k0;exact⟨_,rfl,_,e,us',_,y7,y8,y9,rfl,h1,h2⟩)
 have lkk:(kk.map D.str).length=kk.length:=Yb ..;have hg:=gI (st:=setV 0) (c:=bC) (e:=d2 ixD (ac 1) (d2 qA (am 2) (am 0))) (ρ:=[none,some (.bor (.lst (kk.map .str))),some (.v (.lst (out.map .int)))]) D.str okW ((aK N).map .int) (by
  intro d hd;obtain⟨i,hi,rfl⟩:=YC.mp hd;have e:=yR (p.mem_iff.mpr hi);have hlt:out.idxOf i<out.length:=List.idxOf_lt_length_of_mem (p.mem_iff.mpr hi);obtain⟨x,hx,ex⟩:=dY (l:=kk) D.str (i:=(out.idxOf i:Int)) (YI _) (by omega);refine⟨[some (.v (.int i)),some (.bor (.lst (kk.map .str))),some (.v (.lst (out.map .int)))],rfl,rfl,x,?_,ko x (Yv hx)⟩;have hf:∀q,OD.flat (.lst q)=true:=fun _=>rfl
  generalize (out.idxOf i:Int)=j at *;generalize kk.map D.str=A at *;generalize out.map D.int=B at *;simp -implicitDefEqProofs [e,ix1,ex,odl,hf])
 obtain⟨ks2,c2,l2,o2⟩:=hg;have c1:c8 (cS [0,1,2,3]) bC (asT (ag (d2 ixD (ac 4) (ac 0)) (ag (d2 ixD (ac 4) (ac 1)) (ag (getV 2) (ag (getV 3) aD))))) [none,none,none,none,some (.v (.lst (out.map .int)))] (us.map dT4)=some ((us.map (jN out)).map dT4):=by
  rw[ZM];refine di dT4 _ us fun t ht'=>⟨[some (.v (.int t.1)),some (.v (.int t.2.1)),some (.v (.int t.2.2.1)),some (.v (.bl t.2.2.2)),some (.v (.lst (out.map .int)))],rfl,rfl,?_⟩
  obtain⟨a0,a1,b0,b1,_⟩:=uk t ht';have e1:=mF (b:=out) (x:=t.1) ⟨a0,by omega⟩;have e2:=mF (b:=out) (x:=t.2.1) ⟨b0,by omega⟩;show _=some (D.tup [.int (bx out t.1),.int (bx out t.2.1),.int t.2.2.1,.bl t.2.2.2]);generalize out.map D.int=B at *;simp -implicitDefEqProofs [e1,e2]
 have hok:=wn hN1.1 p ⟨ul,uk⟩;refine⟨ks2,us.map (jN out),out.take ks.length,?_,⟨by rw[l2,Yb,bc];omega,o2⟩,hok,by rw[YR];omega⟩;rw[tH,show aQ 13 4 [.v (.tup [.lst (ks.map .str),.lst (ts.map dT4)]),.v (.lst (cs.map .int)),.v (.int s),.v (.int N)]=gtF (ks.map .str) (ts.map dT4) (cs.map .int) s N none none none none none none none none none from rfl];have s4:bt 4 (asL (eK (dJ 0 0))) (gtF (ks.map .str) (ts.map dT4) (cs.map .int) s N none none none none none none none none none)=some (.nx (gtF (ks.map .str) (ts.map dT4) (cs.map .int) s N (some (.own (.lst (ks.map .str)) none)) none none none none none none none none)):=rfl;have s5:bt 5 (asL (eK (dJ 0 1))) (gtF (ks.map .str) (ts.map dT4) (cs.map .int) s N (some (.own (.lst (ks.map .str)) none)) none none none none none none none none)=some (.nx (gtF (ks.map .str) (ts.map dT4) (cs.map .int) s N (some (.own (.lst (ks.map .str)) none)) (some (.own (.lst (ts.map dT4)) none)) none none none none none none none)):=rfl;rw[ao s4,ao s5,ao e1,ao (bw (ds:=cs.map .int) rfl e2)];have d5:=bq s 5 (by decide);have hlen:((kk.map D.str).length:Int)=N:=by rw[lkk];exact kl
 have s10:aw 10 (aj Sh (aV (d2 aZ (ac 2) (fun _=>some (.int 5))) (aV (d1 aM (am 4)) (fun _=>some [])))) (gtF (ks.map .str) (ts.map dT4) (cs.map .int) s N (some (.own (.lst (kk.map .str)) none)) (some (.own (.lst (us.map dT4)) none)) y6 y7 y8 y9 none none none)=some (.nx (gtF (ks.map .str) (ts.map dT4) (cs.map .int) s N (some (.own (.lst (kk.map .str)) none)) (some (.own (.lst (us.map dT4)) none)) y6 y7 y8 y9 (some (.v (.lst (out.map .int)))) none none)):=by generalize kk.map D.str=A at *;generalize us.map dT4=U at *;generalize out.map D.int=B at *;simp -implicitDefEqProofs [gtF,d5,hlen,hsh,odl]
 have lu:(us.map dT4).length<=16777216:=by rw[Yb];omega
 have lr:((aK N).map D.int).length<=16777216:=by rw[Yb,bc];omega
 have s11:jV 5 (aw 11 (asO (asL (aS 4 [10] (eP (getV 5)) (cS [0,1,2,3]) bC (asT (ag (d2 ixD (ac 4) (ac 0)) (ag (d2 ixD (ac 4) (ac 1)) (ag (getV 2) (ag (getV 3) aD))))))))) (gtF (ks.map .str) (ts.map dT4) (cs.map .int) s N (some (.own (.lst (kk.map .str)) none)) (some (.own (.lst (us.map dT4)) none)) y6 y7 y8 y9 (some (.v (.lst (out.map .int)))) none none)=some (.nx (gtF (ks.map .str) (ts.map dT4) (cs.map .int) s N (some (.own (.lst (kk.map .str)) none)) (some (.v (.lst (us.map dT4)))) y6 y7 y8 y9 (some (.v (.lst (out.map .int)))) (some (.v (.lst ((us.map (jN out)).map dT4)))) none)):=by
  generalize (us.map (jN out)).map dT4=V at *;generalize (asT (ag (d2 ixD (ac 4) (ac 0)) (ag (d2 ixD (ac 4) (ac 1)) (ag (getV 2) (ag (getV 3) aD)))))=E at *;generalize us.map dT4=U at *;generalize out.map D.int=B at *;generalize kk.map D.str=A at *;show aw 11 (asO (asL (aS 4 [10] (eP (getV 5)) (cS [0,1,2,3]) bC E))) (gtF (ks.map .str) (ts.map dT4) (cs.map .int) s N (some (.own (.lst A) none)) (some (.v (.lst U))) y6 y7 y8 y9 (some (.v (.lst B))) none none)=_;have hcc:aS 4 [10] (eP (getV 5)) (cS [0,1,2,3]) bC E (gtF (ks.map .str) (ts.map dT4) (cs.map .int) s N (some (.own (.lst A) none)) (some (.v (.lst U))) y6 y7 y8 y9 (some (.v (.lst B))) none none)=some V:=by rw[cf,show eP (getV 5) (gtF (ks.map .str) (ts.map dT4) (cs.map .int) s N (some (.own (.lst A) none)) (some (.v (.lst U))) y6 y7 y8 y9 (some (.v (.lst B))) none none)=some U from rfl,Ya,Yi lu];exact c1
  rw[fP,gF,tM,hcc];rfl
 have s12:aw 12 (asO (asL (aS 1 [4,10] (bK (d1 aM (am 4))) (setV 0) bC (d2 ixD (ac 1) (d2 qA (am 2) (am 0)))))) (gtF (ks.map .str) (ts.map dT4) (cs.map .int) s N (some (.own (.lst (kk.map .str)) none)) (some (.v (.lst (us.map dT4)))) y6 y7 y8 y9 (some (.v (.lst (out.map .int)))) (some (.v (.lst ((us.map (jN out)).map dT4)))) none)=some (.nx (gtF (ks.map .str) (ts.map dT4) (cs.map .int) s N (some (.own (.lst (kk.map .str)) none)) (some (.v (.lst (us.map dT4)))) y6 y7 y8 y9 (some (.v (.lst (out.map .int)))) (some (.v (.lst ((us.map (jN out)).map dT4)))) (some (.v (.lst (ks2.map .str)))))):=by
  generalize (us.map (jN out)).map dT4=V at *;generalize (d2 ixD (ac 1) (d2 qA (am 2) (am 0)))=E at *;generalize us.map dT4=U at *;generalize out.map D.int=B at *;generalize kk.map D.str=A at *;have hr:bK (d1 aM (am 4)) (gtF (ks.map .str) (ts.map dT4) (cs.map .int) s N (some (.own (.lst A) none)) (some (.v (.lst U))) y6 y7 y8 y9 (some (.v (.lst B))) (some (.v (.lst V))) none)=some ((aK N).map .int):=c_ (by
   show some (D.int ((A.length:Nat):Int))=_;rw[hlen]) ⟨by omega,by omega⟩
  have hcc:aS 1 [4,10] (bK (d1 aM (am 4))) (setV 0) bC E (gtF (ks.map .str) (ts.map dT4) (cs.map .int) s N (some (.own (.lst A) none)) (some (.v (.lst U))) y6 y7 y8 y9 (some (.v (.lst B))) (some (.v (.lst V))) none)=some (ks2.map .str):=by rw[cf,hr,Ya,Yi lr];exact c2
  rw[fP,gF,tM,hcc];rfl
 rw[ao s10,ao s11,ao s12];have hcut:bG (out.map D.int) none (some (ks.length:Int))=(out.take ks.length).map .int:=by rw[cz,k8 _ (YI _),YO]
 have lks:((ks.map D.str).length:Int)=(ks.length:Int):=by rw[Yb]
 have hsl:asO (asL (slL (ac 10) bNo (bI (d1 aM (dJ 0 0))))) (gtF (ks.map .str) (ts.map dT4) (cs.map .int) s N (some (.own (.lst (kk.map .str)) none)) (some (.v (.lst (us.map dT4)))) y6 y7 y8 y9 (some (.v (.lst (out.map .int)))) (some (.v (.lst ((us.map (jN out)).map dT4)))) (some (.v (.lst (ks2.map .str)))))=some (.lst ((out.take ks.length).map .int)):=by rw[<-hcut,<-lks];rfl
 generalize asO (asL (slL (ac 10) bNo (bI (d1 aM (dJ 0 0)))))=SL at *;generalize (us.map (jN out)).map dT4=V at *;generalize us.map dT4=U at *;generalize (out.take ks.length).map D.int=W at *;generalize out.map D.int=B at *;generalize kk.map D.str=A at *;generalize ks2.map D.str=K2 at *;simp -implicitDefEqProofs [gtF,hsl]
theorem Bn(a q:Int×Int):eqd (dP a) (dP q)=decide (a=q):=by
 rw[Xc,cB (dP a) (dP q) rfl,YJ];constructor
 ·intro h;exact Zi unP h
 ·rintro rfl;rfl
theorem pq(us:List (Int×Int))(q:Int×Int):ik (.tup (us.map dP)) (dP q)=some (.int ((us.count q:Nat):Int)):=by
 have ok:((us.map dP).all (okN 29)&&okN 30 (dP q))=true:=by
  have:(us.map dP).all (okN 29)=true:=by rw[Yx];intro y hy;obtain⟨z,_,rfl⟩:=YC.mp hy;rfl
  rw[this];rfl
 show(if((us.map dP).all (okN 29)&&okN 30 (dP q))=true then some (D.int ((us.map dP).countP (fun d=>eqd d (dP q))))else none)=_;rw[Yi ok,List.countP_map];have e:(fun d=>eqd d (dP q)) ∘ dP=fun a=>a == q:=funext fun a=>by
  show eqd (dP a) (dP q)=(a == q)
  rw[Bn];by_cases h:a=q
  ·subst h;simp
  ·rw[YB h,ZD.mpr h]
 rw[e];rfl
theorem mY{α:Type}(f:α->Bool)(l:List α):nX (.lst (l.map fun x=>.bl (f x)))=some (.bl (l.all f)):=by
 have h1:(l.map fun x=>D.bl (f x)).all l6=true:=by rw[Yx];intro y hy;obtain⟨z,_,rfl⟩:=YC.mp hy;rfl
 show(if(l.map fun x=>D.bl (f x)).all l6=true then some (D.bl ((l.map fun x=>D.bl (f x)).all trD))else none)=_;rw[Yi h1,List.all_map];rfl
def bv(ps qs:List (Int×Int)):Bool:=ps.all fun q=>decide (ps.count q<=qs.count q)
theorem df{ps qs:List (Int×Int)}:bv ps qs=true↔∀q∈ps,ps.count q<=qs.count q:=by unfold bv;rw[Yx];exact⟨fun h q hq=>Zj (h q hq),fun h q hq=>YL (h q hq)⟩
theorem gU{ps qs us vs:List (Int×Int)}(h1:us.Perm ps)(h2:vs.Perm qs):bv us vs=bv ps qs:=by rw[Xc,df,df];exact⟨fun h q hq=>by rw[<-h1.count_eq,<-h2.count_eq];exact h q (h1.mem_iff.mpr hq),fun h q hq=>by rw[h1.count_eq,h2.count_eq];exact h q (h1.mem_iff.mp hq)⟩
theorem qH(C:Addr)(us vs:List (Int×Int))(hl:us.length<=100):kG C [.v (.tup (us.map dP)),.v (.tup (vs.map dP))]=some (.v (.bl (bv us vs))):=by
 have hcap:eC 1 [1,0] [some (.v (.tup (us.map dP))),some (.v (.tup (vs.map dP)))]=[none,some (.v (.tup (vs.map dP))),some (.v (.tup (us.map dP)))]:=rfl;have c1:c8 (setV 0) bC (d2 geI (d2 ik (am 1) (am 0)) (d2 ik (am 2) (am 0))) [none,some (.v (.tup (vs.map dP))),some (.v (.tup (us.map dP)))] (us.map dP)=some (us.map fun q=>.bl (decide (us.count q<=vs.count q))):=by
  refine di dP _ us fun q _=>⟨[some (.v (dP q)),some (.v (.tup (vs.map dP))),some (.v (.tup (us.map dP)))],rfl,rfl,?_⟩
  have e1:=pq vs q;have e2:=pq us q;have g:geI (.int ((vs.count q:Nat):Int)) (.int ((us.count q:Nat):Int))=some (.bl (decide (us.count q<=vs.count q))):=by show some (D.bl (decide (((us.count q:Nat):Int)<=((vs.count q:Nat):Int))))=_;simp
  generalize dP q=Q at *;generalize us.map dP=U at *;generalize vs.map dP=V at *;generalize ((us.count q:Nat):Int)=a at *;generalize ((vs.count q:Nat):Int)=b at *;generalize decide (us.count q<=vs.count q)=w at *;simp -implicitDefEqProofs [e1,e2,g]
 have l1:(us.map dP).length<=16777216:=by rw[Yb];omega
 have ha:=mY (fun q=>decide (us.count q<=vs.count q)) us;unfold kG g_q33;generalize (d2 geI (d2 ik (am 1) (am 0)) (d2 ik (am 2) (am 0)))=E at *;have hcc:aS 1 [1,0] (gp (getV 0)) (setV 0) bC E [some (.v (.tup (us.map dP))),some (.v (.tup (vs.map dP)))]=some (us.map fun q=>.bl (decide (us.count q<=vs.count q))):=by rw[cf,show gp (getV 0) [some (.v (.tup (us.map dP))),some (.v (.tup (vs.map dP)))]=some (us.map dP)from rfl,Ya,Yi l1,hcap,c1]
 unfold bv;rw[hU];show dl (bb _ [some (.v (.tup (us.map dP))),some (.v (.tup (vs.map dP)))])=_;generalize (us.all fun q=>decide (us.count q<=vs.count q))=w at *;generalize (us.map fun q=>D.bl (decide (us.count q<=vs.count q)))=L at *;simp -implicitDefEqProofs [hcc,odl,ha]
theorem qM(C:Addr)(ps qs:List (Int×Int))(hl:ps.length<=100):kG C [.v (srP ps),.v (srP qs)]=some (.v (.bl (bv ps qs))):=by obtain⟨us,e1,p1⟩:=bY dP unP (fun _=>rfl) (bF (ps.map dP));obtain⟨vs,e2,p2⟩:=bY dP unP (fun _=>rfl) (bF (qs.map dP));have f1:srP ps=.tup (us.map dP):=Zi D.tup e1;have f2:srP qs=.tup (vs.map dP):=Zi D.tup e2;rw[f1,f2,qH C us vs (by rw[p1.length_eq];exact hl),gU p1 p2]
theorem nM(C:Addr)(i:Nat)(ks:List Str)(T J:D)(n:Int)(hk:(ks.length:Int)=n)(ρ:DF)(h:ρ[i]?=some (some (.v (.ins C (wFs ks T J))))):bT C "size" (mQ C) (b7 (cF i) g0) ρ=some (.int n):=by
 have hS:mQ C [.v (.ins C (wFs ks T J))]=some (.v (.int n)):=by have:=gJ C ks T J;generalize wFs ks T J=F at this;simp[mQ,AE,this,hk]
 have hm:b7 (cF i) g0 ρ=some [.v (.ins C (wFs ks T J))]:=by unfold b7 cF g0;rw[h];rfl
 unfold bT;rw[hm,Ya,Yi (p6 (vU ks T J) _),hS];rfl
theorem wV(C:Addr)(i:Nat)(ks:List Str)(T:D)(kvs:List (List Key×D))(ts:List T4)(hJ:JOk kvs ts)(ρ:DF)(h:ρ[i]?=some (some (.v (.ins C (wFs ks T (.dT kvs))))))(f g:Dd)(a b:Int)(hf:f ρ=some (.int a))(hg:g ρ=some (.int b)):bT C "between" (oB C) (b7 (cF i) (aV f (aV g (fun _=>some [])))) ρ=some (srP (aP a b ts)):=by
 have hm:b7 (cF i) (aV f (aV g (fun _=>some []))) ρ=some [.v (.ins C (wFs ks T (.dT kvs))),.v (.int a),.v (.int b)]:=by unfold b7 cF aV;rw[h,hf,hg];rfl
 unfold bT;rw[hm,Ya,Yi (p6 (oh ks T (.dT kvs)) _),oF C ks T kvs ts a b hJ];rfl
theorem pp{n x:Int}{ks:List Str}(hk:(ks.length:Int)=n)(h:0<=x/\x<n):ixD (.lst (ks.map .str)) (.int x)=some (.str (kAt ks x)):=by obtain⟨s,hs,e⟩:=dY (l:=ks) D.str h.1 (by omega);rw[ix1,e];unfold kAt;rw[hs];rfl
theorem qw{n x:Int}{ks:List Str}(hk:okK n ks)(h:0<=x/\x<n):okW (kAt ks x):=by have e:=hk.1;have hx:ks[x.toNat]?=some (ks[x.toNat]'(by omega)):=Yg (by omega);unfold kAt;rw[hx];exact hk.2 _ (Yv hx)
theorem qg{x:Str}(h:okW x):okN 30 (.str x)=true:=by have:=Bs (n:=1) (ks:=[x]) ⟨rfl,fun k hk=>by rw[YU.mp hk];exact h⟩;exact(show(okN 29 (.str x)&&true)=true from this) |> fun z=>by rw[Bool.and_true]at z;exact z
def kEq(a b:Str):Bool:=eqd (.str a) (.str b)
theorem qf{a b:Str}:kEq a b=true↔a=b:=by unfold kEq;rw[cB _ _ rfl];exact⟨fun h=>D.str.inj h,fun h=>by rw[h]⟩
theorem A7(x:Int)(w:List Int):inD (.int x) (.lst (w.map .int))=some (.bl (w.any fun z=>decide (z=x))):=by
 have h:(okN 30 (.int x)&&(w.map D.int).all (okN 29))=true:=by have:(w.map D.int).all (okN 29)=true:=wT w;rw[this];rfl
 show(if(okN 30 (.int x)&&(w.map D.int).all (okN 29))=true then some (D.bl ((w.map D.int).any fun z=>eqd z (.int x)))else none)=_;rw[Yi h,List.any_map];have e:(fun z=>eqd z (D.int x)) ∘ D.int=fun z=>decide (z=x):=funext fun z=>fL z x
 rw[e]
def dt(ks1 ks2:List Str)(ts1 ts2:List T4)(w0:List Int)(x:Int):Bool:=!(w0.any fun z=>decide (z=x))&&(kEq (kAt ks2 x) (kAt ks1 (w0.length:Int))&&(aK (w0.length:Int)).all fun k=>bv (aP k (w0.length:Int) ts1) (aP (bx w0 k) x ts2))
abbrev lfF(W1 W2:D)(w:List D)(x3 x4:Option DV):DF:=[some (.v W1),some (.v W2),some (.v (.lst w)),x3,x4]
abbrev lfE(C:Addr)(St Bt:Dm):DF->Option D:=(aj St (aV (bT C "between" Bt (b7 (cF 1) (aV (getV 0) (aV (getV 2) (fun _=>some []))))) (aV (bT C "between" Bt (b7 (cF 3) (aV (d2 ixD (ac 4) (ac 0)) (aV (getV 5) (fun _=>some []))))) (fun _=>some []))))
theorem vN(C:Addr)(ks1 ks2:List Str)(ts1 ts2:List T4)(T1 T2:D)(kv1 kv2:List (List Key×D))(n1 n2:Int)(w0:List Int)(x:Int)(hk1:okK n1 ks1)(hk2:okK n2 ks2)(hs1:ts1.length<=12)(J1:JOk kv1 ts1)(J2:JOk kv2 ts2)(hw:(w0.length:Int)<n1)(h7:w0.length<=7)(hx:0<=x/\x<n2) :
  mI C [.v (.ins C (wFs ks1 T1 (.dT kv1))),.v (.ins C (wFs ks2 T2 (.dT kv2))),.v (.lst ((w0++[x]).map .int))]=some (.v (.bl (dt ks1 ks2 ts1 ts2 w0 x))):=by
 have hSt:=qM C;have hB1:=fun ρ h f g a b=>wV C 1 ks1 T1 kv1 ts1 J1 ρ h f g a b
 have hB2:=fun ρ h f g a b=>wV C 3 ks2 T2 kv2 ts2 J2 ρ h f g a b
 have f1:=gJ C ks1 T1 (.dT kv1);have f2:=gJ C ks2 T2 (.dT kv2);unfold mI g_q10;generalize kG C=St at hSt ⊢;generalize oB C=Bt at hB1 hB2 ⊢;generalize wFs ks1 T1 (.dT kv1)=F1 at *;generalize wFs ks2 T2 (.dT kv2)=F2 at *;have hlen:(((w0++[x]).map D.int).length:Int)=(w0.length:Int)+1:=by rw[Yb,Yj];rfl
 have hat:ixD (.lst ((w0++[x]).map .int)) (.int (w0.length:Int))=some (.int x):=by rw[ix1];exact eY (by rw[Yw,YW (Ym _),Nat.sub_self];rfl)
 have hcut:bG ((w0++[x]).map D.int) none (some (w0.length:Int))=w0.map .int:=by rw[cz,k8 _ (YI _),YO,List.take_left]
 have hin:=A7 x w0;have k1:=pp hk1.1 (x:=(w0.length:Int)) ⟨YI _,hw⟩;have k2:=pp hk2.1 hx;have hne:=nO (qg (qw hk2 hx)) (qg (qw hk1 (x:=(w0.length:Int)) ⟨YI _,hw⟩));have c1:c8 (setV 0) bC (lfE C St Bt) [none,some (.v (.ins C F1)),some (.v (.int (w0.length:Int))),some (.v (.ins C F2)),some (.v (.lst ((w0++[x]).map .int))),some (.v (.int x))] ((aK (w0.length:Int)).map .int)=some ((aK (w0.length:Int)).map fun k=>.bl (bv (aP k (w0.length:Int) ts1) (aP (bx w0 k) x ts2))):=by
  refine di D.int _ (aK (w0.length:Int)) fun k hk=>⟨[some (.v (.int k)),some (.v (.ins C F1)),some (.v (.int (w0.length:Int))),some (.v (.ins C F2)),some (.v (.lst ((w0++[x]).map .int))),some (.v (.int x))],rfl,rfl,?_⟩
  obtain⟨k0,k1'⟩:=ce.mp hk;have e1:=hB1 [some (.v (.int k)),some (.v (.ins C F1)),some (.v (.int (w0.length:Int))),some (.v (.ins C F2)),some (.v (.lst ((w0++[x]).map .int))),some (.v (.int x))] rfl (getV 0) (getV 2) k (w0.length:Int) rfl rfl;have hix:ixD (.lst ((w0++[x]).map .int)) (.int k)=some (.int (bx w0 k)):=by
   obtain⟨j,rfl⟩:=Zk k0;have hj:j<w0.length:=by omega
   rw[ix1];refine eY ?_;rw[Yw,Zm hj];unfold bx;rw[YO,Yg hj];rfl
  have e2:=hB2 [some (.v (.int k)),some (.v (.ins C F1)),some (.v (.int (w0.length:Int))),some (.v (.ins C F2)),some (.v (.lst ((w0++[x]).map .int))),some (.v (.int x))] rfl (d2 ixD (ac 4) (ac 0)) (getV 5) (bx w0 k) x hix rfl;have e3:=hSt (aP k (w0.length:Int) ts1) (aP (bx w0 k) x ts2) (by have:=eD k (w0.length:Int) ts1;omega);show aj St _ _=_;generalize bT C "between" Bt (b7 (cF 1) (aV (getV 0) (aV (getV 2) (fun _=>some []))))=B1 at *;generalize bT C "between" Bt (b7 (cF 3) (aV (d2 ixD (ac 4) (ac 0)) (aV (getV 5) (fun _=>some []))))=B2 at *;generalize srP (aP k (w0.length:Int) ts1)=V1 at *;generalize srP (aP (bx w0 k) x ts2)=V2 at *;generalize bv (aP k (w0.length:Int) ts1) (aP (bx w0 k) x ts2)=w at *;generalize (w0++[x]).map D.int=W at *;generalize (w0.length:Int)=m at *;clear hB1 hB2 hSt;simp -implicitDefEqProofs [e1,e2,e3]
 have ha:=mY (fun k=>bv (aP k (w0.length:Int) ts1) (aP (bx w0 k) x ts2)) (aK (w0.length:Int));have ll:((aK (w0.length:Int)).map D.int).length<=16777216:=by rw[Yb,bc];omega
 rw[w6,show aQ 5 3 [.v (.ins C F1),.v (.ins C F2),.v (.lst ((w0++[x]).map .int))]=lfF (.ins C F1) (.ins C F2) ((w0++[x]).map .int) none none from rfl];have s3:aw 3 (d2 dC (d1 aM (am 2)) (fun _=>some (.int 1))) (lfF (.ins C F1) (.ins C F2) ((w0++[x]).map .int) none none)=some (.nx (lfF (.ins C F1) (.ins C F2) ((w0++[x]).map .int) (some (.v (.int (w0.length:Int)))) none)):=by generalize (w0++[x]).map D.int=W at *;generalize (w0.length:Int)=m at *;clear hB1 hB2 hSt c1;simp -implicitDefEqProofs [lfF,hlen]
 have s4:aw 4 (d2 ixD (ac 2) (ac 3)) (lfF (.ins C F1) (.ins C F2) ((w0++[x]).map .int) (some (.v (.int (w0.length:Int)))) none)=some (.nx (lfF (.ins C F1) (.ins C F2) ((w0++[x]).map .int) (some (.v (.int (w0.length:Int)))) (some (.v (.int x))))):=by generalize (w0++[x]).map D.int=W at *;generalize (w0.length:Int)=m at *;clear hB1 hB2 hSt c1;simp -implicitDefEqProofs [lfF,hat]
 rw[ao s3,ao s4];have hsl:asO (asL (slL (ac 2) bNo (bI (getV 3)))) (lfF (.ins C F1) (.ins C F2) ((w0++[x]).map .int) (some (.v (.int (w0.length:Int)))) (some (.v (.int x))))=some (.lst (w0.map .int)):=by rw[<-hcut];rfl
 have hr:bK (ac 3) (lfF (.ins C F1) (.ins C F2) ((w0++[x]).map .int) (some (.v (.int (w0.length:Int)))) (some (.v (.int x))))=some ((aK (w0.length:Int)).map .int):=c_ rfl ⟨by omega,by omega⟩;have hcc:aS 1 [0,3,1,2,4] (bK (ac 3)) (setV 0) bC (lfE C St Bt) (lfF (.ins C F1) (.ins C F2) ((w0++[x]).map .int) (some (.v (.int (w0.length:Int)))) (some (.v (.int x))))=some ((aK (w0.length:Int)).map fun k=>.bl (bv (aP k (w0.length:Int) ts1) (aP (bx w0 k) x ts2))):=by rw[cf,hr,Ya,Yi ll];exact c1
 show dl (al (dIf (orT (asB (d2 inD (am 4) (asO (asL (slL (ac 2) bNo (bI (getV 3))))))) (asB (d2 neD (d2 ixD (d1 (iu C "kinds") (ac 1)) (ac 4)) (d2 ixD (d1 (iu C "kinds") (ac 0)) (ac 3))))) (bb (fun _=>some (.bl false))) dNx)
  (bb (d1 nX (asO (asL (aS 1 [0,3,1,2,4] (bK (ac 3)) (setV 0) bC (lfE C St Bt)))))) (lfF (.ins C F1) (.ins C F2) ((w0++[x]).map .int) (some (.v (.int (w0.length:Int)))) (some (.v (.int x)))))=_
 unfold dt;have hkE:eqd (.str (kAt ks2 x)) (.str (kAt ks1 (w0.length:Int)))=kEq (kAt ks2 x) (kAt ks1 (w0.length:Int)):=rfl;rw[hkE]at hne;generalize kEq (kAt ks2 x) (kAt ks1 (w0.length:Int))=w2 at *;generalize (w0.any fun z=>decide (z=x))=w1 at *;generalize ((aK (w0.length:Int)).all fun k=>bv (aP k (w0.length:Int) ts1) (aP (bx w0 k) x ts2))=w3 at *;generalize ((aK (w0.length:Int)).map fun k=>D.bl (bv (aP k (w0.length:Int) ts1) (aP (bx w0 k) x ts2)))=L at *;generalize aS 1 [0,3,1,2,4] (bK (ac 3)) (setV 0) bC (lfE C St Bt)=CC at *;generalize asO (asL (slL (ac 2) bNo (bI (getV 3))))=SL at *;generalize kAt ks1 (w0.length:Int)=V1 at *;generalize kAt ks2 x=V2 at *;generalize (w0++[x]).map D.int=W at *;generalize w0.map D.int=W0 at *;generalize (w0.length:Int)=m at *;generalize ks1.map D.str=K1 at *;generalize ks2.map D.str=K2 at *;clear hB1 hB2 hSt c1 hr s3 s4 hlen hat hcut hkE;cases w1<;>cases w2<;>simp -implicitDefEqProofs [lfF,hsl,hin,f1,f2,k1,k2,hne,hcc,odl,ha]
def zK(ks1 ks2:List Str)(ts1 ts2:List T4)(r:List Int)(n1 n2:Int):Bool:=decide ((r.length:Int)=n1)&&((r.all fun p=>decide (0<=p/\p<n2))&&(aK n1).all fun m=>dt ks1 ks2 ts1 ts2 (r.take m.toNat) (bx r m))
theorem q_{st:Dq}{body:Dw}{d:D}{ds:List D}{ρ ρ1 ρ2:DF}{v:DV}(h1:st d ρ=some ρ1)(h2:body ρ1=some (.rt v ρ2)):cE st body (d::ds) ρ=some (.rt v ρ2):=by
 conv=>lhs;unfold cE
 rw[h1];simp only[h2]
theorem gi{st:Dq}{body:Dw}(I:DF->Prop)(v:DV)(q:Nat->Bool):∀(ds:List D) (k:Nat) (ρ:DF),I ρ->(∀j d ρ,ds[j]?=some d->I ρ->∃ρ1,st d ρ=some ρ1/\(q (k+j)=true->∃ρ',body ρ1=some (.nx ρ')/\I ρ')/\(q (k+j)=false->∃ρ',body ρ1=some (.rt v ρ')))->
  ((∀j,j<ds.length->q (k+j)=true)->∃ρ',cE st body ds ρ=some (.nx ρ')/\I ρ')/\((∃j,j<ds.length/\q (k+j)=false)->∃ρ',cE st body ds ρ=some (.rt v ρ'))
 |[],k,ρ,h,_=>⟨fun _=>⟨ρ,rfl,h⟩,fun⟨_,hj,_⟩=>absurd hj (Nat.not_lt_zero _)⟩
 |d::ds,k,ρ,h,hs=>by
  obtain⟨ρ1,e1,ht,hf⟩:=hs 0 d ρ rfl h;rw[XV]at ht hf;cases q0:q k with
  |false=>
   obtain⟨ρ2,e2⟩:=hf q0;refine⟨fun z=>?_,fun _=>⟨ρ2,q_ e1 e2⟩⟩;have:=z 0 (Nat.zero_lt_succ _);rw[XV,q0]at this;cases this
  |true=>
   obtain⟨ρ2,e2,h2⟩:=ht q0;obtain⟨a,b⟩:=gi I v q ds (k+1) ρ2 h2 fun j d' ρ' hj hI=>by
    have:=hs (j+1) d' ρ' hj hI
    rwa [show k+(j+1)=k+1+j by omega]at this
   rw[qN e1 e2];refine⟨fun z=>a fun j hj=>?_,fun⟨j,hj,z⟩=>b ?_⟩
   ·have:=z (j+1) (Nat.succ_lt_succ hj)
    rwa [show k+(j+1)=k+1+j by omega]at this
   ·cases j with
    |zero=>rw[XV,q0]at z;cases z
    |succ j=>exact⟨j,Nat.lt_of_succ_lt_succ hj,by rwa [show k+1+j=k+(j+1)by omega]⟩
theorem cq{n:Nat}{q:Nat->Bool}:((List.range n).all q=true↔∀j,j<n->q j=true)/\((List.range n).all q=false↔∃j,j<n/\q j=false):=by
 constructor
 ·rw[Yx];exact⟨fun h j hj=>h j (Zl.mpr hj),fun h j hj=>h j (Zl.mp hj)⟩
 ·rw[List.all_eq_false];exact⟨fun⟨j,hj,h⟩=>⟨j,Zl.mp hj,by simpa using h⟩,fun⟨j,hj,h⟩=>⟨j,Zl.mpr hj,by rw[h];decide⟩⟩
abbrev liF(S G:D)(T R:List D)(x4 x5 x6 x7 x8:Option DV):DF:=[some (.v S),some (.v G),some (.v (.lst T)),some (.v (.lst R)),x4,x5,x6,x7,x8]
abbrev liP:DF->Option RES:=(dIf (asB (d2 ltd (d2 ik (am 7) (am 8)) (d2 ik (am 6) (am 8)))) (bb (fun _=>some (.bl false))) dNx)
theorem sI{S G:D}{T R:List D}{x4 x5 x8:Option DV}(us vs:List (Int×Int)) :
  (bv us vs=true->∃y8,cE (setV 8) liP (us.map dP) (liF S G T R x4 x5 (some (.v (.tup (us.map dP)))) (some (.v (.tup (vs.map dP)))) x8)=some (.nx (liF S G T R x4 x5 (some (.v (.tup (us.map dP)))) (some (.v (.tup (vs.map dP)))) y8))) /\
  (bv us vs=false->∃z,cE (setV 8) liP (us.map dP) (liF S G T R x4 x5 (some (.v (.tup (us.map dP)))) (some (.v (.tup (vs.map dP)))) x8)=some (.rt (.v (.bl false)) z)):=by
 obtain⟨a,b⟩:=gi (st:=setV 8) (body:=liP) (fun ρ=>∃y8,ρ=liF S G T R x4 x5 (some (.v (.tup (us.map dP)))) (some (.v (.tup (vs.map dP)))) y8) (.v (.bl false)) (fun j=>decide (us.count (us.getD j (0,0))<=vs.count (us.getD j (0,0)))) (us.map dP) 0 (liF S G T R x4 x5 (some (.v (.tup (us.map dP)))) (some (.v (.tup (vs.map dP)))) x8) ⟨_,rfl⟩ (by
  rintro j d _ hj ⟨y8,rfl⟩;rw[YV];rw[Yw]at hj;cases hq:us[j]? with
  |none=>rw[hq]at hj;cases hj
  |some q=>
  rw[hq]at hj;cases hj;have hd:us.getD j (0,0)=q:=by rw[Yy,hq];rfl
  rw[hd];have e1:=pq vs q;have e2:=pq us q;have g:ltd (.int ((vs.count q:Nat):Int)) (.int ((us.count q:Nat):Int))=some (.bl (!decide (us.count q<=vs.count q))):=by
   show some (D.bl (decide (((vs.count q:Nat):Int)<((us.count q:Nat):Int))))=_;by_cases h:us.count q<=vs.count q
   ·rw[YL h,YB (by omega)];rfl
   ·rw[YB h,YL (by omega)];rfl
  refine⟨_,rfl,?_⟩;generalize dP q=Q at *;generalize us.map dP=U at *;generalize vs.map dP=V at *;generalize ((us.count q:Nat):Int)=a at *;generalize ((vs.count q:Nat):Int)=b at *;generalize decide (us.count q<=vs.count q)=w at *;constructor
  ·intro hw;subst hw;exact⟨liF S G T R x4 x5 (some (.v (.tup U))) (some (.v (.tup V))) (some (.v Q)),by simp -implicitDefEqProofs [liP,liF,e1,e2,g],_,rfl⟩
  ·intro hw;subst hw;exact⟨liF S G T R x4 x5 (some (.v (.tup U))) (some (.v (.tup V))) (some (.v Q)),by simp -implicitDefEqProofs [liP,liF,e1,e2,g]⟩)
 simp only[YV,Yb]at a b;constructor
 ·intro h;obtain⟨z,e,y8,rfl⟩:=a fun j hj=>by
   rw[df]at h;exact YL (h _ (by rw[Yy,Yg hj];exact XG hj))
  exact⟨y8,e⟩
 ·intro h;refine b ?_;unfold bv at h;rw[List.all_eq_false]at h;obtain⟨q,hq,hz⟩:=h;obtain⟨j,hj,e⟩:=Xh.mp hq;refine⟨j,hj,?_⟩;rw[Yy,Yg hj,Option.getD_some,e];simpa using hz
def ss(ts1 ts2:List T4)(r:List Int)(i j:Nat):Bool:=bv (aP (i:Int) (j:Int) ts1) (aP (bx r (i:Int)) (bx r (j:Int)) ts2)
def mX(ks1 ks2:List Str)(ts1 ts2:List T4)(r:List Int)(i:Nat):Bool:=kEq (kAt ks1 (i:Int)) (kAt ks2 (bx r (i:Int)))&&(List.range i).all (ss ts1 ts2 r i)
def liB(ks1 ks2:List Str)(ts1 ts2:List T4)(r:List Int)(n1:Int):Bool:=(List.range n1.toNat).all (mX ks1 ks2 ts1 ts2 r)
abbrev liJ:DF->Option RES:=(al (aw 6 (d2 dL (d2 ixD (ac 2) (fun _=>some (.int 0))) (asT (ag (getV 4) (ag (getV 5) aD)))))
  (al (aw 7 (d2 dL (d2 ixD (ac 2) (fun _=>some (.int 1))) (asT (ag (d2 ixD (ac 3) (ac 4)) (ag (d2 ixD (ac 3) (ac 5)) aD)))))
  (cb (gp (getV 6)) (setV 8) liP)))
abbrev liI:DF->Option RES:=(al (dIf (asB (d2 neD (d2 ixD (d2 ixD (ac 0) (fun _=>some (.int 0))) (ac 4)) (d2 ixD (d2 ixD (ac 1) (fun _=>some (.int 0))) (d2 ixD (ac 3) (ac 4))))) (bb (fun _=>some (.bl false))) dNx)
  (cb (bK (ac 4)) (setV 5) liJ))
theorem w20(a b:D):ixD (.lst [a,b]) (.int 0)=some a:=rfl
theorem w21(a b:D):ixD (.lst [a,b]) (.int 1)=some b:=rfl
theorem Bi{S G:D}{ts1 ts2:List T4}{tb1 tb2:List (List Key×D)}{r:List Int}{n1 n2:Int}{i:Nat}{x5 x6 x7 x8:Option DV}(hS1:tbS ts1 tb1 fun a b=>0<=a/\a<n1/\0<=b/\b<n1)(hS2:tbS ts2 tb2 fun a b=>0<=a/\a<n2/\0<=b/\b<n2)(hl:(r.length:Int)=n1)(hr:∀x∈r,0<=x/\x<n2)(hi:(i:Int)<n1) :
  ((List.range i).all (ss ts1 ts2 r i)=true->∃y5 y6 y7 y8,cE (setV 5) liJ ((aK (i:Int)).map .int) (liF S G [.dT tb1,.dT tb2] (r.map .int) (some (.v (.int (i:Int)))) x5 x6 x7 x8)=some (.nx (liF S G [.dT tb1,.dT tb2] (r.map .int) (some (.v (.int (i:Int)))) y5 y6 y7 y8))) /\
  ((List.range i).all (ss ts1 ts2 r i)=false->∃z,cE (setV 5) liJ ((aK (i:Int)).map .int) (liF S G [.dT tb1,.dT tb2] (r.map .int) (some (.v (.int (i:Int)))) x5 x6 x7 x8)=some (.rt (.v (.bl false)) z)):=by
 have len:((aK (i:Int)).map D.int).length=i:=by rw[Yb,bc,YO]
 obtain⟨a,b⟩:=gi (st:=setV 5) (body:=liJ) (fun ρ=>∃y5 y6 y7 y8,ρ=liF S G [.dT tb1,.dT tb2] (r.map .int) (some (.v (.int (i:Int)))) y5 y6 y7 y8) (.v (.bl false)) (ss ts1 ts2 r i) ((aK (i:Int)).map .int) 0 (liF S G [.dT tb1,.dT tb2] (r.map .int) (some (.v (.int (i:Int)))) x5 x6 x7 x8) ⟨_,_,_,_,rfl⟩ (by
  rintro j d _ hj ⟨y5,y6,y7,y8,rfl⟩;rw[YV];have hji:j<i:=by have:=(Yh.mp hj).1;rwa [len]at this
  rw[eV hj];have bi:=fu (b:=r) (x:=(i:Int)) ⟨YI _,by omega⟩;have bj:=fu (b:=r) (x:=(j:Int)) ⟨YI _,by omega⟩;have ei:=mF (b:=r) (x:=(i:Int)) ⟨YI _,by omega⟩;have ej:=mF (b:=r) (x:=(j:Int)) ⟨YI _,by omega⟩;have ri:=hr _ (Yv bi);have rj:=hr _ (Yv bj);have v1:=hS1 (i:Int) (j:Int) ⟨YI _,hi,YI _,by omega⟩;have v2:=hS2 (bx r (i:Int)) (bx r (j:Int)) ⟨ri.1,ri.2,rj.1,rj.2⟩;obtain⟨us,e1,p1⟩:=bY dP unP (fun _=>rfl) (bF ((aP (i:Int) (j:Int) ts1).map dP));obtain⟨vs,e2,p2⟩:=bY dP unP (fun _=>rfl) (bF ((aP (bx r (i:Int)) (bx r (j:Int)) ts2).map dP));have f1:srP (aP (i:Int) (j:Int) ts1)=.tup (us.map dP):=Zi D.tup e1;have f2:srP (aP (bx r (i:Int)) (bx r (j:Int)) ts2)=.tup (vs.map dP):=Zi D.tup e2;rw[f1]at v1;rw[f2]at v2;have hq:ss ts1 ts2 r i j=bv us vs:=(gU p1 p2).symm;rw[hq];obtain⟨u,v⟩:=sI (S:=S) (G:=G) (T:=[.dT tb1,.dT tb2]) (R:=r.map .int) (x4:=some (.v (.int (i:Int)))) (x5:=some (.v (.int (j:Int)))) (x8:=y8) us vs;refine⟨_,rfl,?_⟩;have s6:aw 6 (d2 dL (d2 ixD (ac 2) (fun _=>some (.int 0))) (asT (ag (getV 4) (ag (getV 5) aD)))) (liF S G [.dT tb1,.dT tb2] (r.map .int) (some (.v (.int (i:Int)))) (some (.v (.int (j:Int)))) y6 y7 y8)=some (.nx (liF S G [.dT tb1,.dT tb2] (r.map .int) (some (.v (.int (i:Int)))) (some (.v (.int (j:Int)))) (some (.v (.tup (us.map dP)))) y7 y8)):=by generalize us.map dP=U at *;generalize r.map D.int=R at *;generalize (i:Int)=ii at *;generalize (j:Int)=jj at *;clear u v hS1 hS2;simp -implicitDefEqProofs [liF,w20,dL,fB,dj,oH,v1]
  have s7:aw 7 (d2 dL (d2 ixD (ac 2) (fun _=>some (.int 1))) (asT (ag (d2 ixD (ac 3) (ac 4)) (ag (d2 ixD (ac 3) (ac 5)) aD)))) (liF S G [.dT tb1,.dT tb2] (r.map .int) (some (.v (.int (i:Int)))) (some (.v (.int (j:Int)))) (some (.v (.tup (us.map dP)))) y7 y8)=some (.nx (liF S G [.dT tb1,.dT tb2] (r.map .int) (some (.v (.int (i:Int)))) (some (.v (.int (j:Int)))) (some (.v (.tup (us.map dP)))) (some (.v (.tup (vs.map dP)))) y8)):=by generalize us.map dP=U at *;generalize vs.map dP=V at *;generalize bx r (i:Int)=bi' at *;generalize bx r (j:Int)=bj' at *;generalize r.map D.int=R at *;generalize (i:Int)=ii at *;generalize (j:Int)=jj at *;clear u v hS1 hS2;simp -implicitDefEqProofs [liF,w21,ei,ej,dL,fB,dj,oH,v2]
  have it:gp (getV 6) (liF S G [.dT tb1,.dT tb2] (r.map .int) (some (.v (.int (i:Int)))) (some (.v (.int (j:Int)))) (some (.v (.tup (us.map dP)))) (some (.v (.tup (vs.map dP)))) y8)=some (us.map dP):=rfl;show(_->∃ρ',liJ (liF S G [.dT tb1,.dT tb2] (r.map .int) (some (.v (.int (i:Int)))) (some (.v (.int (j:Int)))) y6 y7 y8)=some (.nx ρ')/\_)/\(_->∃ρ',liJ (liF S G [.dT tb1,.dT tb2] (r.map .int) (some (.v (.int (i:Int)))) (some (.v (.int (j:Int)))) y6 y7 y8)=some (.rt (.v (.bl false)) ρ'))
  unfold liJ;rw[ao s6,ao s7];constructor
  ·intro z;obtain⟨y,e⟩:=u z;exact⟨_,bw it e,_,_,_,_,rfl⟩
  ·intro z;obtain⟨y,e⟩:=v z;exact⟨_,bw it e⟩)
 rw[len]at a b;simp only[YV]at a b;constructor
 ·intro h;obtain⟨z,e,y5,y6,y7,y8,rfl⟩:=a (cq.1.mp h);exact⟨y5,y6,y7,y8,e⟩
 ·exact fun h=>b (cq.2.mp h)
theorem nK(C:Addr)(ks1 ks2:List Str)(TS1 TS2:D)(ts1 ts2:List T4)(tb1 tb2:List (List Key×D))(r:List Int)(n1 n2:Int)(hn:1<=n1/\n1<=7)(hk1:okK n1 ks1)(hk2:okK n2 ks2)(hS1:tbS ts1 tb1 fun a b=>0<=a/\a<n1/\0<=b/\b<n1)(hS2:tbS ts2 tb2 fun a b=>0<=a/\a<n2/\0<=b/\b<n2)(hl:(r.length:Int)=n1)(hr:∀x∈r,0<=x/\x<n2) :
  mU C [.v (.tup [.lst (ks1.map .str),TS1]),.v (.tup [.lst (ks2.map .str),TS2]),.v (.lst [.dT tb1,.dT tb2]),.v (.lst (r.map .int))]=some (.v (.bl (liB ks1 ks2 ts1 ts2 r n1))):=by
 have len:((aK n1).map D.int).length=n1.toNat:=by rw[Yb,bc]
 obtain⟨a,b⟩:=gi (st:=setV 4) (body:=liI) (fun ρ=>∃y4 y5 y6 y7 y8,ρ=liF (.tup [.lst (ks1.map .str),TS1]) (.tup [.lst (ks2.map .str),TS2]) [.dT tb1,.dT tb2] (r.map .int) y4 y5 y6 y7 y8) (.v (.bl false)) (mX ks1 ks2 ts1 ts2 r) ((aK n1).map .int) 0 (liF (.tup [.lst (ks1.map .str),TS1]) (.tup [.lst (ks2.map .str),TS2]) [.dT tb1,.dT tb2] (r.map .int) none none none none none) ⟨_,_,_,_,_,rfl⟩ (by
  rintro i d _ hj ⟨y4,y5,y6,y7,y8,rfl⟩;rw[YV];have hi:i<n1.toNat:=by have:=(Yh.mp hj).1;rwa [len]at this
  rw[eV hj];have bi:=fu (b:=r) (x:=(i:Int)) ⟨YI _,by omega⟩;have ei:=mF (b:=r) (x:=(i:Int)) ⟨YI _,by omega⟩;have ri:=hr _ (Yv bi);have i0:0<=(i:Int)/\(i:Int)<n1:=⟨YI i,by omega⟩
  have k1:=pp hk1.1 i0;have k2:=pp hk2.1 ri;have hne:=nO (qg (qw hk1 i0)) (qg (qw hk2 ri));have hkE:eqd (.str (kAt ks1 (i:Int))) (.str (kAt ks2 (bx r (i:Int))))=kEq (kAt ks1 (i:Int)) (kAt ks2 (bx r (i:Int))):=rfl;rw[hkE]at hne;obtain⟨u,v⟩:=Bi (S:=.tup [.lst (ks1.map .str),TS1]) (G:=.tup [.lst (ks2.map .str),TS2]) (x5:=y5) (x6:=y6) (x7:=y7) (x8:=y8) hS1 hS2 hl hr i0.2;have hrr:bK (ac 4) (liF (.tup [.lst (ks1.map .str),TS1]) (.tup [.lst (ks2.map .str),TS2]) [.dT tb1,.dT tb2] (r.map .int) (some (.v (.int (i:Int)))) y5 y6 y7 y8)=some ((aK (i:Int)).map .int):=c_ rfl ⟨by omega,by omega⟩;have q1:ixD (.tup [.lst (ks1.map .str),TS1]) (.int 0)=some (.lst (ks1.map .str)):=rfl;have q2:ixD (.tup [.lst (ks2.map .str),TS2]) (.int 0)=some (.lst (ks2.map .str)):=rfl;refine⟨liF (.tup [.lst (ks1.map .str),TS1]) (.tup [.lst (ks2.map .str),TS2]) [.dT tb1,.dT tb2] (r.map .int) (some (.v (.int (i:Int)))) y5 y6 y7 y8,rfl,?_⟩;have s1:∀w,kEq (kAt ks1 (i:Int)) (kAt ks2 (bx r (i:Int)))=w->dIf (asB (d2 neD (d2 ixD (d2 ixD (ac 0) (fun _=>some (.int 0))) (ac 4)) (d2 ixD (d2 ixD (ac 1) (fun _=>some (.int 0))) (d2 ixD (ac 3) (ac 4))))) (bb (fun _=>some (.bl false))) dNx (liF (.tup [.lst (ks1.map .str),TS1]) (.tup [.lst (ks2.map .str),TS2]) [.dT tb1,.dT tb2] (r.map .int) (some (.v (.int (i:Int)))) y5 y6 y7 y8)=some (if w=true then .nx (liF (.tup [.lst (ks1.map .str),TS1]) (.tup [.lst (ks2.map .str),TS2]) [.dT tb1,.dT tb2] (r.map .int) (some (.v (.int (i:Int)))) y5 y6 y7 y8)else .rt (.v (.bl false)) (liF (.tup [.lst (ks1.map .str),TS1]) (.tup [.lst (ks2.map .str),TS2]) [.dT tb1,.dT tb2] (r.map .int) (some (.v (.int (i:Int)))) y5 y6 y7 y8)):=by intro w hw;rw[hw]at hne;clear u v hrr hw hkE;generalize kAt ks1 (i:Int)=V1 at *;generalize kAt ks2 (bx r (i:Int))=V2 at *;generalize bx r (i:Int)=bi' at *;generalize r.map D.int=R at *;generalize D.lst (ks1.map D.str)=K1 at *;generalize D.lst (ks2.map D.str)=K2 at *;generalize D.tup [K1,TS1]=S1 at *;generalize D.tup [K2,TS2]=S2 at *;generalize (i:Int)=ii at *;cases w<;>simp -implicitDefEqProofs [liF,q1,q2,k1,k2,ei,hne]
  unfold mX liI;cases hw:kEq (kAt ks1 (i:Int)) (kAt ks2 (bx r (i:Int)))with
  |false=>
   have s1:=s1 _ hw;rw[Yn (by decide)]at s1;exact⟨fun z=>absurd (show false=true from z) Yk,fun _=>⟨_,lD s1⟩⟩
  |true=>
   have s1:=s1 _ hw;rw[Yi rfl]at s1;rw[ao s1,Zc];constructor
   ·intro z;obtain⟨z5,z6,z7,z8,e⟩:=u z;exact⟨_,bw hrr e,_,_,_,_,_,rfl⟩
   ·intro z;obtain⟨y,e⟩:=v z;exact⟨_,bw hrr e⟩)
 rw[len]at a b;simp only[YV]at a b;have it:bK (d1 aM (am 3)) (liF (.tup [.lst (ks1.map .str),TS1]) (.tup [.lst (ks2.map .str),TS2]) [.dT tb1,.dT tb2] (r.map .int) none none none none none)=some ((aK n1).map .int):=c_ (by
  show some (D.int (((r.map D.int).length:Nat):Int))=_;rw[Yb,hl]) ⟨by omega,by omega⟩
 unfold mU g_q17;rw[tH,show aQ 9 4 [.v (.tup [.lst (ks1.map .str),TS1]),.v (.tup [.lst (ks2.map .str),TS2]),.v (.lst [.dT tb1,.dT tb2]),.v (.lst (r.map .int))]=liF (.tup [.lst (ks1.map .str),TS1]) (.tup [.lst (ks2.map .str),TS2]) [.dT tb1,.dT tb2] (r.map .int) none none none none none from rfl];cases hb:liB ks1 ks2 ts1 ts2 r n1 with
 |true=>
  obtain⟨z,e,_⟩:=a (cq.1.mp hb);rw[ao (bw it e)];rfl
 |false=>
  obtain⟨z,e⟩:=b (cq.2.mp hb);rw[lD (bw it e)];rfl
def sw(q:Int×Int):Int×Int:=(q.1,if q.2=1 then 2 else if q.2=2 then 1 else q.2)
theorem yh{i j:Int}(h:i≠j)(t:T4):prs j i t=(prs i j t).map sw:=by
 obtain⟨a,b,k,o⟩:=t;unfold prs;by_cases h1:a=i/\b=j
 ·have n1:¬(a=j/\b=i):=fun z=>h (h1.1.symm.trans z.1)
  have n2:¬(b=i/\a=j):=fun z=>n1 ⟨z.2,z.1⟩
  have p2:b=j/\a=i:=⟨h1.2,h1.1⟩
  simp only[Yi h1,Yn n1,Yn n2,Yi p2];cases o<;>simp[sw]
 ·by_cases h2:b=i/\a=j
  ·have p2:a=j/\b=i:=⟨h2.2,h2.1⟩
   have n2:¬(b=j/\a=i):=fun z=>h1 ⟨z.2,z.1⟩
   simp only[Yn h1,Yi h2,Yi p2,Yn n2];cases o<;>simp[sw]
  ·have n1:¬(a=j/\b=i):=fun z=>h2 ⟨z.2,z.1⟩
   have n2:¬(b=j/\a=i):=fun z=>h1 ⟨z.2,z.1⟩
   simp only[Yn h1,Yn h2,Yn n1,Yn n2];rfl
theorem lx{i j:Int}(h:i≠j):∀ts:List T4,aP j i ts=(aP i j ts).map sw
 |[]=>rfl
 |t::ts=>by
  show prs j i t++aP j i ts=(prs i j t++aP i j ts).map sw;rw[Zf,<-yh h,<-lx h ts]
theorem wQ(q:Int×Int):sw (sw q)=q:=by
 obtain⟨a,f⟩:=q;unfold sw;by_cases h1:f=1
 ·subst h1;rfl
 ·by_cases h2:f=2
  ·subst h2;rfl
  ·simp[h1,h2]
theorem fY(l:List (Int×Int))(q:Int×Int):(l.map sw).count (sw q)=l.count q:=by
 induction l with
 |nil=>rfl
 |cons x l ih=>
  rw[YM,List.count_cons,List.count_cons,ih]
  congr 1
  by_cases h:x=q
  ·subst h;simp
  ·have h':sw x≠sw q:=fun z=>h (by rw[<-wQ x,z,wQ])
   rw[Yn (fun z=>h' (Xo.mp z)),Yn (fun z=>h (Xo.mp z))]
theorem rG(ps qs:List (Int×Int)):bv (ps.map sw) (qs.map sw)=bv ps qs:=by
 rw[Xc,df,df];constructor
 ·intro h q hq;have:=h (sw q) (List.mem_map_of_mem hq)
  rwa [fY,fY]at this
 ·intro h q hq;obtain⟨z,hz,rfl⟩:=YC.mp hq;rw[fY,fY];exact h z hz
theorem iK{i j a b:Int}(ts1 ts2:List T4)(h1:i≠j)(h2:a≠b):bv (aP j i ts1) (aP b a ts2)=bv (aP i j ts1) (aP a b ts2):=by rw[lx h1,lx h2,rG]
theorem dX{r:List Int}:r.Nodup↔∀(m:Nat) (x:Int),r[m]?=some x->x∉r.take m:=by
 unfold List.Nodup;rw[List.pairwise_iff_getElem];constructor
 ·intro h m x hx hm;obtain⟨hl,rfl⟩:=Yh.mp hx;obtain⟨i,hi,e⟩:=Xh.mp hm;rw[YR]at hi;rw[List.getElem_take]at e;exact h i m (by omega) hl (by omega) e
 ·intro h i j hi hj hij e;refine h j r[j] (Yg hj) ?_;rw[<-e];exact Xh.mpr ⟨i,by rw[YR];omega,by rw[List.getElem_take]⟩
theorem kW(l:List Int)(x:Int):l.any (· == x)=true↔x∈l:=by
 rw[List.any_eq_true];constructor
 ·rintro⟨y,hy,e⟩;rw[<-Xo.mp e];exact hy
 ·exact fun h=>⟨x,h,beq_self_eq_true x⟩
theorem kt(ns:List Int)(x:Int):ja (ns++[x])=if(ja ns).any (· == x)then ja ns else ja ns++[x]:=by unfold ja;rw[List.foldl_append];rfl
theorem qh(ds:List Int):∀n,ds.length=n->∀d,d∈ja ds↔d∈ds:=by
 intro n;induction n generalizing ds with
 |zero=>intro h d;rw[ZB.mp h];exact Iff.rfl
 |succ n ih=>
  intro h d;obtain⟨e,x,rfl⟩:∃e x,ds=e++[x]:=⟨ds.dropLast,ds.getLast (by rintro rfl;cases h),(List.dropLast_concat_getLast _).symm⟩
  have hl:e.length=n:=by rw[Yj,YD]at h;omega
  rw[kt];split
  ·rename_i q;rw[kW]at q;rw[ih e hl d,Zg,YU];constructor
   ·exact Or.inl
   ·rintro (z|rfl)
    ·exact z
    ·exact(ih e hl _).mp q
  ·rw[Zg,Zg,ih e hl d]
theorem rC(ds:List Int):∀n,ds.length=n->((ja ds).length=n↔ds.Nodup):=by
 intro n;induction n generalizing ds with
 |zero=>intro h;rw[ZB.mp h];exact⟨fun _=>XA,fun _=>rfl⟩
 |succ n ih=>
  intro h;obtain⟨e,x,rfl⟩:∃e x,ds=e++[x]:=⟨ds.dropLast,ds.getLast (by rintro rfl;cases h),(List.dropLast_concat_getLast _).symm⟩
  have hl:e.length=n:=by rw[Yj,YD]at h;omega
  have hd:=ui e;rw[kt,XX];split
  ·rename_i q;rw[kW]at q;have hx:=(qh e n hl x).mp q;constructor
   ·intro z;omega
   ·rintro⟨_,_,z⟩;exact absurd rfl (z x hx x (List.mem_singleton_self x))
  ·rename_i q;rw[kW]at q;have hx:x∉e:=fun z=>q ((qh e n hl x).mpr z)
   rw[Yj,YD];constructor
   ·intro z;refine⟨(ih e hl).mp (by omega),by simp,fun a ha b hb=>?_⟩;rw[YU.mp hb];rintro rfl;exact hx ha
   ·rintro⟨z,_,_⟩;rw[(ih e hl).mpr z]
def xS(r:List Int):Bool:=decide (((ja r).length:Int)=(r.length:Int))
theorem m9(r:List Int):xS r=true↔r.Nodup:=by unfold xS;rw[YJ,<-rC r r.length rfl];omega
def zF(ks1 ks2:List Str)(ts1 ts2:List T4)(r:List Int)(n1 n2:Int):Bool:=decide ((r.length:Int)=n1)&&(xS r&&((r.all fun p=>decide (0<=p/\p<n2))&&liB ks1 ks2 ts1 ts2 r n1))
theorem vy(ks1 ks2:List Str)(ts1 ts2:List T4)(r:List Int)(n1 n2:Int):zK ks1 ks2 ts1 ts2 r n1 n2=zF ks1 ks2 ts1 ts2 r n1 n2:=by
 unfold zK zF;by_cases hl:(r.length:Int)=n1
 ·rw[YL hl,Zc,Zc];cases ha:(r.all fun p=>decide (0<=p/\p<n2))with
  |false=>rw[Xi,Xi,Bool.and_false]
  |true=>
   rw[Zc,Zc];rw[Xc,Yl,m9,dX];unfold liB;rw[cq.1,Yx];have fx:∀m:Nat,m<n1.toNat->(dt ks1 ks2 ts1 ts2 (r.take m) (bx r (m:Int))=true↔bx r (m:Int)∉r.take m/\kAt ks2 (bx r (m:Int))=kAt ks1 (m:Int)/\∀k:Nat,k<m->bv (aP (k:Int) (m:Int) ts1) (aP (bx r (k:Int)) (bx r (m:Int)) ts2)=true):=by
    intro m hm;have hlm:(r.take m).length=m:=by rw[YR];omega
    unfold dt;rw[hlm,Yl,Yl,qf,Bool.not_eq_true',XW,Yx];refine and_congr ?_ (and_congr Iff.rfl ?_)
    ·constructor
     ·intro h z;exact absurd (YL rfl) (h _ z)
     ·intro h z hz q;have:=Zj q;exact h (this ▸ hz)
    ·constructor
     ·intro h k hk;have:=h (k:Int) (ce.mpr ⟨YI _,by omega⟩);have e:bx (r.take m) (k:Int)=bx r (k:Int):=by unfold bx;rw[YO,Xq hk]
      rwa [e]at this
     ·intro h k hk;obtain⟨k0,k1⟩:=ce.mp hk;obtain⟨j,rfl⟩:=Zk k0;have hj:j<m:=by omega
      have e:bx (r.take m) (j:Int)=bx r (j:Int):=by unfold bx;rw[YO,Xq hj]
      rw[e];exact h j hj
   have hbx:∀m:Nat,m<n1.toNat->r[m]?=some (bx r (m:Int)):=fun m hm=>by
    have:=fu (b:=r) (x:=(m:Int)) ⟨YI _,by omega⟩
    rwa [YO]at this
   have hout:∀i:Nat,(mX ks1 ks2 ts1 ts2 r i=true↔kAt ks1 (i:Int)=kAt ks2 (bx r (i:Int))/\∀j,j<i->bv (aP (i:Int) (j:Int) ts1) (aP (bx r (i:Int)) (bx r (j:Int)) ts2)=true):=by intro i;unfold mX;rw[Yl,qf,cq.1];exact Iff.rfl
   constructor
   ·intro h;have h':∀m:Nat,m<n1.toNat->_:=fun m hm=>(fx m hm).mp (by
     have:=h (m:Int) (ce.mpr ⟨YI _,by omega⟩)
     rwa [YO]at this)
    have nd:∀(m:Nat) (x:Int),r[m]?=some x->x∉r.take m:=fun m x hx=>by
     have hm:m<n1.toNat:=by have:=(Yh.mp hx).1;omega
     have e:=hbx m hm;rw[hx]at e;rw[Yr e];exact(h' m hm).1
    refine⟨nd,fun i hi=>(hout i).mpr ⟨((h' i hi).2.1).symm,fun j hj=>?_⟩⟩;have hne:bx r (j:Int)≠bx r (i:Int):=pO (dX.mpr nd) (hbx j (by omega)) (hbx i hi) (by omega);rw[iK (i:=(j:Int)) (j:=(i:Int)) ts1 ts2 (by omega) hne];exact(h' i hi).2.2 j hj
   ·rintro⟨nd,h⟩ m hm;obtain⟨m0,m1⟩:=ce.mp hm;obtain⟨i,rfl⟩:=Zk m0;have hi:i<n1.toNat:=by omega
    rw[YO];refine(fx i hi).mpr ⟨nd i _ (hbx i hi),(((hout i).mp (h i hi)).1).symm,fun j hj=>?_⟩;have hne:bx r (i:Int)≠bx r (j:Int):=pO (dX.mpr nd) (hbx i hi) (hbx j (by omega)) (by omega);rw[iK (i:=(i:Int)) (j:=(j:Int)) ts1 ts2 (by omega) hne];exact((hout i).mp (h i hi)).2 j hj
 ·rw[YB hl,Xi,Xi]
def ext(f:List Int->Int->Bool)(M:List Int):Nat->List Int->List (List Int)
 |0,w=>[w]
 |d+1,w=>M.flatMap fun x=>if f w x=true then ext f M d (w++[x])else[]
theorem tQ{f:Int->Bool}{e:Int->List (List Int)}{k:Nat}:∀M:List Int,(∀x∈M,f x=true->(e x).length=k)->(M.flatMap fun x=>if f x=true then e x else[]).length=M.countP f*k
 |[],_=>by simp
 |x::M,h=>by
  rw[XY,Yj,tQ M (fun y hy=>h y (Yc _ hy)),ZU];by_cases q:f x=true
  ·rw[Yi q,Yi q,h x Yf q,Nat.add_mul,Nat.one_mul,Nat.add_comm]
  ·rw[Yn q,Yn q,YS,YV,XV]
theorem qo{P:Int->Bool}{x:Int}:∀{M:List Int},M.Nodup->x∈M->M.countP P=(if P x=true then 1 else 0)+M.countP fun y=>P y&&!decide (y=x)
 |[],_,h=>by cases h
 |y::M,hn,h=>by
  obtain⟨h1,h2⟩:=Zp.mp hn;rw[ZU,ZU];by_cases e:y=x
  ·subst e;have same:M.countP P=M.countP fun z=>P z&&!decide (z=y):=by
    refine XZ fun z hz=>?_;have hzy:z≠y:=fun q=>h1 (q ▸ hz)
    simp[hzy]
   rw[same];simp only[decide_true,Bool.not_true,Bool.and_false,Xs,Vb,XV];omega
  ·have hx:x∈M:=(YF.mp h).resolve_left fun q=>e q.symm
   rw[qo h2 hx];simp only[e,decide_false,Bool.not_false,Bool.and_true];omega
theorem pB{P:Int->Bool}{M:List Int}(hM:M.Nodup):∀w:List Int,w.Nodup->(∀x∈w,x∈M)->M.countP P=w.countP P+M.countP fun y=>P y&&!(w.any fun z=>decide (z=y))
 |[],_,_=>by simp
 |x::w,hn,h=>by
  obtain⟨h1,h2⟩:=Zp.mp hn;rw[pB hM w h2 fun y hy=>h y (Yc _ hy),ZU];rw[qo (P:=fun y=>P y&&!(w.any fun z=>decide (z=y))) hM (h x Yf)];have hw:(w.any fun z=>decide (z=x))=false:=by rw[Xz];intro q;obtain⟨z,hz,e⟩:=List.any_eq_true.mp q;exact h1 (Zj e ▸ hz)
  rw[hw,Bool.not_false,Bool.and_true];have same:(M.countP fun y=>(P y&&!(w.any fun z=>decide (z=y)))&&!decide (y=x))=M.countP fun y=>P y&&!((x::w).any fun z=>decide (z=y)):=by
   refine XZ fun y _=>?_;rw[Xe];by_cases e:y=x
   ·simp[e]
   ·have e':¬x=y:=fun q=>e q.symm
    simp[e,e']
  rw[same];omega
theorem wl{α:Type}{c:Nat}{A B:List α}(h:(A.take c).length<c):A.take c++B.take (c-(A.take c).length)=(A++B).take c:=by
 have hA:A.length<=c:=by rw[YR]at h;omega
 rw[ZX hA,List.take_append,ZX hA]
theorem rS{α:Type}{c:Nat}{A B:List α}(h:¬(A.take c).length<c):(A++B).take c=A.take c:=by rw[YR]at h;rw[List.take_append_of_le_length (by omega)]
def ni(w:List Int)(x:Int):Bool:=!(w.any fun z=>decide (z=x))
def cg(f:List Int->Int->Bool)(M:List Int)(w:List Int):List (List Int):=M.flatMap fun x=>if f w x=true then[w++[x]]else[]
theorem i9(f:List Int->Int->Bool)(M:List Int):∀(d:Nat) (w:List Int),ext f M (d+1) w=(ext f M d w).flatMap (cg f M)
 |0,w=>by
  show(M.flatMap fun x=>if f w x=true then[w++[x]]else[])=[w].flatMap (cg f M);rw[XY,List.flatMap_nil,Ze];rfl
 |d+1,w=>by
  show(M.flatMap fun x=>if f w x=true then ext f M (d+1) (w++[x])else[])=(M.flatMap fun x=>if f w x=true then ext f M d (w++[x])else[]).flatMap (cg f M);rw[List.flatMap_assoc];refine Zi M.flatMap (funext fun x=>?_);by_cases q:f w x=true
  ·rw[Yi q,Yi q,i9 f M d]
  ·rw[Yn q,Yn q,List.flatMap_nil]
theorem f6{f:List Int->Int->Bool}{M:List Int}:∀{d:Nat}{w r:List Int},r∈ext f M d w->∃t:List Int,r=w++t/\t.length=d/\∀x∈t,x∈M
 |0,w,r,h=>⟨[],by rw[Ze];exact YU.mp h,rfl,fun _ h=>nomatch h⟩
 |d+1,w,r,h=>by
  obtain⟨x,hx,h⟩:=List.mem_flatMap.mp (show r∈M.flatMap _ from h);by_cases q:f w x=true
  ·rw[Yi q]at h;obtain⟨t,e,l,k⟩:=f6 h;refine⟨x::t,by rw[e,Zt];rfl,by rw[Yu,l],fun y hy=>?_⟩;rcases YF.mp hy with rfl|hy
   ·exact hx
   ·exact k y hy
  ·rw[Yn q]at h;cases h
def fA(f:List Int->Int->Bool)(r:List Int):Nat->Nat->Bool
 |_,0=>true
 |k,d+1=>f (r.take k) (bx r (k:Int))&&fA f r (k+1) d
theorem xQ(w:List Int)(x:Int)(t:List Int):bx (w++x::t) (w.length:Int)=x:=by unfold bx;rw[YO,YW (Ym _),Nat.sub_self];rfl
theorem fi{f g:List Int->Int->Bool}{M:List Int}(hfg:∀w x,f w x=true->g w x=true):∀(d:Nat) (w:List Int),(ext g M d w).filter (fun r=>fA f r w.length d)=ext f M d w
 |0,w=>rfl
 |d+1,w=>by
  show(M.flatMap fun x=>if g w x=true then ext g M d (w++[x])else[]).filter _=M.flatMap fun x=>if f w x=true then ext f M d (w++[x])else[]
  rw[List.filter_flatMap];refine Zi M.flatMap (funext fun x=>?_);have key:∀r∈ext g M d (w++[x]),fA f r w.length (d+1)=(f w x&&fA f r (w++[x]).length d):=fun r hr=>by
   obtain⟨t,e,_,_⟩:=f6 hr;have e':r=w++x::t:=by rw[e,Zt];rfl
   show(f (r.take w.length) (bx r (w.length:Int))&&fA f r (w.length+1) d)=_;rw[Yj,YD,e',xQ,List.take_left]
  by_cases q:f w x=true
  ·rw[Yi q,Yi (hfg w x q),<-fi hfg d (w++[x])];exact List.filter_congr fun r hr=>by rw[key r hr,q,Zc]
  ·rw[Yn q];by_cases z:g w x=true
   ·rw[Yi z];exact List.filter_eq_nil_iff.mpr fun r hr=>by rw[key r hr,Xz.mpr q,Xi];exact Yk
   ·rw[Yn z];rfl
theorem ft{f:List Int->Int->Bool}{r:List Int}:∀(d k:Nat),fA f r k d=true↔∀m,k<=m->m<k+d->f (r.take m) (bx r (m:Int))=true
 |0,k=>⟨fun _ m h1 h2=>absurd h2 (by omega),fun _=>rfl⟩
 |d+1,k=>by
  show(f (r.take k) (bx r (k:Int))&&fA f r (k+1) d)=true↔_;rw[Yl,ft d (k+1)];constructor
  ·rintro⟨a,b⟩ m h1 h2;by_cases e:m=k
   ·subst e;exact a
   ·exact b m (by omega) (by omega)
  ·exact fun h=>⟨h k (Ym _) (by omega),fun m h1 h2=>h m (by omega) (by omega)⟩
def ff:Nat->Nat->Nat
 |_,0=>1
 |n,d+1=>n*ff (n-1) d
theorem gN(n:Int):(aK n).Nodup:=by unfold aK;exact List.Pairwise.map _ (fun a b h z=>h (Int.ofNat.inj z)) List.nodup_range
theorem u4{w:List Int}{x:Int}:ni w x=true↔x∉w:=by
 unfold ni;rw[Bool.not_eq_true',XW];constructor
 ·exact fun h z=>h x z (YL rfl)
 ·exact fun h z hz q=>h (Zj q ▸ hz)
theorem la{M:List Int}(hM:M.Nodup):∀(d:Nat) (w:List Int),w.Nodup->(∀x∈w,x∈M)->(ext ni M d w).length=ff (M.length-w.length) d
 |0,w,_,_=>rfl
 |d+1,w,hn,hw=>by
  show(M.flatMap fun x=>if ni w x=true then ext ni M d (w++[x])else[]).length=_;rw[tQ (k:=ff (M.length-(w.length+1)) d) M (fun x hx q=>by
   have q':=u4.mp q;rw[la hM d (w++[x]) (XX.mpr ⟨hn,by simp,fun a ha b hb=>by rw[YU]at hb;subst hb;exact fun z=>q' (z ▸ ha)⟩) (fun y hy=>by
    rcases Zg.mp hy with h|h
    ·exact hw y h
    ·rw[YU]at h;subst h;exact hx),Yj,YD])]
  have c:=pB (P:=fun _=>true) hM w hn hw;rw[List.countP_true]at c;have e:M.countP (ni w)=M.length-w.length:=by
   have e2:M.countP (ni w)=M.countP fun y=>true&&!(w.any fun z=>decide (z=y)):=XZ fun y _=>by unfold ni;rw[Zc]
   rw[e2];omega
  rw[e];show _=(M.length-w.length)*ff (M.length-w.length-1) d;rw[Nat.sub_sub]
theorem uF(n d:Nat)(hn:n<=6)(hd:d<=6):ff n d<=720:=(show ∀n<7,∀d<7,ff n d<=720 by decide) n (by omega) d (by omega)
def dI(w:List Int):List D:=w.map .int
def dW(w:List Int):D:=.lst (dI w)
theorem gq{i:Nat}{g:Dk}{ρ:DF}:du i g ρ=match ρ[i]? with
 |some (some (.own o _))=>g (ρ.set i (some (.v o.d)))
 |_=>none:=rfl
theorem nF{i j:Nat}{m:List (List D)->List D->List DV->Option (List (List D))}{f0 f1 f4:Dd}{ρ:DF}:fF i j m f0 f1 f4 ρ=match ρ[i]?,ρ[j]? with
 |some (some (.own (.lst2 dss) t)),some (some (.own (.lst ds) _))=>(f0 ρ).bind fun d0=>(f1 ρ).bind fun d1=>(f4 ρ).bind fun d4=>(m dss ds [.v d0,.v d1,.v d4]).map fun q=>.nx ((ρ.set j none).set i (some (.own (.lst2 q) t)))
 |_,_=>none:=rfl
abbrev goF(W1 W2:D)(w:List D)(F:List (List D))(a:Addr)(most:Int)(x5 x6:Option DV):DF:=[some (.v W1),some (.v W2),some (.own (.lst w) none),some (.own (.lst2 F) (some a)),some (.v (.int most)),x5,x6]
abbrev goQ(Lf:Dm):DF->Option Bool:=(du 6 (du 3 (cR (asB (d2 ltd (d1 aM (am 3)) (am 4))) (asB (aj Lf (aB 0 (aB 1 (aB 6 (fun _=>some [])))))))))
abbrev goB(Lf:Dm)(R:List (List D)->List D->List DV->Option (List (List D))):DF->Option RES:=(al (bt 6 (asL (io (ac 2) (asO (asL (ag (getV 5) aD))))))
  (dIf (goQ Lf) (fF 3 6 R (getV 0) (getV 1) (getV 4)) dNx))
theorem Cj{Lf:Dm}{W1 W2:D}{w wx:List D}{F:List (List D)}{a:Addr}{most:Int}{b:Bool}{x5:Option DV}(hL:Lf [.v W1,.v W2,.v (.lst wx)]=some (.v (.bl b))) :
  goQ Lf (goF W1 W2 w F a most x5 (some (.own (.lst wx) none)))=some (decide ((F.length:Int)<most)&&b):=by
 have e:OD.d (.lst2 F)=.lst (F.map .lst):=rfl;have e2:((F.map D.lst).length:Int)=(F.length:Int):=by rw[Yb]
 unfold goQ;rw[gq];show du 3 _ [some (.v W1),some (.v W2),some (.own (.lst w) none),some (.own (.lst2 F) (some a)),some (.v (.int most)),x5,some (.v (.lst wx))]=_;rw[gq];show cR _ _ [some (.v W1),some (.v W2),some (.own (.lst w) none),some (.v (.lst (F.map .lst))),some (.v (.int most)),x5,some (.v (.lst wx))]=_;generalize F.map D.lst=Q at *;generalize (F.length:Int)=l at *;by_cases q:l<most
 ·simp[q,e2,hL]
 ·simp[q,e2]
theorem wm{Lf:Dm}{R:List (List D)->List D->List DV->Option (List (List D))}{W1 W2:D}{w wx:List D}{F F2:List (List D)}{a:Addr}{most x:Int}{b:Bool}{x6:Option DV}(hadd:io (ac 2) (asO (asL (ag (getV 5) aD))) (goF W1 W2 w F a most (some (.v (.int x))) x6)=some wx)(hL:Lf [.v W1,.v W2,.v (.lst wx)]=some (.v (.bl b)))
  (hR:(F.length:Int)<most->b=true->R F wx [.v W1,.v W2,.v (.int most)]=some F2) :
  ∃x6',goB Lf R (goF W1 W2 w F a most (some (.v (.int x))) x6)=some (.nx (goF W1 W2 w (if(F.length:Int)<most/\b=true then F2 else F) a most (some (.v (.int x))) x6')):=by
 have h1:bt 6 (asL (io (ac 2) (asO (asL (ag (getV 5) aD))))) (goF W1 W2 w F a most (some (.v (.int x))) x6)=some (.nx (goF W1 W2 w F a most (some (.v (.int x))) (some (.own (.lst wx) none)))):=by generalize (io (ac 2) (asO (asL (ag (getV 5) aD))))=Z at *;simp[goF]at hadd ⊢;simp[hadd]
 unfold goB;rw[ao h1];have hq:=Cj (w:=w) (F:=F) (a:=a) (most:=most) (x5:=some (.v (.int x))) hL;generalize goQ Lf=T at hq ⊢;by_cases q:(F.length:Int)<most/\b=true
 ·obtain⟨q1,q2⟩:=q;have h:=hR q1 q2;rw[Yi ⟨q1,q2⟩];rw[q2,YL q1]at hq;refine⟨none,?_⟩;rw[cU,hq,Ya,Yi (show(true&&true)=true from rfl),nF];show Option.map _ (R F wx [.v W1,.v W2,.v (.int most)])=_;rw[h];rfl
 ·rw[Yn q];refine⟨some (.own (.lst wx) none),?_⟩;have z:(decide ((F.length:Int)<most)&&b)=false:=by rw[Xz];intro z;rw[Yl]at z;exact q ⟨Zj z.1,z.2⟩
  rw[z]at hq;rw[cU,hq];rfl
theorem wO{Lf:Dm}{R:List (List D)->List D->List DV->Option (List (List D))}{W1 W2:D}{w:List Int}{most:Nat}{n2:Int}(hn2:1<=n2/\n2<=7)(hw:w.length<=7)(f:Int->Bool)(E:Int->List (List Int))(found:List (List D))(a:Addr)
  (hL:∀x,0<=x/\x<n2->Lf [.v W1,.v W2,.v (dW (w++[x]))]=some (.v (.bl (f x))))
  (hR:∀x F,0<=x/\x<n2->f x=true->F.length<most->R F (dI (w++[x])) [.v W1,.v W2,.v (.int (most:Int))]=some (F++((E x).take (most-F.length)).map dI)) :
  ∃x5 x6,cE (setV 5) (goB Lf R) ((aK n2).map .int) (goF W1 W2 (dI w) found a (most:Int) none none)=some (.nx (goF W1 W2 (dI w) (found++(((aK n2).flatMap fun x=>if f x=true then E x else[]).take (most-found.length)).map dI) a (most:Int) x5 x6)):=by
 obtain⟨ρ,e,x5,x6,rfl⟩:=cL (st:=setV 5) (body:=goB Lf R) (fun k ρ=>∃x5 x6,ρ=goF W1 W2 (dI w) (found++((((aK n2).take k).flatMap fun x=>if f x=true then E x else[]).take (most-found.length)).map dI) a (most:Int) x5 x6) ((aK n2).map .int) 0 (goF W1 W2 (dI w) found a (most:Int) none none) ⟨none,none,by simp⟩ (by
  rintro j dd _ hj ⟨x5,x6,rfl⟩;rw[YV];have hjn:j<(aK n2).length:=by
   have:=(Yh.mp hj).1
   rwa [Yb]at this
  have ed:=eV hj;subst ed;rw[bc]at hjn;have hx:0<=(j:Int)/\(j:Int)<n2:=by omega
  have eT:(aK n2).take (j+1)=(aK n2).take j++[(j:Int)]:=jq (by unfold aK;rw[Yw,Xm hjn];rfl);generalize hA:(((aK n2).take j).flatMap fun x=>if f x=true then E x else[])=A;have eA:(((aK n2).take (j+1)).flatMap fun x=>if f x=true then E x else[])=A++(if f (j:Int)=true then E (j:Int)else[]):=by rw[eT,XR,hA];simp
  rw[eA];have hadd:io (ac 2) (asO (asL (ag (getV 5) aD))) (goF W1 W2 (dI w) (found++(A.take (most-found.length)).map dI) a (most:Int) (some (.v (.int (j:Int)))) x6)=some (dI (w++[(j:Int)])):=by
   have hl:(dI w).length<=7:=by unfold dI;rw[Yb];exact hw
   unfold dI at hl ⊢;rw[Zf];generalize w.map D.int=Z at *;have hl2:Z.length+1<=16777216:=by omega
   simp[io,goF,hl2]
  obtain⟨x6',hs⟩:=wm (Lf:=Lf) (R:=R) (F2:=(found++(A.take (most-found.length)).map dI)++((E (j:Int)).take (most-(found++(A.take (most-found.length)).map dI).length)).map dI) hadd (hL (j:Int) hx) (fun hl hf=>hR (j:Int) _ hx hf (by omega));refine⟨goF W1 W2 (dI w) (found++(A.take (most-found.length)).map dI) a (most:Int) (some (.v (.int (j:Int)))) x6,rfl,_,hs,some (.v (.int (j:Int))),x6',?_⟩;have hlen:(found++(A.take (most-found.length)).map dI).length=found.length+(A.take (most-found.length)).length:=by rw[Yj,Yb]
  have goal:(if((found++(A.take (most-found.length)).map dI).length:Int)<(most:Int)/\f (j:Int)=true then(found++(A.take (most-found.length)).map dI)++((E (j:Int)).take (most-(found++(A.take (most-found.length)).map dI).length)).map dI else found++(A.take (most-found.length)).map dI)=found++((A++(if f (j:Int)=true then E (j:Int)else[])).take (most-found.length)).map dI:=by
   by_cases hf:f (j:Int)=true
   ·rw[Yi hf];by_cases hl:(A.take (most-found.length)).length<most-found.length
    ·rw[Yi ⟨by omega,hf⟩,<-wl hl,Zf,Zt,hlen,Nat.sub_add_eq]
    ·rw[Yn (fun z=>hl (by have:=z.1;omega)),rS hl]
   ·rw[Yn hf,Yn (fun z=>hf z.2),Ze]
  rw[goal])
 rw[YV,Yb,Xl]at e;exact⟨x5,x6,e⟩
theorem qL{i j:Nat}{ρ:DF}:le i j ρ=match ρ[i]?,ρ[j]? with
 |some (some (.own (.lst2 dss) t)),some (some (.own (.lst ds) _))=>if dss.length<16777216 then some (.nx ((ρ.set j none).set i (some (.own (.lst2 (dss++[ds])) t))))else none
 |_,_=>none:=rfl
theorem l8{i:Nat}{m:List (List D)->List D->List DV->Option (List (List D))}{f0 f1 f4:Dd}{f2:Dl}{ρ:DF}:gl i m f0 f1 f2 f4 ρ=match ρ[i]? with
 |some (some (.own (.lst2 dss) t))=>(f0 ρ).bind fun d0=>(f1 ρ).bind fun d1=>(f2 ρ).bind fun ds=>(f4 ρ).bind fun d4=>(m dss ds [.v d0,.v d1,.v d4]).map fun q=>.nx (ρ.set i (some (.own (.lst2 q) t)))
 |_=>none:=rfl
section
variable{C:Addr}{ks1 ks2:List Str}{ts1 ts2:List T4}{T1 T2:D}{kv1 kv2:List (List Key×D)}{n1 n2:Int}
abbrev wB(C:Addr)(ks:List Str)(T:D)(kvs:List (List Key×D)):D:=.ins C (wFs ks T (.dT kvs))
theorem BB(hn1:1<=n1/\n1<=7)(hn2:1<=n2/\n2<=7)(hk1:okK n1 ks1)(hk2:okK n2 ks2)(hs1:ts1.length<=12)(J1:JOk kv1 ts1)(J2:JOk kv2 ts2)(most:Nat)(hm:most<=721):∀(d fuel:Nat) (w:List Int) (found:List (List D)),w.length+d=ks1.length->d<fuel->found.length<most->
  dh C fuel found (dI w) [.v (wB C ks1 T1 kv1),.v (wB C ks2 T2 kv2),.v (.int (most:Int))]=some (found++((ext (dt ks1 ks2 ts1 ts2) (aK n2) d w).take (most-found.length)).map dI):=by
 intro d;induction d with
 |zero=>
  intro fuel w found hl hf hfl;obtain⟨fuel,rfl⟩:∃k,fuel=k+1:=⟨fuel-1,by omega⟩
  refine pY fun a=>⟨.rt (.v .non) [some (.v (wB C ks1 T1 kv1)),some (.v (wB C ks2 T2 kv2)),none,some (.own (.lst2 (found++[dI w])) (some a)),some (.v (.int (most:Int))),none,none],?_,rfl,?_⟩
  ·unfold g_q5;have hs:=nM C 0 ks1 T1 (.dT kv1) n1 hk1.1 (goF (wB C ks1 T1 kv1) (wB C ks2 T2 kv2) (dI w) found a (most:Int) none none) rfl;have hlw:((w.map D.int).length:Int)=n1:=by rw[Yb];have:=hk1.1;omega
   have hfl2:found.length<16777216:=by omega
   rw[show aQ 7 5 [.v (wB C ks1 T1 kv1),.v (wB C ks2 T2 kv2),.own (.lst (dI w)) none,.own (.lst2 found) (some a),.v (.int (most:Int))]=goF (wB C ks1 T1 kv1) (wB C ks2 T2 kv2) (dI w) found a (most:Int) none none from rfl];refine lD ?_;generalize bT C "size" (mQ C) (b7 (cF 0) g0)=Z at hs ⊢;unfold dI at hs ⊢;generalize wB C ks1 T1 kv1=A1 at *;generalize wB C ks2 T2 kv2=A2 at *;generalize w.map D.int=Q at *;simp[goF,hs,hlw,hfl2,qL]
  ·have e:((ext (dt ks1 ks2 ts1 ts2) (aK n2) 0 w).take (most-found.length)).map dI=[dI w]:=by rw[ext,ZX (by rw[YD];omega)];rfl
   rw[e];rfl
 |succ d ih=>
  intro fuel w found hl hf hfl;obtain⟨fuel,rfl⟩:∃k,fuel=k+1:=⟨fuel-1,by omega⟩
  have h7:w.length<=7:=by have:=hk1.1;omega
  have hw1:(w.length:Int)<n1:=by have:=hk1.1;omega
  refine pY fun a=>?_;obtain⟨x5,x6,hloop⟩:=wO (Lf:=mI C) (R:=dh C fuel) (W1:=wB C ks1 T1 kv1) (W2:=wB C ks2 T2 kv2) (w:=w) (most:=most) hn2 h7 (dt ks1 ks2 ts1 ts2 w) (fun x=>ext (dt ks1 ks2 ts1 ts2) (aK n2) d (w++[x])) found a
   (fun x hx=>vN C ks1 ks2 ts1 ts2 T1 T2 kv1 kv2 n1 n2 w x hk1 hk2 hs1 J1 J2 hw1 h7 hx)
   (fun x F hx hfx hFl=>ih fuel (w++[x]) F (by rw[Yj,YD];omega) (by omega) hFl)
  refine⟨.nx (goF (wB C ks1 T1 kv1) (wB C ks2 T2 kv2) (dI w) (found++((ext (dt ks1 ks2 ts1 ts2) (aK n2) (d+1) w).take (most-found.length)).map dI) a (most:Int) x5 x6),?_,rfl⟩;unfold g_q5;have hs:=nM C 0 ks1 T1 (.dT kv1) n1 hk1.1 (goF (wB C ks1 T1 kv1) (wB C ks2 T2 kv2) (dI w) found a (most:Int) none none) rfl;have hs2:=nM C 1 ks2 T2 (.dT kv2) n2 hk2.1 (goF (wB C ks1 T1 kv1) (wB C ks2 T2 kv2) (dI w) found a (most:Int) none none) rfl;have hlw:¬((w.map D.int).length:Int)=n1:=by rw[Yb];omega
  rw[show aQ 7 5 [.v (wB C ks1 T1 kv1),.v (wB C ks2 T2 kv2),.own (.lst (dI w)) none,.own (.lst2 found) (some a),.v (.int (most:Int))]=goF (wB C ks1 T1 kv1) (wB C ks2 T2 kv2) (dI w) found a (most:Int) none none from rfl,
   ao (ρ':=goF (wB C ks1 T1 kv1) (wB C ks2 T2 kv2) (dI w) found a (most:Int) none none) (by
    generalize bT C "size" (mQ C) (b7 (cF 0) g0)=Z at hs ⊢;unfold dI at hs ⊢;generalize wB C ks1 T1 kv1=A1 at *;generalize wB C ks2 T2 kv2=A2 at *;generalize w.map D.int=Q at *;simp[goF,hs,hlw])]
  exact bw (c_ hs2 (by omega)) hloop
def wys(ks1 ks2:List Str)(ts1 ts2:List T4)(n2:Int):List (List Int):=ext (dt ks1 ks2 ts1 ts2) (aK n2) ks1.length []
theorem lX(hn1:1<=n1/\n1<=7)(hn2:1<=n2/\n2<=7)(hk1:okK n1 ks1)(hk2:okK n2 ks2)(hs1:ts1.length<=12)(J1:JOk kv1 ts1)(J2:JOk kv2 ts2)(most:Nat)(hm:most<=721)(h0:0<most) :
  o9 C [.v (wB C ks1 T1 kv1),.v (wB C ks2 T2 kv2),.v (.int (most:Int))]=some (.own (.lst2 (((wys ks1 ks2 ts1 ts2 n2).take most).map dI)) none):=by
 have h:=BB (C:=C) (T1:=T1) (T2:=T2) hn1 hn2 hk1 hk2 hs1 J1 J2 most hm ks1.length 9 [] [] (by simp) (by have:=hk1.1;omega) h0;rw[Xw,YS,Nat.sub_zero]at h;unfold o9 g_q4;generalize dh C 9=R at h ⊢;generalize wB C ks1 T1 kv1=A1 at *;generalize wB C ks2 T2 kv2=A2 at *;rw[show dI []=[]from rfl]at h;unfold wys;generalize (((ext (dt ks1 ks2 ts1 ts2) (aK n2) ks1.length []).take most).map dI)=Q at *;simp[l8,h]
theorem vW(hn1:1<=n1/\n1<=7)(hn2:1<=n2/\n2<=7)(hk1:okK n1 ks1)(hk2:okK n2 ks2)(hs1:ts1.length<=12)(J1:JOk kv1 ts1)(J2:JOk kv2 ts2) :
  fK C [.v (wB C ks1 T1 kv1),.v (wB C ks2 T2 kv2)]=some (.v (.bl (decide (((wys ks1 ks2 ts1 ts2 n2).length:Int) > 0)))):=by
 have h:=lX (C:=C) (T1:=T1) (T2:=T2) hn1 hn2 hk1 hk2 hs1 J1 J2 1 (by decide) (by decide);have hl:(((((wys ks1 ks2 ts1 ts2 n2).take 1).map dI).map D.lst).length:Int) > 0↔((wys ks1 ks2 ts1 ts2 n2).length:Int) > 0:=by rw[Yb,Yb,YR];omega
 unfold fK g_q30;generalize o9 C=R at h ⊢;generalize wB C ks1 T1 kv1=A1 at *;generalize wB C ks2 T2 kv2=A2 at *;generalize (((wys ks1 ks2 ts1 ts2 n2).take 1).map dI)=Q at *;generalize ((wys ks1 ks2 ts1 ts2 n2).length:Int)=L at *;have hd:decide ((0:Int)<((Q.map D.lst).length:Int))=decide (L > 0):=decide_eq_decide.mpr hl;rw[show((1:Nat):Int)=1 from rfl]at h;rw[hU];show dl ((bb (d2 gtI (d1 aM (aj R (aV (getV 0) (aV (getV 1) (aV (fun _=>some (.int 1)) (fun _=>some [])))))) (fun _=>some (.int 0)))) [some (.v A1),some (.v A2)])=_;rw[wp,wW,xf,lL];simp only[xo,pS];show dl (Option.map _ ((((R [.v A1,.v A2,.v (.int 1)]).bind dvD).bind aM).bind fun x=>(some (D.int 0)).bind fun y=>gtI x y))=_;rw[h];show some (DV.v (.bl (decide ((0:Int)<((Q.map D.lst).length:Int)))))=_;rw[hd]
theorem zC(hn1:1<=n1/\n1<=7)(hn2:1<=n2/\n2<=7)(hk1:okK n1 ks1)(hk2:okK n2 ks2)(hs1:ts1.length<=12)(J1:JOk kv1 ts1)(J2:JOk kv2 ts2)(hle:(wys ks1 ks2 ts1 ts2 n2).length<=720) :
  i5 C [.v (wB C ks1 T1 kv1),.v (wB C ks2 T2 kv2)]=some (.own (.lst2 ((wys ks1 ks2 ts1 ts2 n2).map dI)) none):=by
 have h:=lX (C:=C) (T1:=T1) (T2:=T2) hn1 hn2 hk1 hk2 hs1 J1 J2 721 (by decide) (by decide);rw[ZX (by omega)]at h;have hl:¬(720:Int)<(((((wys ks1 ks2 ts1 ts2 n2).map dI).map D.lst).length:Nat):Int):=by rw[Yb,Yb];omega
 unfold i5 g_q3;generalize o9 C=R at h ⊢;generalize wB C ks1 T1 kv1=A1 at *;generalize wB C ks2 T2 kv2=A2 at *;generalize ((wys ks1 ks2 ts1 ts2 n2).map dI)=Q at *;rw[show((721:Nat):Int)=721 from rfl]at h;have hq:du 2 (asB (d2 gtI (d1 aM (am 2)) (fun _=>some (.int 720)))) [some (.v A1),some (.v A2),some (.own (.lst2 Q) none)]=some false:=by rw[gq];show asB (d2 gtI (d1 aM (am 2)) (fun _=>some (.int 720))) [some (.v A1),some (.v A2),some (.v (.lst (Q.map .lst)))]=_;generalize Q.map D.lst=Z at *;simp[hl]
 rw[hU,ao (ρ':=[some (.v A1),some (.v A2),some (.own (.lst2 Q) none)]) (by simp[h]),ao (ρ':=[some (.v A1),some (.v A2),some (.own (.lst2 Q) none)]) (by rw[cU,hq];rfl)];rfl
end
theorem jh{st:Dq}{c:Dk}{e:Dd}{ρ:DF}{α:Type}(f F:α->D)(q:α->Bool):∀xs:List α,(∀x∈xs,∃ρ1,st (f x) ρ=some ρ1/\c ρ1=some (q x)/\e ρ1=some (F x))->c8 st c e ρ (xs.map f)=some ((xs.filter q).map F)
 |[],_=>rfl
 |x::xs,h=>by
  have ih:=jh (st:=st) (c:=c) (e:=e) (ρ:=ρ) f F q xs fun y hy=>h y (Yc _ hy)
  obtain⟨ρ1,h1,h2,h3⟩:=h x Yf;rw[YM];unfold c8;rw[h1,Ya,h2,Ya,List.filter_cons];cases q x with
  |false=>rw[Yn (by decide),Yn (by decide),ih]
  |true=>rw[Yi rfl,Yi rfl,h3,Ya,ih];rfl
theorem wP(x:Int)(w:List Int):fg (.int x) (.lst (w.map .int))=some (.bl (ni w x)):=by
 have h:=A7 x w;unfold inD at h;unfold fg;cases hi:cv (.lst (w.map .int))with
 |none=>rw[hi]at h;cases h
 |some ds=>
  rw[hi,Ya]at h;rw[Ya];split at h
  ·rename_i q;rw[Yi q];have h':=D.bl.inj (Yr h);rw[h'];rfl
  ·cases h
theorem ny(M w:List Int):cg ni M w=(M.filter (ni w)).map fun x=>w++[x]:=by
 unfold cg;induction M with
 |nil=>rfl
 |cons x M ih=>
  rw[XY,List.filter_cons,ih];cases ni w x with
  |false=>rw[Yn (by decide),Yn (by decide),Xw]
  |true=>rw[Yi rfl,Yi rfl];rfl
abbrev lsF(n N:Int)(rows:List D)(x3 x4 x5:Option DV):DF:=[some (.v (.int n)),some (.v (.int N)),some (.v (.lst rows)),x3,x4,x5]
abbrev lsC:DF->Option (List D):=(aS 1 [5] (bK (ac 1)) (setV 0) (asB (d2 fg (am 0) (am 1))) (d2 aW (ac 1) (asO (asL (ag (getV 0) aD)))))
abbrev lsB:DF->Option RES:=(al (bt 4 (asL aD))
  (al (cb (bL 2) (setV 5) (jP 4 lsC))
  (jV 4 (aw 2 (getV 4)))))
theorem vt{n N:Int}{rows:List D}{w:List Int}{x3 x4:Option DV}(hN:1<=N/\N<=7)(hw:w.length<=7):lsC (lsF n N rows x3 x4 (some (.v (dW w))))=some ((cg ni (aK N) w).map dW):=by
 unfold lsC;have hr:bK (ac 1) (lsF n N rows x3 x4 (some (.v (dW w))))=some ((aK N).map .int):=c_ rfl (by omega);rw[cf,hr,Ya,Yi (by rw[Yb,bc];omega),ny,ZM];refine jh D.int (dW ∘ fun x=>w++[x]) (ni w) _ fun x _=>⟨[some (.v (.int x)),some (.v (dW w))],rfl,?_,?_⟩
 ·have h:=wP x w;unfold dW dI;generalize w.map D.int=Q at *;simp[h]
 ·have h:aW (dW w) (.lst [.int x])=some (dW (w++[x])):=by unfold dW dI;rw[l7 _ _ (by rw[Yb,YD];omega),Zf];rfl
  show _=some (dW (w++[x]));generalize dW (w++[x])=Z at *;generalize dW w=Q at *;simp[h]
theorem vA{n N:Int}{R:List (List Int)}{x3:Option DV}(hN:1<=N/\N<=7)(hw:∀w∈R,w.length<=7)(hl:(R.flatMap (cg ni (aK N))).length<=1000)(x5:Option DV) :
  ∃x5',cE (setV 5) (jP 4 lsC) (R.map dW) (lsF n N (R.map dW) x3 (some (.own (.lst []) none)) x5)=some (.nx (lsF n N (R.map dW) x3 (some (.own (.lst ((R.flatMap (cg ni (aK N))).map dW)) none)) x5')):=by
 obtain⟨ρ,e,x5',rfl⟩:=cL (st:=setV 5) (body:=jP 4 lsC) (fun k ρ=>∃x5',ρ=lsF n N (R.map dW) x3 (some (.own (.lst (((R.take k).flatMap (cg ni (aK N))).map dW)) none)) x5') (R.map dW) 0 (lsF n N (R.map dW) x3 (some (.own (.lst []) none)) x5) ⟨x5,by simp⟩ (by
  rintro j dd _ hj ⟨x5,rfl⟩;rw[YV];have hjn:j<R.length:=by
   have:=(Yh.mp hj).1
   rwa [Yb]at this
  rw[Yw,Yg hjn]at hj;have ed:dW R[j]=dd:=Yr hj;subst ed;have hm:R[j]∈R:=XG hjn;have eT:R.take (j+1)=R.take j++[R[j]]:=(List.take_append_getElem hjn).symm;have eA:(R.take (j+1)).flatMap (cg ni (aK N))=(R.take j).flatMap (cg ni (aK N))++cg ni (aK N) R[j]:=by rw[eT,XR];simp
  have hb:((R.take (j+1)).flatMap (cg ni (aK N))).length<=1000:=by
   have q:(R.take (j+1)).flatMap (cg ni (aK N))++(R.drop (j+1)).flatMap (cg ni (aK N))=R.flatMap (cg ni (aK N)):=by rw[<-XR,List.take_append_drop]
   rw[<-q,Yj]at hl;omega
  refine⟨lsF n N (R.map dW) x3 (some (.own (.lst (((R.take j).flatMap (cg ni (aK N))).map dW)) none)) (some (.v (dW R[j]))),rfl,_,v9 (ds:=((R.take j).flatMap (cg ni (aK N))).map dW) rfl (vt hN (hw _ hm)) ?_,some (.v (dW R[j])),?_⟩
  ·rw[eA,Yj]at hb;rw[Yb,Yb];omega
  ·rw[eA,Zf];rfl)
 rw[YV,Yb,Xl]at e;exact⟨x5',e⟩
theorem vX{n N:Int}{R:List (List Int)}{x3 x4 x5:Option DV}(hN:1<=N/\N<=7)(hw:∀w∈R,w.length<=7)(hl:(R.flatMap (cg ni (aK N))).length<=1000) :
  ∃x4' x5',lsB (lsF n N (R.map dW) x3 x4 x5)=some (.nx (lsF n N ((R.flatMap (cg ni (aK N))).map dW) x3 x4' x5')):=by
 obtain⟨x5',e⟩:=vA (n:=n) (x3:=x3) hN hw hl x5;unfold lsB;refine⟨some (.v (.lst ((R.flatMap (cg ni (aK N))).map dW))),x5',?_⟩;rw[ao (ρ':=lsF n N (R.map dW) x3 (some (.own (.lst []) none)) x5) rfl,ao (bw rfl e)];rfl
theorem sB(C:Addr)(n:Nat)(N:Int)(hn:n<=6)(hN:1<=N/\N<=6):pU C [.v (.int (n:Int)),.v (.int N)]=some (.v (.lst ((ext ni (aK N) n []).map dW))):=by
 unfold pU g_q19;rw[hU,show aQ 6 2 [.v (.int (n:Int)),.v (.int N)]=[some (.v (.int (n:Int))),some (.v (.int N)),none,none,none,none]from rfl,
  ao (ρ':=lsF n N ([[]].map dW) none none none) rfl]
 have hlen:∀k,k<=6->(ext ni (aK N) k []).length<=1000:=fun k hk=>by
  rw[la (gN N) k [] XA (fun _ h=>nomatch h),bc];have:=uF (N.toNat-0) k (by omega) hk;exact YH this (by decide)
 obtain⟨ρ,e,x3,x4,x5,rfl⟩:=cL (st:=setV 3) (body:=lsB) (fun k ρ=>∃x3 x4 x5,ρ=lsF n N ((ext ni (aK N) k []).map dW) x3 x4 x5) ((aK (n:Int)).map .int) 0 (lsF n N ([[]].map dW) none none none) ⟨none,none,none,rfl⟩ (by
  rintro j dd _ hj ⟨x3,x4,x5,rfl⟩;rw[YV];have hjn:j<(aK (n:Int)).length:=by
   have:=(Yh.mp hj).1
   rwa [Yb]at this
  rw[bc,YO]at hjn;obtain⟨x4',x5',h⟩:=vX (n:=(n:Int)) (N:=N) (R:=ext ni (aK N) j []) (x3:=some (.v dd)) (x4:=x4) (x5:=x5) (by omega) (fun w hw=>by
   obtain⟨t,et,l,_⟩:=f6 hw;rw[Xw]at et;subst et;have l':w.length=j:=l;omega) (by rw[<-i9];exact hlen (j+1) (by omega))
  rw[<-i9]at h;exact⟨lsF n N ((ext ni (aK N) j []).map dW) (some (.v dd)) x4 x5,rfl,_,h,_,_,_,rfl⟩)
 rw[YV,Yb,bc,YO]at e;rw[ao (bw (c_ (n:=(n:Int)) rfl (by omega)) e)];rfl
theorem pK{M r:List Int}{d:Nat}(h:r∈ext ni M d []):r.length=d/\(∀x∈r,x∈M)/\r.Nodup:=by
 obtain⟨t,et,l,hm⟩:=f6 h;rw[Xw]at et;subst et;refine⟨l,hm,dX.mpr fun m x hx=>?_⟩;have hf:=fi (f:=ni) (g:=ni) (M:=M) (fun _ _ z=>z) d [];rw[<-hf]at h;have ho:=(ft d 0).mp (List.mem_filter.mp h).2 m (YT _) (by
  have:=(Yh.mp hx).1;omega)
 have e:bx r (m:Int)=x:=by unfold bx;rw[YO,hx];rfl
 rw[e]at ho;exact u4.mp ho
theorem wt{ks1 ks2:List Str}{ts1 ts2:List T4}(w:List Int)(x:Int)(h:dt ks1 ks2 ts1 ts2 w x=true):ni w x=true:=(Yl _ _ ▸ h:_/\_).1
theorem pH(ks1 ks2:List Str)(ts1 ts2:List T4)(n1 n2:Int)(hk:(ks1.length:Int)=n1):(ext ni (aK n2) ks1.length []).filter (fun r=>liB ks1 ks2 ts1 ts2 r n1)=wys ks1 ks2 ts1 ts2 n2:=by
 unfold wys;rw[<-fi (f:=dt ks1 ks2 ts1 ts2) (g:=ni) wt ks1.length []];refine List.filter_congr fun r hr=>?_;obtain⟨hl,hm,hn⟩:=pK hr;have hw:=vy ks1 ks2 ts1 ts2 r n1 n2;unfold zK zF at hw;have a1:decide ((r.length:Int)=n1)=true:=YL (by omega);have a2:(r.all fun p=>decide (0<=p/\p<n2))=true:=Yx.mpr fun x hx=>YL (ce.mp (hm x hx))
 rw[a1,a2,(m9 r).mpr hn,Zc,Zc,Zc,Zc,Zc]at hw;rw[<-hw,Xc,ft,Yx];constructor
 ·intro h m _ h2;have:=h (m:Int) (ce.mpr ⟨YI _,by rw[YS]at h2;omega⟩)
  rwa [YO]at this
 ·intro h m hm';obtain⟨q1,q2⟩:=ce.mp hm';have:=h m.toNat (YT _) (by rw[YS];omega)
  rwa [show((m.toNat:Nat):Int)=m by omega]at this
theorem o_{ks1 ks2:List Str}{ts1 ts2:List T4}{n2:Int}(h1:ks1.length<=6)(h2:n2<=6):(wys ks1 ks2 ts1 ts2 n2).length<=720:=by rw[<-pH ks1 ks2 ts1 ts2 (ks1.length:Int) n2 rfl];refine YH (List.length_filter_le _ _) ?_;rw[la (gN n2) _ [] XA (fun _ h=>nomatch h),bc];exact uF _ _ (by omega) h1
theorem wf{ks1 ks2:List Str}{ts1 ts2:List T4}{n2:Int}{r:List Int}(h:r∈wys ks1 ks2 ts1 ts2 n2):r.length=ks1.length:=by obtain⟨t,et,l,_⟩:=f6 h;rw[Xw]at et;subst et;exact l
abbrev tW(ks:List Str)(ts:List T4):D:=.tup [.lst (ks.map .str),.lst (ts.map dT4)]
theorem vj{Tb Iw Ls:Dm}{S G:D}{K1 K2 t1 t2:List D}{n1 n2:Int}{tb1 tb2:List (List Key×D)}{R:List (List Int)}{q:List Int->Bool}(a0:ixD S (.int 0)=some (.lst K1))(a1:ixD S (.int 1)=some (.lst t1))(b0:ixD G (.int 0)=some (.lst K2))(b1:ixD G (.int 1)=some (.lst t2))(lk1:(K1.length:Int)=n1)(lk2:(K2.length:Int)=n2)
  (hT1:Tb [.v (.int n1),.v (.lst t1)]=some (.own (.dT tb1) none)) (hT2:Tb [.v (.int n2),.v (.lst t2)]=some (.own (.dT tb2) none)) (hL:Ls [.v (.int n1),.v (.int n2)]=some (.v (.lst (R.map dW)))) (hlen:(R.map dW).length<=16777216) (hW:∀r∈R,Iw [.v S,.v G,.v (.lst [.dT tb1,.dT tb2]),.v (dW r)]=some (.v (.bl (q r)))) :
  dl ((al (aw 2 (asO (asL (ag (aj Tb (aV (d1 aM (d2 ixD (ac 0) (fun _=>some (.int 0)))) (aV (d2 ixD (ac 0) (fun _=>some (.int 1))) (fun _=>some [])))) (ag (aj Tb (aV (d1 aM (d2 ixD (ac 1) (fun _=>some (.int 0)))) (aV (d2 ixD (ac 1) (fun _=>some (.int 1))) (fun _=>some [])))) aD)))))
  (al (aw 3 (aj Ls (aV (d1 aM (d2 ixD (ac 0) (fun _=>some (.int 0)))) (aV (d1 aM (d2 ixD (ac 1) (fun _=>some (.int 0)))) (fun _=>some [])))))
  (d9 (asL (aS 1 [0,1,2] (bL 3) (setV 0) (asB (aj Iw (aB 1 (aB 2 (aB 3 (aB 0 (fun _=>some []))))))) (getV 0)))))) [some (.v S),some (.v G),none,none])=some (.own (.lst ((R.filter q).map dW)) none):=by
 have hc:c8 (setV 0) (asB (aj Iw (aB 1 (aB 2 (aB 3 (aB 0 (fun _=>some []))))))) (getV 0) [none,some (.v S),some (.v G),some (.v (.lst [.dT tb1,.dT tb2]))] (R.map dW)=some ((R.filter q).map dW):=by
  refine jh dW dW q R fun r hr=>⟨[some (.v (dW r)),some (.v S),some (.v G),some (.v (.lst [.dT tb1,.dT tb2]))],rfl,?_,rfl⟩
  have h:=hW r hr;generalize dW r=Z at *;generalize q r=b at *;simp -implicitDefEqProofs [h]
 generalize (R.filter q).map dW=O at *;clear hW;generalize R.map dW=Z at *;have hd:aS 1 [0,1,2] (bL 3) (setV 0) (asB (aj Iw (aB 1 (aB 2 (aB 3 (aB 0 (fun _=>some []))))))) (getV 0) [some (.v S),some (.v G),some (.v (.lst [.dT tb1,.dT tb2])),some (.v (.lst Z))]=some O:=by rw[cf,uJ];show(if Z.length<=16777216 then c8 _ _ _ [none,some (.v S),some (.v G),some (.v (.lst [.dT tb1,.dT tb2]))] Z else none)=_;rw[Yi hlen,hc]
 generalize aS 1 [0,1,2] (bL 3) (setV 0) (asB (aj Iw (aB 1 (aB 2 (aB 3 (aB 0 (fun _=>some []))))))) (getV 0)=Q at *;rw[ao (ρ':=[some (.v S),some (.v G),some (.v (.lst [.dT tb1,.dT tb2])),none]) (by simp -implicitDefEqProofs [a0,a1,b0,b1,lk1,lk2,hT1,hT2]),ao (ρ':=[some (.v S),some (.v G),some (.v (.lst [.dT tb1,.dT tb2])),some (.v (.lst Z))]) (by simp -implicitDefEqProofs [a0,b0,lk1,lk2,hL])];simp -implicitDefEqProofs [hd]
theorem wg(C:Addr)(ks1 ks2:List Str)(ts1 ts2:List T4)(n1 n2:Int)(hn1:1<=n1/\n1<=6)(hn2:1<=n2/\n2<=6)(hk1:okK n1 ks1)(hk2:okK n2 ks2)(hs1:ts1.length<=12)(hs2:ts2.length<=12) :
  fX C [.v (tW ks1 ts1),.v (tW ks2 ts2)]=some (.own (.lst ((wys ks1 ks2 ts1 ts2 n2).map dW)) none):=by
 obtain⟨tb1,hT1,hS1⟩:=nv C n1 ts1 (by omega) hs1;obtain⟨tb2,hT2,hS2⟩:=nv C n2 ts2 (by omega) hs2;have lk1:((ks1.map D.str).length:Int)=n1:=by rw[Yb];exact hk1.1
 have lk2:((ks2.map D.str).length:Int)=n2:=by rw[Yb];exact hk2.1
 have hL:=sB C ks1.length n2 (by have:=hk1.1;omega) hn2;rw[hk1.1]at hL;have hlen:((ext ni (aK n2) ks1.length []).map dW).length<=16777216:=by rw[Yb,la (gN n2) _ [] XA (fun _ h=>nomatch h),bc];exact YH (uF _ _ (by omega) (by have:=hk1.1;omega)) (by decide)
 have hW:∀r∈ext ni (aK n2) ks1.length [],mU C [.v (tW ks1 ts1),.v (tW ks2 ts2),.v (.lst [.dT tb1,.dT tb2]),.v (dW r)]=some (.v (.bl (liB ks1 ks2 ts1 ts2 r n1))):=fun r hr=>by
  obtain⟨h1,h2,_⟩:=pK hr;exact nK C ks1 ks2 (.lst (ts1.map dT4)) (.lst (ts2.map dT4)) ts1 ts2 tb1 tb2 r n1 n2 (by omega) hk1 hk2 hS1 hS2 (by have:=hk1.1;omega) (fun x hx=>ce.mp (h2 x hx))
 have a0:ixD (tW ks1 ts1) (.int 0)=some (.lst (ks1.map .str)):=rfl;have a1:ixD (tW ks1 ts1) (.int 1)=some (.lst (ts1.map dT4)):=rfl;have b0:ixD (tW ks2 ts2) (.int 0)=some (.lst (ks2.map .str)):=rfl;have b1:ixD (tW ks2 ts2) (.int 1)=some (.lst (ts2.map dT4)):=rfl;rw[<-pH ks1 ks2 ts1 ts2 n1 n2 hk1.1];unfold fX g_q25;rw[hU,show aQ 4 2 [.v (tW ks1 ts1),.v (tW ks2 ts2)]=[some (.v (tW ks1 ts1)),some (.v (tW ks2 ts2)),none,none]from rfl];exact vj a0 a1 b0 b1 lk1 lk2 hT1 hT2 hL hlen hW
theorem f8(C:Addr)(W:List (List Int)):fW C [.v (.lst (W.map dW)),.v (.lst (W.map dW))]=some (.v (.bl true)):=by
 have hw:=sK C;unfold fW g_q20;generalize pM C=Wh at hw ⊢;rw[hU,show aQ 6 2 [.v (.lst (W.map dW)),.v (.lst (W.map dW))]=[some (.v (.lst (W.map dW))),some (.v (.lst (W.map dW))),none,none,none,none]from rfl];have ne:∀l:Int,neD (.int l) (.int l)=some (.bl false):=fun l=>by rw[nO rfl rfl,fL];simp
 have first:∀(Z:List D) (x2 x3 x4 x5:Option DV),(dIf (orT (bX (asB (d1 (e8 "list") (am 0)))) (asB (d2 neD (d1 aM (am 0)) (d1 aM (am 1))))) (bb (fun _=>some (.bl false))) dNx) [some (.v (.lst Z)),some (.v (.lst Z)),x2,x3,x4,x5]=some (.nx [some (.v (.lst Z)),some (.v (.lst Z)),x2,x3,x4,x5]):=fun Z x2 x3 x4 x5=>by
  simp[p_,ne]
 have second:∀(Z Y:List D) (x4 x5:Option DV),(dIf (orT (bX (asB (d1 (e8 "list") (am 2)))) (asB (d2 neD (d1 aM (am 2)) (d1 aM (am 3))))) (bb (fun _=>some (.bl false))) dNx) [some (.v (.lst Z)),some (.v (.lst Z)),some (.v (.lst Y)),some (.v (.lst Y)),x4,x5]=some (.nx [some (.v (.lst Z)),some (.v (.lst Z)),some (.v (.lst Y)),some (.v (.lst Y)),x4,x5]):=fun Z Y x4 x5=>by
  simp[p_,ne]
 rw[ao (first _ _ _ _ _)];have third:∀(Z:List D) (w:List Int) (x4 x5:Option DV),∃x4' x5',cE (cS [4,5]) (dIf (orT (bX (asB (aj Wh (aB 4 (fun _=>some []))))) (asB (d2 neD (am 4) (am 5)))) (bb (fun _=>some (.bl false))) dNx) (ip (dI w) (dI w)) [some (.v (.lst Z)),some (.v (.lst Z)),some (.v (dW w)),some (.v (dW w)),x4,x5]=some (.nx [some (.v (.lst Z)),some (.v (.lst Z)),some (.v (dW w)),some (.v (dW w)),x4',x5']):=fun Z w x4 x5=>by
  obtain⟨ρ,e,x4',x5',rfl⟩:=dc (st:=cS [4,5]) (body:=(dIf (orT (bX (asB (aj Wh (aB 4 (fun _=>some []))))) (asB (d2 neD (am 4) (am 5)))) (bb (fun _=>some (.bl false))) dNx)) (ds:=ip (dI w) (dI w)) (ρ:=[some (.v (.lst Z)),some (.v (.lst Z)),some (.v (dW w)),some (.v (dW w)),x4,x5]) (fun ρ=>∃x4 x5,ρ=[some (.v (.lst Z)),some (.v (.lst Z)),some (.v (dW w)),some (.v (dW w)),x4,x5]) ⟨_,_,rfl⟩ (by
   rintro d hd _ ⟨x4,x5,rfl⟩;obtain⟨x,hx,rfl⟩:=ki hd;obtain⟨i,_,rfl⟩:=YC.mp hx;refine⟨[some (.v (.lst Z)),some (.v (.lst Z)),some (.v (dW w)),some (.v (dW w)),some (.v (.int i)),some (.v (.int i))],rfl,[some (.v (.lst Z)),some (.v (.lst Z)),some (.v (dW w)),some (.v (dW w)),some (.v (.int i)),some (.v (.int i))],?_,_,_,rfl⟩;have h:=hw i;generalize dW w=Q at *;simp[h,ne])
  exact⟨x4',x5',e⟩
 obtain⟨ρ,e,x2,x3,x4,x5,rfl⟩:=dc (st:=cS [2,3]) (body:=(al (dIf (orT (bX (asB (d1 (e8 "list") (am 2)))) (asB (d2 neD (d1 aM (am 2)) (d1 aM (am 3))))) (bb (fun _=>some (.bl false))) dNx)
  (cb (iN (getV 2) (getV 3)) (cS [4,5]) (dIf (orT (bX (asB (aj Wh (aB 4 (fun _=>some []))))) (asB (d2 neD (am 4) (am 5)))) (bb (fun _=>some (.bl false))) dNx)))) (ds:=ip (W.map dW) (W.map dW)) (ρ:=[some (.v (.lst (W.map dW))),some (.v (.lst (W.map dW))),none,none,none,none]) (fun ρ=>∃x2 x3 x4 x5,ρ=[some (.v (.lst (W.map dW))),some (.v (.lst (W.map dW))),x2,x3,x4,x5]) ⟨_,_,_,_,rfl⟩ (by
   rintro d hd _ ⟨x2,x3,x4,x5,rfl⟩;obtain⟨x,hx,rfl⟩:=ki hd;obtain⟨w,_,rfl⟩:=YC.mp hx;obtain⟨x4',x5',h⟩:=third (W.map dW) w x4 x5;refine⟨[some (.v (.lst (W.map dW))),some (.v (.lst (W.map dW))),some (.v (dW w)),some (.v (dW w)),x4,x5],rfl,[some (.v (.lst (W.map dW))),some (.v (.lst (W.map dW))),some (.v (dW w)),some (.v (dW w)),x4',x5'],?_,_,_,_,_,rfl⟩;have h2:=second (W.map dW) (dI w) x4 x5;rw[show D.lst (dI w)=dW w from rfl]at h2;rw[ao h2];refine bw ?_ h;show iN (getV 2) (getV 3) [some (.v (.lst (W.map dW))),some (.v (.lst (W.map dW))),some (.v (.lst (dI w))),some (.v (.lst (dI w))),x4,x5]=_;generalize dI w=Q;simp)
 rw[ao (bw (by simp) e)];rfl
theorem t_(C:Addr)(ns:List Int):∃f:Int,pP C [.v (.lst (ns.map .int))]=some (.v (.int f)):=by
 have m1:=fun x=>ay x 2147483647 (by decide)
 have m2:=fun x=>ay x 2147483629 (by decide)
 obtain⟨ρ,e,f,x2,rfl⟩:=dc (st:=setV 2) (body:=(aw 1 (d2 aG (d2 aW (d2 cT (ac 1) (fun _=>some (.int 48271))) (d2 aG (ac 2) (fun _=>some (.int 2147483647)))) (fun _=>some (.int 2147483629))))) (ds:=ns.map .int) (ρ:=[some (.v (.lst (ns.map .int))),some (.v (.int 1)),none])
  (fun ρ=>∃(f:Int) (x2:Option DV),ρ=[some (.v (.lst (ns.map .int))),some (.v (.int f)),x2]) ⟨1,none,rfl⟩ (by
  rintro d hd _ ⟨f,x2,rfl⟩;obtain⟨c,_,rfl⟩:=YC.mp hd;have hm:=cC f 48271 (.inr (by decide));refine⟨[some (.v (.lst (ns.map .int))),some (.v (.int f)),some (.v (.int c))],rfl,[some (.v (.lst (ns.map .int))),some (.v (.int ((f*48271+c%2147483647)%2147483629))),some (.v (.int c))],?_,_,_,rfl⟩;generalize ns.map D.int=N at *;simp[hm,m1,m2])
 refine⟨f,?_⟩;unfold pP g_q15;rw[uP,ao (ρ':=[some (.v (.lst (ns.map .int))),some (.v (.int 1)),none]) rfl,ao (bw rfl e)];rfl
def kK(t:T4)(N:Int):Int:=(t.1+1+(t.2.1-t.1)%N%(N-1))%N
theorem xM(C:Addr)(t:T4)(N:Int)(hN:1<N):nh C [.v (dT4 t),.v (.int N)]=some (.v (.int (kK t N))):=by
 have e0:ixD (dT4 t) (.int 0)=some (.int t.1):=rfl;have e1:ixD (dT4 t) (.int 1)=some (.int t.2.1):=rfl;have m1:=fun x=>ay x N (by omega)
 have m2:=fun x=>ay x (N-1) (by omega)
 unfold nh g_q22 kK;generalize dT4 t=Z at *;simp[e0,e1,m1,m2]
theorem As{t:T4}{N:Int}(hN:1<N)(h:okT N t):okT N (t.1,kK t N,t.2.2.1,t.2.2.2):=by
 obtain⟨h1,h2,_,_,_,h6⟩:=h;have a0:0<=(t.2.1-t.1)%N%(N-1):=YN _ (by omega);have a1:(t.2.1-t.1)%N%(N-1)<N-1:=YE _ (by omega);refine⟨h1,h2,YN _ (by omega),YE _ (by omega),?_,h6⟩;show t.1≠(t.1+1+(t.2.1-t.1)%N%(N-1))%N;generalize (t.2.1-t.1)%N%(N-1)=g at *;by_cases q:t.1+1+g<N
 ·rw[ZP (by omega) q];omega
 ·have:(t.1+1+g)%N=t.1+1+g-N:=by rw[<-XU,ZP (by omega) (by omega)]
  rw[this];omega
theorem l2d(W:List (List Int)):(W.map dI).map D.lst=W.map dW:=by rw[ZM];rfl
theorem mR{C:Addr}{A1 A2 S G:D}{W:List (List Int)}{b:Bool}(hWy:fX C [.v S,.v G]=some (.own (.lst (W.map dW)) none))(hAl:i5 C [.v A1,.v A2]=some (.own (.lst2 (W.map dI)) none))(hLi:fK C [.v A1,.v A2]=some (.v (.bl (decide ((W.length:Int) > 0))))) :
  jp C [.v A1,.v S,.v A2,.v G]=some (.v (.bl true)):=by
 have hLa:=f8 C W;have hl:((W.map dW).length:Int)=(W.length:Int):=by rw[Yb]
 have hd:OD.d (.lst2 (W.map dI))=.lst (W.map dW):=Zi D.lst (l2d W);have eb:∀c:Bool,eqD (.bl c) (.bl c)=some (.bl true):=fun c=>by cases c<;>rfl
 unfold jp g_q13;generalize fX C=Wy at *;generalize i5 C=Al at *;generalize fK C=Li at *;generalize fW C=La at *;generalize W.map dW=Z at *;generalize OD.lst2 (W.map dI)=O at *;generalize (W.length:Int)=l at *;have hg:gtI (.int l) (.int 0)=some (.bl (decide (l > 0))):=rfl;rw[tH,show aQ 5 4 [.v A1,.v S,.v A2,.v G]=[some (.v A1),some (.v S),some (.v A2),some (.v G),none]from rfl,ao (ρ':=[some (.v A1),some (.v S),some (.v A2),some (.v G),some (.v (.lst Z))]) (by simp[hWy])];have e1:aj La (aV (aj Al (aV (getV 0) (aV (getV 2) (fun _=>some [])))) (aV (getV 4) (fun _=>some []))) [some (.v A1),some (.v S),some (.v A2),some (.v G),some (.v (.lst Z))]=some (.bl true):=by simp[hAl,hLa,dvD,hd]
 have e2:d2 eqD (aj Li (aV (getV 0) (aV (getV 2) (fun _=>some [])))) (d2 gtI (d1 aM (am 4)) (fun _=>some (.int 0))) [some (.v A1),some (.v S),some (.v A2),some (.v G),some (.v (.lst Z))]=some (.bl true):=by simp only[wW,xf,lL,xo,pS,vf];show((Li [.v A1,.v A2]).bind dvD).bind (fun x=>((some (D.int (Z.length:Int))).bind fun x=>(some (D.int 0)).bind fun y=>gtI x y).bind fun y=>eqD x y)=_;rw[hLi,hl];show eqD (.bl (decide (l > 0))) (.bl (decide (l > 0)))=_;exact eb _
 generalize aj La (aV (aj Al (aV (getV 0) (aV (getV 2) (fun _=>some [])))) (aV (getV 4) (fun _=>some [])))=P1 at *;generalize d2 eqD (aj Li (aV (getV 0) (aV (getV 2) (fun _=>some [])))) (d2 gtI (d1 aM (am 4)) (fun _=>some (.int 0)))=P2 at *;simp[e1,e2]
abbrev bm(N CS:List D)(f s:Int)(x4 x5 x6 x7 x8 x9 x10 x11 x12 x13 x14 x15 x16 x17:Option DV):DF:=[some (.v (.lst N)),some (.v (.int f)),some (.v (.lst CS)),some (.v (.int s)),x4,x5,x6,x7,x8,x9,x10,x11,x12,x13,x14,x15,x16,x17]
theorem Be{Mi Fo Ce:Dm}{N CS:List D}{f c0 s m2:Int}{G:Dw}(hFo:Fo [.v (.lst N)]=some (.v (.int f)))(hCe:Ce [.v (.lst N),.v (.int 0),.v (.int 16)]=some (.own (.lst CS) none))(e0:atI CS 0=some (.int c0))(h1:Mi [.v (.int (c0+f)),.v (.int 1)]=some (.v (.int s)))(h2:Mi [.v (.int c0),.v (.int 2)]=some (.v (.int m2))) :
  (al (aw 1 (aj Fo (aB 0 (fun _=>some []))))
  (al (aw 2 (aj Ce (aB 0 (aV (fun _=>some (.int 0)) (aV (fun _=>some (.int 16)) (fun _=>some []))))))
  (al (aw 3 (aj Mi (aV (d2 aW (d2 ixD (ac 2) (fun _=>some (.int 0))) (ac 1)) (aV (fun _=>some (.int 1)) (fun _=>some [])))))
  (al (aw 4 (d2 aW (fun _=>some (.int 1)) (d2 aG (aj Mi (aV (d2 ixD (ac 2) (fun _=>some (.int 0))) (aV (fun _=>some (.int 2)) (fun _=>some [])))) (fun _=>some (.int 4)))))
  G)))) [some (.v (.lst N)),none,none,none,none,none,none,none,none,none,none,none,none,none,none,none,none,none]=G (bm N CS f s (some (.v (.int (1+m2%4)))) none none none none none none none none none none none none none):=by
 have m4:=fun x=>ay x 4 (by decide)
 have i0:ixD (.lst CS) (.int 0)=some (.int c0):=e0;rw[ao (ρ':=[some (.v (.lst N)),some (.v (.int f)),none,none,none,none,none,none,none,none,none,none,none,none,none,none,none,none]) (by simp[hFo,dvD])];rw[ao (ρ':=[some (.v (.lst N)),some (.v (.int f)),some (.v (.lst CS)),none,none,none,none,none,none,none,none,none,none,none,none,none,none,none]) (by simp[hCe,dvD])];rw[ao (ρ':=[some (.v (.lst N)),some (.v (.int f)),some (.v (.lst CS)),some (.v (.int s)),none,none,none,none,none,none,none,none,none,none,none,none,none,none]) (by simp[i0,h1,dvD])];rw[ao (ρ':=bm N CS f s (some (.v (.int (1+m2%4)))) none none none none none none none none none none none none none) (by simp[i0,h2,m4,dvD])]
theorem BC{Mi:Dm}{N CS:List D}{f s z m5:Int}(h5:Mi [.v (.int f),.v (.int 5)]=some (.v (.int m5)))(hz:1<=z/\z<=5):∃z':Int,(1<=z'/\z'<=5) /\
  (dIf (asB (d2 eqD (d2 aG (aj Mi (aB 1 (aV (fun _=>some (.int 5)) (fun _=>some [])))) (fun _=>some (.int 8))) (fun _=>some (.int 0)))) (aw 4 (fun _=>some (.int 5))) dNx) (bm N CS f s (some (.v (.int z))) none none none none none none none none none none none none none)=some (.nx (bm N CS f s (some (.v (.int z'))) none none none none none none none none none none none none none)):=by
 have m8:=fun x=>ay x 8 (by decide)
 by_cases q:m5%8=0
 ·exact⟨5,by decide,by simp[h5,m8,q,dvD]⟩
 ·exact⟨z,hz,by simp[h5,m8,q,dvD]⟩
theorem AX{Mi Wb:Dm}{N CS W1:List D}{f s z m3:Int}{S:D}{G:Dw}(hz:1<=z/\z<=5)(w1:bG CS (some 1) (some 6)=W1)(hWb:Wb [.v (.lst W1),.v (.int s),.v (.int z)]=some (.v S))(h3:Mi [.v (.int f),.v (.int 3)]=some (.v (.int m3))):∃M:Int,z<=M/\M<=6 /\
  (al (aw 5 (aj Wb (aV (asO (asL (slL (ac 2) (bI (fun _=>some (.int 1))) (bI (fun _=>some (.int 6)))))) (aB 3 (aV (getV 4) (fun _=>some []))))))
  (al (aw 6 (d2 aW (ac 4) (d2 aG (aj Mi (aB 1 (aV (fun _=>some (.int 3)) (fun _=>some [])))) (d2 mL (fun _=>some (.int 4)) (d2 dC (fun _=>some (.int 7)) (ac 4))))))
  (al (dIf (asB (d2 gtI (ac 4) (fun _=>some (.int 3)))) (aw 6 (d2 aW (ac 4) (d2 aG (aj Mi (aB 1 (aV (fun _=>some (.int 3)) (fun _=>some [])))) (d2 dC (fun _=>some (.int 6)) (ac 4))))) dNx)
  G))) (bm N CS f s (some (.v (.int z))) none none none none none none none none none none none none none)=G (bm N CS f s (some (.v (.int z))) (some (.v S)) (some (.v (.int M))) none none none none none none none none none none none):=by
 have hmin:mL (.int 4) (.int (7-z))=some (.int (if 7-z<4 then 7-z else 4)):=by by_cases q:7-z<4<;>simp[mL,q]
 have p1:(0:Int)<(if 7-z<4 then 7-z else 4):=by split<;>omega
 have m1:=ay m3 (if 7-z<4 then 7-z else 4) p1;have m2:=ay m3 (6-z) (by omega);generalize hk:(if 7-z<4 then 7-z else 4)=k at *;have g0:0<=m3%k:=YN _ (by omega);have g1:m3%k<k:=YE _ (by omega);have k0:0<=m3%(6-z):=YN _ (by omega);have k1:m3%(6-z)<6-z:=YE _ (by omega);have hk4:k<=4:=by rw[<-hk];split<;>omega
 have first:∀G:DF->Option RES,(al (aw 5 (aj Wb (aV (asO (asL (slL (ac 2) (bI (fun _=>some (.int 1))) (bI (fun _=>some (.int 6)))))) (aB 3 (aV (getV 4) (fun _=>some []))))))
  (al (aw 6 (d2 aW (ac 4) (d2 aG (aj Mi (aB 1 (aV (fun _=>some (.int 3)) (fun _=>some [])))) (d2 mL (fun _=>some (.int 4)) (d2 dC (fun _=>some (.int 7)) (ac 4))))))
  G)) (bm N CS f s (some (.v (.int z))) none none none none none none none none none none none none none)=G (bm N CS f s (some (.v (.int z))) (some (.v S)) (some (.v (.int (z+m3%k)))) none none none none none none none none none none none):=fun G=>by
  rw[ao (ρ':=bm N CS f s (some (.v (.int z))) (some (.v S)) none none none none none none none none none none none none) (by simp[gu,w1,hWb,dvD])];rw[ao (ρ':=bm N CS f s (some (.v (.int z))) (some (.v S)) (some (.v (.int (z+m3%k)))) none none none none none none none none none none none) (by simp[hmin,h3,m1,dvD])]
 rw[first];by_cases q:3<z
 ·refine⟨z+m3%(6-z),by omega,by omega,ao ?_⟩;simp[q,h3,m2,dvD]
 ·refine⟨z+m3%k,by omega,by omega,ao ?_⟩;simp[q]
theorem vi{Oe:Dm}{N CS:List D}{f s M:Int}{x4 x5 x7 x9 x10:Option DV}{ts:List T4}(hM:1<M)(hl:ts.length<=12)(hOe:∀t,Oe [.v (dT4 t),.v (.int M)]=some (.v (.int (kK t M)))) :
  aS 1 [6] (bL 8) (setV 0) bC (asT (ag (d2 ixD (ac 0) (fun _=>some (.int 0))) (ag (aj Oe (aB 0 (aB 1 (fun _=>some [])))) (ag (d2 ixD (ac 0) (fun _=>some (.int 2))) (ag (d2 ixD (ac 0) (fun _=>some (.int 3))) aD))))) (bm N CS f s x4 x5 (some (.v (.int M))) x7 (some (.v (.lst (ts.map dT4)))) x9 x10 none none none none none none none)=some ((ts.map fun t=>(t.1,kK t M,t.2.2.1,t.2.2.2)).map dT4):=by
 rw[cf,show bL 8 (bm N CS f s x4 x5 (some (.v (.int M))) x7 (some (.v (.lst (ts.map dT4)))) x9 x10 none none none none none none none)=some (ts.map dT4)from rfl,Ya,Yi (by rw[Yb];exact YH hl (by decide)),ZM];refine di dT4 _ ts fun t _=>⟨[some (.v (dT4 t)),some (.v (.int M))],rfl,rfl,?_⟩
 have e0:ixD (dT4 t) (.int 0)=some (.int t.1):=rfl;have e2:ixD (dT4 t) (.int 2)=some (.int t.2.2.1):=rfl;have e3:ixD (dT4 t) (.int 3)=some (.bl t.2.2.2):=rfl;have h:=hOe t;show _=some (D.tup [.int t.1,.int (kK t M),.int t.2.2.1,.bl t.2.2.2]);generalize dT4 t=Z at *;simp -implicitDefEqProofs [e0,e2,e3,h,dvD]
theorem zW{Mi Wb Gr Oe:Dm}{N CS W2 W3:List D}{f s M m4:Int}{S:D}{x4:Option DV}{ka kb:List Str}{ta tb:List T4}{wy:List D}(w2:bG CS (some 6) (some 12)=W2)(w3:bG CS (some 6) none=W3)(hGr:Gr [.v S,.v (.lst W2),.v (.int s),.v (.int M)]=some (.v (.tup [.lst (ka.map .str),.lst (ta.map dT4),.lst wy])))(h4:Mi [.v (.int f),.v (.int 4)]=some (.v (.int m4)))
  (hWb:Wb [.v (.lst W3),.v (.int s),.v (.int M)]=some (.v (.tup [.lst (kb.map .str),.lst (tb.map dT4)]))) (oa:okK M ka) (sa:okS M ta) (ob:okK M kb) (sb:okS M tb) (hOe:1<M->∀t,Oe [.v (dT4 t),.v (.int M)]=some (.v (.int (kK t M)))):∃(ks:List Str) (ts:List T4) (x9 x10:Option DV),okK M ks/\okS M ts/\∀G,
  (al (eR [7,8,9] (aj Gr (aB 5 (aV (asO (asL (slL (ac 2) (bI (fun _=>some (.int 6))) (bI (fun _=>some (.int 12)))))) (aB 3 (aB 6 (fun _=>some [])))))))
  (al (aw 10 (d2 aG (aj Mi (aB 1 (aV (fun _=>some (.int 4)) (fun _=>some [])))) (fun _=>some (.int 4))))
  (al (dIf (asB (d2 eqD (am 10) (fun _=>some (.int 0)))) (eR [7,8] (aj Wb (aV (asO (asL (slL (ac 2) (bI (fun _=>some (.int 6))) bNo))) (aB 3 (aV (getV 6) (fun _=>some [])))))) dNx)
  (al (dIf (cR (asB (d2 eqD (am 10) (fun _=>some (.int 1)))) (asB (d2 gtI (ac 6) (fun _=>some (.int 1))))) (aw 8 (asO (asL (aS 1 [6] (bL 8) (setV 0) bC (asT (ag (d2 ixD (ac 0) (fun _=>some (.int 0))) (ag (aj Oe (aB 0 (aB 1 (fun _=>some [])))) (ag (d2 ixD (ac 0) (fun _=>some (.int 2))) (ag (d2 ixD (ac 0) (fun _=>some (.int 3))) aD))))))))) dNx)
  G)))) (bm N CS f s x4 (some (.v S)) (some (.v (.int M))) none none none none none none none none none none none)=G (bm N CS f s x4 (some (.v S)) (some (.v (.int M))) (some (.v (.lst (ks.map .str)))) (some (.v (.lst (ts.map dT4)))) x9 x10 none none none none none none none):=by
 have m4':=fun x=>ay x 4 (by decide)
 have a8:(eR [7,8,9] (aj Gr (aB 5 (aV (asO (asL (slL (ac 2) (bI (fun _=>some (.int 6))) (bI (fun _=>some (.int 12)))))) (aB 3 (aB 6 (fun _=>some []))))))) (bm N CS f s x4 (some (.v S)) (some (.v (.int M))) none none none none none none none none none none none)=some (.nx (bm N CS f s x4 (some (.v S)) (some (.v (.int M))) (some (.v (.lst (ka.map .str)))) (some (.v (.lst (ta.map dT4)))) (some (.v (.lst wy))) none none none none none none none none)):=by
  generalize ka.map D.str=KA at *;generalize ta.map dT4=TA at *;have e:aj Gr (aB 5 (aV (asO (asL (slL (ac 2) (bI (fun _=>some (.int 6))) (bI (fun _=>some (.int 12)))))) (aB 3 (aB 6 (fun _=>some []))))) (bm N CS f s x4 (some (.v S)) (some (.v (.int M))) none none none none none none none none none none none)=some (.tup [.lst KA,.lst TA,.lst wy]):=by generalize D.tup [.lst KA,.lst TA,.lst wy]=T3 at *;simp -implicitDefEqProofs [gu,w2,hGr,dvD]
  rw[nq,e];rfl
 have a9:∀x7 x8 x9,(aw 10 (d2 aG (aj Mi (aB 1 (aV (fun _=>some (.int 4)) (fun _=>some [])))) (fun _=>some (.int 4)))) (bm N CS f s x4 (some (.v S)) (some (.v (.int M))) x7 x8 x9 none none none none none none none none)=some (.nx (bm N CS f s x4 (some (.v S)) (some (.v (.int M))) x7 x8 x9 (some (.v (.int (m4%4)))) none none none none none none none)):=fun x7 x8 x9=>by
  simp -implicitDefEqProofs [h4,m4',dvD]
 have a10:∃(ks:List Str) (ts:List T4),okK M ks/\okS M ts/\(dIf (asB (d2 eqD (am 10) (fun _=>some (.int 0)))) (eR [7,8] (aj Wb (aV (asO (asL (slL (ac 2) (bI (fun _=>some (.int 6))) bNo))) (aB 3 (aV (getV 6) (fun _=>some [])))))) dNx) (bm N CS f s x4 (some (.v S)) (some (.v (.int M))) (some (.v (.lst (ka.map .str)))) (some (.v (.lst (ta.map dT4)))) (some (.v (.lst wy))) (some (.v (.int (m4%4)))) none none none none none none none)=some (.nx (bm N CS f s x4 (some (.v S)) (some (.v (.int M))) (some (.v (.lst (ks.map .str)))) (some (.v (.lst (ts.map dT4)))) (some (.v (.lst wy))) (some (.v (.int (m4%4)))) none none none none none none none)):=by
  by_cases q:m4%4=0
  ·refine⟨kb,tb,ob,sb,?_⟩;generalize ka.map D.str=KA at *;generalize ta.map dT4=TA at *;generalize kb.map D.str=KB at *;generalize tb.map dT4=TB at *;have e:aj Wb (aV (asO (asL (slL (ac 2) (bI (fun _=>some (.int 6))) bNo))) (aB 3 (aV (getV 6) (fun _=>some [])))) (bm N CS f s x4 (some (.v S)) (some (.v (.int M))) (some (.v (.lst KA))) (some (.v (.lst TA))) (some (.v (.lst wy))) (some (.v (.int (m4%4)))) none none none none none none none)=some (.tup [.lst KB,.lst TB]):=by generalize D.tup [.lst KB,.lst TB]=T3 at *;simp -implicitDefEqProofs [gu,w3,hWb,dvD]
   rw[q]at e ⊢;rw[cU,show asB (d2 eqD (am 10) (fun _=>some (.int 0))) (bm N CS f s x4 (some (.v S)) (some (.v (.int M))) (some (.v (.lst KA))) (some (.v (.lst TA))) (some (.v (.lst wy))) (some (.v (.int 0))) none none none none none none none)=some true from by simp,Ya,Yi rfl,nq,e];rfl
  ·refine⟨ka,ta,oa,sa,?_⟩;generalize ka.map D.str=KA at *;generalize ta.map dT4=TA at *;simp -implicitDefEqProofs [q]
 obtain⟨ks,ts,ok1,os1,e10⟩:=a10;have a11:∃ts':List T4,okS M ts'/\(dIf (cR (asB (d2 eqD (am 10) (fun _=>some (.int 1)))) (asB (d2 gtI (ac 6) (fun _=>some (.int 1))))) (aw 8 (asO (asL (aS 1 [6] (bL 8) (setV 0) bC (asT (ag (d2 ixD (ac 0) (fun _=>some (.int 0))) (ag (aj Oe (aB 0 (aB 1 (fun _=>some [])))) (ag (d2 ixD (ac 0) (fun _=>some (.int 2))) (ag (d2 ixD (ac 0) (fun _=>some (.int 3))) aD))))))))) dNx) (bm N CS f s x4 (some (.v S)) (some (.v (.int M))) (some (.v (.lst (ks.map .str)))) (some (.v (.lst (ts.map dT4)))) (some (.v (.lst wy))) (some (.v (.int (m4%4)))) none none none none none none none)=some (.nx (bm N CS f s x4 (some (.v S)) (some (.v (.int M))) (some (.v (.lst (ks.map .str)))) (some (.v (.lst (ts'.map dT4)))) (some (.v (.lst wy))) (some (.v (.int (m4%4)))) none none none none none none none)):=by
  by_cases q:m4%4=1/\1<M
  ·obtain⟨q1,q2⟩:=q;refine⟨ts.map fun t=>(t.1,kK t M,t.2.2.1,t.2.2.2),⟨by rw[Yb];exact os1.1,fun t ht=>?_⟩,?_⟩
   ·obtain⟨u,hu,rfl⟩:=YC.mp ht;exact As q2 (os1.2 u hu)
   ·have h:=(vi (N:=N) (CS:=CS) (f:=f) (s:=s) (x4:=x4) (x5:=some (.v S)) (x7:=some (.v (.lst (ks.map .str)))) (x9:=some (.v (.lst wy))) (x10:=some (.v (.int (m4%4)))) q2 os1.1 (hOe q2))
    generalize ((ts.map fun t=>(t.1,kK t M,t.2.2.1,t.2.2.2)).map dT4)=T2 at *;generalize ts.map dT4=TA at *;generalize ks.map D.str=KA at *;generalize aS 1 [6] (bL 8) (setV 0) bC (asT (ag (d2 ixD (ac 0) (fun _=>some (.int 0))) (ag (aj Oe (aB 0 (aB 1 (fun _=>some [])))) (ag (d2 ixD (ac 0) (fun _=>some (.int 2))) (ag (d2 ixD (ac 0) (fun _=>some (.int 3))) aD)))))=Q at *;generalize m4%4=w at *;simp -implicitDefEqProofs [q1,q2];simp -implicitDefEqProofs [q1]at h;simp -implicitDefEqProofs [h]
  ·refine⟨ts,os1,?_⟩;generalize ts.map dT4=TA at *;generalize ks.map D.str=KA at *;generalize m4%4=w at *;by_cases q1:w=1
   ·have q2:¬1<M:=fun z=>q ⟨q1,z⟩
    simp -implicitDefEqProofs [q1,q2]
   ·simp -implicitDefEqProofs [q1]
 obtain⟨ts',os2,e11⟩:=a11;exact⟨ks,ts',some (.v (.lst wy)),some (.v (.int (m4%4))),ok1,os2,fun G=>by rw[ao a8,ao (a9 _ _ _),ao e10,ao e11]⟩
theorem xN{fe:Dd}{fl fh:DF->Option (Option Int)}{ρ:DF}:slT fe fl fh ρ=match fe ρ with
 |some (.tup xs)=>(fl ρ).bind fun l=>(fh ρ).bind fun h=>if HT.sIx xs.length 0 l=0/\HT.sIx xs.length xs.length h=xs.length then none else some (.tup (bG xs l h))
 |_=>none:=rfl
theorem sH{i:Nat}{f:Dl}{ρ:DF}:iZ i f ρ=match ρ[i]? with
 |some (some (.own (.lst2 dss) t))=>(f ρ).bind fun ds=>if dss.length<16777216 then some (.nx (ρ.set i (some (.own (.lst2 (dss++[ds])) t))))else none
 |_=>none:=rfl
theorem qT{i j:Nat}{f:Dd}{ρ:DF}:fz i j f ρ=match ρ[i]? with
 |some (some (.own (.lst2 dss) t))=>match dss[j]? with
  |some ds=>(f ρ).bind fun d=>if ds.length<16777216 then some (.nx (ρ.set i (some (.own (.lst2 (dss.set j (ds++[d]))) t))))else none
  |none=>none
 |_=>none:=rfl
section
variable{C:Addr}{Mi Wb Gr Wy Li Al La Cw:Dm}{mk:Dz}{N CS A B KS TS:List D}{f s:Int}{S G0:D}{F1 F2:List (Str×D)}{W:List (List Int)}{x4 x6 x9 x10:Option DV}
theorem Bh(hG:G0=.tup [.lst A,.lst B])(hWy:Wy [.v S,.v G0]=some (.own (.lst (W.map dW)) none))(s0:ixD S (.int 0)=some (.lst KS))(s1:ixD S (.int 1)=some (.lst TS))(h1:∀(g:Dv) (ρ:DF),g ρ=some [.v (.lst KS),.v (.lst TS)]->bH C mk g ρ=some (.ins C F1))(h2:∀(g:Dv) (ρ:DF),g ρ=some [.v (.lst A),.v (.lst B)]->bH C mk g ρ=some (.ins C F2))
  (hLi:Li [.v (.ins C F1),.v (.ins C F2)]=some (.v (.bl (decide ((W.length:Int) > 0))))) (hAl:Al [.v (.ins C F1),.v (.ins C F2)]=some (.own (.lst2 (W.map dI)) none)) (hLa:La [.v (.lst (W.map dW)),.v (.lst (W.map dW))]=some (.v (.bl true))):∀G,
  (al (aw 11 (aj Wy (aB 5 (aV (asT (ag (getV 7) (ag (getV 8) aD))) (fun _=>some [])))))
  (al (aw 12 (asO (bH C mk (aV (d2 ixD (ac 5) (fun _=>some (.int 0))) (aV (d2 ixD (ac 5) (fun _=>some (.int 1))) (fun _=>some []))))))
  (al (aw 13 (asO (bH C mk (aB 7 (aB 8 (fun _=>some []))))))
  (al (aw 14 (aj Li (aV (getV 12) (aV (getV 13) (fun _=>some [])))))
  (al (dIf (orT (bX (asB (d1 (e8 "bool") (am 14)))) (asB (d2 neD (am 14) (d2 gtI (d1 aM (am 11)) (fun _=>some (.int 0)))))) (bb (fun _=>some (.bl false))) dNx)
  (al (bt 15 (gm Al (aV (getV 12) (aV (getV 13) (fun _=>some [])))))
  (al (dIf (du 15 (bX (asB (aj La (aV (getV 15) (aV (getV 11) (fun _=>some []))))))) (bb (fun _=>some (.bl false))) dNx)
  G))))))) (bm N CS f s x4 (some (.v S)) x6 (some (.v (.lst A))) (some (.v (.lst B))) x9 x10 none none none none none none none)=G (bm N CS f s x4 (some (.v S)) x6 (some (.v (.lst A))) (some (.v (.lst B))) x9 x10 (some (.v (.lst (W.map dW)))) (some (.v (.ins C F1))) (some (.v (.ins C F2))) (some (.v (.bl (decide ((W.length:Int) > 0))))) (some (.own (.lst2 (W.map dI)) none)) none none):=by
 intro G;subst hG;have hl:((W.map dW).length:Int)=(W.length:Int):=by rw[Yb]
 have hd:OD.d (.lst2 (W.map dI))=.lst (W.map dW):=Zi D.lst (l2d W);have nb:∀c:Bool,neD (.bl c) (.bl c)=some (.bl false):=fun c=>by cases c<;>rfl
 have isb:∀c:Bool,e8 "bool" (.bl c)=some (.bl true):=fun c=>rfl
 have hg:gtI (.int ((W.map dW).length:Int)) (.int 0)=some (.bl (decide ((W.length:Int) > 0))):=by rw[hl];rfl
 have a12:(aw 11 (aj Wy (aB 5 (aV (asT (ag (getV 7) (ag (getV 8) aD))) (fun _=>some []))))) (bm N CS f s x4 (some (.v S)) x6 (some (.v (.lst A))) (some (.v (.lst B))) x9 x10 none none none none none none none)=some (.nx (bm N CS f s x4 (some (.v S)) x6 (some (.v (.lst A))) (some (.v (.lst B))) x9 x10 (some (.v (.lst (W.map dW)))) none none none none none none)):=by generalize W.map dW=Z at *;simp -implicitDefEqProofs [hWy,dvD]
 have a13:(aw 12 (asO (bH C mk (aV (d2 ixD (ac 5) (fun _=>some (.int 0))) (aV (d2 ixD (ac 5) (fun _=>some (.int 1))) (fun _=>some [])))))) (bm N CS f s x4 (some (.v S)) x6 (some (.v (.lst A))) (some (.v (.lst B))) x9 x10 (some (.v (.lst (W.map dW)))) none none none none none none)=some (.nx (bm N CS f s x4 (some (.v S)) x6 (some (.v (.lst A))) (some (.v (.lst B))) x9 x10 (some (.v (.lst (W.map dW)))) (some (.v (.ins C F1))) none none none none none)):=by generalize W.map dW=Z at *;rw[fP,gF,h1 _ _ (by simp -implicitDefEqProofs [s0,s1])];rfl
 have a14:(aw 13 (asO (bH C mk (aB 7 (aB 8 (fun _=>some [])))))) (bm N CS f s x4 (some (.v S)) x6 (some (.v (.lst A))) (some (.v (.lst B))) x9 x10 (some (.v (.lst (W.map dW)))) (some (.v (.ins C F1))) none none none none none)=some (.nx (bm N CS f s x4 (some (.v S)) x6 (some (.v (.lst A))) (some (.v (.lst B))) x9 x10 (some (.v (.lst (W.map dW)))) (some (.v (.ins C F1))) (some (.v (.ins C F2))) none none none none)):=by generalize W.map dW=Z at *;rw[fP,gF,h2 _ _ rfl];rfl
 generalize D.ins C F1=A1 at *;generalize D.ins C F2=A2 at *;generalize decide ((W.length:Int) > 0)=b at *;have a15:(aw 14 (aj Li (aV (getV 12) (aV (getV 13) (fun _=>some []))))) (bm N CS f s x4 (some (.v S)) x6 (some (.v (.lst A))) (some (.v (.lst B))) x9 x10 (some (.v (.lst (W.map dW)))) (some (.v A1)) (some (.v A2)) none none none none)=some (.nx (bm N CS f s x4 (some (.v S)) x6 (some (.v (.lst A))) (some (.v (.lst B))) x9 x10 (some (.v (.lst (W.map dW)))) (some (.v A1)) (some (.v A2)) (some (.v (.bl b))) none none none)):=by generalize W.map dW=Z at *;simp -implicitDefEqProofs [hLi,dvD]
 have a16:(dIf (orT (bX (asB (d1 (e8 "bool") (am 14)))) (asB (d2 neD (am 14) (d2 gtI (d1 aM (am 11)) (fun _=>some (.int 0)))))) (bb (fun _=>some (.bl false))) dNx) (bm N CS f s x4 (some (.v S)) x6 (some (.v (.lst A))) (some (.v (.lst B))) x9 x10 (some (.v (.lst (W.map dW)))) (some (.v A1)) (some (.v A2)) (some (.v (.bl b))) none none none)=some (.nx (bm N CS f s x4 (some (.v S)) x6 (some (.v (.lst A))) (some (.v (.lst B))) x9 x10 (some (.v (.lst (W.map dW)))) (some (.v A1)) (some (.v A2)) (some (.v (.bl b))) none none none)):=by
  have e1:bX (asB (d1 (e8 "bool") (am 14))) (bm N CS f s x4 (some (.v S)) x6 (some (.v (.lst A))) (some (.v (.lst B))) x9 x10 (some (.v (.lst (W.map dW)))) (some (.v A1)) (some (.v A2)) (some (.v (.bl b))) none none none)=some false:=rfl;have e2:asB (d2 neD (am 14) (d2 gtI (d1 aM (am 11)) (fun _=>some (.int 0)))) (bm N CS f s x4 (some (.v S)) x6 (some (.v (.lst A))) (some (.v (.lst B))) x9 x10 (some (.v (.lst (W.map dW)))) (some (.v A1)) (some (.v A2)) (some (.v (.bl b))) none none none)=some false:=by rw[yz];show(match(gtI (.int ((W.map dW).length:Int)) (.int 0)).bind fun y=>neD (.bl b) y with|some (.bl b)=>some b|_=>none)=some false;rw[hg,Ya,nb]
  rw[cU,yO,e1,e2];rfl
 have a17:(bt 15 (gm Al (aV (getV 12) (aV (getV 13) (fun _=>some []))))) (bm N CS f s x4 (some (.v S)) x6 (some (.v (.lst A))) (some (.v (.lst B))) x9 x10 (some (.v (.lst (W.map dW)))) (some (.v A1)) (some (.v A2)) (some (.v (.bl b))) none none none)=some (.nx (bm N CS f s x4 (some (.v S)) x6 (some (.v (.lst A))) (some (.v (.lst B))) x9 x10 (some (.v (.lst (W.map dW)))) (some (.v A1)) (some (.v A2)) (some (.v (.bl b))) (some (.own (.lst2 (W.map dI)) none)) none none)):=by generalize W.map dW=Z at *;generalize OD.lst2 (W.map dI)=O at *;simp -implicitDefEqProofs [hAl,dvO]
 have a18:(dIf (du 15 (bX (asB (aj La (aV (getV 15) (aV (getV 11) (fun _=>some []))))))) (bb (fun _=>some (.bl false))) dNx) (bm N CS f s x4 (some (.v S)) x6 (some (.v (.lst A))) (some (.v (.lst B))) x9 x10 (some (.v (.lst (W.map dW)))) (some (.v A1)) (some (.v A2)) (some (.v (.bl b))) (some (.own (.lst2 (W.map dI)) none)) none none)=some (.nx (bm N CS f s x4 (some (.v S)) x6 (some (.v (.lst A))) (some (.v (.lst B))) x9 x10 (some (.v (.lst (W.map dW)))) (some (.v A1)) (some (.v A2)) (some (.v (.bl b))) (some (.own (.lst2 (W.map dI)) none)) none none)):=by rw[cU,gq];show((bX _ (bm N CS f s x4 (some (.v S)) x6 (some (.v (.lst A))) (some (.v (.lst B))) x9 x10 (some (.v (.lst (W.map dW)))) (some (.v A1)) (some (.v A2)) (some (.v (.bl b))) (some (.v (OD.d (.lst2 (W.map dI))))) none none)).bind _)=_;rw[hd];generalize OD.lst2 (W.map dI)=O at *;generalize W.map dW=Z at *;simp -implicitDefEqProofs [hLa,dvD]
 rw[ao a12,ao a13,ao a14,ao a15,ao a16,ao a17,ao a18]
end
section
variable{C:Addr}{Mi Wb Gr Al La Cw:Dm}{mk:Dz}{N CS A B A3 B3 R3 W4 W5 K4 T4':List D}{f s M m6:Int}{S A1 A2:D}{F3 F4:List (Str×D)}{W:List (List Int)}{x4 x9 x10 x14:Option DV}
theorem AR(w4:bG CS (some 8) (some 14)=W4)(hGr:Gr [.v S,.v (.lst W4),.v (.int (s/3)),.v (.int M)]=some (.v (.tup [.lst A3,.lst B3,.lst R3])))(h3:∀(g:Dv) (ρ:DF),g ρ=some [.v (.lst A3),.v (.lst B3)]->bH C mk g ρ=some (.ins C F3))(hC3:Cw [.v A1,.v S,.v (.ins C F3),.v (.tup [.lst A3,.lst B3])]=some (.v (.bl true)))
  (w5:bG CS (some 3) (some 8)=W5) (h6:Mi [.v (.int f),.v (.int 6)]=some (.v (.int m6))) (hWb:Wb [.v (.lst W5),.v (.int (s/5)),.v (.int (1+m6%3))]=some (.v (.tup [.lst K4,.lst T4']))) (h4:∀(g:Dv) (ρ:DF),g ρ=some [.v (.lst K4),.v (.lst T4')]->bH C mk g ρ=some (.ins C F4)) (hC4:Cw [.v (.ins C F4),.v (.tup [.lst K4,.lst T4']),.v A2,.v (.tup [.lst A,.lst B])]=some (.v (.bl true)))
  (hW:W.length<=720) (hw7:∀w∈W,w.length<=7) (hAl:Al [.v A1,.v A2]=some (.own (.lst2 (W.map dI)) none)) (hLa:La [.v (.lst (W.map dW)),.v (.lst (W.map dW))]=some (.v (.bl true))) :
  dl ((al (aw 16 (slT (aj Gr (aB 5 (aV (asO (asL (slL (ac 2) (bI (fun _=>some (.int 8))) (bI (fun _=>some (.int 14)))))) (aV (d2 aZ (ac 3) (fun _=>some (.int 3))) (aB 6 (fun _=>some [])))))) bNo (bI (fun _=>some (.int 2)))))
  (al (dIf (bX (asB (aj Cw (aV (getV 12) (aB 5 (aV (asO (bH C mk (aV (d2 ixD (ac 16) (fun _=>some (.int 0))) (aV (d2 ixD (ac 16) (fun _=>some (.int 1))) (fun _=>some []))))) (aB 16 (fun _=>some [])))))))) (bb (fun _=>some (.bl false))) dNx)
  (al (aw 17 (aj Wb (aV (asO (asL (slL (ac 2) (bI (fun _=>some (.int 3))) (bI (fun _=>some (.int 8)))))) (aV (d2 aZ (ac 3) (fun _=>some (.int 5))) (aV (d2 aW (fun _=>some (.int 1)) (d2 aG (aj Mi (aB 1 (aV (fun _=>some (.int 6)) (fun _=>some [])))) (fun _=>some (.int 3)))) (fun _=>some []))))))
  (al (dIf (bX (asB (aj Cw (aV (asO (bH C mk (aV (d2 ixD (ac 17) (fun _=>some (.int 0))) (aV (d2 ixD (ac 17) (fun _=>some (.int 1))) (fun _=>some []))))) (aB 17 (aV (getV 13) (aV (asT (ag (getV 7) (ag (getV 8) aD))) (fun _=>some [])))))))) (bb (fun _=>some (.bl false))) dNx)
  (al (iZ 15 aD)
  (al (dIf (asB (d2 gtI (d1 aM (am 11)) (fun _=>some (.int 0)))) (fz 15 0 (fun _=>some (.int 9))) dNx)
  (bb (aj La (aV (aj Al (aV (getV 12) (aV (getV 13) (fun _=>some [])))) (aV (getV 11) (fun _=>some []))))))))))) (bm N CS f s x4 (some (.v S)) (some (.v (.int M))) (some (.v (.lst A))) (some (.v (.lst B))) x9 x10 (some (.v (.lst (W.map dW)))) (some (.v A1)) (some (.v A2)) x14 (some (.own (.lst2 (W.map dI)) none)) none none))=some (.v (.bl true)):=by
 have hl:((W.map dW).length:Int)=(W.length:Int):=by rw[Yb]
 have hd:OD.d (.lst2 (W.map dI))=.lst (W.map dW):=Zi D.lst (l2d W);have d3:=bq s 3 (by decide);have d5:=bq s 5 (by decide);have m3:=ay m6 3 (by decide);have a19:∀x15,(aw 16 (slT (aj Gr (aB 5 (aV (asO (asL (slL (ac 2) (bI (fun _=>some (.int 8))) (bI (fun _=>some (.int 14)))))) (aV (d2 aZ (ac 3) (fun _=>some (.int 3))) (aB 6 (fun _=>some [])))))) bNo (bI (fun _=>some (.int 2))))) (bm N CS f s x4 (some (.v S)) (some (.v (.int M))) (some (.v (.lst A))) (some (.v (.lst B))) x9 x10 (some (.v (.lst (W.map dW)))) (some (.v A1)) (some (.v A2)) x14 x15 none none)=some (.nx (bm N CS f s x4 (some (.v S)) (some (.v (.int M))) (some (.v (.lst A))) (some (.v (.lst B))) x9 x10 (some (.v (.lst (W.map dW)))) (some (.v A1)) (some (.v A2)) x14 x15 (some (.v (.tup [.lst A3,.lst B3]))) none)):=fun x15=>by
  have e:aj Gr (aB 5 (aV (asO (asL (slL (ac 2) (bI (fun _=>some (.int 8))) (bI (fun _=>some (.int 14)))))) (aV (d2 aZ (ac 3) (fun _=>some (.int 3))) (aB 6 (fun _=>some []))))) (bm N CS f s x4 (some (.v S)) (some (.v (.int M))) (some (.v (.lst A))) (some (.v (.lst B))) x9 x10 (some (.v (.lst (W.map dW)))) (some (.v A1)) (some (.v A2)) x14 x15 none none)=some (.tup [.lst A3,.lst B3,.lst R3]):=by generalize D.tup [.lst A3,.lst B3,.lst R3]=T3 at *;generalize W.map dW=Z at *;simp -implicitDefEqProofs [gu,w4,hGr,d3,dvD]
  rw[fP,xN,e];rfl
 have a20:∀x15,(dIf (bX (asB (aj Cw (aV (getV 12) (aB 5 (aV (asO (bH C mk (aV (d2 ixD (ac 16) (fun _=>some (.int 0))) (aV (d2 ixD (ac 16) (fun _=>some (.int 1))) (fun _=>some []))))) (aB 16 (fun _=>some [])))))))) (bb (fun _=>some (.bl false))) dNx) (bm N CS f s x4 (some (.v S)) (some (.v (.int M))) (some (.v (.lst A))) (some (.v (.lst B))) x9 x10 (some (.v (.lst (W.map dW)))) (some (.v A1)) (some (.v A2)) x14 x15 (some (.v (.tup [.lst A3,.lst B3]))) none)=some (.nx (bm N CS f s x4 (some (.v S)) (some (.v (.int M))) (some (.v (.lst A))) (some (.v (.lst B))) x9 x10 (some (.v (.lst (W.map dW)))) (some (.v A1)) (some (.v A2)) x14 x15 (some (.v (.tup [.lst A3,.lst B3]))) none)):=fun x15=>by
  have e:asO (bH C mk (aV (d2 ixD (ac 16) (fun _=>some (.int 0))) (aV (d2 ixD (ac 16) (fun _=>some (.int 1))) (fun _=>some [])))) (bm N CS f s x4 (some (.v S)) (some (.v (.int M))) (some (.v (.lst A))) (some (.v (.lst B))) x9 x10 (some (.v (.lst (W.map dW)))) (some (.v A1)) (some (.v A2)) x14 x15 (some (.v (.tup [.lst A3,.lst B3]))) none)=some (.ins C F3):=by rw[gF,h3 _ _ rfl];rfl
  generalize asO (bH C mk (aV (d2 ixD (ac 16) (fun _=>some (.int 0))) (aV (d2 ixD (ac 16) (fun _=>some (.int 1))) (fun _=>some []))))=Q at *;generalize D.tup [.lst A3,.lst B3]=T3 at *;generalize D.ins C F3=I3 at *;generalize W.map dW=Z at *;simp -implicitDefEqProofs [e,hC3,dvD]
 have a21:∀x15 x16,(aw 17 (aj Wb (aV (asO (asL (slL (ac 2) (bI (fun _=>some (.int 3))) (bI (fun _=>some (.int 8)))))) (aV (d2 aZ (ac 3) (fun _=>some (.int 5))) (aV (d2 aW (fun _=>some (.int 1)) (d2 aG (aj Mi (aB 1 (aV (fun _=>some (.int 6)) (fun _=>some [])))) (fun _=>some (.int 3)))) (fun _=>some [])))))) (bm N CS f s x4 (some (.v S)) (some (.v (.int M))) (some (.v (.lst A))) (some (.v (.lst B))) x9 x10 (some (.v (.lst (W.map dW)))) (some (.v A1)) (some (.v A2)) x14 x15 x16 none)=some (.nx (bm N CS f s x4 (some (.v S)) (some (.v (.int M))) (some (.v (.lst A))) (some (.v (.lst B))) x9 x10 (some (.v (.lst (W.map dW)))) (some (.v A1)) (some (.v A2)) x14 x15 x16 (some (.v (.tup [.lst K4,.lst T4']))))):=fun x15 x16=>by
  generalize D.tup [.lst K4,.lst T4']=T3 at *;generalize W.map dW=Z at *;simp -implicitDefEqProofs [gu,w5,h6,m3,d5,hWb,dvD]
 have a22:∀x15 x16,(dIf (bX (asB (aj Cw (aV (asO (bH C mk (aV (d2 ixD (ac 17) (fun _=>some (.int 0))) (aV (d2 ixD (ac 17) (fun _=>some (.int 1))) (fun _=>some []))))) (aB 17 (aV (getV 13) (aV (asT (ag (getV 7) (ag (getV 8) aD))) (fun _=>some [])))))))) (bb (fun _=>some (.bl false))) dNx) (bm N CS f s x4 (some (.v S)) (some (.v (.int M))) (some (.v (.lst A))) (some (.v (.lst B))) x9 x10 (some (.v (.lst (W.map dW)))) (some (.v A1)) (some (.v A2)) x14 x15 x16 (some (.v (.tup [.lst K4,.lst T4']))))=some (.nx (bm N CS f s x4 (some (.v S)) (some (.v (.int M))) (some (.v (.lst A))) (some (.v (.lst B))) x9 x10 (some (.v (.lst (W.map dW)))) (some (.v A1)) (some (.v A2)) x14 x15 x16 (some (.v (.tup [.lst K4,.lst T4']))))):=fun x15 x16=>by
  have e:asO (bH C mk (aV (d2 ixD (ac 17) (fun _=>some (.int 0))) (aV (d2 ixD (ac 17) (fun _=>some (.int 1))) (fun _=>some [])))) (bm N CS f s x4 (some (.v S)) (some (.v (.int M))) (some (.v (.lst A))) (some (.v (.lst B))) x9 x10 (some (.v (.lst (W.map dW)))) (some (.v A1)) (some (.v A2)) x14 x15 x16 (some (.v (.tup [.lst K4,.lst T4']))))=some (.ins C F4):=by rw[gF,h4 _ _ rfl];rfl
  generalize asO (bH C mk (aV (d2 ixD (ac 17) (fun _=>some (.int 0))) (aV (d2 ixD (ac 17) (fun _=>some (.int 1))) (fun _=>some []))))=Q at *;generalize D.tup [.lst K4,.lst T4']=T3 at *;generalize D.ins C F4=I4 at *;generalize W.map dW=Z at *;simp -implicitDefEqProofs [e,hC4,dvD]
 have a23:∀x16 x17,(iZ 15 aD) (bm N CS f s x4 (some (.v S)) (some (.v (.int M))) (some (.v (.lst A))) (some (.v (.lst B))) x9 x10 (some (.v (.lst (W.map dW)))) (some (.v A1)) (some (.v A2)) x14 (some (.own (.lst2 (W.map dI)) none)) x16 x17)=some (.nx (bm N CS f s x4 (some (.v S)) (some (.v (.int M))) (some (.v (.lst A))) (some (.v (.lst B))) x9 x10 (some (.v (.lst (W.map dW)))) (some (.v A1)) (some (.v A2)) x14 (some (.own (.lst2 (W.map dI++[[]])) none)) x16 x17)):=fun x16 x17=>by
  have h:(W.map dI).length<16777216:=by rw[Yb];omega
  rw[sH];show(if(W.map dI).length<16777216 then _ else none)=_;rw[Yi h];rfl
 have a24:∀x16 x17,∃x15,(dIf (asB (d2 gtI (d1 aM (am 11)) (fun _=>some (.int 0)))) (fz 15 0 (fun _=>some (.int 9))) dNx) (bm N CS f s x4 (some (.v S)) (some (.v (.int M))) (some (.v (.lst A))) (some (.v (.lst B))) x9 x10 (some (.v (.lst (W.map dW)))) (some (.v A1)) (some (.v A2)) x14 (some (.own (.lst2 (W.map dI++[[]])) none)) x16 x17)=some (.nx (bm N CS f s x4 (some (.v S)) (some (.v (.int M))) (some (.v (.lst A))) (some (.v (.lst B))) x9 x10 (some (.v (.lst (W.map dW)))) (some (.v A1)) (some (.v A2)) x14 x15 x16 x17)):=fun x16 x17=>by
  have e:asB (d2 gtI (d1 aM (am 11)) (fun _=>some (.int 0))) (bm N CS f s x4 (some (.v S)) (some (.v (.int M))) (some (.v (.lst A))) (some (.v (.lst B))) x9 x10 (some (.v (.lst (W.map dW)))) (some (.v A1)) (some (.v A2)) x14 (some (.own (.lst2 (W.map dI++[[]])) none)) x16 x17)=some (decide ((0:Int)<((W.map dW).length:Int))):=rfl;rw[cU,e,Ya];cases W with
  |nil=>exact⟨some (.own (.lst2 [[]]) none),rfl⟩
  |cons w W=>
   rw[Yi (YL (by rw[YM,Yu];omega)),qT];have h:(dI w).length<16777216:=by have:=hw7 w Yf;unfold dI;rw[Yb];omega
   refine⟨some (.own (.lst2 (((w::W).map dI++[[]]).set 0 (dI w++[D.int 9]))) none),?_⟩;exact Yi h
 obtain⟨x15,e24⟩:=a24 (some (.v (.tup [.lst A3,.lst B3]))) (some (.v (.tup [.lst K4,.lst T4'])));rw[ao (a19 _),ao (a20 _),ao (a21 _ _),ao (a22 _ _),ao (a23 _ _),ao e24];generalize D.tup [.lst A3,.lst B3]=T3 at *;generalize D.tup [.lst K4,.lst T4']=T4 at *;generalize OD.lst2 (W.map dI)=O at *;generalize W.map dW=Z at *;simp -implicitDefEqProofs [hAl,hd,hLa,dvD]
end
theorem kX(C:Addr){ks1 ks2:List Str}{ts1 ts2:List T4}{n1 n2:Int}{kv1 kv2:List (List Key×D)}(hn1:1<=n1/\n1<=6)(hn2:1<=n2/\n2<=6)(hk1:okK n1 ks1)(hk2:okK n2 ks2)(hs1:okS n1 ts1)(hs2:okS n2 ts2)(J1:JOk kv1 ts1)(J2:JOk kv2 ts2) :
  fX C [.v (tW ks1 ts1),.v (tW ks2 ts2)]=some (.own (.lst ((wys ks1 ks2 ts1 ts2 n2).map dW)) none) /\
  i5 C [.v (wB C ks1 (.lst (srt ts1)) kv1),.v (wB C ks2 (.lst (srt ts2)) kv2)]=some (.own (.lst2 ((wys ks1 ks2 ts1 ts2 n2).map dI)) none) /\
  fK C [.v (wB C ks1 (.lst (srt ts1)) kv1),.v (wB C ks2 (.lst (srt ts2)) kv2)]=some (.v (.bl (decide (((wys ks1 ks2 ts1 ts2 n2).length:Int) > 0)))):=
 ⟨wg C ks1 ks2 ts1 ts2 n1 n2 hn1 hn2 hk1 hk2 hs1.1 hs2.1,zC (by omega) (by omega) hk1 hk2 hs1.1 J1 J2 (o_ (by have:=hk1.1;omega) hn2.2),vW (by omega) (by omega) hk1 hk2 hs1.1 J1 J2⟩
theorem vq{cs:List Int}(h:cs.length=16):1<=(bG cs (some 1) (some 6)).length/\1<=(bG cs (some 6) none).length/\1<=(bG cs (some 3) (some 8)).length:=by unfold bG;rw[YR,Xj,YR,Xj,YR,Xj,h];exact⟨by decide,by decide,by decide⟩
theorem law_true(C:Addr)(ns:List Int)(hl:ns.length<=63):tq C [.v (.lst (ns.map L2.D.int))]=some (.v (.bl true)):=by
 obtain⟨f,hFo⟩:=t_ C ns;obtain⟨cs,hCe,hc⟩:=sW C ns 0 (by decide) hl;obtain⟨c0,e0⟩:∃c:Int,atI (cs.map D.int) 0=some (.int c):=by obtain⟨x,_,e⟩:=dY (l:=cs) D.int (i:=0) (by decide) (by omega);exact⟨x,e⟩
 obtain⟨s,h1,s0,s1⟩:=dD C (c0+f) 1 (by decide);obtain⟨m2,h2,_,_⟩:=dD C c0 2 (by decide);obtain⟨m5,h5,_,_⟩:=dD C f 5 (by decide);obtain⟨m3,h3,_,_⟩:=dD C f 3 (by decide);obtain⟨m4,h4,_,_⟩:=dD C f 4 (by decide);obtain⟨m6,h6,_,_⟩:=dD C f 6 (by decide);obtain⟨z,hz,eb⟩:=BC (N:=ns.map D.int) (CS:=cs.map D.int) (s:=s) (z:=1+m2%4) h5 (by omega);obtain⟨l1,l2,l3⟩:=vq hc;have w1:bG (cs.map D.int) (some 1) (some 6)=(bG cs (some 1) (some 6)).map .int:=cz ..;have w2:bG (cs.map D.int) (some 6) (some 12)=(bG cs (some 6) (some 12)).map .int:=cz ..;have w3:bG (cs.map D.int) (some 6) none=(bG cs (some 6) none).map .int:=cz ..;have w4:bG (cs.map D.int) (some 8) (some 14)=(bG cs (some 8) (some 14)).map .int:=cz ..;have w5:bG (cs.map D.int) (some 3) (some 8)=(bG cs (some 3) (some 8)).map .int:=cz ..;obtain⟨ks,ts,hWb,kl,ko,tl,tk⟩:=oY C (bG cs (some 1) (some 6)) s z l1 ⟨s0,s1⟩ (by omega);obtain⟨M,hM1,hM2,ec⟩:=AX (N:=ns.map D.int) (f:=f) (s:=s) (G:=(al (eR [7,8,9] (aj (jd C) (aB 5 (aV (asO (asL (slL (ac 2) (bI (fun _=>some (.int 6))) (bI (fun _=>some (.int 12)))))) (aB 3 (aB 6 (fun _=>some [])))))))
  (al (aw 10 (d2 aG (aj (b6 C) (aB 1 (aV (fun _=>some (.int 4)) (fun _=>some [])))) (fun _=>some (.int 4))))
  (al (dIf (asB (d2 eqD (am 10) (fun _=>some (.int 0)))) (eR [7,8] (aj (ia C) (aV (asO (asL (slL (ac 2) (bI (fun _=>some (.int 6))) bNo))) (aB 3 (aV (getV 6) (fun _=>some [])))))) dNx)
  (al (dIf (cR (asB (d2 eqD (am 10) (fun _=>some (.int 1)))) (asB (d2 gtI (ac 6) (fun _=>some (.int 1))))) (aw 8 (asO (asL (aS 1 [6] (bL 8) (setV 0) bC (asT (ag (d2 ixD (ac 0) (fun _=>some (.int 0))) (ag (aj (nh C) (aB 0 (aB 1 (fun _=>some [])))) (ag (d2 ixD (ac 0) (fun _=>some (.int 2))) (ag (d2 ixD (ac 0) (fun _=>some (.int 3))) aD))))))))) dNx)
  (al (aw 11 (aj (fX C) (aB 5 (aV (asT (ag (getV 7) (ag (getV 8) aD))) (fun _=>some [])))))
  (al (aw 12 (asO (bH C (eS C) (aV (d2 ixD (ac 5) (fun _=>some (.int 0))) (aV (d2 ixD (ac 5) (fun _=>some (.int 1))) (fun _=>some []))))))
  (al (aw 13 (asO (bH C (eS C) (aB 7 (aB 8 (fun _=>some []))))))
  (al (aw 14 (aj (fK C) (aV (getV 12) (aV (getV 13) (fun _=>some [])))))
  (al (dIf (orT (bX (asB (d1 (e8 "bool") (am 14)))) (asB (d2 neD (am 14) (d2 gtI (d1 aM (am 11)) (fun _=>some (.int 0)))))) (bb (fun _=>some (.bl false))) dNx)
  (al (bt 15 (gm (i5 C) (aV (getV 12) (aV (getV 13) (fun _=>some [])))))
  (al (dIf (du 15 (bX (asB (aj (fW C) (aV (getV 15) (aV (getV 11) (fun _=>some []))))))) (bb (fun _=>some (.bl false))) dNx)
  (al (aw 16 (slT (aj (jd C) (aB 5 (aV (asO (asL (slL (ac 2) (bI (fun _=>some (.int 8))) (bI (fun _=>some (.int 14)))))) (aV (d2 aZ (ac 3) (fun _=>some (.int 3))) (aB 6 (fun _=>some [])))))) bNo (bI (fun _=>some (.int 2)))))
  (al (dIf (bX (asB (aj (jp C) (aV (getV 12) (aB 5 (aV (asO (bH C (eS C) (aV (d2 ixD (ac 16) (fun _=>some (.int 0))) (aV (d2 ixD (ac 16) (fun _=>some (.int 1))) (fun _=>some []))))) (aB 16 (fun _=>some [])))))))) (bb (fun _=>some (.bl false))) dNx)
  (al (aw 17 (aj (ia C) (aV (asO (asL (slL (ac 2) (bI (fun _=>some (.int 3))) (bI (fun _=>some (.int 8)))))) (aV (d2 aZ (ac 3) (fun _=>some (.int 5))) (aV (d2 aW (fun _=>some (.int 1)) (d2 aG (aj (b6 C) (aB 1 (aV (fun _=>some (.int 6)) (fun _=>some [])))) (fun _=>some (.int 3)))) (fun _=>some []))))))
  (al (dIf (bX (asB (aj (jp C) (aV (asO (bH C (eS C) (aV (d2 ixD (ac 17) (fun _=>some (.int 0))) (aV (d2 ixD (ac 17) (fun _=>some (.int 1))) (fun _=>some []))))) (aB 17 (aV (getV 13) (aV (asT (ag (getV 7) (ag (getV 8) aD))) (fun _=>some [])))))))) (bb (fun _=>some (.bl false))) dNx)
  (al (iZ 15 aD)
  (al (dIf (asB (d2 gtI (d1 aM (am 11)) (fun _=>some (.int 0)))) (fz 15 0 (fun _=>some (.int 9))) dNx)
  (bb (aj (fW C) (aV (aj (i5 C) (aV (getV 12) (aV (getV 13) (fun _=>some [])))) (aV (getV 11) (fun _=>some []))))))))))))))))))))))) hz w1 hWb h3
 obtain⟨ka,ta,wy,hGr,oa,sa,_⟩:=lY C (bG cs (some 6) (some 12)) ks ts s z M ⟨s0,s1⟩ hz.1 ⟨hM1,by omega⟩ ⟨kl,ko⟩ ⟨tl,tk⟩;obtain⟨kb,tb,hWb2,kbl,kbo,tbl,tbk⟩:=oY C (bG cs (some 6) none) s M l2 ⟨s0,s1⟩ (by omega);obtain⟨k2,t2,x9,x10,ok2,os2,ed⟩:=zW (N:=ns.map D.int) (x4:=some (.v (.int z))) w2 w3 hGr h4 hWb2 oa sa ⟨kbl,kbo⟩ ⟨tbl,tbk⟩ (fun q t=>xM C t M q);obtain⟨kv1,J1,mk1⟩:=lH C ks ts z (by omega) ⟨kl,ko⟩ ⟨tl,tk⟩;obtain⟨kv2,J2,mk2⟩:=lH C k2 t2 M (by omega) ok2 os2;obtain⟨b1,b2,b3⟩:=kX C (by omega) (by omega) ⟨kl,ko⟩ ok2 ⟨tl,tk⟩ os2 J1 J2;have hLa:=f8 C (wys ks k2 ts t2 M);have ee:=Bh (N:=ns.map D.int) (CS:=cs.map D.int) (f:=f) (s:=s) (x4:=some (.v (.int z))) (x6:=some (.v (.int M))) (x9:=x9) (x10:=x10) (A:=k2.map D.str) (B:=t2.map dT4) rfl b1 rfl rfl mk1 mk2 b3 b2 hLa;obtain⟨k3,t3,wy3,hGr3,ok3,os3,_⟩:=lY C (bG cs (some 8) (some 14)) ks ts (s/3) z M (by omega) hz.1 ⟨hM1,by omega⟩ ⟨kl,ko⟩ ⟨tl,tk⟩;obtain⟨kv3,J3,mk3⟩:=lH C k3 t3 M (by omega) ok3 os3;obtain⟨d1,d2,d3⟩:=kX C (by omega) (by omega) ⟨kl,ko⟩ ok3 ⟨tl,tk⟩ os3 J1 J3;have hC3:=mR (b:=true) d1 d2 d3;obtain⟨k4,t4,hWb4,k4l,k4o,t4l,t4k⟩:=oY C (bG cs (some 3) (some 8)) (s/5) (1+m6%3) l3 (by omega) (by omega);obtain⟨kv4,J4,mk4⟩:=lH C k4 t4 (1+m6%3) (by omega) ⟨k4l,k4o⟩ ⟨t4l,t4k⟩;obtain⟨g1,g2,g3⟩:=kX C (by omega) (by omega) ⟨k4l,k4o⟩ ok2 ⟨t4l,t4k⟩ os2 J4 J2;have hC4:=mR (b:=true) g1 g2 g3;unfold tq g_q11;rw[uP,show aQ 18 1 [.v (.lst (ns.map D.int))]=[some (.v (.lst (ns.map D.int))),none,none,none,none,none,none,none,none,none,none,none,none,none,none,none,none,none]from rfl];rw[Be hFo hCe e0 h1 h2,ao eb,ec,ed,ee];exact AR w4 hGr3 mk3 hC3 w5 h6 hWb4 mk4 hC4 (o_ (by omega) hM2) (fun w hw=>by rw[wf hw];omega) b2 hLa
def spLaw(K:Kq):Sp:=fun vs H Q _=>∃(a:Addr) (ns:List Int),vs=[.ref a]/\SqL K H a (ns.map V.int)/\ns.length<=63/\∀H',Q (.bl true) H'
theorem gM{K:Kq}{H:Hp}:∀ns:List Int,Reps K H (ns.map V.int) (ns.map D.int)
 |[]=>.nil
 |_::ns=>.cons .int (gM ns)
theorem qC{K:Kq}{m:Dm}(hm:∀ns:List Int,ns.length<=63->m [.v (.lst (ns.map D.int))]=some (.v (.bl true))):∀vs H Q E,spLaw K vs H Q E->spD K m vs H Q E:=by rintro vs H Q E ⟨a,ns,rfl,hS,hl,hQ⟩;refine⟨fun _=>none,H,_,_,hm ns hl,⟨fun _ _ e=>e,fun _ _ e=>(by cases e),fun _ _ e=>(by cases e)⟩,.cons rfl (show Rep K H _ _ from .lst hS (gM ns)) .nil,fun v F' H' _ _ r=>?_⟩;cases r;exact hQ H'
theorem fJ{α:Type}{us:List α}(h:us.length=1):∃a,us=[a]:=List.length_eq_one_iff.mp h
theorem cX{α:Type}{us:List α}(h:us.length=2):∃a1 a2,us=[a1,a2]:=by
 cases us with
 |nil=>cases h
 |cons a r=>
  obtain⟨a2,rfl⟩:=fJ (Nat.succ.inj h);exact⟨a,a2,rfl⟩
theorem gP{α:Type}{us:List α}(h:us.length=3):∃a1 a2 a3,us=[a1,a2,a3]:=by
 cases us with
 |nil=>cases h
 |cons a r=>
  obtain⟨a2,a3,rfl⟩:=cX (Nat.succ.inj h);exact⟨a,a2,a3,rfl⟩
theorem qq{α:Type}{us:List α}(h:us.length=4):∃a1 a2 a3 a4,us=[a1,a2,a3,a4]:=by
 cases us with
 |nil=>cases h
 |cons a r=>
  obtain⟨a2,a3,a4,rfl⟩:=gP (Nat.succ.inj h);exact⟨a,a2,a3,a4,rfl⟩
theorem zX{α:Type}{us:List α}(h:us.length=5):∃a1 a2 a3 a4 a5,us=[a1,a2,a3,a4,a5]:=by
 cases us with
 |nil=>cases h
 |cons a r=>
  obtain⟨a2,a3,a4,a5,rfl⟩:=qq (Nat.succ.inj h);exact⟨a,a2,a3,a4,a5,rfl⟩
def kE(P:Params)(x:Str)(t:Nat)(v:Value):DictEntry:=⟨PyData.keyHash P x,.str x t,v⟩
def fO(n q:Str)(s:Stmt)(m:Str)(t c:Nat):Obj:=⟨.type "function",none,.func (PySem.W.fnOf n q (defArgs s) (defBody s) (defScope s) .none .none .none (.str m t) none (.ref c) .none),#[]⟩
def cO(n:Str)(t:Nat)(q:Str)(u v:Nat)(l a f:Int)(r:Nat)(g:Int)(r2 r3:Nat)(h l2:Int)(y:Nat)(c d:Value:=.none):Obj:={cls:=.type "code",data:=.fields #[.str n t,.str q u,.str "/claim/cut.py" v,.int l 0,.int a 0,.int 0 0,.int 0 0,.int f 0,.ref r,.bool true,.int g 0,.ref r2,.none,c,d,.ref r3,.int h 0,.int l2 0,.str "/claim/cut.py" y]}
def kz:Str := "__doc__"
def KK:Params->PySem.W.Frag:=fun P=>(fun(_:kz = "__doc__")=>
(nat_lit 3,{cls:=.type "dict",data:=.dict #[kE P "__name__" 165 (.str "law_tieword_k31_whole_all_ways" 455),kE P "__doc__" 166 (.none),kE P "__package__" 167 (.none),kE P "__loader__" 168 (.builtin "__main__.__loader__#opaque"),kE P "__spec__" 169 (.none),kE P "__annotations__" 170 (.ref 6),kE P "__builtins__" 171 (.ref 4),kE P "__file__" 173 (.str "/claim/cut.py" 172),kE P "__cached__" 174 (.none),kE P "_wall" 193 (.ref 21),kE P "WebError" 213 (.ref 31),kE P "TooGreat" 229 (.ref 44),kE P "BadPlace" 245 (.ref 56),kE P "BadTie" 261 (.ref 68),kE P "TooMany" 277 (.ref 80),kE P "MOST_PLACES" 281 (.int 7 280),kE P "MOST_TIES" 283 (.int 12 282),kE P "MOST_LETTERS" 285 (.int 3 284),kE P "is_place_kind" 291 (.ref 87),kE P "is_tie_kind" 298 (.ref 94),kE P "is_tie" 307 (.ref 101),kE P "refuse_wrong" 317 (.ref 108),kE P "lesser_first" 324 (.ref 115),kE P "put_pair" 333 (.ref 122),kE P "joins_of" 345 (.ref 129),kE P "Web" 398 (.ref 165),kE P "MOST_TOLD" 400 (.int 720 399),kE P "stands_in" 408 (.ref 174),kE P "last_fits" 414 (.ref 179),kE P "go_on" 427 (.ref 186),kE P "first_ways" 437 (.ref 193),kE P "all_ways" 446 (.ref 200),kE P "lies_in" 454 (.ref 207),kE P "_law_cells" 465 (.ref 214),kE P "_law_mix" 474 (.ref 221),kE P "_law_fold" 483 (.ref 228),kE P "_law_whole" 490 (.ref 235),kE P "_law_word" 496 (.ref 240),kE P "_law_kind" 506 (.ref 247),kE P "_law_shuffled" 516 (.ref 254),kE P "_law_family" 522 (.ref 259),kE P "_law_web" 528 (.ref 264),kE P "_law_great" 534 (.ref 269),kE P "_law_table" 550 (.ref 276),kE P "_law_lists" 556 (.ref 281),kE P "_law_is_way" 571 (.ref 288),kE P "_law_ways" 577 (.ref 293),kE P "_law_lists_are" 589 (.ref 300),kE P "_law_other_end" 598 (.ref 307),kE P "_law_crosswise" 609 (.ref 314),kE P "law" 615 (.ref 319)] 51}) ::
(nat_lit 86,cO "is_place_kind" 286 "is_place_kind" 287 288 19 1 3 83 181 84 85 289 19 290) ::
(nat_lit 87,fO "is_place_kind" "is_place_kind" m_ "tieword.webs" 278 86) ::
(nat_lit 93,cO "is_tie_kind" 292 "is_tie_kind" 293 294 22 1 3 88 181 89 92 296 22 297 (.ref 90) (.ref 91)) ::
(nat_lit 94,fO "is_tie_kind" "is_tie_kind" oM "tieword.webs" 278 93) ::
(nat_lit 100,cO "is_tie" 299 "is_tie" 300 301 24 2 3 95 181 96 99 305 24 306 (.ref 97) (.ref 98)) ::
(nat_lit 101,fO "is_tie" "is_tie" nQ "tieword.webs" 278 100) ::
(nat_lit 107,cO "refuse_wrong" 308 "refuse_wrong" 309 310 27 2 3 102 181 103 106 315 27 316 (.ref 104) (.ref 105)) ::
(nat_lit 108,fO "refuse_wrong" "refuse_wrong" jn "tieword.webs" 278 107) ::
(nat_lit 114,cO "lesser_first" 318 "lesser_first" 319 320 38 1 3 109 181 110 113 322 38 323 (.ref 111) (.ref 112)) ::
(nat_lit 115,fO "lesser_first" "lesser_first" iI "tieword.webs" 278 114) ::
(nat_lit 121,cO "put_pair" 325 "put_pair" 326 327 42 3 3 116 181 117 120 331 42 332 (.ref 118) (.ref 119)) ::
(nat_lit 122,fO "put_pair" "put_pair" jG "tieword.webs" 278 121) ::
(nat_lit 128,cO "joins_of" 334 "joins_of" 335 336 44 1 3 123 181 124 127 343 44 344 (.ref 125) (.ref 126)) ::
(nat_lit 129,fO "joins_of" "joins_of" oK "tieword.webs" 278 128) ::
(nat_lit 140,cO "__init__" 358 "Web.__init__" 359 360 52 3 3 137 181 138 139 361 52 362) ::
(nat_lit 141,fO "__init__" "Web.__init__" nj "tieword.webs" 278 140) ::
(nat_lit 147,cO "size" 364 "Web.size" 365 366 58 1 3 142 181 143 146 368 58 369 (.ref 144) (.ref 145)) ::
(nat_lit 148,fO "size" "Web.size" n9 "tieword.webs" 278 147) ::
(nat_lit 154,cO "between" 371 "Web.between" 372 373 61 3 3 149 181 150 153 377 61 378 (.ref 151) (.ref 152)) ::
(nat_lit 155,fO "between" "Web.between" oq "tieword.webs" 278 154) ::
(nat_lit 164,{cls:=.type "dict",data:=.dict #[kE P "__module__" 353 (.str "tieword.webs" 278),kE P "__firstlineno__" 357 (.int 50 356),kE P "__init__" 363 (.ref 141),kE P "size" 370 (.ref 148),kE P "between" 379 (.ref 155),kE P "near" 387 (.ref 162),kE P "__static_attributes__" 391 (.ref 163),kE P "__dict__" 393 (.ref 166),kE P "__weakref__" 395 (.ref 167),kE P "__doc__" 396 (.none)] 4}) ::
(nat_lit 165,{cls:=.type "type",data:=.cls {name := "Web",bases:=[.type "object"],mro:=[.ref 165,.type "object"],ns:=164,qualname := "Web" },slots:=#[none,none,some (.str "Web" 346),some (.str "Web" 354),some (.builtin "object.__new__"),some (.bool true)]}) ::
(nat_lit 173,cO "stands_in" 403 "stands_in" 404 405 68 2 3 170 181 171 172 406 68 407) ::
(nat_lit 174,fO "stands_in" "stands_in" g6 "tieword.ways" 401 173) ::
(nat_lit 178,cO "last_fits" 409 "last_fits" 410 411 70 3 3 175 181 176 177 412 70 413) ::
(nat_lit 179,fO "last_fits" "last_fits" gS "tieword.ways" 401 178) ::
(nat_lit 185,cO "go_on" 415 "go_on" 416 417 76 5 3 180 181 181 184 425 76 426 (.ref 182) (.ref 183)) ::
(nat_lit 186,fO "go_on" "go_on" oW "tieword.ways" 401 185) ::
(nat_lit 192,cO "first_ways" 428 "first_ways" 429 430 84 3 3 187 181 188 191 435 84 436 (.ref 189) (.ref 190)) ::
(nat_lit 193,fO "first_ways" "first_ways" oE "tieword.ways" 401 192) ::
(nat_lit 199,cO "all_ways" 438 "all_ways" 439 440 88 2 3 194 181 195 198 444 88 445 (.ref 196) (.ref 197)) ::
(nat_lit 200,fO "all_ways" "all_ways" og "tieword.ways" 401 199) ::
(nat_lit 206,cO "lies_in" 447 "lies_in" 448 449 93 2 3 201 181 202 205 452 93 453 (.ref 203) (.ref 204)) ::
(nat_lit 207,fO "lies_in" "lies_in" iX "tieword.ways" 401 206) ::
(nat_lit 213,cO "_law_cells" 457 "_law_cells" 458 459 96 3 3 208 181 209 212 463 96 464 (.ref 210) (.ref 211)) ::
(nat_lit 214,fO "_law_cells" "_law_cells" iM "law_tieword_k31_whole_all_ways" 455 213) ::
(nat_lit 220,cO "_law_mix" 466 "_law_mix" 467 468 98 2 3 215 181 216 219 472 98 473 (.ref 217) (.ref 218)) ::
(nat_lit 221,fO "_law_mix" "_law_mix" iG "law_tieword_k31_whole_all_ways" 455 220) ::
(nat_lit 227,cO "_law_fold" 475 "_law_fold" 476 477 101 1 3 222 181 223 226 481 101 482 (.ref 224) (.ref 225)) ::
(nat_lit 228,fO "_law_fold" "_law_fold" jb "law_tieword_k31_whole_all_ways" 455 227) ::
(nat_lit 234,cO "_law_whole" 484 "_law_whole" 485 486 106 1 3 229 181 230 233 488 106 489 (.ref 231) (.ref 232)) ::
(nat_lit 235,fO "_law_whole" "_law_whole" jM "law_tieword_k31_whole_all_ways" 455 234) ::
(nat_lit 239,cO "_law_word" 491 "_law_word" 492 493 108 2 3 236 181 237 238 494 108 495) ::
(nat_lit 240,fO "_law_word" "_law_word" gY "law_tieword_k31_whole_all_ways" 455 239) ::
(nat_lit 246,cO "_law_kind" 497 "_law_kind" 498 499 117 2 3 241 181 242 245 504 117 505 (.ref 243) (.ref 244)) ::
(nat_lit 247,fO "_law_kind" "_law_kind" iL "law_tieword_k31_whole_all_ways" 455 246) ::
(nat_lit 253,cO "_law_shuffled" 507 "_law_shuffled" 508 509 123 2 3 248 181 249 252 514 123 515 (.ref 250) (.ref 251)) ::
(nat_lit 254,fO "_law_shuffled" "_law_shuffled" js "law_tieword_k31_whole_all_ways" 455 253) ::
(nat_lit 258,cO "_law_family" 517 "_law_family" 518 519 129 2 3 255 181 256 257 520 129 521) ::
(nat_lit 259,fO "_law_family" "_law_family" d_ "law_tieword_k31_whole_all_ways" 455 258) ::
(nat_lit 263,cO "_law_web" 523 "_law_web" 524 525 143 3 3 260 181 261 262 526 143 527) ::
(nat_lit 264,fO "_law_web" "_law_web" ic "law_tieword_k31_whole_all_ways" 455 263) ::
(nat_lit 268,cO "_law_great" 529 "_law_great" 530 531 162 4 3 265 181 266 267 532 162 533) ::
(nat_lit 269,fO "_law_great" "_law_great" gr "law_tieword_k31_whole_all_ways" 455 268) ::
(nat_lit 275,cO "_law_table" 535 "_law_table" 536 537 179 2 3 270 181 271 274 548 179 549 (.ref 272) (.ref 273)) ::
(nat_lit 276,fO "_law_table" "_law_table" jc "law_tieword_k31_whole_all_ways" 455 275) ::
(nat_lit 280,cO "_law_lists" 551 "_law_lists" 552 553 191 2 3 277 181 278 279 554 191 555) ::
(nat_lit 281,fO "_law_lists" "_law_lists" g9 "law_tieword_k31_whole_all_ways" 455 280) ::
(nat_lit 287,cO "_law_is_way" 557 "_law_is_way" 558 559 199 4 3 282 181 283 286 569 199 570 (.ref 284) (.ref 285)) ::
(nat_lit 288,fO "_law_is_way" "_law_is_way" i8 "law_tieword_k31_whole_all_ways" 455 287) ::
(nat_lit 292,cO "_law_ways" 572 "_law_ways" 573 574 210 2 3 289 181 290 291 575 210 576) ::
(nat_lit 293,fO "_law_ways" "_law_ways" hV "law_tieword_k31_whole_all_ways" 455 292) ::
(nat_lit 299,cO "_law_lists_are" 578 "_law_lists_are" 579 580 214 2 3 294 181 295 298 587 214 588 (.ref 296) (.ref 297)) ::
(nat_lit 300,fO "_law_lists_are" "_law_lists_are" jf "law_tieword_k31_whole_all_ways" 455 299) ::
(nat_lit 306,cO "_law_other_end" 590 "_law_other_end" 591 592 224 2 3 301 181 302 305 596 224 597 (.ref 303) (.ref 304)) ::
(nat_lit 307,fO "_law_other_end" "_law_other_end" iR "law_tieword_k31_whole_all_ways" 455 306) ::
(nat_lit 313,cO "_law_crosswise" 599 "_law_crosswise" 600 601 227 4 3 308 181 309 312 607 227 608 (.ref 310) (.ref 311)) ::
(nat_lit 314,fO "_law_crosswise" "_law_crosswise" iP "law_tieword_k31_whole_all_ways" 455 313) ::
(nat_lit 318,cO "law" 610 "law" 611 612 230 1 3 315 181 316 317 613 230 614) ::
(nat_lit 319,fO "law" "law" g7 "law_tieword_k31_whole_all_ways" 455 318)::[]) rfl
set_option autoImplicit true in
set_option relaxedAutoImplicit true in
theorem all_mk{l:PySem.W.OpenLaw}{w:World}{K:Kq}{h:Heap}{mg:Ks}{fa C:Addr}(X:K.In h)(G:h.Ns mainGlobals mg)(hfa:mg "law"=some (.ref fa))
  (aC:PySem.W.nsIn K mainGlobals "Web"=some (some (.ref C)))
  (a_q15:PySem.W.nsIn K mainGlobals "_law_fold"=some (some (.ref f_q15)))
  (l_q15:K.lookup f_q15=some ⟨oc_q15,od_q15,.func (PySem.W.fnOf "_law_fold" "_law_fold" (defArgs jb) (defBody jb) (defScope jb) .none kV_q15 dc_q15 pm_q15 an_q15 cd_q15 ct_q15),sl_q15⟩)
  (c_q15:PySem.W.codeIn K cd_q15 "_law_fold"=true)
  (k_q15:PySem.W.keepIn K (.ref f_q15)=true)
  (a_q12:PySem.W.nsIn K mainGlobals "_law_cells"=some (some (.ref f_q12)))
  (l_q12:K.lookup f_q12=some ⟨oc_q12,od_q12,.func (PySem.W.fnOf "_law_cells" "_law_cells" (defArgs iM) (defBody iM) (defScope iM) .none kV_q12 dc_q12 pm_q12 an_q12 cd_q12 ct_q12),sl_q12⟩)
  (c_q12:PySem.W.codeIn K cd_q12 "_law_cells"=true)
  (k_q12:PySem.W.keepIn K (.ref f_q12)=true)
  (a_q21:PySem.W.nsIn K mainGlobals "_law_mix"=some (some (.ref f_q21)))
  (l_q21:K.lookup f_q21=some ⟨oc_q21,od_q21,.func (PySem.W.fnOf "_law_mix" "_law_mix" (defArgs iG) (defBody iG) (defScope iG) .none kV_q21 dc_q21 pm_q21 an_q21 cd_q21 ct_q21),sl_q21⟩)
  (c_q21:PySem.W.codeIn K cd_q21 "_law_mix"=true)
  (k_q21:PySem.W.keepIn K (.ref f_q21)=true)
  (a_q23:PySem.W.nsIn K mainGlobals "_law_shuffled"=some (some (.ref f_q23)))
  (l_q23:K.lookup f_q23=some ⟨oc_q23,od_q23,.func (PySem.W.fnOf "_law_shuffled" "_law_shuffled" (defArgs js) (defBody js) (defScope js) .none kV_q23 dc_q23 pm_q23 an_q23 cd_q23 ct_q23),sl_q23⟩)
  (c_q23:PySem.W.codeIn K cd_q23 "_law_shuffled"=true)
  (k_q23:PySem.W.keepIn K (.ref f_q23)=true)
  (a_q14:PySem.W.nsIn K mainGlobals "_law_family"=some (some (.ref f_q14)))
  (l_q14:K.lookup f_q14=some ⟨oc_q14,od_q14,.func (PySem.W.fnOf "_law_family" "_law_family" (defArgs d_) (defBody d_) (defScope d_) .none kV_q14 dc_q14 pm_q14 an_q14 cd_q14 ct_q14),sl_q14⟩)
  (c_q14:PySem.W.codeIn K cd_q14 "_law_family"=true)
  (k_q14:PySem.W.keepIn K (.ref f_q14)=true)
  (a_q18:PySem.W.nsIn K mainGlobals "_law_kind"=some (some (.ref f_q18)))
  (l_q18:K.lookup f_q18=some ⟨oc_q18,od_q18,.func (PySem.W.fnOf "_law_kind" "_law_kind" (defArgs iL) (defBody iL) (defScope iL) .none kV_q18 dc_q18 pm_q18 an_q18 cd_q18 ct_q18),sl_q18⟩)
  (c_q18:PySem.W.codeIn K cd_q18 "_law_kind"=true)
  (k_q18:PySem.W.keepIn K (.ref f_q18)=true)
  (a_q28:PySem.W.nsIn K mainGlobals "_law_word"=some (some (.ref f_q28)))
  (l_q28:K.lookup f_q28=some ⟨oc_q28,od_q28,.func (PySem.W.fnOf "_law_word" "_law_word" (defArgs gY) (defBody gY) (defScope gY) .none kV_q28 dc_q28 pm_q28 an_q28 cd_q28 ct_q28),sl_q28⟩)
  (c_q28:PySem.W.codeIn K cd_q28 "_law_word"=true)
  (k_q28:PySem.W.keepIn K (.ref f_q28)=true)
  (a_q26:PySem.W.nsIn K mainGlobals "_law_web"=some (some (.ref f_q26)))
  (l_q26:K.lookup f_q26=some ⟨oc_q26,od_q26,.func (PySem.W.fnOf "_law_web" "_law_web" (defArgs ic) (defBody ic) (defScope ic) .none kV_q26 dc_q26 pm_q26 an_q26 cd_q26 ct_q26),sl_q26⟩)
  (c_q26:PySem.W.codeIn K cd_q26 "_law_web"=true)
  (k_q26:PySem.W.keepIn K (.ref f_q26)=true)
  (a_q16:PySem.W.nsIn K mainGlobals "_law_great"=some (some (.ref f_q16)))
  (l_q16:K.lookup f_q16=some ⟨oc_q16,od_q16,.func (PySem.W.fnOf "_law_great" "_law_great" (defArgs gr) (defBody gr) (defScope gr) .none kV_q16 dc_q16 pm_q16 an_q16 cd_q16 ct_q16),sl_q16⟩)
  (c_q16:PySem.W.codeIn K cd_q16 "_law_great"=true)
  (k_q16:PySem.W.keepIn K (.ref f_q16)=true)
  (a_q22:PySem.W.nsIn K mainGlobals "_law_other_end"=some (some (.ref f_q22)))
  (l_q22:K.lookup f_q22=some ⟨oc_q22,od_q22,.func (PySem.W.fnOf "_law_other_end" "_law_other_end" (defArgs iR) (defBody iR) (defScope iR) .none kV_q22 dc_q22 pm_q22 an_q22 cd_q22 ct_q22),sl_q22⟩)
  (c_q22:PySem.W.codeIn K cd_q22 "_law_other_end"=true)
  (k_q22:PySem.W.keepIn K (.ref f_q22)=true)
  (a_q24:PySem.W.nsIn K mainGlobals "_law_table"=some (some (.ref f_q24)))
  (l_q24:K.lookup f_q24=some ⟨oc_q24,od_q24,.func (PySem.W.fnOf "_law_table" "_law_table" (defArgs jc) (defBody jc) (defScope jc) .none kV_q24 dc_q24 pm_q24 an_q24 cd_q24 ct_q24),sl_q24⟩)
  (c_q24:PySem.W.codeIn K cd_q24 "_law_table"=true)
  (k_q24:PySem.W.keepIn K (.ref f_q24)=true)
  (a_q19:PySem.W.nsIn K mainGlobals "_law_lists"=some (some (.ref f_q19)))
  (l_q19:K.lookup f_q19=some ⟨oc_q19,od_q19,.func (PySem.W.fnOf "_law_lists" "_law_lists" (defArgs g9) (defBody g9) (defScope g9) .none kV_q19 dc_q19 pm_q19 an_q19 cd_q19 ct_q19),sl_q19⟩)
  (c_q19:PySem.W.codeIn K cd_q19 "_law_lists"=true)
  (k_q19:PySem.W.keepIn K (.ref f_q19)=true)
  (a_q17:PySem.W.nsIn K mainGlobals "_law_is_way"=some (some (.ref f_q17)))
  (l_q17:K.lookup f_q17=some ⟨oc_q17,od_q17,.func (PySem.W.fnOf "_law_is_way" "_law_is_way" (defArgs i8) (defBody i8) (defScope i8) .none kV_q17 dc_q17 pm_q17 an_q17 cd_q17 ct_q17),sl_q17⟩)
  (c_q17:PySem.W.codeIn K cd_q17 "_law_is_way"=true)
  (k_q17:PySem.W.keepIn K (.ref f_q17)=true)
  (a_q25:PySem.W.nsIn K mainGlobals "_law_ways"=some (some (.ref f_q25)))
  (l_q25:K.lookup f_q25=some ⟨oc_q25,od_q25,.func (PySem.W.fnOf "_law_ways" "_law_ways" (defArgs hV) (defBody hV) (defScope hV) .none kV_q25 dc_q25 pm_q25 an_q25 cd_q25 ct_q25),sl_q25⟩)
  (c_q25:PySem.W.codeIn K cd_q25 "_law_ways"=true)
  (k_q25:PySem.W.keepIn K (.ref f_q25)=true)
  (a_q6:PySem.W.nsIn K mainGlobals "is_place_kind"=some (some (.ref f_q6)))
  (l_q6:K.lookup f_q6=some ⟨oc_q6,od_q6,.func (PySem.W.fnOf "is_place_kind" "is_place_kind" (defArgs m_) (defBody m_) (defScope m_) .none kV_q6 dc_q6 pm_q6 an_q6 cd_q6 ct_q6),sl_q6⟩)
  (c_q6:PySem.W.codeIn K cd_q6 "is_place_kind"=true)
  (k_q6:PySem.W.keepIn K (.ref f_q6)=true)
  (a_q8:PySem.W.nsIn K mainGlobals "is_tie_kind"=some (some (.ref f_q8)))
  (l_q8:K.lookup f_q8=some ⟨oc_q8,od_q8,.func (PySem.W.fnOf "is_tie_kind" "is_tie_kind" (defArgs oM) (defBody oM) (defScope oM) .none kV_q8 dc_q8 pm_q8 an_q8 cd_q8 ct_q8),sl_q8⟩)
  (c_q8:PySem.W.codeIn K cd_q8 "is_tie_kind"=true)
  (k_q8:PySem.W.keepIn K (.ref f_q8)=true)
  (a_q7:PySem.W.nsIn K mainGlobals "is_tie"=some (some (.ref f_q7)))
  (l_q7:K.lookup f_q7=some ⟨oc_q7,od_q7,.func (PySem.W.fnOf "is_tie" "is_tie" (defArgs nQ) (defBody nQ) (defScope nQ) .none kV_q7 dc_q7 pm_q7 an_q7 cd_q7 ct_q7),sl_q7⟩)
  (c_q7:PySem.W.codeIn K cd_q7 "is_tie"=true)
  (k_q7:PySem.W.keepIn K (.ref f_q7)=true)
  (a_q32:PySem.W.nsIn K mainGlobals "refuse_wrong"=some (some (.ref f_q32)))
  (l_q32:K.lookup f_q32=some ⟨oc_q32,od_q32,.func (PySem.W.fnOf "refuse_wrong" "refuse_wrong" (defArgs jn) (defBody jn) (defScope jn) .none kV_q32 dc_q32 pm_q32 an_q32 cd_q32 ct_q32),sl_q32⟩)
  (c_q32:PySem.W.codeIn K cd_q32 "refuse_wrong"=true)
  (k_q32:PySem.W.keepIn K (.ref f_q32)=true)
  (a_q29:PySem.W.nsIn K mainGlobals "lesser_first"=some (some (.ref f_q29)))
  (l_q29:K.lookup f_q29=some ⟨oc_q29,od_q29,.func (PySem.W.fnOf "lesser_first" "lesser_first" (defArgs iI) (defBody iI) (defScope iI) .none kV_q29 dc_q29 pm_q29 an_q29 cd_q29 ct_q29),sl_q29⟩)
  (c_q29:PySem.W.codeIn K cd_q29 "lesser_first"=true)
  (k_q29:PySem.W.keepIn K (.ref f_q29)=true)
  (a_q31:PySem.W.nsIn K mainGlobals "put_pair"=some (some (.ref f_q31)))
  (l_q31:K.lookup f_q31=some ⟨oc_q31,od_q31,.func (PySem.W.fnOf "put_pair" "put_pair" (defArgs jG) (defBody jG) (defScope jG) .none kV_q31 dc_q31 pm_q31 an_q31 cd_q31 ct_q31),sl_q31⟩)
  (c_q31:PySem.W.codeIn K cd_q31 "put_pair"=true)
  (k_q31:PySem.W.keepIn K (.ref f_q31)=true)
  (a_q9:PySem.W.nsIn K mainGlobals "joins_of"=some (some (.ref f_q9)))
  (l_q9:K.lookup f_q9=some ⟨oc_q9,od_q9,.func (PySem.W.fnOf "joins_of" "joins_of" (defArgs oK) (defBody oK) (defScope oK) .none kV_q9 dc_q9 pm_q9 an_q9 cd_q9 ct_q9),sl_q9⟩)
  (c_q9:PySem.W.codeIn K cd_q9 "joins_of"=true)
  (k_q9:PySem.W.keepIn K (.ref f_q9)=true)
  (a_q0:PySem.W.findIn K (.ref C) "__init__"=some (some (.ref f_q0)))
  (i_q0:PySem.W.isFn K (.ref f_q0)=true)
  (l_q0:K.lookup f_q0=some ⟨oc_q0,od_q0,.func (PySem.W.fnOf "__init__" "Web.__init__" (defArgs nj) (defBody nj) (defScope nj) .none kV_q0 dc_q0 pm_q0 an_q0 cd_q0 ct_q0),sl_q0⟩)
  (c_q0:PySem.W.codeIn K cd_q0 "Web.__init__"=true)
  (k_q0:PySem.W.keepIn K (.ref f_q0)=true)
  (a_q2:PySem.W.findIn K (.ref C) "size"=some (some (.ref f_q2)))
  (i_q2:PySem.W.isFn K (.ref f_q2)=true)
  (l_q2:K.lookup f_q2=some ⟨oc_q2,od_q2,.func (PySem.W.fnOf "size" "Web.size" (defArgs n9) (defBody n9) (defScope n9) .none kV_q2 dc_q2 pm_q2 an_q2 cd_q2 ct_q2),sl_q2⟩)
  (c_q2:PySem.W.codeIn K cd_q2 "Web.size"=true)
  (k_q2:PySem.W.keepIn K (.ref f_q2)=true)
  (a_q33:PySem.W.nsIn K mainGlobals "stands_in"=some (some (.ref f_q33)))
  (l_q33:K.lookup f_q33=some ⟨oc_q33,od_q33,.func (PySem.W.fnOf "stands_in" "stands_in" (defArgs g6) (defBody g6) (defScope g6) .none kV_q33 dc_q33 pm_q33 an_q33 cd_q33 ct_q33),sl_q33⟩)
  (c_q33:PySem.W.codeIn K cd_q33 "stands_in"=true)
  (k_q33:PySem.W.keepIn K (.ref f_q33)=true)
  (a_q1:PySem.W.findIn K (.ref C) "between"=some (some (.ref f_q1)))
  (i_q1:PySem.W.isFn K (.ref f_q1)=true)
  (l_q1:K.lookup f_q1=some ⟨oc_q1,od_q1,.func (PySem.W.fnOf "between" "Web.between" (defArgs oq) (defBody oq) (defScope oq) .none kV_q1 dc_q1 pm_q1 an_q1 cd_q1 ct_q1),sl_q1⟩)
  (c_q1:PySem.W.codeIn K cd_q1 "Web.between"=true)
  (k_q1:PySem.W.keepIn K (.ref f_q1)=true)
  (a_q10:PySem.W.nsIn K mainGlobals "last_fits"=some (some (.ref f_q10)))
  (l_q10:K.lookup f_q10=some ⟨oc_q10,od_q10,.func (PySem.W.fnOf "last_fits" "last_fits" (defArgs gS) (defBody gS) (defScope gS) .none kV_q10 dc_q10 pm_q10 an_q10 cd_q10 ct_q10),sl_q10⟩)
  (c_q10:PySem.W.codeIn K cd_q10 "last_fits"=true)
  (k_q10:PySem.W.keepIn K (.ref f_q10)=true)
  (a_q5:PySem.W.nsIn K mainGlobals "go_on"=some (some (.ref f_q5)))
  (l_q5:K.lookup f_q5=some ⟨oc_q5,od_q5,.func (PySem.W.fnOf "go_on" "go_on" (defArgs oW) (defBody oW) (defScope oW) .none kV_q5 dc_q5 pm_q5 an_q5 cd_q5 ct_q5),sl_q5⟩)
  (c_q5:PySem.W.codeIn K cd_q5 "go_on"=true)
  (k_q5:PySem.W.keepIn K (.ref f_q5)=true)
  (a_q4:PySem.W.nsIn K mainGlobals "first_ways"=some (some (.ref f_q4)))
  (l_q4:K.lookup f_q4=some ⟨oc_q4,od_q4,.func (PySem.W.fnOf "first_ways" "first_ways" (defArgs oE) (defBody oE) (defScope oE) .none kV_q4 dc_q4 pm_q4 an_q4 cd_q4 ct_q4),sl_q4⟩)
  (c_q4:PySem.W.codeIn K cd_q4 "first_ways"=true)
  (k_q4:PySem.W.keepIn K (.ref f_q4)=true)
  (a_q30:PySem.W.nsIn K mainGlobals "lies_in"=some (some (.ref f_q30)))
  (l_q30:K.lookup f_q30=some ⟨oc_q30,od_q30,.func (PySem.W.fnOf "lies_in" "lies_in" (defArgs iX) (defBody iX) (defScope iX) .none kV_q30 dc_q30 pm_q30 an_q30 cd_q30 ct_q30),sl_q30⟩)
  (c_q30:PySem.W.codeIn K cd_q30 "lies_in"=true)
  (k_q30:PySem.W.keepIn K (.ref f_q30)=true)
  (a_q3:PySem.W.nsIn K mainGlobals "all_ways"=some (some (.ref f_q3)))
  (l_q3:K.lookup f_q3=some ⟨oc_q3,od_q3,.func (PySem.W.fnOf "all_ways" "all_ways" (defArgs og) (defBody og) (defScope og) .none kV_q3 dc_q3 pm_q3 an_q3 cd_q3 ct_q3),sl_q3⟩)
  (c_q3:PySem.W.codeIn K cd_q3 "all_ways"=true)
  (k_q3:PySem.W.keepIn K (.ref f_q3)=true)
  (a_q27:PySem.W.nsIn K mainGlobals "_law_whole"=some (some (.ref f_q27)))
  (l_q27:K.lookup f_q27=some ⟨oc_q27,od_q27,.func (PySem.W.fnOf "_law_whole" "_law_whole" (defArgs jM) (defBody jM) (defScope jM) .none kV_q27 dc_q27 pm_q27 an_q27 cd_q27 ct_q27),sl_q27⟩)
  (c_q27:PySem.W.codeIn K cd_q27 "_law_whole"=true)
  (k_q27:PySem.W.keepIn K (.ref f_q27)=true)
  (a_q20:PySem.W.nsIn K mainGlobals "_law_lists_are"=some (some (.ref f_q20)))
  (l_q20:K.lookup f_q20=some ⟨oc_q20,od_q20,.func (PySem.W.fnOf "_law_lists_are" "_law_lists_are" (defArgs jf) (defBody jf) (defScope jf) .none kV_q20 dc_q20 pm_q20 an_q20 cd_q20 ct_q20),sl_q20⟩)
  (c_q20:PySem.W.codeIn K cd_q20 "_law_lists_are"=true)
  (k_q20:PySem.W.keepIn K (.ref f_q20)=true)
  (a_q13:PySem.W.nsIn K mainGlobals "_law_crosswise"=some (some (.ref f_q13)))
  (l_q13:K.lookup f_q13=some ⟨oc_q13,od_q13,.func (PySem.W.fnOf "_law_crosswise" "_law_crosswise" (defArgs iP) (defBody iP) (defScope iP) .none kV_q13 dc_q13 pm_q13 an_q13 cd_q13 ct_q13),sl_q13⟩)
  (c_q13:PySem.W.codeIn K cd_q13 "_law_crosswise"=true)
  (k_q13:PySem.W.keepIn K (.ref f_q13)=true)
  (a_q11:PySem.W.nsIn K mainGlobals "law"=some (some (.ref f_q11)))
  (l_q11:K.lookup f_q11=some ⟨oc_q11,od_q11,.func (PySem.W.fnOf "law" "law" (defArgs g7) (defBody g7) (defScope g7) .none kV_q11 dc_q11 pm_q11 an_q11 cd_q11 ct_q11),sl_q11⟩)
  (c_q11:PySem.W.codeIn K cd_q11 "law"=true)
  (k_q11:PySem.W.keepIn K (.ref f_q11)=true)
  (pg:PySem.W.plainGet K C Str.empty=true)
  (hd:PySem.W.hasDictIn K C=true)
  (po:PySem.W.plainOver K C=true)
  (sa:PySem.W.findIn K (.ref C) "__setattr__"=some (some (.builtin "object.__setattr__")))
  (mkc:PySem.W.makesIn K C=true)
  (kc:PySem.W.keepIn K (.ref C)=true)
  (n_joins:PySem.W.findIn K (.ref C) "joins"=some none)
  (n_kinds:PySem.W.findIn K (.ref C) "kinds"=some none)
  (n_ties:PySem.W.findIn K (.ref C) "ties"=some none)
  (z_all:PySem.W.nsIn K mainGlobals "all"=some none)
  (z_bool:PySem.W.nsIn K mainGlobals "bool"=some none)
  (z_int:PySem.W.nsIn K mainGlobals "int"=some none)
  (z_isinstance:PySem.W.nsIn K mainGlobals "isinstance"=some none)
  (z_len:PySem.W.nsIn K mainGlobals "len"=some none)
  (z_list:PySem.W.nsIn K mainGlobals "list"=some none)
  (z_min:PySem.W.nsIn K mainGlobals "min"=some none)
  (z_range:PySem.W.nsIn K mainGlobals "range"=some none)
  (z_sorted:PySem.W.nsIn K mainGlobals "sorted"=some none)
  (z_tuple:PySem.W.nsIn K mainGlobals "tuple"=some none)
  (z_zip:PySem.W.nsIn K mainGlobals "zip"=some none)
  (t_MOST_PLACES:PySem.W.nsIn K mainGlobals "MOST_PLACES"=some (some (.int 7 tk_MOST_PLACES)))
  (t_MOST_TIES:PySem.W.nsIn K mainGlobals "MOST_TIES"=some (some (.int 12 tk_MOST_TIES)))
  (t_MOST_LETTERS:PySem.W.nsIn K mainGlobals "MOST_LETTERS"=some (some (.int 3 tk_MOST_LETTERS)))
  (t_MOST_TOLD:PySem.W.nsIn K mainGlobals "MOST_TOLD"=some (some (.int 720 tk_MOST_TOLD))) :
  ∃fd:FuncData,(∀(s:Shared) (v:Value),BindsTo s fd ⟨[v],[]⟩ [("_law_script",v)])/\∀base:Heap,K.In base->base.Ns mainGlobals mg->FnOk l.prog w K mg base CX0 15 fa fd ["_law_script"] (spLaw K):=by
 have e:=hfa.symm.trans (Yt X G a_q11);cases e;have F_q15:=a_ (st:=jb) l_q15 c_q15 k_q15;have F_q12:=a_ (st:=iM) l_q12 c_q12 k_q12;have F_q21:=a_ (st:=iG) l_q21 c_q21 k_q21;have F_q23:=a_ (st:=js) l_q23 c_q23 k_q23;have F_q14:=a_ (st:=d_) l_q14 c_q14 k_q14;have F_q18:=a_ (st:=iL) l_q18 c_q18 k_q18;have F_q28:=a_ (st:=gY) l_q28 c_q28 k_q28;have F_q26:=a_ (st:=ic) l_q26 c_q26 k_q26;have F_q16:=a_ (st:=gr) l_q16 c_q16 k_q16;have F_q22:=a_ (st:=iR) l_q22 c_q22 k_q22;have F_q24:=a_ (st:=jc) l_q24 c_q24 k_q24;have F_q19:=a_ (st:=g9) l_q19 c_q19 k_q19;have F_q17:=a_ (st:=i8) l_q17 c_q17 k_q17;have F_q25:=a_ (st:=hV) l_q25 c_q25 k_q25;have F_q6:=a_ (st:=m_) l_q6 c_q6 k_q6;have F_q8:=a_ (st:=oM) l_q8 c_q8 k_q8;have F_q7:=a_ (st:=nQ) l_q7 c_q7 k_q7;have F_q32:=a_ (st:=jn) l_q32 c_q32 k_q32;have F_q29:=a_ (st:=iI) l_q29 c_q29 k_q29;have F_q31:=a_ (st:=jG) l_q31 c_q31 k_q31;have F_q9:=a_ (st:=oK) l_q9 c_q9 k_q9;have F_q0:=a_ (st:=nj) l_q0 c_q0 k_q0;have F_q2:=a_ (st:=n9) l_q2 c_q2 k_q2;have F_q33:=a_ (st:=g6) l_q33 c_q33 k_q33;have F_q1:=a_ (st:=oq) l_q1 c_q1 k_q1;have F_q10:=a_ (st:=gS) l_q10 c_q10 k_q10;have F_q5:=a_ (st:=oW) l_q5 c_q5 k_q5;have F_q4:=a_ (st:=oE) l_q4 c_q4 k_q4;have F_q30:=a_ (st:=iX) l_q30 c_q30 k_q30;have F_q3:=a_ (st:=og) l_q3 c_q3 k_q3;have F_q27:=a_ (st:=jM) l_q27 c_q27 k_q27;have F_q20:=a_ (st:=jf) l_q20 c_q20 k_q20;have F_q13:=a_ (st:=iP) l_q13 c_q13 k_q13;have F_q11:=a_ (st:=g7) l_q11 c_q11 k_q11;have T:Txt K mg ⟨C,f_q15,_,f_q12,_,f_q21,_,f_q23,_,f_q14,_,f_q18,_,f_q28,_,f_q26,_,f_q16,_,f_q22,_,f_q24,_,f_q19,_,f_q17,_,f_q25,_,f_q6,_,f_q8,_,f_q7,_,f_q32,_,f_q29,_,f_q31,_,f_q9,_,f_q0,_,f_q2,_,f_q33,_,f_q1,_,f_q10,_,f_q5,_,f_q4,_,f_q30,_,f_q3,_,f_q27,_,f_q20,_,f_q13,_,f_q11,_,tk_MOST_PLACES,tk_MOST_TIES,tk_MOST_LETTERS,tk_MOST_TOLD⟩:={
  cl:=⟨pg,hd,po,sa⟩
  mkC:=⟨mkc,a_q0,i_q0,kc⟩
  mgC:=Yt X G aC
  na_joins:=n_joins
  na_kinds:=n_kinds
  na_ties:=n_ties
  fn_q15:=F_q15
  bd_q15:=F_q15.binds fun _ _ _ _ _ _ us hl=>by obtain⟨v0,rfl⟩:=fJ hl;rfl
  g_q15:=Yt X G a_q15
  fn_q12:=F_q12
  bd_q12:=F_q12.binds fun _ _ _ _ _ _ us hl=>by obtain⟨v0,v1,v2,rfl⟩:=gP hl;rfl
  g_q12:=Yt X G a_q12
  fn_q21:=F_q21
  bd_q21:=F_q21.binds fun _ _ _ _ _ _ us hl=>by obtain⟨v0,v1,rfl⟩:=cX hl;rfl
  g_q21:=Yt X G a_q21
  fn_q23:=F_q23
  bd_q23:=F_q23.binds fun _ _ _ _ _ _ us hl=>by obtain⟨v0,v1,rfl⟩:=cX hl;rfl
  g_q23:=Yt X G a_q23
  fn_q14:=F_q14
  bd_q14:=F_q14.binds fun _ _ _ _ _ _ us hl=>by obtain⟨v0,v1,rfl⟩:=cX hl;rfl
  g_q14:=Yt X G a_q14
  fn_q18:=F_q18
  bd_q18:=F_q18.binds fun _ _ _ _ _ _ us hl=>by obtain⟨v0,v1,rfl⟩:=cX hl;rfl
  g_q18:=Yt X G a_q18
  fn_q28:=F_q28
  bd_q28:=F_q28.binds fun _ _ _ _ _ _ us hl=>by obtain⟨v0,v1,rfl⟩:=cX hl;rfl
  g_q28:=Yt X G a_q28
  fn_q26:=F_q26
  bd_q26:=F_q26.binds fun _ _ _ _ _ _ us hl=>by obtain⟨v0,v1,v2,rfl⟩:=gP hl;rfl
  g_q26:=Yt X G a_q26
  fn_q16:=F_q16
  bd_q16:=F_q16.binds fun _ _ _ _ _ _ us hl=>by obtain⟨v0,v1,v2,v3,rfl⟩:=qq hl;rfl
  g_q16:=Yt X G a_q16
  fn_q22:=F_q22
  bd_q22:=F_q22.binds fun _ _ _ _ _ _ us hl=>by obtain⟨v0,v1,rfl⟩:=cX hl;rfl
  g_q22:=Yt X G a_q22
  fn_q24:=F_q24
  bd_q24:=F_q24.binds fun _ _ _ _ _ _ us hl=>by obtain⟨v0,v1,rfl⟩:=cX hl;rfl
  g_q24:=Yt X G a_q24
  fn_q19:=F_q19
  bd_q19:=F_q19.binds fun _ _ _ _ _ _ us hl=>by obtain⟨v0,v1,rfl⟩:=cX hl;rfl
  g_q19:=Yt X G a_q19
  fn_q17:=F_q17
  bd_q17:=F_q17.binds fun _ _ _ _ _ _ us hl=>by obtain⟨v0,v1,v2,v3,rfl⟩:=qq hl;rfl
  g_q17:=Yt X G a_q17
  fn_q25:=F_q25
  bd_q25:=F_q25.binds fun _ _ _ _ _ _ us hl=>by obtain⟨v0,v1,rfl⟩:=cX hl;rfl
  g_q25:=Yt X G a_q25
  fn_q6:=F_q6
  bd_q6:=F_q6.binds fun _ _ _ _ _ _ us hl=>by obtain⟨v0,rfl⟩:=fJ hl;rfl
  g_q6:=Yt X G a_q6
  fn_q8:=F_q8
  bd_q8:=F_q8.binds fun _ _ _ _ _ _ us hl=>by obtain⟨v0,rfl⟩:=fJ hl;rfl
  g_q8:=Yt X G a_q8
  fn_q7:=F_q7
  bd_q7:=F_q7.binds fun _ _ _ _ _ _ us hl=>by obtain⟨v0,v1,rfl⟩:=cX hl;rfl
  g_q7:=Yt X G a_q7
  fn_q32:=F_q32
  bd_q32:=F_q32.binds fun _ _ _ _ _ _ us hl=>by obtain⟨v0,v1,rfl⟩:=cX hl;rfl
  g_q32:=Yt X G a_q32
  fn_q29:=F_q29
  bd_q29:=F_q29.binds fun _ _ _ _ _ _ us hl=>by obtain⟨v0,rfl⟩:=fJ hl;rfl
  g_q29:=Yt X G a_q29
  fn_q31:=F_q31
  bd_q31:=F_q31.binds fun _ _ _ _ _ _ us hl=>by obtain⟨v0,v1,v2,rfl⟩:=gP hl;rfl
  g_q31:=Yt X G a_q31
  fn_q9:=F_q9
  bd_q9:=F_q9.binds fun _ _ _ _ _ _ us hl=>by obtain⟨v0,rfl⟩:=fJ hl;rfl
  g_q9:=Yt X G a_q9
  fn_q0:=F_q0
  bd_q0:=F_q0.binds fun _ _ _ _ _ _ us hl=>by obtain⟨v0,v1,v2,rfl⟩:=gP hl;rfl
  fn_q2:=F_q2
  bd_q2:=F_q2.binds fun _ _ _ _ _ _ us hl=>by obtain⟨v0,rfl⟩:=fJ hl;rfl
  mt_q2:=⟨a_q2,i_q2,k_q2⟩
  fn_q33:=F_q33
  bd_q33:=F_q33.binds fun _ _ _ _ _ _ us hl=>by obtain⟨v0,v1,rfl⟩:=cX hl;rfl
  g_q33:=Yt X G a_q33
  fn_q1:=F_q1
  bd_q1:=F_q1.binds fun _ _ _ _ _ _ us hl=>by obtain⟨v0,v1,v2,rfl⟩:=gP hl;rfl
  mt_q1:=⟨a_q1,i_q1,k_q1⟩
  fn_q10:=F_q10
  bd_q10:=F_q10.binds fun _ _ _ _ _ _ us hl=>by obtain⟨v0,v1,v2,rfl⟩:=gP hl;rfl
  g_q10:=Yt X G a_q10
  fn_q5:=F_q5
  bd_q5:=F_q5.binds fun _ _ _ _ _ _ us hl=>by obtain⟨v0,v1,v2,v3,v4,rfl⟩:=zX hl;rfl
  g_q5:=Yt X G a_q5
  fn_q4:=F_q4
  bd_q4:=F_q4.binds fun _ _ _ _ _ _ us hl=>by obtain⟨v0,v1,v2,rfl⟩:=gP hl;rfl
  g_q4:=Yt X G a_q4
  fn_q30:=F_q30
  bd_q30:=F_q30.binds fun _ _ _ _ _ _ us hl=>by obtain⟨v0,v1,rfl⟩:=cX hl;rfl
  g_q30:=Yt X G a_q30
  fn_q3:=F_q3
  bd_q3:=F_q3.binds fun _ _ _ _ _ _ us hl=>by obtain⟨v0,v1,rfl⟩:=cX hl;rfl
  g_q3:=Yt X G a_q3
  fn_q27:=F_q27
  bd_q27:=F_q27.binds fun _ _ _ _ _ _ us hl=>by obtain⟨v0,rfl⟩:=fJ hl;rfl
  g_q27:=Yt X G a_q27
  fn_q20:=F_q20
  bd_q20:=F_q20.binds fun _ _ _ _ _ _ us hl=>by obtain⟨v0,v1,rfl⟩:=cX hl;rfl
  g_q20:=Yt X G a_q20
  fn_q13:=F_q13
  bd_q13:=F_q13.binds fun _ _ _ _ _ _ us hl=>by obtain⟨v0,v1,v2,v3,rfl⟩:=qq hl;rfl
  g_q13:=Yt X G a_q13
  fn_q11:=F_q11
  bd_q11:=F_q11.binds fun _ _ _ _ _ _ us hl=>by obtain⟨v0,rfl⟩:=fJ hl;rfl
  g_q11:=Yt X G a_q11
  b_all:=Za X G z_all
  b_bool:=Za X G z_bool
  b_int:=Za X G z_int
  b_isinstance:=Za X G z_isinstance
  b_len:=Za X G z_len
  b_list:=Za X G z_list
  b_min:=Za X G z_min
  b_range:=Za X G z_range
  b_sorted:=Za X G z_sorted
  b_tuple:=Za X G z_tuple
  b_zip:=Za X G z_zip
  c_MOST_PLACES:=Yt X G t_MOST_PLACES
  c_MOST_TIES:=Yt X G t_MOST_TIES
  c_MOST_LETTERS:=Yt X G t_MOST_LETTERS
  c_MOST_TOLD:=Yt X G t_MOST_TOLD}
 exact⟨_,fun s v=>.of_eq rfl,fun base _ _=>(xD T).imp (qC (law_true _))⟩
end My
namespace PySem.W.Fast
theorem tw7766406654861243488:True:=.intro
theorem tw3849577751871086784:True:=.intro
theorem tw7528373750579895648:True:=.intro
theorem tw2025756774113971584:True:=.intro
theorem tw11087640003791496928:True:=.intro
theorem tw13036373666056013696:True:=.intro
theorem tw5240286341122214848:True:=.intro
theorem tw11247788429594360865:True:=.intro
theorem tw13279933535220258177:True:=.intro
theorem tw5801686441284572641:True:=.intro
theorem tw521175173336552129:True:=.intro
theorem tw6304758855250558849:True:=.intro
theorem tw2503587321613513762:True:=.intro
theorem tw7065609933815735682:True:=.intro
theorem tw4552012810133339618:True:=.intro
theorem tw18299991880204205602:True:=.intro
theorem tw750738610457316098:True:=.intro
theorem tw14310338649215339298:True:=.intro
theorem tw4375125637880562083:True:=.intro
theorem tw2810323936771541411:True:=.intro
theorem tw311352071958486531:True:=.intro
theorem tw13517326272605037187:True:=.intro
theorem tw3838670136250570371:True:=.intro
theorem tw2464397048296949539:True:=.intro
theorem tw2563089727166514083:True:=.intro
theorem tw1044456332069844996:True:=.intro
theorem tw1978537273821415428:True:=.intro
theorem tw1089580500523343044:True:=.intro
theorem tw16761077644881375460:True:=.intro
theorem tw3812380091437384068:True:=.intro
theorem tw8170631077890884100:True:=.intro
theorem tw12215685268697947748:True:=.intro
theorem tw2290991822738427780:True:=.intro
theorem tw9151272923139617764:True:=.intro
theorem tw9962570099943206085:True:=.intro
theorem tw12004617781265855717:True:=.intro
theorem tw6293768663902922021:True:=.intro
theorem tw5279644829203184037:True:=.intro
theorem tw13462747645130964645:True:=.intro
theorem tw15906836918504578789:True:=.intro
theorem tw1439381048853674725:True:=.intro
theorem tw17505959885461408677:True:=.intro
theorem tw10192349932969414565:True:=.intro
theorem tw11627495386943621061:True:=.intro
theorem tw9239073627832198214:True:=.intro
theorem tw1118974861592703046:True:=.intro
theorem tw5555329818052480070:True:=.intro
theorem tw8562996977144983782:True:=.intro
theorem tw1138838618490449190:True:=.intro
theorem tw6196080108945915206:True:=.intro
theorem tw1429274470815666694:True:=.intro
theorem tw9510833788917048838:True:=.intro
theorem tw2795779892344701510:True:=.intro
theorem tw1231909153380586118:True:=.intro
theorem tw11319614998646262502:True:=.intro
theorem tw16970870178272841510:True:=.intro
theorem tw4229226307182654535:True:=.intro
theorem tw15348891236432285863:True:=.intro
theorem tw3960140599117960711:True:=.intro
theorem tw8318964864522872359:True:=.intro
theorem tw5575010016452882183:True:=.intro
theorem tw1529491178185889575:True:=.intro
theorem tw8878375236451159911:True:=.intro
theorem tw12656235221286434759:True:=.intro
theorem tw15545117065776771624:True:=.intro
theorem tw16880483665443857960:True:=.intro
theorem tw10226311726224935816:True:=.intro
theorem tw763108175425606665:True:=.intro
theorem tw15721208371951035401:True:=.intro
theorem tw12574453211062299913:True:=.intro
theorem tw10826591147969494345:True:=.intro
theorem tw16082227709686228713:True:=.intro
theorem tw4405931110045002537:True:=.intro
theorem tw10342639906856624969:True:=.intro
theorem tw13202544257286280041:True:=.intro
theorem tw18125344422138182537:True:=.intro
theorem tw5754839476847990826:True:=.intro
theorem tw6751489124445004938:True:=.intro
theorem tw9763439632755576138:True:=.intro
theorem tw13229469386701639146:True:=.intro
theorem tw11744378441000946186:True:=.intro
theorem tw10452621256316876490:True:=.intro
theorem tw10351564601126578922:True:=.intro
theorem tw2319878401350429482:True:=.intro
theorem tw15059781504845665194:True:=.intro
theorem tw8719526415865321547:True:=.intro
theorem tw11687150339397813387:True:=.intro
theorem tw4985817829423633611:True:=.intro
theorem tw14961568468056105259:True:=.intro
theorem tw11585264125829082603:True:=.intro
theorem tw560955645508334636:True:=.intro
theorem tw16283125449444522156:True:=.intro
theorem tw6934642486964098348:True:=.intro
theorem tw1198674169064380748:True:=.intro
theorem tw305246173961466220:True:=.intro
theorem tw11275756440604636876:True:=.intro
theorem tw16704298013960881068:True:=.intro
theorem tw10191644391361697740:True:=.intro
theorem tw18094568672313579500:True:=.intro
theorem tw5637176562016546989:True:=.intro
theorem tw5068358226500344205:True:=.intro
theorem tw15743932913042230733:True:=.intro
theorem tw14165862429142045325:True:=.intro
theorem tw17780290056113183565:True:=.intro
theorem tw332153805271717741:True:=.intro
theorem tw4725591702094135470:True:=.intro
theorem tw5639053458887070958:True:=.intro
theorem tw1632070865732295470:True:=.intro
theorem tw13500896363248298798:True:=.intro
theorem tw16083082902647137134:True:=.intro
theorem tw7270812846366076143:True:=.intro
theorem tw3555635735391183279:True:=.intro
theorem tw4104734170697329231:True:=.intro
theorem tw1294180332804209487:True:=.intro
theorem tw8246353719187613615:True:=.intro
theorem tw12407426765690951824:True:=.intro
theorem tw8609394482431095984:True:=.intro
theorem tw1661333082542120176:True:=.intro
theorem tw411832235003320688:True:=.intro
theorem tw16581203310943086960:True:=.intro
theorem tw15526295664757808592:True:=.intro
theorem tw5916430469636221424:True:=.intro
theorem tw2950061070515075664:True:=.intro
theorem tw16724219312234616624:True:=.intro
theorem tw17393574475264331793:True:=.intro
theorem tw17634969032947848369:True:=.intro
theorem tw5476585317859995857:True:=.intro
theorem tw3051091537102793969:True:=.intro
theorem tw14260208450811429265:True:=.intro
theorem tw10740980204595501489:True:=.intro
theorem tw16740367891769616849:True:=.intro
theorem tw17503243811470456337:True:=.intro
theorem tw10066771114669864689:True:=.intro
theorem tw1712199859852340017:True:=.intro
theorem tw15053213564164580145:True:=.intro
theorem tw4405690805683961777:True:=.intro
theorem tw12512402224939957330:True:=.intro
theorem tw16267539809202738450:True:=.intro
theorem tw6643769198628521266:True:=.intro
theorem tw12460129885761813810:True:=.intro
theorem tw26326338576670130:True:=.intro
theorem tw16395230930648356306:True:=.intro
theorem tw391110021242556914:True:=.intro
theorem tw17743824616247024178:True:=.intro
theorem tw16913453243323862578:True:=.intro
theorem tw6770436995448832594:True:=.intro
theorem tw15795240269866460946:True:=.intro
theorem tw9113496286689008434:True:=.intro
theorem tw7222227525943918482:True:=.intro
theorem tw12581944590077337490:True:=.intro
theorem tw7668059623034052787:True:=.intro
theorem tw676336467663822099:True:=.intro
theorem tw90744179348935027:True:=.intro
theorem tw16546935848702193075:True:=.intro
theorem tw13845234840420597267:True:=.intro
theorem tw12716807987724526163:True:=.intro
theorem tw4403651480772550355:True:=.intro
theorem tw4554770401820044115:True:=.intro
theorem tw8996762637994677235:True:=.intro
theorem tw6862900438412650612:True:=.intro
theorem tw11654168848165744820:True:=.intro
theorem tw14782286557649266164:True:=.intro
theorem tw14766184241056246612:True:=.intro
theorem tw12026348117034813300:True:=.intro
theorem tw18125098923386272724:True:=.intro
theorem tw9002877507392863381:True:=.intro
theorem tw10779010206732082613:True:=.intro
theorem tw16645249314569915925:True:=.intro
theorem tw8810628688943009301:True:=.intro
theorem tw12706916321831245589:True:=.intro
theorem tw1180460582324080565:True:=.intro
theorem tw9363711375618927862:True:=.intro
theorem tw1358988826357560886:True:=.intro
theorem tw3471419243381345878:True:=.intro
theorem tw16151124581016185558:True:=.intro
theorem tw4503743602840504471:True:=.intro
theorem tw14846385769026752887:True:=.intro
theorem tw10820166750176744887:True:=.intro
theorem tw7492382486293452279:True:=.intro
theorem tw16711069178910131703:True:=.intro
theorem tw2143654806258541079:True:=.intro
theorem tw3353036610589683415:True:=.intro
theorem tw9803829369072528343:True:=.intro
theorem tw7305634291952283639:True:=.intro
theorem tw18147854253987139928:True:=.intro
theorem tw4070285871521109400:True:=.intro
theorem tw18338963855476582008:True:=.intro
theorem tw14630984454682741496:True:=.intro
theorem tw14731235549013459864:True:=.intro
theorem tw4231284353690547096:True:=.intro
theorem tw7263999311247837176:True:=.intro
theorem tw13947314087843330073:True:=.intro
theorem tw9853171282139574425:True:=.intro
theorem tw12403206891519064409:True:=.intro
theorem tw4700873038435016089:True:=.intro
theorem tw12827148031900148313:True:=.intro
theorem tw7561531736059645945:True:=.intro
theorem tw16902540247117582394:True:=.intro
theorem tw17568687924494177498:True:=.intro
theorem tw16629653753385604474:True:=.intro
theorem tw2287207014145796506:True:=.intro
theorem tw9607602880206437946:True:=.intro
theorem tw15177673312464283514:True:=.intro
theorem tw10708232398422239098:True:=.intro
theorem tw279499586929721306:True:=.intro
theorem tw16741563737610121243:True:=.intro
theorem tw727020047920007355:True:=.intro
theorem tw12148427519537810683:True:=.intro
theorem tw361579081955539355:True:=.intro
theorem tw3442364149193919995:True:=.intro
theorem tw1743672016560476731:True:=.intro
theorem tw13623770622261202523:True:=.intro
theorem tw18422472924683644603:True:=.intro
theorem tw13797182646212248379:True:=.intro
theorem tw10978349045417555899:True:=.intro
theorem tw3526748562519875708:True:=.intro
theorem tw7520525290383237340:True:=.intro
theorem tw4452495527515173244:True:=.intro
theorem tw17190115619798564412:True:=.intro
theorem tw9324161635274550908:True:=.intro
theorem tw14596119354529668796:True:=.intro
theorem tw15932883981929455548:True:=.intro
theorem tw15582719009062049756:True:=.intro
theorem tw17291964976861294973:True:=.intro
theorem tw17616815983158644541:True:=.intro
theorem tw14763793809116458845:True:=.intro
theorem tw3807850860951828445:True:=.intro
theorem tw13199427205350979614:True:=.intro
theorem tw10976742422237148222:True:=.intro
theorem tw5080781261338606686:True:=.intro
theorem tw1814899614865040094:True:=.intro
theorem tw5182584847307655006:True:=.intro
theorem tw12147606855467934751:True:=.intro
theorem tw6869229915993516095:True:=.intro
theorem tw14108139543033416831:True:=.intro
theorem tw7616616905322572927:True:=.intro
theorem tw2121152829685642687:True:=.intro
theorem tw6217977081815640511:True:=.intro
theorem tw4810885426978444799:True:=.intro
theorem tw14984449843866166879:True:=.intro
theorem tw16712582376493010655:True:=.intro
end PySem.W.Fast
open PySem PySem.W PyProof.Rows
set_option maxRecDepth 100000 in
set_option maxHeartbeats 0 in
theorem PySem.Challenge.cw_tieword_k31_whole_all_ways_holds : PySem.Challenge.rw_tieword_k31_whole_all_ways.Holds := by
  w_on; refine PySem.W.holds_law (by decide +kernel) fun said=>?_; o_head (PySem.W.kHook My.KK [3,86,87,93,94,100,101,107,108,114,115,121,122,128,129,140,141,147,148,154,155,164,165,173,174,178,179,185,186,192,193,199,200,206,207,213,214,220,221,227,228,234,235,239,240,246,247,253,254,258,259,263,264,268,269,275,276,280,281,287,288,292,293,299,300,306,307,313,314,318,319] (fun _=>by kernel_rfl)); (case hw=>w_witness2)
  k_fill
  refine L2.walk_ofK (l:=PySem.Challenge.rw_tieword_k31_whole_all_ways) (n:=63) (k:=15) (x := "_law_script") (CX:=L2.CX0) (sp:=My.spLaw) rfl (by decide) rfl ⟨rfl,by decide,by decide⟩ (fun w h Y=>PySem.W.kIn_of Y) ?F (fun K H a ns hl _ hS=>⟨a,ns,rfl,hS,hl,fun _=>rfl⟩) fun _ _ _ _ z=>z
  case F=>
    intro w mg fa h KX G hmg
    refine' My.all_mk KX G hmg ..
    all_goals (try k_is)
    all_goals kernel_rfl
