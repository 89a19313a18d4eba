import PyProof.Rows.All
import Wide.All
import OpenK.AllK
import Wide.FinOn
import Lean
import PyProof.EqAt
import PyProof.EqKinds
import PyProof.TupleCall
import PyProof.Rows.SetFrom
import PyProof.EnumFor
import PyProof.EnumMake
import PyProof.ZipIter
import PyProof.ReprStr
import PyProof.Rows.FStr
import KE.KRevIter
import PyProof.ListRange
import PyProof.FactsAll.range_iterator_1
import PySem.Challenge.RW_tieword_k35_whole_a_change
set_option Elab.async false
set_option linter.all false
set_option maxRecDepth 100000
set_option compiler.extract_closed false
set_option bootstrap.genMatcherCode false
set_option genSizeOf false
set_option genSizeOfSpec false
namespace L2
def Ya:=@Option.bind_some
def Yb:=@List.length_map
def Yc:=@PySem.wpAny_bind
def Yd:=@List.mem_cons_of_mem
def Ye:=@PySem.Heap.get?_push_of_some
def Yf:=@List.mem_cons_self
def Yg:=@Bool.and_eq_true
def Yh:=@if_pos
def Yi:=@List.getElem?_eq_getElem
def Yj:=@List.getElem?_eq_some_iff
def Yk:=@Bool.false_ne_true
def Yl:=@if_neg
def Ym:=@Nat.le_refl
def Yn:=@List.length_append
def Yo:=@PySem.Heap.get?_push_size
def Yp:=@PySem.Heap.lt_size
def Yq:=@List.size_toArray
def Yr:=@List.all_eq_true
def Ys:=@Nat.lt_of_lt_of_le
def Yt:=@List.getElem?_map
def Yu:=@decide_eq_true_eq
def Yv:=@List.mem_map
def Yw:=@PySem.wpAny_pure
def Yx:=@List.map_cons
def Yy:=@Nat.ne_of_lt
def Yz:=@List.length_cons
def YA:=@List.getElem?_set_ne
def YB:=@List.mem_of_getElem?
def YC:=@Nat.le_trans
def YD:=@List.getD_eq_getElem?_getD
def YE:=@decide_eq_false
def YF:=@List.length_take
def YG:=@Option.some.inj
def YH:=@List.mem_cons
def YI:=@of_decide_eq_true
def YJ:=@Int.emod_lt_of_pos
def YK:=@List.length_replicate
def YL:=@Int.natCast_nonneg
def YM:=@decide_eq_true
def YN:=@List.length_singleton
def YO:=@Nat.zero_le
def YQ:=@List.length_set
def YR:=@List.map_map
def YS:=@Int.emod_nonneg
def YT:=@List.map_append
def YU:=@List.append_nil
def YV:=@PySem.sizeLine_eq
def YW:=@List.getElem?_append_right
def YX:=@List.mem_append_right
def YY:=@List.length_nil
def YZ:=@Nat.zero_add
def Za:=@List.getElem?_set_self
def Zb:=@List.mem_append
def Zc:=@List.mem_singleton
def Zd:=@Nat.lt_irrefl
def Ze:=@Bool.true_and
def Zf:=@List.mem_range
def Zg:=@List.getElem?_append_left
def Zh:=@Int.toNat_natCast
def Zi:=@PyProof.Rows.callWith_type1
def Zj:=@Nat.le_antisymm
def Zk:=@PySem.F.plainAttrs_list
def Zl:=@Int.eq_ofNat_of_zero_le
def Zm:=@PySem.W.kia_one
def Zn:=@congrArg
def Zo:=@beq_eq_false_iff_ne
def Zp:=@PySem.mem_of_lookup
def Zq:=@PySem.wpAny_mono
def Zr:=@PySem.wpAny_truthy_bool
def Zs:=@List.getElem?_take_of_lt
def Zt:=@Nat.le_of_lt_succ
def Zu:=@List.mem_filter
def Zv:=@Option.map_some
def Zw:=@Nat.lt_of_le_of_ne
def Zx:=@List.length_eq_zero_iff
def Zy:=@Array.length_toList
def Zz:=@beq_iff_eq
def ZA:=@List.length_range
def ZB:=@Nat.le_of_lt
def ZC:=@List.find?_cons
def ZD:=@List.getElem?_eq_none
def ZE:=@Nat.le_add_left
def ZF:=@List.length_filter_le
def ZG:=@List.pairwise_cons
def ZH:=@List.length_drop
def ZI:=@Nat.le_of_not_lt
def ZJ:=@Ne.symm
def ZK:=@PySem.wpAny_holding
def ZL:=@Nat.ne_of_gt
def ZM:=@PySem.Heap.size_push
def ZN:=@Nat.lt_trans
def ZO:=@List.append_assoc
def ZP:=@PySem.codeAny_builtin
def ZQ:=@Bool.eq_iff_iff
def ZR:=@PySem.wpAny_field
def ZS:=@Nat.lt_of_le_of_lt
def ZT:=@Nat.le_sub_one_of_lt
def ZU:=@PySem.wpAny_passesOwn
def ZV:=@List.nodup_cons
def ZW:=@Option.isSome_iff_exists
def ZX:=@List.count_cons
def ZY:=@List.idxOf_lt_length_iff
def ZZ:=@Nat.le_of_eq
def Xa:=@List.getElem?_replicate
def Xb:=@List.any_cons
def Xc:=@List.getElem?_range
def Xd:=@decide_eq_false_iff_not
def Xe:=@PySem.wpAny_callSpecial?_slot
def Xf:=@List.filter_cons_of_pos
def Xg:=@List.zipIdx_cons
def Xh:=@List.take_length
def Xi:=@PySem.wpAny_seqItems
def Xj:=@PySem.W.cellsFrom_some
def Xk:=@List.mem_filterMap
def Xl:=@PySem.wpAny_Call_Name_kw
def Xm:=@PySem.wpAny_setField_rec
def Xn:=@PySem.wpAny_loadPart'
def Xo:=@Array.getD_eq_getD_getElem?
def Xp:=@Nat.lt_succ_of_lt
def Xq:=@PySem.Heap.get?_push_ne
def Xr:=@List.length_eraseIdx_of_lt
def Xs:=@PySem.Calls.evalArgs_plain
def Xt:=@PySem.Around.under_plainId
def Xu:=@Bool.false_and
def Xv:=@Nat.lt_succ_self
def Xw:=@PySem.wpAny_call_entry
def Xx:=@Nat.add_sub_cancel'
def Xy:=@PySem.F.slot_list_append
def Xz:=@PySem.wpAny_execs_nil
def XA:=@PyProof.Rows.assignInOrder_cons
def XB:=@PySem.W.callWith_K
def XC:=@if_true
def XD:=@Bool.false_eq_true
def XE:=@Nat.lt_add_of_pos_right
def XF:=@Nat.add_right_comm
def XG:=@List.eraseIdx_cons_succ
def XH:=@Prod.mk.injEq
def XI:=@List.filter_cons_of_neg
def XJ:=@PySem.Calls.callWith_builtin
def XL:=@List.drop_eq_nil_of_le
def XM:=@List.eraseIdxIfInBounds_toArray
def XN:=@Nat.le_of_succ_le
def XO:=@Bool.eq_false_iff
def XQ:=@Int.emod_eq_of_lt
def XS:=@PySem.codeAny_mono
def XT:=@PySem.F.slot_list_pop
def XU:=@Array.getElem?_toList
def XV:=@PySem.F.slot_dict_get
def XW:=@Nat.succ_pos
def XY:=@Nat.succ_le_succ
def XZ:=@PySem.Heap.size_update
def Va:=@PySem.codeAny_call_builtin
def Vb:=@List.mem_iff_getElem
def Vc:=@List.getElem?_of_mem
def Vd:=@PySem.call_meets
def Ve:=@List.filterMap_cons
def Vf:=@PySem.W.plainGet_of
def Vg:=@Nat.le_succ
def Vh:=@PySem.pushCells_keeps
def Vi:=@List.getElem_of_mem
def Vj:=@List.map_congr_left
def Vk:=@if_false
def Vl:=@List.zip_cons_cons
def Vm:=@List.count_eq_zero
def Vn:=@List.map_set
def Vo:=@PySem.wpAny_call
def Vp:=@List.getElem?_set
def Vq:=@List.take_add_one
def Vr:=@Bool.not_eq_true'
def Vs:=@Sum.inl.inj
def Vt:=@List.map_drop
def Vu:=@Nat.sub_lt
end L2
namespace L2
open PySem PySem.Spec PyProof.Rows
abbrev Kq:=PySem.W.Frag
abbrev Kv:=Value->Shared->Prop
abbrev Kp:=List (Addr×Obj)
abbrev Ks:=Str->Option Value
abbrev Ka:=Array (Int×Value)
abbrev Kb:=Bool->Shared->Prop
abbrev Ko:=Option Value->Shared->Prop
abbrev Kl:=List Value->Shared->Prop
abbrev Kr:=Result->Shared->Prop
abbrev sBg:String := "BaseException.__getattribute__"
abbrev sOc:String := "object.__class__"
abbrev sGd:String := "getset_descriptor.__get__"
abbrev Key:=Sum Int Str
def pT:Key->Value->Bool
 |.inl k,v=>Value.isInt k v
 |.inr x,v=>Value.isStrOf x v
def IF(w:World):Key->Int
 |.inl k=>hashInt k
 |.inr x=>hashStr w x
def cf:∀{k:Key}{v:Value},pT k v=true->(∃i t,k=Sum.inl i/\v=Value.int i t)\/(∃x t,k=Sum.inr x/\v=Value.str x t)
 |.inl i,v,h=>by
  obtain⟨t,e⟩:=Value.isInt_shape (k:=i) (v:=v) h;exact .inl ⟨i,t,rfl,e⟩
 |.inr x,v,h=>by
  obtain⟨t,e⟩:=Value.isStrOf_shape (x:=x) (v:=v) h;exact .inr ⟨x,t,rfl,e⟩
def xD(i:Int)(t:Tok):pT (.inl i) (.int i t)=true:=by simp[pT,Value.isInt]
def xC(x:Str)(t:Tok):pT (.inr x) (.str x t)=true:=by simp[pT,Value.isStrOf]
def Di(a b:Int):decide ((Sum.inl a:Key)=Sum.inl b)=(a == b):=by
 by_cases e:a=b
 ·subst e;simp
 ·have h:¬(Sum.inl a:Key)=Sum.inl b:=fun q=>e (Vs q)
  rw[YE h];exact(Zo.mpr e).symm
def Ef(a b:Str):decide ((Sum.inr a:Key)=Sum.inr b)=decide (a=b):=by
 by_cases e:a=b
 ·subst e;simp
 ·have h:¬(Sum.inr a:Key)=Sum.inr b:=fun q=>e (Sum.inr.inj q)
  rw[YE h,YE e]
def EE(a:Int)(b:Str):decide ((Sum.inl a:Key)=Sum.inr b)=false:=YE (fun q=>nomatch q)
def Fc(a:Str)(b:Int):decide ((Sum.inr a:Key)=Sum.inl b)=false:=YE (fun q=>nomatch q)
def bE(prog:Program)(w:World):PySem.KeyKind prog w Key where
 is:=pT
 hash:=IF w
 inj:=fun v a b l f=>by
  rcases cf l with⟨i,t,rfl,rfl⟩|⟨x,t,rfl,rfl⟩
  ·rcases cf f with⟨j,u,rfl,e⟩|⟨y,u,rfl,e⟩
   ·injection e with e1 _;rw[e1]
   ·exact nomatch e
  ·rcases cf f with⟨j,u,rfl,e⟩|⟨y,u,rfl,e⟩
   ·exact nomatch e
   ·injection e with e1 _;rw[e1]
 byValue:=fun k v h=>by
  rcases cf h with⟨i,t,rfl,rfl⟩|⟨x,t,rfl,rfl⟩<;>rfl
 pyHash:=fun c h=>by
  rcases cf c with⟨i,t,rfl,rfl⟩|⟨x,t,rfl,rfl⟩
  ·exact wpAny_pyHash_int h
  ·exact wpAny_pyHash_str h
 eqBool:=fun g c h=>by
  rcases cf g with⟨i,t,rfl,rfl⟩|⟨x,t,rfl,rfl⟩
  ·rcases cf c with⟨j,u,rfl,rfl⟩|⟨y,u,rfl,rfl⟩
   ·rw[Di]at h;exact wpAny_eqBool_int h
   ·rw[EE]at h;exact SeqAt.EqAt.int_str i t y u _ _ _ _ h
  ·rcases cf c with⟨j,u,rfl,rfl⟩|⟨y,u,rfl,rfl⟩
   ·rw[Fc]at h;exact SeqAt.EqAt.str_int x t j u _ _ _ _ h
   ·rw[Ef]at h;exact wpAny_eqBool_str h
 «strs»:=fun k x t v h=>by
  rcases cf h with⟨i,u,rfl,e⟩|⟨y,u,rfl,e⟩
  ·exact nomatch e
  ·injection e with e1 _;subst e1;cases v<;>rfl
def sT(prog:Program)(w:World)(i:Int)(t:Tok):(bE prog w).is (.inl i) (.int i t)=true:=xD i t
def sv(prog:Program)(w:World)(x:Str)(t:Tok):(bE prog w).is (.inr x) (.str x t)=true:=xC x t
inductive V where
 |non|bl (b:Bool)|int (i:Int)|str (x:Str)|byt (b:Array UInt8)|flt (b:UInt64)|ref (a:Addr)|ty (n:String)
def RelV:V->Value->Prop
 |.non,u=>u=Value.none
 |.bl b,u=>u=Value.bool b
 |.int i,u=>∃t,u=Value.int i t
 |.str x,u=>∃t,u=Value.str x t
 |.byt b,u=>∃t,u=Value.bytes b t
 |.flt b,u=>∃t,u=Value.float b t
 |.ref a,u=>u=Value.ref a
 |.ty n,u=>u=Value.type n
abbrev Vals:List V->List Value->Prop:=Paired RelV
def Vals.length{xs:List V}{us:List Value}(r:Vals xs us):xs.length=us.length:=Paired.length r
def Vals.get:∀{xs:List V}{us:List Value}{i:Nat}{x:V},Vals xs us->xs[i]?=some x->∃u,us[i]?=some u/\RelV x u
 |_,_,_,_,.nil,e=>by simp at e
 |_,_,0,_,.cons r _,e=>by simp at e;subst e;exact⟨_,rfl,r⟩
 |_,_,i+1,x,.cons _ t,e=>by
  obtain⟨u,a,h⟩:=Vals.get (i:=i) (x:=x) t (by simpa using e);exact⟨u,by simpa using a,h⟩
def Vals.set{x:V}{u:Value}(r:RelV x u):∀{xs:List V}{us:List Value} (i:Nat),Vals xs us->Vals (xs.set i x) (us.set i u)
 |_,_,_,.nil=>.nil
 |_,_,0,.cons _ t=>.cons r t
 |_,_,i+1,.cons q t=>.cons q (Vals.set r i t)
def Vals.append{xs ys:List V}{us w:List Value}(h:Vals xs us)(s:Vals ys w):Vals (xs++ys) (us++w):=by
 induction h with
 |nil=>exact s
 |cons r _ ih=>exact .cons r ih
def Vals.take:∀{xs:List V}{us:List Value} (n:Nat),Vals xs us->Vals (xs.take n) (us.take n)
 |_,_,0,_=>.nil
 |_,_,_+1,.nil=>.nil
 |_,_,n+1,.cons r t=>.cons r (Vals.take n t)
def Vals.drop:∀{xs:List V}{us:List Value} (n:Nat),Vals xs us->Vals (xs.drop n) (us.drop n)
 |_,_,0,r=>r
 |_,_,_+1,.nil=>.nil
 |_,_,n+1,.cons _ t=>Vals.drop n t
def RelO:Option V->Option Value->Prop
 |some v,some u=>RelV v u
 |none,none=>True
 |_,_=>False
def KV{κ:Type}:List (κ×V)->List (κ×Value)->Prop:=Paired fun(p:κ×V) (q:κ×Value)=>p.1=q.1/\RelV p.2 q.2
def kV:Key->V
 |.inl i=>.int i
 |.inr x=>.str x
inductive HO where
 /-- a list -/
 |lst (xs:List V)
 /-- a tuple (never changes) -/
 |tup (xs:List V)
 /-- a dict whose keys are ints and texts;one whose keys are tuples of ints and texts (the empty one is both) -/
 |dK (kvs:List (Key×V))|dT (kvs:List (List Key×V))
 /-- a set of ints: its members,its size -/
 |set (S:Int->Bool) (n:Nat)
 /-- an instance of the class at C,its dict at dx,its attributes -/
 |ins (C dx:Addr) (fs:List (Str×V))
 /-- the dict of the instance at x -/
 |own (x:Addr)
 /-- the dict of an exception -/
 |xd (fs:List (Str×V))
 /-- a bound method,f of x -/
 |met (f x:Addr)
 /-- a range object lo,lo+1,.. below hi -/
 |rng (lo hi:Int)
 /-- a thing that is known to the object (the script;a dict while a loop walks it): read,never written while it is so -/
 |frz (o:Obj) (u:HO)
 /-- a code object's table -/
 |tbl (ps:Array Value)
 /-- any other thing,by what is true of its one object (a def of one's own: SetO a S n:=HO.ext fun h=>..) -/
 |ext (φ:Heap->Prop)
abbrev Hp:=Addr->Option HO
def upd(H:Hp)(a:Addr)(o:HO):Hp:=fun b=>if b=a then some o else H b
def a8{H:Hp}{a:Addr}{o:HO}:upd H a o a=some o:=by unfold upd;rw[Yh rfl]
def aU{H:Hp}{a b:Addr}{o:HO}(h:b≠a):upd H a o b=H b:=by unfold upd;rw[Yl h]
def GS{H:Hp}{a b:Addr}{o u:HO}(h:H a=some o)(h':H b=some u)(d:o≠u):a≠b:=by intro e;subst e;rw[h]at h';exact d (YG h')
def bg{H:Hp}{a b:Addr}{o:HO}(h:H a=some o)(h':H b=none):a≠b:=by intro e;subst e;rw[h]at h';cases h'
def NoD(h:Heap)(a:Addr):Prop:=∃o,h.get? a=some o/\o.dict=none
def NoD.new(h:Heap)(items:Array Value):NoD (h.push {cls:=.type "tuple",data:=.seq items}) h.objs.size:=⟨_,Yo _ rfl,rfl⟩
section
variable(P:Program) (w:World)
def ObjOk(H:Hp)(h:Heap)(a:Addr):HO->Prop
 |.lst b=>b.length<=sizeLine/\∃(i:List Value) (n:Nat),Vals b i/\h.get? a=some {cls:=.type "list",data:=.seq i.toArray n}
 |.tup b=>b.length<=sizeLine/\∃i:List Value,Vals b i/\IsTup h a i.toArray/\NoD h a
 |.dK kvs=>kvs.length<=sizeLine/\(a == sysModules)=false/\∃c,KV kvs c/\h.DictOf (bE P w) a c
 |.dT kvs=>kvs.length<=sizeLine/\(a == sysModules)=false/\∃b:List (List Key×Addr×Value),
   Paired (fun(p:List Key×V) (q:List Key×Addr×Value)=>p.1=q.1/\H q.2.1=some (.tup (p.1.map kV))/\RelV p.2 q.2.2) kvs b /\
   ∃o j l,h.get? a=some o/\o.ExactDict/\o.data=.dict j l/\j.toList=b.map (entryOfKey (tupleKind (bE P w)))/\(b.map (·.1)).Nodup
 |.set S n=>h.SetOf (intKind P w) a S n
 |.ins C dx fs=>H dx=some (.own a)/\fs.length<=1000/\dx≠a/\h.get? a=some (PySem.W.instObj C dx) /\
   ∃m,h.Ns1 dx m/\(∀f,RelO (fs.lookup f) (m f))/\PySem.Within m (fs.map (·.1))
 |.own _=>∃o,h.get? a=some o
 |.xd fs=>∃m,h.Ns1 a m/\∀f,RelO (fs.lookup f) (m f)
 |.rng lo hi=>∃t u v,h.get? a=some {cls:=.type "range",data:=.fields #[.int lo t,.int hi u,.int 1 v]}
 |.frz o u=>h.get? a=some o/\ObjOk H h a u
 |.tbl ps=>h.get? a=some {cls:=.none,data:=.fields ps}
 |.met f x=>h.get? a=some (PySem.W.methodObj (.ref f) (.ref x))
 |.ext φ=>φ h/\(∃o,h.get? a=some o)/\∀g e:Heap,φ g->(∀o,g.get? a=some o->e.get? a=some o)->φ e
def HOk(H:Hp)(h:Heap):Prop:=∀a o,H a=some o->ObjOk P w H h a o
end
section
variable{P:Program}{w:World}{H H':Hp}{h h':Heap}{a:Addr}{o:HO}
def ObjOk.lt(x:ObjOk P w H h a o):a<h.objs.size:=by
 cases o with
 |lst xs=>obtain⟨_,_,_,_,e⟩:=x;exact Yp e
 |tup xs=>obtain⟨_,_,_,p,_⟩:=x;exact p.lt
 |dK kvs=>obtain⟨_,_,_,_,o,_,_,e,_⟩:=x;exact Yp e
 |dT kvs=>obtain⟨_,_,_,_,o,_,_,e,_⟩:=x;exact Yp e
 |set S n=>obtain⟨o,_,_,_,e,_⟩:=x;exact Yp e
 |ins C dx fs=>obtain⟨_,_,_,e,_⟩:=x;exact Yp e
 |own y=>obtain⟨_,e⟩:=x;exact Yp e
 |xd fs=>obtain⟨_,⟨_,_,_,e,_⟩,_⟩:=x;exact Yp e
 |rng lo hi=>obtain⟨_,_,_,e⟩:=x;exact Yp e
 |frz ob u=>obtain⟨e,_⟩:=x;exact Yp e
 |tbl ps=>exact Yp (show h.get? a=some _ from x)
 |met f y=>exact Yp (show h.get? a=some _ from x)
 |ext φ=>obtain⟨_,⟨_,e⟩,_⟩:=x;exact Yp e
def Paired.mapP{g e:Type}{F G:g->e->Prop}{c:List g}{l:List e}(h:Paired F c l)(f:∀a b,F a b->G a b):Paired G c l:=by
 induction h with
 |nil=>exact .nil
 |cons r _ ih=>exact .cons (f _ _ r) ih
def ObjOk.stay(x:ObjOk P w H h a o)(k:∀b u,(b=a\/H b=some (.own a))->h.get? b=some u->h'.get? b=some u)
  (L:∀b,H b=some (.own a)->H' b=some (.own a)) (K:∀b xs,H b=some (.tup xs)->H' b=some (.tup xs)):ObjOk P w H' h' a o:=by
 induction o with
 |lst xs=>obtain⟨z,l,n,r,e⟩:=x;exact⟨z,l,n,r,k _ _ (.inl rfl) e⟩
 |tup xs=>obtain⟨z,l,r,⟨g,e,c⟩,s,B,M⟩:=x;exact⟨z,l,r,⟨g,k _ _ (.inl rfl) e,c⟩,s,k _ _ (.inl rfl) B,M⟩
 |dK kvs=>obtain⟨z,y,I,r,g,i,j,e,c⟩:=x;exact⟨z,y,I,r,g,i,j,k _ _ (.inl rfl) e,c⟩
 |dT kvs=>
  obtain⟨z,y,xs,r,g,i,j,e,c⟩:=x;exact⟨z,y,xs,Paired.mapP r fun p q z=>⟨z.1,K _ _ z.2.1,z.2.2⟩,g,i,j,k _ _ (.inl rfl) e,c⟩
 |set S n=>obtain⟨g,i,j,t,e,c⟩:=x;exact⟨g,i,j,t,k _ _ (.inl rfl) e,c⟩
 |ins C dx fs=>
  obtain⟨d,z,J,e,A,⟨m,i,j,B,c⟩,r⟩:=x;exact⟨L _ d,z,J,k _ _ (.inl rfl) e,A,⟨m,i,j,k _ _ (.inr d) B,c⟩,r⟩
 |own y=>obtain⟨g,e⟩:=x;exact⟨g,k _ _ (.inl rfl) e⟩
 |xd fs=>obtain⟨A,⟨m,i,j,e,c⟩,r⟩:=x;exact⟨A,⟨m,i,j,k _ _ (.inl rfl) e,c⟩,r⟩
 |rng lo hi=>obtain⟨t,u,v,e⟩:=x;exact⟨t,u,v,k _ _ (.inl rfl) e⟩
 |frz g u ih=>obtain⟨e,q⟩:=x;exact⟨k _ _ (.inl rfl) e,ih q⟩
 |tbl ps=>
  have e:h.get? a=some {cls:=.none,data:=.fields ps}:=x;show h'.get? a=some {cls:=.none,data:=.fields ps};exact k a _ (.inl rfl) e
 |met f y=>
  have e:h.get? a=some (PySem.W.methodObj (.ref f) (.ref y)):=x;show h'.get? a=some (PySem.W.methodObj (.ref f) (.ref y));exact k a _ (.inl rfl) e
 |ext φ=>obtain⟨p,⟨o,e⟩,E⟩:=x;exact⟨E _ _ p fun o q=>k _ _ (.inl rfl) q,⟨o,k _ _ (.inl rfl) e⟩,E⟩
def HOk.lt(x:HOk P w H h)(e:H a=some o):a<h.objs.size:=(x a o e).lt
def HOk.fresh(x:HOk P w H h)(e:h.objs.size<=a):H a=none:=by
 cases q:H a with
 |none=>rfl
 |some u=>exact absurd (Ys (x.lt q) e) (Zd _)
def HOk.kept(x:HOk P w H h)(k:∀b u,h.get? b=some u->h'.get? b=some u):HOk P w H h':=fun a o e=>
 (x a o e).stay (fun b u _ q=>k b u q) (fun _ q=>q) fun _ _ q=>q
def HOk.laid(x:HOk P w H h)(k:∀b u,h.get? b=some u->h'.get? b=some u)(i:h.objs.size<=a)(new:ObjOk P w (upd H a o) h' a o):HOk P w (upd H a o) h':=fun b u e=>by
 have f:=x.fresh i;by_cases g:b=a
 ·subst g;rw[a8]at e;cases e;exact new
 ·rw[aU g]at e;exact(x b u e).stay (fun c v _ q=>k c v q) (fun c q=>by rw[aU (bg q f)];exact q) fun c j q=>by rw[aU (bg q f)];exact q
end
def Rd(H:Hp)(a:Addr)(u:HO):Prop:=H a=some u\/∃o,H a=some (.frz o u)
def Rd.ok{P:Program}{w:World}{H:Hp}{h:Heap}{a:Addr}{u:HO}(r:Rd H a u)(x:HOk P w H h):ObjOk P w H h a u:=by
 rcases r with r|⟨o,r⟩
 ·exact x a u r
 ·obtain⟨_,q⟩:=x a _ r;exact q
def Mut:Option HO->Prop
 |some (.lst _)=>True
 |some (.dK _)=>True
 |some (.dT _)=>True
 |some (.set _ _)=>True
 |some (.ins _ _ _)=>True
 |some (.ext _)=>True
 |_=>False
section
variable{P:Program}{w:World}{H:Hp}{h h':Heap}{x e:Addr}{o':HO}
def HOk.write(ok:HOk P w H h)(m:Mut (H x))(he:e=x\/H e=some (.own x))(k:∀b u,b≠e->h.get? b=some u->h'.get? b=some u)(l:∃u,h'.get? e=some u)
  (new:ObjOk P w (upd H x o') h' x o'):HOk P w (upd H x o') h':=fun b u q=>by
 have f:∀c y,H c=some (.own y)->c≠x:=fun c y r z=>by subst z;rw[r]at m;exact m
 have g:∀c i,H c=some (.tup i)->c≠x:=fun c i r z=>by subst z;rw[r]at m;exact m
 by_cases j:b=x
 ·subst j;rw[a8]at q;cases q;exact new
 ·rw[aU j]at q;by_cases a:b=e
  ·have o:H b=some (.own x):=by
    rcases he with z|z
    ·exact absurd (a.trans z) j
    ·rw[a];exact z
   rw[q]at o;cases o;obtain⟨v,p⟩:=l;exact⟨v,by rw[a];exact p⟩
  ·refine(ok b u q).stay (fun c v hc r=>k c v ?_ r) (fun c r=>by rw[aU (f c b r)];exact r) fun c i r=>by rw[aU (g c i r)];exact r
   rcases hc with rfl|hc
   ·exact a
   ·rintro rfl;rcases he with z|z
    ·exact f c b hc z
    ·rw[hc]at z;cases z;exact j rfl
end
structure Un (fs ex:List Addr) (H H':Hp) (h h':Heap):Prop where
 keep:∀b o,h.get? b=some o->H b=none->b∉fs->b∉ex->h'.get? b=some o
 slot:∀b o,h.get? b=some o->H b=none->b∈fs->b∉ex->∃sl,h'.get? b=some {o with slots:=sl}
 free:∀b o,h.get? b=some o->H b=none->b∉ex->H' b=none
 there:∀b o,h.get? b=some o->b∉ex->∃o',h'.get? b=some o'
 tups:∀b xs,H b=some (.tup xs)->H' b=some (.tup xs)
 frzs:∀b o u,H b=some (.frz o u)->H' b=some (.frz o u)
 tbls:∀b ps,H b=some (.tbl ps)->∃more,H' b=some (.tbl (ps++more))
section
variable{fs fs' ex ex':List Addr}{H H1 H2:Hp}{h h1 h2 h':Heap}{a x e:Addr}{o:HO}
def Un.any(u:Un fs ex H H1 h h1){b:Addr}{ob:Obj}(q:h.get? b=some ob)(n:H b=none)(hx:b∉ex):∃s,h1.get? b=some {ob with slots:=s}:=by
 by_cases a:b∈fs
 ·exact u.slot b ob q n a hx
 ·exact⟨ob.slots,u.keep b ob q n a hx⟩
def Un.kept(k:∀b u,h.get? b=some u->h'.get? b=some u):Un fs ex H H h h':=
 ⟨fun b o q _ _ _=>k b o q,fun b o q _ _ _=>⟨o.slots,k b o q⟩,fun _ _ _ n _=>n,fun b o q _=>⟨o,k b o q⟩,fun _ _ q=>q,fun _ _ _ q=>q,fun _ p q=>⟨#[],by rw[q];simp⟩⟩
def Un.refl:Un fs ex H H h h:=Un.kept fun _ _ q=>q
def Un.laid(k:∀b u,h.get? b=some u->h'.get? b=some u)(e:h.objs.size<=a)(c:H a=none):Un fs ex H (upd H a o) h h' where
 keep:=fun b u q _ _ _=>k b u q
 slot:=fun b u q _ _ _=>⟨u.slots,k b u q⟩
 free:=fun b u q n _=>by rw[aU (Yy (Ys (Yp q) e))];exact n
 there:=fun b u q _=>⟨u,k b u q⟩
 tups:=fun b x q=>by rw[aU (bg q c)];exact q
 frzs:=fun b u x q=>by rw[aU (bg q c)];exact q
 tbls:=fun b p q=>⟨#[],by rw[aU (bg q c),q];simp⟩
def Un.write(m:Mut (H x))(he:e=x\/H e=some (.own x))(k:∀b u,b≠e->h.get? b=some u->h'.get? b=some u)(f:∃u,h'.get? e=some u):Un fs ex H (upd H x o) h h':=by
 have g:∀b,H b=none->b≠x:=fun b n z=>by subst z;rw[n]at m;exact m
 have i:∀b,H b=none->b≠e:=fun b n z=>by
  subst z;rcases he with r|r
  ·exact g b n r
  ·rw[n]at r;cases r
 have c:∀b u,H b=some u->¬Mut (some u)->b≠x:=fun b u q l z=>by subst z;rw[q]at m;exact l m
 refine⟨fun b u q n _ _=>k b u (i b n) q,fun b u q n _ _=>⟨u.slots,k b u (i b n) q⟩,fun b u q n _=>by rw[aU (g b n)];exact n,fun b u q _=>?_,
  fun b j q=>by rw[aU (c b _ q fun z=>z)];exact q,fun b u j q=>by rw[aU (c b _ q fun z=>z)];exact q,fun b p q=>⟨#[],by rw[aU (c b _ q fun z=>z),q];simp⟩⟩
 by_cases a:b=e
 ·subst a;exact f
 ·exact⟨u,k b u a q⟩
end
def trk(h:Heap)(H:Hp):List Addr:=(List.range h.objs.size).filter fun a=>(H a).isSome
def qT(h:Heap)(H:Hp):Heap:=PySem.W.hideAll h (trk h H)
def wJ(h:Heap)(H:Hp):(qT h H).objs.size=h.objs.size:=PySem.W.hideAll_size _ _
def zE{h:Heap}{H:Hp}{b:Addr}{o:Obj}(e:h.get? b=some o)(n:H b=none):(qT h H).get? b=some o:=
 PySem.W.hideAll_get _ e fun a=>by
  have q:(H b).isSome=true:=(Zu.mp a).2;rw[n]at q;simp at q
def BZ{h:Heap}{H:Hp}{b:Addr}{o:Obj}(e:(qT h H).get? b=some o):h.get? b=some o/\H b=none:=by
 have a:h.get? b=some o:=PySem.W.of_hideAll (trk h H) e;refine⟨a,?_⟩;cases q:H b with
 |none=>rfl
 |some x=>
  have c:b∈trk h H:=Zu.mpr ⟨Zf.mpr (Yp a),by simp[q]⟩;have z:(qT h H).get? b=none:=PySem.W.hideAll_none (trk h H) c;rw[z]at e;cases e
def B3(g h:Heap)(L:Addr):List (Addr×Obj):=(List.range h.objs.size).filterMap fun a=>if a=L\/(g.get? a).isSome=true then none else(h.get? a).map fun o=>(a,o)
def cc(g h:Heap)(L d:Addr):List (Addr×Obj):=(B3 g h L).filter fun p=>decide (p.1≠d)
structure Mod (K:PySem.W.Frag) (mg:Str->Option Value) (base:Heap):Prop where
 kin:K.In base
 glob:base.Ns mainGlobals mg
 blt:∃mb,base.Ns builtinsNs mb/\∀x:Str,x ≠ "__name__"->mb x=bootBuiltins x
 nolimit:base.NoLimit
structure Cx where
 prog:Program
 w:World
 K:PySem.W.Frag
 mg:Str->Option Value
 base:Heap
 A:Around
 N:List Str
 s₀:Shared
 H₀:Hp
 env:Env
 outer:List Env
 stack:List Env
 ex:List Addr
 fn:Str->Bool
 calm:Bool
 pn:List (Addr×Obj)
 xe:Value->Shared->Prop
def frs(l:List Env):List Addr:=l.filterMap (·.frame)
abbrev Cx.fs(X:Cx):List Addr:=frs X.outer
def Vis(s:Scope)(x:Str):Prop:=s.names.lookup x=some .local\/s.names.lookup x=some .cell\/s.names.lookup x=some .free
def Loc(s:Scope)(x:Str):Prop:=s.names.lookup x=some .local\/s.names.lookup x=some .cell
def HF(env:Env)(h:Heap)(m:Ks)(x:Str)(u:Value):Prop:=
 (env.kindOf x=some .local/\m x=some u)\/((env.kindOf x=some .cell\/env.kindOf x=some .free)/\∃c,env.cells.lookup x=some c/\h.IsCell c (some u))
structure Cx.Ok (X:Cx):Prop where
 mod:Mod X.K X.mg X.base
 kind:X.env.scope.kind=.function
 glob:X.env.globals=mainGlobals
 blt:X.env.builtins=builtinsNs
 above:X.s₀.heap.objs.size<=X.env.locals
 inj:∀x y c,X.env.cells.lookup x=some c->X.env.cells.lookup y=some c->x=y
 has:∀x,(X.env.kindOf x=some .cell\/X.env.kindOf x=some .free)->∃c,X.env.cells.lookup x=some c
 cab:∀x c,X.fn x=true->X.env.cells.lookup x=some c->X.s₀.heap.objs.size<=c
 hd:X.calm=true->X.A.handled=none
 frames:X.A.frames=some X.stack
 stk:X.stack=X.outer\/(X.stack=X.env::X.outer/\X.env.frame=some X.env.locals)
 exf:∀b∈X.ex,b≠X.env.locals/\∀x c,X.env.cells.lookup x=some c->c≠b
 bs:∀b o,X.base.get? b=some o->X.s₀.heap.get? b=some o/\X.H₀ b=none
 bsz:X.base.objs.size<=X.s₀.heap.objs.size
 noex:∀b o,X.base.get? b=some o->b∉X.ex
 exfs:∀b∈X.ex,b∉X.fs
 funs:X.s₀.heap.FunFrames X.base X.outer
 frf:∀b∈X.fs,X.H₀ b=none
structure Inv (X:Cx) (pz:List (Addr×Obj)) (σ:List (Option V)) (H:Hp) (s:Shared):Prop where
 ok:X.Ok
 os:s.os=X.s₀.os
 bare:AllBare s.gens
 base:Un X.fs X.ex X.H₀ H X.s₀.heap s.heap
 loc:∃m,s.heap.Ns X.env.locals m/\∀(i:Nat) (x:Str) (v:V),X.N[i]?=some x->σ[i]?=some (some v)->Vis X.env.scope x->∃u,RelV v u/\HF X.env s.heap m x u
 cell:∀x c,X.env.cells.lookup x=some c->∃v,s.heap.IsCell c v
 free:H X.env.locals=none
 freeC:∀x c,X.env.cells.lookup x=some c->H c=none
 pin:∀p∈X.pn++pz,s.heap.get? p.1=some p.2/\H p.1=none/\p.1≠X.env.locals/\p.1∉X.fs/\∀v,p.2.data≠.cell v
 hok:HOk X.prog X.w H s.heap
 len:σ.length=X.N.length
section
variable{X:Cx}{pz:Kp}{σ:List (Option V)}{H H':Hp}{s:Shared}{h':Heap}
def Cx.Ok.nofr(ok:X.Ok){b:Addr}{o:Obj}(e:X.base.get? b=some o):b∉X.fs:=fun h=>by
 have:=(ok.funs.mem h).1;rw[e]at this;cases this
def Inv.bs(I:Inv X pz σ H s):∀b o,X.base.get? b=some o->s.heap.get? b=some o/\H b=none:=fun b o e=>
 ⟨I.base.keep b o (I.ok.bs b o e).1 (I.ok.bs b o e).2 (I.ok.nofr e) (I.ok.noex b o e),I.base.free b o (I.ok.bs b o e).1 (I.ok.bs b o e).2 (I.ok.noex b o e)⟩
def Inv.bk(I:Inv X pz σ H s):∀b o,X.base.get? b=some o->s.heap.get? b=some o:=fun b o e=>(I.bs b o e).1
def Inv.mod(I:Inv X pz σ H s):Mod X.K X.mg X.base:=I.ok.mod
def Inv.kIn(I:Inv X pz σ H s):X.K.In s.heap:=I.ok.mod.kin.keeps I.bk
def Inv.lt(I:Inv X pz σ H s):X.env.locals<s.heap.objs.size:=let ⟨_,hn,_⟩:=I.loc;hn.lt
def Inv.sz(I:Inv X pz σ H s):X.s₀.heap.objs.size<=s.heap.objs.size:=YC I.ok.above (ZB I.lt)
def Inv.nofs(I:Inv X pz σ H s){a:Addr}(h:s.heap.objs.size<=a):a∉X.fs:=fun c=>by
 obtain⟨_,o,b,_⟩:=I.ok.funs.mem c;exact absurd (Ys (Yp b) (YC I.sz h)) (Zd _)
def Inv.cne(I:Inv X pz σ H s):∀x c,X.env.cells.lookup x=some c->c≠X.env.locals:=fun x c e z=>by
 obtain⟨v,o,b,f⟩:=I.cell x c e;obtain⟨m,⟨g,i,j,h,a,_⟩,_⟩:=I.loc;rw[z,h]at b;cases b;rw[a]at f;cases f
def Inv.funs(I:Inv X pz σ H s):s.heap.FunFrames X.base X.outer:=by
 have all:∀(l:List Env),(∀b∈frs l,b∈X.fs)->X.s₀.heap.FunFrames X.base l->s.heap.FunFrames X.base l:=by
  intro l;induction l with
  |nil=>intro _ _;trivial
  |cons u r ih=>
   intro f m;obtain⟨p,⟨L,o,h,j,i,q⟩,g⟩:=m;have c:L∈X.fs:=f L (by unfold frs;rw[Ve,h];exact Yf);obtain⟨w,e⟩:=I.base.slot L o i (I.ok.frf L c) c fun z=>I.ok.exfs L z c
   exact⟨p,⟨L,_,h,j,e,q⟩,ih (fun b a=>f b (by unfold frs;rw[Ve,h];exact Yd _ a)) g⟩
 exact all X.outer (fun _ a=>a) I.ok.funs
def Inv.stack(I:Inv X pz σ H s):s.heap.FunFrames X.base X.stack:=by
 rcases I.ok.stk with e|⟨e,hf⟩
 ·rw[e];exact I.funs
 ·rw[e];obtain⟨m,h,_⟩:=I.loc;refine .cons (by rw[I.ok.kind];decide) hf h ?_ I.funs;exact Heap.get?_none_of_le (YC I.ok.bsz I.ok.above)
def Inv.stkSub(I:Inv X pz σ H s):∀b∈frs X.stack,b∈X.env.locals::X.fs:=fun b h=>by
 rcases I.ok.stk with e|⟨e,hf⟩
 ·rw[e]at h;exact Yd _ h
 ·rw[e]at h;unfold frs at h;rw[Ve,hf]at h;exact h
def Inv.stkFree(I:Inv X pz σ H s):∀b∈frs X.stack,H b=none:=fun b hb=>by
 rcases YH.mp (I.stkSub b hb)with e|hb
 ·rw[e];exact I.free
 ·obtain⟨_,o,h,_⟩:=I.ok.funs.mem hb;exact I.base.free b o h (I.ok.frf b hb) fun z=>I.ok.exfs b z hb
def Inv.step{g':Array GenState}{t':Nat}{d':Drawn}{ch:List Addr}(I:Inv X pz σ H s)
  (g:∀b∈ch,(b∈X.ex\/X.s₀.heap.objs.size<=b)/\b≠X.env.locals/\(∀x c,X.env.cells.lookup x=some c->c≠b)/\∀p∈X.pn++pz,p.1≠b)
  (f:∀b o,b≠X.env.locals->b∉X.fs->b∉ch->s.heap.get? b=some o->H b=none->h'.get? b=some o)
  (slot:∀b o,b≠X.env.locals->b∈X.fs->b∉ch->s.heap.get? b=some o->H b=none->∃Q,h'.get? b=some {o with slots:=Q}) (free:∀b o,b∉ch->s.heap.get? b=some o->H b=none->H' b=none)
  (B:∀b o,b∉ch->s.heap.get? b=some o->∃o',h'.get? b=some o')
  (J:∀b xs,H b=some (.tup xs)->H' b=some (.tup xs)) (N:∀b o u,H b=some (.frz o u)->H' b=some (.frz o u)) (K:∀b ps,H b=some (.tbl ps)->∃M,H' b=some (.tbl (ps++M)))
  (ns:∀m,s.heap.Ns X.env.locals m->h'.Ns X.env.locals m) (R:HOk X.prog X.w H' h') (hg:AllBare g') :
  Inv X pz σ H' {s with heap:=h',gens:=g',drawn:=d',toks:=t' }:=by
 have L:∀b o,X.s₀.heap.get? b=some o->b≠X.env.locals:=fun b o e=>Yy (Ys (Yp e) I.ok.above)
 have y:∀b o,X.s₀.heap.get? b=some o->b∉X.ex->b∉ch:=fun b o e h C=>by
  rcases(g b C).1 with z|z
  ·exact h z
  ·exact absurd (Ys (Yp e) z) (Zd _)
 have j:∀x c,X.env.cells.lookup x=some c->∀v,s.heap.IsCell c v->h'.IsCell c v:=fun x c e v S=>by
  obtain⟨o,E,T⟩:=S;have a:c∉ch:=fun z=>(g c z).2.2.1 x c e rfl
  by_cases hc:c∈X.fs
  ·obtain⟨Q,q⟩:=slot c o (I.cne x c e) hc a E (I.freeC x c e);exact⟨_,q,T⟩
  ·exact⟨o,f c o (I.cne x c e) hc a E (I.freeC x c e),T⟩
 refine⟨I.ok,I.os,hg,⟨fun b o e n C h=>?_,fun b o e n C h=>?_,fun b o e n h=>?_,fun b o e h=>?_,fun b xs e=>J b xs (I.base.tups b xs e),fun b o xs e=>N b o xs (I.base.frzs b o xs e),fun b ps e=>?_⟩,?_,fun x c e=>?_,?_,fun x c e=>?_,fun p Z=>?_,R,I.len⟩
 ·exact f b o (L b o e) C (y b o e h) (I.base.keep b o e n C h) (I.base.free b o e n h)
 ·obtain⟨Q,A⟩:=I.base.slot b o e n C h;obtain⟨P,O⟩:=slot b _ (L b o e) C (y b o e h) A (I.base.free b o e n h);exact⟨P,O⟩
 ·obtain⟨o',A⟩:=I.base.there b o e h;exact free b o' (y b o e h) A (I.base.free b o e n h)
 ·obtain⟨o',A⟩:=I.base.there b o e h;exact B b o' (y b o e h) A
 ·obtain⟨m1,A⟩:=I.base.tbls b ps e;obtain⟨m2,O⟩:=K b _ A;exact⟨m1++m2,by rw[O,Array.append_assoc]⟩
 ·obtain⟨m,hn,hl⟩:=I.loc;refine⟨m,ns m hn,fun i x v A O e3=>?_⟩;obtain⟨u,r,l⟩:=hl i x v A O e3;refine⟨u,r,?_⟩;rcases l with l|⟨k,c,e,z⟩
  ·exact .inl l
  ·exact .inr ⟨k,c,e,j x c e _ z⟩
 ·obtain⟨v,z⟩:=I.cell x c e;exact⟨v,j x c e v z⟩
 ·obtain⟨m,⟨o,_,_,E,_⟩,_⟩:=I.loc;exact free _ o (fun z=>(g _ z).2.1 rfl) E I.free
 ·obtain⟨v,o,E,T⟩:=I.cell x c e;exact free c o (fun z=>(g c z).2.2.1 x c e rfl) E (I.freeC x c e)
 ·obtain⟨e,n,Y,U,d⟩:=I.pin p Z;have a:p.1∉ch:=fun z=>(g p.1 z).2.2.2 p Z rfl
  exact⟨f p.1 p.2 Y U a e n,free p.1 p.2 a e n,Y,U,d⟩
def Inv.un{t':Nat}(I:Inv X pz σ H s)(u:Un X.fs [] H H' s.heap h')(a:HOk X.prog X.w H' h'):Inv X pz σ H' {s with heap:=h',toks:=t' }:=by
 obtain⟨m,⟨o,A,B,i,r⟩,_⟩:=id I.loc;obtain⟨q,p⟩:=u.any i I.free (by simp);exact I.step (g':=s.gens) (d':=s.drawn) (ch:=[]) (fun _ z=>nomatch z) (fun b o _ c _ e n=>u.keep b o e n c (by simp)) (fun b o _ c _ e n=>u.slot b o e n c (by simp)) (fun b o _ e n=>u.free b o e n (by simp)) (fun b o _ e=>u.there b o e (by simp)) u.tups u.frzs u.tbls (fun y l=>by
  obtain⟨x,f,g,h,j⟩:=l;rw[i]at h;cases h;exact⟨_,f,g,p,j⟩) a I.bare
def Inv.call{g':Array GenState}{t':Nat}{d':Drawn}{ch:List Addr}(I:Inv X pz σ H s)(u:Un (frs X.stack) ch H H' s.heap h')(g:HOk X.prog X.w H' h')(B:AllBare g')
  (f:∀b∈ch,(b∈X.ex\/X.s₀.heap.objs.size<=b)/\b≠X.env.locals/\(∀x c,X.env.cells.lookup x=some c->c≠b)/\∀p∈X.pn++pz,p.1≠b) :
  Inv X pz σ H' {s with heap:=h',gens:=g',drawn:=d',toks:=t' }:=by
 obtain⟨m,⟨o,L,M,q,r⟩,_⟩:=id I.loc;obtain⟨E,i⟩:=u.any q I.free fun z=>(f _ z).2.1 rfl
 exact I.step (ch:=ch) f (fun b o i C h e n=>u.keep b o e n (fun z=>(YH.mp (I.stkSub b z)).elim i C) h) (fun b o _ _ h e n=>u.any e n h) (fun b o h e n=>u.free b o e n h) (fun b o h e=>u.there b o e h) u.tups u.frzs u.tbls (fun K A=>by
  obtain⟨J,j,l,a,y⟩:=A;rw[q]at a;cases a;exact⟨_,j,l,i,y⟩) g B
def Inv.turned{t':Nat}{it:Addr}(I:Inv X pz σ H s)(k:∀b o,b≠it->s.heap.get? b=some o->h'.get? b=some o)(i:H it=none)(f:it≠X.env.locals)
  (h1:it∈X.ex\/X.s₀.heap.objs.size<=it) (h2:∀x c,X.env.cells.lookup x=some c->c≠it) (w:∀p∈X.pn++pz,p.1≠it):Inv X pz σ H {s with heap:=h',toks:=t' }:=by
 have a:∀b u,H b=some u->b≠it:=fun b u e z=>by rw[z,i]at e;cases e
 refine I.step (g':=s.gens) (d':=s.drawn) (ch:=[it]) (fun b l=>?_) (fun b o _ _ h e _=>k b o (fun z=>h (by simp[z])) e) (fun b o _ _ h e _=>⟨o.slots,k b o (fun z=>h (by simp[z])) e⟩) (fun _ _ _ _ n=>n)
  (fun b o h e=>⟨o,k b o (fun z=>h (by simp[z])) e⟩) (fun _ _ e=>e) (fun _ _ _ e=>e) (fun b B e=>⟨#[],by rw[e];simp⟩) (fun m j=>?_) (fun b u e=>?_) I.bare
 ·have e:b=it:=by simpa using l
  subst e;exact⟨h1,f,h2,w⟩
 ·obtain⟨o,y,A,g,r⟩:=j;exact⟨o,y,A,k _ o (ZJ f) g,r⟩
 ·refine(I.hok b u e).stay (fun c v h q=>k c v ?_ q) (fun _ q=>q) fun _ _ q=>q;rcases h with z|z
  ·rw[z];exact a b u e
  ·exact a c _ z
def Inv.tok(I:Inv X pz σ H s)(t:Nat):Inv X pz σ H {s with toks:=t}:=I.un (h':=s.heap) (t':=t) Un.refl I.hok
def Inv.kept{t':Nat}(I:Inv X pz σ H s)(k:∀b u,s.heap.get? b=some u->h'.get? b=some u):Inv X pz σ H {s with heap:=h',toks:=t' }:=I.un (Un.kept k) (I.hok.kept k)
def Inv.laid{a:Addr}{o:HO}{t':Nat}(I:Inv X pz σ H s)(k:∀b u,s.heap.get? b=some u->h'.get? b=some u)(h:s.heap.objs.size<=a)(new:ObjOk X.prog X.w (upd H a o) h' a o) :
  Inv X pz σ (upd H a o) {s with heap:=h',toks:=t' }:=I.un (Un.laid k h (I.hok.fresh h)) (I.hok.laid k h new)
def Inv.write{x e:Addr}{o:HO}{t':Nat}(I:Inv X pz σ H s)(m:Mut (H x))(he:e=x\/H e=some (.own x))(k:∀b u,b≠e->s.heap.get? b=some u->h'.get? b=some u)(h:∃u,h'.get? e=some u)
  (new:ObjOk X.prog X.w (upd H x o) h' x o):Inv X pz σ (upd H x o) {s with heap:=h',toks:=t' }:=I.un (Un.write m he k h) (I.hok.write m he k h new)
def Inv.weak{a:List (Option V)}(I:Inv X pz σ H s)(h:a.length=σ.length)(w:∀(i:Nat) v,a[i]?=some (some v)->σ[i]?=some (some v)):Inv X pz a H s:=
 ⟨I.ok,I.os,I.bare,I.base,let ⟨m,hn,hl'⟩:=I.loc;⟨m,hn,fun i x v c b e=>hl' i x v c (w i v b) e⟩,I.cell,I.free,I.freeC,I.pin,I.hok,h.trans I.len⟩
def Inv.pins_of{a:Kp}(I:Inv X pz σ H s)(h:∀p∈a,s.heap.get? p.1=some p.2/\H p.1=none/\p.1≠X.env.locals/\p.1∉X.fs/\∀v,p.2.data≠.cell v):Inv X a σ H s:=
 ⟨I.ok,I.os,I.bare,I.base,I.loc,I.cell,I.free,I.freeC,fun p b=>(Zb.mp b).elim (fun z=>I.pin p (List.mem_append_left _ z)) (h p),I.hok,I.len⟩
def mS{N:List Str}(hN:N.Nodup){i j:Nat}{x:Str}(a:N[i]?=some x)(b:N[j]?=some x):i=j:=by obtain⟨f,c⟩:=Yj.mp a;obtain⟨h,e⟩:=Yj.mp b;exact(List.getElem_inj hN).mp (c.trans e.symm)
abbrev FnL(X:Cx)(x:Str):Prop:=X.fn x=true\/X.env.scope.names.lookup x=some .local
def o9{M:Model}{A:Around}{E:Kv}{i:Nat}{x:Str}{v:V}{u:Value}{Q:Unit->Shared->Prop}(I:Inv X pz σ H s)(hN:X.N.Nodup)(hi:X.N[i]?=some x)(hx:Loc X.env.scope x)(r:RelV v u)
  (h:∀s',Inv X pz (σ.set i (some v)) H s'->(∃a,Heap.SameBut a s.heap s'.heap/\(a=X.env.locals\/X.env.cells.lookup x=some a))->Q () s') (hf:FnL X x:=by first|exact .inl rfl|exact .inr rfl|assumption):wpAny M A (storeName X.env x u) Q E s:=by
 obtain⟨m,hn,hl⟩:=id I.loc;have T:(X.env.scope.kind == .class||(X.env.scope.kind == .module&&X.env.locals != X.env.globals))=false:=by rw[I.ok.kind];rfl
 have J:i<σ.length:=by rw[I.len];exact(Yj.mp hi).1
 have cne:=I.cne;have g:∀{a:Addr}{P:Heap},(∃o,s.heap.get? a=some o/\H a=none)->Heap.SameBut a s.heap P->HOk X.prog X.w H P:=fun{a P} ha f b ob e=>by
  obtain⟨_,_,B⟩:=ha;refine(I.hok b ob e).stay (fun c Z hc q=>(f.2 c ?_).trans q) (fun _ q=>q) fun _ _ q=>q;rintro rfl;rcases hc with rfl|hc
  ·rw[B]at e;cases e
  ·rw[B]at hc;cases hc
 rcases hx with hk|hk
 ·refine wpAny_storeName_local hk hn (fun P hn' f=>?_) T;obtain⟨oL,_,_,hoL,_⟩:=id hn;refine h _ ⟨I.ok,I.os,I.bare,⟨fun b o e n O hx=>?_,fun b o e n O hx=>?_,I.base.free,fun b o e hx=>?_,I.base.tups,I.base.frzs,I.base.tbls⟩,⟨_,hn',fun j y v' l C e3=>?_⟩,fun y c e=>?_,I.free,I.freeC,fun p hp=>?_,g ⟨oL,hoL,I.free⟩ f,by simpa using I.len⟩ ⟨_,f,.inl rfl⟩
  ·exact(f.2 b (Yy (Ys (Yp e) I.ok.above))).trans (I.base.keep b o e n O hx)
  ·obtain⟨sl,l⟩:=I.base.slot b o e n O hx;exact⟨sl,(f.2 b (Yy (Ys (Yp e) I.ok.above))).trans l⟩
  ·obtain⟨o',l⟩:=I.base.there b o e hx;exact⟨o',(f.2 b (Yy (Ys (Yp e) I.ok.above))).trans l⟩
  ·by_cases K:j=i
   ·subst K;rw[hi]at l;cases l;rw[Za J]at C;cases C;exact⟨u,r,.inl ⟨hk,by simp⟩⟩
   ·rw[YA (ZJ K)]at C;obtain⟨u',r',q⟩:=hl j y v' l C e3;refine⟨u',r',?_⟩;rcases q with⟨k,e⟩|⟨k,c,e,z⟩
    ·refine .inl ⟨k,?_⟩;have:y≠x:=fun e=>K (mS hN l (e ▸ hi))
     simp[this,e]
    ·exact .inr ⟨k,c,e,z.sameBut f (cne y c e)⟩
  ·obtain⟨Z,z⟩:=I.cell y c e;exact⟨Z,z.sameBut f (cne y c e)⟩
  ·obtain⟨e,n,ne,nf,d⟩:=I.pin p hp;exact⟨(f.2 p.1 ne).trans e,n,ne,nf,d⟩
 ·have L:X.fn x=true:=by
   rcases hf with z|z
   ·exact z
   ·rw[z]at hk;cases hk
  obtain⟨c,hc⟩:=I.ok.has x (.inl hk);obtain⟨Z,z⟩:=I.cell x c hc;refine wpAny_storeName_cell I.ok.kind hk hc z (fun P Y f=>?_);obtain⟨oc,S,R⟩:=id z;refine h {s with heap:=P } ⟨I.ok,I.os,I.bare,⟨fun b o e n O hx=>?_,fun b o e n O hx=>?_,I.base.free,fun b o e hx=>?_,I.base.tups,I.base.frzs,I.base.tbls⟩,⟨m,hn.sameBut f (ZJ (cne x c hc)),fun j y v' l C e3=>?_⟩,fun y c' e=>?_,I.free,I.freeC,fun p hp=>?_,g ⟨oc,S,I.freeC x c hc⟩ f,by simpa using I.len⟩ ⟨c,f,.inr hc⟩
  ·exact(f.2 b (Yy (Ys (Yp e) (I.ok.cab x c L hc)))).trans (I.base.keep b o e n O hx)
  ·obtain⟨sl,l⟩:=I.base.slot b o e n O hx;exact⟨sl,(f.2 b (Yy (Ys (Yp e) (I.ok.cab x c L hc)))).trans l⟩
  ·obtain⟨o',l⟩:=I.base.there b o e hx;exact⟨o',(f.2 b (Yy (Ys (Yp e) (I.ok.cab x c L hc)))).trans l⟩
  ·by_cases K:j=i
   ·subst K;rw[hi]at l;cases l;rw[Za J]at C;cases C;exact⟨u,r,.inr ⟨.inl hk,c,hc,Y⟩⟩
   ·rw[YA (ZJ K)]at C;obtain⟨u',r',q⟩:=hl j y v' l C e3;refine⟨u',r',?_⟩;rcases q with q|⟨k,c',e,z'⟩
    ·exact .inl q
    ·refine .inr ⟨k,c',e,z'.sameBut f ?_⟩;rintro rfl;exact K (mS hN l (I.ok.inj _ _ _ e hc ▸ hi))
  ·by_cases U:c'=c
   ·subst U;exact⟨_,Y⟩
   ·obtain⟨w2,z2⟩:=I.cell y c' e;exact⟨w2,z2.sameBut f U⟩
  ·obtain⟨e,n,ne,nf,d⟩:=I.pin p hp;refine⟨(f.2 p.1 ?_).trans e,n,ne,nf,d⟩;intro q;rw[q,S]at e;have q':oc=p.2:=YG e;exact d Z (by rw[<-q'];exact R)
def gp{M:Model}{A:Around}{E:Kv}{i:Nat}{x:Str}{v:V}{u:Value}{Q:Unit->Shared->Prop}(I:Inv X pz σ H s)(hN:X.N.Nodup)(hi:X.N[i]?=some x)(hx:Loc X.env.scope x)(r:RelV v u)
  (h:∀s',Inv X pz (σ.set i (some v)) H s'->Q () s') (a:FnL X x:=by first|exact .inl rfl|exact .inr rfl|assumption):wpAny M A (storeName X.env x u) Q E s:=
 o9 I hN hi hx r (fun s' b _=>h s' b) a
def Inv.call'{s':Shared}{ch:List Addr}(I:Inv X pz σ H s)(f:s'.os=s.os)(u:Un (frs X.stack) ch H H' s.heap s'.heap)(h:HOk X.prog X.w H' s'.heap)(g:AllBare s'.gens)
  (a:∀b∈ch,(b∈X.ex\/X.s₀.heap.objs.size<=b)/\b≠X.env.locals/\(∀x c,X.env.cells.lookup x=some c->c≠b)/\∀p∈X.pn++pz,p.1≠b):Inv X pz σ H' s':=by
 obtain⟨i,g',d',t',o⟩:=s';have e:o=s.os:=f;subst e;exact I.call (g':=g') (t':=t') (d':=d') u h g a
end
abbrev XK:=Value->Option Addr->Hp->Prop
abbrev St:=List (Option V)
abbrev VK:=V->Hp->Prop
abbrev TE:=St->Hp->VK->Prop
abbrev TT:=St->Hp->(Bool->Hp->Prop)->Prop
abbrev TA:=St->Hp->(List V->Hp->Prop)->Prop
structure Ends where
 nx:St->Hp->Prop
 rt:VK
 bk:St->Hp->Prop:=fun _ _=>False
 ct:St->Hp->Prop:=fun _ _=>False
abbrev TS:=Ends->St->Hp->Prop
def EP(X:Cx)(pz:Kp)(σ:St)(Q:VK)(u:Value)(s':Shared):Prop:=∃v H,Inv X pz σ H s'/\RelV v u/\Q v H
def TP(X:Cx)(pz:Kp)(σ:St)(Q:Bool->Hp->Prop)(b:Bool)(s':Shared):Prop:=∃H,Inv X pz σ H s'/\Q b H
def AP(X:Cx)(pz:Kp)(σ:St)(Q:List V->Hp->Prop)(us:List Value)(s':Shared):Prop:=∃a H,Inv X pz σ H s'/\Vals a us/\Q a H
def SP(X:Cx)(pz:Kp)(D:Ends)(f:Flow)(s':Shared):Prop:=
 match f with
 |.next=>∃a H,Inv X pz a H s'/\D.nx a H
 |.brk=>∃a H,Inv X pz a H s'/\D.bk a H
 |.cont=>∃a H,Inv X pz a H s'/\D.ct a H
 |.ret u=>∃v a H,Inv X pz a H s'/\RelV v u/\D.rt v H
def PE(X:Cx)(e:Expr)(t:TE):Prop:=
 ∀(p:Kp) (s:Shared) (a:St) (H:Hp) (Q:VK),Inv X p a H s->t a H Q->wpAny (model X.prog X.w) X.A (eval e X.env) (EP X p a Q) X.xe s
def PT(X:Cx)(e:Expr)(t:TT):Prop:=
 ∀(p:Kp) (s:Shared) (a:St) (H:Hp) (Q:Bool->Hp->Prop),Inv X p a H s->t a H Q->wpAny (model X.prog X.w) X.A (isTrue e X.env (eval e X.env)) (TP X p a Q) X.xe s
def PW(X:Cx)(e:Expr)(t:TT):Prop:=
 ∀(a:Sem Value) (p:Kp) (s:Shared) (b:St) (H:Hp) (Q:Bool->Hp->Prop),Inv X p b H s->t b H Q->wpAny (model X.prog X.w) X.A (isTrue e X.env a) (TP X p b Q) X.xe s
def PW.pt{X:Cx}{e:Expr}{t:TT}(h:PW X e t):PT X e t:=h _
def PA(X:Cx)(es:List Expr)(t:TA):Prop:=
 ∀(p:Pos) (b:Kp) (s:Shared) (a:St) (H:Hp) (Q:List V->Hp->Prop),Inv X b a H s->t a H Q->wpAny (model X.prog X.w) X.A (spliced (backTo p (starEach es X.env))) (AP X b a Q) X.xe s
def PS(X:Cx)(st:Stmt)(t:TS):Prop:=
 ∀(p:Kp) (s:Shared) (a:St) (H:Hp) (D:Ends),Inv X p a H s->t D a H->wpAny (model X.prog X.w) X.A (exec st X.env) (SP X p D) X.xe s
def PSs(X:Cx)(st:List Stmt)(t:TS):Prop:=
 ∀(p:Kp) (s:Shared) (a:St) (H:Hp) (D:Ends),Inv X p a H s->t D a H->wpAny (model X.prog X.w) X.A (execs st X.env) (SP X p D) X.xe s
def thn{b:Type}{t:Sem b}{Q c:b->Shared->Prop}{M:Model}{A:Around}{E:Kv}{s:Shared}(h:wpAny M A t Q E s)(e:∀a s,Q a s->c a s):wpAny M A t c E s:=Zq h e fun _ _ x=>x
def bv{f e:Type}{X:Cx}{pz:Kp}{σ:St}{t:Sem e}{R:f->e->Prop}{Q:f->Hp->Prop}{T:e->Shared->Prop}{M:Model}{A:Around}{E:Kv}{s:Shared}
  (h:wpAny M A t (fun u s1=>∃x H1,Inv X pz σ H1 s1/\R x u/\Q x H1) E s) (k:∀u s1 x H1,Inv X pz σ H1 s1->R x u->Q x H1->T u s1):wpAny M A t T E s:=
 thn h fun u s1 z=>by obtain⟨x,H1,a,b,c⟩:=z;exact k u s1 x H1 a b c
def un7{g f e i:Type}{B A Z:g->f->e->i->Prop}{C:Prop}(k:∀P F ρ d,B P F ρ d->A P F ρ d->Z P F ρ d->C)(h:∃P F ρ d,B P F ρ d/\A P F ρ d/\Z P F ρ d):C:=by obtain⟨P,F,ρ,d,a,b,c⟩:=h;exact k P F ρ d a b c
end L2
open PySem L2
variable{H P H' F':Hp}{X:Cx}{s s':Shared}{K:PySem.W.Frag}{σ:L2.St}{pos p apos pos' tpos cpos:Pos}{pz pl:List (Addr×Obj)}{a C f dx l:Addr}{A:Around}{E Q:Value->Shared->Prop}{w:World}{e o b c tg iter value elt:Expr}{x name m qual:Str}{u:Value}{i j own t':Nat}{es ifs:List Expr}{ta te tb tv td to:TE}{y:V}{vs xs ys:List V}{us its:List Value}{prog q:Program}{h base h':Heap}{scope:Scope}{CX:CXT}{ps N loose:List Str}{fd:FuncData}{sp:Sp}{ow:Addr->Prop}{env:Env}{mg mA:Str->Option Value}{st:Stmt}{body sts:List Stmt}{fp:List Addr}{tc:TT}{ix:List Nat}{kw:List (Str×Value)}{XP:(Str->Option Value)->Heap->Prop}{YP:World->Heap->Prop}{cs:List (Str×Addr)}
namespace L2
open PySem PySem.Spec PyProof.Rows
section
def bin{a:Expr}(p:PE X a ta)(o:PE X b tb){R:V->V->Hp->Prop}(I:Inv X pz σ H s)(h:ta σ H fun x H1=>tb σ H1 fun y H2=>R x y H2)
  {i:Type}{Q:i->Shared->Prop}{f:Value->Value->Sem i}
  (m:∀v u g x y H2,Inv X pz σ H2 g->RelV x v->RelV y u->R x y H2->wpAny (model X.prog X.w) X.A (f v u) Q X.xe g) :
  wpAny (model X.prog X.w) X.A (eval a X.env) (fun v e=>wpAny (model X.prog X.w) X.A (eval b X.env) (fun u c=>wpAny (model X.prog X.w) X.A (f v u) Q X.xe c) X.xe e) X.xe s:=by
 refine bv (p pz s σ H _ I h) fun v j x H1 B r1 l=>?_;refine bv (o pz j σ H1 _ B l) fun u g y H2 z r2 q=>?_;exact m v u g x y H2 z r1 r2 q
def eI(i:Nat):TE:=fun σ H Q=>∃v,σ[i]?=some (some v)/\Q v H
def tC(v:V):TE:=fun _ H Q=>Q v H
abbrev nDb(x:Str):Prop:=(x == ("__debug__":Str))=false
abbrev nDc(x:Str):Prop:=(x == ("__classdict__":Str))=false
def kJ(hN:X.N[i]?=some x)(hv:Vis X.env.scope x)(hd:nDb x:=by decide)(hcd:nDc x:=by decide):PE X (.Name x pos) (eI i):=by
 intro p s f H Q I h;obtain⟨v,e,h⟩:=h;obtain⟨m,g,o⟩:=I.loc;obtain⟨u,r,l⟩:=o i x v hN e hv;have fin:EP X p f Q u s:=⟨v,H,I,r,h⟩
 rcases l with⟨hk,j⟩|⟨hk,c,b,a⟩
 ·exact wpAny_Name (wpAny_loadName_local I.ok.kind hk g j fin) hd
 ·rcases hk with hk|hk
  ·exact wpAny_Name (wpAny_loadName_cell I.ok.kind hk b a fin) hd
  ·exact wpAny_Name (wpAny_loadName_free I.ok.kind hk b a fin hcd) hd
def u9{i j pos}:PE X (.Constant (.int i) j pos) (tC (.int i)):=fun _ _ _ H _ I h=>wpAny_Constant_int ⟨.int i,H,I.tok _,⟨_,rfl⟩,h⟩
def F0{b j pos}:PE X (.Constant (.bool b) j pos) (tC (.bl b)):=fun _ _ _ H _ I h=>Constant_bool ⟨.bl b,H,I,rfl,h⟩
def EO{j pos}:PE X (.Constant .none j pos) (tC .non):=fun _ _ _ H _ I h=>Constant_none ⟨.non,H,I,rfl,h⟩
def jc{x j pos}:PE X (.Constant (.str x) j pos) (tC (.str x)):=fun _ _ _ H _ I h=>Calls.Constant_str ⟨.str x,H,I.tok _,⟨_,rfl⟩,h⟩
def Gl(X:Cx)(x:Str):Prop:=X.env.kindOf x=some .globalImplicit
def iT(I:Inv X pz σ H s)(b:Gl X x)(a:X.mg x=some u)(h:Q u s)
  (hd:nDb x:=by decide):wpAny (model X.prog X.w) X.A (eval (.Name x pos) X.env) Q E s:=
 Calls.Name_function_global I.ok.kind b (Calls.loadGlobal_global (by rw[I.ok.glob];exact I.mod.glob.keeps I.bk) a h) hd
def ir(I:Inv X pz σ H s)(c:Gl X x)(b:X.mg x=none)(hv:bootBuiltins x=some u)(h:Q u s)
  (a:x ≠ "__name__":=by decide) (hd:nDb x:=by decide):wpAny (model X.prog X.w) X.A (eval (.Name x pos) X.env) Q E s:=by
 obtain⟨m,f,e⟩:=I.mod.blt;exact Calls.Name_function_global I.ok.kind c (Calls.loadGlobal_builtin (by rw[I.ok.glob];exact I.mod.glob.keeps I.bk) b (by rw[I.ok.blt];exact f.keeps I.bk) ((e x a).trans hv) h) hd
def jA{v:V}(b:Gl X x)(a:X.mg x=some u)(r:RelV v u)(hd:nDb x:=by decide):PE X (.Name x pos) (tC v):=
 fun _ _ _ H _ I h=>iT I b a ⟨v,H,I,r,h⟩ hd
def vz{v:V}(c:Gl X x)(b:X.mg x=none)(hv:bootBuiltins x=some u)(r:RelV v u)(a:x ≠ "__name__":=by decide)(hd:nDb x:=by decide):PE X (.Name x pos) (tC v):=
 fun _ _ _ H _ I h=>ir I c b hv ⟨v,H,I,r,h⟩ a hd
def t2I(ta tb:TE)(k:Int->Int->Hp->Prop):St->Hp->Prop:=fun a H=>ta a H fun x c=>tb a c fun y b=>∃i j,x=.int i/\y=.int j/\k i j b
def HE(ta tb:TE):TE:=fun a H Q=>t2I ta tb (fun i j b=>Q (.int (i+j)) b) a H
def IB(ta tb:TE):TE:=fun a H Q=>t2I ta tb (fun i j b=>(-(2^64)<i/\i<2^64)/\Q (.int (i*j)) b) a H
variable{a:Expr}  
def EB(g:PE X a ta)(f:PE X b tb):PE X (.BinOp a .Add b pos) (HE ta tb):=by intro z s o H Q I h;refine wpAny_BinOp (bin g f I h fun v u w x y m l e c q=>?_);obtain⟨i,j,rfl,rfl,q⟩:=q;obtain⟨t,rfl⟩:=e;obtain⟨p,rfl⟩:=c;exact add_int ⟨.int _,m,l.tok _,⟨_,rfl⟩,q⟩
def Ej(m:PE X a ta)(l:PE X b tb):PE X (.BinOp a .Mult b pos) (IB ta tb):=by intro B s w H Q I h;refine wpAny_BinOp (bin m l I h fun v u A x y p o e c q=>?_);obtain⟨i,j,rfl,rfl,⟨g,f⟩,q⟩:=q;obtain⟨t,rfl⟩:=e;obtain⟨z,rfl⟩:=c;exact mul_int ⟨.int _,p,o.tok _,⟨_,rfl⟩,q⟩ (.of_left (intBits_le_64 g f))
instance (x:V):Decidable (x=.non):=by cases x<;>first|exact .isTrue rfl|exact .isFalse nofun
def tB(t:TE):TT:=fun a H Q=>t a H fun x b=>∃c,x=.bl c/\Q c b
def EZ{t:TE}(h:PE X e t)(he:∀w,isTrue e X.env w=(do let v <-w;standAt e.pos;holding [v] (truthy v)):=by intro _;rfl):PT X e (tB t):=by intro p s a H Q I c;refine isTrue_plain (bv (h p s a H _ I c) fun v i x g f r1 b=>?_) (he _);obtain⟨d,rfl,q⟩:=b;cases r1;exact Zr ⟨g,f,q⟩
variable{tA tB':TT}{cc:List Expr}
def IS(t u:TT):TT:=fun a H Q=>t a H fun c b=>if c=true then u a b Q else Q false b
def tOr(t u:TT):TT:=fun a H Q=>t a H fun c b=>if c=true then Q true b else u a b Q
def Hy(t:TT):TT:=fun σ H Q=>t σ H fun c H1=>Q (!c) H1
def BM(f:PT X a tA):PW X (.BoolOp .And [a] pos) tA:=by
 intro w p s b H Q I h;refine isTrue_and (thn (f p s b H Q I h) fun c g e=>?_);cases c with
 |true=>exact isTrue_and_nil e
 |false=>exact e
def EV(f:PT X a tA):PW X (.BoolOp .Or [a] pos) tA:=by
 intro w p s b H Q I h;refine isTrue_or (thn (f p s b H Q I h) fun c g e=>?_);cases c with
 |false=>exact isTrue_or_nil e
 |true=>exact e
def Es(m:PT X a tA)(l:PW X (.BoolOp .And (b::cc) pos) tB'):PW X (.BoolOp .And (a::b::cc) pos) (IS tA tB'):=by
 intro w p s f H Q I h;refine isTrue_and (thn (m p s f H _ I h) fun c j e=>?_);obtain⟨i,g,q⟩:=e;cases c with
 |true=>exact l w p j f i Q g q
 |false=>exact⟨i,g,q⟩
def F8(m:PT X a tA)(l:PW X (.BoolOp .Or (b::cc) pos) tB'):PW X (.BoolOp .Or (a::b::cc) pos) (tOr tA tB'):=by
 intro w p s f H Q I h;refine isTrue_or (thn (m p s f H _ I h) fun c j e=>?_);obtain⟨i,g,q⟩:=e;cases c with
 |true=>exact⟨i,g,q⟩
 |false=>exact l w p j f i Q g q
def EC(e:PT X a tA):PT X (.UnaryOp .Not a pos) (Hy tA):=by intro p s b H Q I h;exact isTrue_not (e p s b H (fun c f=>Q (!c) f) I h)
def Fu(ta tb:TE):TE:=fun a H Q=>ta a H fun x b=>∃c,x=.bl c/\if c=true then tb a b Q else Q (.bl false) b
def Im(ta tb:TE):TE:=fun a H Q=>ta a H fun x b=>∃c,x=.bl c/\if c=true then Q (.bl true) b else tb a b Q
def Fw(ta:TE):TE:=fun a H Q=>ta a H fun x b=>∃c,x=.bl c/\Q (.bl (!c)) b
def yB{op}{t:TE}(h:PE X a t):PE X (.BoolOp op [a] pos) t:=fun p s b H Q I c=>BoolOp_one (h p s b H Q I c)
def E4(l:PE X a ta)(j:PE X (.BoolOp .And (b::cc) pos) tb):PE X (.BoolOp .And (a::b::cc) pos) (Fu ta tb):=by
 intro p s e H Q I h;refine BoolOp_and (bv (l p s e H _ I h) fun v i x g f r1 q=>?_);obtain⟨c,rfl,q⟩:=q;cases r1;refine Zr ?_;cases c with
 |true=>exact j p i e g Q f q
 |false=>exact⟨.bl false,g,f,rfl,q⟩
def CJ(l:PE X a ta)(j:PE X (.BoolOp .Or (b::cc) pos) tb):PE X (.BoolOp .Or (a::b::cc) pos) (Im ta tb):=by
 intro p s e H Q I h;refine BoolOp_or (bv (l p s e H _ I h) fun v i x g f r1 q=>?_);obtain⟨c,rfl,q⟩:=q;cases r1;refine Zr ?_;cases c with
 |false=>exact j p i e g Q f q
 |true=>exact⟨.bl true,g,f,rfl,q⟩
def xQ(e:PE X a ta):PE X (.UnaryOp .Not a pos) (Fw ta):=by intro p s b H Q I h;refine UnaryOp_ (bv (e p s b H _ I h) fun v i x g f r1 q=>?_);obtain⟨c,rfl,q⟩:=q;cases r1;exact not_of (Zr ⟨.bl (!c),g,f,rfl,q⟩)
def tIf(t:TT)(ta tb:TE):TE:=fun a H Q=>t a H fun c b=>if c=true then ta a b Q else tb a b Q
def yN(l:PT X c tA)(o:PE X a ta)(m:PE X b tb):PE X (.IfExp c a b pos) (tIf tA ta tb):=by
 intro p s e H Q I h;refine wpAny_IfExp (thn (l p s e H _ I h) fun d g f=>?_);obtain⟨j,i,q⟩:=f;cases d with
 |true=>exact o p g e j Q i q
 |false=>exact m p g e j Q i q
end
def SqL(K:Kq)(H:Hp)(a:Addr)(xs:List V):Prop:=
 Rd H a (.lst xs) \/
  ∃(o:Obj) (i:Array Value) (n:Nat),K.lookup a=some o/\o.cls=.type "list"/\o.dict=none/\o.data=.seq i n/\i.size<=sizeLine/\Vals xs i.toList
def SqT(K:Kq)(H:Hp)(a:Addr)(xs:List V):Prop:=
 Rd H a (.tup xs) \/
  ∃(o:Obj) (i:Array Value) (n:Nat),K.lookup a=some o/\o.cls=.type "tuple"/\o.data=.seq i n/\i.size<=sizeLine/\Vals xs i.toList
def IR:Value->Option V
 |.none=>some .non
 |.bool b=>some (.bl b)
 |.int i _=>some (.int i)
 |.str x _=>some (.str x)
 |.bytes b _=>some (.byt b)
 |.float b _=>some (.flt b)
 |.ref a=>some (.ref a)
 |.type n=>some (.ty n)
 |_=>none
def RelV.abs{x:V}(r:RelV x u):IR u=some x:=by
 cases x with
 |non=>cases r;rfl
 |bl _=>cases r;rfl
 |int _=>obtain⟨t,rfl⟩:=r;rfl
 |str _=>obtain⟨t,rfl⟩:=r;rfl
 |byt _=>obtain⟨t,rfl⟩:=r;rfl
 |flt _=>obtain⟨t,rfl⟩:=r;rfl
 |ref _=>cases r;rfl
 |ty _=>cases r;rfl
def RelV.inj{x:V}(r:RelV x u)(q:RelV y u):x=y:=YG (r.abs.symm.trans q.abs)
def Vals.inj(h:Vals xs us):Vals ys us->xs=ys:=by
 induction h generalizing ys with
 |nil=>intro q;cases q;rfl
 |cons r _ ih=>
  intro q;cases q with
  |cons b a=>rw[r.inj b,ih a]
def SqL.of(h:H a=some (.lst xs)):SqL K H a xs:=.inl (.inl h)
def SqT.of(h:H a=some (.tup xs)):SqT K H a xs:=.inl (.inl h)
def Inv.list(I:Inv X pz σ H s)(h:SqL X.K H a xs):∃its:List Value,Vals xs its/\PlainL s.heap a its.toArray/\xs.length<=sizeLine:=by
 rcases h with h|⟨o,its,n,hk,hc,hd,hs,hz,r⟩
 ·obtain⟨z,its,n,r,e⟩:=h.ok I.hok;exact⟨its,r,⟨_,n,e,rfl,rfl,rfl⟩,z⟩
 ·refine⟨its.toList,r,⟨o,n,I.kIn a o hk,hc,hd,by simpa using hs⟩,?_⟩;have e:=r.length;simp only[Zy]at e;omega
def Inv.tuple(I:Inv X pz σ H s)(h:SqT X.K H a xs):∃its:List Value,Vals xs its/\IsTup s.heap a its.toArray/\xs.length<=sizeLine:=by
 rcases h with h|⟨o,its,n,hk,hc,hs,hz,r⟩
 ·obtain⟨z,its,r,p,_⟩:=h.ok I.hok;exact⟨its,r,p,z⟩
 ·refine⟨its.toList,r,⟨o,I.kIn a o hk,hc,n,by simpa using hs⟩,?_⟩;have e:=r.length;simp only[Zy]at e;omega
def Inv.list_inj(I:Inv X pz σ H s)(h:SqL X.K H a xs)(h':SqL X.K H a ys):xs=ys:=by
 obtain⟨b,r,⟨o,n,e,_,_,d⟩,_⟩:=I.list h;obtain⟨i,g,⟨j,l,c,_,_,f⟩,_⟩:=I.list h';rw[e]at c;cases c;rw[d]at f;injection f with d1 _;have:b=i:=by simpa using Zn Array.toList d1
 subst this;exact r.inj g
def Inv.tuple_inj(I:Inv X pz σ H s)(h:SqT X.K H a xs)(h':SqT X.K H a ys):xs=ys:=by
 obtain⟨b,r,⟨o,e,_,n,d⟩,_⟩:=I.tuple h;obtain⟨i,g,⟨j,c,_,l,f⟩,_⟩:=I.tuple h';rw[e]at c;cases c;rw[d]at f;injection f with d1 _;have:b=i:=by simpa using Zn Array.toList d1
 subst this;exact r.inj g
abbrev Cx.wish(X:Cx)(E:Kv):Cx:={X with xe:=E}
abbrev Cx.nox(X:Cx):Cx:=X.wish fun _ _=>False
def Cx.Ok.wish(ok:X.Ok)(E:Kv):(X.wish E).Ok:=
 ⟨ok.mod,ok.kind,ok.glob,ok.blt,ok.above,ok.inj,ok.has,ok.cab,ok.hd,ok.frames,ok.stk,ok.exf,ok.bs,ok.bsz,ok.noex,ok.exfs,ok.funs,ok.frf⟩
def Cx.Ok.unwish(ok:(X.wish E).Ok):X.Ok:=
 ⟨ok.mod,ok.kind,ok.glob,ok.blt,ok.above,ok.inj,ok.has,ok.cab,ok.hd,ok.frames,ok.stk,ok.exf,ok.bs,ok.bsz,ok.noex,ok.exfs,ok.funs,ok.frf⟩
def Inv.wish(I:Inv X pz σ H s)(E:Kv):Inv (X.wish E) pz σ H s:=⟨I.ok.wish E,I.os,I.bare,I.base,I.loc,I.cell,I.free,I.freeC,I.pin,I.hok,I.len⟩
def Inv.unwish(I:Inv (X.wish E) pz σ H s):Inv X pz σ H s:=⟨I.ok.unwish,I.os,I.bare,I.base,I.loc,I.cell,I.free,I.freeC,I.pin,I.hok,I.len⟩
def SP.unwish{D:Ends}{f:Flow}(h:SP (X.wish E) pz D f s'):SP X pz D f s':=by
 cases f with
 |next=>obtain⟨a,H,I,q⟩:=h;exact⟨a,H,I.unwish,q⟩
 |brk=>obtain⟨a,H,I,q⟩:=h;exact⟨a,H,I.unwish,q⟩
 |cont=>obtain⟨a,H,I,q⟩:=h;exact⟨a,H,I.unwish,q⟩
 |ret u=>obtain⟨v,a,H,I,r,q⟩:=h;exact⟨v,a,H,I.unwish,r,q⟩
def PSs.nox{st:List Stmt}{t:TS}(h:PSs X.nox st t):PSs X st t:=fun p s a H D I b=>
 Zq (h p s a H D (I.wish _) b) (fun _ _ q=>q.unwish) fun _ _ z=>False.elim z
section
variable   {cc:List Stmt}{t u:TS}   
def FS:TS:=fun D σ H=>D.nx σ H
def Ix(t u:TS):TS:=fun D σ H=>t {D with nx:=u D} σ H
def vV:PSs X [] FS:=fun _ _ σ H _ I h=>Xz ⟨σ,H,I,h⟩
def kx(h1:PS X st t)(h2:PSs X cc u):PSs X (st::cc) (Ix t u):=by
 intro p s b H D I h;refine wpAny_execs_cons (thn (h1 p s b H {D with nx:=u D} I h) fun f c q=>?_);cases f with
 |next=>
  obtain⟨a,g,e,q⟩:=q;exact h2 p c a g D e q
 |ret v=>exact q
 |brk=>exact q
 |cont=>exact q
def rf(h1:PS X st t):PSs X [st] t:=by
 intro p s a H D I h;refine wpAny_execs_cons (thn (h1 p s a H D I h) fun f b q=>?_);cases f with
 |next=>exact Xz q
 |ret v=>exact q
 |brk=>exact q
 |cont=>exact q
def Inv.quiet(I:Inv X pz σ H s):interactive X.env=false:=by simp[interactive,I.ok.kind]
def GZ(te:TE):TS:=fun D σ H=>te σ H fun _ H1=>D.nx σ H1
def fV(he:PE X e te)(b:swapsWith e none pos.line X.env=pure false:=by rfl):PS X (.Expr e pos) (GZ te):=by intro p s a H D I h;exact wpAny_Expr_any (bv (he p s a H _ I h) fun v g x f c r1 q=>⟨a,f,c,q⟩) I.quiet b
def Ij(te:TE):TS:=fun D σ H=>te σ H D.rt
def qp(he:PE X e te):PS X (.Return (some e) pos) (Ij te):=by intro p s a H D I h;exact wpAny_Return_some (bv (he p s a H _ I h) fun v f x c b r1 q=>⟨x,a,c,b,r1,q⟩)
def IU(c:TT)(t u:TS):TS:=fun D a H=>c a H fun b e=>if b=true then t D a e else u D a e
def CN{a b:List Stmt}(l:PT X c tc)(o:PSs X a t)(m:PSs X b u):PS X (.If c a b pos) (IU tc t u):=by
 intro p s e H D I h;refine wpAny_If (thn (l p s e H _ I h) fun d g f=>?_);obtain⟨j,i,q⟩:=f;cases d with
 |true=>exact o p g e j D i q
 |false=>exact m p g e j D i q
def yF:TS:=fun _ _ _=>False
def zi:PS X st yF:=fun _ _ _ _ _ _ h=>h.elim
def wR:PSs X sts yF:=fun _ _ _ _ _ _ h=>h.elim
end
abbrev TG:=V->St->Hp->(St->Hp->Prop)->Prop
abbrev TGs:=List V->St->Hp->(St->Hp->Prop)->Prop
def PG(X:Cx)(a:Expr)(t:TG):Prop:=
 ∀(p:Kp) (s:Shared) (c:St) (H:Hp) (v:V) (u:Value) (Q:St->Hp->Prop),Inv X p c H s->RelV v u->t v c H Q->
  wpAny (model X.prog X.w) X.A (assign a X.env u) (fun _ f=>∃b e,Inv X p b e f/\Q b e) X.xe s
def PGs(X:Cx)(ts:List Expr)(t:TGs):Prop:=
 ∀(p:Kp) (s:Shared) (b:St) (H:Hp) (c:List V) (u:List Value) (Q:St->Hp->Prop),Inv X p b H s->Vals c u->t c b H Q->
  wpAny (model X.prog X.w) X.A (assignInOrder ((assignEach ts X.env).map (·.2)) u) (fun _ f=>∃a e,Inv X p a e f/\Q a e) X.xe s
abbrev DU:=V->V->V->Hp->(Hp->Prop)->Prop
def GB(X:Cx)(t:DU):Prop:=
 ∀(p:Kp) (s:Shared) (a:St) (H:Hp) (o i v:V) (b c u:Value) (Q:Hp->Prop),Inv X p a H s->RelV o b->RelV i c->RelV v u->t o i v H Q->
  wpAny (model X.prog X.w) X.A (setItem b c u) (fun _ f=>∃e,Inv X p a e f/\Q e) X.xe s
def lI(i:Nat):TG:=fun v σ H Q=>Q (σ.set i (some v)) H
def jJ(hN:X.N.Nodup)(hi:X.N[i]?=some x)(hx:Loc X.env.scope x)(a:FnL X x:=by first|exact .inl rfl|exact .inr rfl|assumption):PG X (.Name x pos) (lI i):=by intro p s c H v u Q I r h;exact wpAny_assign_Name (gp I hN hi hx r (fun e b=>⟨_,H,b,h⟩) a)
def F7:TGs:=fun vs σ H Q=>vs=[]/\Q σ H
def CH(t:TG)(u:TGs):TGs:=fun c b H Q=>∃v r,c=v::r/\t v b H fun a e=>u r a e Q
def cN:PGs X [] F7:=by intro p s a H b u Q I r h;obtain⟨e,h⟩:=h;subst e;cases r;exact assignInOrder_nil ⟨a,H,I,h⟩
def ar{t:TG}{u:TGs}(h1:PG X e t)(h2:PGs X es u)
  (i:(assignEach (e::es) X.env).map (·.2)=assign e X.env::(assignEach es X.env).map (·.2):=by rfl):PGs X (e::es) (CH t u):=by
 intro p s c H o x Q I r h;obtain⟨v,w,j,h⟩:=h;subst j;cases r with
 |cons r g=>
  rw[i];refine XA (thn (h1 p s c H _ _ _ I r h) fun _ f b=>?_);obtain⟨a,m,l,q⟩:=b;exact h2 p f a m _ _ Q l g q
def HI(K:Kq)(n:Nat)(t:TGs):TG:=fun v b H Q=>∃a x,v=.ref a/\SqT K H a x/\x.length=n/\t x b H Q
def DE{k:Nat}{t:TGs}{n:Nat}(z:X.calm=true)(h:PGs X es t)
  (w:(assignEach es X.env).length=n:=by rfl) (f:(assignEach es X.env).findIdx? (·.1)=none:=by rfl):PG X (.Tuple es k pos) (HI X.K n t):=by
 intro p s g H v u Q I r c;obtain⟨a,x,B,q,y,c⟩:=c;subst B;cases r;obtain⟨j,i,m,E⟩:=I.tuple q;refine assign_Tuple_tuple (I.ok.hd z) m (by simp[w,<-y,i.length]) f fun A l=>?_;have C:Inv X p g H {s with heap:=A }:=I.kept (t':=s.toks) fun b o e=>l b o (Yy (Yp e)) e
 exact h p _ g H x _ Q C (by simpa using i) c
def IN(to b:TE)(t:DU):TG:=fun v a H Q=>to a H fun o f=>b a f fun i e=>t o i v e fun c=>Q a c
def Ey{i:Expr}{f:TE}{t:DU}(z:PE X o to)(hi:PE X i f)(w:GB X t)
  (A:∀v,assign (.Subscript o i pos) X.env v=(do
   let a <-holding [v] (eval o X.env)
   let b <-holding [v,a] (eval i X.env)
   standAt pos
   holding [v,a,b] (setItem a b v)
   release [v,a,b] []):=by intro _;rfl):PG X (.Subscript o i pos) (IN to f t):=by
 intro p s c H v u Q I r h;rw[A];refine Yc (ZK (bv (z p s c H _ I h) fun a j x L E r1 m=>?_));refine Yc (ZK (bv (hi p j c L _ E m) fun b g y K C r2 l=>?_));refine Yc (wpAny_standAt (Yc (ZK (thn (w p g c K x y v a b u _ C r1 r2 r l) fun _ M e=>?_))));obtain⟨J,B,q⟩:=e;exact wpAny_release ⟨c,J,B,q⟩
def Af(te:TE)(g:TG):TS:=fun D a H=>te a H fun x b=>g x a b D.nx
def n9{g:TG}(he:PE X e te)(i:PG X tg g)(f:swapsWithSole [tg] e pos.line X.env=pure false:=by rfl)(hw:swappedStores [tg] e X.env=pure none:=by rfl)
  (h1:(assignEach [tg] X.env).map (·.2)=[assign tg X.env]:=by rfl):PS X (.Assign [tg] e pos) (Af te g):=by
 intro p s a H D I h;refine wpAny_Assign_stores (bv (he p s a H _ I h) fun v b x l j r1 c=>?_) f hw;rw[h1];exact thn (i p b a l x v _ j r1 c) fun _ m q=>q
def zF(hN:X.N.Nodup)(hi:X.N[i]?=some x)(hx:Loc X.env.scope x)(he:PE X e te)(b:swapsWith e (some (.Name x pos')) pos.line X.env=pure false:=by rfl)(c:FnL X x:=by first|exact .inl rfl|exact .inr rfl|assumption) :
  PS X (.Assign [.Name x pos'] e pos) (Af te (lI i)):=by
 intro p s a H D I h;refine wpAny_Assign_Name (bv (he p s a H _ I h) fun v m y j g r1 q=>?_) b;exact gp g hN hi hx r1 (fun l f=>⟨_,j,f,q⟩) c
def Eh(c:TT)(tb:TS):TS:=fun D a H=>∃W:Nat->St->Hp->Prop,(∃m,W m a H)/\∀m a H,W m a H->
 c a H fun b g=>if b=true then ∃N:St->Hp->Prop,(∀e h,N e h->∃f,f < m/\W f e h)/\tb {D with nx:=N,ct:=N,bk:=D.nx} a g else D.nx a g
def Ag{tb:TS}(z:PassesOwn (model X.prog X.w) X.A X.env X.xe)(T:PT X c tc)(U:PSs X body tb):PS X (.While c body [] pos) (Eh tc tb):=by
 intro p s L H D I h;obtain⟨W,⟨S,O⟩,i⟩:=h;refine wpAny_While (codeAny_whileLoop (fun n R=>∃g K,Inv X p g K R/\W n g K) ?_ S ⟨L,H,I,O⟩);rintro n Q ⟨e,J,Y,M⟩;refine ZU z (thn (T p Q e J _ Y (i n e J M)) fun b P x=>?_);obtain⟨E,C,l⟩:=x;cases b with
 |true=>
  obtain⟨N,B,l⟩:=l;rw[Yh rfl];refine ZU z (thn (U p P e E _ C l) fun f Z q=>?_);cases f with
  |next=>
   obtain⟨a,j,y,n3⟩:=q;obtain⟨o,u,m⟩:=B a j n3;exact⟨o,u,a,j,y,m⟩
  |cont=>
   obtain⟨a,j,y,n3⟩:=q;obtain⟨o,u,m⟩:=B a j n3;exact⟨o,u,a,j,y,m⟩
  |brk=>exact q
  |ret v=>exact q
 |false=>
  rw[Yl Yk];exact Xz ⟨e,E,C,l⟩
structure It where
 go:Nat->Hp->Prop
 yld:Nat->Hp->V->Hp->Prop
 stop:Nat->Hp->Prop
def i5(X:Cx)(pz:Kp)(H:Hp)(b:Addr):Prop:=
 H b=none/\b≠X.env.locals/\b∉X.fs/\(b∈X.ex\/X.s₀.heap.objs.size<=b)/\(∀x c,X.env.cells.lookup x=some c->c≠b)/\∀p∈X.pn++pz,p.1≠b
def Inv.fpOk{b:Addr}(I:Inv X pz σ H s)(h:s.heap.objs.size<=b)(f:H' b=none):i5 X pz H' b:=by
 refine⟨f,ZL (Ys I.lt h),I.nofs h,.inr (YC I.sz h),fun x c e z=>?_,fun p a z=>?_⟩
 ·obtain⟨v,q⟩:=I.cell x c e;exact absurd (Ys q.lt (by rw[z];exact h)) (Zd _)
 ·exact absurd (Ys (Yp (I.pin p a).1) (by rw[z];exact h)) (Zd _)
structure Turn (P:Program) (w:World) (K:PySem.W.Frag) (tg:Expr) (J:It) (fp:List Addr) (it:Addr) (tn:Nat->Heap->Prop):Prop where
 mem:it∈fp
 obj:∀i h,tn i h->∀b∈fp,∃o,h.get? b=some o/\∀v,o.data≠.cell v
 keep:∀i h h',tn i h->(∀b∈fp,∀o,h.get? b=some o->h'.get? b=some o)->tn i h'
 item:∀(X:Cx),X.prog=P->X.w=w->X.K=K->X.calm=true->∀(i:Nat) (pz:Kp) (s:Shared) (σ:St) (H:Hp) (E:Kv),Inv X pz σ H s->(∀b∈fp,i5 X pz H b)->tn i s.heap->J.go i H->
  wpAny (model P w) X.A (pyNext (.ref it)) (fun r s1=>∃u,r=some u /\
   wpAny (model P w) X.A (letOwnedTupleGo tg (.ref it) u) (fun _ s2=>∃x H',Inv X pz σ H' s2/\RelV x u/\J.yld i H x H'/\tn (i+1) s2.heap/\∀b∈fp,H' b=none) E s1) E s
 done:∀(X:Cx),X.prog=P->X.w=w->X.K=K->X.calm=true->∀(i:Nat) (pz:Kp) (s:Shared) (σ:St) (H:Hp) (E:Kv),Inv X pz σ H s->(∀b∈fp,i5 X pz H b)->tn i s.heap->J.stop i H->
  wpAny (model P w) X.A (pyNext (.ref it)) (fun r s1=>r=none/\Inv X pz σ H s1) E s
 self:∀(A:Around) (i:Nat) (s:Shared) (Q:Kv) (E:Kv),tn i s.heap->Q (.ref it) s->wpAny (model P w) A (pyIter (.ref it)) Q E s
abbrev TI:=St->Hp->(It->Hp->Prop)->Prop
def PIE(X:Cx)(pz:Kp)(σ:St)(tg:Expr)(R:It->Hp->Prop)(i:Value)(s:Shared):Prop:=
 ∃(c:Addr) (f:List Addr) (a:Nat->Heap->Prop) (J:It) (H:Hp),i=.ref c/\Inv X pz σ H s/\Turn X.prog X.w X.K tg J f c a/\a 0 s.heap/\(∀b∈f,i5 X pz H b)/\R J H
def PI(X:Cx)(tg iter:Expr)(wi:TI):Prop:=
 ∀(p:Kp) (s:Shared) (a:St) (H:Hp) (R:It->Hp->Prop),Inv X p a H s->wi a H R->
  wpAny (model X.prog X.w) X.A (eval iter X.env) (fun v b=>wpAny (model X.prog X.w) X.A (pyIter v) (PIE X p a tg R) X.xe b) X.xe s
def sS{M:Model}{it:Addr}{o:Obj}{n:String}{vs:Array Value}{Q:Unit->Shared->Prop}(b:s.heap.get? it=some o)(e:o.cls=.type n)(hd:o.data=.fields vs)
  (c:["enumerate","zip","dict_itemiterator","dict_reverseitemiterator","odict_iterator","itertools.zip_longest","itertools.pairwise"].contains n=false) (a:Q () s):wpAny M A (letOwnedTupleGo tg (.ref it) u) Q E s:=by
 unfold letOwnedTupleGo;cases tg<;>first
  |exact Yw a
  |(cases u<;>first
    |exact Yw a
    |(
     refine Yc (wpAny_load b ?_);rw[e,hd];show wpAny M A (if(["enumerate","zip","dict_itemiterator","dict_reverseitemiterator","odict_iterator","itertools.zip_longest","itertools.pairwise"].contains n&&vs[0]? == some (rawInt _))=true then _ else _) Q E s;rw[Yl (by intro h;rw[c,Xu]at h;cases h)];exact Yw a))
def Itl(K:Kq)(a:Addr):It:=
 ⟨fun i H=>∃b x,SqL K H a b/\b[i]?=some x,fun i H x c=>c=H/\∀b,SqL K H a b->b[i]?=some x,fun i H=>∃b,SqL K H a b/\b.length<=i⟩
def Itt(K:Kq)(a:Addr):It:=
 ⟨fun i H=>∃b x,SqT K H a b/\b[i]?=some x,fun i H x c=>c=H/\∀b,SqT K H a b->b[i]?=some x,fun i H=>∃b,SqT K H a b/\b.length<=i⟩
def Itr(lo:Int)(n:Nat):It:=⟨fun i _=>i<n,fun i H x a=>a=H/\x=.int (lo+i),fun i _=>n<=i⟩
def xn{P:Program}(a it:Addr):Turn P w K tg (Itl K a) [it] it (fun i h=>h.IsListIter it a i) where
 mem:=by simp
 obj:=fun i h f b g=>by
  have e:b=it:=by simpa using g
  subst e;obtain⟨o,e,c,d⟩:=f;exact⟨o,e,fun v z=>by rw[d]at z;cases z⟩
 keep:=fun i h q f k=>f.at fun o e=>k it (by simp) o e
 item:=by intro X L C M Y i U s T H E I m f J;subst L C M;obtain⟨Z,x,l,B⟩:=J;obtain⟨A,y,p,hz⟩:=I.list l;obtain⟨u,hu,ru⟩:=y.get B;obtain⟨S,R,f2,Q,O,N⟩:=m it (by simp);refine wpAny_pyNext_list_item f p.isList (x:=u) (by simpa using hu) fun q j sb=>?_;have I1:Inv X U T H {s with heap:=q }:=I.turned (t':=s.toks) (fun b o g e=>(sb.2 b g).trans e) S R Q O N;obtain⟨o,e,c,d⟩:=id j;exact⟨u,rfl,sS (s:={s with heap:=q }) e c d (by decide) ⟨x,H,I1,ru,⟨rfl,fun ys hy=>by rw[I.list_inj hy l];exact B⟩,j,fun b g=>(m b g).1⟩⟩
 done:=by intro X L C M Y i U s T H E I m f J;subst L C M;obtain⟨Z,l,B⟩:=J;obtain⟨A,y,p,hz⟩:=I.list l;obtain⟨S,R,f2,Q,O,N⟩:=m it (by simp);have hl:=y.length;exact wpAny_pyNext_list_end (I.ok.hd Y) f p.isList (by simp;omega) fun q eb=>⟨rfl,I.turned (t':=s.toks) (fun b o g e=>eb b o g e) S R Q O N⟩
 self:=fun _ _ _ _ _ f h=>wpAny_pyIter_listiter f h
def u4{P:Program}(a it:Addr):Turn P w K tg (Itt K a) [it] it (fun i h=>h.IsTupleIter it a i) where
 mem:=by simp
 obj:=fun i h f b j=>by
  have e:b=it:=by simpa using j
  subst e;obtain⟨o,e,c,d⟩:=f;exact⟨o,e,fun v z=>by rw[d]at z;cases z⟩
 keep:=fun i h y f k=>f.at fun o e=>k it (by simp) o e
 item:=by intro X L C M Y i U s T H E I q f J;subst L C M;obtain⟨Z,x,m,B⟩:=J;obtain⟨g,A,p,hz⟩:=I.tuple m;obtain⟨u,hu,ru⟩:=A.get B;obtain⟨S,R,f2,Q,O,N⟩:=q it (by simp);refine wpAny_pyNext_tuple_item f (show s.heap.IsTuple a g.toArray from p) (x:=u) (by simpa using hu) fun y l sb=>?_;have I1:Inv X U T H {s with heap:=y }:=I.turned (t':=s.toks) (fun b o j e=>(sb.2 b j).trans e) S R Q O N;obtain⟨o,e,c,d⟩:=id l;exact⟨u,rfl,sS (s:={s with heap:=y }) e c d (by decide) ⟨x,H,I1,ru,⟨rfl,fun ys hy=>by rw[I.tuple_inj hy m];exact B⟩,l,fun b j=>(q b j).1⟩⟩
 done:=by intro X L C M Y i U s T H E I q f J;subst L C M;obtain⟨Z,m,B⟩:=J;obtain⟨g,A,p,hz⟩:=I.tuple m;obtain⟨S,R,f2,Q,O,N⟩:=q it (by simp);have hl:=A.length;exact wpAny_pyNext_tuple_end (I.ok.hd Y) f (show s.heap.IsTuple a g.toArray from p) (by simp;omega) fun y eb=>⟨rfl,I.turned (t':=s.toks) (fun b o j e=>eb b o j e) S R Q O N⟩
 self:=fun _ _ _ _ _ f h=>wpAny_pyIter_tupleiter f h
def t8{P:Program}(it:Addr)(lo:Int)(n:Nat):Turn P w K tg (Itr lo n) [it] it (fun i h=>IsRangeIter h it (lo+(i:Nat)*1) ((n:Int)-(i:Nat)) 1) where
 mem:=by simp
 obj:=fun i h a b c=>by
  have e:b=it:=by simpa using c
  subst e;exact⟨_,a,fun v z=>by
   have N:Data.fields _=Data.cell v:=z;cases N⟩
 keep:=fun i h j a k=>k it (by simp) _ a
 item:=by intro X q l u p i M s J H E I g a m;subst q l u;obtain⟨C,B,R,A,y,x⟩:=g it (by simp);have W:=Walks.range (prog:=X.prog) (w:=X.w) (I.ok.hd p) it lo 1 n;refine W.item i s _ _ m a fun v j L Q f O=>?_;obtain⟨t,rfl⟩:=Q;have T:Inv X M J H {s with heap:=j,toks:=L}:=I.turned (fun b o c e=>O b o (by simpa using c) e) C B A y x;refine⟨_,rfl,sS (s:={s with heap:=j,toks:=L}) (n := "range_iterator") f rfl rfl (by decide) ⟨.int (lo+i),H,T,⟨t,?_⟩,⟨rfl,rfl⟩,f,fun b c=>(g b c).1⟩⟩;rw[Int.mul_one]
 done:=by intro X q l u p i M s J H E I g a m;subst q l u;obtain⟨C,B,R,A,y,x⟩:=g it (by simp);exact wpAny_pyNext_range_end (I.ok.hd p) a (by have:n<=i:=m;omega) fun j S=>⟨rfl,I.turned (t':=s.toks) (fun b o c e=>S b o c e) C B A y x⟩
 self:=fun _ _ _ _ _ a h=>wpAny_pyIter_rangeiter a h
def Gz(K:Kq)(tl:TE):TI:=fun c H R=>tl c H fun x b=>∃a,x=.ref a/\(∃e,SqL K b a e)/\R (Itl K a) b
def Ih(K:Kq)(tl:TE):TI:=fun c H R=>tl c H fun x b=>∃a,x=.ref a/\(∃e,SqT K b a e)/\R (Itt K a) b
def vO{l:Expr}{tl:TE}(w:PE X l tl):PI X tg l (Gz X.K tl):=by
 intro j s g H R I h;refine bv (w j s g H _ I h) fun v c x z f r1 i=>?_;obtain⟨a,e,⟨A,u⟩,q⟩:=i;subst e;cases r1;obtain⟨m,B,p,C⟩:=f.list u;refine wpAny_pyIter_list p.isList ?_;refine⟨c.heap.objs.size,[c.heap.objs.size],_,_,z,rfl,f.kept (t':=c.toks) fun b o e=>Ye _ e,xn a _,⟨_,Yo _ rfl,rfl,rfl⟩,fun b y=>?_,q⟩;have e:b=c.heap.objs.size:=by simpa using y
 subst e;exact f.fpOk (Ym _) (f.hok.fresh (Ym _))
def EN{l:Expr}{tl:TE}(w:PE X l tl):PI X tg l (Ih X.K tl):=by
 intro m s g H R I h;refine bv (w m s g H _ I h) fun v c x z f r1 j=>?_;obtain⟨a,e,⟨A,u⟩,q⟩:=j;subst e;cases r1;obtain⟨i,B,p,C⟩:=f.tuple u;refine wpAny_pyIter_tuple (show c.heap.IsTuple a i.toArray from p) ?_;refine⟨c.heap.objs.size,[c.heap.objs.size],_,_,z,rfl,f.kept (t':=c.toks) fun b o e=>Ye _ e,u4 a _,⟨_,Yo _ rfl,rfl,rfl⟩,fun b y=>?_,q⟩;have e:b=c.heap.objs.size:=by simpa using y
 subst e;exact f.fpOk (Ym _) (f.hok.fresh (Ym _))
def tV{R:It->Hp->Prop}{lo hi:Int}{t u v:Tok}{tk:Nat}(I:Inv X pz σ H s)(h1:-(2^62)<=lo)(h2:lo<2^62)(f:-(2^62)<=hi)(c:hi<2^62)
  (q:R (Itr lo (hi-lo).toNat) H):wpAny (model X.prog X.w) X.A (pyIter (.ref s.heap.objs.size)) (PIE X pz σ tg R) E {s with heap:=s.heap.push {cls:=.type "range",data:=.fields #[.int lo t,.int hi u,.int 1 v]},toks:=tk}:=by
 refine wpAny_pyIter_range (IsRange.new ..) (small_one h1 h2 f c) ?_;have a:Inv X pz σ H {s with heap:=s.heap.push {cls:=.type "range",data:=.fields #[.int lo t,.int hi u,.int 1 v]},toks:=tk}:=I.kept fun b o e=>Ye _ e
 refine⟨(s.heap.push {cls:=.type "range",data:=.fields #[.int lo t,.int hi u,.int 1 v]}).objs.size,[(s.heap.push {cls:=.type "range",data:=.fields #[.int lo t,.int hi u,.int 1 v]}).objs.size],_,_,H,rfl,
  a.kept (t':=tk) fun b o e=>Ye _ e,t8 _ lo (hi-lo).toNat,?_,fun b h=>?_,q⟩
 ·have i:lo+((0:Nat):Int)*1=lo:=by simp
  have g:(((hi-lo).toNat:Nat):Int)-((0:Nat):Int)=Builtin.Range.rangeSize lo hi 1:=by rw[rangeSize_one];split<;>omega
  show IsRangeIter _ _ (lo+((0:Nat):Int)*1) ((((hi-lo).toNat:Nat):Int)-((0:Nat):Int)) 1;rw[i,g];exact Yo _ rfl
 ·have e:b=(s.heap.push {cls:=.type "range",data:=.fields #[.int lo t,.int hi u,.int 1 v]}).objs.size:=by simpa using h
  subst e;exact a.fpOk (Ym _) (a.hok.fresh (Ym _))
def GC(ta:TA):TI:=fun a H R=>ta a H fun b c=>∃j:Int,b=[.int j]/\-(2^62)<=j/\j<2^62/\R (Itr 0 j.toNat) c
def Gp(ta:TA):TI:=fun a H R=>ta a H fun b c=>∃i j:Int,b=[.int i,.int j]/\(-(2^62)<=i/\i<2^62/\-(2^62)<=j/\j<2^62)/\R (Itr i (j-i).toNat) c
abbrev StO(e:Expr)(X:Cx):Prop:=starEach [e] X.env=[(false,eval e X.env)]
def wA{a:Expr}{ta:TA}(o:Gl X "range")(m:X.mg "range"=none)(u:PA X [a] ta)(l:StO a X:=by rfl):PI X tg (.Call (.Name "range" p) [a] [] pos) (GC ta):=by
 intro i s c H R I h;refine Call_ (ir I o m boot_range (Zi (bv (u pos i s c H _ I h) fun y z x A w r1 b=>?_) l rfl));obtain⟨j,e,b,g,q⟩:=b;subst e;cases r1 with
 |cons r f=>
  cases f;obtain⟨t,rfl⟩:=r;exact call_range_1 (tV w (by omega) (by omega) b g (by simpa using q))
def w4{a:Expr}{ta:TA}(A:Gl X "range")(z:X.mg "range"=none)(B:PA X [a,b] ta)(y:starEach [a,b] X.env=[(false,eval a X.env),(false,eval b X.env)]:=by rfl)(c:starEach [b] X.env=[(false,eval b X.env)]:=by rfl) :
  PI X tg (.Call (.Name "range" p) [a,b] [] pos) (Gp ta):=by
 intro x s l H R I h;refine Call_ (ir I A z boot_range (Zi (bv (B pos x s l H _ I h) fun J L E M C r1 g=>?_) (by rw[y,c]) (by rw[c];rfl)));obtain⟨i,j,e,⟨g,w,u,o⟩,q⟩:=g;subst e;cases r1 with
 |cons r f=>
  cases f with
  |cons m f=>
   cases f;obtain⟨t,rfl⟩:=r;obtain⟨K,rfl⟩:=m;exact call_range_2 (tV C g w u o q)
def H_(wi:TI)(g:TG)(tb:TS):TS:=fun D a H=>wi a H fun J j=>∃W:Nat->Nat->St->Hp->Prop,(∃m,W 0 m a j)/\∀i m a H,W i m a H->
 (J.stop i H/\D.nx a H)\/(J.go i H/\∃N:St->Hp->Prop,(∀b c,N b c->∃f,f < m/\W (i+1) f b c)/\∀x c,J.yld i H x c->g x a c fun e h=>tb {D with nx:=N,ct:=N,bk:=D.nx} e h)
def nD(fp:List Addr)(h:Heap):List (Addr×Obj):=fp.filterMap fun b=>(h.get? b).map fun o=>(b,o)
def gB{b:Addr}{o:Obj}(a:b∈fp)(e:h.get? b=some o):(b,o)∈nD fp h:=Xk.mpr ⟨b,a,by rw[e];rfl⟩
def wN{p:Addr×Obj}(a:p∈nD fp h):p.1∈fp/\h.get? p.1=some p.2:=by
 obtain⟨b,c,e⟩:=Xk.mp a;cases q:h.get? b with
 |none=>rw[q]at e;cases e
 |some o=>
  rw[q]at e;have f:(b,o)=p:=YG e;subst f;exact⟨c,q⟩
def Inv.pinned(I:Inv X pz σ H s)(g:∀b∈fp,i5 X pz H b)(f:∀b∈fp,∃o,s.heap.get? b=some o/\∀v,o.data≠.cell v):Inv X (pz++nD fp s.heap) σ H s:=
 I.pins_of fun p c=>(Zb.mp c).elim (fun z=>I.pin p (YX _ z)) fun z=>by
  obtain⟨h,e⟩:=wN z;obtain⟨l,j,i,_⟩:=g p.1 h;obtain⟨o,a,d⟩:=f p.1 h;rw[e]at a;cases a;exact⟨e,l,j,i,d⟩
def Inv.unpinned(I:Inv X (pz++pl) σ H s):Inv X pz σ H s:=I.pins_of fun p h=>I.pin p (YX _ (List.mem_append_left _ h))
abbrev FsI(e:Expr)(X:Cx):Prop:=∀x,foldedSetIterable e X.env x=pure x
def D5{wi:TI}{g:TG}{tb:TS}(R:PassesOwn (model X.prog X.w) X.A X.env X.xe)(hc:X.calm=true)(hi:PI X tg iter wi)(hg:PG X tg g)(p:PSs X body tb)
  (hs:FsI iter X:=by intro _;rfl):PS X (.For tg iter body [] pos) (H_ wi g tb):=by
 intro K s σ H D I h;refine wpAny_For (thn (hi K s σ H _ I h) fun v s1 h1=>thn h1 fun itv s2 h2=>?_) hs;obtain⟨it,U,tn,J,H2,e,I2,T,st2,f2,W,⟨m0,w0⟩,M⟩:=h2;subst e
 -- what stays true of the iterator's objects through the loop
 have l:∀{B:Hp},(∀b∈U,B b=none)->∀b∈U,i5 X K B b:=fun hn b p=>⟨hn b p,(f2 b p).2⟩
 refine codeAny_forLoop_any (fun n s'=>∃i j B,Inv X K j B s'/\tn i s'.heap/\(∀b∈U,B b=none)/\W i n j B) ?_ m0 ⟨0,σ,H2,I2,st2,fun b p=>(f2 b p).1,w0⟩;rintro n s3 ⟨i,c,Y,I3,P,S,w3⟩;rcases M i n c Y w3 with⟨O,qn⟩|⟨go,N,hN,step⟩
 ·refine ZU R (thn (T.done X rfl rfl rfl hc i K s3 c Y X.xe I3 (l S) P O) fun r s4 ⟨hr,I4⟩=>?_);subst hr;exact Xz ⟨c,Y,I4,qn⟩
 ·refine ZU R (thn (T.item X rfl rfl rfl hc i K s3 c Y X.xe I3 (l S) P go) fun r s4 ⟨u,hr,h4⟩=>?_);subst hr;refine ZU R (thn h4 fun _ s5 L=>?_);obtain⟨x,H5,I5,r5,y5,E,fr5⟩:=L;have I5':=I5.pinned (l fr5) (T.obj _ _ E);refine ZU R (thn (hg _ s5 c H5 x u _ I5' r5 (step x H5 y5)) fun _ s6 L=>?_);obtain⟨Z,H6,I6,q6⟩:=L;refine ZU R (thn (p _ s6 Z H6 _ I6 q6) fun f s7 C=>?_);have q:∀{a:St}{z:Hp},Inv X (K++nD U s5.heap) a z s7->N a z->∃m,m<n/\∃i j B,Inv X K j B s7/\tn i s7.heap/\(∀b∈U,B b=none)/\W i m j B:=fun{a z} y Q=>by
   obtain⟨m',hm,w7⟩:=hN a z Q;refine⟨m',hm,i+1,a,z,y.unpinned,T.keep _ _ _ E fun b p o e=>(y.pin (b,o) (YX _ (YX _ (gB p e)))).1,fun b p=>?_,w7⟩;obtain⟨o,e,d⟩:=T.obj _ _ E b p;exact(y.pin (b,o) (YX _ (YX _ (gB p e)))).2.1
  cases f with
  |next=>obtain⟨a,z,y,Q⟩:=C;exact q y Q
  |cont=>obtain⟨a,z,y,Q⟩:=C;exact q y Q
  |brk=>obtain⟨a,z,y,C⟩:=C;exact⟨a,z,y.unpinned,C⟩
  |ret v=>obtain⟨x7,a,z,y,r7,C⟩:=C;exact⟨x7,a,z,y.unpinned,r7,C⟩
abbrev R2:=V->V->Hp->VK->Prop
def OpR(X:Cx)(f:Value->Value->Sem Value)(r:R2):Prop:=
 ∀(p:Kp) (s:Shared) (a:St) (H:Hp) (x y:V) (v u:Value) (Q:VK),Inv X p a H s->RelV x v->RelV y u->r x y H Q->
  wpAny (model X.prog X.w) X.A (f v u) (EP X p a Q) X.xe s
def UnR(X:Cx)(f:Value->Sem Value)(r:V->Hp->VK->Prop):Prop:=
 ∀(p:Kp) (s:Shared) (a:St) (H:Hp) (x:V) (v:Value) (Q:VK),Inv X p a H s->RelV x v->r x H Q->
  wpAny (model X.prog X.w) X.A (f v) (EP X p a Q) X.xe s
def CallR(X:Cx)(f:Value)(r:List V->Hp->VK->Prop):Prop:=
 ∀(p:Kp) (s:Shared) (a:St) (H:Hp) (x:List V) (u:List Value) (Q:VK),Inv X p a H s->Vals x u->r x H Q->
  wpAny (model X.prog X.w) X.A (call f u) (EP X p a Q) X.xe s
def tOp(r:R2)(ta tb:TE):TE:=fun a H Q=>ta a H fun x c=>tb a c fun y b=>r x y b Q
def tUn(r:V->Hp->VK->Prop)(ta:TE):TE:=fun a H Q=>ta a H fun x b=>r x b Q
def rI(C:Int->Int->Prop)(g:Int->Int->V):R2:=fun x y H Q=>∃i j,x=.int i/\y=.int j/\C i j/\Q (g i j) H
def rI0(g:Int->Int->V):R2:=fun x y H Q=>∃i j,x=.int i/\y=.int j/\Q (g i j) H
def rU(g:Int->V):V->Hp->VK->Prop:=fun x H Q=>∃i,x=.int i/\Q (g i) H
section
variable  {a:Expr}{tc:TE} 
def Ew(o:PE X a ta)(m:PE X b tb){R:V->V->Hp->Prop}(I:Inv X pz σ H s)
  (h:ta σ H fun x H1=>tb σ H1 fun y H2=>R x y H2)  {f:Value->Value->Sem Value}
  (l:∀v u g x y H2,Inv X pz σ H2 g->RelV x v->RelV y u->R x y H2->wpAny (model X.prog X.w) X.A (f v u) Q X.xe g) :
  wpAny (model X.prog X.w) X.A (eval a X.env) (fun v e=>wpAny (model X.prog X.w) X.A (eval b X.env) (fun u c=>wpAny (model X.prog X.w) X.A (f v u) Q X.xe c) X.xe e) X.xe s:=by
 refine bv (o pz s σ H _ I h) fun v i x H1 z r1 j=>?_;refine bv (m pz i σ H1 _ z j) fun u g y H2 p r2 q=>?_;exact l v u g x y H2 p r1 r2 q
def CV{op:Operator}{r:R2}(i:OpR X (binaryOp op) r)(l:PE X a ta)(j:PE X b tb):PE X (.BinOp a op b pos) (tOp r ta tb):=by intro p s c H Q I h;exact wpAny_BinOp (Ew l j I h fun v u e x y o m g f q=>i p e c o x y v u Q m g f q)
def Ge{op:UnaryOp}{r:V->Hp->VK->Prop}(e:UnR X (unaryOp op) r)(f:PE X a ta):PE X (.UnaryOp op a pos) (tUn r ta):=by intro p s b H Q I h;exact UnaryOp_ (bv (f p s b H _ I h) fun v c x i g r1 q=>e p c b i x v Q g r1 q)
def opI{f:Value->Value->Sem Value}{C:Int->Int->Prop}{g:Int->Int->Int}
  (a:∀(i j:Int) (t u:Tok) (s:Shared) (Q:Kv) (E:Kv),C i j->Q (.int (g i j) s.toks) {s with toks:=s.toks+1}->wpAny (model X.prog X.w) X.A (f (.int i t) (.int j u)) Q E s) :
  OpR X f (rI C fun i j=>.int (g i j)):=by
 intro p s m H x y v u Q I e c h;obtain⟨i,j,rfl,rfl,l,q⟩:=h;obtain⟨t,rfl⟩:=e;obtain⟨b,rfl⟩:=c;exact a i j t b s _ _ l ⟨.int (g i j),H,I.tok _,⟨_,rfl⟩,q⟩
def Gd{f:Value->Value->Sem Value}{g:Int->Int->Int}
  (a:∀(i j:Int) (t u:Tok) (s:Shared) (Q:Kv) (E:Kv),Q (.int (g i j) s.toks) {s with toks:=s.toks+1}->wpAny (model X.prog X.w) X.A (f (.int i t) (.int j u)) Q E s) :
  OpR X f (rI0 fun i j=>.int (g i j)):=by
 intro p s l H x y v u Q I e c h;obtain⟨i,j,rfl,rfl,q⟩:=h;obtain⟨t,rfl⟩:=e;obtain⟨b,rfl⟩:=c;exact a i j t b s _ _ ⟨.int (g i j),H,I.tok _,⟨_,rfl⟩,q⟩
def BX{f:Value->Value->Sem Value}{g:Int->Int->Bool}
  (a:∀(i j:Int) (t u:Tok) (s:Shared) (Q:Kv) (E:Kv),Q (.bool (g i j)) s->wpAny (model X.prog X.w) X.A (f (.int i t) (.int j u)) Q E s) :
  OpR X f (rI0 fun i j=>.bl (g i j)):=by
 intro p s l H x y v u Q I e c h;obtain⟨i,j,rfl,rfl,q⟩:=h;obtain⟨t,rfl⟩:=e;obtain⟨b,rfl⟩:=c;exact a i j t b s _ _ ⟨.bl (g i j),H,I,rfl,q⟩
def HC(i j:Int):Prop:=0<j/\j<1073741824
def IT(i j:Int):Prop:=0<=j/\j<=1000000/\i.natAbs<2^64
def CMul(i j:Int):Prop:=(-(2^64)<i/\i<2^64)\/(-(2^64)<j/\j<2^64)
def CMul.ok{i j:Int}(h:CMul i j):IntMulOk i j:=by
 rcases h with⟨b,a⟩|⟨b,a⟩
 ·exact .of_left (intBits_le_64 b a)
 ·exact .of_right (intBits_le_64 b a)
def EI:OpR X (binaryOp .Add) (rI0 fun i j=>.int (i+j)):=Gd fun _ _ _ _ _ _ _ q=>add_int q
def Ep:OpR X (binaryOp .Sub) (rI0 fun i j=>.int (i-j)):=Gd fun _ _ _ _ _ _ _ q=>sub_int q
def EW:OpR X (binaryOp .Mult) (rI CMul fun i j=>.int (i*j)):=opI fun _ _ _ _ _ _ _ h q=>mul_int q h.ok
def BN:OpR X (binaryOp .FloorDiv) (rI HC fun i j=>.int (i/j)):=opI fun i j _ _ _ _ _ h q=>by
 have b:(0:Int)<j:=h.1;have a:j<1073741824:=h.2;exact floordiv_int (by omega) (by rw[Int.fdiv_eq_ediv_of_nonneg i (by omega)];exact q) (.inl (PyProof.noPylong_small (by omega)))
def Ff:OpR X (binaryOp .Mod) (rI (fun _ j=>0<j) fun i j=>.int (i%j)):=opI fun i j _ _ _ _ _ h q=>by
 have a:(0:Int)<j:=h;exact mod_int' (by omega) (by rw[Int.fmod_eq_emod_of_nonneg i (by omega)];exact q)
def ET:OpR X (binaryOp .Pow) (rI IT fun i j=>.int (i^j.toNat)):=opI fun _ _ _ _ _ _ _ h q=>pow_int_small h.1 h.2.1 h.2.2 q
def unI{f:Value->Sem Value}{g:Int->Int}
  (a:∀(i:Int) (t:Tok) (s:Shared) (Q:Kv) (E:Kv),Q (.int (g i) s.toks) {s with toks:=s.toks+1}->wpAny (model X.prog X.w) X.A (f (.int i t)) Q E s) :
  UnR X f (rU fun i=>.int (g i)):=by
 intro p s c H x v Q I b h;obtain⟨i,rfl,q⟩:=h;obtain⟨t,rfl⟩:=b;exact a i t s _ _ ⟨.int (g i),H,I.tok _,⟨_,rfl⟩,q⟩
def DO:UnR X (unaryOp .USub) (rU fun i=>.int (-i)):=unI fun _ _ _ _ _ q=>neg_int q
end
section
variable  {a:Expr}{tc:TE} 
def DT{Q:VK}{k k':Bool}(I:Inv X pz σ H s)(q:Q (.bl k) H)(e:k=k'):EP X pz σ Q (.bool k') s:=by subst e;exact⟨.bl k,H,I,rfl,q⟩
def CW:OpR X (compareOp .Lt) (rI0 fun i j=>.bl (decide (i<j))):=BX fun _ _ _ _ _ _ _ q=>lt_int q
def Gk:OpR X (compareOp .LtE) (rI0 fun i j=>.bl (decide (i<=j))):=BX fun _ _ _ _ _ _ _ q=>le_int q
def G0:OpR X (compareOp .Gt) (rI0 fun i j=>.bl (decide (j<i))):=BX fun _ _ _ _ _ _ _ q=>gt_int q
def Gu:OpR X (compareOp .GtE) (rI0 fun i j=>.bl (decide (j<=i))):=BX fun _ _ _ _ _ _ _ q=>ge_int q
def DB:OpR X (compareOp .Is) (fun x y H Q=>y=.non/\Q (.bl (decide (x=.non))) H):=by
 intro p s c H x y v u Q I a b h;obtain⟨rfl,q⟩:=h;cases b;refine is_none_gen (DT I q ?_);cases x<;>first
  |(cases a;rfl)
  |(obtain⟨t,rfl⟩:=a;rfl)
def OpR.or{f:Value->Value->Sem Value}{r e:R2}(h:OpR X f r)(h':OpR X f e):OpR X f (fun x y H Q=>r x y H Q\/e x y H Q):=by
 intro p s a H x y v u Q I c b q;rcases q with q|q
 ·exact h p s a H x y v u Q I c b q
 ·exact h' p s a H x y v u Q I c b q
def gJ(b:Expr){op:CmpOp}(h:op≠.In:=by decide)(h2:op≠.NotIn:=by decide):behindInMarks op b=false:=by
 have a:(op == CmpOp.In)=false:=by cases op<;>first|rfl|exact absurd rfl h
 have e:(op == CmpOp.NotIn)=false:=by cases op<;>first|rfl|exact absurd rfl h2
 cases b<;>simp[behindInMarks,a,e]
def qC{op:CmpOp}{r:R2}(i:OpR X (compareOp op) r)(m:PE X a ta)(l:PE X b tb)(j:behindInMarks op b=false):PE X (.Compare a [op] [b] pos) (tOp r ta tb):=by intro p s c H Q I h;exact wpAny_Compare1 (Ew m l I h fun v u e x y w o g f q=>i p e c w x y v u Q o g f q) j
def xZ(t:TE):TT:=fun a H Q=>t a H fun x b=>∃k,x=.bl k/\Q k b
def vX{op:CmpOp}{r:R2}(m:OpR X (compareOp op) r)(A:PE X a ta)(w:PE X b tb)(o:behindInMarks op b=false):PT X (.Compare a [op] [b] pos) (xZ (tOp r ta tb)):=by
 intro p s f H Q I h;refine wpAny_isTrue_Compare1 (bv (A p s f H _ I h) fun v i x L E r1 l=>bv (w p i f L _ E l) fun u g y K C r2 j=>
  bv (m p g f K x y v u _ C r1 r2 j) fun c M z J B r3 ⟨k,e,q⟩=>?_) o
 subst e;cases r3;exact Zr ⟨J,B,q⟩
def u6(r c:R2)(ta tb tc:TE):TE:=fun a H Q=>ta a H fun x g=>tb a g fun y f=>r x y f fun z b=>∃k,z=.bl k /\
 (if k=true then tc a b fun w e=>c y w e Q else Q (.bl false) b)
def sB{op o:CmpOp}{r i:R2}(M:OpR X (compareOp op) r)(g:OpR X (compareOp o) i)(R:PE X a ta)(P:PE X b tb)(O:PE X c tc)
  (N:lastMarks [op,o] [b,c]=false:=by with_unfolding_all rfl):PE X (.Compare a [op,o] [b,c] pos) (u6 r i ta tb tc):=by
 intro p s f H Q I h;refine Compare_chain (bv (R p s f H _ I h) fun v E x H1 U r1 L=>chain_link (bv (P p E f H1 _ U L) fun u C y Z T r2 K=>
  bv (M p C f Z x y v u _ T r1 r2 K) fun d B z l j r3 ⟨k,e,q⟩=>?_)) N
 subst e;cases r3;refine Zr ?_;cases k with
 |false=>exact ite_ff ⟨.bl false,l,j,rfl,q⟩
 |true=>exact ite_tt (chain_last (bv (O p B f l _ j q) fun w A m Y S r4 J=>g p A f Y y m u w Q S r2 r4 J))
def rM{op o:CmpOp}{r j:R2}(P:OpR X (compareOp op) r)(g:OpR X (compareOp o) j)(U:PE X a ta)(T:PE X b tb)(S:PE X c tc)
  (R:lastMarks [op,o] [b,c]=false:=by with_unfolding_all rfl):PT X (.Compare a [op,o] [b,c] pos) (xZ (u6 r j ta tb tc)):=by
 intro p s f H Q I h;refine isTrue_chain (bv (U p s f H _ I h) fun v J x H1 I1 r1 N=>test_link (bv (T p J f H1 _ I1 N) fun u E y H2 I2 r2 M=>
  bv (P p E f H2 x y v u _ I2 r1 r2 M) fun d C z m l r3 ⟨k,e,q⟩=>?_)) R
 subst e;cases r3;refine Zr ?_;cases k with
 |false=>
  obtain⟨k',Z,O⟩:=q;cases Z;exact ite_ff ⟨m,l,O⟩
 |true=>
  refine ite_tt (test_last (bv (S p C f m _ l q) fun A B w H4 I4 r4 L=>bv (g p B f H4 y w u A _ I4 r2 r4 L) fun d' s5 z2 H5 I5 r5 i=>?_));obtain⟨k2,Y,K⟩:=i;subst Y;cases r5;exact Zr ⟨H5,I5,K⟩
def kU:(sizeLine:Nat)<2^63:=by rw[YV];decide
def uJ:OpR X (binaryOp .Add) (fun x y H Q=>∃i j,x=.str i/\y=.str j/\i.length+j.length<=sizeLine/\Q (.str (i++j)) H):=by intro p s f H x y v u Q I c b h;obtain⟨i,j,rfl,rfl,e,q⟩:=h;obtain⟨t,rfl⟩:=c;obtain⟨a,rfl⟩:=b;exact add_str (fun a g=>⟨.str (i++j),H,I.tok _,⟨_,rfl⟩,q⟩) e
def fE{x:V}(r:Vals [x] us):∃u,us=[u]/\RelV x u:=by
 cases r with
 |cons r1 r2=>cases r2;exact⟨_,rfl,r1⟩
def lQ{x:V}(r:Vals [x,y] us):∃u w,us=[u,w]/\RelV x u/\RelV y w:=by
 cases r with
 |cons r1 r2=>
  cases r2 with
  |cons r3 r4=>cases r4;exact⟨_,_,rfl,r1,r3⟩
def wX(b:X.calm=true):CallR X (.builtin "max") (fun xs H Q=>∃i j,xs=[.int i,.int j]/\Q (.int (if j > i then j else i)) H):=by
 intro p s c H xs e Q I r h;obtain⟨i,j,rfl,q⟩:=h;obtain⟨u,w,rfl,⟨t,rfl⟩,⟨g,rfl⟩⟩:=lQ r;refine max_two_ints (I.ok.hd b) fun l f k=>⟨_,H,I.kept k,?_,q⟩
 by_cases a:j > i
 ·rw[Yh a,Yh a];exact⟨_,rfl⟩
 ·rw[Yl a,Yl a];exact⟨_,rfl⟩
def xq(b:X.calm=true):CallR X (.builtin "min") (fun xs H Q=>∃i j,xs=[.int i,.int j]/\Q (.int (if j<i then j else i)) H):=by
 intro p s c H xs e Q I r h;obtain⟨i,j,rfl,q⟩:=h;obtain⟨u,w,rfl,⟨t,rfl⟩,⟨g,rfl⟩⟩:=lQ r;refine min_two_ints (I.ok.hd b) fun l f k=>⟨_,H,I.kept k,?_,q⟩
 by_cases a:j<i
 ·rw[Yh a,Yh a];exact⟨_,rfl⟩
 ·rw[Yl a,Yl a];exact⟨_,rfl⟩
def lx:CallR X (.type "int") (fun xs H Q=>(∃i,xs=[.int i]/\Q (.int i) H)\/∃k,xs=[.bl k]/\Q (.int (if k then 1 else 0)) H):=by
 intro p s a H xs b Q I r h;rcases h with⟨i,rfl,q⟩|⟨k,rfl,q⟩
 ·obtain⟨u,rfl,t,rfl⟩:=fE r;exact call_int_int ⟨.int i,H,I,⟨_,rfl⟩,q⟩
 ·obtain⟨u,rfl,r1⟩:=fE r;cases r1;exact call_int_bool ⟨.int (if k then 1 else 0),H,I.tok _,⟨_,rfl⟩,q⟩
end
structure ObjM (h:Heap) (x dx C:Addr) (mA:Str->Option Value):Prop where
 obj:h.get? x=some (PySem.W.instObj C dx)
 ns:h.Ns1 dx mA
 ne:dx≠x
def wp(n:h.Ns1 dx mA):∃c,h.get? dx=some c/\∀name,PySem.W.lookIn name c=some (mA name):=by
 obtain⟨o,f,s,i,m,l,_,j⟩:=n;refine⟨o,i,fun name=>?_⟩;have e:=j name;unfold nsFind findBy at e;rw[<-Array.find?_toList]at e;unfold PySem.W.lookIn;rw[m];dsimp only;split
 ·rename_i y q;rw[q]at e;exact Zn some e
 ·rename_i q;rw[q]at e;have a:f.toList.any (·.refKey)=false:=by rw[List.any_eq_false];intro y g;obtain⟨z,t,b⟩:=l y (Array.mem_toList_iff.mp g);simp[DictEntry.refKey,b]
  have p:¬f.toList.any (·.refKey)=true:=by rw[a];exact Yk
  rw[Yl p];exact Zn some e
def ObjM.look{x:Addr}(I:ObjM h x dx C mA):∃o,PySem.W.InstAt h x (PySem.W.instObj C dx) C (some o)/\∀name,PySem.W.lookIn name o=some (mA name):=
 let ⟨o,ho,hl⟩:=wp I.ns
 ⟨o,⟨I.obj,rfl,rfl,ho⟩,hl⟩
section
variable       {x:Addr}   {v:Value}
def BP{e:Bool}(X:K.In s.heap)(I:ObjM s.heap x dx C mA)(f:PySem.W.plainGet K C name=true)(c:PySem.W.hasDictIn K C=true)
  (g:PySem.W.findIn K (.ref C) name=some none) (hv:mA name=some v) (a:PySem.W.handedIn v=true) (h:Q v {s with toks:=s.toks+1}) :
  wpAny (model prog w) A (getAttr (.ref x) name e) Q E s:=by
 obtain⟨o,J,b⟩:=I.look;exact PySem.W.get_value X J (Vf f).1 (PySem.W.findObj_own c g rfl (by rw[b,hv])) a h
def Au{pl:Sem Bool}{Q:Value×List Value->Shared->Prop}(X:K.In s.heap)(I:ObjM s.heap x dx C mA)(a:PySem.W.plainGet K C name=true)
  (e:PySem.W.findIn K (.ref C) name=some (some (.ref f))) (b:PySem.W.isFn K (.ref f)=true) (hv:mA name=none) (h:Q (.ref f,[.ref x]) s) :
  wpAny (model prog w) A (getMethod (.ref x) name pl) Q E s:=by
 obtain⟨o,J,c⟩:=I.look;exact PySem.W.method_fn X J (Vf a).1 (Vf a).2 e (Zz.mp b) (by show(PySem.W.lookIn name o).map (·.isSome)=some false;rw[c,hv];rfl) h
def Cj{ns:List Str}{Q:Unit->Shared->Prop}(X:K.In s.heap)(I:ObjM s.heap x dx C mA)
  (o:PySem.W.findIn K (.ref C) "__setattr__"=some (some (.builtin "object.__setattr__"))) (p:PySem.W.plainOver K C=true) (m:PySem.W.takerIn K C name=some none) (q:PySem.W.hasDictIn K C=true)
  (hw:PySem.Within mA ns) (hsz:ns.length<=sizeLine)
  (h:∀h',ObjM h' x dx C (fun y=>if y=name then some v else mA y)->Heap.SameBut dx s.heap h'->Q () {s with heap:=h',toks:=s.toks+2}) :
  wpAny (model prog w) A (setAttr (.ref x) name v) Q E s:=by
 obtain⟨H,J,M⟩:=I.look;refine PySem.W.set_plain X J o (PySem.W.osa_open (s:={s with toks:=s.toks+1}) (r:=none) X J p m fun b=>?_);obtain⟨N,u,i⟩:=PySem.W.any_some q;have l:s.heap.get? x=some ⟨.ref C,some dx,.plain,#[]⟩:=I.obj;refine Yc (Yw (Yc (Yc (wpAny_loadPart l (Yc (PySem.W.Looks.here (s:={s with toks:=s.toks+1}) (PySem.W.looks_clsIn X u) ?_))))));rw[i];refine Yw (a:=some dx) (Yc (Yw (Yc ?_)));refine wpAny_nsSet1 (s:={s with toks:=s.toks+1}) I.ns fun h' e c=>?_;obtain⟨L,z,B,f,g,j⟩:=e.count (PySem.Within.cons name v hw);refine Yc (wpAny_lookBehind f (by rw[g];exact pastItsLine_dict (YC j (by rw[Yz];omega))) ?_);exact Yw (h _ ⟨(c.2 _ (ZJ I.ne)).trans I.obj,e,I.ne⟩ c)
def zy{R:Kr}{vs:List Value}(X:K.In s.heap)(b:PySem.W.makesIn K C=true)
  (hi:PySem.W.findIn K (.ref C) "__init__"=some (some (.ref f))) (c:PySem.W.typeIn K (.ref f)=some (.type "function"))
  (h:codeAny (model prog w) (A.under (.builtin "type.__call__" ⟨.ref C::vs,kw⟩)) (.call (.ref f) ⟨.ref (s.heap.objs.size+1)::vs,kw⟩) (PySem.W.InitBack (s.heap.objs.size+1) R)
   {s with heap:=(s.heap.push PySem.W.emptyDict).push (PySem.W.instObj C s.heap.objs.size)}) :
  codeAny (model prog w) A (.call (.ref C) ⟨vs,kw⟩) R s:=by
 obtain⟨e,g,d,t,o⟩:=s;exact PySem.W.make_core (PySem.W.makes_of X b) (PySem.W.looks_findIn X hi) (fun a=>PySem.W.bind_fn X a c) (.inl rfl) h
end
def gM(f:Str)(v:V):List (Str×V)->List (Str×V)
 |[]=>[(f,v)]
 |(g,x)::r=>if g=f then(g,v)::r else(g,x)::gM f v r
def lH(f g:Str)(v:V):∀fs:List (Str×V),(gM f v fs).lookup g=if g=f then some v else fs.lookup g
 |[]=>by
  show List.lookup g [(f,v)]=_;by_cases h:g=f
  ·have a:(g == f)=true:=Zz.mpr h;simp only[List.lookup,a,Yh h]
  ·have a:(g == f)=false:=Zo.mpr h;simp only[List.lookup,a,Yl h]
 |(k,x)::r=>by
  have ih:=lH f g v r;rw[show gM f v ((k,x)::r)=(if k=f then(k,v)::r else(k,x)::gM f v r)from rfl];by_cases b:k=f
  ·rw[Yh b];by_cases h:g=k
   ·have a:(g == k)=true:=Zz.mpr h;simp only[List.lookup,a,Yh (h.trans b)]
   ·have a:(g == k)=false:=Zo.mpr h;simp only[List.lookup,a,Yl (fun e:g=f=>h (e.trans b.symm))]
  ·rw[Yl b];by_cases h:g=k
   ·have a:(g == k)=true:=Zz.mpr h;simp only[List.lookup,a,Yl (fun e:g=f=>b (h.symm.trans e))]
   ·have a:(g == k)=false:=Zo.mpr h;simp only[List.lookup,a];exact ih
def lb(f:Str)(v:V):∀fs:List (Str×V),f∈(gM f v fs).map (·.1)/\∀g,g∈fs.map (·.1)->g∈(gM f v fs).map (·.1)
 |[]=>⟨by simp[gM],fun g h=>by simp at h⟩
 |(k,x)::r=>by
  obtain⟨b,i⟩:=lb f v r;rw[show gM f v ((k,x)::r)=(if k=f then(k,v)::r else(k,x)::gM f v r)from rfl];by_cases a:k=f
  ·rw[Yh a];subst a;exact⟨by simp,fun g h=>by simpa using h⟩
  ·rw[Yl a];refine⟨?_,fun g h=>?_⟩
   ·rw[Yx];exact Yd _ b
   ·rw[Yx]at h ⊢;rcases YH.mp h with e|e
    ·exact YH.mpr (.inl e)
    ·exact Yd _ (i g e)
def ly(f:Str)(v:V):∀fs:List (Str×V),(gM f v fs).length<=fs.length+1
 |[]=>by simp[gM]
 |(k,x)::r=>by
  have ih:=ly f v r;rw[show gM f v ((k,x)::r)=(if k=f then(k,v)::r else(k,x)::gM f v r)from rfl];by_cases h:k=f
  ·rw[Yh h,Yz,Yz];omega
  ·rw[Yl h,Yz,Yz];omega
def RelO.some_of{v:V}{o:Option Value}(r:RelO (some v) o):∃u,o=some u/\RelV v u:=by
 cases o with
 |none=>exact(show False from r).elim
 |some u=>exact⟨u,rfl,r⟩
def RelO.none_of{o:Option Value}(r:RelO none o):o=none:=by
 cases o with
 |none=>rfl
 |some u=>exact(show False from r).elim
def wS{v:V}(r:RelV v u):PySem.W.handedIn u=true:=by
 cases v with
 |non=>cases(show u=Value.none from r);rfl
 |bl b=>cases(show u=Value.bool b from r);rfl
 |int i=>obtain⟨t,e⟩:=(show ∃t,u=Value.int i t from r);cases e;rfl
 |str x=>obtain⟨t,e⟩:=(show ∃t,u=Value.str x t from r);cases e;rfl
 |byt b=>obtain⟨t,e⟩:=(show ∃t,u=Value.bytes b t from r);cases e;rfl
 |flt b=>obtain⟨t,e⟩:=(show ∃t,u=Value.float b t from r);cases e;rfl
 |ref a=>cases(show u=Value.ref a from r);rfl
 |ty n=>cases(show u=Value.type n from r);rfl
section
variable{P:Program}     {fs fs':List (Str×V)}
def mI(b:HOk P w H h)(e:H a=some (.ins C dx fs)):∃mA,ObjM h a dx C mA/\(∀f,RelO (fs.lookup f) (mA f))/\PySem.Within mA (fs.map (·.1))/\fs.length<=1000/\H dx=some (.own a):=by
 obtain⟨d,z,c,o,mA,n,r,q⟩:=(show ObjOk P w H h a (.ins C dx fs)from b a _ e)
 exact⟨mA,⟨o,n,c⟩,r,q,z,d⟩
end
structure Cls (K:PySem.W.Frag) (C:Addr):Prop where
 pg:PySem.W.plainGet K C Str.empty=true
 hd:PySem.W.hasDictIn K C=true
 po:PySem.W.plainOver K C=true
 sa:PySem.W.findIn K (.ref C) "__setattr__"=some (some (.builtin "object.__setattr__"))
def Cls.get(c:Cls K C)(f:Str):PySem.W.plainGet K C f=true:=c.pg
def NoAttr(K:Kq)(C:Addr)(f:Str):Prop:=PySem.W.findIn K (.ref C) f=some none
def NoAttr.taker{f:Str}(n:NoAttr K C f):PySem.W.takerIn K C f=some none:=by unfold PySem.W.takerIn;rw[show PySem.W.findIn K (.ref C) f=some none from n];rfl
structure Meth (K:PySem.W.Frag) (C:Addr) (m:Str) (f:Addr):Prop where
 at_:PySem.W.findIn K (.ref C) m=some (some (.ref f))
 fn:PySem.W.isFn K (.ref f)=true
 kp:PySem.W.keepIn K (.ref f)=true
section
variable       {fs:List (Str×V)}{f:Str}{v:V}  
def uo{b:Bool}(I:Inv X pz σ H s)(e:H a=some (.ins C dx fs))(c:Cls X.K C)(n:NoAttr X.K C f)(l:fs.lookup f=some v)
  (h:∀u s',Inv X pz σ H s'->RelV v u->Q u s'):wpAny (model X.prog X.w) A (getAttr (.ref a) f b) Q E s:=by
 obtain⟨m,O,r,_,_,_⟩:=mI I.hok e;obtain⟨u,i,g⟩:=RelO.some_of (v:=v) (o:=m f) (by rw[<-l];exact r f);exact BP I.kIn O (c.get f) c.hd n i (wS g) (h u _ (I.tok _) g)
def nL{g:Addr}{pl:Sem Bool}{Q:Value×List Value->Shared->Prop}(I:Inv X pz σ H s)(e:H a=some (.ins C dx fs))(c:Cls X.K C)(k:Meth X.K C m g)(l:fs.lookup m=none)
  (h:Q (.ref g,[.ref a]) s):wpAny (model X.prog X.w) A (getMethod (.ref a) m pl) Q E s:=by
 obtain⟨b,O,r,_,_,_⟩:=mI I.hok e;have f:b m=none:=RelO.none_of (by rw[<-l];exact r m);exact Au I.kIn O (c.get m) k.at_ k.fn f h
def ua{Q:Unit->Shared->Prop}(I:Inv X pz σ H s)(e:H a=some (.ins C dx fs))(c:Cls X.K C)(n:NoAttr X.K C f)(R:fs.length<1000)(B:RelV y u)
  (h:∀s',Inv X pz σ (upd H a (.ins C dx (gM f y fs))) s'->Q () s'):wpAny (model X.prog X.w) A (setAttr (.ref a) f u) Q E s:=by
 obtain⟨m,O,r,j,_,l⟩:=mI I.hok e;have J:(fs.map (·.1)).length<=sizeLine:=by rw[Yb,YV];omega
 refine Cj I.kIn O c.sa c.po n.taker c.hd j J fun P i p=>h _ ?_;have M:∃o,P.get? dx=some o:=let ⟨o,_,_,e',_⟩:=i.ns;⟨o,e'⟩
 refine I.write (x:=a) (e:=dx) (by rw[e];exact True.intro) (.inr l) (fun b q N z=>(p.2 b N).trans z) M ?_;refine⟨by rw[aU O.ne];exact l,?_,O.ne,i.obj,_,i.ns,fun g=>?_,fun g L=>?_⟩
 ·have:=ly f y fs;omega
 ·show RelO ((gM f y fs).lookup g) (if g=f then some u else m g);rw[lH];by_cases q:g=f
  ·rw[Yh q,Yh q];exact B
  ·rw[Yl q,Yl q];exact r g
 ·by_cases q:g=f
  ·rw[q];exact(lb f y fs).1
  ·refine(lb f y fs).2 g (j g fun z=>L ?_);show(if g=f then some u else m g)=none;rw[Yl q];exact z
def Inv.made(I:Inv X pz σ H s):Inv X pz σ (upd (upd H s.heap.objs.size (.own (s.heap.objs.size+1))) (s.heap.objs.size+1) (.ins C s.heap.objs.size []))
  {s with heap:=(s.heap.push PySem.W.emptyDict).push (PySem.W.instObj C s.heap.objs.size)}:=by
 have f:(s.heap.push PySem.W.emptyDict).get? s.heap.objs.size=some PySem.W.emptyDict:=Yo s.heap rfl;have j:((s.heap.push PySem.W.emptyDict).push (PySem.W.instObj C s.heap.objs.size)).get? (s.heap.objs.size+1)=some (PySem.W.instObj C s.heap.objs.size):=by
  have:=Yo (s.heap.push PySem.W.emptyDict) (o:=PySem.W.instObj C s.heap.objs.size) rfl
  rwa [ZM]at this
 have i:(s.heap.push PySem.W.emptyDict).Ns s.heap.objs.size (fun _=>none):=⟨PySem.W.emptyDict,#[],_,f,rfl,(fun e g=>absurd g (by simp)),fun _=>rfl⟩
 have l:=I.laid (a:=s.heap.objs.size) (o:=.own (s.heap.objs.size+1)) (h':=s.heap.push PySem.W.emptyDict) (t':=s.toks) (fun b u q=>Ye _ q) (Ym _) ⟨_,f⟩;refine l.laid (a:=s.heap.objs.size+1) (o:=.ins C s.heap.objs.size []) (t':=s.toks) (fun b u q=>Ye _ q) (ZZ (ZM _ _)) ?_;have c:s.heap.objs.size≠s.heap.objs.size+1:=Yy (Xv _);refine⟨by rw[aU c,a8],YO _,c,j,fun _=>none,(Heap.Ns1.of_empty i).at fun o q=>Ye _ q,fun _=>True.intro,fun y h=>absurd rfl h⟩
def AQ(b:attributeBase e f env (eval e env)=eval e env)
  (h:wpAny (model prog w) A (eval e env) (fun o a=>wpAny (model prog w) A (getAttr o f true) Q E a) E s):wpAny (model prog w) A (eval (.Attribute e f pos) env) Q E s:=
 Attribute_any_ h (by rw[arm_eval_Attribute,b])
end
def HS(K:Kq)(ta:TE)(f:Str):TE:=fun c H Q=>ta c H fun x b=>∃a C e fs v,x=.ref a/\b a=some (.ins C e fs)/\Cls K C/\NoAttr K C f/\fs.lookup f=some v/\Q v b
def Hw(K:Kq)(ta tv:TE)(f:Str):TS:=fun D b H=>tv b H fun y g=>ta b g fun x e=>∃a C c fs,x=.ref a/\e a=some (.ins C c fs)/\Cls K C/\NoAttr K C f/\fs.length<1000 /\
 D.nx b (upd e a (.ins C c (gM f y fs)))
section
variable   {f:Str}  
def Dx(he:PE X e ta)(m:attributeBase e f X.env (eval e X.env)=eval e X.env):PE X (.Attribute e f pos) (HS X.K ta f):=by intro p s g H Q I h;refine AQ m (bv (he p s g H _ I h) fun u J x A z i b=>?_);obtain⟨a,C,L,fs,v,o,w,c,n,l,q⟩:=b;subst o;obtain rfl:u=Value.ref a:=i;exact uo z w c n l fun B E y j=>⟨v,A,y,j,q⟩
def Dc(A:PE X o ta)(hv:PE X value tv)(z:swapsWith value (some (.Attribute o f pos')) pos.line X.env=pure false):PS X (.Assign [.Attribute o f pos'] value pos) (Hw X.K ta tv f):=by intro p s b H D I h;refine plainObj_wpAny_Assign_Attribute (bv (hv p s b H _ I h) fun u g y N M i q=>bv (A p g b N _ M q) fun w P x R L j e=>?_) z;obtain⟨a,C,Q,fs,B,E,c,n,l,m⟩:=e;subst B;obtain rfl:w=Value.ref a:=j;exact ua L E c n l i fun O J=>⟨b,_,J,m⟩
end
section
variable         {c:Value}{b:Bool}
inductive TyOf (K:PySem.W.Frag) (H:Hp):V->Value->Prop where
 |non:TyOf K H .non (.type "NoneType")
 |bl (x:Bool):TyOf K H (.bl x) (.type "bool")
 |int (i:Int):TyOf K H (.int i) (.type "int")
 |str (x:Str):TyOf K H (.str x) (.type "str")
 |flt (x:UInt64):TyOf K H (.flt x) (.type "float")
 |lst {a:Addr}{xs:List V} (e:H a=some (.lst xs)):TyOf K H (.ref a) (.type "list")
 |frz {a:Addr}{o:Obj}{xs:List V} (e:H a=some (.frz o (.lst xs))):TyOf K H (.ref a) (.type "list")
 |tup {a:Addr}{xs:List V} (e:H a=some (.tup xs)):TyOf K H (.ref a) (.type "tuple")
 |dK {a:Addr}{kvs:List (Key×V)} (e:H a=some (.dK kvs)):TyOf K H (.ref a) (.type "dict")
 |dT {a:Addr}{kvs:List (List Key×V)} (e:H a=some (.dT kvs)):TyOf K H (.ref a) (.type "dict")
 |ins {a C dx:Addr}{fs:List (Str×V)} (e:H a=some (.ins C dx fs)) (cl:Cls K C) (ha:PySem.W.findIn K (.ref C) "__class__"=some (some (.builtin sOc)))
   (hn:PySem.W.specialIn K (.builtin sOc) "__get__"=some (some (.builtin sGd))) (htk:PySem.W.takesIn K (.builtin sOc)=some true)
   (hm:PySem.W.mroIn K C (.type "object")=some true):TyOf K H (.ref a) (.ref C)
def xc{x:V}{t:Value}(I:Inv X pz σ H s)(f:RelV x u)(ty:TyOf X.K H x t)(e:PySem.W.kitOne X.K t c=some b)(h:∀tk,Q (.bool b) {s with toks:=tk}) :
  wpAny (model X.prog X.w) A (call (.builtin "isinstance") [u,c]) Q E s:=by
 cases ty with
 |non=>cases(show u=Value.none from f);exact Zm PySem.W.kitx_none I.kIn True.intro e (fun z=>nomatch z) h
 |bl y=>cases(show u=Value.bool y from f);exact Zm PySem.W.kitx_bool I.kIn True.intro e (fun z=>nomatch z) h
 |int i=>obtain⟨t,q⟩:=(show ∃t,u=Value.int i t from f);cases q;exact Zm PySem.W.kitx_int I.kIn True.intro e (fun z=>nomatch z) h
 |str y=>obtain⟨t,q⟩:=(show ∃t,u=Value.str y t from f);cases q;exact Zm PySem.W.kitx_str I.kIn True.intro e (fun z=>nomatch z) h
 |flt y=>obtain⟨t,q⟩:=(show ∃t,u=Value.float y t from f);cases q;exact Zm PySem.W.kitx_float I.kIn True.intro e (fun z=>nomatch z) h
 |@lst a j ea=>
  cases(show u=Value.ref a from f);obtain⟨_,_,n,_,g⟩:=(show ObjOk X.prog X.w H s.heap a (.lst j)from I.hok a _ ea)
  exact Zm PySem.W.kitx_list I.kIn ⟨_,g,rfl⟩ e (fun z=>nomatch z) h
 |@frz a ob j ea=>
  cases(show u=Value.ref a from f);obtain⟨_,_,_,n,_,g⟩:=(show ObjOk X.prog X.w H s.heap a (.frz ob (.lst j))from I.hok a _ ea)
  exact Zm PySem.W.kitx_list I.kIn ⟨_,g,rfl⟩ e (fun z=>nomatch z) h
 |@tup a j ea=>
  cases(show u=Value.ref a from f);obtain⟨_,_,_,p,_⟩:=(show ObjOk X.prog X.w H s.heap a (.tup j)from I.hok a _ ea)
  obtain⟨o,g,l,_⟩:=p;exact Zm PySem.W.kitx_tuple I.kIn ⟨o,g,l⟩ e (fun z=>nomatch z) h
 |@dK a kvs ea=>
  cases(show u=Value.ref a from f);obtain⟨_,_,L,_,p⟩:=(show ObjOk X.prog X.w H s.heap a (.dK kvs)from I.hok a _ ea)
  obtain⟨o,m,B,g,l,_⟩:=p;exact Zm PySem.W.kitx_dict I.kIn ⟨o,g,l.1⟩ e (fun z=>nomatch z) h
 |@dT a kvs ea=>
  cases(show u=Value.ref a from f);obtain⟨_,_,j,_,o,m,B,g,l,_⟩:=(show ObjOk X.prog X.w H s.heap a (.dT kvs)from I.hok a _ ea)
  exact Zm PySem.W.kitx_dict I.kIn ⟨o,g,l.1⟩ e (fun z=>nomatch z) h
 |@ins a C dx fs ea cl ha hn htk hm=>
  cases(show u=Value.ref a from f);obtain⟨N,O,_⟩:=mI I.hok ea;obtain⟨M,J,_⟩:=O.look;exact Zm (PySem.W.kitx_own (cl.get _) cl.hd ha hn htk hm) I.kIn J e (fun z=>nomatch z) h
end
structure Room (k:Nat) (A:Around):Prop where
 hd:A.handled=none
 dp:A.depth+3*k+5<recursionLimit
 un:A.units+16*k+200<cLine
def Room.mono{k:Nat}(r:Room k A)(h:j<=k):Room j A:=⟨r.hd,by have:=r.dp;omega,by have:=r.un;omega⟩
def Room.deeper{k:Nat}(r:Room (k+1) A)(env:Env):Room k (A.deeper env):=
 ⟨r.hd,by have:=r.dp;show A.depth+1+3*k+5<_;omega,by have:=r.un;show A.units+3+16*k+200<_;omega⟩
def vh:(A.under (.builtin "type.__call__" ⟨.ref C::us,kw⟩)).depth=A.depth+1:=by
 first|rfl|simp[Around.under,Code.weight,Code.isCreation,Code.isGuard,Code.isCaller,Code.frames,Code.isFrame,guardIds]
def ug:(A.under (.builtin "type.__call__" ⟨.ref C::us,kw⟩)).units=A.units+1:=by
 first|rfl|simp[Around.under,Code.cUnits,Code.frames,Code.isFrame]
def Room.make{k:Nat}(r:Room (k+1) A)(C:Addr)(us:List Value)(kw:List (Str×Value)):Room k (A.under (.builtin "type.__call__" ⟨.ref C::us,kw⟩)):=
 ⟨r.hd,by have:=r.dp;rw[vh];omega,by have:=r.un;rw[ug];omega⟩
def Room.depth{k:Nat}(r:Room k A):A.depth<recursionLimit:=by have:=r.dp;omega
def tf:TA:=fun _ H Q=>Q [] H
def lJ(ta:TE)(c:TA):TA:=fun a H Q=>ta a H fun x f=>c a f fun b e=>Q (x::b) e
section
variable     {t:TA} 
def ba:PA X [] tf:=fun _ _ _ _ H Q I h=>Calls.spliced_nil ⟨[],H,I,.nil,h⟩
def au(l:PE X e te)(j:PA X es t)(i:starEach (e::es) X.env=(false,eval e X.env)::starEach es X.env:=by rfl):PA X (e::es) (lJ te t):=by intro p b s a H Q I h;rw[i];show wpAny _ _ (spliced ((false,eval e X.env)::backTo p (starEach es X.env))) _ _ s;refine Calls.spliced_cons (bv (l b s a H _ I h) fun u f x y o r1 g=>?_);exact bv (j p b f a y _ o g) fun z A c w m r2 q=>⟨x::c,w,m,.cons r1 r2,q⟩
def IV(t:TA):TE:=fun b H Q=>t b H fun x a=>x.length<=sizeLine/\∀p,a p=none->Q (.ref p) (upd a p (.tup x))
def IJ(t:TA):TE:=fun b H Q=>t b H fun x a=>x.length<=sizeLine/\∀p,a p=none->Q (.ref p) (upd a p (.lst x))
def yA{x1}(h:PA X es t):PE X (.Tuple es x1 pos) (IV t):=by intro p s g H Q I j;refine wpAny_Tuple_spliced (bv (h pos p s g H _ I j) fun i a x f c r ⟨z,q⟩=>⟨by rw[<-r.length];exact z,?_⟩);have l:f a.heap.objs.size=none:=c.hok.fresh (Ym _);refine⟨.ref a.heap.objs.size,upd f a.heap.objs.size (.tup x),c.laid (t':=a.toks) (fun b u e=>Ye _ e) (Ym _) ?_,rfl,q _ l⟩;exact⟨z,i,r,⟨_,Yo _ rfl,rfl,_,rfl⟩,_,Yo _ rfl,rfl⟩
def zz(h:PA X es t):PE X (.List es pos) (IJ t):=by intro p s g H Q I j;refine wpAny_List_spliced (bv (h pos p s g H _ I j) fun i a x f c r ⟨z,q⟩=>⟨by rw[<-r.length];exact z,?_⟩);have l:f a.heap.objs.size=none:=c.hok.fresh (Ym _);refine⟨.ref a.heap.objs.size,upd f a.heap.objs.size (.lst x),c.laid (t':=a.toks) (fun b u e=>Ye _ e) (Ym _) ?_,rfl,q _ l⟩;exact⟨z,i,0,r,Yo _ rfl⟩
end
abbrev Sp:=List V->Hp->VK->XK->Prop
abbrev CXT:=List Env->Hp->Shared->XK->Value->Shared->Prop
structure Env0 (P:Program) (w:World) (K:PySem.W.Frag) (mg:Str->Option Value) (base:Heap) (A:Around) (outer:List Env) (s:Shared) (H:Hp):Prop where
 frames:A.frames=some outer
 mod:Mod K mg base
 bs:∀b o,base.get? b=some o->s.heap.get? b=some o/\H b=none
 bsz:base.objs.size<=s.heap.objs.size
 funs:s.heap.FunFrames base outer
 frf:∀b∈frs outer,H b=none
 hok:HOk P w H s.heap
 bare:AllBare s.gens
def CE(outer:List Env)(P:Program)(w:World)(H:Hp)(s:Shared)(Q:VK)(u:Value)(s':Shared):Prop:=
 ∃v a,s'.os=s.os/\AllBare s'.gens/\Un (frs outer) [] H a s.heap s'.heap/\HOk P w a s'.heap/\RelV v u/\Q v a
def CR(CX:CXT)(outer:List Env)(P:Program)(w:World)(H:Hp)(s:Shared)(Q:VK)(E:XK)(r:Result)(s':Shared):Prop:=
 match r with
 |.ok (.ret u)=>CE outer P w H s Q u s'
 |.ok _=>False
 |.error e=>CX outer H s E e s'
structure FnOk (P:Program) (w:World) (K:PySem.W.Frag) (mg:Str->Option Value) (base:Heap) (CX:CXT) (k:Nat) (f:Addr) (fd:FuncData) (ps:List Str) (sp:Sp):Prop where
 len:∀vs H Q E,sp vs H Q E->vs.length=ps.length
 run:∀(A:Around) (outer:List Env) (s:Shared) (H:Hp) (args:Args) (us:List Value) (vs:List V) (Q:VK) (E:XK),Room k A->Env0 P w K mg base A outer s H->BindsTo s fd args (ps.zip us)->Vals vs us->sp vs H Q E->
  codeAny (model P w) A (.call (.ref f) args) (CR CX outer P w H s Q E) s
def FnOk.imp{P:Program}{k:Nat}{a:Sp}(F:FnOk P w K mg base CX k f fd ps sp)
  (h:∀vs H Q E,a vs H Q E->sp vs H Q E):FnOk P w K mg base CX k f fd ps a:=
 ⟨fun vs H Q E q=>F.len vs H Q E (h _ _ _ _ q),fun A o s H b u vs Q E g i j c e=>F.run A o s H b u vs Q E g i j c (h _ _ _ _ e)⟩
def Env0.make{P:Program}{outer:List Env}(e:Env0 P w K mg base A outer s H)(C:Addr)(us:List Value)(kw:List (Str×Value)) :
  Env0 P w K mg base (A.under (.builtin "type.__call__" ⟨.ref C::us,kw⟩)) outer s H:=⟨by first|exact e.frames|(simpa[Around.under,Code.envs,Code.isFrame,pushEnvs]using e.frames),e.mod,e.bs,e.bsz,e.funs,e.frf,e.hok,e.bare⟩
def Inv.env0(I:Inv X pz σ H s):Env0 X.prog X.w X.K X.mg X.base X.A X.stack s H:=
 ⟨I.ok.frames,I.ok.mod,I.bs,YC I.ok.bsz I.sz,I.stack,I.stkFree,I.hok,I.bare⟩
def Inv.after{Q:VK}(I:Inv X pz σ H s)(h:CE X.stack X.prog X.w H s Q u s'):EP X pz σ Q u s':=by obtain⟨v,i,e,a,un,c,r,q⟩:=h;obtain⟨f,g,d,t,o⟩:=s';obtain rfl:o=s.os:=e;exact⟨v,i,I.call (h':=f) (g':=g) (d':=d) (t':=t) (ch:=[]) un c a (fun b z=>absurd z (by simp)),r,q⟩
def zW(sp:Sp)(dvs:List V)(E:XK)(t:TA):TE:=fun a H Q=>t a H fun b c=>sp (b++dvs) c Q E
def v7(C:Addr)(m:Str)(sp:Sp)(dvs:List V)(E:XK)(ta:TE)(t:TA):TE:=fun b H Q=>ta b H fun x c=>∃a f fs,x=.ref a/\c a=some (.ins C f fs)/\fs.lookup m=none /\
 t b c fun e g=>sp (x::(e++dvs)) g Q E
def FD(C:Addr)(sp:Sp)(dvs:List V)(E:XK)(t:TA):TE:=fun c H Q=>t c H fun e b=>∀x a,b x=none->b a=none->a≠x->
 sp (.ref x::(e++dvs)) (upd (upd b a (.own x)) x (.ins C a [])) (fun v f=>v=.non/\Q (.ref x) f) E
def Binds(K:Kq)(fd:FuncData)(ps:List Str)(ds:List Value):Prop:=
 ∀(s:Shared) (u:List Value),K.In s.heap->(u++ds).length=ps.length->BindsTo s fd ⟨u,[]⟩ (ps.zip (u++ds))
def Binds.all(h:∀us:List Value,us.length=ps.length->bindArgs fd ⟨us,[]⟩=pure (ps.zip us)):Binds K fd ps []:=fun s us _ a=>by
 rw[YU]at a ⊢;exact .of_eq (h us a)
def iI(CX:CXT)(X:Cx)(E:XK):Prop:=∀(p:Kp) (b:St) (H:Hp) (s:Shared) (e:Value) (a:Shared),Inv X p b H s->CX X.stack H s E e a->X.xe e a
section
variable   {k:Nat}     {dvs:List V}{ds:List Value}{E:XK}      {t:TA}
def vd{Q:VK}(F:FnOk X.prog X.w X.K X.mg X.base CX k f fd ps sp)(c:Room k X.A)(i:Binds X.K fd ps ds)(hd:Vals dvs ds)(hx:iI CX X E)
  (I:Inv X pz σ H s) (r:Vals vs us) (h:sp (vs++dvs) H Q E):wpAny (model X.prog X.w) X.A (call (.ref f) us) (EP X pz σ Q) X.xe s:=by
 have r2:Vals (vs++dvs) (us++ds):=r.append hd;have g:(us++ds).length=ps.length:=by rw[<-r2.length];exact F.len _ _ _ _ h
 refine Vo (XS (F.run X.A X.stack s H ⟨us,[]⟩ (us++ds) (vs++dvs) Q E c I.env0 (i s us I.kIn g) r2 h) fun r b a=>?_);cases r with
 |error e=>exact hx pz σ H s e b I a
 |ok j=>
  cases j with
  |ret u=>exact I.after a
  |next=>exact False.elim a
  |brk=>exact False.elim a
  |cont=>exact False.elim a
def mG(F:FnOk X.prog X.w X.K X.mg X.base CX k f fd ps sp)(j:Room k X.A)(o:Gl X x)(l:X.mg x=some (.ref f))(m:PySem.W.keepIn X.K (.ref f)=true)(u:Binds X.K fd ps ds)(hd:Vals dvs ds)(hx:iI CX X E)
  (y:PA X (e::es) t) (b:nDb x:=by decide) (he:starEach (e::es) X.env=(false,eval e X.env)::starEach es X.env:=by rfl) (a:(backTo pos (starEach es X.env)).any (·.1)=false:=by rfl) :
  PE X (.Call (.Name x p) (e::es) [] pos) (zW sp dvs E t):=by
 intro i s g H Q I h;refine Xl (iT I o l ?_ b);refine XB (h₀:=X.base) I.ok.mod.kin m (bv (y pos i s g H _ I h) fun B C z J c r q=>⟨c.kIn,?_⟩) he a;exact vd F j u hd hx c r q
def BF{pl:Sem Bool}(he:PE X o ta)(c:Cls X.K C)(z:Meth X.K C m f)(F:FnOk X.prog X.w X.K X.mg X.base CX k f fd ps sp)(P:Room k X.A)(R:Binds X.K fd ps ds)(hd:Vals dvs ds)(hx:iI CX X E)(S:PA X (e::es) t)
  (b:starEach (e::es) X.env=(false,eval e X.env)::starEach es X.env:=by rfl) (g:(backTo pos (starEach es X.env)).any (·.1)=false:=by rfl)
  (O:eval (.Call (.Attribute o m apos) (e::es) [] pos) X.env=(do
   let y <-eval o X.env
   standAt apos.atName
   let (f,first) <-holding [y] (getMethod y m pl)
   callWith pos f first (backTo pos (starEach (e::es) X.env)) (backToKw pos (keywordEach [] X.env))):=by rfl) :
  PE X (.Call (.Attribute o m apos) (e::es) [] pos) (v7 C m sp dvs E ta t):=by
 intro p s j H Q I h;refine PySem.W.methodCall_KW (pl:=pl) (bv (he p s j H _ I h) fun u L x Y J M i=>?_) O;obtain⟨a,dx,fs,T,U,l,q⟩:=i;subst T;obtain rfl:u=Value.ref a:=M;refine nL J U c z l ?_;refine XB (first:=[.ref a]) (h₀:=X.base) I.ok.mod.kin z.kp (bv (S pos p L j Y _ J q) fun us Z vs H2 B r N=>⟨B.kIn,?_⟩) b g;exact vd (us:=.ref a::us) (vs:=.ref a::vs) F P R hd hx B (.cons rfl r) N
def xX{pl:Sem Bool}(he:PE X o ta)(c:Cls X.K C)(i:Meth X.K C m f)(F:FnOk X.prog X.w X.K X.mg X.base CX k f fd ps sp)(B:Room k X.A)(J:Binds X.K fd ps ds)(hd:Vals dvs ds)(hx:iI CX X E)
  (z:eval (.Call (.Attribute o m apos) [] [] pos) X.env=(do
   let g <-eval o X.env
   standAt apos.atName
   let (f,first) <-holding [g] (getMethod g m pl)
   callWith pos f first (backTo pos (starEach [] X.env)) (backToKw pos (keywordEach [] X.env))):=by rfl) :
  PE X (.Call (.Attribute o m apos) [] [] pos) (v7 C m sp dvs E ta tf):=by
 intro y s j H Q I h;refine PySem.W.methodCall_KW (pl:=pl) (bv (he y s j H _ I h) fun u N x P e p b=>?_) z;obtain⟨a,O,fs,L,M,l,q⟩:=b;subst L;obtain rfl:u=Value.ref a:=p;refine nL e M c i l ?_;exact PySem.W.callWith_K0 (first:=[.ref a]) e.kIn i.kp (vd (us:=[.ref a]) (vs:=[.ref a]) F B J hd hx e (.cons rfl .nil) q)
structure Mk (K:PySem.W.Frag) (C f:Addr):Prop where
 makes:PySem.W.makesIn K C=true
 init:PySem.W.findIn K (.ref C) "__init__"=some (some (.ref f))
 fn:PySem.W.isFn K (.ref f)=true
 kp:PySem.W.keepIn K (.ref C)=true
def zq{Q:VK}(M:Mk X.K C f)(F:FnOk X.prog X.w X.K X.mg X.base CX k f fd ps sp)(j:Room (k+1) X.A)(m:Binds X.K fd ps ds)(hd:Vals dvs ds)
  (hx:iI CX X E) (I:Inv X pz σ H s) (r:Vals vs us)
  (h:∀x dx,H x=none->H dx=none->dx≠x->sp (.ref x::(vs++dvs)) (upd (upd H dx (.own x)) x (.ins C dx [])) (fun v H2=>v=.non/\Q (.ref x) H2) E) :
  wpAny (model X.prog X.w) X.A (call (.ref C) us) (EP X pz σ Q) X.xe s:=by
 have c:=h (s.heap.objs.size+1) s.heap.objs.size (I.hok.fresh (Vg _)) (I.hok.fresh (Ym _)) (Yy (Xv _));have b:=Inv.made (C:=C) I;have r2:Vals (V.ref (s.heap.objs.size+1)::(vs++dvs)) (Value.ref (s.heap.objs.size+1)::(us++ds)):=.cons rfl (r.append hd);have l:(Value.ref (s.heap.objs.size+1)::us++ds).length=ps.length:=by have e:=r2.length;rw[F.len _ _ _ _ c]at e;exact e.symm
 refine Vo (zy (f:=f) I.kIn M.makes M.init (Zz.mp M.fn) (XS (F.run _ X.stack _ _ ⟨Value.ref (s.heap.objs.size+1)::us,[]⟩ (Value.ref (s.heap.objs.size+1)::(us++ds)) _ _ E (j.make C us [])
  (b.env0.make C us []) (m _ (Value.ref (s.heap.objs.size+1)::us) b.kIn l) r2 c) fun r g a=>?_))
 cases r with
 |error e=>exact hx pz σ _ _ e g b a
 |ok o=>
  cases o with
  |ret u=>
   obtain⟨v,z,y,i,p,q⟩:=b.after a;subst p;exact⟨i,⟨V.ref (s.heap.objs.size+1),z,y,rfl,q⟩⟩
  |next=>exact False.elim a
  |brk=>exact False.elim a
  |cont=>exact False.elim a
def v0(M:Mk X.K C f)(F:FnOk X.prog X.w X.K X.mg X.base CX k f fd ps sp)(j:Room (k+1) X.A)(m:Gl X x)(l:X.mg x=some (.ref C))(o:Binds X.K fd ps ds)(hd:Vals dvs ds)(hx:iI CX X E)
  (u:PA X (e::es) t) (b:nDb x:=by decide) (he:starEach (e::es) X.env=(false,eval e X.env)::starEach es X.env:=by rfl) (a:(backTo pos (starEach es X.env)).any (·.1)=false:=by rfl) :
  PE X (.Call (.Name x p) (e::es) [] pos) (FD C sp dvs E t):=by
 intro i s g H Q I h;refine Xl (iT I m l ?_ b);refine XB (h₀:=X.base) I.ok.mod.kin M.kp (bv (u pos i s g H _ I h) fun z B y J c r q=>⟨c.kIn,?_⟩) he a;exact zq M F j o hd hx c r q
end
section
variable   {k:Nat}   {ks:List Str}  {E:XK}  {kpos:Pos}   {kws:List Keyword}  {t tk:TA}{nm:Option Str}
variable{g:List Value->List Value->List Value}{gV:List V->List V->List V}
end
structure FnScope (N P:List Str) (sc:Scope):Prop where
 kind:sc.kind=.function
 co:sc.isCoroutine=false
 gen:sc.isGenerator=false
 nd:N.Nodup
 pre:N.take P.length=P
 par:∀x∈P,sc.names.lookup x=some .local\/sc.names.lookup x=some .cell
 nofree:∀y∈sc.names,y.2≠.free
def o_{a:Str->Option NameKind} :∀{b:List (Str×Value)}{m:Ks},(∀v,(x,v)∉b)->bindL a b m x=m x
 |[],_,_=>rfl
 |(n,v)::r,m,h=>by
  unfold bindL;rw[o_ fun w c=>h w (Yd _ c)];split
  ·have:x≠n:=by rintro rfl;exact h v Yf
   simp[this]
  ·rfl
def pM{a:Str->Option NameKind} :∀{b:List (Str×Value)}{m:Ks},(∀v,(x,v)∉b)->bindC a b m x=m x
 |[],_,_=>rfl
 |(n,v)::r,m,h=>by
  unfold bindC;rw[pM fun w c=>h w (Yd _ c)];split
  ·rfl
  ·have:x≠n:=by rintro rfl;exact h v Yf
   simp[this]
def pj{a:Str->Option NameKind}{v:Value}:∀{P:List Str}{vs:List Value}{i:Nat}{m:Ks},P.Nodup->P[i]?=some x->vs[i]?=some v->a x=some .local->
  bindL a (P.zip vs) m x=some v
 |[],_,_,_,_,h,_,_=>by simp at h
 |_::_,[],_,_,_,_,h,_=>by simp at h
 |p::P,w::vs,0,m,nd,h1,h2,hk=>by
  simp at h1 h2;subst h1;subst h2;show bindL a ((p,w)::P.zip vs) m p=_;unfold bindL;rw[o_ fun v b=>(ZV.mp nd).1 (List.of_mem_zip b).1,Yh hk];simp
 |p::P,w::vs,i+1,m,nd,h1,h2,hk=>by
  show bindL a ((p,w)::P.zip vs) m x=_;unfold bindL;exact pj (i:=i) (ZV.mp nd).2 (by simpa using h1) (by simpa using h2) hk
def pO{a:Str->Option NameKind}{v:Value}:∀{P:List Str}{vs:List Value}{i:Nat}{m:Ks},P.Nodup->P[i]?=some x->vs[i]?=some v->a x≠some .local->
  bindC a (P.zip vs) m x=some v
 |[],_,_,_,_,h,_,_=>by simp at h
 |_::_,[],_,_,_,_,h,_=>by simp at h
 |p::P,w::vs,0,m,nd,h1,h2,hk=>by
  simp at h1 h2;subst h1;subst h2;show bindC a ((p,w)::P.zip vs) m p=_;unfold bindC;rw[pM fun v b=>(ZV.mp nd).1 (List.of_mem_zip b).1,Yl hk];simp
 |p::P,w::vs,i+1,m,nd,h1,h2,hk=>by
  show bindC a ((p,w)::P.zip vs) m x=_;unfold bindC;exact pO (i:=i) (ZV.mp nd).2 (by simpa using h1) (by simpa using h2) hk
def start(N:List Str)(vs:List V):St:=vs.map some++List.replicate (N.length-vs.length) none
def bX(CX:CXT)(P:Program)(w:World)(K:Kq)(mg:Ks)(base:Heap)(N:List Str)(qual:Str)(scope:Scope)(f:Addr)(cd:Value)(A:Around)(outer:List Env)(s:Shared)(H:Hp)(E:XK):Cx where
 prog:=P
 w:=w
 K:=K
 mg:=mg
 base:=base
 A:=A.deeper (envOfC qual scope s.heap.objs.size f cd)
 N:=N
 s₀:=s
 H₀:=H
 env:=envOfC qual scope s.heap.objs.size f cd
 outer:=outer
 stack:=envOfC qual scope s.heap.objs.size f cd::outer
 ex:=[]
 calm:=true
 fn:=fun _=>true
 pn:=[]
 xe:=fun e b=>wpAny (model P w) (A.deeper (envOfC qual scope s.heap.objs.size f cd)) (leaving (envOfC qual scope s.heap.objs.size f cd) e) (fun _ a=>CX outer H s E e a) (fun c a=>CX outer H s E c a) b
def rE{s:Scope}{n:Nat}(h:s.names.lookup x=some .cell):∃c,(cellsFrom n s.names []).lookup x=some c:=by have q:=Xj s.names n [] (.inl h);exact ZW.mp q
def wK{P:Program}{cd:Value}{outer:List Env}{s1:Shared}{E:XK}  
  (S:FnScope N ps scope) (hd:A.handled=none) (e0:Env0 P w K mg base A outer s H) (Q:vs.length=ps.length) (r:Vals vs us)
  (x:InCallC s s.heap.objs.size (bindL (envOfC qual scope s.heap.objs.size f cd).kindOf (ps.zip us) fun _=>none) (cellsFrom (s.heap.objs.size+1) scope.names []) (bindC (envOfC qual scope s.heap.objs.size f cd).kindOf (ps.zip us) fun _=>none) s1) :
  Inv (bX CX P w K mg base N qual scope f cd A outer s H E) [] (start N vs) H s1:=by
 have L:ps.length<=N.length:=by have:=Zn List.length S.pre;rw[YF]at this;omega
 obtain⟨B,O,rfl,I⟩:=x.done;have j:∀b:Addr,b∉(bX CX P w K mg base N qual scope f cd A outer s H E).ex:=fun b z=>absurd (show b∈([]:List Addr)from z) (by simp)
 refine⟨⟨e0.mod,S.kind,rfl,rfl,Ym _,fun y z c B g=>?_,fun y hy=>?_,fun y c _ h=>?_,fun _=>hd,Around.frames_deeper e0.frames,.inr ⟨rfl,rfl⟩,fun b z=>absurd z (j b),e0.bs,e0.bsz,fun b _ _=>j b,fun b z=>absurd z (j b),e0.funs,e0.frf⟩,
  rfl,e0.bare,Un.kept I,⟨_,x.toInCall.ns,fun i y v B g R=>?_⟩,fun y c h=>⟨_,x.cell y c h⟩,e0.hok.fresh (Ym _),fun y c h=>?_,fun p m=>absurd (show p∈([]:Kp)from m) (by simp),e0.hok.kept I,?_⟩
 ·exact name_of_addr x.apart (Zp B) (Zp g)
 ·have hy:scope.names.lookup y=some .cell\/scope.names.lookup y=some .free:=hy;rcases hy with hy|hy
  ·exact rE hy
  ·exact absurd rfl (S.nofree _ (Zp hy))
 ·exact ZB (x.above y c (Zp h))
 ·have o:i<vs.length:=by
   unfold start at g;by_cases o:i<vs.length
   ·exact o
   ·rw[YW (by simpa using o)]at g;rw[Xa]at g;split at g<;>cases g
  have M:vs[i]?=some v:=by
   unfold start at g;rw[Zg (by simpa using o),Yt]at g;cases e:vs[i]? with
   |none=>rw[e]at g;cases g
   |some a=>rw[e]at g;cases g;rfl
  obtain⟨u,C,J⟩:=r.get M;have m:ps[i]?=some y:=by rw[<-S.pre,Zs (by omega)];exact B
  have l:ps.Nodup:=by rw[<-S.pre];exact S.nd.sublist (List.take_sublist _ _)
  refine⟨u,J,?_⟩;rcases S.par y (YB m)with k|k
  ·exact .inl ⟨k,pj l m C k⟩
  ·obtain⟨c,e⟩:=rE (n:=s.heap.objs.size+1) k;refine .inr ⟨.inl k,c,e,?_⟩;have q:=x.cell y c e;rw[pO l m C (by show scope.names.lookup y≠_;rw[k];decide)]at q;exact q
 ·exact e0.hok.fresh (ZB (x.above y c (Zp h)))
 ·unfold start;show _=N.length;rw[Yn,Yb,YK];omega
def CQ{P:Program}{k:Nat}{p:Arguments}{T kV m R c ct oc:Value}{X od:Option Addr}
  {C:Array (Option Value)}   (lk:K.lookup f=some ⟨oc,od,.func (PySem.W.fnOf name qual p body scope T kV m R X c ct),C⟩) (hcd:PySem.W.codeIn K c qual=true) (S:FnScope N ps scope)
  (len:∀vs H Q E,sp vs H Q E->vs.length=ps.length)
  (g:∀(A:Around) (outer:List Env) (s:Shared) (H:Hp) (vs:List V) (Q:VK) (E:XK),Room k (A.deeper (envOfC qual scope s.heap.objs.size f c))->sp vs H Q E->
   ∃t,PSs (bX CX P w K mg base N qual scope f c A outer s H E) body t/\t {nx:=fun _ H'=>Q .non H',rt:=Q} (start N vs) H) :
  FnOk P w K mg base CX (k+1) f (PySem.W.fnOf name qual p body scope T kV m R X c ct) ps sp:=by
 refine⟨len,fun A outer s H U Z vs Q E M l hb r j=>?_⟩;have hl:=len _ _ _ _ j;have Y:K.In s.heap:=l.mod.kin.keeps fun b o e=>(l.bs b o e).1
 have L:s.heap.NoLimit:=l.mod.nolimit.keeps fun b o e=>(l.bs b o e).1
 have h:∀y∈ps.zip Z,scope.names.lookup y.1=some .local\/(scope.names.lookup y.1=some .cell/\((cellsFrom (s.heap.objs.size+1) scope.names []).lookup y.1).isSome=true):=fun⟨n,v⟩ hy=>by
  rcases S.par n (List.of_mem_zip hy).1 with q|q
  ·exact .inl q
  ·exact .inr ⟨q,Xj _ _ _ (.inl q)⟩
 refine codeAny_call_function M.depth (Y _ _ lk) rfl S.co S.gen rfl (PySem.W.codeRec_of Y hcd) (hb _ _ _ _ ?_);refine wpAny_newFunctionEnv_cells S.kind h fun env he O x=>?_;subst he;refine⟨L.keeps x.toInCall.keep,codeAny_func ?_⟩;obtain⟨t,ht,hq⟩:=g A outer s H vs Q E (M.deeper _) j;have I:Inv (bX CX P w K mg base N qual scope f c A outer s H E) [] (start N vs) H O:=wK S M.hd l hl r x;refine Zq (ht [] O (start N vs) H _ I hq) (fun fl z i=>?_) fun e z i=>i;have fin:∀{a:St}{H':Hp}{v:V}{u:Value},Inv (bX CX P w K mg base N qual scope f c A outer s H E) [] a H' z->RelV v u->Q v H'->CE outer P w H s Q u z:=
  fun{a H' v u} J B q=>⟨v,H',J.os,J.bare,J.base,J.hok,B,q⟩
 cases fl with
 |ret u=>
  obtain⟨v,a,H',J,B,q⟩:=i;exact fin J B q
 |next=>
  obtain⟨a,H',J,q⟩:=i;exact fin (v:=V.non) (u:=Value.none) J rfl q
 |brk=>
  obtain⟨_,_,_,q⟩:=i;exact False.elim q
 |cont=>
  obtain⟨_,_,_,q⟩:=i;exact False.elim q
section
variable      {t:TA}{id T:String}{r:List V->Hp->VK->Prop}
def tCB(r:List V->Hp->VK->Prop)(t:TA):TE:=fun a H Q=>t a H fun b c=>r b c Q
def cR(o:CallR X (.builtin id) r)(m:Gl X x)(l:X.mg x=none)(hv:bootBuiltins x=some (.builtin id))(w:PA X (e::es) t)(j:x ≠ "__name__":=by decide)(b:nDb x:=by decide)
  (he:starEach (e::es) X.env=(false,eval e X.env)::starEach es X.env:=by rfl) (a:(backTo pos (starEach es X.env)).any (·.1)=false:=by rfl):PE X (.Call (.Name x p) (e::es) [] pos) (tCB r t):=by
 intro f s c H Q I h;refine Xl (ir I m l hv ?_ j b);exact PyProof.Rows.callWith_builtin1 (bv (w pos f s c H _ I h) fun u i g z y r1 q=>o f i c z g u Q y r1 q) he a
def db(o:CallR X (.type T) r)(m:Gl X x)(l:X.mg x=none)(hv:bootBuiltins x=some (.type T))(w:PA X (e::es) t)(j:x ≠ "__name__":=by decide)(b:nDb x:=by decide)
  (he:starEach (e::es) X.env=(false,eval e X.env)::starEach es X.env:=by rfl) (a:(backTo pos (starEach es X.env)).any (·.1)=false:=by rfl):PE X (.Call (.Name x p) (e::es) [] pos) (tCB r t):=by
 intro f s c H Q I h;refine Xl (ir I m l hv ?_ j b);exact Zi (bv (w pos f s c H _ I h) fun u i g z y r1 q=>o f i c z g u Q y r1 q) he a
end
end L2
namespace HT
open PySem PyProof.Rows
def rcLt_int(A:Around)(s:Shared)(a:Int)(t:Tok)(c:Int)(u:Tok)(prog:Program)(w:World)(E:Value->Shared->Prop)(Q:Value->Shared->Prop)(h:Q (.bool (decide (a<c))) s) :
  wpAny (model prog w) A (richCompare .Lt (.int a t) (.int c u)) Q E s:=
 (PyProof.Rows.lt_int h:wpAny (model prog w) A (compareOp .Lt (.int a t) (.int c u)) Q E s)
section
open PySem.SeqAt
open PySem.AutoSeq1 (wpAny_loadPart')
open PySem.MeetsSeq PySem.MeetsSeq2 PySem.MeetsSeq3
end
def cat_tup{t b:Addr}{vs a:List Value}(y:IsTup s.heap t vs.toArray)(z:IsTup s.heap b a.toArray)(hv:vs≠[])
  (h1:a=[]->Q (.ref t) s) (h2:a≠[]->Q (.ref s.heap.objs.size) {s with heap:=s.heap.push {cls:=.type "tuple",data:=.seq (vs++a).toArray} })
  (hsz:vs.length+a.length<=sizeLine):wpAny (model prog w) A (binaryOp .Add (.ref t) (.ref b)) Q E s:=by
 obtain⟨⟨cls,u,data,o⟩,l,q,n,p⟩:=id y;obtain⟨⟨x,i,m,c⟩,h,g,n2,f⟩:=id z;simp only at q p g f;subst q p g f;have e:vs.toArray++a.toArray=(vs++a).toArray:=by simp
 by_cases j:a=[]
 ·exact concat_meets ⟨_,l,rfl⟩ ⟨_,h,rfl⟩ noFill_tuple_add seq_tuple_add PySem.F.slot_tuple_add PySem.F.entry_tuple_add (PySem.F.args_tuple_add_2 _ _)
   (tuple_addW1 t b vs.toArray a.toArray n n2 u i o c (by simpa using hv) (by simp[j])) ⟨l,h,h1 j⟩
 ·refine concat_meets ⟨_,l,rfl⟩ ⟨_,h,rfl⟩ noFill_tuple_add seq_tuple_add PySem.F.slot_tuple_add PySem.F.entry_tuple_add (PySem.F.args_tuple_add_2 _ _)
   (tuple_addW2 t b vs.toArray a.toArray n n2 u i o c (by simpa using hv) (by simpa using j) (by rw[List.size_toArray,List.size_toArray];exact hsz)) ⟨l,h,?_⟩
  rw[e];exact h2 j
def sIx(n d:Nat):Option Int->Nat
 |none=>d
 |some v=>if v<0 then(v+(n:Int)).toNat else min v.toNat n
end HT
namespace L2
open PySem PySem.Spec PyProof.Rows
abbrev TO:=St->Hp->(Option Int->Hp->Prop)->Prop
def PO(X:Cx)(e:Option Expr)(t:TO):Prop:=
 ∀(p:Kp) (s:Shared) (a:St) (H:Hp) (Q:Option Int->Hp->Prop),Inv X p a H s->t a H Q->
  wpAny (model X.prog X.w) X.A (evalPart e X.env) (fun u c=>∃o b,Inv X p a b c/\IsPart u o/\Q o b) X.xe s
def AZ:TO:=fun _ H Q=>Q none H
def GL(t:TE):TO:=fun a H Q=>t a H fun x b=>∃i,x=.int i/\Q (some i) b
section
variable    {lo hi:Option Expr}{tl th:TO}{p2:Pos}
def BK:PO X none AZ:=by intro p s a H Q I h;rw[evalPart_none];exact Yw ⟨none,H,I,.none,h⟩
def B4(h:PE X e te):PO X (some e) (GL te):=by intro p s a H Q I c;rw[evalPart_some];refine bv (h p s a H _ I c) fun u j x g f r1 b=>?_;obtain⟨i,rfl,q⟩:=b;obtain⟨t,rfl⟩:=r1;exact⟨some i,g,f,.int i t,q⟩
def SlR(X:Cx)(r:V->Option Int->Option Int->Hp->VK->Prop):Prop:=
 ∀(p:Kp) (s:Shared) (a:St) (H:Hp) (x:V) (v c b:Value) (l h:Option Int) (e:Addr) (Q:VK),Inv X p a H s->RelV x v->s.heap.IsSliceOf e c b .none->IsPart c l->IsPart b h->r x l h H Q->
  ∃T i,typeLookup (.type T) "__getitem__"=pure (some (.builtin i))/\s.TypeIs v T/\wpAny (model X.prog X.w) X.A (getItem v (.ref e)) (EP X p a Q) X.xe s
def tSl(r:V->Option Int->Option Int->Hp->VK->Prop)(te:TE)(tl th:TO):TE:=fun a H Q=>te a H fun x e=>tl a e fun l c=>th a c fun u b=>r x l u b Q
def tQ{r:V->Option Int->Option Int->Hp->VK->Prop}(K:SlR X r)(he:PE X e te)(L:PO X lo tl)(E:PO X hi th):PE X (.Subscript e (.Slice lo hi none p2) pos) (tSl r te tl th):=by
 intro p s c H Q I h;refine Subscript_ (bv (he p s c H _ I h) fun v m x Y S r1 z=>?_);refine wpAny_Slice (bv (L p m c Y _ S z) fun g j l U R C y=>bv (E p j c U _ R y) fun f a u i P B o=>?_);rw[evalPart_none];refine Yw ?_;have O:Inv X p c i {a with heap:=a.heap.push {cls:=.type "slice",data:=.fields #[g,f,.none]} }:=P.kept (t':=a.toks) fun b Z q=>Ye _ q
 obtain⟨T,id,N,J,M⟩:=K p {a with heap:=a.heap.push {cls:=.type "slice",data:=.fields #[g,f,.none]} } c i x v g f l u a.heap.objs.size Q O r1 (Heap.IsSliceOf.new ..) C B o;show wpAny (model X.prog X.w) X.A (subscriptTail e (.Slice lo hi none p2) v (.ref a.heap.objs.size)) (EP X p c Q) X.xe {a with heap:=a.heap.push {cls:=.type "slice",data:=.fields #[g,f,.none]} };exact tail_any (ops:=[.ref a.heap.objs.size,v]) J N M (by with_unfolding_all rfl)
def xz(xs:List V)(lo hi:Option Int):List V:=(xs.drop (HT.sIx xs.length 0 lo)).take (HT.sIx xs.length xs.length hi-HT.sIx xs.length 0 lo)
def tU(xs:List V)(lo hi:Option Int):(xz xs lo hi).length<=xs.length:=by unfold xz;rw[YF,ZH];omega
def Gg(K:Kq):R2:=fun x y H Q=>∃a b e c,x=.ref a/\y=.ref b/\SqT K H a e/\SqT K H b c/\e≠[]/\e.length+c.length<=sizeLine /\
 (c=[]->Q (.ref a) H)/\(c≠[]->∀p,H p=none->Q (.ref p) (upd H p (.tup (e++c))))
def Vals.nil_iff(r:Vals xs us):us=[]↔xs=[]:=by
 cases r with
 |nil=>simp
 |cons _ _=>simp
def BO:OpR X (binaryOp .Add) (Gg X.K):=by intro M s L H x y v u Q I j g h;obtain⟨a,b,f,e,rfl,rfl,J,E,C,c,m,l⟩:=h;cases j;cases g;obtain⟨B,r1,A,_⟩:=I.tuple J;obtain⟨i,r2,p,_⟩:=I.tuple E;refine HT.cat_tup A p (fun z=>C (r1.nil_iff.mp z)) (fun z=>⟨.ref a,H,I,rfl,m (r2.nil_iff.mp z)⟩) (fun z=>?_) (by rw[<-r1.length,<-r2.length];exact c);refine⟨.ref s.heap.objs.size,_,I.laid (t':=s.toks) (o:=.tup (f++e)) (fun b N q=>Ye _ q) (Ym _) ?_,rfl,l (fun w=>z (r2.nil_iff.mpr w)) _ (I.hok.fresh (Ym _))⟩;exact⟨by rw[Yn];exact c,_,r1.append r2,IsTup.new _ _,NoD.new _ _⟩
end
def ixN(n:Nat)(i:Int):Option Nat:=if 0<=i then(if i<n then some i.toNat else none)else if -(n:Int)<=i then some (i+n).toNat else none
def atI{a:Type}(xs:List a)(i:Int):Option a:=(ixN xs.length i).bind fun j=>xs[j]?
def vv{n:Nat}{i:Int}(h:ixN n i=some j):seqIndex? i n=some j/\j<n/\-(n:Int)<=i/\i<n:=by
 unfold ixN at h;by_cases b:0<=i
 ·rw[Yh b]at h;by_cases a:i<n
  ·rw[Yh a]at h;have e:i.toNat=j:=YG h;exact⟨by rw[seqIndex_of b a,e],by omega,by omega,a⟩
  ·rw[Yl a]at h;cases h
 ·rw[Yl b]at h;by_cases a:-(n:Int)<=i
  ·rw[Yh a]at h;have e:(i+n).toNat=j:=YG h;exact⟨by rw[seqIndex_neg (by omega) a,e],by omega,a,by omega⟩
  ·rw[Yl a]at h;cases h
def p_{a:Type}{xs:List a}{i:Int}{v:a}(h:atI xs i=some v):∃j,seqIndex? i xs.length=some j/\xs[j]?=some v/\j<xs.length/\-(xs.length:Int)<=i/\i<xs.length:=by
 unfold atI at h;cases e:ixN xs.length i with
 |none=>rw[e]at h;cases h
 |some j=>
  rw[e]at h;obtain⟨g,f,c,b⟩:=vv e;exact⟨j,g,h,f,c,b⟩
def jP{a:Type}{xs:List a}{v:a}(h:xs[j]?=some v):atI xs (j:Int)=some v:=by
 have b:j<xs.length:=(Yj.mp h).1;have e:ixN xs.length (j:Int)=some j:=by unfold ixN;rw[Yh (by omega),Yh (by omega)];simp
 unfold atI;rw[e];exact h
def rO{a:Type}(xs:List a)(v:a):atI (xs++[v]) (-1)=some v:=by
 have h:(xs++[v]).length=xs.length+1:=by simp
 have e:ixN (xs++[v]).length (-1)=some xs.length:=by
  unfold ixN;rw[h,Yl (by decide),Yh (by omega)]
  congr 1
  omega
 unfold atI;rw[e];show(xs++[v])[xs.length]?=some v;simp
def rl(b:Expr):Prop:=∀o i,subscripted b false o i=operate [o,i] (getItem o i)
def IxR(X:Cx)(r:R2):Prop:=
 ∀(b a:Expr) (p:Kp) (s:Shared) (c:St) (H:Hp) (x y:V) (v u:Value) (Q:VK),Inv X p c H s->RelV x v->RelV y u->r x y H Q->
  subscripted a false v u=operate [v,u] (getItem v u)->wpAny (model X.prog X.w) X.A (subscriptTail b a v u) (EP X p c Q) X.xe s
def MtR(X:Cx)(id:String)(r:V->List V->Hp->VK->Prop):Prop:=
 ∀(p:Kp) (s:Shared) (a:St) (H:Hp) (x:V) (b:List V) (v:Value) (u:List Value) (Q:VK),Inv X p a H s->RelV x v->Vals b u->r x b H Q->
  wpAny (model X.prog X.w) X.A (call (.builtin id) (v::u)) (EP X p a Q) X.xe s
section
variable  {a:Expr}  
def IxR.or{r g:R2}(h:IxR X r)(h':IxR X g):IxR X (fun x y H Q=>r x y H Q\/g x y H Q):=by
 intro a b p s c H x y v u Q I f e q i;rcases q with q|q
 ·exact h a b p s c H x y v u Q I f e q i
 ·exact h' a b p s c H x y v u Q I f e q i
def zk{r:R2}(j:IxR X r)(m:PE X a ta)(l:PE X b tb)(i:rl b):PE X (.Subscript a b pos) (tOp r ta tb):=by intro p s c H Q I h;exact Subscript_ (Ew m l I h fun v u e x y w o g f q=>j a b p e c w x y v u Q o g f q (i _ _))
def FG(K:Kq):R2:=fun x y H Q=>∃p a i v,x=.ref p/\y=.int i/\SqL K H p a/\atI a i=some v/\Q v H
def Gf(K:Kq):R2:=fun x y H Q=>∃p a i v,x=.ref p/\y=.int i/\SqT K H p a/\atI a i=some v/\Q v H
def GW:R2:=fun x y H Q=>∃z i c,x=.str z/\y=.int i/\z.length<=sizeLine/\atI z.cps.toList i=some c/\Q (.str ⟨#[c]⟩) H
def A7:IxR X (FG X.K):=by
 intro b c o s m H x y v u Q I L J h A;obtain⟨p,T,i,z,rfl,rfl,M,O,q⟩:=h;cases L;obtain⟨t,rfl⟩:=J;obtain⟨g,r,f,U⟩:=I.list M;obtain⟨j,a,S,Z,R,P⟩:=p_ O;obtain⟨w,C,e⟩:=r.get S;have N:=r.length;have Y:=kU;have fin:EP X o m Q w s:=⟨z,H,I,e,q⟩
 by_cases B:0<=i
 ·have l:i.toNat=j:=by rw[seqIndex_of B P]at a;exact YG a
  exact item_listR f.isList B (by omega) (by rw[l];simpa using C) fin A
 ·have l:(i+(g.toArray.size:Int)).toNat=j:=by rw[seqIndex_neg (by omega) R]at a;rw[Yq,<-N];exact YG a
  exact subscriptTail_builtinR (x:=w) f.isList.typeIs slot_list_getitem.lookup
   (wpAny_getItem_list_neg (Q:=fun r E=>r=w/\EP X o m Q r E) f.isList (by omega) (by rw[Yq]<;>omega) (by omega) (by rw[l];simpa using C) ⟨rfl,fin⟩) A
def ED:IxR X (Gf X.K):=by
 intro a b f s e H x y v u Q I o m h B;obtain⟨p,O,i,z,rfl,rfl,C,J,q⟩:=h;cases o;obtain⟨t,rfl⟩:=m;obtain⟨A,r,g,P⟩:=I.tuple C;obtain⟨j,M,L,U,T,S⟩:=p_ J;obtain⟨w,N,c⟩:=r.get L;have E:=r.length;have R:=kU;have fin:EP X f e Q w s:=⟨z,H,I,c,q⟩
 exact subscriptTail_builtinR (x:=w) g.typeIs slot_tuple_getitem.lookup
  (getItem_tuple (j:=j) (Q:=fun r l=>r=w/\EP X f e Q r l) g (by omega) (by omega) (by rw[Yq,<-E];exact M) (by simpa using N) ⟨rfl,fin⟩) B
def E5:IxR X GW:=by
 intro a b K s E H x y v u Q I g f h l;obtain⟨z,i,c,rfl,rfl,L,o,q⟩:=h;obtain⟨t,rfl⟩:=g;obtain⟨J,rfl⟩:=f;obtain⟨j,e,A,N,w,p⟩:=p_ o;have m:z.cps.toList.length=z.length:=by simp[Str.length]
 rw[m]at e w p;have M:=kU;exact tail_any (typeIs_str s z t) slot_str_getitem.lookup (getItem_str (c:=c) (by
  have C:decide (i < -(2^63:Int))=false:=YE (by omega);have B:decide (i ≥ 2^63)=false:=YE (by omega);rw[C,B,Bool.or_false]) (by rw[e];simpa using A) ⟨.str ⟨#[c]⟩,H,I.tok _,⟨_,rfl⟩,q⟩) l
def rIx(K:Kq):R2:=fun x y H Q=>FG K x y H Q\/Gf K x y H Q\/GW x y H Q
def uH:IxR X (rIx X.K):=A7.or (ED.or E5)
def uB(its:List Value)(n j:Nat)(u:Value):Obj.mapSeq (·.setIfInBounds j u) {cls:=.type "list",data:=.seq its.toArray n}={cls:=.type "list",data:=.seq (its.set j u).toArray n}:=by simp[Obj.mapSeq]
def Inv.lst{p:Addr}(I:Inv X pz σ H s)(h:H p=some (.lst xs)) :
  ∃(its:List Value) (n:Nat),Vals xs its/\s.heap.get? p=some {cls:=.type "list",data:=.seq its.toArray n}/\xs.length<=sizeLine:=by
 obtain⟨z,its,n,r,e⟩:=I.hok p _ h;exact⟨its,n,r,e,z⟩
def Inv.lstUpd{p:Addr}{its':List Value}{n a:Nat}{f:Obj->Obj}(I:Inv X pz σ H s)(h:H p=some (.lst xs))
  (g:s.heap.get? p=some {cls:=.type "list",data:=.seq its.toArray n}) (c:f {cls:=.type "list",data:=.seq its.toArray n}={cls:=.type "list",data:=.seq its'.toArray a }) (r:Vals ys its') (hz:ys.length<=sizeLine) (t:Nat) :
  Inv X pz σ (upd H p (.lst ys)) {s with heap:=s.heap.update p f,toks:=t}:=by
 have e:(s.heap.update p f).get? p=some {cls:=.type "list",data:=.seq its'.toArray a }:=by rw[Heap.get?_update_self f g (by rw[c]<;>rfl),c]
 refine I.write (x:=p) (e:=p) (by rw[h];trivial) (.inl rfl) (fun b u i q=>(Heap.get?_update_other _ _ (ZJ i)).trans q) ⟨_,e⟩ ?_;exact⟨hz,its',a,r,e⟩
def F9:V->V->V->Hp->(Hp->Prop)->Prop:=fun o i v H Q=>∃p x k j,o=.ref p/\i=.int k/\H p=some (.lst x)/\ixN x.length k=some j/\Q (upd H p (.lst (x.set j v)))
def zC:GB X F9:=by
 intro E s y H o i v L M u Q I B C A h;obtain⟨p,z,k,j,rfl,rfl,g,K,q⟩:=h;cases B;obtain⟨t,rfl⟩:=C;obtain⟨a,n,r,c,J⟩:=I.lst g;obtain⟨b,O,m,l⟩:=vv K;have e:=r.length;have N:=kU;have x:Inv X E y (upd H p (.lst (z.set j v))) {s with heap:=s.heap.update p (Obj.mapSeq (·.setIfInBounds j u))}:=
  I.lstUpd g c (uB a n j u) (r.set A j) (by rw[YQ];exact J) s.toks
 by_cases w:0<=k
 ·have f:k.toNat=j:=by rw[seqIndex_of w l]at b;exact YG b
  exact PySem.W.ki_setAt c w (by omega) (by rw[Yq,<-e];exact l) (by rw[f];exact⟨_,x,q⟩)
 ·have f:(k+(a.toArray.size:Int)).toNat=j:=by rw[seqIndex_neg (by omega) m]at b;rw[Yq,<-e];exact YG b
  exact PySem.W.ki_setBack c (by omega) (by rw[Yq,<-e];exact m) (by omega) (by rw[f];exact⟨_,x,q⟩)
def qI(lo hi:Option Int)(n:Nat):(sliceBounds lo hi none n).1=((HT.sIx n 0 lo:Nat):Int)/\(sliceBounds lo hi none n).2.1=((HT.sIx n n hi:Nat):Int)/\(sliceBounds lo hi none n).2.2=1:=by
 refine⟨?_,?_,rfl⟩
 ·cases lo with
  |none=>simp[sliceBounds,HT.sIx]
  |some i=>
   simp only[sliceBounds,HT.sIx,Option.getD_none,show(1:Int) > 0 by decide,XC];by_cases h:i<0
   ·simp only[h,XC]<;>omega
   ·simp only[h,Vk]<;>omega
 ·cases hi with
  |none=>simp[sliceBounds,HT.sIx]
  |some i=>
   simp only[sliceBounds,HT.sIx,Option.getD_none,show(1:Int) > 0 by decide,XC];by_cases h:i<0
   ·simp only[h,XC]<;>omega
   ·simp only[h,Vk]<;>omega
def oC(its:List Value)(lo hi:Option Int):slicePick its.toArray lo hi none=((its.drop (HT.sIx its.length 0 lo)).take (HT.sIx its.length its.length hi-HT.sIx its.length 0 lo)).toArray:=by obtain⟨b,a,h⟩:=qI lo hi its.toArray.size;unfold slicePick;rw[b,a,h];simp only[sliceRange_one,pick_run,Yq]<;>rfl
def Hz(K:Kq):V->Option Int->Option Int->Hp->VK->Prop:=fun x l h H Q=>∃a b,x=.ref a/\SqL K H a b/\∀p,H p=none->Q (.ref p) (upd H p (.lst (xz b l h)))
def Bv:SlR X (Hz X.K):=by intro E s z H x v B A l f C Q I i y j p h;obtain⟨a,c,rfl,w,q⟩:=h;cases i;obtain⟨m,r,g,u⟩:=I.list w;have e:=r.length;refine⟨"list",_,slot_list_getitem.lookup,g.isList.typeIs,?_⟩;refine wpAny_getItem_list_slice g.isList y j p .none (by simp) ?_ (by rw[Yq]<;>omega);rw[oC,<-e];refine⟨.ref s.heap.objs.size,_,I.laid (t':=s.toks) (o:=.lst (xz c l f)) (fun b J q=>Ye _ q) (Ym _) ?_,rfl,q _ (I.hok.fresh (Ym _))⟩;exact⟨YC (tU c l f) u,_,0,(r.drop (HT.sIx c.length 0 l)).take (HT.sIx c.length c.length f-HT.sIx c.length 0 l),Yo _ rfl⟩
def qV:CallR X (.builtin "len") (fun xs H Q=>∃p ys,xs=[.ref p]/\(SqL X.K H p ys\/SqT X.K H p ys)/\Q (.int ys.length) H):=by
 intro l s g H xs j Q I r h;obtain⟨p,ys,rfl,hq,q⟩:=h;obtain⟨u,rfl,e⟩:=fE r;cases e;have m:=kU;rcases hq with hq|hq
 ·obtain⟨i,b,c,f⟩:=I.list hq;have a:=b.length;exact Calls.call_len_list c.isList (by simp only[Yq]<;>omega) ⟨.int ys.length,H,I.tok _,⟨s.toks+1,by rw[Yq,a]⟩,q⟩
 ·obtain⟨i,b,c,f⟩:=I.tuple hq;have a:=b.length;exact len_tuple c (by simp only[Yq]<;>omega) ⟨.int ys.length,H,I.tok _,⟨s.toks+1,by rw[Yq,a]⟩,q⟩
def qR:CallR X (.builtin "len") (fun xs H Q=>∃z,xs=[.str z]/\z.length<=sizeLine/\Q (.int z.length) H):=by intro p s a H xs b Q I r h;obtain⟨z,rfl,c,q⟩:=h;obtain⟨u,rfl,t,rfl⟩:=fE r;have e:=kU;exact len_str (by omega) ⟨.int z.length,H,I.tok _,⟨_,rfl⟩,q⟩
def CallR.or{f:Value}{r c:List V->Hp->VK->Prop}(h:CallR X f r)(h':CallR X f c):CallR X f (fun xs H Q=>r xs H Q\/c xs H Q):=by
 intro p s a H xs u Q I b q;rcases q with q|q
 ·exact h p s a H xs u Q I b q
 ·exact h' p s a H xs u Q I b q
def qQ:CallR X (.type "list") (fun xs H Q=>∃p ys,xs=[.ref p]/\(SqL X.K H p ys\/SqT X.K H p ys)/\∀l,H l=none->Q (.ref l) (upd H l (.lst ys))):=by
 intro J s C H xs L Q I r h;obtain⟨p,ys,rfl,hq,q⟩:=h;obtain⟨u,rfl,E⟩:=fE r;cases E;have fin:∀(i:List Value),Vals ys i->ys.length<=sizeLine->∀(a:Heap) (f:Nat),(∀b B,s.heap.get? b=some B->a.get? b=some B)->
   a.get? s.heap.objs.size=some {cls:=.type "list",dict:=none,data:=.seq i.toArray f,slots:=#[]}->EP X J C Q (.ref s.heap.objs.size) {s with heap:=a }:=fun i c j a f g e=>
  ⟨.ref s.heap.objs.size,_,I.laid (t':=s.toks) g (Ym _) (show ObjOk X.prog X.w _ a _ (.lst ys)from⟨j,i,f,c,e⟩),rfl,q _ (I.hok.fresh (Ym _))⟩
 rcases hq with hq|hq
 ·obtain⟨i,c,x,j⟩:=I.list hq;have m:=c.length;obtain⟨o,y,A,n,z⟩:=x.isList;exact call_list_seq p (.inl rfl) y A z (fun a f g e=>fin i c j a f g e) (by simp only[Yq]<;>omega)
 ·obtain⟨i,c,x,j⟩:=I.tuple hq;have m:=c.length;obtain⟨o,y,A,n,z⟩:=x;exact call_list_seq p (.inr rfl) y A z (fun a f g e=>fin i c j a f g e) (by simp only[Yq]<;>omega)
def oE:CallR X (.type "tuple") (fun xs H Q=>∃p ys,xs=[.ref p]/\((SqL X.K H p ys/\∀l,H l=none->Q (.ref l) (upd H l (.tup ys)))\/(SqT X.K H p ys/\Q (.ref p) H))):=by
 intro m s j H xs E Q I r h;obtain⟨p,ys,rfl,h⟩:=h;obtain⟨u,rfl,A⟩:=fE r;cases A;rcases h with⟨g,q⟩|⟨g,q⟩
 ·obtain⟨i,c,f,x⟩:=I.list g;have y:=c.length;refine call_tuple_list f.isList (fun a B=>?_) (by simp only[Yq]<;>omega);have z:Inv X m j H {s with heap:=a }:=I.kept (t':=s.toks) B;have C:Inv X m j (upd H a.objs.size (.tup ys)) {s with heap:=a.push {cls:=.type "tuple",data:=.seq i.toArray} }:=
   z.laid (t':=s.toks) (fun b o e=>Ye _ e) (Ym _) (show ObjOk X.prog X.w _ _ _ (.tup ys)from⟨x,i,c,IsTup.new _ _,NoD.new _ _⟩)
  exact⟨.ref a.objs.size,_,C,rfl,q _ (z.hok.fresh (Ym _))⟩
 ·obtain⟨i,c,f,x⟩:=I.tuple g;exact call_tuple_same f ⟨.ref p,H,I,rfl,q⟩
def tyV(K:Kq)(T:String)(x:V)(H:Hp):Prop:=match x with
 |.str _=>T = "str"
 |.int _=>T = "int"
 |.ref p=>(T = "list"/\∃b,SqL K H p b)\/(T = "tuple"/\∃o,K.lookup p=some o/\o.cls=.type "tuple"/\o.dict=none) \/
   (T = "dict"/\((∃a,H p=some (.dK a))\/∃a,H p=some (.dT a)))\/(T = "set"/\∃S n,H p=some (.set S n))
 |_=>False
def Ex{T:String}{x:V}{v:Value}(I:Inv X pz σ H s)(r:RelV x v)(ty:tyV X.K T x H) :
  s.TypeIs v T/\∀a,v=.ref a->∃ob,s.heap.get? a=some ob/\ob.dict=none:=by
 cases x with
 |str z=>
  obtain⟨t,rfl⟩:=r;cases(show T = "str" from ty);exact⟨typeIs_str s z t,fun _ e=>nomatch e⟩
 |int i=>
  obtain⟨t,rfl⟩:=r;cases(show T = "int" from ty);exact⟨typeIs_int s i t,fun _ e=>nomatch e⟩
 |ref p=>
  cases r;rcases ty with⟨rfl,w,q⟩|⟨rfl,o,h,u,g⟩|⟨rfl,h⟩|⟨rfl,S,n,h⟩
  ·obtain⟨m,_,l,_⟩:=I.list q;refine⟨l.isList.typeIs,fun a e=>?_⟩;cases e;obtain⟨o,n,e,c,g,_⟩:=l;exact⟨o,e,g⟩
  ·refine⟨⟨o,I.kIn p o h,u⟩,fun a e=>?_⟩;cases e;exact⟨o,I.kIn _ o h,g⟩
  ·have z:∃o,s.heap.get? p=some o/\o.ExactDict:=by
    rcases h with⟨f,h⟩|⟨f,h⟩
    ·obtain⟨_,_,_,_,o,_,_,e,b,_⟩:=I.hok p _ h;exact⟨o,e,b⟩
    ·obtain⟨_,_,_,_,o,_,_,e,b,_⟩:=I.hok p _ h;exact⟨o,e,b⟩
   obtain⟨o,e,b⟩:=z;refine⟨⟨o,e,b.1⟩,fun a j=>?_⟩;cases j;exact⟨o,e,b.2.1⟩
  ·obtain⟨o,_,_,_,e,b,_⟩:=I.hok p _ h;refine⟨⟨o,e,b.1⟩,fun a j=>?_⟩;cases j;exact⟨o,e,b.2.1⟩
 |_=>exact False.elim ty
def tBM(K:Kq)(T:String)(r:V->List V->Hp->VK->Prop)(to:TE)(t:TA):TE:=fun a H Q=>to a H fun x b=>tyV K T x b/\t a b fun c e=>r x c e Q
variable    {t:TA}   {T id:String}{r:V->List V->Hp->VK->Prop}
def l8(B:PlainAttrs T)(slot:Slot T name id)(i:typeOf (.builtin id)=pure (.type "method_descriptor"))(J:MtR X id r)(E:PE X o to)(L:PA X (e::es) t)
  (c:attributeBase o name X.env (eval o X.env)=eval o X.env:=by rfl)
  (f:((backTo cpos (starEach (e::es) X.env)).all (fun x=>!x.1)&&(backToKw cpos (keywordEach [] X.env)).all (fun x=>x.1.isSome)
   && decide ((e::es).length+([]:List Keyword).length+(if([]:List Keyword).isEmpty then 0 else 1)<30))=true:=by rfl)
  (b:(apos.endLine == cpos.line)=true:=by rfl) (C:starEach (e::es) X.env=(false,eval e X.env)::starEach es X.env:=by rfl) (a:(backTo cpos (starEach es X.env)).any (·.1)=false:=by rfl) :
  PE X (.Call (.Attribute o name apos) (e::es) [] cpos) (tBM X.K T r to t):=by
 intro p s g H Q I h;refine wpAny_Call_method_late c f b rfl (bv (E p s g H _ I h) fun v y x R m r1 j=>?_);obtain⟨ty,A⟩:=j;obtain⟨N,M⟩:=Ex m r1 ty;refine⟨T,id,B,slot,i,N,M,?_⟩;have l:=L cpos p y g R _ m A;rw[C]at l ⊢;refine XJ (by show(false||(backTo cpos (starEach es X.env)).any (·.1))=false;rw[a]<;>rfl) (Xs ?_);exact bv l fun u w q P O r2 z=>J p w g P x q v u Q O r1 r2 z
end
def MtM(X:Cx)(id:String)(r:V->List V->Hp->VK->Prop):Prop:=
 ∀(p:Kp) (s:Shared) (a:St) (H:Hp) (x:V) (b:List V) (v:Value) (u:List Value) (Q:VK),Inv X p a H s->RelV x v->Vals b u->r x b H Q->
  wpAny (model X.prog X.w) X.A (call (.builtin id) (v::u)) (EP X p a Q) X.xe s
def Vals.one{x:V}(h:Vals [x] us):∃u,us=[u]/\RelV x u:=fE h
def Vals.two{x:V}(h:Vals [x,y] us):∃u v,us=[u,v]/\RelV x u/\RelV y v:=lQ h
def Vals.eraseIdx:∀{xs:List V}{us:List Value} (i:Nat),Vals xs us->Vals (xs.eraseIdx i) (us.eraseIdx i)
 |_,_,_,.nil=>.nil
 |_,_,0,.cons _ t=>t
 |_,_,i+1,.cons r t=>.cons r (Vals.eraseIdx i t)
def ln{a:Type}:∀(l:List a) (i:Nat),(l.eraseIdx i).length<=l.length
 |[],_=>Ym _
 |_::_,0=>Vg _
 |_::r,i+1=>XY (ln r i)
section
variable      {b:Addr}{zs:List V}
def Inv.lset{its':List Value}{n:Nat}{f:Array Value->Array Value}(I:Inv X pz σ H s)(c:H l=some (.lst xs))
  (e:s.heap.get? l=some {cls:=.type "list",data:=.seq its.toArray n}) (a:f its.toArray=its'.toArray) (hv:Vals ys its') (hz:ys.length<=sizeLine) :
  Inv X pz σ (upd H l (.lst ys)) {s with heap:=s.heap.update l (Obj.mapSeq f),toks:=t' }:=by
 have q:=PySem.IsL.update e f;rw[a]at q;refine I.write (x:=l) (e:=l) (by rw[c];exact trivial) (.inl rfl) (fun g u b h=>(Heap.get?_update_other s.heap (Obj.mapSeq f) (ZJ b)).trans h) ⟨_,q⟩ ?_;exact⟨hz,its',_,hv,q⟩
def Inv.lnew(I:Inv X pz σ H s)(hv:Vals ys its)(hz:ys.length<=sizeLine) :
  Inv X pz σ (upd H s.heap.objs.size (.lst ys)) {s with heap:=s.heap.push {cls:=.type "list",data:=.seq its.toArray},toks:=t' }:=
 I.laid (fun _ _ q=>Ye _ q) (Ym _) ⟨hz,its,0,hv,Yo _ rfl⟩
def Inv.fresh(I:Inv X pz σ H s):H s.heap.objs.size=none:=I.hok.fresh (Ym _)
def Inv.lstM(I:Inv X pz σ H s)(h:H l=some (.lst xs)):xs.length<=sizeLine/\∃(its:List Value) (n:Nat),Vals xs its/\xs.length=its.length/\s.heap.get? l=some {cls:=.type "list",data:=.seq its.toArray n}:=by obtain⟨z,its,n,r,e⟩:=I.hok l _ h;exact⟨z,its,n,r,r.length,e⟩
def AJ{n:Nat}(h:n<=sizeLine):Builtin.List.listTooLong n=false:=by unfold Builtin.List.listTooLong;exact YE (by omega)
end
def Cq:V->List V->Hp->VK->Prop:=fun x b H Q=>∃l a y,x=.ref l/\b=[y]/\H l=some (.lst a)/\a.length<sizeLine/\Q .non (upd H l (.lst (a++[y])))
def k9:MtM X "list.append" Cq:=by intro p s g H x m v o Q I b c h;obtain⟨l,j,y,rfl,rfl,a,w,q⟩:=h;cases b;obtain⟨u,rfl,f⟩:=c.one;obtain⟨z,i,n,r,A,e⟩:=I.lstM a;refine Vd Xy ⟨_,e,rfl⟩ PySem.F.entry_list_append (PySem.F.args_list_append_2 _ _) (PySem.list_append l i.toArray n u (by rw[Yq];omega)) ⟨e,?_⟩;refine⟨.non,_,I.lset (its':=i++[u]) a e (by simp) (r.append (.cons f .nil)) ?_,rfl,q⟩;rw[Yn,YN];omega
def Bq:V->List V->Hp->VK->Prop:=fun x c H Q=>∃l b a z,x=.ref l/\c=[.ref b]/\H l=some (.lst a)/\H b=some (.lst z)/\a.length+z.length<=sizeLine/\Q .non (upd H l (.lst (a++z)))
def wW:MtM X "list.extend" Bq:=by
 intro L s A H x J v K Q I j m h;obtain⟨l,b,E,B,rfl,rfl,g,w,M,q⟩:=h;cases j;obtain⟨u,rfl,o⟩:=m.one;cases o;obtain⟨z,a,n,r,N,e⟩:=I.lstM g;obtain⟨C,i,n2,r2,p,y⟩:=I.lstM w;have f:a.toArray.size+i.toArray.size<=sizeLine:=by rw[Yq,Yq];omega
 have c:¬(!a.toArray.isEmpty&&Builtin.List.listTooLong (a.toArray.size+i.toArray.size))=true:=by rw[AJ f,Bool.and_false];exact Yk
 refine Vd PySem.F.slot_list_extend ⟨_,e,rfl⟩ PySem.F.entry_list_extend (PySem.F.args_list_extend_2 _ _)
  (AutoSeq1.list_extend_list_list_0 l a.toArray n b i.toArray n2 c (by rw[Yq];omega) (by omega)) ⟨e,y,?_⟩
 refine⟨.non,_,I.lset (its':=a++i) g e (by simp) (r.append r2) ?_,rfl,q⟩;rw[Yn];omega
def xL:V->List V->Hp->VK->Prop:=fun x b H Q=>∃l a i k y,x=.ref l/\b=[.int i]/\H l=some (.lst a)/\-(2^63)<=i/\i<2^63/\seqIndex? i a.length=some k/\a[k]?=some y/\Q y (upd H l (.lst (a.eraseIdx k)))
def sZ:MtM X "list.pop" xL:=by
 intro M s J H x K v L Q I g j h;obtain⟨l,f,i,k,y,rfl,rfl,c,E,C,B,o,q⟩:=h;cases g;obtain⟨u,rfl,m⟩:=j.one;obtain⟨t,rfl⟩:=m;obtain⟨z,a,n,r,A,e⟩:=I.lstM c;obtain⟨w,p,b⟩:=r.get o;refine Vd XT ⟨_,e,rfl⟩ PySem.F.entry_list_pop (PySem.F.args_list_pop_2 _ _)
  (MeetsSeq.list_pop_at l a.toArray n i t k w (fitsIndex_both E C) (by rw[Yq,<-A];exact B) (by rw[<-XU];exact p) (by rw[Yq];omega)) ⟨e,?_⟩
 refine⟨y,_,I.lset (its':=a.eraseIdx k) c e ?_ (r.eraseIdx k) ?_,b,q⟩
 ·show a.toArray.eraseIdxIfInBounds k=(a.eraseIdx k).toArray;rw[XM]
 ·have:=ln f k;omega
end L2
namespace Att
open PySem PySem.W PySem.Calls PyProof.Rows
def mo{P:Params} :∀(ns:List Int) (vs:List Value),WellAll P h vs (ns.map WData.int)->IntsAre vs ns:=by
 intro ns;induction ns with
 |nil=>
  intro vs w;rw[List.map_nil]at w;cases w;exact .nil
 |cons n ns ih=>
  intro vs w;rw[List.map_cons]at w;cases w with
  |cons a b=>
   cases a;exact .cons _ _ (ih _ b)
def wm{l:OpenLaw}{n:Nat}(s:l.most=some n){P:Params}{args:List WData}{b:List Value}
  (c:l.row.toRowW.claim.pre args=true) (i:WellAll P h b args) :
  ∃a vs ns,b=[Value.ref a]/\args=[WData.list (ns.map WData.int)]/\h.get? a=some {cls:=.type "list",data:=.seq vs.toArray}/\IntsAre vs ns/\ns.length<=n:=by
 have j:WShape.hasAll [] args [.list .int]=true:=(pre_splitW c).1;have m:l.pre.holds [] {args:=args}=true:=(pre_splitW c).2;obtain⟨d,r,rfl,y,x⟩:=hasAllW_cons j;obtain rfl:=hasAllW_nil x;obtain⟨z,rfl,u⟩:=hasW_list y;obtain⟨ns,rfl⟩:=items_int u;have e:ns.length<=n:=by
  unfold OpenLaw.pre at m;have g:(WTm.not (.lt (.lit (.int (n:Int))) (.len (.arg 0)))).holds [] {args:=[.list (ns.map .int)]}=true:=by have g:=(holds_andW m).1;rw[s]at g;exact g
  have f:=condW_of g (w_not (w_lt w_lit (w_len_list (w_arg rfl))));rw[List.length_map]at f;refine Nat.le_of_not_lt fun q=>?_;have p:(n:Int)<((ns.length:Nat):Int):=by omega
  first
   |(rw[decide_eq_true p]at f;exact absurd f (by decide))
   |(simp at f;omega)
 cases i with
 |cons o w=>
  cases w;cases o with
  |list ho hall=>exact⟨_,_,ns,rfl,rfl,ho,mo ns _ hall,e⟩
def wO(l:OpenLaw)(args:List WData):l.row.toRowW.claim.post args (.bool true) args=true:=
 postW_of (r:=l.row.toRowW) (X:=(true == true))
  (show WShape.has [] (.bool true) .bool=true by first|rfl|decide|simp[WShape.has,WShape.arms,WShape.armsAll])
  (show(WTm.eq .res (.lit (.bool true))).value [] {args:=args,res:=some (.bool true),after:=args}=some (.bool (true == true))from w_eq_bool (w_res rfl) w_lit) rfl
def attach_call{l:OpenLaw}{n:Nat}{d:DefRec}
  (J:l.most=some n) (x:d.params.defaults=[])
  (call:∀(w:World) (b s:Shared) (mg m:Str->Option Value) (fa:Addr) (o:Obj) (p cd c:Value) (a:Addr) (vs:List Value) (ns:List Int),
   Ground q loose [] XP w b mg m s.heap->YP w s.heap->
   s.heap.get? fa=some o->o.data=.func (docDef d.name d.params d.body d.scope p cd c)->s.heap.CodeRec cd d.name->mg d.name=some (.ref fa)->
   s.heap.get? a=some {cls:=.type "list",data:=.seq vs.toArray}->IntsAre vs ns->ns.length<=n->s.gens=#[]->
   codeAny (model l.prog w) callerA (.call (.ref fa) ⟨[.ref a],[]⟩) (fun r s'=>r=.ok (.ret (.bool true))/\OldK s.heap s'.heap/\s'.os=s.os/\AllBare s'.gens) s) :
  WalkO q loose XP YP l.row.toRowW d [] (fun f vs=>PySem.call f vs):=by
 intro w b s mg m G Y fa o p cd c R kV I N y B u M C z S e A E j L;obtain rfl:R=.none:=Dflts.none B x;obtain rfl:kV=.none:=Dflts.noKw B;obtain⟨a,vs,ns,rfl,rfl,g,h,i⟩:=wm J e j;refine enter_call (codeAny_mono (call w b s mg m fa o p cd c a vs ns G Y I (fd_plain N) y u g h i M) fun r s' H=>?_);obtain⟨rfl,Q,P,O⟩:=H;exact⟨.inl ⟨.bool true,.bool true,[],rfl,fun _=>rfl,.bool true,wO l _,fun _=>⟨List.Pairwise.nil,fun _ K=>(nomatch K)⟩⟩,Q,P,O⟩
section
variable      {K:Frag}
end
end Att
namespace L2
open PySem PySem.Spec PyProof.Rows
def pJ:∀{vs:List Value}{ns:List Int},IntsAre vs ns->Vals (ns.map V.int) vs
 |_,_,.nil=>.nil
 |_,_,.cons n t h=>.cons ⟨t,rfl⟩ (pJ h)
def By(H:Hp):Prop:=∀b,H b=none\/∃o x,H b=some (.frz o (.lst x))
def AK{P:Program}{Q:Ks}{k:Nat}{fa:Addr}{c:Shared}{vs:List Value}{ns:List Int}
  (KX:K.In c.heap) (C:c.heap.Ns mainGlobals mg) (g:c.heap.Ns builtinsNs Q) (T:∀x:Str,x ≠ "__name__"->Q x=bootBuiltins x) (E:c.heap.NoLimit) (hg:c.gens=#[])
  (N:c.heap.get? a=some {cls:=.type "list",data:=.seq vs.toArray}) (hi:IntsAre vs ns) (Z:ns.length<=sizeLine) (hr:Room k callerA)
  (F:∀base:Heap,K.In base->base.Ns mainGlobals mg->FnOk P w K mg base CX k fa fd [x] sp) (l:∀(s:Shared) (u:Value),BindsTo s fd ⟨[u],[]⟩ [(x,u)])
  (R:∀H:Hp,By H->SqL K H a (ns.map V.int)->sp [.ref a] H (fun v _=>v=.bl true) fun _ _ _=>False)
  (U:∀H e s',CX [] H c (fun _ _ _=>False) e s'->False) :
  codeAny (model P w) callerA (.call (.ref fa) ⟨[.ref a],[]⟩) (fun r s'=>r=.ok (.ret (.bool true))/\OldK c.heap s'.heap/\s'.os=c.os/\AllBare s'.gens) c:=by
 have Y:=pJ hi;have y:=hi.length
 -- from an abstract heap in which nothing but the script may be tracked
 have j:∀H:Hp,By H->SqL K H a (ns.map V.int)->HOk P w H c.heap->(∀b,H b≠none->b=a)->(H a≠none->K.lookup a=none)->
   codeAny (model P w) callerA (.call (.ref fa) ⟨[.ref a],[]⟩) (fun r s'=>r=.ok (.ret (.bool true))/\OldK c.heap s'.heap/\s'.os=c.os/\AllBare s'.gens) c:=by
  intro H hO hS B hA hK;have f:∀{b:Addr}{o:Obj},c.heap.get? b=some o->H b=none->(qT c.heap H).get? b=some o:=fun e n=>zE e n
  have O:∀{b:Addr}{o:Obj}{J:Array DictEntry}{L:Nat},c.heap.get? b=some o->o.data=.dict J L->H b=none:=fun{b o J L} e d=>by
   cases q:H b with
   |none=>rfl
   |some u=>
    have X:b=a:=hA b (by rw[q];simp);subst X;rw[N]at e;cases e;have d':Data.seq vs.toArray _=Data.dict J L:=d;cases d'
  have i:∀{b:Addr}{m:Ks},c.heap.Ns b m->(qT c.heap H).Ns b m:=fun{b m} ⟨o,J,L,e,d,r⟩=>⟨o,J,L,f e (O e d),d,r⟩
  have I:K.In (qT c.heap H):=fun b o e=>f (KX b o e) (by
   cases q:H b with
   |none=>rfl
   |some u=>
    have X:b=a:=hA b (by rw[q];simp);subst X;rw[hK (by rw[q];simp)]at e;cases e)
  have hM:Mod K mg (qT c.heap H):=⟨I,i C,⟨Q,i g,T⟩,let ⟨mc,h1,h2⟩:=E;⟨mc,i h1,h2⟩⟩
  have e0:Env0 P w K mg (qT c.heap H) callerA [] c H:=⟨rfl,hM,fun b o e=>BZ e,ZZ (wJ _ _),trivial,fun b g=>absurd (show b∈([]:List Addr)from g) (by simp),B,.of_eq hg⟩
  refine XS ((F _ I (i C)).run callerA [] c H ⟨[.ref a],[]⟩ [.ref a] [.ref a] _ _ hr e0 (l c (.ref a)) (.cons rfl .nil) (R H hO hS)) fun r s' h=>?_;cases r with
  |error e=>exact(U H e s' h).elim
  |ok fl=>
   cases fl with
   |next=>exact False.elim h
   |brk=>exact False.elim h
   |cont=>exact False.elim h
   |ret u=>
    obtain⟨v,H',os,M,un,A,r',q⟩:=h;have q':v=.bl true:=q;subst q';obtain rfl:u=Value.bool true:=r';refine⟨rfl,OldK.of_keep fun b o e=>?_,os,M⟩;cases q:H b with
    |none=>exact un.keep b o e q (by intro z;exact absurd (show b∈([]:List Addr)from z) (by simp)) (by simp)
    |some u=>
     rcases hO b with z|⟨ob,xs,z⟩
     ·rw[q]at z;cases z
     ·have z2:=un.frzs b ob _ z;obtain⟨e1,_⟩:=B b _ z;obtain⟨e2,_⟩:=A b _ z2;rw[e]at e1;cases e1;exact e2
 cases S:K.lookup a with
 |some o=>
  -- the script is one of the module's own objects
  have e:=KX a o S;rw[N]at e;cases e;refine j (fun _=>none) (fun _=>.inl rfl) (.inr ⟨_,vs.toArray,_,S,rfl,rfl,rfl,by rw[Yq,y];exact Z,by simpa using Y⟩) (fun b u z=>by have p:(none:Option HO)=some u:=z;cases p) (fun b z=>absurd rfl z) fun z=>absurd rfl z
 |none=>
  refine j (fun b=>if b=a then some (.frz {cls:=.type "list",data:=.seq vs.toArray} (.lst (ns.map V.int)))else none) (fun b=>?_) (.inl (.inr ⟨{cls:=.type "list",data:=.seq vs.toArray},Yh rfl⟩)) (fun b u z=>?_) (fun b z=>?_) fun _=>S
  ·by_cases g:b=a
   ·exact .inr ⟨_,_,Yh g⟩
   ·exact .inl (Yl g)
  ·by_cases g:b=a
   ·have p:=(Yh g).symm.trans z;cases p;subst g;exact⟨N,by rw[Yb];exact Z,vs,_,Y,N⟩
   ·have p:=(Yl g).symm.trans z;cases p
  ·by_cases g:b=a
   ·exact g
   ·exact absurd (Yl g) z
def BR{l:PySem.W.OpenLaw}{n k:Nat}{d:DefRec}{K:Params->PySem.W.Frag}{CX:World->CXT}{sp:World->Sp} 
  (J:l.most=some n) (y:n<=sizeLine) (A:d.params.defaults=[]) (I:Room k callerA)
  (O:∀(w:World) (h:Heap),YP w h->(K w.params).In h)
  (F:∀(w:World) (mg:Ks) (fa:Addr) (h:Heap),(K w.params).In h->h.Ns mainGlobals mg->mg d.name=some (.ref fa)->
   ∃fd:FuncData,(∀(s:Shared) (u:Value),BindsTo s fd ⟨[u],[]⟩ [(x,u)]) /\
    ∀base:Heap,(K w.params).In base->base.Ns mainGlobals mg->FnOk l.prog w (K w.params) mg base (CX w) k fa fd [x] (sp w))
  (p:∀(w:World) (H:Hp) (a:Addr) (ns:List Int),ns.length<=n->By H->SqL (K w.params) H a (ns.map V.int)->sp w [.ref a] H (fun v _=>v=.bl true) fun _ _ _=>False)
  (B:∀(w:World) (H:Hp) (s:Shared) (e:Value) (s':Shared),CX w [] H s (fun _ _ _=>False) e s'->False) :
  PySem.W.WalkO q loose XP YP l.row.toRowW d [] (fun f vs=>PySem.call f vs):=by
 refine Att.attach_call J A fun w C j mg X fa o U cd S a vs ns G Y Z hd M z m i c L=>?_;have E:=O w _ Y;obtain⟨fd,N,R⟩:=F w mg fa _ E G.T.g z;exact AK E G.T.g G.T.b G.T.builtins G.T.nolimit L m i (YC c y) I R N (fun H Q P=>p w H a ns c Q P) fun H e s'=>B w H j e s'
def walk_ofK{l:PySem.W.OpenLaw}{n k:Nat}{d:DefRec}{K:Params->PySem.W.Frag}{sp:PySem.W.Frag->Sp} 
  (m:l.most=some n) (c:n<=sizeLine) (g:d.params.defaults=[]) (j:Room k callerA)
  (o:∀(w:World) (h:Heap),YP w h->(K w.params).In h)
  (F:∀(w:World) (mg:Ks) (fa:Addr) (h:Heap),(K w.params).In h->h.Ns mainGlobals mg->mg d.name=some (.ref fa)->
   ∃fd:FuncData,(∀(s:Shared) (u:Value),BindsTo s fd ⟨[u],[]⟩ [(x,u)]) /\
    ∀base:Heap,(K w.params).In base->base.Ns mainGlobals mg->FnOk l.prog w (K w.params) mg base CX k fa fd [x] (sp (K w.params)))
  (b:∀(K:Kq) (H:Hp) (a:Addr) (ns:List Int),ns.length<=n->By H->SqL K H a (ns.map V.int)->sp K [.ref a] H (fun v _=>v=.bl true) fun _ _ _=>False)
  (i:∀(H:Hp) (s:Shared) (e:Value) (s':Shared),CX [] H s (fun _ _ _=>False) e s'->False) :
  PySem.W.WalkO q loose XP YP l.row.toRowW d [] (fun f vs=>PySem.call f vs):=
 BR (K:=K) (CX:=fun _=>CX) (sp:=fun w=>sp (K w.params)) m c g j o F (fun w H a ns z y p=>b (K w.params) H a ns z y p) fun _ H s e s'=>i H s e s'
def Bm(s:Stmt)(j:Nat):Stmt:=match s with
 |.ClassDef _ _ _ body _ _ _ _ _ _ _=>body.getD j (.Pass ⟨0,0,0,0⟩)
 |_=>.Pass ⟨0,0,0,0⟩
def defArgs(s:Stmt):Arguments:=match s with
 |.FunctionDef _ a _ _ _ _ _ _ _ _=>a
 |_=>{posonlyargs:=[],args:=[],vararg:=none,kwonlyargs:=[],kw_defaults:=[],kwarg:=none,defaults:=[]}
def defBody(s:Stmt):List Stmt:=match s with
 |.FunctionDef _ _ b _ _ _ _ _ _ _=>b
 |_=>[]
def defScope(s:Stmt):Scope:=match s with
 |.FunctionDef _ _ _ _ _ _ sc _ _ _=>sc
 |_=>{kind:=.function,names:=[],isGenerator:=false,isCoroutine:=false}
abbrev CX0:CXT:=fun _ _ _ _ _ _=>False
abbrev E0:XK:=fun _ _ _=>False
def pP:iI CX0 X E0:=fun _ _ _ _ _ _ _ h=>h.elim
structure Fun (K:PySem.W.Frag) (x qual:Str) (st:Stmt) (f:Addr) (fd:FuncData):Prop where
 ex:∃(oc:Value) (od:Option Addr) (kV doc pm:Value) (an:Option Addr) (cdv ct:Value) (osl:Array (Option Value)),
  fd=PySem.W.fnOf x qual (defArgs st) (defBody st) (defScope st) .none kV doc pm an cdv ct/\K.lookup f=some ⟨oc,od,.func fd,osl⟩/\PySem.W.codeIn K cdv qual=true
 kp:PySem.W.keepIn K (.ref f)=true
section
variable{P:Program}    
def Fun.ok{k:Nat}(F:Fun K x qual st f fd)(S:FnScope N ps (defScope st))(len:∀vs H Q E,sp vs H Q E->vs.length=ps.length)
  (a:∀(c:Value) (A:Around) (outer:List Env) (s:Shared) (H:Hp) (vs:List V) (Q:VK) (E:XK),Room k (A.deeper (envOfC qual (defScope st) s.heap.objs.size f c))->sp vs H Q E->
   ∃t,PSs (bX CX0 P w K mg base N qual (defScope st) f c A outer s H E).nox (defBody st) t/\t {nx:=fun _ H'=>Q .non H',rt:=Q} (start N vs) H):FnOk P w K mg base CX0 (k+1) f fd ps sp:=by
 obtain⟨m,j,kV,i,p,y,c,u,o,rfl,l,e⟩:=F.ex;refine CQ l e S len fun A outer s H vs Q E g b=>?_;obtain⟨t,h,q⟩:=a c A outer s H vs Q E g b;exact⟨t,h.nox,q⟩
def DN{h:Value}{g e:Option Addr}{o:Array (Option Value)}{kV b p a ct:Value}(l:K.lookup f=some ⟨h,g,.func (PySem.W.fnOf x qual (defArgs st) (defBody st) (defScope st) .none kV b p e a ct),o⟩)
  (c:PySem.W.codeIn K a qual=true) (k:PySem.W.keepIn K (.ref f)=true):Fun K x qual st f (PySem.W.fnOf x qual (defArgs st) (defBody st) (defScope st) .none kV b p e a ct):=⟨⟨h,g,kV,b,p,e,a,ct,o,rfl,l,c⟩,k⟩
end
def pv(i:Nat)(hN:X.N[i]?=some x:=by rfl)(hv:Vis X.env.scope x:=by first|exact Or.inl rfl|exact Or.inr (Or.inl rfl)|exact Or.inr (Or.inr rfl))(hd:nDb x:=by decide)
  (hcd:nDc x:=by decide):PE X (.Name x pos) (eI i):=kJ hN hv hd hcd
def Same(H H':Hp):Prop:=∀b o,H b=some o->H' b=some o
def Same.refl(H:Hp):Same H H:=fun _ _ h=>h
def Same.trans{H1 H2:Hp}(a:Same H H1)(b:Same H1 H2):Same H H2:=fun c o h=>b c o (a c o h)
def Same.free(e:Same H H')(h:H' l=Option.none):H l=Option.none:=by
 cases q:H l with
 |none=>rfl
 |some o=>
  rw[e l o q]at h;cases h
def Same.seq(e:Same H H')(h:SqL K H a xs):SqL K H' a xs:=by
 rcases h with (h|⟨o,h⟩)|h
 ·exact .inl (.inl (e _ _ h))
 ·exact .inl (.inr ⟨o,e _ _ h⟩)
 ·exact .inr h
end L2
set_option maxHeartbeats 4000000
namespace L2
open PySem PySem.Spec PyProof.Rows
def di(cs:List (Str×Addr)):List (Str×NameKind)->List (Str×Addr)->List (Str×Addr)
 |[],acc=>acc
 |(n,k)::r,acc=>if k == .free then di cs r ((n,(cs.lookup n).getD 0)::acc)else di cs r acc
def mU(h:∀x∈scope.names,x.2=.free->∃c,env.cells.lookup x.1=some c):closureFor scope env=pure (di env.cells scope.names []):=by
 have i:∀(a:List (Str×NameKind)) (b:List (Str×Addr)) (f:Str×NameKind->List (Str×Addr)->Sem (ForInStep (List (Str×Addr)))),
   (∀n k r,f (n,k) r=if k == .free then(cellOf env n>>=fun c=>pure (.yield ((n,c)::r)))else pure (.yield r))->
   (∀x∈a,x.2=.free->∃c,env.cells.lookup x.1=some c)->forIn a b f=pure (di env.cells a b):=by
  intro a;induction a with
  |nil=>intro b f _ _;rfl
  |cons x r ih=>
   intro b f m l;obtain⟨n,k⟩:=x;rw[List.forIn_cons,m];unfold di;by_cases g:(k == NameKind.free)=true
   ·rw[Yh g,Yh g];obtain⟨c,o⟩:=l (n,k) Yf (by simpa using g);have e:cellOf env n=pure c:=by unfold cellOf;rw[o]
    rw[e,pure_bind,pure_bind,o];exact ih _ f m fun y j=>l y (Yd _ j)
   ·rw[Yl g,Yl g,pure_bind];exact ih _ f m fun y j=>l y (Yd _ j)
 unfold closureFor;show(forIn scope.names ([]:List (Str×Addr)) _>>=fun p=>pure p)=_;rw[i scope.names [] _ (fun n k r=>by
  by_cases g:(k == NameKind.free)=true
  ·simp only[g,XC]
  ·simp only[g]) h]
 rfl
def bQ{a:Type}(y n:Str)(c:a)(l:List (Str×a)):((n,c)::l).lookup y=if y=n then some c else l.lookup y:=by
 rw[List.lookup_cons];by_cases h:y=n
 ·subst h;simp
 ·have:(y == n)=false:=by simpa using h
  rw[this,Yl h]
def du:∀(names:List (Str×NameKind)) (a:List (Str×Addr)) (y:Str) (c:Addr),
  (∀x∈names,x.2=.free->∃c,cs.lookup x.1=some c)->(∀y c,a.lookup y=some c->cs.lookup y=some c)->(di cs names a).lookup y=some c->cs.lookup y=some c
 |[],a,y,c,_,h,e=>h y c e
 |(n,k)::r,a,y,c,hx,h,e=>by
  unfold di at e;have i:∀x∈r,x.2=.free->∃c,cs.lookup x.1=some c:=fun x j=>hx x (Yd _ j)
  by_cases f:(k == NameKind.free)=true
  ·rw[Yh f]at e;refine du r _ y c i (fun z d b=>?_) e;obtain⟨l,g⟩:=hx (n,k) Yf (by simpa using f);rw[bQ]at b;split at b
   ·rename_i q;subst q;cases b;rw[g];rfl
   ·exact h z d b
  ·rw[Yl f]at e;exact du r a y c i h e
def gN:∀(names:List (Str×NameKind)) (a:List (Str×Addr)) (y:Str) (c:Addr),
  (di cs names a).lookup y=some c->(y,NameKind.free)∈names\/a.lookup y=some c
 |[],a,y,c,e=>.inr e
 |(n,k)::r,a,y,c,e=>by
  unfold di at e;by_cases b:(k == NameKind.free)=true
  ·rw[Yh b]at e;have h:k=.free:=by simpa using b
   rcases gN r _ y c e with q|q
   ·exact .inl (Yd _ q)
   ·rw[bQ]at q;split at q
    ·rename_i z;subst z;subst h;exact .inl Yf
    ·exact .inr q
  ·rw[Yl b]at e;rcases gN r a y c e with q|q
   ·exact .inl (Yd _ q)
   ·exact .inr q
def gC:∀(names:List (Str×NameKind)) (a:List (Str×Addr)) (y:Str),
  ((y,NameKind.free)∈names\/∃c,a.lookup y=some c)->∃c,(di cs names a).lookup y=some c
 |[],a,y,h=>h.elim (fun z=>by cases z) id
 |(n,k)::r,a,y,h=>by
  unfold di;by_cases b:(k == NameKind.free)=true
  ·rw[Yh b];refine gC r _ y ?_;rcases h with h|⟨c,h⟩
   ·rcases YH.mp h with q|q
    ·cases q;exact .inr ⟨_,by rw[bQ,Yh rfl]⟩
    ·exact .inl q
   ·refine .inr ?_;by_cases q:y=n
    ·exact⟨_,by rw[bQ,Yh q]⟩
    ·exact⟨c,by rw[bQ,Yl q];exact h⟩
  ·rw[Yl b];refine gC r a y ?_;rcases h with h|h
   ·rcases YH.mp h with q|q
    ·cases q;exact absurd rfl b
    ·exact .inl q
   ·exact .inr h
def qo:∀(names:List (Str×NameKind)) (h:Heap) (a:List (Str×Addr)) (y:Str) (c:Addr),(cellsFrom h.objs.size names a).lookup y=some c->
  (h.objs.size<=c/\(pushCells h names).IsCell c none/\(y,NameKind.cell)∈names)\/a.lookup y=some c
 |[],_,_,_,_,e=>.inr e
 |(n,k)::r,h,a,y,c,e=>by
  unfold cellsFrom at e;unfold pushCells;by_cases j:(k == NameKind.cell)=true
  ·rw[Yh j]at e ⊢;have i:k=.cell:=by simpa using j
   have l:(h.push {cls:=.type "cell",data:=.cell none}).objs.size=h.objs.size+1:=ZM ..;rw[<-l]at e;rcases qo r _ _ y c e with⟨g,f,b⟩|q
   ·exact .inl ⟨by rw[l]at g;omega,f,Yd _ b⟩
   ·rw[bQ]at q;split at q
    ·rename_i z;subst z;cases q;subst i;exact .inl ⟨Ym _,⟨_,Vh r _ _ _ (Yo _ rfl),rfl⟩,Yf⟩
    ·exact .inr q
  ·rw[Yl j]at e ⊢;rcases qo r h a y c e with⟨g,f,b⟩|q
   ·exact .inl ⟨g,f,Yd _ b⟩
   ·exact .inr q
def uK{y:Str}:∀(names:List (Str×NameKind)) (n:Nat) (a:List (Str×Addr)),(∀k,(y,k)∈names->k≠.cell)->(cellsFrom n names a).lookup y=a.lookup y
 |[],_,_,_=>rfl
 |(m,k)::r,n,a,h=>by
  unfold cellsFrom;have c:∀k,(y,k)∈r->k≠.cell:=fun k b=>h k (Yd _ b)
  by_cases b:(k == NameKind.cell)=true
  ·rw[Yh b,uK r _ _ c,bQ,Yl];rintro rfl;exact h k Yf (by simpa using b)
  ·rw[Yl b];exact uK r n a c
def uz:∀(names:List (Str×NameKind)) (n:Nat) (f:List (Str×Addr)),(∀y c,f.lookup y=some c->c<n)->(∀y z c,f.lookup y=some c->f.lookup z=some c->y=z)->
  ∀y z c,(cellsFrom n names f).lookup y=some c->(cellsFrom n names f).lookup z=some c->y=z
 |[],_,_,_,h=>h
 |(m,k)::r,n,f,hlt,h=>by
  unfold cellsFrom;by_cases i:(k == NameKind.cell)=true
  ·rw[Yh i];refine uz r (n+1) _ (fun y c e=>?_) fun y z c e g=>?_
   ·rw[bQ]at e;split at e
    ·cases e;exact Xv _
    ·exact Xp (hlt y c e)
   ·rw[bQ]at e g;split at e<;>split at g
    ·rename_i a b;rw[a,b]
    ·cases e;exact absurd (hlt z _ g) (Zd _)
    ·cases g;exact absurd (hlt y _ e) (Zd _)
    ·exact h y z c e g
  ·rw[Yl i];exact uz r n f hlt h
def g9(env:Env)(scope:Scope)(C:Addr):Env:=
 {scope:=relabel scope env,locals:=C,globals:=env.globals,cells:=cellsFrom (C+1) scope.names (di env.cells scope.names []),qual:=env.qual,func:=none,code:=env.code,frame:=env.frame,builtins:=env.builtins}
def blk(X:Cx)(scope:Scope)(N:List Str)(s:Shared)(H:Hp)(fp:List Addr)(pz:Kp):Cx where
 prog:=X.prog
 w:=X.w
 K:=X.K
 mg:=X.mg
 base:=X.base
 A:=X.A
 N:=N
 s₀:=s
 H₀:=H
 env:=g9 X.env scope s.heap.objs.size
 outer:=X.stack
 stack:=X.stack
 ex:=fp
 fn:=fun x=>scope.names.lookup x == some .local||scope.names.lookup x == some .cell
 calm:=X.calm
 pn:=X.pn++pz
 xe:=fun _ _=>False
structure BlkScope (X:Cx) (scope:Scope):Prop where
 kind:scope.kind=.function
 nd:(scope.names.map (·.1)).Nodup
 free:∀x∈scope.names,x.2=.free->X.env.kindOf x.1=some .cell\/X.env.kindOf x.1=some .free
def f6{b:Type}:∀{l:List (Str×b)}{n:Str}{c:b},(l.map (·.1)).Nodup->(n,c)∈l->l.lookup n=some c
 |[],_,_,_,h=>by cases h
 |(k,v)::r,n,c,nd,h=>by
  rw[bQ];rcases YH.mp h with q|q
  ·cases q;rw[Yh rfl]
  ·have a:=ZV.mp nd;rw[Yl]
   ·exact f6 a.2 q
   ·rintro rfl;exact a.1 (Yv.mpr ⟨_,q,rfl⟩)
def jT:∀(names:List (Str×NameKind)),
  (names.map fun(n,k)=>if(k == NameKind.free&&env.scope.kind == .function&&env.kindOf n == some .cell)then(n,NameKind.cell)else(n,k)).lookup x =
   (names.lookup x).map fun k=>if(k == NameKind.free&&env.scope.kind == .function&&env.kindOf x == some .cell)then NameKind.cell else k
 |[]=>rfl
 |(n,k)::r=>by
  show List.lookup x ((if(k == NameKind.free&&env.scope.kind == .function&&env.kindOf n == some .cell)=true then(n,NameKind.cell)else(n,k))::_)=_;have e:(if(k == NameKind.free&&env.scope.kind == .function&&env.kindOf n == some .cell)=true then(n,NameKind.cell)else(n,k)) =
    (n,if(k == NameKind.free&&env.scope.kind == .function&&env.kindOf n == some .cell)=true then NameKind.cell else k):=by split<;>rfl
  rw[e,bQ,bQ];split
  ·rename_i q;subst q;rfl
  ·exact jT r
def nC(x:Str):(g9 env scope C).kindOf x =
  (scope.names.lookup x).map fun k=>if(k == NameKind.free&&env.scope.kind == .function&&env.kindOf x == some .cell)then NameKind.cell else k:=jT scope.names
def BlkScope.cl(b:BlkScope X scope)(ok:X.Ok):∀x∈scope.names,x.2=.free->∃c,X.env.cells.lookup x.1=some c:=fun x h e=>ok.has x.1 (b.free x h e)
def gq(b:BlkScope X scope)(I:Inv X pz σ H s){y:Str}{c:Addr}(e:(g9 X.env scope s.heap.objs.size).cells.lookup y=some c) :
  (s.heap.objs.size<c/\(pushCells (s.heap.push {cls:=.type "dict",data:=.dict #[]}) scope.names).IsCell c none/\(y,NameKind.cell)∈scope.names)\/(X.env.cells.lookup y=some c/\(y,NameKind.free)∈scope.names):=by
 have a:(s.heap.push {cls:=.type "dict",data:=.dict #[]}).objs.size=s.heap.objs.size+1:=ZM ..;have j:(cellsFrom (s.heap.push {cls:=.type "dict",data:=.dict #[]}).objs.size scope.names (di X.env.cells scope.names [])).lookup y=some c:=by rw[a];exact e
 rcases qo _ _ _ _ _ j with⟨i,g,f⟩|h
 ·exact .inl ⟨by rw[a]at i;omega,g,f⟩
 ·refine .inr ⟨du _ _ y c (b.cl I.ok) (fun _ _ z=>by cases z) h,?_⟩;rcases gN _ _ _ _ h with q|q
  ·exact q
  ·cases q
def EX(b:BlkScope X scope)(I:Inv X pz σ H s)(j:∀a∈fp,i5 X pz H a)(g:∀a∈fp,a<s.heap.objs.size):(blk X scope N s H fp pz).Ok:=by
 have m:∀y c,X.env.cells.lookup y=some c->c<s.heap.objs.size:=fun y c e=>by obtain⟨v,q⟩:=I.cell y c e;exact q.lt
 refine⟨I.ok.mod,b.kind,I.ok.glob,I.ok.blt,Ym _,fun x y c e C=>?_,fun x l=>?_,fun x c l e=>?_,I.ok.hd,I.ok.frames,.inl rfl,fun a f=>⟨Yy (g a f),fun x c e=>?_⟩,I.bs,YC I.ok.bsz I.sz,fun a o e f=>?_,fun a f=>?_,I.stack,I.stkFree⟩
 ·refine uz scope.names (s.heap.objs.size+1) _ (fun y c q=>?_) (fun y z c q p=>?_) x y c e C
  ·exact Xp (m y c (du _ _ y c (b.cl I.ok) (fun _ _ z=>by cases z) q))
  ·exact I.ok.inj y z c (du _ _ y c (b.cl I.ok) (fun _ _ z=>by cases z) q) (du _ _ z c (b.cl I.ok) (fun _ _ z=>by cases z) p)
 ·have h:(g9 X.env scope s.heap.objs.size).kindOf x=some .cell\/(g9 X.env scope s.heap.objs.size).kindOf x=some .free:=l;rw[nC]at h;show ∃c,(cellsFrom (s.heap.objs.size+1) scope.names (di X.env.cells scope.names [])).lookup x=some c;cases q:scope.names.lookup x with
  |none=>rw[q]at h;rcases h with z|z<;>cases z
  |some k=>
   have u:(x,k)∈scope.names:=Zp q;cases k with
   |cell=>exact ZW.mp (Xj scope.names _ _ (.inl q))
   |free=>
    obtain⟨c,w⟩:=gC (cs:=X.env.cells) scope.names [] x (.inl u);exact ZW.mp (Xj scope.names _ _ (.inr (by rw[w];rfl)))
   |_=>rw[q]at h;exfalso;revert h;simp
 ·rcases gq b I e with⟨i,_,_⟩|⟨_,B⟩
  ·exact ZB i
  ·exfalso;have q:=f6 b.nd B;have h:(scope.names.lookup x == some .local||scope.names.lookup x == some .cell)=true:=l;rw[q]at h;revert h;decide
 ·rcases gq b I e with⟨i,_,_⟩|⟨i,_⟩
  ·intro z;subst z;exact absurd (ZN (g _ f) i) (Zd _)
  ·exact(j a f).2.2.2.2.1 x c i
 ·have A:=(j a f).2.2.2.1;rcases A with z|z
  ·exact I.ok.noex a o e z
  ·exact absurd (Ys (Yp e) (YC I.ok.bsz z)) (Zd _)
 ·intro z;rcases YH.mp (I.stkSub a z)with q|q
  ·exact(j a f).2.1 q
  ·exact(j a f).2.2.1 q
def eT(own:Nat)(ix:List Nat)(σ:St):St:=List.replicate own none++ix.map fun j=>(σ[j]?).join
def iQ(own:Nat)(ix:List Nat)(σ:St):(eT own ix σ).length=own+ix.length:=by unfold eT;rw[Yn,YK,Yb]
def oQ{v:V}(h:(eT own ix σ)[i]?=some (some v)):own<=i/\∃j,ix[i-own]?=some j/\σ[j]?=some (some v):=by
 unfold eT at h;by_cases b:i<own
 ·rw[Zg (by rw[YK];exact b),Xa,Yh b]at h;cases h
 ·rw[YW (by rw[YK];omega),YK,Yt]at h;refine⟨by omega,?_⟩;cases q:ix[i-own]? with
  |none=>rw[q]at h;cases h
  |some j=>
   rw[q]at h;refine⟨j,rfl,?_⟩;cases a:σ[j]? with
   |none=>rw[Zv,a]at h;cases h
   |some o=>
    rw[Zv,a]at h;cases o with
    |none=>cases h
    |some c=>rw[Option.join_some]at h;cases h;rfl
structure Caps (X:Cx) (scope:Scope) (N:List Str) (own:Nat) (ix:List Nat):Prop where
 len:N.length=own+ix.length
 cap:∀(i:Nat) (j:Nat) (x:Str),N[own+i]?=some x->ix[i]?=some j->X.N[j]?=some x/\scope.names.lookup x=some .free
def xy(b:BlkScope X scope)(cp:Caps X scope N own ix)(I:Inv X pz σ H s)(Q:∀a∈fp,i5 X pz H a)(A:∀a∈fp,a<s.heap.objs.size) :
  Inv (blk X scope N s H fp pz) [] (eT own ix σ) H {s with heap:=pushCells (s.heap.push {cls:=.type "dict",data:=.dict #[]}) scope.names}:=by
 have f:∀a o,s.heap.get? a=some o->(pushCells (s.heap.push {cls:=.type "dict",data:=.dict #[]}) scope.names).get? a=some o:=fun a o e=>Vh _ _ a o (Ye _ e)
 refine⟨EX b I Q A,rfl,I.bare,Un.kept f,⟨_,(Heap.Ns.new s.heap (.type "dict")).keeps (Vh _ _),fun i x v e1 Z e3=>?_⟩,fun y c e=>?_,I.fresh,fun y c e=>?_,fun p O=>?_,I.hok.kept f,?_⟩
 ·obtain⟨ho,j,U,T⟩:=oQ Z;have E:N[own+(i-own)]?=some x:=by rw[show own+(i-own)=i by omega];exact e1
  obtain⟨R,h⟩:=cp.cap (i-own) j x E U;obtain⟨m,hn,P⟩:=I.loc;have C:X.env.kindOf x=some .cell\/X.env.kindOf x=some .free:=b.free (x,.free) (Zp h) rfl;have M:Vis X.env.scope x:=C.elim (fun z=>.inr (.inl z)) fun z=>.inr (.inr z)
  obtain⟨u,r,L⟩:=P j x v R T M;refine⟨u,r,.inr ⟨?_,?_⟩⟩
  ·show(g9 X.env scope s.heap.objs.size).kindOf x=some .cell\/(g9 X.env scope s.heap.objs.size).kindOf x=some .free;rw[nC,h];show some (if _ then NameKind.cell else NameKind.free)=some .cell\/some (if _ then NameKind.cell else NameKind.free)=some .free;split
   ·exact .inl rfl
   ·exact .inr rfl
  ·rcases L with⟨k,_⟩|⟨_,c,Y,z⟩
   ·rw[k]at C;rcases C with z|z<;>cases z
   ·refine⟨c,?_,z.keeps f⟩;show(cellsFrom (s.heap.objs.size+1) scope.names (di X.env.cells scope.names [])).lookup x=some c;rw[uK]
    ·obtain⟨c',g⟩:=gC (cs:=X.env.cells) scope.names [] x (.inl (Zp h));have:=du _ _ x c' (b.cl I.ok) (fun _ _ z=>by cases z) g;rw[Y]at this;cases this;exact g
    ·intro k B z;rw[f6 b.nd B]at h;cases h;cases z
 ·rcases gq b I e with⟨_,S,_⟩|⟨l,_⟩
  ·exact⟨_,S⟩
  ·obtain⟨v,z⟩:=I.cell y c l;exact⟨v,z.keeps f⟩
 ·rcases gq b I e with⟨l,_,_⟩|⟨l,_⟩
  ·exact I.hok.fresh (ZB l)
  ·exact I.freeC y c l
 ·have w:p∈X.pn++pz:=by
   have:p∈(X.pn++pz)++[]:=O
   rwa [YU]at this
  obtain⟨e,n,K,J,d⟩:=I.pin p w;refine⟨f _ _ e,n,Yy (Yp e),fun z=>?_,d⟩;rcases YH.mp (I.stkSub p.1 z)with q|q
  ·exact K q
  ·exact J q
 ·rw[iQ];exact cp.len.symm
def rQ{f:St}(I:Inv X pz σ H s)(p:∀a∈fp,i5 X pz H a)(J:Inv (blk X scope N s H fp pz) pl f H' s')(b:Heap.SameBut s.heap.objs.size s'.heap h') :
  Inv X pz σ H' {s' with heap:=h' }:=by
 have j:H' s.heap.objs.size=none:=J.free;have g:∀a o,s.heap.get? a=some o->a≠s.heap.objs.size:=fun a o e=>Yy (Yp e)
 have u:Un (frs X.stack) fp H H' s.heap s'.heap:=J.base;refine I.call' (ch:=fp) (s':={s' with heap:=h' }) J.os ⟨fun a o e n i h=>(b.2 a (g a o e)).trans (u.keep a o e n i h),fun a o e n i h=>?_,fun a o e n h=>u.free a o e n h,fun a o e h=>?_,u.tups,u.frzs,u.tbls⟩ (fun a o e=>?_) J.bare fun a w=>?_
 ·obtain⟨l,q⟩:=u.slot a o e n i h;exact⟨l,(b.2 a (g a o e)).trans q⟩
 ·obtain⟨m,q⟩:=u.there a o e h;exact⟨m,(b.2 a (g a o e)).trans q⟩
 ·refine(J.hok a o e).stay (fun c v hc q=>(b.2 c ?_).trans q) (fun _ q=>q) fun _ _ q=>q;rintro rfl;rcases hc with rfl|hc
  ·rw[j]at e;cases e
  ·rw[j]at hc;cases hc
 ·obtain⟨_,h,_,z,y,x⟩:=p a w;exact⟨z,h,y,x⟩
def zN{pl:Kp}{H':Hp}(b:BlkScope X scope)(I:Inv X pz σ H s)(l:∀a∈fp,i5 X pz H a)(h:∀a∈fp,a<s.heap.objs.size)(j:∀a∈fp,H' a=none) :
  ∀a∈fp,i5 (blk X scope N s H fp pz) [] H' a:=fun a f=>by
 obtain⟨_,w,u,y,o,m⟩:=l a f;refine⟨j a f,Yy (h a f),fun z=>?_,.inl f,fun x c e=>?_,fun p i=>?_⟩
 ·rcases YH.mp (I.stkSub a z)with q|q
  ·exact w q
  ·exact u q
 ·rcases gq b I e with⟨q,_,_⟩|⟨q,_⟩
  ·intro z;subst z;exact absurd (ZN (h _ f) q) (Zd _)
  ·exact o x c q
 ·have g:p∈X.pn++pz:=by
   have:p∈(X.pn++pz)++[]:=i
   rwa [YU]at this
  exact m p g
def uZ{M:Model}{Q:Env->Shared->Prop}(cl:List (Str×Addr))
  (h:∀c:Env,c={scope:=scope,locals:=s.heap.objs.size,globals:=env.globals,cells:=cellsFrom (s.heap.objs.size+1) scope.names cl,qual:=env.qual,func:=none,code:=env.code,frame:=env.frame,builtins:=env.builtins}->
   Q c {s with heap:=pushCells (s.heap.push {cls:=.type "dict",data:=.dict #[]}) scope.names}) :
  wpAny M A (newFunctionEnv scope env.globals cl [] env.qual none .none (some env)) Q E s:=by
 simp only[newFunctionEnv,Option.isSome_some,XC];refine Yc (wpAny_alloc ?_);refine Yc (wpAny_layCells _ (fun e a cells=>by cases b:a == NameKind.cell<;>simp[b]) _ _ _ _ ?_);rw[show({s with heap:=s.heap.push {cls:=.type "dict",data:=.dict #[]} }:Shared).heap.objs.size=s.heap.objs.size+1 from ZM ..];refine Yc ?_;rw[List.forIn_nil];exact Yw (Yw (h _ rfl))
def wD{R:Kr}{a:Expr}{it q:Value}(I:Nat->Shared->Prop)
  (turn:∀n s,I n s->wpAny (model prog w) A (pyNext it) (fun r b=>match r with
   |none=>R (.ok .next) b
   |some v=>wpAny (model prog w) A (letOwnedTupleGo a it v) (fun _ b=>wpAny (model prog w) A (assign a env v) (fun _ l=>
     wpAny (model prog w) A (forIn ifs true fun c r=>if r=true then do let ok <-isTrue c env (eval c env);pure (ForInStep.yield ok)else pure (ForInStep.yield r)) (fun ok f=>
      if ok=true then wpAny (model prog w) A (eval elt env) (fun x j=>
       wpAny (model prog w) A (call (.builtin "list.append") [q,x]) (fun _ i=>∃m,m<n/\I m i) (fun _ _=>False) j) (fun _ _=>False) f
      else ∃m,m<n/\I m f) (fun _ _=>False) l) (fun _ _=>False) b) (fun _ _=>False) b) (fun _ _=>False) s)
  (n:Nat) (h:I n s) :
  codeAny (model prog w) A (.compLoop (.ListComp elt [⟨a,iter,ifs,0⟩] scope pos) 0 it q env) R s:=by
 refine codeAny_loop rfl I (fun n s C=>?_) n h;show wpAny _ A ((compTurn (.ListComp elt [⟨a,iter,ifs,0⟩] scope pos) 0 it q env).onRaise (fun x=>do noteFrame x env;theTreesLotGoes x)) _ _ s;refine wpAny_noted ?_;rw[compTurn_list];refine Yc (wpAny_standAt (Yc (Zq (turn n s C) (fun r b o=>?_) fun _ _ g=>g.elim)));cases r with
 |none=>exact Yw o
 |some v=>
  refine Yc (Zq o (fun _ B p=>?_) fun _ _ g=>g.elim);refine Yc (Zq p (fun _ l z=>Yc (Zq z (fun ok f e=>?_) fun _ _ g=>g.elim)) fun _ _ g=>g.elim);cases ok with
  |true=>
   rw[Yh rfl]at e;simp only[XC];exact Yc (Yc (Zq e (fun x j y=>Yc (Zq y (fun _ i u=>Yw (Yw ⟨rfl,u⟩)) fun _ _ g=>g.elim)) fun _ _ g=>g.elim))
  |false=>
   rw[Yl Yk]at e;simp only[XD,Vk];exact Yw ⟨rfl,e⟩
def HZ:TT:=fun _ H Q=>Q true H
def nU(X:Cx)(ifs:List Expr)(t:TT):Prop:=
 ∀(p:Kp) (s:Shared) (a:St) (H:Hp) (Q:Bool->Hp->Prop),Inv X p a H s->t a H Q->
  wpAny (model X.prog X.w) X.A (forIn ifs true fun c r=>if r=true then do let ok <-isTrue c X.env (eval c X.env);pure (ForInStep.yield ok)else pure (ForInStep.yield r)) (TP X p a Q) X.xe s
def Aq:nU X [] HZ:=fun _ _ _ H _ I h=>Yw ⟨H,I,h⟩
def yy{t:TT}(h:PT X c t):nU X [c] t:=fun p s a H Q I q=>wpAny_tests_one (h p s a H Q I q)
def yM(own:Nat)(ix:List Nat)(wi:TI)(g:TG)(tc:TT)(te:TE):TE:=fun h H Q=>wi h H fun J q=>∀a,q a=none->∃W:Nat->Nat->List V->Hp->Prop,
 (∃m,W 0 m [] (upd q a (.lst [])))/\∀i m c H,W i m c H->
  (J.stop i H/\Q (.ref a) H)\/(J.go i H/\∃N:List V->Hp->Prop,(∀e f,N e f->∃l,l < m/\W (i+1) l e f)/\∀x f,J.yld i H x f->g x (eT own ix h) f fun b s=>
   (b.length=own+ix.length/\∀(j:Nat) v,(eT own ix h)[j]?=some (some v)->b[j]?=some (some v)) /\
   tc b s fun ok p=>if ok=true then te b p fun y o=>o a=some (.lst c)/\c.length<sizeLine/\N (c++[y]) (upd o a (.lst (c++[y])))else N c p)
section
variable         {wi:TI}{g:TG}  
def m7{Q:VK}{itv:Value}{RR:Value->Addr->Result->Shared->Prop}(hcalm:X.calm=true)(b:BlkScope X scope)(cp:Caps X scope N own ix)
  (hg:∀s H fp pz,PG (blk X scope N s H fp pz) tg g) (hc:∀s H fp pz,nU (blk X scope N s H fp pz) ifs tc) (he:∀s H fp pz,PE (blk X scope N s H fp pz) elt te)
  (hp:PIE X pz σ tg (fun J H1=>∀c,H1 c=none->∃W:Nat->Nat->List V->Hp->Prop,
   (∃m,W 0 m [] (upd H1 c (.lst [])))/\∀i m ys H,W i m ys H->
    (J.stop i H/\Q (.ref c) H)\/(J.go i H/\∃N:List V->Hp->Prop,(∀Z H',N Z H'->∃m',m' < m/\W (i+1) m' Z H')/\∀x H',J.yld i H x H'->g x (eT own ix σ) H' fun K H2=>
     (K.length=own+ix.length/\∀(j:Nat) v,(eT own ix σ)[j]?=some (some v)->K[j]?=some (some v)) /\
     tc K H2 fun ok l=>if ok=true then te K l fun y H4=>H4 c=some (.lst ys)/\ys.length<sizeLine/\N (ys++[y]) (upd H4 c (.lst (ys++[y])))else N ys l)) itv s)
  (hR:∀(f:Shared) (l:Hp) (fp:List Addr) (c:Addr) (σ':St) (H':Hp) (s':Shared),Inv X pz σ l f->(∀a∈fp,i5 X pz l a)->Inv (blk X scope N f l fp pz) [] σ' H' s'->Q (.ref c) H'->RR (.ref c) f.heap.objs.size (.ok .next) s') :
  wpAny (model X.prog X.w) X.A (newList []) (fun c s₃=>wpAny (model X.prog X.w) X.A (newFunctionEnv scope X.env.globals (di X.env.cells scope.names []) [] X.env.qual none .none (some X.env)) (fun I s₄=>
   codeAny (model X.prog X.w) X.A (.compStart (.ListComp elt [⟨tg,iter,ifs,0⟩] scope pos) 0 itv c {I with scope:=relabel scope X.env}) (RR c I.locals) s₄) E s₃) E s:=by
 obtain⟨it,fp,tn,J,H1,rfl,I1,T,st1,f1,hacc⟩:=hp;refine wpAny_newObj_type ?_
 -- the list
 have Y:Inv X pz σ (upd H1 s.heap.objs.size (.lst [])) {s with heap:=s.heap.push {cls:=.type "list",dict:=none,data:=.seq ([]:List Value).toArray} }:=I1.lnew (ys:=[]) (its:=[]) .nil (YO _);generalize hs3:({s with heap:=s.heap.push {cls:=.type "list",dict:=none,data:=.seq ([]:List Value).toArray} }:Shared)=f at Y ⊢;have kp3:∀a o,s.heap.get? a=some o->f.heap.get? a=some o:=fun a o e=>by rw[<-hs3];exact Ye _ e
 have st3:tn 0 f.heap:=T.keep _ _ _ st1 fun a _ o e=>kp3 a o e
 have lt1:∀a∈fp,a<s.heap.objs.size:=fun a B=>by obtain⟨o,e,_⟩:=T.obj _ _ st1 a B;exact Yp e
 have U:∀a∈fp,i5 X pz (upd H1 s.heap.objs.size (.lst [])) a:=fun a B=>⟨by rw[aU (Yy (lt1 a B))];exact(f1 a B).1,(f1 a B).2⟩
 have P:∀a∈fp,a<f.heap.objs.size:=fun a B=>by obtain⟨o,e,_⟩:=T.obj _ _ st3 a B;exact Yp e
 obtain⟨W,⟨m0,w0⟩,L⟩:=hacc s.heap.objs.size I1.fresh;generalize hH3:upd H1 s.heap.objs.size (.lst [])=l at Y U w0;generalize hacc':s.heap.objs.size=c at w0 L ⊢;refine uZ _ fun I hc'=>?_;subst hc';have J0:=xy (N:=N) (fp:=fp) b cp Y U P;have st4:tn 0 (pushCells (f.heap.push {cls:=.type "dict",data:=.dict #[]}) scope.names):=T.keep _ _ _ st3 fun a _ o e=>Vh _ _ a o (Ye _ e)
 generalize hs4:({f with heap:=pushCells (f.heap.push {cls:=.type "dict",data:=.dict #[]}) scope.names}:Shared)=s4 at J0 ⊢;have M:tn 0 s4.heap:=by rw[<-hs4];exact st4
 -- the C
 have C:codeAny (model X.prog X.w) X.A (.compLoop (.ListComp elt [⟨tg,iter,ifs,0⟩] scope pos) 0 (.ref it) (.ref c) (g9 X.env scope f.heap.objs.size)) (RR (.ref c) f.heap.objs.size) s4:=by
  refine wD (fun n s'=>∃i ys H',Inv (blk X scope N f l fp pz) [] (eT own ix σ) H' s'/\tn i s'.heap/\(∀a∈fp,H' a=none)/\W i n ys H') ?_ m0 ⟨0,[],l,J0,M,fun a B=>(U a B).1,w0⟩;rintro n s5 ⟨i,ys,H5,J5,st5,fr5,w5⟩;have fp5:=zN (pl:=[]) (N:=N) b Y U P fr5;rcases L i n ys H5 w5 with⟨stop,q⟩|⟨go,NN,hN,step⟩
  ·refine thn (T.done (blk X scope N f l fp pz) rfl rfl rfl hcalm i [] s5 _ H5 _ J5 fp5 st5 stop) fun r s6 ⟨hr,J6⟩=>?_;subst hr;exact hR f l fp c _ H5 s6 Y U J6 q
  ·refine thn (T.item (blk X scope N f l fp pz) rfl rfl rfl hcalm i [] s5 _ H5 _ J5 fp5 st5 go) fun r s6 ⟨u,hr,h6⟩=>?_;subst hr;refine thn h6 fun _ s7 h=>?_;obtain⟨x,H7,J7,r7,y7,O,fr7⟩:=h;have fp7:=zN (pl:=[]) (N:=N) b Y U P fr7;have J7':=J7.pinned fp7 (T.obj _ _ O);have back:∀{p:St}{R:Hp}{S:Shared}{zs:List V},Inv (blk X scope N f l fp pz) ([]++nD fp s7.heap) p R S->(p.length=own+ix.length/\∀(j:Nat) v,(eT own ix σ)[j]?=some (some v)->p[j]?=some (some v))->NN zs R->
     ∃m,m<n/\∃i ys H',Inv (blk X scope N f l fp pz) [] (eT own ix σ) H' S/\tn i S.heap/\(∀a∈fp,H' a=none)/\W i m ys H':=fun{p R S zs} J8 hw n8=>by
    obtain⟨m',hm,w8⟩:=hN zs R n8;refine⟨m',hm,i+1,zs,R,(J8.unpinned).weak (by rw[iQ,hw.1]) hw.2,T.keep _ _ _ O fun a B o e=>(J8.pin (a,o) (YX _ (YX _ (gB B e)))).1,fun a B=>?_,w8⟩;obtain⟨o,e,d⟩:=T.obj _ _ O a B;exact(J8.pin (a,o) (YX _ (YX _ (gB B e)))).2.1
   refine thn (hg f l fp pz _ s7 _ H7 x u _ J7' r7 (step x H7 y7)) fun _ S h=>?_;obtain⟨p,R,J8,hw,q8⟩:=h;refine thn (hc f l fp pz _ S p R _ J8 q8) fun ok s9 h=>?_;obtain⟨H9,J9,q9⟩:=h;cases ok with
   |false=>
    rw[Yl Yk]at q9 ⊢;exact back J9 hw q9
   |true=>
    rw[Yh rfl]at q9 ⊢;refine thn (he f l fp pz _ s9 p H9 _ J9 q9) fun y s10 h=>?_;obtain⟨z,H10,J10,rz,e10,hlt,n10⟩:=h;refine thn (k9 (X:=blk X scope N f l fp pz) _ s10 p H10 (.ref c) [z] (.ref c) [y] (fun v H'=>v=.non/\H'=upd H10 c (.lst (ys++[z]))) J10 rfl (.cons rz .nil) ⟨c,ys,z,rfl,rfl,e10,hlt,rfl,rfl⟩) fun _ s11 h=>?_;obtain⟨_,H11,J11,_,_,e11⟩:=h;subst e11;exact back J11 hw n10
 subst hs4;exact codeAny_compStart_list C (T.self _ _ _ _ _ M C)
def CA(hcalm:X.calm=true)(b:BlkScope X scope)(cp:Caps X scope N own ix)(hi:PI X tg iter wi)
  (o:∀s H fp pz,PG (blk X scope N s H fp pz) tg g) (p:∀s H fp pz,nU (blk X scope N s H fp pz) ifs tc) (he:∀s H fp pz,PE (blk X scope N s H fp pz) elt te)
  (hnames:∀y∈scope.names,y.2=.local->scope.names.lookup y.1=some .local:=by decide)
  (j:FsI iter X:=by intro _;rfl):PE X (.ListComp elt [⟨tg,iter,ifs,0⟩] scope pos) (yM own ix wi g tc te):=by
 intro pz s e H Q I h;rw[eval_ListComp];refine wpAny_comprehension_free (use:=none) rfl j (mU (b.cl I.ok)) b.kind hnames (thn (hi pz s e H _ I h) fun v M x=>thn x fun i L u=>?_);refine m7 (RR:=fun a C=>compPost (model X.prog X.w) X.A X.xe none (EP X pz e Q) a C) hcalm b cp o p he u ?_;intro K R fp a f E O B z J q;obtain⟨m,l,_⟩:=id J.loc;exact⟨m,l,fun P c=>⟨.ref a,E,rQ B z J c,rfl,q⟩⟩
def nv{y:Str}{py spos:Pos}(hcalm:X.calm=true)(hN:X.N.Nodup)(hiN:X.N[i]?=some y)(hx:Loc X.env.scope y)(b:BlkScope X scope)(cp:Caps X scope N own ix)(hi:PI X tg iter wi)
  (hg:∀s H fp pz,PG (blk X scope N s H fp pz) tg g) (S:∀s H fp pz,nU (blk X scope N s H fp pz) ifs tc) (he:∀s H fp pz,PE (blk X scope N s H fp pz) elt te)
  (K:swapsWith (.ListComp elt [⟨tg,iter,ifs,0⟩] scope pos) (some (.Name y py)) spos.line X.env=pure true:=by rfl)
  (hnames:∀y∈scope.names,y.2=.local->scope.names.lookup y.1=some .local:=by decide)
  (hs:FsI iter X:=by intro _;rfl)
  (hf:FnL X y:=by first|exact .inl rfl|exact .inr rfl|assumption) :
  PS X (.Assign [.Name y py] (.ListComp elt [⟨tg,iter,ifs,0⟩] scope pos) spos) (Af (yM own ix wi g tc te) (lI i)):=by
 intro pz s u H D I h;rw[exec_Assign_Name_used _ _ _ _ K];refine Yc (wpAny_standAt (Yc ?_));show wpAny _ X.A (do let _ <-comprehension (.ListComp elt [⟨tg,iter,ifs,0⟩] scope pos) scope X.env _ (newList []) false (eval iter X.env) (some (assign (.Name y py) X.env))) _ _ s;refine Yc (Zq (wpAny_comprehension_free (use:=some (assign (.Name y py) X.env)) (Q:=fun _ j=>SP X pz D .next j) rfl hs (mU (b.cl I.ok)) b.kind hnames
  (thn (hi pz s u H _ I h) fun v s1 h1=>thn h1 fun Z s2 h2=>?_)) (fun _ j hq=>Yw (Yw hq)) fun _ _ e=>e)
 refine m7 (Q:=fun x H1=>lI i x u H1 D.nx) (RR:=fun f C=>compPost (model X.prog X.w) X.A X.xe (some (assign (.Name y py) X.env)) (fun _ j=>SP X pz D .next j) f C) hcalm b cp hg S he h2 ?_;intro B H3 fp f Y U j l f3 J q;obtain⟨m,P,_⟩:=id J.loc;have P:j.heap.Ns B.heap.objs.size m:=P;have I':Inv X pz u U j:=rQ l f3 J (Heap.SameBut.refl ..);show wpAny _ X.A (assign (.Name y py) X.env (.ref f)) _ _ j;refine wpAny_assign_Name (o9 (v:=.ref f) I' hN hiN hx rfl (fun E T R=>?_) hf);obtain⟨a,L,ha⟩:=R;have O:B.heap.objs.size≠a:=by
  rcases ha with ha|ha
  ·rw[ha];exact ZL l.lt
  ·obtain⟨v,z⟩:=l.cell y a ha;exact ZL z.lt
 refine⟨m,P.sameBut L O,fun h' M=>?_⟩;refine⟨u.set i (some (.ref f)),U,?_,q⟩;exact T.turned (h':=h') (t':=E.toks) (it:=B.heap.objs.size) (fun c o S e=>(M.2 c S).trans e) J.free (ZL l.lt) (.inr l.sz) (fun x c e=>by obtain⟨v,z⟩:=l.cell x c e;exact Yy z.lt) fun p hp=>Yy (Yp (l.pin p hp).1)
end
section
variable{κ:Type} [DecidableEq κ]
def eY(kvs:List (κ×V))(k:κ):Option V:=(kvs.find? fun a=>decide (a.1=k)).map (·.2)
def gX(kvs:List (κ×V))(k:κ)(v:V):List (κ×V):=
 if(kvs.any fun a=>decide (a.1=k))=true then kvs.map (fun a=>if a.1=k then(a.1,v)else a)else kvs++[(k,v)]
def m9{p:κ×V}{r:List (κ×V)}{k:κ}(e:p.1=k):eY (p::r) k=some p.2:=by simp[eY,ZC,e]
def nK{p:κ×V}{r:List (κ×V)}{k:κ}(e:¬p.1=k):eY (p::r) k=eY r k:=by simp[eY,ZC,e]
def sD(k:κ):∀kvs:List (κ×V),(kvs.any fun a=>decide (a.1=k))=(eY kvs k).isSome
 |[]=>rfl
 |p::r=>by
  rw[Xb];by_cases e:p.1=k
  ·simp only[m9 e,YM e,Bool.true_or,Option.isSome_some]
  ·rw[nK e,YE e,Bool.false_or];exact sD k r
def iG(kvs:List (κ×V))(k:κ)(v:V):(gX kvs k v).length<=kvs.length+1:=by
 unfold gX;split
 ·rw[Yb];omega
 ·rw[Yn,Yz,YY];omega
def RelO.isSome_eq{o:Option V}{u:Option Value}(r:RelO o u):o.isSome=u.isSome:=by
 cases o with
 |none=>cases u with
  |none=>rfl
  |some _=>exact(show False from r).elim
 |some _=>cases u with
  |none=>exact(show False from r).elim
  |some _=>rfl
def RelO.getD{o:Option V}{u:Option Value}{d:V}{d':Value}(r:RelO o u)(a:RelV d d'):RelV (o.getD d) (u.getD d'):=by
 cases o with
 |none=>cases u with
  |none=>exact a
  |some _=>exact(show False from r).elim
 |some _=>cases u with
  |none=>exact(show False from r).elim
  |some _=>exact r
def KV.val{kvs:List (κ×V)}{vs:List (κ×Value)}(r:KV kvs vs)(k:κ):RelO (eY kvs k) (valueAt vs k):=by
 unfold KV at r;induction r with
 |nil=>exact True.intro
 |@cons p q i a h t ih=>
  obtain⟨f,g⟩:=h;by_cases e:p.1=k
  ·have c:q.1=k:=f.symm.trans e;have b:valueAt (q::a) k=some q.2:=by simp[valueAt,ZC,c]
   rw[m9 e,b];exact g
  ·have c:¬q.1=k:=fun z=>e (f.trans z)
   have b:valueAt (q::a) k=valueAt a k:=by simp[valueAt,ZC,c]
   rw[nK e,b];exact ih
def KV.any{kvs:List (κ×V)}{vs:List (κ×Value)}(r:KV kvs vs)(k:κ):(kvs.any fun a=>decide (a.1=k))=vs.any fun a=>decide (a.1=k):=by
 unfold KV at r;induction r with
 |nil=>rfl
 |cons h t ih=>rw[Xb,Xb,ih,h.1]
def KV.repl{kvs:List (κ×V)}{vs:List (κ×Value)}(r:KV kvs vs)(k:κ)(c:RelV y u) :
  KV (kvs.map fun a=>if a.1=k then(a.1,y)else a) (vs.map fun a=>if a.1=k then(a.1,u)else a):=by
 unfold KV at r ⊢;induction r with
 |nil=>exact .nil
 |@cons p q i g h t ih=>
  rw[Yx,Yx];refine .cons ?_ ih;obtain⟨b,f⟩:=h;by_cases e:p.1=k
  ·rw[Yh e,Yh (b.symm.trans e)];exact⟨b,c⟩
  ·rw[Yl e,Yl (fun z=>e (b.trans z))];exact⟨b,f⟩
def KV.put{kvs:List (κ×V)}{vs:List (κ×Value)}(r:KV kvs vs)(k:κ)(a:RelV y u):KV (gX kvs k y) (stored vs k u):=by
 unfold gX stored;rw[r.any k];by_cases e:(vs.any fun b=>decide (b.1=k))=true
 ·rw[Yh e,Yh e];exact r.repl k a
 ·rw[Yl e,Yl e];exact Paired.snoc r ⟨rfl,a⟩
def KV.length{kvs:List (κ×V)}{vs:List (κ×Value)}(r:KV kvs vs):kvs.length=vs.length:=Paired.length r
end
def tX{P:Program}{k:Key}(r:RelV (kV k) u):(bE P w).is k u=true:=by
 cases k with
 |inl i=>obtain⟨t,e⟩:=(show ∃t,u=Value.int i t from r);subst e;exact sT P w i t
 |inr x=>obtain⟨t,e⟩:=(show ∃t,u=Value.str x t from r);subst e;exact sv P w x t
def o6{P:Program} :∀{ks:List Key}{us:List Value},Vals (ks.map kV) us->ItemsAre (bE P w) ks us
 |[],_,r=>by rw[List.map_nil]at r;cases r;exact .nil
 |k::ks,_,r=>by
  rw[Yx]at r;cases r with
  |cons h t=>exact .cons (tX h) (o6 t)
abbrev KT(H:Hp):List (List Key×V)->List (List Key×Addr×Value)->Prop:=Paired fun p q=>p.1=q.1/\H q.2.1=some (.tup (p.1.map kV))/\RelV p.2 q.2.2
def KT.val{kvs:List (List Key×V)}{xs:List (List Key×Addr×Value)}(r:KT H kvs xs)(k:List Key):RelO (eY kvs k) ((atKey xs k).map (·.2)):=by
 induction r with
 |nil=>exact True.intro
 |@cons p q i a h t ih=>
  obtain⟨f,_,g⟩:=h;by_cases e:p.1=k
  ·have c:q.1=k:=f.symm.trans e;have b:atKey (q::a) k=some q.2:=by simp[atKey,ZC,c]
   rw[m9 e,b];exact g
  ·have c:¬q.1=k:=fun z=>e (f.trans z)
   have b:atKey (q::a) k=atKey a k:=by simp[atKey,ZC,c]
   rw[nK e,b];exact ih
def KT.repl{kvs:List (List Key×V)}{xs:List (List Key×Addr×Value)}(r:KT H kvs xs)(k:List Key)(f:RelV y u) :
  KT H (kvs.map fun b=>if b.1=k then(b.1,y)else b) (xs.map (putAt k u)):=by
 induction r with
 |nil=>exact .nil
 |@cons p q j i h t ih=>
  rw[Yx,Yx];refine .cons ?_ ih;obtain⟨a,c,g⟩:=h;unfold putAt;by_cases e:p.1=k
  ·rw[Yh e,Yh (a.symm.trans e)];exact⟨a,c,f⟩
  ·rw[Yl e,Yl (fun z=>e (a.trans z))];exact⟨a,c,g⟩
def KT.put{kvs:List (List Key×V)}{xs:List (List Key×Addr×Value)}(r:KT H kvs xs)(k:List Key){b:Addr}(h:H b=some (.tup (k.map kV)))(a:RelV y u) :
  KT H (gX kvs k y) (storedH xs k b u):=by
 have e:(kvs.any fun c=>decide (c.1=k))=(atKey xs k).isSome:=by rw[sD,(r.val k).isSome_eq,Option.isSome_map]
 unfold gX storedH;rw[e];by_cases q:(atKey xs k).isSome=true
 ·rw[Yh q,Yh q];exact r.repl k a
 ·rw[Yl q,Yl q];exact Paired.snoc r ⟨rfl,h,a⟩
def KT.keeps{kvs:List (List Key×V)}{xs:List (List Key×Addr×Value)}(r:KT H kvs xs)(h:∀b ys,H b=some (.tup ys)->H' b=some (.tup ys)):KT H' kvs xs:=
 Paired.mapP r fun _ _ z=>⟨z.1,h _ _ z.2.1,z.2.2⟩
section
variable{P:Program}    
def CK{u:HO}(ok:HOk P w H h)(e:Rd H a u):ObjOk P w H h a u:=e.ok ok
def sy{kvs:List (Key×V)}(ok:HOk P w H h)(e:Rd H a (.dK kvs)):kvs.length<=sizeLine/\(a == sysModules)=false/\∃vs,KV kvs vs/\h.DictOf (bE P w) a vs:=
 show ObjOk P w H h a (.dK kvs)from CK ok e
def GX{kvs:List (Key×V)}(ok:HOk P w H h)(e:H a=some (.dK kvs)):kvs.length<=sizeLine/\(a == sysModules)=false/\∃vs,KV kvs vs/\h.DictOf (bE P w) a vs:=sy ok (.inl e)
def rh{ks:List Key}(ok:HOk P w H h)(e:H a=some (.tup (ks.map kV))):(tupleKind (bE P w)).is h ks a:=by
 obtain⟨_,i,r,⟨o,f,c,n,b⟩,_⟩:=(show ObjOk P w H h a (.tup (ks.map kV))from ok a _ e)
 exact⟨o,i.toArray,n,f,c,b,by simpa using o6 r⟩
def sW{kvs:List (List Key×V)}(ok:HOk P w H h)(e:Rd H a (.dT kvs)):kvs.length<=sizeLine/\(a == sysModules)=false /\
  ∃xs,KT H kvs xs/\h.DictOfH (tupleKind (bE P w)) a xs:=by
 obtain⟨z,y,xs,r,o,s,u,j,i,g,f,c⟩:=(show ObjOk P w H h a (.dT kvs)from CK ok e)
 refine⟨z,y,xs,r,o,s,u,j,i,g,f,fun x hx=>?_,c⟩;have all:∀{l:List (List Key×V)}{m:List (List Key×Addr×Value)},KT H l m->∀x∈m,(tupleKind (bE P w)).is h x.1 x.2.1:=by
  intro l m q;induction q with
  |nil=>intro x hx;exact nomatch hx
  |@cons p q B A b t ih=>
   intro x hx;rcases YH.mp hx with e|hx
   ·subst e;exact rh ok (by rw[<-b.1];exact b.2.1)
   ·exact ih x hx
 exact all r x hx
def GD{kvs:List (List Key×V)}(ok:HOk P w H h)(e:H a=some (.dT kvs)):kvs.length<=sizeLine/\(a == sysModules)=false /\
  ∃xs,KT H kvs xs/\h.DictOfH (tupleKind (bE P w)) a xs:=sW ok (.inl e)
end
def DGet(H:Hp)(a:Addr)(y:V)(r:Option V):Prop:=
 (∃c k,Rd H a (.dK c)/\y=kV k/\r=eY c k)\/∃c k b,Rd H a (.dT c)/\y=.ref b/\H b=some (.tup (k.map kV))/\r=eY c k
def DPut(H:Hp)(a:Addr)(y v:V)(H':Hp):Prop:=
 (∃c k,H a=some (.dK c)/\y=kV k/\c.length<sizeLine/\H'=upd H a (.dK (gX c k v))) \/
 ∃c k b,H a=some (.dT c)/\y=.ref b/\H b=some (.tup (k.map kV))/\c.length<sizeLine/\H'=upd H a (.dT (gX c k v))
def DGet.k{kvs:List (Key×V)}{k:Key}(e:H a=some (.dK kvs)):DGet H a (kV k) (eY kvs k):=.inl ⟨kvs,k,.inl e,rfl,rfl⟩
def DGet.t{b:Addr}{kvs:List (List Key×V)}{k:List Key}(e:H a=some (.dT kvs))(c:H b=some (.tup (k.map kV))):DGet H a (.ref b) (eY kvs k):=.inr ⟨kvs,k,b,.inl e,rfl,c,rfl⟩
def DPut.t{b:Addr}{kvs:List (List Key×V)}{k:List Key}{v:V}(e:H a=some (.dT kvs))(c:H b=some (.tup (k.map kV)))(h:kvs.length<sizeLine) :
  DPut H a (.ref b) v (upd H a (.dT (gX kvs k v))):=.inr ⟨kvs,k,b,e,rfl,c,h,rfl⟩
section
variable       {v:V}{r:Value}{o:Option V}  
def Inv.big(I:Inv X pz σ H s):sysModules<s.heap.objs.size:=by have h:mainGlobals<s.heap.objs.size:=(I.mod.glob.keeps I.bk).lt;exact ZN (by decide) h
def xx(L:A.units+1<cLine)(I:Inv X pz σ H s)(g:DGet H a y (some v))(C:RelV y u)(h:∀i s',Inv X pz σ H s'->RelV v i->Q i s') :
  wpAny (model X.prog X.w) A (getItem (.ref a) u) Q E s:=by
 rcases g with⟨j,k,e,x,l⟩|⟨j,k,b,e,x,O,l⟩
 ·subst x;obtain⟨z,N,K,f,B⟩:=sy I.hok e;obtain⟨i,m,c⟩:=RelO.some_of (v:=v) (o:=valueAt K k) (by rw[l];exact f.val k);exact wpAny_getItem_of (tX C) B.mapOf m (h i _ (I.tok _) c)
 ·subst x;cases(show u=Value.ref b from C);obtain⟨z,N,J,f,B⟩:=sW I.hok e;obtain⟨i,m,c⟩:=RelO.some_of (v:=v) (o:=(atKey J k).map (·.2)) (by rw[l];exact f.val k);obtain⟨p,M,q⟩:=Option.map_eq_some_iff.mp m;refine wpAny_getItem_heap (tupleKind_room_in1 L) (rh I.hok O) B M ?_;rw[q];exact h i _ (I.tok _) c
def vN{ob:HO}(I:Inv X pz σ H s)(m:Mut (H a))(h:Heap.SameBut a s.heap h')(he:∃q,h'.get? a=some q)(new:ObjOk X.prog X.w (upd H a ob) h' a ob) :
  Inv X pz σ (upd H a ob) {s with heap:=h',toks:=t' }:=
 I.write (x:=a) (e:=a) m (.inl rfl) (fun b q c z=>(h.2 b c).trans z) he new
def Ai{P:Program}{kvs:List (Key×V)}{vs:List (Key×Value)}(z:kvs.length<=sizeLine)(hd:(a == sysModules)=false)(b:KV kvs vs)(dd:h'.DictOf (bE P w) a vs) :
  ObjOk P w H' h' a (.dK kvs):=⟨z,hd,vs,b,dd⟩
def wB{Q:Unit->Shared->Prop}(T:A.units+1<cLine)(I:Inv X pz σ H s)(g:DPut H a y v H')(L:RelV y u)(M:RelV v r)(h:∀s',Inv X pz σ H' s'->Q () s') :
  wpAny (model X.prog X.w) A (setItem (.ref a) u r) Q E s:=by
 rcases g with⟨i,k,e,C,l,J⟩|⟨i,k,b,e,C,P,l,J⟩
 ·subst C J;obtain⟨z,B,S,f,K⟩:=GX I.hok e;have o:S.length<=sizeLine:=by rw[<-f.length];exact z
  have x:(gX i k v).length<=sizeLine:=by have:=iG i k v;omega
  refine wpAny_setItem_pairs (hsz:=o) (tX L) K fun N j p=>h _ ?_;have U:∃q,N.get? a=some q:=let ⟨q,_,_,m,_⟩:=j;⟨q,m⟩
  exact vN I (by rw[e];exact True.intro) p U (Ai x B (f.put k M) j)
 ·subst C J;cases(show u=Value.ref b from L);obtain⟨z,B,R,f,K⟩:=GD I.hok e;have o:R.length<=sizeLine:=by rw[<-Paired.length f];exact z
  have x:(gX i k v).length<=sizeLine:=by have:=iG i k v;omega
  refine wpAny_setItem_heap (hsz:=o) (tupleKind_room_in1 T) (rh I.hok P) K fun N j p=>h _ ?_;obtain⟨q,es,ep,m,h2,h3,Z,_,Y⟩:=j;refine vN I (by rw[e];exact True.intro) p ⟨q,m⟩ ⟨x,B,_,(f.put k P M).keeps fun c ys O=>?_,q,es,ep,m,h2,h3,Z,Y⟩;rw[aU (GS O e (fun z=>nomatch z))];exact O
end
section
variable       {kvs:List (Key×V)}{k:Key}   
end
def BS(i:Expr):Prop:=∀o a,subscripted i false o a=operate [o,a] (getItem o a)
def BL{a:Expr}{T id:String} 
  (p:typeLookup (.type T) "__getitem__"=pure (some (.builtin id))) (m:BS a)
  (h:wpAny (model prog w) A (eval value env) (fun o f=>wpAny (model prog w) A (eval a env) (fun i b=>b.TypeIs o T/\wpAny (model prog w) A (getItem o i) Q E b) E f) E s) :
  wpAny (model prog w) A (eval (.Subscript value a pos) env) Q E s:=by
 refine Subscript_ (Zq h (fun o f j=>Zq j (fun i b c=>?_) fun _ _ x=>x) fun _ _ x=>x);obtain⟨l,c⟩:=c;unfold subscriptTail;refine Yc ?_;rw[getitemInPython_of_ne l.not_modules];refine Yc (wpAny_specialOf l p ?_);have fin:wpAny (model prog w) A (subscripted a false o i) (fun r e=>wpAny (model prog w) A (letTemporaryGo value o r>>=fun _=>pure r) Q E e) E b:=by rw[m o i];exact wpAny_operating (Zq c (fun r e g=>Yc (wpAny_letTemporaryGo (Yw g))) fun _ _ x=>x)
 first
  |exact Yw (Yc fin)
  |exact Yc (Yw (Yc fin))
  |exact Yc fin
def rL{o:Option V}(I:Inv X pz σ H s)(g:DGet H a y o):s.TypeIs (.ref a) "dict":=by
 rcases g with⟨c,k,e,_,_⟩|⟨c,k,b,e,_,_,_⟩
 ·obtain⟨_,_,h,_,f⟩:=sy I.hok e;exact f.typeIs
 ·obtain⟨_,_,x,_,f⟩:=sW I.hok e;exact f.typeIs
def Gh(td ty:TE):TE:=fun b H Q=>td b H fun x e=>ty b e fun y c=>∃a v,x=.ref a/\DGet c a y (some v)/\Q v c
def GE(td ty tv:TE):TS:=fun D b H=>tv b H fun v g=>td b g fun x f=>ty b f fun y e=>∃a c,x=.ref a/\DPut e a y v c/\D.nx b c
section
variable  {i:Expr}  {ty:TE}
def vR(z:X.A.units+1<cLine)(C:PE X o td)(hi:PE X i ty)(B:BS i):PE X (.Subscript o i pos) (Gh td ty):=by intro p s e H Q I h;refine BL PySem.F.slot_dict_getitem.lookup B (bv (C p s e H _ I h) fun u j x M K m w=>bv (hi p j e M _ K w) fun R P y L f l c=>?_);obtain⟨a,v,E,g,q⟩:=c;subst E;obtain rfl:u=Value.ref a:=m;exact⟨rL f g,xx z f g l fun N O J b=>⟨v,L,J,b,q⟩⟩
def B6(B:X.A.units+1<cLine)(E:PE X o td)(hi:PE X i ty)(hv:PE X value tv)(C:swapsWith value (some (.Subscript o i pos')) pos.line X.env=pure false) :
  PS X (.Assign [.Subscript o i pos'] value pos) (GE td ty tv):=by
 intro p s b H D I h;refine wpAny_Assign_Subscript (bv (hv p s b H _ I h) fun r f v Q N m z=>bv (E p f b Q _ N z) fun u e x P M l w=>bv (hi p e b P _ M w) fun T S y U L j c=>?_) C;obtain⟨a,O,J,g,q⟩:=c;subst J;obtain rfl:u=Value.ref a:=l;exact wB B L g j m fun R K=>⟨b,O,K,q⟩
end
def Aj{P:Program}(h:Heap)(a:sysModules<h.objs.size):ObjOk P w H (h.push {cls:=.type "dict",data:=.dict #[]}) h.objs.size (.dK []):=
 ⟨YO _,Zo.mpr (ZJ (Yy a)),[],.nil,Heap.DictOf.new h⟩
def zj{P:Program}(h:Heap)(a:sysModules<h.objs.size):ObjOk P w H (h.push {cls:=.type "dict",data:=.dict #[]}) h.objs.size (.dT []):=
 ⟨YO _,Zo.mpr (ZJ (Yy a)),[],.nil,_,#[],0,Yo _ rfl,⟨rfl,rfl,rfl⟩,rfl,rfl,List.nodup_nil⟩
def DX:TE:=fun _ H Q=>∀p,H p=none->Q (.ref p) (upd H p (.dT []))
def xY:PE X (.Dict [] [] pos) DX:=fun p s b H Q I h=>
 wpAny_Dict_empty ⟨.ref s.heap.objs.size,_,I.laid (a:=s.heap.objs.size) (o:=.dT []) (t':=s.toks) (fun _ _ q=>Ye _ q) (Ym _) (zj s.heap I.big),rfl,h _ (I.hok.fresh (Ym _))⟩
def gw(kvs m:List (Key×V)):List (Key×V):=m.foldl (fun a b=>gX a b.1 b.2) kvs
structure M1 (X:Cx) (o:Expr) (m:Str) (apos:Pos) (e:Expr) (cpos:Pos):Prop where
 base:attributeBase o m X.env (eval o X.env)=eval o X.env
 few:((backTo cpos (starEach [e] X.env)).all (fun x=>!x.1)&&(backToKw cpos (keywordEach [] X.env)).all (fun x=>x.1.isSome)
  && decide (([e]:List Expr).length+([]:List Keyword).length+(if([]:List Keyword).isEmpty then 0 else 1)<30))=true
 line:(apos.endLine == cpos.line)=true
 trees:backTo cpos (starEach [e] X.env)=[(false,eval e X.env)]
structure M2 (X:Cx) (o:Expr) (m:Str) (apos:Pos) (e f:Expr) (cpos:Pos):Prop where
 base:attributeBase o m X.env (eval o X.env)=eval o X.env
 few:((backTo cpos (starEach [e,f] X.env)).all (fun x=>!x.1)&&(backToKw cpos (keywordEach [] X.env)).all (fun x=>x.1.isSome)
  && decide (([e,f]:List Expr).length+([]:List Keyword).length+(if([]:List Keyword).isEmpty then 0 else 1)<30))=true
 line:(apos.endLine == cpos.line)=true
 trees:backTo cpos (starEach [e,f] X.env)=[(false,eval e X.env),(false,eval f X.env)]
def IsD(H:Hp)(a:Addr):Prop:=(∃b,Rd H a (.dK b))\/∃b,Rd H a (.dT b)
def C2(I:Inv X pz σ H s)(d:IsD H a) :
  s.TypeIs (.ref a) "dict"/\(∀b,Value.ref a=.ref b->∃ob,s.heap.get? b=some ob/\ob.dict=none)/\(a == sysModules)=false:=by
 rcases d with⟨f,e⟩|⟨f,e⟩
 ·obtain⟨_,h,j,_,c⟩:=sy I.hok e;refine⟨c.typeIs,fun b q=>?_,h⟩;cases q;obtain⟨ob,_,_,i,g,_⟩:=c;exact⟨ob,i,g.2.1⟩
 ·obtain⟨_,h,x,_,c⟩:=sW I.hok e;refine⟨c.typeIs,fun b q=>?_,h⟩;cases q;obtain⟨ob,_,_,i,g,_⟩:=c;exact⟨ob,i,g.2.1⟩
section
variable       {d:V}{r:Value}{o:Option V}  
def EU(C:A.units+1<cLine)(I:Inv X pz σ H s)(g:DGet H a y o)(q:RelV y u)(x:RelV d r)(h:∀p s',Inv X pz σ H s'->RelV (o.getD d) p->Q p s') :
  wpAny (model X.prog X.w) A (call (.builtin "dict.get") [.ref a,u,r]) Q E s:=by
 rcases g with⟨i,k,e,m,l⟩|⟨i,k,b,e,m,J,l⟩
 ·subst m;obtain⟨z,j,K,c,f⟩:=sy I.hok e;refine call_meetsIn XV f.typeIs PySem.F.entry_dict_get (PySem.F.args_dict_get_3 _ _ _) (meets_dict_get_default (bE X.prog X.w) a (tX q) j r) ⟨_,f.mapOf,h _ _ (I.tok _) ?_⟩;rw[l];exact(c.val k).getD x
 ·subst m;cases(show u=Value.ref b from q);obtain⟨z,j,B,c,f⟩:=sW I.hok e;refine call_meetsIn XV f.typeIs PySem.F.entry_dict_get (PySem.F.args_dict_get_3 _ _ _) (meetsH_dict_get_default (tupleKind (bE X.prog X.w)) a b j r) ⟨tupleKind_room_in1 C,k,B,rh I.hok J,f,h _ _ (I.tok _) ?_⟩;rw[l];exact(c.val k).getD x
end
def Et(td ty tx:TE):TE:=fun b H Q=>td b H fun x e=>∃a,x=.ref a/\IsD e a/\ty b e fun y f=>tx b f fun z c=>∃o,DGet c a y o/\Q (o.getD z) c
section
variable  {f:Expr}  {ty tx:TE}
def yi(M:X.A.units+1<cLine)(N:PE X o td)(he:PE X e ty)(O:PE X f tx)(m:M2 X o "get" apos e f cpos):PE X (.Call (.Attribute o "get" apos) [e,f] [] cpos) (Et td ty tx):=by
 intro p s b H Q I h;refine wpAny_Call_method m.base m.few m.line PySem.F.plainAttrs_dict XV PySem.F.type_dict_get (bv (N p s b H _ I h) fun u w x Z j E i=>?_);obtain⟨a,P,d,L⟩:=i;subst P;obtain rfl:u=Value.ref a:=E;obtain⟨t1,l,_⟩:=C2 j d;refine⟨t1,l,?_⟩;rw[m.trees];refine XJ rfl (Xs (Calls.spliced_cons (bv (he p w b Z _ j L) fun iv q y Y T C K=>
  Calls.spliced_cons (bv (O p q b Y _ T K) fun fv s3 z U S B ⟨ov,g,J⟩=>Calls.spliced_nil ?_))))
 exact EU M S g C B fun w' s4 R c=>⟨_,U,R,c,J⟩
end
section
variable       {kvs:List (Key×V)}  
end
section
variable{κ:Type} [DecidableEq κ]
end
inductive D where
 |non|bl (b:Bool)|int (i:Int)|str (x:Str)
 |tup (xs:List D)|lst (xs:List D)
 |dT (kvs:List (List Key×D))|dK (kvs:List (Key×D))
 |ins (C:Addr) (fs:List (Str×D))
 |fn (a:Addr) (v:V) (d:D)
mutual
inductive Rep (K:PySem.W.Frag) (H:Hp):V->D->Prop
 |non:Rep K H .non .non
 |bl {b:Bool}:Rep K H (.bl b) (.bl b)
 |int {i:Int}:Rep K H (.int i) (.int i)
 |str {x:Str}:Rep K H (.str x) (.str x)
 |tup {a:Addr}{vs:List V}{ds:List D}:H a=some (.tup vs)->Reps K H vs ds->Rep K H (.ref a) (.tup ds)
 |lst {a:Addr}{vs:List V}{ds:List D}:SqL K H a vs->Reps K H vs ds->Rep K H (.ref a) (.lst ds)
 |dT {a:Addr}{vs:List (List Key×V)}{ds:List (List Key×D)}:H a=some (.dT vs)->RepsT K H vs ds->Rep K H (.ref a) (.dT ds)
 |dK {a:Addr}{vs:List (Key×V)}{ds:List (Key×D)}:H a=some (.dK vs)->RepsK K H vs ds->Rep K H (.ref a) (.dK ds)
 |ins {a C dx:Addr}{vs:List (Str×V)}{ds:List (Str×D)}:H a=some (.ins C dx vs)->RepsF K H vs ds->Rep K H (.ref a) (.ins C ds)
 /-- a lambda at a: what it takes from without is v -/
 |fn {a:Addr}{v:V}{d:D}:Rep K H v d->Rep K H (.ref a) (.fn a v d)
inductive Reps (K:PySem.W.Frag) (H:Hp):List V->List D->Prop
 |nil:Reps K H [] []
 |cons {v:V}{d:D}{vs:List V}{ds:List D}:Rep K H v d->Reps K H vs ds->Reps K H (v::vs) (d::ds)
inductive RepsT (K:PySem.W.Frag) (H:Hp):List (List Key×V)->List (List Key×D)->Prop
 |nil:RepsT K H [] []
 |cons {k:List Key}{v:V}{d:D}{vs:List (List Key×V)}{ds:List (List Key×D)}:Rep K H v d->RepsT K H vs ds->RepsT K H ((k,v)::vs) ((k,d)::ds)
inductive RepsK (K:PySem.W.Frag) (H:Hp):List (Key×V)->List (Key×D)->Prop
 |nil:RepsK K H [] []
 |cons {k:Key}{v:V}{d:D}{vs:List (Key×V)}{ds:List (Key×D)}:Rep K H v d->RepsK K H vs ds->RepsK K H ((k,v)::vs) ((k,d)::ds)
inductive RepsF (K:PySem.W.Frag) (H:Hp):List (Str×V)->List (Str×D)->Prop
 |nil:RepsF K H [] []
 |cons {k:Str}{v:V}{d:D}{vs:List (Str×V)}{ds:List (Str×D)}:Rep K H v d->RepsF K H vs ds->RepsF K H ((k,v)::vs) ((k,d)::ds)
end
def Same.seqT(e:Same H H')(h:SqT K H a xs):SqT K H' a xs:=by
 rcases h with (h|⟨o,h⟩)|h
 ·exact .inl (.inl (e _ _ h))
 ·exact .inl (.inr ⟨o,e _ _ h⟩)
 ·exact .inr h
def Rep.same(e:Same H H'){v:V}{d:D}(h:Rep K H v d):Rep K H' v d:=
 Rep.rec (motive_1:=fun v d _=>Rep K H' v d) (motive_2:=fun v d _=>Reps K H' v d) (motive_3:=fun v d _=>RepsT K H' v d) (motive_4:=fun v d _=>RepsK K H' v d) (motive_5:=fun v d _=>RepsF K H' v d) .non .bl .int .str (fun h _ i=>.tup (e _ _ h) i) (fun h _ i=>.lst (e.seq h) i) (fun h _ i=>.dT (e _ _ h) i) (fun h _ i=>.dK (e _ _ h) i) (fun h _ i=>.ins (e _ _ h) i) (fun _ i=>.fn i) .nil (fun _ _ a b=>.cons a b) .nil (fun _ _ a b=>.cons a b) .nil (fun _ _ a b=>.cons a b) .nil (fun _ _ a b=>.cons a b) h
def Reps.same(e:Same H H'){v:List V}{d:List D}(h:Reps K H v d):Reps K H' v d:=
 Reps.rec (motive_1:=fun v d _=>Rep K H' v d) (motive_2:=fun v d _=>Reps K H' v d) (motive_3:=fun v d _=>RepsT K H' v d) (motive_4:=fun v d _=>RepsK K H' v d) (motive_5:=fun v d _=>RepsF K H' v d) .non .bl .int .str (fun h _ i=>.tup (e _ _ h) i) (fun h _ i=>.lst (e.seq h) i) (fun h _ i=>.dT (e _ _ h) i) (fun h _ i=>.dK (e _ _ h) i) (fun h _ i=>.ins (e _ _ h) i) (fun _ i=>.fn i) .nil (fun _ _ a b=>.cons a b) .nil (fun _ _ a b=>.cons a b) .nil (fun _ _ a b=>.cons a b) .nil (fun _ _ a b=>.cons a b) h
def RepsT.same(e:Same H H'){v:List (List Key×V)}{d:List (List Key×D)}(h:RepsT K H v d):RepsT K H' v d:=
 RepsT.rec (motive_1:=fun v d _=>Rep K H' v d) (motive_2:=fun v d _=>Reps K H' v d) (motive_3:=fun v d _=>RepsT K H' v d) (motive_4:=fun v d _=>RepsK K H' v d) (motive_5:=fun v d _=>RepsF K H' v d) .non .bl .int .str (fun h _ i=>.tup (e _ _ h) i) (fun h _ i=>.lst (e.seq h) i) (fun h _ i=>.dT (e _ _ h) i) (fun h _ i=>.dK (e _ _ h) i) (fun h _ i=>.ins (e _ _ h) i) (fun _ i=>.fn i) .nil (fun _ _ a b=>.cons a b) .nil (fun _ _ a b=>.cons a b) .nil (fun _ _ a b=>.cons a b) .nil (fun _ _ a b=>.cons a b) h
def RepsK.same(e:Same H H'){v:List (Key×V)}{d:List (Key×D)}(h:RepsK K H v d):RepsK K H' v d:=
 RepsK.rec (motive_1:=fun v d _=>Rep K H' v d) (motive_2:=fun v d _=>Reps K H' v d) (motive_3:=fun v d _=>RepsT K H' v d) (motive_4:=fun v d _=>RepsK K H' v d) (motive_5:=fun v d _=>RepsF K H' v d) .non .bl .int .str (fun h _ i=>.tup (e _ _ h) i) (fun h _ i=>.lst (e.seq h) i) (fun h _ i=>.dT (e _ _ h) i) (fun h _ i=>.dK (e _ _ h) i) (fun h _ i=>.ins (e _ _ h) i) (fun _ i=>.fn i) .nil (fun _ _ a b=>.cons a b) .nil (fun _ _ a b=>.cons a b) .nil (fun _ _ a b=>.cons a b) .nil (fun _ _ a b=>.cons a b) h
def RepsF.same(e:Same H H'){v:List (Str×V)}{d:List (Str×D)}(h:RepsF K H v d):RepsF K H' v d:=
 RepsF.rec (motive_1:=fun v d _=>Rep K H' v d) (motive_2:=fun v d _=>Reps K H' v d) (motive_3:=fun v d _=>RepsT K H' v d) (motive_4:=fun v d _=>RepsK K H' v d) (motive_5:=fun v d _=>RepsF K H' v d) .non .bl .int .str (fun h _ i=>.tup (e _ _ h) i) (fun h _ i=>.lst (e.seq h) i) (fun h _ i=>.dT (e _ _ h) i) (fun h _ i=>.dK (e _ _ h) i) (fun h _ i=>.ins (e _ _ h) i) (fun _ i=>.fn i) .nil (fun _ _ a b=>.cons a b) .nil (fun _ _ a b=>.cons a b) .nil (fun _ _ a b=>.cons a b) .nil (fun _ _ a b=>.cons a b) h
def Reps.ind{M:List V->List D->Prop}(n:M [] [])(c:∀{v:V}{d:D}{vs:List V}{ds:List D},Rep K H v d->Reps K H vs ds->M vs ds->M (v::vs) (d::ds)){ds:List D}(h:Reps K H vs ds):M vs ds:=
 Reps.rec (motive_1:=fun _ _ _=>True) (motive_2:=fun vs ds _=>M vs ds) (motive_3:=fun _ _ _=>True) (motive_4:=fun _ _ _=>True) (motive_5:=fun _ _ _=>True) trivial trivial trivial trivial (fun _ _ _=>trivial) (fun _ _ _=>trivial) (fun _ _ _=>trivial) (fun _ _ _=>trivial) (fun _ _ _=>trivial) (fun _ _=>trivial) n (fun h q _ ih=>c h q ih) trivial (fun _ _ _ _=>trivial) trivial (fun _ _ _ _=>trivial) trivial (fun _ _ _ _=>trivial) h
def RepsT.ind{M:List (List Key×V)->List (List Key×D)->Prop}(n:M [] [])(c:∀{k:List Key}{v:V}{d:D}{vs:List (List Key×V)}{ds:List (List Key×D)},Rep K H v d->RepsT K H vs ds->M vs ds->M ((k,v)::vs) ((k,d)::ds)){vs:List (List Key×V)}{ds:List (List Key×D)}(h:RepsT K H vs ds):M vs ds:=
 RepsT.rec (motive_1:=fun _ _ _=>True) (motive_2:=fun _ _ _=>True) (motive_3:=fun vs ds _=>M vs ds) (motive_4:=fun _ _ _=>True) (motive_5:=fun _ _ _=>True) trivial trivial trivial trivial (fun _ _ _=>trivial) (fun _ _ _=>trivial) (fun _ _ _=>trivial) (fun _ _ _=>trivial) (fun _ _ _=>trivial) (fun _ _=>trivial) trivial (fun _ _ _ _=>trivial) n (fun h q _ ih=>c h q ih) trivial (fun _ _ _ _=>trivial) trivial (fun _ _ _ _=>trivial) h
def RepsK.ind{M:List (Key×V)->List (Key×D)->Prop}(n:M [] [])(c:∀{k:Key}{v:V}{d:D}{vs:List (Key×V)}{ds:List (Key×D)},Rep K H v d->RepsK K H vs ds->M vs ds->M ((k,v)::vs) ((k,d)::ds)){vs:List (Key×V)}{ds:List (Key×D)}(h:RepsK K H vs ds):M vs ds:=
 RepsK.rec (motive_1:=fun _ _ _=>True) (motive_2:=fun _ _ _=>True) (motive_3:=fun _ _ _=>True) (motive_4:=fun vs ds _=>M vs ds) (motive_5:=fun _ _ _=>True) trivial trivial trivial trivial (fun _ _ _=>trivial) (fun _ _ _=>trivial) (fun _ _ _=>trivial) (fun _ _ _=>trivial) (fun _ _ _=>trivial) (fun _ _=>trivial) trivial (fun _ _ _ _=>trivial) trivial (fun _ _ _ _=>trivial) n (fun h q _ ih=>c h q ih) trivial (fun _ _ _ _=>trivial) h
def RepsF.ind{M:List (Str×V)->List (Str×D)->Prop}(n:M [] [])(c:∀{k:Str}{v:V}{d:D}{vs:List (Str×V)}{ds:List (Str×D)},Rep K H v d->RepsF K H vs ds->M vs ds->M ((k,v)::vs) ((k,d)::ds)){vs:List (Str×V)}{ds:List (Str×D)}(h:RepsF K H vs ds):M vs ds:=
 RepsF.rec (motive_1:=fun _ _ _=>True) (motive_2:=fun _ _ _=>True) (motive_3:=fun _ _ _=>True) (motive_4:=fun _ _ _=>True) (motive_5:=fun vs ds _=>M vs ds) trivial trivial trivial trivial (fun _ _ _=>trivial) (fun _ _ _=>trivial) (fun _ _ _=>trivial) (fun _ _ _=>trivial) (fun _ _ _=>trivial) (fun _ _=>trivial) trivial (fun _ _ _ _=>trivial) trivial (fun _ _ _ _=>trivial) trivial (fun _ _ _ _=>trivial) n (fun h q _ ih=>c h q ih) h
def Reps.length{ds:List D}(h:Reps K H vs ds):vs.length=ds.length:=Reps.ind (M:=fun vs ds=>vs.length=ds.length) rfl (fun _ _ ih=>Zn Nat.succ ih) h
def Reps.get{ds:List D}{d:D}(h:Reps K H vs ds):ds[i]?=some d->∃v,vs[i]?=some v/\Rep K H v d:=
 Reps.ind (M:=fun vs ds=>∀i:Nat,ds[i]?=some d->∃v,vs[i]?=some v/\Rep K H v d) (fun _ e=>nomatch e) (fun r _ ih i e=>by
  cases i with
  |zero=>obtain rfl:=YG e;exact⟨_,rfl,r⟩
  |succ i=>exact ih i e) h i
def Reps.getV{ds:List D}{v:V}(h:Reps K H vs ds):vs[i]?=some v->∃d,ds[i]?=some d/\Rep K H v d:=
 Reps.ind (M:=fun vs ds=>∀i:Nat,vs[i]?=some v->∃d,ds[i]?=some d/\Rep K H v d) (fun _ e=>nomatch e) (fun r _ ih i e=>by
  cases i with
  |zero=>obtain rfl:=YG e;exact⟨_,rfl,r⟩
  |succ i=>exact ih i e) h i
def Reps.append{w:List V}{ds es:List D}(h:Reps K H vs ds)(s:Reps K H w es):Reps K H (vs++w) (ds++es):=Reps.ind (M:=fun vs ds=>Reps K H (vs++w) (ds++es)) s (fun r _ ih=>.cons r ih) h
def Reps.take{ds:List D}(n:Nat)(h:Reps K H vs ds):Reps K H (vs.take n) (ds.take n):=Reps.ind (M:=fun vs ds=>∀n,Reps K H (vs.take n) (ds.take n)) (fun n=>by cases n<;>exact .nil) (fun r _ ih n=>by
  cases n with
  |zero=>exact .nil
  |succ n=>exact .cons r (ih n)) h n
def Reps.drop{ds:List D}(n:Nat)(h:Reps K H vs ds):Reps K H (vs.drop n) (ds.drop n):=Reps.ind (M:=fun vs ds=>∀n,Reps K H (vs.drop n) (ds.drop n)) (fun n=>by cases n<;>exact .nil) (fun r q ih n=>by
  cases n with
  |zero=>exact .cons r q
  |succ n=>exact ih n) h n
def Reps.set{v:V}{d:D}(r:Rep K H v d){ds:List D}(i:Nat)(h:Reps K H vs ds):Reps K H (vs.set i v) (ds.set i d):=Reps.ind (M:=fun vs ds=>∀i,Reps K H (vs.set i v) (ds.set i d)) (fun _=>.nil) (fun q t ih i=>by
  cases i with
  |zero=>exact .cons r t
  |succ i=>exact .cons q (ih i)) h i
def Reps.eraseIdx{ds:List D}(i:Nat)(h:Reps K H vs ds):Reps K H (vs.eraseIdx i) (ds.eraseIdx i):=Reps.ind (M:=fun vs ds=>∀i,Reps K H (vs.eraseIdx i) (ds.eraseIdx i)) (fun _=>.nil) (fun q t ih i=>by
  cases i with
  |zero=>exact t
  |succ i=>exact .cons q (ih i)) h i
def Reps.one{v:V}{d:D}(r:Rep K H v d):Reps K H [v] [d]:=.cons r .nil
inductive OD where
 |lst (ds:List D)|lst2 (dss:List (List D))|tup2 (dss:List (List D))|dT (kvs:List (List Key×D))|dK (kvs:List (Key×D))|ins (C:Addr) (fs:List (Str×D))
def OD.d:OD->D
 |.lst ds=>.lst ds
 |.lst2 dss=>.lst (dss.map .lst)
 |.tup2 dss=>.tup (dss.map .lst)
 |.dT kvs=>.dT kvs
 |.dK kvs=>.dK kvs
 |.ins C fs=>.ins C fs
def OD.flat:OD->Bool
 |.lst2 _=>false
 |.tup2 _=>false
 |_=>true
inductive All2 {α β:Type} (R:α->β->Prop):List α->List β->Prop
 |nil:All2 R [] []
 |cons {a:α}{b:β}{as:List α}{bs:List β}:R a b->All2 R as bs->All2 R (a::as) (b::bs)
def All2.imp{e c:Type}{R S:e->c->Prop}(f:∀a b,R a b->S a b){as:List e}{bs:List c}(h:All2 R as bs):All2 S as bs:=by
 induction h with
 |nil=>exact .nil
 |cons h _ ih=>exact .cons (f _ _ h) ih
def ORep1(K:Kq)(F:Hp):OD->HO->Prop
 |.lst ds,.lst vs=>Reps K F vs ds
 |.dT ds,.dT vs=>RepsT K F vs ds
 |.dK ds,.dK vs=>RepsK K F vs ds
 |.ins C fs,.ins C' _ vs=>C=C'/\RepsF K F vs fs
 |_,_=>False
def ORep(K:Kq)(F H:Hp)(ow:Addr->Prop):OD->Addr->Prop
 |.lst2 dss,a=>ow a/\∃bs,H a=some (.lst (bs.map .ref))/\(a::bs).Nodup/\All2 (fun b c=>ow b/\∃u,H b=some u/\ORep1 K F (.lst c) u) bs dss
 |.tup2 dss,a=>ow a/\∃bs,H a=some (.tup (bs.map .ref))/\(a::bs).Nodup/\All2 (fun b c=>ow b/\∃u,H b=some u/\ORep1 K F (.lst c) u) bs dss
 |o,a=>ow a/\∃u,H a=some u/\ORep1 K F o u
def ORep1.same{F:Hp}(e:Same F F'){o:OD}{u:HO}(h:ORep1 K F o u):ORep1 K F' o u:=by cases o<;>cases u<;>first|exact h.elim|exact Reps.same e h|exact RepsT.same e h|exact RepsK.same e h|exact⟨h.1,RepsF.same e h.2⟩
def ORep.flat{F:Hp}{o:OD}(f:o.flat=true):ORep K F H ow o a↔ow a/\∃u,H a=some u/\ORep1 K F o u:=by cases o<;>first|exact Iff.rfl|cases f
def ORep.mono{F:Hp}{c:Addr->Prop}{o:OD}(e:Same F F')(k:∀b u,ow b->H b=some u->H' b=some u/\c b)(h:ORep K F H ow o a):ORep K F' H' c o a:=by
 by_cases f:o.flat=true
 ·obtain⟨m,u,l,j⟩:=(ORep.flat f).mp h;obtain⟨i,g⟩:=k a u m l;exact(ORep.flat f).mpr ⟨g,u,i,j.same e⟩
 ·cases o with
  |lst2 dss=>
   obtain⟨m,bs,l,j,w⟩:=h;obtain⟨i,g⟩:=k a _ m l;exact⟨g,bs,i,j,w.imp fun b z ⟨s,u,p,q⟩=>by obtain⟨y,x⟩:=k b u s p;exact⟨x,u,y,q.same e⟩⟩
  |tup2 dss=>
   obtain⟨m,bs,l,j,w⟩:=h;obtain⟨i,g⟩:=k a _ m l;exact⟨g,bs,i,j,w.imp fun b z ⟨s,u,p,q⟩=>by obtain⟨y,x⟩:=k b u s p;exact⟨x,u,y,q.same e⟩⟩
  |_=>exact absurd rfl f
def ORep1.rep{F:Hp}{o:OD}{u:HO}(f:o.flat=true)(h:ORep1 K F o u)(b:H a=some u)(e:Same F H):Rep K H (.ref a) o.d:=by
 cases o with
 |lst ds=>cases u with|lst vs=>exact .lst (SqL.of b) (Reps.same e h)|_=>exact h.elim
 |dT ds=>cases u with|dT vs=>exact .dT b (RepsT.same e h)|_=>exact h.elim
 |dK ds=>cases u with|dK vs=>exact .dK b (RepsK.same e h)|_=>exact h.elim
 |ins C fs=>cases u with|ins C' dx vs=>(obtain⟨rfl,h⟩:=h;exact .ins b (RepsF.same e h))|_=>exact h.elim
 |lst2 _=>cases f
 |tup2 _=>cases f
def ORep.rep{F G:Hp}{o:OD}(h:ORep K F H ow o a)(e:Same F G)(k:∀b u,ow b->H b=some u->G b=some u):Rep K G (.ref a) o.d:=by
 by_cases f:o.flat=true
 ·obtain⟨g,u,c,i⟩:=(ORep.flat f).mp h;exact i.rep f (k a u g c) e
 ·cases o with
  |lst2 dss=>
   obtain⟨g,bs,c,i,p⟩:=h;refine .lst (SqL.of (k a _ g c)) ?_;clear c g i f;induction p with
   |nil=>exact .nil
   |cons q r ih=>
    obtain⟨m,u,l,j⟩:=q;exact .cons (j.rep (o:=.lst _) rfl (k _ u m l) e) ih
  |tup2 dss=>
   obtain⟨g,bs,c,i,p⟩:=h;refine .tup (k a _ g c) ?_;clear c g i f;induction p with
   |nil=>exact .nil
   |cons q r ih=>
    obtain⟨m,u,l,j⟩:=q;exact .cons (j.rep (o:=.lst _) rfl (k _ u m l) e) ih
  |_=>exact absurd rfl f
inductive DV where
 |v (d:D)|own (o:OD) (t:Option Addr)|bor (o:OD)
abbrev DF:=List (Option DV)
abbrev cI(n:Int):DF->Option D:=fun _=>some (.int n)
@[simp] theorem IZ(n:Int)(ρ:DF):cI n ρ=some (.int n):=rfl
abbrev nA:DF->Option (List DV):=fun _=>some []
@[simp] theorem IX(ρ:DF):nA ρ=some []:=rfl
def DVRep(K:Kq)(P F H:Hp)(ow:Addr->Prop):DV->V->Prop
 |.v d,x=>Rep K F x d
 |.own o t,x=>∃a,x=.ref a/\ORep K F H (fun b=>F b=none/\P b=none/\ow b) o a/\∀b,t=some b->b=a
 |.bor o,x=>∃a,x=.ref a/\ORep K F P (fun _=>True) o a
def ub:Addr->Prop:=fun _=>True
structure DHp (P F H:Hp):Prop where
 sub:Same F H
 pro:Same P H
 dis:∀a o,P a=some o->F a=none
structure DInv (K:PySem.W.Frag) (P F H:Hp) (ρ:DF) (σ:St):Prop extends DHp P F H where
 len:ρ.length=σ.length
 rep:∃O:Addr->Option Nat,∀(i:Nat) (x:DV),ρ[i]?=some (some x)->∃v,σ[i]?=some (some v)/\DVRep K P F H (fun b=>O b=some i) x v
structure Evo (P F H F' H':Hp):Prop where
 ext:Same F F'
 hp:DHp P F' H'
 keep:∀a o,H a=some o->F a=none->H' a=some o/\F' a=none
def Evo.same{F:Hp}(h:DHp P F H)(e:Evo P F H F' H'):Same H H':=fun a o q=>by
 cases c:F a with
 |none=>exact(e.keep a o q c).1
 |some u=>
  have:=h.sub a u c;rw[q]at this;cases this;exact e.hp.sub a o (e.ext a o c)
def DVRep.evo{F:Hp}(e:Evo P F H F' H'){x:DV}{v:V}(r:DVRep K P F H ow x v):DVRep K P F' H' ow x v:=by
 cases x with
 |v d=>exact Rep.same e.ext r
 |own o t=>
  obtain⟨a,rfl,h,m⟩:=r;exact⟨a,rfl,h.mono e.ext fun b u ⟨i,g,f⟩ c=>by(obtain⟨l,j⟩:=e.keep b u c i;exact⟨l,j,g,f⟩),m⟩
 |bor o=>
  obtain⟨a,rfl,h⟩:=r;exact⟨a,rfl,h.mono e.ext fun b u q c=>⟨c,q⟩⟩
def DVRep.imp{F:Hp}{c:Addr->Prop}(f:∀b u,F b=none->P b=none->H b=some u->ow b->c b){x:DV}{v:V}(r:DVRep K P F H ow x v):DVRep K P F H c x v:=by
 cases x with
 |v d=>exact r
 |own o t=>
  obtain⟨a,rfl,h,j⟩:=r;exact⟨a,rfl,h.mono (Same.refl _) fun b u ⟨e,q,i⟩ g=>⟨g,e,q,f b u e q g i⟩,j⟩
 |bor o=>exact r
def DInv.evo{F:Hp}{ρ:DF}(I:DInv K P F H ρ σ)(e:Evo P F H F' H'):DInv K P F' H' ρ σ:=
 ⟨e.hp,I.len,by obtain⟨O,h⟩:=I.rep;exact⟨O,fun i x a=>by obtain⟨v,c,b⟩:=h i x a;exact⟨v,c,b.evo e⟩⟩⟩
def DInv.at{F:Hp}{ρ:DF}(I:DInv K P F H ρ σ){x:DV}(h:ρ[i]?=some (some x)):∃v,σ[i]?=some (some v)/\DVRep K P F H ub x v:=by obtain⟨O,k⟩:=I.rep;obtain⟨v,b,a⟩:=k i x h;exact⟨v,b,a.imp fun _ _ _ _ _ _=>trivial⟩
def Evo.refl{F:Hp}(h:DHp P F H):Evo P F H F H:=⟨Same.refl _,h,fun _ _ a b=>⟨a,b⟩⟩
def Evo.trans{F F1 H1 F2 H2:Hp}(a:Evo P F H F1 H1)(b:Evo P F1 H1 F2 H2):Evo P F H F2 H2:=
 ⟨a.ext.trans b.ext,b.hp,fun c o h n=>by obtain⟨e,n1⟩:=a.keep c o h n;exact b.keep c o e n1⟩
def Evo.laid{F:Hp}(h:DHp P F H){o:HO}(c:H a=none):Evo P F H (upd F a o) (upd H a o) where
 ext:=fun b u e=>by rw[aU (fun z=>by subst z;rw[h.sub _ _ e]at c;cases c)];exact e
 hp:=⟨fun b u e=>by
   by_cases f:b=a
   ·subst f;rw[a8]at e ⊢;exact e
   ·rw[aU f]at e ⊢;exact h.sub b u e,
  fun b u e=>by rw[aU (fun z=>by subst z;rw[h.pro _ _ e]at c;cases c)];exact h.pro b u e,
  fun b u e=>by rw[aU (fun z=>by subst z;rw[h.pro _ _ e]at c;cases c)];exact h.dis b u e⟩
 keep:=fun b u e n=>by
  have f:b≠a:=fun z=>by subst z;rw[e]at c;cases c
  rw[aU f,aU f];exact⟨e,n⟩
def Evo.side{F:Hp}(h:DHp P F H){o:HO}(c:H a=none):Evo P F H F (upd H a o) where
 ext:=Same.refl _
 hp:=⟨fun b u e=>by rw[aU (fun z=>by subst z;rw[h.sub _ _ e]at c;cases c)];exact h.sub b u e,
  fun b u e=>by rw[aU (fun z=>by subst z;rw[h.pro _ _ e]at c;cases c)];exact h.pro b u e,h.dis⟩
 keep:=fun b u e n=>by
  have f:b≠a:=fun z=>by subst z;rw[e]at c;cases c
  rw[aU f];exact⟨e,n⟩
def DHp.free{F:Hp}(h:DHp P F H)(b:H a=none):F a=none/\P a=none:=⟨h.sub.free b,h.pro.free b⟩
def RepS(K:Kq)(H F:Hp)(v:V)(d:D):Prop:=
 Rep K F v d\/∃(a:Addr) (o:OD) (u:HO),v=.ref a/\F a=none/\H a=some u/\ORep1 K F o u/\o.flat=true/\d=o.d
def RepS.evo{F:Hp}{v:V}{d:D}(r:RepS K H F v d)(e:Evo P F H F' H'):RepS K H' F' v d:=
 r.imp (Rep.same e.ext) fun⟨a,o,u,g,b,h,f,c⟩=>⟨a,o,u,g,(e.keep a u h b).2,(e.keep a u h b).1,f.same e.ext,c⟩
def DInv.slot{F:Hp}{ρ:DF}(I:DInv K P F H ρ σ){o:OD}{v:V}(hv:σ[i]?=some (some v))(h:(∃t,ρ[i]?=some (some (.own o t)))\/ρ[i]?=some (some (.bor o))):∃a,v=.ref a/\ORep K F H (fun b=>F b=none) o a:=by
 rcases h with⟨t,h⟩|h
 ·obtain⟨g,c,a,rfl,f,_⟩:=I.at h;rw[hv]at c;cases c;exact⟨a,rfl,f.mono (Same.refl _) fun b u q e=>⟨e,q.1⟩⟩
 ·obtain⟨g,c,a,rfl,f⟩:=I.at h;rw[hv]at c;cases c;exact⟨a,rfl,f.mono (Same.refl _) fun b u q e=>⟨I.pro b u e,I.dis b u e⟩⟩
def RepS.now{F:Hp}{v:V}{d:D}(I:Same F H)(r:RepS K H F v d):Rep K H v d:=by
 rcases r with r|⟨a,o,u,rfl,_,h3,h4,hfl,rfl⟩
 ·exact r.same I
 ·exact h4.rep hfl h3 I
def RepS.slot{F:Hp}{ρ:DF}(I:DInv K P F H ρ σ){o:OD}{v:V}(hv:σ[i]?=some (some v))(h:(∃t,ρ[i]?=some (some (.own o t)))\/ρ[i]?=some (some (.bor o)))(b:o.flat=true):RepS K H F v o.d:=by obtain⟨a,rfl,g⟩:=I.slot hv h;obtain⟨f,u,e,c⟩:=(ORep.flat b).mp g;exact .inr ⟨a,o,u,rfl,f,e,c,b,rfl⟩
def tD(K:Kq)(f:DF->Option D):TE:=fun e H Q=>∃P F a d,f a=some d/\DInv K P F H a e/\∀v c b,Evo P F H c b->Rep K c v d->Q v b
def tR(K:Kq)(f:DF->Option D):TE:=fun e H Q=>∃P F b d,f b=some d/\DInv K P F H b e/\∀v c a,Evo P F H c a->RepS K a c v d->Q v a
def tN(K:Kq)(f:DF->Option D):TE:=fun c H Q=>∃P F b d,f b=some d/\DInv K P F H b c/\∀v e a,Evo P F H e a->Rep K a v d->Q v a
def tB'(K:Kq)(f:DF->Option Bool):TT:=fun e H Q=>∃P F a b,f a=some b/\DInv K P F H a e/\∀g c,Evo P F H g c->Q b c
def tL(K:Kq)(f:DF->Option (List D)):TA:=fun h H Q=>∃P F a c,f a=some c/\DInv K P F H a h/\∀b g e,Evo P F H g e->Reps K g b c->Q b e
def PDE(X:Cx)(e:Expr)(f:DF->Option D):Prop:=PE X e (tD X.K f)
def PDR(X:Cx)(e:Expr)(f:DF->Option D):Prop:=PE X e (tR X.K f)
def PDN(X:Cx)(e:Expr)(f:DF->Option D):Prop:=PE X e (tN X.K f)
def PDT(X:Cx)(e:Expr)(f:DF->Option Bool):Prop:=PT X e (tB' X.K f)
def PDA(X:Cx)(es:List Expr)(f:DF->Option (List D)):Prop:=PA X es (tL X.K f)
section
variable  {a:Expr}  
def PE.imp{t t':TE}(h:PE X e t)(i:∀σ H Q,t' σ H Q->t σ H Q):PE X e t':=fun p s σ H Q I q=>h p s σ H Q I (i σ H Q q)
def PT.imp{t t':TT}(h:PT X e t)(i:∀σ H Q,t' σ H Q->t σ H Q):PT X e t':=fun p s σ H Q I q=>h p s σ H Q I (i σ H Q q)
def PA.imp{t t':TA}(h:PA X es t)(i:∀σ H Q,t' σ H Q->t σ H Q):PA X es t':=fun p a s σ H Q I q=>h p a s σ H Q I (i σ H Q q)
def getV(i:Nat)(ρ:DF):Option D:=match ρ[i]? with
 |some (some (.v d))=>some d
 |_=>none
def aa(i:Nat)(ρ:DF):Option D:=match ρ[i]? with
 |some (some (.v d))=>some d
 |some (some (.own o _))=>if o.flat=true then some o.d else none
 |some (some (.bor o))=>if o.flat=true then some o.d else none
 |_=>none
def ak(i:Nat)(ρ:DF):Option D:=match ρ[i]? with
 |some (some (.v d))=>some d
 |some (some (.own o _))=>some o.d
 |some (some (.bor o))=>some o.d
 |_=>none
def Cc{ρ:DF}{d:D}(h:getV i ρ=some d):ρ[i]?=some (some (.v d)):=by
 unfold getV at h;split at h
 ·rename_i q;cases h;exact q
 ·cases h
def C7(i:Nat)(h:PE X e (eI i)):PDE X e (getV i):=h.imp fun f H Q=>un7 fun P F g d a I k=>by
 obtain⟨v,c,b⟩:=I.at (Cc a)
 exact⟨v,c,k v F H (Evo.refl I.toDHp) b⟩
def EK(i:Nat)(h:PE X e (eI i)):PDR X e (aa i):=h.imp fun g H Q=>un7 fun P F j d a I k=>by
 unfold aa at a;split at a
 ·rename_i l q;cases a;obtain⟨v,c,f⟩:=I.at q;exact⟨v,c,k v F H (Evo.refl I.toDHp) (.inl f)⟩
 ·rename_i o t q;split at a
  ·rename_i b;cases a;obtain⟨v,c,f⟩:=I.at q;exact⟨v,c,k v F H (Evo.refl I.toDHp) (RepS.slot I c (.inl ⟨t,q⟩) b)⟩
  ·cases a
 ·rename_i o q;split at a
  ·rename_i b;cases a;obtain⟨v,c,f⟩:=I.at q;exact⟨v,c,k v F H (Evo.refl I.toDHp) (RepS.slot I c (.inr q) b)⟩
  ·cases a
 ·cases a
def D_(i:Nat)(h:PE X e (eI i)):PDN X e (ak i):=h.imp fun g H Q=>un7 fun P F j d c I k=>by
 unfold ak at c;split at c
 ·rename_i l q;cases c;obtain⟨v,b,f⟩:=I.at q;exact⟨v,b,k v F H (Evo.refl I.toDHp) (Rep.same I.sub f)⟩
 ·rename_i o t q;cases c;obtain⟨v,b,_⟩:=I.at q;obtain⟨a,rfl,f⟩:=I.slot b (.inl ⟨t,q⟩);exact⟨_,b,k _ F H (Evo.refl I.toDHp) (f.rep I.sub fun _ _ _ q=>q)⟩
 ·rename_i o q;cases c;obtain⟨v,b,_⟩:=I.at q;obtain⟨a,rfl,f⟩:=I.slot b (.inr q);exact⟨_,b,k _ F H (Evo.refl I.toDHp) (f.rep I.sub fun _ _ _ q=>q)⟩
 ·cases c
def PDE.r{f:DF->Option D}(h:PDE X e f):PDR X e f:=PE.imp h fun j H Q=>un7 fun P F a d b I k=>⟨P,F,a,d,b,I,fun v i g c r=>k v i g c (.inl r)⟩
def PDR.n{f:DF->Option D}(h:PDR X e f):PDN X e f:=PE.imp h fun j H Q=>un7 fun P F b d c I k=>⟨P,F,b,d,c,I,fun v i g a r=>k v i g a (r.now a.hp.sub)⟩
def PDE.n{f:DF->Option D}(h:PDE X e f):PDN X e f:=h.r.n
def rS{d:D}{v:V}(h:PE X e (tC v))(r:∀F,Rep X.K F v d):PDE X e (fun _=>some d):=h.imp fun b H Q=>un7 fun P F c f a I k=>by
 cases a;exact k v F H (Evo.refl I.toDHp) (r F)
def ac{i j p}:PDE X (.Constant (.int i) j p) (fun _=>some (.int i)):=rS u9 fun _=>.int
def dS{i j p}:PDE X (.Constant (.bool i) j p) (fun _=>some (.bl i)):=rS F0 fun _=>.bl
def fH{i j p}:PDE X (.Constant (.str i) j p) (fun _=>some (.str i)):=rS jc fun _=>.str
def yf{j p}:PDE X (.Constant .none j p) (fun _=>some .non):=rS EO fun _=>.non
def OpN2(K:Kq)(r:R2)(f:D->D->Option D):Prop:=
 ∀(P F H:Hp) (x y:V) (b a d:D) (Q:VK),f b a=some d->DHp P F H->Rep K H x b->Rep K H y a->(∀v e c,Evo P F H e c->Rep K e v d->Q v c)->r x y H Q
def d2(f:D->D->Option D)(fa fb:DF->Option D):DF->Option D:=fun a=>(fa a).bind fun x=>(fb a).bind fun y=>f x y
def u5{r:R2}{f:D->D->Option D}{fa fb:DF->Option D}(p:OpN2 K r f):∀σ H Q,tD K (d2 f fa fb) σ H Q->tOp r (tN K fa) (tN K fb) σ H Q:=fun σ H Q=>un7 fun P F a d h I k=>by
 unfold d2 at h;cases c:fa a with
 |none=>rw[c]at h;cases h
 |some j=>
  rw[c]at h;cases b:fb a with
  |none=>rw[Ya,b]at h;cases h
  |some i=>
   rw[Ya,b,Ya]at h;refine⟨P,F,a,j,c,I,fun x A B g m=>⟨P,A,a,i,b,I.evo g,fun y z u e l=>?_⟩⟩;exact p P z u x y j i d Q h e.hp (m.same (e.same g.hp)) l fun v w s q o=>k v w s ((g.trans e).trans q) o
def ut{op:CmpOp}{r:R2}{f:D->D->Option D}{fa fb:DF->Option D}(h:OpR X (compareOp op) r)(e:OpN2 X.K r f)(i:PDN X a fa)(g:PDN X b fb)(c:behindInMarks op b=false):PDE X (.Compare a [op] [b] pos) (d2 f fa fb):=
 (qC h i g c).imp (u5 e)
def tu(K:Kq)(r:R2)(f:D->D->Option D):Prop:=
 ∀(P F H:Hp) (h:DF) (g:St) (x y:V) (b a d:D) (Q:VK),f b a=some d->DInv K P F H h g->RepS K H F x b->RepS K H F y a->(∀v e c,Evo P F H e c->Rep K e v d->Q v c)->r x y H Q
def rA{r:R2}{f:D->D->Option D}{fa fb:DF->Option D}(p:tu K r f):∀σ H Q,tD K (d2 f fa fb) σ H Q->tOp r (tR K fa) (tR K fb) σ H Q:=fun σ H Q=>un7 fun P F a d h I k=>by
 unfold d2 at h;cases c:fa a with
 |none=>rw[c]at h;cases h
 |some j=>
  rw[c]at h;cases b:fb a with
  |none=>rw[Ya,b]at h;cases h
  |some i=>
   rw[Ya,b,Ya]at h;refine⟨P,F,a,j,c,I,fun x A B g m=>⟨P,A,a,i,b,I.evo g,fun y z u e l=>?_⟩⟩;exact p P z u a σ x y j i d Q h ((I.evo g).evo e) (m.evo e) l fun v w s q o=>k v w s ((g.trans e).trans q) o
def lg{op:Operator}{r:R2}{f:D->D->Option D}{fa fb:DF->Option D}(h:OpR X (binaryOp op) r)(c:tu X.K r f)(g:PDR X a fa)(e:PDR X b fb):PDE X (.BinOp a op b pos) (d2 f fa fb):=
 (CV h g e).imp (rA c)
def C6{op:CmpOp}{r:R2}{f:D->D->Option D}{fa fb:DF->Option D}(h:OpR X (compareOp op) r)(e:tu X.K r f)(i:PDR X a fa)(g:PDR X b fb)(c:behindInMarks op b=false):PDE X (.Compare a [op] [b] pos) (d2 f fa fb):=
 (qC h i g c).imp (rA e)
def asB(f:DF->Option D):DF->Option Bool:=fun a=>match f a with
 |some (.bl b)=>some b
 |_=>none
def DK{f:DF->Option D}{ρ:DF}{b:Bool}(h:asB f ρ=some b):f ρ=some (.bl b):=by
 unfold asB at h;split at h
 ·rename_i q;cases h;exact q
 ·cases h
def g7{t:TE}{f:DF->Option D}(h:∀σ H Q,tD K f σ H Q->t σ H Q):∀σ H Q,tB' K (asB f) σ H Q->xZ t σ H Q:=fun σ H Q=>un7 fun P F a b c I k=>by
 refine h σ H _ ⟨P,F,a,.bl b,DK c,I,fun v i g e r=>?_⟩;cases r;exact⟨b,rfl,k i g e⟩
def A5{op:CmpOp}{r:R2}{f:D->D->Option D}{fa fb:DF->Option D}(h:OpR X (compareOp op) r)(e:tu X.K r f)(i:PDR X a fa)(g:PDR X b fb)(c:behindInMarks op b=false):PDT X (.Compare a [op] [b] pos) (asB (d2 f fa fb)):=
 (vX h i g c).imp (g7 (rA e))
def kf{op:CmpOp}{r:R2}{f:D->D->Option D}{fa fb:DF->Option D}(h:OpR X (compareOp op) r)(e:OpN2 X.K r f)(i:PDN X a fa)(g:PDN X b fb)(c:behindInMarks op b=false):PDT X (.Compare a [op] [b] pos) (asB (d2 f fa fb)):=
 (vX h i g c).imp (g7 (u5 e))
def bH{f:DF->Option D}(h:PDE X e f)(he:∀w,isTrue e X.env w=(do let v <-w;standAt e.pos;holding [v] (truthy v)):=by intro _;rfl):PDT X e (asB f):=
 (EZ h he).imp (g7 (t:=tD X.K f) fun _ _ _ q=>q)
def dt{F:Hp}{x:V}{i:Int}(r:RepS K H F x (.int i)):x=.int i:=by
 rcases r with r|⟨_,o,_,_,_,_,_,_,z⟩
 ·cases r;rfl
 ·cases o<;>cases z
def mE{F:Hp}{x:V}{i:Str}(r:RepS K H F x (.str i)):x=.str i:=by
 rcases r with r|⟨_,o,_,_,_,_,_,_,z⟩
 ·cases r;rfl
 ·cases o<;>cases z
def eN{F:Hp}{ρ:DF}{x:V}{ds:List D}(I:DInv K P F H ρ σ)(r:RepS K H F x (.lst ds)):∃a vs,x=.ref a/\SqL K H a vs/\Reps K F vs ds:=by
 rcases r with r|⟨a,o,u,rfl,_,h3,h4,hfl,z⟩
 ·cases r with|lst h q=>exact⟨_,_,rfl,I.sub.seq h,q⟩
 ·cases o with
  |lst ds'=>
   cases z;cases u with
   |lst vs=>exact⟨a,vs,rfl,SqL.of h3,h4⟩
   |_=>exact h4.elim
  |lst2 _=>cases hfl
  |tup2 _=>cases hfl
  |_=>cases z
def jN{F:Hp}{ρ:DF}{x:V}{ds:List D}(I:DInv K P F H ρ σ)(r:RepS K H F x (.tup ds)):∃a vs,x=.ref a/\SqT K H a vs/\Reps K F vs ds:=by
 rcases r with r|⟨a,o,u,rfl,_,h3,h4,hfl,z⟩
 ·cases r with|tup h q=>exact⟨_,_,rfl,SqT.of (I.sub _ _ h),q⟩
 ·cases o<;>first|(cases z;done)|cases hfl
def uF{F:Hp}{ρ:DF}{x:V}{ds:List (List Key×D)}(I:DInv K P F H ρ σ)(r:RepS K H F x (.dT ds)):∃a vs,x=.ref a/\H a=some (.dT vs)/\RepsT K F vs ds:=by
 rcases r with r|⟨a,o,u,rfl,_,h3,h4,hfl,z⟩
 ·cases r with|dT h q=>exact⟨_,_,rfl,I.sub _ _ h,q⟩
 ·cases o with
  |dT ds'=>
   cases z;cases u with
   |dT vs=>exact⟨a,vs,rfl,h3,h4⟩
   |_=>exact h4.elim
  |lst2 _=>cases hfl
  |tup2 _=>cases hfl
  |_=>cases z
def pY{F:Hp}{ρ:DF}{x:V}{fs:List (Str×D)}(I:DInv K P F H ρ σ)(r:RepS K H F x (.ins C fs)):∃a dx vs,x=.ref a/\H a=some (.ins C dx vs)/\RepsF K F vs fs:=by
 rcases r with r|⟨a,o,u,rfl,_,h3,b,hfl,z⟩
 ·cases r with|ins h q=>exact⟨_,_,_,rfl,I.sub _ _ h,q⟩
 ·cases o with
  |ins C' fs'=>
   cases z;cases u with
   |ins C'' dx vs=>(obtain⟨rfl,b⟩:=b;exact⟨a,dx,vs,rfl,h3,b⟩)
   |_=>exact b.elim
  |lst2 _=>cases hfl
  |tup2 _=>cases hfl
  |_=>cases z
def fI(C:Int->Int->Bool)(g:Int->Int->D):D->D->Option D
 |.int i,.int j=>if C i j=true then some (g i j)else none
 |_,_=>none
def qd{C:Int->Int->Prop}{a:Int->Int->Bool}{g:Int->Int->V}{g':Int->Int->D}(l:∀i j,a i j=true->C i j)(e:∀F i j,Rep K F (g i j) (g' i j)):tu K (rI C g) (fI a g'):=by
 intro P F H o m x y q p d Q h I c b k;unfold fI at h;split at h
 ·rename_i i j;split at h
  ·rename_i f;cases h;exact⟨i,j,dt c,dt b,l i j f,k _ F H (Evo.refl I.toDHp) (e F i j)⟩
  ·cases h
 ·cases h
def fI0(g:Int->Int->D):D->D->Option D
 |.int i,.int j=>some (g i j)
 |_,_=>none
def qL{g:Int->Int->V}{g':Int->Int->D}(c:∀F i j,Rep K F (g i j) (g' i j)):tu K (rI0 g) (fI0 g'):=by
 intro P F H f e x y m l d Q h I b a k;unfold fI0 at h;split at h
 ·rename_i i j;cases h;exact⟨i,j,dt b,dt a,k _ F H (Evo.refl I.toDHp) (c F i j)⟩
 ·cases h
def ff:=fI0 fun i j=>.int (i-j)
def fJ:=fI (fun i j=>decide ((-(2^64)<i/\i<2^64)\/(-(2^64)<j/\j<2^64))) fun i j=>.int (i*j)
def bh:=fI (fun _ j=>decide (0<j/\j<1073741824)) fun i j=>.int (i/j)
def aW:=fI (fun _ j=>decide (0<j)) fun i j=>.int (i%j)
def tz:=fI (fun i j=>decide (0<=j/\j<=1000000/\i.natAbs<2^64)) fun i j=>.int (i^j.toNat)
def ltI:=fI0 fun i j=>.bl (decide (i<j))
def leI:=fI0 fun i j=>.bl (decide (i<=j))
def gtI:=fI0 fun i j=>.bl (decide (j<i))
def geI:=fI0 fun i j=>.bl (decide (j<=i))
def fZ{fa fb:DF->Option D}(c:PDR X a fa)(h:PDR X b fb):PDE X (.BinOp a .Sub b pos) (d2 ff fa fb):=lg Ep (qL fun _ _ _=>.int) c h
def f7{fa fb:DF->Option D}(e:PDR X a fa)(c:PDR X b fb):PDE X (.BinOp a .Mult b pos) (d2 fJ fa fb):=lg EW (qd (fun _ _ h=>by have q:=YI h;exact q) fun _ _ _=>.int) e c
def bL{fa fb:DF->Option D}(e:PDR X a fa)(c:PDR X b fb):PDE X (.BinOp a .FloorDiv b pos) (d2 bh fa fb):=lg BN (qd (fun _ _ h=>by have q:=YI h;exact q) fun _ _ _=>.int) e c
def aT{fa fb:DF->Option D}(e:PDR X a fa)(c:PDR X b fb):PDE X (.BinOp a .Mod b pos) (d2 aW fa fb):=lg Ff (qd (fun _ _ h=>by have q:=YI h;exact q) fun _ _ _=>.int) e c
def mT{fa fb:DF->Option D}(e:PDR X a fa)(c:PDR X b fb):PDE X (.BinOp a .Pow b pos) (d2 tz fa fb):=lg ET (qd (fun _ _ h=>by have q:=YI h;exact q) fun _ _ _=>.int) e c
end
def tO(K:Kq)(f:DF->Option OD):TE:=fun h H Q=>∃P F g o,f g=some o/\DInv K P F H g h /\
 ∀a e c,Evo P F H e c->ORep K e c (fun b=>H b=none/\e b=none) o a->Q (.ref a) c
def PDO(X:Cx)(e:Expr)(f:DF->Option OD):Prop:=PE X e (tO X.K f)
def asO(f:DF->Option OD):DF->Option D:=fun a=>(f a).map OD.d
def Evo.back{F:Hp}(h:DHp P F H)(e:Evo P F H F' H')(n:H' a=none):H a=none:=by
 cases q:H a with
 |none=>rfl
 |some o=>rw[e.same h a o q]at n;cases n
open Classical in
noncomputable def xK (F H:Hp)(ow:Addr->Prop):Hp:=fun b=>if ow b then H b else F b
def fD{F:Hp}{b:Addr}(h:ow b):xK F H ow b=H b:=Yh h
def gG{F:Hp}{b:Addr}(h:¬ow b):xK F H ow b=F b:=Yl h
def cV{F:Hp}(h:∀b,ow b->F b=none):Same F (xK F H ow):=fun b u e=>by
 by_cases q:ow b
 ·rw[h b q]at e;cases e
 ·rw[gG q];exact e
def Evo.freeze{F:Hp}(g:DHp P F H)(e:Evo P F H F' H')(ow:Addr->Prop)(a:∀b,ow b->H b=none/\F' b=none):Evo P F H (xK F' H' ow) H' where
 ext:=e.ext.trans (cV fun b q=>(a b q).2)
 hp:=⟨fun b u h=>by
   by_cases q:ow b
   ·rw[fD q]at h;exact h
   ·rw[gG q]at h;exact e.hp.sub b u h,e.hp.pro,fun b u h=>by
   rw[gG fun q=>by rw[(g.pro.free (a b q).1)]at h;cases h];exact e.hp.dis b u h⟩
 keep:=fun b u h n=>by
  obtain⟨f,c⟩:=e.keep b u h n;refine⟨f,?_⟩;rw[gG fun q=>by rw[(a b q).1]at h;cases h];exact c
def kC{F:Hp}{o:HO}(h:F a=none):Same F (upd F a o):=fun b u e=>by rw[aU (bg e h)];exact e
section
variable     {cc:List Stmt} 
def PDO.v{f:DF->Option OD}(h:PDO X e f):PDE X e (asO f):=PE.imp h fun w H Q=>un7 fun P F i d c I k=>by
 unfold asO at c;cases q:f i with
 |none=>rw[q]at c;cases c
 |some o=>
  rw[q]at c;cases c;refine⟨P,F,i,o,q,I,fun a g s p j=>?_⟩;have l:∀b,(H b=none/\g b=none)->H b=none/\g b=none:=fun _ q=>q
  exact k (.ref a) _ s (p.freeze I.toDHp (fun b=>H b=none/\g b=none) l) (j.rep (cV fun b q=>q.2) fun b u q m=>by rw[fD q];exact m)
def asL(f:DF->Option (List D)):DF->Option OD:=fun a=>(f a).map .lst
inductive RES where
 |nx (ρ:DF)|rt (x:DV) (ρ:DF)|bk (ρ:DF)|ct (ρ:DF)
abbrev Dd:=DF->Option D
abbrev Dw:=DF->Option RES
abbrev Dk:=DF->Option Bool
abbrev Dv:=DF->Option (List DV)
abbrev Dl:=DF->Option (List D)
abbrev Dm:=List DV->Option DV
abbrev Dq:=D->DF->Option DF
abbrev Do:=DF->Option OD
abbrev Dz:=OD->List DV->Option (OD×D)
abbrev Dy:=D->D->Option D
def EndsD(K:Kq)(P F:Hp)(E:Ends):RES->Prop
 |.nx ρ=>∀b a H,Same F a->DInv K P a H ρ b->E.nx b H
 |.bk ρ=>∀b a H,Same F a->DInv K P a H ρ b->E.bk b H
 |.ct ρ=>∀b a H,Same F a->DInv K P a H ρ b->E.ct b H
 |.rt x ρ=>∀v b a H,Same F a->DInv K P a H ρ b->DVRep K P a H ub x v->E.rt v H
def EndsD.ext{F F1:Hp}{E:Ends}{r:RES}(h:EndsD K P F E r)(e:Same F F1):EndsD K P F1 E r:=by
 cases r with
 |nx ρ=>exact fun a c H b I=>h a c H (e.trans b) I
 |bk ρ=>exact fun a c H b I=>h a c H (e.trans b) I
 |ct ρ=>exact fun a c H b I=>h a c H (e.trans b) I
 |rt x ρ=>exact fun v a c H b I r=>h v a c H (e.trans b) I r
def tS(K:Kq)(g:Dw):TS:=fun E b H=>∃P F a r,g a=some r/\DInv K P F H a b/\EndsD K P F E r
def PD1(X:Cx)(st:Stmt)(g:Dw):Prop:=PS X st (tS X.K g)
def PDS(X:Cx)(sts:List Stmt)(g:Dw):Prop:=PSs X sts (tS X.K g)
def PS.imp{t t':TS}(h:PS X st t)(i:∀E σ H,t' E σ H->t E σ H):PS X st t':=fun p s σ H E I q=>h p s σ H E I (i E σ H q)
def PSs.imp{t t':TS}(h:PSs X sts t)(i:∀E σ H,t' E σ H->t E σ H):PSs X sts t':=fun p s σ H E I q=>h p s σ H E I (i E σ H q)
def dNx:DF->Option RES:=fun ρ=>some (.nx ρ)
def GH:∀E σ H,tS K dNx E σ H->E.nx σ H:=fun E σ H=>un7 fun P F a r h I k=>by
 cases h;exact k σ F H (Same.refl _) I
def aK:PDS X [] dNx:=PSs.imp vV GH
def ap(g h:Dw):DF->Option RES:=fun a=>match g a with
 |some (.nx ρ')=>h ρ'
 |r=>r
def ag{g h:Dw}(h1:PD1 X st g)(h2:PDS X cc h):PDS X (st::cc) (ap g h):=PSs.imp (kx h1 h2) fun E l H=>un7 fun P F b r c I k=>by
 unfold ap at c;split at c
 ·rename_i a q;exact⟨P,F,b,_,q,I,fun f j m e i=>⟨P,j,a,r,c,i,k.ext e⟩⟩
 ·rename_i q;refine⟨P,F,b,r,c,I,?_⟩;cases r with
  |nx a=>exact absurd c (q a)
  |bk b=>exact k
  |ct b=>exact k
  |rt x b=>exact k
def ah{g:Dw}(h1:PD1 X st g):PDS X [st] g:=PSs.imp (rf h1) fun _ _ _ q=>q
def bu(f:Dd):DF->Option RES:=fun a=>(f a).map fun d=>.rt (.v d) a
def aY{f:Dd}(h:PDE X e f):PD1 X (.Return (some e) pos) (bu f):=PS.imp (qp h) fun E g H=>un7 fun P F b r a I k=>by
 unfold bu at a;cases q:f b with
 |none=>rw[q]at a;cases a
 |some d=>
  rw[q]at a;cases a;exact⟨P,F,b,d,q,I,fun v l j c i=>k v g l j c.ext (I.evo c) i⟩
def dC(f:Do):DF->Option RES:=fun a=>(f a).map fun o=>.rt (.own o none) a
def dQ{f:Do}(h:PDO X e f):PD1 X (.Return (some e) pos) (dC f):=PS.imp (qp h) fun E j H=>un7 fun P F g r c I k=>by
 unfold dC at c;cases q:f g with
 |none=>rw[q]at c;cases c
 |some o=>
  rw[q]at c;cases c;exact⟨P,F,g,o,q,I,fun a s p i l=>k (.ref a) j s p i.ext (I.evo i) ⟨a,rfl,l.mono (Same.refl _) fun b u q m=>⟨m,q.2,I.pro.free q.1,trivial⟩,fun _ z=>nomatch z⟩⟩
def i8(i:Nat):DF->Option RES:=fun a=>match a[i]? with
 |some (some x)=>some (.rt x a)
 |_=>none
def iK(i:Nat)(h:PE X e (eI i)):PD1 X (.Return (some e) pos) (i8 i):=PS.imp (qp h) fun E b H=>un7 fun P F g r a I k=>by
 unfold i8 at a;split at a
 ·rename_i x q;cases a;obtain⟨v,f,c⟩:=I.at q;exact⟨v,f,k v b F H (Same.refl _) I c⟩
 ·cases a
def jz{b:Type}{l:List b}{x y:b}(h:(l.set i x)[j]?=some y):(i=j/\y=x/\i<l.length)\/(i≠j/\l[j]?=some y):=by
 by_cases a:i=j
 ·subst a;have c:i<l.length:=by have:=(Yj.mp h).1;rwa [YQ]at this
  rw[Za c]at h;exact .inl ⟨rfl,(YG h).symm,c⟩
 ·rw[YA a]at h;exact .inr ⟨a,h⟩
def DInv.setO{F:Hp}{ρ:DF}(I:DInv K P F H ρ σ)(i:Nat){v:V}{x:DV}(f:Addr->Prop)(g:∀(j:Nat) (y:DV) (w:V) (O:Addr->Option Nat),j≠i->ρ[j]?=some (some y)->DVRep K P F H (fun b=>O b=some j) y w->DVRep K P F H (fun b=>O b=some j/\¬f b) y w)(r:DVRep K P F H f x v) :
  DInv K P F H (ρ.set i (some x)) (σ.set i (some v)):=by
 obtain⟨O,h⟩:=I.rep;refine⟨I.toDHp,by rw[YQ,YQ];exact I.len,?_⟩
 classical
 refine⟨fun b=>if f b then some i else if O b=some i then none else O b,fun j y m=>?_⟩;rcases jz m with⟨rfl,e,l⟩|⟨a,c⟩
 ·cases e;refine⟨v,by rw[Za (by rw[<-I.len];exact l)],r.imp fun b u _ _ _ q=>Yh q⟩
 ·obtain⟨w,p,o⟩:=h j y c;refine⟨w,by rw[YA a];exact p,(g j y w O (ZJ a) c o).imp fun b u _ _ _ q=>?_⟩;show(if f b then some i else if O b=some i then none else O b)=some j;rw[Yl q.2,Yl (by rw[q.1];intro z;exact a (YG z).symm),q.1]
def DInv.setV{F:Hp}{ρ:DF}(I:DInv K P F H ρ σ)(i:Nat){v:V}{d:D}(r:Rep K F v d):DInv K P F H (ρ.set i (some (.v d))) (σ.set i (some v)):=
 I.setO i (fun _=>False) (fun j y w O _ _ q=>q.imp fun b u _ _ _ z=>⟨z,id⟩) r
def DInv.setN{F:Hp}{ρ:DF}(I:DInv K P F H ρ σ)(l:Evo P F H F' H')(i:Nat){o:OD}(m:ORep K F' H' (fun b=>H b=none/\F' b=none) o a):DInv K P F' H' (ρ.set i (some (.own o none))) (σ.set i (some (.ref a))):=by
 obtain⟨O,h⟩:=I.rep;refine⟨l.hp,by rw[YQ,YQ];exact I.len,?_⟩
 classical
 refine⟨fun b=>if H b=none then some i else if O b=some i then none else O b,fun j y s=>?_⟩;rcases jz s with⟨rfl,e,p⟩|⟨c,f⟩
 ·cases e;refine⟨.ref a,by rw[Za (by rw[<-I.len];exact p)],a,rfl,m.mono (Same.refl _) fun b u q g=>⟨g,q.2,I.pro.free q.1,Yh q.1⟩,fun _ z=>nomatch z⟩
 ·obtain⟨w,B,A⟩:=h j y f;refine⟨w,by rw[YA c];exact B,?_⟩;have x:DVRep K P F H (fun b=>(if H b=none then some i else if O b=some i then none else O b)=some j) y w:=A.imp fun b u _ _ g q=>by
   show(if H b=none then some i else if O b=some i then none else O b)=some j;rw[Yl (by rw[g];simp),Yl (by rw[q];intro z;exact c (YG z).symm),q]
  exact x.evo l
def setV(i:Nat)(d:D)(ρ:DF):Option DF:=some (ρ.set i (some (.v d)))
def aF(i:Nat)(f:Dd):DF->Option RES:=fun a=>(f a).map fun d=>.nx (a.set i (some (.v d)))
def Ak{f:Dd}:∀E σ H,tS K (aF i f) E σ H->Af (tD K f) (lI i) E σ H:=fun E σ H=>un7 fun P F a r h I k=>by
 unfold aF at h;cases q:f a with
 |none=>rw[q]at h;cases h
 |some d=>
  rw[q]at h;cases h;exact⟨P,F,a,d,q,I,fun v g c e b=>k _ g c e.ext ((I.evo e).setV i b)⟩
def D8{f:Dd}(hN:X.N.Nodup)(hi:X.N[i]?=some x)(hx:Loc X.env.scope x)(he:PDE X e f)(h:swapsWith e (some (.Name x pos')) pos.line X.env=pure false:=by rfl)(a:FnL X x:=by first|exact .inl rfl|exact .inr rfl|assumption) :
  PD1 X (.Assign [.Name x pos'] e pos) (aF i f):=PS.imp (zF hN hi hx he h a) Ak
def bt(i:Nat)(f:Do):DF->Option RES:=fun a=>(f a).map fun o=>.nx (a.set i (some (.own o none)))
def zQ{f:Do}:∀E σ H,tS K (bt i f) E σ H->Af (tO K f) (lI i) E σ H:=fun E σ H=>un7 fun P F b r h I k=>by
 unfold bt at h;cases q:f b with
 |none=>rw[q]at h;cases h
 |some o=>
  rw[q]at h;cases h;exact⟨P,F,b,o,q,I,fun a j g e c=>k _ j g e.ext (I.setN e i c)⟩
def Bf{f:Do}(hN:X.N.Nodup)(hi:X.N[i]?=some x)(hx:Loc X.env.scope x)(he:PDO X e f)(h:swapsWith e (some (.Name x pos')) pos.line X.env=pure false:=by rfl)(a:FnL X x:=by first|exact .inl rfl|exact .inr rfl|assumption) :
  PD1 X (.Assign [.Name x pos'] e pos) (bt i f):=PS.imp (zF hN hi hx he h a) zQ
def kS(i:Nat)(g:Dw):DF->Option RES:=fun a=>match a[i]? with
 |some (some (.own o none))=>g (a.set i (some (.v o.d)))
 |some (some (.v d))=>g a
 |_=>none
def DInv.frz{F:Hp}{ρ:DF}(I:DInv K P F H ρ σ){o:OD}{t:Option Addr}(h:ρ[i]?=some (some (.own o t))):∃F',Same F F'/\DInv K P F' H (ρ.set i (some (.v o.d))) σ:=by
 obtain⟨O,x⟩:=I.rep;have f:∀b,(F b=none/\P b=none/\O b=some i)->F b=none:=fun b q=>q.1
 refine⟨xK F H (fun b=>F b=none/\P b=none/\O b=some i),cV f,⟨fun b u q=>?_,I.pro,fun b u q=>?_⟩,by rw[YQ];exact I.len,O,fun j y A=>?_⟩
 ·by_cases c:F b=none/\P b=none/\O b=some i
  ·rw[fD (ow:=fun b=>F b=none/\P b=none/\O b=some i) c]at q;exact q
  ·rw[gG (ow:=fun b=>F b=none/\P b=none/\O b=some i) c]at q;exact I.sub b u q
 ·rw[gG (ow:=fun b=>F b=none/\P b=none/\O b=some i) fun c=>by rw[c.2.1]at q;cases q];exact I.dis b u q
 ·rcases jz A with⟨rfl,e,B⟩|⟨p,m⟩
  ·cases e;obtain⟨v,w,a,rfl,l,_⟩:=x i _ h;exact⟨_,w,l.rep (cV f) fun b u q g=>by rw[fD (ow:=fun b=>F b=none/\P b=none/\O b=some i) q];exact g⟩
  ·obtain⟨v,w,l⟩:=x j y m;refine⟨v,w,?_⟩;cases y with
   |v d=>exact Rep.same (cV f) l
   |own o' t'=>
    obtain⟨a,rfl,s,z⟩:=l;exact⟨a,rfl,s.mono (cV f) fun b u q g=>⟨g,by
     rw[gG (ow:=fun b=>F b=none/\P b=none/\O b=some i) fun c=>by rw[q.2.2]at c;exact p (YG c.2.2).symm];exact q.1,q.2⟩,z⟩
   |bor o'=>
    obtain⟨a,rfl,s⟩:=l;exact⟨a,rfl,s.mono (cV f) fun b u q g=>⟨g,q⟩⟩
def Ek{g:Dw}:∀E σ H,tS K (kS i g) E σ H->tS K g E σ H:=fun E σ H=>un7 fun P F a r h I k=>by
 unfold kS at h;split at h
 ·rename_i o q;obtain⟨c,e,b⟩:=I.frz q;exact⟨P,c,_,r,h,b,k.ext e⟩
 ·exact⟨P,F,a,r,h,I,k⟩
 ·cases h
def kq(i:Nat){g:Dw}(h:PD1 X st g):PD1 X st (kS i g):=PS.imp h Ek
def fg:DF->Option RES:=fun _=>none
def gu:PD1 X st fg:=PS.imp zi fun _ _ _ ⟨_,_,_,_,h,_⟩=>by cases h
def vq(f:Dd):DF->Option RES:=fun ρ=>(f ρ).map fun _=>.nx ρ
def B8{f:Dd}(h:PDE X e f)(i:swapsWith e none pos.line X.env=pure false:=by rfl):PD1 X (.Expr e pos) (vq f):=PS.imp (fV h i) fun E g H=>un7 fun P F b r a I k=>by
 unfold vq at a;cases q:f b with
 |none=>rw[q]at a;cases a
 |some d=>
  rw[q]at a;cases a;exact⟨P,F,b,d,q,I,fun v l j c _=>k g l j c.ext (I.evo c)⟩
def dIf(c:Dk)(g h:Dw):DF->Option RES:=fun a=>(c a).bind fun b=>if b=true then g a else h a
def bn{a b:List Stmt}{fc:Dk}{g h:Dw}(l:PDT X c fc)(o:PDS X a g)(m:PDS X b h):PD1 X (.If c a b pos) (dIf fc g h):=PS.imp (CN l o m) fun E p H=>un7 fun P F f r e I k=>by
 unfold dIf at e;cases q:fc f with
 |none=>rw[q]at e;cases e
 |some b=>
  rw[q,Ya]at e;refine⟨P,F,f,b,q,I,fun j s i=>?_⟩;cases b with
  |true=>
   rw[Yh rfl]at e ⊢;exact⟨P,j,f,r,e,I.evo i,k.ext i.ext⟩
  |false=>
   rw[Yl Yk]at e ⊢;exact⟨P,j,f,r,e,I.evo i,k.ext i.ext⟩
def ue(K:Kq)(P:Hp)(J:It)(F:Hp)(ds:List D):Prop:=
 ∀a H,Same F a->DHp P a H->∀i:Nat,(∀d,ds[i]?=some d->J.go i H/\∀x b,J.yld i H x b->∃c,Evo P a H c b/\Rep K c x d)/\(ds.length<=i->J.stop i H)
def tI(K:Kq)(f:Dl):TI:=fun c H R=>∃P F a b,f a=some b/\DInv K P F H a c/\∀(J:It) F' H',Evo P F H F' H'->ue K P J F' b->R J H'
def PDI(X:Cx)(tg iter:Expr)(f:Dl):Prop:=PI X tg iter (tI X.K f)
def PI.imp{t t':TI}(h:PI X tg iter t)(i:∀σ H R,t' σ H R->t σ H R):PI X tg iter t':=fun p s σ H R I q=>h p s σ H R I (i σ H R q)
def tG(K:Kq)(is:List Nat)(st:Dq):TG:=fun v c H Q=>∃P F f d b,st d f=some b/\DInv K P F H f c/\Rep K F v d/\∀a g e,Evo P F H g e->DInv K P g e b a->a.length=c.length->(∀j,j∉is->a[j]?=c[j]?)->Q a e
def PDG(X:Cx)(tg:Expr)(is:List Nat)(st:Dq):Prop:=PG X tg (tG X.K is st)
def PG.imp{t t':TG}(h:PG X tg t)(i:∀v σ H Q,t' v σ H Q->t v σ H Q):PG X tg t':=fun p s σ H v u Q I r q=>h p s σ H v u Q I r (i v σ H Q q)
def AE(hN:X.N.Nodup)(hi:X.N[i]?=some x)(hx:Loc X.env.scope x)(e:FnL X x:=by first|exact .inl rfl|exact .inr rfl|assumption):PDG X (.Name x pos) [i] (setV i):=
 PG.imp (jJ hN hi hx e) fun v f H Q h=>by
  obtain⟨P,F,g,d,a,b,I,r,k⟩:=h;cases b;exact k _ F H (Evo.refl I.toDHp) (I.setV i r) (YQ ..) fun j c=>by rw[YA (fun z=>c (by rw[z];exact List.mem_singleton_self _))]
def dj(st:Dq)(body:Dw):List D->DF->Option RES
 |[],ρ=>some (.nx ρ)
 |d::ds,ρ=>match st d ρ with
  |none=>none
  |some a=>match body a with
   |some (.nx ρ')=>dj st body ds ρ'
   |some (.ct ρ')=>dj st body ds ρ'
   |some (.bk ρ')=>some (.nx ρ')
   |r=>r
def cP(it:Dl)(st:Dq)(body:Dw):DF->Option RES:=fun a=>(it a).bind fun b=>dj st body b a
def Az{f:Dl}{is:List Nat}{st:Dq}{g:Dw}(hp:PassesOwn (model X.prog X.w) X.A X.env X.xe)(hc:X.calm=true)(hi:PDI X tg iter f)(hg:PDG X tg is st)(hb:PDS X body g)
  (hs:FsI iter X:=by intro _;rfl):PD1 X (.For tg iter body [] pos) (cP f st g):=PS.imp (D5 hp hc hi hg hb hs) fun E σ H=>un7 fun P F ρ r Q I k=>by
 unfold cP at Q;cases q:f ρ with
 |none=>rw[q]at Q;cases Q
 |some a=>
  rw[q,Ya]at Q;refine⟨P,F,ρ,a,q,I,fun J F1 H1 S ok=>?_⟩;refine⟨fun i m j Z=>m=a.length-i/\i<=a.length/\∃M c,Same F1 M/\DInv X.K P M Z c j/\dj st g (a.drop i) c=some r,⟨_,rfl,YO _,F1,ρ,Same.refl _,I.evo S,Q⟩,?_⟩;rintro i m j Z ⟨rfl,hil,M,c,U,I',h⟩;obtain⟨ok1,ok2⟩:=ok M Z U I'.toDHp i;by_cases p:i<a.length
  ·have hd:a[i]?=some a[i]:=Yi p;obtain⟨go,yl⟩:=ok1 _ hd;have u:a.drop i=a[i]::a.drop (i+1):=List.drop_eq_getElem_cons p;rw[u]at h;unfold dj at h;cases o:st a[i] c with
   |none=>rw[o]at h;cases h
   |some l=>
    rw[o]at h;dsimp only at h;have hE:Same F M:=S.ext.trans U;refine .inr ⟨go,fun N Y=>∃L e,Same F1 L/\DInv X.K P L Y e N/\dj st g (a.drop (i+1)) e=some r,fun N Y ⟨L,e,s2,I2,hf2⟩=>⟨a.length-(i+1),by omega,rfl,p,L,e,s2,I2,hf2⟩,fun x Y hy=>?_⟩;obtain⟨L,R,rx⟩:=yl x Y hy;refine⟨P,L,c,a[i],l,o,I'.evo R,rx,fun σ3 F3 H3 ev3 I3 _ _=>?_⟩;have s:Same F1 F3:=U.trans (R.ext.trans ev3.ext);cases y:g l with
    |none=>rw[y]at h;cases h
    |some O=>
     rw[y]at h;refine⟨P,F3,l,O,y,I3,?_⟩;cases O with
     |nx ρ4=>exact fun b C T z B=>⟨C,ρ4,s.trans z,B,h⟩
     |ct ρ4=>exact fun b C T z B=>⟨C,ρ4,s.trans z,B,h⟩
     |bk ρ4=>
      cases h;exact fun b C T z B=>k b C T (S.ext.trans (s.trans z)) B
     |rt x4 ρ4=>
      cases h;exact fun v4 b C T z B r4=>k v4 b C T (S.ext.trans (s.trans z)) B r4
  ·have hz:a.drop i=[]:=XL (by omega);rw[hz]at h;cases h;exact .inl ⟨ok2 (by omega),k j M Z (S.ext.trans U) I'⟩
def d9(c:Dk)(body:Dw):Nat->DF->Option RES
 |0,_=>none
 |n+1,ρ=>match c ρ with
  |none=>none
  |some false=>some (.nx ρ)
  |some true=>match body ρ with
   |some (.nx ρ')=>d9 c body n ρ'
   |some (.ct ρ')=>d9 c body n ρ'
   |some (.bk ρ')=>some (.nx ρ')
   |r=>r
def sY(n:Nat){fc:Dk}{g:Dw}(U:PassesOwn (model X.prog X.w) X.A X.env X.xe)(Y:PDT X c fc)(Z:PDS X body g):PD1 X (.While c body [] pos) (d9 fc g n):=PS.imp (Ag U Y Z) fun E σ H=>un7 fun P F R r T I k=>by
 refine⟨fun m j O=>∃C a,Same F C/\DInv X.K P C O a j/\d9 fc g m a=some r,⟨n,F,R,Same.refl _,I,T⟩,?_⟩;rintro m j O ⟨C,a,M,J,e⟩;cases m with
 |zero=>cases e
 |succ m=>
  unfold d9 at e;cases l:fc a with
  |none=>rw[l]at e;cases e
  |some b=>
   rw[l]at e;refine⟨P,C,a,b,l,J,fun L H2 i=>?_⟩;cases b with
   |false=>
    rw[Yl Yk];cases e;exact k j L H2 (M.trans i.ext) (J.evo i)
   |true=>
    rw[Yh rfl];refine⟨fun u N=>∃Q x,Same F Q/\DInv X.K P Q N x u/\d9 fc g m x=some r,fun u N h=>⟨m,Xv m,h⟩,?_⟩;have B:Same F L:=M.trans i.ext;dsimp only at e;cases o:g a with
    |none=>rw[o]at e;cases e
    |some y=>
     rw[o]at e;refine⟨P,L,a,y,o,J.evo i,?_⟩;cases y with
     |nx ρ4=>exact fun f s z p q=>⟨s,ρ4,B.trans p,q,e⟩
     |ct ρ4=>exact fun f s z p q=>⟨s,ρ4,B.trans p,q,e⟩
     |bk ρ4=>
      cases e;exact fun f s z p q=>k f s z (B.trans p) q
     |rt x4 ρ4=>
      cases e;exact fun S f s z p q r4=>k S f s z (B.trans p) q r4
end
end L2
variable{ρ ρ':DF}{fa f fb fe fc fv fx f1 f4:DF->Option L2.D}{ds RR as K2 T2 K1:List L2.D}{a e1 e2 e0 e3 e4:Expr}{g body:DF->Option RES}{N nR:Int}{st:L2.D->DF->Option DF}{spos p2 p1 pos2 p' py p3 p4 q1:Pos}{xs:List DV}{m:List DV->Option DV}{ks2 ksR ksL ks:List Str}{tsL tsR ts:List T4}{x5 x6 x8 x7 x9 x10 x11 x12 x13 x14 x4:Option DV}{is:List Nat}{y er tn q on c1 c2:Str}{mM:OD->List DV->Option (OD×L2.D)}{ob:Obj}{outer:List Env}{W dy L R:L2.D}{elts:List Expr}{kk ie io:Nat}{it f0 I c0 A1 A2 l1 l2:Addr}{cd:Value}{wr:List Addr}{kvs:List (List Key×L2.D)}{H1 H2 F1 F2:Hp}{o':OD}{gR:Addr->V->L2.D->DF->Option RES}{fo:DF->Option OD}{qs:List (Int×Int)}{pl out:List Int}{ta:TA}{cs:List V}{rz:List DV->Option Nat}
namespace L2
open PySem PySem.Spec PyProof.Rows
def gd(F H:Hp):Hp:=fun a=>match F a with
 |none=>H a
 |some _=>none
def jX{F:Hp}{a:Addr}{o:HO}:gd F H a=some o↔F a=none/\H a=some o:=by
 unfold gd;cases q:F a with
 |none=>simp
 |some u=>simp
def ig{F:Hp}(s:Same F H):DHp (gd F H) F H:=⟨s,fun a o e=>(jX.mp e).2,fun a o e=>(jX.mp e).1⟩
def DHp.gd{F:Hp}(h:DHp P F H)(e:Same F F')(g:DHp (gd F H) F' H'):Evo P F H F' H' where
 ext:=e
 hp:=⟨g.sub,fun a o q=>g.pro a o (jX.mpr ⟨h.dis a o q,h.pro a o q⟩),fun a o q=>g.dis a o (jX.mpr ⟨h.dis a o q,h.pro a o q⟩)⟩
 keep:=fun a o q n=>⟨g.pro a o (jX.mpr ⟨n,q⟩),g.dis a o (jX.mpr ⟨n,q⟩)⟩
def Evo.change{b F:Hp}(e:Evo P F H F' H')(h:DHp b F H):Evo b F H F' H':=
 ⟨e.ext,⟨e.hp.sub,fun a o q=>(e.keep a o (h.pro a o q) (h.dis a o q)).1,fun a o q=>(e.keep a o (h.pro a o q) (h.dis a o q)).2⟩,e.keep⟩
def CP:DV->Bool
 |.own _ _=>true
 |_=>false
inductive DVs (K:PySem.W.Frag) (P F H:Hp):List DV->List V->Prop
 |nil:DVs K P F H [] []
 |cons {x:DV}{v:V}{xs:List DV}{vs:List V}:CP x=false->DVRep K P F H ub x v->DVs K P F H xs vs->DVs K P F H (x::xs) (v::vs)
def DVs.length{F:Hp}(h:DVs K P F H xs vs):xs.length=vs.length:=by
 induction h with
 |nil=>rfl
 |cons _ _ _ ih=>exact Zn Nat.succ ih
def DVs.get{F:Hp}{x:DV}(h:DVs K P F H xs vs)(e:xs[i]?=some x):CP x=false/\∃v,vs[i]?=some v/\DVRep K P F H ub x v:=by
 induction h generalizing i with
 |nil=>exact nomatch e
 |cons h r _ ih=>
  cases i with
  |zero=>obtain rfl:=YG e;exact⟨h,_,rfl,r⟩
  |succ i=>exact ih e
def spD(K:Kq)(m:Dm):Sp:=fun e H Q _=>∃P F c x,m c=some x/\DHp P F H/\DVs K P F H c e/\∀v b a,Same F b->DHp P b a->DVRep K P b a ub x v->Q v a
def aP(n p:Nat)(xs:List DV):DF:=xs.map some++List.replicate (n-p) none
def dG:Option RES->Option DV
 |some (.rt x _)=>some x
 |some (.nx _)=>some (.v .non)
 |_=>none
def mOf(n p:Nat)(g:Dw):List DV->Option DV:=fun x=>if x.length=p then dG (g (aP n p x))else none
def nP{n p:Nat}{x:DV}(h:(aP n p xs)[i]?=some (some x)):xs[i]?=some x:=by
 unfold aP at h;by_cases a:i<xs.length
 ·rw[Zg (by simpa using a),Yt]at h;cases q:xs[i]? with
  |none=>rw[q]at h;cases h
  |some y=>rw[q]at h;cases h;rfl
 ·rw[YW (by simpa using a),Xa]at h;split at h<;>cases h
def kN{N:List Str}{v:V}(h:vs[i]?=some v):(start N vs)[i]?=some (some v):=by unfold start;have a:i<vs.length:=(Yj.mp h).1;rw[Zg (by simpa using a),Yt,h];rfl
def DInv.start{F:Hp}(N:List Str)(p:Nat)(h:DHp P F H)(r:DVs K P F H xs vs)(b:xs.length=p):DInv K P F H (aP N.length p xs) (start N vs):=by
 refine⟨h,?_,fun _=>none,fun i x e=>?_⟩
 ·unfold aP L2.start;rw[Yn,Yn,Yb,Yb,YK,YK,r.length,<-r.length,b]
 ·obtain⟨c,v,f,a⟩:=r.get (nP e);refine⟨v,kN f,?_⟩;cases x with
  |own o t=>cases c
  |v d=>exact a
  |bor o=>exact a
def Fun.okD{P:Program}{st:Stmt}{f:Addr}{N:List Str}{k:Nat}(F:Fun K x qual st f fd)(S:FnScope N ps (defScope st))
  (b:∀(c:Value) (A:Around) (outer:List Env) (s:Shared) (H:Hp) (E:XK),Room k (A.deeper (envOfC qual (defScope st) s.heap.objs.size f c))->
   PDS (bX CX0 P w K mg base N qual (defScope st) f c A outer s H E).nox (defBody st) g):FnOk P w K mg base CX0 (k+1) f fd ps (spD K (mOf N.length ps.length g)):=by
 have l:∀i H Q E,spD K (mOf N.length ps.length g) i H Q E->i.length=ps.length:=fun i H Q E o=>by
  obtain⟨p,B,j,M,a,C,m,_⟩:=o;unfold mOf at a;split at a
  ·rename_i h;rw[<-m.length];exact h
  ·cases a
 refine F.ok S l fun c A outer s H i Q E O h=>?_;refine⟨_,b c A outer s H E O,?_⟩;obtain⟨p,B,j,M,a,C,m,J⟩:=h;unfold mOf at a;split at a
 ·rename_i R;have I:DInv K p B H (aP N.length ps.length j) (start N i):=DInv.start N ps.length C m R;cases q:g (aP N.length ps.length j)with
  |none=>rw[q]at a;cases a
  |some r=>
   rw[q]at a;refine⟨p,B,_,r,q,I,?_⟩;cases r with
   |rt y ρ=>cases a;exact fun v L z u e h r=>J v z u e h.toDHp r
   |nx ρ=>cases a;exact fun L z u e T=>J .non z u e T.toDHp .non
   |bk ρ=>cases a
   |ct ρ=>cases a
 ·cases a
inductive ArgsS (K:PySem.W.Frag) (ρ:DF) (σ:St) (F:Hp):List DV->List V->Prop
 |nil:ArgsS K ρ σ F [] []
 |v {d:D}{v:V}{xs:List DV}{vs:List V}:Rep K F v d->ArgsS K ρ σ F xs vs->ArgsS K ρ σ F (.v d::xs) (v::vs)
 |b {o:OD}{v:V}{xs:List DV}{vs:List V} (i:Nat):σ[i]?=some (some v)->((∃t,ρ[i]?=some (some (.own o t)))\/ρ[i]?=some (some (.bor o)))->ArgsS K ρ σ F xs vs->ArgsS K ρ σ F (.bor o::xs) (v::vs)
def ArgsS.same{F:Hp}(e:Same F F')(h:ArgsS K ρ σ F xs vs):ArgsS K ρ σ F' xs vs:=by
 induction h with
 |nil=>exact .nil
 |v h _ ih=>exact .v (h.same e) ih
 |b i h1 h2 _ ih=>exact .b i h1 h2 ih
def ArgsS.dvs{F:Hp}(I:DInv K P F H ρ σ)(h:ArgsS K ρ σ F xs vs):DVs K (gd F H) F H xs vs:=by
 induction h with
 |nil=>exact .nil
 |v h _ ih=>exact .cons rfl h ih
 |b i h1 h2 _ ih=>
  obtain⟨a,rfl,e⟩:=I.slot h1 h2;exact .cons rfl ⟨a,rfl,e.mono (Same.refl _) fun b u q c=>⟨jX.mpr ⟨q,c⟩,trivial⟩⟩ ih
def tLV(K:Kq)(f:Dv):TA:=fun b H Q=>∃P F a x,f a=some x/\DInv K P F H a b/\∀c g e,Evo P F H g e->ArgsS K a b g x c->Q c e
def iE(X:Cx)(es:List Expr)(f:Dv):Prop:=PA X es (tLV X.K f)
def ao:iE X [] nA:=PA.imp ba fun a H Q=>un7 fun P F b x h I k=>by
 cases h;exact k [] F H (Evo.refl I.toDHp) .nil
def aV(f:Dd)(g:Dv):DF->Option (List DV):=fun a=>(f a).bind fun d=>(g a).map fun x=>.v d::x
def ay{g:Dv}(h:PDE X e f)(o:iE X es g)(m:starEach (e::es) X.env=(false,eval e X.env)::starEach es X.env:=by rfl):iE X (e::es) (aV f g):=PA.imp (au h o m) fun w H Q=>un7 fun P F b x a I k=>by
 unfold aV at a;cases q:f b with
 |none=>rw[q]at a;cases a
 |some d=>
  rw[q,Ya]at a;cases c:g b with
  |none=>rw[c]at a;cases a
  |some y=>
   rw[c]at a;cases a;exact⟨P,F,b,d,q,I,fun v u z j r1=>⟨P,u,b,y,c,I.evo j,fun l s p i r2=>k (v::l) s p (j.trans i) (.v (r1.same i.ext) r2)⟩⟩
def aB(i:Nat)(g:Dv):DF->Option (List DV):=fun a=>match a[i]? with
 |some (some (.own o _))=>(g a).map fun x=>.bor o::x
 |some (some (.bor o))=>(g a).map fun x=>.bor o::x
 |some (some (.v d))=>(g a).map fun x=>.v d::x
 |_=>none
def GO(i:Nat){g:Dv}(h:PE X e (eI i))(x:iE X es g)(w:starEach (e::es) X.env=(false,eval e X.env)::starEach es X.env:=by rfl):iE X (e::es) (aB i g):=PA.imp (au h x w) fun z H Q=>un7 fun P F j A a I k=>by
 unfold aB at a;split at a
 ·rename_i o t q;obtain⟨v,f,u⟩:=I.at q;cases c:g j with
  |none=>rw[c]at a;cases a
  |some y=>
   rw[c]at a;cases a;exact⟨v,f,P,F,j,y,c,I,fun m s p l r2=>k (v::m) s p l (.b i f (.inl ⟨t,q⟩) r2)⟩
 ·rename_i o q;obtain⟨v,f,u⟩:=I.at q;cases c:g j with
  |none=>rw[c]at a;cases a
  |some y=>
   rw[c]at a;cases a;exact⟨v,f,P,F,j,y,c,I,fun m s p l r2=>k (v::m) s p l (.b i f (.inr q) r2)⟩
 ·rename_i d q;obtain⟨v,f,u⟩:=I.at q;cases c:g j with
  |none=>rw[c]at a;cases a
  |some y=>
   rw[c]at a;cases a;exact⟨v,f,P,F,j,y,c,I,fun m s p l r2=>k (v::m) s p l (.v (Rep.same l.ext u) r2)⟩
 ·cases a
def dvD:DV->Option D
 |.v d=>some d
 |.own o _=>some o.d
 |.bor _=>none
def am(m:Dm)(g:Dv):DF->Option D:=fun a=>(g a).bind fun x=>(m x).bind dvD
def dvO:DV->Option OD
 |.own o _=>some o
 |_=>none
def lY(m:Dm)(g:Dv):DF->Option OD:=fun a=>(g a).bind fun x=>(m x).bind dvO
def Dn{F:Hp}{a:Addr}(e:Same F F')(h1:F' a=none)(h2:gd F H a=none):H a=none:=by
 unfold gd at h2;have:F a=none:=by
  cases q:F a with
  |none=>rfl
  |some o=>rw[e a o q]at h1;cases h1
 rw[this]at h2;exact h2
def qt{o:OD}{a:Addr}(e2:Same F1 F2)(h:ORep K F2 H2 (fun b=>F2 b=none/\gd F1 H1 b=none/\ub b) o a):ORep K F2 H2 (fun b=>H1 b=none/\F2 b=none) o a:=
 h.mono (Same.refl _) fun b u q c=>⟨c,Dn e2 q.1 q.2.1,q.1⟩
def Bn{g:Dv}{E:XK}:∀σ H Q,tD K (am m g) σ H Q->zW (spD K m) [] E (tLV K g) σ H Q:=fun σ H Q=>un7 fun P F z d h I k=>by
 unfold am at h;cases q:g z with
 |none=>rw[q]at h;cases h
 |some e=>
  rw[q,Ya]at h;cases f:m e with
  |none=>rw[f]at h;cases h
  |some x=>
   rw[f,Ya]at h;refine⟨P,F,z,e,q,I,fun L y s l r1=>?_⟩;have c:=I.evo l;refine⟨gd y s,y,e,x,f,ig c.sub,by rw[YU];exact r1.dvs c,fun v w p B i r2=>?_⟩;have A:Evo P y s w p:=c.toDHp.gd B i;cases x with
   |v d'=>cases h;exact k v w p (l.trans A) r2
   |own o t=>
    cases h;obtain⟨a,rfl,C,_⟩:=r2;have j:=qt B C;exact k _ _ p (l.trans (A.freeze c.toDHp (fun b=>s b=none/\w b=none) fun _ q=>q)) (j.rep (cV fun b q=>q.2) fun b u q J=>by rw[fD q];exact J)
   |bor o=>cases h
def BY{g:Dv}{E:XK}:∀σ H Q,tO K (lY m g) σ H Q->zW (spD K m) [] E (tLV K g) σ H Q:=fun σ H Q=>un7 fun P F p d h I k=>by
 unfold lY at h;cases q:g p with
 |none=>rw[q]at h;cases h
 |some c=>
  rw[q,Ya]at h;cases e:m c with
  |none=>rw[e]at h;cases h
  |some x=>
   rw[e,Ya]at h;refine⟨P,F,p,c,q,I,fun J l y i r1=>?_⟩;have j:=I.evo i;refine⟨gd l y,l,c,x,e,ig j.sub,by rw[YU];exact r1.dvs j,fun v z w s f r2=>?_⟩;have C:Evo P l y z w:=j.toDHp.gd s f;cases x with
   |own o t=>
    cases h;obtain⟨a,rfl,A,_⟩:=r2;exact k a z w (i.trans C) ((qt s A).mono (Same.refl _) fun b u q B=>⟨B,i.back I.toDHp q.1,q.2⟩)
   |_=>cases h
section
variable{k:Nat}{f:Addr}      {g:Dv}
def AY(F:FnOk X.prog X.w X.K X.mg X.base CX0 k f fd ps (spD X.K m))(a:Room k X.A)(i:Gl X x)(b:X.mg x=some (.ref f))(c:PySem.W.keepIn X.K (.ref f)=true)(j:Binds X.K fd ps [])(l:iE X (e::es) g)
  (hd:nDb x:=by decide) (he:starEach (e::es) X.env=(false,eval e X.env)::starEach es X.env:=by rfl) (h:(backTo pos (starEach es X.env)).any (·.1)=false:=by rfl):PDE X (.Call (.Name x p) (e::es) [] pos) (am m g):=
 (mG F a i b c j .nil pP l hd he h).imp Bn
def yI(F:FnOk X.prog X.w X.K X.mg X.base CX0 k f fd ps (spD X.K m))(a:Room k X.A)(i:Gl X x)(b:X.mg x=some (.ref f))(c:PySem.W.keepIn X.K (.ref f)=true)(j:Binds X.K fd ps [])(l:iE X (e::es) g)
  (hd:nDb x:=by decide) (he:starEach (e::es) X.env=(false,eval e X.env)::starEach es X.env:=by rfl) (h:(backTo pos (starEach es X.env)).any (·.1)=false:=by rfl):PDO X (.Call (.Name x p) (e::es) [] pos) (lY m g):=
 (mG F a i b c j .nil pP l hd he h).imp BY
end
def wU:Option DV->Option DV
 |some (.v d)=>some (.v d)
 |some (.own o _)=>some (.bor o)
 |some (.bor o)=>some (.bor o)
 |_=>none
def iC(own:Nat)(ix:List Nat)(ρ:DF):DF:=List.replicate own none++ix.map fun j=>wU (ρ[j]?).join
def cD(st:Dq)(c:Dk)(e:Dd)(ρ:DF):List D->Option (List D)
 |[]=>some []
 |d::ds=>(st d ρ).bind fun a=>(c a).bind fun b=>if b=true then(e a).bind fun y=>(cD st c e ρ ds).map fun r=>y::r else cD st c e ρ ds
def aw(own:Nat)(ix:List Nat)(it:Dl)(st:Dq)(c:Dk)(e:Dd):DF->Option (List D):=
 fun a=>(it a).bind fun b=>if b.length<=16777216 then cD st c e (iC own ix a) b else none
def aX:DF->Option Bool:=fun _=>some true
def ss{x:DV}(h:(iC own ix ρ)[i]?=some (some x)):own<=i/\∃j y,ix[i-own]?=some j/\ρ[j]?=some (some y)/\wU (some y)=some x:=by
 unfold iC at h;by_cases c:i<own
 ·rw[Zg (by rw[YK];exact c),Xa,Yh c]at h;cases h
 ·rw[YW (by rw[YK];omega),YK,Yt]at h;refine⟨by omega,?_⟩;cases q:ix[i-own]? with
  |none=>rw[q]at h;cases h
  |some j=>
   rw[q,Zv]at h;have a:=YG h;cases b:ρ[j]? with
   |none=>rw[b]at a;cases a
   |some o=>
    rw[b,Option.join_some]at a;cases o with
    |none=>cases a
    |some y=>exact⟨j,y,rfl,b,a⟩
def xU{v:V}(hi:own<=i)(h:ix[i-own]?=some j)(hv:σ[j]?=some (some v)):(eT own ix σ)[i]?=some (some v):=by unfold eT;rw[YW (by rw[YK];exact hi),YK,Yt,h,Zv,hv];rfl
def DInv.cap{F:Hp}(I:DInv K P F H ρ σ)(own:Nat)(ix:List Nat):DInv K (gd F H) F H (iC own ix ρ) (eT own ix σ):=by
 refine⟨ig I.sub,?_,fun _=>none,fun i x h=>?_⟩
 ·rw[iQ];unfold iC;rw[Yn,YK,Yb]
 ·obtain⟨p,j,y,w,e,c⟩:=ss h;obtain⟨v,f,l⟩:=I.at e;refine⟨v,xU p w f,?_⟩;have g:∀o,((∃t,ρ[j]?=some (some (.own o t)))\/ρ[j]?=some (some (.bor o)))->DVRep K (gd F H) F H (fun b=>none=some i) (.bor o) v:=fun o m=>by
   obtain⟨a,rfl,c⟩:=I.slot f m;exact⟨a,rfl,c.mono (Same.refl _) fun b u q s=>⟨jX.mpr ⟨q,s⟩,trivial⟩⟩
  cases y with
  |v d=>cases c;exact l
  |own o t=>cases c;exact g o (.inl ⟨t,e⟩)
  |bor o=>cases c;exact g o (.inr e)
def x_{G F:Hp}{f:St}(B:DInv K G F H (iC own ix ρ) f)(e:Same F F2)(m:DHp G F2 H2):DInv K G F2 H2 (iC own ix ρ) f:=by
 obtain⟨O,h⟩:=B.rep;refine⟨m,B.len,O,fun i x g=>?_⟩;obtain⟨v,s,l⟩:=h i x g;refine⟨v,s,?_⟩;cases x with
 |v d=>exact Rep.same e l
 |bor o=>obtain⟨a,rfl,c⟩:=l;exact⟨a,rfl,c.mono e fun b u q p=>⟨p,q⟩⟩
 |own o t=>(obtain⟨_,j,y,_,_,c⟩:=ss g;cases y<;>cases c)
section
variable      {N:List Str}   {f:Dl}  {c:Dk}{e:Dd}
def qK(his:∀j∈is,j<own):∀σ H Q,tO K (asL (aw own ix f st c e)) σ H Q->yM own ix (tI K f) (tG K is st) (tB' K c) (tD K e) σ H Q:=fun σ H Q=>un7 fun P F M ob z I k=>by
 unfold asL at z;cases E:aw own ix f st c e M with
 |none=>rw[E]at z;cases z
 |some out=>
 rw[E]at z;cases z;have z:=E;unfold aw at z;cases q:f M with
 |none=>rw[q]at z;cases z
 |some p=>
  rw[q,Ya]at z;split at z
  rotate_left
  ·cases z
  rename_i hlen;refine⟨P,F,M,p,q,I,fun J o A ev ok g l=>?_⟩;have I1:=I.evo ev;have hp1:DHp (gd o A) o A:=ig I1.sub;have hg:gd o A g=none:=by unfold gd;rw[I1.sub.free l];exact l
  have B1:DInv K (gd o A) o A (iC own ix M) (eT own ix σ):=I1.cap own ix;have hP:∀{w R:Hp},Same o w->DHp (gd o A) w R->DHp P w R:=fun s h=>(I1.toDHp.gd s h).hp
  refine⟨fun i m ys R=>m=p.length-i/\i<=p.length/\∃w,Same o w/\DHp (gd o A) w R/\w g=none/\R g=some (.lst ys)/\ys.length<=i/\∃C,Reps K w ys C/\(cD st c e (iC own ix M) (p.drop i)).map (fun r=>C++r)=some out,
   ⟨_,rfl,YO _,o,Same.refl _,(Evo.side hp1 l).hp,I1.sub.free l,a8,Ym _,[],.nil,by rw[List.drop_zero,z];rfl⟩,?_⟩
  rintro i m ys R ⟨rfl,hi,w,se,Z,fa,ha,hy,C,rp,a⟩;obtain⟨ok1,ok2⟩:=ok w R se (hP se Z) i;by_cases hlt:i<p.length
  ·have hd:p[i]?=some p[i]:=Yi hlt;obtain⟨go,yl⟩:=ok1 _ hd;have hdrop:p.drop i=p[i]::p.drop (i+1):=List.drop_eq_getElem_cons hlt;rw[hdrop]at a;unfold cD at a;cases Y:st p[i] (iC own ix M)with
   |none=>rw[Y]at a;cases a
   |some B=>
    rw[Y,Ya]at a;refine .inr ⟨go,fun N H2=>∃U,Same o U/\DHp (gd o A) U H2/\U g=none/\H2 g=some (.lst N)/\N.length<=i+1/\∃S,Reps K U N S/\(cD st c e (iC own ix M) (p.drop (i+1))).map (fun r=>S++r)=some out,
     fun N H2 h=>⟨p.length-(i+1),by omega,rfl,hlt,h⟩,fun x H2 hyl=>?_⟩
    obtain⟨U,ev2,rx⟩:=yl x H2 hyl;have T:Evo (gd o A) w R U H2:=ev2.change Z;obtain⟨a2,fa2⟩:=T.keep g _ ha fa;have B2:DInv K (gd o A) U H2 (iC own ix M) (eT own ix σ):=x_ B1 (se.trans ev2.ext) T.hp;refine⟨gd o A,U,iC own ix M,p[i],B,Y,B2,rx,fun σ3 F3 H3 ev3 I3 hl3 hσ=>?_⟩;refine⟨⟨?_,fun j v hj=>?_⟩,?_⟩
    ·rw[hl3,iQ]
    ·rw[hσ j]
     ·exact hj
     ·intro hj';obtain⟨ho,_⟩:=oQ hj;have:=his j hj';omega
    obtain⟨a3,fa3⟩:=ev3.keep g _ a2 fa2;cases hc:c B with
    |none=>rw[hc]at a;cases a
    |some b=>
     rw[hc,Ya]at a;refine⟨gd o A,F3,B,b,hc,I3,fun F4 H4 O=>?_⟩;obtain⟨a4,fa4⟩:=O.keep g _ a3 fa3;have X:Same w F4:=ev2.ext.trans (ev3.ext.trans O.ext);cases b with
     |false=>
      rw[Yl Yk]at a ⊢;exact⟨F4,se.trans X,O.hp,fa4,a4,by omega,C,rp.same X,a⟩
     |true=>
      rw[Yh rfl]at a ⊢;cases he:e B with
      |none=>rw[he]at a;cases a
      |some y=>
       rw[he,Ya]at a;refine⟨gd o A,F4,B,y,he,I3.evo O,fun v F5 H5 L rv=>?_⟩;obtain⟨a5,fa5⟩:=L.keep g _ a4 fa4;have s15:Same w F5:=X.trans L.ext;refine⟨a5,by rw[YV];omega,F5,se.trans s15,⟨fun b u h=>by rw[aU (bg h fa5)];exact L.hp.sub b u h,fun b u h=>by rw[aU (bg h hg)];exact L.hp.pro b u h,L.hp.dis⟩,fa5,a8,by rw[Yn,YN];omega,C++[y],(rp.same s15).append (.one rv),?_⟩;cases hmm:cD st c e (iC own ix M) (p.drop (i+1))with
       |none=>rw[hmm]at a;cases a
       |some r=>
        rw[hmm]at a;simp only[Zv]at a ⊢;rw[ZO];exact a
  ·have hz:p.drop i=[]:=XL (by omega);rw[hz]at a;unfold cD at a;rw[Zv,YU]at a;cases a;exact .inl ⟨ok2 (by omega),k g w R (ev.trans (I1.toDHp.gd se Z)) ⟨⟨ev.back I.toDHp l,fa⟩,_,ha,rp⟩⟩
def yL(hcalm:X.calm=true)(b:BlkScope X scope)(cp:Caps X scope N own ix)(his:∀j∈is,j<own)(hi:PDI X tg iter f)
  (a:∀s H fp pz,PDG (blk X scope N s H fp pz) tg is st) (i:∀s H fp pz,nU (blk X scope N s H fp pz) ifs (tB' X.K c)) (he:∀s H fp pz,PDE (blk X scope N s H fp pz) elt e)
  (hnames:∀y∈scope.names,y.2=.local->scope.names.lookup y.1=some .local:=by decide)
  (h:FsI iter X:=by intro _;rfl):PDO X (.ListComp elt [⟨tg,iter,ifs,0⟩] scope pos) (asL (aw own ix f st c e)):=
 (CA (g:=tG X.K is st) (tc:=tB' X.K c) (te:=tD X.K e) hcalm b cp hi a i he hnames h).imp (qK his)
end
def GT(n:Nat)(f:Dl):Prop:=∀ρ ds,f ρ=some ds->ds.length=n
def PDL(X:Cx)(es:List Expr)(n:Nat)(f:Dl):Prop:=PDA X es f/\GT n f
def aC:DF->Option (List D):=fun _=>some []
def ae(f:Dd)(g:Dl):DF->Option (List D):=fun a=>(f a).bind fun d=>(g a).map fun r=>d::r
def ax:PDL X [] 0 aC:=⟨PA.imp ba fun c H Q=>un7 fun P F a x b I k=>by
 cases b;exact k [] F H (Evo.refl I.toDHp) .nil,fun a e h=>by cases h;rfl⟩
def af{n:Nat}{g:Dl}(h:PDE X e f)(i:PDL X es n g)(o:starEach (e::es) X.env=(false,eval e X.env)::starEach es X.env:=by rfl):PDL X (e::es) (n+1) (ae f g):=
 ⟨PA.imp (au h i.1 o) fun w H Q=>un7 fun P F b x a I k=>by
  unfold ae at a;cases q:f b with
  |none=>rw[q]at a;cases a
  |some d=>
   rw[q,Ya]at a;cases c:g b with
   |none=>rw[c]at a;cases a
   |some y=>
    rw[c]at a;cases a;exact⟨P,F,b,d,q,I,fun v u A l r1=>⟨P,u,b,y,c,I.evo l,fun m s p j r2=>k (v::m) s p (l.trans j) (.cons (r1.same j.ext) r2)⟩⟩,fun b z a=>by
  unfold ae at a;cases q:f b with
  |none=>rw[q]at a;cases a
  |some d=>
   rw[q,Ya]at a;cases c:g b with
   |none=>rw[c]at a;cases a
   |some y=>
    rw[c]at a;cases a;rw[Yz,i.2 b y c]⟩
def asT(f:Dl):DF->Option D:=fun ρ=>(f ρ).map .tup
def aZ{x1}{n:Nat}{f:Dl}(h:PDL X es n f)(i:n<=16777216:=by decide):PDE X (.Tuple es x1 pos) (asT f):=(yA h.1).imp fun j H Q=>un7 fun P F b d a I k=>by
 unfold asT at a;cases q:f b with
 |none=>rw[q]at a;cases a
 |some g=>
  rw[q]at a;cases a;refine⟨P,F,b,g,q,I,fun l o m e r1=>⟨by rw[r1.length,h.2 b g q,YV];exact i,fun p c=>?_⟩⟩;exact k (.ref p) _ _ (e.trans (Evo.laid e.hp c)) (.tup a8 (r1.same (kC (e.hp.free c).1)))
def fu{n:Nat}{f:Dl}(h:PDL X es n f)(i:n<=16777216:=by decide):PDO X (.List es pos) (asL f):=(zz h.1).imp fun l H Q=>un7 fun P F b o a I k=>by
 unfold asL at a;cases q:f b with
 |none=>rw[q]at a;cases a
 |some g=>
 rw[q]at a;cases a;refine⟨P,F,b,g,q,I,fun m j s e r1=>⟨by rw[r1.length,h.2 b g q,YV];exact i,fun p c=>?_⟩⟩;exact k p j _ (e.trans (Evo.side e.hp c)) ⟨⟨e.back I.toDHp c,(e.hp.free c).1⟩,_,a8,r1⟩
def Reps.atI{F:Hp}{i:Int}{d:D}(r:Reps K F vs ds)(h:atI ds i=some d):∃v,atI vs i=some v/\Rep K F v d:=by
 unfold L2.atI at h ⊢;rw[r.length];cases q:ixN ds.length i with
 |none=>rw[q]at h;cases h
 |some j=>
  rw[q,Ya]at h;obtain⟨v,b,a⟩:=r.get h;exact⟨v,b,a⟩
def ixD:D->D->Option D
 |.lst ds,.int i=>atI ds i
 |.tup ds,.int i=>atI ds i
 |.str z,.int i=>if z.length<=16777216 then(atI z.cps.toList i).map fun c=>.str ⟨#[c]⟩else none
 |_,_=>none
def FC:tu K (rIx K) ixD:=by
 intro P F H s o x y w u d Q h I e b k;unfold ixD at h;split at h
 ·obtain⟨p,a,rfl,l,j⟩:=eN I e;obtain⟨v,g,f⟩:=j.atI h;exact .inl ⟨p,a,_,v,rfl,dt b,l,g,k v F H (Evo.refl I.toDHp) f⟩
 ·obtain⟨p,a,rfl,l,j⟩:=jN I e;obtain⟨v,g,f⟩:=j.atI h;exact .inr (.inl ⟨p,a,_,v,rfl,dt b,l,g,k v F H (Evo.refl I.toDHp) f⟩)
 ·split at h
  ·rename_i z i m;cases q:atI z.cps.toList i with
   |none=>rw[q]at h;cases h
   |some c=>
    rw[q]at h;cases h;exact .inr (.inr ⟨z,i,c,mE e,dt b,by rw[YV];exact m,q,k _ F H (Evo.refl I.toDHp) .str⟩)
  ·cases h
 ·cases h
def aq(e:PDR X a fa)(c:PDR X b fb)(h:rl b:=by exact fun _ _=>rfl):PDE X (.Subscript a b pos) (d2 ixD fa fb):=(zk uH e c h).imp (rA FC)
def Gb:R2:=fun x y H Q=>(∃i j,x=.int i/\y=.int j/\Q (.int (i+j)) H)\/∃i j,x=.str i/\y=.str j/\i.length+j.length<=sizeLine/\Q (.str (i++j)) H
def Gi(c:PDR X a fa)(h:PDR X b fb):PDE X (.Compare a [.GtE] [b] pos) (d2 geI fa fb):=C6 Gu (qL fun _ _ _=>.bl) c h (gJ _)
def iy(c:PDR X a fa)(h:PDR X b fb):PDT X (.Compare a [.Gt] [b] pos) (asB (d2 gtI fa fb)):=A5 G0 (qL fun _ _ _=>.bl) c h (gJ _)
def dN(f g:Dk):DF->Option Bool:=fun a=>(f a).bind fun b=>if b=true then g a else some false
def orT(f g:Dk):DF->Option Bool:=fun a=>(f a).bind fun b=>if b=true then some true else g a
def cw(f:Dk):DF->Option Bool:=fun ρ=>(f ρ).map fun b=>!b
def PDW(X:Cx)(e:Expr)(f:Dk):Prop:=PW X e (tB' X.K f)
def PDW.t{f:Dk}(h:PDW X e f):PDT X e f:=PW.pt h
def PW.imp{t t':TT}(h:PW X e t)(i:∀σ H Q,t' σ H Q->t σ H Q):PW X e t':=fun w p s σ H Q I q=>h w p s σ H Q I (i σ H Q q)
def d_{f:Dk}(h:PDT X a f):PDW X (.BoolOp .And [a] pos) f:=BM h
def el{f:Dk}(h:PDT X a f):PDW X (.BoolOp .Or [a] pos) f:=EV h
def dZ{cc:List Expr}{f g:Dk}(l:PDT X a f)(j:PDW X (.BoolOp .And (b::cc) pos) g):PDW X (.BoolOp .And (a::b::cc) pos) (dN f g):=PW.imp (Es l j) fun u H Q=>un7 fun P F c r h I k=>by
 unfold dN at h;cases q:f c with
 |none=>rw[q]at h;cases h
 |some x=>
  rw[q,Ya]at h;refine⟨P,F,c,x,q,I,fun i p e=>?_⟩;cases x with
  |true=>rw[Yh rfl]at h ⊢;exact⟨P,i,c,r,h,I.evo e,fun s o m=>k s o (e.trans m)⟩
  |false=>rw[Yl Yk]at h ⊢;cases h;exact k i p e
def dU{cc:List Expr}{f g:Dk}(l:PDT X a f)(j:PDW X (.BoolOp .Or (b::cc) pos) g):PDW X (.BoolOp .Or (a::b::cc) pos) (orT f g):=PW.imp (F8 l j) fun u H Q=>un7 fun P F c r h I k=>by
 unfold orT at h;cases q:f c with
 |none=>rw[q]at h;cases h
 |some x=>
  rw[q,Ya]at h;refine⟨P,F,c,x,q,I,fun i p e=>?_⟩;cases x with
  |true=>rw[Yh rfl]at h ⊢;cases h;exact k i p e
  |false=>rw[Yl Yk]at h ⊢;exact⟨P,i,c,r,h,I.evo e,fun s o m=>k s o (e.trans m)⟩
def bM{f:Dk}(c:PDT X a f):PDT X (.UnaryOp .Not a pos) (cw f):=(EC c).imp fun j H Q=>un7 fun P F b r h I k=>by
 unfold cw at h;cases q:f b with
 |none=>rw[q]at h;cases h
 |some x=>rw[q]at h;cases h;exact⟨P,F,b,x,q,I,fun i g e=>k i g e⟩
def nQ(f g:Dd):DF->Option D:=fun a=>match f a with
 |some (.bl true)=>g a
 |some (.bl false)=>some (.bl false)
 |_=>none
def orV(f g:Dd):DF->Option D:=fun a=>match f a with
 |some (.bl false)=>g a
 |some (.bl true)=>some (.bl true)
 |_=>none
def Bx(f:Dd):DF->Option D:=fun a=>match f a with
 |some (.bl b)=>some (.bl (!b))
 |_=>none
def nJ{op}(h:PDE X a f):PDE X (.BoolOp op [a] pos) f:=yB h
def iD{cc:List Expr}{g:Dd}(m:PDE X a f)(l:PDE X (.BoolOp .And (b::cc) pos) g):PDE X (.BoolOp .And (a::b::cc) pos) (nQ f g):=(E4 m l).imp fun u H Q=>un7 fun P F c r h I k=>by
 unfold nQ at h;split at h
 ·rename_i q;refine⟨P,F,c,_,q,I,fun v i j e r1=>?_⟩;cases r1;exact⟨true,rfl,by rw[Yh rfl];exact⟨P,i,c,r,h,I.evo e,fun v s p o r2=>k v s p (e.trans o) r2⟩⟩
 ·rename_i q;refine⟨P,F,c,_,q,I,fun v i j e r1=>?_⟩;cases r1;cases h;exact⟨false,rfl,by rw[Yl Yk];exact k _ i j e .bl⟩
 ·cases h
def Ea(c:PDE X a f):PDE X (.UnaryOp .Not a pos) (Bx f):=(xQ c).imp fun j H Q=>un7 fun P F b r h I k=>by
 unfold Bx at h;split at h
 ·rename_i q;cases h;refine⟨P,F,b,_,q,I,fun v i g e r1=>?_⟩;cases r1;exact⟨_,rfl,k _ i g e .bl⟩
 ·cases h
def ifV(c:Dk)(f g:Dd):DF->Option D:=fun a=>(c a).bind fun b=>if b=true then f a else g a
def zP{fc:Dk}{g:Dd}(p:PDT X c fc)(u:PDE X a f)(s:PDE X b g):PDE X (.IfExp c a b pos) (ifV fc f g):=(yN p u s).imp fun w H Q=>un7 fun P F e r h I k=>by
 unfold ifV at h;cases q:fc e with
 |none=>rw[q]at h;cases h
 |some x=>
  rw[q,Ya]at h;refine⟨P,F,e,x,q,I,fun o y i=>?_⟩;cases x with
  |true=>rw[Yh rfl]at h ⊢;exact⟨P,o,e,r,h,I.evo i,fun v m l j r2=>k v m l (i.trans j) r2⟩
  |false=>rw[Yl Yk]at h ⊢;exact⟨P,o,e,r,h,I.evo i,fun v m l j r2=>k v m l (i.trans j) r2⟩
def Go(K:Kq)(r:List V->Hp->VK->Prop)(f:D->Option D):Prop:=
 ∀(P F H:Hp) (g:DF) (e:St) (x:V) (a d:D) (Q:VK),f a=some d->DInv K P F H g e->RepS K H F x a->(∀v c b,Evo P F H c b->Rep K c v d->Q v b)->r [x] H Q
def d1(f:D->Option D)(fa:Dd):DF->Option D:=fun a=>(fa a).bind f
def DM{r:List V->Hp->VK->Prop}{f:D->Option D}(j:Go K r f):∀σ H Q,tD K (d1 f fa) σ H Q->tCB r (lJ (tR K fa) tf) σ H Q:=fun σ H Q=>un7 fun P F a d h I k=>by
 unfold d1 at h;cases b:fa a with
 |none=>rw[b]at h;cases h
 |some c=>
  rw[b,Ya]at h;exact⟨P,F,a,c,b,I,fun x q o e g=>j P q o a σ x c d Q h (I.evo e) g fun v p m l i=>k v p m (e.trans l) i⟩
def aG:D->Option D
 |.lst ds=>some (.int ds.length)
 |.tup ds=>some (.int ds.length)
 |.str z=>if z.length<=16777216 then some (.int z.length)else none
 |_=>none
def FE(K:Kq):List V->Hp->VK->Prop:=fun x H Q=>(∃p y,x=[.ref p]/\(SqL K H p y\/SqT K H p y)/\Q (.int y.length) H)\/∃z,x=[.str z]/\z.length<=sizeLine/\Q (.int z.length) H
mutual
def de:D->PyData
 |.non=>.none
 |.bl b=>.bool b
 |.int i=>.int i
 |.str x=>.str x
 |.tup xs=>.tuple (dE xs)
 |.lst xs=>.list (dE xs)
 |.dT _=>.none
 |.dK _=>.none
 |.ins _ _=>.none
 |.fn _ _ _=>.none
def dE:List D->List PyData
 |[]=>[]
 |d::ds=>de d::dE ds
end
def okN:Nat->D->Bool
 |_,.non=>true
 |_,.bl _=>true
 |_,.int _=>true
 |_,.str x=>PyData.strOk x
 |n+1,.tup xs=>xs.all (okN n)
 |n+1,.lst xs=>xs.all (okN n)
 |_,_=>false
def bU{n:Nat}:∀{ds:List D},ds.all (okN n)=true->∀d∈ds,okN n d=true:=fun h d a=>Yr.mp h d a
def cY:∀(n:Nat) (d:D),okN n d=true->(de d).canLay0=true/\(de d).depth<=n+1:=by
 intro n;induction n with
 |zero=>
  intro d h;cases d with
  |non=>exact⟨rfl,by simp[de,PyData.depth]⟩
  |bl b=>exact⟨rfl,by simp[de,PyData.depth]⟩
  |int b=>exact⟨rfl,by simp[de,PyData.depth]⟩
  |str b=>exact⟨h,by simp[de,PyData.depth]⟩
  |_=>cases h
 |succ n ih=>
  have all:∀c:List D,c.all (okN n)=true->PyData.canLayAll0 (dE c)=true/\PyData.depthAll (dE c)<=n+1:=by
   intro c;induction c with
   |nil=>intro _;exact⟨rfl,by simp[dE,PyData.depthAll]⟩
   |cons x r i=>
    intro h;rw[List.all_cons,Yg]at h;obtain⟨a,e⟩:=ih x h.1;obtain⟨f,g⟩:=i h.2;refine⟨?_,?_⟩
    ·show(PyData.canLay0 (de x)&&PyData.canLayAll0 (dE r))=true;rw[a,f];rfl
    ·show PyData.depthAll (de x::dE r)<=n+1;simp only[PyData.depthAll];omega
  intro d h;cases d with
  |non=>exact⟨rfl,by simp[de,PyData.depth]⟩
  |bl b=>exact⟨rfl,by simp[de,PyData.depth]⟩
  |int b=>exact⟨rfl,by simp[de,PyData.depth]⟩
  |str b=>exact⟨h,by simp[de,PyData.depth]⟩
  |tup xs=>
   obtain⟨a,e⟩:=all xs h;exact⟨a,by simp only[de,PyData.depth];omega⟩
  |lst xs=>
   obtain⟨a,e⟩:=all xs h;exact⟨a,by simp only[de,PyData.depth];omega⟩
  |_=>cases h
def Reps.readsOf{n:Nat}(ih:∀{v:V}{d:D}{u:Value},Rep X.K H v d->okN n d=true->RelV v u->∃as,Reads s.heap u (de d) as)(h:Reps X.K H vs ds):∀us:List Value,(∀d∈ds,okN n d=true)->Vals vs us->∃as,ReadsAll s.heap us (dE ds) as:=
 Reps.ind (M:=fun vs ds=>∀us:List Value,(∀d∈ds,okN n d=true)->Vals vs us->∃as,ReadsAll s.heap us (dE ds) as) (fun us _ r=>by cases r;exact⟨_,.nil⟩) (fun h _ i us a r=>by
  cases r with
  |cons r t=>
   obtain⟨e,r1⟩:=ih h (a _ Yf) r;obtain⟨c,r2⟩:=i _ (fun d b=>a d (Yd _ b)) t;exact⟨_,.cons r1 r2⟩) h
def Rep.reads1(I:Inv X pz σ H s)(n:Nat)(ih:∀m,n=m+1->∀{v:V}{d:D}{u:Value},Rep X.K H v d->okN m d=true->RelV v u->∃as,Reads s.heap u (de d) as){v:V}{d:D}(h:Rep X.K H v d)(a:okN n d=true)(r:RelV v u):∃as,Reads s.heap u (de d) as:=by
 cases h with
 |non=>cases(show u=Value.none from r);exact⟨_,.none⟩
 |bl=>cases(show u=Value.bool _ from r);exact⟨_,.bool _⟩
 |int=>obtain⟨t,rfl⟩:=(show ∃t,u=Value.int _ t from r);exact⟨_,.int _ _⟩
 |str=>obtain⟨t,rfl⟩:=(show ∃t,u=Value.str _ t from r);exact⟨_,.str _ _⟩
 |tup h q=>
  cases n with
  |zero=>cases a
  |succ m=>
   cases(show u=Value.ref _ from r);obtain⟨i,b,e,_⟩:=I.tuple (SqT.of h);obtain⟨as,c⟩:=Reps.readsOf (ih m rfl) q _ (bU a) b;obtain⟨o,j,g,m,f⟩:=e;exact⟨_,.tuple j g f (by simpa using c)⟩
 |lst h q=>
  cases n with
  |zero=>cases a
  |succ m=>
   cases(show u=Value.ref _ from r);obtain⟨i,b,e,_⟩:=I.list h;obtain⟨as,c⟩:=Reps.readsOf (ih m rfl) q _ (bU a) b;obtain⟨o,m,j,g,_,f⟩:=e;exact⟨_,.list j g f (by simpa using c)⟩
 |_=>cases n<;>cases a
def Rep.reads(I:Inv X pz σ H s)(n:Nat):∀{v:V}{d:D}{u:Value},Rep X.K H v d->okN n d=true->RelV v u->∃as,Reads s.heap u (de d) as:=by
 induction n with
 |zero=>exact fun h a r=>Rep.reads1 I 0 (fun m e=>by cases e) h a r
 |succ n ih=>exact fun h a r=>Rep.reads1 I (n+1) (fun m e=>by cases e;exact ih) h a r
def eqd(x y:D):Bool:=PyData.eqv (de x) (de y)
def eqD(x y:D):Option D:=if(okN 30 x&&okN 30 y)=true then some (.bl (eqd x y))else none
def neD(x y:D):Option D:=if(okN 30 x&&okN 30 y)=true then some (.bl (!eqd x y))else none
def Ca(K:Kq)(g:Bool->Bool):R2:=fun x y H Q=>∃b a,Rep K H x b/\Rep K H y a/\okN 30 b=true/\okN 30 a=true/\Q (.bl (g (eqd b a))) H
def uY(g:X.A.units+64<cLine):OpR X (compareOp .Eq) (Ca X.K fun b=>b):=by
 intro z s w H x y v u Q I e c h;obtain⟨p,m,j,i,a,o,q⟩:=h;obtain⟨J,r1⟩:=j.reads I 30 a e;obtain⟨E,r2⟩:=i.reads I 30 o c;obtain⟨f,C⟩:=cY 30 p a;obtain⟨l,B⟩:=cY 30 m o;refine PySem.SeqAt.compareEq_shaped r1 r2 ?_ ?_ g ⟨.bl _,H,I,rfl,q⟩
 ·unfold PySem.SeqAt.shaped;rw[f,Ze,Yu];omega
 ·unfold PySem.SeqAt.shaped;rw[l,Ze,Yu];omega
def yu(g:X.A.units+64<cLine):OpR X (compareOp .NotEq) (Ca X.K fun b=>!b):=by
 intro z s w H x y v u Q I e c h;obtain⟨p,m,j,i,a,o,q⟩:=h;obtain⟨J,r1⟩:=j.reads I 30 a e;obtain⟨E,r2⟩:=i.reads I 30 o c;obtain⟨f,C⟩:=cY 30 p a;obtain⟨l,B⟩:=cY 30 m o;refine PySem.SeqAt.compareNe_shaped r1 r2 ?_ ?_ g ⟨.bl _,H,I,rfl,q⟩
 ·unfold PySem.SeqAt.shaped;rw[f,Ze,Yu];omega
 ·unfold PySem.SeqAt.shaped;rw[l,Ze,Yu];omega
def xR:OpN2 K (Ca K fun b=>b) eqD:=by
 intro P F H x y i g d Q a f e c k;unfold eqD at a;split at a
 ·rename_i h;rw[Yg]at h;cases a;exact⟨i,g,e,c,h.1,h.2,k _ F H (Evo.refl f) .bl⟩
 ·cases a
def yY:OpN2 K (Ca K fun b=>!b) neD:=by
 intro P F H x y i g d Q a f e c k;unfold neD at a;split at a
 ·rename_i h;rw[Yg]at h;cases a;exact⟨i,g,e,c,h.1,h.2,k _ F H (Evo.refl f) .bl⟩
 ·cases a
def vx(h:X.A.units+64<cLine)(e:PDN X a fa)(c:PDN X b fb):PDE X (.Compare a [.Eq] [b] pos) (d2 eqD fa fb):=ut (uY h) xR e c (gJ _)
def Gm(h:X.A.units+64<cLine)(e:PDN X a fa)(c:PDN X b fb):PDE X (.Compare a [.NotEq] [b] pos) (d2 neD fa fb):=ut (yu h) yY e c (gJ _)
def dX(h:X.A.units+64<cLine)(e:PDN X a fa)(c:PDN X b fb):PDT X (.Compare a [.Eq] [b] pos) (asB (d2 eqD fa fb)):=kf (uY h) xR e c (gJ _)
def g_(h:X.A.units+64<cLine)(e:PDN X a fa)(c:PDN X b fb):PDT X (.Compare a [.NotEq] [b] pos) (asB (d2 neD fa fb)):=kf (yu h) yY e c (gJ _)
def eF:D->Option (List D)
 |.lst ds=>some ds
 |.tup ds=>some ds
 |_=>none
def inD(x y:D):Option D:=(eF y).bind fun a=>if(okN 30 x&&a.all (okN 29))=true then some (.bl (a.any fun z=>eqd z x))else none
def cn(x y:D):Option D:=(eF y).bind fun a=>if(okN 30 x&&a.all (okN 29))=true then some (.bl (!a.any fun z=>eqd z x))else none
def AX(K:Kq)(g:Bool->Bool):R2:=fun x y H Q=>∃a c b,Rep K H x a/\Rep K H y c/\eF c=some b/\okN 30 a=true/\b.all (okN 29)=true/\Q (.bl (g (b.any fun z=>eqd z a))) H
def gj(x:D):∀ds:List D,(dE ds).any (fun y=>PyData.eqv y (de x))=ds.any fun z=>eqd z x
 |[]=>rfl
 |d::ds=>by
  show((PyData.eqv (de d) (de x))||(dE ds).any _)=_;rw[gj x ds];rfl
def EA(L:X.A.units+64<cLine):OpR X (compareOp .In) (AX X.K fun b=>b):=by
 intro J s E H x y v u Q I m e h;obtain⟨j,B,a,z,i,c,f,o,q⟩:=h;obtain⟨N,r1⟩:=z.reads I 30 f m;obtain⟨g,w⟩:=cY 30 j f;have M:min (PyData.depthAll (dE a)) (de j).depth<=31:=YC (Nat.min_le_right _ _) w;cases B with
 |lst xs=>
  cases c;obtain⟨C,r2⟩:=i.reads I 30 (d:=.lst a) o e;obtain⟨l,p⟩:=cY 30 (.lst a) o;exact PySem.SeqAt.in_list_reads r2 r1 l g (by omega) ⟨.bl _,H,I,(by show Value.bool _=Value.bool _;rw[gj]),q⟩
 |tup xs=>
  cases c;obtain⟨C,r2⟩:=i.reads I 30 (d:=.tup a) o e;obtain⟨l,p⟩:=cY 30 (.tup a) o;exact PySem.SeqAt.in_tuple_reads r2 r1 l g (by omega) ⟨.bl _,H,I,(by show Value.bool _=Value.bool _;rw[gj]),q⟩
 |_=>cases c
def we(L:X.A.units+64<cLine):OpR X (compareOp .NotIn) (AX X.K fun b=>!b):=by
 intro J s E H x y v u Q I m e h;obtain⟨j,B,a,z,i,c,f,o,q⟩:=h;obtain⟨N,r1⟩:=z.reads I 30 f m;obtain⟨g,w⟩:=cY 30 j f;have M:min (PyData.depthAll (dE a)) (de j).depth<=31:=YC (Nat.min_le_right _ _) w;cases B with
 |lst xs=>
  cases c;obtain⟨C,r2⟩:=i.reads I 30 (d:=.lst a) o e;obtain⟨l,p⟩:=cY 30 (.lst a) o;exact PySem.SeqAt.notIn_list_reads r2 r1 l g (by omega) ⟨.bl _,H,I,(by show Value.bool _=Value.bool _;rw[gj]),q⟩
 |tup xs=>
  cases c;obtain⟨C,r2⟩:=i.reads I 30 (d:=.tup a) o e;obtain⟨l,p⟩:=cY 30 (.tup a) o;exact PySem.SeqAt.notIn_tuple_reads r2 r1 l g (by omega) ⟨.bl _,H,I,(by show Value.bool _=Value.bool _;rw[gj]),q⟩
 |_=>cases c
def DJ:OpN2 K (AX K fun b=>b) inD:=by
 intro P F H x y i c d Q a g f e k;unfold inD at a;cases q:eF c with
 |none=>rw[q]at a;cases a
 |some j=>
  rw[q,Ya]at a;split at a
  ·rename_i h;rw[Yg]at h;cases a;exact⟨i,c,j,f,e,q,h.1,h.2,k _ F H (Evo.refl g) .bl⟩
  ·cases a
def wz:OpN2 K (AX K fun b=>!b) cn:=by
 intro P F H x y i c d Q a g f e k;unfold cn at a;cases q:eF c with
 |none=>rw[q]at a;cases a
 |some j=>
  rw[q,Ya]at a;split at a
  ·rename_i h;rw[Yg]at h;cases a;exact⟨i,c,j,f,e,q,h.1,h.2,k _ F H (Evo.refl g) .bl⟩
  ·cases a
def yd(h:X.A.units+64<cLine)(f:PDN X a fa)(e:PDN X b fb)(c:behindInMarks .In b=false:=by with_unfolding_all rfl):PDT X (.Compare a [.In] [b] pos) (asB (d2 inD fa fb)):=kf (EA h) DJ f e c
def h_(h:X.A.units+64<cLine)(f:PDN X a fa)(e:PDN X b fb)(c:behindInMarks .NotIn b=false:=by with_unfolding_all rfl):PDT X (.Compare a [.NotIn] [b] pos) (asB (d2 cn fa fb)):=kf (we h) wz f e c
section
variable  {l:Expr} 
def bK(f:Dd):DF->Option (List D):=fun a=>match f a with
 |some (.lst ds)=>some ds
 |_=>none
def jB(f:Dd):DF->Option (List D):=fun a=>match f a with
 |some (.tup ds)=>some ds
 |_=>none
def AN(h:bK f ρ=some ds):f ρ=some (.lst ds):=by
 unfold bK at h;split at h
 ·rename_i q;cases h;exact q
 ·cases h
def AL(h:jB f ρ=some ds):f ρ=some (.tup ds):=by
 unfold jB at h;split at h
 ·rename_i q;cases h;exact q
 ·cases h
def o4{F:Hp}{a:Addr}(h:SqL K F a vs)(r:Reps K F vs ds):ue K P (Itl K a) F ds:=by intro p H e c i;have b:SqL K H a vs:=c.sub.seq (e.seq h);refine⟨fun d m=>?_,fun l=>⟨vs,b,by rw[r.length];exact l⟩⟩;obtain⟨v,f,o⟩:=r.get m;refine⟨⟨vs,v,b,f⟩,fun x q g=>?_⟩;obtain⟨rfl,j⟩:=g;have:=j vs b;rw[f]at this;cases this;exact⟨p,Evo.refl c,o.same e⟩
def zJ{F:Hp}{a:Addr}(h:SqT K F a vs)(r:Reps K F vs ds):ue K P (Itt K a) F ds:=by intro p H e c i;have b:SqT K H a vs:=c.sub.seqT (e.seqT h);refine⟨fun d m=>?_,fun l=>⟨vs,b,by rw[r.length];exact l⟩⟩;obtain⟨v,f,o⟩:=r.get m;refine⟨⟨vs,v,b,f⟩,fun x q g=>?_⟩;obtain⟨rfl,j⟩:=g;have:=j vs b;rw[f]at this;cases this;exact⟨p,Evo.refl c,o.same e⟩
def eM(h:PDE X l f):PDI X tg l (bK f):=PI.imp (vO h) fun j H R=>un7 fun P F a m c I k=>by
 refine⟨P,F,a,_,AN c,I,fun v i g e b=>?_⟩;cases b with
 |lst h1 h2=>exact⟨_,rfl,⟨_,e.hp.sub.seq h1⟩,k _ i g e (o4 h1 h2)⟩
def wc(h:PDE X l f):PDI X tg l (jB f):=PI.imp (EN h) fun j H R=>un7 fun P F a m c I k=>by
 refine⟨P,F,a,_,AL c,I,fun v i g e b=>?_⟩;cases b with
 |tup h1 h2=>exact⟨_,rfl,⟨_,SqT.of (e.hp.sub _ _ h1)⟩,k _ i g e (zJ (SqT.of h1) h2)⟩
def bA(i:Nat):DF->Option (List D):=fun a=>match a[i]? with
 |some (some (.bor (.lst ds)))=>some ds
 |some (some (.v (.lst ds)))=>some ds
 |_=>none
def yb{F:Hp}{a:Addr}(h:P a=some (.lst vs))(r:Reps K F vs ds):ue K P (Itl K a) F ds:=by intro p H e c i;have b:SqL K H a vs:=SqL.of (c.pro _ _ h);refine⟨fun d m=>?_,fun l=>⟨vs,b,by rw[r.length];exact l⟩⟩;obtain⟨v,f,o⟩:=r.get m;refine⟨⟨vs,v,b,f⟩,fun x q g=>?_⟩;obtain⟨rfl,j⟩:=g;have:=j vs b;rw[f]at this;cases this;exact⟨p,Evo.refl c,o.same e⟩
def Bp(i:Nat)(h:PE X l (eI i)):PDI X tg l (bA i):=PI.imp (vO h) fun m H R=>un7 fun P F o p b I k=>by
 unfold bA at b;split at b
 ·rename_i g q;cases b;obtain⟨v,f,a,rfl,_,u,c,e⟩:=I.at q;cases u with
  |lst vs=>exact⟨_,f,a,rfl,⟨vs,SqL.of (I.pro _ _ c)⟩,k _ F H (Evo.refl I.toDHp) (yb c e)⟩
  |_=>exact e.elim
 ·rename_i g q;cases b;obtain⟨v,f,j⟩:=I.at q;cases j with
  |lst c e=>exact⟨_,f,_,rfl,⟨_,I.sub.seq c⟩,k _ F H (Evo.refl I.toDHp) (o4 c e)⟩
 ·cases b
def cq(lo:Int)(n:Nat):List D:=(List.range n).map fun i:Nat=>.int (lo+(i:Int))
def vg{lo:Int}{n:Nat}{d:D}(h:(cq lo n)[i]?=some d):i<n/\d=.int (lo+(i:Int)):=by
 unfold cq at h;rw[Yt]at h;by_cases a:i<n
 ·rw[Xc a,Zv]at h;cases h;exact⟨a,rfl⟩
 ·rw[ZD (by rw[ZA];omega)]at h;cases h
def uj(lo:Int)(n:Nat):(cq lo n).length=n:=by unfold cq;rw[Yb,ZA]
def nO{F:Hp}(lo:Int)(n:Nat):ue K P (Itr lo n) F (cq lo n):=by intro g j e b i;refine⟨fun d f=>?_,fun h=>by rw[uj]at h;exact h⟩;obtain⟨c,rfl⟩:=vg f;refine⟨c,fun x H a=>?_⟩;obtain⟨rfl,rfl⟩:=a;exact⟨g,Evo.refl b,.int⟩
def bJ(f:Dd):DF->Option (List D):=fun a=>match f a with
 |some (.int j)=>if -(2^62)<=j/\j<2^62 then some (cq 0 j.toNat)else none
 |_=>none
def mq(f g:Dd):DF->Option (List D):=fun a=>match f a,g a with
 |some (.int i),some (.int j)=>if -(2^62)<=i/\i<2^62/\-(2^62)<=j/\j<2^62 then some (cq i (j-i).toNat)else none
 |_,_=>none
def a_(i:Gl X "range")(g:X.mg "range"=none)(l:PDR X a f)(b:StO a X:=by rfl):PDI X tg (.Call (.Name "range" p) [a] [] pos) (bJ f):=
 PI.imp (wA i g (au l ba b) b) fun u H R=>un7 fun P F e w h I k=>by
  unfold bJ at h;split at h
  ·rename_i j q;split at h
   ·rename_i c;cases h;refine⟨P,F,e,_,q,I,fun v s o m r1=>⟨j,by rw[dt r1],c.1,c.2,k _ s o m (nO 0 _)⟩⟩
   ·cases h
  ·cases h
def jw{g:Dd}(w:Gl X "range")(s:X.mg "range"=none)(y:PDR X a f)(x:PDR X b g)(l:starEach [a,b] X.env=[(false,eval a X.env),(false,eval b X.env)]:=by rfl)(h:starEach [b] X.env=[(false,eval b X.env)]:=by rfl):PDI X tg (.Call (.Name "range" p) [a,b] [] pos) (mq f g):=
 PI.imp (w4 w s (au y (au x ba h) (by rw[l,h])) l h) fun E H R=>un7 fun P F e K c I k=>by
  unfold mq at c;split at c
  ·rename_i i j o q;split at c
   ·rename_i u;cases c;refine⟨P,F,e,_,o,I,fun v C L m r1=>⟨P,C,e,_,q,I.evo m,fun J B A z r2=>⟨i,j,by rw[dt r1,dt r2],u,k _ B A (m.trans z) (nO i _)⟩⟩⟩
   ·cases c
  ·cases c
def tH:List Nat->List D->DF->Option DF
 |[],[],ρ=>some ρ
 |i::is,d::ds,ρ=>tH is ds (ρ.set i (some (.v d)))
 |_,_,_=>none
def b5(is:List Nat)(d:D)(ρ:DF):Option DF:=match d with
 |.tup ds=>tH is ds ρ
 |_=>none
def vf:List Nat->TGs
 |[]=>F7
 |i::is=>CH (lI i) (vf is)
def pQ{F:Hp}{Q:St->Hp->Prop}:∀(is:List Nat) (vs:List V) (ds:List D) (ρ ρ':DF) (σ:St),Reps K F vs ds->tH is ds ρ=some ρ'->DInv K P F H ρ σ->
  (∀a,DInv K P F H ρ' a->a.length=σ.length->(∀j,j∉is->a[j]?=σ[j]?)->Q a H)->vf is vs σ H Q
 |[],vs,ds,ρ,ρ',σ,r,hs,I,k=>by
  cases r with
  |nil=>cases hs;exact⟨rfl,k σ I rfl fun _ _=>rfl⟩
  |cons _ _=>cases hs
 |i::is,vs,ds,ρ,ρ',σ,r,hs,I,k=>by
  cases r with
  |nil=>cases hs
  |cons h q=>
   refine⟨_,_,rfl,pQ is _ _ _ ρ' _ q hs (I.setV i h) fun a f c e=>k a f (by rw[c,YQ]) fun j b=>?_⟩;rw[e j (fun z=>b (Yd _ z)),YA (fun z=>b (by rw[z];exact Yf))]
def ph:∀(is:List Nat) (ds:List D) (ρ ρ':DF),tH is ds ρ=some ρ'->ds.length=is.length
 |[],[],_,_,_=>rfl
 |[],_::_,_,_,h=>by cases h
 |_::_,[],_,_,h=>by cases h
 |i::is,d::ds,ρ,ρ',h=>by rw[Yz,Yz,ph is ds _ _ h]
def cL{k:Nat}(p:X.calm=true)(h:PGs X es (vf is))(l:(assignEach es X.env).length=is.length:=by rfl)(c:(assignEach es X.env).findIdx? (·.1)=none:=by rfl):PDG X (.Tuple es k pos) is (b5 is):=
 PG.imp (DE (n:=is.length) p h l c) fun v i H Q f=>by
  obtain⟨P,F,g,d,a,e,I,r,j⟩:=f;cases d with
  |tup ds=>
   cases r with
   |tup h1 h2=>
    exact⟨_,_,rfl,SqT.of (I.sub _ _ h1),by rw[h2.length];exact ph is ds g a e,pQ is _ ds g a i h2 e I fun b q m o=>j b F H (Evo.refl I.toDHp) q m o⟩
  |_=>cases e
def gQ(is:List Nat)(f:Dd):DF->Option RES:=fun a=>(f a).bind fun d=>(b5 is d a).map .nx
def qY{k:Nat}(m:PDG X (.Tuple es k pos') is (b5 is))(he:PDE X e f)(l:swapsWithSole [.Tuple es k pos'] e pos.line X.env=pure false:=by rfl)(hw:swappedStores [.Tuple es k pos'] e X.env=pure none:=by rfl)
  (h1:(assignEach [.Tuple es k pos'] X.env).map (·.2)=[assign (.Tuple es k pos') X.env]:=by rfl):PD1 X (.Assign [.Tuple es k pos'] e pos) (gQ is f):=PS.imp (n9 he m l hw h1) fun E x H=>un7 fun P F a r h I j=>by
 unfold gQ at h;cases q:f a with
 |none=>rw[q]at h;cases h
 |some d=>
  rw[q,Ya]at h;cases g:b5 is d a with
  |none=>rw[g]at h;cases h
  |some c=>
   rw[g]at h;cases h;exact⟨P,F,a,d,q,I,fun v w y i r1=>⟨P,w,a,d,c,g,I.evo i,r1,fun b u s o p _ _=>j b u s (i.ext.trans o.ext) p⟩⟩
end
def DInv.mut{F:Hp}(I:DInv K P F H ρ σ){o:OD}{t:Option Addr}{a:Addr}{u:HO}(h:ρ[i]?=some (some (.own o t)))(M:o.flat=true)(p:o'.flat=true)(A:σ[i]?=some (some (.ref a)))(J:ORep1 K F o' u) :
  DInv K P F (upd H a u) (ρ.set i (some (.own o' t))) σ:=by
 obtain⟨O,B⟩:=I.rep;obtain⟨v,C,b,rfl,Q,E⟩:=B i _ h;rw[A]at C;cases C;obtain⟨⟨y,x,f⟩,U,X,_⟩:=(ORep.flat M).mp Q;refine⟨⟨fun c w e=>by rw[aU (bg e y)];exact I.sub c w e,fun c w e=>by rw[aU (bg e x)];exact I.pro c w e,I.dis⟩,by rw[YQ];exact I.len,O,fun j z L=>?_⟩;rcases jz L with⟨rfl,e,Y⟩|⟨m,l⟩
 ·cases e;exact⟨_,A,a,rfl,(ORep.flat p).mpr ⟨⟨y,x,f⟩,u,a8,J⟩,E⟩
 ·obtain⟨w,S,s⟩:=B j z l;refine⟨w,S,?_⟩;cases z with
  |v d'=>exact s
  |own od t'=>(obtain⟨c,rfl,R,g⟩:=s;exact⟨c,rfl,R.mono (Same.refl _) fun b T q N=>⟨by rw[aU (fun z=>by subst z;rw[q.2.2]at f;exact m (YG f).symm)];exact N,q⟩,g⟩)
  |bor od=>exact s
def eD(i:Nat)(f:Dd):DF->Option RES:=fun a=>match a[i]? with
 |some (some (.own (.lst ds) t))=>(f a).bind fun d=>if ds.length<16777216 then some (.nx (a.set i (some (.own (.lst (ds++[d])) t))))else none
 |_=>none
def jh{F:Hp}(I:DInv K P F H ρ σ){t:Option Addr}(q:ρ[i]?=some (some (.own (.lst ds) t))):∃a vs,σ[i]?=some (some (.ref a))/\F a=none/\P a=none/\H a=some (.lst vs)/\Reps K F vs ds:=by
 obtain⟨v,h,a,rfl,⟨⟨f,e,_⟩,u,c,b⟩,_⟩:=I.at q;cases u with
 |lst vs=>exact⟨a,vs,h,f,e,c,b⟩
 |_=>exact b.elim
def cU(i:Nat)(h:PE X o (eI i))(L:PDE X e f)(g:attributeBase o "append" X.env (eval o X.env)=eval o X.env:=by rfl)
  (j:((backTo cpos (starEach [e] X.env)).all (fun x=>!x.1)&&(backToKw cpos (keywordEach [] X.env)).all (fun x=>x.1.isSome)
   && decide (([e]:List Expr).length+([]:List Keyword).length+(if([]:List Keyword).isEmpty then 0 else 1)<30))=true:=by rfl)
  (c:(apos.endLine == cpos.line)=true:=by rfl) (y:StO e X:=by rfl) (p:swapsWith (.Call (.Attribute o "append" apos) [e] [] cpos) none pos.line X.env=pure false:=by rfl) :
  PD1 X (.Expr (.Call (.Attribute o "append" apos) [e] [] cpos) pos) (eD i f):=
 PS.imp (fV (l8 Zk Xy PySem.F.type_list_append k9 h (au L ba y) g j c y rfl) p) fun E C H=>un7 fun P F s r b I k=>by
  unfold eD at b;split at b
  ·rename_i S t q;cases m:f s with
   |none=>rw[m]at b;cases b
   |some d=>
    rw[m,Ya]at b;split at b
    ·rename_i K;cases b;obtain⟨a,w,B,M,R,A,z⟩:=jh I q;refine⟨_,B,.inl ⟨rfl,w,SqL.of A⟩,P,F,s,d,m,I,fun v O T l r1=>?_⟩;obtain⟨J,Q⟩:=l.keep a _ A M;have N:=I.evo l;refine⟨a,w,v,rfl,rfl,J,by rw[YV,z.length];exact K,k C O _ l.ext ?_⟩;exact N.mut (o':=.lst _) (u:=.lst _) q rfl rfl B ((z.same l.ext).append (.one r1))
    ·cases b
  ·cases b
def cr(i:Nat)(f g:Dd):DF->Option RES:=fun a=>match a[i]? with
 |some (some (.own (.lst ds) t))=>(g a).bind fun d=>(f a).bind fun
  |.int k=>(ixN ds.length k).map fun j=>.nx (a.set i (some (.own (.lst (ds.set j d)) t)))
  |_=>none
 |_=>none
def eP(i:Nat){ix:Expr}{g:Dd}(h:PE X o (eI i))(N:PDE X ix f)(M:PDE X e g)
  (O:∀v,assign (.Subscript o ix apos) X.env v=(do
   let m <-holding [v] (eval o X.env)
   let y <-holding [v,m] (eval ix X.env)
   standAt apos
   holding [v,m,y] (setItem m y v)
   release [v,m,y] []):=by intro _;rfl) (L:swapsWithSole [.Subscript o ix apos] e pos.line X.env=pure false:=by rfl) (hw:swappedStores [.Subscript o ix apos] e X.env=pure none:=by rfl)
  (h1:(assignEach [.Subscript o ix apos] X.env).map (·.2)=[assign (.Subscript o ix apos) X.env]:=by rfl) :
  PD1 X (.Assign [.Subscript o ix apos] e pos) (cr i f g):=
 PS.imp (n9 M (Ey h N zC O) L hw h1) fun E C H=>un7 fun P F l r b I k=>by
  unfold cr at b;split at b
  ·rename_i S t q;cases x:g l with
   |none=>rw[x]at b;cases b
   |some d=>
    rw[x,Ya]at b;cases s:f l with
    |none=>rw[s]at b;cases b
    |some T=>
     rw[s,Ya]at b;cases T with
     |int kk=>
      dsimp only at b;cases p:ixN S.length kk with
      |none=>rw[p]at b;cases b
      |some j=>
       rw[p]at b;cases b;obtain⟨a,J,h1,R,h3,Q,z⟩:=jh I q;refine⟨P,F,l,d,x,I,fun v Y H1 B r1=>⟨_,h1,P,Y,l,_,s,I.evo B,fun w U H2 A r2=>?_⟩⟩;cases r2;have c:=B.trans A;obtain⟨K,Z⟩:=c.keep a _ Q R;refine⟨a,J,kk,j,rfl,rfl,K,by rw[z.length];exact p,k C U _ c.ext ?_⟩;exact(I.evo c).mut (o':=.lst _) (u:=.lst _) q rfl rfl h1 ((z.same c.ext).set (r1.same A.ext) j)
     |_=>cases b
  ·cases b
mutual
def ltD:D->D->Bool
 |.int i,.int j=>decide (i<j)
 |.bl a,.bl b=>!a&&b
 |.str x,.str y=>decide (x.cps.toList<y.cps.toList)
 |.tup xs,.tup ys=>cy xs ys
 |_,_=>false
def cy:List D->List D->Bool
 |[],[]=>false
 |[],_::_=>true
 |_::_,[]=>false
 |x::xs,y::ys=>if eqd x y=true then cy xs ys else ltD x y
end
mutual
def aE:D->D->Bool
 |.int _,.int _=>true
 |.bl _,.bl _=>true
 |.str _,.str _=>true
 |.tup xs,.tup ys=>bV xs ys
 |_,_=>false
def bV:List D->List D->Bool
 |x::xs,y::ys=>aE x y&&bV xs ys
 |_,_=>true
end
def zO(A:Around)(s:Shared)(y x:Value)(b:Bool):Prop:=
 ∀(p:Program) (w:World) (E:Kv) (Q:Kv),Q (.bool b) s->wpAny (model p w) A (richCompare .Lt y x) Q E s
inductive LexOk (A:Around) (s:Shared):List Value->List Value->List D->List D->Prop
 |nl {ws:List Value}{es:List D}:ws.length=es.length->LexOk A s [] ws [] es
 |nr {vs:List Value}{ds:List D}:vs.length=ds.length->LexOk A s vs [] ds []
 |cons {v w:Value}{d e:D}{vs ws:List Value}{ds es:List D}:SeqAt.EqAt A s v w (eqd d e)->(eqd d e=false->zO A s v w (ltD d e))->LexOk A s vs ws ds es->LexOk A s (v::vs) (w::ws) (d::ds) (e::es)
def LexOk.len{vs w:List Value}{es:List D}(h:LexOk A s vs w ds es):vs.length=ds.length/\w.length=es.length:=by
 induction h with
 |nl h=>exact⟨rfl,h⟩
 |nr h=>exact⟨h,rfl⟩
 |cons _ _ _ ih=>exact⟨Zn Nat.succ ih.1,Zn Nat.succ ih.2⟩
section
open PySem.SeqAt
open PySem.AutoSeq1 (wpAny_loadPart')
open PySem.MeetsSeq PySem.MeetsSeq2 PySem.MeetsSeq3
def q_(l b:Addr)(items fB:Array Value)(n n2:Nat)(dd U:Option Addr)(Z N:Array (Option Value))(ds es:List D) :
  Meets (Builtin.«tuple.__lt__» ⟨[.ref l,.ref b],[]⟩)
   (fun A R s=>LexOk A.in1 s items.toList fB.toList ds es/\s.heap.get? l=some {cls:=.type "tuple",dict:=dd,data:=.seq items n,slots:=Z}/\s.heap.get? b=some {cls:=.type "tuple",dict:=U,data:=.seq fB n2,slots:=N} /\
    R (.ok (.ret (.bool (cy ds es)))) s):=
 .of_wp fun p w A R s h=>by
  obtain⟨E,g,d,B,C⟩:=s;obtain⟨i,hl,hb,h⟩:=h;have f2:=AutoSeq1.sub_tuple_tuple;have z1:items.size=ds.length:=by rw[<-i.len.1];simp
  have z2:fB.size=es.length:=by rw[<-i.len.2];simp
  wp_walk using Xn hl,Xn hb,wpAny_forIn_list _ (fun cc b O=>b.1=none/\O=⟨E,g,d,B,C⟩/\∃(M L:List Value) (f e:List D),cc=M.zip L /\
   LexOk A.in1 ⟨E,g,d,B,C⟩ M L f e/\f.length+fB.size=e.length+items.size/\R (.ok (.ret (.bool (cy f e)))) ⟨E,g,d,B,C⟩) _
  case turn=>
   rintro⟨y,x⟩ cc b O ⟨m,rfl,M,L,f,e,j,Q,a,z⟩;cases Q with
   |nl _=>rw[List.zip_nil_left]at j;cases j
   |nr _=>rw[List.zip_nil_right]at j;cases j
   |@cons v w' K I Y X J H he T P=>
    rw[Vl]at j;injection j with hyx hrest;injection hyx with hy hxx;subst hy hxx;simp only[Yz]at a;refine Yc (he p w _ _ ?_);cases q:eqd K I with
    |true=>
     have o:R (.ok (.ret (.bool (cy J H)))) ⟨E,g,d,B,C⟩:=by rw[cy,Yh q]at z;exact z
     wp_walk
     exact⟨rfl,rfl,_,_,_,_,hrest,P,by omega,o⟩
    |false=>
     have o:R (.ok (.ret (.bool (ltD K I)))) ⟨E,g,d,B,C⟩:=by rw[cy,Yl (by rw[q];exact Yk)]at z;exact z
     have S:=T q p w
     wp_walk using S
     exact⟨_,rfl,by simpa using o⟩
  case fin=>
   rintro⟨b1,b2⟩ O ⟨m,rfl,M,L,f,e,j,Q,a,z⟩;simp only at m;subst m;have hv:cy f e=decide (items.size<fB.size):=by
    cases Q with
    |nl hw=>
     cases e with
     |nil=>
      simp only[YY]at a;rw[show cy [] []=false by simp[cy]];exact(YE (by omega)).symm
     |cons c u=>
      simp only[YY,Yz]at a;rw[show cy [] (c::u)=true by simp[cy]];exact(YM (by omega)).symm
    |nr hw=>
     cases f with
     |nil=>
      simp only[YY]at a;rw[show cy [] []=false by simp[cy]];exact(YE (by omega)).symm
     |cons c u=>
      simp only[YY,Yz]at a;rw[show cy (c::u) []=false by simp[cy]];exact(YE (by omega)).symm
    |cons _ _ _=>
     rw[Vl]at j;cases j
   rw[hv]at z
   wp_walk
   exact⟨_,rfl,by simpa[Builtin.Tuple.tupleCompareSizes]using z⟩
  case h=>
   exact⟨rfl,rfl,items.toList,fB.toList,ds,es,rfl,i,by omega,h⟩
end
def wV{b:Addr}{items fB:Array Value}{es:List D}(B:IsTup s.heap l items)(C:IsTup s.heap b fB)(hx:LexOk A.in1 s items.toList fB.toList ds es)(z:A.units<cLine) :
  zO A s (.ref l) (.ref b) (cy ds es):=by
 intro p w E Q h;obtain⟨⟨I,H,q,y⟩,j,o,n,m⟩:=id B;obtain⟨⟨u,g,i,f⟩,a,e,n2,c⟩:=id C;simp only at o m e c;subst o m e c;exact richCompare_meets_room (op:=.Lt) ⟨_,j,rfl⟩ ⟨_,a,rfl⟩ PySem.F.slot_tuple_lt PySem.F.entry_tuple_lt (PySem.F.args_tuple_lt_2 _ _) (q_ l b items fB n n2 H g y f ds es)
  ⟨hx,j,a,show Value.bool (cy ds es)≠Value.notImplemented/\Q (.bool (cy ds es)) s from⟨(fun x=>nomatch x),h⟩⟩ z
def jy:D->Bool
 |.tup _=>true
 |_=>false
def Rep.ltS(A:Around){x y:V}{d e:D}{w:Value}(h1:Rep X.K H x d)(h2:Rep X.K H y e)(c:aE d e=true)(hd:jy d=false)(r1:RelV x u)(r2:RelV y w):zO A s u w (ltD d e):=by
 cases d with
 |int i=>
  cases e with
  |int j=>
   cases h1;cases h2;obtain⟨t,rfl⟩:=(show ∃t,u=Value.int _ t from r1)
   obtain⟨b,rfl⟩:=(show ∃t,w=Value.int _ t from r2)
   intro p a E Q h;exact HT.rcLt_int A s _ _ _ _ p a E Q (by rw[ltD]at h;exact h)
  |_=>exact absurd c Yk
 |bl b1=>
  cases e with
  |bl b2=>
   cases h1;cases h2;cases(show u=Value.bool _ from r1);cases(show w=Value.bool _ from r2);intro p a E Q h;exact(PyProof.Rows.lt_bool (by cases b1<;>cases b2<;>(rw[ltD]at h;exact h)):wpAny (model p a) A (compareOp .Lt (.bool b1) (.bool b2)) Q E s)
  |_=>exact absurd c Yk
 |str x1=>
  cases e with
  |str x2=>
   cases h1;cases h2;obtain⟨t,rfl⟩:=(show ∃t,u=Value.str _ t from r1)
   obtain⟨b,rfl⟩:=(show ∃t,w=Value.str _ t from r2)
   intro p a E Q h;exact(PyProof.Rows.lt_str (by rw[ltD]at h;exact h):wpAny (model p a) A (compareOp .Lt (.str x1 t) (.str x2 b)) Q E s)
  |_=>exact absurd c Yk
 |tup xs=>cases hd
 |_=>exact absurd c Yk
def Reps.lex(I:Inv X pz σ H s)(n:Nat)(A:Around)(R:A.units+n+2<cLine)
  (ih:∀{x y:V}{d e:D}{u w:Value},Rep X.K H x d->Rep X.K H y e->okN n d=true->okN n e=true->aE d e=true->RelV x u->RelV y w->zO A s u w (ltD d e)) :
  ∀{xs ys:List V}{ds es:List D}{us a:List Value},Reps X.K H xs ds->Reps X.K H ys es->(∀d∈ds,okN n d=true)->(∀d∈es,okN n d=true)->bV ds es=true->Vals xs us->Vals ys a->LexOk A s us a ds es:=by
 intro xs ys ds;induction ds generalizing xs ys with
 |nil=>
  intro es us a f b _ _ _ r1 r2;cases f;cases r1;exact .nl (by rw[<-r2.length,b.length])
 |cons d ds i=>
  intro es us a f b p o c r1 r2;cases es with
  |nil=>
   cases b;cases r2;exact .nr (by rw[<-r1.length,f.length])
  |cons e es=>
   cases f with
   |cons h q=>
    cases b with
    |cons z C=>
     cases r1 with
     |cons r t=>
      cases r2 with
      |cons m B=>
       rw[bV,Yg]at c;have l:=p _ Yf;have j:=o _ Yf;obtain⟨P,J⟩:=h.reads I n l r;obtain⟨O,E⟩:=z.reads I n j m;obtain⟨N,L⟩:=cY n _ l;obtain⟨M,Q⟩:=cY n _ j;refine .cons (PySem.SeqAt.eqAt_reads _ _ A s _ _ _ _ J E N M ?_) (fun _=>ih h z l j c.1 r m) (i q C (fun d g=>p d (Yd _ g)) (fun d g=>o d (Yd _ g)) c.2 t B);have:min (de d).depth (de e).depth<=n+1:=YC (Nat.min_le_left _ _) L;omega
def Rep.lt(I:Inv X pz σ H s):∀(n:Nat) (A:Around),A.units+n+2<cLine->∀{x y:V}{d e:D}{u w:Value},Rep X.K H x d->Rep X.K H y e->okN n d=true->okN n e=true->aE d e=true->RelV x u->RelV y w->zO A s u w (ltD d e):=by
 intro n;induction n with
 |zero=>
  intro A B x y d e u w a h o m c r1 r2;refine a.ltS A h c ?_ r1 r2;cases d<;>first|rfl|(simp[okN]at o)
 |succ n i=>
  intro A B x y d e u w a h o m c r1 r2;cases z:jy d with
  |false=>exact a.ltS A h c z r1 r2
  |true=>
   cases d with
   |tup ds=>
    cases e with
    |tup es=>
     cases a with
     |tup a q1=>
      cases h with
      |tup h q2=>
       cases(show u=Value.ref _ from r1);cases(show w=Value.ref _ from r2);obtain⟨q,g,l,_⟩:=I.tuple (SqT.of a);obtain⟨p,f,j,_⟩:=I.tuple (SqT.of h);rw[ltD];have b:A.in1.units+n+2<cLine:=by show A.units+1+n+2<cLine;omega
       exact wV l j (Reps.lex I n A.in1 b (i A.in1 b) q1 q2 (bU o) (bU m) (by rw[aE]at c;exact c) g f) (by omega)
    |_=>exact absurd c Yk
   |_=>cases z
def ltd(x y:D):Option D:=if(okN 30 x&&okN 30 y&&aE x y)=true then some (.bl (ltD x y))else none
def FF(K:Kq):R2:=fun x y H Q=>∃b a,Rep K H x b/\Rep K H y a/\okN 30 b=true/\okN 30 a=true/\aE b a=true/\Q (.bl (ltD b a)) H
def EQ(j:X.A.units+64<cLine):OpR X (compareOp .Lt) (FF X.K):=by intro p s i H x y v u Q I b a h;obtain⟨m,l,g,f,e,o,c,q⟩:=h;exact Rep.lt I 30 X.A (by omega) g f e o c b a X.prog X.w X.xe _ ⟨.bl _,H,I,rfl,q⟩
def C5:OpN2 K (FF K) ltd:=by
 intro P F H x y g f d Q a e c b k;unfold ltd at a;split at a
 ·rename_i h;rw[Yg,Yg]at h;cases a;exact⟨g,f,c,b,h.1.1,h.1.2,h.2,k _ F H (Evo.refl e) .bl⟩
 ·cases a
def gK(h:X.A.units+64<cLine)(e:PDN X a fa)(c:PDN X b fb):PDT X (.Compare a [.Lt] [b] pos) (asB (d2 ltd fa fb)):=kf (EQ h) C5 e c (gJ _)
end L2
namespace L2
open PySem PySem.Spec PyProof.Rows PySem.W
def kok{b:Type}(n:Nat)(lt:Nat->Nat->Bool):KasT b->(b->Prop)->Prop
 |.ret a,Q=>Q a
 |.ask i j k,Q=>i<n/\j<n/\kok n lt (k (lt i j)) Q
def iB{c b:Type}{n:Nat}{lt:Nat->Nat->Bool}{f:c->KasT b}{Q:b->Prop}(t:KasT c):kok n lt t (fun a=>kok n lt (f a) Q)->kok n lt (t.bind f) Q:=by
 induction t with
 |ret a=>exact fun h=>h
 |ask i j k ih=>exact fun h=>⟨h.1,h.2.1,ih _ h.2.2⟩
def dR{b:Type}{n:Nat}{lt:Nat->Nat->Bool}{Q c:b->Prop}(e:∀a,Q a->c a)(t:KasT b):kok n lt t Q->kok n lt t c:=by
 induction t with
 |ret a=>exact e a
 |ask i j k ih=>exact fun h=>⟨h.1,h.2.1,ih _ h.2.2⟩
def D7{b:Type}{n:Nat}{lt:Nat->Nat->Bool}{c:Nat->Nat->(Bool->Shared->Prop)->Shared->Prop}{Q:b->Prop}{G:b->Shared->Prop}(e:∀i j C,i<n->j<n->C (lt i j) s->c i j C s)(f:∀a,Q a->G a s)(t:KasT b):kok n lt t Q->t.kasWp c G s:=by
 induction t with
 |ret a=>exact f a
 |ask i j k ih=>exact fun h=>e i j _ h.1 h.2.1 (ih _ h.2.2)
structure Ord (lt:Nat->Nat->Bool):Prop where
 asym:∀i j,lt i j=true->lt j i=false
 trans:∀i j k,lt j i=false->lt k j=false->lt k i=false
section
variable{n:Nat}{lt:Nat->Nat->Bool}
structure PermN (n:Nat) (p:Array Nat):Prop where
 size:p.size=n
 perm:p.toList.Perm (List.range n)
def PermN.bd{p:Array Nat}(h:PermN n p)(hi:i<n):p.getD i 0<n:=by
 have a:i<p.size:=by rw[h.size];exact hi
 have e:p.getD i 0=p[i]:=by simp[Array.getD,a]
 rw[e];have b:p[i]∈p.toList:=by simp
 exact Zf.mp (h.perm.mem_iff.mp b)
def PermN.rev{p:Array Nat}(h:PermN n p)(i j:Nat):PermN n (kas_rev p i j):=
 ⟨by unfold kas_rev;rw[mirror_size,h.size],((Array.perm_iff_toList_perm.mp (mirror_perm _ _ _ _)).trans h.perm)⟩
def PermN.bub{p:Array Nat}(h:PermN n p)(i j:Nat):PermN n (bubble p i j):=
 ⟨by rw[bubble_size,h.size],((Array.perm_iff_toList_perm.mp (bubble_perm _ _ _)).trans h.perm)⟩
def jV{p q:Array Nat}(h:p[i]?=q[j]?):p.getD i 0=q.getD j 0:=by simp only[Xo,h]
def fR{p:Array Nat}(h:PermN n p)(a:j<=n)(k:Nat):(kas_rev p i j).getD k 0=if i<=k/\k<j then p.getD (i+j-1-k) 0 else p.getD k 0:=by
 have e:=getElem?_mirror_all (xs:=p) (i:=i) (j:=j) (by rw[h.size];exact a) k;unfold kas_rev;split
 ·rename_i q;rw[Yh q]at e;exact jV e
 ·rename_i q;rw[Yl q]at e;exact jV e
def Ris(lt:Nat->Nat->Bool)(p:Array Nat)(b:Nat):Prop:=∀i j,i<=j->j<b->lt (p.getD j 0) (p.getD i 0)=false
def Fal(lt:Nat->Nat->Bool)(p:Array Nat)(b:Nat):Prop:=∀i j,i<=j->j<b->lt (p.getD i 0) (p.getD j 0)=false
def Eqs(lt:Nat->Nat->Bool)(p:Array Nat)(a b:Nat):Prop:=∀i j,a<=i->i<b->a<=j->j<b->lt (p.getD i 0) (p.getD j 0)=false
def Ord.irr(o:Ord lt)(i:Nat):lt i i=false:=by
 cases q:lt i i with
 |false=>rfl
 |true=>have:=o.asym i i q;rw[q]at this;cases this
def mm{a b:Nat}(h:a<=i/\i<b):a<=a+b-1-i/\a+b-1-i<b:=by omega
def zD(o:Ord lt){p:Array Nat}(w:PermN n p):∀(f k:Nat),1<=k->k+f<=n->Ris lt p k->kok n lt (kas_asc p f k) (fun m=>k<=m/\m<=k+f/\Ris lt p m/\(m=k+f\/lt (p.getD m 0) (p.getD (m-1) 0)=true)):=by
 intro f;induction f with
 |zero=>exact fun k _ _ a=>⟨Ym _,Ym _,a,.inl rfl⟩
 |succ f ih=>
  intro k z x a;have s:k<n:=Ys (XE (XW f)) x;have u:k-1<k:=Vu z Nat.one_pos;have q:=XF k 1 f;unfold kas_asc;refine⟨w.bd s,w.bd (ZN u s),?_⟩;cases c:lt (p.getD k 0) (p.getD (k-1) 0)with
  |true=>
   (try dsimp only);rw[Yh rfl]
   exact⟨Ym _,Nat.le_add_right _ _,a,.inr c⟩
  |false=>
   (try dsimp only);rw[Yl Yk]
   refine dR (fun m h=>⟨XN h.1,YC h.2.1 (ZZ q),h.2.2.1,h.2.2.2.imp (fun e=>e.trans q) id⟩) _ (ih (k+1) (ZE 1 k) (YC (ZZ q) x) fun i j l y=>?_);by_cases b:j<k
   ·exact a i j l b
   ·have:j=k:=Zj (Zt y) (ZI b);subst this;by_cases g:i=j
    ·subst g;exact o.irr _
    ·exact o.trans _ _ _ (a i (j-1) (ZT (Zw l g)) u) c
def vM{p:Array Nat}(l:PermN n p){a b:Nat}(q:b<=n)(he:Eqs lt p a b)(o:Ord lt)(m:Fal lt p b):Fal lt (kas_rev p a b) b:=by
 intro i j c f;rw[fR l q,fR l q];by_cases e:a<=i/\i<b
 ·rw[Yh e];have h:a<=j/\j<b:=⟨YC e.1 c,f⟩
  rw[Yh h];exact he _ _ (mm e).1 (mm e).2 (mm h).1 (mm h).2
 ·rw[Yl e];have g:i<a:=Nat.lt_of_not_le fun z=>e ⟨z,ZS c f⟩
  by_cases h:a<=j/\j<b
  ·rw[Yh h];exact m _ _ (YC (ZB g) (mm h).1) (mm h).2
  ·rw[Yl h];exact m i j c f
def nN(o:Ord lt){p':Array Nat}{k:Nat}(h1:1<=k)(c:Fal lt p' k)(f:lt (p'.getD (k-1) 0) (p'.getD k 0)=false):Fal lt p' (k+1):=by
 intro i j b e;by_cases h:j<k
 ·exact c i j b h
 ·have:j=k:=Zj (Zt e) (ZI h);subst this;by_cases a:i=j
  ·subst a;exact o.irr _
  ·exact o.trans _ _ _ f (c i (j-1) (ZT (Zw b a)) (Vu h1 Nat.one_pos))
def rq(o:Ord lt)(p':Array Nat)(k:Nat):Eqs lt p' (k+1-(0+1)) (k+1):=by intro i j g f c b;have a:i=k:=Zj (Zt f) g;have e:j=k:=Zj (Zt b) c;subst a;subst e;exact o.irr _
def yZ(o:Ord lt){p:Array Nat}{k q:Nat}(a:k-(q+1)<=k-1/\k-1<k)(he:Eqs lt p (k-(q+1)) k)(c:lt (p.getD k 0) (p.getD (k-1) 0)=false)(d:lt (p.getD (k-1) 0) (p.getD k 0)=false):Eqs lt p (k+1-(q+1+1)) (k+1):=by
 have e:∀i,k+1-(q+1+1)<=i->i<k+1->lt (p.getD i 0) (p.getD k 0)=false/\lt (p.getD k 0) (p.getD i 0)=false:=fun i b1 b2=>by
  rw[Nat.add_sub_add_right]at b1;by_cases h:i=k
  ·subst h;exact⟨o.irr _,o.irr _⟩
  ·have b:i<k:=Zw (Zt b2) h;exact⟨o.trans _ _ _ d (he i (k-1) b1 b a.1 a.2),o.trans _ _ _ (he (k-1) i a.1 a.2 b1 b) c⟩
 exact fun i j m l g f=>o.trans _ _ _ (e j g f).2 (e i m l).1
def Bw(o:Ord lt):∀(f:Nat) (p:Array Nat) (k q:Nat),PermN n p->1<=k->k+f<=n->q+1<=k->Fal lt p k->Eqs lt p (k-(q+1)) k->
  kok n lt (kas_desc f p k q) (fun r=>PermN n r.1/\k<=r.2.1/\r.2.1<=n/\r.2.2+1<=r.2.1/\Fal lt r.1 r.2.1/\Eqs lt r.1 (r.2.1-(r.2.2+1)) r.2.1):=by
 intro f;induction f with
 |zero=>exact fun p k q a m u s g i=>⟨a,Ym _,u,s,g,i⟩
 |succ f ih=>
  intro p k q a m u s g i;have b:k<n:=Ys (XE (XW f)) u;have w:k-1<k:=Vu m Nat.one_pos;have e:k+1+f<=n:=YC (ZZ (XF k 1 f)) u;have j:k-(q+1)<=k-1/\k-1<k:=⟨Nat.sub_le_sub_left (XY (YO q)) k,w⟩
  unfold kas_desc;refine⟨a.bd b,a.bd (ZN w b),?_⟩;cases c:lt (p.getD k 0) (p.getD (k-1) 0)with
  |true=>
   (try dsimp only);rw[Yh rfl]
   have A:lt (p.getD (k-1) 0) (p.getD k 0)=false:=o.asym _ _ c;by_cases l:q > 0
   ·rw[Yh l];have x:=vM a (ZB b) i o g;have y:lt ((kas_rev p (k-(q+1)) k).getD (k-1) 0) ((kas_rev p (k-(q+1)) k).getD k 0)=false:=by rw[fR a (ZB b),fR a (ZB b),Yh j,Yl (fun z=>Zd _ z.2)];exact o.trans _ _ _ A (i _ _ (mm j).1 (mm j).2 j.1 j.2)
    exact dR (fun r h=>⟨h.1,XN h.2.1,h.2.2⟩) _ (ih _ (k+1) 0 (a.rev _ _) (ZE 1 k) e (ZE 1 k) (nN o m x y) (rq o _ k))
   ·rw[Yl l];exact dR (fun r h=>⟨h.1,XN h.2.1,h.2.2⟩) _ (ih _ (k+1) 0 a (ZE 1 k) e (ZE 1 k) (nN o m g A) (rq o _ k))
  |false=>
   (try dsimp only);rw[Yl Yk]
   refine⟨a.bd (ZN w b),a.bd b,?_⟩;cases d:lt (p.getD (k-1) 0) (p.getD k 0)with
   |true=>
    (try dsimp only);rw[Yh rfl]
    exact⟨a,Ym _,ZB b,s,g,i⟩
   |false=>
    (try dsimp only);rw[Yl Yk]
    exact dR (fun r h=>⟨h.1,XN h.2.1,h.2.2⟩) _ (ih p (k+1) (q+1) a (ZE 1 k) e (XY s) (nN o m g d) (yZ o j i c d))
def B7{p:Array Nat}(a:PermN n p){b:Nat}(f:b<=n)(g:Fal lt p b):Ris lt (kas_rev p 0 b) b:=by
 intro i j h c;have e:0<=i/\i<b:=⟨YO _,ZS h c⟩
 rw[fR a f,fR a f,Yh ⟨YO _,c⟩,Yh e];exact g _ _ (Nat.sub_le_sub_left h _) (mm e).2
def si(o:Ord lt){p:Array Nat}(a:PermN n p){k:Nat}(h1:1<=k)(b:k<=n)(c:Fal lt p k):kok n lt (kas_tail3 k n p) (fun r=>1<=r.1/\r.1<=n/\PermN n r.2/\Ris lt r.2 r.1):=by unfold kas_tail3;have e:=ZZ (Xx b);exact iB _ (dR (fun m h=>⟨YC h1 h.1,YC h.2.1 e,a.rev _ _,h.2.2.1⟩) _ (zD o (a.rev 0 k) (n-k) k h1 e (B7 a b c)))
def lS(o:Ord lt){p:Array Nat}(g:PermN n p){k:Nat}(h1:1<=k)(i:k<n)(j:Fal lt p (k+1)):kok n lt (kas_descPart k n p) (fun r=>1<=r.1/\r.1<=n/\PermN n r.2/\Ris lt r.2 r.1):=by
 unfold kas_descPart;refine iB _ (dR ?_ _ (Bw o (n-(k+1)) p (k+1) 0 g (ZE 1 k) (ZZ (Xx i)) (ZE 1 k) j (rq o p k)));intro r h;obtain⟨c,m,b,q,f,l⟩:=h;have a:=YC (ZE 1 k) m;by_cases e:r.2.2 > 0
 ·rw[Yh e];exact si o (c.rev _ _) a b (vM c b l o f)
 ·rw[Yl e];exact si o c a b f
def yE(o:Ord lt){p:Array Nat}(f:PermN n p)(L:1<=n):kok n lt (kas_count n p) (fun r=>1<=r.1/\r.1<=n/\PermN n r.2/\Ris lt r.2 r.1):=by
 unfold kas_count;have H:=Xx L;refine iB _ (dR (fun k C=>?_) _ (zD o f (n-1) 1 (Ym _) (ZZ H) fun i j a l=>by
  have I:j=0:=Nat.lt_one_iff.mp l;subst I;have J:i=0:=Nat.le_zero.mp a;subst J;exact o.irr _))
 obtain⟨s,m,w,P⟩:=C;have m:k<=n:=YC m (ZZ H);by_cases B:(k == n)=true
 ·rw[Yh B];exact⟨s,m,f,w⟩
 ·rw[Yl B];have q:k≠n:=by simpa using B
  have x:k<n:=Zw m q;have y:k-1<k:=Vu s Nat.one_pos;have A:lt (p.getD k 0) (p.getD (k-1) 0)=true:=by
   rcases P with e|e
   ·exact absurd (e.trans H) q
   ·exact e
  have M:=o.asym _ _ A;by_cases E:k > 1
  ·rw[Yh E];refine⟨f.bd (Ys Nat.one_pos L),f.bd (ZN y x),?_⟩;cases c:lt (p.getD 0 0) (p.getD (k-1) 0)with
   |true=>
    (try dsimp only);rw[Yh rfl]
    exact⟨s,m,f,w⟩
   |false=>
    (try dsimp only);rw[Yl Yk]
    have b:∀i j,i<k->j<k->lt (p.getD i 0) (p.getD j 0)=false:=fun i j u l=>
     o.trans _ _ _ (o.trans _ _ _ (w j (k-1) (ZT l) y) c) (w 0 i (YO _) u)
    refine lS o (f.rev _ _) s x fun i j a l=>?_;rw[fR f m,fR f m];by_cases g:j<k
    ·have u:0<=i/\i<k:=⟨YO _,ZS a g⟩
     rw[Yh u,Yh ⟨YO _,g⟩];exact b _ _ (mm u).2 (mm ⟨YO _,g⟩).2
    ·have O:j=k:=Zj (Zt l) (ZI g);subst O;rw[Yl (fun z:0<=j/\j<j=>Zd _ z.2)];by_cases h:i<j
     ·rw[Yh ⟨YO _,h⟩];exact o.trans _ _ _ M (b _ _ (mm ⟨YO _,h⟩).2 y)
     ·rw[Yl fun z=>h z.2];have:i=j:=Zj a (ZI h);subst this;exact o.irr _
  ·rw[Yl E];have N:k=1:=Zj (ZI E) s;subst N;refine lS o f (Ym _) x fun i j a l=>?_;by_cases h:i=j
   ·subst h;exact o.irr _
   ·have K:i<j:=Zw a h;have I:j=1:=Zj (Zt l) (ZS (YO i) K);subst I;have J:i=0:=Nat.lt_one_iff.mp K;subst J;exact M
def jC(o:Ord lt){p:Array Nat}(w:PermN n p){k:Nat}(x:k<n)(u:Ris lt p k):∀(f l r:Nat),l<=r->r<=k->r-l<=f->(∀i,i<l->lt (p.getD k 0) (p.getD i 0)=false)->(∀i,r<=i->i<k->lt (p.getD k 0) (p.getD i 0)=true)->
  kok n lt (kas_place p k f l r) (fun m=>m<=k/\(∀i,i<m->lt (p.getD k 0) (p.getD i 0)=false)/\∀i,m<=i->i<k->lt (p.getD k 0) (p.getD i 0)=true):=by
 intro f;induction f with
 |zero=>
  intro l r y h A g b;have e:l=r:=Zj y (Nat.le_of_sub_eq_zero (Nat.le_zero.mp A));subst e;exact⟨h,g,b⟩
 |succ f ih=>
  intro l r y h A g b;unfold kas_place;by_cases a:l ≥ r
  ·rw[Yh a];have e:l=r:=Zj y a;subst e;exact⟨h,g,b⟩
  ·rw[Yl a];have s:l<=(l+r)/2/\(l+r)/2<r/\(l+r)/2-l<=f/\r-((l+r)/2+1)<=f:=by clear g b u w ih h x;omega
   obtain⟨E,j,C,B⟩:=s;refine⟨w.bd x,w.bd (ZN (Ys j h) x),?_⟩;cases c:lt (p.getD k 0) (p.getD ((l+r)/2) 0)with
   |true=>
    (try dsimp only);rw[Yh rfl]
    refine ih l _ E (YC (ZB j) h) C g fun i z H=>?_;cases q:lt (p.getD k 0) (p.getD i 0)with
    |true=>rfl
    |false=>
     have:=o.trans _ _ _ (u ((l+r)/2) i z H) q;rw[c]at this;cases this
   |false=>
    (try dsimp only);rw[Yl Yk]
    exact ih _ r j h B (fun i z=>o.trans _ _ _ (u i ((l+r)/2) (Zt z) (Ys j h)) c) b
def vH{p:Array Nat}(b:PermN n p){k l:Nat}(f:k<n)(c:l<=k)(i:Nat):(bubble p k (k-l)).getD i 0=if i=l then p.getD k 0 else if l<i/\i<=k then p.getD (i-1) 0 else p.getD i 0:=by
 have e:=getElem?_bubble (xs:=p) (src:=k) (by rw[b.size];exact f) (k-l) (Nat.sub_le _ _) i;rw[Nat.sub_sub_self c]at e;by_cases a:i=l
 ·rw[Yh a]at e ⊢;exact jV e
 ·rw[Yl a]at e ⊢;by_cases h:l<i/\i<=k
  ·rw[Yh h]at e ⊢;exact jV e
  ·rw[Yl h]at e ⊢;exact jV e
def BV(o:Ord lt){p:Array Nat}(x:PermN n p){k l:Nat}(u:k<n)(q:Ris lt p k)(s:l<=k)(B:∀i,i<l->lt (p.getD k 0) (p.getD i 0)=false)(A:∀i,l<=i->i<k->lt (p.getD k 0) (p.getD i 0)=true):Ris lt (bubble p k (k-l)) (k+1):=by
 intro i j h y;have b:j<=k:=Zt y;have m:l<j->j-1<k:=fun z=>Ys (Vu (ZS (YO l) z) Nat.one_pos) b
 rw[vH x u s,vH x u s];by_cases f:i=l
 ·rw[Yh f];by_cases e:j=l
  ·rw[Yh e];exact o.irr _
  ·have a:l<j:=Zw (f ▸ h) (ZJ e);rw[Yl e,Yh ⟨a,b⟩];exact o.asym _ _ (A (j-1) (ZT a) (m a))
 ·rw[Yl f];by_cases e:j=l
  ·have w:i<=l:=e ▸ h;rw[Yh e,Yl fun z=>Zd _ (Ys z.1 w)];exact B i (Zw w f)
  ·rw[Yl e];by_cases g:l<i/\i<=k
   ·have a:=Ys g.1 h;rw[Yh g,Yh ⟨a,b⟩];exact q _ _ (Nat.sub_le_sub_right h 1) (m a)
   ·rw[Yl g];by_cases c:l<j/\j<=k
    ·rw[Yh c];exact q _ _ (ZT (ZS (ZI fun z=>g ⟨z,YC h b⟩) c.1)) (m c.1)
    ·rw[Yl c];exact q _ _ h (Ys (Zw (ZI fun z=>c ⟨z,b⟩) e) s)
def DC(o:Ord lt):∀(f:Nat) (p:Array Nat) (k:Nat),PermN n p->k+f=n->Ris lt p k->kok n lt (kas_bin f p k) (fun r=>PermN n r/\Ris lt r n):=by
 intro f;induction f with
 |zero=>exact fun p k h b a=>⟨h,by rw[<-b];exact a⟩
 |succ f ih=>
  intro p k h b a;have e:k<n:=b ▸ XE (XW f);unfold kas_bin;refine iB _ (dR (fun l c=>?_) _ (jC o h e a k 0 k (YO _) (Ym _) (Ym _) (fun i g=>absurd g (Nat.not_lt_zero _)) fun i m j=>absurd j (Nat.not_lt_of_le m)));obtain⟨u,s,q⟩:=c;exact ih _ (k+1) (h.bub _ _) ((XF k 1 f).trans b) (BV o h e a u s q)
def nG(n:Nat):PermN n (List.toArray (List.range n)):=⟨by simp,by simp⟩
def tJ(o:Ord lt)(g:1<=n):kok n lt (kas_sort n) (fun r=>PermN n r/\Ris lt r n):=by
 unfold kas_sort;refine iB _ (dR (fun r a=>?_) _ (yE o (nG n) g));obtain⟨i,f,c,b⟩:=a;by_cases h:r.1<n
 ·rw[Yh h];have e:max r.1 1=r.1:=Nat.max_eq_left i;rw[e];exact DC o _ _ _ c (Xx f) b
 ·rw[Yl h];have e:r.1=n:=Zj f (ZI h);rw[e]at b;exact⟨c,b⟩
end
def lM(vs:List Value)(p:Array Nat):Array Value:=(p.toList.map fun i=>vs.getD i Value.none).toArray
def wk(vs:List Value)(h:vs.length<2):lM vs (List.toArray (List.range vs.length))=(vs.toArray.zip vs.toArray).map (·.2):=by
 cases vs with
 |nil=>simp[lM]
 |cons v r=>
  cases r with
  |nil=>simp[lM,List.range,List.range.loop]
  |cons _ _=>simp at h;omega
def oM{a:Addr}{vs:List Value}{n:Nat}{P:PySem.Fin->Shared->Prop}(B:s.heap.get? a=some (seqObj "list" vs.toArray n))(h64:vs.length<64)(κ:SortKind)(lt:Nat->Nat->Bool)(o:Ord lt)
  (N:2<=vs.length->∀h',(∀b u,b≠a->s.heap.get? b=some u->h'.get? b=some u)->∀Q:SortKind->Shared->Prop,Q κ {s with heap:=h' }->wpAny (model prog w) A (keyKind' vs.toArray) Q E {s with heap:=h' })
  (S:∀h',(∀b u,b≠a->s.heap.get? b=some u->h'.get? b=some u)->∀i j C,i<vs.length->j<vs.length->C (lt i j) {s with heap:=h' }->kas_ask prog w A κ vs i j C {s with heap:=h' })
  (h:∀p,PermN vs.length p->Ris lt p vs.length->P (.done (.ret .none)) {s with heap:=sortedHeap s.heap a vs (lM vs p)}) :
  wpAny (model prog w) A (Builtin.«list.sort» ⟨[.ref a],[]⟩) P E s:=by
 rw[list_sort_plain];have K:a<s.heap.objs.size:=Yp B;refine Yc (listItems_at B rfl ?_);refine Yc (listUpdate_at B rfl ?_ (by rw[Yq,YV];omega) (YO _));obtain⟨z,m⟩:∃z,(s.heap.update a (Obj.mapSeq fun _=>(#[]:Array Value))).get? a=some (seqObj "list" #[] z):=⟨_,get?_update_seq B (fun _=>#[])⟩
 refine Yc (seqEpoch_at m rfl ?_);refine Yc (wpAny_newTuple ?_ (by show vs.length<=_;rw[YV];omega));refine Yc (wpAny_newList ?_ (YO _));refine ZK ?_;have f:(((s.heap.update a (Obj.mapSeq fun _=>(#[]:Array Value))).push (seqObj "tuple" vs.toArray 0)).push (seqObj "list" #[] 0)).get? a=some (seqObj "list" #[] z):=by rw[Xq _ _ _ (by rw[size_push',XZ];exact Yy (Xp K)),Xq _ _ _ (by rw[XZ];exact Yy K)];exact m
 have kept:∀b u,b≠a->s.heap.get? b=some u->(((s.heap.update a (Obj.mapSeq fun _=>(#[]:Array Value))).push (seqObj "tuple" vs.toArray 0)).push (seqObj "list" #[] 0)).get? b=some u:=fun b u T e=>by
  have x:b<s.heap.objs.size:=Yp e;rw[Xq _ _ _ (by rw[size_push',XZ];exact Yy (Xp x)),Xq _ _ _ (by rw[XZ];exact Yy x),Heap.get?_update_ne _ _ _ _ T];exact e
 show wpAny (model prog w) A _ P E {s with heap:=((s.heap.update a (Obj.mapSeq fun _=>(#[]:Array Value))).push (seqObj "tuple" vs.toArray 0)).push (seqObj "list" #[] 0)};dsimp only;have L:vs.toArray.size=vs.length:=by simp
 by_cases H:vs.toArray.size<2
 ·rw[Yh H,Yh H];refine Yc (Yw ?_);rw[StateT.run_pure];refine Yc (Yw ?_);dsimp only;refine Yc (seqEpoch_at f rfl ?_);refine Yc (listUpdate_at f rfl ?_ (YO _) (by rw[Array.size_map];show(pairsOf vs).size<=_;rw[pairsOf_size,YV];omega));simp only[bne_self_eq_false,XD,Vk];have q:=h (List.toArray (List.range vs.length)) (nG _) (fun i j O Y=>by
   have z:i=j:=by omega
   subst z;exact o.irr _)
  have e:lM vs (List.toArray (List.range vs.length))=(vs.toArray.zip vs.toArray).map (·.2):=by exact wk vs (by omega)
  rw[e]at q;exact Yw q
 ·rw[Yl H,Yl H];have y:2<=vs.length:=by omega
  refine Yc (N y _ kept _ ?_);refine Yc (Zq (kat_run (Q:=fun c g=>g={s with heap:=((s.heap.update a (Obj.mapSeq fun _=>(#[]:Array Value))).push (seqObj "tuple" vs.toArray 0)).push (seqObj "list" #[] 0)}/\∃p:Array Nat,PermN vs.length p/\Ris lt p vs.length/\arrOf c=p.map (kas_item (vs.toArray.zip vs.toArray))/\failedOf c=none)
   (G:=fun p g=>g={s with heap:=((s.heap.update a (Obj.mapSeq fun _=>(#[]:Array Value))).push (seqObj "tuple" vs.toArray 0)).push (seqObj "list" #[] 0)}/\PermN vs.length p/\Ris lt p vs.length)
   rfl y h64 (fun p c g Z X U ⟨b1,b2,b3⟩=>⟨b1,p,b2,b3,X,U⟩) (D7 (S _ kept) (fun p ⟨b2,b3⟩=>⟨rfl,b2,b3⟩) _ (tJ o (by omega)))) ?_ fun _ _ e=>e)
  rintro⟨⟨⟩,c⟩ g ⟨rfl,p,J,M,I,R⟩;dsimp only;have l:=kat_snds rfl I;rw[l];refine Yc (seqEpoch_at f rfl ?_);refine Yc (listUpdate_at f rfl ?_ (YO _) (by rw[Yq,Yb,Zy,J.size,YV];omega));rw[R];simp only[bne_self_eq_false,XD,Vk];exact Yw (h p J M)
def BH(h:x.cps.toList=y.cps.toList):x=y:=by
 cases x;cases y
 congr
 exact Array.toList_inj.mp h
mutual
def df:∀x y:D,aE x y=true->(eqd x y=true↔x=y)
 |.int i,.int j,_=>by simp[eqd,de,PyData.eqv]
 |.bl a,.bl b,_=>by simp[eqd,de,PyData.eqv]
 |.str a,.str b,_=>by simp[eqd,de,PyData.eqv]
 |.tup xs,.tup ys,h=>by
  have:=nq xs ys (by simpa[aE]using h);simp only[eqd,de,PyData.eqv,D.tup.injEq];exact this
 |.non,y,h=>by cases y<;>simp[aE]at h
 |.lst _,y,h=>by cases y<;>simp[aE]at h
 |.dT _,y,h=>by cases y<;>simp[aE]at h
 |.dK _,y,h=>by cases y<;>simp[aE]at h
 |.ins _ _,y,h=>by cases y<;>simp[aE]at h
 |.int _,.non,h=>by simp[aE]at h
 |.int _,.bl _,h=>by simp[aE]at h
 |.int _,.str _,h=>by simp[aE]at h
 |.int _,.tup _,h=>by simp[aE]at h
 |.int _,.lst _,h=>by simp[aE]at h
 |.int _,.dT _,h=>by simp[aE]at h
 |.int _,.dK _,h=>by simp[aE]at h
 |.int _,.ins _ _,h=>by simp[aE]at h
 |.bl _,.non,h=>by simp[aE]at h
 |.bl _,.int _,h=>by simp[aE]at h
 |.bl _,.str _,h=>by simp[aE]at h
 |.bl _,.tup _,h=>by simp[aE]at h
 |.bl _,.lst _,h=>by simp[aE]at h
 |.bl _,.dT _,h=>by simp[aE]at h
 |.bl _,.dK _,h=>by simp[aE]at h
 |.bl _,.ins _ _,h=>by simp[aE]at h
 |.str _,.non,h=>by simp[aE]at h
 |.str _,.bl _,h=>by simp[aE]at h
 |.str _,.int _,h=>by simp[aE]at h
 |.str _,.tup _,h=>by simp[aE]at h
 |.str _,.lst _,h=>by simp[aE]at h
 |.str _,.dT _,h=>by simp[aE]at h
 |.str _,.dK _,h=>by simp[aE]at h
 |.str _,.ins _ _,h=>by simp[aE]at h
 |.tup _,.non,h=>by simp[aE]at h
 |.tup _,.bl _,h=>by simp[aE]at h
 |.tup _,.int _,h=>by simp[aE]at h
 |.tup _,.str _,h=>by simp[aE]at h
 |.tup _,.lst _,h=>by simp[aE]at h
 |.tup _,.dT _,h=>by simp[aE]at h
 |.tup _,.dK _,h=>by simp[aE]at h
 |.tup _,.ins _ _,h=>by simp[aE]at h
def nq:∀xs ys:List D,bV xs ys=true->(PyData.eqvAll (dE xs) (dE ys)=true↔xs=ys)
 |[],[],_=>by simp[dE,PyData.eqvAll]
 |[],_::_,_=>by simp[dE,PyData.eqvAll]
 |_::_,[],_=>by simp[dE,PyData.eqvAll]
 |x::xs,y::ys,h=>by
  rw[bV,Yg]at h;have a:=df x y h.1;have b:=nq xs ys h.2;simp only[dE,PyData.eqvAll,Yg,List.cons.injEq];rw[b];unfold eqd at a;rw[a]
end
structure Fc2 {α:Type} (l:α->α->Bool) (x y:α):Prop where
 as:l x y=true->l y x=false
 an:l x y=false->l y x=false->x=y
def Fc3{a:Type}(l:a->a->Bool)(x y z:a):Prop:=l x y=true->l y z=true->l x z=true
def bz{x y:D}(h:aE x y=true):(∃i j,x=.int i/\y=.int j)\/(∃i j,x=.bl i/\y=.bl j)\/(∃i j,x=.str i/\y=.str j)\/∃i j,x=.tup i/\y=.tup j/\bV i j=true:=by
 cases x with
 |int i=>
  refine .inl ?_;cases y with
  |int j=>exact⟨_,_,rfl,rfl⟩
  |_=>exact absurd h Yk
 |bl i=>
  refine .inr (.inl ?_);cases y with
  |bl j=>exact⟨_,_,rfl,rfl⟩
  |_=>exact absurd h Yk
 |str i=>
  refine .inr (.inr (.inl ?_));cases y with
  |str j=>exact⟨_,_,rfl,rfl⟩
  |_=>exact absurd h Yk
 |tup i=>
  refine .inr (.inr (.inr ?_));cases y with
  |tup j=>exact⟨_,_,rfl,rfl,h⟩
  |_=>exact absurd h Yk
 |_=>exact absurd h Yk
def xw{a b:List Nat}(h:a<b):¬b<a:=fun c=>List.lt_irrefl a (List.lt_trans h c)
def jI{x y:D}(h1:aE x y=true)(b:jy x=false):Fc2 ltD x y:=by
 rcases bz h1 with⟨i,j,rfl,rfl⟩|⟨i,j,rfl,rfl⟩|⟨i,j,rfl,rfl⟩|⟨i,j,rfl,rfl,_⟩
 ·refine⟨fun h=>?_,fun h a=>?_⟩
  ·simp only[ltD,Yu,Xd]at h ⊢;omega
  ·simp only[ltD,Xd]at h a;rw[show i=j by omega]
 ·refine⟨fun h=>?_,fun h a=>?_⟩
  ·cases i<;>cases j<;>simp_all [ltD]
  ·cases i<;>cases j<;>simp_all [ltD]
 ·refine⟨fun h=>?_,fun h a=>?_⟩
  ·simp only[ltD,Yu,Xd]at h ⊢;exact xw h
  ·simp only[ltD,Xd]at h a;rw[BH (List.le_antisymm a h)]
 ·cases b
def jE{x y z:D}(h1:aE x y=true)(h2:aE y z=true)(c:jy x=false):Fc3 ltD x y z:=by
 rcases bz h1 with⟨i,j,rfl,rfl⟩|⟨i,j,rfl,rfl⟩|⟨i,j,rfl,rfl⟩|⟨i,j,rfl,rfl,_⟩
 ·rcases bz h2 with⟨a,k,e,rfl⟩|⟨a,k,e,rfl⟩|⟨a,k,e,rfl⟩|⟨a,k,e,rfl,_⟩<;>cases e;intro h b;simp only[ltD,Yu]at h b ⊢;omega
 ·rcases bz h2 with⟨a,k,e,rfl⟩|⟨a,k,e,rfl⟩|⟨a,k,e,rfl⟩|⟨a,k,e,rfl,_⟩<;>cases e;intro h b;cases i<;>cases j<;>cases k<;>simp_all [ltD]
 ·rcases bz h2 with⟨a,k,e,rfl⟩|⟨a,k,e,rfl⟩|⟨a,k,e,rfl⟩|⟨a,k,e,rfl,_⟩<;>cases e;intro h b;simp only[ltD,Yu]at h b ⊢;exact List.lt_trans h b
 ·cases c
def wP(n:Nat):∀x y:D,okN n x=true->aE x y=true->aE y x=true:=by
 induction n with
 |zero=>
  intro x y o h;rcases bz h with⟨i,j,rfl,rfl⟩|⟨i,j,rfl,rfl⟩|⟨i,j,rfl,rfl⟩|⟨i,j,rfl,rfl,_⟩
  ·rfl
  ·rfl
  ·rfl
  ·simp[okN]at o
 |succ n ih=>
  intro x y o h;rcases bz h with⟨i,j,rfl,rfl⟩|⟨i,j,rfl,rfl⟩|⟨i,j,rfl,rfl⟩|⟨i,j,rfl,rfl,c⟩
  ·rfl
  ·rfl
  ·rfl
  ·have e:∀(b a:List D),(∀d∈b,okN n d=true)->bV b a=true->bV a b=true:=by
    intro b;induction b with
    |nil=>intro a _ _;cases a<;>simp[bV]
    |cons x b f=>
     intro a g c;cases a with
     |nil=>simp[bV]
     |cons y a=>
      rw[bV,Yg]at c ⊢;exact⟨ih x y (g x Yf) c.1,f a (fun d l=>g d (Yd _ l)) c.2⟩
   rw[aE];exact e i j (bU o) c
def Ck{n:Nat}(ih:∀x y:D,okN n x=true->okN n y=true->aE x y=true->Fc2 ltD x y) :
  ∀(xs ys:List D),(∀d∈xs,okN n d=true)->(∀d∈ys,okN n d=true)->bV xs ys=true->Fc2 cy xs ys:=by
 intro xs;induction xs with
 |nil=>
  intro ys _ _ _;refine⟨fun h=>?_,fun h c=>?_⟩
  ·cases ys<;>simp_all [cy]
  ·cases ys<;>simp_all [cy]
 |cons x xs i=>
  intro ys l o f;cases ys with
  |nil=>
   refine⟨fun h=>?_,fun h c=>?_⟩
   ·simp[cy]at h
   ·simp[cy]at c
  |cons y ys=>
   rw[bV,Yg]at f;have p:=l x Yf;have j:=o y Yf;have b:=df x y f.1;have e:=df y x (wP n x y p f.1);have G:=i ys (fun d g=>l d (Yd _ g)) (fun d g=>o d (Yd _ g)) f.2;refine⟨fun h=>?_,fun h c=>?_⟩
   ·rw[cy]at h ⊢;by_cases a:x=y
    ·rw[Yh (b.mpr a)]at h;rw[Yh (e.mpr a.symm)];exact G.as h
    ·rw[Yl (fun q=>a (b.mp q))]at h;rw[Yl (fun q=>a (e.mp q).symm)];exact(ih x y p j f.1).as h
   ·rw[cy]at h c;by_cases a:x=y
    ·rw[Yh (b.mpr a)]at h;rw[Yh (e.mpr a.symm)]at c;rw[a,G.an h c]
    ·rw[Yl (fun q=>a (b.mp q))]at h;rw[Yl (fun q=>a (e.mp q).symm)]at c;exact absurd ((ih x y p j f.1).an h c) a
def j4(n:Nat):∀x y:D,okN n x=true->okN n y=true->aE x y=true->Fc2 ltD x y:=by
 induction n with
 |zero=>
  intro x y o a c;refine jI c ?_;cases x<;>first|rfl|(simp[okN]at o)
 |succ n ih=>
  intro x y o a c;rcases bz c with⟨i,j,rfl,rfl⟩|⟨i,j,rfl,rfl⟩|⟨i,j,rfl,rfl⟩|⟨i,j,rfl,rfl,d1⟩
  iterate 3 exact jI c rfl
  ·have F:=Ck ih i j (bU o) (bU a) d1;refine⟨fun h=>?_,fun h b=>?_⟩
   ·rw[ltD]at h ⊢;exact F.as h
   ·rw[ltD]at h b;rw[F.an h b]
def Cm{n:Nat}(ih:∀x y z:D,okN n x=true->okN n y=true->okN n z=true->aE x y=true->aE y z=true->aE x z=true->Fc3 ltD x y z) :
  ∀(xs ys zs:List D),(∀d∈xs,okN n d=true)->(∀d∈ys,okN n d=true)->(∀d∈zs,okN n d=true)->bV xs ys=true->bV ys zs=true->bV xs zs=true->Fc3 cy xs ys zs:=by
 intro xs;induction xs with
 |nil=>
  intro ys zs _ _ _ _ _ _ h c;cases ys<;>cases zs<;>simp_all [cy]
 |cons x xs o=>
  intro ys zs B A w j m l h c;cases ys with
  |nil=>simp[cy]at h
  |cons y ys=>
   rw[bV,Yg]at j;have u:=B x Yf;have s:=A y Yf;have i:=df x y j.1;cases zs with
   |nil=>simp[cy]at c
   |cons z zs=>
    rw[bV,Yg]at m l;have E:=w z Yf;have f:=df y z m.1;have e:=df x z l.1;have F:=ih x y z u s E j.1 m.1 l.1;rw[cy]at h c ⊢;by_cases b:x=y
    ·rw[Yh (i.mpr b)]at h;by_cases a:y=z
     ·rw[Yh (f.mpr a)]at c;rw[Yh (e.mpr (b.trans a))];exact o ys zs (fun d g=>B d (Yd _ g)) (fun d g=>A d (Yd _ g)) (fun d g=>w d (Yd _ g)) j.2 m.2 l.2 h c
     ·rw[Yl (fun q=>a (f.mp q))]at c;rw[Yl (fun q=>a (b.symm.trans (e.mp q)))];rw[b];exact c
    ·rw[Yl (fun q=>b (i.mp q))]at h;by_cases a:y=z
     ·rw[Yl (fun q=>b ((e.mp q).trans a.symm))];rw[<-a];exact h
     ·rw[Yl (fun q=>a (f.mp q))]at c;have p:=F h c;by_cases C:x=z
      ·subst C;have:=(j4 n x y u s j.1).as h;rw[c]at this;cases this
      ·rw[Yl (fun q=>C (e.mp q))];exact p
def BJ(n:Nat):∀x y z:D,okN n x=true->okN n y=true->okN n z=true->aE x y=true->aE y z=true->aE x z=true->Fc3 ltD x y z:=by
 induction n with
 |zero=>
  intro x y z o g f a c m;refine jE a c ?_;cases x<;>first|rfl|(simp[okN]at o)
 |succ n ih=>
  intro x y z o g f a c m;rcases bz a with⟨i,j,rfl,rfl⟩|⟨i,j,rfl,rfl⟩|⟨i,j,rfl,rfl⟩|⟨i,j,rfl,rfl,d1⟩
  iterate 3 exact jE a c rfl
  ·rcases bz c with⟨b,k,e,rfl⟩|⟨b,k,e,rfl⟩|⟨b,k,e,rfl⟩|⟨b,k,e,rfl,d2⟩<;>cases e;have F:=Cm ih i j k (bU o) (bU g) (bU f) d1 d2 (by simpa[aE]using m);intro h l;rw[ltD]at h l ⊢;exact F h l
def wE(x:D):List D->List D
 |[]=>[x]
 |y::r=>if ltD x y=true then x::y::r else y::wE x r
def dh:List D->List D
 |[]=>[]
 |x::r=>wE x (dh r)
def kQ(x:D):∀l:List D,(wE x l).Perm (x::l)
 |[]=>.refl _
 |y::r=>by
  unfold wE;split
  ·exact .refl _
  ·exact((kQ x r).cons y).trans (.swap x y r)
def bZ:∀l:List D,(dh l).Perm l
 |[]=>.refl _
 |x::r=>(kQ x (dh r)).trans ((bZ r).cons x)
def Cmps(n:Nat)(ds:List D):Prop:=(∀d∈ds,okN n d=true)/\∀x∈ds,∀y∈ds,aE x y=true
def sJ{n:Nat}:∀{as bs:List D},as.Perm bs->Cmps n as->as.Pairwise (fun x y=>ltD y x=false)->bs.Pairwise (fun x y=>ltD y x=false)->as=bs:=by
 intro as;induction as with
 |nil=>intro bs c _ _ _;exact(List.Perm.nil_eq c)
 |cons a as ih=>
  intro bs c f g p;cases bs with
  |nil=>exact absurd c.symm (List.not_perm_nil_cons _ _)
  |cons b bs=>
   have i:a∈b::bs:=c.mem_iff.mp Yf;have m:b∈a::as:=c.mem_iff.mpr Yf;have e:a=b:=by
    rcases YH.mp i with h|h
    ·exact h
    ·rcases YH.mp m with h'|h'
     ·exact h'.symm
     ·have j:=(ZG.mp g).1 b h';have l:=(ZG.mp p).1 a h;exact(j4 n a b (f.1 a Yf) (f.1 b m) (f.2 a Yf b m)).an l j
   subst e;rw[ih (List.Perm.cons_inv c) ⟨fun d s=>f.1 d (Yd _ s),fun x q y o=>f.2 x (Yd _ q) y (Yd _ o)⟩ (ZG.mp g).2 (ZG.mp p).2]
def Cmps.perm{n:Nat}{bs:List D}(h:Cmps n as)(p:as.Perm bs):Cmps n bs:=⟨fun d c=>h.1 d (p.mem_iff.mpr c),fun x b y a=>h.2 x (p.mem_iff.mpr b) y (p.mem_iff.mpr a)⟩
def oS{n:Nat}{x y z:D}(f:okN n x=true)(o:okN n y=true)(g:okN n z=true)(c:aE x y=true)(i:aE y z=true)(l:aE x z=true)(j:aE y x=true)(a:aE z y=true)(b:aE z x=true)
  (h1:ltD y x=false) (h2:ltD z y=false):ltD z x=false:=by
 cases q:ltD z x with
 |false=>rfl
 |true=>
  -- z<x;x<=y
  by_cases h:ltD x y=true
  ·have:=BJ n z x y g f o b c a q h;rw[h2]at this;cases this
  ·have e:x=y:=(j4 n x y f o c).an (by simpa using h) h1;subst e;rw[h2]at q;cases q
def l7{n:Nat}{x:D}:∀{l:List D},Cmps n (x::l)->l.Pairwise (fun a b=>ltD b a=false)->(wE x l).Pairwise (fun a b=>ltD b a=false)
 |[],_,_=>List.pairwise_singleton _ _
 |y::r,hc,hp=>by
  have m:x∈x::y::r:=Yf;have c:y∈x::y::r:=Yd _ Yf;obtain⟨f,g⟩:=ZG.mp hp;unfold wE;split
  ·rename_i q;refine ZG.mpr ⟨fun z hz=>?_,hp⟩;have h:ltD y x=false:=(j4 n x y (hc.1 x m) (hc.1 y c) (hc.2 x m y c)).as q;rcases YH.mp hz with rfl|hz
   ·exact h
   ·have e:z∈x::y::r:=Yd _ (Yd _ hz);exact oS (hc.1 x m) (hc.1 y c) (hc.1 z e) (hc.2 x m y c) (hc.2 y c z e) (hc.2 x m z e) (hc.2 y c x m) (hc.2 z e y c) (hc.2 z e x m) h (f z hz)
  ·rename_i q;refine ZG.mpr ⟨fun z hz=>?_,l7 (x:=x) ⟨fun d hd=>hc.1 d ?_,fun a ha b hb=>hc.2 a ?_ b ?_⟩ g⟩
   ·rcases YH.mp ((kQ x r).mem_iff.mp hz)with rfl|hz
    ·simpa using q
    ·exact f z hz
   all_goals
    first
     |(
      rcases YH.mp hd with rfl|hd
      ·exact m
      ·exact Yd _ (Yd _ hd))
     |(
      rcases YH.mp ha with rfl|ha
      ·exact m
      ·exact Yd _ (Yd _ ha))
     |(
      rcases YH.mp hb with rfl|hb
      ·exact m
      ·exact Yd _ (Yd _ hb))
def Cmps.sub{n:Nat}{bs:List D}(h:Cmps n bs)(k:∀x∈as,x∈bs):Cmps n as:=⟨fun d c=>h.1 d (k d c),fun x b y a=>h.2 x (k x b) y (k y a)⟩
def gA{n:Nat}:∀{l:List D},Cmps n l->(dh l).Pairwise (fun a b=>ltD b a=false)
 |[],_=>.nil
 |x::r,hc=>l7 (hc.sub fun y hy=>by
   rcases YH.mp hy with rfl|hy
   ·exact Yf
   ·exact Yd _ ((bZ r).mem_iff.mp hy)) (gA (hc.sub fun y hy=>Yd _ hy))
def nM{n:Nat}{bs:List D}(h:as.Perm bs)(a:Cmps n bs)(b:as.Pairwise (fun x y=>ltD y x=false)):as=dh bs:=
 sJ (h.trans (bZ bs).symm) (a.perm h.symm) b (gA a)
def jq{n:Nat}{bs:List D}(h:as.Perm bs)(a:Cmps n bs):dh as=dh bs:=
 nM ((bZ as).trans h) a (gA (a.perm h.symm))
end L2
namespace L2
open PySem PySem.Spec PyProof.Rows
def rJ{x:V}{i:Int}(r:Rep K H x (.int i)):x=.int i:=by cases r;rfl
def nX{x:V}{i:Str}(r:Rep K H x (.str i)):x=.str i:=by cases r;rfl
def qA{g:Int->Int->V}{g':Int->Int->D}(e:∀F i j,Rep K F (g i j) (g' i j)):OpN2 K (rI0 g) (fI0 g'):=by
 intro P F H x y l f d Q h c b a k;unfold fI0 at h;split at h
 ·rename_i i j;cases h;exact⟨i,j,rJ b,rJ a,k _ F H (Evo.refl c) (e F i j)⟩
 ·cases h
def OpN2.or{r j:R2}{f g:Dy}(h:OpN2 K r f)(h':OpN2 K j g):OpN2 K (fun x y H Q=>r x y H Q\/j x y H Q) (fun x y=>(f x y).or (g x y)):=by
 intro P F H x y c b d Q a l i e k;dsimp only at a;cases q:f c b with
 |some m=>rw[q]at a;have a:=YG a;subst a;exact .inl (h P F H x y c b _ Q q l i e k)
 |none=>rw[q]at a;exact .inr (h' P F H x y c b d Q a l i e k)
def leS:D->D->Option D
 |.str x,.str y=>some (.bl (!decide (y.cps.toList<x.cps.toList)))
 |_,_=>none
def BI:R2:=fun x y H Q=>∃i j,x=.str i/\y=.str j/\Q (.bl (!decide (j.cps.toList<i.cps.toList))) H
def w_:OpR X (compareOp .LtE) BI:=by intro p s c H x y v u Q I b a h;obtain⟨i,j,rfl,rfl,q⟩:=h;obtain⟨t,rfl⟩:=b;obtain⟨e,rfl⟩:=a;exact PySem.P.le_str ⟨.bl _,H,I,rfl,q⟩
def DW:OpN2 K BI leS:=by
 intro P F H x y f e d Q h c b a k;unfold leS at h;split at h
 ·cases h;exact⟨_,_,nX b,nX a,k _ F H (Evo.refl c) .bl⟩
 ·cases h
def leA(x y:D):Option D:=(leI x y).or (leS x y)
def kZ:OpR X (compareOp .LtE) (fun x y H Q=>rI0 (fun i j=>.bl (decide (i<=j))) x y H Q\/BI x y H Q):=Gk.or w_
def kG:OpN2 K (fun x y H Q=>rI0 (fun i j=>.bl (decide (i<=j))) x y H Q\/BI x y H Q) leA:=(qA fun _ _ _=>.bl).or DW
def chD(f g:Dy)(fa fb fc:Dd):DF->Option D:=fun a=>(fa a).bind fun x=>(fb a).bind fun y=>match f x y with
 |some (.bl true)=>(fc a).bind fun z=>g y z
 |some (.bl false)=>some (.bl false)
 |_=>none
def jS{r M:R2}{f g:Dy}(N:OpN2 K r f)(w:OpN2 K M g):∀σ H Q,tD K (chD f g fa fb fc) σ H Q->u6 r M (tN K fa) (tN K fb) (tN K fc) σ H Q:=fun σ H Q=>un7 fun P F a d h I k=>by
 unfold chD at h;cases l:fa a with
 |none=>rw[l]at h;cases h
 |some s=>
 cases q:fb a with
 |none=>rw[l,Ya,q]at h;cases h
 |some o=>
 rw[l,Ya,q,Ya]at h;split at h
 ·rename_i c;cases A:fc a with
  |none=>rw[A]at h;cases h
  |some O=>
   rw[A,Ya]at h;refine⟨P,F,a,s,l,I,fun x L Y i u=>⟨P,L,a,o,q,I.evo i,fun y J C e p=>?_⟩⟩;refine N P J C x y s o _ _ c e.hp (u.same (e.same i.hp)) p fun v E R m j=>?_;cases j;refine⟨true,rfl,?_⟩;rw[Yh rfl];have b:=(i.trans e).trans m;refine⟨P,E,a,O,A,I.evo b,fun z F4 X B S=>?_⟩;exact w P F4 X y z o O d Q h B.hp ((p.same (m.same e.hp)).same (B.same m.hp)) S fun v Z U T j=>k v Z U ((b.trans B).trans T) j
 ·rename_i c;cases h;refine⟨P,F,a,s,l,I,fun x L Y i u=>⟨P,L,a,o,q,I.evo i,fun y J C e p=>?_⟩⟩;refine N P J C x y s o _ _ c e.hp (u.same (e.same i.hp)) p fun v E R m j=>?_;cases j;refine⟨false,rfl,?_⟩;rw[Yl Yk];exact k _ E R ((i.trans e).trans m) .bl
 ·cases h
def vG(g:PDN X a fa)(f:PDN X b fb)(e:PDN X c fc)(h:lastMarks [CmpOp.LtE,CmpOp.LtE] [b,c]=false:=by with_unfolding_all rfl):PDE X (.Compare a [.LtE,.LtE] [b,c] pos) (chD leA leA fa fb fc):=(sB kZ kZ g f e h).imp (jS kG kG)
def mC(g:PDN X a fa)(f:PDN X b fb)(e:PDN X c fc)(h:lastMarks [CmpOp.LtE,CmpOp.Lt] [b,c]=false:=by with_unfolding_all rfl):PDE X (.Compare a [.LtE,.Lt] [b,c] pos) (chD leA ltI fa fb fc):=(sB kZ CW g f e h).imp (jS kG (qA fun _ _ _=>.bl))
def qH(g:PDN X a fa)(f:PDN X b fb)(e:PDN X c fc)(h:lastMarks [CmpOp.LtE,CmpOp.LtE] [b,c]=false:=by with_unfolding_all rfl):PDT X (.Compare a [.LtE,.LtE] [b,c] pos) (asB (chD leA leA fa fb fc)):=(rM kZ kZ g f e h).imp (g7 (jS kG kG))
def BW(g:PDN X a fa)(f:PDN X b fb)(e:PDN X c fc)(h:lastMarks [CmpOp.LtE,CmpOp.Lt] [b,c]=false:=by with_unfolding_all rfl):PDT X (.Compare a [.LtE,.Lt] [b,c] pos) (asB (chD leA ltI fa fb fc)):=(rM kZ CW g f e h).imp (g7 (jS kG (qA fun _ _ _=>.bl)))
def Dh(K:Kq)(r:List V->Hp->VK->Prop)(f:D->Option D):Prop:=
 ∀(P F H:Hp) (x:V) (a d:D) (Q:VK),f a=some d->DHp P F H->Rep K H x a->(∀v c b,Evo P F H c b->Rep K c v d->Q v b)->r [x] H Q
def vi{r:List V->Hp->VK->Prop}{f:D->Option D}(j:Dh K r f):∀σ H Q,tD K (d1 f fa) σ H Q->tCB r (lJ (tN K fa) tf) σ H Q:=fun σ H Q=>un7 fun P F b d h I k=>by
 unfold d1 at h;cases a:fa b with
 |none=>rw[a]at h;cases h
 |some c=>
  rw[a,Ya]at h;exact⟨P,F,b,c,a,I,fun x q o e g=>j P q o x c d Q h e.hp g fun v p m l i=>k v p m (e.trans l) i⟩
def C_:Dh K (FE K) aG:=by
 intro P F H x e d Q a c b k;unfold aG at a;split at a
 ·cases a;cases b with|lst h1 h2=>exact .inl ⟨_,_,rfl,.inl h1,by rw[h2.length];exact k _ F H (Evo.refl c) .int⟩
 ·cases a;cases b with|tup h1 h2=>exact .inl ⟨_,_,rfl,.inr (SqT.of h1),by rw[h2.length];exact k _ F H (Evo.refl c) .int⟩
 ·split at a
  ·rename_i h;cases a;exact .inr ⟨_,by rw[nX b],by rw[YV];exact h,k _ F H (Evo.refl c) .int⟩
  ·cases a
 ·cases a
def aO(c:Gl X "len")(b:X.mg "len"=none)(f:PDN X e fa)(a:StO e X:=by rfl)(h:(backTo pos (starEach [] X.env)).any (·.1)=false:=by rfl) :
  PDE X (.Call (.Name "len" p) [e] [] pos) (d1 aG fa):=
 (cR (qV.or qR) c b PySem.boot_len (au f ba a) (by decide) (by decide) a h).imp (vi C_)
def sj:D->Option D
 |.int i=>some (.int i)
 |.bl k=>some (.int (if k then 1 else 0))
 |_=>none
def Co:Dh K (fun xs H Q=>(∃i,xs=[.int i]/\Q (.int i) H)\/∃k,xs=[.bl k]/\Q (.int (if k then 1 else 0)) H) sj:=by
 intro P F H x c d Q h b a k;unfold sj at h;split at h
 ·cases h;cases a;exact .inl ⟨_,rfl,k _ F H (Evo.refl b) .int⟩
 ·cases h;cases a;exact .inr ⟨_,rfl,k _ F H (Evo.refl b) .int⟩
 ·cases h
def boot_int:bootBuiltins "int"=some (.type "int"):=by rfl
def boot_list:bootBuiltins "list"=some (.type "list"):=by rfl
def boot_tuple:bootBuiltins "tuple"=some (.type "tuple"):=by rfl
def boot_bool:bootBuiltins "bool"=some (.type "bool"):=by rfl
def boot_str:bootBuiltins "str"=some (.type "str"):=by rfl
def yG:bootBuiltins "set"=some (.type "set"):=by rfl
def b_:bootBuiltins "isinstance"=some (.builtin "isinstance"):=by rfl
def Ap:bootBuiltins "all"=some (.builtin "all"):=by rfl
def zw:bootBuiltins "min"=some (.builtin "min"):=by rfl
def yO:bootBuiltins "max"=some (.builtin "max"):=by rfl
def rY:bootBuiltins "sorted"=some (.builtin "sorted"):=by rfl
def vE(b:Gl X "int")(a:X.mg "int"=none)(c:PDN X e fa)(h:StO e X:=by rfl) :
  PDE X (.Call (.Name "int" p) [e] [] pos) (d1 sj fa):=
 (db lx b a boot_int (au c ba h) (he:=h)).imp (vi Co)
def qF:D->Option D
 |.lst ds=>some (.tup ds)
 |.tup ds=>some (.tup ds)
 |_=>none
def C9:Go K (fun xs H Q=>∃p ys,xs=[.ref p]/\((SqL K H p ys/\∀l,H l=none->Q (.ref l) (upd H l (.tup ys)))\/(SqT K H p ys/\Q (.ref p) H))) qF:=by
 intro P F H i g x j d Q h I a k;unfold qF at h;split at h
 ·cases h;obtain⟨p,f,rfl,b,c⟩:=eN I a;refine⟨p,f,rfl,.inl ⟨b,fun l e=>?_⟩⟩;exact k _ _ _ (Evo.laid I.toDHp e) (.tup a8 (c.same (kC (I.toDHp.free e).1)))
 ·cases h;rcases a with a|⟨_,ob,_,_,_,_,_,hfl,z⟩
  ·cases a with|tup b c=>exact⟨_,_,rfl,.inr ⟨SqT.of (I.sub _ _ b),k _ F H (Evo.refl I.toDHp) (.tup b c)⟩⟩
  ·cases ob<;>first|(cases z;done)|cases hfl
 ·cases h
def sL(b:Gl X "tuple")(a:X.mg "tuple"=none)(c:PDR X e fa)(h:StO e X:=by rfl) :
  PDE X (.Call (.Name "tuple" p) [e] [] pos) (d1 qF fa):=
 (db oE b a boot_tuple (au c ba h) (he:=h)).imp (DM C9)
def eh(f:Dd):DF->Option (List D):=fun ρ=>(f ρ).bind eF
def gs(B:Gl X "list")(A:X.mg "list"=none)(c:PDR X e fa)(u:StO e X:=by rfl) :
  PDO X (.Call (.Name "list" p) [e] [] pos) (asL (eh fa)):=
 (db qQ B A boot_list (au c ba u) (he:=u)).imp fun E H Q=>un7 fun P F o J h I k=>by
  unfold asL eh at h;cases c:fa o with
  |none=>rw[c]at h;cases h
  |some m=>
   rw[c,Ya]at h;cases b:eF m with
   |none=>rw[b]at h;cases h
   |some C=>
    rw[b]at h;cases h;refine⟨P,F,o,m,c,I,fun x z y f s=>?_⟩;have w:=I.evo f;have fin:∀a,Reps X.K z a C->∀l,y l=none->Q (.ref l) (upd y l (.lst a)):=fun a r l g=>
     k l z _ (f.trans (Evo.side f.hp g)) ⟨⟨f.back I.toDHp g,(f.hp.free g).1⟩,_,a8,r⟩
    cases m with
    |lst ds'=>
     cases b;obtain⟨q,a,rfl,j,i⟩:=eN w s;exact⟨q,a,rfl,.inl j,fin a i⟩
    |tup ds'=>
     cases b;obtain⟨q,a,rfl,j,i⟩:=jN w s;exact⟨q,a,rfl,.inr j,fin a i⟩
    |_=>cases b
def CM(K:Kq):R2:=fun x y H Q=>∃l b a z,x=.ref l/\y=.ref b/\SqL K H l a/\SqL K H b z/\a.length+z.length<=sizeLine/\∀p,H p=none->Q (.ref p) (upd H p (.lst (a++z)))
def vS:OpR X (binaryOp .Add) (CM X.K):=by
 intro pz s U H x y v u Q I J E h;obtain⟨l,b,Z,Y,rfl,rfl,O,P,hz,q⟩:=h;cases J;cases E;obtain⟨a,r,M,_⟩:=I.list O;obtain⟨i,r2,L,_⟩:=I.list P;obtain⟨⟨T,S,A,C⟩,n,o,z,N,w⟩:=M;obtain⟨⟨B,j,m,g⟩,n2,c,f,p,e⟩:=L;simp only at z w f e;subst z w f e;have e1:=r.length;have e2:=r2.length;refine concat_meets ⟨_,o,rfl⟩ ⟨_,c,rfl⟩ PySem.noFill_list_add PySem.seq_list_add PySem.F.slot_list_add PySem.F.entry_list_add (PySem.F.args_list_add_2 _ _) (list_addW l b a.toArray i.toArray n n2 S j C g (by rw[Yq,Yq];omega)) ⟨o,c,?_⟩;have R:a.toArray++i.toArray=(a++i).toArray:=by simp
 rw[R];exact⟨.ref _,_,I.lnew (t':=s.toks) (r.append r2) (by rw[Yn];omega),rfl,q _ I.fresh⟩
def mw(fa fb:Dd):DF->Option (List D):=fun a=>match fa a,fb a with
 |some (.lst xs),some (.lst ys)=>if xs.length+ys.length<=16777216 then some (xs++ys)else none
 |_,_=>none
def kB(L:PDR X a fa)(K:PDR X b fb):PDO X (.BinOp a .Add b pos) (asL (mw fa fb)):=(CV vS L K).imp fun S H Q=>un7 fun P F c Y h I k=>by
 unfold asL at h;cases q:mw fa fb c with
 |none=>rw[q]at h;cases h
 |some C=>
 rw[q]at h;cases h;unfold mw at q;split at q
 ·rename_i U T B A;split at q
  ·rename_i J;cases q;refine⟨P,F,c,_,B,I,fun x R H1 j z=>⟨P,R,c,_,A,I.evo j,fun y O Z i w=>?_⟩⟩;have s:=(I.evo j).evo i;obtain⟨l,u,rfl,N,o⟩:=eN s (z.evo i);obtain⟨E,f,rfl,M,m⟩:=eN s w;refine⟨l,E,u,f,rfl,rfl,N,M,by rw[o.length,m.length,YV];exact J,fun p g=>?_⟩;have e:=j.trans i;exact k p O _ (e.trans (Evo.side e.hp g)) ⟨⟨e.back I.toDHp g,(e.hp.free g).1⟩,_,a8,o.append m⟩
  ·cases q
 ·cases q
def spM(K:Kq)(f:Dz):Sp:=fun i H Q _=>∃P F a b o x e d,i=.ref a::b/\f o x=some (e,d)/\DHp P F H/\F a=none/\P a=none/\o.flat=true/\(∃u,H a=some u/\ORep1 K F o u)/\DVs K P F H x b /\
 ∀v c g,Same F c->DHp P c g->c a=none->(∃h,g a=some h/\ORep1 K c e h)->e.flat=true->Rep K c v d->Q v g
def pH(a:Addr)(o':OD)(d:D):RES->Prop
 |.nx ρ=>ρ[0]?=some (some (.own o' (some a)))/\d=.non
 |.rt x ρ=>x=.v d/\ρ[0]?=some (some (.own o' (some a)))
 |_=>False
def DInv.startM{F:Hp}{a:Addr}{o:OD}(N:List Str)(p:Nat)(h:DHp P F H)(q:F a=none)(j:P a=none)(fl:o.flat=true)(l:∃u,H a=some u/\ORep1 K F o u)(r:DVs K P F H xs vs)(m:xs.length+1=p) :
  DInv K P F H (aP N.length p (.own o (some a)::xs)) (L2.start N (.ref a::vs)):=by
 refine⟨h,?_,fun b=>if b=a then some 0 else none,fun i x e=>?_⟩
 ·unfold aP L2.start;rw[Yn,Yn,Yb,Yb,YK,YK,Yz,Yz,<-r.length,m]
 ·have g:=nP e;cases i with
  |zero=>
   cases g;refine⟨.ref a,kN (i:=0) rfl,a,rfl,(ORep.flat fl).mpr ⟨⟨q,j,Yh rfl⟩,l⟩,fun b z=>by cases z;rfl⟩
  |succ i=>
   obtain⟨c,v,s,f⟩:=r.get (i:=i) (x:=x) g;refine⟨v,kN (i:=i+1) (by simpa using s),?_⟩;cases x with
   |own o t=>cases c
   |v d=>exact f
   |bor o=>exact f
def Fun.okM{P:Program}{st:Stmt}{f:Addr}{N:List Str}{k:Nat}{m:Dz}(F:Fun K x qual st f fd)(S:FnScope N ps (defScope st))
  (U:∀a o xs o' d,m o xs=some (o',d)->xs.length+1=ps.length/\o'.flat=true/\∃r,g (aP N.length ps.length (.own o (some a)::xs))=some r/\pH a o' d r)
  (l:∀(c:Value) (A:Around) (outer:List Env) (s:Shared) (H:Hp) (E:XK),Room k (A.deeper (envOfC qual (defScope st) s.heap.objs.size f c))->
   PDS (bX CX0 P w K mg base N qual (defScope st) f c A outer s H E).nox (defBody st) g):FnOk P w K mg base CX0 (k+1) f fd ps (spM K m):=by
 refine F.ok S (fun X H Q E M=>?_) fun c A outer s H X Q E hr h=>?_
 ·obtain⟨R,T,a,C,o,xs,o',d,e,O,_,_,_,_,_,L,_⟩:=M;rw[e,Yz,<-L.length];exact(U 0 o xs o' d O).1
 ·refine⟨_,l c A outer s H E hr,?_⟩;obtain⟨R,T,a,C,o,xs,o',d,rfl,O,hp,hf,hP,fl,ho,L,hQ⟩:=h;obtain⟨hl,z,r,hg,B⟩:=U a o xs o' d O;have I:=DInv.startM N ps.length hp hf hP fl ho L hl;refine⟨R,T,_,r,hg,I,?_⟩;have fin:∀(b:DF) (p:St) (i j:Hp) (v:V),b[0]?=some (some (.own o' (some a)))->Same T i->DInv K R i j b p->Rep K i v d->Q v j:=fun b p i j v y e q J=>by
   obtain⟨v',_,a',rfl,h3,h4⟩:=q.at y;have ea:=h4 a rfl;subst ea;obtain⟨⟨q1,q2,_⟩,u,Z,Y⟩:=(ORep.flat z).mp h3;exact hQ v i j e q.toDHp q1 ⟨u,Z,Y⟩ z J
  cases r with
  |nx b=>(obtain⟨y,rfl⟩:=B;exact fun p i j e q=>fin b p i j .non y e q .non)
  |rt x b=>(obtain⟨rfl,y⟩:=B;exact fun v p i j e q J=>fin b p i j v y e q J)
  |bk b=>exact B.elim
  |ct b=>exact B.elim
def gdx(F H:Hp)(a:Addr):Hp:=fun b=>if b=a then none else gd F H b
def p9{F:Hp}{a b:Addr}{o:HO}:gdx F H a b=some o↔b≠a/\F b=none/\H b=some o:=by
 unfold gdx;by_cases h:b=a
 ·rw[Yh h];simp[h]
 ·rw[Yl h,jX];simp[h]
def DY{F:Hp}(s:Same F H)(a:Addr):DHp (gdx F H a) F H:=⟨s,fun b o e=>(p9.mp e).2.2,fun b o e=>(p9.mp e).2.1⟩
def ArgsS.dvx{F:Hp}(I:DInv K P F H ρ σ){o:OD}{t:Option Addr}{a:Addr}(hi:ρ[i]?=some (some (.own o t)))(f:σ[i]?=some (some (.ref a)))(fl:o.flat=true):∀{xs:List DV}{vs:List V},ArgsS K ρ σ F xs vs->(∀x∈xs,∃d,x=.v d)->DVs K (gdx F H a) F H xs vs:=by
 intro xs vs h;induction h with
 |nil=>exact fun _=>.nil
 |v h _ ih=>exact fun c=>.cons rfl h (ih fun x m=>c x (Yd _ m))
 |b j h1 h2 _ ih=>
  intro c;obtain⟨d,e⟩:=c _ Yf;cases e
def xj(xs:List DV):Bool:=xs.all fun x=>match x with
 |.v _=>true
 |_=>false
def EL(h:xj xs=true):∀x∈xs,∃d,x=.v d:=fun x m=>by
 have:=Yr.mp h x m;cases x with
 |v d=>exact⟨d,rfl⟩
 |_=>cases this
def lv(K:Kq)(i:Nat)(m:Dz)(g:Dv):DF->Option (DF×D):=fun a=>match a[i]? with
 |some (some (.own o t))=>if o.flat=true then(g a).bind fun x=>if xj x=true then(m o x).map fun r=>(a.set i (some (.own r.1 t)),r.2)else none else none
 |_=>none
def e_(K:Kq)(i:Nat)(m:Dz)(g:Dv):DF->Option RES:=fun a=>(lv K i m g a).map fun r=>.nx r.1
def u8{o:OD}{t:Option Addr}{a:Addr}(I:DInv K P F1 H1 ρ σ)(hi:ρ[i]?=some (some (.own o t)))(E:σ[i]?=some (some (.ref a)))(fl:o.flat=true)(y:o'.flat=true)
  (e2:Same F1 F2) (h:DHp (gdx F1 H1 a) F2 H2) (f2:F2 a=none) (R:∃C,H2 a=some C/\ORep1 K F2 o' C):DInv K P F2 H2 (ρ.set i (some (.own o' t))) σ:=by
 obtain⟨O,H⟩:=I.rep;obtain⟨v,J,b,rfl,T,Q⟩:=H i _ hi;rw[E]at J;cases J;obtain⟨⟨Y,m,l⟩,u,X,_⟩:=(ORep.flat fl).mp T;have f:∀b u,b≠a->F1 b=none->H1 b=some u->H2 b=some u/\F2 b=none:=fun b u g n q=>⟨h.pro b u (p9.mpr ⟨g,n,q⟩),h.dis b u (p9.mpr ⟨g,n,q⟩)⟩
 refine⟨⟨h.sub,fun b u q=>(f b u (fun z=>by subst z;rw[m]at q;cases q) (I.dis b u q) (I.pro b u q)).1,fun b u q=>(f b u (fun z=>by subst z;rw[m]at q;cases q) (I.dis b u q) (I.pro b u q)).2⟩,by rw[YQ];exact I.len,O,fun j z S=>?_⟩;rcases jz S with⟨rfl,e,Z⟩|⟨x,s⟩
 ·cases e;exact⟨_,E,a,rfl,(ORep.flat y).mpr ⟨⟨f2,m,l⟩,R⟩,Q⟩
 ·obtain⟨w,U,B⟩:=H j z s;refine⟨w,U,?_⟩;cases z with
  |v d'=>exact Rep.same e2 B
  |own od t'=>
   obtain⟨c,rfl,A,p⟩:=B;refine⟨c,rfl,A.mono e2 fun b L q g=>?_,p⟩;obtain⟨N,M⟩:=f b L (fun z=>by subst z;rw[q.2.2]at l;exact x (YG l).symm) q.1 g;exact⟨N,M,q.2⟩
  |bor od=>(obtain⟨c,rfl,A⟩:=B;exact⟨c,rfl,A.mono e2 fun b u q g=>⟨g,q⟩⟩)
section
variable  {k:Nat}{f:Addr}     {mn:Str}    {g:Dv}
def sI(i:Nat)(G:FnOk X.prog X.w X.K X.mg X.base CX0 k f fd ps (spM X.K mM))(h:Room k X.A)(hg:Gl X x)(Y:X.mg x=some (.ref f))(Z:PySem.W.keepIn X.K (.ref f)=true)(hb:Binds X.K fd ps [])(h0:PE X e (eI i))(ha:iE X es g)
  (hd:nDb x:=by decide) (he:starEach (e::es) X.env=(false,eval e X.env)::starEach es X.env:=by rfl) (y:(backTo pos (starEach es X.env)).any (·.1)=false:=by rfl) (s:swapsWith (.Call (.Name x p) (e::es) [] pos) none spos.line X.env=pure false:=by rfl) :
  PD1 X (.Expr (.Call (.Name x p) (e::es) [] pos) spos) (e_ X.K i mM g):=
 PS.imp (fV (mG G h hg Y Z hb .nil pP (au h0 ha he) hd he y) s) fun E Q H=>un7 fun P F L r h I k=>by
  unfold e_ lv at h;split at h
  ·rename_i M t q;split at h
   ·rename_i c;cases o:g L with
    |none=>rw[o]at h;cases h
    |some l=>
     rw[o,Ya]at h;split at h
     ·rename_i av;cases m:mM M l with
      |none=>rw[m]at h;cases h
      |some b=>
       rw[m]at h;cases h;obtain⟨v,B,a,rfl,h2,h3⟩:=I.at q;obtain⟨⟨a1,a2,_⟩,u,a3,a4⟩:=(ORep.flat c).mp h2;refine⟨_,B,P,F,L,l,o,I,fun R O H1 j r1=>?_⟩;have J:=I.evo j;obtain⟨T,S⟩:=j.keep a u a3 a1;refine⟨gdx O H1 a,O,a,R,M,l,b.1,b.2,by simp,m,DY J.sub a,S,by unfold gdx;rw[Yh rfl],c,⟨u,T,a4.same j.ext⟩,r1.dvx J q B c (EL av),fun v F2 H2 N z f2 U C rv=>?_⟩;exact k Q F2 H2 (j.ext.trans N) (u8 J q B c C N z f2 U)
     ·cases h
   ·cases h
  ·cases h
def RepsF.look{n:Str}{vs:List (Str×V)}{ds:List (Str×D)}{d:D}(h:RepsF K H vs ds):ds.lookup n=some d->∃v,vs.lookup n=some v/\Rep K H v d:=
 RepsF.ind (M:=fun vs ds=>ds.lookup n=some d->∃v,vs.lookup n=some v/\Rep K H v d) (fun e=>by cases e) (fun h _ ih e=>by
  rw[bQ]at e ⊢;split at e
  ·rename_i q;cases e;rw[Yh q];exact⟨_,rfl,h⟩
  ·rename_i q;rw[Yl q];exact ih e) h
def RepsF.no{n:Str}{vs:List (Str×V)}{ds:List (Str×D)}(h:RepsF K H vs ds):ds.lookup n=none->vs.lookup n=none:=
 RepsF.ind (M:=fun vs ds=>ds.lookup n=none->vs.lookup n=none) (fun _=>rfl) (fun _ _ ih e=>by
  rw[bQ]at e ⊢;split at e
  ·cases e
  ·rename_i q;rw[Yl q];exact ih e) h
def aL(C:Addr)(n:Str):D->Option D
 |.ins C' fs=>if C'=C then fs.lookup n else none
 |_=>none
def a9{n:Str}(c:Cls X.K C)(o:NoAttr X.K C n)(h:PDR X e fa)(p:attributeBase e n X.env (eval e X.env)=eval e X.env:=by rfl):PDE X (.Attribute e n pos) (d1 (aL C n) fa):=
 (Dx h p).imp fun E H Q=>un7 fun P F i d f I k=>by
  unfold d1 at f;cases q:fa i with
  |none=>rw[q]at f;cases f
  |some g=>
   rw[q,Ya]at f;refine⟨P,F,i,g,q,I,fun y B A j m=>?_⟩;cases g with
   |ins C' fs=>
    have b:(if C'=C then fs.lookup n else none)=some d:=f;split at b
    ·rename_i s;subst s;obtain⟨a,g,l,rfl,z,x⟩:=pY (I.evo j) m;obtain⟨v,w,u⟩:=x.look b;exact⟨a,C',g,l,v,rfl,z,c,o,w,k v B A j u⟩
    ·cases b
   |_=>cases f
def iA(f:Str)(v:D):List (Str×D)->List (Str×D)
 |[]=>[(f,v)]
 |(g,x)::r=>if g=f then(g,v)::r else(g,x)::iA f v r
def RepsF.put{n:Str}{v:V}{d:D}(a:Rep K H v d){vs:List (Str×V)}{ds:List (Str×D)}(h:RepsF K H vs ds):RepsF K H (gM n v vs) (iA n d ds):=
 RepsF.ind (M:=fun vs ds=>RepsF K H (gM n v vs) (iA n d ds)) (.cons a .nil) (fun{k _ _ _ _} h r ih=>by
  unfold gM iA;by_cases q:k=n
  ·rw[Yh q,Yh q];exact .cons a r
  ·rw[Yl q,Yl q];exact .cons h ih) h
def RepsF.length{vs:List (Str×V)}{ds:List (Str×D)}(h:RepsF K H vs ds):vs.length=ds.length:=RepsF.ind (M:=fun vs ds=>vs.length=ds.length) rfl (fun _ _ ih=>Zn Nat.succ ih) h
def jF(C:Addr)(i:Nat)(n:Str)(fv:Dd):DF->Option RES:=fun a=>match a[i]? with
 |some (some (.own (.ins C' fs) t))=>if C'=C then(fv a).bind fun d=>if fs.length<1000 then some (.nx (a.set i (some (.own (.ins C (iA n d fs)) t))))else none else none
 |_=>none
def iJ{n:Str}(i:Nat)(c:Cls X.K C)(x:NoAttr X.K C n)(w:PE X o (eI i))(hv:PDE X value fv)(s:swapsWith value (some (.Attribute o n pos')) pos.line X.env=pure false:=by rfl) :
  PD1 X (.Assign [.Attribute o n pos'] value pos) (jF C i n fv):=PS.imp (Dc w hv s) fun E m H=>un7 fun P F j r h I k=>by
 unfold jF at h;split at h
 ·rename_i g fs t q;split at h
  ·rename_i A;subst A;cases f:fv j with
   |none=>rw[f]at h;cases h
   |some d=>
    rw[f,Ya]at h;split at h
    ·rename_i z;cases h;obtain⟨v,l,a,rfl,⟨⟨J,M,_⟩,u,B,b⟩,_⟩:=I.at q;cases u with
     |ins C'' dx vs=>
      obtain⟨rfl,b⟩:=b;refine⟨P,F,j,d,f,I,fun y L N e p=>⟨_,l,a,g,dx,vs,rfl,(e.keep a _ B J).1,c,x,by rw[b.length];exact z,k m L _ e.ext ?_⟩⟩;exact(I.evo e).mut (o':=.ins g _) (u:=.ins g dx _) q rfl rfl l ⟨rfl,(RepsF.same e.ext b).put p⟩
     |_=>exact b.elim
    ·cases h
  ·cases h
 ·cases h
def vK(C:Addr):DV->Option (List (Str×D))
 |.v (.ins C' fs)=>if C'=C then some fs else none
 |.bor (.ins C' fs)=>if C'=C then some fs else none
 |_=>none
def pq(C:Addr)(mn:Str):List DV->Bool
 |x::_=>match vK C x with
  |some fs=>(fs.lookup mn).isNone
  |none=>false
 |[]=>false
def bf(C:Addr)(mn:Str)(m:Dm)(g:Dv):DF->Option D:=fun a=>(g a).bind fun x=>if pq C mn x=true then(m x).bind dvD else none
end
def DVs.heap{F:Hp}(h:DVs K P F H xs vs):DVs K P F H' xs vs:=by
 induction h with
 |nil=>exact .nil
 |@cons x _ _ _ h r _ ih=>
  refine .cons h ?_ ih;cases x with
  |v d=>exact r
  |bor o=>exact r
  |own o t=>cases h
def bR(i:Nat):DF->Option DV:=fun a=>match a[i]? with
 |some (some (.own o _))=>some (.bor o)
 |some (some (.bor o))=>some (.bor o)
 |some (some (.v d))=>some (.v d)
 |_=>none
def l_(f:Dd):DF->Option DV:=fun ρ=>(f ρ).map .v
def br(s:DF->Option DV)(g:Dv):DF->Option (List DV):=fun a=>(s a).bind fun x=>(g a).map fun b=>x::b
def g0:DF->Option (List DV):=fun _=>some []
def Self1(K:Kq)(ρ:DF)(σ:St)(F:Hp)(x:DV)(v:V):Prop:=ArgsS K ρ σ F [x] [v]
def Self1.cons{F:Hp}{x:DV}{v:V}(h:Self1 K ρ σ F x v)(e:Same F F')(r:ArgsS K ρ σ F' xs vs):ArgsS K ρ σ F' (x::xs) (v::vs):=by
 cases h with
 |v h _=>exact .v (h.same e) r
 |b i h1 h2 _=>exact .b i h1 h2 r
def Self1.ins{F:Hp}{x:DV}{v:V}{fs:List (Str×D)}(I:DInv K P F H ρ σ)(h:Self1 K ρ σ F x v)(hi:vK C x=some fs):∃a dx vs,v=.ref a/\H a=some (.ins C dx vs)/\RepsF K F vs fs:=by
 cases h with
 |@v d _ _ _ h _=>
  cases d with
  |ins C' fs'=>
   have c:(if C'=C then some fs' else none)=some fs:=hi;split at c
   ·rename_i e;subst e;cases c;exact pY I (.inl h)
   ·cases c
  |_=>cases hi
 |@b o _ _ _ i h1 h2 _=>
  cases o with
  |ins C' fs'=>
   have c:(if C'=C then some fs' else none)=some fs:=hi;split at c
   ·rename_i e;subst e;cases c;exact pY I (RepS.slot I h1 h2 rfl)
   ·cases c
  |_=>cases hi
def AD(K:Kq)(s:DF->Option DV):TE:=fun b H Q=>∃P F a x,s a=some x/\DInv K P F H a b/\∀v e c,Evo P F H e c->Self1 K a b e x v->Q v c
def nZ(X:Cx)(e:Expr)(s:DF->Option DV):Prop:=PE X e (AD X.K s)
section
variable  {k:Nat}{f:Addr}     {mn:Str}    {g:Dv}{s:DF->Option DV}
def BU(i:Nat)(h:PE X e (eI i)):nZ X e (bR i):=PE.imp h fun g H Q=>un7 fun P F j x c I k=>by
 unfold bR at c;split at c
 ·rename_i o t q;cases c;obtain⟨v,a,_⟩:=I.at q;exact⟨v,a,k v F H (Evo.refl I.toDHp) (.b i a (.inl ⟨t,q⟩) .nil)⟩
 ·rename_i o q;cases c;obtain⟨v,a,_⟩:=I.at q;exact⟨v,a,k v F H (Evo.refl I.toDHp) (.b i a (.inr q) .nil)⟩
 ·rename_i d q;cases c;obtain⟨v,a,f⟩:=I.at q;exact⟨v,a,k v F H (Evo.refl I.toDHp) (.v f .nil)⟩
 ·cases c
def Bs(h:PDE X e fa):nZ X e (l_ fa):=PE.imp h fun i H Q=>un7 fun P F b x a I k=>by
 unfold l_ at a;cases q:fa b with
 |none=>rw[q]at a;cases a
 |some d=>
  rw[q]at a;cases a;exact⟨P,F,b,d,q,I,fun v g f c r=>k v g f c (.v r .nil)⟩
def uu{x:DV}(h:pq C mn (x::xs)=true):∃fs,vK C x=some fs/\fs.lookup mn=none:=by
 unfold pq at h;cases q:vK C x with
 |none=>simp[q]at h
 |some fs=>exact⟨fs,rfl,by simpa[q]using h⟩
def yh{E:XK}{Q:VK}{F:Hp}{y:DV}(h:br s g ρ=some xs)(p:pq C mn xs=true)(u:m xs=some y)(I:DInv K P F H ρ σ)
  (k:∀v F1 H1 F2 H2,Evo P F H F1 H1->Same F1 F2->DHp (gd F1 H1) F2 H2->DVRep K (gd F1 H1) F2 H2 ub y v->Q v H2):v7 C mn (spD K m) [] E (AD K s) (tLV K g) σ H Q:=by
 unfold br at h;cases q:s ρ with
 |none=>rw[q]at h;cases h
 |some x=>
  rw[q,Ya]at h;cases b:g ρ with
  |none=>rw[b]at h;cases h
  |some i=>
   rw[b]at h;cases h;obtain⟨fs,A,z⟩:=uu p;refine⟨P,F,ρ,x,q,I,fun v F1 H1 j r1=>?_⟩;have f:=I.evo j;obtain⟨a,M,o,rfl,J,B⟩:=r1.ins f A;refine⟨a,M,o,rfl,J,B.no z,P,F1,ρ,i,b,f,fun R F2 H2 e r2=>?_⟩;have l:=f.evo e;refine⟨gd F2 H2,F2,x::i,y,u,ig l.sub,by rw[YU];exact(r1.cons e.ext r2).dvs l,fun w O N L c r3=>k w F2 H2 O N (j.trans e) L c r3⟩
def v_{E:XK}:∀σ H Q,tD K (bf C mn m (br s g)) σ H Q->v7 C mn (spD K m) [] E (AD K s) (tLV K g) σ H Q:=fun σ H Q=>un7 fun P F A d h I k=>by
 unfold bf at h;cases q:br s g A with
 |none=>rw[q]at h;cases h
 |some B=>
  rw[q,Ya]at h;split at h
  ·rename_i J;cases c:m B with
   |none=>rw[c]at h;cases h
   |some y=>
    rw[c,Ya]at h;refine yh q J c I fun v N z l j i w e r2=>?_;have x:=I.evo i;have p:Evo P N z l j:=x.toDHp.gd w e;cases y with
    |v d'=>cases h;exact k v l j (i.trans p) r2
    |own o t=>
     cases h;obtain⟨a,rfl,L,_⟩:=r2;have f:=qt w L;exact k _ _ j (i.trans (p.freeze x.toDHp (fun b=>z b=none/\l b=none) fun _ q=>q)) (f.rep (cV fun b q=>q.2) fun b u q M=>by rw[fD q];exact M)
    |bor o=>cases h
  ·cases h
def vU{pl:Sem Bool}(he:nZ X o s)(c:Cls X.K C)(l:Meth X.K C mn f)(G:FnOk X.prog X.w X.K X.mg X.base CX0 k f fd ps (spD X.K m))(j:Room k X.A)(p:Binds X.K fd ps [])(q:iE X (e::es) g)
  (h:starEach (e::es) X.env=(false,eval e X.env)::starEach es X.env:=by rfl) (a:(backTo pos (starEach es X.env)).any (·.1)=false:=by rfl)
  (i:eval (.Call (.Attribute o mn apos) (e::es) [] pos) X.env=(do
   let b <-eval o X.env
   standAt apos.atName
   let (f,first) <-holding [b] (getMethod b mn pl)
   callWith pos f first (backTo pos (starEach (e::es) X.env)) (backToKw pos (keywordEach [] X.env))):=by rfl):PDE X (.Call (.Attribute o mn apos) (e::es) [] pos) (bf C mn m (br s g)):=
 (BF he c l G j p .nil pP q h a i).imp v_
def fG{pl:Sem Bool}(he:nZ X o s)(c:Cls X.K C)(y:Meth X.K C mn f)(G:FnOk X.prog X.w X.K X.mg X.base CX0 k f fd ps (spD X.K m))(u:Room k X.A)(z:Binds X.K fd ps [])
  (q:eval (.Call (.Attribute o mn apos) [] [] pos) X.env=(do
   let b <-eval o X.env
   standAt apos.atName
   let (f,first) <-holding [b] (getMethod b mn pl)
   callWith pos f first (backTo pos (starEach [] X.env)) (backToKw pos (keywordEach [] X.env))):=by rfl):PDE X (.Call (.Attribute o mn apos) [] [] pos) (bf C mn m (br s g0)):=
 (xX he c y G u z .nil pP q).imp fun g H Q h=>by
  have:=v_ (K:=X.K) (E:=E0) g H Q h;obtain⟨P,F,j,x,L,J,I⟩:=this;refine⟨P,F,j,x,L,J,fun v U e N r=>?_⟩;obtain⟨a,R,fs,M,O,l,Z,T,i,Y,p,S,B⟩:=I v U e N r;cases p;exact⟨a,R,fs,M,O,l,B [] T e (Evo.refl S.toDHp) .nil⟩
def cG(C:Addr)(mM:Dz)(g:Dv):DF->Option OD:=fun a=>(g a).bind fun x=>match mM (.ins C []) x with
 |some (o',.non)=>if o'.flat=true then some o' else none
 |_=>none
def gr(M:Mk X.K C f)(G:FnOk X.prog X.w X.K X.mg X.base CX0 k f fd ps (spM X.K mM))(U:Room (k+1) X.A)(hg:Gl X x)(hm:X.mg x=some (.ref C))(hb:Binds X.K fd ps [])(ha:iE X (e::es) g)
  (m:nDb x:=by decide) (he:starEach (e::es) X.env=(false,eval e X.env)::starEach es X.env:=by rfl) (i:(backTo pos (starEach es X.env)).any (·.1)=false:=by rfl):PDO X (.Call (.Name x p) (e::es) [] pos) (cG C mM g):=
 (v0 M G U hg hm hb .nil pP ha m he i).imp fun σ H Q=>un7 fun P F B T h I k=>by
  unfold cG at h;cases q:g B with
  |none=>rw[q]at h;cases h
  |some E=>
   rw[q,Ya]at h;split at h
   ·rename_i o' S;split at h
    ·rename_i fl;cases h;refine⟨P,F,B,E,q,I,fun O N s o r1 y L c l Z=>?_⟩;have a:=I.evo o;have J:Same s (upd (upd s L (.own y)) y (.ins C L [])):=fun b u z=>by rw[aU (bg z c),aU (bg z l)];exact z
     refine⟨gd N s,N,y,O,.ins C [],E,T,.non,by simp,S,⟨a.sub.trans J,fun b u z=>J b u ((ig a.sub).pro b u z),(ig a.sub).dis⟩,a.sub.free c,(ig a.sub).pro.free c,rfl,⟨_,a8,rfl,.nil⟩,(r1.dvs a).heap,fun v F2 H2 e2 j f2 Y fl' R=>?_⟩;cases R;exact⟨rfl,k y F2 H2 (o.trans (a.toDHp.gd e2 j)) ((ORep.flat fl).mpr ⟨⟨o.back I.toDHp c,f2⟩,Y⟩)⟩
    ·cases h
   ·cases h
end
section
variable{κ:Type} [DecidableEq κ]
def cZ(kvs:List (κ×D))(k:κ):Option D:=(kvs.find? fun a=>decide (a.1=k)).map (·.2)
def eC(kvs:List (κ×D))(k:κ)(v:D):List (κ×D):=
 if(kvs.any fun a=>decide (a.1=k))=true then kvs.map (fun a=>if a.1=k then(a.1,v)else a)else kvs++[(k,v)]
end
def wM{k k':List Key}{v:V}{vs:List (List Key×V)}:eY ((k',v)::vs) k=if k'=k then some v else eY vs k:=by unfold eY;by_cases q:k'=k<;>simp[ZC,q]
def cb{κ:Type}[DecidableEq κ]{k k':κ}{v:D}{vs:List (κ×D)}:cZ ((k',v)::vs) k=if k'=k then some v else cZ vs k:=by unfold cZ;by_cases q:k'=k<;>simp[ZC,q]
def RepsT.val{k:List Key}{vs:List (List Key×V)}{ds:List (List Key×D)}(h:RepsT K H vs ds):(eY vs k=none/\cZ ds k=none)\/∃v d,eY vs k=some v/\cZ ds k=some d/\Rep K H v d:=
 RepsT.ind (M:=fun vs ds=>(eY vs k=none/\cZ ds k=none)\/∃v d,eY vs k=some v/\cZ ds k=some d/\Rep K H v d) (.inl ⟨rfl,rfl⟩) (fun{a v d vs ds} h _ ih=>by
  rw[wM,cb];by_cases q:a=k
  ·rw[Yh q,Yh q];exact .inr ⟨v,d,rfl,rfl,h⟩
  ·rw[Yl q,Yl q];exact ih) h
def RepsT.any{k:List Key}{vs:List (List Key×V)}{ds:List (List Key×D)}(h:RepsT K H vs ds):(vs.any fun a=>decide (a.1=k))=ds.any fun a=>decide (a.1=k):=
 RepsT.ind (M:=fun vs ds=>(vs.any fun a=>decide (a.1=k))=ds.any fun a=>decide (a.1=k)) rfl (fun _ _ ih=>by rw[Xb,Xb,ih]) h
def RepsT.map{k:List Key}{v:V}{d:D}(f:Rep K H v d){vs:List (List Key×V)}{ds:List (List Key×D)}(h:RepsT K H vs ds):RepsT K H (vs.map fun a=>if a.1=k then(a.1,v)else a) (ds.map fun a=>if a.1=k then(a.1,d)else a):=
 RepsT.ind (M:=fun vs ds=>RepsT K H (vs.map fun a=>if a.1=k then(a.1,v)else a) (ds.map fun a=>if a.1=k then(a.1,d)else a)) .nil (fun{b c e vs ds} h _ ih=>by
  rw[Yx,Yx];by_cases q:b=k
  ·rw[Yh (show(b,c).1=k from q),Yh (show(b,e).1=k from q)];exact .cons f ih
  ·rw[Yl (show ¬(b,c).1=k from q),Yl (show ¬(b,e).1=k from q)];exact .cons h ih) h
def RepsT.snoc{k:List Key}{v:V}{d:D}(a:Rep K H v d){vs:List (List Key×V)}{ds:List (List Key×D)}(h:RepsT K H vs ds):RepsT K H (vs++[(k,v)]) (ds++[(k,d)]):=
 RepsT.ind (M:=fun vs ds=>RepsT K H (vs++[(k,v)]) (ds++[(k,d)])) (.cons a .nil) (fun h _ ih=>.cons h ih) h
def RepsT.put{k:List Key}{v:V}{d:D}{vs:List (List Key×V)}{ds:List (List Key×D)}(a:Rep K H v d)(r:RepsT K H vs ds):RepsT K H (gX vs k v) (eC ds k d):=by
 unfold gX eC;rw[r.any (k:=k)];split
 ·exact r.map a
 ·exact r.snoc a
def RepsT.length{vs:List (List Key×V)}{ds:List (List Key×D)}(h:RepsT K H vs ds):vs.length=ds.length:=RepsT.ind (M:=fun vs ds=>vs.length=ds.length) rfl (fun _ _ ih=>Zn Nat.succ ih) h
def jt:D->Option Key
 |.int i=>some (.inl i)
 |.str x=>some (.inr x)
 |_=>none
def eZ:List D->Option (List Key)
 |[]=>some []
 |d::ds=>(jt d).bind fun k=>(eZ ds).map fun r=>k::r
def iY:D->Option (List Key)
 |.tup ds=>eZ ds
 |_=>none
def Reps.keys{ks:List Key}(h:Reps K H vs ds):eZ ds=some ks->vs=ks.map kV:=
 Reps.ind (M:=fun vs ds=>∀ks:List Key,eZ ds=some ks->vs=ks.map kV) (fun ks e=>by cases e;rfl) (fun{v d vs ds} h _ ih ks e=>by
  unfold eZ at e;cases q:jt d with
  |none=>rw[q]at e;cases e
  |some k=>
   rw[q,Ya]at e;cases a:eZ ds with
   |none=>rw[a]at e;cases e
   |some b=>
    rw[a]at e;cases e;rw[ih _ a,Yx];cases d with
    |int i=>cases q;cases h;rfl
    |str i=>cases q;cases h;rfl
    |_=>cases q) h ks
def qE{F:Hp}{y:V}{ks:List Key}(a:DHp P F H)(r:Rep K F y dy)(h:iY dy=some ks):∃b,y=.ref b/\H b=some (.tup (ks.map kV)):=by
 cases dy with
 |tup ds=>cases r with|tup h1 h2=>exact⟨_,rfl,by rw[a.sub _ _ h1,h2.keys h]⟩
 |_=>cases h
section
variable  {i f:Expr}  {fd fk:Dd}
def gL:D->D->Option D
 |.dT kvs,y=>(iY y).bind fun k=>cZ kvs k
 |_,_=>none
def vQ(Y:X.A.units+64<cLine)(J:PDR X o fd)(hi:PDE X i fk)(E:BS i:=by exact fun _ _=>rfl):PDE X (.Subscript o i pos) (d2 gL fd fk):=(vR (by omega) J hi E).imp fun T H Q=>un7 fun P F b d a I k=>by
 unfold d2 at a;cases c:fd b with
 |none=>rw[c]at a;cases a
 |some N=>
 cases g:fk b with
 |none=>rw[c,Ya,g]at a;cases a
 |some l=>
 rw[c,Ya,g,Ya]at a;cases N with
 |dT kvs=>
  have h:((iY l).bind fun k=>cZ kvs k)=some d:=a;cases f:iY l with
  |none=>rw[f]at h;cases h
  |some C=>
   rw[f,Ya]at h;refine⟨P,F,b,_,c,I,fun x S H1 j B=>⟨P,S,b,_,g,I.evo j,fun y R O e w=>?_⟩⟩;obtain⟨p,U,rfl,M,L⟩:=uF ((I.evo j).evo e) (B.evo e);obtain⟨q,rfl,K⟩:=qE e.hp w f;rcases L.val (k:=C)with⟨_,z⟩|⟨v,Z,u,s,m⟩
   ·rw[z]at h;cases h
   ·rw[s]at h;cases h;exact⟨p,v,rfl,by have:=DGet.t M K;rw[u]at this;exact this,k v R O (j.trans e) m⟩
 |_=>cases a
def jW(fd fk fx:Dd):DF->Option D:=fun a=>match fd a with
 |some (.dT kvs)=>(fk a).bind fun y=>(iY y).bind fun k=>(fx a).map fun x=>(cZ kvs k).getD x
 |_=>none
def sE(hu:X.A.units+64<cLine)(ho:PDR X o fd)(hi:PDE X e fk)(hx:PDE X f fx)(m:M2 X o "get" apos e f cpos:=by exact⟨rfl,rfl,rfl,rfl⟩):PDE X (.Call (.Attribute o "get" apos) [e,f] [] cpos) (jW fd fk fx):=(yi (by omega) ho hi hx m).imp fun σ H Q=>un7 fun P F b d h I k=>by
 unfold jW at h;split at h
 ·rename_i c Z;cases C:fk b with
  |none=>rw[C]at h;cases h
  |some dy=>
   rw[C,Ya]at h;cases B:iY dy with
   |none=>rw[B]at h;cases h
   |some E=>
    rw[B,Ya]at h;cases w:fx b with
    |none=>rw[w]at h;cases h
    |some N=>
     rw[w]at h;cases h;refine⟨P,F,b,_,Z,I,fun x F1 H1 i M=>?_⟩;obtain⟨p,T,rfl,h1,h2⟩:=uF (I.evo i) M;refine⟨p,rfl,.inr ⟨T,.inl h1⟩,P,F1,b,_,C,I.evo i,fun y F2 H2 j Y=>⟨P,F2,b,_,w,(I.evo i).evo j,fun z l O g U=>?_⟩⟩;have I3:=((I.evo i).evo j).evo g;obtain⟨p',S,ep,L,J⟩:=uF I3 ((M.evo j).evo g);cases ep;obtain⟨q,rfl,h3⟩:=qE g.hp (Y.same g.ext) B;refine⟨_,DGet.t L h3,?_⟩;have a:=(i.trans j).trans g;rcases J.val (k:=E)with⟨u,s⟩|⟨v,d',u,s,R⟩
     ·rw[u];exact k _ l O a (by show Rep X.K l z ((cZ c E).getD N);rw[s];exact U)
     ·rw[u];exact k _ l O a (by show Rep X.K l v ((cZ c E).getD N);rw[s];exact R)
 ·cases h
def o5:PDO X (.Dict [] [] pos) (fun _=>some (.dT [])):=xY.imp fun b H Q=>un7 fun P F c o a I k=>by
 cases a;exact fun p h=>k p F _ (Evo.side I.toDHp h) ⟨⟨h,(I.toDHp.free h).1⟩,_,a8,.nil⟩
def oP(j:Nat)(fk fv:Dd):DF->Option RES:=fun a=>match a[j]? with
 |some (some (.own (.dT kvs) t))=>(fv a).bind fun v=>(fk a).bind fun y=>(iY y).bind fun k=>if kvs.length<16777216 then some (.nx (a.set j (some (.own (.dT (eC kvs k v)) t))))else none
 |_=>none
def vy(j:Nat)(hu:X.A.units+64<cLine)(M:PE X o (eI j))(hi:PDE X i fk)(hv:PDE X e fv)(L:swapsWith e (some (.Subscript o i pos')) pos.line X.env=pure false:=by rfl):PD1 X (.Assign [.Subscript o i pos'] e pos) (oP j fk fv):=
 PS.imp (B6 (by omega) M hi hv L) fun E z H=>un7 fun P F c r h I k=>by
  unfold oP at h;split at h
  ·rename_i m t q;cases f:fv c with
   |none=>rw[f]at h;cases h
   |some dv=>
   rw[f,Ya]at h;cases l:fk c with
   |none=>rw[l]at h;cases h
   |some Q=>
   rw[l,Ya]at h;cases g:iY Q with
   |none=>rw[g]at h;cases h
   |some Y=>
   rw[g,Ya]at h;split at h
   ·rename_i N;cases h;obtain⟨v,s,p,rfl,⟨⟨S,a2,_⟩,u,R,b⟩,_⟩:=I.at q;cases u with
    |dT vs=>
     have b:RepsT X.K F vs m:=b;refine⟨P,F,c,_,f,I,fun v U H1 x C=>⟨_,s,P,U,c,_,l,I.evo x,fun y T H2 w B=>?_⟩⟩;have a:=x.trans w;obtain⟨J,Z⟩:=a.keep p _ R S;obtain⟨b',rfl,O⟩:=qE a.hp B g;refine⟨p,_,rfl,DPut.t J O (by rw[YV,b.length];exact N),k z T _ a.ext ?_⟩;exact(I.evo a).mut (o':=.dT _) (u:=.dT _) q rfl rfl s ((RepsT.same a.ext b).put (C.same w.ext))
    |_=>exact b.elim
   ·cases h
  ·cases h
end
end L2
namespace L2
open PySem PySem.Spec PyProof.Rows PySem.W
def qN(prog:Program)(w:World)(A:Around)(Q:Kv)(vs:List Value)(s1:Shared):Prop:=
 vs.length<64/\∃(c:SortKind) (lt:Nat->Nat->Bool),Ord lt /\
  (2<=vs.length->∀h,(∀b u,s1.heap.get? b=some u->h.get? b=some u)->∀(Q:SortKind->Shared->Prop) (E:Kv),Q c {s1 with heap:=h }->wpAny (model prog w) A.in1.in1 (keyKind' vs.toArray) Q E {s1 with heap:=h }) /\
  (∀h,(∀b u,s1.heap.get? b=some u->h.get? b=some u)->∀i j C,i<vs.length->j<vs.length->C (lt i j) {s1 with heap:=h }->kas_ask prog w A.in1.in1 c vs i j C {s1 with heap:=h }) /\
  ∀p,PermN vs.length p->Ris lt p vs.length->∀(a:Addr) (h:Heap) (e:Nat),(∀b u,s1.heap.get? b=some u->h.get? b=some u)->s1.heap.objs.size<=a->h.get? a=some (seqObj "list" (lM vs p) e)->Q (.ref a) {s1 with heap:=h }
def sf{v:Value}(x:wpAny (model prog w) A.in1 (collect v) (qN prog w A Q) E s) :
  wpAny (model prog w) A (call (.builtin "sorted") [v]) Q E s:=by
 refine Calls.call_function_entry kind_sorted plain_sorted entry_sorted (args_sorted1 _) ?_;unfold Builtin.«sorted»;refine Yc (m:=checkCount "sorted" 1 1 _) (Yw ?_);refine Yc (Zq x (fun c a y=>?_) fun _ _ e=>e);obtain⟨h64,z,lt,o,H,J,h⟩:=y;refine Yc (wpAny_newList ?_ (by rw[YV];omega));have i:(a.heap.push (seqObj "list" c.toArray 0)).get? a.heap.objs.size=some (seqObj "list" c.toArray 0):=Yo _ rfl;have g:∀b u,a.heap.get? b=some u->(a.heap.push (seqObj "list" c.toArray 0)).get? b=some u:=fun b u q=>Ye _ q
 show wpAny _ _ _ _ _ {a with heap:=a.heap.push (seqObj "list" c.toArray 0)};have l:∀f:Heap,(∀b u,b≠a.heap.objs.size->(a.heap.push (seqObj "list" c.toArray 0)).get? b=some u->f.get? b=some u)->∀b u,a.heap.get? b=some u->f.get? b=some u:=fun f k b u e=>
  k b u (Yy (Yp e)) (g b u e)
 refine Yc (ZK (Xw slot_list_sort ⟨_,i,rfl⟩ entry_list_sort ?body (args_list_sort _)))
 case body=>
  refine oM i h64 z lt o (fun K f k Q q=>H K f (l f k) Q _ q) (fun f k=>J f (l f k)) fun p C B=>⟨_,rfl,?_⟩
  obtain⟨e,I⟩:=sortedHeap_at (out:=lM c p) i;refine Yw ⟨_,rfl,h p C B a.heap.objs.size _ e (fun b u q=>?_) (Ym _) I⟩;have j:b<a.heap.objs.size:=Yp q;show(sortedHeap (a.heap.push (seqObj "list" c.toArray 0)) a.heap.objs.size c (lM c p)).get? b=some u;rw[sortedHeap_old (Yy j) (by rw[size_push'];exact Xp j)];exact g b u q
def ou{vs:List Value}{Q:Kl}(e:IsTup s.heap l vs.toArray)
  (h:Q vs {s with heap:=(s.heap.push (seqObj "list" #[] 0)).update s.heap.objs.size (Obj.mapSeq (·++vs.toArray))}) (hsz:vs.length<=sizeLine) :
  wpAny (model prog w) A (collect (.ref l)) Q E s:=by
 obtain⟨o,c,g,n,f⟩:=id e;unfold collect;refine Yc (wpAny_runValue (ZP entry_proto_collect' ?_));show wpAny _ _ (do again (.builtin "list.__iadd__" ⟨[<-newList [],.ref l],[]⟩)) _ _ s;refine Yc (wpAny_newList (Yw ⟨Code.quiet_builtin _ (by decide+kernel),ZP entry_list_iadd' ?_⟩));show wpAny _ _ (Builtin.List.listExtendWith (.ref s.heap.objs.size) (.ref l) (.ref s.heap.objs.size)) _ _ {s with heap:=s.heap.push (seqObj "list" #[] 0)};unfold Builtin.List.listExtendWith;have a:(s.heap.push (seqObj "list" #[] 0)).get? l=some o:=Ye _ c;refine Yc (wpAny_typeOf (T := "tuple") ⟨o,a,g⟩ ?_);have b:(Value.type "tuple" == Value.type "tuple")=true:=by rfl
 rw[Yh (by rw[b];simp)];refine Yc (listItems_at a f ?_);refine Yc (listItems_at (xs:=#[]) (n:=0) (Yo _ rfl) rfl ?_);rw[Yl (by simp)];refine Yc (listUpdate_at (xs:=#[]) (n:=0) (Yo _ rfl) rfl ?_ (YO _) (by show(#[]++vs.toArray).size<=sizeLine+1;simp only[Array.size_append,Yq,YY];omega));refine Yw ?_;show wpAny (model prog w) A (do
   let o <-load s.heap.objs.size
   match o.data with
   |.seq xs _=>pure xs.toList
   |_=>unsupported "internal:collect") Q E {s with heap:=(s.heap.push (seqObj "list" #[] 0)).update s.heap.objs.size (Obj.mapSeq (·++vs.toArray))}
 refine Yc (wpAny_load (get?_update_seq (Yo _ rfl) _) ?_);show wpAny _ _ (pure ((#[]:Array Value)++vs.toArray).toList) Q E _;rw[show((#[]:Array Value)++vs.toArray).toList=vs by simp];exact Yw h
def mQ{vs:List Value}{b:Addr}{u:Obj}(q:h.get? b=some u):((h.push (seqObj "list" #[] 0)).update h.objs.size (Obj.mapSeq (·++vs.toArray))).get? b=some u:=by have a:b<h.objs.size:=Yp q;rw[Heap.get?_update_ne _ _ _ _ (Yy a),Xq _ _ _ (Yy a)];exact q
def sk:D->Bool
 |.int _=>true
 |.str _=>true
 |.tup (_::_)=>true
 |_=>false
def fk:D->Bool
 |.int _=>true
 |.str _=>true
 |.tup _=>true
 |_=>false
def vT:D->Bool
 |.tup (d::_)=>fk d
 |_=>true
def eE(ds:List D):Bool:=decide (ds.length<64)&&ds.all (okN 28)&&(ds.all fun x=>ds.all fun y=>aE x y)&&ds.all sk&&ds.all vT
def ju(h:eE ds=true):ds.length<64/\Cmps 28 ds/\(∀d∈ds,sk d=true)/\∀d∈ds,vT d=true:=by unfold eE at h;simp only[Yg,Yu]at h;obtain⟨⟨⟨⟨j,i⟩,g⟩,f⟩,e⟩:=h;exact⟨j,⟨fun d a=>Yr.mp i d a,fun x c y b=>Yr.mp (Yr.mp g x c) y b⟩,fun d a=>Yr.mp f d a,fun d a=>Yr.mp e d a⟩
def dAt(ds:List D)(i:Nat):D:=ds.getD i (ds.headD (.int 0))
def qP(h:ds≠[])(i:Nat):dAt ds i∈ds:=by
 unfold dAt;cases ds with
 |nil=>exact absurd rfl h
 |cons d r=>
  rw[YD];cases q:(d::r)[i]? with
  |none=>exact Yf
  |some x=>exact YB q
def qh(h:i<ds.length):ds[i]?=some (dAt ds i):=by unfold dAt;rw[YD,Yi h];rfl
def Fe{n:Nat}(a:Cmps n ds):Ord fun i j=>ltD (dAt ds i) (dAt ds j):=by
 by_cases b:ds=[]
 ·subst b;have e:∀i,dAt [] i=.int 0:=fun i=>by simp[dAt]
  refine⟨fun i j h=>?_,fun i j k f c=>?_⟩
  ·rw[e,e]at h;simp[ltD]at h
  ·rw[e,e];simp[ltD]
 ·have m:=fun i=>qP b i
  refine⟨fun i j h=>?_,fun i j k f c=>?_⟩
  ·exact(j4 n _ _ (a.1 _ (m i)) (a.1 _ (m j)) (a.2 _ (m i) _ (m j))).as h
  ·exact oS (a.1 _ (m i)) (a.1 _ (m j)) (a.1 _ (m k)) (a.2 _ (m i) _ (m j)) (a.2 _ (m j) _ (m k)) (a.2 _ (m i) _ (m k)) (a.2 _ (m j) _ (m i)) (a.2 _ (m k) _ (m j)) (a.2 _ (m k) _ (m i)) f c
def t_{n:Nat}(m:Cmps n ds){p:Array Nat}(b:PermN ds.length p)(l:Ris (fun i j=>ltD (dAt ds i) (dAt ds j)) p ds.length):p.toList.map (dAt ds)=dh ds:=by
 refine nM (n:=n) ?_ m ?_
 ·have g:(p.toList.map (dAt ds)).Perm ((List.range ds.length).map (dAt ds)):=b.perm.map _;have o:(List.range ds.length).map (dAt ds)=ds:=by
   apply List.ext_getElem?;intro i;rw[Yt];by_cases h:i<ds.length
   ·rw[Xc h,Zv,qh h]
   ·rw[ZD (by rw[ZA];omega),ZD (by omega)];rfl
  rw[o]at g;exact g
 ·rw[List.pairwise_map,List.pairwise_iff_getElem];intro i j f c a;have q:=b.size;rw[Zy]at f c;have:=l i j (ZB a) (by omega);have e:∀k (h:k<p.size),p.getD k 0=p[k]:=fun k h=>by simp[Array.getD,h]
  rw[e i f,e j c]at this;simpa using this
def Reps.perm(r:Reps K H vs ds)(a:ds≠[]):∀(l:List Nat),(∀i∈l,i<ds.length)->Reps K H (l.map fun i=>vs.getD i .non) (l.map (dAt ds))
 |[],_=>.nil
 |i::l,h=>by
  obtain⟨v,f,c⟩:=r.get (qh (h i Yf));have e:vs.getD i .non=v:=by rw[YD,f];rfl
  rw[Yx,Yx];show Reps K H (vs.getD i .non::_) _;rw[e];exact .cons c (Reps.perm r a l fun j b=>h j (Yd _ b))
def Vals.perm(r:Vals vs us):∀(l:List Nat),(∀i∈l,i<vs.length)->Vals (l.map fun i=>vs.getD i .non) (l.map fun i=>us.getD i Value.none)
 |[],_=>.nil
 |i::l,h=>by
  have a:=h i Yf;obtain⟨u,e,c⟩:=r.get (Yi a);have g:vs.getD i .non=vs[i]:=by rw[YD,Yi a];rfl
  have f:us.getD i Value.none=u:=by rw[YD,e];rfl
  rw[Yx,Yx];show Vals (vs.getD i .non::_) (us.getD i Value.none::_);rw[g,f];exact .cons c (Vals.perm r l fun j b=>h j (Yd _ b))
def tyD:D->Value
 |.int _=>.type "int"
 |.str _=>.type "str"
 |_=>.type "tuple"
def Rep.ty(I:Inv X pz σ H s){v:V}{d:D}(h:Rep X.K H v d)(c:fk d=true)(r:RelV v u)(M:Model):Looks M s.heap (typeOf u) (tyD d):=by
 cases d with
 |int i=>cases h;obtain⟨t,rfl⟩:=(show ∃t,u=Value.int _ t from r);exact Looks.of_pure rfl
 |str i=>cases h;obtain⟨t,rfl⟩:=(show ∃t,u=Value.str _ t from r);exact Looks.of_pure rfl
 |tup ds=>
  cases h with
  |tup h1 h2=>
   cases(show u=Value.ref _ from r);obtain⟨a,g,⟨o,b,e,n,j⟩,_⟩:=I.tuple (SqT.of h1);have:=(Looks.ld (M:=M) (part:=none) b).andThen (f:=fun o=>pure o.cls) .now;rw[e]at this;exact this
 |_=>cases c
def uf{x y:D}(h:aE x y=true)(hx:fk x=true):tyD x=tyD y:=by
 rcases bz h with⟨i,j,rfl,rfl⟩|⟨i,j,rfl,rfl⟩|⟨i,j,rfl,rfl⟩|⟨i,j,rfl,rfl,_⟩
 ·rfl
 ·cases hx
 ·rfl
 ·rfl
def pc:List D->SortKind
 |.tup (d::_)::_=>tuples' (tyD d != .type "tuple")
 |_=>oneType'
def uQ(I:Inv X pz σ H s):∀{vs:List V}{ds:List D}{us:List Value},Reps X.K H vs ds->Vals vs us->(∀d∈ds,∃x r,d=.tup (x::r)/\fk x=true)->∀T:Value,(∀x r,.tup (x::r)∈ds->tyD x=T)->
  ∃fs:List Value,KatTups s.heap us fs/\fs.length=us.length/\∀M,∀v∈fs,Looks M s.heap (typeOf v) T:=by
 intro vs ds us h;exact Reps.ind (M:=fun vs ds=>∀us:List Value,Vals vs us->(∀d∈ds,∃x r,d=.tup (x::r)/\fk x=true)->∀T:Value,(∀x r,.tup (x::r)∈ds->tyD x=T) ->     ∃fs:List Value,KatTups s.heap us fs/\fs.length=us.length/\∀M,∀v∈fs,Looks M s.heap (typeOf v) T) (fun us r _ _ _=>by cases r;exact⟨[],.nil,rfl,fun _ _ h=>by cases h⟩) (fun h _ ih us g b T c=>by
  cases g with
  |cons r t=>
  obtain⟨x,f,rfl,l⟩:=b _ Yf;obtain⟨fs,z,y,w⟩:=ih _ t (fun d m=>b d (Yd _ m)) T fun x r m=>c x r (Yd _ m)
  cases h with
  |tup h1 h2=>
   cases(show _=Value.ref _ from r);obtain⟨j,e,⟨o,p,q,n,a⟩,_⟩:=I.tuple (SqT.of h1);cases h2 with
   |cons u B=>
    cases e with
    |cons i A=>
     refine⟨_::fs,KatTups.cons p q a (by simp;rfl) z,by rw[Yz,Yz,y],fun M v hv=>?_⟩;rcases YH.mp hv with rfl|hv
     ·rw[<-c x f Yf];exact u.ty I l i M
     ·exact w M v hv) h us
def qm{d:D}(h:sk d=true)(a:jy d=false):fk d=true:=by cases d<;>first|rfl|cases h|cases a
def mK(I:Inv X pz σ H s)(r:Reps X.K H vs ds)(q:Vals vs us)(ok:eE ds=true)(h2:2<=us.length){M:Model}{Q:SortKind->Shared->Prop}(w:Q (pc ds) s) :
  wpAny M A (keyKind' us.toArray) Q E s:=by
 obtain⟨hl,L,p,C⟩:=ju ok;have R:=r.length;have l2:=q.length;cases ds with
 |nil=>rw[YY]at R;omega
 |cons d B=>
  have f:d∈d::B:=Yf;cases g:jy d with
  |true=>
   cases d with
   |tup xs=>
    cases xs with
    |nil=>have:=p _ f;cases this
    |cons x O=>
     have S:fk x=true:=C _ f;have all:∀c∈(D.tup (x::O)::B),∃y b,c=.tup (y::b)/\fk y=true/\tyD y=tyD x:=fun c m=>by
      have a:=L.2 _ f _ m;rcases bz a with⟨i,j,e,_⟩|⟨i,j,e,_⟩|⟨i,j,e,_⟩|⟨i,j,e,z,o⟩
      ·cases e
      ·cases e
      ·cases e
      ·cases e;subst z;cases j with
       |nil=>have:=p _ m;cases this
       |cons y b=>
        rw[bV,Yg]at o;exact⟨y,b,rfl,C _ m,(uf o.1 S).symm⟩
     obtain⟨fs,f1,f2,Z⟩:=uQ I r q (fun c m=>by obtain⟨y,b,e,h,_⟩:=all c m;exact⟨y,b,e,h⟩) (tyD x) fun y b m=>by
      obtain⟨y',P,e,_,h⟩:=all _ m;cases e;exact h
     exact kat_kind f1 (by omega) (Z M) (by cases x<;>rfl) w
   |_=>cases g
  |false=>
   have J:fk d=true:=qm (p d f) g;have e:pc (d::B)=oneType':=by cases d<;>first|rfl|cases g
   rw[e]at w;have Y:∀u∈us,Looks M s.heap (typeOf u) (tyD d):=fun u T=>by
    obtain⟨i,U,eu⟩:=Vi T;have l:i<vs.length:=by omega
    obtain⟨u',N,z⟩:=q.get (Yi l);rw[Yi U,eu]at N;cases N;obtain⟨c,e3,e4⟩:=r.getV (Yi l);have m:=YB e3;have a:=L.2 _ f _ m;rw[uf a J];refine e4.ty I ?_ z M;refine qm (p c m) ?_;rcases bz a with⟨i,j,rfl,rfl⟩|⟨i,j,rfl,rfl⟩|⟨i,j,rfl,rfl⟩|⟨i,j,rfl,rfl,_⟩
    ·rfl
    ·rfl
    ·rfl
    ·cases g
   refine kas_kind h2 Y ?_ ?_ w
   ·cases d<;>first|rfl|(simp[fk]at J;done)|(simp[jy]at g;done)
   ·cases d<;>rfl
def Ci{b:Bool}{Q:Kb}{n1 n2:Nat}:∀{us f:List Value}{ds es:List D} (i:Nat),LexOk A s us f ds es->(b=true->i=0->∀u j d e o wr y er,us=u::o->f=j::wr->ds=d::y->es=e::er->∀(Q:Kb) (E:Kv),Q (ltD d e) s->wpAny (model prog w) A (oneLt' true u j) Q E s)->
  us.length+n2=f.length+n1->Q (cy ds es) s->KatLex prog w A b (decide (n1<n2)) Q (us.zip f) i s:=by
 intro us f ds es i h;induction h generalizing i with
 |@nl f es hl=>
  intro _ g a;rw[List.zip_nil_left];refine kat_nil ?_;rw[YY]at g;cases es with
  |nil=>
   rw[YY]at hl;rw[show cy [] []=false by simp[cy]]at a;rw[YE (by omega)];exact a
  |cons c r=>
   rw[Yz]at hl;rw[show cy [] (c::r)=true by simp[cy]]at a;rw[YM (by omega)];exact a
 |@nr vs ds hl=>
  intro _ g a;rw[List.zip_nil_right];refine kat_nil ?_;rw[YY]at g;cases ds with
  |nil=>
   rw[YY]at hl;rw[show cy [] []=false by simp[cy]]at a;rw[YE (by omega)];exact a
  |cons c r=>
   rw[Yz]at hl;rw[show cy (c::r) []=false by simp[cy]]at a;rw[YE (by omega)];exact a
 |@cons v j d e _ _ _ _ p l B ih=>
  intro x g a;rw[Vl];rw[Yz,Yz]at g;refine kat_cons (p prog w _ _ ?_);cases q:eqd d e with
  |true=>
   rw[cy,Yh q]at a;exact kat_yes (ih (i+1) (fun _ z=>by omega) (by omega) a)
  |false=>
   rw[cy,Yl (by rw[q];exact Yk)]at a;refine kat_no ?_;cases m:(b&&i == 0)with
   |true=>
    rw[Yg]at m;exact x m.1 (by simpa using m.2) _ _ _ _ _ _ _ _ rfl rfl rfl rfl _ _ a
   |false=>exact kat_one _ _ (l q prog w _ _ a)
def AB{x y:V}{d e:D}{v:Value}(h1:Rep X.K H x d)(h2:Rep X.K H y e)(c:aE d e=true)(hd:fk d=true)(b:jy d=false)(r1:RelV x u)(r2:RelV y v){Q:Kb}(h:Q (ltD d e) s) :
  wpAny (model prog w) A (oneLt' true u v) Q E s:=by
 rcases bz c with⟨i,j,rfl,rfl⟩|⟨i,j,rfl,rfl⟩|⟨i,j,rfl,rfl⟩|⟨i,j,rfl,rfl,_⟩
 ·cases h1;cases h2;obtain⟨t,rfl⟩:=(show ∃t,u=Value.int _ t from r1)
  obtain⟨a,rfl⟩:=(show ∃t,v=Value.int _ t from r2)
  exact oneLt_int (by rw[ltD]at h;exact h)
 ·cases hd
 ·cases h1;cases h2;obtain⟨t,rfl⟩:=(show ∃t,u=Value.str _ t from r1)
  obtain⟨a,rfl⟩:=(show ∃t,v=Value.str _ t from r2)
  exact oneLt_str (by rw[ltD]at h;exact h)
 ·cases b
def DQ(I:Inv X pz σ H s)(r:Reps X.K H vs ds)(q:Vals vs us)(ok:eE ds=true)(hu:A.units+60<cLine){C:Kb}(hi:i<us.length)(hj:j<us.length)(O:C (ltD (dAt ds i) (dAt ds j)) s) :
  kas_ask prog w A (pc ds) us i j C s:=by
 obtain⟨hl,g,B,hf⟩:=ju ok;have l1:=r.length;have l2:=q.length;obtain⟨v,e1,r1⟩:=r.get (qh (show i<ds.length by omega));obtain⟨v',e2,r2⟩:=r.get (qh (show j<ds.length by omega));obtain⟨u,e3,T⟩:=q.get e1;obtain⟨P,e4,S⟩:=q.get e2;have o:ds≠[]:=fun z=>by rw[z,YY]at l1;omega
 have m:=qP o i;have R:=qP o j;have f:=g.2 _ m _ R;unfold kas_ask;have g1:us.getD i Value.none=u:=by rw[YD,e3];rfl
 have g2:us.getD j Value.none=P:=by rw[YD,e4];rfl
 rw[g1,g2];generalize hx:dAt ds i=x,hy:dAt ds j=y at *;cases l:jy x with
 |false=>
  have e:pc ds=oneType':=by
   cases ds with
   |nil=>exact absurd rfl o
   |cons d dr=>
    have:=g.2 _ m d Yf;rcases bz this with⟨i,j,rfl,rfl⟩|⟨i,j,rfl,rfl⟩|⟨i,j,rfl,rfl⟩|⟨i,j,rfl,rfl,_⟩
    ·rfl
    ·rfl
    ·rfl
    ·cases l
  rw[e,keyLt'_oneType];exact AB r1 r2 f (qm (B _ m) l) l T S O
 |true=>
  cases x with
  |tup xs=>
   cases xs with
   |nil=>have:=B _ m;cases this
   |cons p xr=>
    rcases bz f with⟨_,_,e,_⟩|⟨_,_,e,_⟩|⟨_,_,e,_⟩|⟨xs',ys,e,rfl,h⟩
    ·cases e
    ·cases e
    ·cases e
    ·cases e;have ek:pc ds=tuples' (tyD p != .type "tuple"):=by
      cases ds with
      |nil=>exact absurd rfl o
      |cons d dr=>
       have:=g.2 _ m d Yf;rcases bz this with⟨_,_,e,_⟩|⟨_,_,e,_⟩|⟨_,_,e,_⟩|⟨_,zs,e,rfl,Z⟩
       ·cases e
       ·cases e
       ·cases e
       ·cases e;cases zs with
        |nil=>have:=B (.tup []) Yf;cases this
        |cons z0 zr=>
         rw[bV,Yg]at Z;show tuples' (tyD z0 != _)=_;rw[uf Z.1 (hf _ m)]
     rw[ek];cases r1 with
     |tup a1 a2=>
      cases r2 with
      |tup b1 b2=>
       cases(show u=Value.ref _ from T);cases(show P=Value.ref _ from S);obtain⟨Y,b,⟨o1,L,hc1,n1,N⟩,_⟩:=I.tuple (SqT.of a1);obtain⟨U,a,⟨o2,J,hc2,n2,M⟩,_⟩:=I.tuple (SqT.of b1);have oi:okN 28 (.tup (p::xr))=true:=g.1 _ m;have oj:okN 28 (.tup ys)=true:=g.1 _ R;have c:=Reps.lex I 27 A (by omega) (Rep.lt I 27 A (by omega)) a2 b2 (bU oi) (bU oj) h b a;refine kat_lt L N J M ?_;simp only[Yq];refine Ci 0 c (fun hb _ u0 w0 d0 e0 ur wr dr er q1 q2 q3 q4 Q E hq=>?_) (by omega) (by rw[ltD]at O;exact O);subst q1 q2 q4;cases q3;cases a2 with
       |cons a3 a4=>
        cases b2 with
        |cons b3 b4=>
         cases b with
         |cons c1 c2=>
          cases a with
          |cons c3 c4=>
           rw[bV,Yg]at h;refine AB a3 b3 h.1 (hf _ m) ?_ c1 c3 hq;cases p<;>first|rfl|(simp[tyD]at hb)
  |_=>cases l
def zI(I:Inv X pz σ H s)(r:Reps X.K H vs ds)(g:Vals vs us)(ok:eE ds=true)(S:X.A.units+64<cLine) 
  (O:∀(a:Addr) (p:List Nat) (s':Shared),H a=none->(∀i∈p,i<ds.length)->p.length=ds.length->p.map (dAt ds)=dh ds->Inv X pz σ (upd H a (.lst (p.map fun i=>vs.getD i .non))) s'->Q (.ref a) s'):qN X.prog X.w X.A Q us s:=by
 obtain⟨T,z,_,_⟩:=ju ok;have m:=r.length;have y:=g.length;refine⟨by omega,pc ds,_,Fe z,fun P B k Q E q=>mK (I.kept (t':=s.toks) k) r g ok P q,fun B k i j C c N L=>?_,fun p M J a B e k b f=>?_⟩
 ·have o:X.A.in1.in1.units+60<cLine:=by show X.A.units+1+1+60<cLine;omega
  exact DQ (I.kept (t':=s.toks) k) r g ok o c N L
 ·have h:PermN ds.length p:=by rw[<-m,y];exact M
  have u:Ris (fun i j=>ltD (dAt ds i) (dAt ds j)) p ds.length:=by rw[<-m,y];exact J
  have R:=t_ z h u;have bd:∀i∈p.toList,i<ds.length:=fun i c=>Zf.mp (h.perm.mem_iff.mp c)
  have x:H a=none:=I.hok.fresh b;have l:p.toList.length=ds.length:=by rw[Zy];exact h.size
  refine O a p.toList _ x bd l R (I.laid (t':=s.toks) k b ⟨?_,p.toList.map fun i=>us.getD i Value.none,e,Vals.perm g p.toList fun i c=>by rw[m];exact bd i c,?_⟩)
  ·rw[Yb,l,YV];omega
  ·exact f
def tT(y:X.A.units+64<cLine):CallR X (.builtin "sorted") (fun xs H Q=>∃a vs ds,xs=[.ref a]/\(SqL X.K H a vs\/SqT X.K H a vs)/\Reps X.K H vs ds/\eE ds=true/\∀l (p:List Nat),H l=none->(∀i∈p,i<ds.length)->p.length=ds.length->p.map (dAt ds)=dh ds->Q (.ref l) (upd H l (.lst (p.map fun i=>vs.getD i .non)))):=by
 intro x s m H xs E Q I r h;obtain⟨a,vs,ds,rfl,hq,z,ok,q⟩:=h;obtain⟨u,rfl,o⟩:=fE r;cases o;refine sf ?_;have fin:∀c:List Value,Vals vs c->qN X.prog X.w X.A (EP X x m Q) c {s with heap:=(s.heap.push (seqObj "list" #[] 0)).update s.heap.objs.size (Obj.mapSeq (·++c.toArray))}:=fun c f=>
  zI (I.kept (t':=s.toks) fun b u e=>mQ e) z f ok y fun l p J B b1 b2 b3 C=>⟨.ref l,_,C,rfl,q l p B b1 b2 b3⟩
 rcases hq with hq|hq
 ·obtain⟨c,f,g,j⟩:=I.list hq;exact collect_list g.isList (fin c f) (by rw[<-f.length];exact j)
 ·obtain⟨c,f,g,j⟩:=I.tuple hq;exact ou g (fin c f) (by rw[<-f.length];exact j)
def jH(fa:Dd):DF->Option (List D):=fun b=>(fa b).bind fun d=>(eF d).bind fun a=>if eE a=true then some (dh a)else none
def gy(L:X.A.units+64<cLine)(N:Gl X "sorted")(M:X.mg "sorted"=none)(f:PDR X e fa)(C:StO e X:=by rfl)(o:(backTo pos (starEach [] X.env)).any (·.1)=false:=by rfl) :
  PDO X (.Call (.Name "sorted" p) [e] [] pos) (asL (jH fa)):=
 (cR (tT L) N M rY (au f ba C) (by decide) (by decide) C o).imp fun O H Q=>un7 fun P F z R h I k=>by
  unfold asL jH at h;cases f:fa z with
  |none=>rw[f]at h;cases h
  |some w=>
  rw[f,Ya]at h;cases c:eF w with
  |none=>rw[c]at h;cases h
  |some b=>
  rw[c,Ya]at h;split at h
  ·rename_i ok;cases h;refine⟨P,F,z,w,f,I,fun x y J j B=>?_⟩;have m:=I.evo j;have fin:∀(a:List V),Reps X.K y a b->∀l (p:List Nat),J l=none->(∀i∈p,i<b.length)->p.length=b.length->p.map (dAt b)=dh b->Q (.ref l) (upd J l (.lst (p.map fun i=>a.getD i .non))):=fun a r l p s b1 b2 b3=>by
    refine k l y _ (j.trans (Evo.side j.hp s)) ⟨⟨j.back I.toDHp s,(j.hp.free s).1⟩,_,a8,?_⟩;show Reps X.K y _ (dh b);by_cases E:b=[]
    ·subst E;have:p=[]:=Zx.mp b2;rw[this];exact .nil
    ·rw[<-b3];exact r.perm E p b1
   cases w with
   |lst ds'=>
    cases c;obtain⟨q,a,rfl,u,g⟩:=eN m B;exact⟨q,a,b,rfl,.inl u,g.same m.sub,ok,fin a g⟩
   |tup ds'=>
    cases c;obtain⟨q,a,rfl,u,g⟩:=jN m B;exact⟨q,a,b,rfl,.inr u,g.same m.sub,ok,fin a g⟩
   |_=>cases c
  ·cases h
end L2
namespace L2
open PySem PySem.Spec PyProof.Rows
def cE{a:Type}(xs:List a)(lo hi:Option Int):List a:=(xs.drop (HT.sIx xs.length 0 lo)).take (HT.sIx xs.length xs.length hi-HT.sIx xs.length 0 lo)
def Reps.cut{F:Hp}(r:Reps K F vs ds)(lo hi:Option Int):Reps K F (xz vs lo hi) (cE ds lo hi):=by unfold xz cE;rw[r.length];exact(r.drop _).take _
def tOI(K:Kq)(f:DF->Option (Option Int)):TO:=fun e H Q=>∃P F a b,f a=some b/\DInv K P F H a e/\∀g c,Evo P F H g c->Q b c
def PDB(X:Cx)(e:Option Expr)(f:DF->Option (Option Int)):Prop:=PO X e (tOI X.K f)
def bNo:DF->Option (Option Int):=fun _=>some none
def bI(f:Dd):DF->Option (Option Int):=fun a=>match f a with
 |some (.int i)=>some (some i)
 |_=>none
section
variable     {lo hi:Option Expr}  {fl fh:DF->Option (Option Int)}
def PO.imp{t t':TO}{e:Option Expr}(h:PO X e t)(i:∀σ H Q,t' σ H Q->t σ H Q):PO X e t':=fun p s σ H Q I q=>h p s σ H Q I (i σ H Q q)
def em:PDB X none bNo:=PO.imp BK fun a H Q=>un7 fun P F c b h I k=>by
 cases h;exact k F H (Evo.refl I.toDHp)
def cX(h:PDE X e f):PDB X (some e) (bI f):=PO.imp (B4 h) fun m H Q=>un7 fun P F c b a I k=>by
 unfold bI at a;split at a
 ·rename_i i q;cases a;refine⟨P,F,c,_,q,I,fun v l j g r=>?_⟩;cases r;exact⟨i,rfl,k l j g⟩
 ·cases a
def slL(fe:Dd)(fl fh:DF->Option (Option Int)):DF->Option (List D):=fun a=>match fe a with
 |some (.lst xs)=>(fl a).bind fun l=>(fh a).map fun h=>cE xs l h
 |_=>none
def bG(he:PDR X e fe)(A:PDB X lo fl)(B:PDB X hi fh):PDO X (.Subscript e (.Slice lo hi none p2) pos) (asL (slL fe fl fh)):=(tQ Bv he A B).imp fun M H Q=>un7 fun P F b O c I k=>by
 unfold asL at c;cases q:slL fe fl fh b with
 |none=>rw[q]at c;cases c
 |some y=>
 rw[q]at c;cases c;unfold slL at q;split at q
 ·rename_i N w;cases g:fl b with
  |none=>rw[g]at q;cases q
  |some l=>
  rw[g,Ya]at q;cases f:fh b with
  |none=>rw[f]at q;cases q
  |some h=>
  rw[f]at q;cases q;refine⟨P,F,b,_,w,I,fun x L T m u=>⟨P,L,b,l,g,I.evo m,fun K S j=>⟨P,K,b,h,f,(I.evo m).evo j,fun J R o=>?_⟩⟩⟩;have a:=(m.trans j).trans o;obtain⟨z,s,rfl,E,C⟩:=eN (I.evo a) ((u.evo j).evo o);exact⟨z,s,rfl,E,fun p i=>k p J _ (a.trans (Evo.side a.hp i)) ⟨⟨a.back I.toDHp i,(a.hp.free i).1⟩,_,a8,C.cut l h⟩⟩
 ·cases q
def IQ:V->Option Int->Option Int->Hp->VK->Prop:=fun x l h H Q=>∃z,x=.str z/\z.length<=sizeLine/\Q (.str (Txt.slice z l h)) H
def vp{v:Value}{o:Option Int}(h:IsPart v o):∃l:Option (Int×Tok),v=partValue l/\l.map (·.1)=o:=by
 cases h with
 |none=>exact⟨none,rfl,rfl⟩
 |int i t=>exact⟨some (i,t),rfl,rfl⟩
def Eb:SlR X IQ:=by
 intro E s y H x v B A b f C Q I g m i p h;obtain⟨z,rfl,j,q⟩:=h;have a:=Txt.slice_le z b f;obtain⟨t,rfl⟩:=g;obtain⟨l,rfl,w⟩:=vp i;obtain⟨u,rfl,o⟩:=vp p;refine⟨"str",_,PySem.F.slot_str_getitem.lookup,typeIs_str s z t,wpAny_getItem_str_slice (st:=none) m rfl ?_⟩;have e:slicePicked z l u none=Builtin.Str.strSliceIndices b f 1 z.length:=by unfold slicePicked;rw[w,o];rfl
 unfold sliceMade;rw[e];unfold Txt.slice at q a;show(if((1:Int) == 1&&(Builtin.Str.strSliceIndices b f 1 z.length).length == z.length)=true then Made.val (.str z t)else Made.str ⟨((Builtin.Str.strSliceIndices b f 1 z.length).filterMap (z.cps[·]?)).toArray⟩).post _ _;split
 ·rename_i c;rw[Yh c]at q;exact⟨.str z,H,I,⟨t,rfl⟩,q⟩
 ·rename_i c;rw[Yl c]at q a;exact⟨YC a j,⟨.str _,H,I.tok _,⟨_,rfl⟩,q⟩⟩
def slS(fe:Dd)(fl fh:DF->Option (Option Int)):DF->Option D:=fun a=>match fe a with
 |some (.str x)=>if x.length<=16777216 then(fl a).bind fun l=>(fh a).map fun h=>.str (Txt.slice x l h)else none
 |_=>none
def lp(he:PDR X e fe)(o:PDB X lo fl)(p:PDB X hi fh):PDE X (.Subscript e (.Slice lo hi none p2) pos) (slS fe fl fh):=(tQ Eb he o p).imp fun B H Q=>un7 fun P F a d q I k=>by
 unfold slS at q;split at q
 ·rename_i x j;split at q
  rotate_left
  ·cases q
  rename_i m;cases c:fl a with
  |none=>rw[c]at q;cases q
  |some l=>
  rw[c,Ya]at q;cases b:fh a with
  |none=>rw[b]at q;cases q
  |some h=>
  rw[b]at q;cases q;refine⟨P,F,a,_,j,I,fun y A E f i=>⟨P,A,a,l,c,I.evo f,fun z C g=>⟨P,z,a,h,b,(I.evo f).evo g,fun w u s=>?_⟩⟩⟩;exact⟨x,mE i,by rw[YV];exact m,k _ w u ((f.trans g).trans s) .str⟩
 ·cases q
def zx(K:Kq):R2:=fun x y H Q=>∃a b c e,x=.ref a/\y=.ref b/\SqT K H a c/\SqT K H b e/\c.length+e.length<=sizeLine /\
 (c=[]->Q (.ref b) H)/\(c≠[]->e=[]->Q (.ref a) H)/\(c≠[]->e≠[]->∀p,H p=none->Q (.ref p) (upd H p (.tup (c++e))))
def xS:OpR X (binaryOp .Add) (zx X.K):=by
 intro T s M H x y v u Q I w q h;obtain⟨a,b,p,N,rfl,rfl,E,C,Z,S,R,P⟩:=h;by_cases e:p=[]
 ·cases w;cases q;obtain⟨c,r1,Y,_⟩:=I.tuple E;obtain⟨i,r2,U,_⟩:=I.tuple C;have hi:c=[]:=r1.nil_iff.mpr e;obtain⟨⟨cls,dd,J,O⟩,z,B,n,A⟩:=id Y;obtain⟨⟨L,m,o,l⟩,f,j,n2,g⟩:=id U;simp only at B A j g;subst B A j g;exact concat_meets ⟨_,z,rfl⟩ ⟨_,f,rfl⟩ noFill_tuple_add seq_tuple_add PySem.F.slot_tuple_add PySem.F.entry_tuple_add (PySem.F.args_tuple_add_2 _ _)
   (tuple_addW0 a b c.toArray i.toArray n n2 dd m O l (by simp[hi])) ⟨z,f,⟨.ref b,H,I,rfl,S e⟩⟩
 ·exact BO T s M H _ _ v u Q I w q ⟨a,b,p,N,rfl,rfl,E,C,e,Z,R e,P e⟩
def bb:D->D->Option D
 |.int i,.int j=>some (.int (i+j))
 |.str x,.str y=>if x.length+y.length<=16777216 then some (.str (x++y))else none
 |.lst xs,.lst ys=>if xs.length+ys.length<=16777216 then some (.lst (xs++ys))else none
 |.tup xs,.tup ys=>if xs.length+ys.length<=16777216 then some (.tup (xs++ys))else none
 |_,_=>none
def Reps.nil_iff(r:Reps K H vs ds):vs=[]↔ds=[]:=by
 cases r with
 |nil=>simp
 |cons _ _=>simp
def Cv:tu K (fun x y H Q=>Gb x y H Q\/(CM K x y H Q\/zx K x y H Q)) bb:=by
 intro P F H E C x y L J d Q a I g f k;unfold bb at a;split at a
 ·cases a;exact .inl (.inl ⟨_,_,dt g,dt f,k _ F H (Evo.refl I.toDHp) .int⟩)
 ·split at a
  ·rename_i h;cases a;exact .inl (.inr ⟨_,_,mE g,mE f,by rw[YV];exact h,k _ F H (Evo.refl I.toDHp) .str⟩)
  ·cases a
 ·split at a
  ·rename_i o;cases a;obtain⟨l,j,rfl,s,e⟩:=eN I g;obtain⟨m,b,rfl,q,c⟩:=eN I f;exact .inr (.inl ⟨l,m,j,b,rfl,rfl,s,q,by rw[e.length,c.length,YV];exact o,fun p i=>k _ _ _ (Evo.laid I.toDHp i) (.lst (SqL.of a8) ((e.append c).same (kC (I.toDHp.free i).1)))⟩)
  ·cases a
 ·split at a
  ·rename_i B A o;cases a;obtain⟨l,j,rfl,s,e⟩:=jN I g;obtain⟨m,b,rfl,q,c⟩:=jN I f;have u:∀{y:V}{w:List D},RepS K H F y (.tup w)->Rep K F y (.tup w):=fun h=>by
    rcases h with h|⟨_,ob,_,_,_,_,_,hfl,z⟩
    ·exact h
    ·cases ob<;>first|(cases z;done)|cases hfl
   refine .inr (.inr ⟨l,m,j,b,rfl,rfl,s,q,by rw[e.length,c.length,YV];exact o,fun z=>?_,fun _ z=>?_,fun _ _ p i=>?_⟩)
   ·have:B=[]:=e.nil_iff.mp z;subst this;exact k _ F H (Evo.refl I.toDHp) (u f)
   ·have:A=[]:=c.nil_iff.mp z;subst this;rw[YU]at k;exact k _ F H (Evo.refl I.toDHp) (u g)
   ·exact k _ _ _ (Evo.laid I.toDHp i) (.tup a8 ((e.append c).same (kC (I.toDHp.free i).1)))
  ·cases a
 ·cases a
def aS(c:PDR X a fa)(h:PDR X b fb):PDE X (.BinOp a .Add b pos) (d2 bb fa fb):=lg ((EI.or uJ).or (vS.or xS)) Cv c h
def isT:String->D->Option Bool
 | "int",.int _=>some true
 | "bool",.int _=>some false
 | "bool",.bl _=>some true
 | "str",.str _=>some true
 | "list",.lst _=>some true
 | "tuple",.tup _=>some true
 |_,_=>none
def IC(K:Kq):List V->Hp->VK->Prop:=fun a H Q=>∃x T d b,a=[x,.ty T]/\Rep K H x d/\isT T d=some b/\Q (.bl b) H
def zU:CallR X (.builtin "isinstance") (IC X.K):=by
 intro p s i H m y Q I r h;obtain⟨x,T,d,b,rfl,j,a,q⟩:=h;obtain⟨u,w,rfl,r1,r2⟩:=lQ r;cases(show w=Value.type T from r2);have f:EP X p i Q (.bool b) s:=⟨.bl b,H,I,rfl,q⟩
 have l:EP X p i Q (.bool b) {s with toks:=s.toks+1}:=⟨.bl b,H,I.tok _,rfl,q⟩
 unfold isT at a;split at a<;>cases a<;>cases j
 ·obtain⟨t,rfl⟩:=(show ∃t,u=Value.int _ t from r1);exact PySem.IsiPair.int_int f
 ·obtain⟨t,rfl⟩:=(show ∃t,u=Value.int _ t from r1);exact PySem.IsiPair.int_bool l
 ·cases(show u=Value.bool _ from r1);exact PySem.IsiPair.bool_bool f
 ·obtain⟨t,rfl⟩:=(show ∃t,u=Value.str _ t from r1);exact PySem.IsiPair.str_str f
 ·cases(show u=Value.ref _ from r1);rename_i g _;obtain⟨_,_,⟨o,n,e,c,_⟩,_⟩:=I.list g;exact PySem.IsiPair.list_list e c f
 ·cases(show u=Value.ref _ from r1);rename_i g _;obtain⟨_,_,⟨o,e,c,_⟩,_⟩:=I.tuple (SqT.of g);exact PySem.IsiPair.tuple_tuple e c f
def kP(T:String)(d:D):Option D:=(isT T d).map .bl
def ji{T:String}(u:Gl X "isinstance")(s:X.mg "isinstance"=none)(i:Gl X x)(g:X.mg x=none)(hv:bootBuiltins x=some (.type T))(w:PDN X a fa)(o:x ≠ "__name__":=by decide)(hd:nDb x:=by decide)
  (m:starEach [a,.Name x p1] X.env=[(false,eval a X.env),(false,eval (.Name x p1) X.env)]:=by rfl) (c:starEach [.Name x p1] X.env=[(false,eval (.Name x p1) X.env)]:=by rfl) (f:(backTo pos (starEach [.Name x p1] X.env)).any (·.1)=false:=by rfl) :
  PDE X (.Call (.Name "isinstance" p) [a,.Name x p1] [] pos) (d1 (kP T) fa):=
 (cR zU u s b_ (au w (au (vz (v:=.ty T) i g hv rfl o hd) ba c) (by rw[m,c])) (by decide) (by decide) (by rw[m,c]) f).imp fun C H Q=>un7 fun P F l d h I k=>by
  unfold d1 kP at h;cases q:fa l with
  |none=>rw[q]at h;cases h
  |some j=>
   rw[q,Ya]at h;cases e:isT T j with
   |none=>rw[e]at h;cases h
   |some b=>
    rw[e]at h;cases h;exact⟨P,F,l,j,q,I,fun y B A z r1=>⟨y,T,j,b,rfl,r1,e,k _ B A z .bl⟩⟩
end
def rR(I:Inv X pz σ H s){a:Addr}{xs:List V}(h1:SqT X.K H a xs)(h2:SqL X.K H a ys):False:=by obtain⟨_,_,⟨o,e,c,_⟩,_⟩:=I.tuple h1;obtain⟨_,_,⟨g,n,b,f,_⟩,_⟩:=I.list h2;rw[e]at b;cases b;rw[c]at f;injection f with z;exact absurd z (by decide)
def Reps.detOf{n:Nat}(ih:∀{v:V}{d d':D},okN n d=true->okN n d'=true->Rep X.K H v d->Rep X.K H v d'->d=d')(h:Reps X.K H vs ds):∀b:List D,(∀d∈ds,okN n d=true)->(∀d∈b,okN n d=true)->Reps X.K H vs b->ds=b:=
 Reps.ind (M:=fun vs ds=>∀b:List D,(∀d∈ds,okN n d=true)->(∀d∈b,okN n d=true)->Reps X.K H vs b->ds=b) (fun b _ _ r=>by cases r;rfl) (fun a _ i b h c r=>by
  cases r with
  |cons f e=>rw[ih (h _ Yf) (c _ Yf) a f,i _ (fun d m=>h d (Yd _ m)) (fun d m=>c d (Yd _ m)) e]) h
def Rep.det1(I:Inv X pz σ H s)(n:Nat)(ih:∀m,n=m+1->∀{v:V}{d d':D},okN m d=true->okN m d'=true->Rep X.K H v d->Rep X.K H v d'->d=d'){v:V}{d d':D}(h:okN n d=true)(h':okN n d'=true)(q:Rep X.K H v d)(r:Rep X.K H v d'):d=d':=by
 cases q with
 |non=>cases r;rfl
 |bl=>cases r;rfl
 |int=>cases r;rfl
 |str=>cases r;rfl
 |tup a1 a2=>
  cases r with
  |tup b1 b2=>
   rw[a1]at b1;cases b1;cases n with
   |zero=>cases h
   |succ n=>rw[Reps.detOf (ih n rfl) a2 _ (bU h) (bU h') b2]
  |lst b1 b2=>exact(rR I (SqT.of a1) b1).elim
  |dT b1 b2=>rw[a1]at b1;cases b1
  |dK b1 b2=>rw[a1]at b1;cases b1
  |ins b1 b2=>rw[a1]at b1;cases b1
  |fn b=>cases n<;>cases h'
 |lst a1 a2=>
  cases r with
  |tup b1 b2=>exact(rR I (SqT.of b1) a1).elim
  |lst b1 b2=>
   have e:=I.list_inj a1 b1;subst e;cases n with
   |zero=>cases h
   |succ n=>rw[Reps.detOf (ih n rfl) a2 _ (bU h) (bU h') b2]
  |_=>cases n<;>cases h'
 |_=>cases n<;>cases h
def Rep.det(I:Inv X pz σ H s)(n:Nat):∀{v:V}{d d':D},okN n d=true->okN n d'=true->Rep X.K H v d->Rep X.K H v d'->d=d':=by
 induction n with
 |zero=>exact fun h a q r=>Rep.det1 I 0 (fun m e=>by cases e) h a q r
 |succ n ih=>exact fun h a q r=>Rep.det1 I (n+1) (fun m e=>by cases e;exact ih) h a q r
def yr{v a:V}(h:RelV v u)(h':RelV a u):v=a:=RelV.inj h h'
open Classical in
noncomputable def qw (us:List Value)(ds:List D)(dy:D)(u:Value):Bool:=decide (∃(i:Nat) (d:D),us[i]?=some u/\ds[i]?=some d/\eqd d dy=true)
open Classical in
def mJ(I:Inv X pz σ H s){n:Nat}(r:Reps X.K H vs ds)(a:Vals vs us)(ok:∀d∈ds,okN n d=true){d:D}(h:us[i]?=some u)(hd:ds[i]?=some d):qw us ds dy u=eqd d dy:=by
 unfold qw;cases q:eqd d dy with
 |true=>exact YM ⟨i,d,h,hd,q⟩
 |false=>
  refine YE ?_;rintro⟨j,m,l,b,g⟩;obtain⟨v,x,w⟩:=r.get hd;obtain⟨y,b1,b2⟩:=r.get b;obtain⟨A,f,p⟩:=a.get x;obtain⟨z,c,o⟩:=a.get b1;rw[h]at f;cases f;rw[l]at c;cases c;have e:=yr p o;subst e;have:=w.det I n (ok d (YB hd)) (ok m (YB b)) b2;rw[this,g]at q;cases q
def ng(I:Inv X pz σ H s){y:V}{e:Value}(r:Reps X.K H vs ds)(a:Vals vs us)(ok:∀d∈ds,okN 29 d=true)(q:Rep X.K H y dy)(o:okN 30 dy=true)(B:RelV y e)(N:A.units+60<cLine) :
  ∀u∈us,SeqAt.EqAt A s u e (qw us ds dy u):=fun u c=>by
 obtain⟨i,g,j⟩:=Vi c;have M:=r.length;have L:=a.length;have h:i<vs.length:=by omega
 obtain⟨E,p,C⟩:=a.get (Yi h);rw[Yi g,j]at p;cases p;obtain⟨d,m,r2⟩:=r.getV (Yi h);rw[mJ I r a ok (by rw[Yi g,j]) m];have f:=ok d (YB m);obtain⟨P,x⟩:=r2.reads I 29 f C;obtain⟨O,w⟩:=q.reads I 30 o B;obtain⟨b,z⟩:=cY 29 d f;obtain⟨l,J⟩:=cY 30 dy o;refine PySem.SeqAt.eqAt_reads _ _ A s _ _ _ _ x w b l ?_;have:min (de d).depth (de dy).depth<=30:=YC (Nat.min_le_left _ _) z;omega
def iX(dy:D):List D->Option Nat
 |[]=>none
 |d::r=>if eqd d dy=true then some 0 else(iX dy r).map (· + 1)
def kK:∀{ds:List D}{j:Nat},iX dy ds=some j->(∃d,ds[j]?=some d/\eqd d dy=true)/\∀m,m<j->∃d,ds[m]?=some d/\eqd d dy=false
 |[],_,h=>by cases h
 |d::r,j,h=>by
  unfold iX at h;split at h
  ·rename_i q;cases h;exact⟨⟨d,rfl,q⟩,fun m b=>by omega⟩
  ·rename_i q;cases a:iX dy r with
   |none=>rw[a]at h;cases h
   |some k=>
    rw[a]at h;have h:=YG h;have h:k+1=j:=h;subst h;obtain⟨e,c⟩:=kK a;refine⟨by simpa using e,fun m b=>?_⟩;cases m with
    |zero=>exact⟨d,rfl,by simpa using q⟩
    |succ m=>simpa using c m (by omega)
def HJ(K:Kq):V->List V->Hp->VK->Prop:=fun x e H Q=>∃l c b y a j,x=.ref l/\e=[y]/\SqL K H l c/\Reps K H c b/\Rep K H y a/\b.all (okN 29)=true/\okN 30 a=true/\iX a b=some j/\Q (.int j) H
def yP(hu:X.A.units+64<cLine):MtR X "list.index" (HJ X.K):=by
 intro pz s σ H x vs v us Q I P f h;obtain⟨l,xs,e,y,B,j,rfl,rfl,Z,r,O,ok,T,hj,q⟩:=h;cases P;obtain⟨u,rfl,R⟩:=f.one;obtain⟨i,g,S,E⟩:=I.list Z;obtain⟨⟨cls,dd,M,N⟩,n,J,L,hdd,c⟩:=S;simp only at L c;subst L c;obtain⟨⟨d0,C,Y⟩,U⟩:=kK hj;have l1:=r.length;have l2:=g.length;have hjl:j<e.length:=(Yj.mp C).1;have a:j<i.toArray.size:=by rw[Yq];omega
 have o:=bU ok;have b:∀(m:Nat) (w:m<i.toArray.size) d,e[m]?=some d->qw i e B i.toArray[m]=eqd d B:=fun m w d c=>mJ I r g o (by simp) c
 refine Vd PySem.F.slot_list_index ⟨_,J,rfl⟩ PySem.F.entry_list_index (PySem.F.args_list_index_2 _ _)
  (PySem.SeqAt.list_indexAt l i.toArray n dd N u (qw i e B) j a (by have:=YV;omega) (by rw[b j a d0 C];exact Y) fun m w p=>?_) ⟨J,fun z E=>ng I r g o O T R (A:=X.A.in1) (by show X.A.units+1+60<cLine;omega) z (by simpa using E),⟨.int j,H,I.tok _,⟨_,rfl⟩,q⟩⟩
 obtain⟨d,e1,e2⟩:=U m p;rw[b m w d e1];exact e2
def uV{f:Value->Bool}(a:us.length=ds.length)(h:∀(i:Nat) u d,us[i]?=some u->ds[i]?=some d->f u=eqd d dy):us.countP f=ds.countP (fun d=>eqd d dy):=by
 induction us generalizing ds with
 |nil=>cases ds with|nil=>rfl|cons _ _=>simp at a
 |cons u us ih=>
  cases ds with
  |nil=>simp at a
  |cons d ds=>
   rw[List.countP_cons,List.countP_cons,ih (by simpa using a) fun i u d c b=>h (i+1) u d (by simpa using c) (by simpa using b),h 0 u d rfl rfl]
def f8:D->D->Option D
 |.lst ds,y=>if(ds.all (okN 29)&&okN 30 y)=true then(iX y ds).map (fun(j:Nat)=>D.int (j:Int))else none
 |_,_=>none
def E9{r:V->List V->Hp->VK->Prop}{f:Dy}(p:∀dx dy d,f dx dy=some d->∃ds,dx=.lst ds)
  (o:∀(P F H:Hp) (l:Addr) (vs:List V) (y:V) (ds:List D) (dy d:D) (Q:VK),f (.lst ds) dy=some d->DHp P F H->SqL K H l vs->Reps K H vs ds->Rep K H y dy->(∀v F' H',Evo P F H F' H'->Rep K F' v d->Q v H')->r (.ref l) [y] H Q) :
  ∀σ H Q,tD K (d2 f fa fb) σ H Q->tBM K "list" r (tN K fa) (lJ (tN K fb) tf) σ H Q:=fun σ H Q=>un7 fun P F a d h I k=>by
 unfold d2 at h;cases c:fa a with
 |none=>rw[c]at h;cases h
 |some dx=>
  rw[c]at h;cases b:fb a with
  |none=>rw[Ya,b]at h;cases h
  |some dy=>
   rw[Ya,b,Ya]at h;obtain⟨ds,rfl⟩:=p dx dy d h;refine⟨P,F,a,_,c,I,fun x B C g j=>?_⟩;cases j with
   |lst h1 h2=>
    refine⟨.inl ⟨rfl,_,h1⟩,P,B,a,dy,b,I.evo g,fun y A w e i=>?_⟩;have s:=e.same g.hp;exact o P A w _ _ y ds dy d Q h e.hp (s.seq h1) (h2.same s) i fun v z u q m=>k v z u ((g.trans e).trans q) m
def ia(u:X.A.units+64<cLine)(z:PDN X o fa)(B:PDN X e fb)(f:attributeBase o "index" X.env (eval o X.env)=eval o X.env:=by rfl)
  (g:((backTo cpos (starEach [e] X.env)).all (fun x=>!x.1)&&(backToKw cpos (keywordEach [] X.env)).all (fun x=>x.1.isSome)
   && decide (([e]:List Expr).length+([]:List Keyword).length+(if([]:List Keyword).isEmpty then 0 else 1)<30))=true:=by rfl)
  (b:(apos.endLine == cpos.line)=true:=by rfl) (p:StO e X:=by rfl) :
  PDE X (.Call (.Attribute o "index" apos) [e] [] cpos) (d2 f8 fa fb):=
 (l8 Zk PySem.F.slot_list_index PySem.F.type_list_index (yP u) z (au B ba p) f g b p rfl).imp (E9 (fun J i d h=>by cases J<;>first|exact⟨_,rfl⟩|cases h)
  fun P F H l s y m i d Q a w I E C k=>by
   have a:(if(m.all (okN 29)&&okN 30 i)=true then(iX i m).map (fun(j:Nat)=>D.int (j:Int))else none)=some d:=a;split at a
   ·rename_i c;rw[Yg]at c;cases q:iX i m with
    |none=>rw[q]at a;cases a
    |some j=>rw[q]at a;cases a;exact⟨l,s,m,y,i,j,rfl,rfl,I,E,C,c.1,c.2,q,k _ F H (Evo.refl w) .int⟩
   ·cases a)
section
variable  {l:Expr}   
def tE:D->Option D
 |.int i=>some (.int (-i))
 |_=>none
def Aw(h:PDE X a fa):PDE X (.UnaryOp .USub a pos) (d1 tE fa):=(Ge DO h).imp fun l H Q=>un7 fun P F c d b I k=>by
 unfold d1 at b;cases q:fa c with
 |none=>rw[q]at b;cases b
 |some f=>
  rw[q,Ya]at b;cases f with
  |int i=>
   cases b;refine⟨P,F,c,_,q,I,fun v j g e r1=>?_⟩;cases r1;exact⟨i,rfl,k _ j g e .int⟩
  |_=>cases b
def jO{i:Int}{t:Tok}(a:Gl X x)(h:X.mg x=some (.int i t))(hd:nDb x:=by decide):PDE X (.Name x pos) (fun _=>some (.int i)):=rS (jA a h (v:=.int i) ⟨t,rfl⟩ hd) fun _=>.int
def nH:D->D->Option D
 |.int i,.int j=>some (.int (if j > i then j else i))
 |_,_=>none
def j9:D->D->Option D
 |.int i,.int j=>some (.int (if j<i then j else i))
 |_,_=>none
def yT{r:List V->Hp->VK->Prop}{f:Dy}(a:OpN2 K (fun x y=>r [x,y]) f):∀σ H Q,tD K (d2 f fa fb) σ H Q->tCB r (lJ (tN K fa) (lJ (tN K fb) tf)) σ H Q:=fun σ H Q h=>u5 a σ H Q h
def E3:OpN2 K (fun x y H Q=>∃i j,[x,y]=[V.int i,.int j]/\Q (.int (if j > i then j else i)) H) nH:=by
 intro P F H x y f e d Q h c b a k;unfold nH at h;split at h
 ·cases h;cases b;cases a;exact⟨_,_,rfl,k _ F H (Evo.refl c) .int⟩
 ·cases h
def DA:OpN2 K (fun x y H Q=>∃i j,[x,y]=[V.int i,.int j]/\Q (.int (if j<i then j else i)) H) j9:=by
 intro P F H x y f e d Q h c b a k;unfold j9 at h;split at h
 ·cases h;cases b;cases a;exact⟨_,_,rfl,k _ F H (Evo.refl c) .int⟩
 ·cases h
def vw(i:X.calm=true)(g:Gl X "max")(f:X.mg "max"=none)(l:PDN X a fa)(j:PDN X b fb)(e:starEach [a,b] X.env=[(false,eval a X.env),(false,eval b X.env)]:=by rfl)(h:starEach [b] X.env=[(false,eval b X.env)]:=by rfl)(c:(backTo pos (starEach [b] X.env)).any (·.1)=false:=by rfl) :
  PDE X (.Call (.Name "max" p) [a,b] [] pos) (d2 nH fa fb):=
 (cR (wX i) g f yO (au l (au j ba h) (by rw[e,h])) (by decide) (by decide) (by rw[e,h]) c).imp (yT E3)
def re(i:X.calm=true)(g:Gl X "min")(f:X.mg "min"=none)(l:PDN X a fa)(j:PDN X b fb)(e:starEach [a,b] X.env=[(false,eval a X.env),(false,eval b X.env)]:=by rfl)(h:starEach [b] X.env=[(false,eval b X.env)]:=by rfl)(c:(backTo pos (starEach [b] X.env)).any (·.1)=false:=by rfl) :
  PDE X (.Call (.Name "min" p) [a,b] [] pos) (d2 j9 fa fb):=
 (cR (xq i) g f zw (au l (au j ba h) (by rw[e,h])) (by decide) (by decide) (by rw[e,h]) c).imp (yT DA)
def s_:D->Bool
 |.bl _=>true
 |_=>false
def trD:D->Bool
 |.bl b=>b
 |_=>false
def mX:D->Option D
 |.lst ds=>if ds.all s_=true then some (.bl (ds.all trD))else none
 |_=>none
def Hn(K:Kq):List V->Hp->VK->Prop:=fun x H Q=>∃l b a,x=[.ref l]/\SqL K H l b/\Reps K H b a/\a.all s_=true/\Q (.bl (a.all trD)) H
def dD:(List.range ds.length).all (fun i=>trD (ds.getD i .non))=ds.all trD:=by
 rw[ZQ,Yr,Yr];constructor
 ·intro h d b;obtain⟨i,a,e⟩:=Vi b;have:=h i (Zf.mpr a);rw[YD,Yi a,e]at this;exact this
 ·intro h i a;have a:=Zf.mp a;rw[YD,Yi a];exact h _ (List.getElem_mem a)
def xa(N:X.calm=true):CallR X (.builtin "all") (Hn X.K):=by
 intro pz s Y H Z us Q I r h;obtain⟨l,vs,g,rfl,M,y,O,q⟩:=h;obtain⟨u,rfl,J⟩:=fE r;cases J;obtain⟨a,x,L,hz⟩:=I.list M;have m:=L.isList;have l1:=y.length;have l2:=x.length;refine call_all_walk (wpAny_pyIter_list m ?_);have p:l<s.heap.objs.size:=by obtain⟨o,e,_⟩:=m;exact Yp e
 refine⟨s.heap.objs.size,[s.heap.objs.size,l],[s.heap.objs.size],a.toArray.size,_,_,fun i=>trD (g.getD i .non),rfl,Walks.list (by show X.A.in1.handled=none;exact I.ok.hd N) s.heap.objs.size l (Yy p) a.toArray,⟨⟨_,Yo _ rfl,rfl,rfl⟩,m.at fun o e=>Ye _ e⟩,fun i v E U E' j c=>?_,fun h' C k=>?_⟩
 ·have j:a[i]?=some v:=by simpa using j
  have hi:i<a.length:=(Yj.mp j).1;have f:i<g.length:=by omega
  obtain⟨w',T,S⟩:=y.get (Yi f);obtain⟨u',B,R⟩:=x.get T;rw[j]at B;cases B;have w:=Yr.mp O _ (List.getElem_mem f);have P:g.getD i .non=g[i]:=by rw[YD,Yi f];rfl
  have c:U (trD (g.getD i .non)) E:=c;rw[P]at c;generalize g[i]=d at *;cases d with
  |bl b=>cases S;cases(show v=Value.bool _ from R);exact Zr c
  |_=>cases w
 ·have e:a.toArray.size=g.length:=by rw[Yq];omega
  rw[e,dD];refine⟨.bl _,H,I.kept (t':=C) fun b o e=>k b o (fun z=>?_) (Ye _ e),rfl,q⟩;have z:b=s.heap.objs.size:=by simpa using z
  rw[z]at e;exact absurd (Yp e) (Zd _)
def nY(j:X.calm=true)(i:Gl X "all")(g:X.mg "all"=none)(m:PDN X e fa)(b:StO e X:=by rfl)(a:(backTo pos (starEach [] X.env)).any (·.1)=false:=by rfl) :
  PDE X (.Call (.Name "all" p) [e] [] pos) (d1 mX fa):=
 (cR (xa j) i g Ap (au m ba b) (by decide) (by decide) b a).imp (vi fun P F H x o d Q h f c k=>by
  cases o with
  |lst ds=>
   have h:(if ds.all s_=true then some (D.bl (ds.all trD))else none)=some d:=h;split at h
   ·rename_i l;cases h;cases c with|lst h1 h2=>exact⟨_,_,ds,rfl,h1,h2,l,k _ F H (Evo.refl f) .bl⟩
   ·cases h
  |_=>cases h)
def Its(x:Str):It:=⟨fun i _=>i<x.cps.size,fun i H v a=>a=H/\v=.str ⟨#[x.cps.getD i 0]⟩,fun i _=>x.cps.size<=i⟩
def AM{P:Program}(it:Addr)(x:Str)(t:Tok)(ty:String)(C:["enumerate","zip","dict_itemiterator","dict_reverseitemiterator","odict_iterator","itertools.zip_longest","itertools.pairwise"].contains ty=false)(W:∀A:Around,A.handled=none->Walks P w A it [it] [it] x.cps.size (SignAt x) (fun i h=>h.IsStrIter it ty x t i))
  (g:∀(A:Around) (i:Nat) (s:Shared) (Q:Kv) (E:Kv),s.heap.IsStrIter it ty x t i->Q (.ref it) s->wpAny (model P w) A (pyIter (.ref it)) Q E s):Turn P w K tg (Its x) [it] it (fun i h=>h.IsStrIter it ty x t i/\i<=x.cps.size) where
 mem:=by simp
 obj:=fun i h a b j=>by
  have e:b=it:=by simpa using j
  subst e;obtain⟨⟨o,e,c,d⟩,_⟩:=a;exact⟨o,e,fun v z=>by rw[d]at z;cases z⟩
 keep:=fun i h p a k=>by obtain⟨⟨o,e,r⟩,hl⟩:=a;exact⟨⟨o,k it (by simp) o e,r⟩,hl⟩
 item:=by
  intro X O B R N i pz s σ H E I m a f;subst O B R;obtain⟨Z,Y,f2,U,T,S⟩:=m it (by simp);have f:i<x.cps.size:=f;refine(W X.A (I.ok.hd N)).item i s _ _ f a.1 fun v p q hv l y=>?_;obtain⟨c,u,M,rfl⟩:=hv;have I1:Inv X pz σ H {s with heap:=p,toks:=q}:=I.turned (fun b o j e=>y b o (by simpa using j) e) Z Y U T S;obtain⟨o,ho,L,J⟩:=id l;have ec:x.cps.getD i 0=c:=by simp[Xo,M]
  refine⟨_,rfl,sS (s:={s with heap:=p,toks:=q}) (n:=ty) ho L J C ⟨.str ⟨#[c]⟩,H,I1,⟨u,rfl⟩,⟨rfl,by rw[ec]⟩,⟨l,f⟩,fun b j=>(m b j).1⟩⟩
 done:=by intro X O B R N i pz s σ H E I m a f;subst O B R;obtain⟨Z,Y,f2,U,T,S⟩:=m it (by simp);have f:x.cps.size<=i:=f;have hi:i=x.cps.size:=Zj a.2 f;subst hi;exact(W X.A (I.ok.hd N)).done s _ _ a.1 fun p q y=>⟨rfl,I.turned (fun b o j e=>y b o (by simpa using j) e) Z Y U T S⟩
 self:=fun A i s Q E a h=>g A i s Q E a.1 h
def HW(tl:TE):TI:=fun a H R=>tl a H fun x b=>∃z,x=.str z/\R (Its z) b
def Eo{tl:TE}(B:PE X l tl):PI X tg l (HW tl):=by
 intro u s p H R I h;refine bv (B u s p H _ I h) fun v a x N m r1 g=>?_;obtain⟨z,e,q⟩:=g;subst e;obtain⟨t,rfl⟩:=r1;have fin:∀(f:Obj) (ty:String),["enumerate","zip","dict_itemiterator","dict_reverseitemiterator","odict_iterator","itertools.zip_longest","itertools.pairwise"].contains ty=false->(∀A:Around,A.handled=none->Walks X.prog X.w A a.heap.objs.size [a.heap.objs.size] [a.heap.objs.size] z.cps.size (SignAt z) (fun i h=>h.IsStrIter a.heap.objs.size ty z t i))->
   (∀(A:Around) (i:Nat) (s:Shared) (Q:Kv) (E:Kv),s.heap.IsStrIter a.heap.objs.size ty z t i->Q (.ref a.heap.objs.size) s->wpAny (model X.prog X.w) A (pyIter (.ref a.heap.objs.size)) Q E s)->
   (a.heap.push f).IsStrIter a.heap.objs.size ty z t 0->PIE X u p tg R (.ref a.heap.objs.size) {a with heap:=a.heap.push f}:=fun f ty M L K J=>by
  refine⟨a.heap.objs.size,[a.heap.objs.size],_,_,N,rfl,m.kept (t':=a.toks) fun b o e=>Ye _ e,AM _ z t ty M L K,⟨J,YO _⟩,fun b C=>?_,q⟩;have e:b=a.heap.objs.size:=by simpa using C
  subst e;exact m.fpOk (Ym _) (m.hok.fresh (Ym _))
 cases y:z.cps.all (· < 128)
 ·exact wpAny_pyIter_wide y (fin _ "str_iterator" (by decide) (fun O j=>Walks.strWide j _ z t) (fun A i s Q E c h=>wpAny_pyIter_striter_wide c h) ⟨_,Yo _ rfl,rfl,rfl⟩)
 ·exact wpAny_pyIter_ascii y (fin _ "str_ascii_iterator" (by decide) (fun O j=>Walks.strAscii j _ z t) (fun A i s Q E c h=>wpAny_pyIter_striter_ascii c h) ⟨_,Yo _ rfl,rfl,rfl⟩)
def signs(x:Str):List D:=x.cps.toList.map fun c=>.str ⟨#[c]⟩
def t5(f:Dd):DF->Option (List D):=fun a=>match f a with
 |some (.str x)=>some (signs x)
 |_=>none
def Cz(h:PDE X l fa):PDI X tg l (t5 fa):=PI.imp (Eo h) fun B H R=>un7 fun P F j C f I k=>by
 unfold t5 at f;split at f
 ·rename_i x q;cases f;refine⟨P,F,j,_,q,I,fun v z w u r1=>?_⟩;cases r1;refine⟨x,rfl,k _ z w u fun A J e o i=>⟨fun d a=>?_,fun g=>?_⟩⟩
  ·unfold signs at a;rw[Yt]at a;cases b:x.cps.toList[i]? with
   |none=>rw[b]at a;cases a
   |some c=>
    rw[b]at a;cases a;have p:i<x.cps.size:=by have:=(Yj.mp b).1;simpa using this
    refine⟨p,fun y E m=>?_⟩;obtain⟨rfl,rfl⟩:=m;have s:x.cps.getD i 0=c:=by
     have:x.cps[i]?=some c:=by rw[<-XU];exact b
     simp[Xo,this]
    rw[s];exact⟨A,Evo.refl o,.str⟩
  ·unfold signs at g;rw[Yb,Zy]at g;exact g
 ·cases f
def zu:D->Bool
 |.str _=>true
 |_=>false
def txt:D->Str
 |.str x=>x
 |_=>⟨#[]⟩
def qW(x:Str)(ds:List D):Bool:=ds.all zu&&decide (((ds.map txt).map (·.length)).sum+(ds.map txt).length*x.length<=16777216)
def AF:D->D->Option D
 |.str x,.lst ds=>if qW x ds=true then some (.str (Txt.join x (ds.map txt)))else none
 |_,_=>none
def G3(K:Kq):V->List V->Hp->VK->Prop:=fun x c H Q=>∃z l b a,x=.str z/\c=[.ref l]/\SqL K H l b/\Reps K H b a/\qW z a=true/\Q (.str (Txt.join z (a.map txt))) H
def y_(h:Reps K H vs ds):Vals vs us->ds.all zu=true->StrsAre us (ds.map txt):=
 Reps.ind (M:=fun vs ds=>∀us:List Value,Vals vs us->ds.all zu=true->StrsAre us (ds.map txt)) (fun us r _=>by cases r;exact .nil) (fun{v d vs ds} h _ ih us b a=>by
  cases b with
  |cons r t=>
   rw[List.all_cons,Yg]at a;cases d with
   |str x=>
    cases h;obtain⟨c,rfl⟩:=(show ∃t,_=Value.str _ t from r)
    exact .cons _ _ (ih _ t a.2)
   |_=>cases a.1) h us
def Bl:MtR X "str.join" (G3 X.K):=by intro y s g H x m v o Q I b a h;obtain⟨z,l,j,B,rfl,rfl,f,r,ok,q⟩:=h;obtain⟨t,rfl⟩:=b;obtain⟨u,rfl,e⟩:=a.one;cases e;obtain⟨i,c,p,A⟩:=I.list f;unfold qW at ok;rw[Yg,Yu]at ok;exact join_list p.isList (y_ r (by simpa using c) ok.1) ok.2 fun w k=>⟨.str _,H,I.tok _,⟨_,rfl⟩,q⟩
def Cw(q:PDN X o fa)(c:PDN X e fb)(b:attributeBase o "join" X.env (eval o X.env)=eval o X.env:=by rfl)
  (f:((backTo cpos (starEach [e] X.env)).all (fun x=>!x.1)&&(backToKw cpos (keywordEach [] X.env)).all (fun x=>x.1.isSome)
   && decide (([e]:List Expr).length+([]:List Keyword).length+(if([]:List Keyword).isEmpty then 0 else 1)<30))=true:=by rfl)
  (a:(apos.endLine == cpos.line)=true:=by rfl) (j:StO e X:=by rfl) :
  PDE X (.Call (.Attribute o "join" apos) [e] [] cpos) (d2 AF fa fb):=
 (l8 PySem.F.plainAttrs_str PySem.F.slot_str_join PySem.F.type_str_join Bl q (au c ba j) b f a j rfl).imp fun C H Q=>un7 fun P F g d h I k=>by
  unfold d2 at h;cases c:fa g with
  |none=>rw[c]at h;cases h
  |some w=>
   cases i:fb g with
   |none=>rw[c,Ya,i]at h;cases h
   |some u=>
    rw[c,Ya,i,Ya]at h;cases w with
    |str x=>
     cases u with
     |lst ds=>
      have h:(if qW x ds=true then some (D.str (Txt.join x (ds.map txt)))else none)=some d:=h;split at h
      ·rename_i ok;cases h;refine⟨P,F,g,_,c,I,fun v B E l p=>?_⟩;cases p;refine⟨rfl,P,B,g,_,i,I.evo l,fun y A z s m=>?_⟩;cases m with
       |lst h1 h2=>exact⟨x,_,_,ds,rfl,rfl,h1,h2,ok,k _ A z (l.trans s) .str⟩
      ·cases h
     |_=>cases h
    |_=>cases h
end
section
variable  {l r:Expr}  {apos' cpos':Pos} 
def xo:CallR X (.type "range") (fun xs H Q=>∃j:Int,xs=[.int j]/\∀q,H q=none->Q (.ref q) (upd H q (.rng 0 j))):=by intro p s a H xs c Q I r h;obtain⟨j,rfl,q⟩:=h;obtain⟨u,rfl,t,rfl⟩:=fE r;exact call_range_1 ⟨.ref s.heap.objs.size,_,I.laid (o:=.rng 0 j) (fun b e z=>Ye _ z) (Ym _) ⟨_,_,_,Yo _ rfl⟩,rfl,q _ (I.hok.fresh (Ym _))⟩
def Al(lo:Int)(n:Nat):List V:=(List.range n).map fun i:Nat=>.int (lo+(i:Int))
def zZ:∀(n:Nat) (lo:Int) (vs:List Value),vs.length=n->(∀(j:Nat) v,vs[j]?=some v->∃t,v=Value.int (lo+(j:Int)) t)->Vals ((List.range n).map fun i:Nat=>V.int (lo+(i:Int))) vs:=by
 intro n;induction n with
 |zero=>intro lo vs h _;rw[Zx.mp h];exact .nil
 |succ n ih=>
  intro lo vs h a;cases vs with
  |nil=>simp at h
  |cons v vs=>
   rw[List.range_succ_eq_map,Yx,YR];refine .cons ?_ ?_
   ·obtain⟨t,e⟩:=a 0 v rfl;exact⟨t,e⟩
   ·have:=ih (lo+1) vs (by simpa using h) fun j w b=>by
     obtain⟨t,e⟩:=a (j+1) w (by simpa using b);exact⟨t,by rw[e];congr 1;push_cast;omega⟩
    have c:((fun i:Nat=>V.int (lo+(i:Int))) ∘ Nat.succ)=fun i:Nat=>V.int (lo+1+(i:Int)):=by
     funext i;show V.int (lo+((i+1:Nat):Int))=_
     congr 1;push_cast;omega
    rw[c];exact this
def oq(B:X.calm=true):CallR X (.type "list") (fun xs H Q=>∃(q:Addr) (lo hi:Int),xs=[.ref q]/\H q=some (.rng lo hi)/\(-(2^62)<=lo/\lo<2^62/\-(2^62)<=hi/\hi<2^62)/\(hi-lo).toNat<=16777216/\∀l,H l=none->Q (.ref l) (upd H l (.lst (Al lo (hi-lo).toNat)))):=by
 intro O s M H xs N Q I r h;obtain⟨q,lo,hi,rfl,x,⟨K,J,E,C⟩,z,k⟩:=h;obtain⟨u,rfl,i⟩:=fE r;cases i;obtain⟨t,u,v,y⟩:=I.hok q _ x;have c:Builtin.Range.rangeSize lo hi 1=((hi-lo).toNat:Int):=by rw[rangeSize_one];split<;>omega
 refine call_list_range (I.ok.hd B) (n:=(hi-lo).toNat) y (small_one K J E C) c (by omega) fun P g b L m a f=>?_;refine⟨.ref s.heap.objs.size,_,I.laid (t':=g) (o:=.lst (Al lo (hi-lo).toNat)) m (Ym _) ⟨?_,b.toList,L,?_,?_⟩,rfl,k _ (I.hok.fresh (Ym _))⟩
 ·unfold Al;rw[Yb,ZA,YV];exact z
 ·obtain⟨w,p⟩:=f;refine zZ _ lo _ (by simpa using w) fun j v A=>?_;obtain⟨t,e⟩:=p j v (by rw[<-XU];exact A);exact⟨t,by rw[e];congr 1;omega⟩
 ·simpa using a
def wQ{F:Hp}(lo:Int)(n:Nat):Reps K F (Al lo n) (cq lo n):=by
 unfold Al cq;generalize List.range n=l;induction l with
 |nil=>exact .nil
 |cons i l ih=>exact .cons .int ih
def l6(f:Dd):DF->Option (List D):=fun a=>match f a with
 |some (.int j)=>if j<16777216/\-(2^62)<=j then some (cq 0 j.toNat)else none
 |_=>none
def ja(A:X.calm=true)(z:Gl X "list")(x:X.mg "list"=none)(i:Gl X "range")(f:X.mg "range"=none)(B:PDE X a fa)(b:StO a X:=by rfl)
  (s:starEach [.Call (.Name "range" p') [a] [] cpos] X.env=[(false,eval (.Call (.Name "range" p') [a] [] cpos) X.env)]:=by rfl):PDO X (.Call (.Name "list" p) [.Call (.Name "range" p') [a] [] cpos] [] pos) (asL (l6 fa)):=
 (db (oq A) z x boot_list (au (db xo i f boot_range (au B ba b) (he:=b)) ba s) (he:=s)).imp fun K H Q=>un7 fun P F m L h I k=>by
  unfold asL l6 at h;cases q:fa m with
  |none=>rw[q]at h;cases h
  |some E=>
   rw[q]at h;cases E with
   |int j=>
    dsimp only at h;split at h
    ·rename_i y;cases h;refine⟨P,F,m,_,q,I,fun v J M u r1=>?_⟩;cases r1;refine⟨j,rfl,fun w c=>⟨w,0,j,rfl,a8,⟨by omega,by omega,y.2,by omega⟩,by omega,fun l g=>?_⟩⟩;have e:=u.trans (Evo.side u.hp (o:=.rng 0 j) c);have C:(j-0).toNat=j.toNat:=by omega
     rw[C];exact k l J _ (e.trans (Evo.side e.hp g)) ⟨⟨e.back I.toDHp g,(e.hp.free g).1⟩,_,a8,wQ 0 _⟩
    ·cases h
   |_=>cases h
def tY(i:Nat)(g:Dl):DF->Option RES:=fun a=>match a[i]? with
 |some (some (.own (.lst ds) t))=>(g a).bind fun e=>if ds.length+e.length<=16777216 then some (.nx (a.set i (some (.own (.lst (ds++e)) t))))else none
 |_=>none
def oV(i:Nat){g:Dl}(h:PE X o (eI i))(T:PDO X e (asL g))(j:attributeBase o "extend" X.env (eval o X.env)=eval o X.env:=by rfl)
  (m:((backTo cpos (starEach [e] X.env)).all (fun x=>!x.1)&&(backToKw cpos (keywordEach [] X.env)).all (fun x=>x.1.isSome)
   && decide (([e]:List Expr).length+([]:List Keyword).length+(if([]:List Keyword).isEmpty then 0 else 1)<30))=true:=by rfl)
  (f:(apos.endLine == cpos.line)=true:=by rfl) (B:StO e X:=by rfl) (y:swapsWith (.Call (.Attribute o "extend" apos) [e] [] cpos) none pos.line X.env=pure false:=by rfl) :
  PD1 X (.Expr (.Call (.Attribute o "extend" apos) [e] [] cpos) pos) (tY i g):=
 PS.imp (fV (l8 Zk PySem.F.slot_list_extend PySem.F.type_list_extend wW h (au T ba B) j m f B rfl) y) fun E N H=>un7 fun P F z r c I k=>by
  unfold tY at c;split at c
  ·rename_i ds t q;cases w:g z with
   |none=>rw[w]at c;cases c
   |some p=>
    rw[w,Ya]at c;split at c
    ·rename_i S;cases c;obtain⟨a,A,L,U,h3,J,C⟩:=jh I q;refine⟨_,L,.inl ⟨rfl,A,SqL.of J⟩,P,F,z,.lst p,by unfold asL;rw[w];rfl,I,fun b M H1 s R=>?_⟩;obtain⟨⟨n1,n2⟩,u,O,l⟩:=R;cases u with
     |lst ws=>
      have l:Reps X.K M ws p:=l;obtain⟨Q,Z⟩:=s.keep a _ J U;have Y:=I.evo s;refine⟨a,b,A,ws,rfl,rfl,Q,O,by rw[YV,C.length,l.length];exact S,k N M _ s.ext ?_⟩;exact Y.mut (o':=.lst _) (u:=.lst _) q rfl rfl L ((C.same s.ext).append l)
     |_=>exact l.elim
    ·cases c
  ·cases c
def pA(n:Nat):D->Option Nat
 |.int k=>if -(2^63)<=k/\k<2^63 then seqIndex? k n else none
 |_=>none
def oa(j:Nat)(f:Dd):DF->Option (DF×D):=fun a=>match a[j]? with
 |some (some (.own (.lst ds) t))=>(f a).bind fun b=>(pA ds.length b).bind fun k=>(ds[k]?).map fun d=>(a.set j (some (.own (.lst (ds.eraseIdx k)) t)),d)
 |_=>none
def vD{Q:VK}{F:Hp}{d:D}(h:oa j f ρ=some (ρ',d))(I:DInv K P F H ρ σ)(k:∀v F' H',Same F F'->DInv K P F' H' ρ' σ->Rep K F' v d->Q v H') :
  tBM K "list" xL (eI j) (lJ (tD K f) tf) σ H Q:=by
 unfold oa at h;split at h
 ·rename_i o t q;cases m:f ρ with
  |none=>rw[m]at h;cases h
  |some A=>
   rw[m,Ya]at h;cases c:pA o.length A with
   |none=>rw[c]at h;cases h
   |some e=>
    rw[c,Ya]at h;cases l:o[e]? with
    |none=>rw[l]at h;cases h
    |some O=>
     rw[l]at h;cases h;cases A with
     |int i=>
      have b:(if -(2^63)<=i/\i<2^63 then seqIndex? i o.length else none)=some e:=c;split at b
      ·rename_i s;obtain⟨a,p,z,J,N,x,w⟩:=jh I q;refine⟨_,z,.inl ⟨rfl,p,SqL.of x⟩,P,F,ρ,_,m,I,fun v L R g r1=>?_⟩;cases r1;obtain⟨E,M⟩:=g.keep a _ x J;have r5:=w.same g.ext;obtain⟨y,C,B⟩:=r5.get l;refine⟨a,p,i,e,y,rfl,rfl,E,s.1,s.2,by rw[w.length];exact b,C,?_⟩;exact k y L _ g.ext ((I.evo g).mut (o':=.lst _) (u:=.lst _) q rfl rfl z (r5.eraseIdx e)) B
      ·cases b
     |_=>cases c
 ·cases h
def pN(j:Nat)(f:Dd):DF->Option RES:=fun a=>(oa j f a).map fun r=>.nx r.1
def Dp(j:Nat)(h:PE X o (eI j))(u:PDE X e f)(b:attributeBase o "pop" X.env (eval o X.env)=eval o X.env:=by rfl)
  (g:((backTo cpos (starEach [e] X.env)).all (fun x=>!x.1)&&(backToKw cpos (keywordEach [] X.env)).all (fun x=>x.1.isSome)
   && decide (([e]:List Expr).length+([]:List Keyword).length+(if([]:List Keyword).isEmpty then 0 else 1)<30))=true:=by rfl)
  (a:(apos.endLine == cpos.line)=true:=by rfl) (l:StO e X:=by rfl) (i:swapsWith (.Call (.Attribute o "pop" apos) [e] [] cpos) none pos.line X.env=pure false:=by rfl) :
  PD1 X (.Expr (.Call (.Attribute o "pop" apos) [e] [] cpos) pos) (pN j f):=
 PS.imp (fV (l8 Zk XT PySem.F.type_list_pop sZ h (au u ba l) b g a l rfl) i) fun E m H=>un7 fun P F p r c I k=>by
  unfold pN at c;cases q:oa j f p with
  |none=>rw[q]at c;cases c
  |some s=>
   rw[q]at c;cases c;exact vD q I fun v z y e w _=>k m z y e w
def iO(i j:Nat)(f:Dd):DF->Option RES:=fun a=>(oa j f a).bind fun r=>match r.1[i]? with
 |some (some (.own (.lst ds) t))=>if i≠j/\ds.length<16777216 then some (.nx (r.1.set i (some (.own (.lst (ds++[r.2])) t))))else none
 |_=>none
def xF(i j:Nat)(ho:PE X o (eI i))(hr:PE X r (eI j))(ha:PDE X e f)(p:attributeBase o "append" X.env (eval o X.env)=eval o X.env:=by rfl)(g:attributeBase r "pop" X.env (eval r X.env)=eval r X.env:=by rfl)
  (m:((backTo cpos' (starEach [e] X.env)).all (fun x=>!x.1)&&(backToKw cpos' (keywordEach [] X.env)).all (fun x=>x.1.isSome)
   && decide (([e]:List Expr).length+([]:List Keyword).length+(if([]:List Keyword).isEmpty then 0 else 1)<30))=true:=by rfl)
  (w:((backTo cpos (starEach [.Call (.Attribute r "pop" apos') [e] [] cpos'] X.env)).all (fun x=>!x.1)&&(backToKw cpos (keywordEach [] X.env)).all (fun x=>x.1.isSome)
   && decide (([.Call (.Attribute r "pop" apos') [e] [] cpos']:List Expr).length+([]:List Keyword).length+(if([]:List Keyword).isEmpty then 0 else 1)<30))=true:=by rfl)
  (l:(apos.endLine == cpos.line)=true:=by rfl) (c:(apos'.endLine == cpos'.line)=true:=by rfl) (s:starEach [e] X.env=[(false,eval e X.env)]:=by rfl)
  (Q:starEach [.Call (.Attribute r "pop" apos') [e] [] cpos'] X.env=[(false,eval (.Call (.Attribute r "pop" apos') [e] [] cpos') X.env)]:=by rfl) (K:swapsWith (.Call (.Attribute o "append" apos) [.Call (.Attribute r "pop" apos') [e] [] cpos'] [] cpos) none pos.line X.env=pure false:=by rfl) :
  PD1 X (.Expr (.Call (.Attribute o "append" apos) [.Call (.Attribute r "pop" apos') [e] [] cpos'] [] cpos) pos) (iO i j f):=
 PS.imp (fV (l8 Zk Xy PySem.F.type_list_append k9 ho (au (l8 Zk XT PySem.F.type_list_pop sZ hr (au ha ba s) g m c s rfl) ba Q) p w l Q rfl) K) fun E Y H=>un7 fun P F B res h I k=>by
  unfold iO at h;cases q:oa j f B with
  |none=>rw[q]at h;cases h
  |some pr=>
   rw[q,Ya]at h;split at h
   ·rename_i ds t A;split at h
    ·rename_i R;cases h
     -- the i-th slot is not touched by the pop
     have J:B[i]?=some (some (.own (.lst ds) t)):=by
      have b:=q;unfold oa at b;split at b
      ·rename_i y t' qj;cases O:f B with
       |none=>rw[O]at b;cases b
       |some dk=>
        rw[O,Ya]at b;cases N:pA y.length dk with
        |none=>rw[N]at b;cases b
        |some kk=>
         rw[N,Ya]at b;cases M:y[kk]? with
         |none=>rw[M]at b;cases b
         |some d'=>
          rw[M]at b;cases b;rw[YA (fun z=>R.1 z.symm)]at A;exact A
      ·cases b
     obtain⟨a,Z,L,h2,h3,h4,h5⟩:=jh I J;refine⟨_,L,.inl ⟨rfl,Z,SqL.of h4⟩,?_⟩;refine vD q I fun v F' H' e U rv=>?_;obtain⟨a',C,T,g2,g3,g4,S⟩:=jh U A;rw[L]at T;cases T;refine⟨a,C,v,rfl,rfl,g4,by rw[YV,S.length];exact R.2,k Y F' _ e ?_⟩;exact U.mut (o':=.lst _) (u:=.lst _) A rfl rfl L (S.append (.one rv))
    ·cases h
   ·cases h
end
def wd{k k':Key}{v:V}{vs:List (Key×V)}:eY ((k',v)::vs) k=if k'=k then some v else eY vs k:=by unfold eY;by_cases q:k'=k<;>simp[ZC,q]
def RepsK.val{k:Key}{vs:List (Key×V)}{ds:List (Key×D)}(h:RepsK K H vs ds):(eY vs k=none/\cZ ds k=none)\/∃v d,eY vs k=some v/\cZ ds k=some d/\Rep K H v d:=
 RepsK.ind (M:=fun vs ds=>(eY vs k=none/\cZ ds k=none)\/∃v d,eY vs k=some v/\cZ ds k=some d/\Rep K H v d) (.inl ⟨rfl,rfl⟩) (fun{a v d vs ds} h _ ih=>by
  rw[wd,cb];by_cases q:a=k
  ·rw[Yh q,Yh q];exact .inr ⟨v,d,rfl,rfl,h⟩
  ·rw[Yl q,Yl q];exact ih) h
def RepsK.any{k:Key}{vs:List (Key×V)}{ds:List (Key×D)}(h:RepsK K H vs ds):(vs.any fun a=>decide (a.1=k))=ds.any fun a=>decide (a.1=k):=
 RepsK.ind (M:=fun vs ds=>(vs.any fun a=>decide (a.1=k))=ds.any fun a=>decide (a.1=k)) rfl (fun _ _ ih=>by rw[Xb,Xb,ih]) h
def RepsK.map{k:Key}{v:V}{d:D}(f:Rep K H v d){vs:List (Key×V)}{ds:List (Key×D)}(h:RepsK K H vs ds):RepsK K H (vs.map fun a=>if a.1=k then(a.1,v)else a) (ds.map fun a=>if a.1=k then(a.1,d)else a):=
 RepsK.ind (M:=fun vs ds=>RepsK K H (vs.map fun a=>if a.1=k then(a.1,v)else a) (ds.map fun a=>if a.1=k then(a.1,d)else a)) .nil (fun{b c e vs ds} h _ ih=>by
  rw[Yx,Yx];by_cases q:b=k
  ·rw[Yh (show(b,c).1=k from q),Yh (show(b,e).1=k from q)];exact .cons f ih
  ·rw[Yl (show ¬(b,c).1=k from q),Yl (show ¬(b,e).1=k from q)];exact .cons h ih) h
def RepsK.snoc{k:Key}{v:V}{d:D}(a:Rep K H v d){vs:List (Key×V)}{ds:List (Key×D)}(h:RepsK K H vs ds):RepsK K H (vs++[(k,v)]) (ds++[(k,d)]):=
 RepsK.ind (M:=fun vs ds=>RepsK K H (vs++[(k,v)]) (ds++[(k,d)])) (.cons a .nil) (fun h _ ih=>.cons h ih) h
def RepsK.put{k:Key}{v:V}{d:D}{vs:List (Key×V)}{ds:List (Key×D)}(a:Rep K H v d)(r:RepsK K H vs ds):RepsK K H (gX vs k v) (eC ds k d):=by
 unfold gX eC;rw[r.any (k:=k)];split
 ·exact r.map a
 ·exact r.snoc a
def BE{F:Hp}{y:V}{k:Key}(r:Rep K F y dy)(h:jt dy=some k):y=kV k:=by
 cases dy with
 |int i=>cases h;cases r;rfl
 |str i=>cases h;cases r;rfl
 |_=>cases h
def Ed{F:Hp}{x:V}{ds:List (Key×D)}(I:DInv K P F H ρ σ)(r:RepS K H F x (.dK ds)):∃a vs,x=.ref a/\H a=some (.dK vs)/\RepsK K F vs ds:=by
 rcases r with r|⟨a,o,u,rfl,_,h3,h4,hfl,z⟩
 ·cases r with|dK h q=>exact⟨_,_,rfl,I.sub _ _ h,q⟩
 ·cases o with
  |dK ds'=>
   cases z;cases u with
   |dK vs=>exact⟨a,vs,rfl,h3,h4⟩
   |_=>exact h4.elim
  |lst2 _=>cases hfl
  |tup2 _=>cases hfl
  |_=>cases z
section
variable  {i f:Expr}  {fd fk:Dd}
def lq:D->D->Option D
 |.dK kvs,y=>(jt y).bind fun k=>cZ kvs k
 |_,_=>none
def rF(U:X.A.units+64<cLine)(E:PDR X o fd)(hi:PDE X i fk)(C:BS i:=by exact fun _ _=>rfl):PDE X (.Subscript o i pos) (d2 lq fd fk):=(vR (by omega) E hi C).imp fun S H Q=>un7 fun P F b d a I k=>by
 unfold d2 at a;cases c:fd b with
 |none=>rw[c]at a;cases a
 |some M=>
 cases f:fk b with
 |none=>rw[c,Ya,f]at a;cases a
 |some m=>
 rw[c,Ya,f,Ya]at a;cases M with
 |dK kvs=>
  have h:((jt m).bind fun k=>cZ kvs k)=some d:=a;cases e:jt m with
  |none=>rw[e]at h;cases h
  |some l=>
   rw[e,Ya]at h;refine⟨P,F,b,_,c,I,fun x R Z j B=>⟨P,R,b,_,f,I.evo j,fun y O N g w=>?_⟩⟩;obtain⟨q,T,rfl,K,J⟩:=Ed ((I.evo j).evo g) (B.evo g);have L:=BE w e;subst L;rcases J.val (k:=l)with⟨_,z⟩|⟨v,Y,u,s,p⟩
   ·rw[z]at h;cases h
   ·rw[s]at h;cases h;exact⟨q,v,rfl,by have:=DGet.k (k:=l) K;rw[u]at this;exact this,k v O N (j.trans g) p⟩
 |_=>cases a
def Gj(lo c:Int)(n:Nat):It:=⟨fun i _=>i<n,fun i H x a=>a=H/\x=.int (lo+i*c),fun i _=>n<=i⟩
def sN{P:Program}(it:Addr)(lo c:Int)(n:Nat):Turn P w K tg (Gj lo c n) [it] it (fun i h=>IsRangeIter h it (lo+(i:Nat)*c) ((n:Int)-(i:Nat)) c) where
 mem:=by simp
 obj:=fun i h a b f=>by
  have e:b=it:=by simpa using f
  subst e;exact⟨_,a,fun v z=>nomatch (show Data.fields _=Data.cell v from z)⟩
 keep:=fun i h l a k=>k it (by simp) _ a
 item:=by intro X u m x q i N s L H E I j a p;subst u m x;obtain⟨J,C,R,B,A,y⟩:=j it (by simp);refine(Walks.range (prog:=X.prog) (w:=X.w) (I.ok.hd q) it lo c n).item i s _ _ p a fun v l M Q g O=>?_;obtain⟨t,rfl⟩:=Q;have T:Inv X N L H {s with heap:=l,toks:=M}:=I.turned (fun b o f e=>O b o (by simpa using f) e) J C B A y;exact⟨_,rfl,sS (s:={s with heap:=l,toks:=M}) (n := "range_iterator") g rfl rfl (by decide) ⟨.int (lo+i*c),H,T,⟨t,rfl⟩,⟨rfl,rfl⟩,g,fun b f=>(j b f).1⟩⟩
 done:=by intro X u m x q i N s L H E I j a p;subst u m x;obtain⟨J,C,R,B,A,y⟩:=j it (by simp);exact wpAny_pyNext_range_end (I.ok.hd q) a (by have:n<=i:=p;omega) fun l S=>⟨rfl,I.turned (t':=s.toks) (fun b o f e=>S b o f e) J C B A y⟩
 self:=fun _ _ _ _ _ a h=>wpAny_pyIter_rangeiter a h
def Ft(ta:TA):TI:=fun a H R=>ta a H fun b e=>∃i j c:Int,b=[.int i,.int j,.int c]/\0<c/\c<1073741824/\Builtin.Range.small i j c=true/\R (Gj i c (Builtin.Range.rangeSize i j c).toNat) e
def w6(M:Gl X "range")(L:X.mg "range"=none)(O:PA X [a,b,c] ta)(K:starEach [a,b,c] X.env=[(false,eval a X.env),(false,eval b X.env),(false,eval c X.env)]:=by rfl)(w:starEach [b,c] X.env=[(false,eval b X.env),(false,eval c X.env)]:=by rfl)(u:(backTo pos (starEach [b,c] X.env)).any (·.1)=false:=by rfl) :
  PI X tg (.Call (.Name "range" p) [a,b,c] [] pos) (Ft ta):=by
 intro z s y H R I h;refine Call_ (ir I M L boot_range (Zi (bv (O pos z s y H _ I h) fun Y l U A T r1 J=>?_) (by rw[K,w]) u));obtain⟨i,j,f,e,h1,Z,P,q⟩:=J;subst e;cases r1 with
 |cons E m=>
 cases m with
 |cons C m=>
 cases m with
 |cons B m=>
 cases m;obtain⟨t,rfl⟩:=E;obtain⟨t',rfl⟩:=C;obtain⟨g,rfl⟩:=B;refine call_range_3 (by omega) ?_ (.inl (PyProof.noPylong_small (by omega)));have x:Inv X z y A {l with heap:=l.heap.push {cls:=.type "range",data:=.fields #[.int i t,.int j t',.int f g]},toks:=l.toks}:=T.kept fun b o e=>Ye _ e
 refine wpAny_pyIter_range (IsRange.new ..) P ?_;refine⟨_,[_],_,_,A,rfl,x.kept (t':=l.toks) fun b o e=>Ye _ e,sN _ i f (Builtin.Range.rangeSize i j f).toNat,?_,fun b N=>?_,q⟩
 ·have S:i+((0:Nat):Int)*f=i:=by simp
  have Q:(((Builtin.Range.rangeSize i j f).toNat:Nat):Int)-((0:Nat):Int)=Builtin.Range.rangeSize i j f:=by rw[<-rangeSize_toNat];simp
  show IsRangeIter _ _ (i+((0:Nat):Int)*f) ((((Builtin.Range.rangeSize i j f).toNat:Nat):Int)-((0:Nat):Int)) f;rw[S,Q];exact Yo _ rfl
 ·have e:b=(l.heap.push {cls:=.type "range",data:=.fields #[.int i t,.int j t',.int f g]}).objs.size:=by simpa using N
  subst e;exact x.fpOk (Ym _) (x.hok.fresh (Ym _))
def iM(lo c:Int)(n:Nat):List D:=(List.range n).map fun i:Nat=>.int (lo+(i:Int)*c)
def AI(fa fb fc:Dd):DF->Option (List D):=fun a=>match fa a,fb a,fc a with
 |some (.int i),some (.int j),some (.int c)=>if 0<c/\c<1073741824/\Builtin.Range.small i j c=true then some (iM i c (Builtin.Range.rangeSize i j c).toNat)else none
 |_,_,_=>none
def uw(M:Gl X "range")(L:X.mg "range"=none)(Q:PDE X a fa)(O:PDE X b fb)(N:PDE X c fc)(w:starEach [a,b,c] X.env=[(false,eval a X.env),(false,eval b X.env),(false,eval c X.env)]:=by rfl)(h:starEach [b,c] X.env=[(false,eval b X.env),(false,eval c X.env)]:=by rfl)(l:starEach [c] X.env=[(false,eval c X.env)]:=by rfl)(o:(backTo pos (starEach [b,c] X.env)).any (·.1)=false:=by rfl) :
  PDI X tg (.Call (.Name "range" p) [a,b,c] [] pos) (AI fa fb fc):=
 PI.imp (w6 M L (au Q (au O (au N ba l) (by rw[h,l])) (by rw[w,h])) w h o) fun σ H R=>un7 fun P F m ds f I k=>by
  unfold AI at f;split at f
  ·rename_i i j A E C B;split at f
   ·rename_i s;cases f;refine⟨P,F,m,_,E,I,fun v F1 H1 u r1=>⟨P,F1,m,_,C,I.evo u,fun v2 Z U z r2=>⟨P,Z,m,_,B,(I.evo u).evo z,fun v3 Y T S r3=>?_⟩⟩⟩;cases r1;cases r2;cases r3;refine⟨i,j,A,rfl,s.1,s.2.1,s.2.2,k _ Y T ((u.trans z).trans S) fun F' H' e K n=>⟨fun d g=>?_,fun q=>?_⟩⟩
    ·unfold iM at g;rw[Yt]at g;by_cases y:n<(Builtin.Range.rangeSize i j A).toNat
     ·rw[Xc y,Zv]at g;cases g;refine⟨y,fun x U J=>?_⟩;obtain⟨rfl,rfl⟩:=J;exact⟨F',Evo.refl K,.int⟩
     ·rw[ZD (by rw[ZA];omega)]at g;cases g
    ·unfold iM at q;rw[Yb,ZA]at q;exact q
   ·cases f
  ·cases f
end
def Room.h64{k:Nat}(r:Room k A):A.units+64<cLine:=by have:=r.un;omega
def Cu(sc0 scope:Scope):Bool:=scope.kind == .function&&(scope.names.map (·.1)).Nodup&&(scope.names.all fun x=>x.2 != .free||(sc0.names.lookup x.1 == some .cell||sc0.names.lookup x.1 == some .free))
def yJ(s:Scope)(e:X.env.scope=s)(h:Cu s scope=true):BlkScope X scope:=by
 unfold Cu at h;simp only[Yg,Yu]at h;obtain⟨⟨g,f⟩,c⟩:=h;refine⟨by simpa using g,f,fun x a b=>?_⟩;have:=Yr.mp c x a;rw[b]at this;have i:X.env.kindOf x.1=s.names.lookup x.1:=by show X.env.scope.names.lookup x.1=_;rw[e]
 rw[i];simpa using this
def B5(a:List Str)(scope:Scope)(N:List Str)(own:Nat)(ix:List Nat):Bool:=
 decide (N.length=own+ix.length)&&(List.range ix.length).all fun i=>match N[own+i]?,ix[i]? with
  |some x,some j=>a[j]? == some x&&scope.names.lookup x == some .free
  |_,_=>true
def yc{N:List Str}(b:List Str)(e:X.N=b)(h:B5 b scope N own ix=true):Caps X scope N own ix:=by unfold B5 at h;rw[Yg,Yu]at h;refine⟨h.1,fun i j x f a=>?_⟩;have c:i<ix.length:=(Yj.mp a).1;have:=Yr.mp h.2 i (Zf.mpr c);rw[f,a]at this;simp only[Yg,Zz]at this;rw[e];exact this
def cC:nU X [] (tB' X.K aX):=fun p s a H Q I h=>by
 obtain⟨P,F,e,b,c,J,k⟩:=h;cases c;exact Aq p s a H Q I (k F H (Evo.refl J.toDHp))
def pE{f:Dk}(h:PDT X c f):nU X [c] (tB' X.K f):=yy h
def uq(h:(is.all fun j=>decide (j<own))=true):∀j∈is,j<own:=fun j m=>YI (Yr.mp h j m)
def Ba{f:Do}:∀σ H Q,tD K (asO f) σ H Q->tO K f σ H Q:=fun σ H Q=>un7 fun P F c d h I k=>by
 unfold asO at h;cases q:f c with
 |none=>rw[q]at h;cases h
 |some o=>
  rw[q]at h;cases h;refine⟨P,F,c,o,q,I,fun a l j i e=>?_⟩;exact k (.ref a) _ j (i.freeze I.toDHp (fun b=>H b=none/\l b=none) fun _ q=>q) (e.rep (cV fun b q=>q.2) fun b u q g=>by rw[fD q];exact g)
section
variable      {N:List Str}   {f:Dl}  {c:Dk}{e:Dd}
def sx(hN:X.N.Nodup)(hiN:X.N[i]?=some y)(hx:Loc X.env.scope y)(hcalm:X.calm=true)(b:BlkScope X scope)(cp:Caps X scope N own ix)(his:∀j∈is,j<own)(hi:PDI X tg iter f)
  (m:∀s H fp pz,PDG (blk X scope N s H fp pz) tg is st) (p:∀s H fp pz,nU (blk X scope N s H fp pz) ifs (tB' X.K c)) (he:∀s H fp pz,PDE (blk X scope N s H fp pz) elt e)
  (hnames:∀y∈scope.names,y.2=.local->scope.names.lookup y.1=some .local)
  (h:swapsWith (.ListComp elt [⟨tg,iter,ifs,0⟩] scope pos) (some (.Name y py)) spos.line X.env=pure true:=by rfl)
  (l:FsI iter X:=by intro _;rfl)
  (o:FnL X y:=by first|exact .inl rfl|exact .inr rfl|assumption) :
  PD1 X (.Assign [.Name y py] (.ListComp elt [⟨tg,iter,ifs,0⟩] scope pos) spos) (bt i (asL (aw own ix f st c e))):=
 PS.imp (nv (g:=tG X.K is st) (tc:=tB' X.K c) (te:=tD X.K e) hcalm hN hiN hx b cp hi m p he h hnames l o) fun E a H q=>qK his a H _ (zQ E a H q)
def uE(hN:X.N.Nodup)(hiN:X.N[i]?=some y)(hx:Loc X.env.scope y)(hcalm:X.calm=true)(b:BlkScope X scope)(cp:Caps X scope N own ix)(his:∀j∈is,j<own)(hi:PDI X tg iter f)
  (m:∀s H fp pz,PDG (blk X scope N s H fp pz) tg is st) (p:∀s H fp pz,nU (blk X scope N s H fp pz) ifs (tB' X.K c)) (he:∀s H fp pz,PDE (blk X scope N s H fp pz) elt e)
  (hnames:∀y∈scope.names,y.2=.local->scope.names.lookup y.1=some .local)
  (h:swapsWith (.ListComp elt [⟨tg,iter,ifs,0⟩] scope pos) (some (.Name y py)) spos.line X.env=pure true:=by rfl)
  (l:FsI iter X:=by intro _;rfl)
  (o:FnL X y:=by first|exact .inl rfl|exact .inr rfl|assumption) :
  PD1 X (.Assign [.Name y py] (.ListComp elt [⟨tg,iter,ifs,0⟩] scope pos) spos) (aF i (asO (asL (aw own ix f st c e)))):=
 PS.imp (nv (g:=tG X.K is st) (tc:=tB' X.K c) (te:=tD X.K e) hcalm hN hiN hx b cp hi m p he h hnames l o) fun E a H q=>qK his a H _ (Ba a H _ (Ak E a H q))
end
def FN(n p:Nat)(g:Dw)(o:OD)(xs:List DV)(q:OD×D):Prop:=xs.length+1=p/\q.1.flat=true/\∀a,∃r,g (aP n p (.own o (some a)::xs))=some r/\pH a q.1 q.2 r
noncomputable def rH (n p:Nat)(g:Dw)(o:OD)(xs:List DV):Option (OD×D):=
 open Classical in if h:∃q,FN n p g o xs q then some h.choose else none
def AV{n p:Nat} :∀a o xs o' d,rH n p g o xs=some (o',d)->xs.length+1=p/\o'.flat=true/\∃r,g (aP n p (.own o (some a)::xs))=some r/\pH a o' d r:=by
 intro a o xs o' d h;unfold rH at h;split at h
 ·rename_i e;obtain⟨f,c,b⟩:=e.choose_spec;rw[YG h]at c b;exact⟨f,c,b a⟩
 ·cases h
def wL{a:Addr}{o:OD}{d d':D}{r:RES}(h:pH a o d r)(h':pH a o' d' r):(o,d)=(o',d'):=by
 cases r with
 |nx ρ=>obtain⟨f,e⟩:=h;obtain⟨b,c⟩:=h';rw[f]at b;cases b;rw[e,c]
 |rt x ρ=>obtain⟨f,e⟩:=h;obtain⟨b,c⟩:=h';rw[e]at c;cases c;rw[f]at b;cases b;rfl
 |bk ρ=>cases h
 |ct ρ=>cases h
def kj{n p:Nat}{o:OD}{d:D}(f:xs.length+1=p)(i:o'.flat=true)(h:∀a,∃r,g (aP n p (.own o (some a)::xs))=some r/\pH a o' d r):rH n p g o xs=some (o',d):=by
 have b:∃q,FN n p g o xs q:=⟨(o',d),f,i,h⟩
 unfold rH;rw[dif_pos b];obtain⟨_,_,j⟩:=b.choose_spec;obtain⟨r,e,q⟩:=j 0;obtain⟨m,l,c⟩:=h 0;rw[l]at e;cases e;exact Zn some (wL q c)
def All2.get{c b:Type}{R:c->b->Prop}{as:List c}{bs:List b}(h:All2 R as bs){d:b}(e:bs[j]?=some d):∃a,as[j]?=some a/\R a d:=by
 induction h generalizing j with
 |nil=>exact nomatch e
 |cons q _ ih=>
  cases j with
  |zero=>obtain rfl:=YG e;exact⟨_,rfl,q⟩
  |succ j=>exact ih e
def gf(i j:Nat)(ρ:DF):Option D:=match ρ[i]? with
 |some (some (.own (.tup2 dss) _))=>(dss[j]?).map .lst
 |some (some (.bor (.tup2 dss)))=>(dss[j]?).map .lst
 |some (some (.v (.tup ds)))=>ds[j]?
 |_=>none
def DInv.nest{F:Hp}(I:DInv K P F H ρ σ){c:List (List D)}(q:(∃t,ρ[i]?=some (some (.own (.tup2 c) t)))\/ρ[i]?=some (some (.bor (.tup2 c))))(g:c[j]?=some ds):∃(a:Addr) (bs:List Addr) (b:Addr) (u:HO),σ[i]?=some (some (.ref a))/\H a=some (.tup (bs.map .ref))/\bs[j]?=some b/\F b=none/\H b=some u/\ORep1 K F (.lst ds) u:=by
 have f:∃v,σ[i]?=some (some v):=by
  rcases q with⟨t,q⟩|q
  ·obtain⟨v,h,_⟩:=I.at q;exact⟨v,h⟩
  ·obtain⟨v,h,_⟩:=I.at q;exact⟨v,h⟩
 obtain⟨v,e⟩:=f;obtain⟨a,rfl,y,bs,w,x,s⟩:=I.slot e q;obtain⟨b,p,o,u,m,l⟩:=s.get g;exact⟨a,bs,b,u,e,w,p,o,m,l⟩
def mf(i j:Nat){k p}(h:PE X e (eI i))(C:rl (.Constant (.int (j:Int)) k p):=by exact fun _ _=>rfl):PDR X (.Subscript e (.Constant (.int (j:Int)) k p) pos) (gf i j):=(zk uH h u9 C).imp fun z H Q=>un7 fun P F w d g I k=>by
 have f:∀c:List (List D),((∃t,w[i]?=some (some (.own (.tup2 c) t)))\/w[i]?=some (some (.bor (.tup2 c))))->(c[j]?).map D.lst=some d->tOp (rIx X.K) (eI i) (tC (.int (j:Int))) z H Q:=fun c q g=>by
  cases m:c[j]? with
  |none=>rw[m]at g;cases g
  |some y=>
   rw[m]at g;cases g;obtain⟨a,bs,b,u,s,l,o,L,J,E⟩:=I.nest q m;refine⟨_,s,.inr (.inl ⟨a,_,_,.ref b,rfl,rfl,SqT.of l,jP (by rw[Yt,o];rfl),?_⟩)⟩;exact k _ F H (Evo.refl I.toDHp) (.inr ⟨b,.lst y,u,rfl,L,J,E,rfl,rfl⟩)
 unfold gf at g;split at g
 ·rename_i c t q;exact f c (.inl ⟨t,q⟩) g
 ·rename_i c q;exact f c (.inr q) g
 ·rename_i y q;obtain⟨v,s,l⟩:=I.at q;cases l with
  |tup l o=>
   obtain⟨x,B,A⟩:=o.get g;exact⟨_,s,.inr (.inl ⟨_,_,_,x,rfl,rfl,SqT.of (I.sub _ _ l),jP B,k x F H (Evo.refl I.toDHp) (.inl A)⟩)⟩
 ·cases g
def Fo(K:Kq):V->List V->Hp->VK->Prop:=fun x e H Q=>∃l c b y a,x=.ref l/\e=[y]/\SqT K H l c/\Reps K H c b/\Rep K H y a/\b.all (okN 29)=true/\okN 30 a=true/\Q (.int (b.countP (fun d=>eqd d a))) H
def mB:D->D->Option D
 |.tup ds,y=>if(ds.all (okN 29)&&okN 30 y)=true then some (.int (ds.countP (fun d=>eqd d y)))else none
 |_,_=>none
def xp(hu:X.A.units+64<cLine):MtR X "tuple.count" (Fo X.K):=by
 intro Z s S H x U v Y Q I C b h;obtain⟨l,T,ds,y,m,rfl,rfl,M,r,B,ok,L,q⟩:=h;cases C;obtain⟨u,rfl,E⟩:=b.one;obtain⟨a,c,J,e⟩:=I.tuple M;obtain⟨⟨R,P,p,w⟩,f,j,n,g⟩:=J;simp only at j g;subst j g;have o:=bU ok;refine Vd PySem.F.slot_tuple_count ⟨_,f,rfl⟩ PySem.F.entry_tuple_count (PySem.F.args_tuple_count_2 _ _) (PySem.SeqAt.tuple_countAt l a.toArray n P w u (qw a ds m))
  ⟨f,fun z e=>ng I r c o B L E (A:=X.A.in1) (by show X.A.units+1+60<cLine;omega) z (by simpa using e),?_⟩
 refine⟨.int _,H,I.tok _,⟨s.toks,?_⟩,q⟩;show Value.int ((a.countP (qw a ds m):Nat):Int) s.toks=_;rw[uV (ds:=ds) (by rw[<-c.length,r.length]) fun i u d O N=>mJ I r c o O N]
def HX(r:V->List V->Hp->VK->Prop)(to:TE)(t:TA):TE:=fun c H Q=>to c H fun x e=>(∃a b,x=.ref a/\e a=some (.tup b))/\t c e fun b f=>r x b f Q
def Ds{t:TA}{id:String}{r:V->List V->Hp->VK->Prop}(slot:Slot "tuple" name id)(m:typeOf (.builtin id)=pure (.type "method_descriptor"))(P:MtR X id r)(O:PE X o to)(R:PA X (e::es) t)
  (g:attributeBase o name X.env (eval o X.env)=eval o X.env:=by rfl)
  (i:((backTo cpos (starEach (e::es) X.env)).all (fun x=>!x.1)&&(backToKw cpos (keywordEach [] X.env)).all (fun x=>x.1.isSome)
   && decide ((e::es).length+([]:List Keyword).length+(if([]:List Keyword).isEmpty then 0 else 1)<30))=true:=by rfl)
  (f:(apos.endLine == cpos.line)=true:=by rfl) (N:starEach (e::es) X.env=(false,eval e X.env)::starEach es X.env:=by rfl) (b:(backTo cpos (starEach es X.env)).any (·.1)=false:=by rfl) :
  PE X (.Call (.Attribute o name apos) (e::es) [] cpos) (HX r to t):=by
 intro p s j H Q I h;refine wpAny_Call_method_late g i f rfl (bv (O p s j H _ I h) fun v u x A z r1 q=>?_);obtain⟨⟨a,B,rfl,ty⟩,L⟩:=q;cases(show v=Value.ref a from r1);obtain⟨_,_,_,⟨M,Y,U,_⟩,l,T,S⟩:=(show ObjOk X.prog X.w A u.heap a (.tup B)from z.hok a _ ty)
 refine⟨"tuple",id,PySem.F.plainAttrs_tuple,slot,m,⟨M,Y,U⟩,fun c Z=>by cases Z;exact⟨l,T,S⟩,?_⟩;have y:=R cpos p u j A _ z L;rw[N]at y ⊢;refine XJ (by show(false||(backTo cpos (starEach es X.env)).any (·.1))=false;rw[b]<;>rfl) (Xs ?_);exact bv y fun E J C H2 I2 r2 K=>P p J j H2 _ C _ E Q I2 r1 r2 K
def iU(z:X.A.units+64<cLine)(B:PDN X o fa)(g:PDN X e fb)(b:attributeBase o "count" X.env (eval o X.env)=eval o X.env:=by rfl)
  (f:((backTo cpos (starEach [e] X.env)).all (fun x=>!x.1)&&(backToKw cpos (keywordEach [] X.env)).all (fun x=>x.1.isSome)
   && decide (([e]:List Expr).length+([]:List Keyword).length+(if([]:List Keyword).isEmpty then 0 else 1)<30))=true:=by rfl)
  (a:(apos.endLine == cpos.line)=true:=by rfl) (p:StO e X:=by rfl) :
  PDE X (.Call (.Attribute o "count" apos) [e] [] cpos) (d2 mB fa fb):=
 (Ds PySem.F.slot_tuple_count PySem.F.type_tuple_count (xp z) B (au g ba p) b f a p rfl).imp fun L H Q=>un7 fun P F i d h I k=>by
 unfold d2 at h;cases g:fa i with
 |none=>rw[g]at h;cases h
 |some C=>
  rw[g]at h;cases l:fb i with
  |none=>rw[Ya,l]at h;cases h
  |some j=>
   rw[Ya,l,Ya]at h;cases C with
   |tup ds=>
    have h:(if(ds.all (okN 29)&&okN 30 j)=true then some (D.int (ds.countP (fun d=>eqd d j)))else none)=some d:=h;split at h
    ·rename_i c;rw[Yg]at c;cases h;refine⟨P,F,i,_,g,I,fun x K M m w=>?_⟩;cases w with
     |tup h1 h2=>
      refine⟨⟨_,_,rfl,h1⟩,P,K,i,j,l,I.evo m,fun y J E q u=>?_⟩;have s:=q.same m.hp;exact⟨_,_,ds,y,j,rfl,rfl,SqT.of (s _ _ h1),h2.same s,u,c.1,c.2,k _ J E (m.trans q) .int⟩
    ·cases h
   |_=>cases h
def isI:D->Bool
 |.int _=>true
 |_=>false
def toI:D->Int
 |.int i=>i
 |_=>0
def fW(ns:List Int):List Int:=ns.foldl step_dedup []
def jY:D->Option D
 |.lst ds=>if(decide (ds.length<12)&&ds.all isI)=true then some (.int ((fW (ds.map toI)).length:Int))else none
 |_=>none
def lC(ns:List Int):firstMet (fun i=>ns.getD i 0) ns.length=fW ns:=by
 unfold firstMet fW;refine Zn (List.foldl step_dedup []) ?_;apply List.ext_getElem?;intro i;rw[Yt];by_cases h:i<ns.length
 ·rw[Xc h,Yi h];show some (ns.getD i 0)=_;rw[YD,Yi h];rfl
 ·rw[ZD (by rw[ZA];omega),ZD (by omega)];rfl
def BA{ns:List Int}(h:Vals (ns.map V.int) us):IntsAre us ns:=by
 induction ns generalizing us with
 |nil=>cases h;exact .nil
 |cons n ns ih=>
  cases h with
  |cons r t=>
   obtain⟨a,rfl⟩:=r;exact .cons n a (ih t)
def iN{F:Hp}:∀{vs:List V}{ds:List D},Reps K F vs ds->ds.all isI=true->vs=(ds.map toI).map V.int:=by
 intro vs ds h;refine Reps.ind (M:=fun vs ds=>ds.all isI=true->vs=(ds.map toI).map V.int) (fun _=>rfl) (fun{v d vs ds} r _ ih q=>?_) h;rw[List.all_cons,Yg]at q;cases d with
 |int i=>
  cases r;rw[ih q.2];rfl
 |_=>cases q.1
def wY(hcalm:X.calm=true):CallR X (.type "set") (fun xs H Q=>∃l ns,xs=[.ref l]/\SqL X.K H l (ns.map V.int)/\ns.length<12/\∀a,H a=none->Q (.ref a) (upd H a (.set (fun k=>(fW ns).any (· == k)) (fW ns).length))):=by
 intro C s A H xs B Q I r h;obtain⟨l,ns,rfl,x,y,q⟩:=h;obtain⟨u,rfl,m⟩:=fE r;cases m;obtain⟨i,c,p,E⟩:=I.list x;have f:i.length=ns.length:=by rw[<-c.length,Yb]
 refine call_set_list (ns:=ns) (I.ok.hd hcalm) p.isList (by simpa using BA c) (by rw[Yq,f];exact ZN (Nat.succ_lt_succ y) (by decide)) fun J j g w=>?_;have z:i.toArray.size=ns.length:=by rw[Yq];exact f
 rw[z,lC]at g;exact⟨.ref s.heap.objs.size,_,I.laid (o:=.set (fun k=>(fW ns).any (· == k)) (fW ns).length) (t':=j) (fun b o e=>w b o (Yp e) e) (Ym _) g,rfl,q _ (I.hok.fresh (Ym _))⟩
def xh:CallR X (.builtin "len") (fun xs H Q=>∃a S n,xs=[.ref a]/\H a=some (.set S n)/\n<1000/\Q (.int (n:Int)) H):=by
 intro p s l H xs m Q I r h;obtain⟨a,S,n,rfl,c,x,q⟩:=h;obtain⟨u,rfl,b⟩:=fE r;cases b;obtain⟨o,y,z,t,j,i,g,_,_,_,f,e⟩:=(show ObjOk X.prog X.w H s.heap a (.set S n)from I.hok a _ c)
 exact call_len_set j i g f (by omega) ⟨.int (n:Int),H,I.tok _,⟨s.toks+1,by rw[e]⟩,q⟩
def sA(ns:List Int):(fW ns).length<=ns.length:=by rw[<-lC];exact firstMet_length_le _ _
def ww(hcalm:X.calm=true)(E:Gl X "len")(B:X.mg "len"=none)(j:Gl X "set")(i:X.mg "set"=none)(f:PDR X e fa)
  (s:StO e X:=by rfl) (b:starEach [.Call (.Name "set" p2) [e] [] pos2] X.env=[(false,eval (.Call (.Name "set" p2) [e] [] pos2) X.env)]:=by rfl)
  (g:(backTo pos (starEach [] X.env)).any (·.1)=false:=by rfl) (c:(backTo pos2 (starEach [] X.env)).any (·.1)=false:=by rfl) :
  PDE X (.Call (.Name "len" p) [.Call (.Name "set" p2) [e] [] pos2] [] pos) (d1 jY fa):=
 (cR xh E B PySem.boot_len (au (db (wY hcalm) j i yG (au f ba s) (by decide) (by decide) s c) ba b) (by decide) (by decide) b g).imp fun O H Q=>un7 fun P F q d h I k=>by
  unfold d1 at h;cases f:fa q with
  |none=>rw[f]at h;cases h
  |some M=>
  rw[f,Ya]at h;cases M with
  |lst ds=>
   unfold jY at h;dsimp only at h;split at h
   ·rename_i ok;rw[Yg]at ok;cases h;refine⟨P,F,q,_,f,I,fun x o w m y=>?_⟩;have N:=I.evo m;obtain⟨l,R,rfl,u,K⟩:=eN N y;have A:=iN K ok.2;have C:=YI ok.1;rw[A]at u;refine⟨l,ds.map toI,rfl,u,by rw[Yb];exact C,fun a z=>?_⟩;have L:Evo P o w o (upd w a (.set (fun k=>(fW (ds.map toI)).any (· == k)) (fW (ds.map toI)).length)):=Evo.side m.hp z;have J:=sA (ds.map toI);rw[Yb]at J;exact⟨a,_,_,rfl,a8,by omega,k _ o _ (m.trans L) .int⟩
   ·cases h
  |_=>cases h
section
variable   {σ:List (Option V)}   
def Inv.turnedL(I:Inv X pz σ H s)(k:∀b o,b∉fp->s.heap.get? b=some o->h'.get? b=some o)(f:∀b∈fp,i5 X pz H b):Inv X pz σ H {s with heap:=h',toks:=t' }:=by
 have a:∀b u,H b=some u->b∉fp:=fun b u e z=>by rw[(f b z).1]at e;cases e
 refine I.step (g':=s.gens) (d':=s.drawn) (ch:=fp) (fun b j=>?_) (fun b o _ _ h e _=>k b o h e) (fun b o _ _ h e _=>⟨o.slots,k b o h e⟩) (fun _ _ _ _ n=>n)
  (fun b o h e=>⟨o,k b o h e⟩) (fun _ _ e=>e) (fun _ _ _ e=>e) (fun b B e=>⟨#[],by rw[e];simp⟩) (fun m i=>?_) (fun b u e=>?_) I.bare
 ·obtain⟨_,l,_,x,w,p⟩:=f b j;exact⟨x,l,w,p⟩
 ·obtain⟨o,y,A,g,r⟩:=i;exact⟨o,y,A,k _ o (fun z=>(f _ z).2.1 rfl) g,r⟩
 ·refine(I.hok b u e).stay (fun c v h q=>k c v ?_ q) (fun _ q=>q) fun _ _ q=>q;rcases h with z|z
  ·rw[z];exact a b u e
  ·exact a c _ z
def Inv.turnedLaid{a:Addr}{o:HO}(I:Inv X pz σ H s)(k:∀b o,b∉fp->s.heap.get? b=some o->h'.get? b=some o)(l:∀b∈fp,i5 X pz H b)(p:s.heap.objs.size<=a)(new:ObjOk X.prog X.w (upd H a o) h' a o) :
  Inv X pz σ (upd H a o) {s with heap:=h',toks:=t' }:=by
 have g:H a=none:=I.hok.fresh p;have f:∀b u,H b=some u->b∉fp:=fun b u e z=>by rw[(l b z).1]at e;cases e
 have j:∀b u,s.heap.get? b=some u->b≠a:=fun b u q=>Yy (Ys (Yp q) p)
 refine I.step (g':=s.gens) (d':=s.drawn) (ch:=fp) (fun b i=>?_) (fun b o _ _ h e _=>k b o h e) (fun b o _ _ h e _=>⟨o.slots,k b o h e⟩) (fun b u _ q n=>by rw[aU (j b u q)];exact n)
  (fun b o h e=>⟨o,k b o h e⟩) (fun b x e=>by rw[aU (bg e g)];exact e) (fun b _ _ e=>by rw[aU (bg e g)];exact e) (fun b M e=>⟨#[],by rw[aU (bg e g),e];simp⟩) (fun m A=>?_) (fun b u e=>?_) I.bare
 ·obtain⟨_,B,_,J,E,C⟩:=l b i;exact⟨J,B,E,C⟩
 ·obtain⟨o,K,L,y,r⟩:=A;exact⟨o,K,L,k _ o (fun z=>(l _ z).2.1 rfl) y,r⟩
 ·by_cases i:b=a
  ·subst i;rw[a8]at e;cases e;exact new
  ·rw[aU i]at e;refine(I.hok b u e).stay (fun c v h q=>k c v ?_ q) (fun c q=>by rw[aU (bg q g)];exact q) fun c x q=>by rw[aU (bg q g)];exact q
   rcases h with z|z
   ·rw[z];exact f b u e
   ·exact f c _ z
end
def Ite(K:Kq)(a:Addr):It:=
 ⟨fun i H=>∃b x,SqL K H a b/\b[i]?=some x,fun i H x c=>∃p v,H p=none/\x=.ref p/\c=upd H p (.tup [.int (i:Nat),v])/\∀b,SqL K H a b->b[i]?=some v,fun i H=>∃b,SqL K H a b/\b.length<=i⟩
def wq{P:Program}(a e it:Addr)(C:e≠it):Turn P w K (.Tuple elts kk pos) (Ite K a) [e,it] e (fun i h=>(∃f,IsEnum h e it i f)/\h.IsListIter it a i) where
 mem:=by simp
 obj:=fun i h l b m=>by
  obtain⟨⟨f,j⟩,o,eo,c,d⟩:=l;have B:b=e\/b=it:=by simpa using m
  rcases B with rfl|rfl
  ·exact⟨_,j,fun v z=>by cases z⟩
  ·exact⟨o,eo,fun v z=>by rw[d]at z;cases z⟩
 keep:=fun i h h' l k=>by
  obtain⟨⟨f,j⟩,g⟩:=l;exact⟨⟨f,k e (by simp) _ j⟩,g.at fun o x=>k it (by simp) o x⟩
 item:=by
  intro X hP Y hK hc i pz s σ H E I Q l Z;subst hP Y hK;obtain⟨⟨f,j⟩,g⟩:=l;obtain⟨xs,x,O,U⟩:=Z;obtain⟨T,R,p,hz⟩:=I.list O;obtain⟨u,hu,ru⟩:=R.get U;refine wpAny_pyNext_enum_item j g p.isList (x:=u) (by simpa using hu) C fun h' ho J hT hsz hk=>?_;refine⟨_,rfl,wpAny_letOwnedTupleGo_enum ho fun h2 he2 A=>?_⟩;have S:∀b o,b∉[e,it]->s.heap.get? b=some o->h2.get? b=some o:=fun b o m q=>by
   have M:b≠e:=fun z=>m (by simp[z])
   have hb2:b≠it:=fun z=>m (by simp[z])
   exact(A.2 b M).trans (hk b o M hb2 q)
  have y:e<s.heap.objs.size:=Yp j;have L:it<s.heap.objs.size:=by obtain⟨_,x,_⟩:=g;exact Yp x
  have hTe:s.heap.objs.size≠e:=ZL y;have N:h2.get? s.heap.objs.size=some {cls:=.type "tuple",data:=.seq #[.int i s.toks,u]}:=(A.2 _ hTe).trans hT;have I2:Inv X pz σ (upd H s.heap.objs.size (.tup [.int (i:Nat),x])) {s with heap:=h2,toks:=s.toks+1}:=
   I.turnedLaid (t':=s.toks+1) S Q (Ym _) ⟨show 2<=sizeLine by decide,[.int i s.toks,u],.cons ⟨_,rfl⟩ (.cons ru .nil),⟨_,N,rfl,_,rfl⟩,_,N,rfl⟩
  have hn:H s.heap.objs.size=none:=I.hok.fresh (Ym _);refine⟨.ref s.heap.objs.size,_,I2,rfl,⟨_,x,hn,rfl,rfl,fun ys hy=>by rw[I.list_inj hy O];exact U⟩,⟨⟨_,by simpa using he2⟩,J.at fun o q=>(A.2 it (ZJ C)).trans q⟩,fun b m=>?_⟩;have B:b=e\/b=it:=by simpa using m
  rw[aU (by rcases B with rfl|rfl;exact Yy y;exact Yy L)];exact(Q b m).1
 done:=by intro X hP Y hK hc i pz s σ H E I Q l Z;subst hP Y hK;obtain⟨⟨f,j⟩,g⟩:=l;obtain⟨xs,O,U⟩:=Z;obtain⟨T,R,p,hz⟩:=I.list O;have hl:=R.length;exact wpAny_pyNext_enum_end (I.ok.hd hc) j g p.isList (by simp;omega) fun h' eb=>⟨rfl,I.turnedL (t':=s.toks) (fun b o m q=>eb b o (fun z=>m (by simp[z])) q) Q⟩
 self:=fun _ _ _ _ _ l h=>by
  obtain⟨⟨f,j⟩,_⟩:=l;exact wpAny_pyIter_enum j h
section
variable  {l:Expr}   
def GV(K:Kq)(ta:TA):TI:=fun c H R=>ta c H fun e b=>∃a,e=[.ref a]/\(∃x,SqL K b a x)/\R (Ite K a) b
def nF:bootBuiltins "enumerate"=some (.type "enumerate"):=by rfl
def B9(M:Gl X "enumerate")(L:X.mg "enumerate"=none)(O:PA X [l] ta)(E:StO l X:=by rfl):PI X (.Tuple elts kk tpos) (.Call (.Name "enumerate" p) [l] [] pos) (GV X.K ta):=by
 intro m s j H R I h;refine Call_ (ir I M L nF (Zi (thn (O pos m s j H _ I h) fun U c ⟨T,w,f,r1,y⟩=>?_) E rfl));obtain⟨a,e,⟨S,J⟩,q⟩:=y;subst e;obtain⟨u,rfl,x⟩:=fE r1;cases(show u=Value.ref a from x);obtain⟨B,Y,z,Z⟩:=f.list J;refine call_enumerate_list z.isList fun P o g C A=>?_;have Q:Inv X m j w {c with heap:=P }:=f.kept (t':=c.toks) A;refine wpAny_pyIter_enum o ?_;refine⟨c.heap.objs.size+1,[c.heap.objs.size+1,c.heap.objs.size],_,_,w,rfl,Q,wq a _ _ (ZL (Xv _)),⟨⟨_,o⟩,g⟩,fun b N=>?_,q⟩;have i:b=c.heap.objs.size+1\/b=c.heap.objs.size:=by simpa using N
 rcases i with rfl|rfl
 ·exact f.fpOk (Vg _) (f.hok.fresh (Vg _))
 ·exact f.fpOk (Ym _) (f.hok.fresh (Ym _))
def lU(ds:List D):List D:=ds.zipIdx.map fun x=>.tup [.int (x.2:Int),x.1]
def jd(f:Dd):DF->Option (List D):=fun a=>match f a with
 |some (.lst ds)=>some (lU ds)
 |_=>none
def xt{d:D}(h:(lU ds)[i]?=some d):∃a,ds[i]?=some a/\d=.tup [.int (i:Int),a]:=by
 unfold lU at h;rw[Yt,List.getElem?_zipIdx]at h;cases q:ds[i]? with
 |none=>rw[q]at h;cases h
 |some a=>rw[q]at h;cases h;exact⟨a,rfl,by simp⟩
def wl{F:Hp}{a:Addr}(h:SqL K F a vs)(r:Reps K F vs ds):ue K P (Ite K a) F (lU ds):=by intro B H e f i;have b:SqL K H a vs:=f.sub.seq (e.seq h);refine⟨fun d u=>?_,fun s=>⟨vs,b,by rw[r.length];simpa[lU]using s⟩⟩;obtain⟨z,c,rfl⟩:=xt u;obtain⟨v,g,w⟩:=r.get c;refine⟨⟨vs,v,b,g⟩,fun x A l=>?_⟩;obtain⟨q,y,p,rfl,rfl,m⟩:=l;have:=m vs b;rw[g]at this;cases this;have j:=Evo.laid f (o:=.tup [.int (i:Nat),v]) p;exact⟨_,j,.tup a8 (.cons .int (.cons ((w.same e).same j.ext) .nil))⟩
def rK(j:Gl X "enumerate")(i:X.mg "enumerate"=none)(h:PDE X l f)(b:StO l X:=by rfl):PDI X (.Tuple elts kk tpos) (.Call (.Name "enumerate" p) [l] [] pos) (jd f):=PI.imp (B9 j i (au h ba b) b) fun u H R ⟨P,F,c,w,a,I,k⟩=>by
 unfold jd at a;split at a
 ·rename_i m q;cases a;refine⟨P,F,c,_,q,I,fun v s o e g=>?_⟩;cases g with
  |lst h1 h2=>exact⟨_,rfl,⟨_,e.hp.sub.seq h1⟩,k _ s o e (wl h1 h2)⟩
 ·cases a
end
def Gy{t:Addr}{ys:Array Value}{y:Value}(a:s.heap.IsTupleIter it t i)(b:s.heap.IsTuple t ys)(c:ys[i]?=some y)
  (q:∀g,g.IsTupleIter it t (i+1)->Heap.SameBut it s.heap g->Q y {s with heap:=g}):wpAny (model prog w) A (Builtin.SmallTypes.nextOf (.ref it)) Q E s:=by
 have ty:=a.typeIs;obtain⟨u,f,o,e⟩:=a;obtain⟨v,l,p,m,j⟩:=b;unfold Builtin.SmallTypes.nextOf;refine Yc (Xe (name:=Str.ofString "__next__") ty PySem.F.slot_tuple_iterator_next (Xw PySem.F.slot_tuple_iterator_next ty PySem.F.entry_tuple_iterator_next ?_ (PySem.F.args_tuple_iterator_next_1 _)));refine Yc (m:=field (.ref it) 0) (ZR f e (x:=.ref t) rfl ?_);have h:¬((Value.ref t == Value.none)=true):=Yk;show wpAny _ _ (if(Value.ref t == Value.none)=true then _ else field (.ref it) 1>>=_) _ _ s;rw[Yl h];refine Yc (ZR f e (x:=.int i 0) rfl ?_);refine Yc (m:=seqItems? (.ref t)) (Xi l j ?_);simp only[Zh,c];refine Yc (wpAny_setField f e (by simp) (Yw ⟨y,rfl,Yw (q _ ⟨_,Heap.get?_update_self _ f (Obj.isFreed_of_fields (Obj.data_mapFields e _)),(Obj.cls_mapFields ..).trans o,?_⟩ (Heap.SameBut.update ..))⟩));rw[Obj.data_mapFields e];simp[rawInt]
def HV{t:Addr}{ys:Array Value}(hd:A.handled=none)(a:s.heap.IsTupleIter it t i)(b:s.heap.IsTuple t ys)(c:ys[i]?=none)
  (q:∀g x,Heap.ExtBut it s.heap g->(∃o,g.get? x=some o/\o.cls=.type "StopIteration")->E (.ref x) {s with heap:=g}):wpAny (model prog w) A (Builtin.SmallTypes.nextOf (.ref it)) Q E s:=by
 have ty:=a.typeIs;obtain⟨u,f,y,e⟩:=a;obtain⟨v,l,p,m,j⟩:=b;unfold Builtin.SmallTypes.nextOf;refine Yc (Xe (name:=Str.ofString "__next__") ty PySem.F.slot_tuple_iterator_next (Xw PySem.F.slot_tuple_iterator_next ty PySem.F.entry_tuple_iterator_next ?_ (PySem.F.args_tuple_iterator_next_1 _)));refine Yc (m:=field (.ref it) 0) (ZR f e (x:=.ref t) rfl ?_);have h:¬((Value.ref t == Value.none)=true):=Yk;show wpAny _ _ (if(Value.ref t == Value.none)=true then _ else field (.ref it) 1>>=_) _ _ s;rw[Yl h];refine Yc (ZR f e (x:=.int i 0) rfl ?_);refine Yc (m:=seqItems? (.ref t)) (Xi l j ?_);simp only[Zh,c];refine Yc (wpAny_rule (Yc (wpAny_setField f e (by simp) ?_)));refine Yc (m:=newExc (.type "StopIteration") []) ?_;simp only[newExc,newTuple];refine Yc (wpAny_newObj_type ?_ (by size_fits));refine Yc (m:=firstArgMember _ _) (wpAny_of_eq (a:=Value.none) (by first|rfl|(simp only[firstArgMember];rfl)) (wpAny_newObj_type ?_ (by size_fits)));simp only[raiseNew];refine Yc (wpAny_handled ?_);rw[show A.in1.handled=none from hd];refine Yc (Yw (wpAny_throw ?_));exact q _ _ (((Heap.SameBut.update ..).extBut.push _).push _) ⟨_,Yo _ rfl,rfl⟩
def SIt(b:Bool)(h:Heap)(it l:Addr)(i:Nat):Prop:=if b=true then h.IsListIter it l i else h.IsTupleIter it l i
def SSq(b:Bool)(h:Heap)(l:Addr)(ys:Array Value):Prop:=if b=true then h.IsList l ys else h.IsTuple l ys
def SIt.at{b:Bool}(x:SIt b h it l i)(e:∀o,h.get? it=some o->h'.get? it=some o):SIt b h' it l i:=by
 cases b
 ·exact Heap.IsTupleIter.at x e
 ·exact Heap.IsListIter.at x e
def SSq.at{b:Bool}{ys:Array Value}(x:SSq b h l ys)(e:∀o,h.get? l=some o->h'.get? l=some o):SSq b h' l ys:=by
 cases b
 ·exact Heap.IsTuple.at x e
 ·exact Heap.IsList.at x e
def SIt.obj{b:Bool}(x:SIt b h it l i):∃o,h.get? it=some o/\∀v,o.data≠.cell v:=by
 cases b
 ·obtain⟨o,e,_,d⟩:=(show h.IsTupleIter it l i from x);exact⟨o,e,fun v z=>by rw[d]at z;cases z⟩
 ·obtain⟨o,e,_,d⟩:=(show h.IsListIter it l i from x);exact⟨o,e,fun v z=>by rw[d]at z;cases z⟩
def CG{b:Bool}{ys:Array Value}{y:Value}(a:SIt b s.heap it l i)(c:SSq b s.heap l ys)(d:ys[i]?=some y)
  (q:∀g,SIt b g it l (i+1)->Heap.SameBut it s.heap g->Q y {s with heap:=g}):wpAny (model prog w) A (Builtin.SmallTypes.nextOf (.ref it)) Q E s:=by
 cases b
 ·exact Gy a c d q
 ·exact wpAny_nextOf_list_item a c d q
def Ht{b:Bool}{ys:Array Value}(hd:A.handled=none)(a:SIt b s.heap it l i)(c:SSq b s.heap l ys)(d:ys[i]?=none)
  (q:∀g x,Heap.ExtBut it s.heap g->(∃o,g.get? x=some o/\o.cls=.type "StopIteration")->E (.ref x) {s with heap:=g}):wpAny (model prog w) A (Builtin.SmallTypes.nextOf (.ref it)) Q E s:=by
 cases b
 ·exact HV hd a c d q
 ·exact wpAny_nextOf_list_end hd a c d q
def Bj{b1 b2:Bool}{z TI TO i1 i2:Addr}{k:Nat}{xs ys:Array Value}{x y a b:Value}(D:ZipApart z TI TO i1 i2 l1 l2)
  (hz:IsZip s.heap z TI TO .none) (S:IsPair s.heap TI (.ref i1) (.ref i2)) (R:IsPair s.heap TO a b) (h1:SIt b1 s.heap i1 l1 k) (h2:SIt b2 s.heap i2 l2 k) (q1:SSq b1 s.heap l1 xs) (q2:SSq b2 s.heap l2 ys)
  (hx:xs[k]?=some x) (hy:ys[k]?=some y)
  (hQ:∀g,IsZip g z TI TO (rawInt s.heap.objs.size)->IsPair g TO x y->SIt b1 g i1 l1 (k+1)->SIt b2 g i2 l2 (k+1)->IsPair g s.heap.objs.size x y->
   (∀c o,c∉[z,TO,i1,i2]->s.heap.get? c=some o->g.get? c=some o)->Q (.ref s.heap.objs.size) {s with heap:=g}) :
  wpAny (model prog w) A (Builtin.«zip.__next__» ⟨[.ref z],[]⟩) (fun fin s'=>∃v,fin=.done (.ret v)/\Q v s') E s:=by
 refine Yc (m:=field (.ref z) 2) (ZR hz rfl (x:=.bool false) rfl ?_);refine Yc (m:=field (.ref z) 3) (ZR hz rfl (x:=.ref TI) rfl ?_);refine Yc (Xi S rfl ?_);refine Yc (m:=Builtin.SmallTypes.ownedTupleIsFree (.ref z)) ?_;unfold Builtin.SmallTypes.ownedTupleIsFree;refine Yc (ZR hz rfl (x:=.none) rfl (Yw ?_));simp only[XC];refine Yc (wpAny_rule (Yc (ZR hz rfl (x:=.ref TO) rfl (Yc (Xm hz (by simp) fun ga J sa=>?_)))));have J:IsZip ga z TI TO .ellipsis:=J;have N:∀c o,c≠z->s.heap.get? c=some o->ga.get? c=some o:=fun c o n e=>sa.extBut _ _ n e
 refine Yc ?_;simp only[Xg,List.zipIdx_nil,List.forIn_cons,List.forIn_nil];refine Yc (Yc (wpAny_onRaise (Yc (m:=Builtin.SmallTypes.nextOf (.ref i1)) ?_)));refine CG (h1.at fun o e=>N _ o D.i1z e) (q1.at fun o e=>N _ o D.l1z e) hx fun gb ib L=>Yw ?_;have kb:∀c o,c≠z->c≠i1->s.heap.get? c=some o->gb.get? c=some o:=fun c o n m e=>L.extBut _ _ m (N c o n e)
 have Y:IsPair gb TO a b:=kb _ _ D.TOz D.TOi1 R;refine Yc (Xi Y rfl (Yc (wpAny_updateSeq_pair Y fun gc K C=>?_)));have K:IsPair gc TO x b:=K;have M:∀c o,c≠z->c≠i1->c≠TO->s.heap.get? c=some o->gc.get? c=some o:=fun c o n m l e=>C.extBut _ _ l (kb c o n m e)
 refine Yc (wpAny_letGo (Yw ?_));refine Yc (Yc (wpAny_onRaise (Yc (m:=Builtin.SmallTypes.nextOf (.ref i2)) ?_)));refine CG (h2.at fun o e=>M _ o D.i2z D.i12.symm D.TOi2.symm e) (q2.at fun o e=>M _ o D.l2z D.l2i1 D.l2TO e) hy fun gd O j=>Yw ?_;have X:IsPair gd TO x b:=j.extBut _ _ D.TOi2 K;refine Yc (Xi X rfl (Yc (wpAny_updateSeq_pair X fun f B i=>?_)));have B:IsPair f TO x y:=B;have ke:∀c o,c≠z->c≠i1->c≠TO->c≠i2->s.heap.get? c=some o->f.get? c=some o:=fun c o n m l r e=>i.extBut _ _ l (j.extBut _ _ r (M c o n m l e))
 refine Yc (wpAny_letGo (Yw (Yw ?_)));refine Yc (Xi B rfl (Yc (wpAny_newTuple ?_)));have P:f.objs.size=s.heap.objs.size:=by rw[i.1,j.1,C.1,L.1,sa.1]
 have T:IsZip f z TI TO .ellipsis:=i.extBut _ _ D.TOz.symm (j.extBut _ _ D.i2z.symm (C.extBut _ _ D.TOz.symm (L.extBut _ _ D.i1z.symm J)));have ie:SIt b1 f i1 l1 (k+1):=ib.at fun o e=>i.extBut _ _ D.TOi1.symm (j.extBut _ _ D.i12 (C.extBut _ _ D.TOi1.symm e))
 have je:SIt b2 f i2 l2 (k+1):=O.at fun o e=>i.extBut _ _ D.TOi2.symm e
 have h:z<f.objs.size:=Yp T;refine Yc (m:=Builtin.SmallTypes.ownedTupleHandOut (.ref z) (.ref f.objs.size)) ?_;unfold Builtin.SmallTypes.ownedTupleHandOut;have zf:IsZip (f.push {cls:=.type "tuple",data:=.seq #[x,y]}) z TI TO .ellipsis:=Ye _ T;refine Yc (Xm zf (by simp) fun gg I sg=>?_);have I:IsZip gg z TI TO (rawInt f.objs.size):=I;refine Xm I (by simp) fun H q Z=>Yw ⟨_,rfl,?_⟩;have q:IsZip H z TI TO (rawInt f.objs.size):=q;have u:∀c o,c≠z->f.get? c=some o->H.get? c=some o:=fun c o n e=>Z.extBut _ _ n (sg.extBut _ _ n (Ye _ e))
 have U:IsPair H f.objs.size x y:=Z.extBut _ _ (ZL h) (sg.extBut _ _ (ZL h) (Yo _ rfl));show Q (.ref f.objs.size) _;rw[P]at q U ⊢;exact hQ H q (u _ _ D.TOz B) (ie.at fun o e=>u _ o D.i1z e) (je.at fun o e=>u _ o D.i2z e) U fun c o p e=>u c o (fun z=>p (by simp[z])) (ke c o (fun z=>p (by simp[z])) (fun z=>p (by simp[z])) (fun z=>p (by simp[z])) (fun z=>p (by simp[z])) e)
def Dr{b1 b2:Bool}{z TI TO i1 i2:Addr}{k:Nat}{xs ys:Array Value}{a b:Value}{Q:Fin->Shared->Prop}(L:A.handled=none)(D:ZipApart z TI TO i1 i2 l1 l2)
  (hz:IsZip s.heap z TI TO .none) (p:IsPair s.heap TI (.ref i1) (.ref i2)) (M:IsPair s.heap TO a b) (h1:SIt b1 s.heap i1 l1 k) (h2:SIt b2 s.heap i2 l2 k) (q1:SSq b1 s.heap l1 xs) (R:SSq b2 s.heap l2 ys)
  (h:xs[k]?=none)
  (N:∀g e,(∀c o,c∉[z,TO,i1,i2]->s.heap.get? c=some o->g.get? c=some o)->(∃o,g.get? e=some o/\o.cls=.type "StopIteration")->E (.ref e) {s with heap:=g}) :
  wpAny (model prog w) A (Builtin.«zip.__next__» ⟨[.ref z],[]⟩) Q E s:=by
 refine Yc (m:=field (.ref z) 2) (ZR hz rfl (x:=.bool false) rfl ?_);refine Yc (m:=field (.ref z) 3) (ZR hz rfl (x:=.ref TI) rfl ?_);refine Yc (Xi p rfl ?_);refine Yc (m:=Builtin.SmallTypes.ownedTupleIsFree (.ref z)) ?_;unfold Builtin.SmallTypes.ownedTupleIsFree;refine Yc (ZR hz rfl (x:=.none) rfl (Yw ?_));simp only[XC];refine Yc (wpAny_rule (Yc (ZR hz rfl (x:=.ref TO) rfl (Yc (Xm hz (by simp) fun H f J=>?_)))));have f:IsZip H z TI TO .ellipsis:=f;have i:∀c o,c≠z->s.heap.get? c=some o->H.get? c=some o:=fun c o n e=>J.extBut _ _ n e
 refine Yc ?_;simp only[Xg,List.zipIdx_nil,List.forIn_cons,List.forIn_nil];refine Yc (Yc (wpAny_onRaise (Yc (m:=Builtin.SmallTypes.nextOf (.ref i1)) ?_)));refine Ht L (h1.at fun o e=>i _ o D.i1z e) (q1.at fun o e=>i _ o D.l1z e) h fun P e C ⟨K,u,I⟩=>?_;have y:IsZip P z TI TO .ellipsis:=C _ _ D.i1z.symm f;have j:e≠z:=fun q=>by subst q;rw[y]at u;cases u;simp at I
 exact Xm y (by simp) fun O _ B=>N O e (fun c o l q=>B.extBut _ _ (fun z=>l (by simp[z])) (C _ _ (fun z=>l (by simp[z])) (i c o (fun z=>l (by simp[z])) q))) ⟨K,B.extBut _ _ j u,I⟩
abbrev zT1(h:Heap)(a:Addr):Heap:=h.push {cls:=.type "tuple_iterator",data:=.fields #[.ref a,.int 0 0]}
abbrev zT2(h:Heap)(a b:Addr):Heap:=zT1 (zT1 h a) b
abbrev zT3(h:Heap)(a b:Addr):Heap:=(zT2 h a b).push {cls:=.type "tuple",data:=.seq #[.ref h.objs.size,.ref (zT1 h a).objs.size]}
abbrev zT4(h:Heap)(a b:Addr):Heap:=(zT3 h a b).push {cls:=.type "tuple",data:=.seq #[.none,.none]}
abbrev zT5(h:Heap)(a b:Addr):Heap:=(zT4 h a b).push {cls:=.type "zip",data:=.fields #[.none,.bool false,.bool false,.ref (zT2 h a b).objs.size,.ref (zT3 h a b).objs.size]}
def wG(a b:Addr)(xs ys:Array Value):Meets (Builtin.«zip.__new__» ⟨[.type "zip",.ref a,.ref b],[]⟩) (fun _ R s=>s.heap.IsTuple a xs/\s.heap.IsTuple b ys/\R (.ok (.ret (.ref (zT4 s.heap a b).objs.size))) {s with heap:=zT5 s.heap a b}):=
 .of_wp fun p w A R s h=>by
  obtain⟨f,g,d,c,o⟩:=s;obtain⟨m,l,h⟩:=h;have e:=sub_zip;have j:Heap.IsTuple (Shared.heap ⟨f,g,d,c,o⟩) a xs:=m;have i:Heap.IsTuple (Shared.heap ⟨zT1 f a,g,d,c,o⟩) b ys:=Heap.IsTuple.push l _
  wp_walk using wpAny_pyIter_tuple j,wpAny_pyIter_tuple i
  exact⟨_,rfl,h⟩
def AT{b:Bool}{xs ys:Array Value}(q1:SSq b s.heap l1 xs)(q:SSq b s.heap l2 ys)
  (h:∀g,IsZip g (s.heap.objs.size+4) (s.heap.objs.size+2) (s.heap.objs.size+3) .none->IsPair g (s.heap.objs.size+2) (.ref s.heap.objs.size) (.ref (s.heap.objs.size+1))->
   IsPair g (s.heap.objs.size+3) .none .none->SIt b g s.heap.objs.size l1 0->SIt b g (s.heap.objs.size+1) l2 0->
   (∀c o,s.heap.get? c=some o->g.get? c=some o)->Q (.ref (s.heap.objs.size+4)) {s with heap:=g}) :
  wpAny (model prog w) A (call (.type "zip") [.ref l1,.ref l2]) Q E s:=by
 cases b with
 |true=>exact call_zip_2 q1 q fun g J I H C B _ y=>h g J I H C B y
 |false=>
  refine callType_new PySem.F.called_zip (by decide) (PySem.F.typeCall_zip_2 _ _) (PySem.F.newCall_zip_2 _ _) (fun obj=>PySem.F.args_object_init_3 obj _ _) PySem.F.entry_zip_new (wG l1 l2 xs ys) ⟨q1,q,?_⟩;have f:(zT1 s.heap l1).objs.size=s.heap.objs.size+1:=ZM ..;have a:(zT2 s.heap l1 l2).objs.size=s.heap.objs.size+2:=by rw[ZM,f]
  have z:(zT3 s.heap l1 l2).objs.size=s.heap.objs.size+3:=by rw[ZM,a]
  have j:(zT4 s.heap l1 l2).objs.size=s.heap.objs.size+4:=by rw[ZM,z]
  have u:=fun{c o} (e:s.heap.get? c=some o)=>(Ye _ (Ye _ (Ye _ (Ye _ (Ye _ e)))):(zT5 s.heap l1 l2).get? c=some o)
  have i:(zT5 s.heap l1 l2).get? (zT4 s.heap l1 l2).objs.size=some _:=Yo _ rfl;have l:(zT5 s.heap l1 l2).get? (zT3 s.heap l1 l2).objs.size=some _:=Ye _ (Yo _ rfl);have m:(zT5 s.heap l1 l2).get? (zT2 s.heap l1 l2).objs.size=some _:=Ye _ (Ye _ (Yo _ rfl));have p:(zT5 s.heap l1 l2).get? (zT1 s.heap l1).objs.size=some _:=Ye _ (Ye _ (Ye _ (Yo _ rfl)));have x:(zT5 s.heap l1 l2).get? s.heap.objs.size=some _:=Ye _ (Ye _ (Ye _ (Ye _ (Yo _ rfl))));show _/\_;rw[a,z,j]at i;rw[f,a]at m;rw[z]at l;rw[f]at p;rw[j];exact⟨⟨_,i,rfl⟩,h _ i m l (show Heap.IsTupleIter _ _ _ _ from⟨_,x,rfl,rfl⟩) (show Heap.IsTupleIter _ _ _ _ from⟨_,p,rfl,rfl⟩) fun c o e=>u e⟩
def SqB(b:Bool)(K:Kq)(H:Hp)(a:Addr)(xs:List V):Prop:=if b=true then SqL K H a xs else SqT K H a xs
def Itz(b:Bool)(K:Kq)(f e:Addr):It:=
  ⟨fun i H=>∃a c x y,SqB b K H f a/\SqB b K H e c/\a[i]?=some x/\c[i]?=some y,
   fun i H u g=>∃p x y,H p=none/\u=.ref p/\g=upd H p (.tup [x,y])/\(∀a,SqB b K H f a->a[i]?=some x)/\∀c,SqB b K H e c->c[i]?=some y,
   fun i H=>∃a c,SqB b K H f a/\SqB b K H e c/\a.length<=i⟩
def Inv.sqB{b:Bool}{a:Addr}{xs:List V}(I:Inv X pz σ H s)(h:SqB b X.K H a xs):∃its:List Value,Vals xs its/\SSq b s.heap a its.toArray:=by
 cases b with
 |true=>obtain⟨its,c,p,_⟩:=I.list h;exact⟨its,c,p.isList⟩
 |false=>obtain⟨its,c,p,_⟩:=I.tuple h;exact⟨its,c,p⟩
def Inv.sqB_inj{b:Bool}{a:Addr}{xs:List V}(I:Inv X pz σ H s)(h:SqB b X.K H a xs)(h':SqB b X.K H a ys):xs=ys:=by
 cases b with
 |true=>exact I.list_inj h h'
 |false=>exact I.tuple_inj h h'
def Rd.no{a:Addr}{o:HO}(h:Rd H a o)(n:H a=none):False:=by
 rcases h with h|⟨u,h⟩
 ·rw[n]at h;cases h
 ·rw[n]at h;cases h
def Inv.sq_out{b:Bool}{a c:Addr}{w:List V}(I:Inv X pz σ H s)(g:i5 X pz H c)(h:SqB b X.K H a w):a≠c:=by
 intro e;subst e;have i:∀o,X.K.lookup a=some o->False:=fun o f=>by
  have j:X.base.get? a=some o:=I.mod.kin a o f;rcases g.2.2.2.1 with z|z
  ·exact I.ok.noex a o j z
  ·exact absurd (Ys (Yp (I.ok.bs a o j).1) z) (Zd _)
 cases b with
 |true=>
  rcases(show SqL X.K H a w from h)with h|⟨o,its,n,f,_⟩
  ·exact h.no g.1
  ·exact i o f
 |false=>
  rcases(show SqT X.K H a w from h)with h|⟨o,its,n,f,_⟩
  ·exact h.no g.1
  ·exact i o f
def zA{P:Program}{b:Bool}(z TI TO i1 i2 a1 Z:Addr)(D:∀l1 l2:Addr,l1∉[z,TO,i1,i2]->l2∉[z,TO,i1,i2]->ZipApart z TI TO i1 i2 l1 l2) :
  Turn P w K (.Tuple elts kk pos) (Itz b K a1 Z) [z,TI,TO,i1,i2] z (fun i h=>IsZip h z TI TO .none/\IsPair h TI (.ref i1) (.ref i2)/\(∃u v,IsPair h TO u v)/\SIt b h i1 a1 i/\SIt b h i2 Z i) where
 mem:=by simp
 obj:=fun i h A c l=>by
  obtain⟨J,C,⟨u,v,h3⟩,h4,h5⟩:=A;have O:c=z\/c=TI\/c=TO\/c=i1\/c=i2:=by simpa using l
  rcases O with rfl|rfl|rfl|rfl|rfl
  ·exact⟨_,J,fun v z=>by cases z⟩
  ·exact⟨_,C,fun v z=>by cases z⟩
  ·exact⟨_,h3,fun v z=>by cases z⟩
  ·exact h4.obj
  ·exact h5.obj
 keep:=fun i h h' A k=>by
  obtain⟨J,C,⟨u,v,h3⟩,h4,h5⟩:=A;exact⟨k z (by simp) _ J,k TI (by simp) _ C,⟨u,v,k TO (by simp) _ h3⟩,h4.at fun o e=>k i1 (by simp) o e,h5.at fun o e=>k i2 (by simp) o e⟩
 item:=by
  intro X hP hw hK l i pz s σ H E I Y A hg;subst hP hw hK;obtain⟨U,m,⟨u,v,B⟩,J,C⟩:=A;obtain⟨xs,ys,x,y,S,R,ex,ey⟩:=hg;obtain⟨itx,rx,px⟩:=I.sqB S;obtain⟨ity,ry,py⟩:=I.sqB R;obtain⟨ux,hux,rux⟩:=rx.get ex;obtain⟨uy,huy,ruy⟩:=ry.get ey;have f:∀a (L:List V),SqB b X.K H a L->a∉[z,TO,i1,i2]:=by
   intro a L hq hm;have N:a∈[z,TI,TO,i1,i2]:=by simp at hm ⊢;rcases hm with q|q|q|q<;>simp[q]
   exact I.sq_out (Y a N) hq rfl
  have p:=D a1 Z (f a1 xs S) (f Z ys R);have hT:s.TypeIs (.ref z) "zip":=⟨_,U,rfl⟩
  unfold pyNext;refine Yc (wpAny_attempt (Xe (name:=Str.ofString "__next__") hT PySem.F.slot_zip_next (Xw PySem.F.slot_zip_next hT PySem.F.entry_zip_next
   (Bj p U m B J C px py (x:=ux) (y:=uy) (by simpa using hux) (by simpa using huy) fun g gz gTO g1 g2 gT gk=>Yw ?_) (PySem.F.args_zip_next_1 _))))
  refine⟨_,rfl,wpAny_letOwnedTupleGo_zip gz fun Q hz2 j=>?_⟩;have zlt:z<s.heap.objs.size:=Yp U;have hTz:s.heap.objs.size≠z:=ZL zlt;have kk2:∀c o,c∉[z,TI,TO,i1,i2]->s.heap.get? c=some o->Q.get? c=some o:=fun c o l e=>(j.2 c (fun q=>l (by simp[q]))).trans (gk c o (fun q=>l (by simp at q ⊢;rcases q with q|q|q|q<;>simp[q])) e)
  have hT2:IsPair Q s.heap.objs.size ux uy:=(j.2 _ hTz).trans gT;have I2:Inv X pz σ (upd H s.heap.objs.size (.tup [x,y])) {s with heap:=Q }:=
   I.turnedLaid (t':=s.toks) kk2 Y (Ym _) ⟨show 2<=sizeLine by decide,[ux,uy],.cons rux (.cons ruy .nil),⟨_,hT2,rfl,_,rfl⟩,_,hT2,rfl⟩
  have hn:H s.heap.objs.size=none:=I.hok.fresh (Ym _);refine⟨.ref s.heap.objs.size,_,I2,rfl,⟨_,x,y,hn,rfl,rfl,fun L M=>by rw[I.sqB_inj M S];exact ex,fun L M=>by rw[I.sqB_inj M R];exact ey⟩,⟨hz2,(j.2 _ p.TIz).trans (gk _ _ (by simp[p.TIz,p.TITO,p.TIi1,p.TIi2]) m),⟨_,_,(j.2 _ p.TOz).trans gTO⟩,g1.at fun o e=>(j.2 _ p.i1z).trans e,g2.at fun o e=>(j.2 _ p.i2z).trans e⟩,fun c l=>?_⟩;have hlt:c<s.heap.objs.size:=by
   have O:c=z\/c=TI\/c=TO\/c=i1\/c=i2:=by simpa using l
   rcases O with rfl|rfl|rfl|rfl|rfl
   ·exact zlt
   ·exact Yp m
   ·exact Yp B
   ·obtain⟨o,e,_⟩:=J.obj;exact Yp e
   ·obtain⟨o,e,_⟩:=C.obj;exact Yp e
  rw[aU (Yy hlt)];exact(Y c l).1
 done:=by
  intro X hP hw hK l i pz s σ H E I Y A hg;subst hP hw hK;obtain⟨U,m,⟨u,v,B⟩,J,C⟩:=A;obtain⟨xs,ys,S,R,hl⟩:=hg;obtain⟨itx,rx,px⟩:=I.sqB S;obtain⟨ity,ry,py⟩:=I.sqB R;have f:∀a (L:List V),SqB b X.K H a L->a∉[z,TO,i1,i2]:=by
   intro a L hq hm;have N:a∈[z,TI,TO,i1,i2]:=by simp at hm ⊢;rcases hm with q|q|q|q<;>simp[q]
   exact I.sq_out (Y a N) hq rfl
  have p:=D a1 Z (f a1 xs S) (f Z ys R);have hT:s.TypeIs (.ref z) "zip":=⟨_,U,rfl⟩
  have hlen:=rx.length;unfold pyNext;refine Yc (wpAny_attempt (Xe (name:=Str.ofString "__next__") hT PySem.F.slot_zip_next (Xw PySem.F.slot_zip_next hT PySem.F.entry_zip_next
   (Dr (I.ok.hd l) p U m B J C px py (by simp;omega) fun g e gk ⟨o,e1,e2⟩=>?_) (PySem.F.args_zip_next_1 _))))
  refine Yc (wpAny_isInstance (T := "StopIteration") (b:=true) ⟨o,e1,e2⟩ isSubtype_stop (Yw ⟨rfl,?_⟩));exact I.turnedL (t':=s.toks) (fun c o l e=>gk c o (fun q=>l (by simp at q ⊢;rcases q with q|q|q|q<;>simp[q])) e) Y
 self:=fun _ _ _ _ _ A h=>wpAny_pyIter_zip A.1 h
def Ie(K:Kq)(ta:TA):TI:=fun f H R=>ta f H fun g e=>∃b c a,g=[.ref c,.ref a]/\(∃x,SqB b K e c x)/\(∃y,SqB b K e a y)/\R (Itz b K c a) e
def yR:bootBuiltins "zip"=some (.type "zip"):=by rfl
def E7(hg:Gl X "zip")(hm:X.mg "zip"=none)(ha:PA X [e1,e2] ta)(hs:starEach [e1,e2] X.env=[(false,eval e1 X.env),(false,eval e2 X.env)]:=by rfl)(c:starEach [e2] X.env=[(false,eval e2 X.env)]:=by rfl):PI X (.Tuple elts kk tpos) (.Call (.Name "zip" p) [e1,e2] [] pos) (Ie X.K ta):=by
 intro u s o H R I h;refine Call_ (ir I hg hm yR (Zi (thn (ha pos u s o H _ I h) fun us a ⟨vs,y,i,r1,E⟩=>?_) (by rw[hs,c]) (by rw[c];rfl)));obtain⟨b,a1,a2,e,⟨xs,C⟩,⟨ys,B⟩,q⟩:=E;subst e;cases r1 with
 |cons A j=>
 cases j with
 |cons z j=>
 cases j;cases A;cases z;obtain⟨itx,rx,L⟩:=i.sqB C;obtain⟨Z,ry,J⟩:=i.sqB B;refine AT L J fun g x m l g1 g2 Y=>?_;have I2:Inv X u o y {a with heap:=g}:=i.kept (t':=a.toks) Y;refine wpAny_pyIter_zip x ?_;refine⟨a.heap.objs.size+4,[a.heap.objs.size+4,a.heap.objs.size+2,a.heap.objs.size+3,a.heap.objs.size,a.heap.objs.size+1],_,_,y,rfl,I2,zA _ _ _ _ _ a1 a2 (fun l1 l2 n1 n2=>?_),⟨x,m,⟨_,_,l⟩,g1,g2⟩,fun b w=>?_,q⟩
 ·simp only[YH,List.not_mem_nil,or_false,not_or]at n1 n2;obtain⟨U,T,S,Q⟩:=n1;obtain⟨P,O,N,M⟩:=n2;constructor<;>first|assumption|exact Yy (by omega)|exact ZL (by omega)
 ·have f:a.heap.objs.size<=b:=by simp only[YH,List.not_mem_nil,or_false]at w;rcases w with rfl|rfl|rfl|rfl|rfl<;>first|exact Ym _|exact Nat.le_add_right _ _
  exact i.fpOk f (i.hok.fresh f)
def oH(as bs:List D):List D:=(as.zip bs).map fun x=>.tup [x.1,x.2]
def tw(f g:Dd):DF->Option (List D):=fun a=>match f a,g a with
 |some (.lst as),some (.lst bs)=>if as.length=bs.length then some (oH as bs)else none
 |some (.tup as),some (.tup bs)=>if as.length=bs.length then some (oH as bs)else none
 |_,_=>none
def sP{bs:List D}{d:D}(h:(oH as bs)[i]?=some d):∃x y,as[i]?=some x/\bs[i]?=some y/\d=.tup [x,y]:=by
 unfold oH at h;rw[Yt]at h;cases q:(as.zip bs)[i]? with
 |none=>rw[q]at h;cases h
 |some z=>
  rw[q]at h;cases h;obtain⟨b,a⟩:=List.getElem?_zip_eq_some.mp q;exact⟨z.1,z.2,b,a,rfl⟩
def tW{F:Hp}{b:Bool}{p m:Addr}{us:List V}{bs:List D}(h1:∀F' H',Same F F'->DHp P F' H'->SqB b K H' p vs)(h2:∀F' H',Same F F'->DHp P F' H'->SqB b K H' m us)(r1:Reps K F vs as)(r2:Reps K F us bs)(I:as.length=bs.length):ue K P (Itz b K p m) F (oH as bs):=by intro F' H' e h i;refine⟨fun d J=>?_,fun c=>⟨vs,us,h1 F' H' e h,h2 F' H' e h,by rw[r1.length];simpa[oH,I]using c⟩⟩;obtain⟨x,y,B,A,rfl⟩:=sP J;obtain⟨v,l,z⟩:=r1.get B;obtain⟨u,j,s⟩:=r2.get A;refine⟨⟨vs,us,v,u,h1 F' H' e h,h2 F' H' e h,l,j⟩,fun w N a=>?_⟩;obtain⟨q,L,M,H,rfl,rfl,C,E⟩:=a;have t1:=C vs (h1 F' H' e h);have g:=E us (h2 F' H' e h);rw[l]at t1;cases t1;rw[j]at g;cases g;have f:=Evo.laid h (o:=.tup [v,u]) H;exact⟨_,f,.tup a8 (.cons ((z.same e).same f.ext) (.cons ((s.same e).same f.ext) .nil))⟩
def Cd{g:Dd}(E:Gl X "zip")(C:X.mg "zip"=none)(h1:PDE X e1 f)(h2:PDE X e2 g)(B:starEach [e1,e2] X.env=[(false,eval e1 X.env),(false,eval e2 X.env)]:=by rfl)(c:starEach [e2] X.env=[(false,eval e2 X.env)]:=by rfl):PDI X (.Tuple elts kk tpos) (.Call (.Name "zip" p) [e1,e2] [] pos) (tw f g):=
 PI.imp (E7 E C (au h1 (au h2 ba c) (by rw[B,c])) B c) fun L H R ⟨P,F,j,M,h,I,k⟩=>by
  unfold tw at h;split at h
  ·rename_i J bs o q;split at h
   ·rename_i s;cases h;refine⟨P,F,j,_,o,I,fun v z K b l=>⟨P,z,j,_,q,I.evo b,fun u y w a m=>?_⟩⟩;cases l with
    |lst x1 x2=>
     cases m with
     |lst y1 y2=>
      refine⟨true,_,_,rfl,⟨_,a.hp.sub.seq (a.ext.seq x1)⟩,⟨_,a.hp.sub.seq y1⟩,k _ y w (b.trans a) (tW (fun A x e i=>i.sub.seq (e.seq (a.ext.seq x1))) (fun A x e i=>i.sub.seq (e.seq y1)) (x2.same a.ext) y2 s)⟩
   ·cases h
  ·rename_i J bs o q;split at h
   ·rename_i s;cases h;refine⟨P,F,j,_,o,I,fun v z K b l=>⟨P,z,j,_,q,I.evo b,fun u y w a m=>?_⟩⟩;cases l with
    |tup x1 x2=>
     cases m with
     |tup y1 y2=>
      refine⟨false,_,_,rfl,⟨_,SqT.of (a.hp.sub _ _ (a.ext _ _ x1))⟩,⟨_,SqT.of (a.hp.sub _ _ y1)⟩,k _ y w (b.trans a) (tW (fun A x e i=>SqT.of (i.sub _ _ (e _ _ (a.ext _ _ x1)))) (fun A x e i=>SqT.of (i.sub _ _ (e _ _ y1))) (x2.same a.ext) y2 s)⟩
   ·cases h
  ·cases h
end L2
namespace L2
open PySem PySem.Spec PySem.Calls PySem.W PyProof.Rows Builtin Builtin.ObjectAttr Builtin.Getset_descriptor
def ExAt(e C:Addr)(h:Heap):Prop:=∃o,h.get? e=some o/\o.cls=.ref C
def ExAt.type{M:Model}{e:Addr}(x:ExAt e C h):Looks M h (typeOf (.ref e)) (.ref C):=by obtain⟨o,b,a⟩:=x;exact a ▸ (Looks.ld b).andThen .now
structure ExC (K:PySem.W.Frag) (C:Addr):Prop where
 ga:findIn K (.ref C) "__getattribute__"=some (some (.builtin sBg))
 noga:findIn K (.ref C) "__getattr__"=some none
 ha:findIn K (.ref C) "__class__"=some (some (.builtin sOc))
 hn:specialIn K (.builtin sOc) "__get__"=some (some (.builtin sGd))
 htk:takesIn K (.builtin sOc)=some true
 hm:mroIn K C (.type "object")=some true
 hb:mroIn K C (.type "BaseException")=some true
section
variable  {e:Addr}     
def AW{M:Model}(X:K.In h)(x:ExC K C):Looks M h (find (.ref e) (.ref C) "__class__") (.bind (.builtin sGd) (.builtin sOc)):=by have b:=looks_findIn (M:=M) X x.ha;have a:Looks M h (getOf (some (.builtin sOc))) (some (.builtin sGd)):=looks_specialIn X x.hn;have L:=looks_takesIn (M:=M) X x.htk;refine b.andThen (a.andThen ?_);exact(show Looks M h (dataDescriptor? (some (.builtin sOc)) (some (.builtin sGd))) (some (.builtin sGd,.builtin sOc))from L.andThen .now).andThen (Looks.tag .now)
def DD{R:Kr}{a:Value}(X:K.In s.heap)(x:ExC K C)(I:ExAt e C s.heap)(h:R (.ok (.ret (.ref C))) s) :
  codeAny (model prog w) A (.call (.builtin sGd) ⟨[.builtin sOc,.ref e,a],[]⟩) R s:=by
 obtain⟨c,g,f,t,o⟩:=s;have i:=I.type (M:=model prog w);have L:=looks_mroIn (M:=model prog w) X x.hm;refine Va KF.slot_gs.plain KF.entry_gs ?_;refine KF.slot_gs.check _ _ _ _ _ _ _ _ KF.type_class (KF.args_gs _ _ _) ?_
 (unfold Builtin.«getset_descriptor.__get__» descrGet;rw[dga_obj];refine Yc (Yw ?_))
 (unfold descrGetter descrCheckInstance descrNameAndClass isInstance;simp only[KF.owner_class];repeat lk)
 have b:Code.quiet (.builtin sOc ⟨[.ref e],[]⟩)=true:=Code.quiet_builtin _ (by decide+kernel)
 (refine⟨b,ZP KF.entry_class ?_⟩;unfold Builtin.«object.__class__» shownTypeOf;repeat lk)
 exact h
def zT{a:Value}{M:Model}{Q:Unit->Shared->Prop}(X:K.In s.heap)(x:ExC K C)(I:ExAt e C s.heap)(b:Q () s):wpAny M A (checkBuiltinCall "BaseException.__getattribute__" ⟨[.ref e,a],[]⟩) Q E s:=by
 have c:builtinKind "BaseException.__getattribute__"=some .slot:=by decide+kernel
 have h:splitId "BaseException.__getattribute__"=some ("BaseException","__getattribute__"):=by decide+kernel
 have j:=PySem.F.args_bexc_ga (.ref e) a;obtain⟨i,g,l,t,o⟩:=s;have f:=I.type (M:=M);have L:=looks_mroIn (M:=M) X x.hb;simp only[checkBuiltinCall,c,h];refine Yc ?_
 ·unfold isInstance;refine Yc (f.at (L.at ?_))
  repeat (first|wp_step)
  exact b
def Ad{tk:Tok}{Q:Fin->Shared->Prop}(X:K.In s.heap)(x:ExC K C)(I:ExAt e C s.heap)(h:Q (.done (.ret (.ref C))) s) :
  wpAny (model prog w) A (Builtin.«object.__getattribute__» ⟨[.ref e,.str "__class__" tk],[]⟩) Q E s:=by
 obtain⟨a,g,d,t,o⟩:=s;have b:=I.type (M:=model prog w);have L:=AW (e:=e) (M:=model prog w) X x;refine Yc (Yw (Yc (Yw (Yc (b.at (Yc (L.at ?_)))))));show wpAny _ _ (holding [_] (call _ [_,.ref e,.ref C])>>=ret) _ _ _;exact Yc (ZK (Vo (DD (s:=⟨a,g,d,t,o⟩) X x I (Yw h))))
def yU(s:Value):bindSpecial (.builtin sBg) s=pure (.builtin sBg,[s]):=by
 have b:builtinKind "BaseException.__getattribute__"=some .slot:=by decide+kernel
 have a:withoutEnding? "BaseException.__getattribute__" "#opaque"=none:=by decide+kernel
 have h:withoutEnding? "BaseException.__getattribute__" "#data"=none:=by decide+kernel
 simp only[bindSpecial,typeOf,builtinType,a,h,b];rfl
def Fm{tk:Tok}{f a:Bool}(X:K.In s.heap)(x:ExC K C)(I:ExAt e C s.heap)(j:Q (.ref C) s) :
  wpAny (model prog w) A (getAttrBy (.ref e) (.str "__class__" tk) f a) Q E s:=by
 obtain⟨i,g,d,t,o⟩:=s;have m:=I.type (M:=model prog w);have l:=looks_findIn (M:=model prog w) X x.ga;have L:=looks_findIn (M:=model prog w) X x.noga;have c:(a&&onTheHeap (Value.builtin sBg))=false:=by cases a<;>rfl
 have h:(Value.builtin sBg == Value.builtin "object.__getattribute__")=false:=by decide+kernel
 have b:(onTheHeap (Value.ref C)&&Value.builtin sBg == Value.builtin "object.__getattribute__")=false:=by rw[h];rfl
 unfold getAttrBy;refine ZK (Yc (m.at (Yc (l.at ?_))));dsimp only;rw[b,Yl Yk];unfold getAttrByItsOwn;refine Yc ?_;show wpAny _ _ (typeLookup (.ref C) "__getattr__") _ _ _;refine L.at (Yc (wpAny_attempt (ZK ?_)))
 unfold callGetattribute boundAndCalled;rw[c,Yl Yk,yU];refine Yc (Yw ?_);refine Vo (Va (by decide+kernel) PySem.F.entry_bexc_ga (zT (s:=⟨i,g,d,t,o⟩) X x I (Ad (s:=⟨i,g,d,t,o⟩) X x I ?_)));show wpAny _ _ (handedOut (.ref C)) _ _ _;exact Yw j
def F6{Q:Ko}(X:K.In s.heap)(x:ExC K C)(I:ExAt e C s.heap)(h:Q (some (.ref C)) {s with toks:=s.toks+1}):wpAny (model prog w) A (getAttr? (.ref e) "__class__") Q E s:=by obtain⟨a,g,d,t,o⟩:=s;unfold getAttr? getAttrBy?;refine Yc (wpAny_mkText (Yc (wpAny_attempt ?_)));exact Fm (s:=⟨a,g,d,t+1,o⟩) X x I (Yw h)
def tF(x:ExC K C):KitX K (.ref e) (.ref C) (ExAt e C) where
 ty:=fun _ _ _ p=>p.type
 it:=fun _ _ X _=>by
  obtain⟨m,a,b⟩:=Option.bind_eq_some_iff.mp x.hm;unfold clsIn at a;split at a
  ·rename_i o l g s f;intro A Q E w k q;unfold isType loadHead;exact Yc (wpAny_loadPart (k _ _ (X _ _ f)) (Yw q))
  ·cases a
 ne:=fun h i y j n u X c=>by
  obtain⟨m,a,b⟩:=Option.bind_eq_some_iff.mp x.hm;refine XO.mpr fun q=>?_;have e:C=i:=Value.ref.inj (Zz.mp q);subst e;unfold clsIn at a;split at a
  ·rename_i o l g s f;rw[X _ _ f]at c;cases c
  ·cases a
 ca:=fun X p k=>F6 X x p k
end
end L2
namespace L2
open PySem PySem.Spec PySem.Calls PySem.W PyProof.Rows
def ObjOk.isAt{P:Program}{a:Addr}{o:HO}(x:ObjOk P w H h a o):∃u,h.get? a=some u:=by
 cases o with
 |lst xs=>obtain⟨_,_,_,_,e⟩:=x;exact⟨_,e⟩
 |tup xs=>obtain⟨_,_,_,⟨_,e,_⟩,_⟩:=x;exact⟨_,e⟩
 |dK kvs=>obtain⟨_,_,_,_,_,_,_,e,_⟩:=x;exact⟨_,e⟩
 |dT kvs=>obtain⟨_,_,_,_,_,_,_,e,_⟩:=x;exact⟨_,e⟩
 |set S n=>obtain⟨_,_,_,_,e,_⟩:=x;exact⟨_,e⟩
 |ins C dx fs=>obtain⟨_,_,_,e,_⟩:=x;exact⟨_,e⟩
 |own y=>exact x
 |xd fs=>obtain⟨_,⟨_,_,_,e,_⟩,_⟩:=x;exact⟨_,e⟩
 |rng lo hi=>obtain⟨_,_,_,e⟩:=x;exact⟨_,e⟩
 |frz ob u=>obtain⟨e,_⟩:=x;exact⟨_,e⟩
 |tbl ps=>exact⟨_,(show h.get? a=some _ from x)⟩
 |met f y=>exact⟨_,(show h.get? a=some _ from x)⟩
 |ext φ=>exact x.2.1
def HOk.miss{P:Program}{a:Addr}(x:HOk P w H h)(n:h.get? a=none):H a=none:=by
 cases q:H a with
 |none=>rfl
 |some o=>
  obtain⟨u,e⟩:=(x a o q).isAt;rw[n]at e;cases e
structure Thr (P:Program) (w:World) (C:Addr) (outer:List Env) (H:Hp) (s:Shared) (a:Addr) (a0:Value) (B:Heap) (H':Hp) (s':Shared):Prop where
 os:s'.os=s.os
 bare:AllBare s'.gens
 keep:∀b o,s.heap.get? b=some o->H b=none->b∉frs outer->B.get? b=some o
 slot:∀b o,s.heap.get? b=some o->H b=none->b∈frs outer->(∀vs,o.data≠.fields vs)/\∃sl,s'.heap.get? b=some {o with slots:=sl}
 free:∀b o,s.heap.get? b=some o->H b=none->H' b=none
 there:∀b o,s.heap.get? b=some o->b∉frs outer->∃o',B.get? b=some o'
 tups:∀b xs,H b=some (.tup xs)->H' b=some (.tup xs)
 frzs:∀b o u,H b=some (.frz o u)->H' b=some (.frz o u)
 tbls:∀b ps,H b=some (.tbl ps)->∃more,H' b=some (.tbl (ps++more))
 hok:HOk P w H' B
 fly:Heap.FlyingW B outer a (.ref C) a0 s'.heap
def Thr.un{P:Program}{a:Addr}{a0:Value}{B:Heap}(t:Thr P w C outer H s a a0 B H' s')(i:∀b∈frs outer,H b=none)(p:B.StaysIn h)(m:s'.heap.UpToSlots h) :
  Un (frs outer) [] H H' s.heap h where
 keep:=fun b o q n c _=>p _ _ (t.keep b o q n c)
 slot:=fun b o q n c _=>by
  obtain⟨g,u,l⟩:=t.slot b o q n c;obtain⟨f,j⟩:=m b _ l g;exact⟨f,j⟩
 free:=fun b o q n _=>t.free b o q n
 there:=fun b o q _=>by
  by_cases c:b∈frs outer
  ·obtain⟨g,u,l⟩:=t.slot b o q (i b c) c;obtain⟨f,j⟩:=m b _ l g;exact⟨_,j⟩
  ·obtain⟨x,e⟩:=t.there b o q c;exact⟨x,p _ _ e⟩
 tups:=t.tups
 frzs:=t.frzs
 tbls:=t.tbls
section
variable{P:Program}     {N:List Str}   {f:Addr}      {E:XK}
end
def ye:List Value:=[.type "ValueError",.type "Exception",.type "BaseException",.type "object"]
def Ct(X:K.In h)(q:excIn K C ye "ValueError.__new__"=true) :
  ∃bm N nm qn bs hdct sn sub ab col dd k0 k1 k2 k3 k5 mN,h.get? C=some (excClassObj nm qn C N bs bm hdct sn sub ab col dd k0 k1 k2 k3 k5 "ValueError.__new__")/\h.Ns N mN/\mN "__init__"=none/\OwnTail h ye bm:=by
 unfold excIn at q;split at q
 case h_1 dd cd sl ho=>
  split at q
  case h_1 C' bm k0 k1 k2 k3 n k5 hm hs=>
   (rw[Yg,Yg,Yg,Yg,Yg,Zz,Zz,Zz]at q;obtain⟨⟨⟨⟨⟨rfl,rfl⟩,e⟩,f⟩,a⟩,c⟩:=q)
   rcases cd with⟨nm,bs,m,o,qn,p,sn,sub,ab,col,b⟩
   have j:m=.ref C'::bm:=hm;have i:b=false:=by cases b with|false=>rfl|true=>cases e
   have g:sl=#[k0,k1,k2,k3,some (.builtin "ValueError.__new__"),k5]:=by rcases sl with⟨l⟩;exact Zn Array.mk hs
   rw[j,i,g]at ho;exact⟨_,_,_,_,_,_,_,_,_,_,_,_,_,_,_,_,_,X _ _ ho,.of_isNs (isNs_of_in X a),nsMap_none_of_in X a c,tail_of_in X f⟩
  case h_2=>cases q
 case h_2=>cases q
def t7(X:Cx)(C:Addr)(R:Hp->Prop):Prop:=∀(p:Kp) (a:St) (H:Hp) (s:Shared) (h:Heap) (e:Addr) (b:List Value),Inv X p a H s->Heap.MadeExcOf s.heap h e (.ref C) b->R H->X.xe (.ref e) {s with heap:=h }
def xM{t:Str}{i np p2 cpos pos}{R:Hp->Prop}(B:X.calm=true)(E:t7 X C R)(A:Gl X x)(z:X.mg x=some (.ref C))(q:excIn X.K C ye "ValueError.__new__"=true)
  (hd:nDb x:=by decide) (b:starEach [.Constant (.str t) i p2] X.env=[(false,eval (.Constant (.str t) i p2) X.env)]:=by rfl) :
  PS X (.Raise (some (.Call (.Name x np) [.Constant (.str t) i p2] [] cpos)) none pos) (fun _ _ H=>R H):=by
 intro p s g H D I h;obtain⟨bm,N,nm,qn,bs,hdct,sn,sub,ab,col,dd,k0,k1,k2,k3,k5,mN,L,J,c,T⟩:=Ct I.mod.kin q;refine wpAny_Raise_call_subT (C:=C) (nm:=nm) (q:=qn) (N:=N) (bs:=bs) (bm:=bm) (hdct:=hdct) (sn:=sn) (sub:=sub) (ab:=ab) (col:=col) (dd:=dd) (k0:=k0) (k1:=k1) (k2:=k2) (k3:=k3) (k5:=k5) PySem.F.excBase_ValueError (mN:=mN) (T.hasType rfl) (I.ok.hd B) (by rw[b];rfl) c (iT I A z ⟨rfl,?_⟩ hd);have w:PA X [.Constant (.str t) i p2] (lJ (tC (.str t)) tf):=au jc ba b;have m:=w cpos p s g H (fun j f=>j.length=1/\R f) I ⟨rfl,h⟩;rw[b]at m ⊢;refine Xs (bv m fun u o j f a r1 l=>⟨rfl,?_,a.bk _ _ L,J.keeps a.bk,T.keeps a.bk,fun M e y=>E p g f o M e u a y l.2⟩);rw[<-r1.length,l.1];decide
def Cx.caught(X:Cx)(a:Addr)(ob:Obj):Cx:={X with A:=X.A.mark (some (.ref a)),calm:=false,pn:=(a,ob)::X.pn,xe:=fun _ _=>False}
section
variable  {a:Addr}     
def Inv.caught(I:Inv X pz σ H s)(h1:s.heap.get? a=some ob)(h2:H a=none)(e:a≠X.env.locals)(c:a∉X.fs)(b:∀v,ob.data≠.cell v):Inv (X.caught a ob) pz σ H s:=
  ⟨⟨I.ok.mod,I.ok.kind,I.ok.glob,I.ok.blt,I.ok.above,I.ok.inj,I.ok.has,I.ok.cab,(fun z=>nomatch z),I.ok.frames,I.ok.stk,I.ok.exf,I.ok.bs,I.ok.bsz,I.ok.noex,I.ok.exfs,I.ok.funs,I.ok.frf⟩,
   I.os,I.bare,I.base,I.loc,I.cell,I.free,I.freeC,fun p h=>(YH.mp h).elim (fun z=>z ▸ ⟨h1,h2,e,c,b⟩) (I.pin p),I.hok,I.len⟩
def Inv.uncaught(ok:X.Ok)(I:Inv (X.caught a ob) pz σ H s):Inv X pz σ H s:=⟨ok,I.os,I.bare,I.base,I.loc,I.cell,I.free,I.freeC,fun p h=>I.pin p (Yd _ h),I.hok,I.len⟩
def Inv.atEx(I:Inv (X.caught a ob) pz σ H s):s.heap.get? a=some ob:=(I.pin (a,ob) (Yf ..)).1
def AS{M:Model}{Q:Unit->Shared->Prop}(I:Inv X pz σ H s)(hN:X.N.Nodup)(hi:X.N[i]?=some x)(hk:X.env.scope.names.lookup x=some .local)(h:∀s',Inv X pz (σ.set i none) H s'->Q () s') :
  wpAny M A (do bindName X.env x .none;unbindBehindTheSuite X.env x pos) Q E s:=by
 obtain⟨m,Z,hl⟩:=id I.loc;have w:(X.env.scope.kind == .class||(X.env.scope.kind == .module&&X.env.locals != X.env.globals))=false:=by rw[I.ok.kind];rfl
 refine wpAny_nameGoes_keeps hk Z w fun h' v C a=>?_;have B:∀b o,X.s₀.heap.get? b=some o->b≠X.env.locals:=fun b o e=>Yy (Ys (Yp e) I.ok.above)
 refine h _ ⟨I.ok,I.os,I.bare,⟨fun b o e n J l=>(a.2 b (B b o e)).trans (I.base.keep b o e n J l),fun b o e n J l=>(I.base.slot b o e n J l).imp fun sl g=>(a.2 b (B b o e)).trans g,I.base.free,fun b o e l=>(I.base.there b o e l).imp fun o' g=>(a.2 b (B b o e)).trans g,I.base.tups,I.base.frzs,I.base.tbls⟩,
  ⟨_,C,fun j y P g f e3=>?_⟩,fun y c e=>(I.cell y c e).imp fun O z=>z.sameBut a (I.cne y c e),I.free,I.freeC,fun p Y=>?_,fun b u q=>?_,by simpa using I.len⟩
 ·have L:j≠i:=fun z=>by
   subst z;rw[Vp]at f;split at f
   ·split at f<;>cases f
   ·rename_i z;exact z rfl
  rw[YA (ZJ L)]at f;obtain⟨R,S,q⟩:=hl j y P g f e3;refine⟨R,S,q.imp (fun z=>⟨z.1,?_⟩) fun⟨k,c,e,z⟩=>⟨k,c,e,z.sameBut a (I.cne y c e)⟩⟩;have T:y≠x:=fun e=>L (mS hN g (e ▸ hi))
  show(if y=x then v else m y)=_;rw[Yl T];exact z.2
 ·obtain⟨e,n,K,U,d⟩:=I.pin p Y;exact⟨(a.2 p.1 K).trans e,n,K,U,d⟩
 ·refine(I.hok b u q).stay (fun c O hc e=>(a.2 c ?_).trans e) (fun _ q=>q) fun _ _ q=>q;rintro rfl;rcases hc with rfl|hc
  ·rw[I.free]at q;cases q
  ·rw[I.free]at hc;cases hc
def nj{c:V}{g:Value}{b:Bool}(x:ExC X.K C)(i:ob.cls=.ref C)(f:∀u,RelV c u->u=g)(e:kitOne X.K (.ref C) g=some b):CallR (X.caught a ob) (.builtin "isinstance") (fun xs H Q=>xs=[.ref a,c]/\Q (.bl b) H):=by intro p s j H xs l Q I r h;obtain⟨rfl,q⟩:=h;obtain⟨u,w,rfl,r1,r2⟩:=lQ r;cases(show u=Value.ref a from r1);cases f _ r2;exact kia_one (tF x) I.kIn ⟨ob,I.atEx,i⟩ e (fun z=>nomatch z) fun m=>⟨.bl b,H,I.tok _,rfl,q⟩
def wv{cvs:List Value}{b:Bool}(x:ExC X.K C)(y:ob.cls=.ref C)(f:∀us,Vals cs us->us=cvs)(e:kitAny X.K (.ref C) cvs=some b):CallR (X.caught a ob) (.builtin "isinstance") (fun xs H Q=>∃c,xs=[.ref a,.ref c]/\H c=some (.tup cs)/\Q (.bl b) H):=by
 intro M s J H xs us Q I r h;obtain⟨c,rfl,p,q⟩:=h;obtain⟨u,w,rfl,r1,r2⟩:=lQ r;cases(show u=Value.ref a from r1);cases(show w=Value.ref c from r2);obtain⟨_,m,g,⟨i,E,B,n,A⟩,_⟩:=(show ObjOk _ _ H s.heap c (.tup cs)from I.hok c _ p)
 cases f _ g;rcases i with⟨l,N,o,j⟩
 cases(show l=_ from B);cases(show o=_ from A);exact kia_tup (tF x) I.kIn ⟨ob,I.atEx,y⟩ E e (fun z=>nomatch z) fun L=>⟨.bl b,H,I.tok _,rfl,q⟩
end
section
variable  {a:Addr}  
end
def DInv.other{F:Hp}{a:St}(I:DInv K P F H ρ σ)(hi:ρ[i]?=some none)(c:a.length=σ.length)(h:∀j,j≠i->a[j]?=σ[j]?):DInv K P F H ρ a:=
 ⟨I.toDHp,I.len.trans c.symm,by
  obtain⟨O,k⟩:=I.rep;refine⟨O,fun j x b=>?_⟩;obtain⟨v,f,e⟩:=k j x b;exact⟨v,(h j fun z=>by subst z;rw[hi]at b;cases b).trans f,e⟩⟩
end L2
namespace L2
open PySem PySem.Spec PyProof.Rows
structure IsC (K:PySem.W.Frag) (C:Addr):Prop where
 ha:PySem.W.findIn K (.ref C) "__class__"=some (some (.builtin sOc))
 hn:PySem.W.specialIn K (.builtin sOc) "__get__"=some (some (.builtin sGd))
 htk:PySem.W.takesIn K (.builtin sOc)=some true
 hm:PySem.W.mroIn K C (.type "object")=some true
 one:PySem.W.kitOne K (.ref C) (.ref C)=some true
def Da(C:Addr):D->Option D
 |.ins C' _=>if C'=C then some (.bl true)else none
 |_=>none
def yn(cl:Cls X.K C)(i:IsC X.K C):CallR X (.builtin "isinstance") (fun xs H Q=>∃l dx fs,xs=[.ref l,.ref C]/\H l=some (.ins C dx fs)/\Q (.bl true) H):=by intro p s b H xs c Q I r h;obtain⟨l,dx,fs,rfl,a,q⟩:=h;obtain⟨u,w,rfl,r1,r2⟩:=lQ r;cases(show w=Value.ref C from r2);exact xc I r1 (.ins a cl i.ha i.hn i.htk i.hm) i.one fun e=>⟨.bl true,H,I.tok _,rfl,q⟩
def Ez(cl:Cls X.K C)(l:IsC X.K C)(o:Gl X "isinstance")(m:X.mg "isinstance"=none)(g:Gl X x)(f:X.mg x=some (.ref C))(s:PDN X a fa)(hd:nDb x:=by decide)
  (j:starEach [a,.Name x p1] X.env=[(false,eval a X.env),(false,eval (.Name x p1) X.env)]:=by rfl) (h:starEach [.Name x p1] X.env=[(false,eval (.Name x p1) X.env)]:=by rfl) (e:(backTo pos (starEach [.Name x p1] X.env)).any (·.1)=false:=by rfl) :
  PDE X (.Call (.Name "isinstance" p) [a,.Name x p1] [] pos) (d1 (Da C) fa):=
 (cR (yn cl l) o m b_ (au s (au (jA (v:=.ref C) g f rfl hd) ba h) (by rw[j,h])) (by decide) (by decide) (by rw[j,h]) e).imp fun E H Q=>un7 fun P F i d c I k=>by
  unfold d1 at c;cases q:fa i with
  |none=>rw[q]at c;cases c
  |some z=>
   rw[q,Ya]at c;cases z with
   |ins C' fs=>
    have b:(if C'=C then some (D.bl true)else none)=some d:=c;split at b
    ·rename_i u;subst u;cases b;refine⟨P,F,i,_,q,I,fun y B A w r1=>?_⟩;cases r1 with
     |ins h1 h2=>exact⟨_,_,_,rfl,h1,k _ B A w .bl⟩
    ·cases b
   |_=>cases c
def pe:∀(as:List Addr) (us:List Value),Vals (as.map V.ref) us->us=as.map Value.ref
 |[],_,.nil=>rfl
 |_::as,_,.cons r h=>by
  cases(show _=Value.ref _ from r);exact Zn _ (pe as _ h)
def Ga:PA X [] (fun _ H Q=>Q [] H):=ba
def j8{a:Addr}(e:Gl X x)(c:X.mg x=some (.ref a))(h:PA X es (fun _ H Q=>Q cs H))(hd:nDb x:=by decide)
  (b:starEach (.Name x p::es) X.env=(false,eval (.Name x p) X.env)::starEach es X.env:=by rfl):PA X (.Name x p::es) (fun _ H Q=>Q (.ref a::cs) H):=au (jA (v:=.ref a) e c rfl hd) h b
end L2
namespace L2
open PySem PySem.Spec PySem.Calls PySem.W PyProof.Rows
end L2
namespace L2
open PySem PySem.Spec PyProof.Rows
def isN:D->Bool
 |.non=>true
 |_=>false
def Rep.isN{v:V}{d:D}(h:Rep K H v d):decide (v=.non)=L2.isN d:=by cases h<;>rfl
end L2
namespace L2
open PySem PySem.Spec PyProof.Rows PySem.MeetsSeq PySem.SeqAt
open PySem.AutoSeq1 (wpAny_loadPart')
def oG(l:Addr)(items:Array Value)(n:Nat)(x:Value)(e:Value->Bool)(j:Nat)(H:j<items.size)(z:e items[j]=true)(k:Nat)(f:items.size<=sizeLine) :
  ∀i:Nat,j-i=k->i<=j->(∀m (E:m<items.size),i<=m->m<j->e items[m]=false)->Meets (Builtin.«list.remove.loop» ⟨[.ref l,x,rawInt i],[]⟩)
   (fun A R s=>s.heap.get? l=some {cls:=.type "list",dict:=none,data:=.seq items n,slots:=#[]}/\(∀y,y∈items->EqAt A.in1 s y x (e y))/\R (.ok (.ret .none)) {s with heap:=s.heap.update l (Obj.mapSeq fun xs=>xs.eraseIdxIfInBounds j)}):=by
 induction k with
 |zero=>
  intro i L B a p w A R s h;obtain⟨K,g,d,I,J⟩:=s;obtain⟨c,q,h⟩:=h;have o:i=j:=by omega
  subst o
  wp_walk using Xn c
  have C:items[((i:Nat):Int).toNat]?=some items[i]:=by simp[H]
  rw[C];refine Yc (q _ (Array.getElem_mem H) p w _ _ ?_);rw[z];have u:(items.eraseIdxIfInBounds i).size<=sizeLine+1:=YC (size_erased items _) (Nat.le_succ_of_le f)
  wp_walk using (wpAny_updateSeq c rfl (hz:=f) (_hz':=u)),Xn c
  simpa using h
 |succ k ih=>
  intro i L B a p w A R s h;obtain⟨K,g,d,I,J⟩:=s;obtain⟨c,q,h⟩:=h;have b:i<items.size:=by omega
  wp_walk using Xn c
  have C:items[((i:Nat):Int).toNat]?=some items[i]:=by simp[b]
  have M:((i:Int)+1)=((i+1:Nat):Int):=by push_cast;rfl
  rw[C];refine Yc (q _ (Array.getElem_mem b) p w _ _ ?_);rw[a i b (Ym _) (by omega)]
  wp_walk
  rw[M];exact⟨plainId_quiet plain_remove_loop _,ZP entry_remove_loop (by
   rw[Xt plain_remove_loop _];exact ih (i+1) (by omega) (by omega) (fun m E O N=>a m E (by omega) N) p w A R _ ⟨c,q,h⟩)⟩
def oB(l:Addr)(items:Array Value)(n:Nat)(x:Value)(e:Value->Bool)(j:Nat)(o:j<items.size)(c:e items[j]=true)(b:∀m (f:m<items.size),m<j->e items[m]=false)(a:items.size<=sizeLine) :
  Meets (Builtin.«list.remove» ⟨[.ref l,x],[]⟩)
   (fun A R s=>s.heap.get? l=some {cls:=.type "list",dict:=none,data:=.seq items n,slots:=#[]}/\(∀y,y∈items->EqAt A.in1 s y x (e y))/\R (.ok (.ret .none)) {s with heap:=s.heap.update l (Obj.mapSeq fun xs=>xs.eraseIdxIfInBounds j)}):=by
 intro p w A R s h;obtain⟨C,g,d,z,B⟩:=s;obtain⟨i,q,h⟩:=h
 wp_walk using Xn i
 exact⟨plainId_quiet plain_remove_loop _,ZP entry_remove_loop (by
  rw[Xt plain_remove_loop _];exact oG l items n x e j o c _ a 0 rfl (YO _) (fun m f _ u=>b m f u) p w A R _ ⟨i,q,h⟩)⟩
def xA(hu:X.A.units+64<cLine):MtM X "list.remove" (fun x vs H Q=>∃l xs ds y dy j,x=.ref l/\vs=[y]/\H l=some (.lst xs)/\Reps X.K H xs ds/\Rep X.K H y dy/\ds.all (okN 29)=true/\okN 30 dy=true/\iX dy ds=some j/\Q .non (upd H l (.lst (xs.eraseIdx j)))):=by
 intro pz s Z H x vs v us Q I E e h;obtain⟨l,xs,ds,y,dy,j,rfl,rfl,B,r,C,ok,L,R,q⟩:=h;cases E;obtain⟨u,rfl,J⟩:=e.one;obtain⟨z,i,n,c,hl,f⟩:=I.lstM B;obtain⟨⟨Y,w,N⟩,M⟩:=kK R;have l1:=r.length;have l2:=c.length;have P:j<ds.length:=(Yj.mp w).1;have a:j<i.toArray.size:=by rw[Yq];omega
 have o:=bU ok;have b:∀(m:Nat) (p:m<i.toArray.size) d,ds[m]?=some d->qw i ds dy i.toArray[m]=eqd d dy:=fun m p d S=>mJ I r c o (by simp) S
 refine Vd PySem.F.slot_list_remove ⟨_,f,rfl⟩ PySem.F.entry_list_remove (PySem.F.args_list_remove_2 _ _)
  (oB l i.toArray n u (qw i ds dy) j a (by rw[b j a Y w];exact N) (fun m p g=>?_) (by rw[Yq];omega)) ⟨f,fun z O=>ng I r c o C L J (A:=X.A.in1) (by show X.A.units+1+60<cLine;omega) z (by simpa using O),?_⟩
 ·obtain⟨d,U,T⟩:=M m g;rw[b m p d U];exact T
 ·refine⟨.non,_,I.lset (its':=i.eraseIdx j) B f ?_ (c.eraseIdx j) ?_,rfl,q⟩
  ·show i.toArray.eraseIdxIfInBounds j=(i.eraseIdx j).toArray;rw[XM]
  ·have:=ln xs j;omega
def qO(i:Nat)(f:Dd):DF->Option RES:=fun a=>match a[i]? with
 |some (some (.own (.lst ds) t))=>match f a with
  |some y=>if(ds.all (okN 29)&&okN 30 y)=true then(iX y ds).map fun j=>.nx (a.set i (some (.own (.lst (ds.eraseIdx j)) t)))else none
  |none=>none
 |_=>none
def oZ(i:Nat)(Q:X.A.units+64<cLine)(h:PE X o (eI i))(R:PDE X e f)(g:attributeBase o "remove" X.env (eval o X.env)=eval o X.env:=by rfl)
  (m:((backTo cpos (starEach [e] X.env)).all (fun x=>!x.1)&&(backToKw cpos (keywordEach [] X.env)).all (fun x=>x.1.isSome)
   && decide (([e]:List Expr).length+([]:List Keyword).length+(if([]:List Keyword).isEmpty then 0 else 1)<30))=true:=by rfl)
  (c:(apos.endLine == cpos.line)=true:=by rfl) (B:StO e X:=by rfl) (s:swapsWith (.Call (.Attribute o "remove" apos) [e] [] cpos) none pos.line X.env=pure false:=by rfl) :
  PD1 X (.Expr (.Call (.Attribute o "remove" apos) [e] [] cpos) pos) (qO i f):=
 PS.imp (fV (l8 Zk PySem.F.slot_list_remove PySem.F.type_list_remove (xA Q) h (au R ba B) g m c B rfl) s) fun E L H=>un7 fun P F M r b I k=>by
  unfold qO at b;split at b
  ·rename_i K t q;split at b
   ·rename_i y N;split at b
    ·rename_i w;rw[Yg]at w;cases p:iX y K with
     |none=>rw[p]at b;cases b
     |some j=>
      rw[p]at b;cases b;obtain⟨a,z,J,T,Z,C,S⟩:=jh I q;refine⟨_,J,.inl ⟨rfl,z,SqL.of C⟩,P,F,M,_,N,I,fun v U H1 l r1=>?_⟩;obtain⟨O,Y⟩:=l.keep a _ C T;have r5:=S.same l.ext;refine⟨a,z,K,v,y,j,rfl,rfl,O,r5.same l.hp.sub,Rep.same l.hp.sub r1,w.1,w.2,p,?_⟩;exact k L U _ l.ext ((I.evo l).mut (o':=.lst _) (u:=.lst _) q rfl rfl J (r5.eraseIdx j))
    ·cases b
   ·cases b
  ·cases b
end L2
namespace L2
open PySem PySem.Spec PySem.Calls PySem.W PyProof.Rows
def CXc(P:Program)(w:World)(cl:Nat->Addr):CXT:=fun o H s E e c=>∃k a f B b,e=.ref a/\Thr P w (cl k) o H s a f B b c/\E (.ref (cl k)) none b
section
variable{P:Program}     {N:List Str}   {f:Addr}{cl:Nat->Addr}      {E:XK}
def Inv.throwsC{i:Shared}{e:Addr}{vs:List Value}(k:Nat)(I:Inv (bX (CXc P w cl) P w K mg base N qual scope f cd A outer s H E) pz σ H1 i)(hx:Heap.MadeExcOf i.heap h' e (.ref (cl k)) vs)(R:E (.ref (cl k)) none H1) :
  (bX (CXc P w cl) P w K mg base N qual scope f cd A outer s H E).xe (.ref e) {i with heap:=h' }:=by
 have a:∀b:Addr,b∉([]:List Addr):=fun b z=>absurd z (by simp)
 have B:∀env∈(bX (CXc P w cl) P w K mg base N qual scope f cd A outer s H E).stack,∀b,env.frame=some b->b∈frs (bX (CXc P w cl) P w K mg base N qual scope f cd A outer s H E).stack:=fun env O b Q=>Xk.mpr ⟨env,O,Q⟩
 have L:∀b o,s.heap.get? b=some o->b∉frs outer->b∉frs (bX (CXc P w cl) P w K mg base N qual scope f cd A outer s H E).stack:=fun b o q g z=>by
  rcases YH.mp (I.stkSub b z)with z|z
  ·exact absurd z (Yy (Ys (Yp q) I.ok.above))
  ·exact g z
 refine wpAny_leaves_madeW (base:=hideAll i.heap (frs (bX (CXc P w cl) P w K mg base N qual scope f cd A outer s H E).stack)) (h:=i.heap) (env:=(bX (CXc P w cl) P w K mg base N qual scope f cd A outer s H E).env) (outer:=outer) I.ok.frames rfl (fun b o q=>of_hideAll _ q) (funFrames_hide I.stack B) hx fun S t C _ _ M=>?_;refine⟨k,e,.ref t,_,H1,rfl,⟨I.os,I.bare,fun b o q n g=>?_,fun b o q n g=>?_,fun b o q n=>I.base.free b o q n (a b),fun b o q g=>?_,I.base.tups,I.base.frzs,I.base.tbls,fun b o q=>?_,C⟩,R⟩
 ·exact hideAll_get _ (I.base.keep b o q n g (a b)) (L b o q g)
 ·obtain⟨U,m⟩:=I.base.slot b o q n g (a b);obtain⟨_,x,y,j⟩:=I.ok.funs.mem g;have l:s.heap.get? b=some x:=y;rw[q]at l;cases l;obtain⟨p,T⟩:=M b _ (hx.keeps _ _ m) j;exact⟨j,p,T⟩
 ·obtain⟨x,m⟩:=I.base.there b o q (a b);exact⟨x,hideAll_get _ m (L b o q g)⟩
 ·refine(I.hok b o q).stay (fun c u hc m=>hideAll_get _ m fun z=>?_) (fun _ z=>z) fun _ _ z=>z;have J:=I.stkFree c z;rcases hc with rfl|hc
  ·rw[J]at q;cases q
  ·rw[J]at hc;cases hc
def Inv.passesC{s1 C:Shared}{a:Addr}{a0:Value}{B:Heap}(k:Nat)(I:Inv (bX (CXc P w cl) P w K mg base N qual scope f cd A outer s H E) pz σ H1 s1)(t:Thr P w (cl k) (bX (CXc P w cl) P w K mg base N qual scope f cd A outer s H E).stack H1 s1 a a0 B H2 C)(Z:E (.ref (cl k)) none H2) :
  (bX (CXc P w cl) P w K mg base N qual scope f cd A outer s H E).xe (.ref a) C:=by
 have c:∀b:Addr,b∉([]:List Addr):=fun b z=>absurd z (by simp)
 have J:∀b o,s.heap.get? b=some o->b∉frs outer->b∉frs (bX (CXc P w cl) P w K mg base N qual scope f cd A outer s H E).stack:=fun b o q g z=>by
  rcases YH.mp (I.stkSub b z)with z|z
  ·exact absurd z (Yy (Ys (Yp q) I.ok.above))
  ·exact g z
 have U:∀b,b∈frs outer->b∈frs (bX (CXc P w cl) P w K mg base N qual scope f cd A outer s H E).stack:=fun b z=>by
  obtain⟨e,X,Y⟩:=Xk.mp z;exact Xk.mpr ⟨e,Yd _ X,Y⟩
 have x:∀b o,s.heap.get? b=some o->H b=none->∃j,s1.heap.get? b=some j:=fun b o q n=>by
  by_cases L:b∈frs outer
  ·obtain⟨Q,h⟩:=I.base.slot b o q n L (c b);exact⟨_,h⟩
  ·exact⟨_,I.base.keep b o q n L (c b)⟩
 refine wpAny_leaves_onW (base:=B) (env:=(bX (CXc P w cl) P w K mg base N qual scope f cd A outer s H E).env) (outer:=outer) (cls:=.ref (cl k)) (a0:=a0) I.ok.frames rfl t.fly fun h' m M=>?_;refine⟨k,a,a0,B,H2,rfl,⟨t.os.trans I.os,t.bare,fun b o q n g=>?_,fun b o q n g=>?_,fun b o q n=>?_,fun b o q g=>?_,fun b y e=>t.tups b y (I.base.tups b y e),fun b o u e=>t.frzs b o u (I.base.frzs b o u e),fun b R e=>?_,t.hok,m⟩,Z⟩
 ·exact t.keep b o (I.base.keep b o q n g (c b)) (I.base.free b o q n (c b)) (J b o q g)
 ·obtain⟨Q,h⟩:=I.base.slot b o q n g (c b);obtain⟨l,O,p⟩:=t.slot b _ h (I.base.free b o q n (c b)) (U b g);obtain⟨i,e3⟩:=M b _ p l;exact⟨l,i,e3⟩
 ·obtain⟨j,h⟩:=x b o q n;exact t.free b j h (I.base.free b o q n (c b))
 ·obtain⟨j,h⟩:=I.base.there b o q (c b);exact t.there b j h (J b o q g)
 ·obtain⟨T,h⟩:=I.base.tbls b R e;obtain⟨S,p⟩:=t.tbls b _ h;exact⟨T++S,by rw[<-Array.append_assoc];exact p⟩
def C0:iI (CXc P w cl) (bX (CXc P w cl) P w K mg base N qual scope f cd A outer s H E) E:=fun _ _ _ _ _ _ I h=>by
 obtain⟨k,a,c,B,e,rfl,t,b⟩:=h;exact I.passesC k t b
def HL:PassesOwn (model P w) (bX (CXc P w cl) P w K mg base N qual scope f cd A outer s H E).A (bX (CXc P w cl) P w K mg base N qual scope f cd A outer s H E).env (bX (CXc P w cl) P w K mg base N qual scope f cd A outer s H E).xe:=PassesOwn.leaving
def qu(k:Nat):t7 (bX (CXc P w cl) P w K mg base N qual scope f cd A outer s H E) (cl k) fun H'=>E (.ref (cl k)) none H':=fun _ _ _ _ _ _ _ I h a=>I.throwsC k h a
end
inductive XR where
 |go (r:RES)
 |ex (k:Nat)
def EndsX(K:Kq)(cl:Nat->Addr)(E:XK)(P F:Hp)(D:Ends):XR->Prop
 |.go r=>EndsD K P F D r
 |.ex k=>∀a H,Same F a->DHp P a H->E (.ref (cl k)) none H
def EndsX.ext{cl:Nat->Addr}{E:XK}{F:Hp}{D:Ends}{r:XR}(h:EndsX K cl E P F D r)(e:Same F F1):EndsX K cl E P F1 D r:=by
 cases r with
 |go r=>exact EndsD.ext h e
 |ex k=>exact fun c H b a=>h c H (e.trans b) a
def tSX(K:Kq)(cl:Nat->Addr)(E:XK)(g:DF->Option XR):TS:=fun D b H=>∃P F a r,g a=some r/\DInv K P F H a b/\EndsX K cl E P F D r
def PX1(X:Cx)(cl:Nat->Addr)(E:XK)(st:Stmt)(g:DF->Option XR):Prop:=PS X st (tSX X.K cl E g)
def PXS(X:Cx)(cl:Nat->Addr)(E:XK)(sts:List Stmt)(g:DF->Option XR):Prop:=PSs X sts (tSX X.K cl E g)
def xOf(g:Dw):DF->Option XR:=fun ρ=>(g ρ).map .go
def xNx:DF->Option XR:=fun ρ=>some (.go (.nx ρ))
def xEx(k:Nat):DF->Option XR:=fun _=>some (.ex k)
def iW(g h:DF->Option XR):DF->Option XR:=fun a=>match g a with
 |some (.go (.nx ρ'))=>h ρ'
 |r=>r
def xIf(c:Dk)(g h:DF->Option XR):DF->Option XR:=fun a=>(c a).bind fun b=>if b=true then g a else h a
section
variable  {cl:Nat->Addr}{E:XK}{st:Stmt}{cc:List Stmt} 
def t6(h:PD1 X st g):PX1 X cl E st (xOf g):=PS.imp h fun D e H=>un7 fun P F b r a I k=>by
 unfold xOf at a;cases q:g b with
 |none=>rw[q]at a;cases a
 |some c=>
  rw[q]at a;cases a;exact⟨P,F,b,c,q,I,k⟩
def p7:PXS X cl E [] xNx:=PSs.imp vV fun D a H=>un7 fun P F b r h I k=>by
 cases h;exact k a F H (Same.refl _) I
def dW{g h:DF->Option XR}(h1:PX1 X cl E st g)(h2:PXS X cl E cc h):PXS X cl E (st::cc) (iW g h):=PSs.imp (kx h1 h2) fun D l H=>un7 fun P F b r c I k=>by
 unfold iW at c;split at c
 ·rename_i a q;exact⟨P,F,b,_,q,I,fun f j m e i=>⟨P,j,a,r,c,i,k.ext e⟩⟩
 ·rename_i q;refine⟨P,F,b,r,c,I,?_⟩;cases r with
  |ex k'=>exact k
  |go r=>
   cases r with
   |nx a=>exact absurd c (q a)
   |bk b=>exact k
   |ct b=>exact k
   |rt x b=>exact k
def mL{g:DF->Option XR}(h1:PX1 X cl E st g):PXS X cl E [st] g:=PSs.imp (rf h1) fun _ _ _ q=>q
def z_{a b:List Stmt}{fc:Dk}{g h:DF->Option XR}(l:PDT X c fc)(o:PXS X cl E a g)(m:PXS X cl E b h):PX1 X cl E (.If c a b pos) (xIf fc g h):=PS.imp (CN l o m) fun D p H=>un7 fun P F f r e I k=>by
 unfold xIf at e;cases q:fc f with
 |none=>rw[q]at e;cases e
 |some b=>
  rw[q,Ya]at e;refine⟨P,F,f,b,q,I,fun j s i=>?_⟩;cases b with
  |true=>
   rw[Yh rfl]at e ⊢;exact⟨P,j,f,r,e,I.evo i,k.ext i.ext⟩
  |false=>
   rw[Yl Yk]at e ⊢;exact⟨P,j,f,r,e,I.evo i,k.ext i.ext⟩
def mV{k:Nat}{t:Str}{i np p2 cpos}(f:X.calm=true)(g:t7 X (cl k) fun H'=>E (.ref (cl k)) none H')(c:Gl X x)(b:X.mg x=some (.ref (cl k)))(q:excIn X.K (cl k) ye "ValueError.__new__"=true)
  (hd:nDb x:=by decide) (h:starEach [.Constant (.str t) i p2] X.env=[(false,eval (.Constant (.str t) i p2) X.env)]:=by rfl) :
  PX1 X cl E (.Raise (some (.Call (.Name x np) [.Constant (.str t) i p2] [] cpos)) none pos) (xEx k):=PS.imp (xM f g c b q hd h) fun D j H=>un7 fun P F l r e I a=>by
 cases e;exact a F H (Same.refl _) I.toDHp
end
def oI(K:Kq)(cl:Nat->Addr)(rz:List DV->Option Nat):Sp:=fun c H _ E=>∃P F x k,rz x=some k/\DHp P F H/\DVs K P F H x c/\∀b a,Same F b->DHp P b a->E (.ref (cl k)) none a
def rzX(n p:Nat)(g:DF->Option XR):List DV->Option Nat:=fun x=>if x.length=p then(match g (aP n p x)with|some (.ex k)=>some k|_=>none)else none
def Fun.thrX{P:Program}{st:Stmt}{f:Addr}{cl:Nat->Addr}{N:List Str}{k:Nat}{g:DF->Option XR}(F:Fun K x qual st f fd)(S:FnScope N ps (defScope st))
  (h:∀(c:Value) (A:Around) (outer:List Env) (s:Shared) (H:Hp) (E:XK),Room k (A.deeper (envOfC qual (defScope st) s.heap.objs.size f c))->PXS (bX (CXc P w cl) P w K mg base N qual (defScope st) f c A outer s H E) cl E (defBody st) g) :
  FnOk P w K mg base (CXc P w cl) (k+1) f fd ps (oI K cl (rzX N.length ps.length g)):=by
 have l:∀b H Q E,oI K cl (rzX N.length ps.length g) b H Q E->b.length=ps.length:=fun b H Q E z=>by
  obtain⟨p,q,u,I,a,o,e,_⟩:=z;unfold rzX at a;split at a
  ·rename_i j;rw[<-e.length];exact j
  ·cases a
 obtain⟨T,R,kV,M,O,Y,c,X,B,rfl,C,m⟩:=F.ex;refine CQ C m S l fun A outer s H b Q E J i=>⟨_,h c A outer s H E J,?_⟩
 obtain⟨p,q,u,I,a,o,e,L⟩:=i;unfold rzX at a;split at a
 ·rename_i j;split at a
  ·rename_i U y;cases a;exact⟨p,q,_,_,y,DInv.start N ps.length o e j,L⟩
  ·cases a
 ·cases a
def sH(g:Dv)(rz:List DV->Option Nat):DF->Option XR:=fun a=>(g a).bind fun x=>(rz x).map .ex
def Cg{P:Program}{N:List Str}{f:Addr}{cl:Nat->Addr}{E:XK}{k:Nat}{g:Dv}
  (F:FnOk P w K mg base (CXc P w cl) k f fd ps (oI K cl rz)) (C:Room k (bX (CXc P w cl) P w K mg base N qual scope f0 cd A outer s H E).A) (M:Gl (bX (CXc P w cl) P w K mg base N qual scope f0 cd A outer s H E) x) (J:mg x=some (.ref f)) (L:PySem.W.keepIn K (.ref f)=true) (O:Binds K fd ps []) (Q:iE (bX (CXc P w cl) P w K mg base N qual scope f0 cd A outer s H E) (e::es) g)
  (hd:nDb x:=by decide) (he:starEach (e::es) (bX (CXc P w cl) P w K mg base N qual scope f0 cd A outer s H E).env=(false,eval e (bX (CXc P w cl) P w K mg base N qual scope f0 cd A outer s H E).env)::starEach es (bX (CXc P w cl) P w K mg base N qual scope f0 cd A outer s H E).env:=by rfl) (c:(backTo pos (starEach es (bX (CXc P w cl) P w K mg base N qual scope f0 cd A outer s H E).env)).any (·.1)=false:=by rfl)
  (B:swapsWith (.Call (.Name x p) (e::es) [] pos) none p2.line (bX (CXc P w cl) P w K mg base N qual scope f0 cd A outer s H E).env=pure false:=by rfl) :
  PX1 (bX (CXc P w cl) P w K mg base N qual scope f0 cd A outer s H E) cl E (.Expr (.Call (.Name x p) (e::es) [] pos) p2) (sH g rz):=
 PS.imp (fV (mG F C M J L O .nil C0 Q hd he c) B) fun D Y H'=>un7 fun R X l r h I y=>by
  unfold sH at h;cases q:g l with
  |none=>rw[q]at h;cases h
  |some a=>
   rw[q,Ya]at h;cases b:rz a with
   |none=>rw[b]at h;cases h
   |some z=>
    rw[b]at h;cases h;refine⟨R,X,l,a,q,I,fun Z u T o r1=>?_⟩;have j:=I.evo o;exact⟨gd u T,u,a,z,b,ig j.sub,by rw[YU];exact r1.dvs j,fun U S m i=>y U S (o.ext.trans m) (j.toDHp.gd m i).hp⟩
end L2
namespace L2
open PySem PySem.Spec PyProof.Rows
end L2
namespace L2
open PySem PySem.Spec PySem.Calls PySem.W PyProof.Rows PySem.Builtin PySem.Builtin.Str
end L2
namespace L2
open PySem PySem.Spec PySem.Calls PySem.W PyProof.Rows
section
variable  {e':Expr}{k0 k1:_}{p0 s0 s1:Pos}
end
section
variable  {k:Nat}{f:Addr}      
end
def FZ(X:Cx)(body:List Stmt)(cl:Nat->Addr)(rz:DF->Option Nat):Prop:=
 ∀(p:Kp) (s:Shared) (c:St) (H P F:Hp) (f:DF) (k:Nat) (Q:Flow->Shared->Prop) (E:Kv),Inv X p c H s->rz f=some k->DInv X.K P F H f c->
  (∀(a:Addr) (l:Value) (B:Heap) (e b:Hp) (h:Shared) (j i:Hp) (g:Shared),Inv X p c b h->Evo P F H e b->Thr X.prog X.w (cl k) X.stack b h a l B i g->Same e j->DHp (gd e b) j i->E (.ref a) g)->wpAny (model X.prog X.w) X.A (execs body X.env) Q E s
section
variable  {a A3:Addr}   {it:Nat}{c3:Str}{b1 b2 b3:Bool}
def tS2(ie io:Nat)(a:Addr):TS:=fun D b H=>b[ie]?=some (some (.ref a))/\∀c u,H c=none->D.nx (b.set io (some (.bl false))) (upd H c u)
def EJ{cvs:List Value}{ts:List Expr}{x1}{f e c:Pos}(hN:X.N.Nodup)(o:X.N[ie]?=some er)(m:X.N[io]?=some on)(l:X.env.scope.names.lookup er=some .local)(b:X.env.scope.names.lookup on=some .local)
  (x:ExC X.K C) (I:ob.cls=.ref C) (hi:Gl X "isinstance") (j:X.mg "isinstance"=none) (k3:kitAny X.K (.ref C) cvs=some false) (w:∀us,Vals cs us->us=cvs) (y:cs.length<=sizeLine) (g:PA (X.caught a ob) ts (fun σ H Q=>Q cs H))
  (s:nDb er:=by decide) (u:nDc er:=by decide)
  (B:swapsWithSole [.Name on q1] (.Call (.Name "isinstance" f) [.Name er e,.Tuple ts x1 c] [] p1) pos.line X.env=pure false:=by rfl) (hw:swappedStores [.Name on q1] (.Call (.Name "isinstance" f) [.Name er e,.Tuple ts x1 c] [] p1) X.env=pure none:=by rfl)
  (h1:(assignEach [.Name on q1] X.env).map (·.2)=[assign (.Name on q1) X.env]:=by rfl) :
  PS (X.caught a ob) (.Assign [.Name on q1] (.Call (.Name "isinstance" f) [.Name er e,.Tuple ts x1 c] [] p1) pos) (tS2 ie io a):=by
 have A:∀q,PE (X.caught a ob) (.Name er q) (eI ie):=fun q=>kJ o (.inl l) s u
 have J:=cR (p:=f) (pos:=p1) (wv (a:=a) x I w k3) hi j b_ (au (A e) (au (yA (x1:=x1) (pos:=c) g) ba)) (by decide) (by decide);refine PS.imp (n9 J (jJ (x:=on) hN m (.inl b) (.inr b)) B hw h1) fun D σ H h=>?_;obtain⟨E,k⟩:=h;exact⟨_,E,y,fun z i=>⟨z,rfl,a8,k z _ i⟩⟩
end
def oO{cl:Nat->Addr}{E:XK} :PXS X cl E sts (fun _=>none):=PSs.imp wR fun D a H h=>by
 obtain⟨_,_,_,_,h,_⟩:=h;cases h
def orE(f g:Dd):DF->Option D:=fun a=>match f a with
 |some d=>some d
 |none=>g a
def zV{g:Dd}(h1:PDE X e f)(h2:PDE X e g):PDE X e (orE f g):=by
 intro p s b H Q I h;obtain⟨P,F,c,d,a,i,k⟩:=h;unfold orE at a;split at a
 ·rename_i q;exact h1 p s b H Q I ⟨P,F,c,d,q.trans a,i,k⟩
 ·exact h2 p s b H Q I ⟨P,F,c,d,a,i,k⟩
def uS(x y:D):Option D:=match y with
 |.non=>some (.bl (isN x))
 |_=>none
def DZ:OpN2 K (fun x y H Q=>y=.non/\Q (.bl (decide (x=.non))) H) uS:=by
 intro P F H x y f e d Q h c b a k;unfold uS at h;split at h
 ·cases h;cases a;refine⟨rfl,?_⟩;rw[b.isN];exact k _ F H (Evo.refl c) .bl
 ·cases h
def Eu(c:PDN X a fa)(h:PDN X b fb):PDE X (.Compare a [.Is] [b] pos) (d2 uS fa fb):=ut DB DZ c h (gJ _)
def wC{k:Nat}{f:Addr}{cl:Nat->Addr}{tp:Pos}{g:Dv}(hX:∀e s,X.xe e s->False)
  (F:FnOk X.prog X.w X.K X.mg X.base (CXc X.prog X.w cl) k f fd ps (oI X.K cl rz)) (hr:Room k X.A) (hg:Gl X x) (hm:X.mg x=some (.ref f)) (hk:PySem.W.keepIn X.K (.ref f)=true) (hb:Binds X.K fd ps []) (ha:iE X (e::es) g)
  (hd:nDb x:=by decide) (he:starEach (e::es) X.env=(false,eval e X.env)::starEach es X.env:=by rfl) (S:(backTo pos (starEach es X.env)).any (·.1)=false:=by rfl)
  (hs:swapsWith (.Call (.Name x p) (e::es) [] pos) (some (.Name tn tp)) apos.line X.env=pure false:=by rfl) :
  FZ X [.Assign [.Name tn tp] (.Call (.Name x p) (e::es) [] pos) apos] cl (fun ρ=>(g ρ).bind rz):=by
 intro pz s Z H P Fr ρ R Q E I h ID go;cases q:g ρ with
 |none=>simp only[q]at h;cases h
 |some O=>
  simp only[q,Ya]at h;have Y:=ha pos pz s Z H (fun l i=>∃b,Evo P Fr H b i/\ArgsS X.K ρ Z b O l) I ⟨P,Fr,ρ,O,q,ID,fun l b i e1 r1=>⟨b,e1,r1⟩⟩;refine wpAny_execs_cons (wpAny_Assign_Name (Xl (iT I hg hm ?_ hd)) hs);refine XB (h₀:=X.base) I.ok.mod.kin hk (Zq Y (fun L s1 z=>?_) fun e s z=>(hX e s z).elim) he S;obtain⟨l,i,M,rv,b,C,r1⟩:=z;refine⟨M.kIn,?_⟩;have J:=ID.evo C;have m:oI X.K cl rz l i (fun _ _=>False) (fun c _ N=>c=.ref (cl R)/\∃j,Same b j/\DHp (gd b i) j N):=⟨gd b i,b,O,R,h,ig J.sub,r1.dvs J,fun j N e2 T=>⟨rfl,j,e2,T⟩⟩
  have hl:(L++[]).length=ps.length:=by rw[YU,<-rv.length];exact F.len _ _ _ _ m
  have y:=hb s1 L M.kIn hl;rw[YU]at y;refine Vo (XS (F.run X.A X.stack s1 i ⟨L,[]⟩ L l _ _ hr M.env0 y rv m) fun rr s' o=>?_);cases rr with
  |ok fl=>
   cases fl with
   |ret u=>obtain⟨_,_,_,_,_,_,_,z⟩:=o;exact z.elim
   |next=>exact False.elim o
   |brk=>exact False.elim o
   |cont=>exact False.elim o
  |error ev=>
   obtain⟨k2,a,a0,B,N,rfl,t,U,j,z1,z2⟩:=o;have ek:cl k2=cl R:=Value.ref.inj U;rw[ek]at t;exact go a a0 B _ _ _ j N s' M C t z1 z2
def vI(C:Addr)(g:Dv)(rz:List DV->Option Nat):DF->Option XR:=fun a=>(g a).bind fun x=>(rz (.v (.ins C [])::x)).map .ex
def uM{P:Program}{N:List Str}{f:Addr}{cl:Nat->Addr}{E:XK}{k:Nat}{g:Dv}
  (M:Mk K C f) (F:FnOk P w K mg base (CXc P w cl) k f fd ps (oI K cl rz)) (hr:Room (k+1) (bX (CXc P w cl) P w K mg base N qual scope f0 cd A outer s H E).A) (hg:Gl (bX (CXc P w cl) P w K mg base N qual scope f0 cd A outer s H E) x) (hm:mg x=some (.ref C)) (hb:Binds K fd ps []) (ha:iE (bX (CXc P w cl) P w K mg base N qual scope f0 cd A outer s H E) (e::es) g)
  (hd:nDb x:=by decide) (he:starEach (e::es) (bX (CXc P w cl) P w K mg base N qual scope f0 cd A outer s H E).env=(false,eval e (bX (CXc P w cl) P w K mg base N qual scope f0 cd A outer s H E).env)::starEach es (bX (CXc P w cl) P w K mg base N qual scope f0 cd A outer s H E).env:=by rfl) (i:(backTo pos (starEach es (bX (CXc P w cl) P w K mg base N qual scope f0 cd A outer s H E).env)).any (·.1)=false:=by rfl) :
  PX1 (bX (CXc P w cl) P w K mg base N qual scope f0 cd A outer s H E) cl E (.Return (some (.Call (.Name x p) (e::es) [] pos)) p2) (vI C g rz):=
 PS.imp (qp (v0 (X:=bX (CXc P w cl) P w K mg base N qual scope f0 cd A outer s H E) M F hr hg hm hb .nil C0 ha hd he i)) fun D σ H'=>un7 fun S F' B r h I Y=>by
  unfold vI at h;cases q:g B with
  |none=>rw[q]at h;cases h
  |some b=>
   rw[q,Ya]at h;cases c:rz (.v (.ins C [])::b)with
   |none=>rw[c]at h;cases h
   |some Z=>
    rw[c]at h;cases h;refine⟨S,F',B,b,q,I,fun vs U T Q r1=>fun y R hy m l=>?_⟩;have I1:=I.evo Q;have u:Evo S U T U (upd T R (.own y)):=Evo.side I1.toDHp m;have O:=Evo.laid (o:=.ins C R []) u.hp (a:=y) (by rw[aU (ZJ l)];exact hy);have L:=Q.trans (u.trans O);have z:=I.evo L;exact⟨gd _ _,_,.v (.ins C [])::b,Z,c,ig z.sub,.cons rfl (show Rep K _ _ _ from .ins a8 .nil) (by rw[YU];exact(r1.same (u.trans O).ext).dvs z),fun F2 H2 J j=>Y F2 H2 (L.ext.trans J) (z.toDHp.gd J j).hp⟩
section
variable  {a:Addr}   {it:Nat}  {b1 b2:Bool}{t t0 t1 t2 t3:Str}
def G4(ie it:Nat)(t:Str)(a:Addr):TS:=fun D b H=>b[ie]?=some (some (.ref a))/\∀c u,H c=none->D.nx (b.set it (some (.str t))) (upd H c u)
def zM{L J I E B A z y r1 r2 r3 r4 r5 r6 w s o m l g sp:Pos}{i0 i1 i2 i3 i4}(hN:X.N.Nodup)(R:X.N[ie]?=some er)(Q:X.N[it]?=some tn)(P:X.env.scope.names.lookup er=some .local)(f:X.env.scope.names.lookup tn=some .local)
  (x:ExC X.K C) (hc:ob.cls=.ref C) (hi:Gl X "isinstance") (e:X.mg "isinstance"=none) (hn:Gl X "int") (b:X.mg "int"=none) (g1:Gl X c1) (m1:X.mg c1=some (.ref A1)) (g2:Gl X c2) (m2:X.mg c2=some (.ref A2))
  (k1:kitOne X.K (.ref C) (.ref A1)=some b1) (k2:kitOne X.K (.ref C) (.ref A2)=some b2) (O:[t0,t1,t2,t3][(if b1 then 1 else 0)+2*(if b2 then 1 else 0)]?=some t)
  (Y:nDb c1:=by decide) (U:nDb c2:=by decide) (S:nDb er:=by decide) (T:nDc er:=by decide)
  (hs:swapsWithSole [.Name tn q1] (.Subscript (.List [.Constant (.str t0) i0 r1,.Constant (.str t1) i1 r2,.Constant (.str t2) i2 r3,.Constant (.str t3) i3 r4] r5) (.BinOp (.Call (.Name "int" L) [.Call (.Name "isinstance" J) [.Name er I,.Name c1 E] [] B] [] A) .Add (.BinOp (.Constant (.int 2) i4 r6) .Mult (.Call (.Name "int" z) [.Call (.Name "isinstance" y) [.Name er w,.Name c2 s] [] o] [] m) l) g) sp) pos.line X.env=pure false:=by rfl)
  (hw:swappedStores [.Name tn q1] (.Subscript (.List [.Constant (.str t0) i0 r1,.Constant (.str t1) i1 r2,.Constant (.str t2) i2 r3,.Constant (.str t3) i3 r4] r5) (.BinOp (.Call (.Name "int" L) [.Call (.Name "isinstance" J) [.Name er I,.Name c1 E] [] B] [] A) .Add (.BinOp (.Constant (.int 2) i4 r6) .Mult (.Call (.Name "int" z) [.Call (.Name "isinstance" y) [.Name er w,.Name c2 s] [] o] [] m) l) g) sp) X.env=pure none:=by rfl)
  (h1:(assignEach [.Name tn q1] X.env).map (·.2)=[assign (.Name tn q1) X.env]:=by rfl) :
  PS (X.caught a ob) (.Assign [.Name tn q1] (.Subscript (.List [.Constant (.str t0) i0 r1,.Constant (.str t1) i1 r2,.Constant (.str t2) i2 r3,.Constant (.str t3) i3 r4] r5) (.BinOp (.Call (.Name "int" L) [.Call (.Name "isinstance" J) [.Name er I,.Name c1 E] [] B] [] A) .Add (.BinOp (.Constant (.int 2) i4 r6) .Mult (.Call (.Name "int" z) [.Call (.Name "isinstance" y) [.Name er w,.Name c2 s] [] o] [] m) l) g) sp) pos) (G4 ie it t a):=by
 have Z:∀q,PE (X.caught a ob) (.Name er q) (eI ie):=fun q=>kJ R (.inl P) S T
 have e1:=cR (p:=J) (pos:=B) (nj (a:=a) x hc (c:=.ref A1) (fun u r=>r) k1) hi e b_ (au (Z I) (au (jA (v:=.ref A1) (pos:=E) g1 m1 rfl Y) ba)) (by decide) (by decide);have e2:=cR (p:=y) (pos:=o) (nj (a:=a) x hc (c:=.ref A2) (fun u r=>r) k2) hi e b_ (au (Z w) (au (jA (v:=.ref A2) (pos:=s) g2 m2 rfl U) ba)) (by decide) (by decide);have n1:=db (p:=L) (pos:=A) (X:=X.caught a ob) lx hn b boot_int (au e1 ba) (by decide) (by decide);have n2:=db (p:=z) (pos:=m) (X:=X.caught a ob) lx hn b boot_int (au e2 ba) (by decide) (by decide);have ls:=zz (X:=X.caught a ob) (pos:=r5) (au (jc (x:=t0) (j:=i0) (pos:=r1)) (au (jc (x:=t1) (j:=i1) (pos:=r2)) (au (jc (x:=t2) (j:=i2) (pos:=r3)) (au (jc (x:=t3) (j:=i3) (pos:=r4)) ba))));refine PS.imp (n9 (zk (pos:=sp) uH ls (EB (pos:=g) n1 (Ej (pos:=l) (u9 (i:=2) (j:=i4) (pos:=r6)) n2)) (fun _ _=>rfl)) (jJ (x:=tn) hN Q (.inl f) (.inr f)) hs hw h1) fun D σ H h=>?_;obtain⟨he,k⟩:=h;refine⟨by rw[YV];exact(show 4<=16777216 by decide),fun tp M=>?_⟩;refine⟨_,he,rfl,.inr ⟨b1,rfl,?_⟩⟩;refine⟨_,he,rfl,.inr ⟨b2,rfl,?_⟩⟩;refine⟨_,_,rfl,rfl,by decide,?_⟩;refine⟨_,_,rfl,rfl,.inl ⟨tp,_,_,.str t,rfl,rfl,SqL.of a8,?_,k tp _ M⟩⟩;revert O;cases b1<;>cases b2<;>intro O<;>cases O<;>rfl
def Gw(ie it io:Nat)(t:Str)(a:Addr):TS:=fun D b H=>b[ie]?=some (some (.ref a))/\b[it]?=some (some (.str t))/\b[io]?=some (some (.bl false))/\D.nx (b.set io (some (.bl false))) H
def Ay{s o m l i y w:Pos}{i0}{te:Str}(hN:X.N.Nodup)(Q:X.N[ie]?=some er)(P:X.N[it]?=some tn)(e:X.N[io]?=some on)(O:X.env.scope.names.lookup er=some .local)(M:X.env.scope.names.lookup tn=some .local)(b:X.env.scope.names.lookup on=some .local)
  (x:ExC X.K C) (hc:ob.cls=.ref C) (hi:Gl X "isinstance") (L:X.mg "isinstance"=none) (R:Gl X "ValueError") (J:X.mg "ValueError"=none) (k2:kitOne X.K (.ref C) (.type "ValueError")=some true) (hu:X.A.units+64<cLine) (B:okN 30 (.str t)=true) (z:okN 30 (.str te)=true) (I:eqd (.str t) (.str te)=false)
  (U:nDb er:=by decide) (Y:nDc er:=by decide) (S:nDb tn:=by decide) (f:nDc tn:=by decide) (T:nDb on:=by decide) (g:nDc on:=by decide)
  (hs:swapsWithSole [.Name on q1] (.BoolOp .Or [.Name on s,.Compare (.Name tn p4) [.Eq] [.Constant (.str te) i0 y] w,.UnaryOp .Not (.Call (.Name "isinstance" o) [.Name er m,.Name "ValueError" l] [] i) p2] p3) pos.line X.env=pure false:=by rfl) (hw:swappedStores [.Name on q1] (.BoolOp .Or [.Name on s,.Compare (.Name tn p4) [.Eq] [.Constant (.str te) i0 y] w,.UnaryOp .Not (.Call (.Name "isinstance" o) [.Name er m,.Name "ValueError" l] [] i) p2] p3) X.env=pure none:=by rfl)
  (h1:(assignEach [.Name on q1] X.env).map (·.2)=[assign (.Name on q1) X.env]:=by rfl) (E:bootBuiltins "ValueError"=some (.type "ValueError"):=by decide+kernel) :
  PS (X.caught a ob) (.Assign [.Name on q1] (.BoolOp .Or [.Name on s,.Compare (.Name tn p4) [.Eq] [.Constant (.str te) i0 y] w,.UnaryOp .Not (.Call (.Name "isinstance" o) [.Name er m,.Name "ValueError" l] [] i) p2] p3) pos) (Gw ie it io t a):=by
 have ve:∀q,PE (X.caught a ob) (.Name er q) (eI ie):=fun q=>kJ Q (.inl O) U Y
 have vo:PE (X.caught a ob) (.Name on s) (eI io):=kJ e (.inl b) T g;have Z:PE (X.caught a ob) (.Name tn p4) (eI it):=kJ P (.inl M) S f;have e2:=cR (p:=o) (pos:=i) (nj (a:=a) x hc (c:=.ty "ValueError") (fun u r=>r) k2) hi L b_ (au (ve m) (au (vz (v:=.ty "ValueError") (pos:=l) R J E rfl (by decide) (by decide)) ba)) (by decide) (by decide);refine PS.imp (n9 (CJ (pos:=p3) vo (CJ (pos:=p3) (qC (pos:=w) (uY (X:=X.caught a ob) hu) Z (jc (x:=te) (j:=i0) (pos:=y)) (gJ _)) (yB (op:=.Or) (pos:=p3) (xQ (pos:=p2) e2)))) (jJ (x:=on) hN e (.inl b) (.inr b)) hs hw h1) fun D σ H h=>?_;obtain⟨he,ht,ho,k⟩:=h;refine⟨_,ho,false,rfl,?_⟩;refine⟨_,ht,.str t,.str te,.str,.str,B,z,false,?_,?_⟩
 ·show V.bl (eqd (.str t) (.str te))=_;rw[I]
 ·exact⟨_,he,rfl,true,rfl,k⟩
def Gx(ie it io:Nat)(t:Str)(a:Addr):TS:=fun D b H=>b[ie]?=some (some (.ref a))/\∀c,(∀P F,DHp P F H->Evo P F H F c)->D.nx ((b.set it (some (.str t))).set io (some (.bl false))) c
def xv{s1 j i:Stmt}(h1:PS (X.caught a ob) s1 (G4 ie it t a))(h2:PS (X.caught a ob) j (tS2 ie io a))(o:PS (X.caught a ob) i (Gw ie it io t a))(n1:it≠ie)(n2:io≠ie)(n3:it≠io)(e:io<X.N.length)(c:it<X.N.length) :
  PSs (X.caught a ob) [s1,j,i] (Gx ie it io t a):=fun p s g H D I q=>by
 obtain⟨f,k⟩:=q;have m:g.length=X.N.length:=I.len;refine kx h1 (kx h2 (rf o)) p s g H D I ⟨f,fun y u h=>?_⟩;refine⟨by rw[YA n1];exact f,fun x w b=>?_⟩;refine⟨by rw[YA n2,YA n1];exact f,?_,Za (by rw[YQ,m];exact e),?_⟩
 ·rw[YA (ZJ n3)];exact Za (by rw[m];exact c)
 ·rw[List.set_set];exact k _ fun P F l=>(Evo.side l h).trans (Evo.side (Evo.side l h).hp b)
end
def vZ(rz:DF->Option Nat)(ie it io:Nat)(ts:Nat->Str)(g:Dw):DF->Option RES:=fun a=>match rz a with
 |some k=>(match a[ie]? with|some none=>some (.nx ((a.set it (some (.v (.str (ts k))))).set io (some (.v (.bl false)))))|_=>none)
 |none=>g a
def Cs{W:Addr}{cl:Nat->Addr}{rz:DF->Option Nat}{wn:Str}{it:Nat}{ts:Nat->Str}{np hpos:Pos}{body:List Stmt}{b0:Stmt}{c:List Stmt}{gn:Dw}(hX:∀e s,X.xe e s->False)
  (hR:FZ X body cl rz) (hn:PDS X body gn)
  (p:X.stack=X.env::X.outer) (hfr:X.env.frame=some X.env.locals) (hgw:Gl X wn) (hmw:X.mg wn=some (.ref W)) (hxm:∀k,exmOne X.K (.ref (cl k)) (.ref W)=some true)
  (hN:X.N.Nodup) (Q:X.N[ie]?=some er) (O:X.env.scope.names.lookup er=some .local) (hne:ie≠it) (hne2:ie≠io) (hsu:∀k a ob,ob.cls=.ref (cl k)->PSs (X.caught a ob) (b0::c) (Gx ie it io (ts k) a)) (hdw:nDb wn:=by decide) :
  PD1 X (.Try body [.ExceptHandler (some (.Name wn np)) (some er) (b0::c) hpos] [] [] tpos) (vZ rz ie it io ts gn):=by
 intro R s C H D I h;obtain⟨P,Fr,ρ,r,S,ID,kk⟩:=h;unfold vZ at S;split at S
 ·rename_i L hrz;split at S
  ·rename_i hne0;cases S;refine wpAny_Try_except (hR R s C H P Fr ρ L _ _ I hrz ID fun a a0 B F1 H1 s1 F2 A s' I1 ev1 t y hp2=>?_);have ID1:=ID.evo ev1;have fly:Heap.FlyingW B (X.env::X.outer) a (.ref (cl L)) a0 s'.heap:=p ▸ t.fly;have frf:∀b∈frs X.stack,H1 b=none:=I1.stkFree;have Z:∀(q:Heap),B.StaysIn q->s'.heap.UpToSlots q->Inv X R C A {s' with heap:=q}:=fun q hb5 l=>
    I1.call' (s':={s' with heap:=q}) t.os (t.un frf hb5 l) (t.hok.kept hb5) t.bare (fun _ z=>nomatch z)
   have nb:A a=none:=t.hok.miss fly.2.1;refine wpAny_looks_onW (by rw[I.ok.frames,p]) hfr fly fun h4 held U=>?_;refine wpAny_landsW held fun q g l=>?_;have J5:=Z q g.1 (U.trans l);have mk:∀(h:Heap) (ob:Obj),Inv X R C A {s' with heap:=h}->h.get? a=some ob->(∃vs,ob.data=.fields vs)->Inv (X.caught a ob) R C A {s' with heap:=h}:=fun h ob J e1 y=>by
    obtain⟨vs',y⟩:=y;refine J.caught e1 nb (fun z=>?_) (fun z=>?_) fun v z=>by rw[y]at z;cases z
    ·obtain⟨m,⟨o,es',ep',ho,hd',_⟩,_⟩:=J.loc;have f:h.get? X.env.locals=some o:=ho;rw[<-z,e1]at f;cases f;rw[y]at hd';cases hd'
    ·obtain⟨_,o,ho,nf⟩:=J.funs.mem z;have f:h.get? a=some o:=ho;rw[e1]at f;cases f;exact nf _ y
   obtain⟨Y,vs5,g5,c5,d5,_⟩:=g.first;have K5:=mk q Y J5 g5 ⟨_,d5⟩;refine wpAny_handleBy_cons (codeAny_handlers_test (iT K5 hgw hmw ?_ hdw)) (by intro z;cases z);refine(exm_one (M:=model X.prog X.w) (e:=a) K5.kIn (ExAt.type ⟨Y,g5,c5⟩) (hxm L)).here ?_;refine codeAny_handlers_suite_as (lands_againW g fun h6 x sm6=>?_);obtain⟨E,vs6,g6,c6,d6,_⟩:=x.first;have K6:=mk h6 E (Z h6 x.1 ((U.trans l).trans sm6)) g6 ⟨_,d6⟩;refine gp (X:=X.caught a E) (v:=.ref a) K6 hN Q (.inl O) rfl (fun s7 K7=>?_) (.inr O);have su:=hsu L a E c6 R s7 (C.set ie (some (.ref a))) A {nx:=fun T H'=>T=((C.set ie (some (.ref a))).set it (some (.str (ts L)))).set io (some (.bl false))/\∀P F,DHp P F A->Evo P F A F H',rt:=fun _ _=>False} K7
    ⟨Za (by rw[I.len];exact(Yj.mp Q).1),fun H' z=>⟨rfl,z⟩⟩
   refine Zq su (fun fl s8 z=>?_) fun _ _ z=>z.elim;cases fl with
   |ret u=>obtain⟨_,_,_,_,_,z⟩:=z;exact z.elim
   |brk=>obtain⟨_,_,_,z⟩:=z;exact z.elim
   |cont=>obtain⟨_,_,_,z⟩:=z;exact z.elim
   |next=>
    obtain⟨T,H',K8,rfl,ev⟩:=z;refine AS (X:=X) (K8.uncaught I.ok) hN Q O fun s9 J9=>⟨_,_,J9,?_⟩
    have E2:Evo P F1 H1 F2 A:=ID1.toDHp.gd y hp2;have ID2:=(ID1.evo E2).evo (ev P F2 E2.hp);refine kk _ F2 H' (ev1.ext.trans y) ?_;have ID3:=(ID2.setV it (v:=.str (ts L)) (d:=.str (ts L)) .str).setV io (v:=.bl false) (d:=.bl false) .bl;refine ID3.other (i:=ie) (by rw[YA (ZJ hne2),YA (ZJ hne)];exact hne0) (by simp) fun j hj=>?_;rw[YA (ZJ hj)];by_cases h1:j=io
    ·subst h1;simp only[Vp,YQ,XC]
    ·rw[YA (ZJ h1),YA (ZJ h1)];by_cases h2:j=it
     ·subst h2;simp only[Vp,YQ,XC]
     ·rw[YA (ZJ h2),YA (ZJ h2),YA (ZJ hj)]
  ·cases S
 ·exact wpAny_Try_except (Zq (hn R s C H D I ⟨P,Fr,ρ,r,S,ID,kk⟩) (fun fl s z=>by cases fl with|next=>exact Xz z|brk=>exact z|cont=>exact z|ret u=>exact z) fun e s z=>(hX e s z).elim)
def nV(i1 i2 i3:Nat)(f:Dd):DF->Option RES:=fun a=>(f a).bind fun
 |.tup [d1,d2,b]=>some (.nx (((a.set i3 (some (.v b))).set i2 (some (.v d2))).set i1 (some (.v d1))))
 |_=>none
def Fq{x y z:V}(r:Vals [x,y,z] us):∃u v w,us=[u,v,w]/\RelV x u/\RelV y v/\RelV z w:=by
 cases r with
 |cons r1 r2=>
  obtain⟨v,w,rfl,a,b⟩:=lQ r2;exact⟨_,v,w,rfl,r1,a,b⟩
def Ae{k:Nat}{x1 x2 x3:Str}{i1 i2 i3:Nat}(hc:X.calm=true)(hN:X.N.Nodup)(h1:X.N[i1]?=some x1)(h2:X.N[i2]?=some x2)(h3:X.N[i3]?=some x3)(l1:X.env.scope.names.lookup x1=some .local)(l2:X.env.scope.names.lookup x2=some .local)(M:X.env.scope.names.lookup x3=some .local)(he:PDE X e f)
  (hs:swapsWithSole [.Tuple [.Name x1 p1,.Name x2 p2,.Name x3 p3] k pos'] e pos.line X.env=pure false:=by rfl) (hw:swappedStores [.Tuple [.Name x1 p1,.Name x2 p2,.Name x3 p3] k pos'] e X.env=pure (some [x1,x2,x3]):=by rfl) :
  PD1 X (.Assign [.Tuple [.Name x1 p1,.Name x2 p2,.Name x3 p3] k pos'] e pos) (nV i1 i2 i3 f):=by
 intro y s B H D I h;obtain⟨P,F,C,r,a,O,kk⟩:=h;unfold nV at a;cases q:f C with
 |none=>rw[q]at a;cases a
 |some d=>
  rw[q,Ya]at a;split at a
  ·rename_i d1 d2 d3;cases a;refine Assign_Tuple_swapped (bv (he y s B H (fun v i=>∃j,Evo P F H j i/\Rep X.K j v (.tup [d1,d2,d3])) I ⟨P,F,C,_,q,O,fun v j i x r1=>⟨j,x,r1⟩⟩) fun u m v i Q Z q1=>?_) hs hw;obtain⟨j,x,r1⟩:=q1;have p:=O.evo x;cases r1 with
   |tup g1 g=>
    cases g with
    |cons ra g=>
    cases g with
    |cons rb g=>
    cases g with
    |cons rc g=>
    cases g;cases Z;obtain⟨its,rr,ht,hz⟩:=Q.tuple (SqT.of (p.sub _ _ g1));obtain⟨L,J,E,rfl,U,T,S⟩:=Fq rr;have go:∀c,Heap.ExtBut m.heap.objs.size m.heap c->wpAny (model X.prog X.w) X.A (assignInOrder [bindName X.env x3,bindName X.env x2,bindName X.env x1] [E,J,L]) (fun _ Y=>∃l R,Inv X y l R Y/\D.nx l R) X.xe {m with heap:=c }:=fun c z=>by
     have I2:Inv X y B i {m with heap:=c }:=Q.kept (t':=m.toks) fun b o e=>z b o (Yy (Yp e)) e
     refine XA (bindName_ (gp I2 hN h3 (.inl M) S (fun s3 I3=>?_) (.inr M)));refine XA (bindName_ (gp I3 hN h2 (.inl l2) T (fun s4 I4=>?_) (.inr l2)));refine XA (bindName_ (gp I4 hN h1 (.inl l1) U (fun s5 I5=>?_) (.inr l1)));exact assignInOrder_nil ⟨_,i,I5,kk _ j i x.ext (((p.setV i3 rc).setV i2 rb).setV i1 ra)⟩
    exact unpackItems_tuple (items:=#[L,J,E]) (I.ok.hd hc) ht fun c z=>go c z
  ·cases a
end L2
namespace L2
open PySem PySem.Spec PyProof.Rows
section
variable     {R:Kr}
variable   {n:Nat}{P:Nat->Value->Prop}{St:Nat->Heap->Prop}{T:String}
end
section
variable   {n:Nat}{P:Nat->Value->Prop}{St:Nat->Heap->Prop}{T:String}
end
section
variable   {rpos:Pos}{t:TA}
end
end L2
namespace L2
open PySem PySem.Spec PySem.W PyProof.Rows
section
variable  {k:Nat}{f:Addr}       {f0 f2:Dd}
end
section
variable  {k:Nat}{f:Addr}   {m:List (List D)->List D->List DV->Option (List (List D))}    {f0:Dd}
end
section
variable  {y:Expr} 
end
structure LamS where
 qual:Str
 params:Arguments
 body:Expr
 scope:Scope
 p:Str
 x:Str
 cell:Bool:=false
section
variable  {L:LamS}{f c' c:Addr}{uc:Value}
end
structure LamW where
 L:LamS
 t:Addr
 pos:Pos
section
variable  {W:LamW}{c:Addr}     
end
section
variable  {W:LamW}{F c:Hp}  
end
section
variable  {W:LamW}{st:Stmt}{cc:List Stmt}{h:Dw} 
end
section
variable  {W:LamW}{k n:Nat}{c:Addr}       
end
section
variable  {W:LamW}{k n:Nat}{c:Addr}     {pos1:Pos}  
end
section
variable  {W:LamW}{k:Nat}{f:Addr}        {g:Dv}{f0:Dd}
end
end L2
namespace L2
open PySem PySem.Spec PyProof.Rows
def ql:plainId "dict.update.loop"=true:=by decide+kernel
def AC:entryFor table "dict.update.loop"=some Builtin.«dict.update.loop»:=by kernel_rfl
section
def CD{its:Array Value}{n:Nat}{Q:Ko}(h:s.heap.get? l=some {cls:=.type "list",data:=.seq its n})(f:A.handled=none)
  (q:∀h' tk,(∀b o,s.heap.get? b=some o->h'.get? b=some o)->Q none {s with heap:=h',toks:=tk}):wpAny (model prog w) A (getAttr? (.ref l) "keys") Q E s:=by
 have x:Shared.TypeIs s (.ref l) "list":=⟨_,h,rfl⟩
 have z:typeLookup (Value.type "list") "__getattribute__"=pure (some (.builtin "list.__getattribute__")):=PySem.F.slot_list_getattribute.lookup;have j:typeLookup (Value.type "list") "keys"=pure none:=by rfl
 have y:typeLookup (Value.type "list") "__getattr__"=pure none:=by rfl
 unfold getAttr? getAttrBy? getAttrBy getAttrByItsOwn hookBefore callGetattribute
 wp_walk
 have i:=PySem.F.slot_list_getattribute.bind (.ref l);rw[i];refine Yw ?_;show wpAny _ _ (call (.builtin "list.__getattribute__") [.ref l,Value.str (Str.ofString "keys") s.toks]) _ _ _;refine Vd PySem.F.slot_list_getattribute (s:={s with toks:=s.toks+1}) ⟨_,h,rfl⟩ am_entry_list_getattribute (PySem.F.args_list_getattribute_2 _ _) (meets_getattribute_miss_list l its n #[] "keys" s.toks j (by decide)) ⟨h,f,fun h' tk e a=>?_⟩;obtain⟨t,u,g⟩:=a.there;have c:=a.keeps;unfold getattributeRaised hookBehind hookOrError attributeErrorLeaves;have p:Shared.TypeIs {s with heap:=h',toks:=tk} (.ref e) "AttributeError":=⟨_,g,rfl⟩
 have m:isSubtype (.type "AttributeError") (.type "AttributeError")=pure true:=sub_AttributeError
 wp_walk
 exact q h' tk c
def gv(prs:List (Key×Value)):List (Key×Value):=prs.foldl (fun a p=>stored a p.1 p.2) []
def sF(l:List (Key×Value))(p:Key×Value):gv (l++[p])=stored (gv l) p.1 p.2:=by unfold gv;rw[List.foldl_append];rfl
def uP(l:List (Key×Value))(k:Key)(v:Value):(stored l k v).length<=l.length+1:=by unfold stored;split<;>simp<;>omega
def uT(l:List (Key×Value)):(gv l).length<=l.length:=by
 have:∀(l a:List (Key×Value)),(l.foldl (fun a p=>stored a p.1 p.2) a).length<=a.length+l.length:=by
  intro l;induction l with
  |nil=>intro a;simp
  |cons p r ih=>intro a;have c:=ih (stored a p.1 p.2);have b:=uP a p.1 p.2;rw[List.foldl_cons,Yz];omega
 have h:=this l [];rw[YY,YZ]at h;exact h
def uW{p:Addr}{a:Value}{Q:Kl}(h:IsTup s.heap p #[a,u])(q:Q [a,u] s):wpAny (model prog w) A (Builtin.Dict.pairItems (.ref p)) Q E s:=by
 obtain⟨o,c,b,n,e⟩:=h;have f:Shared.TypeIs s (.ref p) "tuple":=⟨o,c,b⟩
 unfold Builtin.Dict.pairItems
 wp_walk
 rw[e];exact Yw (Yw q)
variable   {G:Array GenState->Array GenState->Prop}{n:Nat}{P:Nat->Value->Prop}{St:Nat->Shared->Prop}{R:Kr}
def xB(W:WalksS prog w A.in1 I fp wr G n P St)(d:Addr)(K:d∉fp)(Q:Heap)(c:∀b o,Q.get? b=some o->b∉d::wr)(prs:List (Key×Value))(hn:prs.length=n)(hn2:n<=1000)
  (C:∀i v,P i v->∃k u p y,prs[i]?=some (k,u)/\v=.ref p/\IsTup Q p #[y,u]/\(bE prog w).is k y=true) :
  ∀(k i:Nat) (s:Shared) (j:Int) (T:Tok),n-i=k->i<=n->St i s->(∀b o,Q.get? b=some o->s.heap.get? b=some o)->Heap.DictOf (bE prog w) s.heap d (gv (prs.take i))->
   (∀s',Moved (d::wr) G s s'->Heap.DictOf (bE prog w) s'.heap d (gv prs)->R (.ok (.ret .none)) s')->
   codeAny (model prog w) A (.builtin "dict.update.loop" ⟨[.ref d,.ref I,.int j T,.none],[]⟩) R s:=by
 have Z:d∉wr:=fun h=>K (W.sub _ h)
 have a:∀b∈wr,b∈d::wr:=fun b x=>Yd _ x
 have mv:∀{s s':Shared}{l:List (Key×Value)},Moved wr G s s'->Heap.DictOf (bE prog w) s.heap d l->Heap.DictOf (bE prog w) s'.heap d l:=fun m ⟨o,es,ep,e,r⟩=>⟨o,es,ep,m.heap d o Z e,r⟩
 intro k;induction k with
 |zero=>
  intro i s j T hk hi q N O hR;have Y:i=n:=by omega
  subst Y;refine ZP AC ?_;rw[Xt ql _];show wpAny _ A.in1 (pyNext (.ref I)>>=_) _ _ s;refine Yc (W.done s _ _ q fun s' z=>?_);show wpAny _ A.in1 (Builtin.Dict.addKeywords d []>>=fun _=>ret Value.none) _ _ s';refine Yc (show wpAny _ A.in1 (pure ()) _ _ s' from Yw ?_);refine Yw (hR s' (z.mono a) (mv z ?_));rw[<-hn,Xh]at O;exact O
 |succ k ih=>
  intro i s j T hk hi q N O hR;have J:i<n:=by omega
  refine ZP AC ?_;rw[Xt ql _];show wpAny _ A.in1 (pyNext (.ref I)>>=_) _ _ s;refine Yc (W.item i s _ _ J q fun v s' hP E z=>?_);obtain⟨ky,u,p,y,hd,rfl,S,X⟩:=C i v hP;have f:∀b o,Q.get? b=some o->s'.heap.get? b=some o:=fun b o e=>z.heap b o (fun x=>c b o e (a b x)) (N b o e)
  have B:IsTup s'.heap p #[y,u]:=by obtain⟨o,e1,e2⟩:=S;exact⟨o,f p o e1,e2⟩
  refine Yc (ZK (Yc (wpAny_tryCatch (uW B ?_))));show wpAny _ A.in1 (holding [y,u] (dictSet d y u)) _ _ s';refine ZK (wpAny_dictSet_pairs X (mv z O) (fun h' L g=>?_) (by have:=uT (prs.take i);rw[YF]at this;exact YC this (YC (Nat.min_le_left _ _) (YC (by omega) (show 1000<=sizeLine by decide)))));have et:prs.take i++[(ky,u)]=prs.take (i+1):=by rw[Vq,hd];rfl
  rw[<-sF _ (ky,u),et]at L;refine Yw ⟨plainId_quiet ql _,ih (i+1) _ _ _ (by omega) J (W.frame _ s' _ _ E (Vg _) fun b x o e=>?_) (fun b o e=>?_) L fun U H M=>?_⟩
  ·rw[g.2 b (fun h:b=d=>K (by rw[<-h];exact x))];exact e
  ·show h'.get? b=some o;rw[g.2 b (fun h:b=d=>c b o e (by rw[h];exact Yf))];exact f b o e
  ·refine hR U (Moved.trans W.gtrans ((z.mono a).then_heap (Vg _) fun b o x e=>?_) H) M;rw[g.2 b (fun h:b=d=>x (by rw[h];exact Yf))];exact e
end
abbrev EM(l:Addr):Obj:={cls:=.type "list_iterator",data:=.fields #[.ref l,.int 0 0]}
abbrev lK:Obj:={cls:=.type "dict",data:=.dict #[]}
def oK{items:Array Value}{x:Nat}{Z:Heap->Prop}(K:A.handled=none)(J:s.heap.get? l=some {cls:=.type "list",data:=.seq items x})
  (p:∀(R:Kr) (h1:Heap) (g:Nat),(∀b o,(s.heap.push lK).get? b=some o->h1.get? b=some o)->(∀h' tk,Z h'->(∀b o,s.heap.get? b=some o->h'.get? b=some o)->R (.ok (.ret .none)) {s with heap:=h',toks:=tk})->
   codeAny (model prog w) A.in1 (.builtin "dict.update.loop" ⟨[.ref s.heap.objs.size,.ref h1.objs.size,.int 0 0,.none],[]⟩) R {s with heap:=h1.push (EM l),toks:=g})
  (q:∀h' tk,Z h'->(∀b o,s.heap.get? b=some o->h'.get? b=some o)->Q (.ref s.heap.objs.size) {s with heap:=h',toks:=tk}) :
  wpAny (model prog w) A (call (.type "dict") [.ref l]) Q E s:=by
 have f:=PySem.F.kt_called_dict;obtain⟨m0,mr,hm⟩:=f.mro;have y1:=f.made;have Y:=f.sub;have X:=f.notType;have U:=f.canCreate;have T:=PySem.F.kt_typeCall_dict_1 (.ref l);refine Vo (codeAny_of_tree ?_);show wpAny _ _ (callAny (.type "dict") ⟨[.ref l],[]⟩) _ _ _;refine Yw ⟨Code.quiet_builtin _ (by decide+kernel),ZP PySem.F.entry_type_call ?_⟩;rw[Around.under_plain (weight_type_call_type "dict" [.ref l] []) rfl]
 repeat any_goals first|assumption|wp_step
 refine XS (kt_code_dict_new (.ref l) (E:=E) (Q₁:=fun obj c=>obj=.ref s.heap.objs.size/\c={s with heap:=s.heap.push lK}) ⟨rfl,rfl⟩) fun r c y=>?_;cases r with
 |error e=>exact y
 |ok N=>
  cases N with
  |ret obj=>
   obtain⟨rfl,rfl⟩:=y;have M:(s.heap.push lK).get? s.heap.objs.size=some lK:=Yo _ rfl;have L:Shared.TypeIs {s with heap:=s.heap.push lK} (.ref s.heap.objs.size) "dict":=⟨_,M,rfl⟩
   have S:=f.init.lookup;have P:=f.init.bind (.ref s.heap.objs.size)
   repeat any_goals first|assumption|wp_step
   refine XS (Va (R:=wants (fun r a=>r=.none/\∃h' tk,a={s with heap:=h',toks:=tk}/\Z h'/\∀b o,s.heap.get? b=some o->h'.get? b=some o) E) f.init.plain PySem.F.entry_dict_init (f.init.check _ _ _ _ _ _ _ _ L (PySem.F.args_dict_init_2 _ _) ?_)) fun m a h=>?_
   ·have u:(s.heap.push lK).get? l=some {cls:=.type "list",data:=.seq items x}:=Ye _ J;unfold Builtin.«dict.__init__» Builtin.Dict.selfAndRest Builtin.Dict.notOrdered;generalize i:Builtin.Dict.updateCommon=PI
    wp_walk
    subst i;show wpAny _ _ (Builtin.Dict.updateFrom "dict.__init__" s.heap.objs.size (.ref l) [] .none) _ _ _;unfold Builtin.Dict.updateFrom;generalize H:getAttr?=GA,i:pyIter=PI;have O:(Value.type "list" != Value.type "dict")=true:=by decide
    wp_walk
    subst H;refine CD u (by simpa using K) fun h1 g I=>?_
    wp_walk
    subst i;have z:h1.IsList l items:=⟨_,I _ _ u,rfl,x,rfl⟩
    refine wpAny_pyIter_list z (Yw ?_);exact⟨plainId_quiet ql _,p _ h1 g I fun h' tk C B=>⟨rfl,h',tk,rfl,C,B⟩⟩
   ·cases m with
    |error e=>exact h
    |ok j=>
     cases j with
     |ret v=>
      obtain⟨rfl,h',tk,rfl,C,B⟩:=h
      repeat any_goals first|assumption|wp_step
      exact q _ _ C B
     |_=>exact h.elim
  |_=>exact y.elim
def u_:bootBuiltins "dict"=some (.type "dict"):=by rfl
inductive PairsV (H:Hp):List V->List (Key×V)->Prop
 |nil:PairsV H [] []
 |cons {p:Addr}{k:Key}{x:V}{vs:List V}{kvs:List (Key×V)}:H p=some (.tup [kV k,x])->PairsV H vs kvs->PairsV H (.ref p::vs) ((k,x)::kvs)
def PairsV.length{kvs:List (Key×V)}(h:PairsV H vs kvs):vs.length=kvs.length:=by
 induction h with
 |nil=>rfl
 |cons _ _ ih=>exact Zn Nat.succ ih
def zp{P:Program}(ok:HOk P w H h){kvs:List (Key×V)}(j:PairsV H vs kvs):∀{its:List Value},Vals vs its->∃prs:List (Key×Value),KV kvs prs/\∀(i:Nat) v,its[i]?=some v->∃k u p a,prs[i]?=some (k,u)/\v=.ref p/\IsTup h p #[a,u]/\(bE P w).is k a=true:=by
 induction j with
 |nil=>intro its r;cases r;exact⟨[],.nil,fun i v e=>nomatch e⟩
 |cons l _ ih=>
  intro its r;cases r with
  |cons r1 r2=>
   obtain⟨prs,o,m⟩:=ih r2;cases r1;obtain⟨_,q,c,g,_⟩:=ok _ _ l;obtain⟨a,u,rfl,f,b⟩:=c.two;refine⟨(_,u)::prs,.cons ⟨rfl,b⟩ o,fun i v e=>?_⟩;cases i with
   |zero=>cases e;exact⟨_,u,_,a,rfl,rfl,g,tX f⟩
   |succ i=>exact m i v e
def DL{kvs:List (Key×V)}{prs:List (Key×Value)}(h:KV kvs prs):KV (gw [] kvs) (gv prs):=by
 have:∀{kvs:List (Key×V)}{prs:List (Key×Value)},KV kvs prs->∀{a:List (Key×V)}{b:List (Key×Value)},KV a b->KV (gw a kvs) (prs.foldl (fun a p=>stored a p.1 p.2) b):=fun h=>by
  induction h with
  |nil=>exact fun h=>h
  |cons r _ ih=>
   intro a b c;refine ih (a:=gX a _ _) (b:=stored b _ _) ?_;obtain⟨r1,r2⟩:=r;rw[<-r1];exact KV.put c _ r2
 exact this h .nil
def uN(a kvs:List (Key×V)):(gw a kvs).length<=a.length+kvs.length:=by
 unfold gw;induction kvs generalizing a with
 |nil=>simp
 |cons p r ih=>have b:=ih (gX a p.1 p.2);have h:=iG a p.1 p.2;rw[List.foldl_cons,Yz];omega
def uh(hcalm:X.calm=true):CallR X (.type "dict") (fun xs H Q=>∃a vs kvs,xs=[.ref a]/\H a=some (.lst vs)/\PairsV H vs kvs/\vs.length<=1000/\∀d,H d=none->Q (.ref d) (upd H d (.dK (gw [] kvs)))):=by
 intro pz s σ H xs us Q I r h;obtain⟨a,vs,kvs,rfl,ha,L,hl,q⟩:=h;obtain⟨u,rfl,ru⟩:=fE r;cases ru;obtain⟨_,f,n,B,M⟩:=I.hok _ _ ha;obtain⟨prs,kv,Y⟩:=zp I.hok L B;have FK:f.length=prs.length:=by rw[<-B.length,L.length];exact Paired.length kv
 have hh:=I.ok.hd hcalm;refine oK (Z:=fun x=>Heap.DictOf (bE X.prog X.w) x s.heap.objs.size (gv prs)) hh M (fun R l tk1 K hR=>?_) fun x tk hZ hk=>?_
 ·have hS:(s.heap.push lK).get? s.heap.objs.size=some lK:=Yo _ rfl;have S:=K _ _ hS;have j:s.heap.objs.size<l.objs.size:=Yp S;have m:a<s.heap.objs.size:=Yp M;have N:a≠l.objs.size:=Yy (ZN m j);have c:∀b o,s.heap.get? b=some o->l.get? b=some o:=fun b o e=>K b o (Ye _ e)
  have g:∀b o,s.heap.get? b=some o->b∉s.heap.objs.size::[l.objs.size]:=fun b o e=>by
   have:=Yp e;simp only[YH,Zc,List.not_mem_nil,or_false,not_or];exact⟨Yy this,Yy (ZN this j)⟩
  have O:(l.push (EM a)).IsList a f.toArray:=Heap.IsList.push ⟨_,c _ _ M,rfl,n,rfl⟩ _;have E:X.A.in1.in1.handled=none:=by simpa using hh
  have T:Heap.DictOf (bE X.prog X.w) (l.push (EM a)) s.heap.objs.size (gv (prs.take 0)):=by obtain⟨_,_,vs0,J,o,es,ep,e,rr⟩:=Aj (P:=X.prog) (w:=X.w) (H:=H) s.heap I.big;cases J;exact⟨o,es,ep,Ye _ (K _ _ e),rr⟩
  refine xB ((Walks.list E _ a N f.toArray).toS) s.heap.objs.size (by simp;exact⟨Yy j,ZL m⟩) s.heap g prs (by rw[<-FK,Yq]) (by rw[Yq,<-B.length];exact hl) (fun i v e=>Y i v (by simpa using e)) (f.toArray.size-0) 0 _ 0 0 (by omega) (YO _)
   ⟨⟨_,Yo _ rfl,rfl,rfl⟩,O⟩ (fun b o e=>Ye _ (c b o e)) T fun s' p U=>?_
  obtain⟨x,g',d',y,C⟩:=s';have eg:g'=s.gens:=p.gens;have ed:d'=s.drawn:=p.drawn;have eo:C=s.os:=p.os;subst eg ed eo;exact hR x y U fun b o e=>p.heap b o (g b o e) (Ye _ (c b o e))
 ·have z:(gw [] kvs).length<=sizeLine:=YC (uN [] kvs) (by rw[YY,YZ,<-L.length];exact YC hl (by decide));exact⟨.ref s.heap.objs.size,_,I.laid (a:=s.heap.objs.size) (o:=.dK (gw [] kvs)) (t':=tk) hk (Ym _) (Ai z (Zo.mpr (ZJ (Yy I.big))) (DL kv) hZ),rfl,q _ (I.hok.fresh (Ym _))⟩
end L2
namespace L2
open PySem PySem.Spec PySem.W PyProof.Rows
def gD:List D->Option (List (Key×D))
 |[]=>some []
 |.tup [k,v]::r=>(jt k).bind fun a=>(gD r).map fun l=>(a,v)::l
 |_=>none
def k6(a kvs:List (Key×D)):List (Key×D):=kvs.foldl (fun b p=>eC b p.1 p.2) a
def AH{F:Hp}{v:V}{d:D}{k:Key}(r:Rep K F v d)(h:jt d=some k):v=kV k:=by
 cases d with
 |int i=>cases h;cases r;rfl
 |str x=>cases h;cases r;rfl
 |_=>cases h
def wZ{F:Hp}(s:Same F H):∀{vs:List V}{ds:List D}{kvs:List (Key×D)},Reps K F vs ds->gD ds=some kvs->∃l,PairsV H vs l/\RepsK K F l kvs:=by
 intro vs ds kvs r;refine Reps.ind (M:=fun vs ds=>∀kvs,gD ds=some kvs->∃l,PairsV H vs l/\RepsK K F l kvs) (fun kvs h=>by cases h;exact⟨[],.nil,.nil⟩) (fun{v d vs ds} c _ ih kvs h=>?_) r kvs;unfold gD at h;split at h
 ·rename_i e;cases e
 ·rename_i k x p e;cases e;cases q:jt k with
  |none=>rw[q]at h;cases h
  |some w=>
   rw[q,Ya]at h;cases a:gD ds with
   |none=>rw[a]at h;cases h
   |some l=>
    rw[a]at h;cases h;obtain⟨u,m,j⟩:=ih l a;cases c with
    |tup e1 e2=>
     cases e2 with
     |cons i g=>
      cases g with
      |cons b f=>
       cases f;have o:=AH i q;subst o;exact⟨_,.cons (s _ _ e1) m,.cons b j⟩
 ·cases h
def ud{F:Hp}{l:List (Key×V)}{kvs:List (Key×D)}(h:RepsK K F l kvs){a:List (Key×V)}{b:List (Key×D)}(c:RepsK K F a b):RepsK K F (gw a l) (k6 b kvs):=
 RepsK.ind (M:=fun l kvs=>∀(a:List (Key×V)) (b:List (Key×D)),RepsK K F a b->RepsK K F (gw a l) (k6 b kvs)) (fun _ _ h=>h) (fun{k v d e f} r _ ih a b c=>ih _ _ (RepsK.put r c)) h a b c
def pS(f:Dl):DF->Option OD:=fun c=>(f c).bind fun b=>(gD b).bind fun a=>if b.length<=1000 then some (.dK (k6 [] a))else none
section
variable  {i:Expr}  {fk fd:Dd}
def oX{f:Dl}(hcalm:X.calm=true)(E:Gl X "dict")(B:X.mg "dict"=none)(h:PDO X e (asL f))(w:StO e X:=by rfl)(i:(backTo pos (starEach [] X.env)).any (·.1)=false:=by rfl) :
  PDO X (.Call (.Name "dict" p) [e] [] pos) (pS f):=
 (db (uh hcalm) E B u_ (au h ba w) (by decide) (by decide) w i).imp fun N H Q=>un7 fun P F o O b I k=>by
  unfold pS at b;cases q:f o with
  |none=>rw[q]at b;cases b
  |some m=>
  cases g:gD m with
  |none=>rw[q,Ya,g]at b;cases b
  |some z=>
  rw[q,Ya,g,Ya]at b;split at b
  ·rename_i C;cases b;refine⟨P,F,o,.lst m,by unfold asL;rw[q];rfl,I,fun a y T c A=>?_⟩;obtain⟨⟨S,R⟩,u,M,x⟩:=A;cases u with
   |lst vs=>
    have s:Reps X.K y vs m:=x;obtain⟨l,L,J⟩:=wZ c.hp.sub s g;refine⟨a,vs,l,rfl,M,L,by rw[s.length];exact C,fun d j=>?_⟩;exact k d y _ (c.trans (Evo.side c.hp j)) ⟨⟨c.back I.toDHp j,(c.hp.free j).1⟩,_,a8,ud J .nil⟩
   |_=>exact x.elim
  ·cases b
end
end L2
namespace L2
open PySem PySem.Spec PyProof.Rows
def gt:Stmt->Str
 |.FunctionDef n _ _ _ _ _ _ _ _ _=>n
 |_=>Str.empty
def fM(s:Stmt):List Str:=(defArgs s).args.map (·.arg)
def DH{b:Type}:Nat->(List b->Prop)->Prop
 |0,P=>P []
 |n+1,P=>∀a,DH n fun l=>P (a::l)
def AG{b:Type}:∀{n:Nat}{P:List b->Prop},DH n P->∀us,us.length=n->P us
 |0,_,h,us,e=>by rw[Zx.mp e];exact h
 |n+1,_,h,us,e=>by
  cases us with
  |nil=>cases e
  |cons a l=>exact AG (h a) l (Nat.succ.inj e)
def fnD(q:Str)(st:Stmt)(p:Value)(c:Addr):FuncData:=PySem.W.fnOf (gt st) q (defArgs st) (defBody st) (defScope st) .none .none .none p none (.ref c) .none
def fO(q:Str)(st:Stmt)(p:Value)(c:Addr):Obj:=⟨.type "function",none,.func (fnD q st p c),#[]⟩
def GN(q:Str)(st:Stmt)(p:Value)(c:Addr):Prop:=DH (fM st).length fun u=>bindArgs (fnD q st p c) ⟨u,[]⟩=pure ((fM st).zip u)
structure Df (K:PySem.W.Frag) (q:Str) (st:Stmt) (f:Addr) (d:FuncData):Prop where
 fn:Fun K (gt st) q st f d
 bd:Binds K d (fM st) []
def Fn{st:Stmt}{p:Value}{c f:Addr}(l:K.lookup f=some (fO q st p c))(h:PySem.W.codeIn K (.ref c) q=true)(k:PySem.W.keepIn K (.ref f)=true)(b:GN q st p c):Df K q st f (fnD q st p c):=
 ⟨DN l h k,.all (AG b)⟩
def xH(N P:List Str)(sc:Scope):Bool:=decide (sc.kind=.function)&&!sc.isCoroutine&&!sc.isGenerator&&decide N.Nodup&&decide (N.take P.length=P)&&(P.all fun x=>sc.names.lookup x == some .local||sc.names.lookup x == some .cell)&&sc.names.all fun y=>y.2 != .free
def scI(N:List Str){P:List Str}{s:Scope}(h:xH N P s=true:=by kernel_rfl):FnScope N P s:=by unfold xH at h;simp only[Yg,Yu,Vr,Yr,Bool.or_eq_true,Zz,bne_iff_ne]at h;obtain⟨⟨⟨⟨⟨⟨i,g⟩,f⟩,e⟩,c⟩,b⟩,a⟩:=h;exact⟨i,g,f,e,c,b,a⟩
section
variable{P:Program}      {st:Stmt}{f:Addr}  {k:Nat} 
def Df.okI(F:Df K q st f fd) (N:List Str) (b:∀{c:Value}{A:Around}{outer:List Env}{s:Shared}{H:Hp}{E:XK},Room k (A.deeper (envOfC q (defScope st) s.heap.objs.size f c))->
      PDS (bX CX0 P w K mg base N q (defScope st) f c A outer s H E).nox (defBody st) g) (h:xH N (fM st) (defScope st)=true:=by kernel_rfl):FnOk P w K mg base CX0 (k+1) f fd (fM st) (spD K (mOf N.length (fM st).length g)):=
  F.fn.okD (scI N h) fun _ _ _ _ _ _ a=>b a
def Df.okJ(F:Df K q st f fd) (N:List Str) (b:∀{c:Value}{A:Around}{outer:List Env}{s:Shared}{H:Hp}{E:XK},Room k (A.deeper (envOfC q (defScope st) s.heap.objs.size f c))->
      PDS (bX CX0 P w K mg base N q (defScope st) f c A outer s H E).nox (defBody st) g) (h:xH N (fM st) (defScope st)=true:=by kernel_rfl):FnOk P w K mg base CX0 (k+1) f fd (fM st) (spM K (rH N.length (fM st).length g)):=
  F.fn.okM (scI N h) AV fun _ _ _ _ _ _ a=>b a
def Df.thrI{cl:Nat->Addr}{g:DF->Option XR} (F:Df K q st f fd) (N:List Str) (b:∀{c:Value}{A:Around}{outer:List Env}{s:Shared}{H:Hp}{E:XK},Room k (A.deeper (envOfC q (defScope st) s.heap.objs.size f c))->
      PXS (bX (CXc P w cl) P w K mg base N q (defScope st) f c A outer s H E) cl E (defBody st) g) (h:xH N (fM st) (defScope st)=true:=by kernel_rfl):FnOk P w K mg base (CXc P w cl) (k+1) f fd (fM st) (oI K cl (rzX N.length (fM st).length g)):=
  F.fn.thrX (scI N h) fun _ _ _ _ _ _ a=>b a
end
section
variable    (i:Nat)
def ndI{N:List Str}(h:decide N.Nodup=true:=by kernel_rfl):N.Nodup:=YI h
section
variable(hN:X.N[i]?=some x:=by rfl) (hv:Vis X.env.scope x:=by first|exact Or.inl rfl|exact Or.inr (Or.inl rfl)|exact Or.inr (Or.inr rfl)) (hd:nDb x:=by decide) (hcd:nDc x:=by decide)
include hN hv hd hcd
def aA:PDE X (.Name x pos) (getV i):=C7 i (pv i hN hv hd hcd)
def ai:PDR X (.Name x pos) (aa i):=EK i (pv i hN hv hd hcd)
def aN:PDN X (.Name x pos) (ak i):=D_ i (pv i hN hv hd hcd)
def sr:nZ X (.Name x pos) (bR i):=BU i (pv i hN hv hd hcd)
def jm:PDI X tg (.Name x pos) (bA i):=Bp i (pv i hN hv hd hcd)
end
def aQ{g:Dv}(a:iE X es g)(hN:X.N[i]?=some x:=by rfl)(hv:Vis X.env.scope x:=by first|exact Or.inl rfl|exact Or.inr (Or.inl rfl)|exact Or.inr (Or.inr rfl))(hd:nDb x:=by decide)(hcd:nDc x:=by decide)
  (h:starEach (.Name x pos::es) X.env=(false,eval (.Name x pos) X.env)::starEach es X.env:=by rfl):iE X (.Name x pos::es) (aB i g):=GO i (pv i hN hv hd hcd) a h
def bP(he:PDE X e f)(hi:X.N[i]?=some x:=by rfl)(hx:Loc X.env.scope x:=by first|exact .inl rfl|exact .inr rfl)(h:swapsWith e (some (.Name x pos')) pos.line X.env=pure false:=by rfl)(a:FnL X x:=by first|exact .inl rfl|exact .inr rfl|assumption)(hN:decide X.N.Nodup=true:=by kernel_rfl) :
  PD1 X (.Assign [.Name x pos'] e pos) (aF i f):=D8 (ndI hN) hi hx he h a
def iZ(he:PDO X e fo)(hi:X.N[i]?=some x:=by rfl)(hx:Loc X.env.scope x:=by first|exact .inl rfl|exact .inr rfl)(h:swapsWith e (some (.Name x pos')) pos.line X.env=pure false:=by rfl)(a:FnL X x:=by first|exact .inl rfl|exact .inr rfl|assumption)(hN:decide X.N.Nodup=true:=by kernel_rfl) :
  PD1 X (.Assign [.Name x pos'] e pos) (bt i fo):=Bf (ndI hN) hi hx he h a
def ck(hi:X.N[i]?=some x:=by rfl)(hx:Loc X.env.scope x:=by first|exact .inl rfl|exact .inr rfl)(h:FnL X x:=by first|exact .inl rfl|exact .inr rfl|assumption)(hN:decide X.N.Nodup=true:=by kernel_rfl):PDG X (.Name x pos) [i] (setV i):=AE (ndI hN) hi hx h
def pgI(hi:X.N[i]?=some x:=by rfl)(hx:Loc X.env.scope x:=by first|exact .inl rfl|exact .inr rfl)(h:FnL X x:=by first|exact .inl rfl|exact .inr rfl|assumption)(hN:decide X.N.Nodup=true:=by kernel_rfl):PG X (.Name x pos) (lI i):=jJ (ndI hN) hi hx h
end
section
variable      {f:Dl}  {c:Dk}{e:Dd}   (i:Nat) (N:List Str) (own:Nat) (ix is:List Nat) (hi:PDI X tg iter f)
  (hg:∀{s H fp pz},PDG (blk X scope N s H fp pz) tg is st) (hc:∀{s H fp pz},nU (blk X scope N s H fp pz) ifs (tB' X.K c)) (he:∀{s H fp pz},PDE (blk X scope N s H fp pz) elt e)
section
variable(hcalm:X.calm=true:=by rfl) (b:Cu X.env.scope scope=true:=by kernel_rfl) (cp:B5 X.N scope N own ix=true:=by kernel_rfl) (his:(is.all fun j=>decide (j < own))=true:=by kernel_rfl) (hnames:decide (∀y∈scope.names,y.2=.local->scope.names.lookup y.1=some .local)=true:=by kernel_rfl)
  (hs:FsI iter X:=by intro _;rfl)
include hi hg hc he hcalm b cp his hnames hs
def eG:PDO X (.ListComp elt [⟨tg,iter,ifs,0⟩] scope pos) (asL (aw own ix f st c e)):=
 yL hcalm (yJ _ rfl b) (yc _ rfl cp) (uq his) hi (fun _ _ _ _=>hg) (fun _ _ _ _=>hc) (fun _ _ _ _=>he) (YI hnames) hs
end
section
variable(hiN:X.N[i]?=some y:=by rfl) (hx:Loc X.env.scope y:=by first|exact .inl rfl|exact .inr rfl) (hN:decide X.N.Nodup=true:=by kernel_rfl) (hcalm:X.calm=true:=by rfl) (b:Cu X.env.scope scope=true:=by kernel_rfl) (cp:B5 X.N scope N own ix=true:=by kernel_rfl) (his:(is.all fun j=>decide (j < own))=true:=by kernel_rfl) (hnames:decide (∀y∈scope.names,y.2=.local->scope.names.lookup y.1=some .local)=true:=by kernel_rfl)
  (hsw:swapsWith (.ListComp elt [⟨tg,iter,ifs,0⟩] scope pos) (some (.Name y py)) spos.line X.env=pure true:=by rfl)
  (hs:FsI iter X:=by intro _;rfl) (hf:FnL X y:=by first|exact .inl rfl|exact .inr rfl|assumption)
include hf hiN hx hN hi hg hc he hcalm b cp his hnames hs hsw
def Cb:PD1 X (.Assign [.Name y py] (.ListComp elt [⟨tg,iter,ifs,0⟩] scope pos) spos) (aF i (asO (asL (aw own ix f st c e)))):=
 uE (ndI hN) hiN hx hcalm (yJ _ rfl b) (yc _ rfl cp) (uq his) hi (fun _ _ _ _=>hg) (fun _ _ _ _=>hc) (fun _ _ _ _=>he) (YI hnames) hsw hs hf
def FU:PD1 X (.Assign [.Name y py] (.ListComp elt [⟨tg,iter,ifs,0⟩] scope pos) spos) (bt i (asL (aw own ix f st c e))):=
 sx (ndI hN) hiN hx hcalm (yJ _ rfl b) (yc _ rfl cp) (uq his) hi (fun _ _ _ _=>hg) (fun _ _ _ _=>hc) (fun _ _ _ _=>he) (YI hnames) hsw hs hf
end
end
section
variable  {k k':Nat}{f:Addr}   {sd:Stmt}  {g:Dv}    
def pcI(G:FnOk X.prog X.w X.K X.mg X.base CX0 k f fd (fM sd) (spD X.K m))(D:Df X.K q sd f fd/\X.mg (gt sd)=some (.ref f))(a:Room k' X.A)(i:iE X (e::es) g)(hx:gt sd=x:=by rfl)(b:k<=k':=by decide)(c:Gl X x:=by rfl)
  (hd:nDb x:=by decide) (he:starEach (e::es) X.env=(false,eval e X.env)::starEach es X.env:=by rfl) (h:(backTo pos (starEach es X.env)).any (·.1)=false:=by rfl):PDE X (.Call (.Name x p) (e::es) [] pos) (am m g):=
 AY G (a.mono b) c (hx ▸ D.2) D.1.fn.kp D.1.bd i hd he h
def poI(G:FnOk X.prog X.w X.K X.mg X.base CX0 k f fd (fM sd) (spD X.K m))(D:Df X.K q sd f fd/\X.mg (gt sd)=some (.ref f))(a:Room k' X.A)(i:iE X (e::es) g)(hx:gt sd=x:=by rfl)(b:k<=k':=by decide)(c:Gl X x:=by rfl)
  (hd:nDb x:=by decide) (he:starEach (e::es) X.env=(false,eval e X.env)::starEach es X.env:=by rfl) (h:(backTo pos (starEach es X.env)).any (·.1)=false:=by rfl):PDO X (.Call (.Name x p) (e::es) [] pos) (lY m g):=
 yI G (a.mono b) c (hx ▸ D.2) D.1.fn.kp D.1.bd i hd he h
end
def pfI{body:List Stmt}{f:Dl}(hi:PDI X tg iter f)(b:PDG X tg is st)(e:PDS X body g)(a:PassesOwn (model X.prog X.w) X.A X.env X.xe:=by exact PassesOwn.never)(c:X.calm=true:=by rfl)
  (h:FsI iter X:=by intro _;rfl):PD1 X (.For tg iter body [] pos) (cP f st g):=Az a c hi b e h
structure Rw where
 (i a m t h c:Nat)
def lno:Stmt->Int
 |.FunctionDef _ _ _ _ _ _ _ _ _ p=>p.line
 |_=>0
def kE(P:Params)(x:Str)(t:Nat)(v:Value):DictEntry:=⟨PyData.keyHash P x,.str x t,v⟩
def cO(n q:Str)(t:Nat)(l a:Int)(r:Nat)(c:Bool)(h:Nat)(f:Int):Obj:={cls:=.type "code",data:=.fields #[.str n t,.str q (t+1),.str "/claim/cut.py" (t+2),.int l 0,.int a 0,.int 0 0,.int 0 0,.int 3 0,.ref r,.bool true,.int f 0,.ref (r+1),.none,if c then .ref (r+2)else .none,if c then .ref (r+3)else .none,.ref (if c then r+4 else r+2),.int h 0,.int l 0,.str "/claim/cut.py" (h+1)]}
def eO(w a:Nat)(n:Str)(s x t u:Nat):Addr×Obj:=(a,{cls:=.type "type",data:=.cls {name:=n,bases:=[.ref w],mro:=[.ref a,.ref w,.type "ValueError",.type "Exception",.type "BaseException",.type "object"],ns:=s,qualname:=n},slots:=#[some (.ref x),none,some (.str n t),some (.str n u),some (.builtin "ValueError.__new__"),some (.bool true)]})
end L2
namespace My
open PySem PySem.Spec PyProof.Rows L2
noncomputable section
def FX(i:Nat):Stmt:=PySem.Challenge.pw_tieword_k35_whole_a_change.main.body.getD i (.Pass ⟨0,0,0,0⟩)
def top(i:Nat):Stmt:=if i<1000 then FX i else Bm (FX (i/1000)) (i%1000)
def rT:List Rw:=[⟨18,170,0,398,401,0⟩,⟨19,177,0,404,408,1⟩,⟨20,184,0,411,417,1⟩,⟨21,191,0,420,427,1⟩,⟨22,198,0,430,434,1⟩,⟨23,205,0,437,443,1⟩,⟨24,212,0,446,455,1⟩,⟨25000,224,0,470,473,0⟩,⟨25001,231,0,476,480,1⟩,⟨25002,238,0,483,489,1⟩,⟨26,259,0,511,515,1⟩,⟨28,266,1,520,524,1⟩,⟨30,271,2,529,532,0⟩,⟨31,276,2,535,538,0⟩,⟨32,281,2,541,544,0⟩,⟨34000,295,3,561,568,1⟩,⟨35,307,3,582,585,0⟩,⟨36,312,3,588,591,0⟩,⟨37,319,3,594,603,1⟩,⟨38,324,3,606,609,0⟩,⟨39,329,3,612,615,0⟩,⟨41,336,4,620,626,1⟩,⟨42,343,4,629,635,1⟩,⟨43,350,4,638,642,1⟩,⟨44,355,4,645,648,0⟩,⟨45,362,4,651,658,1⟩,⟨46,369,4,661,668,1⟩,⟨47,374,4,671,674,0⟩,⟨48,379,4,677,680,0⟩,⟨49,386,4,683,692,1⟩,⟨50,393,4,695,700,1⟩,⟨51,400,4,703,712,1⟩,⟨52,405,4,715,718,0⟩,⟨53,412,4,721,734,1⟩,⟨54,419,4,737,749,1⟩,⟨55,424,4,752,755,0⟩,⟨56,431,4,758,767,1⟩,⟨57,436,4,770,773,0⟩,⟨58,443,4,776,786,1⟩,⟨59,450,4,789,813,1⟩,⟨60,457,4,816,821,1⟩]
def row(i:Nat):Option Rw:=rT.find? (·.i == i)
def qn(i:Nat):Str:=(([(25000,"Web.__init__"),(25001,"Web.size"),(25002,"Web.between"),(34000,"Rule.__init__")]:List (Nat×Str)).lookup i).getD (gt (top i))
def mdl(m:Nat):Value:=match m with
 |0=>.str "tieword.webs" 390
 |1=>.str "tieword.turnings" 518
 |2=>.str "tieword.ways" 527
 |3=>.str "tieword.rules" 547
 |_=>.str "law_tieword_k35_whole_a_change" 618
def fA(i:Nat):Addr:=((row i).map (·.a+1)).getD 0
def dA(i:Nat):FuncData:=((row i).map fun r=>fnD (qn i) (top i) (mdl r.m) r.a).getD (fnD "" (top 0) .none 0)
def az:Addr:=299
set_option genInjectivity false
set_option genSizeOf false
set_option genSizeOfSpec false
structure Adr where
 C:Addr
 tk_MOST_PLACES:Tok
 tk_MOST_TIES:Tok
 tk_MOST_LETTERS:Tok
 x_WebError:Addr
 x_NoWay:Addr
 x_TooGreat:Addr
 x_BadName:Addr
 x_BadOrder:Addr
 x_BadPlace:Addr
 x_BadRule:Addr
 x_BadText:Addr
 x_BadTie:Addr
 x_NoWeb:Addr
 x_TooMany:Addr
 x_Twice:Addr
def cl2(a b:Addr):Nat->Addr
 |0=>a
 |_=>b
def ts2:Nat->Str
 |0 => "way"
 |_ => "great"
abbrev Adr.cl(t:Adr):Nat->Addr:=cl2 t.x_NoWay t.x_TooGreat
def DI(k:Nat):[("":Str),"way","great","both"][(if decide (k=0)then 1 else 0)+2*(if decide (1<=k)then 1 else 0)]?=some (ts2 k):=by
 cases k with
 |zero=>rfl
 |succ n=>simp[ts2]
def E_(k:Nat):eqd (.str (ts2 k)) (.str "")=false:=by
 cases k with
 |zero=>decide+kernel
 |succ n=>exact(by decide+kernel:eqd (.str "great") (.str "")=false)
def EG(k:Nat):okN 30 (.str (ts2 k))=true:=by
 cases k with
 |zero=>decide+kernel
 |succ n=>exact(by decide+kernel:okN 30 (.str "great")=true)
structure Txt (K:PySem.W.Frag) (mg:Str->Option Value) (t:Adr):Prop where
 dd:∀i,(row i).isSome=true->Df K (qn i) (top i) (fA i) (dA i)/\(i<1000->mg (gt (top i))=some (.ref (fA i)))
 cl:Cls K t.C
 mkC:Mk K t.C (fA 25000)
 mgC:mg "Web"=some (.ref t.C)
 na_joins:NoAttr K t.C "joins"
 na_kept:NoAttr K az "kept"
 na_kinds:NoAttr K t.C "kinds"
 na_left:NoAttr K az "left"
 na_right:NoAttr K az "right"
 na_ties:NoAttr K t.C "ties"
 cl_Rule:Cls K az
 mk_Rule:Mk K az (fA 34000)
 mg_Rule:mg "Rule"=some (.ref az)
 ic_Rule:IsC K az
 mt_Web_size:Meth K t.C "size" (fA 25001)
 mt_Web_between:Meth K t.C "between" (fA 25002)
 b_ValueError:mg "ValueError"=none
 b_all:mg "all"=none
 b_bool:mg "bool"=none
 b_dict:mg "dict"=none
 b_enumerate:mg "enumerate"=none
 b_int:mg "int"=none
 b_isinstance:mg "isinstance"=none
 b_len:mg "len"=none
 b_list:mg "list"=none
 b_max:mg "max"=none
 b_min:mg "min"=none
 b_range:mg "range"=none
 b_set:mg "set"=none
 b_sorted:mg "sorted"=none
 b_str:mg "str"=none
 b_tuple:mg "tuple"=none
 b_zip:mg "zip"=none
 c_MOST_PLACES:mg "MOST_PLACES"=some (.int 7 t.tk_MOST_PLACES)
 c_MOST_TIES:mg "MOST_TIES"=some (.int 12 t.tk_MOST_TIES)
 c_MOST_LETTERS:mg "MOST_LETTERS"=some (.int 3 t.tk_MOST_LETTERS)
 icC:IsC K t.C
 mx_WebError:mg "WebError"=some (.ref t.x_WebError)
 mx_NoWay:mg "NoWay"=some (.ref t.x_NoWay)
 mx_TooGreat:mg "TooGreat"=some (.ref t.x_TooGreat)
 mx_BadName:mg "BadName"=some (.ref t.x_BadName)
 mx_BadOrder:mg "BadOrder"=some (.ref t.x_BadOrder)
 mx_BadPlace:mg "BadPlace"=some (.ref t.x_BadPlace)
 mx_BadRule:mg "BadRule"=some (.ref t.x_BadRule)
 mx_BadText:mg "BadText"=some (.ref t.x_BadText)
 mx_BadTie:mg "BadTie"=some (.ref t.x_BadTie)
 mx_NoWeb:mg "NoWeb"=some (.ref t.x_NoWeb)
 mx_TooMany:mg "TooMany"=some (.ref t.x_TooMany)
 mx_Twice:mg "Twice"=some (.ref t.x_Twice)
 exC:∀k,ExC K (t.cl k)
 k0:∀k,PySem.W.kitOne K (.ref (t.cl k)) (.ref t.x_NoWay)=some (decide (k=0))
 k1:∀k,PySem.W.kitOne K (.ref (t.cl k)) (.ref t.x_TooGreat)=some (decide (1<=k))
 k3:∀k,PySem.W.kitOne K (.ref (t.cl k)) (.type "ValueError")=some true
 k4:∀k,PySem.W.kitAny K (.ref (t.cl k)) [.ref t.x_BadName,.ref t.x_BadOrder,.ref t.x_BadPlace,.ref t.x_BadRule,.ref t.x_BadText,.ref t.x_BadTie,.ref t.x_NoWeb,.ref t.x_TooMany,.ref t.x_Twice]=some false
 xm:∀k,PySem.W.exmOne K (.ref (t.cl k)) (.ref t.x_WebError)=some true
 xi:∀k,PySem.W.excIn K (t.cl k) ye "ValueError.__new__"=true
def Txt.F{t:Adr}(T:Txt K mg t)(i:Nat)(h:(row i).isSome=true:=by kernel_rfl):Df K (qn i) (top i) (fA i) (dA i):=(T.dd i h).1
def Txt.G{t:Adr}(T:Txt K mg t)(i:Nat)(h:(row i).isSome=true:=by kernel_rfl)(h2:decide (i<1000)=true:=by kernel_rfl):Df K (qn i) (top i) (fA i) (dA i)/\mg (gt (top i))=some (.ref (fA i)):=⟨(T.dd i h).1,(T.dd i h).2 (YI h2)⟩
variable{P:Program}     {t:Adr}
abbrev K0:PySem.W.Frag:=[]
abbrev Ok(P:Program)(w:World)(K:Kq)(mg:Ks)(base:Heap)(t:Adr)(i k:Nat)(m:Addr->List DV->Option DV):Prop:=FnOk P w K mg base CX0 k (fA i) (dA i) (fM (top i)) (spD K (m t.C))
def o7(C:Addr):DF->Option RES:=
  (ap (aF 2 (d2 aW (d2 fJ (d2 bb (d2 bb (d2 aW (aa 0) (cI 2147483647)) (cI 1)) (d2 fJ (d2 fJ (cI 7919) (aa 1)) (aa 1))) (cI 48271)) (cI 2147483629)))
  (bu (d2 aW (d2 fJ (aa 2) (aa 2)) (cI 998244353))))
def bp(C:Addr):List DV->Option DV:=mOf 3 2 (o7 C)
def bS(T:Txt K mg t):Ok P w K mg base t 42 1 bp:=
 (T.F 42).okI ["_law_cell","_law_k","_law_seed"] fun h=>(ag (bP 2 (aT (PDE.r (f7 (PDE.r (aS (PDE.r (aS (PDE.r (aT (ai 0) (PDE.r ac))) (PDE.r ac))) (PDE.r (f7 (PDE.r (f7 (PDE.r ac) (ai 1))) (ai 1))))) (PDE.r ac))) (PDE.r ac))) (ah (aY (aT (PDE.r (f7 (ai 2) (ai 2))) (PDE.r ac)))))
def iz(C:Addr):DF->Option RES:=
  (ap (bt 2 (asL (l6 (getV 1))))
  (ap (bt 3 (asL aC))
  (ap (d9 (asB (d2 gtI (d1 aG (ak 2)) (cI 0))) (iO 3 2 (d2 aW (am (bp C) (aB 0 (aV (d2 bb (cI 50) (d1 aG (ak 2))) nA))) (d1 aG (ak 2)))) 10)
  (i8 3))))
def bY(C:Addr):List DV->Option DV:=mOf 4 2 (iz C)
def gP(T:Txt K mg t):Ok P w K mg base t 46 2 bY:=
 (T.F 46).okI ["_law_seed","_law_many","_law_rest","_law_order"] fun h=>(ag (iZ 2 (ja rfl rfl T.b_list rfl T.b_range (aA 1))) (ag (iZ 3 (fu ax)) (ag (sY 10 PassesOwn.never (iy (PDE.r (aO rfl T.b_len (aN 2))) (PDE.r ac)) (ah (xF 3 2 (pv 3) (pv 2) (aT (PDE.r (pcI (bS T) (T.G 42) h (aQ 0 (ay (aS (PDE.r ac) (PDE.r (aO rfl T.b_len (aN 2)))) ao)))) (PDE.r (aO rfl T.b_len (aN 2))))))) (ah (iK 3 (pv 3))))))
def gE(C:Addr):DF->Option RES:=
  (ap (aF 2 (d2 aW (aa 0) (cI 6)))
  (ap (aF 3 (d2 bh (aa 1) (cI 2)))
  (ap (dIf (dN (asB (d2 eqD (ak 2) (cI 1))) (asB (d2 gtI (aa 1) (cI 1)))) (dC (asL (aw 1 [1] (bJ (aa 1)) (setV 0) aX (asT (ae (getV 0) (ae (d2 aW (d2 bb (aa 0) (cI 1)) (aa 1)) aC)))))) dNx)
  (ap (dIf (asB (d2 eqD (ak 2) (cI 2))) (dC (asL (aw 1 [] (mq (cI 1) (aa 1)) (setV 0) aX (asT (ae (cI 0) (ae (getV 0) aC)))))) dNx)
  (ap (dIf (asB (d2 eqD (ak 2) (cI 3))) (dC (asL (mw (asO (asL (aw 1 [] (bJ (d2 ff (aa 3) (cI 1))) (setV 0) aX (asT (ae (getV 0) (ae (d2 bb (aa 0) (cI 1)) aC)))))) (asO (asL (aw 1 [] (mq (aa 3) (d2 ff (d2 fJ (cI 2) (aa 3)) (cI 1))) (setV 0) aX (asT (ae (getV 0) (ae (d2 bb (aa 0) (cI 1)) aC))))))))) dNx)
  (ap (bt 4 (asL aC))
  (ap (dIf (dN (asB (d2 eqD (ak 2) (cI 4))) (asB (d2 ltd (ak 1) (cI 6)))) (cP (bJ (aa 1)) (setV 5) (tY 4 (aw 1 [5] (bJ (aa 5)) (setV 0) aX (asT (ae (getV 0) (ae (getV 1) aC)))))) dNx)
  (i8 4))))))))
def ee(C:Addr):List DV->Option DV:=mOf 6 2 (gE C)
def oA(T:Txt K mg t):Ok P w K mg base t 47 1 ee:=
 (T.F 47).okI ["_law_seed","_law_many","_law_how","_law_half","_law_ends","_law_k"] fun h=>(ag (bP 2 (aT (ai 0) (PDE.r ac))) (ag (bP 3 (bL (ai 1) (PDE.r ac))) (ag (bn (PDW.t (dZ (dX h.h64 (aN 2) (PDE.n ac)) (d_ (iy (ai 1) (PDE.r ac))))) (ah (dQ (eG ["_law_k","_law_many"] 1 [1] [0] (a_ rfl T.b_range (ai 1)) (ck 0) cC (aZ (af (aA 0) (af (aT (PDE.r (aS (ai 0) (PDE.r ac))) (ai 1)) ax)))))) aK) (ag (bn (dX h.h64 (aN 2) (PDE.n ac)) (ah (dQ (eG ["_law_k"] 1 [] [0] (jw rfl T.b_range (PDE.r ac) (ai 1)) (ck 0) cC (aZ (af ac (af (aA 0) ax)))))) aK) (ag (bn (dX h.h64 (aN 2) (PDE.n ac)) (ah (dQ (kB (PDE.r (PDO.v (eG ["_law_k"] 1 [] [0] (a_ rfl T.b_range (PDE.r (fZ (ai 3) (PDE.r ac)))) (ck 0) cC (aZ (af (aA 0) (af (aS (ai 0) (PDE.r ac)) ax)))))) (PDE.r (PDO.v (eG ["_law_k"] 1 [] [0] (jw rfl T.b_range (ai 3) (PDE.r (fZ (PDE.r (f7 (PDE.r ac) (ai 3))) (PDE.r ac)))) (ck 0) cC (aZ (af (aA 0) (af (aS (ai 0) (PDE.r ac)) ax))))))))) aK) (ag (iZ 4 (fu ax)) (ag (bn (PDW.t (dZ (dX h.h64 (aN 2) (PDE.n ac)) (d_ (gK h.h64 (aN 1) (PDE.n ac))))) (ah (pfI (a_ rfl T.b_range (ai 1)) (ck 5) (ah (oV 4 (pv 4) (eG ["_law_j","_law_k"] 1 [5] [0] (a_ rfl T.b_range (ai 5)) (ck 0) cC (aZ (af (aA 0) (af (aA 1) ax)))))))) aK) (ah (iK 4 (pv 4))))))))))
def jv(C:Addr):DF->Option RES:=
  (ap (aF 2 (d2 aW (d2 fJ (d2 bb (aa 1) (cI 1)) (cI 618033988749894848204586834367)) (d2 tz (cI 10) (cI 30))))
  (ap (aF 3 (d2 aW (am (bp C) (aB 0 (aV (cI 3) nA))) (cI 5)))
  (ap (dIf (asB (d2 eqD (ak 3) (cI 4))) (bu (d2 aW (aa 0) (d2 tz (cI 10) (cI 30)))) dNx)
  (bu (d2 ixD (asO (asL (ae (getV 2) (ae (getV 2) (ae (d2 aW (d2 bb (aa 2) (cI 1)) (d2 tz (cI 10) (cI 30))) (ae (cI 0) aC)))))) (aa 3))))))
def b6(C:Addr):List DV->Option DV:=mOf 4 2 (jv C)
def mh(T:Txt K mg t):Ok P w K mg base t 45 2 b6:=
 (T.F 45).okI ["_law_cell","_law_seed","_law_far","_law_how"] fun h=>(ag (bP 2 (aT (PDE.r (f7 (PDE.r (aS (ai 1) (PDE.r ac))) (PDE.r ac))) (PDE.r (mT (PDE.r ac) (PDE.r ac))))) (ag (bP 3 (aT (PDE.r (pcI (bS T) (T.G 42) h (aQ 0 (ay ac ao)))) (PDE.r ac))) (ag (bn (dX h.h64 (aN 3) (PDE.n ac)) (ah (aY (aT (ai 0) (PDE.r (mT (PDE.r ac) (PDE.r ac)))))) aK) (ah (aY (aq (PDE.r (PDO.v (fu (af (aA 2) (af (aA 2) (af (aT (PDE.r (aS (ai 2) (PDE.r ac))) (PDE.r (mT (PDE.r ac) (PDE.r ac)))) (af ac ax))))))) (ai 3)))))))
def jp(C:Addr):DF->Option RES:=
  (ap (aF 2 (fun _=>some (.str "abcdefghijklmnopqrstuvwxyz")))
  (ap (aF 3 (d2 AF (fun _=>some (.str "")) (asO (asL (aw 1 [2,0] (bJ (cI 3)) (setV 0) aX (d2 ixD (aa 1) (d2 aW (d2 bb (d2 bh (aa 2) (cI 9)) (d2 fJ (cI 7) (aa 0))) (cI 26))))))))
  (ap (aF 4 (d2 bb (cI 1) (d2 aW (aa 0) (cI 3))))
  (ap (dIf (asB (d2 eqD (d2 aW (d2 bh (aa 0) (cI 3)) (cI 4)) (cI 0))) (bu (slS (aa 3) bNo (bI (d2 bb (cI 1) (d2 aW (aa 1) (cI 3)))))) dNx)
  (ap (aF 5 (d2 aW (d2 bh (aa 0) (cI 3)) (aa 4)))
  (ap (aF 6 (d2 ixD (aa 2) (d2 aW (d2 bb (d2 bb (d2 bh (aa 0) (cI 9)) (d2 fJ (cI 7) (aa 5))) (aa 1)) (cI 26))))
  (bu (d2 bb (d2 bb (slS (aa 3) bNo (bI (getV 5))) (aa 6)) (slS (aa 3) (bI (d2 bb (aa 5) (cI 1))) (bI (getV 4)))))))))))
def cK(C:Addr):List DV->Option DV:=mOf 7 2 (jp C)
def sU(T:Txt K mg t):Ok P w K mg base t 44 1 cK:=
 (T.F 44).okI ["_law_seed","_law_which","_law_letters","_law_base","_law_size","_law_place","_law_sign"] fun h=>(ag (bP 2 fH) (ag (bP 3 (Cw (PDE.n fH) (PDE.n (PDO.v (eG ["_law_k","_law_letters","_law_seed"] 1 [2,0] [0] (a_ rfl T.b_range (PDE.r ac)) (ck 0) cC (aq (ai 1) (PDE.r (aT (PDE.r (aS (PDE.r (bL (ai 2) (PDE.r ac))) (PDE.r (f7 (PDE.r ac) (ai 0))))) (PDE.r ac))))))))) (ag (bP 4 (aS (PDE.r ac) (PDE.r (aT (ai 0) (PDE.r ac))))) (ag (bn (dX h.h64 (PDE.n (aT (PDE.r (bL (ai 0) (PDE.r ac))) (PDE.r ac))) (PDE.n ac)) (ah (aY (lp (ai 3) em (cX (aS (PDE.r ac) (PDE.r (aT (ai 1) (PDE.r ac)))))))) aK) (ag (bP 5 (aT (PDE.r (bL (ai 0) (PDE.r ac))) (ai 4))) (ag (bP 6 (aq (ai 2) (PDE.r (aT (PDE.r (aS (PDE.r (aS (PDE.r (bL (ai 0) (PDE.r ac))) (PDE.r (f7 (PDE.r ac) (ai 5))))) (ai 1))) (PDE.r ac))))) (ah (aY (aS (PDE.r (aS (PDE.r (lp (ai 3) em (cX (aA 5)))) (ai 6))) (PDE.r (lp (ai 3) (cX (aS (ai 5) (PDE.r ac))) (cX (aA 4)))))))))))))
def o8(C:Addr):DF->Option RES:=
  (ap (aF 3 (am (bY C) (aB 1 (aV (getV 2) nA))))
  (ap (aF 4 (d2 aW (d2 fJ (d2 bb (aa 1) (cI 1)) (cI 618033988749894848204586834367)) (d2 tz (cI 10) (cI 30))))
  (ap (bt 5 (asL (aw 2 [3,4,1] (bK (am (ee C) (aB 1 (aB 2 nA)))) (b5 [0,1]) aX (asT (ae (d2 ixD (aa 2) (aa 0)) (ae (d2 ixD (aa 2) (aa 1)) (ae (getV 3) (ae (d2 eqD (d2 aW (d2 bh (aa 4) (cI 6)) (cI 2)) (cI 1)) aC))))))))
  (ap (cP (bA 0) (setV 6) (ap (aF 7 (am (bp C) (aB 6 (aV (cI 8) nA))))
  (dIf (dN (asB (d2 gtI (aa 2) (cI 1))) (dN (asB (d2 ltd (d1 aG (ak 5)) (cI 12))) (orT (asB (d2 eqD (d2 aW (aa 1) (cI 6)) (cI 0))) (asB (d2 eqD (d2 aW (aa 7) (cI 6)) (cI 0)))))) (ap (aF 8 (d2 aW (d2 bh (aa 7) (cI 6)) (aa 2)))
  (ap (aF 9 (d2 aW (d2 bb (d2 bb (aa 8) (cI 1)) (d2 aW (d2 bh (aa 7) (cI 60)) (d2 ff (aa 2) (cI 1)))) (aa 2)))
  (ap (eD 5 (asT (ae (getV 8) (ae (getV 9) (ae (am (b6 C) (aB 6 (aB 1 nA))) (ae (d2 eqD (d2 aW (d2 bh (aa 7) (cI 7)) (cI 3)) (cI 0)) aC))))))
  (dIf (dN (asB (d2 eqD (d2 aW (d2 bh (aa 7) (cI 21)) (cI 5)) (cI 0))) (asB (d2 ltd (d1 aG (ak 5)) (cI 12)))) (eD 5 (d2 ixD (aa 5) (d1 tE (cI 1)))) dNx)))) dNx)))
  (ap (bt 10 (asL aC))
  (ap (cP (bJ (aa 2)) (setV 11) (ap (aF 12 (cI 0))
  (ap (dIf (asB (d2 eqD (d2 aW (d2 bh (aa 1) (cI 12)) (cI 2)) (cI 1))) (aF 12 (d2 aW (am (bp C) (aV (d2 ixD (aa 0) (d2 aW (aa 11) (d1 aG (ak 0)))) (aV (d2 bb (cI 20) (aa 11)) nA))) (cI 3))) dNx)
  (eD 10 (am (cK C) (aB 1 (aB 12 nA)))))))
  (kS 5 (kS 10 (bu (asT (ae (getV 10) (ae (getV 5) aC))))))))))))
def f_(C:Addr):List DV->Option DV:=mOf 13 3 (o8 C)
def n5(T:Txt K mg t):Ok P w K mg base t 48 3 f_:=
 (T.F 48).okI ["_law_cells_here","_law_seed","_law_many","_law_order","_law_far","_law_ties","_law_cell","_law_draw","_law_one_here","_law_other","_law_kinds","_law_k","_law_which"] fun h=>(ag (bP 3 (pcI (gP T) (T.G 46) h (aQ 1 (ay (aA 2) ao)))) (ag (bP 4 (aT (PDE.r (f7 (PDE.r (aS (ai 1) (PDE.r ac))) (PDE.r ac))) (PDE.r (mT (PDE.r ac) (PDE.r ac))))) (ag (FU 5 ["_law_one_here","_law_other","_law_order","_law_far","_law_seed"] 2 [3,4,1] [0,1] (eM (pcI (oA T) (T.G 47) h (aQ 1 (aQ 2 ao)))) (cL (is:=[0,1]) rfl (ar (pgI 0) (ar (pgI 1) cN))) cC (aZ (af (aq (ai 2) (ai 0)) (af (aq (ai 2) (ai 1)) (af (aA 3) (af (vx h.h64 (PDE.n (aT (PDE.r (bL (ai 4) (PDE.r ac))) (PDE.r ac))) (PDE.n ac)) ax)))))) (ag (pfI (jm 0) (ck 6) (ag (bP 7 (pcI (bS T) (T.G 42) h (aQ 6 (ay ac ao)))) (ah (bn (PDW.t (dZ (iy (ai 2) (PDE.r ac)) (dZ (gK h.h64 (PDE.n (aO rfl T.b_len (aN 5))) (PDE.n ac)) (d_ (PDW.t (dU (dX h.h64 (PDE.n (aT (ai 1) (PDE.r ac))) (PDE.n ac)) (el (dX h.h64 (PDE.n (aT (ai 7) (PDE.r ac))) (PDE.n ac))))))))) (ag (bP 8 (aT (PDE.r (bL (ai 7) (PDE.r ac))) (ai 2))) (ag (bP 9 (aT (PDE.r (aS (PDE.r (aS (ai 8) (PDE.r ac))) (PDE.r (aT (PDE.r (bL (ai 7) (PDE.r ac))) (PDE.r (fZ (ai 2) (PDE.r ac))))))) (ai 2))) (ag (cU 5 (pv 5) (aZ (af (aA 8) (af (aA 9) (af (pcI (mh T) (T.G 45) h (aQ 6 (aQ 1 ao))) (af (vx h.h64 (PDE.n (aT (PDE.r (bL (ai 7) (PDE.r ac))) (PDE.r ac))) (PDE.n ac)) ax)))))) (ah (bn (PDW.t (dZ (dX h.h64 (PDE.n (aT (PDE.r (bL (ai 7) (PDE.r ac))) (PDE.r ac))) (PDE.n ac)) (d_ (gK h.h64 (PDE.n (aO rfl T.b_len (aN 5))) (PDE.n ac))))) (ah (cU 5 (pv 5) (aq (ai 5) (PDE.r (Aw ac))))) aK))))) aK)))) (ag (iZ 10 (fu ax)) (ag (pfI (a_ rfl T.b_range (ai 2)) (ck 11) (ag (bP 12 ac) (ag (bn (dX h.h64 (PDE.n (aT (PDE.r (bL (ai 1) (PDE.r ac))) (PDE.r ac))) (PDE.n ac)) (ah (bP 12 (aT (PDE.r (pcI (bS T) (T.G 42) h (ay (aq (ai 0) (PDE.r (aT (ai 11) (PDE.r (aO rfl T.b_len (aN 0)))))) (ay (aS (PDE.r ac) (ai 11)) ao)))) (PDE.r ac)))) aK) (ah (cU 10 (pv 10) (pcI (sU T) (T.G 44) h (aQ 1 (aQ 12 ao)))))))) (ah (kq 5 (kq 10 (aY (aZ (af (aA 10) (af (aA 5) ax)))))))))))))
def l9(C:Addr):DF->Option RES:=
  (ap (bt 4 (asL (eh (gf 0 0))))
  (ap (bt 5 (asL (eh (gf 0 1))))
  (ap (d9 (asB (d2 ltd (d1 aG (ak 4)) (ak 3))) (eD 4 (d2 ixD (gf 0 0) (d2 aW (am (bp C) (aB 2 (aV (d1 aG (ak 4)) nA))) (d1 aG (gf 0 0))))) 100)
  (ap (cP (bA 1) (setV 6) (ap (aF 7 (am (bp C) (aB 6 (aV (cI 9) nA))))
  (dIf (dN (asB (d2 ltd (d1 aG (ak 5)) (cI 12))) (dN (asB (d2 gtI (aa 3) (cI 1))) (asB (d2 gtI (d2 aW (aa 7) (cI 3)) (cI 0))))) (ap (aF 8 (d2 aW (d2 bh (aa 7) (cI 3)) (aa 3)))
  (ap (aF 9 (d2 aW (d2 bb (d2 bb (aa 8) (cI 1)) (d2 aW (d2 bh (aa 7) (cI 30)) (d2 ff (aa 3) (cI 1)))) (aa 3)))
  (ap (eD 5 (asT (ae (getV 8) (ae (getV 9) (ae (am (b6 C) (aB 6 (aB 2 nA))) (ae (d2 eqD (d2 aW (d2 bh (aa 7) (cI 7)) (cI 3)) (cI 0)) aC))))))
  (dIf (dN (asB (d2 eqD (d2 aW (d2 bh (aa 7) (cI 300)) (cI 4)) (cI 0))) (asB (d2 gtI (d1 aG (gf 0 1)) (cI 0)))) (cr 5 (d1 tE (cI 1)) (asT (ae (getV 8) (ae (getV 9) (ae (d2 ixD (d2 ixD (gf 0 1) (cI 0)) (cI 2)) (ae (d2 ixD (d2 ixD (gf 0 1) (cI 0)) (cI 3)) aC)))))) dNx)))) dNx)))
  (ap (aF 10 (am (bY C) (aV (d2 bh (aa 2) (cI 5)) (aV (d1 aG (ak 4)) nA))))
  (ap (kS 5 (aF 11 (asO (asL (aw 4 [10] (bK (getV 5)) (b5 [0,1,2,3]) aX (asT (ae (d2 ixD (aa 4) (aa 0)) (ae (d2 ixD (aa 4) (aa 1)) (ae (getV 2) (ae (getV 3) aC))))))))))
  (ap (aF 12 (asO (asL (aw 1 [4,10] (bJ (d1 aG (ak 4))) (setV 0) aX (d2 ixD (aa 1) (d2 f8 (ak 2) (ak 0)))))))
  (bu (asT (ae (getV 12) (ae (getV 11) (ae (asO (asL (slL (aa 10) bNo (bI (d1 aG (gf 0 0)))))) aC))))))))))))
def fS(C:Addr):List DV->Option DV:=mOf 13 4 (l9 C)
def qz(T:Txt K mg t):Ok P w K mg base t 52 3 fS:=
 (T.F 52).okI ["_law_small","_law_cells_here","_law_seed","_law_many","_law_kinds","_law_ties","_law_cell","_law_draw","_law_one_here","_law_other","_law_order","_law_led","_law_stood"] fun h=>(ag (iZ 4 (gs rfl T.b_list (mf 0 0 (pv 0)))) (ag (iZ 5 (gs rfl T.b_list (mf 0 1 (pv 0)))) (ag (sY 100 PassesOwn.never (gK h.h64 (PDE.n (aO rfl T.b_len (aN 4))) (aN 3)) (ah (cU 4 (pv 4) (aq (mf 0 0 (pv 0)) (PDE.r (aT (PDE.r (pcI (bS T) (T.G 42) h (aQ 2 (ay (aO rfl T.b_len (aN 4)) ao)))) (PDE.r (aO rfl T.b_len (PDR.n (mf 0 0 (pv 0))))))))))) (ag (pfI (jm 1) (ck 6) (ag (bP 7 (pcI (bS T) (T.G 42) h (aQ 6 (ay ac ao)))) (ah (bn (PDW.t (dZ (gK h.h64 (PDE.n (aO rfl T.b_len (aN 5))) (PDE.n ac)) (dZ (iy (ai 3) (PDE.r ac)) (d_ (iy (PDE.r (aT (ai 7) (PDE.r ac))) (PDE.r ac)))))) (ag (bP 8 (aT (PDE.r (bL (ai 7) (PDE.r ac))) (ai 3))) (ag (bP 9 (aT (PDE.r (aS (PDE.r (aS (ai 8) (PDE.r ac))) (PDE.r (aT (PDE.r (bL (ai 7) (PDE.r ac))) (PDE.r (fZ (ai 3) (PDE.r ac))))))) (ai 3))) (ag (cU 5 (pv 5) (aZ (af (aA 8) (af (aA 9) (af (pcI (mh T) (T.G 45) h (aQ 6 (aQ 2 ao))) (af (vx h.h64 (PDE.n (aT (PDE.r (bL (ai 7) (PDE.r ac))) (PDE.r ac))) (PDE.n ac)) ax)))))) (ah (bn (PDW.t (dZ (dX h.h64 (PDE.n (aT (PDE.r (bL (ai 7) (PDE.r ac))) (PDE.r ac))) (PDE.n ac)) (d_ (iy (PDE.r (aO rfl T.b_len (PDR.n (mf 0 1 (pv 0))))) (PDE.r ac))))) (ah (eP 5 (pv 5) (Aw ac) (aZ (af (aA 8) (af (aA 9) (af (aq (PDE.r (aq (mf 0 1 (pv 0)) (PDE.r ac))) (PDE.r ac)) (af (aq (PDE.r (aq (mf 0 1 (pv 0)) (PDE.r ac))) (PDE.r ac)) ax))))))) aK))))) aK)))) (ag (bP 10 (pcI (gP T) (T.G 46) h (ay (bL (ai 2) (PDE.r ac)) (ay (aO rfl T.b_len (aN 4)) ao)))) (ag (kq 5 (Cb 11 ["_law_one_here","_law_other","_law_kind_here","_law_oneway","_law_order"] 4 [10] [0,1,2,3] (eM (aA 5)) (cL (is:=[0,1,2,3]) rfl (ar (pgI 0) (ar (pgI 1) (ar (pgI 2) (ar (pgI 3) cN))))) cC (aZ (af (aq (ai 4) (ai 0)) (af (aq (ai 4) (ai 1)) (af (aA 2) (af (aA 3) ax))))))) (ag (Cb 12 ["_law_k","_law_kinds","_law_order"] 1 [4,10] [0] (a_ rfl T.b_range (PDE.r (aO rfl T.b_len (aN 4)))) (ck 0) cC (aq (ai 1) (PDE.r (ia h.h64 (aN 2) (aN 0))))) (ah (aY (aZ (af (aA 12) (af (aA 11) (af (PDO.v (bG (ai 10) em (cX (aO rfl T.b_len (PDR.n (mf 0 0 (pv 0))))))) ax)))))))))))))
def kA(C:Addr):DF->Option RES:=
  (ap (bt 3 (asL (eh (aa 0))))
  (ap (aF 4 (d2 aW (d2 bh (aa 1) (cI 6)) (d1 aG (ak 3))))
  (ap (aF 5 (d2 aW (aa 1) (cI 6)))
  (ap (dIf (asB (d2 eqD (ak 5) (cI 0))) (cr 3 (getV 4) (d2 aW (d2 bh (aa 1) (cI 60)) (aa 2))) (dIf (asB (d2 eqD (ak 5) (cI 1))) (cr 3 (getV 4) (d2 ixD (aa 3) (d2 ff (aa 4) (cI 1)))) (dIf (asB (d2 eqD (ak 5) (cI 2))) (cr 3 (getV 4) (d2 ff (d2 ixD (aa 3) (aa 4)) (aa 2))) (dIf (asB (d2 eqD (ak 5) (cI 3))) (cr 3 (getV 4) (d2 bb (aa 2) (d2 aW (d2 bh (aa 1) (cI 60)) (cI 3)))) (dIf (asB (d2 eqD (ak 5) (cI 4))) (eD 3 (d2 aW (d2 bh (aa 1) (cI 60)) (aa 2))) (pN 3 (getV 4)))))))
  (i8 3)))))
def d4(C:Addr):List DV->Option DV:=mOf 6 3 (kA C)
def n_(T:Txt K mg t):Ok P w K mg base t 56 1 d4:=
 (T.F 56).okI ["_law_way","_law_seed","_law_many","_law_row","_law_at","_law_how"] fun h=>(ag (iZ 3 (gs rfl T.b_list (ai 0))) (ag (bP 4 (aT (PDE.r (bL (ai 1) (PDE.r ac))) (PDE.r (aO rfl T.b_len (aN 3))))) (ag (bP 5 (aT (ai 1) (PDE.r ac))) (ag (bn (dX h.h64 (aN 5) (PDE.n ac)) (ah (eP 3 (pv 3) (aA 4) (aT (PDE.r (bL (ai 1) (PDE.r ac))) (ai 2)))) (ah (bn (dX h.h64 (aN 5) (PDE.n ac)) (ah (eP 3 (pv 3) (aA 4) (aq (ai 3) (PDE.r (fZ (ai 4) (PDE.r ac)))))) (ah (bn (dX h.h64 (aN 5) (PDE.n ac)) (ah (eP 3 (pv 3) (aA 4) (fZ (PDE.r (aq (ai 3) (ai 4))) (ai 2)))) (ah (bn (dX h.h64 (aN 5) (PDE.n ac)) (ah (eP 3 (pv 3) (aA 4) (aS (ai 2) (PDE.r (aT (PDE.r (bL (ai 1) (PDE.r ac))) (PDE.r ac)))))) (ah (bn (dX h.h64 (aN 5) (PDE.n ac)) (ah (cU 3 (pv 3) (aT (PDE.r (bL (ai 1) (PDE.r ac))) (ai 2)))) (ah (Dp 3 (pv 3) (aA 4)))))))))))) (ah (iK 3 (pv 3)))))))
def lD(C:Addr):DF->Option RES:=
  (ap (bt 2 (fun _=>some (.dT [])))
  (ap (cP (bJ (aa 0)) (setV 3) (cP (bJ (aa 0)) (setV 4) (ap (bt 5 (asL aC))
  (ap (cP (bA 1) (b5 [6,7,8,9]) (ap (dIf (asB (d2 eqD (asT (ae (getV 6) (ae (getV 7) aC))) (asT (ae (getV 3) (ae (getV 4) aC))))) (eD 5 (asT (ae (getV 8) (ae (d1 sj (ak 9)) aC)))) dNx)
  (dIf (asB (d2 eqD (asT (ae (getV 7) (ae (getV 6) aC))) (asT (ae (getV 3) (ae (getV 4) aC))))) (eD 5 (asT (ae (getV 8) (ae (d2 fJ (cI 2) (d1 sj (ak 9))) aC)))) dNx)))
  (oP 2 (asT (ae (getV 3) (ae (getV 4) aC))) (d1 qF (asO (asL (jH (aa 5))))))))))
  (i8 2)))
def ce(C:Addr):List DV->Option DV:=mOf 10 2 (lD C)
def jK(T:Txt K mg t):Ok P w K mg base t 53 1 ce:=
 (T.F 53).okI ["_law_many","_law_ties","_law_table_here","_law_i","_law_j","_law_found","_law_one_here","_law_other","_law_kind_here","_law_oneway"] fun h=>(ag (iZ 2 o5) (ag (pfI (a_ rfl T.b_range (ai 0)) (ck 3) (ah (pfI (a_ rfl T.b_range (ai 0)) (ck 4) (ag (iZ 5 (fu ax)) (ag (pfI (jm 1) (cL (is:=[6,7,8,9]) rfl (ar (pgI 6) (ar (pgI 7) (ar (pgI 8) (ar (pgI 9) cN))))) (ag (bn (dX h.h64 (PDE.n (aZ (af (aA 6) (af (aA 7) ax)))) (PDE.n (aZ (af (aA 3) (af (aA 4) ax))))) (ah (cU 5 (pv 5) (aZ (af (aA 8) (af (vE rfl T.b_int (aN 9)) ax))))) aK) (ah (bn (dX h.h64 (PDE.n (aZ (af (aA 7) (af (aA 6) ax)))) (PDE.n (aZ (af (aA 3) (af (aA 4) ax))))) (ah (cU 5 (pv 5) (aZ (af (aA 8) (af (f7 (PDE.r ac) (PDE.r (vE rfl T.b_int (aN 9)))) ax))))) aK)))) (ah (vy 2 h.h64 (pv 2) (aZ (af (aA 3) (af (aA 4) ax))) (sL rfl T.b_tuple (PDE.r (PDO.v (gy h.h64 rfl T.b_sorted (ai 5)))))))))))) (ah (iK 2 (pv 2)))))
def jR(C:Addr):DF->Option RES:=
  (ap (cP (bJ (d1 aG (ak 3))) (setV 4) (ap (dIf (asB (d2 neD (d2 ixD (d2 ixD (aa 0) (cI 0)) (aa 4)) (d2 ixD (d2 ixD (aa 1) (cI 0)) (d2 ixD (aa 3) (aa 4))))) (bu (fun _=>some (.bl false))) dNx)
  (cP (bJ (aa 4)) (setV 5) (ap (aF 6 (d2 gL (d2 ixD (aa 2) (cI 0)) (asT (ae (getV 4) (ae (getV 5) aC)))))
  (ap (aF 7 (d2 gL (d2 ixD (aa 2) (cI 1)) (asT (ae (d2 ixD (aa 3) (aa 4)) (ae (d2 ixD (aa 3) (aa 5)) aC)))))
  (cP (jB (getV 6)) (setV 8) (dIf (asB (d2 ltd (d2 mB (ak 7) (ak 8)) (d2 mB (ak 6) (ak 8)))) (bu (fun _=>some (.bl false))) dNx)))))))
  (bu (fun _=>some (.bl true))))
def cg(C:Addr):List DV->Option DV:=mOf 9 4 (jR C)
def oN(T:Txt K mg t):Ok P w K mg base t 54 1 cg:=
 (T.F 54).okI ["_law_small","_law_great_here","_law_tables","_law_way","_law_i","_law_j","_law_pairs","_law_others","_law_pair"] fun h=>(ag (pfI (a_ rfl T.b_range (PDE.r (aO rfl T.b_len (aN 3)))) (ck 4) (ag (bn (g_ h.h64 (PDE.n (aq (PDE.r (aq (ai 0) (PDE.r ac))) (ai 4))) (PDE.n (aq (PDE.r (aq (ai 1) (PDE.r ac))) (PDE.r (aq (ai 3) (ai 4)))))) (ah (aY dS)) aK) (ah (pfI (a_ rfl T.b_range (ai 4)) (ck 5) (ag (bP 6 (vQ h.h64 (PDE.r (aq (ai 2) (PDE.r ac))) (aZ (af (aA 4) (af (aA 5) ax))))) (ag (bP 7 (vQ h.h64 (PDE.r (aq (ai 2) (PDE.r ac))) (aZ (af (aq (ai 3) (ai 4)) (af (aq (ai 3) (ai 5)) ax))))) (ah (pfI (wc (aA 6)) (ck 8) (ah (bn (gK h.h64 (PDE.n (iU h.h64 (aN 7) (aN 8))) (PDE.n (iU h.h64 (aN 6) (aN 8)))) (ah (aY dS)) aK)))))))))) (ah (aY dS)))
def lE(C:Addr):DF->Option RES:=
  (ap (bt 1 (asL aC))
  (ap (cP (bA 0) (b5 [2,3,4,5]) (dIf (asB (getV 5)) (eD 1 (asT (ae (getV 2) (ae (getV 3) (ae (getV 4) (ae (fun _=>some (.bl true)) aC)))))) (eD 1 (asT (ae (d2 j9 (ak 2) (ak 3)) (ae (d2 nH (ak 2) (ak 3)) (ae (getV 4) (ae (fun _=>some (.bl false)) aC))))))))
  (dC (asL (jH (aa 1))))))
def aJ(C:Addr):List DV->Option DV:=mOf 6 1 (lE C)
def fj(T:Txt K mg t):Ok P w K mg base t 49 1 aJ:=
 (T.F 49).okI ["_law_ties","_law_made","_law_one_here","_law_other","_law_kind_here","_law_oneway"] fun h=>(ag (iZ 1 (fu ax)) (ag (pfI (jm 0) (cL (is:=[2,3,4,5]) rfl (ar (pgI 2) (ar (pgI 3) (ar (pgI 4) (ar (pgI 5) cN))))) (ah (bn (bH (aA 5)) (ah (cU 1 (pv 1) (aZ (af (aA 2) (af (aA 3) (af (aA 4) (af dS ax))))))) (ah (cU 1 (pv 1) (aZ (af (re rfl rfl T.b_min (aN 2) (aN 3)) (af (vw rfl rfl T.b_max (aN 2) (aN 3)) (af (aA 4) (af dS ax)))))))))) (ah (dQ (gy h.h64 rfl T.b_sorted (ai 1))))))
def i7(C:Addr):DF->Option RES:=
  (ap (aF 5 (asO (asL (slL (aa 4) (bI (getV 2)) bNo))))
  (ap (aF 6 (asO (asL (aw 1 [5] (bJ (d1 aG (d2 ixD (aa 3) (cI 0)))) (setV 0) (asB (d2 cn (ak 0) (ak 1))) (getV 0)))))
  (ap (bt 7 (lY (aJ C) (aV (asO (asL (aw 1 [5] (bK (d2 ixD (aa 3) (cI 1))) (setV 0) (dN (asB (d2 cn (d2 ixD (aa 0) (cI 0)) (ak 1))) (asB (d2 cn (d2 ixD (aa 0) (cI 1)) (ak 1)))) (getV 0)))) nA)))
  (ap (cP (bK (d2 ixD (aa 0) (cI 1))) (b5 [8,9,10,11]) (dIf (dN (asB (d2 ltd (ak 8) (ak 2))) (asB (d2 ltd (ak 9) (ak 2)))) (qO 7 (d2 ixD (am (aJ C) (aV (asO (asL (ae (asT (ae (d2 ixD (aa 4) (aa 8)) (ae (d2 ixD (aa 4) (aa 9)) (ae (getV 10) (ae (getV 11) aC))))) aC))) nA)) (cI 0))) dNx))
  (ap (bt 12 (asL (mw (asO (asL (aw 1 [3] (bA 6) (setV 0) aX (d2 ixD (d2 ixD (aa 1) (cI 0)) (aa 0))))) (asO (asL (slL (d2 ixD (aa 1) (cI 0)) (bI (getV 2)) bNo))))))
  (ap (aF 13 (d2 bb (asO (asL (aw 1 [6] (bK (asO (asL (slL (aa 4) bNo (bI (getV 2)))))) (setV 0) aX (d2 f8 (ak 1) (ak 0))))) (asO (asL (aw 1 [6] (bJ (d2 ff (d1 aG (d2 ixD (aa 1) (cI 0))) (aa 2))) (setV 0) aX (d2 bb (d1 aG (ak 1)) (aa 0)))))))
  (ap (cP (bJ (aa 2)) (setV 14) (cr 12 (d2 ixD (aa 13) (aa 14)) (d2 ixD (d2 ixD (aa 1) (cI 0)) (aa 14))))
  (ap (kS 7 (bt 7 (asL (aw 4 [6] (bK (getV 7)) (b5 [0,1,2,3]) aX (asT (ae (d2 f8 (ak 4) (ak 0)) (ae (d2 f8 (ak 4) (ak 1)) (ae (getV 2) (ae (getV 3) aC)))))))))
  (ap (tY 7 (aw 4 [13] (bK (d2 ixD (aa 1) (cI 1))) (b5 [0,1,2,3]) aX (asT (ae (d2 ixD (aa 4) (aa 0)) (ae (d2 ixD (aa 4) (aa 1)) (ae (getV 2) (ae (getV 3) aC)))))))
  (kS 12 (bu (asT (ae (getV 12) (ae (am (aJ C) (aB 7 nA)) aC))))))))))))))
def cx(C:Addr):List DV->Option DV:=mOf 15 5 (i7 C)
def iF(T:Txt K mg t):Ok P w K mg base t 55 2 cx:=
 (T.F 55).okI ["_law_left","_law_right","_law_kept","_law_web_here","_law_way","_law_out","_law_stays","_law_ties","_law_one_here","_law_other","_law_kind_here","_law_oneway","_law_kinds","_law_led","_law_k"] fun h=>(ag (bP 5 (PDO.v (bG (ai 4) (cX (aA 2)) em))) (ag (bP 6 (PDO.v (eG ["_law_place","_law_out"] 1 [5] [0] (a_ rfl T.b_range (PDE.r (aO rfl T.b_len (PDE.n (aq (ai 3) (PDE.r ac)))))) (ck 0) (pE (h_ h.h64 (aN 0) (aN 1))) (aA 0)))) (ag (iZ 7 (poI (fj T) (T.G 49) h (ay (PDO.v (eG ["_law_tie","_law_out"] 1 [5] [0] (eM (aq (ai 3) (PDE.r ac))) (ck 0) (pE (PDW.t (dZ (h_ h.h64 (PDE.n (aq (ai 0) (PDE.r ac))) (aN 1)) (d_ (h_ h.h64 (PDE.n (aq (ai 0) (PDE.r ac))) (aN 1)))))) (aA 0))) ao))) (ag (pfI (eM (aq (ai 0) (PDE.r ac))) (cL (is:=[8,9,10,11]) rfl (ar (pgI 8) (ar (pgI 9) (ar (pgI 10) (ar (pgI 11) cN))))) (ah (bn (PDW.t (dZ (gK h.h64 (aN 8) (aN 2)) (d_ (gK h.h64 (aN 9) (aN 2))))) (ah (oZ 7 h.h64 (pv 7) (aq (PDE.r (pcI (fj T) (T.G 49) h (ay (PDO.v (fu (af (aZ (af (aq (ai 4) (ai 8)) (af (aq (ai 4) (ai 9)) (af (aA 10) (af (aA 11) ax))))) ax))) ao))) (PDE.r ac)))) aK))) (ag (iZ 12 (kB (PDE.r (PDO.v (eG ["_law_place","_law_web_here"] 1 [3] [0] (jm 6) (ck 0) cC (aq (PDE.r (aq (ai 1) (PDE.r ac))) (ai 0))))) (PDE.r (PDO.v (bG (PDE.r (aq (ai 1) (PDE.r ac))) (cX (aA 2)) em))))) (ag (bP 13 (aS (PDE.r (PDO.v (eG ["_law_place","_law_stays"] 1 [6] [0] (eM (PDO.v (bG (ai 4) em (cX (aA 2))))) (ck 0) cC (ia h.h64 (aN 1) (aN 0))))) (PDE.r (PDO.v (eG ["_law_k","_law_stays"] 1 [6] [0] (a_ rfl T.b_range (PDE.r (fZ (PDE.r (aO rfl T.b_len (PDE.n (aq (ai 1) (PDE.r ac))))) (ai 2)))) (ck 0) cC (aS (PDE.r (aO rfl T.b_len (aN 1))) (ai 0))))))) (ag (pfI (a_ rfl T.b_range (ai 2)) (ck 14) (ah (eP 12 (pv 12) (aq (ai 13) (ai 14)) (aq (PDE.r (aq (ai 1) (PDE.r ac))) (ai 14))))) (ag (kq 7 (FU 7 ["_law_one_here","_law_other","_law_kind_here","_law_oneway","_law_stays"] 4 [6] [0,1,2,3] (eM (aA 7)) (cL (is:=[0,1,2,3]) rfl (ar (pgI 0) (ar (pgI 1) (ar (pgI 2) (ar (pgI 3) cN))))) cC (aZ (af (ia h.h64 (aN 4) (aN 0)) (af (ia h.h64 (aN 4) (aN 1)) (af (aA 2) (af (aA 3) ax))))))) (ag (oV 7 (pv 7) (eG ["_law_one_here","_law_other","_law_kind_here","_law_oneway","_law_led"] 4 [13] [0,1,2,3] (eM (aq (ai 1) (PDE.r ac))) (cL (is:=[0,1,2,3]) rfl (ar (pgI 0) (ar (pgI 1) (ar (pgI 2) (ar (pgI 3) cN))))) cC (aZ (af (aq (ai 4) (ai 0)) (af (aq (ai 4) (ai 1)) (af (aA 2) (af (aA 3) ax))))))) (ah (kq 12 (aY (aZ (af (aA 12) (af (pcI (fj T) (T.G 49) h (aQ 7 ao)) ax)))))))))))))))
def k_(C:Addr):DF->Option RES:=
  (ap (dIf (orT (asB (d2 neD (d1 aG (ak 4)) (d1 aG (d2 ixD (aa 0) (cI 0))))) (asB (d2 neD (d1 jY (aa 4)) (d1 aG (ak 4))))) (bu (fun _=>some (.str "way"))) dNx)
  (ap (dIf (asB (d2 gtI (d1 aG (asO (asL (aw 1 [3] (bA 4) (setV 0) (cw (asB (chD leA ltI (cI 0) (ak 0) (d1 aG (d2 ixD (aa 1) (cI 0)))))) (getV 0))))) (cI 0))) (bu (fun _=>some (.str "way"))) dNx)
  (ap (aF 5 (asO (asL (ae (am (ce C) (aV (d1 aG (d2 ixD (aa 0) (cI 0))) (aV (d2 ixD (aa 0) (cI 1)) nA))) (ae (am (ce C) (aV (d1 aG (d2 ixD (aa 3) (cI 0))) (aV (d2 ixD (aa 3) (cI 1)) nA))) aC)))))
  (ap (dIf (cw (asB (am (cg C) (aB 0 (aB 3 (aB 5 (aB 4 nA))))))) (bu (fun _=>some (.str "way"))) dNx)
  (ap (aF 6 (am (cx C) (aB 0 (aB 1 (aV (getV 2) (aB 3 (aB 4 nA)))))))
  (ap (dIf (orT (asB (d2 gtI (d1 aG (d2 ixD (aa 6) (cI 0))) (cI 7))) (asB (d2 gtI (d1 aG (d2 ixD (aa 6) (cI 1))) (cI 12)))) (bu (fun _=>some (.str "great"))) dNx)
  (bu (fun _=>some (.str "")))))))))
def fy(C:Addr):List DV->Option DV:=mOf 7 5 (k_ C)
def vk(T:Txt K mg t):Ok P w K mg base t 57 3 fy:=
 (T.F 57).okI ["_law_left","_law_right","_law_kept","_law_web_here","_law_row","_law_tables","_law_made"] fun h=>(ag (bn (PDW.t (dU (g_ h.h64 (PDE.n (aO rfl T.b_len (aN 4))) (PDE.n (aO rfl T.b_len (PDE.n (aq (ai 0) (PDE.r ac)))))) (el (g_ h.h64 (PDE.n (ww rfl rfl T.b_len rfl T.b_set (ai 4))) (PDE.n (aO rfl T.b_len (aN 4))))))) (ah (aY fH)) aK) (ag (bn (iy (PDE.r (aO rfl T.b_len (PDE.n (PDO.v (eG ["_law_place","_law_web_here"] 1 [3] [0] (jm 4) (ck 0) (pE (bM (BW (PDE.n ac) (aN 0) (PDE.n (aO rfl T.b_len (PDE.n (aq (ai 1) (PDE.r ac)))))))) (aA 0)))))) (PDE.r ac)) (ah (aY fH)) aK) (ag (bP 5 (PDO.v (fu (af (pcI (jK T) (T.G 53) h (ay (aO rfl T.b_len (PDE.n (aq (ai 0) (PDE.r ac)))) (ay (aq (ai 0) (PDE.r ac)) ao))) (af (pcI (jK T) (T.G 53) h (ay (aO rfl T.b_len (PDE.n (aq (ai 3) (PDE.r ac)))) (ay (aq (ai 3) (PDE.r ac)) ao))) ax))))) (ag (bn (bM (bH (pcI (oN T) (T.G 54) h (aQ 0 (aQ 3 (aQ 5 (aQ 4 ao))))))) (ah (aY fH)) aK) (ag (bP 6 (pcI (iF T) (T.G 55) h (aQ 0 (aQ 1 (ay (aA 2) (aQ 3 (aQ 4 ao))))))) (ag (bn (PDW.t (dU (iy (PDE.r (aO rfl T.b_len (PDE.n (aq (ai 6) (PDE.r ac))))) (PDE.r ac)) (el (iy (PDE.r (aO rfl T.b_len (PDE.n (aq (ai 6) (PDE.r ac))))) (PDE.r ac))))) (ah (aY fH)) aK) (ah (aY fH))))))))
def gU(C:Addr):DF->Option RES:=
  (ap (aF 1 (d1 mX (asO (asL (aw 1 [] (t5 (getV 0)) (setV 0) aX (chD leA leA (fun _=>some (.str "a")) (ak 0) (fun _=>some (.str "z"))))))))
  (bu (nQ (getV 1) (chD leA leA (cI 1) (d1 aG (ak 0)) (cI 3)))))
def b7(C:Addr):List DV->Option DV:=mOf 2 1 (gU C)
def kO(T:Txt K mg t):Ok P w K mg base t 18 1 b7:=
 (T.F 18).okI ["kind","letters_fit"] fun h=>(ag (bP 1 (nY rfl rfl T.b_all (PDE.n (PDO.v (eG ["letter"] 1 [] [0] (Cz (aA 0)) (ck 0) cC (vG (PDE.n fH) (aN 0) (PDE.n fH))))))) (ah (aY (iD (aA 1) (nJ (vG (PDE.n ac) (PDE.n (aO rfl T.b_len (aN 0))) (PDE.n (jO rfl T.c_MOST_LETTERS))))))))
def i_(C:Addr):DF->Option RES:=
  (bu (chD leA ltI (cI 0) (ak 0) (d2 tz (cI 10) (cI 30))))
def dm(C:Addr):List DV->Option DV:=mOf 1 1 (i_ C)
def mZ(T:Txt K mg t):Ok P w K mg base t 19 1 dm:=
 (T.F 19).okI ["kind"] fun h=>(ah (aY (mC (PDE.n ac) (aN 0) (PDE.n (mT (PDE.r ac) (PDE.r ac))))))
def rG(C:Addr):DF->Option RES:=
  (ap (aF 2 (nQ (chD leA ltI (cI 0) (d2 ixD (aa 0) (cI 0)) (ak 1)) (chD leA ltI (cI 0) (d2 ixD (aa 0) (cI 1)) (ak 1))))
  (bu (nQ (getV 2) (nQ (d2 neD (d2 ixD (aa 0) (cI 0)) (d2 ixD (aa 0) (cI 1))) (am (dm C) (aV (d2 ixD (aa 0) (cI 2)) nA))))))
def eV(C:Addr):List DV->Option DV:=mOf 3 2 (rG C)
def xE(T:Txt K mg t):Ok P w K mg base t 20 2 eV:=
 (T.F 20).okI ["tie","size","places_fit"] fun h=>(ag (bP 2 (iD (mC (PDE.n ac) (PDE.n (aq (ai 0) (PDE.r ac))) (aN 1)) (nJ (mC (PDE.n ac) (PDE.n (aq (ai 0) (PDE.r ac))) (aN 1))))) (ah (aY (iD (aA 2) (iD (Gm h.h64 (PDE.n (aq (ai 0) (PDE.r ac))) (PDE.n (aq (ai 0) (PDE.r ac)))) (nJ (pcI (mZ T) (T.G 19) h (ay (aq (ai 0) (PDE.r ac)) ao))))))))
abbrev FI:List Str:=["kinds","ties","kind","tie"]
def Ei(C:Addr):DF->Option RES:=
  (ap (dIf (cw (asB (chD leA leA (cI 1) (d1 aG (ak 0)) (cI 7)))) fg dNx)
  (ap (dIf (asB (d2 gtI (d1 aG (ak 1)) (cI 12))) fg dNx)
  (ap (cP (bA 0) (setV 2) (dIf (cw (asB (am (b7 C) (aV (getV 2) nA)))) fg dNx))
  (cP (bA 1) (setV 3) (dIf (cw (asB (am (eV C) (aB 3 (aV (d1 aG (ak 0)) nA))))) fg dNx)))))
def sX(C:Addr):List DV->Option DV:=mOf 4 2 (Ei C)
def Fv(T:Txt K mg t):Ok P w K mg base t 21 3 sX:=
 (T.F 21).okI FI fun h=>(ag (bn (bM (qH (PDE.n ac) (PDE.n (aO rfl T.b_len (aN 0))) (PDE.n (jO rfl T.c_MOST_PLACES)))) (ah gu) aK) (ag (bn (iy (PDE.r (aO rfl T.b_len (aN 1))) (PDE.r (jO rfl T.c_MOST_TIES))) (ah gu) aK) (ag (pfI (jm 0) (ck 2) (ah (bn (bM (bH (pcI (kO T) (T.G 18) h (ay (aA 2) ao)))) (ah gu) aK))) (ah (pfI (jm 1) (ck 3) (ah (bn (bM (bH (pcI (xE T) (T.G 20) h (aQ 3 (ay (aO rfl T.b_len (aN 0)) ao))))) (ah gu) aK)))))))
def cS(C:Addr):List DV->Option Nat:=rzX 4 2 (iW (xIf (cw (asB (chD leA leA (cI 1) (d1 aG (ak 0)) (cI 7)))) (xEx 1) xNx)
  (iW (xIf (asB (d2 gtI (d1 aG (ak 1)) (cI 12))) (xEx 1) xNx)
  (fun _=>none)))
def kY(T:Txt K mg t):FnOk P w K mg base (CXc P w t.cl) 3 (fA 21) (dA 21) (fM (top 21)) (oI K t.cl (cS t.C)):=
 (T.F 21).thrI FI fun h=>(dW (z_ (bM (qH (PDE.n ac) (PDE.n (aO rfl T.b_len (aN 0))) (PDE.n (jO rfl T.c_MOST_PLACES)))) (mL (mV (k:=1) rfl (qu 1) rfl T.mx_TooGreat (T.xi 1))) p7) (dW (z_ (iy (PDE.r (aO rfl T.b_len (aN 1))) (PDE.r (jO rfl T.c_MOST_TIES))) (mL (mV (k:=1) rfl (qu 1) rfl T.mx_TooGreat (T.xi 1))) p7) oO))
def ik(C:Addr):DF->Option RES:=
  (ap (dIf (orT (asB (d2 ixD (aa 0) (cI 3))) (asB (d2 ltd (d2 ixD (aa 0) (cI 0)) (d2 ixD (aa 0) (cI 1))))) (bu (getV 0)) dNx)
  (bu (asT (ae (d2 ixD (aa 0) (cI 1)) (ae (d2 ixD (aa 0) (cI 0)) (ae (d2 ixD (aa 0) (cI 2)) (ae (d2 ixD (aa 0) (cI 3)) aC)))))))
def bO(C:Addr):List DV->Option DV:=mOf 1 1 (ik C)
def gW(T:Txt K mg t):Ok P w K mg base t 22 1 bO:=
 (T.F 22).okI ["tie"] fun h=>(ag (bn (PDW.t (dU (bH (aq (ai 0) (PDE.r ac))) (el (gK h.h64 (PDE.n (aq (ai 0) (PDE.r ac))) (PDE.n (aq (ai 0) (PDE.r ac))))))) (ah (aY (aA 0))) aK) (ah (aY (aZ (af (aq (ai 0) (PDE.r ac)) (af (aq (ai 0) (PDE.r ac)) (af (aq (ai 0) (PDE.r ac)) (af (aq (ai 0) (PDE.r ac)) ax))))))))
def jf(C:Addr):DF->Option RES:=
  (oP 0 (getV 1) (d1 qF (asO (asL (jH (d2 bb (jW (aa 0) (getV 1) (asT aC)) (asT (ae (getV 2) aC))))))))
def cJ(C:Addr):OD->List DV->Option (OD×D):=rH 3 3 (jf C)
def me(T:Txt K mg t):FnOk P w K mg base CX0 1 (fA 23) (dA 23) (fM (top 23)) (spM K (cJ t.C)):=
 (T.F 23).okJ ["joins","ends","pair"] fun h=>(ah (vy 0 h.h64 (pv 0) (aA 1) (sL rfl T.b_tuple (PDE.r (PDO.v (gy h.h64 rfl T.b_sorted (PDE.r (aS (PDE.r (sE h.h64 (ai 0) (aA 1) (aZ ax))) (PDE.r (aZ (af (aA 2) ax)))))))))))
def jr(C:Addr):DF->Option RES:=
  (ap (bt 1 (fun _=>some (.dT [])))
  (ap (cP (bA 0) (b5 [2,3,4,5]) (ap (e_ K0 1 (cJ C) (aV (asT (ae (getV 2) (ae (getV 3) aC))) (aV (asT (ae (getV 4) (ae (ifV (asB (getV 5)) (cI 1) (cI 0)) aC))) nA)))
  (e_ K0 1 (cJ C) (aV (asT (ae (getV 3) (ae (getV 2) aC))) (aV (asT (ae (getV 4) (ae (ifV (asB (getV 5)) (cI 2) (cI 0)) aC))) nA)))))
  (i8 1)))
def c9(C:Addr):List DV->Option DV:=mOf 6 1 (jr C)
def sC(T:Txt K mg t):Ok P w K mg base t 24 2 c9:=
 (T.F 24).okI ["ties","joins","one","other","kind","oneway"] fun h=>(ag (iZ 1 o5) (ag (pfI (jm 0) (cL (is:=[2,3,4,5]) rfl (ar (pgI 2) (ar (pgI 3) (ar (pgI 4) (ar (pgI 5) cN))))) (ag (sI 1 (me T) (h.mono (by decide)) rfl (T.G 23).2 (T.F 23).fn.kp (T.F 23).bd (pv 1) (ay (aZ (af (aA 2) (af (aA 3) ax))) (ay (aZ (af (aA 4) (af (zP (bH (aA 5)) ac ac) ax))) ao))) (ah (sI 1 (me T) (h.mono (by decide)) rfl (T.G 23).2 (T.F 23).fn.kp (T.F 23).bd (pv 1) (ay (aZ (af (aA 3) (af (aA 2) ax))) (ay (aZ (af (aA 4) (af (zP (bH (aA 5)) ac ac) ax))) ao)))))) (ah (iK 1 (pv 1)))))
abbrev FA:List Str:=["self","kinds","ties"]
def C4(C:Addr):DF->Option RES:=
  (ap (vq (am (sX C) (aB 1 (aB 2 nA))))
  (ap (jF C 0 "kinds" (asO (asL (eh (aa 1)))))
  (ap (jF C 0 "ties" (asO (asL (jH (asO (asL (aw 1 [] (bA 2) (setV 0) aX (am (bO C) (aV (getV 0) nA)))))))))
  (jF C 0 "joins" (am (c9 C) (aV (d1 (aL C "ties") (aa 0)) nA))))))
def g8(C:Addr):OD->List DV->Option (OD×D):=rH 3 3 (C4 C)
def rW(T:Txt K mg t):FnOk P w K mg base CX0 4 (fA 25000) (dA 25000) (fM (top 25000)) (spM K (g8 t.C)):=
 (T.F 25000).okJ FA fun h=>(ag (B8 (pcI (Fv T) (T.G 21) h (aQ 1 (aQ 2 ao)))) (ag (iJ 0 T.cl T.na_kinds (pv 0) (PDO.v (gs rfl T.b_list (ai 1)))) (ag (iJ 0 T.cl T.na_ties (pv 0) (PDO.v (gy h.h64 rfl T.b_sorted (PDE.r (PDO.v (eG ["tie"] 1 [] [0] (jm 2) (ck 0) cC (pcI (gW T) (T.G 22) h (ay (aA 0) ao)))))))) (ah (iJ 0 T.cl T.na_joins (pv 0) (pcI (sC T) (T.G 24) h (ay (a9 T.cl T.na_ties (ai 0)) ao)))))))
def fm(C:Addr):List DV->Option Nat:=rzX 3 3 (iW (sH (aB 1 (aB 2 nA)) (cS C))
  (fun _=>none))
def ol(T:Txt K mg t):FnOk P w K mg base (CXc P w t.cl) 4 (fA 25000) (dA 25000) (fM (top 25000)) (oI K t.cl (fm t.C)):=
 (T.F 25000).thrI FA fun h=>(dW (Cg (kY T) (h.mono (by decide)) rfl (T.G 21).2 (T.F 21).fn.kp (T.F 21).bd (aQ 1 (aQ 2 ao))) oO)
def gO(C:Addr):DF->Option RES:=
  (bu (d1 aG (d1 (aL C "kinds") (aa 0))))
def aM(C:Addr):List DV->Option DV:=mOf 1 1 (gO C)
def c_(T:Txt K mg t):Ok P w K mg base t 25001 1 aM:=
 (T.F 25001).okI ["self"] fun h=>(ah (aY (aO rfl T.b_len (PDE.n (a9 T.cl T.na_kinds (ai 0))))))
def lN(C:Addr):DF->Option RES:=
  (bu (d1 mX (asO (asL (aw 1 [1,0] (jB (getV 0)) (setV 0) aX (d2 geI (d2 mB (ak 1) (ak 0)) (d2 mB (ak 2) (ak 0))))))))
def dH(C:Addr):List DV->Option DV:=mOf 2 2 (lN C)
def rC(T:Txt K mg t):Ok P w K mg base t 30 1 dH:=
 (T.F 30).okI ["pairs","more"] fun h=>(ah (aY (nY rfl rfl T.b_all (PDE.n (PDO.v (eG ["pair","more","pairs"] 1 [1,0] [0] (wc (aA 0)) (ck 0) cC (Gi (PDE.r (iU h.h64 (aN 1) (aN 0))) (PDE.r (iU h.h64 (aN 2) (aN 0))))))))))
def i9(C:Addr):DF->Option RES:=
  (bu (jW (d1 (aL C "joins") (aa 0)) (asT (ae (getV 1) (ae (getV 2) aC))) (asT aC)))
def cm(C:Addr):List DV->Option DV:=mOf 3 3 (i9 C)
def im(T:Txt K mg t):Ok P w K mg base t 25002 1 cm:=
 (T.F 25002).okI ["self","one","other"] fun h=>(ah (aY (sE h.h64 (PDE.r (a9 T.cl T.na_joins (ai 0))) (aZ (af (aA 1) (af (aA 2) ax))) (aZ ax))))
def lO(C:Addr):DF->Option RES:=
  (ap (aF 3 (d2 ff (d1 aG (ak 2)) (cI 1)))
  (ap (aF 4 (d2 ixD (aa 2) (aa 3)))
  (ap (dIf (orT (asB (d2 inD (ak 4) (asO (asL (slL (aa 2) bNo (bI (getV 3))))))) (asB (d2 neD (d2 ixD (d1 (aL C "kinds") (aa 1)) (aa 4)) (d2 ixD (d1 (aL C "kinds") (aa 0)) (aa 3))))) (bu (fun _=>some (.bl false))) dNx)
  (bu (d1 mX (asO (asL (aw 1 [0,3,1,2,4] (bJ (aa 3)) (setV 0) aX (am (dH C) (aV (bf C "between" (cm C) (br (bR 1) (aV (getV 0) (aV (getV 2) nA)))) (aV (bf C "between" (cm C) (br (bR 3) (aV (d2 ixD (aa 4) (aa 0)) (aV (getV 5) nA)))) nA)))))))))))
def eS(C:Addr):List DV->Option DV:=mOf 5 3 (lO C)
def qM(T:Txt K mg t):Ok P w K mg base t 31 2 eS:=
 (T.F 31).okI ["small","great","way","at","last"] fun h=>(ag (bP 3 (fZ (PDE.r (aO rfl T.b_len (aN 2))) (PDE.r ac))) (ag (bP 4 (aq (ai 2) (ai 3))) (ag (bn (PDW.t (dU (yd h.h64 (aN 4) (PDE.n (PDO.v (bG (ai 2) em (cX (aA 3)))))) (el (g_ h.h64 (PDE.n (aq (PDE.r (a9 T.cl T.na_kinds (ai 1))) (ai 4))) (PDE.n (aq (PDE.r (a9 T.cl T.na_kinds (ai 0))) (ai 3))))))) (ah (aY dS)) aK) (ah (aY (nY rfl rfl T.b_all (PDE.n (PDO.v (eG ["k","small","at","great","way","last"] 1 [0,3,1,2,4] [0] (a_ rfl T.b_range (ai 3)) (ck 0) cC (pcI (rC T) (T.G 30) h (ay (vU (sr 1) T.cl T.mt_Web_between (im T) (h.mono (by decide)) (T.F 25002).bd (ay (aA 0) (ay (aA 2) ao))) (ay (vU (sr 3) T.cl T.mt_Web_between (im T) (h.mono (by decide)) (T.F 25002).bd (ay (aq (ai 4) (ai 0)) (ay (aA 5) ao))) ao))))))))))))
def rZ(C:Addr):DF->Option RES:=
  (ap (dIf (orT (asB (d2 neD (d1 aG (ak 2)) (bf C "size" (aM C) (br (bR 0) g0)))) (cw (asB (d1 mX (asO (asL (aw 1 [1] (bA 2) (setV 0) aX (chD leA ltI (cI 0) (ak 0) (bf C "size" (aM C) (br (bR 1) g0)))))))))) (bu (fun _=>some (.bl false))) dNx)
  (bu (d1 mX (asO (asL (aw 1 [0,1,2] (mq (cI 1) (d2 bb (d1 aG (ak 2)) (cI 1))) (setV 0) aX (am (eS C) (aB 1 (aB 2 (aV (asO (asL (slL (aa 3) bNo (bI (getV 0))))) nA))))))))))
def dO(C:Addr):List DV->Option DV:=mOf 3 3 (rZ C)
def oW(T:Txt K mg t):Ok P w K mg base t 32 3 dO:=
 (T.F 32).okI ["small","great","way"] fun h=>(ag (bn (PDW.t (dU (g_ h.h64 (PDE.n (aO rfl T.b_len (aN 2))) (PDE.n (fG (sr 0) T.cl T.mt_Web_size (c_ T) (h.mono (by decide)) (T.F 25001).bd))) (el (bM (bH (nY rfl rfl T.b_all (PDE.n (PDO.v (eG ["place","great"] 1 [1] [0] (jm 2) (ck 0) cC (mC (PDE.n ac) (aN 0) (PDE.n (fG (sr 1) T.cl T.mt_Web_size (c_ T) (h.mono (by decide)) (T.F 25001).bd)))))))))))) (ah (aY dS)) aK) (ah (aY (nY rfl rfl T.b_all (PDE.n (PDO.v (eG ["many","small","great","way"] 1 [0,1,2] [0] (jw rfl T.b_range (PDE.r ac) (PDE.r (aS (PDE.r (aO rfl T.b_len (aN 2))) (PDE.r ac)))) (ck 0) cC (pcI (qM T) (T.G 31) h (aQ 1 (aQ 2 (ay (PDO.v (bG (ai 3) em (cX (aA 0)))) ao)))))))))))
def fT(C:Addr):DF->Option RES:=
  (ap (aF 3 (d2 ff (bf C "size" (aM C) (br (l_ (d1 (aL az "right") (aa 0))) g0)) (d1 (aL az "kept") (aa 0))))
  (dC (asL (mw (asO (asL (aw 1 [2] (bK (asO (asL (slL (aa 1) bNo (bI (d1 (aL az "kept") (aa 0))))))) (setV 0) aX (d2 f8 (ak 1) (ak 0))))) (asO (asL (aw 1 [2] (bJ (aa 3)) (setV 0) aX (d2 bb (d1 aG (ak 1)) (aa 0)))))))))
def bD(C:Addr):List DV->Option DV:=mOf 4 3 (fT C)
def fF(T:Txt K mg t):Ok P w K mg base t 38 2 bD:=
 (T.F 38).okI ["rule","way","stayed","new"] fun h=>(ag (bP 3 (fZ (PDE.r (fG (Bs (a9 T.cl_Rule T.na_right (ai 0))) T.cl T.mt_Web_size (c_ T) (h.mono (by decide)) (T.F 25001).bd)) (PDE.r (a9 T.cl_Rule T.na_kept (ai 0))))) (ah (dQ (kB (PDE.r (PDO.v (eG ["place","stayed"] 1 [2] [0] (eM (PDO.v (bG (ai 1) em (cX (a9 T.cl_Rule T.na_kept (ai 0)))))) (ck 0) cC (ia h.h64 (aN 1) (aN 0))))) (PDE.r (PDO.v (eG ["at","stayed"] 1 [2] [0] (a_ rfl T.b_range (ai 3)) (ck 0) cC (aS (PDE.r (aO rfl T.b_len (aN 1))) (ai 0)))))))))
def CF(C:Addr):DF->Option RES:=
  (dC (asL (aw 4 [1] (bA 0) (b5 [0,1,2,3]) aX (asT (ae (orE (d2 ixD (aa 4) (aa 0)) (d2 lq (aa 4) (getV 0))) (ae (orE (d2 ixD (aa 4) (aa 1)) (d2 lq (aa 4) (getV 1))) (ae (getV 2) (ae (getV 3) aC))))))))
def fi(C:Addr):List DV->Option DV:=mOf 2 2 (CF C)
def m_(T:Txt K mg t):Ok P w K mg base t 36 1 fi:=
 (T.F 36).okI ["ties","places"] fun h=>(ah (dQ (eG ["one","other","kind","oneway","places"] 4 [1] [0,1,2,3] (jm 0) (cL (is:=[0,1,2,3]) rfl (ar (pgI 0) (ar (pgI 1) (ar (pgI 2) (ar (pgI 3) cN))))) cC (aZ (af (zV (aq (ai 4) (ai 0)) (rF h.h64 (ai 4) (aA 0))) (af (zV (aq (ai 4) (ai 1)) (rF h.h64 (ai 4) (aA 1))) (af (aA 2) (af (aA 3) ax))))))))
def jM(C:Addr):DF->Option RES:=
  (dC (asL (aw 1 [1] (bA 0) (setV 0) (dN (asB (d2 inD (d2 ixD (aa 0) (cI 0)) (ak 1))) (asB (d2 inD (d2 ixD (aa 0) (cI 1)) (ak 1)))) (getV 0))))
def dg(C:Addr):List DV->Option DV:=mOf 2 2 (jM C)
def jb(T:Txt K mg t):Ok P w K mg base t 35 1 dg:=
 (T.F 35).okI ["ties","places"] fun h=>(ah (dQ (eG ["tie","places"] 1 [1] [0] (jm 0) (ck 0) (pE (PDW.t (dZ (yd h.h64 (PDE.n (aq (ai 0) (PDE.r ac))) (aN 1)) (d_ (yd h.h64 (PDE.n (aq (ai 0) (PDE.r ac))) (aN 1)))))) (aA 0))))
def Ac(C:Addr):DF->Option RES:=
  (dC (asL (l6 (getV 0))))
def nB(C:Addr):List DV->Option DV:=mOf 1 1 (Ac C)
def Bi(T:Txt K mg t):Ok P w K mg base t 28 1 nB:=
 (T.F 28).okI ["size"] fun h=>(ah (dQ (ja rfl rfl T.b_list rfl T.b_range (aA 0))))
def lG(C:Addr):DF->Option RES:=
  (ap (bt 4 (lY (dg C) (aV (d1 (aL C "ties") (aa 1)) (aB 3 nA))))
  (ap (cP (bK (am (fi C) (aV (am (dg C) (aV (d1 (aL C "ties") (d1 (aL az "left") (aa 0))) (aV (am (nB C) (aV (d1 (aL az "kept") (aa 0)) nA)) nA))) (aB 2 nA)))) (setV 5) (qO 4 (am (bO C) (aV (getV 5) nA))))
  (i8 4)))
def cH(C:Addr):List DV->Option DV:=mOf 6 4 (lG C)
def kh(T:Txt K mg t):Ok P w K mg base t 37 2 cH:=
 (T.F 37).okI ["rule","web","way","stayed","ties","tie"] fun h=>(ag (iZ 4 (poI (jb T) (T.G 35) h (ay (a9 T.cl T.na_ties (ai 1)) (aQ 3 ao)))) (ag (pfI (eM (pcI (m_ T) (T.G 36) h (ay (pcI (jb T) (T.G 35) h (ay (a9 T.cl T.na_ties (PDE.r (a9 T.cl_Rule T.na_left (ai 0)))) (ay (pcI (Bi T) (T.G 28) h (ay (a9 T.cl_Rule T.na_kept (ai 0)) ao)) ao))) (aQ 2 ao)))) (ck 5) (ah (oZ 4 h.h64 (pv 4) (pcI (gW T) (T.G 22) h (ay (aA 5) ao))))) (ah (iK 4 (pv 4)))))
abbrev Gc:List Str:=["rule","web","way","stayed","numbers","places","kinds","at"]
def GM(C:Addr):DF->Option RES:=
  (ap (dIf (cw (asB (am (dO C) (aV (d1 (aL az "left") (aa 0)) (aB 1 (aB 2 nA)))))) fg dNx)
  (ap (aF 3 (asO (asL (aw 1 [2,0] (bJ (bf C "size" (aM C) (br (bR 1) g0))) (setV 0) (asB (d2 cn (ak 0) (asO (asL (slL (aa 1) (bI (d1 (aL az "kept") (aa 2))) bNo))))) (getV 0)))))
  (ap (aF 4 (asO (pS (aw 2 [] (jd (getV 3)) (b5 [0,1]) aX (asT (ae (getV 1) (ae (getV 0) aC)))))))
  (ap (aF 5 (am (bD C) (aB 0 (aB 2 (aB 3 nA)))))
  (ap (bt 6 (asL (mw (asO (asL (aw 1 [1] (bA 3) (setV 0) aX (d2 ixD (d1 (aL C "kinds") (aa 1)) (aa 0))))) (asO (asL (slL (d1 (aL C "kinds") (d1 (aL az "right") (aa 0))) (bI (d1 (aL az "kept") (aa 0))) bNo))))))
  (ap (cP (bJ (d1 (aL az "kept") (aa 0))) (setV 7) (cr 6 (d2 ixD (aa 5) (aa 7)) (d2 ixD (d1 (aL C "kinds") (d1 (aL az "right") (aa 0))) (aa 7))))
  (dC (cG C (g8 C) (aB 6 (aV (d2 bb (am (fi C) (aV (am (cH C) (aB 0 (aB 1 (aB 2 (aB 3 nA))))) (aB 4 nA))) (am (fi C) (aV (d1 (aL C "ties") (d1 (aL az "right") (aa 0))) (aB 5 nA)))) nA))))))))))
def vn(C:Addr):List DV->Option DV:=mOf 8 3 (GM C)
def FB(T:Txt K mg t):Ok P w K mg base t 39 6 vn:=
 (T.F 39).okI Gc fun h=>(ag (bn (bM (bH (pcI (oW T) (T.G 32) h (ay (a9 T.cl_Rule T.na_left (ai 0)) (aQ 1 (aQ 2 ao)))))) (ah gu) aK) (ag (Cb 3 ["place","way","rule"] 1 [2,0] [0] (a_ rfl T.b_range (PDE.r (fG (sr 1) T.cl T.mt_Web_size (c_ T) (h.mono (by decide)) (T.F 25001).bd))) (ck 0) (pE (h_ h.h64 (aN 0) (PDE.n (PDO.v (bG (ai 1) (cX (a9 T.cl_Rule T.na_kept (ai 2))) em))))) (aA 0)) (ag (bP 4 (PDO.v (oX rfl rfl T.b_dict (eG ["at","place"] 2 [] [0,1] (rK rfl T.b_enumerate (aA 3)) (cL (is:=[0,1]) rfl (ar (pgI 0) (ar (pgI 1) cN))) cC (aZ (af (aA 1) (af (aA 0) ax))))))) (ag (bP 5 (pcI (fF T) (T.G 38) h (aQ 0 (aQ 2 (aQ 3 ao))))) (ag (iZ 6 (kB (PDE.r (PDO.v (eG ["place","web"] 1 [1] [0] (jm 3) (ck 0) cC (aq (PDE.r (a9 T.cl T.na_kinds (ai 1))) (ai 0))))) (PDE.r (PDO.v (bG (PDE.r (a9 T.cl T.na_kinds (PDE.r (a9 T.cl_Rule T.na_right (ai 0))))) (cX (a9 T.cl_Rule T.na_kept (ai 0))) em))))) (ag (pfI (a_ rfl T.b_range (PDE.r (a9 T.cl_Rule T.na_kept (ai 0)))) (ck 7) (ah (eP 6 (pv 6) (aq (ai 5) (ai 7)) (aq (PDE.r (a9 T.cl T.na_kinds (PDE.r (a9 T.cl_Rule T.na_right (ai 0))))) (ai 7))))) (ah (dQ (gr T.mkC (rW T) (h.mono (by decide)) rfl T.mgC (T.F 25000).bd (aQ 6 (ay (aS (PDE.r (pcI (m_ T) (T.G 36) h (ay (pcI (kh T) (T.G 37) h (aQ 0 (aQ 1 (aQ 2 (aQ 3 ao))))) (aQ 4 ao)))) (PDE.r (pcI (m_ T) (T.G 36) h (ay (a9 T.cl T.na_ties (PDE.r (a9 T.cl_Rule T.na_right (ai 0)))) (aQ 5 ao))))) ao)))))))))))
def cW(C:Addr):List DV->Option Nat:=rzX 8 3 (iW (xIf (cw (asB (am (dO C) (aV (d1 (aL az "left") (aa 0)) (aB 1 (aB 2 nA)))))) (xEx 0) xNx)
  (iW (xOf (aF 3 (asO (asL (aw 1 [2,0] (bJ (bf C "size" (aM C) (br (bR 1) g0))) (setV 0) (asB (d2 cn (ak 0) (asO (asL (slL (aa 1) (bI (d1 (aL az "kept") (aa 2))) bNo))))) (getV 0))))))
  (iW (xOf (aF 4 (asO (pS (aw 2 [] (jd (getV 3)) (b5 [0,1]) aX (asT (ae (getV 1) (ae (getV 0) aC))))))))
  (iW (xOf (aF 5 (am (bD C) (aB 0 (aB 2 (aB 3 nA))))))
  (iW (xOf (bt 6 (asL (mw (asO (asL (aw 1 [1] (bA 3) (setV 0) aX (d2 ixD (d1 (aL C "kinds") (aa 1)) (aa 0))))) (asO (asL (slL (d1 (aL C "kinds") (d1 (aL az "right") (aa 0))) (bI (d1 (aL az "kept") (aa 0))) bNo)))))))
  (iW (xOf (cP (bJ (d1 (aL az "kept") (aa 0))) (setV 7) (cr 6 (d2 ixD (aa 5) (aa 7)) (d2 ixD (d1 (aL C "kinds") (d1 (aL az "right") (aa 0))) (aa 7)))))
  (vI C (aB 6 (aV (d2 bb (am (fi C) (aV (am (cH C) (aB 0 (aB 1 (aB 2 (aB 3 nA))))) (aB 4 nA))) (am (fi C) (aV (d1 (aL C "ties") (d1 (aL az "right") (aa 0))) (aB 5 nA)))) nA)) (fm C))))))))
def um(T:Txt K mg t):FnOk P w K mg base (CXc P w t.cl) 6 (fA 39) (dA 39) (fM (top 39)) (oI K t.cl (cW t.C)):=
 (T.F 39).thrI Gc fun h=>(dW (z_ (bM (bH (pcI (oW T) (T.G 32) h (ay (a9 T.cl_Rule T.na_left (ai 0)) (aQ 1 (aQ 2 ao)))))) (mL (mV (k:=0) rfl (qu 0) rfl T.mx_NoWay (T.xi 0))) p7) (dW (t6 (Cb 3 ["place","way","rule"] 1 [2,0] [0] (a_ rfl T.b_range (PDE.r (fG (sr 1) T.cl T.mt_Web_size (c_ T) (h.mono (by decide)) (T.F 25001).bd))) (ck 0) (pE (h_ h.h64 (aN 0) (PDE.n (PDO.v (bG (ai 1) (cX (a9 T.cl_Rule T.na_kept (ai 2))) em))))) (aA 0))) (dW (t6 (bP 4 (PDO.v (oX rfl rfl T.b_dict (eG ["at","place"] 2 [] [0,1] (rK rfl T.b_enumerate (aA 3)) (cL (is:=[0,1]) rfl (ar (pgI 0) (ar (pgI 1) cN))) cC (aZ (af (aA 1) (af (aA 0) ax)))))))) (dW (t6 (bP 5 (pcI (fF T) (T.G 38) h (aQ 0 (aQ 2 (aQ 3 ao)))))) (dW (t6 (iZ 6 (kB (PDE.r (PDO.v (eG ["place","web"] 1 [1] [0] (jm 3) (ck 0) cC (aq (PDE.r (a9 T.cl T.na_kinds (ai 1))) (ai 0))))) (PDE.r (PDO.v (bG (PDE.r (a9 T.cl T.na_kinds (PDE.r (a9 T.cl_Rule T.na_right (ai 0))))) (cX (a9 T.cl_Rule T.na_kept (ai 0))) em)))))) (dW (t6 (Az HL rfl (a_ rfl T.b_range (PDE.r (a9 T.cl_Rule T.na_kept (ai 0)))) (ck 7) (ah (eP 6 (pv 6) (aq (ai 5) (ai 7)) (aq (PDE.r (a9 T.cl T.na_kinds (PDE.r (a9 T.cl_Rule T.na_right (ai 0))))) (ai 7)))))) (mL (uM T.mkC (ol T) (h.mono (by decide)) rfl T.mgC (T.F 25000).bd (aQ 6 (ay (aS (PDE.r (pcI (m_ T) (T.G 36) h (ay (pcI (kh T) (T.G 37) h (aQ 0 (aQ 1 (aQ 2 (aQ 3 ao))))) (aQ 4 ao)))) (PDE.r (pcI (m_ T) (T.G 36) h (ay (a9 T.cl T.na_ties (PDE.r (a9 T.cl_Rule T.na_right (ai 0)))) (aQ 5 ao))))) ao))))))))))
abbrev D0:List Str:=["_law_rule","_law_web_here","_law_row","_law_made","_law_told","_law_odd","error"]
def C8(C:Addr):DF->Option RES:=
  (ap (aF 3 (fun _=>some .non))
  (ap (aF 4 (fun _=>some (.str "")))
  (ap (aF 5 (fun _=>some (.bl false)))
  (ap (vZ (fun a=>((aB 0 (aB 1 (aB 2 nA))) a).bind (cW C)) 6 4 5 ts2 (aF 3 (am (vn C) (aB 0 (aB 1 (aB 2 nA))))))
  (bu (asT (ae (getV 3) (ae (getV 4) (ae (getV 5) aC)))))))))
def rV(C:Addr):List DV->Option DV:=mOf 7 3 (C8 C)
def FP(T:Txt K mg t):Ok P w K mg base t 58 7 rV:=
 (T.F 58).okI D0 fun b=>(ag (bP 3 yf) (ag (bP 4 fH) (ag (bP 5 dS) (ag (Cs (ie:=6) (it:=4) (io:=5) (ts:=ts2) (cl:=t.cl) (fun _ _ z=>z) (wC (fun _ _ z=>z) (um T) (b.mono (by decide)) rfl (T.G 39).2 (T.F 39).fn.kp (T.F 39).bd (aQ 0 (aQ 1 (aQ 2 ao)))) (ah (bP 3 (pcI (FB T) (T.G 39) b (aQ 0 (aQ 1 (aQ 2 ao)))))) rfl rfl rfl T.mx_WebError T.xm ndI rfl rfl (by decide) (by decide) (fun k a o h=>xv (zM ndI rfl rfl rfl rfl (T.exC k) h rfl T.b_isinstance rfl T.b_int rfl T.mx_NoWay rfl T.mx_TooGreat (T.k0 k) (T.k1 k) (DI k)) (EJ (cs:=[t.x_BadName,t.x_BadOrder,t.x_BadPlace,t.x_BadRule,t.x_BadText,t.x_BadTie,t.x_NoWeb,t.x_TooMany,t.x_Twice].map .ref) (cvs:=[t.x_BadName,t.x_BadOrder,t.x_BadPlace,t.x_BadRule,t.x_BadText,t.x_BadTie,t.x_NoWeb,t.x_TooMany,t.x_Twice].map .ref) ndI rfl rfl rfl rfl (T.exC k) h rfl T.b_isinstance (T.k4 k) (pe _) (show 9<=sizeLine from by decide) (j8 rfl T.mx_BadName (j8 rfl T.mx_BadOrder (j8 rfl T.mx_BadPlace (j8 rfl T.mx_BadRule (j8 rfl T.mx_BadText (j8 rfl T.mx_BadTie (j8 rfl T.mx_NoWeb (j8 rfl T.mx_TooMany (j8 rfl T.mx_Twice Ga)))))))))) (Ay ndI rfl rfl rfl rfl rfl rfl (T.exC k) h rfl T.b_isinstance rfl T.b_ValueError (T.k3 k) b.h64 (EG k) (by decide+kernel) (E_ k)) (by decide) (by decide) (by decide) (show 5<D0.length from by decide) (show 4<D0.length from by decide))) (ah (aY (aZ (af (aA 3) (af (aA 4) (af (aA 5) ax))))))))))
def sK(C:Addr):DF->Option RES:=
  (dC (cG C (g8 C) (aV (d1 (aL C "kinds") (aa 0)) (aV (d1 (aL C "ties") (aa 0)) nA))))
def gi(C:Addr):List DV->Option DV:=mOf 1 1 (sK C)
def pp(T:Txt K mg t):Ok P w K mg base t 26 6 gi:=
 (T.F 26).okI ["web"] fun h=>(ah (dQ (gr T.mkC (rW T) (h.mono (by decide)) rfl T.mgC (T.F 25000).bd (ay (a9 T.cl T.na_kinds (ai 0)) (ay (a9 T.cl T.na_ties (ai 0)) ao)))))
def ki(C:Addr):DF->Option RES:=
  (ap (dIf (cw (asB (chD leA leA (cI 0) (ak 3) (d2 j9 (bf C "size" (aM C) (br (bR 1) g0)) (bf C "size" (aM C) (br (bR 2) g0)))))) fg dNx)
  (ap (jF az 0 "left" (am (gi C) (aB 1 nA)))
  (ap (jF az 0 "right" (am (gi C) (aB 2 nA)))
  (jF az 0 "kept" (getV 3)))))
def dn(C:Addr):OD->List DV->Option (OD×D):=rH 4 4 (ki C)
def oh(T:Txt K mg t):FnOk P w K mg base CX0 7 (fA 34000) (dA 34000) (fM (top 34000)) (spM K (dn t.C)):=
 (T.F 34000).okJ ["self","left","right","kept"] fun h=>(ag (bn (bM (qH (PDE.n ac) (aN 3) (PDE.n (re rfl rfl T.b_min (PDE.n (fG (sr 1) T.cl T.mt_Web_size (c_ T) (h.mono (by decide)) (T.F 25001).bd)) (PDE.n (fG (sr 2) T.cl T.mt_Web_size (c_ T) (h.mono (by decide)) (T.F 25001).bd)))))) (ah gu) aK) (ag (iJ 0 T.cl_Rule T.na_left (pv 0) (pcI (pp T) (T.G 26) h (aQ 1 ao))) (ag (iJ 0 T.cl_Rule T.na_right (pv 0) (pcI (pp T) (T.G 26) h (aQ 2 ao))) (ah (iJ 0 T.cl_Rule T.na_kept (pv 0) (aA 3))))))
def tP(C:Addr):DF->Option RES:=
  (bu (nQ (d1 (kP "int") (ak 0)) (Bx (d1 (kP "bool") (ak 0)))))
def dM(C:Addr):List DV->Option DV:=mOf 1 1 (tP C)
def gF(T:Txt K mg t):Ok P w K mg base t 43 1 dM:=
 (T.F 43).okI ["_law_found"] fun h=>(ah (aY (iD (ji rfl T.b_isinstance rfl T.b_int L2.boot_int (aN 0)) (nJ (Ea (ji rfl T.b_isinstance rfl T.b_bool L2.boot_bool (aN 0)))))))
def kF(C:Addr):DF->Option RES:=
  (ap (dIf (orT (cw (asB (d1 (kP "tuple") (ak 0)))) (orT (asB (d2 neD (d1 aG (ak 0)) (cI 4))) (cw (asB (d1 (kP "bool") (d2 ixD (aa 0) (cI 3))))))) (bu (fun _=>some (.bl false))) dNx)
  (bu (nQ (am (dM C) (aV (d2 ixD (aa 0) (cI 0)) nA)) (nQ (am (dM C) (aV (d2 ixD (aa 0) (cI 1)) nA)) (nQ (am (dM C) (aV (d2 ixD (aa 0) (cI 2)) nA)) (d2 eqD (ak 0) (ak 1)))))))
def dc(C:Addr):List DV->Option DV:=mOf 2 2 (kF C)
def oo(T:Txt K mg t):Ok P w K mg base t 50 2 dc:=
 (T.F 50).okI ["_law_found","_law_due_here"] fun h=>(ag (bn (PDW.t (dU (bM (bH (ji rfl T.b_isinstance rfl T.b_tuple L2.boot_tuple (aN 0)))) (dU (g_ h.h64 (PDE.n (aO rfl T.b_len (aN 0))) (PDE.n ac)) (el (bM (bH (ji rfl T.b_isinstance rfl T.b_bool L2.boot_bool (PDE.n (aq (ai 0) (PDE.r ac)))))))))) (ah (aY dS)) aK) (ah (aY (iD (pcI (gF T) (T.G 43) h (ay (aq (ai 0) (PDE.r ac)) ao)) (iD (pcI (gF T) (T.G 43) h (ay (aq (ai 0) (PDE.r ac)) ao)) (iD (pcI (gF T) (T.G 43) h (ay (aq (ai 0) (PDE.r ac)) ao)) (nJ (vx h.h64 (aN 0) (aN 1)))))))))
def kd(C:Addr):DF->Option RES:=
  (ap (dIf (orT (cw (asB (d1 (Da C) (ak 0)))) (orT (cw (asB (d1 (kP "list") (d1 (aL C "kinds") (aa 0))))) (cw (asB (d1 (kP "list") (d1 (aL C "ties") (aa 0))))))) (bu (fun _=>some (.bl false))) dNx)
  (ap (dIf (orT (asB (d2 neD (d1 aG (d1 (aL C "ties") (aa 0))) (d1 aG (ak 2)))) (asB (d2 neD (d1 (aL C "kinds") (aa 0)) (ak 1)))) (bu (fun _=>some (.bl false))) dNx)
  (ap (cP (bK (d1 (aL C "kinds") (aa 0))) (setV 3) (dIf (cw (asB (d1 (kP "str") (ak 3)))) (bu (fun _=>some (.bl false))) dNx))
  (ap (cP (tw (d1 (aL C "ties") (aa 0)) (am (aJ C) (aB 2 nA))) (b5 [4,5]) (dIf (cw (asB (am (dc C) (aB 4 (aB 5 nA))))) (bu (fun _=>some (.bl false))) dNx))
  (bu (fun _=>some (.bl true)))))))
def cQ(C:Addr):List DV->Option DV:=mOf 6 3 (kd C)
def eK(T:Txt K mg t):Ok P w K mg base t 51 3 cQ:=
 (T.F 51).okI ["_law_web_here","_law_kinds","_law_ties","_law_kind_here","_law_found","_law_due_here"] fun h=>(ag (bn (PDW.t (dU (bM (bH (Ez T.cl T.icC rfl T.b_isinstance rfl T.mgC (aN 0)))) (dU (bM (bH (ji rfl T.b_isinstance rfl T.b_list L2.boot_list (PDE.n (a9 T.cl T.na_kinds (ai 0)))))) (el (bM (bH (ji rfl T.b_isinstance rfl T.b_list L2.boot_list (PDE.n (a9 T.cl T.na_ties (ai 0)))))))))) (ah (aY dS)) aK) (ag (bn (PDW.t (dU (g_ h.h64 (PDE.n (aO rfl T.b_len (PDE.n (a9 T.cl T.na_ties (ai 0))))) (PDE.n (aO rfl T.b_len (aN 2)))) (el (g_ h.h64 (PDE.n (a9 T.cl T.na_kinds (ai 0))) (aN 1))))) (ah (aY dS)) aK) (ag (pfI (eM (a9 T.cl T.na_kinds (ai 0))) (ck 3) (ah (bn (bM (bH (ji rfl T.b_isinstance rfl T.b_str L2.boot_str (aN 3)))) (ah (aY dS)) aK))) (ag (pfI (Cd rfl T.b_zip (a9 T.cl T.na_ties (ai 0)) (pcI (fj T) (T.G 49) h (aQ 2 ao))) (cL (is:=[4,5]) rfl (ar (pgI 4) (ar (pgI 5) cN))) (ah (bn (bM (bH (pcI (oo T) (T.G 50) h (aQ 4 (aQ 5 ao))))) (ah (aY dS)) aK))) (ah (aY dS))))))
def pG(C:Addr):DF->Option RES:=
  (ap (aF 1 (am (bp C) (aV (d2 ixD (aa 0) (cI 0)) (aV (cI 1) nA))))
  (ap (aF 2 (am (f_ C) (aV (asO (asL (slL (aa 0) (bI (cI 1)) (bI (cI 4))))) (aB 1 (aV (d2 bb (cI 1) (d2 aW (am (bp C) (aV (d2 ixD (aa 0) (cI 0)) (aV (cI 2) nA))) (cI 4))) nA)))))
  (ap (aF 3 (am (f_ C) (aV (asO (asL (slL (aa 0) (bI (cI 4)) (bI (cI 7))))) (aB 1 (aV (d2 bb (cI 1) (d2 aW (am (bp C) (aV (d2 ixD (aa 0) (cI 0)) (aV (cI 3) nA))) (cI 5))) nA)))))
  (ap (aF 4 (d2 aW (am (bp C) (aV (d2 ixD (aa 0) (cI 7)) (aV (cI 4) nA))) (d2 bb (cI 1) (d2 j9 (d1 aG (d2 ixD (aa 2) (cI 0))) (d1 aG (d2 ixD (aa 3) (cI 0)))))))
  (ap (aF 5 (d2 bb (d1 aG (d2 ixD (aa 2) (cI 0))) (d2 aW (am (bp C) (aV (d2 ixD (aa 0) (cI 8)) (aV (cI 5) nA))) (d2 ff (cI 8) (d1 aG (d2 ixD (aa 2) (cI 0)))))))
  (ap (gQ [6,7,8] (am (fS C) (aB 2 (aV (asO (asL (slL (aa 0) (bI (cI 9)) (bI (cI 14))))) (aB 1 (aB 5 nA))))))
  (ap (aF 9 (asO (asL (eh (aa 8)))))
  (ap (aF 10 (am (bp C) (aV (d2 ixD (aa 0) (cI 14)) (aV (cI 6) nA))))
  (ap (dIf (asB (d2 eqD (d2 aW (aa 10) (cI 3)) (cI 0))) (aF 9 (am (d4 C) (aB 8 (aV (d2 bh (aa 10) (cI 3)) (aB 5 nA))))) dNx)
  (ap (aF 11 (am (fy C) (aB 2 (aB 3 (aV (getV 4) (aV (asT (ae (getV 6) (ae (getV 7) aC))) (aB 9 nA)))))))
  (ap (nV 12 13 14 (asT (ae (asO (cG C (g8 C) (aV (d2 ixD (aa 2) (cI 0)) (aV (d2 ixD (aa 2) (cI 1)) nA)))) (ae (asO (cG C (g8 C) (aV (d2 ixD (aa 3) (cI 0)) (aV (d2 ixD (aa 3) (cI 1)) nA)))) (ae (asO (cG C (g8 C) (aB 6 (aB 7 nA)))) aC)))))
  (ap (aF 15 (asO (asL (eh (aa 9)))))
  (ap (gQ [16,17,18] (am (rV C) (aV (asO (cG az (dn C) (aB 12 (aB 13 (aV (getV 4) nA))))) (aB 14 (aB 15 nA)))))
  (ap (dIf (orT (asB (getV 18)) (orT (asB (d2 neD (ak 17) (ak 11))) (asB (d2 neD (ak 15) (ak 9))))) (bu (fun _=>some (.bl false))) dNx)
  (ap (dIf (orT (cw (asB (am (cQ C) (aB 14 (aB 6 (aB 7 nA)))))) (cw (asB (am (cQ C) (aB 12 (aV (d2 ixD (aa 2) (cI 0)) (aV (d2 ixD (aa 2) (cI 1)) nA))))))) (bu (fun _=>some (.bl false))) dNx)
  (ap (dIf (cw (asB (am (cQ C) (aB 13 (aV (d2 ixD (aa 3) (cI 0)) (aV (d2 ixD (aa 3) (cI 1)) nA)))))) (bu (fun _=>some (.bl false))) dNx)
  (ap (dIf (asB (d2 neD (ak 11) (fun _=>some (.str "")))) (bu (d2 uS (ak 16) (fun _=>some .non))) dNx)
  (ap (gQ [19,20] (am (cx C) (aB 2 (aB 3 (aV (getV 4) (aV (asT (ae (getV 6) (ae (getV 7) aC))) (aB 9 nA)))))))
  (bu (am (cQ C) (aB 16 (aB 19 (aB 20 nA)))))))))))))))))))))))
def fz(C:Addr):List DV->Option DV:=mOf 21 1 (pG C)
def uD(T:Txt K mg t):Ok P w K mg base t 59 9 fz:=
 (T.F 59).okI ["_law_cells_here","_law_seed","_law_left","_law_right","_law_kept","_law_many","_law_stood","_law_ties","_law_way","_law_row","_law_draw","_law_due_here","_law_one_here","_law_other","_law_web_here","_law_handed_here","_law_made","_law_told","_law_odd","_law_kinds","_law_led"] fun h=>(ag (bP 1 (pcI (bS T) (T.G 42) h (ay (aq (ai 0) (PDE.r ac)) (ay ac ao)))) (ag (bP 2 (pcI (n5 T) (T.G 48) h (ay (PDO.v (bG (ai 0) (cX ac) (cX ac))) (aQ 1 (ay (aS (PDE.r ac) (PDE.r (aT (PDE.r (pcI (bS T) (T.G 42) h (ay (aq (ai 0) (PDE.r ac)) (ay ac ao)))) (PDE.r ac)))) ao))))) (ag (bP 3 (pcI (n5 T) (T.G 48) h (ay (PDO.v (bG (ai 0) (cX ac) (cX ac))) (aQ 1 (ay (aS (PDE.r ac) (PDE.r (aT (PDE.r (pcI (bS T) (T.G 42) h (ay (aq (ai 0) (PDE.r ac)) (ay ac ao)))) (PDE.r ac)))) ao))))) (ag (bP 4 (aT (PDE.r (pcI (bS T) (T.G 42) h (ay (aq (ai 0) (PDE.r ac)) (ay ac ao)))) (PDE.r (aS (PDE.r ac) (PDE.r (re rfl rfl T.b_min (PDE.n (aO rfl T.b_len (PDE.n (aq (ai 2) (PDE.r ac))))) (PDE.n (aO rfl T.b_len (PDE.n (aq (ai 3) (PDE.r ac))))))))))) (ag (bP 5 (aS (PDE.r (aO rfl T.b_len (PDE.n (aq (ai 2) (PDE.r ac))))) (PDE.r (aT (PDE.r (pcI (bS T) (T.G 42) h (ay (aq (ai 0) (PDE.r ac)) (ay ac ao)))) (PDE.r (fZ (PDE.r ac) (PDE.r (aO rfl T.b_len (PDE.n (aq (ai 2) (PDE.r ac))))))))))) (ag (qY (cL (is:=[6,7,8]) rfl (ar (pgI 6) (ar (pgI 7) (ar (pgI 8) cN)))) (pcI (qz T) (T.G 52) h (aQ 2 (ay (PDO.v (bG (ai 0) (cX ac) (cX ac))) (aQ 1 (aQ 5 ao)))))) (ag (bP 9 (PDO.v (gs rfl T.b_list (ai 8)))) (ag (bP 10 (pcI (bS T) (T.G 42) h (ay (aq (ai 0) (PDE.r ac)) (ay ac ao)))) (ag (bn (dX h.h64 (PDE.n (aT (ai 10) (PDE.r ac))) (PDE.n ac)) (ah (bP 9 (pcI (n_ T) (T.G 56) h (aQ 8 (ay (bL (ai 10) (PDE.r ac)) (aQ 5 ao)))))) aK) (ag (bP 11 (pcI (vk T) (T.G 57) h (aQ 2 (aQ 3 (ay (aA 4) (ay (aZ (af (aA 6) (af (aA 7) ax))) (aQ 9 ao))))))) (ag (Ae (i1:=12) (i2:=13) (i3:=14) rfl ndI rfl rfl rfl rfl rfl rfl (aZ (af (PDO.v (gr T.mkC (rW T) (h.mono (by decide)) rfl T.mgC (T.F 25000).bd (ay (aq (ai 2) (PDE.r ac)) (ay (aq (ai 2) (PDE.r ac)) ao)))) (af (PDO.v (gr T.mkC (rW T) (h.mono (by decide)) rfl T.mgC (T.F 25000).bd (ay (aq (ai 3) (PDE.r ac)) (ay (aq (ai 3) (PDE.r ac)) ao)))) (af (PDO.v (gr T.mkC (rW T) (h.mono (by decide)) rfl T.mgC (T.F 25000).bd (aQ 6 (aQ 7 ao)))) ax))))) (ag (bP 15 (PDO.v (gs rfl T.b_list (ai 9)))) (ag (qY (cL (is:=[16,17,18]) rfl (ar (pgI 16) (ar (pgI 17) (ar (pgI 18) cN)))) (pcI (FP T) (T.G 58) h (ay (PDO.v (gr T.mk_Rule (oh T) (h.mono (by decide)) rfl T.mg_Rule (T.F 34000).bd (aQ 12 (aQ 13 (ay (aA 4) ao))))) (aQ 14 (aQ 15 ao))))) (ag (bn (PDW.t (dU (bH (aA 18)) (dU (g_ h.h64 (aN 17) (aN 11)) (el (g_ h.h64 (aN 15) (aN 9)))))) (ah (aY dS)) aK) (ag (bn (PDW.t (dU (bM (bH (pcI (eK T) (T.G 51) h (aQ 14 (aQ 6 (aQ 7 ao)))))) (el (bM (bH (pcI (eK T) (T.G 51) h (aQ 12 (ay (aq (ai 2) (PDE.r ac)) (ay (aq (ai 2) (PDE.r ac)) ao))))))))) (ah (aY dS)) aK) (ag (bn (bM (bH (pcI (eK T) (T.G 51) h (aQ 13 (ay (aq (ai 3) (PDE.r ac)) (ay (aq (ai 3) (PDE.r ac)) ao)))))) (ah (aY dS)) aK) (ag (bn (g_ h.h64 (aN 11) (PDE.n fH)) (ah (aY (Eu (aN 16) (PDE.n yf)))) aK) (ag (qY (cL (is:=[19,20]) rfl (ar (pgI 19) (ar (pgI 20) cN))) (pcI (iF T) (T.G 55) h (aQ 2 (aQ 3 (ay (aA 4) (ay (aZ (af (aA 6) (af (aA 7) ax))) (aQ 9 ao))))))) (ah (aY (pcI (eK T) (T.G 51) h (aQ 16 (aQ 19 (aQ 20 ao))))))))))))))))))))))))
def lP(C:Addr):DF->Option RES:=
  (dC (asL (slL (d2 bb (asO (asL (slL (aa 0) (bI (getV 1)) (bI (d2 bb (aa 1) (aa 2)))))) (asO (asL (ae (d2 bb (aa 1) (cI 1)) (ae (cI 5) (ae (cI 2) (ae (cI 9) (ae (cI 4) (ae (cI 7) (ae (cI 1) (ae (cI 8) (ae (cI 3) (ae (cI 6) (ae (cI 0) (ae (cI 11) (ae (cI 13) (ae (cI 12) (ae (cI 10) (ae (cI 14) aC))))))))))))))))))) bNo (bI (getV 2)))))
def dL(C:Addr):List DV->Option DV:=mOf 3 3 (lP C)
def qq(T:Txt K mg t):Ok P w K mg base t 41 1 dL:=
 (T.F 41).okI ["_law_script","_law_at","_law_many"] fun h=>(ah (dQ (bG (PDE.r (aS (PDE.r (PDO.v (bG (ai 0) (cX (aA 1)) (cX (aS (ai 1) (ai 2)))))) (PDE.r (PDO.v (fu (af (aS (ai 1) (PDE.r ac)) (af ac (af ac (af ac (af ac (af ac (af ac (af ac (af ac (af ac (af ac (af ac (af ac (af ac (af ac (af ac ax))))))))))))))))))))) em (cX (aA 2)))))
def CL(C:Addr):DF->Option RES:=
  (ap (cP (AI (cI 0) (d2 nH (cI 1) (d1 aG (ak 0))) (cI 16)) (setV 1) (dIf (cw (asB (am (fz C) (aV (am (dL C) (aB 0 (aV (getV 1) (aV (cI 16) nA)))) nA)))) (bu (fun _=>some (.bl false))) dNx))
  (bu (fun _=>some (.bl true))))
def Ab(C:Addr):List DV->Option DV:=mOf 2 1 (CL C)
def Ee(T:Txt K mg t):Ok P w K mg base t 60 10 Ab:=
 (T.F 60).okI ["_law_script","_law_at"] fun h=>(ag (pfI (uw rfl T.b_range ac (vw rfl rfl T.b_max (PDE.n ac) (PDE.n (aO rfl T.b_len (aN 0)))) ac) (ck 1) (ah (bn (bM (bH (pcI (uD T) (T.G 59) h (ay (pcI (qq T) (T.G 41) h (aQ 0 (ay (aA 1) (ay ac ao)))) ao)))) (ah (aY dS)) aK))) (ah (aY dS)))
end
def fq(I:Nat->DF->Prop):∀(ds:List D) (k:Nat) (ρ:DF),I k ρ->
  (∀j d ρ,ds[j]?=some d->I (k+j) ρ->∃a,st d ρ=some a/\∃ρ',body a=some (.nx ρ')/\I (k+j+1) ρ')->∃ρ',dj st body ds ρ=some (.nx ρ')/\I (k+ds.length) ρ'
 |[],k,ρ,h,_=>⟨ρ,rfl,h⟩
 |d::ds,k,ρ,h,hs=>by
  obtain⟨a,o,ρ',m,i⟩:=hs 0 d ρ rfl h;obtain⟨b,l,g⟩:=fq I ds (k+1) ρ' i fun j p c e f=>by
   have:=hs (j+1) p c (by simpa using e) (by rw[<-Nat.add_assoc,XF];exact f)
   rwa [show k+(j+1)+1=k+1+j+1 by omega]at this
  refine⟨b,?_,by rw[Yz,show k+(ds.length+1)=k+1+ds.length by omega];exact g⟩;unfold dj;rw[o];simp only[m];exact l
def dY(I:DF->Prop)(h:I ρ)
  (b:∀d∈ds,∀ρ,I ρ->∃a,st d ρ=some a/\∃ρ',body a=some (.nx ρ')/\I ρ'):∃ρ',dj st body ds ρ=some (.nx ρ')/\I ρ':=
 fq (fun _=>I) ds 0 ρ h fun j d ρ c e=>b d (YB c) ρ e
def bN{c:Dk}{e:Dd}{b:Type}(f:b->D)(F:b->D):∀xs:List b,(∀x∈xs,∃a,st (f x) ρ=some a/\c a=some true/\e a=some (F x))->cD st c e ρ (xs.map f)=some (xs.map F)
 |[],_=>rfl
 |x::xs,h=>by
  obtain⟨a,l,j,i⟩:=h x Yf;rw[Yx];unfold cD;rw[l,Ya,j,Ya,Yh rfl,i,Ya,bN f F xs fun y g=>h y (Yd _ g)];rfl
def kM{c:Dk}{e:Dd}{b:Type}(f:b->D)(G:b->Prop):∀ds:List D,(∀d∈ds,∃a,st d ρ=some a/\c a=some true/\∃y,e a=some (f y)/\G y)->∃ys:List b,cD st c e ρ ds=some (ys.map f)/\ys.length=ds.length/\∀y∈ys,G y
 |[],_=>⟨[],rfl,rfl,fun _ h=>by cases h⟩
 |x::xs,h=>by
  obtain⟨a,p,o,y,m,l⟩:=h x Yf;obtain⟨ys,i,g,q⟩:=kM f G xs fun y j=>h y (Yd _ j)
  refine⟨y::ys,?_,by simp[g],fun z hz=>?_⟩
  ·unfold cD;rw[p,Ya,o,Ya,Yh rfl,m,Ya,i];rfl
  ·rcases YH.mp hz with rfl|hz
   ·exact l
   ·exact q z hz
def gx(i j:Int):eqd (.int i) (.int j)=decide (i=j):=by
 have h:=df (.int i) (.int j) rfl;by_cases e:i=j
 ·rw[YM e,h,e]
 ·rw[YE e];cases q:eqd (.int i) (.int j)with
  |false=>rfl
  |true=>exact absurd (by simpa using h.mp q) e
def El(i j:Bool):eqd (.bl i) (.bl j)=decide (i=j):=by
 have h:=df (.bl i) (.bl j) rfl;by_cases e:i=j
 ·rw[YM e,h,e]
 ·rw[YE e];cases q:eqd (.bl i) (.bl j)with
  |false=>rfl
  |true=>exact absurd (by simpa using h.mp q) e
@[simp] theorem Hl(i j:Int):eqD (.int i) (.int j)=some (.bl (decide (i=j))):=by unfold eqD;rw[gx];rfl
@[simp] theorem IM(i j:Bool):eqD (.bl i) (.bl j)=some (.bl (decide (i=j))):=by unfold eqD;rw[El];rfl
@[simp] theorem AU(i j:Int):neD (.int i) (.int j)=some (.bl (!decide (i=j))):=by unfold neD;rw[gx];rfl
@[simp] theorem Hj(i j:Int):ltd (.int i) (.int j)=some (.bl (decide (i<j))):=rfl
@[simp] theorem Bg(i j:Int):gtI (.int i) (.int j)=some (.bl (decide (j<i))):=rfl
@[simp] theorem Hk(i j:Int):leA (.int i) (.int j)=some (.bl (decide (i<=j))):=rfl
@[simp] theorem Hh(i j:Int):ltI (.int i) (.int j)=some (.bl (decide (i<j))):=rfl
@[simp] theorem GP(i j:Int):bb (.int i) (.int j)=some (.int (i+j)):=rfl
@[simp] theorem GR(i j:Int):ff (.int i) (.int j)=some (.int (i-j)):=rfl
def eQ(i j:Int)(h:(-(2^64)<i/\i<2^64)\/(-(2^64)<j/\j<2^64)):fJ (.int i) (.int j)=some (.int (i*j)):=Yh (YM h)
def aI(i j:Int)(h:0<j):aW (.int i) (.int j)=some (.int (i%j)):=Yh (YM h)
def bF(i j:Int)(h:0<j/\j<1073741824):bh (.int i) (.int j)=some (.int (i/j)):=Yh (YM h)
@[simp] theorem Hf:tz (.int 10) (.int 30)=some (.int 1000000000000000000000000000000):=rfl
section
variable   {fl:Dl}{fv:Dv}{c c':Dk}{h:Dw}   
@[simp] theorem j7:ap g h ρ=match g ρ with|some (.nx ρ')=>h ρ'|r=>r:=rfl
@[simp] theorem gH:aF i f ρ=(f ρ).map fun d=>.nx (ρ.set i (some (.v d))):=rfl
@[simp] theorem kt:bt i fo ρ=(fo ρ).map fun o=>.nx (ρ.set i (some (.own o none))):=rfl
@[simp] theorem He:bu f ρ=(f ρ).map fun d=>.rt (.v d) ρ:=rfl
@[simp] theorem fK:dC fo ρ=(fo ρ).map fun o=>.rt (.own o none) ρ:=rfl
@[simp] theorem GY:i8 i ρ=match ρ[i]? with|some (some x)=>some (.rt x ρ)|_=>none:=rfl
@[simp] theorem dw:dIf c g h ρ=(c ρ).bind fun b=>if b=true then g ρ else h ρ:=rfl
@[simp] theorem Iu:dNx ρ=some (.nx ρ):=rfl
@[simp] theorem FT:vq f ρ=(f ρ).map fun _=>.nx ρ:=rfl
@[simp] theorem FW{F:D->Option D}:d1 F fa ρ=(fa ρ).bind F:=rfl
@[simp] theorem vJ{F:Dy}:d2 F fa fb ρ=(fa ρ).bind fun x=>(fb ρ).bind fun y=>F x y:=rfl
@[simp] theorem G6:getV i ρ=match ρ[i]? with|some (some (.v d))=>some d|_=>none:=rfl
@[simp] theorem G9:aa i ρ=match ρ[i]? with|some (some (.v d))=>some d|some (some (.own o _))=>if o.flat=true then some o.d else none|some (some (.bor o))=>if o.flat=true then some o.d else none|_=>none:=rfl
@[simp] theorem G8:ak i ρ=match ρ[i]? with|some (some (.v d))=>some d|some (some (.own o _))=>some o.d|some (some (.bor o))=>some o.d|_=>none:=rfl
@[simp] theorem IY:aB i fv ρ=match ρ[i]? with|some (some (.own o _))=>(fv ρ).map fun xs=>.bor o::xs|some (some (.bor o))=>(fv ρ).map fun xs=>.bor o::xs|some (some (.v d))=>(fv ρ).map fun xs=>.v d::xs|_=>none:=rfl
@[simp] theorem CU:aV f fv ρ=(f ρ).bind fun d=>(fv ρ).map fun xs=>.v d::xs:=rfl
@[simp] theorem tm:am m fv ρ=(fv ρ).bind fun xs=>(m xs).bind dvD:=rfl
@[simp] theorem yD:lY m fv ρ=(fv ρ).bind fun xs=>(m xs).bind dvO:=rfl
@[simp] theorem jg:asB f ρ=match f ρ with|some (.bl b)=>some b|_=>none:=rfl
@[simp] theorem cz:asL fl ρ=(fl ρ).map .lst:=rfl
@[simp] theorem da:asO fo ρ=(fo ρ).map OD.d:=rfl
@[simp] theorem Db:asT fl ρ=(fl ρ).map .tup:=rfl
@[simp] theorem mW:ae f fl ρ=(f ρ).bind fun d=>(fl ρ).map fun r=>d::r:=rfl
@[simp] theorem G7:aC ρ=some []:=rfl
@[simp] theorem jD:cw c ρ=(c ρ).map fun b=>!b:=rfl
@[simp] theorem Hb:aX ρ=some true:=rfl
@[simp] theorem BG{d:D}:setV i d ρ=some (ρ.set i (some (.v d))):=rfl
@[simp] theorem Hr:ifV c f fa ρ=(c ρ).bind fun b=>if b=true then f ρ else fa ρ:=rfl
@[simp] theorem Fi:eh f ρ=(f ρ).bind eF:=rfl
def iu:jH f ρ=(f ρ).bind fun d=>(eF d).bind fun ds=>if eE ds=true then some (dh ds)else none:=rfl
def pZ{it:Dl} :cP it st g ρ=(it ρ).bind fun ds=>dj st g ds ρ:=rfl
@[simp] theorem Bd:kS i g ρ=match ρ[i]? with|some (some (.own o none))=>g (ρ.set i (some (.v o.d)))|some (some (.v d))=>g ρ|_=>none:=rfl
def bc{it:Dl}{e:Dd}:aw own ix it st c e ρ=(it ρ).bind fun ds=>if ds.length<=16777216 then cD st c e (iC own ix ρ) ds else none:=rfl
@[simp] theorem Hm:dN c c' ρ=(c ρ).bind fun b=>if b=true then c' ρ else some false:=rfl
@[simp] theorem Ii:orT c c' ρ=(c ρ).bind fun b=>if b=true then some true else c' ρ:=rfl
@[simp] theorem Hg:nQ f fa ρ=match f ρ with|some (.bl true)=>fa ρ|some (.bl false)=>some (.bl false)|_=>none:=rfl
@[simp] theorem Iz:orV f fa ρ=match f ρ with|some (.bl false)=>fa ρ|some (.bl true)=>some (.bl true)|_=>none:=rfl
@[simp] theorem Ha:Bx f ρ=match f ρ with|some (.bl b)=>some (.bl (!b))|_=>none:=rfl
@[simp] theorem Dt{F G:Dy}:chD F G fa fb fc ρ=(fa ρ).bind fun x=>(fb ρ).bind fun y=>match F x y with|some (.bl true)=>(fc ρ).bind fun z=>G y z|some (.bl false)=>some (.bl false)|_=>none:=rfl
@[simp] theorem GU:bK f ρ=match f ρ with|some (.lst ds)=>some ds|_=>none:=rfl
@[simp] theorem FL:bA i ρ=match ρ[i]? with|some (some (.bor (.lst ds)))=>some ds|some (some (.v (.lst ds)))=>some ds|_=>none:=rfl
def A4:bJ f ρ=match f ρ with|some (.int j)=>if -(2^62)<=j/\j<2^62 then some (cq 0 j.toNat)else none|_=>none:=rfl
@[simp] theorem HD{b a:DF->Option (Option Int)}:slS f b a ρ=match f ρ with|some (.str x)=>if x.length<=16777216 then(b ρ).bind fun l=>(a ρ).map fun h=>.str (Txt.slice x l h)else none|_=>none:=rfl
def fY{b a:DF->Option (Option Int)}:slL f b a ρ=match f ρ with|some (.lst xs)=>(b ρ).bind fun l=>(a ρ).map fun h=>cE xs l h|_=>none:=rfl
def rg:mw fa fb ρ=match fa ρ,fb ρ with|some (.lst xs),some (.lst ys)=>if xs.length+ys.length<=16777216 then some (xs++ys)else none|_,_=>none:=rfl
@[simp] theorem Hc:eD i f ρ=match ρ[i]? with|some (some (.own (.lst ds) t))=>(f ρ).bind fun d=>if ds.length<16777216 then some (.nx (ρ.set i (some (.own (.lst (ds++[d])) t))))else none|_=>none:=rfl
@[simp] theorem G5:gQ is f ρ=(f ρ).bind fun d=>(b5 is d ρ).map .nx:=rfl
@[simp] theorem I0:bI f ρ=match f ρ with|some (.int i)=>some (some i)|_=>none:=rfl
@[simp] theorem Hq:bNo ρ=some none:=rfl
end
@[simp] theorem I_:(OD.lst ds).d=.lst ds:=rfl
@[simp] theorem Jh{ds:List (List Key×D)}:(OD.dT ds).d=.dT ds:=rfl
@[simp] theorem Ja{ds:List (Key×D)}:(OD.dK ds).d=.dK ds:=rfl
@[simp] theorem I9{ds:List (Str×D)}:(OD.ins C ds).d=.ins C ds:=rfl
@[simp] theorem I8:(OD.lst ds).flat=true:=rfl
@[simp] theorem Ji{ds:List (List Key×D)}:(OD.dT ds).flat=true:=rfl
@[simp] theorem Jk{ds:List (Key×D)}:(OD.dK ds).flat=true:=rfl
@[simp] theorem Jd{ds:List (Str×D)}:(OD.ins C ds).flat=true:=rfl
@[simp] theorem Jn{d:D}:dvD (.v d)=some d:=rfl
@[simp] theorem Je{o:OD}{t:Option Addr}:dvD (.own o t)=some o.d:=rfl
@[simp] theorem Jc{o:OD}{t:Option Addr}:dvO (.own o t)=some o:=rfl
@[simp] theorem Jm{x:DV} :dG (some (.rt x ρ))=some x:=rfl
@[simp] theorem Jj:dG (some (.nx ρ))=some (.v .non):=rfl
@[simp] theorem Jb{d:D}:wU (some (.v d))=some (.v d):=rfl
@[simp] theorem Jl{o:OD}{t:Option Addr}:wU (some (.own o t))=some (.bor o):=rfl
@[simp] theorem Jg{o:OD}:wU (some (.bor o))=some (.bor o):=rfl
@[simp] theorem Hi:iC own ix ρ=List.replicate own none++ix.map fun j=>wU (ρ[j]?).join:=rfl
@[simp] theorem HN:eF (.lst ds)=some ds:=rfl
@[simp] theorem fB:eF (.tup ds)=some ds:=rfl
@[simp] theorem FK:aG (.lst ds)=some (.int ds.length):=rfl
@[simp] theorem Jf:aG (.tup ds)=some (.int ds.length):=rfl
def ix1{i:Int}:ixD (.lst ds) (.int i)=atI ds i:=rfl
def ix2{i:Int}:ixD (.tup ds) (.int i)=atI ds i:=rfl
@[simp] theorem Ho{n p:Nat}  :mOf n p g xs=if xs.length=p then dG (g (aP n p xs))else none:=rfl
@[simp] theorem Fj{n p:Nat} :aP n p xs=xs.map some++List.replicate (n-p) none:=rfl
def Iq{x:Int}(h:0<=x/\x<3):x=0\/x=1\/x=2:=by
 obtain⟨m,rfl⟩:=Zl h.1;have a:∀m:Fin 3,((m:Nat):Int)=0\/((m:Nat):Int)=1\/((m:Nat):Int)=2:=by decide
 exact a ⟨m,Int.ofNat_lt.mp h.2⟩
def Hu{x:Int}(h:0<=x/\x<5):x=0\/x=1\/x=2\/x=3\/x=4:=by
 obtain⟨m,rfl⟩:=Zl h.1;have a:∀m:Fin 5,((m:Nat):Int)=0\/((m:Nat):Int)=1\/((m:Nat):Int)=2\/((m:Nat):Int)=3\/((m:Nat):Int)=4:=by decide
 exact a ⟨m,Int.ofNat_lt.mp h.2⟩
def Ig{x:Int}(h:0<=x/\x<6):x=0\/x=1\/x=2\/x=3\/x=4\/x=5:=by
 obtain⟨m,rfl⟩:=Zl h.1;have a:∀m:Fin 6,((m:Nat):Int)=0\/((m:Nat):Int)=1\/((m:Nat):Int)=2\/((m:Nat):Int)=3\/((m:Nat):Int)=4\/((m:Nat):Int)=5:=by decide
 exact a ⟨m,Int.ofNat_lt.mp h.2⟩
def Eg{x:Int}(h:1<=x/\x<8):x=1\/x=2\/x=3\/x=4\/x=5\/x=6\/x=7:=by
 obtain⟨m,b⟩:=Zl (show 0<=x-1 by omega);have a:∀m:Fin 7,((m:Nat):Int)+1=1\/((m:Nat):Int)+1=2\/((m:Nat):Int)+1=3\/((m:Nat):Int)+1=4\/((m:Nat):Int)+1=5\/((m:Nat):Int)+1=6\/((m:Nat):Int)+1=7:=by decide
 have:=a ⟨m,by omega⟩
 rwa [show((m:Nat):Int)+1=x by omega]at this
def GI(s:Int):s%3=0\/s%3=1\/s%3=2:=Iq ⟨YS s (by decide),YJ s (by decide)⟩
def HY(s:Int):s%5=0\/s%5=1\/s%5=2\/s%5=3\/s%5=4:=Hu ⟨YS s (by decide),YJ s (by decide)⟩
def HG(s:Int):s%6=0\/s%6=1\/s%6=2\/s%6=3\/s%6=4\/s%6=5:=Ig ⟨YS s (by decide),YJ s (by decide)⟩
def fX(C:Addr)(c k:Int)(i:0<=k/\k<=1000):∃r:Int,bp C [.v (.int c),.v (.int k)]=some (.v (.int r))/\0<=r/\r<998244353:=by
 have g:fJ (.int 7919) (.int k)=some (.int (7919*k)):=eQ _ _ (.inl (by decide));have f:fJ (.int (7919*k)) (.int k)=some (.int (7919*k*k)):=eQ _ _ (.inr (by omega));have e:∀x,fJ (.int x) (.int 48271)=some (.int (x*48271)):=fun x=>eQ _ _ (.inr (by decide))
 have h:∀x:Int,0<=x->x<2147483629->fJ (.int x) (.int x)=some (.int (x*x)):=fun x _ _=>eQ _ _ (.inr (by omega))
 have b:=aI c 2147483647 (by decide);have a:=fun x=>aI x 2147483629 (by decide)
 have m:=fun x=>aI x 998244353 (by decide)
 refine⟨((c%2147483647+1+7919*k*k)*48271%2147483629)*((c%2147483647+1+7919*k*k)*48271%2147483629)%998244353,?_,YS _ (by decide),YJ _ (by decide)⟩;simp[bp,o7,g,f,e,h,b,a,m];rw[h _ (YS _ (by decide)) (YJ _ (by decide))];simp[m]
def okW(x:Str):Prop:=1<=x.cps.size/\x.cps.size<=3/\∀c∈x.cps.toList,97<=c/\c<=122
abbrev abc:Str := "abcdefghijklmnopqrstuvwxyz"
def qe(i:Int):∃c:Nat,ixD (.str abc) (.int (i%26))=some (.str ⟨#[c]⟩)/\97<=c/\c<=122:=by
 have h:∀j:Fin 26,∃c:Fin 123,ixD (.str abc) (.int (j:Nat))=some (.str ⟨#[(c:Nat)]⟩)/\97<=(c:Nat):=by
  intro j;refine⟨⟨97+j,by omega⟩,?_,by simp⟩;revert j;have:∀j:Fin 26,(atI abc.cps.toList ((j:Nat):Int))=some (97+(j:Nat)):=by decide+kernel
  intro j;show(if abc.length<=16777216 then(atI abc.cps.toList ((j:Nat):Int)).map fun c=>D.str ⟨#[c]⟩else none)=_;rw[this j];rfl
 have f:0<=i%26:=YS _ (by decide);have e:i%26<26:=YJ _ (by decide);obtain⟨c,b,a⟩:=h ⟨(i%26).toNat,by omega⟩;refine⟨c,?_,a,by omega⟩;rw[<-b]
 congr 2
 simp only;omega
def Bc(C:Addr)(s w:Int)(hs:0<=s)(hw:0<=w):∃x:Str,cK C [.v (.int s),.v (.int w)]=some (.v (.str x))/\okW x:=by
 have M:=bF s 9 (by decide);have Z:=bF s 3 (by decide);have m:=fun x=>aI x 26 (by decide)
 have P:=fun x=>aI x 3 (by decide)
 have O:=fun x=>aI x 4 (by decide)
 have u:∀x,fJ (.int 7) (.int x)=some (.int (7*x)):=fun x=>eQ _ _ (.inl (by decide))
 obtain⟨c,L,g0⟩:=qe (s/9+7*0);obtain⟨a,Y,g1⟩:=qe (s/9+7*1);obtain⟨f,K,g2⟩:=qe (s/9+7*2);have T:∀i:DF,i[2]?=some (some (.v (.str abc)))->i[0]?=some (some (.v (.int s)))->aw 1 [2,0] (bJ (cI 3)) (setV 0) aX (d2 ixD (aa 1) (d2 aW (d2 bb (d2 bh (aa 2) (cI 9)) (d2 fJ (cI 7) (aa 0))) (cI 26))) i=some [.str ⟨#[c]⟩,.str ⟨#[a]⟩,.str ⟨#[f]⟩]:=by intro i e1 e2;have r3:bJ (cI 3) i=some [.int 0,.int 1,.int 2]:=rfl;unfold aw;rw[r3];simp only[Int.mul_zero,Int.mul_one]at L Y K;simp[cD,e1,e2,M,u,m];simp at L K;rw[L,Y,K];rfl
 have S:AF (.str "") (.lst [.str ⟨#[c]⟩,.str ⟨#[a]⟩,.str ⟨#[f]⟩])=some (.str ⟨#[c,a,f]⟩):=rfl;have R:(⟨#[c,a,f]⟩:Str).length=3:=rfl;have J:=GI s;have I:=GI w;have mz:∀x:Int,aW (.int x) (.int (1+s%3))=some (.int (x%(1+s%3))):=fun x=>aI _ _ (by omega)
 have t1:Txt.slice ⟨#[c,a,f]⟩ none (some 1)=⟨#[c]⟩:=rfl;have N:Txt.slice ⟨#[c,a,f]⟩ none (some 2)=⟨#[c,a]⟩:=rfl;have t3:Txt.slice ⟨#[c,a,f]⟩ none (some 3)=⟨#[c,a,f]⟩:=rfl;have t0:Txt.slice ⟨#[c,a,f]⟩ none (some 0)=⟨#[]⟩:=rfl;have E:Txt.slice ⟨#[c,a,f]⟩ (some 1) (some 1)=⟨#[]⟩:=rfl;have B:Txt.slice ⟨#[c,a,f]⟩ (some 1) (some 2)=⟨#[a]⟩:=rfl;have A:Txt.slice ⟨#[c,a,f]⟩ (some 1) (some 3)=⟨#[a,f]⟩:=rfl;have q:Txt.slice ⟨#[c,a,f]⟩ (some 2) (some 2)=⟨#[]⟩:=rfl;have o:Txt.slice ⟨#[c,a,f]⟩ (some 2) (some 3)=⟨#[f]⟩:=rfl;have l:Txt.slice ⟨#[c,a,f]⟩ (some 3) (some 3)=⟨#[]⟩:=rfl;by_cases X:s/3%4=0
 ·have e:cK C [.v (.int s),.v (.int w)]=some (.v (.str (Txt.slice ⟨#[c,a,f]⟩ none (some (1+w%3))))):=by simp[cK,jp,T,S,R,M,Z,m,P,O,u,X]
  refine⟨_,e,?_⟩;rcases I with h|h|h<;>rw[h]
  ·show okW (Txt.slice _ none (some 1));rw[t1];simp[okW];omega
  ·show okW (Txt.slice _ none (some 2));rw[N];simp[okW];omega
  ·show okW (Txt.slice _ none (some 3));rw[t3];simp[okW];omega
 ·obtain⟨b,U,gb⟩:=qe (s/9+7*(s/3%(1+s%3))+w);have g:∀p z:Int,s/3%(1+s%3)=p->1+s%3=z->∀x y:Str,Txt.slice ⟨#[c,a,f]⟩ none (some p)=x->Txt.slice ⟨#[c,a,f]⟩ (some (p+1)) (some z)=y->x.length+1+y.length<=16777216->
    cK C [.v (.int s),.v (.int w)]=some (.v (.str (x++⟨#[b]⟩++y))):=by
   intro p z j Q x y hx hy hn;rw[j]at U;have q1:bb (.str x) (.str ⟨#[b]⟩)=some (.str (x++⟨#[b]⟩)):=Yh (show x.length+1<=16777216 by omega);have q2:bb (.str (x++⟨#[b]⟩)) (.str y)=some (.str (x++⟨#[b]⟩++y)):=Yh (by
    have:(x++(⟨#[b]⟩:Str)).length=x.length+1:=by show(x.cps++#[b]).size=_;simp;rfl
    rw[this];exact hn)
   have H:aW (.int (s/3)) (.int z)=some (.int p):=by rw[<-Q,<-j];exact mz _
   simp[cK,jp,T,S,R,M,Z,m,P,O,H,u,X,Q,U,hx,hy,q1,q2]
  have j:(s%3=0/\s/3%(1+s%3)=0)\/(s%3=1/\(s/3%(1+s%3)=0\/s/3%(1+s%3)=1))\/(s%3=2/\(s/3%(1+s%3)=0\/s/3%(1+s%3)=1\/s/3%(1+s%3)=2)):=by
   rcases J with h|h|h
   ·refine .inl ⟨h,?_⟩;rw[h];show s/3%1=0;omega
   ·refine .inr (.inl ⟨h,?_⟩);rw[h];show s/3%2=0\/s/3%2=1;omega
   ·refine .inr (.inr ⟨h,?_⟩);rw[h];show s/3%3=0\/s/3%3=1\/s/3%3=2;omega
  rcases j with⟨h,p⟩|⟨h,p|p⟩|⟨h,p|p|p⟩
  ·exact⟨_,g 0 1 p (by rw[h];rfl) _ _ t0 E (by decide),by show okW ⟨#[b]⟩;simp[okW];omega⟩
  ·exact⟨_,g 0 2 p (by rw[h];rfl) _ _ t0 B (by show 0+1+1<=_;decide),by show okW ⟨#[b,a]⟩;simp[okW];omega⟩
  ·exact⟨_,g 1 2 p (by rw[h];rfl) _ _ t1 q (by show 1+1+0<=_;decide),by show okW ⟨#[c,b]⟩;simp[okW];omega⟩
  ·exact⟨_,g 0 3 p (by rw[h];rfl) _ _ t0 A (by show 0+1+2<=_;decide),by show okW ⟨#[b,a,f]⟩;simp[okW];omega⟩
  ·exact⟨_,g 1 3 p (by rw[h];rfl) _ _ t1 o (by show 1+1+1<=_;decide),by show okW ⟨#[c,b,f]⟩;simp[okW];omega⟩
  ·exact⟨_,g 2 3 p (by rw[h];rfl) _ _ N l (by show 2+1+0<=_;decide),by show okW ⟨#[c,a,b]⟩;simp[okW];omega⟩
def mK(C:Addr)(c s:Int)(p:0<=s/\s<998244353):∃k:Int,b6 C [.v (.int c),.v (.int s)]=some (.v (.int k))/\0<=k/\k<1000000000000000000000000000000:=by
 obtain⟨r,e,o,r1⟩:=fX C c 3 (by decide);have u:fJ (.int (s+1)) (.int 618033988749894848204586834367)=some (.int ((s+1)*618033988749894848204586834367)):=eQ _ _ (.inl (by omega));have a:=fun x=>aI x 1000000000000000000000000000000 (by decide)
 have m:=fun x=>aI x 5 (by decide)
 generalize g:(s+1)*618033988749894848204586834367%1000000000000000000000000000000=f;have j:0<=f:=by omega
 have i:f<1000000000000000000000000000000:=by omega
 have l:=HY r;have b:b6 C [.v (.int c),.v (.int s)]=if r%5=4 then some (.v (.int (c%1000000000000000000000000000000)))else(atI [D.int f,.int f,.int ((f+1)%1000000000000000000000000000000),.int 0] (r%5)).map .v:=by
  by_cases h:r%5=4
  ·simp[b6,jv,u,a,m,e,h,g]
  ·simp[b6,jv,u,a,m,e,h,g,ix1];cases atI [D.int f,.int f,.int ((f+1)%1000000000000000000000000000000),.int 0] (r%5)<;>rfl
 rcases l with h|h|h|h|h<;>rw[b,h]
 ·exact⟨f,rfl,j,i⟩
 ·exact⟨f,rfl,j,i⟩
 ·exact⟨_,rfl,by omega,by omega⟩
 ·exact⟨0,rfl,by decide,by decide⟩
 ·exact⟨_,rfl,by omega,by omega⟩
def kH{a b:Type}(f:a->b):∀(l:List a) (k:Nat),(l.map f).eraseIdx k=(l.eraseIdx k).map f
 |[],_=>rfl
 |_::_,0=>rfl
 |x::l,k+1=>by rw[Yx,XG,XG,Yx,kH f l k]
def t4{n:Nat}{k:Int}(h:0<=k)(h1:k<n)(a:n<1000):pA n (.int k)=some k.toNat:=by
 show(if -(2^63)<=k/\k<2^63 then seqIndex? k n else none)=_;rw[Yh (by omega)];unfold seqIndex?;simp only;have e:¬k<0:=by omega
 simp[e,h,h1]
def iq{a:Type}:∀(l:List a) (k:Nat) (h:k<l.length),(l[k]::l.eraseIdx k).Perm l
 |x::l,0,_=>.refl _
 |x::l,k+1,h=>by
  have:=iq l k (by simpa using h);rw[List.getElem_cons_succ,XG];exact(List.Perm.swap _ _ _).trans (this.cons x)
abbrev shC:DF->Option Bool:=asB (d2 gtI (d1 aG (ak 2)) (cI 0))
abbrev shI(M:Dm):DF->Option D:=d2 aW (am M (aB 0 (aV (d2 bb (cI 50) (d1 aG (ak 2))) nA))) (d1 aG (ak 2))
abbrev shF(s n:Int)(cc o:List Int):DF:=[some (.v (.int s)),some (.v (.int n)),some (.own (.lst (cc.map .int)) none),some (.own (.lst (o.map .int)) none)]
def xl(M:Dm)(s n:Int)(q:∀k:Int,0<=k/\k<=1000->∃r:Int,M [.v (.int s),.v (.int k)]=some (.v (.int r))/\0<=r/\r<998244353)(x:Int)(r o:List Int)(A:r.length+1<=7)(z:o.length<=7):∃k:Nat,∃e:k<(x::r).length,
  iO 3 2 (shI M) (shF s n (x::r) o)=some (.nx (shF s n ((x::r).eraseIdx k) (o++[(x::r)[k]]))):=by
 obtain⟨m,l,y,w⟩:=q (50+((r.length:Int)+1)) (by omega);have h:=aI m ((r.length+1:Nat):Int) (by omega);generalize f:m%((r.length+1:Nat):Int)=k at h;have i:0<=k:=by rw[<-f];exact YS _ (by omega)
 have g:k<((r.length+1:Nat):Int):=by rw[<-f];exact YJ _ (by omega)
 have j:=t4 (n:=r.length+1) i g (by omega);have e:k.toNat<(x::r).length:=by rw[Yz];omega
 refine⟨k.toNat,e,?_⟩;have c:((x::r).map D.int)[k.toNat]?=some (.int ((x::r)[k.toNat])):=by rw[Yt,Yi e];rfl
 have p:shI M (shF s n (x::r) o)=some (.int k):=by have h:aW (.int m) (.int ((r.length:Int)+1))=some (.int k):=h;simp[l,h]
 have b:((x::r).map D.int).length=r.length+1:=by simp
 have a:oa 2 (shI M) (shF s n (x::r) o)=some (shF s n ((x::r).eraseIdx k.toNat) o,.int ((x::r)[k.toNat])):=by
  have:oa 2 (shI M) (shF s n (x::r) o)=(shI M (shF s n (x::r) o)).bind fun u=>(pA ((x::r).map D.int).length u).bind fun k=>(((x::r).map D.int)[k]?).map fun d=>((shF s n (x::r) o).set 2 (some (.own (.lst (((x::r).map D.int).eraseIdx k)) none)),d):=rfl
  rw[this,p,Ya,b,j,Ya,c,kH];rfl
 unfold iO;rw[a,Ya];have:(3:Nat)≠2/\(o.map D.int).length<16777216:=⟨by decide,by rw[Yb];omega⟩
 show(if _ then _ else _)=_;rw[Yh this];show _=some (RES.nx [_,_,_,some (.own (.lst ((o++[(x::r)[k.toNat]]).map .int)) none)]);rw[YT];rfl
def uC(M:Dm)(s n:Int)(i:∀k:Int,0<=k/\k<=1000->∃r:Int,M [.v (.int s),.v (.int k)]=some (.v (.int r))/\0<=r/\r<998244353):∀(f:Nat) (cc o:List Int),cc.length<f->o.length+cc.length<=7->∃out:List Int,
  d9 shC (iO 3 2 (shI M)) f (shF s n cc o)=some (.nx (shF s n [] out))/\out.Perm (o++cc):=by
 intro f;induction f with
 |zero=>intro cc o h;exact absurd h (Nat.not_lt_zero _)
 |succ f ih=>
  intro cc o h b;cases cc with
  |nil=>
   refine⟨o,?_,by simp⟩;unfold d9;simp
  |cons x r=>
   rw[Yz]at h b;obtain⟨k,a,g⟩:=xl M s n i x r o (by omega) (by omega);obtain⟨out,e,p⟩:=ih ((x::r).eraseIdx k) (o++[(x::r)[k]]) (by rw[Xr a,Yz];omega) (by rw[Xr a,Yn,YN,Yz];omega);refine⟨out,?_,p.trans ?_⟩
   ·have c:shC (shF s n (x::r) o)=some true:=by simp
    unfold d9;rw[c];simp only[g];exact e
   ·rw[ZO];exact List.Perm.append_left _ (iq _ k a)
def aH(n:Int):List Int:=(List.range n.toNat).map fun i:Nat=>(i:Int)
def bq(n:Int):(aH n).length=n.toNat:=by simp[aH]
def bT{n i:Int}:i∈aH n↔0<=i/\i<n:=by
 unfold aH;rw[Yv];constructor
 ·rintro⟨k,h,rfl⟩;have:=Zf.mp h;omega
 ·rintro⟨b,a⟩;exact⟨i.toNat,Zf.mpr (by omega),by omega⟩
def nt(n:Int):(aH n).Nodup:=by unfold aH;rw[List.Nodup,List.pairwise_map];exact(List.nodup_range (n:=n.toNat)).imp fun h e=>h (by omega)
def iR(n:Int):cq 0 n.toNat=(aH n).map D.int:=by unfold cq aH;simp
def vW(C:Addr)(s n:Int)(a:1<=n/\n<=7):∃out:List Int,bY C [.v (.int s),.v (.int n)]=some (.own (.lst (out.map .int)) none)/\out.Perm (aH n):=by
 obtain⟨out,e,p⟩:=uC (bp C) s n (fX C s) 10 (aH n) [] (by rw[bq];omega) (by rw[bq,YY];omega);refine⟨out,?_,by simpa using p⟩;have h:l6 (getV 1) [some (.v (.int s)),some (.v (.int n)),none,none]=some ((aH n).map .int):=by show(if n<16777216/\-(2^62)<=n then some (cq 0 n.toNat)else none)=_;rw[Yh (by omega),iR]
 simp only[shF,List.map_nil]at e;unfold bY iz;generalize bp C=M at e ⊢;simp[h,e]
def dP(p:Int×Int):D:=.tup [.int p.1,.int p.2]
def okP(n:Int)(p:Int×Int):Prop:=0<=p.1/\p.1<n/\0<=p.2/\p.2<n/\p.1≠p.2
abbrev Hs:DF->Option RES:=(ap (aF 3 (d2 bh (aa 1) (cI 2)))
  (ap (dIf (dN (asB (d2 eqD (ak 2) (cI 1))) (asB (d2 gtI (aa 1) (cI 1)))) (dC (asL (aw 1 [1] (bJ (aa 1)) (setV 0) aX (asT (ae (getV 0) (ae (d2 aW (d2 bb (aa 0) (cI 1)) (aa 1)) aC)))))) dNx)
  (ap (dIf (asB (d2 eqD (ak 2) (cI 2))) (dC (asL (aw 1 [] (mq (cI 1) (aa 1)) (setV 0) aX (asT (ae (cI 0) (ae (getV 0) aC)))))) dNx)
  (ap (dIf (asB (d2 eqD (ak 2) (cI 3))) (dC (asL (mw (asO (asL (aw 1 [] (bJ (d2 ff (aa 3) (cI 1))) (setV 0) aX (asT (ae (getV 0) (ae (d2 bb (aa 0) (cI 1)) aC)))))) (asO (asL (aw 1 [] (mq (aa 3) (d2 ff (d2 fJ (cI 2) (aa 3)) (cI 1))) (setV 0) aX (asT (ae (getV 0) (ae (d2 bb (aa 0) (cI 1)) aC))))))))) dNx)
  (ap (bt 4 (asL aC))
  (ap (dIf (dN (asB (d2 eqD (ak 2) (cI 4))) (asB (d2 ltd (ak 1) (cI 6)))) (cP (bJ (aa 1)) (setV 5) (tY 4 (aw 1 [5] (bJ (aa 5)) (setV 0) aX (asT (ae (getV 0) (ae (getV 1) aC)))))) dNx)
  (i8 4)))))))
def AR(s h n:Int)(b:h=0\/h=1\/h=2\/h=3\/h=4\/h=5)(a:n=1\/n=2\/n=3\/n=4\/n=5\/n=6\/n=7):∃(ps:List (Int×Int)) (z:DF),Hs
  [some (.v (.int s)),some (.v (.int n)),some (.v (.int h)),none,none,none]=some (.rt (.own (.lst (ps.map dP)) none) z)/\ps.length<=12/\∀p∈ps,okP n p:=by
 rcases b with rfl|rfl|rfl|rfl|rfl|rfl<;>rcases a with rfl|rfl|rfl|rfl|rfl|rfl|rfl
 iterate 8 exact⟨[],_,rfl,by decide,by simp[okP]⟩
 ·exact⟨[(0,1),(1,0)],_,rfl,by decide,by simp[okP]⟩
 ·exact⟨[(0,1),(1,2),(2,0)],_,rfl,by decide,by simp[okP]⟩
 ·exact⟨[(0,1),(1,2),(2,3),(3,0)],_,rfl,by decide,by simp[okP]⟩
 ·exact⟨[(0,1),(1,2),(2,3),(3,4),(4,0)],_,rfl,by decide,by simp[okP]⟩
 ·exact⟨[(0,1),(1,2),(2,3),(3,4),(4,5),(5,0)],_,rfl,by decide,by simp[okP]⟩
 ·exact⟨[(0,1),(1,2),(2,3),(3,4),(4,5),(5,6),(6,0)],_,rfl,by decide,by simp[okP]⟩
 ·exact⟨[],_,rfl,by decide,by simp[okP]⟩
 ·exact⟨[(0,1)],_,rfl,by decide,by simp[okP]⟩
 ·exact⟨[(0,1),(0,2)],_,rfl,by decide,by simp[okP]⟩
 ·exact⟨[(0,1),(0,2),(0,3)],_,rfl,by decide,by simp[okP]⟩
 ·exact⟨[(0,1),(0,2),(0,3),(0,4)],_,rfl,by decide,by simp[okP]⟩
 ·exact⟨[(0,1),(0,2),(0,3),(0,4),(0,5)],_,rfl,by decide,by simp[okP]⟩
 ·exact⟨[(0,1),(0,2),(0,3),(0,4),(0,5),(0,6)],_,rfl,by decide,by simp[okP]⟩
 iterate 3 exact⟨[],_,rfl,by decide,by simp[okP]⟩
 ·exact⟨[(0,1),(2,3)],_,rfl,by decide,by simp[okP]⟩
 ·exact⟨[(0,1),(2,3)],_,rfl,by decide,by simp[okP]⟩
 ·exact⟨[(0,1),(1,2),(3,4),(4,5)],_,rfl,by decide,by simp[okP]⟩
 ·exact⟨[(0,1),(1,2),(3,4),(4,5)],_,rfl,by decide,by simp[okP]⟩
 ·exact⟨[],_,rfl,by decide,by simp[okP]⟩
 ·exact⟨[(0,1)],_,rfl,by decide,by simp[okP]⟩
 ·exact⟨[(0,1),(0,2),(1,2)],_,rfl,by decide,by simp[okP]⟩
 ·exact⟨[(0,1),(0,2),(1,2),(0,3),(1,3),(2,3)],_,rfl,by decide,by simp[okP]⟩
 ·exact⟨[(0,1),(0,2),(1,2),(0,3),(1,3),(2,3),(0,4),(1,4),(2,4),(3,4)],_,rfl,by decide,by simp[okP]⟩
 iterate 9 exact⟨[],_,rfl,by decide,by simp[okP]⟩
def Er(C:Addr)(s n:Int)(a:1<=n/\n<=7):∃ps:List (Int×Int),ee C [.v (.int s),.v (.int n)]=some (.own (.lst (ps.map dP)) none)/\ps.length<=12/\∀p∈ps,okP n p:=by
 obtain⟨ps,z,e,h⟩:=AR s (s%6) n (HG s) (Eg ⟨a.1,Int.lt_add_one_of_le a.2⟩);refine⟨ps,?_,h⟩;have b:gE C (aP 6 2 [.v (.int s),.v (.int n)])=some (.rt (.own (.lst (ps.map dP)) none) z):=by unfold gE;rw[<-e,j7];simp[aI s 6 (by decide)]
 unfold ee mOf;rw[b];rfl
def n4{n:Nat}{a:DV}:mOf n 1 g [a]=dG (g (aP n 1 [a])):=rfl
def o0{n:Nat}{a b:DV}:mOf n 2 g [a,b]=dG (g (aP n 2 [a,b])):=rfl
def j6{n:Nat}{a b c:DV}:mOf n 3 g [a,b,c]=dG (g (aP n 3 [a,b,c])):=rfl
def Av{n:Nat}{a b c d:DV}:mOf n 4 g [a,b,c,d]=dG (g (aP n 4 [a,b,c,d])):=rfl
def jZ{n:Int}{d:D}(h:((aH n).map D.int)[j]?=some d):d=.int (j:Int):=by
 unfold aH at h;rw[Yt,Yt]at h;cases q:(List.range n.toNat)[j]? with
 |none=>rw[q]at h;cases h
 |some k=>
  rw[q]at h;obtain⟨b,a⟩:=Yj.mp q;rw[List.getElem_range]at a;subst a;cases h;rfl
abbrev T4:=Int×Int×Int×Bool
def dT4(t:T4):D:=.tup [.int t.1,.int t.2.1,.int t.2.2.1,.bl t.2.2.2]
def okT(n:Int)(t:T4):Prop:=0<=t.1/\t.1<n/\0<=t.2.1/\t.2.1<n/\t.1≠t.2.1/\0<=t.2.2.1/\t.2.2.1<1000000000000000000000000000000
def yv{a:Type}{l:List a}{i:Int}(h:0<=i)(h1:i<l.length):atI l i=l[i.toNat]?:=by unfold atI ixN;rw[Yh h,Yh h1];rfl
def gI{a b:Type}{l:List a}(f:a->b){i:Int}(c:0<=i)(h1:i<l.length):∃x,l[i.toNat]?=some x/\atI (l.map f) i=some (f x):=by
 have h:i.toNat<l.length:=by omega
 refine⟨l[i.toNat],Yi h,?_⟩;rw[yv c (by rw[Yb];exact h1),Yt,Yi h];rfl
def rO{a:Type}(l:List a)(x:a):atI (l++[x]) (-1)=some x:=by
 unfold atI ixN;rw[Yl (by decide),Yh (by rw[Yn,YN];omega),Yn,YN];have:(-1+((l.length+1:Nat):Int)).toNat=l.length:=by omega
 rw[this,Ya,YW (Ym _),Nat.sub_self];rfl
def qU{n:Int}(a:1<=n)(p:out.Perm (aH n)):(out.length:Int)=n/\out.Nodup/\∀x∈out,0<=x/\x<n:=
 ⟨by rw[p.length_eq,bq];omega,p.nodup_iff.mpr (nt n),fun x h=>bT.mp (p.mem_iff.mp h)⟩
def vC(h:out.Nodup){x y:Int}(hi:out[i]?=some x)(f:out[j]?=some y)(a:i≠j):x≠y:=by intro e;subst e;obtain⟨l,c⟩:=Yj.mp hi;obtain⟨g,b⟩:=Yj.mp f;exact a ((List.getElem_inj h).mp (c.trans b.symm))
abbrev wbE:DF->Option D:=(asT (ae (d2 ixD (aa 2) (aa 0)) (ae (d2 ixD (aa 2) (aa 1)) (ae (getV 3) (ae (d2 eqD (d2 aW (d2 bh (aa 4) (cI 6)) (cI 2)) (cI 1)) aC)))))
def BQ(s n f:Int)(out:List Int)(ps:List (Int×Int))(m:1<=n/\n<=7)(p:out.Perm (aH n))(o:0<=f/\f<1000000000000000000000000000000)(j:∀q∈ps,okP n q) :
  ∃ts:List T4,cD (b5 [0,1]) aX wbE [none,none,some (.v (.lst (out.map .int))),some (.v (.int f)),some (.v (.int s))] (ps.map dP)=some (ts.map dT4)/\ts.length=(ps.map dP).length/\∀t∈ts,okT n t:=by
 obtain⟨C,u,c⟩:=qU m.1 p;refine kM dT4 (okT n) _ fun d h=>?_;obtain⟨q,i,rfl⟩:=Yv.mp h;obtain⟨B,H,A,b1,E⟩:=j q i;obtain⟨x,b,z⟩:=gI (l:=out) D.int B (by omega);obtain⟨y,a,w⟩:=gI (l:=out) D.int A (by omega);refine⟨_,rfl,rfl,(x,y,f,decide (s/6%2=1)),?_,?_⟩
 ·simp[tH,ix1,z,w,bF s 6 (by decide),aI (s/6) 2 (by decide),dT4]
 ·have g:=c x (YB b);have e:=c y (YB a);exact⟨g.1,g.2,e.1,e.2,vC u b a (by omega),o⟩
abbrev wbC:DF->Option Bool:=(dN (asB (d2 gtI (aa 2) (cI 1))) (dN (asB (d2 ltd (d1 aG (ak 5)) (cI 12))) (orT (asB (d2 eqD (d2 aW (aa 1) (cI 6)) (cI 0))) (asB (d2 eqD (d2 aW (aa 7) (cI 6)) (cI 0))))))
abbrev D6:DF->Option Bool:=(dN (asB (d2 eqD (d2 aW (d2 bh (aa 7) (cI 21)) (cI 5)) (cI 0))) (asB (d2 ltd (d1 aG (ak 5)) (cI 12))))
abbrev wbB(M K:Dm):DF->Option RES:=(ap (aF 7 (am M (aB 6 (aV (cI 8) nA))))
  (dIf wbC (ap (aF 8 (d2 aW (d2 bh (aa 7) (cI 6)) (aa 2)))
  (ap (aF 9 (d2 aW (d2 bb (d2 bb (aa 8) (cI 1)) (d2 aW (d2 bh (aa 7) (cI 60)) (d2 ff (aa 2) (cI 1)))) (aa 2)))
  (ap (eD 5 (asT (ae (getV 8) (ae (getV 9) (ae (am K (aB 6 (aB 1 nA))) (ae (d2 eqD (d2 aW (d2 bh (aa 7) (cI 7)) (cI 3)) (cI 0)) aC))))))
  (dIf D6 (eD 5 (d2 ixD (aa 5) (d1 tE (cI 1)))) dNx)))) dNx))
abbrev wbF(cs o:D)(s n f:Int)(ts:List T4)(x6 x7 x8 x9:Option DV):DF:=[some (.v cs),some (.v (.int s)),some (.v (.int n)),some (.v o),some (.v (.int f)),some (.own (.lst (ts.map dT4)) none),x6,x7,x8,x9,none,none,none]
def yq(M K:Dm)(cs o:D)(s n f c r k:Int)(ts:List T4)(x7 x8 x9:Option DV)(hn:1<=n/\n<=7)(Z:ts.length<=12)(C:∀t∈ts,okT n t)(hr:0<=r)
  (P:M [.v (.int c),.v (.int 8)]=some (.v (.int r))) (hK:K [.v (.int c),.v (.int s)]=some (.v (.int k))) (hk:0<=k/\k<1000000000000000000000000000000) :
  ∃j S R Q,wbB M K (wbF cs o s n f ts (some (.v (.int c))) x7 x8 x9)=some (.nx (wbF cs o s n f j (some (.v (.int c))) S R Q))/\j.length<=12/\∀t∈j,okT n t:=by
 have q:∀O N,wbC (wbF cs o s n f ts (some (.v (.int c))) (some (.v (.int r))) O N)=some (decide (1<n)&&(decide (ts.length<12)&&(decide (s%6=0)||decide (r%6=0)))):=by
  intro O N;by_cases a:1<n<;>by_cases b:ts.length<12<;>by_cases d:s%6=0<;>by_cases e:r%6=0<;>
   simp[aI s 6 (by decide),aI r 6 (by decide),a,b,d,e]<;>omega
 by_cases p:(decide (1<n)&&(decide (ts.length<12)&&(decide (s%6=0)||decide (r%6=0))))=true
 ·rw[p]at q;simp only[Yg,Yu]at p;obtain⟨n1,Y,_⟩:=p;have d6:=bF r 6 (by decide);have J:=bF r 60 (by decide);have d7:=bF r 7 (by decide);have L:=bF r 21 (by decide);have mn:=fun x=>aI x n (by omega)
  have A:=fun x=>aI x (n-1) (by omega)
  have X:=fun x=>aI x 3 (by decide)
  have U:=fun x=>aI x 5 (by decide)
  generalize I:r/6%n=a;generalize w:(a+1+r/60%(n-1))%n=b;have a0:0<=a:=by rw[<-I];exact YS _ (by omega)
  have a1:a<n:=by rw[<-I];exact YJ _ (by omega)
  have b0:0<=b:=by rw[<-w];exact YS _ (by omega)
  have b1:b<n:=by rw[<-w];exact YJ _ (by omega)
  have g0:0<=r/60%(n-1):=YS _ (by omega);have g1:r/60%(n-1)<n-1:=YJ _ (by omega);have ab:a≠b:=by
   generalize r/60%(n-1)=g at *;by_cases h:a+1+g<n
   ·rw[XQ (by omega) h]at w;omega
   ·have:(a+1+g)%n=a+1+g-n:=by rw[<-Int.sub_emod_right (a+1+g) n,XQ (by omega) (by omega)]
    omega
  let t:T4:=(a,b,k,decide (r/7%3=0))
  have z:okT n t:=⟨a0,a1,b0,b1,ab,hk⟩
  have m:ts.length<16777216:=by omega
  have H:D6 (wbF cs o s n f (ts++[t]) (some (.v (.int c))) (some (.v (.int r))) (some (.v (.int a))) (some (.v (.int b))))=some (decide (r/21%5=0)&&decide (ts.length+1<12)):=by by_cases e1:r/21%5=0<;>by_cases e2:ts.length+1<12<;>simp[L,U,e1,e2]<;>omega
  have eq:wbB M K (wbF cs o s n f ts (some (.v (.int c))) x7 x8 x9)=(dIf D6 (eD 5 (d2 ixD (aa 5) (d1 tE (cI 1)))) dNx) (wbF cs o s n f (ts++[t]) (some (.v (.int c))) (some (.v (.int r))) (some (.v (.int a))) (some (.v (.int b)))):=by
   have y:∀G,(ap (aF 7 (am M (aB 6 (aV (cI 8) nA)))) G) (wbF cs o s n f ts (some (.v (.int c))) x7 x8 x9)=G (wbF cs o s n f ts (some (.v (.int c))) (some (.v (.int r))) x8 x9):=by intro G;simp[P]
   have T:∀G,(ap (aF 8 (d2 aW (d2 bh (aa 7) (cI 6)) (aa 2)))
  (ap (aF 9 (d2 aW (d2 bb (d2 bb (aa 8) (cI 1)) (d2 aW (d2 bh (aa 7) (cI 60)) (d2 ff (aa 2) (cI 1)))) (aa 2)))
  (ap (eD 5 (asT (ae (getV 8) (ae (getV 9) (ae (am K (aB 6 (aB 1 nA))) (ae (d2 eqD (d2 aW (d2 bh (aa 7) (cI 7)) (cI 3)) (cI 0)) aC))))))
  G))) (wbF cs o s n f ts (some (.v (.int c))) (some (.v (.int r))) x8 x9)=G (wbF cs o s n f (ts++[t]) (some (.v (.int c))) (some (.v (.int r))) (some (.v (.int a))) (some (.v (.int b)))):=by intro G;simp[d6,J,d7,mn,A,X,I,w,hK,m,dT4,t,wbF]
   unfold wbB;rw[y,dw,q,Ya,Yh rfl,T]
  rw[eq,dw,H,Ya];by_cases B:(decide (r/21%5=0)&&decide (ts.length+1<12))=true
  ·rw[Yh B];simp only[Yg,Yu]at B;refine⟨ts++[t]++[t],some (.v (.int r)),some (.v (.int a)),some (.v (.int b)),?_,by simp;omega,?_⟩
   ·have l:=rO (ts.map dT4) (dT4 t);have E:ts.length+1<16777216:=by omega
    simp[tE,ix1,l,E]
   ·intro u i;simp only[Zb,Zc]at i;rcases i with (i|rfl)|rfl
    ·exact C u i
    ·exact z
    ·exact z
  ·rw[Yl B];refine⟨ts++[t],_,_,_,rfl,by simp;omega,?_⟩;intro u i;simp only[Zb,Zc]at i;rcases i with i|rfl
   ·exact C u i
   ·exact z
 ·rw[XO.mpr p]at q;refine⟨ts,some (.v (.int r)),x8,x9,?_,Z,C⟩
  ·have y:∀G,(ap (aF 7 (am M (aB 6 (aV (cI 8) nA)))) G) (wbF cs o s n f ts (some (.v (.int c))) x7 x8 x9)=G (wbF cs o s n f ts (some (.v (.int c))) (some (.v (.int r))) x8 x9):=by intro G;simp[P]
   unfold wbB;rw[y,dw,q];rfl
abbrev wbG(M a:Dm):DF->Option RES:=(ap (aF 12 (cI 0))
  (ap (dIf (asB (d2 eqD (d2 aW (d2 bh (aa 1) (cI 12)) (cI 2)) (cI 1))) (aF 12 (d2 aW (am M (aV (d2 ixD (aa 0) (d2 aW (aa 11) (d1 aG (ak 0)))) (aV (d2 bb (cI 20) (aa 11)) nA))) (cI 3))) dNx)
  (eD 10 (am a (aB 1 (aB 12 nA))))))
abbrev qf(cs o:D)(s n f:Int)(ts:List T4)(x6 x7 x8 x9:Option DV)(ks:List Str)(x11 x12:Option DV):DF:=[some (.v cs),some (.v (.int s)),some (.v (.int n)),some (.v o),some (.v (.int f)),some (.own (.lst (ts.map dT4)) none),x6,x7,x8,x9,some (.own (.lst (ks.map .str)) none),x11,x12]
def xk(M p:Dm)(o:D)(cs:List Int)(s n f:Int)(ts:List T4)(x6 x7 x8 x9:Option DV)(ks:List Str)(x12:Option DV)(i:Nat)(hi:i<7)(E:ks.length<=7)(H:1<=cs.length)
  (A:∀c k:Int,0<=k/\k<=1000->∃r:Int,M [.v (.int c),.v (.int k)]=some (.v (.int r))/\0<=r/\r<998244353)
  (j:∀w:Int,0<=w->∃x:Str,p [.v (.int s),.v (.int w)]=some (.v (.str x))/\okW x) :
  ∃x y,wbG M p (qf (.lst (cs.map .int)) o s n f ts x6 x7 x8 x9 ks (some (.v (.int i))) x12)=some (.nx (qf (.lst (cs.map .int)) o s n f ts x6 x7 x8 x9 (ks++[x]) (some (.v (.int i))) y))/\okW x:=by
 have b:=bF s 12 (by decide);have m:=fun x=>aI x 2 (by decide)
 have u:=fun x=>aI x 3 (by decide)
 have a:ks.length<16777216:=by omega
 by_cases h:s/12%2=1
 ·have q:=aI (i:Int) (cs.length:Int) (by omega);obtain⟨c,_,B⟩:=gI (l:=cs) D.int (i:=(i:Int)%(cs.length:Int)) (YS _ (by omega)) (YJ _ (by omega));obtain⟨r,z,C,_⟩:=A c (20+(i:Int)) (by omega);obtain⟨x,g,e⟩:=j (r%3) (by omega);refine⟨x,some (.v (.int (r%3))),?_,e⟩;simp[b,m,u,q,ix1,B,z,g,h,a,qf]
 ·obtain⟨x,g,e⟩:=j 0 (by decide);refine⟨x,some (.v (.int 0)),?_,e⟩;simp[b,m,h,g,a,qf]
def yH(C:Addr)(cs:List Int)(s n:Int)(hc:1<=cs.length)(Z:0<=s/\s<998244353)(B:1<=n/\n<=7):∃(ks:List Str) (ts:List T4),f_ C [.v (.lst (cs.map .int)),.v (.int s),.v (.int n)]=some (.v (.tup [.lst (ks.map .str),.lst (ts.map dT4)])) /\
  (ks.length:Int)=n/\(∀k∈ks,okW k)/\ts.length<=12/\∀t∈ts,okT n t:=by
 obtain⟨o,z,p⟩:=vW C s n B;obtain⟨Y,A,pl,pk⟩:=Er C s n B;have u1:fJ (.int (s+1)) (.int 618033988749894848204586834367)=some (.int ((s+1)*618033988749894848204586834367)):=eQ _ _ (.inl (by omega));have m1:=fun x=>aI x 1000000000000000000000000000000 (by decide)
 generalize hf:(s+1)*618033988749894848204586834367%1000000000000000000000000000000=f;have f0:0<=f/\f<1000000000000000000000000000000:=by omega
 obtain⟨ts,et,tl,tk⟩:=BQ s n f o Y B p f0 pk;have U:=fX C;have hK:∀c,∃k:Int,b6 C [.v (.int c),.v (.int s)]=some (.v (.int k))/\0<=k/\k<1000000000000000000000000000000:=fun c=>mK C c s Z
 have hW:∀w:Int,0<=w->∃x:Str,cK C [.v (.int s),.v (.int w)]=some (.v (.str x))/\okW x:=fun w hw=>Bc C s w Z.1 hw
 unfold f_ o8;generalize bp C=M at U ⊢;generalize b6 C=K at hK ⊢;generalize cK C=H at hW ⊢;generalize bY C=Sh at z ⊢;generalize ee C=Fa at A ⊢;obtain⟨z1,e1,a,i,g,b,y,rfl,l1,k1⟩:=dY (st:=setV 6) (body:=wbB M K) (fun ρ=>∃(ts:List T4) (X N L J:Option DV),ρ=wbF (.lst (cs.map .int)) (.lst (o.map .int)) s n f ts X N L J/\ts.length<=12/\∀t∈ts,okT n t) (ds:=cs.map .int)
  (ρ:=wbF (.lst (cs.map .int)) (.lst (o.map .int)) s n f ts none none none none) ⟨ts,_,_,_,_,rfl,by rw[tl,Yb];exact pl,tk⟩ (by
   rintro d T _ ⟨ts,X,N,L,J,rfl,Q,R⟩;obtain⟨c,_,rfl⟩:=Yv.mp T;obtain⟨r,hr,r0,_⟩:=U c 8 (by decide);obtain⟨k,q,k0⟩:=hK c;obtain⟨O,g,b,y,e,h1,h2⟩:=yq M K (.lst (cs.map .int)) (.lst (o.map .int)) s n f c r k ts N L J B Q R r0 hr q k0;exact⟨_,rfl,_,e,O,_,g,b,y,rfl,h1,h2⟩)
 obtain⟨z2,e2,ks,I,l,rfl,l2,k2⟩:=fq (st:=setV 11) (body:=wbG M H) (fun j ρ=>∃(ks:List Str) (u m:Option DV),ρ=qf (.lst (cs.map .int)) (.lst (o.map .int)) s n f a i g b y ks u m/\ks.length=j/\∀k∈ks,okW k) ((aH n).map .int) 0
  (qf (.lst (cs.map .int)) (.lst (o.map .int)) s n f a i g b y [] none none) ⟨[],_,_,rfl,rfl,fun _ h=>by cases h⟩ (by
   rintro j d _ hj ⟨ks,u,m,rfl,Q,R⟩;have S:j<7:=by have:=(Yj.mp hj).1;rw[Yb,bq]at this;omega
   have T:d=.int (j:Int):=jZ hj;subst T;obtain⟨x,l,e,ox⟩:=xk M H (.lst (o.map .int)) cs s n f a i g b y ks m j S (by omega) hc U hW;refine⟨_,rfl,_,e,ks++[x],_,l,rfl,by rw[Yn,Q];rfl,fun k q=>?_⟩;rcases Zb.mp q with h|h
   ·exact R k h
   ·rw[Zc.mp h];exact ox)
 refine⟨ks,a,?_,?_,k2,l1,k1⟩
 ·have er:bJ (aa 2) (qf (.lst (cs.map .int)) (.lst (o.map .int)) s n f a i g b y [] none none)=some ((aH n).map .int):=by show(if -(2^62)<=n/\n<2^62 then some (cq 0 n.toNat)else none)=_;rw[Yh (by omega),iR]
  have P:Y.length<=16777216:=by omega
  have q1:∀G,(ap (aF 3 (am Sh (aB 1 (aV (getV 2) nA))))
  (ap (aF 4 (d2 aW (d2 fJ (d2 bb (aa 1) (cI 1)) (cI 618033988749894848204586834367)) (d2 tz (cI 10) (cI 30))))
  (ap (bt 5 (asL (aw 2 [3,4,1] (bK (am Fa (aB 1 (aB 2 nA)))) (b5 [0,1]) aX wbE))) G))) (aP 13 3 [.v (.lst (cs.map .int)),.v (.int s),.v (.int n)])=G (wbF (.lst (cs.map .int)) (.lst (o.map .int)) s n f ts none none none none):=by intro G;generalize wbE=E at et ⊢;simp[z,u1,m1,hf,bc,A,P,et,wbF]
  have q2:∀G,(ap (cP (bA 0) (setV 6) (wbB M K)) G) (wbF (.lst (cs.map .int)) (.lst (o.map .int)) s n f ts none none none none)=G (wbF (.lst (cs.map .int)) (.lst (o.map .int)) s n f a i g b y):=by intro G;rw[j7,pZ];show(match dj (setV 6) (wbB M K) (cs.map .int) _ with|some (.nx ρ')=>G ρ'|r=>r)=_;rw[e1]
  have q3:∀G,(ap (bt 10 (asL aC)) (ap (cP (bJ (aa 2)) (setV 11) (wbG M H)) G)) (wbF (.lst (cs.map .int)) (.lst (o.map .int)) s n f a i g b y)=G (qf (.lst (cs.map .int)) (.lst (o.map .int)) s n f a i g b y ks I l):=by intro G;show(ap (cP (bJ (aa 2)) (setV 11) (wbG M H)) G) (qf (.lst (cs.map .int)) (.lst (o.map .int)) s n f a i g b y [] none none)=_;rw[j7,pZ,er,Ya,e2]
  rw[j6,q1,q2,q3];rfl
 ·rw[l2,Yb,bq];omega
def dq{n:Int}(h:f ρ=some (.int n))(b:0<=n/\n<=1000):bJ f ρ=some ((aH n).map .int):=by
 have a:-(2^62)<=n/\n<2^62:=by omega
 rw[A4,h];simp only;rw[Yh a,iR]
def aj{h:Dw}(e:g ρ=some (.nx ρ')):ap g h ρ=h ρ':=by rw[j7,e]
def fN{h:Dw}{x:DV}(e:g ρ=some (.rt x ρ')):ap g h ρ=some (.rt x ρ'):=by rw[j7,e]
def lf(t:T4):T4:=if t.2.2.2=true\/t.1<t.2.1 then t else(t.2.1,t.1,t.2.2.1,t.2.2.2)
def yX{n:Int}{t:T4}(h:okT n t):okT n (lf t):=by
 unfold lf;split
 ·exact h
 ·obtain⟨a,b,c,d,e,f⟩:=h;exact⟨c,d,a,b,fun q=>e q.symm,f⟩
def kI(ts:List T4)(h:ts.length<64):eE (ts.map dT4)=true:=by
 unfold eE;simp only[Yg,Yu,Yr,Yb];refine⟨⟨⟨⟨h,?_⟩,?_⟩,?_⟩,?_⟩
 ·intro x a;obtain⟨t,_,rfl⟩:=Yv.mp a;rfl
 ·intro x a y b;obtain⟨t,_,rfl⟩:=Yv.mp a;obtain⟨u,_,rfl⟩:=Yv.mp b;rfl
 ·intro x a;obtain⟨t,_,rfl⟩:=Yv.mp a;rfl
 ·intro x a;obtain⟨t,_,rfl⟩:=Yv.mp a;rfl
def vP(ts:List T4):Cmps 28 (ts.map dT4):=
 ⟨fun x h=>by obtain⟨t,_,rfl⟩:=Yv.mp h;rfl,fun x h y a=>by obtain⟨t,_,rfl⟩:=Yv.mp h;obtain⟨u,_,rfl⟩:=Yv.mp a;rfl⟩
def cM{b:Type}(f:b->D)(g:D->b)(c:∀a,g (f a)=a){l:List D}{ts:List b}(h:l.Perm (ts.map f)):∃us:List b,l=us.map f/\us.Perm ts:=by
 refine⟨l.map g,?_,?_⟩
 ·rw[YR]
  conv=>lhs;rw[<-List.map_id l]
  refine Vj fun x e=>?_;obtain⟨t,_,rfl⟩:=Yv.mp (h.mem_iff.mp e);show _=f (g (f t));rw[c];rfl
 ·have:=h.map g;rw[YR,show g ∘ f=id from funext c,List.map_id]at this;exact this
def IW:D->T4
 |.tup [.int a,.int b,.int k,.bl o]=>(a,b,k,o)
 |_=>(0,0,0,false)
def unI:D->Int
 |.int a=>a
 |_=>0
def mF(ts:List T4):∃us:List T4,dh (ts.map dT4)=us.map dT4/\us.Perm ts:=cM dT4 IW (fun _=>rfl) (bZ _)
def vA(C:Addr)(ts:List T4)(x:DV)(hx:∀ρ,bA 0 (some x::ρ)=some (ts.map dT4))(R:ts.length<=24):aJ C [x]=some (.own (.lst (dh ((ts.map lf).map dT4))) none):=by
 obtain⟨z,e,u,w,s,p,y,rfl,i⟩:=fq (st:=b5 [2,3,4,5]) (body:=(dIf (asB (getV 5)) (eD 1 (asT (ae (getV 2) (ae (getV 3) (ae (getV 4) (ae (fun _=>some (.bl true)) aC)))))) (eD 1 (asT (ae (d2 j9 (ak 2) (ak 3)) (ae (d2 nH (ak 2) (ak 3)) (ae (getV 4) (ae (fun _=>some (.bl false)) aC))))))))
  (fun j ρ=>∃(u:List T4) (H E B A:Option DV),ρ=[some x,some (.own (.lst (u.map dT4)) none),H,E,B,A]/\u=(ts.take j).map lf) (ts.map dT4) 0
  [some x,some (.own (.lst []) none),none,none,none,none] ⟨[],_,_,_,_,rfl,rfl⟩ (by
   rintro j d _ g ⟨u,H,E,B,A,rfl,I⟩;rw[Yt]at g;cases q:ts[j]? with
   |none=>rw[q]at g;cases g
   |some t=>
    rw[q]at g;cases g;have L:j<ts.length:=(Yj.mp q).1;have f:u.length<16777216:=by rw[I,Yb,YF];omega
    have l:(ts.take (0+j+1)).map lf=u++[lf t]:=by rw[I,YZ,Vq,q,YT];rfl
    obtain⟨a,b,k,o⟩:=t;refine⟨[some x,some (.own (.lst (u.map dT4)) none),some (.v (.int a)),some (.v (.int b)),some (.v (.int k)),some (.v (.bl o))],rfl,[some x,some (.own (.lst ((u++[lf (a,b,k,o)]).map dT4)) none),some (.v (.int a)),some (.v (.int b)),some (.v (.int k)),some (.v (.bl o))],?_,u++[lf (a,b,k,o)],_,_,_,_,rfl,l.symm⟩;cases o with
    |true=>simp[f,lf,dT4]
    |false=>
     have P:j9 (.int a) (.int b)=some (.int (if b<a then b else a)):=rfl;have O:nH (.int a) (.int b)=some (.int (if b > a then b else a)):=rfl;have N:dT4 (lf (a,b,k,false))=.tup [.int (if b<a then b else a),.int (if b > a then b else a),.int k,.bl false]:=by
      unfold lf dT4;by_cases h:a<b
      ·simp[h,show ¬b<a by omega]
      ·by_cases M:b<a
       ·simp[h,M]
       ·have:a=b:=by omega
        subst this;simp
     simp[f,P,O,N])
 have m:=kI (ts.map lf) (by rw[Yb];omega);have c:u=ts.map lf:=by rw[i,YZ,Yb,Xh]
 subst c;have K:∀G,(ap (bt 1 (asL aC)) (ap (cP (bA 0) (b5 [2,3,4,5]) (dIf (asB (getV 5)) (eD 1 (asT (ae (getV 2) (ae (getV 3) (ae (getV 4) (ae (fun _=>some (.bl true)) aC)))))) (eD 1 (asT (ae (d2 j9 (ak 2) (ak 3)) (ae (d2 nH (ak 2) (ak 3)) (ae (getV 4) (ae (fun _=>some (.bl false)) aC)))))))) G)) (aP 6 1 [x])=G [some x,some (.own (.lst ((ts.map lf).map dT4)) none),w,s,p,y]:=by intro G;show(match((bA 0 [some x,some (.own (.lst []) none),none,none,none,none]).bind fun Q=>dj _ _ Q [some x,some (.own (.lst []) none),none,none,none,none])with|some (.nx ρ')=>G ρ'|r=>r)=_;rw[hx,Ya,e]
 unfold aJ lE;rw[n4,K];have J:jH (aa 1) [some x,some (.own (.lst ((ts.map lf).map dT4)) none),w,s,p,y]=some (dh ((ts.map lf).map dT4)):=by show(if eE ((ts.map lf).map dT4)=true then _ else _)=_;rw[Yh m]
 rw[fK,cz,J];rfl
def nu(C:Addr)(ts:List T4)(h:ts.length<=24):aJ C [.v (.lst (ts.map dT4))]=some (.own (.lst (dh ((ts.map lf).map dT4))) none):=vA C ts _ (fun _=>rfl) h
def kAt(ks:List Str)(x:Int):Str:=(ks[x.toNat]?).getD ⟨#[]⟩
def j_{κ:Type}[DecidableEq κ](k k':κ)(v:D):∀kvs:List (κ×D),cZ (eC kvs k v) k'=if k=k' then some v else cZ kvs k':=by
 intro kvs;unfold eC;split
 ·rename_i h;induction kvs with
  |nil=>simp at h
  |cons x r ih=>
   obtain⟨q,w⟩:=x;rw[Yx];by_cases e:q=k
   ·subst e;by_cases f:q=k'
    ·simp[cb,f]
    ·have g:∀r:List (κ×D),cZ (r.map fun c=>if c.1=q then(c.1,v)else c) k'=cZ r k':=by
      intro r;induction r with
      |nil=>rfl
      |cons y r ih=>
       obtain⟨a,b⟩:=y;rw[Yx];by_cases i:a=q
       ·subst i;simp[cb,f,ih]
       ·simp[cb,i,ih]
     simp[cb,f,g]
   ·have l:(r.any fun c=>decide (c.1=k))=true:=by simpa[e]using h
    have:=ih l;by_cases f:q=k'
    ·subst f;simp[cb,e,show ¬k=q from fun z=>e z.symm]
    ·simp only[e,Vk,cb,f];exact this
 ·rename_i h;induction kvs with
  |nil=>simp[cb,cZ]
  |cons x r ih=>
   obtain⟨q,w⟩:=x;have j:¬q=k:=by intro z;exact h (by simp[z])
   have g:¬(r.any fun c=>decide (c.1=k))=true:=fun z=>h (by simp only[Xb,z,Bool.or_true])
   have:=ih g;rw[List.cons_append,cb,cb,this];by_cases e:k=k'
   ·subst e;simp[j]
   ·simp[e]
def j5{κ:Type}[DecidableEq κ](k:κ)(v:D)(kvs:List (κ×D)):(eC kvs k v).length<=kvs.length+1:=by
 unfold eC;split
 ·simp
 ·simp
def sG(x:Int):∀out:List Int,x∈out->iX (.int x) (out.map .int)=some (out.idxOf x)
 |y::out,h=>by
  rw[Yx];unfold iX;rw[gx,List.idxOf_cons];by_cases e:y=x
  ·simp[e]
  ·have a:x∈out:=by rcases YH.mp h with rfl|h;exact absurd rfl e;exact h
   have b:(y == x)=false:=by simpa using e
   rw[sG x out a,Yl (by simpa using e),b];rfl
def eU{c e:Type}(f:c->e)(l:List c)(a b:Option Int):cE (l.map f) a b=(cE l a b).map f:=by unfold cE;rw[Yb,List.map_take,Vt]
def xP{c:Type}(l:List c)(a b:Option Int):(cE l a b).length<=l.length:=by unfold cE;rw[YF,ZH];omega
def okK(n:Int)(ks:List Str):Prop:=(ks.length:Int)=n/\∀k∈ks,okW k
def okS(n:Int)(ts:List T4):Prop:=ts.length<=12/\∀t∈ts,okT n t
def yV{l:Nat}{i:Int}(h:0<=i)(h1:i<l):ixN l i=some i.toNat:=by unfold ixN;rw[Yh h,Yh h1]
def fP{c:Dk}(q:Int->Bool):∀xs:List Int,(∀x∈xs,c (ρ.set 0 (some (.v (.int x))))=some (q x))->0<ρ.length->cD (setV 0) c (getV 0) ρ (xs.map .int)=some ((xs.filter q).map .int)
 |[],_,_=>rfl
 |x::xs,h,hl=>by
  have ih:=fP q xs (fun y a=>h y (Yd _ a)) hl;have b:=h x Yf;rw[Yx];unfold cD;rw[BG,Ya,b,Ya,List.filter_cons];cases q x with
  |false=>rw[Yl (by decide),Yl (by decide),ih]
  |true=>
   have e:getV 0 (ρ.set 0 (some (.v (.int x))))=some (.int x):=by unfold getV;rw[Za hl]
   rw[Yh rfl,Yh rfl,e,Ya,ih];rfl
def fw{g:Dd} :cr i f g ρ=match ρ[i]? with
 |some (some (.own (.lst ds) t))=>(g ρ).bind fun d=>(f ρ).bind fun
  |.int k=>(ixN ds.length k).map fun j=>.nx (ρ.set i (some (.own (.lst (ds.set j d)) t)))
  |_=>none
 |_=>none:=rfl
def yp:pN j f ρ=match ρ[j]? with
 |some (some (.own (.lst a) t))=>(f ρ).bind fun b=>(pA a.length b).bind fun k=>(a[k]?).map fun d=>.nx (ρ.set j (some (.own (.lst (a.eraseIdx k)) t)))
 |_=>none:=by
 unfold pN oa;split
 ·simp only[Option.map_bind,Function.comp_def,Option.map_map]
  all_goals (rename_i a t q;rw[q])
 ·rename_i h;cases q:ρ[j]? with
  |none=>rfl
  |some x=>
   cases x with
   |none=>rfl
   |some x=>
    cases x with
    |v d=>rfl
    |bor o=>rfl
    |own o t=>
     cases o with
     |lst a=>exact absurd q (h a t)
     |lst2 a=>rfl
     |tup2 a=>rfl
     |dT a=>rfl
     |dK a=>rfl
     |ins C a=>rfl
def iL{a:Type}(l:List a){k:Int}(h:0<=k):cE l none (some k)=l.take k.toNat:=by unfold cE HT.sIx;simp only[List.drop_zero,Nat.sub_zero];rw[Yl (by omega),<-List.take_take,Xh]
def lh{a:Type}(l:List a){k:Int}(h:0<=k):cE l (some k) none=l.drop k.toNat:=by
 unfold cE HT.sIx;simp only;rw[Yl (by omega)];by_cases b:k.toNat<=l.length
 ·rw[Nat.min_eq_left b,<-ZH,Xh]
 ·rw[Nat.min_eq_right (by omega),Nat.sub_self,List.take_zero,XL (by omega)]
def mP(xs ys:List D)(h:xs.length+ys.length<=16777216):bb (.lst xs) (.lst ys)=some (.lst (xs++ys)):=Yh h
def zS(C:Addr)(ns:List Int)(a:Int)(g:0<=a)(f:ns.length<=63):∃cs:List Int,dL C [.v (.lst (ns.map .int)),.v (.int a),.v (.int 16)]=some (.own (.lst (cs.map .int)) none)/\cs.length=16:=by
 have h:=xP ns (some a) (some (a+16));have c:cE (ns.map D.int) (some a) (some (a+16))=(cE ns (some a) (some (a+16))).map D.int:=eU _ _ _ _;generalize i:cE ns (some a) (some (a+16))=Q at *
 let X:List Int:=[a+1,5,2,9,4,7,1,8,3,6,0,11,13,12,10,14]
 have b:cE ((Q++X).map D.int) none (some 16)=((Q++X).take 16).map D.int:=by rw[eU,iL _ (by decide)];rfl
 refine⟨(Q++X).take 16,?_,by rw[YF,Yn];show min 16 (Q.length+16)=16;omega⟩;have e:bb (.lst (Q.map D.int)) (.lst (X.map D.int))=some (.lst ((Q++X).map D.int)):=by rw[mP _ _ (by rw[Yb,Yb];show Q.length+16<=_;omega),YT]
 generalize ((Q++X).take 16).map D.int=R,(Q++X).map D.int=S at *;have e:bb (.lst (Q.map D.int)) (.lst [.int (a+1),.int 5,.int 2,.int 9,.int 4,.int 7,.int 1,.int 8,.int 3,.int 6,.int 0,.int 11,.int 13,.int 12,.int 10,.int 14])=some (.lst S):=e;simp[dL,lP,fY,c,b,e]
def bC{it:Dl}{r:RES}(h:it ρ=some ds)(e:dj st g ds ρ=some r):cP it st g ρ=some r:=by rw[pZ,h];exact e
def jC(C:Addr)(x:Str)(h:okW x):b7 C [.v (.str x)]=some (.v (.bl true)):=by
 obtain⟨w,u,g⟩:=h;have p:cD (setV 0) aX (chD leA leA (fun _=>some (.str "a")) (ak 0) (fun _=>some (.str "z"))) [none] (L2.signs x)=some (x.cps.toList.map fun _=>D.bl true):=by
  unfold L2.signs;refine bN (fun c=>D.str ⟨#[c]⟩) (fun _=>D.bl true) _ fun c f=>?_;obtain⟨z,y⟩:=g c f;refine⟨[some (.v (.str ⟨#[c]⟩))],rfl,rfl,?_⟩;have e:leA (.str "a") (.str ⟨#[c]⟩)=some (.bl true):=by
   show some (D.bl (!decide ([c] < [97])))=_;have:¬([c] < [97]):=fun h=>by rcases List.cons_lt_cons_iff.mp h with h|⟨_,h⟩;omega;exact absurd h (List.not_lt_nil _)
   rw[YE this];rfl
  have l:leA (.str ⟨#[c]⟩) (.str "z")=some (.bl true):=by
   show some (D.bl (!decide ([122] < [c])))=_;have:¬([122] < [c]):=fun h=>by rcases List.cons_lt_cons_iff.mp h with h|⟨_,h⟩;omega;exact absurd h (List.not_lt_nil _)
   rw[YE this];rfl
  simp[e,l]
 have b:(L2.signs x).length<=16777216:=by unfold L2.signs;rw[Yb,Zy];omega
 have o:mX (.lst (x.cps.toList.map fun _=>D.bl true))=some (.bl true):=by
  have s:((x.cps.toList.map fun _=>D.bl true).all s_)=true:=by simp[s_]
  have q:((x.cps.toList.map fun _=>D.bl true).all trD)=true:=by simp[trD]
  show(if((x.cps.toList.map fun _=>D.bl true).all s_)=true then some (D.bl ((x.cps.toList.map fun _=>D.bl true).all trD))else none)=_;rw[Yh s,q]
 have m:aG (.str x)=some (.int (x.cps.size:Int)):=Yh (show x.cps.size<=16777216 by omega);have a:aw 1 [] (t5 (getV 0)) (setV 0) aX (chD leA leA (fun _=>some (.str "a")) (ak 0) (fun _=>some (.str "z"))) [some (.v (.str x)),none]=some (x.cps.toList.map fun _=>D.bl true):=by have:t5 (getV 0) [some (.v (.str x)),none]=some (L2.signs x):=rfl;rw[bc,this,Ya,Yh b];exact p
 unfold b7 gU;have j:(1:Int)<=(x.cps.size:Int):=by omega
 have i:(x.cps.size:Int)<=3:=by omega
 generalize (chD leA leA (fun _=>some (.str "a")) (ak 0) (fun _=>some (.str "z")))=E at a ⊢;generalize (x.cps.toList.map fun _=>D.bl true)=L at *;simp[a,o,m,j,i]
def zY(C:Addr)(t:T4)(n:Int)(h:okT n t):eV C [.v (dT4 t),.v (.int n)]=some (.v (.bl true)):=by
 obtain⟨a,b,k,o⟩:=t;obtain⟨l,j,g,b1,i,e,c⟩:=h;simp only at l j g b1 i e c;have q:atI [D.int a,.int b,.int k,.bl o] 0=some (.int a):=rfl;have p:atI [D.int a,.int b,.int k,.bl o] 1=some (.int b):=rfl;have m:atI [D.int a,.int b,.int k,.bl o] 2=some (.int k):=rfl;have f:dm C [.v (.int k)]=some (.v (.bl true)):=by simp[dm,i_,e,c]
 unfold eV rG;generalize dm C=M at f ⊢;simp[dT4,ix2,q,p,m,l,j,g,b1,i,f]
def w9(C:Addr)(ks:List Str)(ts:List T4)(n:Int)(f:1<=n/\n<=7)(g:okK n ks)(e:okS n ts):sX C [.v (.lst (ks.map .str)),.v (.lst (ts.map dT4))]=some (.v .non):=by
 have j:=jC C;have i:∀t,okT n t->eV C [.v (dT4 t),.v (.int n)]=some (.v (.bl true)):=fun t h=>zY C t n h
 unfold sX Ei;generalize b7 C=P at j ⊢;generalize eV C=T at i ⊢;have b:(ks.length:Int)=n:=g.1;have p:1<=n:=f.1;have o:n<=7:=f.2;have m:¬(12:Int)<(ts.length:Int):=by have:=e.1;omega
 have q:∀G,(ap (dIf (cw (asB (chD leA leA (cI 1) (d1 aG (ak 0)) (cI 7)))) fg dNx) (ap (dIf (asB (d2 gtI (d1 aG (ak 1)) (cI 12))) fg dNx) G)) (aP 4 2 [.v (.lst (ks.map .str)),.v (.lst (ts.map dT4))])=G [some (.v (.lst (ks.map .str))),some (.v (.lst (ts.map dT4))),none,none]:=by intro G;simp[b,p,o,m]
 obtain⟨w,u,y,rfl⟩:=dY (st:=setV 2) (body:=(dIf (cw (asB (am P (aV (getV 2) nA)))) fg dNx)) (fun ρ=>∃x,ρ=[some (.v (.lst (ks.map .str))),some (.v (.lst (ts.map dT4))),x,none]) (ds:=ks.map .str) (ρ:=[some (.v (.lst (ks.map .str))),some (.v (.lst (ts.map dT4))),none,none]) ⟨_,rfl⟩ (by
  rintro d c _ ⟨x,rfl⟩;obtain⟨k,a,rfl⟩:=Yv.mp c;have:=j k (g.2 k a);refine⟨[some (.v (.lst (ks.map .str))),some (.v (.lst (ts.map dT4))),some (.v (.str k)),none],rfl,[some (.v (.lst (ks.map .str))),some (.v (.lst (ts.map dT4))),some (.v (.str k)),none],?_,_,rfl⟩;simp[this])
 obtain⟨z,s,A,rfl⟩:=dY (st:=setV 3) (body:=(dIf (cw (asB (am T (aB 3 (aV (d1 aG (ak 0)) nA))))) fg dNx)) (fun ρ=>∃l,ρ=[some (.v (.lst (ks.map .str))),some (.v (.lst (ts.map dT4))),y,l]) (ds:=ts.map dT4) (ρ:=[some (.v (.lst (ks.map .str))),some (.v (.lst (ts.map dT4))),y,none]) ⟨_,rfl⟩ (by
  rintro d c _ ⟨x,rfl⟩;obtain⟨k,a,rfl⟩:=Yv.mp c;have:=i k (e.2 k a);refine⟨[some (.v (.lst (ks.map .str))),some (.v (.lst (ts.map dT4))),y,some (.v (dT4 k))],rfl,[some (.v (.lst (ks.map .str))),some (.v (.lst (ts.map dT4))),y,some (.v (dT4 k))],?_,_,rfl⟩;simp[b,this])
 rw[o0,q,aj (bC (ds:=ks.map D.str) rfl u),bC (ds:=ts.map dT4) rfl s];rfl
def lc(C:Addr)(t:T4):bO C [.v (dT4 t)]=some (.v (dT4 (lf t))):=by
 obtain⟨a,b,k,o⟩:=t;have g:atI [D.int a,.int b,.int k,.bl o] 0=some (.int a):=rfl;have f:atI [D.int a,.int b,.int k,.bl o] 1=some (.int b):=rfl;have c:atI [D.int a,.int b,.int k,.bl o] 2=some (.int k):=rfl;have e:atI [D.int a,.int b,.int k,.bl o] 3=some (.bl o):=rfl;unfold bO ik;cases o with
 |true=>simp[dT4,ix2,g,f,c,e,lf]
 |false=>
  by_cases h:a<b
  ·simp[dT4,ix2,g,f,c,e,lf,h]
  ·simp[dT4,ix2,g,f,c,e,lf,h]
def okJ(m:Nat)(kvs:List (List Key×D)):Prop:=kvs.length<=m/\∀kv∈kvs,∃p:List (Int×Int),kv.2=.tup (p.map dP)/\p.length<=m
def ni(ts:List (Int×Int))(h:ts.length<64):eE (ts.map dP)=true:=by
 unfold eE;simp only[Yg,Yu,Yr,Yb];refine⟨⟨⟨⟨h,?_⟩,?_⟩,?_⟩,?_⟩
 ·intro x a;obtain⟨t,_,rfl⟩:=Yv.mp a;rfl
 ·intro x a y b;obtain⟨t,_,rfl⟩:=Yv.mp a;obtain⟨u,_,rfl⟩:=Yv.mp b;rfl
 ·intro x a;obtain⟨t,_,rfl⟩:=Yv.mp a;rfl
 ·intro x a;obtain⟨t,_,rfl⟩:=Yv.mp a;rfl
def unP:D->Int×Int
 |.tup [.int a,.int b]=>(a,b)
 |_=>(0,0)
def yz{κ:Type}[DecidableEq κ]{kvs:List (κ×D)}{k:κ}{d:D}(h:cZ kvs k=some d):∃a∈kvs,a.2=d:=by
 unfold cZ at h;cases q:kvs.find? fun a=>decide (a.1=k)with
 |none=>rw[q]at h;cases h
 |some a=>rw[q]at h;cases h;exact⟨a,List.mem_of_find?_eq_some q,rfl⟩
def Bz{m:Nat}(h:okJ m kvs)(k:List Key)(us:List (Int×Int))(c:us.length<=m+1):okJ (m+1) (eC kvs k (.tup (us.map dP))):=by
 refine⟨YC (j5 ..) (XY h.1),fun f a=>?_⟩;unfold eC at a;split at a
 ·obtain⟨b,h1,rfl⟩:=Yv.mp a;split
  ·exact⟨us,rfl,c⟩
  ·obtain⟨p,e,l⟩:=h.2 b h1;exact⟨p,e,by omega⟩
 ·rcases Zb.mp a with h1|h1
  ·obtain⟨p,e,l⟩:=h.2 f h1;exact⟨p,e,by omega⟩
  ·rw[Zc.mp h1];exact⟨us,rfl,c⟩
def n6{fk:Dd} :oP j fk fv ρ=match ρ[j]? with
 |some (some (.own (.dT kvs) t))=>(fv ρ).bind fun v=>(fk ρ).bind fun y=>(iY y).bind fun k=>if kvs.length<16777216 then some (.nx (ρ.set j (some (.own (.dT (eC kvs k v)) t))))else none
 |_=>none:=rfl
def js{fd fk:Dd} :jW fd fk fx ρ=match fd ρ with
 |some (.dT kvs)=>(fk ρ).bind fun y=>(iY y).bind fun k=>(fx ρ).map fun x=>(cZ kvs k).getD x
 |_=>none:=rfl
def EF(C:Addr)(m:Nat)(kvs:List (List Key×D))(a b k f:Int)(H:m<=50)(h:okJ m kvs):∃c,cJ C (.dT kvs) [.v (.tup [.int a,.int b]),.v (.tup [.int k,.int f])]=some (.dT c,.non)/\okJ (m+1) c:=by
 have w:∃p:List (Int×Int),(cZ kvs [.inl a,.inl b]).getD (.tup [])=.tup (p.map dP)/\p.length<=m:=by
  cases q:cZ kvs [.inl a,.inl b]with
  |none=>exact⟨[],rfl,YO _⟩
  |some d=>
   obtain⟨s,i,e⟩:=yz q;obtain⟨p,A,l⟩:=h.2 s i;exact⟨p,e.symm.trans A,l⟩
 obtain⟨p,x,E⟩:=w;obtain⟨u,z,o⟩:=cM dP unP (fun _=>rfl) (bZ ((p++[(k,f)]).map dP));have y:bb (.tup (p.map dP)) (.tup [.tup [.int k,.int f]])=some (.tup ((p++[(k,f)]).map dP)):=by rw[YT];exact Yh (by rw[Yb];show p.length+1<=_;omega)
 have g:=ni (p++[(k,f)]) (by rw[Yn,YN];omega);refine⟨eC kvs [.inl a,.inl b] (.tup (u.map dP)),kj rfl rfl fun B=>⟨.nx [some (.own (.dT (eC kvs [.inl a,.inl b] (.tup (u.map dP)))) (some B)),some (.v (.tup [.int a,.int b])),some (.v (.tup [.int k,.int f]))],?_,rfl,rfl⟩,Bz h _ u (by rw[o.length_eq,Yn,YN];omega)⟩;have j:kvs.length<16777216:=by have:=h.1;omega
 generalize (p++[(k,f)]).map dP=L,p.map dP=I at *;unfold jf;simp[n6,js,iY,eZ,jt,x,y,iu,g,z,qF,j]
def xN(C:Addr)(ts:List T4)(O:ts.length<=12):∃kvs,c9 C [.v (.lst (ts.map dT4))]=some (.own (.dT kvs) none):=by
 have q:∀(m:Nat) (kvs:List (List Key×D)) (a b k f:Int),m<=50->okJ m kvs->∃g,cJ C (.dT kvs) [.v (.tup [.int a,.int b]),.v (.tup [.int k,.int f])]=some (.dT g,.non)/\okJ (m+1) g:=EF C;unfold c9 jr;generalize cJ C=M at q ⊢;obtain⟨z,e,kvs,N,L,K,J,rfl,y⟩:=fq (st:=b5 [2,3,4,5]) (body:=(ap (e_ K0 1 M (aV (asT (ae (getV 2) (ae (getV 3) aC))) (aV (asT (ae (getV 4) (ae (ifV (asB (getV 5)) (cI 1) (cI 0)) aC))) nA)))
  (e_ K0 1 M (aV (asT (ae (getV 3) (ae (getV 2) aC))) (aV (asT (ae (getV 4) (ae (ifV (asB (getV 5)) (cI 2) (cI 0)) aC))) nA)))))
  (fun j B=>∃(kvs:List (List Key×D)) (w u s x:Option DV),B=[some (.v (.lst (ts.map dT4))),some (.own (.dT kvs) none),w,u,s,x]/\okJ (2*j) kvs) (ts.map dT4) 0
  [some (.v (.lst (ts.map dT4))),some (.own (.dT []) none),none,none,none,none] ⟨[],_,_,_,_,rfl,Ym _,fun _ h=>by cases h⟩ (by
   rintro j d _ A ⟨kvs,w,u,s,x,rfl,y⟩;have H:j<ts.length:=by have:=(Yj.mp A).1;rwa [Yb]at this
   obtain⟨⟨a,b,k,o⟩,_,rfl⟩:=Yv.mp (YB A);obtain⟨i,p,I⟩:=q (2*(0+j)) kvs a b k (if o=true then 1 else 0) (by omega) y;obtain⟨c,l,P⟩:=q (2*(0+j)+1) i b a k (if o=true then 2 else 0) (by omega) I;refine⟨[some (.v (.lst (ts.map dT4))),some (.own (.dT kvs) none),some (.v (.int a)),some (.v (.int b)),some (.v (.int k)),some (.v (.bl o))],rfl,[some (.v (.lst (ts.map dT4))),some (.own (.dT c) none),some (.v (.int a)),some (.v (.int b)),some (.v (.int k)),some (.v (.bl o))],?_,c,_,_,_,_,rfl,by rwa [show 2*(0+j+1)=2*(0+j)+1+1 by omega]⟩;cases o with
   |true=>
    simp only[XC]at p l;simp[e_,lv,xj,p,l]
   |false=>
    simp at p l;simp[e_,lv,xj,p,l])
 refine⟨kvs,?_⟩;rw[n4];have E:bt 1 (fun _=>some (.dT [])) (aP 6 1 [.v (.lst (ts.map dT4))])=some (.nx [some (.v (.lst (ts.map dT4))),some (.own (.dT []) none),none,none,none,none]):=rfl;rw[aj E,aj (bC (ds:=ts.map dT4) rfl e)];rfl
def wFs(ks:List Str)(T J:D):List (Str×D):=[("kinds",.lst (ks.map .str)),("ties",T),("joins",J)]
def n1:¬(("kinds":Str) = "ties"):=by decide+kernel
def n2:¬(("kinds":Str) = "joins"):=by decide+kernel
def n3:¬(("ties":Str) = "joins"):=by decide+kernel
def b1:(("ties":Str) == "kinds")=false:=by decide+kernel
def b2:(("size":Str) == "kinds")=false:=by decide+kernel
def b3:(("size":Str) == "ties")=false:=by decide+kernel
def b4:(("size":Str) == "joins")=false:=by decide+kernel
def fU{fs:List (Str×D)}{n:Str}:aL C n (.ins C fs)=fs.lookup n:=Yh rfl
def cT(C:Addr)(ks:List Str)(T J:D):aL C "kinds" (.ins C (wFs ks T J))=some (.lst (ks.map .str)):=by rw[fU];unfold wFs;simp
def iw(C:Addr)(ks:List Str)(T J:D):aL C "ties" (.ins C (wFs ks T J))=some T:=by rw[fU];unfold wFs;simp[List.lookup,b1]
def qS(ks:List Str)(T J:D):(wFs ks T J).lookup ("size":Str)=none:=by unfold wFs;simp[List.lookup,b2,b3,b4]
def iH{n:Str}  :jF C i n fv ρ=match ρ[i]? with
 |some (some (.own (.ins C' fs) t))=>if C'=C then(fv ρ).bind fun d=>if fs.length<1000 then some (.nx (ρ.set i (some (.own (.ins C (iA n d fs)) t))))else none else none
 |_=>none:=rfl
def srt(ts:List T4):List D:=dh ((ts.map lf).map dT4)
def sM(r:List Int):okN 30 (.lst (r.map .int))=true:=by show(r.map D.int).all (okN 29)=true;rw[Yr];intro x h;obtain⟨t,_,rfl⟩:=Yv.mp h;rfl
def mR{c:Type}(f:c->D)(h:∀x y,aE (f x) (f y)=true):∀a b:List c,bV (a.map f) (b.map f)=true
 |[],_=>rfl
 |_::_,[]=>rfl
 |x::a,y::b=>by
  rw[Yx,Yx];show(aE (f x) (f y)&&bV (a.map f) (b.map f))=true;rw[mR f h a b,h];rfl
def r_{b:Type}(f:b->D)(h:∀x y,aE (f x) (f y)=true)(a:List b):eqd (.lst (a.map f)) (.lst (a.map f))=true:=(nq _ _ (mR f h a a)).mpr rfl
def zn{n:Int}(h:okK n ks):okN 30 (.lst (ks.map .str))=true:=by show(ks.map D.str).all (okN 29)=true;rw[Yr];intro x a;obtain⟨k,b,rfl⟩:=Yv.mp a;show PyData.strOk k=true;unfold PyData.strOk;rw[<-Array.all_toList,Yr];intro c e;have:=(h.2 k b).2.2 c e;exact YM (by omega)
def yg{x y:D}(hx:okN 30 x=true)(h:okN 30 y=true):eqD x y=some (.bl (eqd x y)):=Yh (by rw[hx,h];rfl)
def kX{x y:D}(hx:okN 30 x=true)(h:okN 30 y=true):neD x y=some (.bl (!eqd x y)):=Yh (by rw[hx,h];rfl)
def Fg(ps:List (Int×Int)):Cmps 28 (ps.map dP):=
 ⟨fun x h=>by obtain⟨t,_,rfl⟩:=Yv.mp h;rfl,fun x h y a=>by obtain⟨t,_,rfl⟩:=Yv.mp h;obtain⟨u,_,rfl⟩:=Yv.mp a;rfl⟩
def prs(i j:Int)(t:T4):List (Int×Int):=(if t.1=i/\t.2.1=j then[(t.2.2.1,if t.2.2.2=true then 1 else 0)]else[])++(if t.2.1=i/\t.1=j then[(t.2.2.1,if t.2.2.2=true then 2 else 0)]else[])
def aR(i j:Int):List T4->List (Int×Int)
 |[]=>[]
 |t::ts=>prs i j t++aR i j ts
def srP(ps:List (Int×Int)):D:=.tup (dh (ps.map dP))
def rP{ps:List (Int×Int)}(h:ps.Perm qs):srP ps=srP qs:=by unfold srP;rw[jq (h.map dP) (Fg _)]
def zc(i j:Int)(ts us:List T4):aR i j (ts++us)=aR i j ts++aR i j us:=by
 induction ts with
 |nil=>rfl
 |cons t ts ih=>
  show prs i j t++aR i j (ts++us)=prs i j t++aR i j ts++aR i j us;rw[ih,ZO]
def tM(i j:Int)(ts:List T4)(t:T4):aR i j (ts++[t])=aR i j ts++prs i j t:=by rw[zc];show _++(prs i j t++[])=_;rw[YU]
def oT{i j:Int}{us:List T4}(h:ts.Perm us):(aR i j ts).Perm (aR i j us):=by
 induction h with
 |nil=>exact .refl _
 |cons t _ ih=>exact ih.append_left _
 |swap a b l=>
  show(prs i j b++(prs i j a++aR i j l)).Perm (prs i j a++(prs i j b++aR i j l));rw[<-ZO,<-ZO];exact List.perm_append_comm.append_right _
 |trans _ _ h1 h2=>exact h1.trans h2
def ER(i j:Int)(t:T4)(h:t.1≠t.2.1):prs i j (lf t)=prs i j t:=by
 obtain⟨a,b,k,o⟩:=t;simp only at h;unfold lf;split
 ·rfl
 ·rename_i q;have f:o=false:=by cases o with|false=>rfl|true=>exact absurd (Or.inl rfl) q
  subst f;unfold prs;by_cases e:a=i/\b=j
  ·have c:¬(b=i/\a=j):=fun z=>h (by rw[e.1,<-z.1])
   simp[e,c];simp[e]at c;split
   ·rename_i z;exact absurd z.2 (c z.1)
   ·rfl
  ·by_cases c:b=i/\a=j
   ·simp[e,c];simp[c]at e;split
    ·rename_i z;exact absurd z.2 (e z.1)
    ·rfl
   ·simp[e,c]
def v6(i j:Int)(ts:List T4)(h:∀t∈ts,t.1≠t.2.1):aR i j (ts.map lf)=aR i j ts:=by
 induction ts with
 |nil=>rfl
 |cons t ts ih=>
  show prs i j (lf t)++aR i j (ts.map lf)=prs i j t++aR i j ts;rw[ER i j t (h t Yf),ih fun u a=>h u (Yd _ a)]
def A_(i j:Int)(t:T4):(prs i j t).length<=2:=by
 unfold prs;rw[Yn];have h:∀(c:Prop) [Decidable c] (x:Int×Int),(if c then[x]else[]).length<=1:=fun c _ x=>by split<;>simp
 have:=h (t.1=i/\t.2.1=j) (t.2.2.1,if t.2.2.2=true then 1 else 0);have:=h (t.2.1=i/\t.1=j) (t.2.2.1,if t.2.2.2=true then 2 else 0);omega
def ij(i j:Int)(ts:List T4):(aR i j ts).length<=2*ts.length:=by
 induction ts with
 |nil=>exact Ym _
 |cons t ts ih=>
  show(prs i j t++aR i j ts).length<=2*(ts.length+1);rw[Yn];have:=A_ i j t;omega
def JOk(kvs:List (List Key×D))(ts:List T4):Prop:=∀i j:Int,cZ kvs [.inl i,.inl j]=if aR i j ts=[]then none else some (srP (aR i j ts))
def JOk.get(h:JOk kvs ts)(i j:Int):(cZ kvs [.inl i,.inl j]).getD (.tup [])=srP (aR i j ts):=by
 rw[h i j];split
 ·rename_i q;rw[q];rfl
 ·rfl
def qr{a b i j:Int}(h:¬(a=i/\b=j)):¬([.inl a,.inl b]:List Key)=[.inl i,.inl j]:=by intro q;injection q with q1 q2;injection q2 with q2 _;exact h ⟨Vs q1,Vs q2⟩
def GK(C:Addr)(kvs:List (List Key×D))(a b k f:Int)(ps:List (Int×Int))(l:(cZ kvs [.inl a,.inl b]).getD (.tup [])=srP ps)(pl:ps.length<=50)(j:kvs.length<1000) :
  cJ C (.dT kvs) [.v (.tup [.int a,.int b]),.v (.tup [.int k,.int f])]=some (.dT (eC kvs [.inl a,.inl b] (srP (ps++[(k,f)]))),.non):=by
 obtain⟨u,o,g⟩:=cM dP unP (fun _=>rfl) (bZ (ps.map dP));have e:(cZ kvs [.inl a,.inl b]).getD (.tup [])=.tup (u.map dP):=l.trans (Zn D.tup o);have q:u.length<=50:=by rw[g.length_eq];exact pl
 have m:bb (.tup (u.map dP)) (.tup [.tup [.int k,.int f]])=some (.tup ((u++[(k,f)]).map dP)):=by rw[YT];exact Yh (by rw[Yb];show u.length+1<=_;omega)
 have c:=ni (u++[(k,f)]) (by rw[Yn,YN];omega);have i:D.tup (dh ((u++[(k,f)]).map dP))=srP (ps++[(k,f)]):=rP (g.append_right _);rw[<-i];refine kj rfl rfl fun p=>⟨.nx [some (.own (.dT (eC kvs [.inl a,.inl b] (.tup (dh ((u++[(k,f)]).map dP))))) (some p)),some (.v (.tup [.int a,.int b])),some (.v (.tup [.int k,.int f]))],?_,rfl,rfl⟩
 have h:kvs.length<16777216:=by omega
 generalize (u++[(k,f)]).map dP=L,u.map dP=s at *;unfold jf;simp[n6,js,iY,eZ,jt,e,m,iu,c,qF,h]
def Fl(a b k:Int)(o:Bool)(h:a≠b):prs a b (a,b,k,o)=[(k,if o=true then 1 else 0)]:=by show(if a=a/\b=b then[(k,if o=true then(1:Int)else 0)]else[])++(if b=a/\a=b then[(k,if o=true then(2:Int)else 0)]else[])=_;rw[Yh (⟨rfl,rfl⟩:a=a/\b=b),Yl (fun z:b=a/\a=b=>h z.2)];rfl
def Gs(a b k:Int)(o:Bool)(h:a≠b):prs b a (a,b,k,o)=[(k,if o=true then 2 else 0)]:=by show(if a=b/\b=a then[(k,if o=true then(1:Int)else 0)]else[])++(if b=b/\a=a then[(k,if o=true then(2:Int)else 0)]else[])=_;rw[Yh (⟨rfl,rfl⟩:b=b/\a=a),Yl (fun z:a=b/\b=a=>h z.1)];rfl
def FM(i j a b k:Int)(o:Bool)(h1:¬(b=i/\a=j))(h2:¬(a=i/\b=j)):prs i j (a,b,k,o)=[]:=by show(if a=i/\b=j then[(k,if o=true then(1:Int)else 0)]else[])++(if b=i/\a=j then[(k,if o=true then(2:Int)else 0)]else[])=_;rw[Yl h2,Yl h1];rfl
def JOk.step(h:JOk kvs ts)(a b k:Int)(o:Bool)(c:a≠b) :
  JOk (eC (eC kvs [.inl a,.inl b] (srP (aR a b ts++[(k,if o=true then 1 else 0)]))) [.inl b,.inl a] (srP (aR b a ts++[(k,if o=true then 2 else 0)]))) (ts++[(a,b,k,o)]):=by
 intro i j;rw[tM,j_,j_];by_cases f:b=i/\a=j
 ·obtain⟨rfl,rfl⟩:=f;rw[Gs a b k o c];generalize (k,if o=true then(2:Int)else 0)=q;rw[Yh rfl,Yl (by simp)]
 ·rw[Yl (qr f)];by_cases e:a=i/\b=j
  ·obtain⟨rfl,rfl⟩:=e;rw[Fl a b k o c];generalize (k,if o=true then(1:Int)else 0)=q;rw[Yh rfl,Yl (by simp)]
  ·rw[Yl (qr e),h i j,FM i j a b k o f e,YU]
def nh{a:Type}{l:List a}{x:a}(h:l[j]?=some x):l.take (j+1)=l.take j++[x]:=by rw[Vq,h];rfl
def Cy(C:Addr)(ts:List T4)(T:ts.length<=12)(hd:∀t∈ts,t.1≠t.2.1):∃kvs,c9 C [.v (.lst (ts.map dT4))]=some (.own (.dT kvs) none)/\JOk kvs ts:=by
 have m:=GK C;unfold c9 jr;generalize cJ C=M at m ⊢;obtain⟨z,e,kvs,S,R,Q,P,rfl,A,h⟩:=fq (st:=b5 [2,3,4,5]) (body:=(ap (e_ K0 1 M (aV (asT (ae (getV 2) (ae (getV 3) aC))) (aV (asT (ae (getV 4) (ae (ifV (asB (getV 5)) (cI 1) (cI 0)) aC))) nA)))
  (e_ K0 1 M (aV (asT (ae (getV 3) (ae (getV 2) aC))) (aV (asT (ae (getV 4) (ae (ifV (asB (getV 5)) (cI 2) (cI 0)) aC))) nA)))))
  (fun j E=>∃(kvs:List (List Key×D)) (y w u x:Option DV),E=[some (.v (.lst (ts.map dT4))),some (.own (.dT kvs) none),y,w,u,x]/\kvs.length<=2*j/\JOk kvs (ts.take j)) (ts.map dT4) 0
  [some (.v (.lst (ts.map dT4))),some (.own (.dT []) none),none,none,none,none] ⟨[],_,_,_,_,rfl,Ym _,fun _ _=>rfl⟩ (by
   rintro j d _ i ⟨kvs,y,w,u,x,rfl,A,h⟩;rw[YZ]at A h ⊢;rw[Yt]at i;cases g:ts[j]? with
   |none=>rw[g]at i;cases i
   |some t=>
   rw[g]at i;cases i;have O:j<ts.length:=(Yj.mp g).1;obtain⟨a,b,k,o⟩:=t;have l:a≠b:=hd _ (YB g);have N:=ij a b (ts.take j);have L:=ij b a (ts.take j);have K:(ts.take j).length<=12:=by rw[YF];omega
   have q:=m kvs a b k (if o=true then 1 else 0) _ (h.get a b) (by omega) (by omega);have J:=j5 [.inl a,.inl b] (srP (aR a b (ts.take j)++[(k,if o=true then 1 else 0)])) kvs;have B:(cZ (eC kvs [.inl a,.inl b] (srP (aR a b (ts.take j)++[(k,if o=true then 1 else 0)]))) [.inl b,.inl a]).getD (.tup [])=srP (aR b a (ts.take j)):=by rw[j_,Yl (qr fun z=>l z.1)];exact h.get b a
   have p:=m _ b a k (if o=true then 2 else 0) _ B (by omega) (by omega);have s:=h.step a b k o l;rw[<-nh g]at s;have I:=j5 [.inl b,.inl a] (srP (aR b a (ts.take j)++[(k,if o=true then 2 else 0)])) (eC kvs [.inl a,.inl b] (srP (aR a b (ts.take j)++[(k,if o=true then 1 else 0)])));generalize eC kvs [.inl a,.inl b] (srP (aR a b (ts.take j)++[(k,if o=true then 1 else 0)]))=f at *;generalize eC f [.inl b,.inl a] (srP (aR b a (ts.take j)++[(k,if o=true then 2 else 0)]))=c at *;refine⟨[some (.v (.lst (ts.map dT4))),some (.own (.dT kvs) none),some (.v (.int a)),some (.v (.int b)),some (.v (.int k)),some (.v (.bl o))],rfl,[some (.v (.lst (ts.map dT4))),some (.own (.dT c) none),some (.v (.int a)),some (.v (.int b)),some (.v (.int k)),some (.v (.bl o))],?_,c,_,_,_,_,rfl,by omega,s⟩;clear B s h N L K J I m;cases o with
   |true=>
    simp only[XC]at q p;simp[e_,lv,xj,q,p]
   |false=>
    simp at q p;simp[e_,lv,xj,q,p])
 rw[YZ,Yb,Xh]at h;refine⟨kvs,?_,h⟩;rw[n4];have H:bt 1 (fun _=>some (.dT [])) (aP 6 1 [.v (.lst (ts.map dT4))])=some (.nx [some (.v (.lst (ts.map dT4))),some (.own (.dT []) none),none,none,none,none]):=rfl;rw[aj H,aj (bC (ds:=ts.map dT4) rfl e)];rfl
def JOk.perm{us:List T4}(h:JOk kvs us)(p:∀i j,(aR i j us).Perm (aR i j ts)):JOk kvs ts:=by
 intro i j;have a:=p i j;rw[h i j,rP a];by_cases q:aR i j us=[]
 ·rw[q]at a;rw[Yh q,Yh a.symm.eq_nil]
 ·rw[Yl q,Yl fun z=>q (by rw[z]at a;exact a.eq_nil)]
def DS(C:Addr)(ks:List Str)(ts:List T4)(n:Int)(x:1<=n/\n<=7)(y:okK n ks)(h:okS n ts):∃kvs,JOk kvs ts/\g8 C (.ins C []) [.v (.lst (ks.map .str)),.v (.lst (ts.map dT4))]=some (.ins C (wFs ks (.lst (srt ts)) (.dT kvs)),.non):=by
 have l:=w9 C ks ts n x y h;have m:=lc C;obtain⟨a,p,b⟩:=mF (ts.map lf);have A:∀t∈ts,t.1≠t.2.1:=fun t c=>(h.2 t c).2.2.2.2.1
 obtain⟨kvs,o,H⟩:=Cy C a (by rw[b.length_eq,Yb];exact h.1) (fun t c=>by
  obtain⟨u,w,rfl⟩:=Yv.mp (b.mem_iff.mp c);exact(yX (h.2 u w)).2.2.2.2.1)
 have f:=kI (ts.map lf) (by rw[Yb];have:=h.1;omega);refine⟨kvs,H.perm fun i j=>?_,kj rfl rfl fun I=>⟨.nx [some (.own (.ins C (wFs ks (.lst (srt ts)) (.dT kvs))) (some I)),some (.v (.lst (ks.map .str))),some (.v (.lst (ts.map dT4)))],?_,rfl,rfl⟩⟩
 ·have:=oT (i:=i) (j:=j) b
  rwa [v6 i j ts A]at this
 unfold C4;generalize sX C=R at l ⊢;generalize bO C=L at m ⊢;generalize c9 C=J at o ⊢;have e:srt ts=a.map dT4:=p;rw[e];have q:cD (setV 0) aX (am L (aV (getV 0) nA)) [none] (ts.map dT4)=some ((ts.map lf).map dT4):=by
  rw[YR];refine bN dT4 _ ts fun t _=>⟨[some (.v (dT4 t))],rfl,rfl,?_⟩
  simp[m]
 have s:ts.length<=16777216:=by have:=h.1;omega
 generalize (am L (aV (getV 0) nA))=E at q ⊢;generalize (ts.map lf).map dT4=X at *;have z:∀fs:List (Str×D),aL C "ties" (.ins C [("kinds",.lst (ks.map .str)),("ties",.lst (a.map dT4))])=some (.lst (a.map dT4)):=by intro _;rw[fU];simp[List.lookup,b1]
 have g:=z [];generalize a.map dT4=Y,hX:ts.map dT4=Z at *;have B:Z.length<=16777216:=by rw[<-hX,Yb];exact s
 simp[l,iH,iA,iu,bc,B,q,f,p,g,o,n1,n2,n3,wFs]
def p8(C:Addr)(ks:List Str)(ts:List T4)(n:Int)(b:1<=n/\n<=7)(c:okK n ks)(a:okS n ts):∃kvs,JOk kvs ts/\∀(g:Dv) (ρ:DF),g ρ=some [.v (.lst (ks.map .str)),.v (.lst (ts.map dT4))]->cG C (g8 C) g ρ=some (.ins C (wFs ks (.lst (srt ts)) (.dT kvs))):=by obtain⟨J,h,e⟩:=DS C ks ts n b c a;refine⟨J,h,fun g ρ h=>?_⟩;unfold cG;rw[h,Ya,e];rfl
def C1(a b i j:Int):eqD (.tup [.int a,.int b]) (.tup [.int i,.int j])=some (.bl (decide (a=i/\b=j))):=by
 rw[yg rfl rfl];have h:=df (.tup [.int a,.int b]) (.tup [.int i,.int j]) rfl;by_cases e:a=i/\b=j
 ·rw[YM e,h.mpr (by rw[e.1,e.2])]
 ·rw[YE e];cases q:eqd (.tup [.int a,.int b]) (.tup [.int i,.int j])with
  |false=>rfl
  |true=>exact absurd (by simpa using h.mp q) e
def A8(o:Bool):sj (.bl o)=some (.int (if o=true then 1 else 0)):=rfl
abbrev tbT:DF->Option RES:=(ap (dIf (asB (d2 eqD (asT (ae (getV 6) (ae (getV 7) aC))) (asT (ae (getV 3) (ae (getV 4) aC))))) (eD 5 (asT (ae (getV 8) (ae (d1 sj (ak 9)) aC)))) dNx)
  (dIf (asB (d2 eqD (asT (ae (getV 7) (ae (getV 6) aC))) (asT (ae (getV 3) (ae (getV 4) aC))))) (eD 5 (asT (ae (getV 8) (ae (d2 fJ (cI 2) (d1 sj (ak 9))) aC)))) dNx))
abbrev tbB:DF->Option RES:=(ap (bt 5 (asL aC)) (ap (cP (bA 1) (b5 [6,7,8,9]) tbT) (oP 2 (asT (ae (getV 3) (ae (getV 4) aC))) (d1 qF (asO (asL (jH (aa 5))))))))
abbrev tbF(n:Int)(TS:List D)(kvs:List (List Key×D))(x3 x4 x5 x6 x7 x8 x9:Option DV):DF:=[some (.v (.int n)),some (.v (.lst TS)),some (.own (.dT kvs) none),x3,x4,x5,x6,x7,x8,x9]
def AO(n:Int)(TS:List D)(kvs:List (List Key×D))(i j a b k:Int)(o:Bool)(L:List (Int×Int))(x:L.length<=100) :
  tbT (tbF n TS kvs (some (.v (.int i))) (some (.v (.int j))) (some (.own (.lst (L.map dP)) none)) (some (.v (.int a))) (some (.v (.int b))) (some (.v (.int k))) (some (.v (.bl o)))) =
   some (.nx (tbF n TS kvs (some (.v (.int i))) (some (.v (.int j))) (some (.own (.lst ((L++prs i j (a,b,k,o)).map dP)) none)) (some (.v (.int a))) (some (.v (.int b))) (some (.v (.int k))) (some (.v (.bl o))))):=by
 have h:L.length<16777216:=by omega
 have g:L.length+1<16777216:=by omega
 have m:=eQ 2 (if o=true then 1 else 0) (.inl (by decide));have f:(2:Int)*(if o=true then 1 else 0)=if o=true then 2 else 0:=by cases o<;>rfl
 rw[f]at m;have c:=C1 a b i j;have e:=C1 b a i j;have q:prs i j (a,b,k,o)=(if decide (a=i/\b=j)=true then[(k,if o=true then 1 else 0)]else[])++(if decide (b=i/\a=j)=true then[(k,if o=true then 2 else 0)]else[]):=by simp only[Yu];rfl
 rw[q];generalize decide (a=i/\b=j)=u at c ⊢;generalize decide (b=i/\a=j)=s at e ⊢;have p:=A8 o;generalize (if o=true then(1:Int)else 0)=w1,(if o=true then(2:Int)else 0)=w at *;have d1:dP (k,w1)=.tup [.int k,.int w1]:=rfl;have d2:dP (k,w)=.tup [.int k,.int w]:=rfl;have l:(L.map dP).length=L.length:=Yb ..;rw[YT];generalize L.map dP=M at *;cases u<;>cases s<;>simp[c,e,p,m,h,g,l,d1,d2]
def Fy(n:Int)(kvs:List (List Key×D))(i j:Int)(ts:List T4)(u:ts.length<=12)(x6 x7 x8 x9:Option DV):∃g f c y,
  dj (b5 [6,7,8,9]) tbT (ts.map dT4) (tbF n (ts.map dT4) kvs (some (.v (.int i))) (some (.v (.int j))) (some (.own (.lst []) none)) x6 x7 x8 x9) =
   some (.nx (tbF n (ts.map dT4) kvs (some (.v (.int i))) (some (.v (.int j))) (some (.own (.lst ((aR i j ts).map dP)) none)) g f c y)):=by
 obtain⟨z,e,g,f,c,y,rfl⟩:=fq (st:=b5 [6,7,8,9]) (body:=tbT) (fun m p=>∃g f c y,p=tbF n (ts.map dT4) kvs (some (.v (.int i))) (some (.v (.int j))) (some (.own (.lst ((aR i j (ts.take m)).map dP)) none)) g f c y) (ts.map dT4) 0
  (tbF n (ts.map dT4) kvs (some (.v (.int i))) (some (.v (.int j))) (some (.own (.lst []) none)) x6 x7 x8 x9) ⟨_,_,_,_,rfl⟩ (by
   rintro m d _ h ⟨g,f,c,y,rfl⟩;rw[YZ];rw[Yt]at h;cases l:ts[m]? with
   |none=>rw[l]at h;cases h
   |some t=>
   rw[l]at h;cases h;obtain⟨a,b,k,o⟩:=t;rw[nh l,tM];have s:=ij i j (ts.take m);have q:(ts.take m).length<=12:=by rw[YF];omega
   exact⟨_,rfl,_,AO n (ts.map dT4) kvs i j a b k o (aR i j (ts.take m)) (by omega),_,_,_,_,rfl⟩)
 rw[YZ,Yb,Xh]at e;exact⟨_,_,_,_,e⟩
def C3(n:Int)(kvs:List (List Key×D))(i j:Int)(ts:List T4)(l:ts.length<=12)(o:kvs.length<1000)(x5 x6 x7 x8 x9:Option DV):∃g c b a y,
  tbB (tbF n (ts.map dT4) kvs (some (.v (.int i))) (some (.v (.int j))) x5 x6 x7 x8 x9) =
   some (.nx (tbF n (ts.map dT4) (eC kvs [.inl i,.inl j] (srP (aR i j ts))) (some (.v (.int i))) (some (.v (.int j))) g c b a y)):=by
 obtain⟨c,b,a,y,e⟩:=Fy n kvs i j ts l x6 x7 x8 x9;have m:=ij i j ts;have h:=ni (aR i j ts) (by omega);have f:kvs.length<16777216:=by omega
 refine⟨some (.own (.lst ((aR i j ts).map dP)) none),c,b,a,y,?_⟩;have s:bt 5 (asL aC) (tbF n (ts.map dT4) kvs (some (.v (.int i))) (some (.v (.int j))) x5 x6 x7 x8 x9)=some (.nx (tbF n (ts.map dT4) kvs (some (.v (.int i))) (some (.v (.int j))) (some (.own (.lst []) none)) x6 x7 x8 x9)):=rfl;show ap _ _ _=_;rw[aj s,aj (bC (ds:=ts.map dT4) rfl e)];unfold srP;generalize (aR i j ts).map dP=L at *;simp[n6,iY,eZ,jt,iu,h,qF,f]
abbrev tbS(ts:List T4)(kvs:List (List Key×D))(S:Int->Int->Prop):Prop:=∀a b,S a b->cZ kvs [.inl a,.inl b]=some (srP (aR a b ts))
def En{S c:Int->Int->Prop}(h:tbS ts kvs S)(i j:Int)(f:∀a b,c a b->S a b\/(i=a/\j=b)):tbS ts (eC kvs [.inl i,.inl j] (srP (aR i j ts))) c:=by
 intro a b q;rw[j_];by_cases e:i=a/\j=b
 ·obtain⟨rfl,rfl⟩:=e;rw[Yh rfl]
 ·rw[Yl (qr e)];rcases f a b q with z|z
  ·exact h a b z
  ·exact absurd z e
def DP(n:Int)(K:1<=n/\n<=7)(kvs:List (List Key×D))(i:Nat)(hi:i<7)(ts:List T4)(x:ts.length<=12)(A:kvs.length<=7*i)(x4 x5 x6 x7 x8 x9:Option DV)(B:tbS ts kvs fun a b=>0<=a/\a<(i:Int)/\0<=b/\b<n) :
  ∃c o j h g f y,dj (setV 4) tbB ((aH n).map .int) (tbF n (ts.map dT4) kvs (some (.v (.int i))) x4 x5 x6 x7 x8 x9)=some (.nx (tbF n (ts.map dT4) c (some (.v (.int i))) o j h g f y))/\c.length<=7*(i+1) /\
   tbS ts c fun a b=>0<=a/\a<((i+1:Nat):Int)/\0<=b/\b<n:=by
 obtain⟨z,e,c,o,j,h,g,f,y,rfl,s,p⟩:=fq (st:=setV 4) (body:=tbB) (fun m w=>∃c o j h g f y,w=tbF n (ts.map dT4) c (some (.v (.int i))) o j h g f y/\c.length<=7*i+m /\
   tbS ts c fun a b=>(0<=a/\a<(i:Int)/\0<=b/\b<n)\/(a=(i:Int)/\0<=b/\b<(m:Int))) ((aH n).map .int) 0 (tbF n (ts.map dT4) kvs (some (.v (.int i))) x4 x5 x6 x7 x8 x9)
   ⟨kvs,_,_,_,_,_,_,rfl,A,fun a b q=>by
    rcases q with q|q
    ·exact B a b q
    ·have:=q.2.1;have:=q.2.2;omega⟩ (by
   rintro m d _ u ⟨c,o,j,h,g,f,y,rfl,s,p⟩;rw[YZ]at s p ⊢;have L:m<n.toNat:=by have:=(Yj.mp u).1;rwa [Yb,bq]at this
   rw[jZ u];obtain⟨J,I,H,E,C,e⟩:=C3 n c i m ts x (by omega) j h g f y;have l:=j5 [.inl (i:Int),.inl (m:Int)] (srP (aR i m ts)) c;refine⟨_,rfl,_,e,_,_,_,_,_,_,_,rfl,by omega,En p i m fun a b q=>?_⟩;rcases q with q|⟨q1,q2,q3⟩
   ·exact .inl (.inl q)
   ·by_cases z:b=(m:Int)
    ·exact .inr ⟨q1.symm,z.symm⟩
    ·exact .inl (.inr ⟨q1,q2,by omega⟩))
 rw[YZ,Yb,bq]at s p;refine⟨c,o,j,h,g,f,y,e,by omega,fun a b q=>p a b ?_⟩;by_cases z:a=(i:Int)
 ·exact .inr ⟨z,q.2.2.1,by omega⟩
 ·exact .inl ⟨q.1,by omega,q.2.2.1,q.2.2.2⟩
def j0(C:Addr)(n:Int)(ts:List T4)(x:1<=n/\n<=7)(A:ts.length<=12):∃kvs,ce C [.v (.int n),.v (.lst (ts.map dT4))]=some (.own (.dT kvs) none)/\tbS ts kvs fun a b=>0<=a/\a<n/\0<=b/\b<n:=by
 obtain⟨z,e,kvs,o,l,j,i,g,f,y,rfl,p,h⟩:=fq (st:=setV 3) (body:=cP (bJ (aa 0)) (setV 4) tbB) (fun m u=>∃kvs o l j i g f y,u=tbF n (ts.map dT4) kvs o l j i g f y/\kvs.length<=7*m /\
   tbS ts kvs fun a b=>0<=a/\a<(m:Int)/\0<=b/\b<n) ((aH n).map .int) 0 (tbF n (ts.map dT4) [] none none none none none none none)
   ⟨[],_,_,_,_,_,_,_,rfl,Ym _,fun a b q=>by have:=q.1;have:=q.2.1;omega⟩ (by
   rintro m d _ s ⟨kvs,o,l,j,i,g,f,y,rfl,p,h⟩;rw[YZ]at p h ⊢;have N:m<n.toNat:=by have:=(Yj.mp s).1;rwa [Yb,bq]at this
   rw[jZ s];obtain⟨c,M,L,K,J,I,H,e,E,B⟩:=DP n x kvs m (by omega) ts A p l j i g f y h;exact⟨_,rfl,_,bC (dq rfl ⟨by omega,by omega⟩) e,c,_,_,_,_,_,_,_,rfl,E,B⟩)
 rw[YZ,Yb,bq]at h;refine⟨kvs,?_,fun a b q=>h a b ⟨q.1,by omega,q.2.2⟩⟩;unfold ce lD;rw[o0];have w:bt 2 (fun _=>some (.dT [])) (aP 10 2 [.v (.int n),.v (.lst (ts.map dT4))])=some (.nx (tbF n (ts.map dT4) [] none none none none none none none)):=rfl;rw[aj w,aj (bC (ds:=(aH n).map .int) (dq rfl ⟨by omega,by omega⟩) e)];rfl
def b8:(("between":Str) == "kinds")=false:=by decide+kernel
def b9:(("between":Str) == "ties")=false:=by decide+kernel
def b10:(("between":Str) == "joins")=false:=by decide+kernel
def b11:(("joins":Str) == "kinds")=false:=by decide+kernel
def b12:(("joins":Str) == "ties")=false:=by decide+kernel
def wF(C:Addr)(ks:List Str)(T J:D):aL C "joins" (.ins C (wFs ks T J))=some J:=by rw[fU];simp[wFs,List.lookup,b11,b12]
def uU(ks:List Str)(T J:D):(wFs ks T J).lookup ("between":Str)=none:=by simp[wFs,List.lookup,b8,b9,b10]
def qD{T J:D}{mn:Str}(h:(wFs ks T J).lookup mn=none)(xs:List DV):pq C mn (.v (.ins C (wFs ks T J))::xs)=true:=by show(match(if C=C then some (wFs ks T J)else none)with|some fs=>(fs.lookup mn).isNone|none=>false)=true;rw[Yh rfl];simp only;rw[h];rfl
def nr(ts:List T4)(n p:Int):List Int:=(aH n).filter fun o=>!decide (aR p o ts=[])
def uv(C:Addr)(ks:List Str)(T:D)(kvs:List (List Key×D))(ts:List T4)(i j:Int)(b:JOk kvs ts) :
  cm C [.v (.ins C (wFs ks T (.dT kvs))),.v (.int i),.v (.int j)]=some (.v (srP (aR i j ts))):=by
 have a:=wF C ks T (.dT kvs);have h:=b.get i j;generalize wFs ks T (.dT kvs)=F,srP (aR i j ts)=R at *;simp[cm,i9,js,a,iY,eZ,jt,h]
@[simp] theorem Gv{g:Dd} :tw f g ρ=match f ρ,g ρ with
 |some (.lst as),some (.lst bs)=>if as.length=bs.length then some (oH as bs)else none
 |some (.tup as),some (.tup bs)=>if as.length=bs.length then some (oH as bs)else none
 |_,_=>none:=rfl
def xG(C:Addr)(i:Int):dM C [.v (.int i)]=some (.v (.bl true)):=rfl
def wt{d:D}{b a:DF}(h1:st d ρ=some b)(h2:body b=some (.nx a)):dj st body (d::ds) ρ=dj st body ds a:=by
 conv=>lhs;unfold dj
 rw[h1];simp only[h2]
def Bh{g:Dl}{es:List D}{t:Option Addr}(h:ρ[i]?=some (some (.own (.lst ds) t)))(b:g ρ=some es)(a:ds.length+es.length<=16777216):tY i g ρ=some (.nx (ρ.set i (some (.own (.lst (ds++es)) t)))):=by unfold tY;rw[h];simp only;rw[b,Ya,Yh a]
@[simp] theorem G_:gf i j ρ=match ρ[i]? with
 |some (some (.own (.tup2 dss) _))=>(dss[j]?).map .lst
 |some (some (.bor (.tup2 dss)))=>(dss[j]?).map .lst
 |some (some (.v (.tup ds)))=>ds[j]?
 |_=>none:=rfl
def yS(m:Nat):ixN (m+1) (-1)=some m:=by unfold ixN;rw[Yl (by decide),Yh (by omega)];exact Zn some (by omega)
abbrev gtF(K TS CS:List D)(s N:Int)(x4 x5 x6 x7 x8 x9 x10 x11 x12:Option DV):DF:=[some (.v (.tup [.lst K,.lst TS])),some (.v (.lst CS)),some (.v (.int s)),some (.v (.int N)),x4,x5,x6,x7,x8,x9,x10,x11,x12]
abbrev gtC:DF->Option Bool:=asB (d2 ltd (d1 aG (ak 4)) (ak 3))
abbrev gtK(M:Dm):DF->Option RES:=eD 4 (d2 ixD (gf 0 0) (d2 aW (am M (aB 2 (aV (d1 aG (ak 4)) nA))) (d1 aG (gf 0 0))))
def yC(M:Dm)(s N:Int)(ks:List Str)(TS CS:List D)(x5:Option DV)(y:∀k:Int,0<=k/\k<=1000->∃r:Int,M [.v (.int s),.v (.int k)]=some (.v (.int r))/\0<=r/\r<998244353)(hk:∀k∈ks,okW k)(J:0<ks.length)(I:N<=7):∀(f:Nat) (kk:List Str),(∀k∈kk,okW k)->(kk.length:Int)<=N->N-kk.length<f->∃out:List Str,
  d9 gtC (gtK M) f (gtF (ks.map .str) TS CS s N (some (.own (.lst (kk.map .str)) none)) x5 none none none none none none none)=some (.nx (gtF (ks.map .str) TS CS s N (some (.own (.lst (out.map .str)) none)) x5 none none none none none none none))/\(out.length:Int)=N/\∀k∈out,okW k:=by
 intro f;induction f with
 |zero=>intro kk _ C z;omega
 |succ f ih=>
  intro kk b C z;have c:(kk.map D.str).length=kk.length:=Yb ..;have j:(ks.map D.str).length=ks.length:=Yb ..;by_cases h:(kk.length:Int)<N
  ·obtain⟨r,p,H,_⟩:=y (kk.length:Int) (by omega);have m:=aI r (ks.length:Int) (by omega);obtain⟨x,o,E⟩:=gI (l:=ks) D.str (i:=r%(ks.length:Int)) (YS _ (by omega)) (YJ _ (by omega));obtain⟨out,e,q⟩:=ih (kk++[x]) (fun k a=>by
    rcases Zb.mp a with a|a
    ·exact b k a
    ·rw[Zc.mp a];exact hk x (YB o)) (by rw[Yn,YN];omega) (by rw[Yn,YN];omega)
   refine⟨out,?_,q⟩;have u:kk.length<16777216:=by omega
   rw[YT]at e;have w:gtK M (gtF (ks.map .str) TS CS s N (some (.own (.lst (kk.map .str)) none)) x5 none none none none none none none)=some (.nx (gtF (ks.map .str) TS CS s N (some (.own (.lst (kk.map .str++[.str x])) none)) x5 none none none none none none none)):=by generalize kk.map D.str=A at *;generalize ks.map D.str=B at *;simp -implicitDefEqProofs [gtK,gtF,c,j,u,p,m,ix1,E]
   have g:gtC (gtF (ks.map .str) TS CS s N (some (.own (.lst (kk.map .str)) none)) x5 none none none none none none none)=some true:=by generalize kk.map D.str=A at *;simp -implicitDefEqProofs [gtC,gtF,c,h]
   unfold d9;rw[g];simp only[w];exact e
  ·refine⟨kk,?_,by omega,b⟩;have g:gtC (gtF (ks.map .str) TS CS s N (some (.own (.lst (kk.map .str)) none)) x5 none none none none none none none)=some false:=by generalize kk.map D.str=A at *;simp -implicitDefEqProofs [gtC,gtF,c,h]
   unfold d9;rw[g]
abbrev gtQ:DF->Option Bool:=(dN (asB (d2 ltd (d1 aG (ak 5)) (cI 12))) (dN (asB (d2 gtI (aa 3) (cI 1))) (asB (d2 gtI (d2 aW (aa 7) (cI 3)) (cI 0)))))
abbrev xJ:DF->Option Bool:=(dN (asB (d2 eqD (d2 aW (d2 bh (aa 7) (cI 300)) (cI 4)) (cI 0))) (asB (d2 gtI (d1 aG (gf 0 1)) (cI 0))))
abbrev gtL:DF->Option RES:=(cr 5 (d1 tE (cI 1)) (asT (ae (getV 8) (ae (getV 9) (ae (d2 ixD (d2 ixD (gf 0 1) (cI 0)) (cI 2)) (ae (d2 ixD (d2 ixD (gf 0 1) (cI 0)) (cI 3)) aC))))))
abbrev gtB(M K:Dm):DF->Option RES:=(ap (aF 7 (am M (aB 6 (aV (cI 9) nA))))
  (dIf gtQ (ap (aF 8 (d2 aW (d2 bh (aa 7) (cI 3)) (aa 3)))
  (ap (aF 9 (d2 aW (d2 bb (d2 bb (aa 8) (cI 1)) (d2 aW (d2 bh (aa 7) (cI 30)) (d2 ff (aa 3) (cI 1)))) (aa 3)))
  (ap (eD 5 (asT (ae (getV 8) (ae (getV 9) (ae (am K (aB 6 (aB 2 nA))) (ae (d2 eqD (d2 aW (d2 bh (aa 7) (cI 7)) (cI 3)) (cI 0)) aC))))))
  (dIf xJ gtL dNx)))) dNx))
def A9(M Kd:Dm)(K CS:List D)(f:List T4)(s N c r k n0:Int)(ts:List T4)(x4 x7 x8 x9:Option DV)(hn:1<=N/\N<=7)(hl:ts.length<=12)(P:∀t∈ts,okT N t)(h0:∀t∈f,okT n0 t)(hr:0<=r)
  (hM:M [.v (.int c),.v (.int 9)]=some (.v (.int r))) (hK:Kd [.v (.int c),.v (.int s)]=some (.v (.int k))) (hk:0<=k/\k<1000000000000000000000000000000) :
  ∃(l:List T4) (y7 y8 y9:Option DV),gtB M Kd (gtF K (f.map dT4) CS s N x4 (some (.own (.lst (ts.map dT4)) none)) (some (.v (.int c))) x7 x8 x9 none none none)=some (.nx (gtF K (f.map dT4) CS s N x4 (some (.own (.lst (l.map dT4)) none)) (some (.v (.int c))) y7 y8 y9 none none none))/\l.length<=12/\∀t∈l,okT N t:=by
 have J:=fun x=>aI x 3 (by decide)
 have m:(ts.map dT4).length=ts.length:=Yb ..;have s1:∀G,(ap (aF 7 (am M (aB 6 (aV (cI 9) nA)))) G) (gtF K (f.map dT4) CS s N x4 (some (.own (.lst (ts.map dT4)) none)) (some (.v (.int c))) x7 x8 x9 none none none)=G (gtF K (f.map dT4) CS s N x4 (some (.own (.lst (ts.map dT4)) none)) (some (.v (.int c))) (some (.v (.int r))) x8 x9 none none none):=by intro G;generalize ts.map dT4=T,f.map dT4=T0 at *;simp -implicitDefEqProofs [gtF,hM]
 unfold gtB;rw[s1];by_cases hq:ts.length<12/\1<N/\0<r%3
 ·obtain⟨l12,n1,r3⟩:=hq;have w:(ts.length:Int)<12:=by omega
  have U:gtQ (gtF K (f.map dT4) CS s N x4 (some (.own (.lst (ts.map dT4)) none)) (some (.v (.int c))) (some (.v (.int r))) x8 x9 none none none)=some true:=by generalize ts.map dT4=T at *;generalize f.map dT4=T0 at *;simp -implicitDefEqProofs [gtQ,gtF,m,w,J,n1,r3]
  have d3:=bF r 3 (by decide);have Y:=bF r 30 (by decide);have d7:=bF r 7 (by decide);have i:=bF r 300 (by decide);have mn:=fun x=>aI x N (by omega)
  have H:=fun x=>aI x (N-1) (by omega)
  have I:=fun x=>aI x 4 (by decide)
  generalize X:r/3%N=a;generalize C:(a+1+r/30%(N-1))%N=b;have a0:0<=a:=by rw[<-X];exact YS _ (by omega)
  have a1:a<N:=by rw[<-X];exact YJ _ (by omega)
  have b0:0<=b:=by rw[<-C];exact YS _ (by omega)
  have b1:b<N:=by rw[<-C];exact YJ _ (by omega)
  have g0:0<=r/30%(N-1):=YS _ (by omega);have g1:r/30%(N-1)<N-1:=YJ _ (by omega);have ab:a≠b:=by
   generalize r/30%(N-1)=g at *;by_cases h:a+1+g<N
   ·rw[XQ (by omega) h]at C;omega
   ·have:(a+1+g)%N=a+1+g-N:=by rw[<-Int.sub_emod_right (a+1+g) N,XQ (by omega) (by omega)]
    omega
  have ot:okT N (a,b,k,decide (r/7%3=0)):=⟨a0,a1,b0,b1,ab,hk⟩
  have A:ts.length<16777216:=by omega
  have s2:∀G,(ap (aF 8 (d2 aW (d2 bh (aa 7) (cI 3)) (aa 3)))
  (ap (aF 9 (d2 aW (d2 bb (d2 bb (aa 8) (cI 1)) (d2 aW (d2 bh (aa 7) (cI 30)) (d2 ff (aa 3) (cI 1)))) (aa 3)))
  (ap (eD 5 (asT (ae (getV 8) (ae (getV 9) (ae (am Kd (aB 6 (aB 2 nA))) (ae (d2 eqD (d2 aW (d2 bh (aa 7) (cI 7)) (cI 3)) (cI 0)) aC))))))
  G))) (gtF K (f.map dT4) CS s N x4 (some (.own (.lst (ts.map dT4)) none)) (some (.v (.int c))) (some (.v (.int r))) x8 x9 none none none)=G (gtF K (f.map dT4) CS s N x4 (some (.own (.lst (ts.map dT4++[dT4 (a,b,k,decide (r/7%3=0))])) none)) (some (.v (.int c))) (some (.v (.int r))) (some (.v (.int a))) (some (.v (.int b))) none none none):=by intro G;have e:dT4 (a,b,k,decide (r/7%3=0))=.tup [.int a,.int b,.int k,.bl (decide (r/7%3=0))]:=rfl;rw[e];generalize ts.map dT4=T at *;generalize f.map dT4=T0 at *;simp -implicitDefEqProofs [d3,Y,d7,mn,H,J,X,C,hK,A,m,gtF]
  rw[dw,U,Ya,Yh rfl,s2];by_cases B:r/300%4=0/\0<f.length
  ·have lz:(f.map dT4).length=f.length:=Yb ..;have L:(0:Int)<(f.length:Int):=by omega
   obtain⟨t0,cc,ez⟩:∃t0 cc,f=t0::cc:=by
    cases f with
    |nil=>exact absurd B.2 (Zd _)
    |cons x y=>exact⟨x,y,rfl⟩
   have E:=h0 t0 (by rw[ez];exact Yf);have i0:ixD (.lst (f.map dT4)) (.int 0)=some (dT4 t0):=by rw[ez];exact jP (j:=0) rfl
   have i2:ixD (dT4 t0) (.int 2)=some (.int t0.2.2.1):=rfl;have i3:ixD (dT4 t0) (.int 3)=some (.bl t0.2.2.2):=rfl;have S:ixN (ts.length+1) (-1)=some ts.length:=by exact yS _
   refine⟨ts++[(a,b,t0.2.2.1,t0.2.2.2)],some (.v (.int r)),some (.v (.int a)),some (.v (.int b)),?_,by simp;omega,?_⟩
   ·have z:(ts.map dT4++[dT4 (a,b,k,decide (r/7%3=0))]).set ts.length (.tup [.int a,.int b,.int t0.2.2.1,.bl t0.2.2.2])=(ts++[(a,b,t0.2.2.1,t0.2.2.2)]).map dT4:=by rw[YT,<-m,List.set_append_right _ _ (Ym _),Nat.sub_self];rfl
    rw[<-z];have R:(ts.map dT4++[dT4 (a,b,k,decide (r/7%3=0))]).length=ts.length+1:=by rw[Yn,m];rfl
    generalize ts.map dT4++[dT4 (a,b,k,decide (r/7%3=0))]=T,f.map dT4=T0,dT4 t0=Z at *;simp -implicitDefEqProofs [xJ,gtL,gtF,i,I,B.1,lz,L,B.2,fw,i0,i2,i3,tE,R,S]
   ·intro u hu;rcases Zb.mp hu with hu|hu
    ·exact P u hu
    ·rw[Zc.mp hu];exact⟨a0,a1,b0,b1,ab,E.2.2.2.2.2⟩
  ·have lz:(f.map dT4).length=f.length:=Yb ..;refine⟨ts++[(a,b,k,decide (r/7%3=0))],some (.v (.int r)),some (.v (.int a)),some (.v (.int b)),?_,by simp;omega,?_⟩
   ·rw[YT];show dIf xJ gtL dNx (gtF K (f.map dT4) CS s N x4 (some (.own (.lst (ts.map dT4++[dT4 (a,b,k,decide (r/7%3=0))])) none)) (some (.v (.int c))) (some (.v (.int r))) (some (.v (.int a))) (some (.v (.int b))) none none none)=some (.nx (gtF K (f.map dT4) CS s N x4 (some (.own (.lst (ts.map dT4++[dT4 (a,b,k,decide (r/7%3=0))])) none)) (some (.v (.int c))) (some (.v (.int r))) (some (.v (.int a))) (some (.v (.int b))) none none none));generalize ts.map dT4++[dT4 (a,b,k,decide (r/7%3=0))]=T,hT0:f.map dT4=T0 at *;by_cases O:r/300%4=0
    ·have:f=[]:=Zx.mp (by have:¬0<f.length:=fun q=>B ⟨O,q⟩;omega);subst this;subst hT0;simp -implicitDefEqProofs [xJ,gtF,i,I,O]
    ·simp -implicitDefEqProofs [xJ,gtF,i,I,O]
   ·intro u hu;rcases Zb.mp hu with hu|hu
    ·exact P u hu
    ·rw[Zc.mp hu];exact ot
 ·refine⟨ts,some (.v (.int r)),x8,x9,?_,hl,P⟩;have U:gtQ (gtF K (f.map dT4) CS s N x4 (some (.own (.lst (ts.map dT4)) none)) (some (.v (.int c))) (some (.v (.int r))) x8 x9 none none none)=some false:=by
   have Q:(ts.length:Int)<12->1<N->¬0<r%3:=fun o p p3=>hq ⟨by omega,p,p3⟩
   generalize ts.map dT4=T,f.map dT4=T0 at *;by_cases o:(ts.length:Int)<12
   ·by_cases p:1<N
    ·have:=Q o p;simp -implicitDefEqProofs [gtQ,gtF,m,o,J,p,this]
    ·simp -implicitDefEqProofs [gtQ,gtF,m,o,p]
   ·simp -implicitDefEqProofs [gtQ,gtF,m,o]
  rw[dw,U];rfl
def odl(q:List D):OD.d (.lst q)=.lst q:=rfl
def bx(b:List Int)(x:Int):Int:=(b[x.toNat]?).getD 0
def eJ{b:List Int}{x:Int}(h:0<=x/\x<(b.length:Int)):b[x.toNat]?=some (bx b x):=by have a:b[x.toNat]?=some (b[x.toNat]'(by omega)):=Yi (by omega);unfold bx;rw[a];rfl
def gl{b:List Int}{x:Int}(h:0<=x/\x<(b.length:Int)):ixD (.lst (b.map .int)) (.int x)=some (.int (bx b x)):=by rw[ix1,yv h.1 (by rw[Yb];exact h.2),Yt,eJ h];rfl
def rB{r:List Int}{x:Int}(h:x∈r):f8 (.lst (r.map .int)) (.int x)=some (.int (r.idxOf x:Int)):=by
 have ok:((r.map D.int).all (okN 29)&&okN 30 (.int x))=true:=by have:(r.map D.int).all (okN 29)=true:=sM r;rw[this];rfl
 show(if((r.map D.int).all (okN 29)&&okN 30 (.int x))=true then(iX (.int x) (r.map .int)).map (fun(j:Nat)=>D.int (j:Int))else none)=_;rw[Yh ok,sG x r h];rfl
def bB(out:List Int)(t:T4):T4:=(bx out t.1,bx out t.2.1,t.2.2.1,t.2.2.2)
def Bu(j:1<=N)(p:out.Perm (aH N))(h:okS N ts):okS N (ts.map (bB out)):=by obtain⟨s,l,c⟩:=qU j p;refine⟨by rw[Yb];exact h.1,fun t i=>?_⟩;obtain⟨u,g,rfl⟩:=Yv.mp i;obtain⟨q,y,o,b1,w,k⟩:=h.2 u g;have f:=eJ (b:=out) (x:=u.1) ⟨q,by omega⟩;have e:=eJ (b:=out) (x:=u.2.1) ⟨o,by omega⟩;have a:=c _ (YB f);have m:=c _ (YB e);exact⟨a.1,a.2,m.1,m.2,vC l f e (by omega),k⟩
def zl(C:Addr)(cs:List Int)(ks:List Str)(ts:List T4)(s n N:Int)(hs:0<=s/\s<998244353)(hn:1<=n)(hN:n<=N/\N<=7)(hk:okK n ks)(ht:okS n ts) :
  ∃(ks2:List Str) (ts2:List T4) (K:List Int),fS C [.v (.tup [.lst (ks.map .str),.lst (ts.map dT4)]),.v (.lst (cs.map .int)),.v (.int s),.v (.int N)]=some (.v (.tup [.lst (ks2.map .str),.lst (ts2.map dT4),.lst (K.map .int)]))/\okK N ks2/\okS N ts2/\(K.length:Int)=n:=by
 have H:1<=N/\N<=7:=⟨by omega,hN.2⟩
 obtain⟨o,L,p⟩:=vW C (s/5) N H;obtain⟨pl,pd,pm⟩:=qU H.1 p;have hM:=fX C;have hK:∀c,∃k:Int,b6 C [.v (.int c),.v (.int s)]=some (.v (.int k))/\0<=k/\k<1000000000000000000000000000000:=fun c=>mK C c s hs
 unfold fS l9;generalize bp C=M at hM ⊢;generalize b6 C=Kd at hK ⊢;generalize bY C=Sh at L ⊢;have hkl:=hk.1;obtain⟨f,e1,kl,ko⟩:=yC M s N ks (ts.map dT4) (cs.map .int) (some (.own (.lst (ts.map dT4)) none)) (hM s) hk.2 (by omega) hN.2 100 ks hk.2 (by omega) (by omega);obtain⟨z,e2,u,w,m,g,y,rfl,ul,uk⟩:=dY (st:=setV 6) (body:=gtB M Kd) (fun ρ=>∃(u:List T4) (x6 R Q P:Option DV),ρ=gtF (ks.map .str) (ts.map dT4) (cs.map .int) s N (some (.own (.lst (f.map .str)) none)) (some (.own (.lst (u.map dT4)) none)) x6 R Q P none none none/\u.length<=12/\∀t∈u,okT N t) (ds:=cs.map .int)
  (ρ:=gtF (ks.map .str) (ts.map dT4) (cs.map .int) s N (some (.own (.lst (f.map .str)) none)) (some (.own (.lst (ts.map dT4)) none)) none none none none none none none) ⟨ts,_,_,_,_,rfl,ht.1,fun t h=>by obtain⟨a,b,c,d,e⟩:=ht.2 t h;exact⟨a,by omega,c,by omega,e⟩⟩ (by
   rintro d hd _ ⟨u,x6,R,Q,P,rfl,hl,hk'⟩;obtain⟨c,_,rfl⟩:=Yv.mp hd;obtain⟨r,hr,r0,_⟩:=hM c 9 (by decide);obtain⟨k,hk2,k0⟩:=hK c;obtain⟨S,m,g,y,e,h1,h2⟩:=A9 M Kd (ks.map .str) (cs.map .int) ts s N c r k n u (some (.own (.lst (f.map .str)) none)) R Q P H hl hk' ht.2 r0 hr hk2 k0;exact⟨_,rfl,_,e,S,_,m,g,y,rfl,h1,h2⟩)
 have lkk:(f.map D.str).length=f.length:=Yb ..;have hg:=kM (st:=setV 0) (c:=aX) (e:=d2 ixD (aa 1) (d2 f8 (ak 2) (ak 0))) (ρ:=[none,some (.bor (.lst (f.map .str))),some (.v (.lst (o.map .int)))]) D.str okW ((aH N).map .int) (by
  intro d hd;obtain⟨i,hi,rfl⟩:=Yv.mp hd;have e:=rB (p.mem_iff.mpr hi);have hlt:o.idxOf i<o.length:=List.idxOf_lt_length_of_mem (p.mem_iff.mpr hi);obtain⟨x,hx,ex⟩:=gI (l:=f) D.str (i:=(o.idxOf i:Int)) (YL _) (by omega);refine⟨[some (.v (.int i)),some (.bor (.lst (f.map .str))),some (.v (.lst (o.map .int)))],rfl,rfl,x,?_,ko x (YB hx)⟩;have hf:∀q,OD.flat (.lst q)=true:=fun _=>rfl
  generalize (o.idxOf i:Int)=j,f.map D.str=A,o.map D.int=B at *;simp -implicitDefEqProofs [e,ix1,ex,odl,hf])
 obtain⟨ks2,c2,l2,o2⟩:=hg;have c1:cD (b5 [0,1,2,3]) aX (asT (ae (d2 ixD (aa 4) (aa 0)) (ae (d2 ixD (aa 4) (aa 1)) (ae (getV 2) (ae (getV 3) aC))))) [none,none,none,none,some (.v (.lst (o.map .int)))] (u.map dT4)=some ((u.map (bB o)).map dT4):=by
  rw[YR];refine bN dT4 _ u fun t ht'=>⟨[some (.v (.int t.1)),some (.v (.int t.2.1)),some (.v (.int t.2.2.1)),some (.v (.bl t.2.2.2)),some (.v (.lst (o.map .int)))],rfl,rfl,?_⟩
  obtain⟨a0,a1,b0,b1,_⟩:=uk t ht';have e1:=gl (b:=o) (x:=t.1) ⟨a0,by omega⟩;have e2:=gl (b:=o) (x:=t.2.1) ⟨b0,by omega⟩;show _=some (D.tup [.int (bx o t.1),.int (bx o t.2.1),.int t.2.2.1,.bl t.2.2.2]);generalize o.map D.int=B at *;simp -implicitDefEqProofs [e1,e2]
 have hok:=Bu H.1 p ⟨ul,uk⟩;refine⟨ks2,u.map (bB o),o.take ks.length,?_,⟨by rw[l2,Yb,bq];omega,o2⟩,hok,by rw[YF];omega⟩;rw[Av,show aP 13 4 [.v (.tup [.lst (ks.map .str),.lst (ts.map dT4)]),.v (.lst (cs.map .int)),.v (.int s),.v (.int N)]=gtF (ks.map .str) (ts.map dT4) (cs.map .int) s N none none none none none none none none none from rfl];have s4:bt 4 (asL (eh (gf 0 0))) (gtF (ks.map .str) (ts.map dT4) (cs.map .int) s N none none none none none none none none none)=some (.nx (gtF (ks.map .str) (ts.map dT4) (cs.map .int) s N (some (.own (.lst (ks.map .str)) none)) none none none none none none none none)):=rfl;have s5:bt 5 (asL (eh (gf 0 1))) (gtF (ks.map .str) (ts.map dT4) (cs.map .int) s N (some (.own (.lst (ks.map .str)) none)) none none none none none none none none)=some (.nx (gtF (ks.map .str) (ts.map dT4) (cs.map .int) s N (some (.own (.lst (ks.map .str)) none)) (some (.own (.lst (ts.map dT4)) none)) none none none none none none none)):=rfl;rw[aj s4,aj s5,aj e1,aj (bC (ds:=cs.map .int) rfl e2)];have d5:=bF s 5 (by decide);have I:((f.map D.str).length:Int)=N:=by rw[lkk];exact kl
 have Y:aF 10 (am Sh (aV (d2 bh (aa 2) (cI 5)) (aV (d1 aG (ak 4)) nA))) (gtF (ks.map .str) (ts.map dT4) (cs.map .int) s N (some (.own (.lst (f.map .str)) none)) (some (.own (.lst (u.map dT4)) none)) w m g y none none none)=some (.nx (gtF (ks.map .str) (ts.map dT4) (cs.map .int) s N (some (.own (.lst (f.map .str)) none)) (some (.own (.lst (u.map dT4)) none)) w m g y (some (.v (.lst (o.map .int)))) none none)):=by generalize f.map D.str=A at *;generalize u.map dT4=U,o.map D.int=B at *;simp -implicitDefEqProofs [gtF,d5,I,L,odl]
 have lu:(u.map dT4).length<=16777216:=by rw[Yb];omega
 have lr:((aH N).map D.int).length<=16777216:=by rw[Yb,bq];omega
 have X:kS 5 (aF 11 (asO (asL (aw 4 [10] (bK (getV 5)) (b5 [0,1,2,3]) aX (asT (ae (d2 ixD (aa 4) (aa 0)) (ae (d2 ixD (aa 4) (aa 1)) (ae (getV 2) (ae (getV 3) aC))))))))) (gtF (ks.map .str) (ts.map dT4) (cs.map .int) s N (some (.own (.lst (f.map .str)) none)) (some (.own (.lst (u.map dT4)) none)) w m g y (some (.v (.lst (o.map .int)))) none none)=some (.nx (gtF (ks.map .str) (ts.map dT4) (cs.map .int) s N (some (.own (.lst (f.map .str)) none)) (some (.v (.lst (u.map dT4)))) w m g y (some (.v (.lst (o.map .int)))) (some (.v (.lst ((u.map (bB o)).map dT4)))) none)):=by
  generalize (u.map (bB o)).map dT4=V,(asT (ae (d2 ixD (aa 4) (aa 0)) (ae (d2 ixD (aa 4) (aa 1)) (ae (getV 2) (ae (getV 3) aC)))))=E,u.map dT4=U,o.map D.int=B,f.map D.str=A at *;show aF 11 (asO (asL (aw 4 [10] (bK (getV 5)) (b5 [0,1,2,3]) aX E))) (gtF (ks.map .str) (ts.map dT4) (cs.map .int) s N (some (.own (.lst A) none)) (some (.v (.lst U))) w m g y (some (.v (.lst B))) none none)=_;have J:aw 4 [10] (bK (getV 5)) (b5 [0,1,2,3]) aX E (gtF (ks.map .str) (ts.map dT4) (cs.map .int) s N (some (.own (.lst A) none)) (some (.v (.lst U))) w m g y (some (.v (.lst B))) none none)=some V:=by rw[bc,show bK (getV 5) (gtF (ks.map .str) (ts.map dT4) (cs.map .int) s N (some (.own (.lst A) none)) (some (.v (.lst U))) w m g y (some (.v (.lst B))) none none)=some U from rfl,Ya,Yh lu];exact c1
  rw[gH,da,cz,J];rfl
 have T:aF 12 (asO (asL (aw 1 [4,10] (bJ (d1 aG (ak 4))) (setV 0) aX (d2 ixD (aa 1) (d2 f8 (ak 2) (ak 0)))))) (gtF (ks.map .str) (ts.map dT4) (cs.map .int) s N (some (.own (.lst (f.map .str)) none)) (some (.v (.lst (u.map dT4)))) w m g y (some (.v (.lst (o.map .int)))) (some (.v (.lst ((u.map (bB o)).map dT4)))) none)=some (.nx (gtF (ks.map .str) (ts.map dT4) (cs.map .int) s N (some (.own (.lst (f.map .str)) none)) (some (.v (.lst (u.map dT4)))) w m g y (some (.v (.lst (o.map .int)))) (some (.v (.lst ((u.map (bB o)).map dT4)))) (some (.v (.lst (ks2.map .str)))))):=by
  generalize (u.map (bB o)).map dT4=V,(d2 ixD (aa 1) (d2 f8 (ak 2) (ak 0)))=E,u.map dT4=U,o.map D.int=B,f.map D.str=A at *;have hr:bJ (d1 aG (ak 4)) (gtF (ks.map .str) (ts.map dT4) (cs.map .int) s N (some (.own (.lst A) none)) (some (.v (.lst U))) w m g y (some (.v (.lst B))) (some (.v (.lst V))) none)=some ((aH N).map .int):=dq (by
   show some (D.int ((A.length:Nat):Int))=_;rw[I]) ⟨by omega,by omega⟩
  have J:aw 1 [4,10] (bJ (d1 aG (ak 4))) (setV 0) aX E (gtF (ks.map .str) (ts.map dT4) (cs.map .int) s N (some (.own (.lst A) none)) (some (.v (.lst U))) w m g y (some (.v (.lst B))) (some (.v (.lst V))) none)=some (ks2.map .str):=by rw[bc,hr,Ya,Yh lr];exact c2
  rw[gH,da,cz,J];rfl
 rw[aj Y,aj X,aj T];have O:cE (o.map D.int) none (some (ks.length:Int))=(o.take ks.length).map .int:=by rw[eU,iL _ (YL _),Zh]
 have Z:((ks.map D.str).length:Int)=(ks.length:Int):=by rw[Yb]
 have hsl:asO (asL (slL (aa 10) bNo (bI (d1 aG (gf 0 0))))) (gtF (ks.map .str) (ts.map dT4) (cs.map .int) s N (some (.own (.lst (f.map .str)) none)) (some (.v (.lst (u.map dT4)))) w m g y (some (.v (.lst (o.map .int)))) (some (.v (.lst ((u.map (bB o)).map dT4)))) (some (.v (.lst (ks2.map .str)))))=some (.lst ((o.take ks.length).map .int)):=by rw[<-O,<-Z];rfl
 generalize asO (asL (slL (aa 10) bNo (bI (d1 aG (gf 0 0)))))=SL,(u.map (bB o)).map dT4=V,u.map dT4=U,(o.take ks.length).map D.int=W,o.map D.int=B,f.map D.str=A,ks2.map D.str=K2 at *;simp -implicitDefEqProofs [gtF,hsl]
def yw{l:Nat}{i:Int}(b:-1<=i)(h1:i<(l:Int))(a:0<l):∃j,ixN l i=some j/\j<l:=by
 unfold ixN;by_cases h:0<=i
 ·rw[Yh h,Yh h1];exact⟨_,rfl,by omega⟩
 ·rw[Yl h,Yh (by omega)];exact⟨_,rfl,by omega⟩
def tK{l:List Int}{i:Int}(h:ixN l.length i=some j)(a:j<l.length):atI (l.map D.int) i=some (.int l[j]):=by unfold atI;rw[Yb,h,Ya,Yt,Yi a];rfl
abbrev hdF(W R:List D)(s N a h:Int):DF:=[some (.v (.lst W)),some (.v (.int s)),some (.v (.int N)),some (.own (.lst R) none),some (.v (.int a)),some (.v (.int h))]
def dJ{c k:Int}{a b:Dw}(h:ak i ρ=some (.int c)):dIf (asB (d2 eqD (ak i) (fun _=>some (.int k)))) a b ρ=if c=k then a ρ else b ρ:=by
 rw[dw];have e:asB (d2 eqD (ak i) (fun _=>some (.int k))) ρ=some (decide (c=k)):=by rw[jg,vJ,h];show(match eqD (.int c) (.int k)with|some (.bl b)=>some b|_=>none)=_;rw[show eqD (.int c) (.int k)=some (.bl (eqd (.int c) (.int k)))from rfl,gx]
 rw[e,Ya];by_cases z:c=k
 ·rw[YM z,Yh rfl,Yh z]
 ·rw[YE z,Yl Yk,Yl z]
def FH(a q:Int×Int):eqd (dP a) (dP q)=decide (a=q):=by
 rw[ZQ,df (dP a) (dP q) rfl,Yu];constructor
 ·intro h;exact Zn unP h
 ·rintro rfl;rfl
def vY(us:List (Int×Int))(q:Int×Int):mB (.tup (us.map dP)) (dP q)=some (.int ((us.count q:Nat):Int)):=by
 have ok:((us.map dP).all (okN 29)&&okN 30 (dP q))=true:=by
  have:(us.map dP).all (okN 29)=true:=by rw[Yr];intro y b;obtain⟨z,_,rfl⟩:=Yv.mp b;rfl
  rw[this];rfl
 show(if((us.map dP).all (okN 29)&&okN 30 (dP q))=true then some (D.int ((us.map dP).countP (fun d=>eqd d (dP q))))else none)=_;rw[Yh ok,List.countP_map];have e:(fun d=>eqd d (dP q)) ∘ dP=fun a=>a == q:=funext fun a=>by
  show eqd (dP a) (dP q)=(a == q)
  rw[FH];by_cases h:a=q
  ·subst h;simp
  ·rw[YE h,Zo.mpr h]
 rw[e];rfl
def kD{a:Type}(f:a->Bool)(l:List a):mX (.lst (l.map fun x=>.bl (f x)))=some (.bl (l.all f)):=by
 have b:(l.map fun x=>D.bl (f x)).all s_=true:=by rw[Yr];intro y h;obtain⟨z,_,rfl⟩:=Yv.mp h;rfl
 show(if(l.map fun x=>D.bl (f x)).all s_=true then some (D.bl ((l.map fun x=>D.bl (f x)).all trD))else none)=_;rw[Yh b,List.all_map];rfl
def bw(ps qs:List (Int×Int)):Bool:=ps.all fun q=>decide (ps.count q<=qs.count q)
def fL{ps:List (Int×Int)}:bw ps qs=true↔∀q∈ps,ps.count q<=qs.count q:=by unfold bw;rw[Yr];exact⟨fun h q a=>YI (h q a),fun h q a=>YM (h q a)⟩
def lZ{ps us vs:List (Int×Int)}(h1:us.Perm ps)(h2:vs.Perm qs):bw us vs=bw ps qs:=by rw[ZQ,fL,fL];exact⟨fun h q a=>by rw[<-h1.count_eq,<-h2.count_eq];exact h q (h1.mem_iff.mpr a),fun h q a=>by rw[h1.count_eq,h2.count_eq];exact h q (h1.mem_iff.mp a)⟩
def wg(C:Addr)(us vs:List (Int×Int))(m:us.length<=100):dH C [.v (.tup (us.map dP)),.v (.tup (vs.map dP))]=some (.v (.bl (bw us vs))):=by
 have h:iC 1 [1,0] [some (.v (.tup (us.map dP))),some (.v (.tup (vs.map dP)))]=[none,some (.v (.tup (vs.map dP))),some (.v (.tup (us.map dP)))]:=rfl;have j:cD (setV 0) aX (d2 geI (d2 mB (ak 1) (ak 0)) (d2 mB (ak 2) (ak 0))) [none,some (.v (.tup (vs.map dP))),some (.v (.tup (us.map dP)))] (us.map dP)=some (us.map fun q=>.bl (decide (us.count q<=vs.count q))):=by
  refine bN dP _ us fun q _=>⟨[some (.v (dP q)),some (.v (.tup (vs.map dP))),some (.v (.tup (us.map dP)))],rfl,rfl,?_⟩
  have i:=vY vs q;have f:=vY us q;have g:geI (.int ((vs.count q:Nat):Int)) (.int ((us.count q:Nat):Int))=some (.bl (decide (us.count q<=vs.count q))):=by show some (D.bl (decide (((us.count q:Nat):Int)<=((vs.count q:Nat):Int))))=_;simp
  generalize dP q=Q,us.map dP=U,vs.map dP=V,((us.count q:Nat):Int)=a,((vs.count q:Nat):Int)=b,decide (us.count q<=vs.count q)=w at *;simp -implicitDefEqProofs [i,f,g]
 have l:(us.map dP).length<=16777216:=by rw[Yb];omega
 have e:=kD (fun q=>decide (us.count q<=vs.count q)) us;unfold dH lN;generalize (d2 geI (d2 mB (ak 1) (ak 0)) (d2 mB (ak 2) (ak 0)))=E at *;have c:aw 1 [1,0] (jB (getV 0)) (setV 0) aX E [some (.v (.tup (us.map dP))),some (.v (.tup (vs.map dP)))]=some (us.map fun q=>.bl (decide (us.count q<=vs.count q))):=by rw[bc,show jB (getV 0) [some (.v (.tup (us.map dP))),some (.v (.tup (vs.map dP)))]=some (us.map dP)from rfl,Ya,Yh l,h,j]
 unfold bw;rw[o0];show dG (bu _ [some (.v (.tup (us.map dP))),some (.v (.tup (vs.map dP)))])=_;generalize (us.all fun q=>decide (us.count q<=vs.count q))=w,(us.map fun q=>D.bl (decide (us.count q<=vs.count q)))=L at *;simp -implicitDefEqProofs [c,odl,e]
def xb(C:Addr)(ps qs:List (Int×Int))(h:ps.length<=100):dH C [.v (srP ps),.v (srP qs)]=some (.v (.bl (bw ps qs))):=by obtain⟨u,g,p⟩:=cM dP unP (fun _=>rfl) (bZ (ps.map dP));obtain⟨a,e,b⟩:=cM dP unP (fun _=>rfl) (bZ (qs.map dP));have c:srP ps=.tup (u.map dP):=Zn D.tup g;have f:srP qs=.tup (a.map dP):=Zn D.tup e;rw[c,f,wg C u a (by rw[p.length_eq];exact h),lZ p b]
def vm(C:Addr)(i:Nat)(ks:List Str)(T J:D)(n:Int)(b:(ks.length:Int)=n)(ρ:DF)(h:ρ[i]?=some (some (.v (.ins C (wFs ks T J))))):bf C "size" (aM C) (br (bR i) g0) ρ=some (.int n):=by
 have c:aM C [.v (.ins C (wFs ks T J))]=some (.v (.int n)):=by have:=cT C ks T J;generalize wFs ks T J=F at this;simp[aM,gO,this,b]
 have a:br (bR i) g0 ρ=some [.v (.ins C (wFs ks T J))]:=by unfold br bR g0;rw[h];rfl
 unfold bf;rw[a,Ya,Yh (qD (qS ks T J) _),c];rfl
def CY(C:Addr)(i:Nat)(ks:List Str)(T:D)(kvs:List (List Key×D))(ts:List T4)(l:JOk kvs ts)(ρ:DF)(h:ρ[i]?=some (some (.v (.ins C (wFs ks T (.dT kvs))))))(f g:Dd)(a b:Int)(j:f ρ=some (.int a))(e:g ρ=some (.int b)):bf C "between" (cm C) (br (bR i) (aV f (aV g nA))) ρ=some (srP (aR a b ts)):=by
 have c:br (bR i) (aV f (aV g nA)) ρ=some [.v (.ins C (wFs ks T (.dT kvs))),.v (.int a),.v (.int b)]:=by unfold br bR aV;rw[h,j,e];rfl
 unfold bf;rw[c,Ya,Yh (qD (uU ks T (.dT kvs)) _),uv C ks T kvs ts a b l];rfl
def nW{n x:Int}(b:(ks.length:Int)=n)(h:0<=x/\x<n):ixD (.lst (ks.map .str)) (.int x)=some (.str (kAt ks x)):=by obtain⟨s,a,e⟩:=gI (l:=ks) D.str h.1 (by omega);rw[ix1,e];unfold kAt;rw[a];rfl
def pK{n x:Int}(b:okK n ks)(h:0<=x/\x<n):okW (kAt ks x):=by have e:=b.1;have a:ks[x.toNat]?=some (ks[x.toNat]'(by omega)):=Yi (by omega);unfold kAt;rw[a];exact b.2 _ (YB a)
def vF(h:okW x):okN 30 (.str x)=true:=by have:=zn (n:=1) (ks:=[x]) ⟨rfl,fun k a=>by rw[Zc.mp a];exact h⟩;exact(show(okN 29 (.str x)&&true)=true from this) |> fun z=>by rw[Bool.and_true]at z;exact z
def kEq(a b:Str):Bool:=eqd (.str a) (.str b)
def mD{a b:Str}:kEq a b=true↔a=b:=by unfold kEq;rw[df _ _ rfl];exact⟨fun h=>D.str.inj h,fun h=>by rw[h]⟩
def Ev(x:Int)(w:List Int):inD (.int x) (.lst (w.map .int))=some (.bl (w.any fun z=>decide (z=x))):=by
 have h:(okN 30 (.int x)&&(w.map D.int).all (okN 29))=true:=by have:(w.map D.int).all (okN 29)=true:=sM w;rw[this];rfl
 show(if(okN 30 (.int x)&&(w.map D.int).all (okN 29))=true then some (D.bl ((w.map D.int).any fun z=>eqd z (.int x)))else none)=_;rw[Yh h,List.any_map];have e:(fun z=>eqd z (D.int x)) ∘ D.int=fun z=>decide (z=x):=funext fun z=>gx z x
 rw[e]
def gY(b ks2:List Str)(a ts2:List T4)(w:List Int)(x:Int):Bool:=!(w.any fun z=>decide (z=x))&&(kEq (kAt ks2 x) (kAt b (w.length:Int))&&(aH (w.length:Int)).all fun k=>bw (aR k (w.length:Int) a) (aR (bx w k) x ts2))
abbrev lfF(b a:D)(w:List D)(x3 x4:Option DV):DF:=[some (.v b),some (.v a),some (.v (.lst w)),x3,x4]
abbrev lfE(C:Addr)(St B:Dm):DF->Option D:=(am St (aV (bf C "between" B (br (bR 1) (aV (getV 0) (aV (getV 2) nA)))) (aV (bf C "between" B (br (bR 3) (aV (d2 ixD (aa 4) (aa 0)) (aV (getV 5) nA)))) nA)))
def Cr(C:Addr)(i ks2:List Str)(e ts2:List T4)(T1 T2:D)(kv1 kv2:List (List Key×D))(n1 n2:Int)(c:List Int)(x:Int)(H:okK n1 i)(E:okK n2 ks2)(hs1:e.length<=12)(J1:JOk kv1 e)(J2:JOk kv2 ts2)(hw:(c.length:Int)<n1)(h7:c.length<=7)(hx:0<=x/\x<n2) :
  eS C [.v (.ins C (wFs i T1 (.dT kv1))),.v (.ins C (wFs ks2 T2 (.dT kv2))),.v (.lst ((c++[x]).map .int))]=some (.v (.bl (gY i ks2 e ts2 c x))):=by
 have o:=xb C;have q:=fun K h f g a b=>CY C 1 i T1 kv1 e J1 K h f g a b
 have p:=fun K h f g a b=>CY C 3 ks2 T2 kv2 ts2 J2 K h f g a b
 have f1:=cT C i T1 (.dT kv1);have f2:=cT C ks2 T2 (.dT kv2);unfold eS lO;generalize dH C=St at o ⊢;generalize cm C=B at q p ⊢;generalize wFs i T1 (.dT kv1)=F1,wFs ks2 T2 (.dT kv2)=l at *;have s:(((c++[x]).map D.int).length:Int)=(c.length:Int)+1:=by rw[Yb,Yn];rfl
 have I:ixD (.lst ((c++[x]).map .int)) (.int (c.length:Int))=some (.int x):=by rw[ix1];exact jP (by rw[Yt,YW (Ym _),Nat.sub_self];rfl)
 have u:cE ((c++[x]).map D.int) none (some (c.length:Int))=c.map .int:=by rw[eU,iL _ (YL _),Zh,List.take_left]
 have O:=Ev x c;have Z:=nW H.1 (x:=(c.length:Int)) ⟨YL _,hw⟩;have X:=nW E.1 hx;have y:=kX (vF (pK E hx)) (vF (pK H (x:=(c.length:Int)) ⟨YL _,hw⟩));have J:cD (setV 0) aX (lfE C St B) [none,some (.v (.ins C F1)),some (.v (.int (c.length:Int))),some (.v (.ins C l)),some (.v (.lst ((c++[x]).map .int))),some (.v (.int x))] ((aH (c.length:Int)).map .int)=some ((aH (c.length:Int)).map fun k=>.bl (bw (aR k (c.length:Int) e) (aR (bx c k) x ts2))):=by
  refine bN D.int _ (aH (c.length:Int)) fun k hk=>⟨[some (.v (.int k)),some (.v (.ins C F1)),some (.v (.int (c.length:Int))),some (.v (.ins C l)),some (.v (.lst ((c++[x]).map .int))),some (.v (.int x))],rfl,rfl,?_⟩
  obtain⟨k0,Y⟩:=bT.mp hk;have e1:=q [some (.v (.int k)),some (.v (.ins C F1)),some (.v (.int (c.length:Int))),some (.v (.ins C l)),some (.v (.lst ((c++[x]).map .int))),some (.v (.int x))] rfl (getV 0) (getV 2) k (c.length:Int) rfl rfl;have N:ixD (.lst ((c++[x]).map .int)) (.int k)=some (.int (bx c k)):=by
   obtain⟨j,rfl⟩:=Zl k0;have T:j<c.length:=by omega
   rw[ix1];refine jP ?_;rw[Yt,Zg T];unfold bx;rw[Zh,Yi T];rfl
  have e2:=p [some (.v (.int k)),some (.v (.ins C F1)),some (.v (.int (c.length:Int))),some (.v (.ins C l)),some (.v (.lst ((c++[x]).map .int))),some (.v (.int x))] rfl (d2 ixD (aa 4) (aa 0)) (getV 5) (bx c k) x N rfl;have e3:=o (aR k (c.length:Int) e) (aR (bx c k) x ts2) (by have:=ij k (c.length:Int) e;omega);show am St _ _=_;generalize bf C "between" B (br (bR 1) (aV (getV 0) (aV (getV 2) nA)))=B1,bf C "between" B (br (bR 3) (aV (d2 ixD (aa 4) (aa 0)) (aV (getV 5) nA)))=B2,srP (aR k (c.length:Int) e)=V1,srP (aR (bx c k) x ts2)=V2,bw (aR k (c.length:Int) e) (aR (bx c k) x ts2)=w,(c++[x]).map D.int=W at *;generalize (c.length:Int)=m at *;clear q p o;simp -implicitDefEqProofs [e1,e2,e3]
 have ha:=kD (fun k=>bw (aR k (c.length:Int) e) (aR (bx c k) x ts2)) (aH (c.length:Int));have U:((aH (c.length:Int)).map D.int).length<=16777216:=by rw[Yb,bq];omega
 rw[j6,show aP 5 3 [.v (.ins C F1),.v (.ins C l),.v (.lst ((c++[x]).map .int))]=lfF (.ins C F1) (.ins C l) ((c++[x]).map .int) none none from rfl];have R:aF 3 (d2 ff (d1 aG (ak 2)) (cI 1)) (lfF (.ins C F1) (.ins C l) ((c++[x]).map .int) none none)=some (.nx (lfF (.ins C F1) (.ins C l) ((c++[x]).map .int) (some (.v (.int (c.length:Int)))) none)):=by generalize (c++[x]).map D.int=W at *;generalize (c.length:Int)=m at *;clear q p o J;simp -implicitDefEqProofs [lfF,s]
 have Q:aF 4 (d2 ixD (aa 2) (aa 3)) (lfF (.ins C F1) (.ins C l) ((c++[x]).map .int) (some (.v (.int (c.length:Int)))) none)=some (.nx (lfF (.ins C F1) (.ins C l) ((c++[x]).map .int) (some (.v (.int (c.length:Int)))) (some (.v (.int x))))):=by generalize (c++[x]).map D.int=W at *;generalize (c.length:Int)=m at *;clear q p o J;simp -implicitDefEqProofs [lfF,I]
 rw[aj R,aj Q];have M:asO (asL (slL (aa 2) bNo (bI (getV 3)))) (lfF (.ins C F1) (.ins C l) ((c++[x]).map .int) (some (.v (.int (c.length:Int)))) (some (.v (.int x))))=some (.lst (c.map .int)):=by rw[<-u];rfl
 have S:bJ (aa 3) (lfF (.ins C F1) (.ins C l) ((c++[x]).map .int) (some (.v (.int (c.length:Int)))) (some (.v (.int x))))=some ((aH (c.length:Int)).map .int):=dq rfl ⟨by omega,by omega⟩;have P:aw 1 [0,3,1,2,4] (bJ (aa 3)) (setV 0) aX (lfE C St B) (lfF (.ins C F1) (.ins C l) ((c++[x]).map .int) (some (.v (.int (c.length:Int)))) (some (.v (.int x))))=some ((aH (c.length:Int)).map fun k=>.bl (bw (aR k (c.length:Int) e) (aR (bx c k) x ts2))):=by rw[bc,S,Ya,Yh U];exact J
 show dG (ap (dIf (orT (asB (d2 inD (ak 4) (asO (asL (slL (aa 2) bNo (bI (getV 3))))))) (asB (d2 neD (d2 ixD (d1 (aL C "kinds") (aa 1)) (aa 4)) (d2 ixD (d1 (aL C "kinds") (aa 0)) (aa 3))))) (bu (fun _=>some (.bl false))) dNx)
  (bu (d1 mX (asO (asL (aw 1 [0,3,1,2,4] (bJ (aa 3)) (setV 0) aX (lfE C St B)))))) (lfF (.ins C F1) (.ins C l) ((c++[x]).map .int) (some (.v (.int (c.length:Int)))) (some (.v (.int x)))))=_
 unfold gY;have A:eqd (.str (kAt ks2 x)) (.str (kAt i (c.length:Int)))=kEq (kAt ks2 x) (kAt i (c.length:Int)):=rfl;rw[A]at y;generalize kEq (kAt ks2 x) (kAt i (c.length:Int))=w2,(c.any fun z=>decide (z=x))=w1,((aH (c.length:Int)).all fun k=>bw (aR k (c.length:Int) e) (aR (bx c k) x ts2))=w3,((aH (c.length:Int)).map fun k=>D.bl (bw (aR k (c.length:Int) e) (aR (bx c k) x ts2)))=L,aw 1 [0,3,1,2,4] (bJ (aa 3)) (setV 0) aX (lfE C St B)=CC,asO (asL (slL (aa 2) bNo (bI (getV 3))))=SL at *;generalize kAt i (c.length:Int)=V1,kAt ks2 x=V2,(c++[x]).map D.int=W,c.map D.int=W0 at *;generalize (c.length:Int)=m,i.map D.str=K1,ks2.map D.str=K2 at *;clear q p o J S R Q s I u A;cases w1<;>cases w2<;>simp -implicitDefEqProofs [lfF,M,O,f1,f2,Z,X,y,P,odl,ha]
def og(b ks2:List Str)(a ts2:List T4)(r:List Int)(n1 n2:Int):Bool:=decide ((r.length:Int)=n1)&&((r.all fun p=>decide (0<=p/\p<n2))&&(aH n1).all fun m=>gY b ks2 a ts2 (r.take m.toNat) (bx r m))
def zd(p n:Int)(fb fc:Dd)(ρ:DF)(b:fb ρ=some (.int p))(a:fc ρ=some (.int n)):chD leA ltI (cI 0) fb fc ρ=some (.bl (decide (0<=p/\p<n))):=by
 have c:leA (.int 0) (.int p)=some (.bl (decide (0<=p))):=rfl;have e:ltI (.int p) (.int n)=some (.bl (decide (p<n))):=rfl;unfold chD;rw[b];simp only[Ya,c];by_cases h:0<=p
 ·simp only[YM h,a,Ya,e];simp[h]
 ·simp[h]
abbrev iwE(C:Addr)(L:Dm):DF->Option D:=(am L (aB 1 (aB 2 (aV (asO (asL (slL (aa 3) bNo (bI (getV 0))))) nA))))
def Fh(C:Addr)(g ks2:List Str)(j ts2:List T4)(T1 T2:D)(kv1 kv2:List (List Key×D))(n1 n2:Int)(r:List Int)(hn1:1<=n1/\n1<=7)(B:okK n1 g)(A:okK n2 ks2)(P:j.length<=12)(J1:JOk kv1 j)(J2:JOk kv2 ts2)(hr:r.length<=8) :
  dO C [.v (.ins C (wFs g T1 (.dT kv1))),.v (.ins C (wFs ks2 T2 (.dT kv2))),.v (.lst (r.map .int))]=some (.v (.bl (og g ks2 j ts2 r n1 n2))):=by
 have o:=fun w0 x a b c=>Cr C g ks2 j ts2 T1 T2 kv1 kv2 n1 n2 w0 x B A P J1 J2 a b c
 have u:=fun N h=>vm C 0 g T1 (.dT kv1) n1 B.1 N h
 have s:=fun N h=>vm C 1 ks2 T2 (.dT kv2) n2 A.1 N h
 unfold dO rZ;generalize eS C=I at o ⊢;generalize aM C=S at u s ⊢;generalize wFs g T1 (.dT kv1)=F1,wFs ks2 T2 (.dT kv2)=l at *;have Y:((r.map D.int).length:Int)=(r.length:Int):=by rw[Yb]
 have l1:(r.map D.int).length<=16777216:=by rw[Yb];omega
 have y1:=u [some (.v (.ins C F1)),some (.v (.ins C l)),some (.v (.lst (r.map .int)))] rfl;have M:cD (setV 0) aX (chD leA ltI (cI 0) (ak 0) (bf C "size" S (br (bR 1) g0))) [none,some (.v (.ins C l))] (r.map .int)=some (r.map fun p=>.bl (decide (0<=p/\p<n2))):=by
  refine bN D.int _ r fun p _=>⟨[some (.v (.int p)),some (.v (.ins C l))],rfl,rfl,?_⟩
  exact zd p n2 _ _ _ rfl (s _ rfl)
 have a1:=kD (fun p=>decide (0<=p/\p<n2)) r;have H:aw 1 [1] (bA 2) (setV 0) aX (chD leA ltI (cI 0) (ak 0) (bf C "size" S (br (bR 1) g0))) [some (.v (.ins C F1)),some (.v (.ins C l)),some (.v (.lst (r.map .int)))]=some (r.map fun p=>.bl (decide (0<=p/\p<n2))):=by rw[bc,show bA 2 [some (.v (.ins C F1)),some (.v (.ins C l)),some (.v (.lst (r.map .int)))]=some (r.map .int)from rfl,Ya,Yh l1];exact M
 rw[j6,show aP 3 3 [.v (.ins C F1),.v (.ins C l),.v (.lst (r.map .int))]=[some (.v (.ins C F1)),some (.v (.ins C l)),some (.v (.lst (r.map .int)))]from rfl];have X:neD (.int (r.length:Int)) (.int n1)=some (.bl (!decide ((r.length:Int)=n1))):=by rw[kX rfl rfl,gx]
 have q:∀K J:Bool,decide ((r.length:Int)=n1)=K->(r.all fun p=>decide (0<=p/\p<n2))=J->(dIf (orT (asB (d2 neD (d1 aG (ak 2)) (bf C "size" S (br (bR 0) g0)))) (cw (asB (d1 mX (asO (asL (aw 1 [1] (bA 2) (setV 0) aX (chD leA ltI (cI 0) (ak 0) (bf C "size" S (br (bR 1) g0)))))))))) (bu (fun _=>some (.bl false))) dNx) [some (.v (.ins C F1)),some (.v (.ins C l)),some (.v (.lst (r.map .int)))]=some (if(K&&J)=true then .nx [some (.v (.ins C F1)),some (.v (.ins C l)),some (.v (.lst (r.map .int)))]else .rt (.v (.bl false)) [some (.v (.ins C F1)),some (.v (.ins C l)),some (.v (.lst (r.map .int)))]):=by intro K J T e2;rw[T]at X;rw[e2]at a1;generalize aw 1 [1] (bA 2) (setV 0) aX (chD leA ltI (cI 0) (ak 0) (bf C "size" S (br (bR 1) g0)))=CC,bf C "size" S (br (bR 0) g0)=S0,(r.map fun p=>D.bl (decide (0<=p/\p<n2)))=L,r.map D.int=R at *;clear o u s M;cases K<;>cases J<;>simp -implicitDefEqProofs [Y,y1,X,H,odl,a1]
 unfold og;by_cases hb:(r.length:Int)=n1/\(r.all fun p=>decide (0<=p/\p<n2))=true
 ·obtain⟨b1,b2⟩:=hb;have q:=q true true (YM b1) b2;rw[Ze,Yh rfl]at q;rw[aj q,YM b1,b2,Ze,Ze];have c2:cD (setV 0) aX (iwE C I) [none,some (.v (.ins C F1)),some (.v (.ins C l)),some (.v (.lst (r.map .int)))] (cq 1 n1.toNat)=some ((aH n1).map fun m=>.bl (gY g ks2 j ts2 (r.take m.toNat) (bx r m))):=by
   have er:cq 1 n1.toNat=(aH n1).map fun m=>D.int (m+1):=by unfold cq aH;rw[YR];refine Zn (fun f=>(List.range n1.toNat).map f) (funext fun i=>?_);show D.int (1+(i:Int))=D.int ((i:Int)+1);rw[Int.add_comm]
   rw[er];refine bN (fun m:Int=>D.int (m+1)) _ (aH n1) fun m hm=>⟨[some (.v (.int (m+1))),some (.v (.ins C F1)),some (.v (.ins C l)),some (.v (.lst (r.map .int)))],rfl,rfl,?_⟩
   obtain⟨m0,m1⟩:=bT.mp hm;have hml:m.toNat<r.length:=by omega
   have hg:=eJ (b:=r) (x:=m) ⟨m0,by omega⟩;have E:cE (r.map D.int) none (some (m+1))=(r.take m.toNat++[bx r m]).map .int:=by rw[eU,iL _ (by omega),show(m+1).toNat=m.toNat+1 by omega,nh hg]
   have Q:0<=bx r m/\bx r m<n2:=YI (Yr.mp b2 (bx r m) (YB hg));have Z:(r.take m.toNat).length=m.toNat:=by rw[YF];omega
   have e:=o (r.take m.toNat) (bx r m) (by rw[Z];omega) (by rw[Z];omega) Q;have O:asO (asL (slL (aa 3) bNo (bI (getV 0)))) [some (.v (.int (m+1))),some (.v (.ins C F1)),some (.v (.ins C l)),some (.v (.lst (r.map .int)))]=some (.lst ((r.take m.toNat++[bx r m]).map .int)):=by rw[<-E];rfl
   show am I _ _=_;generalize asO (asL (slL (aa 3) bNo (bI (getV 0))))=SL,(r.take m.toNat++[bx r m]).map D.int=W,gY g ks2 j ts2 (r.take m.toNat) (bx r m)=w,r.map D.int=R at *;clear o u s M q;simp -implicitDefEqProofs [O,e]
  have a2:=kD (fun m=>gY g ks2 j ts2 (r.take m.toNat) (bx r m)) (aH n1);have l2:(cq 1 n1.toNat).length<=16777216:=by unfold cq;rw[Yb,ZA];omega
  have y:mq (cI 1) (d2 bb (d1 aG (ak 2)) (cI 1)) [some (.v (.ins C F1)),some (.v (.ins C l)),some (.v (.lst (r.map .int)))]=some (cq 1 n1.toNat):=by
   have T:d2 bb (d1 aG (ak 2)) (cI 1) [some (.v (.ins C F1)),some (.v (.ins C l)),some (.v (.lst (r.map .int)))]=some (.int (n1+1)):=by show some (D.int (((r.map D.int).length:Int)+1))=_;rw[Y,b1]
   unfold mq;rw[T];simp only;rw[Yh ⟨by omega,by omega,by omega,by omega⟩,show(n1+1-1).toNat=n1.toNat by omega]
  have U:aw 1 [0,1,2] (mq (cI 1) (d2 bb (d1 aG (ak 2)) (cI 1))) (setV 0) aX (iwE C I) [some (.v (.ins C F1)),some (.v (.ins C l)),some (.v (.lst (r.map .int)))]=some ((aH n1).map fun m=>.bl (gY g ks2 j ts2 (r.take m.toNat) (bx r m))):=by rw[bc,y,Ya,Yh l2];exact c2
  show dG (bu (d1 mX (asO (asL (aw 1 [0,1,2] (mq (cI 1) (d2 bb (d1 aG (ak 2)) (cI 1))) (setV 0) aX (iwE C I))))) [some (.v (.ins C F1)),some (.v (.ins C l)),some (.v (.lst (r.map .int)))])=_;generalize aw 1 [0,1,2] (mq (cI 1) (d2 bb (d1 aG (ak 2)) (cI 1))) (setV 0) aX (iwE C I)=CC,((aH n1).all fun m=>gY g ks2 j ts2 (r.take m.toNat) (bx r m))=w,((aH n1).map fun m=>D.bl (gY g ks2 j ts2 (r.take m.toNat) (bx r m)))=L,r.map D.int=R at *;clear o u s M q c2 H y;simp -implicitDefEqProofs [U,odl,a2]
 ·have q:=q _ _ rfl rfl;have hf:(decide ((r.length:Int)=n1)&&(r.all fun p=>decide (0<=p/\p<n2)))=false:=by rw[XO];intro z;rw[Yg]at z;exact hb ⟨YI z.1,z.2⟩
  rw[hf,Yl (by decide)]at q;rw[fN q,<-Bool.and_assoc,hf,Xu];rfl
def wx{d:D}{b a:DF}{v:DV}(h1:st d ρ=some b)(h2:body b=some (.rt v a)):dj st body (d::ds) ρ=some (.rt v a):=by
 conv=>lhs;unfold dj
 rw[h1];simp only[h2]
def kg(I:DF->Prop)(v:DV)(q:Nat->Bool):∀(ds:List D) (k:Nat) (ρ:DF),I ρ->(∀j d ρ,ds[j]?=some d->I ρ->∃c,st d ρ=some c/\(q (k+j)=true->∃ρ',body c=some (.nx ρ')/\I ρ')/\(q (k+j)=false->∃ρ',body c=some (.rt v ρ')))->
  ((∀j,j<ds.length->q (k+j)=true)->∃ρ',dj st body ds ρ=some (.nx ρ')/\I ρ')/\((∃j,j<ds.length/\q (k+j)=false)->∃ρ',dj st body ds ρ=some (.rt v ρ'))
 |[],k,ρ,h,_=>⟨fun _=>⟨ρ,rfl,h⟩,fun⟨_,f,_⟩=>absurd f (Nat.not_lt_zero _)⟩
 |d::ds,k,ρ,h,hs=>by
  obtain⟨c,o,l,m⟩:=hs 0 d ρ rfl h;rw[Nat.add_zero]at l m;cases g:q k with
  |false=>
   obtain⟨e,i⟩:=m g;refine⟨fun z=>?_,fun _=>⟨e,wx o i⟩⟩;have:=z 0 (Nat.zero_lt_succ _);rw[Nat.add_zero,g]at this;cases this
  |true=>
   obtain⟨e,i,s⟩:=l g;obtain⟨a,b⟩:=kg I v q ds (k+1) e s fun j u ρ' f p=>by
    have:=hs (j+1) u ρ' f p
    rwa [show k+(j+1)=k+1+j by omega]at this
   rw[wt o i];refine⟨fun z=>a fun j f=>?_,fun⟨j,f,z⟩=>b ?_⟩
   ·have:=z (j+1) (Nat.succ_lt_succ f)
    rwa [show k+(j+1)=k+1+j by omega]at this
   ·cases j with
    |zero=>rw[Nat.add_zero,g]at z;cases z
    |succ j=>exact⟨j,Nat.lt_of_succ_lt_succ f,by rwa [show k+1+j=k+(j+1)by omega]⟩
def dD{n:Nat}{q:Nat->Bool}:((List.range n).all q=true↔∀j,j<n->q j=true)/\((List.range n).all q=false↔∃j,j<n/\q j=false):=by
 constructor
 ·rw[Yr];exact⟨fun h j a=>h j (Zf.mpr a),fun h j a=>h j (Zf.mp a)⟩
 ·rw[List.all_eq_false];exact⟨fun⟨j,a,h⟩=>⟨j,Zf.mp a,by simpa using h⟩,fun⟨j,a,h⟩=>⟨j,Zf.mpr a,by rw[h];decide⟩⟩
def Cf{n:Int}(hi:i<n.toNat):(aH n)[i]?=some (i:Int):=by unfold aH;rw[Yt,Xc hi];rfl
abbrev liF(S G:D)(T R:List D)(x4 x5 x6 x7 x8:Option DV):DF:=[some (.v S),some (.v G),some (.v (.lst T)),some (.v (.lst R)),x4,x5,x6,x7,x8]
abbrev liP:DF->Option RES:=(dIf (asB (d2 ltd (d2 mB (ak 7) (ak 8)) (d2 mB (ak 6) (ak 8)))) (bu (fun _=>some (.bl false))) dNx)
def zG{S G:D}{T R:List D}(us vs:List (Int×Int)) :
  (bw us vs=true->∃y,dj (setV 8) liP (us.map dP) (liF S G T R x4 x5 (some (.v (.tup (us.map dP)))) (some (.v (.tup (vs.map dP)))) x8)=some (.nx (liF S G T R x4 x5 (some (.v (.tup (us.map dP)))) (some (.v (.tup (vs.map dP)))) y))) /\
  (bw us vs=false->∃z,dj (setV 8) liP (us.map dP) (liF S G T R x4 x5 (some (.v (.tup (us.map dP)))) (some (.v (.tup (vs.map dP)))) x8)=some (.rt (.v (.bl false)) z)):=by
 obtain⟨a,b⟩:=kg (st:=setV 8) (body:=liP) (fun o=>∃y,o=liF S G T R x4 x5 (some (.v (.tup (us.map dP)))) (some (.v (.tup (vs.map dP)))) y) (.v (.bl false)) (fun j=>decide (us.count (us.getD j (0,0))<=vs.count (us.getD j (0,0)))) (us.map dP) 0 (liF S G T R x4 x5 (some (.v (.tup (us.map dP)))) (some (.v (.tup (vs.map dP)))) x8) ⟨_,rfl⟩ (by
  rintro j d _ c ⟨y,rfl⟩;rw[YZ];rw[Yt]at c;cases f:us[j]? with
  |none=>rw[f]at c;cases c
  |some q=>
  rw[f]at c;cases c;have s:us.getD j (0,0)=q:=by rw[YD,f];rfl
  rw[s];have m:=vY vs q;have l:=vY us q;have g:ltd (.int ((vs.count q:Nat):Int)) (.int ((us.count q:Nat):Int))=some (.bl (!decide (us.count q<=vs.count q))):=by
   show some (D.bl (decide (((vs.count q:Nat):Int)<((us.count q:Nat):Int))))=_;by_cases h:us.count q<=vs.count q
   ·rw[YM h,YE (by omega)];rfl
   ·rw[YE h,YM (by omega)];rfl
  refine⟨_,rfl,?_⟩;generalize dP q=Q,us.map dP=U,vs.map dP=V,((us.count q:Nat):Int)=a,((vs.count q:Nat):Int)=b,decide (us.count q<=vs.count q)=w at *;constructor
  ·intro i;subst i;exact⟨liF S G T R x4 x5 (some (.v (.tup U))) (some (.v (.tup V))) (some (.v Q)),by simp -implicitDefEqProofs [liP,liF,m,l,g],_,rfl⟩
  ·intro i;subst i;exact⟨liF S G T R x4 x5 (some (.v (.tup U))) (some (.v (.tup V))) (some (.v Q)),by simp -implicitDefEqProofs [liP,liF,m,l,g]⟩)
 simp only[YZ,Yb]at a b;constructor
 ·intro h;obtain⟨z,e,y,rfl⟩:=a fun j c=>by
   rw[fL]at h;exact YM (h _ (by rw[YD,Yi c];exact List.getElem_mem c))
  exact⟨y,e⟩
 ·intro h;refine b ?_;unfold bw at h;rw[List.all_eq_false]at h;obtain⟨q,f,p⟩:=h;obtain⟨j,c,e⟩:=Vb.mp f;refine⟨j,c,?_⟩;rw[YD,Yi c,Option.getD_some,e];simpa using p
def wu(a ts2:List T4)(r:List Int)(i j:Nat):Bool:=bw (aR (i:Int) (j:Int) a) (aR (bx r (i:Int)) (bx r (j:Int)) ts2)
def oY(b ks2:List Str)(a ts2:List T4)(r:List Int)(i:Nat):Bool:=kEq (kAt b (i:Int)) (kAt ks2 (bx r (i:Int)))&&(List.range i).all (wu a ts2 r i)
def liB(b ks2:List Str)(a ts2:List T4)(r:List Int)(n1:Int):Bool:=(List.range n1.toNat).all (oY b ks2 a ts2 r)
abbrev liJ:DF->Option RES:=(ap (aF 6 (d2 gL (d2 ixD (aa 2) (cI 0)) (asT (ae (getV 4) (ae (getV 5) aC)))))
  (ap (aF 7 (d2 gL (d2 ixD (aa 2) (cI 1)) (asT (ae (d2 ixD (aa 3) (aa 4)) (ae (d2 ixD (aa 3) (aa 5)) aC)))))
  (cP (jB (getV 6)) (setV 8) liP)))
abbrev liI:DF->Option RES:=(ap (dIf (asB (d2 neD (d2 ixD (d2 ixD (aa 0) (cI 0)) (aa 4)) (d2 ixD (d2 ixD (aa 1) (cI 0)) (d2 ixD (aa 3) (aa 4))))) (bu (fun _=>some (.bl false))) dNx)
  (cP (bJ (aa 4)) (setV 5) liJ))
def w20(a b:D):ixD (.lst [a,b]) (.int 0)=some a:=rfl
def w21(a b:D):ixD (.lst [a,b]) (.int 1)=some b:=rfl
def FY{S G:D}{g ts2:List T4}{f c:List (List Key×D)}{r:List Int}{n1 n2:Int}(w:tbS g f fun a b=>0<=a/\a<n1/\0<=b/\b<n1)(s:tbS ts2 c fun a b=>0<=a/\a<n2/\0<=b/\b<n2)(hl:(r.length:Int)=n1)(K:∀x∈r,0<=x/\x<n2)(hi:(i:Int)<n1) :
  ((List.range i).all (wu g ts2 r i)=true->∃A p m l,dj (setV 5) liJ ((aH (i:Int)).map .int) (liF S G [.dT f,.dT c] (r.map .int) (some (.v (.int (i:Int)))) x5 x6 x7 x8)=some (.nx (liF S G [.dT f,.dT c] (r.map .int) (some (.v (.int (i:Int)))) A p m l))) /\
  ((List.range i).all (wu g ts2 r i)=false->∃z,dj (setV 5) liJ ((aH (i:Int)).map .int) (liF S G [.dT f,.dT c] (r.map .int) (some (.v (.int (i:Int)))) x5 x6 x7 x8)=some (.rt (.v (.bl false)) z)):=by
 have len:((aH (i:Int)).map D.int).length=i:=by rw[Yb,bq,Zh]
 obtain⟨a,b⟩:=kg (st:=setV 5) (body:=liJ) (fun M=>∃A p m l,M=liF S G [.dT f,.dT c] (r.map .int) (some (.v (.int (i:Int)))) A p m l) (.v (.bl false)) (wu g ts2 r i) ((aH (i:Int)).map .int) 0 (liF S G [.dT f,.dT c] (r.map .int) (some (.v (.int (i:Int)))) x5 x6 x7 x8) ⟨_,_,_,_,rfl⟩ (by
  rintro j d _ L ⟨A,p,m,l,rfl⟩;rw[YZ];have Z:j<i:=by have:=(Yj.mp L).1;rwa [len]at this
  rw[jZ L];have bi:=eJ (b:=r) (x:=(i:Int)) ⟨YL _,by omega⟩;have bj:=eJ (b:=r) (x:=(j:Int)) ⟨YL _,by omega⟩;have ei:=gl (b:=r) (x:=(i:Int)) ⟨YL _,by omega⟩;have ej:=gl (b:=r) (x:=(j:Int)) ⟨YL _,by omega⟩;have I:=K _ (YB bi);have H:=K _ (YB bj);have E:=w (i:Int) (j:Int) ⟨YL _,hi,YL _,by omega⟩;have C:=s (bx r (i:Int)) (bx r (j:Int)) ⟨I.1,I.2,H.1,H.2⟩;obtain⟨o,e1,Q⟩:=cM dP unP (fun _=>rfl) (bZ ((aR (i:Int) (j:Int) g).map dP));obtain⟨B,e2,P⟩:=cM dP unP (fun _=>rfl) (bZ ((aR (bx r (i:Int)) (bx r (j:Int)) ts2).map dP));have f1:srP (aR (i:Int) (j:Int) g)=.tup (o.map dP):=Zn D.tup e1;have f2:srP (aR (bx r (i:Int)) (bx r (j:Int)) ts2)=.tup (B.map dP):=Zn D.tup e2;rw[f1]at E;rw[f2]at C;have Y:wu g ts2 r i j=bw o B:=(lZ Q P).symm;rw[Y];obtain⟨u,v⟩:=zG (S:=S) (G:=G) (T:=[.dT f,.dT c]) (R:=r.map .int) (x4:=some (.v (.int (i:Int)))) (x5:=some (.v (.int (j:Int)))) (x8:=l) o B;refine⟨_,rfl,?_⟩;have O:aF 6 (d2 gL (d2 ixD (aa 2) (cI 0)) (asT (ae (getV 4) (ae (getV 5) aC)))) (liF S G [.dT f,.dT c] (r.map .int) (some (.v (.int (i:Int)))) (some (.v (.int (j:Int)))) p m l)=some (.nx (liF S G [.dT f,.dT c] (r.map .int) (some (.v (.int (i:Int)))) (some (.v (.int (j:Int)))) (some (.v (.tup (o.map dP)))) m l)):=by generalize o.map dP=U at *;generalize r.map D.int=R,(i:Int)=ii,(j:Int)=X at *;clear u v w s;simp -implicitDefEqProofs [liF,w20,gL,iY,eZ,jt,E]
  have N:aF 7 (d2 gL (d2 ixD (aa 2) (cI 1)) (asT (ae (d2 ixD (aa 3) (aa 4)) (ae (d2 ixD (aa 3) (aa 5)) aC)))) (liF S G [.dT f,.dT c] (r.map .int) (some (.v (.int (i:Int)))) (some (.v (.int (j:Int)))) (some (.v (.tup (o.map dP)))) m l)=some (.nx (liF S G [.dT f,.dT c] (r.map .int) (some (.v (.int (i:Int)))) (some (.v (.int (j:Int)))) (some (.v (.tup (o.map dP)))) (some (.v (.tup (B.map dP)))) l)):=by generalize o.map dP=U at *;generalize B.map dP=V,bx r (i:Int)=bi',bx r (j:Int)=bj',r.map D.int=R at *;generalize (i:Int)=ii,(j:Int)=X at *;clear u v w s;simp -implicitDefEqProofs [liF,w21,ei,ej,gL,iY,eZ,jt,C]
  have J:jB (getV 6) (liF S G [.dT f,.dT c] (r.map .int) (some (.v (.int (i:Int)))) (some (.v (.int (j:Int)))) (some (.v (.tup (o.map dP)))) (some (.v (.tup (B.map dP)))) l)=some (o.map dP):=rfl;show(_->∃q,liJ (liF S G [.dT f,.dT c] (r.map .int) (some (.v (.int (i:Int)))) (some (.v (.int (j:Int)))) p m l)=some (.nx q)/\_)/\(_->∃q,liJ (liF S G [.dT f,.dT c] (r.map .int) (some (.v (.int (i:Int)))) (some (.v (.int (j:Int)))) p m l)=some (.rt (.v (.bl false)) q))
  unfold liJ;rw[aj O,aj N];constructor
  ·intro z;obtain⟨y,e⟩:=u z;exact⟨_,bC J e,_,_,_,_,rfl⟩
  ·intro z;obtain⟨y,e⟩:=v z;exact⟨_,bC J e⟩)
 rw[len]at a b;simp only[YZ]at a b;constructor
 ·intro h;obtain⟨z,e,A,p,m,l,rfl⟩:=a (dD.1.mp h);exact⟨A,p,m,l,e⟩
 ·exact fun h=>b (dD.2.mp h)
def nE(C:Addr)(c ks2:List Str)(f T:D)(j ts2:List T4)(h g:List (List Key×D))(r:List Int)(n1 n2:Int)(hn:1<=n1/\n1<=7)(I:okK n1 c)(H:okK n2 ks2)(L:tbS j h fun a b=>0<=a/\a<n1/\0<=b/\b<n1)(K:tbS ts2 g fun a b=>0<=a/\a<n2/\0<=b/\b<n2)(Q:(r.length:Int)=n1)(P:∀x∈r,0<=x/\x<n2) :
  cg C [.v (.tup [.lst (c.map .str),f]),.v (.tup [.lst (ks2.map .str),T]),.v (.lst [.dT h,.dT g]),.v (.lst (r.map .int))]=some (.v (.bl (liB c ks2 j ts2 r n1))):=by
 have len:((aH n1).map D.int).length=n1.toNat:=by rw[Yb,bq]
 obtain⟨a,b⟩:=kg (st:=setV 4) (body:=liI) (fun Y=>∃M p o m l,Y=liF (.tup [.lst (c.map .str),f]) (.tup [.lst (ks2.map .str),T]) [.dT h,.dT g] (r.map .int) M p o m l) (.v (.bl false)) (oY c ks2 j ts2 r) ((aH n1).map .int) 0 (liF (.tup [.lst (c.map .str),f]) (.tup [.lst (ks2.map .str),T]) [.dT h,.dT g] (r.map .int) none none none none none) ⟨_,_,_,_,_,rfl⟩ (by
  rintro i d _ U ⟨M,p,o,m,l,rfl⟩;rw[YZ];have hi:i<n1.toNat:=by have:=(Yj.mp U).1;rwa [len]at this
  rw[jZ U];have bi:=eJ (b:=r) (x:=(i:Int)) ⟨YL _,by omega⟩;have ei:=gl (b:=r) (x:=(i:Int)) ⟨YL _,by omega⟩;have N:=P _ (YB bi);have J:0<=(i:Int)/\(i:Int)<n1:=⟨YL i,by omega⟩
  have k1:=nW I.1 J;have k2:=nW H.1 N;have A:=kX (vF (pK I J)) (vF (pK H N));have E:eqd (.str (kAt c (i:Int))) (.str (kAt ks2 (bx r (i:Int))))=kEq (kAt c (i:Int)) (kAt ks2 (bx r (i:Int))):=rfl;rw[E]at A;obtain⟨u,v⟩:=FY (S:=.tup [.lst (c.map .str),f]) (G:=.tup [.lst (ks2.map .str),T]) (x5:=p) (x6:=o) (x7:=m) (x8:=l) L K Q P J.2;have q:bJ (aa 4) (liF (.tup [.lst (c.map .str),f]) (.tup [.lst (ks2.map .str),T]) [.dT h,.dT g] (r.map .int) (some (.v (.int (i:Int)))) p o m l)=some ((aH (i:Int)).map .int):=dq rfl ⟨by omega,by omega⟩;have q1:ixD (.tup [.lst (c.map .str),f]) (.int 0)=some (.lst (c.map .str)):=rfl;have Z:ixD (.tup [.lst (ks2.map .str),T]) (.int 0)=some (.lst (ks2.map .str)):=rfl;refine⟨liF (.tup [.lst (c.map .str),f]) (.tup [.lst (ks2.map .str),T]) [.dT h,.dT g] (r.map .int) (some (.v (.int (i:Int)))) p o m l,rfl,?_⟩;have s:∀w,kEq (kAt c (i:Int)) (kAt ks2 (bx r (i:Int)))=w->dIf (asB (d2 neD (d2 ixD (d2 ixD (aa 0) (cI 0)) (aa 4)) (d2 ixD (d2 ixD (aa 1) (cI 0)) (d2 ixD (aa 3) (aa 4))))) (bu (fun _=>some (.bl false))) dNx (liF (.tup [.lst (c.map .str),f]) (.tup [.lst (ks2.map .str),T]) [.dT h,.dT g] (r.map .int) (some (.v (.int (i:Int)))) p o m l)=some (if w=true then .nx (liF (.tup [.lst (c.map .str),f]) (.tup [.lst (ks2.map .str),T]) [.dT h,.dT g] (r.map .int) (some (.v (.int (i:Int)))) p o m l)else .rt (.v (.bl false)) (liF (.tup [.lst (c.map .str),f]) (.tup [.lst (ks2.map .str),T]) [.dT h,.dT g] (r.map .int) (some (.v (.int (i:Int)))) p o m l)):=by intro w B;rw[B]at A;clear u v q B E;generalize kAt c (i:Int)=V1,kAt ks2 (bx r (i:Int))=V2 at *;generalize bx r (i:Int)=bi',r.map D.int=R,D.lst (c.map D.str)=K1,D.lst (ks2.map D.str)=K2 at *;generalize D.tup [K1,f]=S1,D.tup [K2,T]=S2,(i:Int)=ii at *;cases w<;>simp -implicitDefEqProofs [liF,q1,Z,k1,k2,ei,A]
  unfold oY liI;cases B:kEq (kAt c (i:Int)) (kAt ks2 (bx r (i:Int)))with
  |false=>
   have s:=s _ B;rw[Yl (by decide)]at s;exact⟨fun z=>absurd (show false=true from z) Yk,fun _=>⟨_,fN s⟩⟩
  |true=>
   have s:=s _ B;rw[Yh rfl]at s;rw[aj s,Ze];constructor
   ·intro z;obtain⟨z5,z6,z7,z8,e⟩:=u z;exact⟨_,bC q e,_,_,_,_,_,rfl⟩
   ·intro z;obtain⟨y,e⟩:=v z;exact⟨_,bC q e⟩)
 rw[len]at a b;simp only[YZ]at a b;have O:bJ (d1 aG (ak 3)) (liF (.tup [.lst (c.map .str),f]) (.tup [.lst (ks2.map .str),T]) [.dT h,.dT g] (r.map .int) none none none none none)=some ((aH n1).map .int):=dq (by
  show some (D.int (((r.map D.int).length:Nat):Int))=_;rw[Yb,Q]) ⟨by omega,by omega⟩
 unfold cg jR;rw[Av,show aP 9 4 [.v (.tup [.lst (c.map .str),f]),.v (.tup [.lst (ks2.map .str),T]),.v (.lst [.dT h,.dT g]),.v (.lst (r.map .int))]=liF (.tup [.lst (c.map .str),f]) (.tup [.lst (ks2.map .str),T]) [.dT h,.dT g] (r.map .int) none none none none none from rfl];cases X:liB c ks2 j ts2 r n1 with
 |true=>
  obtain⟨z,e,_⟩:=a (dD.1.mp X);rw[aj (bC O e)];rfl
 |false=>
  obtain⟨z,e⟩:=b (dD.2.mp X);rw[fN (bC O e)];rfl
def sw(q:Int×Int):Int×Int:=(q.1,if q.2=1 then 2 else if q.2=2 then 1 else q.2)
def EH{i j:Int}(h:i≠j)(t:T4):prs j i t=(prs i j t).map sw:=by
 obtain⟨a,b,k,o⟩:=t;unfold prs;by_cases c:a=i/\b=j
 ·have n1:¬(a=j/\b=i):=fun z=>h (c.1.symm.trans z.1)
  have n2:¬(b=i/\a=j):=fun z=>n1 ⟨z.2,z.1⟩
  have p:b=j/\a=i:=⟨c.2,c.1⟩
  simp only[Yh c,Yl n1,Yl n2,Yh p];cases o<;>simp[sw]
 ·by_cases e:b=i/\a=j
  ·have p:a=j/\b=i:=⟨e.2,e.1⟩
   have n2:¬(b=j/\a=i):=fun z=>c ⟨z.2,z.1⟩
   simp only[Yl c,Yh e,Yh p,Yl n2];cases o<;>simp[sw]
  ·have n1:¬(a=j/\b=i):=fun z=>e ⟨z.2,z.1⟩
   have n2:¬(b=j/\a=i):=fun z=>c ⟨z.2,z.1⟩
   simp only[Yl c,Yl e,Yl n1,Yl n2];rfl
def qX{i j:Int}(h:i≠j):∀ts:List T4,aR j i ts=(aR i j ts).map sw
 |[]=>rfl
 |t::ts=>by
  show prs j i t++aR j i ts=(prs i j t++aR i j ts).map sw;rw[YT,<-EH h,<-qX h ts]
def CO(q:Int×Int):sw (sw q)=q:=by
 obtain⟨a,f⟩:=q;unfold sw;by_cases b:f=1
 ·subst b;rfl
 ·by_cases h:f=2
  ·subst h;rfl
  ·simp[b,h]
def jL(l:List (Int×Int))(q:Int×Int):(l.map sw).count (sw q)=l.count q:=by
 induction l with
 |nil=>rfl
 |cons x l ih=>
  rw[Yx,ZX,ZX,ih]
  congr 1
  by_cases h:x=q
  ·subst h;simp
  ·have a:sw x≠sw q:=fun z=>h (by rw[<-CO x,z,CO])
   rw[Yl (fun z=>a (Zz.mp z)),Yl (fun z=>h (Zz.mp z))]
def wI(ps qs:List (Int×Int)):bw (ps.map sw) (qs.map sw)=bw ps qs:=by
 rw[ZQ,fL,fL];constructor
 ·intro h q a;have:=h (sw q) (List.mem_map_of_mem a)
  rwa [jL,jL]at this
 ·intro h q a;obtain⟨z,b,rfl⟩:=Yv.mp a;rw[jL,jL];exact h z b
def jx{i j a b:Int}(c ts2:List T4)(h1:i≠j)(h2:a≠b):bw (aR j i c) (aR b a ts2)=bw (aR i j c) (aR a b ts2):=by rw[qX h1,qX h2,wI]
def jn{r:List Int}:r.Nodup↔∀(m:Nat) (x:Int),r[m]?=some x->x∉r.take m:=by
 unfold List.Nodup;rw[List.pairwise_iff_getElem];constructor
 ·intro h m x b c;obtain⟨f,rfl⟩:=Yj.mp b;obtain⟨i,a,e⟩:=Vb.mp c;rw[YF]at a;rw[List.getElem_take]at e;exact h i m (by omega) f (by omega) e
 ·intro h i j a g l e;refine h j r[j] (Yi g) ?_;rw[<-e];exact Vb.mpr ⟨i,by rw[YF];omega,by rw[List.getElem_take]⟩
def qZ(l:List Int)(x:Int):l.any (· == x)=true↔x∈l:=by
 rw[List.any_eq_true];constructor
 ·rintro⟨y,a,e⟩;rw[<-Zz.mp e];exact a
 ·exact fun h=>⟨x,h,beq_self_eq_true x⟩
def oU(ns:List Int)(x:Int):fW (ns++[x])=if(fW ns).any (· == x)then fW ns else fW ns++[x]:=by unfold fW;rw[List.foldl_append];rfl
def v5(ds:List Int):∀n,ds.length=n->∀d,d∈fW ds↔d∈ds:=by
 intro n;induction n generalizing ds with
 |zero=>intro h d;rw[Zx.mp h];exact Iff.rfl
 |succ n ih=>
  intro h d;obtain⟨e,x,rfl⟩:∃e x,ds=e++[x]:=⟨ds.dropLast,ds.getLast (by rintro rfl;cases h),(List.dropLast_concat_getLast _).symm⟩
  have a:e.length=n:=by rw[Yn,YN]at h;omega
  rw[oU];split
  ·rename_i q;rw[qZ]at q;rw[ih e a d,Zb,Zc];constructor
   ·exact Or.inl
   ·rintro (z|rfl)
    ·exact z
    ·exact(ih e a _).mp q
  ·rw[Zb,Zb,ih e a d]
def xu(ds:List Int):∀n,ds.length=n->((fW ds).length=n↔ds.Nodup):=by
 intro n;induction n generalizing ds with
 |zero=>intro h;rw[Zx.mp h];exact⟨fun _=>List.nodup_nil,fun _=>rfl⟩
 |succ n ih=>
  intro h;obtain⟨e,x,rfl⟩:∃e x,ds=e++[x]:=⟨ds.dropLast,ds.getLast (by rintro rfl;cases h),(List.dropLast_concat_getLast _).symm⟩
  have c:e.length=n:=by rw[Yn,YN]at h;omega
  have j:=sA e;rw[oU,List.nodup_append];split
  ·rename_i q;rw[qZ]at q;have f:=(v5 e n c x).mp q;constructor
   ·intro z;omega
   ·rintro⟨_,_,z⟩;exact absurd rfl (z x f x (List.mem_singleton_self x))
  ·rename_i q;rw[qZ]at q;have f:x∉e:=fun z=>q ((v5 e n c x).mpr z)
   rw[Yn,YN];constructor
   ·intro z;refine⟨(ih e c).mp (by omega),by simp,fun a i b g=>?_⟩;rw[Zc.mp g];rintro rfl;exact f i
   ·rintro⟨z,_,_⟩;rw[(ih e c).mpr z]
def uI(r:List Int):Bool:=decide (((fW r).length:Int)=(r.length:Int))
def sO(r:List Int):uI r=true↔r.Nodup:=by unfold uI;rw[Yu,<-xu r r.length rfl];omega
def Br(r:List Int)(h:r.length<=8):jY (.lst (r.map .int))=some (.int ((fW r).length:Int)):=by
 have:(decide ((r.map D.int).length<12)&&(r.map D.int).all isI)=true:=by rw[Yb,YM (show r.length<12 by omega),Ze,Yr];intro y a;obtain⟨z,_,rfl⟩:=Yv.mp a;rfl
 show(if(decide ((r.map D.int).length<12)&&(r.map D.int).all isI)=true then some (D.int ((fW ((r.map D.int).map toI)).length:Int))else none)=_;rw[Yh this,YR,show toI ∘ D.int=id from rfl,List.map_id]
def oJ(b ks2:List Str)(a ts2:List T4)(r:List Int)(n1 n2:Int):Bool:=decide ((r.length:Int)=n1)&&(uI r&&((r.all fun p=>decide (0<=p/\p<n2))&&liB b ks2 a ts2 r n1))
def mH(c ks2:List Str)(a ts2:List T4)(r:List Int)(n1 n2:Int):og c ks2 a ts2 r n1 n2=oJ c ks2 a ts2 r n1 n2:=by
 unfold og oJ;by_cases E:(r.length:Int)=n1
 ·rw[YM E,Ze,Ze];cases N:(r.all fun p=>decide (0<=p/\p<n2))with
  |false=>rw[Xu,Xu,Bool.and_false]
  |true=>
   rw[Ze,Ze];rw[ZQ,Yg,sO,jn];unfold liB;rw[dD.1,Yr];have H:∀m:Nat,m<n1.toNat->(gY c ks2 a ts2 (r.take m) (bx r (m:Int))=true↔bx r (m:Int)∉r.take m/\kAt ks2 (bx r (m:Int))=kAt c (m:Int)/\∀k:Nat,k<m->bw (aR (k:Int) (m:Int) a) (aR (bx r (k:Int)) (bx r (m:Int)) ts2)=true):=by
    intro m o;have y:(r.take m).length=m:=by rw[YF];omega
    unfold gY;rw[y,Yg,Yg,mD,Vr,List.any_eq_false,Yr];refine and_congr ?_ (and_congr Iff.rfl ?_)
    ·constructor
     ·intro h z;exact absurd (YM rfl) (h _ z)
     ·intro h z K q;have:=YI q;exact h (this ▸ K)
    ·constructor
     ·intro h k A;have:=h (k:Int) (bT.mpr ⟨YL _,by omega⟩);have e:bx (r.take m) (k:Int)=bx r (k:Int):=by unfold bx;rw[Zh,Zs A]
      rwa [e]at this
     ·intro h k A;obtain⟨J,M⟩:=bT.mp A;obtain⟨j,rfl⟩:=Zl J;have u:j<m:=by omega
      have e:bx (r.take m) (j:Int)=bx r (j:Int):=by unfold bx;rw[Zh,Zs u]
      rw[e];exact h j u
   have f:∀m:Nat,m<n1.toNat->r[m]?=some (bx r (m:Int)):=fun m o=>by
    have:=eJ (b:=r) (x:=(m:Int)) ⟨YL _,by omega⟩
    rwa [Zh]at this
   have g:∀i:Nat,(oY c ks2 a ts2 r i=true↔kAt c (i:Int)=kAt ks2 (bx r (i:Int))/\∀j,j<i->bw (aR (i:Int) (j:Int) a) (aR (bx r (i:Int)) (bx r (j:Int)) ts2)=true):=by intro i;unfold oY;rw[Yg,mD,dD.1];exact Iff.rfl
   constructor
   ·intro h;have B:∀m:Nat,m<n1.toNat->_:=fun m o=>(H m o).mp (by
     have:=h (m:Int) (bT.mpr ⟨YL _,by omega⟩)
     rwa [Zh]at this)
    have w:∀(m:Nat) (x:Int),r[m]?=some x->x∉r.take m:=fun m x C=>by
     have o:m<n1.toNat:=by have:=(Yj.mp C).1;omega
     have e:=f m o;rw[C]at e;rw[YG e];exact(B m o).1
    refine⟨w,fun i l=>(g i).mpr ⟨((B i l).2.1).symm,fun j u=>?_⟩⟩;have s:bx r (j:Int)≠bx r (i:Int):=vC (jn.mpr w) (f j (by omega)) (f i l) (by omega);rw[jx (i:=(j:Int)) (j:=(i:Int)) a ts2 (by omega) s];exact(B i l).2.2 j u
   ·rintro⟨w,h⟩ m o;obtain⟨I,L⟩:=bT.mp o;obtain⟨i,rfl⟩:=Zl I;have l:i<n1.toNat:=by omega
    rw[Zh];refine(H i l).mpr ⟨w i _ (f i l),(((g i).mp (h i l)).1).symm,fun j u=>?_⟩;have s:bx r (i:Int)≠bx r (j:Int):=vC (jn.mpr w) (f i l) (f j (by omega)) (by omega);rw[jx (i:=(i:Int)) (j:=(j:Int)) a ts2 (by omega) s];exact((g i).mp (h i l)).2 j u
 ·rw[YE E,Xu,Xu]
def CZ(t:T4):okN 30 (dT4 t)=true:=rfl
def FO(t:T4):eqD (dT4 t) (dT4 t)=some (.bl true):=by rw[yg (CZ t) (CZ t)];have h:eqd (dT4 t) (dT4 t)=true:=(df _ _ rfl).mpr rfl;rw[h]
def wj(C:Addr)(t:T4):dc C [.v (dT4 t),.v (dT4 t)]=some (.v (.bl true)):=by
 have e:=FO t;have h:=xG C;unfold dc kF;generalize dM C=W at h ⊢;have f:ixD (dT4 t) (.int 0)=some (.int t.1):=rfl;have c:ixD (dT4 t) (.int 1)=some (.int t.2.1):=rfl;have a:ixD (dT4 t) (.int 2)=some (.int t.2.2.1):=rfl;have i:ixD (dT4 t) (.int 3)=some (.bl t.2.2.2):=rfl;have j:aG (dT4 t)=some (.int 4):=rfl;have g:kP "tuple" (dT4 t)=some (.bl true):=rfl;have l:∀b,kP "bool" (.bl b)=some (.bl true):=fun _=>rfl
 generalize dT4 t=d at *;simp[f,c,a,i,j,g,l,h,e]
def vB(ts:List T4):(srt ts).length=ts.length:=by unfold srt;obtain⟨u,e,p⟩:=mF (ts.map lf);rw[e,Yb,p.length_eq,Yb]
def hV(ts:List T4):∃us:List T4,srt ts=us.map dT4/\us.Perm (ts.map lf):=mF (ts.map lf)
abbrev FV:DF->Option RES:=(dIf (cw (asB (d1 (kP "str") (ak 3)))) (bu (fun _=>some (.bl false))) dNx)
abbrev Fs(T:Dm):DF->Option RES:=(dIf (cw (asB (am T (aB 4 (aB 5 nA))))) (bu (fun _=>some (.bl false))) dNx)
def II(a b c:DV)(ks:List Str):∃x,dj (setV 3) FV (ks.map .str) [some a,some b,some c,none,none,none]=some (.nx [some a,some b,some c,x,none,none]):=by
 obtain⟨ρ,e,x,rfl⟩:=dY (st:=setV 3) (body:=FV) (ds:=ks.map D.str) (ρ:=[some a,some b,some c,none,none,none]) (fun ρ=>∃x,ρ=[some a,some b,some c,x,none,none]) ⟨none,rfl⟩ (fun d f ρ ⟨x,h⟩=>by
  obtain⟨k,_,rfl⟩:=Yv.mp f;subst h;exact⟨_,rfl,_,rfl,_,rfl⟩)
 exact⟨x,e⟩
def Hv(T:Dm)(m:∀t:T4,T [.v (dT4 t),.v (dT4 t)]=some (.v (.bl true)))(a b c:DV)(x:Option DV)(us:List T4):∃y z,dj (b5 [4,5]) (Fs T) (oH (us.map dT4) (us.map dT4)) [some a,some b,some c,x,none,none]=some (.nx [some a,some b,some c,x,y,z]):=by
 obtain⟨ρ,e,y,z,rfl⟩:=dY (st:=b5 [4,5]) (body:=Fs T) (ds:=oH (us.map dT4) (us.map dT4)) (ρ:=[some a,some b,some c,x,none,none]) (fun ρ=>∃y z,ρ=[some a,some b,some c,x,y,z]) ⟨none,none,rfl⟩ (fun d l ρ ⟨y,z,g⟩=>by
  obtain⟨i,j⟩:=List.mem_iff_getElem?.mp l;obtain⟨u,v,h,f,rfl⟩:=sP j;rw[h]at f;cases f;rw[Yt]at h;cases q:us[i]? with
  |none=>rw[q]at h;cases h
  |some t=>
   rw[q]at h;cases h;subst g;refine⟨[some a,some b,some c,x,some (.v (dT4 t)),some (.v (dT4 t))],rfl,[some a,some b,some c,x,some (.v (dT4 t)),some (.v (dT4 t))],?_,some (.v (dT4 t)),some (.v (dT4 t)),rfl⟩;have:=m t;generalize dT4 t=d at *;simp[this])
 exact⟨y,z,e⟩
def iP(C:Addr)(ks:List Str)(ts us:List T4)(J:D)(n:Int)(h:okK n ks)(u:us.length<=12)(he:srt us=srt ts) :
  cQ C [.v (.ins C (wFs ks (.lst (srt ts)) J)),.v (.lst (ks.map .str)),.v (.lst (us.map dT4))]=some (.v (.bl true)):=by
 have j:=wj C;have i:aJ C [.v (.lst (us.map dT4))]=some (.own (.lst (srt ts)) none):=by rw[<-he];exact nu C us (by omega)
 have fk:=cT C ks (.lst (srt ts)) J;have f:=iw C ks (.lst (srt ts)) J;have g:(srt ts).length=us.length:=by rw[<-he,vB]
 obtain⟨a,p,_⟩:=hV ts;obtain⟨x,q⟩:=II (.v (.ins C (wFs ks (.lst (srt ts)) J))) (.v (.lst (ks.map .str))) (.v (.lst (us.map dT4))) ks;obtain⟨y,z,e⟩:=Hv (dc C) j (.v (.ins C (wFs ks (.lst (srt ts)) J))) (.v (.lst (ks.map .str))) (.v (.lst (us.map dT4))) x a;rw[<-p]at e;have c:neD (.lst (ks.map D.str)) (.lst (ks.map D.str))=some (.bl false):=by rw[kX (zn h) (zn h),r_ D.str (fun _ _=>rfl)];rfl
 have b:neD (.int ((srt ts).length:Int)) (.int ((us.map dT4).length:Int))=some (.bl false):=by rw[g,Yb,AU,YM rfl];rfl
 have o:Da C (.ins C (wFs ks (.lst (srt ts)) J))=some (.bl true):=Yh rfl;have m:∀l,kP "list" (.lst l)=some (.bl true):=fun _=>rfl
 have s:(srt ts).length=(srt ts).length:=rfl;unfold cQ kd;generalize dc C=Ti,aJ C=Pl,wFs ks (.lst (srt ts)) J=F at *;generalize srt ts=S,ks.map D.str=A1,us.map dT4=A at *;rw[j6,aj (ρ':=[some (.v (.ins C F)),some (.v (.lst A1)),some (.v (.lst A)),none,none,none]) (by simp[o,fk,f,m]),
  aj (ρ':=[some (.v (.ins C F)),some (.v (.lst A1)),some (.v (.lst A)),none,none,none]) (by simp[fk,f,b,c]),
  aj (bC (by simp[fk]) q),aj (bC (by simp[tw,f,i]) e)]
 rfl
def GQ(t:T4):lf (lf t)=lf t:=by
 unfold lf;by_cases h:t.2.2.2=true\/t.1<t.2.1
 ·rw[Yh h,Yh h]
 ·rw[Yl h];show(if t.2.2.2=true\/t.2.1<t.1 then(t.2.1,t.1,t.2.2.1,t.2.2.2)else(t.1,t.2.1,t.2.2.1,t.2.2.2))=(t.2.1,t.1,t.2.2.1,t.2.2.2)
  split
  ·rfl
  ·rename_i g;have e:t.1=t.2.1:=by
    have a:¬t.1<t.2.1:=fun z=>h (.inr z)
    have b:¬t.2.1<t.1:=fun z=>g (.inr z)
    omega
   rw[e]
def pi(ts us:List T4)(p:us.Perm (ts.map lf)):srt us=srt ts:=by unfold srt;refine jq ?_ (vP _);have h:=p.map lf;rw[YR,show lf ∘ lf=lf from funext GQ]at h;exact h.map dT4
def pD(C:Addr)(ks:List Str)(ts:List T4)(J:D)(n:Int)(m:1<=n/\n<=7)(o:okK n ks)(c:okS n ts):∃a,JOk a ts/\gi C [.v (.ins C (wFs ks (.lst (srt ts)) J))]=some (.own (.ins C (wFs ks (.lst (srt ts)) (.dT a))) none):=by
 obtain⟨b,s,p⟩:=hV ts;have q:okS n b:=⟨by rw[p.length_eq,Yb];exact c.1,fun t h=>by obtain⟨u,l,rfl⟩:=Yv.mp (p.mem_iff.mp h);exact yX (c.2 u l)⟩
 obtain⟨a,g,e⟩:=p8 C ks b n m o q;rw[pi ts b p,<-s]at e;refine⟨a,g.perm (fun i j=>by have:=oT (i:=i) (j:=j) p;rwa [v6 i j ts fun t h=>(c.2 t h).2.2.2.2.1]at this),?_⟩;have fk:=cT C ks (.lst (srt ts)) J;have f:=iw C ks (.lst (srt ts)) J;unfold gi sK;generalize wFs ks (.lst (srt ts)) J=F at fk f ⊢;generalize wFs ks (.lst (srt ts)) (.dT a)=w at e ⊢;generalize srt ts=S,ks.map D.str=K at *;rw[n4,fK,e _ _ (by simp[fk,f])];rfl
def mn(a b:Int):Int:=if b<a then b else a
def v9(a b:Int):j9 (.int a) (.int b)=some (.int (mn a b)):=rfl
def HK{A B:Dd}{a b k:Int}(g:A ρ=some (.int a))(f:B ρ=some (.int b))(e:ak i ρ=some (.int k)):chD leA leA (cI 0) (ak i) (d2 j9 A B) ρ=some (.bl (decide (0<=k/\k<=mn a b))):=by
 have c:d2 j9 A B ρ=some (.int (mn a b)):=by rw[vJ,g,Ya,f,Ya,v9]
 rw[Dt,e,c];by_cases h:0<=k
 ·simp[h]
 ·simp[h]
def Ao(C:Addr)(ks:List Str)(T J:D){n:Int}(a:(ks.length:Int)=n)(h:bR i ρ=some (.v (.ins C (wFs ks T J)))):bf C "size" (aM C) (br (bR i) g0) ρ=some (.int n):=by
 have e:aM C [.v (.ins C (wFs ks T J))]=some (.v (.int n)):=by have:=cT C ks T J;generalize wFs ks T J=F at this;simp[aM,gO,this,a]
 have b:br (bR i) g0 ρ=some [.v (.ins C (wFs ks T J))]:=by unfold br;rw[h];rfl
 unfold bf;rw[b,Ya];have c:pq C "size" [.v (.ins C (wFs ks T J))]=true:=by show(match(if C=C then some (wFs ks T J)else none)with|some fs=>(fs.lookup ("size":Str)).isNone|none=>false)=true;rw[Yh rfl];simp only;rw[qS];rfl
 rw[Yh c,e];rfl
def rFs(l r:D)(k:Int):List (Str×D):=[("left",l),("right",r),("kept",.int k)]
def r1:¬(("left":Str) = "right"):=by decide+kernel
def r2:¬(("left":Str) = "kept"):=by decide+kernel
def r3:¬(("right":Str) = "kept"):=by decide+kernel
def r4:(("right":Str) == "left")=false:=by decide+kernel
def r5:(("kept":Str) == "left")=false:=by decide+kernel
def r6:(("kept":Str) == "right")=false:=by decide+kernel
def rN(R:Addr)(l r:D)(k:Int):aL R "left" (.ins R (rFs l r k))=some l:=by rw[fU];unfold rFs;simp
def xg(R:Addr)(l r:D)(k:Int):aL R "right" (.ins R (rFs l r k))=some r:=by rw[fU];unfold rFs;simp[List.lookup,r4]
def At(R:Addr)(l r:D)(k:Int):aL R "kept" (.ins R (rFs l r k))=some (.int k):=by rw[fU];unfold rFs;simp[List.lookup,r5,r6]
def ym(C:Addr)(k1 k2:List Str)(t1 t2:List T4)(e J:D)(a b k:Int)(u:1<=a/\a<=7)(q:1<=b/\b<=7)(g:okK a k1)(s1:okS a t1)(o:okK b k2)(s:okS b t2)(p:0<=k/\k<=mn a b) :
  ∃kv1 kv2,JOk kv1 t1/\JOk kv2 t2/\dn C (.ins az []) [.v (.ins C (wFs k1 (.lst (srt t1)) e)),.v (.ins C (wFs k2 (.lst (srt t2)) J)),.v (.int k)]=some (.ins az (rFs (.ins C (wFs k1 (.lst (srt t1)) (.dT kv1))) (.ins C (wFs k2 (.lst (srt t2)) (.dT kv2))) k),.non):=by
 obtain⟨kv1,m,j⟩:=pD C k1 t1 e a u g s1;obtain⟨kv2,l,h⟩:=pD C k2 t2 J b q o s;refine⟨kv1,kv2,m,l,kj rfl rfl fun c=>⟨.nx [some (.own (.ins az (rFs (.ins C (wFs k1 (.lst (srt t1)) (.dT kv1))) (.ins C (wFs k2 (.lst (srt t2)) (.dT kv2))) k)) (some c)),some (.v (.ins C (wFs k1 (.lst (srt t1)) e))),some (.v (.ins C (wFs k2 (.lst (srt t2)) J))),some (.v (.int k))],?_,rfl,rfl⟩⟩;unfold ki;have w:=fun x=>HK (ρ:=[some x,some (.v (.ins C (wFs k1 (.lst (srt t1)) e))),some (.v (.ins C (wFs k2 (.lst (srt t2)) J))),some (.v (.int k))]) (k:=k) (i:=3) (Ao C k1 (.lst (srt t1)) e g.1 (i:=1) rfl) (Ao C k2 (.lst (srt t2)) J o.1 (i:=2) rfl) rfl
 have f:=w (.own (.ins az []) (some c));rw[YM p]at f;generalize (chD leA leA (cI 0) (ak 3) (d2 j9 (bf C "size" (aM C) (br (bR 1) g0)) (bf C "size" (aM C) (br (bR 2) g0))))=Q at f ⊢;generalize gi C=y at j h ⊢;generalize wFs k1 (.lst (srt t1)) e=F1,wFs k2 (.lst (srt t2)) J=F2,wFs k1 (.lst (srt t1)) (.dT kv1)=G1,wFs k2 (.lst (srt t2)) (.dT kv2)=G2,az=R at *;rw[show aP 4 4 [.own (.ins R []) (some c),.v (.ins C F1),.v (.ins C F2),.v (.int k)]=[some (.own (.ins R []) (some c)),some (.v (.ins C F1)),some (.v (.ins C F2)),some (.v (.int k))]from rfl,
  aj (ρ':=[some (.own (.ins R []) (some c)),some (.v (.ins C F1)),some (.v (.ins C F2)),some (.v (.int k))]) (by rw[dw,jD,jg,f];rfl),
  aj (ρ':=[some (.own (.ins R [("left",.ins C G1)]) (some c)),some (.v (.ins C F1)),some (.v (.ins C F2)),some (.v (.int k))]) (by simp[iH,iA,j]),
  aj (ρ':=[some (.own (.ins R [("left",.ins C G1),("right",.ins C G2)]) (some c)),some (.v (.ins C F1)),some (.v (.ins C F2)),some (.v (.int k))]) (by simp[iH,iA,h,r1])]
 simp[iH,iA,r2,r3,rFs]
def xO{a w:D}{k:Int}{R:List (Str×D)}(h:dn C (.ins az []) [.v a,.v w,.v (.int k)]=some (.ins az R,.non))(g:Dv)(ρ:DF)(b:g ρ=some [.v a,.v w,.v (.int k)]):cG az (dn C) g ρ=some (.ins az R):=by unfold cG;rw[b,Ya,h];rfl
def t0(a b:D):ixD (.tup [a,b]) (.int 0)=some a:=rfl
def t1(a b:D):ixD (.tup [a,b]) (.int 1)=some b:=rfl
def fQ{g h:DF->Option XR}(e:g ρ=some (.go (.nx ρ'))):iW g h ρ=h ρ':=by unfold iW;rw[e]
def qJ{g h:DF->Option XR}{k:Nat}(e:g ρ=some (.ex k)):iW g h ρ=some (.ex k):=by unfold iW;rw[e]
def jo{c:Dk}{g h:DF->Option XR} :xIf c g h ρ=(c ρ).bind fun b=>if b=true then g ρ else h ρ:=rfl
def t9(C:Addr)(ks:List Str)(ts:List T4)(n:Int)(f:1<=n/\n<=7)(g:okK n ks)(e:okS n ts):sX C [.bor (.lst (ks.map .str)),.v (.lst (ts.map dT4))]=some (.v .non):=by
 have j:=jC C;have i:∀t,okT n t->eV C [.v (dT4 t),.v (.int n)]=some (.v (.bl true)):=fun t h=>zY C t n h
 unfold sX Ei;generalize b7 C=P at j ⊢;generalize eV C=T at i ⊢;have b:(ks.length:Int)=n:=g.1;have p:1<=n:=f.1;have o:n<=7:=f.2;have m:¬(12:Int)<(ts.length:Int):=by have:=e.1;omega
 have q:∀G,(ap (dIf (cw (asB (chD leA leA (cI 1) (d1 aG (ak 0)) (cI 7)))) fg dNx) (ap (dIf (asB (d2 gtI (d1 aG (ak 1)) (cI 12))) fg dNx) G)) (aP 4 2 [.bor (.lst (ks.map .str)),.v (.lst (ts.map dT4))])=G [some (.bor (.lst (ks.map .str))),some (.v (.lst (ts.map dT4))),none,none]:=by intro G;simp[b,p,o,m]
 obtain⟨w,u,y,rfl⟩:=dY (st:=setV 2) (body:=(dIf (cw (asB (am P (aV (getV 2) nA)))) fg dNx)) (fun ρ=>∃x,ρ=[some (.bor (.lst (ks.map .str))),some (.v (.lst (ts.map dT4))),x,none]) (ds:=ks.map .str) (ρ:=[some (.bor (.lst (ks.map .str))),some (.v (.lst (ts.map dT4))),none,none]) ⟨_,rfl⟩ (by
  rintro d c _ ⟨x,rfl⟩;obtain⟨k,a,rfl⟩:=Yv.mp c;have:=j k (g.2 k a);refine⟨[some (.bor (.lst (ks.map .str))),some (.v (.lst (ts.map dT4))),some (.v (.str k)),none],rfl,[some (.bor (.lst (ks.map .str))),some (.v (.lst (ts.map dT4))),some (.v (.str k)),none],?_,_,rfl⟩;simp[this])
 obtain⟨z,s,A,rfl⟩:=dY (st:=setV 3) (body:=(dIf (cw (asB (am T (aB 3 (aV (d1 aG (ak 0)) nA))))) fg dNx)) (fun ρ=>∃l,ρ=[some (.bor (.lst (ks.map .str))),some (.v (.lst (ts.map dT4))),y,l]) (ds:=ts.map dT4) (ρ:=[some (.bor (.lst (ks.map .str))),some (.v (.lst (ts.map dT4))),y,none]) ⟨_,rfl⟩ (by
  rintro d c _ ⟨x,rfl⟩;obtain⟨k,a,rfl⟩:=Yv.mp c;have:=i k (e.2 k a);refine⟨[some (.bor (.lst (ks.map .str))),some (.v (.lst (ts.map dT4))),y,some (.v (dT4 k))],rfl,[some (.bor (.lst (ks.map .str))),some (.v (.lst (ts.map dT4))),y,some (.v (dT4 k))],?_,_,rfl⟩;simp[b,this])
 rw[o0,q,aj (bC (ds:=ks.map D.str) rfl u),bC (ds:=ts.map dT4) rfl s];rfl
def y0(C:Addr)(ks:List Str)(ts:List T4)(n:Int)(p:1<=n/\n<=7)(q:okK n ks)(h:okS n ts):∃J,g8 C (.ins C []) [.bor (.lst (ks.map .str)),.v (.lst (ts.map dT4))]=some (.ins C (wFs ks (.lst (srt ts)) J),.non):=by
 have f:=t9 C ks ts n p q h;have g:=lc C;obtain⟨u,j,m⟩:=mF (ts.map lf);obtain⟨a,i⟩:=xN C u (by rw[m.length_eq,Yb];exact h.1);have c:=kI (ts.map lf) (by rw[Yb];have:=h.1;omega);refine⟨.dT a,kj rfl rfl fun x=>⟨.nx [some (.own (.ins C (wFs ks (.lst (srt ts)) (.dT a))) (some x)),some (.bor (.lst (ks.map .str))),some (.v (.lst (ts.map dT4)))],?_,rfl,rfl⟩⟩;unfold C4;generalize sX C=R at f ⊢;generalize bO C=L at g ⊢;generalize c9 C=J at i ⊢;have b:srt ts=u.map dT4:=j;rw[b];have l:cD (setV 0) aX (am L (aV (getV 0) nA)) [none] (ts.map dT4)=some ((ts.map lf).map dT4):=by
  rw[YR];refine bN dT4 _ ts fun t _=>⟨[some (.v (dT4 t))],rfl,rfl,?_⟩
  simp[g]
 have o:ts.length<=16777216:=by have:=h.1;omega
 generalize (am L (aV (getV 0) nA))=E at l ⊢;generalize (ts.map lf).map dT4=X at *;have s:∀fs:List (Str×D),aL C "ties" (.ins C [("kinds",.lst (ks.map .str)),("ties",.lst (u.map dT4))])=some (.lst (u.map dT4)):=by intro _;rw[fU];simp[List.lookup,b1]
 have e:=s [];generalize u.map dT4=Y,hX:ts.map dT4=Z at *;have w:Z.length<=16777216:=by rw[<-hX,Yb];exact o
 simp[f,iH,iA,iu,bc,w,l,c,j,e,i,n1,n2,n3,wFs]
def cod(o:Bool):Int:=if o=true then 1 else 0
def Be(a b k:Int)(o:Bool)(c:a≠b)(t:T4):(prs a b t).count (k,cod o)=if lf t=lf (a,b,k,o)then 1 else 0:=by
 obtain⟨x,y,z,w⟩:=t;unfold prs lf cod;by_cases e:x=a/\y=b
 ·obtain⟨rfl,rfl⟩:=e;have n2:¬(y=x/\x=y):=fun h=>c h.2
  simp only[n2,and_self,XC,Vk,YU];cases w<;>cases o<;>simp only[ZX,List.count_nil]<;>(repeat' split)<;>simp_all<;>omega
 ·by_cases f:y=a/\x=b
  ·obtain⟨rfl,rfl⟩:=f;simp only[e,and_self,XC,Vk,List.nil_append];cases w<;>cases o<;>simp only[ZX,List.count_nil]<;>(repeat' split)<;>simp_all<;>omega
  ·simp only[e,f,Vk,YU,List.count_nil];cases w<;>cases o<;>(repeat' split)<;>simp_all<;>omega
def vj(a b k:Int)(o:Bool)(c:a≠b):∀ts:List T4,(ts.map lf).count (lf (a,b,k,o))=(aR a b ts).count (k,cod o)
 |[]=>rfl
 |t::ts=>by
  have h:=Be a b k o c t;rw[Yx,ZX,vj a b k o c ts];show _=(prs a b t++aR a b ts).count (k,cod o);rw[List.count_append,h];by_cases e:lf t=lf (a,b,k,o)
  ·rw[e,beq_self_eq_true,Yh rfl,Yh rfl];exact Nat.add_comm ..
  ·have:(lf t == lf (a,b,k,o))=false:=by simpa using e
   rw[this,Yl Yk,Yl e,Nat.add_zero,YZ]
def zo{ps:List (Int×Int)}(h:bw ps qs=true)(q:Int×Int):ps.count q<=qs.count q:=by
 unfold bw at h;by_cases m:q∈ps
 ·simpa using Yr.mp h q m
 ·rw[Vm.mpr m];exact YO _
def CI(a b k:Int):lf (a,b,k,false)=lf (b,a,k,false):=by
 unfold lf;simp only[XD,false_or]
 (repeat' split)<;>first|rfl|(simp only[XH,and_true];omega)|omega
def v8(t:T4):lf t=t\/(t.2.2.2=false/\lf t=(t.2.1,t.1,t.2.2.1,false)):=by
 unfold lf;split
 ·exact .inl rfl
 ·rename_i h;have:t.2.2.2=false:=by cases e:t.2.2.2<;>simp_all
  exact .inr ⟨this,by rw[this]⟩
def EY(f:Int->Int)(t:T4):lf (f (lf t).1,f (lf t).2.1,(lf t).2.2.1,(lf t).2.2.2)=lf (f t.1,f t.2.1,t.2.2.1,t.2.2.2):=by
 rcases v8 t with h|⟨h,e⟩
 ·rw[h]
 ·rw[e,h];exact CI ..
def Bk{f:Int->Int}{n:Int}(m:∀x y,0<=x/\x<n->0<=y/\y<n->f x=f y->x=y){t u:T4}(i:0<=t.1/\t.1<n/\0<=t.2.1/\t.2.1<n)(c:0<=u.1/\u.1<n/\0<=u.2.1/\u.2.1<n)
  (e:lf (f t.1,f t.2.1,t.2.2.1,t.2.2.2)=lf (f u.1,f u.2.1,u.2.2.1,u.2.2.2)):lf t=lf u:=by
 obtain⟨a,b,k,o⟩:=t;obtain⟨l,j,s,p⟩:=u;dsimp only at *;have q:k=s/\o=p/\((f a=f l/\f b=f j)\/(o=false/\f a=f j/\f b=f l)):=by
  rcases v8 (f a,f b,k,o)with h|⟨h,h'⟩<;>rcases v8 (f l,f j,s,p)with g|⟨g,g'⟩
  ·rw[h,g]at e;simp only[XH]at e;exact⟨e.2.2.1,e.2.2.2,.inl ⟨e.1,e.2.1⟩⟩
  ·rw[h,g']at e;simp only[XH]at e;exact⟨e.2.2.1,e.2.2.2.trans g.symm,.inr ⟨e.2.2.2,e.1,e.2.1⟩⟩
  ·rw[h',g]at e;simp only[XH]at e;exact⟨e.2.2.1,(show o=false from h).trans e.2.2.2,.inr ⟨h,e.2.1,e.1⟩⟩
  ·rw[h',g']at e;simp only[XH]at e;exact⟨e.2.2.1,(show o=false from h).trans (show p=false from g).symm,.inl ⟨e.2.1,e.1⟩⟩
 obtain⟨rfl,rfl,h|⟨rfl,h⟩⟩:=q
 ·rw[m a l ⟨i.1,i.2.1⟩ ⟨c.1,c.2.1⟩ h.1,m b j i.2.2 c.2.2 h.2]
 ·rw[m a j ⟨i.1,i.2.1⟩ c.2.2 h.1,m b l i.2.2 ⟨c.1,c.2.1⟩ h.2];exact CI ..
def E8{f:Int->Int}{n:Int}{L W:List T4}(o:∀x y,0<=x/\x<n->0<=y/\y<n->f x=f y->x=y)(q:∀t∈L,okT n t)(hw:∀i j,0<=i/\i<n->0<=j/\j<n->i≠j->bw (aR i j L) (aR (f i) (f j) W)=true)(p:T4->Bool)(x:T4) :
  ((L.filter p).map fun t=>lf (f t.1,f t.2.1,t.2.2.1,t.2.2.2)).count x<=(W.map lf).count x:=by
 by_cases m:x∈(L.filter p).map fun t=>lf (f t.1,f t.2.1,t.2.2.1,t.2.2.2)
 ·obtain⟨t0,w,rfl⟩:=Yv.mp m;have c:=q t0 (Zu.mp w).1;obtain⟨l,g,b1,b2,b,_⟩:=c;have a:f t0.1≠f t0.2.1:=fun e=>b (o _ _ ⟨l,g⟩ ⟨b1,b2⟩ e)
  rw[vj _ _ _ _ a,List.count_eq_countP,List.countP_map];refine YC (List.Sublist.countP_le List.filter_sublist) (YC ?_ (zo (hw t0.1 t0.2.1 ⟨l,g⟩ ⟨b1,b2⟩ b) _));have u:=vj t0.1 t0.2.1 t0.2.2.1 t0.2.2.2 b L;rw[<-u,List.count_eq_countP,List.countP_map];refine List.countP_mono_left fun t s e=>?_;have h:=q t s;simp only[Function.comp,Zz]at e ⊢;exact Bk o ⟨h.1,h.2.1,h.2.2.1,h.2.2.2.1⟩ ⟨l,g,b1,b2⟩ e
 ·rw[Vm.mpr m];exact YO _
def bW:List T4->List T4->List T4
 |[],b=>b
 |x::xs,b=>bW xs (b.erase x)
def mY:∀(xs b:List T4) (y:T4),(bW xs b).count y=b.count y-xs.count y
 |[],b,y=>by simp[bW]
 |x::xs,b,y=>by
  unfold bW;rw[mY xs,List.count_erase,ZX];omega
def wT{xs ys b c:List T4}(h1:xs.Perm ys)(h2:b.Perm c):(bW xs b).Perm (bW ys c):=List.perm_iff_count.mpr fun y=>by rw[mY,mY,h1.count_eq,h2.count_eq]
def ip:∀(xs b:List T4),(bW xs b).Sublist b
 |[],b=>List.Sublist.refl _
 |x::xs,b=>(ip xs (b.erase x)).trans List.erase_sublist
def mO(x:Int)(w:List Int):cn (.int x) (.lst (w.map .int))=some (.bl (!(w.any fun z=>decide (z=x)))):=by
 have h:(okN 30 (.int x)&&(w.map D.int).all (okN 29))=true:=by have:(w.map D.int).all (okN 29)=true:=sM w;rw[this];rfl
 show(if(okN 30 (.int x)&&(w.map D.int).all (okN 29))=true then some (D.bl (!((w.map D.int).any fun z=>eqd z (.int x))))else none)=_;rw[Yh h,List.any_map];have e:(fun z=>eqd z (D.int x)) ∘ D.int=fun z=>decide (z=x):=funext fun z=>gx z x
 rw[e]
def dB(w:List Int)(x:Int):(w.any fun z=>decide (z=x))=decide (x∈w):=by rw[ZQ];simp
def al(o:List Int)(N:Int):List Int:=(aH N).filter fun p=>!(o.any fun z=>decide (z=p))
def gm{o:List Int}{x:Int}:x∈al o N↔(0<=x/\x<N)/\x∉o:=by unfold al;rw[Zu,bT,dB];simp
def rD(o:List Int)(N:Int):(al o N).Nodup:=(nt N).filter _
def pw(o:List Int)(N:Int):(al o N).length<=N.toNat:=by rw[<-bq N];exact ZF ..
def A6{κ:Type}[DecidableEq κ]{a:List (κ×D)}{k:κ}{v:D}(h:∀p∈a,p.1≠k):eC a k v=a++[(k,v)]:=by unfold eC;rw[Yl];intro z;obtain⟨p,b,e⟩:=List.any_eq_true.mp z;exact h p b (YI e)
def pC:∀(kvs a:List (Key×D)),(a++kvs).Pairwise (fun p q=>p.1≠q.1)->k6 a kvs=a++kvs
 |[],a,_=>(YU a).symm
 |p::kvs,a,h=>by
  have c:((a++[p])++kvs).Pairwise (fun p q=>p.1≠q.1):=by rw[ZO];exact h
  show k6 (eC a p.1 p.2) kvs=_;rw[A6 (fun q b=>(List.pairwise_append.mp h).2.2 q b p Yf),pC kvs (a++[p]) c,ZO];rfl
def fC(l:List Int)(n:Nat):List (Key×D):=(l.zipIdx n).map fun q=>(.inl q.1,.int (q.2:Int))
def xV(x:Int):∀(l:List Int) (n:Nat),x∈l->cZ (fC l n) (.inl x:Key)=some (.int ((n+l.idxOf x:Nat):Int))
 |[],_,h=>by cases h
 |y::l,n,h=>by
  unfold fC;rw[Xg,Yx,cb,List.idxOf_cons];by_cases e:y=x
  ·subst e;rw[Yh rfl];simp
  ·rw[Yl (fun z=>e (Vs z))];have a:x∈l:=(YH.mp h).resolve_left fun z=>e z.symm
   have:=xV x l (n+1) a;unfold fC at this;rw[this];have b:(y == x)=false:=by simpa using e
   rw[b];simp only[cond_false]
   congr 3
   omega
def zt:∀(l:List Int) (n:Nat),l.Nodup->(fC l n).Pairwise fun p q=>p.1≠q.1
 |[],_,_=>.nil
 |y::l,n,h=>by
  unfold fC;rw[Xg,Yx];refine .cons (fun q b=>?_) (zt l (n+1) (ZV.mp h).2);obtain⟨z,a,rfl⟩:=Yv.mp b;intro e;have c:y=z.1:=Vs e;exact(ZV.mp h).1 (c ▸ List.fst_mem_of_mem_zipIdx a)
def pI:∀(l:List Int) (n:Nat),gD ((l.zipIdx n).map fun q=>D.tup [.int q.1,.int (q.2:Int)])=some (fC l n)
 |[],_=>rfl
 |y::l,n=>by
  have ih:=pI l (n+1);rw[Xg,Yx];show(gD _).map _=_;rw[ih];unfold fC;rw[Xg,Yx];rfl
def unT(d:D):T4:=match d with
 |.tup [.int a,.int b,.int c,.bl o]=>(a,b,c,o)
 |_=>(0,0,0,false)
def Fk(a b:T4):eqd (dT4 a) (dT4 b)=decide (a=b):=by
 rw[ZQ,df (dT4 a) (dT4 b) rfl,Yu];constructor
 ·intro h;exact Zn unT h
 ·rintro rfl;rfl
def CT(x:T4):∀B:List T4,x∈B->iX (dT4 x) (B.map dT4)=some (B.idxOf x)
 |[],h=>by cases h
 |y::B,h=>by
  rw[Yx];unfold iX;rw[Fk,List.idxOf_cons];by_cases e:y=x
  ·subst e;simp
  ·have a:x∈B:=(YH.mp h).resolve_left fun z=>e z.symm
   have b:(y == x)=false:=by simpa using e
   rw[CT x B a,b,Yl (by simpa using e)];rfl
def pV{b c:Type}(f:b->c):∀(l:List b) (j:Nat),(l.eraseIdx j).map f=(l.map f).eraseIdx j
 |[],_=>rfl
 |_::_,0=>rfl
 |a::l,j+1=>Zn (f a::·) (pV f l j)
def zR{B:List T4}{x:T4}{t:Option Addr}(h:ρ[i]?=some (some (.own (.lst (B.map dT4)) t)))(a:f ρ=some (dT4 x))(hx:x∈B):qO i f ρ=some (.nx (ρ.set i (some (.own (.lst ((B.erase x).map dT4)) t)))):=by
 unfold qO;rw[h,a];dsimp only;have ok:((B.map dT4).all (okN 29)&&okN 30 (dT4 x))=true:=by rw[List.all_map,Yg];exact⟨Yr.mpr fun _ _=>rfl,rfl⟩
 rw[Yh ok,CT x B hx,List.erase_eq_eraseIdx_of_idxOf rfl,pV];rfl
def kT{σ:Type}(g:T4->T4)(p:T4->Bool)(P:T4->Prop)(F:List T4->σ->DF)
  (c:∀t B y,P t->(p t=true->g t∈B)->∃a b,st (dT4 t) (F B y)=some a/\body a=some (.nx (F (if p t=true then B.erase (g t)else B) b))) :
  ∀(ts B:List T4) (y:σ),(∀t∈ts,P t)->(∀x,((ts.filter p).map g).count x<=B.count x)->∃b,dj st body (ts.map dT4) (F B y)=some (.nx (F (bW ((ts.filter p).map g) B) b))
 |[],B,y,_,_=>⟨y,rfl⟩
 |t::ts,B,y,hP,hc=>by
  have l:p t=true->g t∈B:=fun e=>by
   have:=hc (g t);rw[Xf e,Yx,List.count_cons_self]at this;exact List.count_pos_iff.mp (by omega)
  obtain⟨a,i,q,o⟩:=c t B y (hP t Yf) l;have h:∀x,((ts.filter p).map g).count x<=(if p t=true then B.erase (g t)else B).count x:=fun x=>by
   have:=hc x;by_cases e:p t=true
   ·rw[Xf e,Yx,ZX]at this;rw[Yh e,List.count_erase];omega
   ·rw[XI e]at this;rw[Yl e];exact this
  obtain⟨f,m⟩:=kT g p P F c ts _ i (fun t j=>hP t (Yd _ j)) h;refine⟨f,?_⟩;rw[Yx];unfold dj;rw[q];dsimp only;rw[o];dsimp only;rw[m];by_cases e:p t=true
  ·rw[Xf e,Yx,Yh e];rfl
  ·rw[XI e,Yl e]
def Aa(ts us:List T4)(p:(us.map lf).Perm (ts.map lf)):srt us=srt ts:=by unfold srt;exact jq (p.map dT4) (vP _)
def qG{c:Dk}{e:Dd}{b:Type}(f F:b->D)(q:b->Bool):∀xs:List b,(∀x∈xs,∃a,st (f x) ρ=some a/\c a=some (q x)/\(q x=true->e a=some (F x)))->cD st c e ρ (xs.map f)=some ((xs.filter q).map F)
 |[],_=>rfl
 |x::xs,h=>by
  obtain⟨a,l,j,i⟩:=h x Yf;have ih:=qG f F q xs fun y g=>h y (Yd _ g)
  rw[Yx];unfold cD;rw[l,Ya,j,Ya];by_cases e:q x=true
  ·rw[Yh e,i e,Ya,ih,Xf e];rfl
  ·rw[Yl e,ih,XI e]
def T0(t:T4):ixD (dT4 t) (.int 0)=some (.int t.1):=rfl
def T1(t:T4):ixD (dT4 t) (.int 1)=some (.int t.2.1):=rfl
def amB(w:List Int)(t:T4):Bool:=(w.any fun z=>decide (z=t.1))&&(w.any fun z=>decide (z=t.2.1))
def tt(C:Addr)(ts:List T4)(w:List Int)(g:ts.length<=100):dg C [.v (.lst (ts.map dT4)),.v (.lst (w.map .int))]=some (.own (.lst ((ts.filter (amB w)).map dT4)) none):=by
 have f:cD (setV 0) (dN (asB (d2 inD (d2 ixD (aa 0) (cI 0)) (ak 1))) (asB (d2 inD (d2 ixD (aa 0) (cI 1)) (ak 1)))) (getV 0) [none,some (.v (.lst (w.map .int)))] (ts.map dT4)=some ((ts.filter (amB w)).map dT4):=by
  refine qG dT4 dT4 (amB w) ts fun t _=>⟨[some (.v (dT4 t)),some (.v (.lst (w.map .int)))],rfl,?_,fun _=>rfl⟩
  have c:=Ev t.1 w;have e:=Ev t.2.1 w;have b:=T0 t;have a:=T1 t;unfold amB;generalize dT4 t=d,w.map D.int=W,(w.any fun z=>decide (z=t.1))=b1,(w.any fun z=>decide (z=t.2.1))=b2 at *;cases b1<;>cases b2<;>simp[b,a,c,e]
 have l:(ts.map dT4).length<=16777216:=by rw[Yb];omega
 unfold dg jM;generalize (dN (asB (d2 inD (d2 ixD (aa 0) (cI 0)) (ak 1))) (asB (d2 inD (d2 ixD (aa 0) (cI 1)) (ak 1))))=E,(ts.filter (amB w)).map dT4=R,ts.map dT4=T,w.map D.int=W at *;rw[o0];show dG (dC _ [some (.v (.lst T)),some (.v (.lst W))])=_;have h:aw 1 [1] (bA 0) (setV 0) E (getV 0) [some (.v (.lst T)),some (.v (.lst W))]=some R:=by rw[bc,show bA 0 [some (.v (.lst T)),some (.v (.lst W))]=some T from rfl,Ya,Yh l];exact f
 rw[fK,cz,h];rfl
abbrev B_:DF->Option D:=(asT (ae (orE (d2 ixD (aa 4) (aa 0)) (d2 lq (aa 4) (getV 0))) (ae (orE (d2 ixD (aa 4) (aa 1)) (d2 lq (aa 4) (getV 1))) (ae (getV 2) (ae (getV 3) aC)))))
def wb(C:Addr)(ts us:List T4)(b:D)(c:ts.length<=100)(h:cD (b5 [0,1,2,3]) aX B_ [none,none,none,none,some (.v b)] (ts.map dT4)=some (us.map dT4)):fi C [.v (.lst (ts.map dT4)),.v b]=some (.own (.lst (us.map dT4)) none):=by
 have l:(ts.map dT4).length<=16777216:=by rw[Yb];omega
 unfold fi CF;generalize us.map dT4=R,ts.map dT4=T at *;rw[o0];show dG (dC _ [some (.v (.lst T)),some (.v b)])=_;have a:aw 4 [1] (bA 0) (b5 [0,1,2,3]) aX B_ [some (.v (.lst T)),some (.v b)]=some R:=by rw[bc,show bA 0 [some (.v (.lst T)),some (.v b)]=some T from rfl,Ya,Yh l];exact h
 rw[fK,cz,a];rfl
def xW{g:Dd} :orE f g ρ=match f ρ with|some d=>some d|none=>g ρ:=rfl
def sQ(C:Addr)(ts:List T4)(b:List Int)(c:ts.length<=100)(h:∀t∈ts,(0<=t.1/\t.1<(b.length:Int))/\(0<=t.2.1/\t.2.1<(b.length:Int))):fi C [.v (.lst (ts.map dT4)),.v (.lst (b.map .int))]=some (.own (.lst ((ts.map (bB b)).map dT4)) none):=by
 refine wb C ts _ _ c ?_;rw[YR];refine bN dT4 _ ts fun t a=>⟨[some (.v (.int t.1)),some (.v (.int t.2.1)),some (.v (.int t.2.2.1)),some (.v (.bl t.2.2.2)),some (.v (.lst (b.map .int)))],rfl,rfl,?_⟩
 have f:=gl (h t a).1;have e:=gl (h t a).2;generalize b.map D.int=B at *;simp[B_,xW,f,e,dT4,bB]
def idT(l:List Int)(t:T4):T4:=((l.idxOf t.1:Int),(l.idxOf t.2.1:Int),t.2.2.1,t.2.2.2)
def yt(C:Addr)(ts:List T4)(l:List Int)(e:ts.length<=100)(h:∀t∈ts,t.1∈l/\t.2.1∈l):fi C [.v (.lst (ts.map dT4)),.v (.dK (fC l 0))]=some (.own (.lst ((ts.map (idT l)).map dT4)) none):=by
 refine wb C ts _ _ e ?_;rw[YR];refine bN dT4 _ ts fun t a=>⟨[some (.v (.int t.1)),some (.v (.int t.2.1)),some (.v (.int t.2.2.1)),some (.v (.bl t.2.2.2)),some (.v (.dK (fC l 0)))],rfl,rfl,?_⟩
 have b:∀x,x∈l->lq (.dK (fC l 0)) (.int x)=some (.int (l.idxOf x:Int)):=fun x c=>by
  show cZ (fC l 0) (.inl x:Key)=_;rw[xV x l 0 c,YZ]
 have g:=b _ (h t a).1;have f:=b _ (h t a).2;have n1:∀x,ixD (.dK (fC l 0)) (.int x)=none:=fun _=>rfl
 generalize D.dK (fC l 0)=B at *;simp[B_,xW,g,f,n1,dT4,idT]
def yj{n:Int}(h:f ρ=some (.int n))(a:0<=n/\n<=1000):l6 f ρ=some ((aH n).map .int):=by unfold l6;rw[h];simp only;rw[Yh (by omega),iR]
def Bb(C:Addr)(k:Int)(h:0<=k/\k<=1000):nB C [.v (.int k)]=some (.own (.lst ((aH k).map .int)) none):=by unfold nB Ac;rw[n4];show dG (dC (asL (l6 (getV 0))) [some (.v (.int k))])=_;rw[fK,cz,yj rfl h];rfl
def gZ(q:List D):OD.d (.lst q)=.lst q:=rfl
def BD(C:Addr)(R L W:D)(r st:List Int)(u a:List T4)(k:Int)(h1:aL C "ties" W=some (.lst (a.map dT4)))(h2:aL az "left" R=some L)(o:aL C "ties" L=some (.lst (u.map dT4)))(m:aL az "kept" R=some (.int k))
  (g:0<=k/\k<=(r.length:Int)) (E:r.length<=100) (l:u.length<=100) (b:a.length<=100)
  (i:∀x,(((u.filter (amB (aH k))).map (bB r)).map lf).count x<=(a.filter (amB st)).count x) :
  cH C [.v R,.v W,.v (.lst (r.map .int)),.v (.lst (st.map .int))]=some (.own (.lst ((bW (((u.filter (amB (aH k))).map (bB r)).map lf) (a.filter (amB st))).map dT4)) none):=by
 have z:=tt C a st b;have w:=tt C u (aH k) l;have s:=Bb C k ⟨g.1,by omega⟩;have p:(u.filter (amB (aH k))).length<=100:=YC (ZF ..) l;have q:=sQ C (u.filter (amB (aH k))) r p (fun t c=>by
  have h:=(Zu.mp c).2;unfold amB at h;rw[dB,dB,Yg,Yu,Yu,bT,bT]at h;omega)
 have j:=lc C;unfold cH lG;generalize dg C=Am,nB C=Sa,fi C=Le,bO C=A at *;rw[Av];show dG ((ap _ (ap _ _)) [some (.v R),some (.v W),some (.v (.lst (r.map .int))),some (.v (.lst (st.map .int))),none,none])=_;obtain⟨y,e⟩:=kT (σ:=Option DV) (st:=setV 5) (body:=qO 4 (am A (aV (getV 5) nA))) lf (fun _=>true) (fun _=>True)
  (fun B y=>[some (.v R),some (.v W),some (.v (.lst (r.map .int))),some (.v (.lst (st.map .int))),some (.own (.lst (B.map dT4)) none),y]) (fun t B y _ f=>by
   refine⟨[some (.v R),some (.v W),some (.v (.lst (r.map .int))),some (.v (.lst (st.map .int))),some (.own (.lst (B.map dT4)) none),some (.v (dT4 t))],some (.v (dT4 t)),rfl,?_⟩;rw[zR (B:=B) (x:=lf t) (t:=none) rfl (by
    have:=j t;generalize dT4 t=d,dT4 (lf t)=H at *;simp[this]) (f rfl),Yh rfl]
   rfl) ((u.filter (amB (aH k))).map (bB r)) (a.filter (amB st)) none (fun _ _=>trivial) (fun x=>by
    rw[List.filter_eq_self.mpr (fun _ _=>rfl)];exact i x)
 rw[List.filter_eq_self.mpr (fun _ _=>rfl)]at e;generalize bW (((u.filter (amB (aH k))).map (bB r)).map lf) (a.filter (amB st))=TO,((u.filter (amB (aH k))).map (bB r)).map dT4=D2,(a.filter (amB st)).map dT4=D1,(u.filter (amB (aH k))).map dT4=D3,(aH k).map D.int=D4,a.map dT4=U1,u.map dT4=U2,r.map D.int=RR,st.map D.int=S at *;rw[aj (ρ':=[some (.v R),some (.v W),some (.v (.lst RR)),some (.v (.lst S)),some (.own (.lst D1) none),none]) (by simp[h1,z]),
  aj (ρ':=[some (.v R),some (.v W),some (.v (.lst RR)),some (.v (.lst S)),some (.own (.lst (TO.map dT4)) none),y]) (bC (by simp[h2,o,m,s,w,q,gZ]) e)]
 rfl
def DR(C:Addr)(ks:List Str)(T J:D)(n:Int)(b:(ks.length:Int)=n)(ρ:DF)(f:Dd)(h:f ρ=some (.ins C (wFs ks T J))):bf C "size" (aM C) (br (l_ f) g0) ρ=some (.int n):=by
 have c:aM C [.v (.ins C (wFs ks T J))]=some (.v (.int n)):=by have:=cT C ks T J;generalize wFs ks T J=F at this;simp[aM,gO,this,b]
 have a:br (l_ f) g0 ρ=some [.v (.ins C (wFs ks T J))]:=by unfold br l_ g0;rw[h];rfl
 unfold bf;rw[a,Ya,Yh (qD (qS ks T J) _),c];rfl
def aD(r:List Int)(k nR:Int)(st:List Int):List Int:=(r.take k.toNat).map (fun p=>(st.idxOf p:Int))++(aH (nR-k)).map (fun i=>(st.length:Int)+i)
def plA(st l:List Int)(h:∀x∈l,x∈st):cD (setV 0) aX (d2 f8 (ak 1) (ak 0)) [none,some (.v (.lst (st.map .int)))] (l.map .int)=some ((l.map fun p=>(st.idxOf p:Int)).map .int):=by
 rw[YR];refine bN D.int _ l fun x a=>⟨[some (.v (.int x)),some (.v (.lst (st.map .int)))],rfl,rfl,?_⟩
 have e:=rB (h x a);generalize st.map D.int=S at *;simp[e]
def plB(st l:List Int):cD (setV 0) aX (d2 bb (d1 aG (ak 1)) (aa 0)) [none,some (.v (.lst (st.map .int)))] (l.map .int)=some ((l.map fun i=>(st.length:Int)+i).map .int):=by
 rw[YR];refine bN D.int _ l fun x h=>⟨[some (.v (.int x)),some (.v (.lst (st.map .int)))],rfl,rfl,?_⟩
 have e:(st.map D.int).length=st.length:=Yb ..;generalize st.map D.int=S at *;simp[e]
def xf(C:Addr)(R:D)(ksR:List Str)(T J:D)(r st:List Int)(k nR:Int)(h2:aL az "right" R=some (.ins C (wFs ksR T J)))(c:aL az "kept" R=some (.int k))(s:(ksR.length:Int)=nR)(q:0<=k/\k<=nR)(L:nR<=7)(K:r.length<=8)(o:∀x∈r.take k.toNat,x∈st) :
  bD C [.v R,.v (.lst (r.map .int)),.v (.lst (st.map .int))]=some (.own (.lst ((aD r k nR st).map .int)) none):=by
 have E:=plA st (r.take k.toNat) o;have z:=plB st (aH (nR-k));have I:((r.take k.toNat).map D.int).length<=8:=by rw[Yb,YF];omega
 have H:((aH (nR-k)).map D.int).length<=7:=by rw[Yb,bq];omega
 have e:(((r.take k.toNat).map fun p=>(st.idxOf p:Int)).map D.int).length<=8:=by rw[Yb,Yb,YF];omega
 have l:(((aH (nR-k)).map fun i=>(st.length:Int)+i).map D.int).length<=7:=by rw[Yb,Yb,bq];omega
 have y:cE (r.map D.int) none (some k)=(r.take k.toNat).map .int:=by rw[iL _ q.1,List.map_take]
 unfold aD;rw[YT];have m:∀a:DF,a[0]?=some (some (.v R))->bf C "size" (aM C) (br (l_ (d1 (aL az "right") (aa 0))) g0) a=some (.int nR):=fun a b=>DR C ksR T J nR s a _ (by simp[b,h2])
 have h:∀a:DF,a[3]?=some (some (.v (.int (nR-k))))->bJ (aa 3) a=some ((aH (nR-k)).map .int):=fun a b=>dq (by simp[b]) ⟨by omega,by omega⟩
 unfold bD fT;generalize (bf C "size" (aM C) (br (l_ (d1 (aL az "right") (aa 0))) g0))=Z,(d2 f8 (ak 1) (ak 0))=E1,(d2 bb (d1 aG (ak 1)) (aa 0))=E2,bJ (aa 3)=RG,((r.take k.toNat).map fun p=>(st.idxOf p:Int)).map D.int=A,((aH (nR-k)).map fun i=>(st.length:Int)+i).map D.int=B,(r.take k.toNat).map D.int=A0,(aH (nR-k)).map D.int=B0,r.map D.int=RR,st.map D.int=S at *;rw[j6];show dG ((ap _ _) [some (.v R),some (.v (.lst RR)),some (.v (.lst S)),none])=_;rw[aj (ρ':=[some (.v R),some (.v (.lst RR)),some (.v (.lst S)),some (.v (.int (nR-k)))]) (by simp[m,c])];have j:A0.length<=16777216:=by omega
 have g:B0.length<=16777216:=by omega
 have f:A.length+B.length<=16777216:=by omega
 have w:aw 1 [2] (bK (asO (asL (slL (aa 1) bNo (bI (d1 (aL az "kept") (aa 0))))))) (setV 0) aX E1 [some (.v R),some (.v (.lst RR)),some (.v (.lst S)),some (.v (.int (nR-k)))]=some A:=by rw[bc,show bK (asO (asL (slL (aa 1) bNo (bI (d1 (aL az "kept") (aa 0)))))) [some (.v R),some (.v (.lst RR)),some (.v (.lst S)),some (.v (.int (nR-k)))]=some A0 from by simp[fY,c,y,gZ],Ya,Yh j];exact E
 have u:aw 1 [2] RG (setV 0) aX E2 [some (.v R),some (.v (.lst RR)),some (.v (.lst S)),some (.v (.int (nR-k)))]=some B:=by rw[bc,h _ rfl,Ya,Yh g];exact z
 rw[fK,cz,rg,da,cz,w,da,cz,u];show dG (Option.map _ (Option.map _ (if A.length+B.length<=16777216 then some (A++B)else none)))=_;rw[Yh f];rfl
def om(pl:List Int)(b:List Str):List Int->List Str->List Str
 |[],ks=>ks
 |a::as,ks=>om pl b as (ks.set (bx pl a).toNat (kAt b a))
def jG(pl:List Int)(b:List Str):∀(as:List Int) (ks:List Str),(om pl b as ks).length=ks.length
 |[],_=>rfl
 |a::as,ks=>by
  show(om pl b as (ks.set _ _)).length=_;rw[jG pl b as,YQ]
def yK(pl:List Int){e:List Str}:∀(as:List Int) (ks:List Str),(∀a∈as,okW (kAt e a))->(∀x∈ks,okW x)->∀x∈om pl e as ks,okW x
 |[],_,_,h=>h
 |a::as,ks,ha,h=>yK pl as _ (fun b f=>ha b (Yd _ f)) fun x c=>by
  rcases List.mem_or_eq_of_mem_set c with c|rfl
  ·exact h x c
  ·exact ha a Yf
def k8(pl:List Int)(e:List Str)(m:Nat)(F:List Str->Option DV->DF):∀(as:List Int) (ks:List Str) (y:Option DV),ks.length=m->
  (∀a∈as,∀(ks:List Str) (y:Option DV),ks.length=m->∃c f,st (.int a) (F ks y)=some c/\body c=some (.nx (F (ks.set (bx pl a).toNat (kAt e a)) f)))->∃f,dj st body (as.map .int) (F ks y)=some (.nx (F (om pl e as ks) f))
 |[],ks,y,_,_=>⟨y,rfl⟩
 |a::as,ks,y,hm,hb=>by
  obtain⟨c,i,o,l⟩:=hb a Yf ks y hm;obtain⟨g,j⟩:=k8 pl e m F as (ks.set (bx pl a).toNat (kAt e a)) i (by rw[YQ];exact hm) fun b h=>hb b (Yd _ h)
  refine⟨g,?_⟩;rw[Yx];unfold dj;rw[o];dsimp only;rw[l];dsimp only;rw[j];rfl
abbrev cF(R W:D)(r:List D)(x3 x4 x5 x6 x7:Option DV):DF:=[some (.v R),some (.v W),some (.v (.lst r)),x3,x4,x5,x6,x7]
def zX(r:List Int){k:Int}(h:0<=k):cE (r.map D.int) (some k) none=(r.drop k.toNat).map .int:=by rw[lh _ h,Vt]
def HQ(C:Addr)(R:D)(ks2:List Str)(T2 J:D)(N k:Int)(r:List Int)(i:aL az "kept" R=some (.int k))(f:0<=k)(hN:(ks2.length:Int)=N)(h:0<=N/\N<=7) :
  (aF 3 (asO (asL (aw 1 [2,0] (bJ (bf C "size" (aM C) (br (bR 1) g0))) (setV 0) (asB (d2 cn (ak 0) (asO (asL (slL (aa 1) (bI (d1 (aL az "kept") (aa 2))) bNo))))) (getV 0))))) (cF R (.ins C (wFs ks2 T2 J)) (r.map .int) none none none none none)=some (.nx (cF R (.ins C (wFs ks2 T2 J)) (r.map .int) (some (.v (.lst ((al (r.drop k.toNat) N).map .int)))) none none none none)):=by
 have j:=zX r f;have a:=vm C 1 ks2 T2 J N hN (cF R (.ins C (wFs ks2 T2 J)) (r.map .int) none none none none none) rfl;have c:=dq a ⟨h.1,by omega⟩;have m:cD (setV 0) (asB (d2 cn (ak 0) (asO (asL (slL (aa 1) (bI (d1 (aL az "kept") (aa 2))) bNo))))) (getV 0) [none,some (.v (.lst (r.map .int))),some (.v R)] ((aH N).map .int)=some ((al (r.drop k.toNat) N).map .int):=by refine fP (fun p=>!((r.drop k.toNat).any fun z=>decide (z=p))) (aH N) (fun x _=>?_) (XW _);have e:=mO x (r.drop k.toNat);generalize (r.drop k.toNat).map D.int=A,(!((r.drop k.toNat).any fun z=>decide (z=x)))=b,r.map D.int=B at *;simp[fY,i,j,gZ,e]
 have l:((aH N).map D.int).length<=16777216:=by rw[Yb,bq];omega
 generalize (asB (d2 cn (ak 0) (asO (asL (slL (aa 1) (bI (d1 (aL az "kept") (aa 2))) bNo)))))=E,(bJ (bf C "size" (aM C) (br (bR 1) g0)))=I,(aH N).map D.int=A,(al (r.drop k.toNat) N).map D.int=B,r.map D.int=RR,wFs ks2 T2 J=o at *;have g:aw 1 [2,0] I (setV 0) E (getV 0) (cF R (.ins C o) RR none none none none none)=some B:=by rw[bc,c,Ya,Yh l];exact m
 rw[gH,da,cz,g];rfl
def Fb(st:List Int):lU (st.map D.int)=st.zipIdx.map fun q=>D.tup [.int (q.2:Int),.int q.1]:=by unfold lU;rw[List.zipIdx_map,YR];rfl
def HP(C:Addr)(R W:D)(r st:List Int)(hd:st.Nodup)(i:st.length<=7) :
  (aF 4 (asO (pS (aw 2 [] (jd (getV 3)) (b5 [0,1]) aX (asT (ae (getV 1) (ae (getV 0) aC))))))) (cF R W (r.map .int) (some (.v (.lst (st.map .int)))) none none none none)=some (.nx (cF R W (r.map .int) (some (.v (.lst (st.map .int)))) (some (.v (.dK (fC st 0)))) none none none)):=by
 have f:cD (b5 [0,1]) aX (asT (ae (getV 1) (ae (getV 0) aC))) [none,none] (st.zipIdx.map fun q=>D.tup [.int (q.2:Int),.int q.1])=some (st.zipIdx.map fun q=>D.tup [.int q.1,.int (q.2:Int)]):=by
  refine bN (fun q:Int×Nat=>D.tup [.int (q.2:Int),.int q.1]) _ st.zipIdx fun q _=>⟨[some (.v (.int (q.2:Int))),some (.v (.int q.1))],rfl,rfl,?_⟩
  simp
 have h:=pI st 0;have b:k6 [] (fC st 0)=fC st 0:=pC (fC st 0) [] (zt st 0 hd);have a:(st.zipIdx.map fun q=>D.tup [.int (q.2:Int),.int q.1]).length<=16777216:=by rw[Yb,List.length_zipIdx];omega
 have l:(st.zipIdx.map fun q=>D.tup [.int q.1,.int (q.2:Int)]).length<=1000:=by rw[Yb,List.length_zipIdx];omega
 have c:jd (getV 3) (cF R W (r.map .int) (some (.v (.lst (st.map .int)))) none none none none)=some (st.zipIdx.map fun q=>D.tup [.int (q.2:Int),.int q.1]):=by show some (lU (st.map D.int))=_;rw[Fb]
 generalize (asT (ae (getV 1) (ae (getV 0) aC)))=E,(st.zipIdx.map fun q=>D.tup [.int (q.2:Int),.int q.1])=A,(st.zipIdx.map fun q=>D.tup [.int q.1,.int (q.2:Int)])=B,r.map D.int=g at *;have e:aw 2 [] (jd (getV 3)) (b5 [0,1]) aX E (cF R W g (some (.v (.lst (st.map .int)))) none none none none)=some B:=by rw[bc,c,Ya,Yh a];exact f
 rw[gH,da];unfold pS;rw[e,Ya,h,Ya,Yh l,b];rfl
def IA(C:Addr)(R W:D)(ksR:List Str)(T J:D)(r st:List Int)(k nR:Int)(x4:Option DV)(h2:aL az "right" R=some (.ins C (wFs ksR T J)))(g:aL az "kept" R=some (.int k))(f:(ksR.length:Int)=nR)(e:0<=k/\k<=nR)(c:nR<=7)(b:r.length<=8)(a:∀x∈r.take k.toNat,x∈st) :
  (aF 5 (am (bD C) (aB 0 (aB 2 (aB 3 nA))))) (cF R W (r.map .int) (some (.v (.lst (st.map .int)))) x4 none none none)=some (.nx (cF R W (r.map .int) (some (.v (.lst (st.map .int)))) x4 (some (.v (.lst ((aD r k nR st).map .int)))) none none)):=by
 have h:=xf C R ksR T J r st k nR h2 g f e c b a;generalize bD C=M,(aD r k nR st).map D.int=A,r.map D.int=RR,st.map D.int=S at *;simp[h,gZ]
def ms(ks2 a:List Str)(st:List Int)(k:Int):List Str:=st.map (kAt ks2)++a.drop k.toNat
def Fp{E:Dd}{st:List Int}(hN:(ks2.length:Int)=N)(a:∀x∈st,0<=x/\x<N)(b:∀x:Int,∀s:Str,ixD (.lst (ks2.map .str)) (.int x)=some (.str s)->E [some (.v (.int x)),some (.v W)]=some (.str s)):cD (setV 0) aX E [none,some (.v W)] (st.map .int)=some ((st.map (kAt ks2)).map .str):=by rw[YR];exact bN D.int _ st fun x h=>⟨[some (.v (.int x)),some (.v W)],rfl,rfl,b x _ (nW hN (a x h))⟩
def Iv(C:Addr)(R:D)(ks2 ksR:List Str)(T2 a T J:D)(r st:List Int)(k N:Int)(x4 x5:Option DV)(h2:aL az "right" R=some (.ins C (wFs ksR T J)))(i:aL az "kept" R=some (.int k))(c:0<=k)(u:ksR.length<=7)(q:st.length<=7)(hN:(ks2.length:Int)=N)(h:∀x∈st,0<=x/\x<N) :
  (bt 6 (asL (mw (asO (asL (aw 1 [1] (bA 3) (setV 0) aX (d2 ixD (d1 (aL C "kinds") (aa 1)) (aa 0))))) (asO (asL (slL (d1 (aL C "kinds") (d1 (aL az "right") (aa 0))) (bI (d1 (aL az "kept") (aa 0))) bNo)))))) (cF R (.ins C (wFs ks2 T2 a)) (r.map .int) (some (.v (.lst (st.map .int)))) x4 x5 none none)=some (.nx (cF R (.ins C (wFs ks2 T2 a)) (r.map .int) (some (.v (.lst (st.map .int)))) x4 x5 (some (.own (.lst ((ms ks2 ksR st k).map .str)) none)) none)):=by
 have m:=cT C ks2 T2 a;have j:=cT C ksR T J;have o:cE (ksR.map D.str) (some k) none=(ksR.drop k.toNat).map .str:=by rw[lh _ c,Vt]
 have p:cD (setV 0) aX (d2 ixD (d1 (aL C "kinds") (aa 1)) (aa 0)) [none,some (.v (.ins C (wFs ks2 T2 a)))] (st.map .int)=some ((st.map (kAt ks2)).map .str):=Fp hN h fun x s e=>by
  generalize wFs ks2 T2 a=F2,ks2.map D.str=K at *;simp[m,e]
 have b:(st.map D.int).length<=16777216:=by rw[Yb];omega
 have l:((st.map (kAt ks2)).map D.str).length+((ksR.drop k.toNat).map D.str).length<=16777216:=by rw[Yb,Yb,Yb,ZH];omega
 unfold ms;rw[YT];generalize (d2 ixD (d1 (aL C "kinds") (aa 1)) (aa 0))=E,(st.map (kAt ks2)).map D.str=A,(ksR.drop k.toNat).map D.str=B,wFs ks2 T2 a=F2,wFs ksR T J=F3,ksR.map D.str=KR,r.map D.int=RR,st.map D.int=S at *;have f:aw 1 [1] (bA 3) (setV 0) aX E (cF R (.ins C F2) RR (some (.v (.lst S))) x4 x5 none none)=some A:=by rw[bc,show bA 3 (cF R (.ins C F2) RR (some (.v (.lst S))) x4 x5 none none)=some S from rfl,Ya,Yh b];exact p
 have g:(asO (asL (slL (d1 (aL C "kinds") (d1 (aL az "right") (aa 0))) (bI (d1 (aL az "kept") (aa 0))) bNo))) (cF R (.ins C F2) RR (some (.v (.lst S))) x4 x5 none none)=some (.lst B):=by simp[fY,h2,i,j,o,gZ]
 rw[kt,cz,rg,da,cz,f,g];show Option.map _ (Option.map _ (if A.length+B.length<=16777216 then some (A++B)else none))=_;rw[Yh l];rfl
def pf{i:Nat}{g:Dd}{p:Int}{s:Str}{t:Option Addr}(h:ρ[i]?=some (some (.own (.lst (ks.map .str)) t)))(b:f ρ=some (.int p))(a:g ρ=some (.str s))(c:0<=p)(h1:p<(ks.length:Int)):cr i f g ρ=some (.nx (ρ.set i (some (.own (.lst ((ks.set p.toNat s).map .str)) t)))):=by rw[fw,h,a];dsimp only;rw[Ya,b];simp only[Ya,Yb,yV c h1,Vn,Zv]
def IL(C:Addr)(R W:D)(ksR ks0:List Str)(T J:D)(r:List D)(pl:List Int)(k nR:Int)(x3 x4:Option DV)(h2:aL az "right" R=some (.ins C (wFs ksR T J)))(l:aL az "kept" R=some (.int k))(g:0<=k/\k<=nR)(z:nR<=7)(j:(ksR.length:Int)=nR)(B:(pl.length:Int)=nR)(h:∀a,0<=a/\a<k->0<=bx pl a/\bx pl a<(ks0.length:Int)) :
  ∃y,(cP (bJ (d1 (aL az "kept") (aa 0))) (setV 7) (cr 6 (d2 ixD (aa 5) (aa 7)) (d2 ixD (d1 (aL C "kinds") (d1 (aL az "right") (aa 0))) (aa 7)))) (cF R W r x3 x4 (some (.v (.lst (pl.map .int)))) (some (.own (.lst (ks0.map .str)) none)) none)=some (.nx (cF R W r x3 x4 (some (.v (.lst (pl.map .int)))) (some (.own (.lst ((om pl ksR (aH k) ks0).map .str)) none)) y)):=by
 have m:=cT C ksR T J;obtain⟨y,e⟩:=k8 (st:=setV 7) (body:=(cr 6 (d2 ixD (aa 5) (aa 7)) (d2 ixD (d1 (aL C "kinds") (d1 (aL az "right") (aa 0))) (aa 7)))) pl ksR ks0.length (fun ks y=>cF R W r x3 x4 (some (.v (.lst (pl.map .int)))) (some (.own (.lst (ks.map .str)) none)) y) (aH k) ks0 none rfl (fun a i ks y A=>by
  obtain⟨c,u⟩:=bT.mp i;have q:=gl (b:=pl) (x:=a) ⟨c,by omega⟩;have o:=nW j (x:=a) ⟨c,by omega⟩;obtain⟨f,w⟩:=h a ⟨c,u⟩;refine⟨cF R W r x3 x4 (some (.v (.lst (pl.map .int)))) (some (.own (.lst (ks.map .str)) none)) (some (.v (.int a))),some (.v (.int a)),rfl,?_⟩;rw[pf (ks:=ks) (p:=bx pl a) (s:=kAt ksR a) (t:=none) rfl (by
   generalize pl.map D.int=P at *;simp[q]) (by
   generalize wFs ksR T J=F,ksR.map D.str=KK at *;simp[h2,m,o]) f (by omega)]
  rfl)
 exact⟨y,bC (dq (by simp[l]) ⟨g.1,by omega⟩) e⟩
def Ec(C:Addr)(K T:List D):cS C [.bor (.lst K),.v (.lst T)]=if ¬(1<=K.length/\K.length<=7)\/12<T.length then some 1 else none:=by
 unfold cS rzX;rw[Yh (show([.bor (.lst K),.v (.lst T)]:List DV).length=2 from rfl),show aP 4 2 [.bor (.lst K),.v (.lst T)]=[some (.bor (.lst K)),some (.v (.lst T)),none,none]from rfl];by_cases c:1<=K.length/\K.length<=7
 ·have a:(1:Int)<=(K.length:Int):=by omega
  have b:(K.length:Int)<=7:=by omega
  rw[fQ (ρ':=[some (.bor (.lst K)),some (.v (.lst T)),none,none]) (by simp[jo,a,b,xNx])];by_cases h:12<T.length
  ·have b1:(12:Int)<(T.length:Int):=by omega
   rw[qJ (k:=1) (by simp[jo,b1,xEx]),Yh (.inr h)]
  ·have b1:¬(12:Int)<(T.length:Int):=by omega
   rw[fQ (ρ':=[some (.bor (.lst K)),some (.v (.lst T)),none,none]) (by simp[jo,b1,xNx]),Yl (fun z=>z.elim (fun z=>z c) h)]
 ·rw[qJ (k:=1) (by
   by_cases a:(1:Int)<=(K.length:Int)
   ·have b:¬(K.length:Int)<=7:=by omega
    simp[jo,a,b,xEx]
   ·simp[jo,a,xEx]),Yh (.inl c)]
def Em(C:Addr)(x:D)(K T:List D):fm C [.v x,.bor (.lst K),.v (.lst T)]=if ¬(1<=K.length/\K.length<=7)\/12<T.length then some 1 else none:=by
 have h:=Ec C K T;unfold fm rzX;rw[Yh (show([.v x,.bor (.lst K),.v (.lst T)]:List DV).length=3 from rfl),show aP 3 3 [.v x,.bor (.lst K),.v (.lst T)]=[some (.v x),some (.bor (.lst K)),some (.v (.lst T))]from rfl];generalize (if ¬(1<=K.length/\K.length<=7)\/12<T.length then some 1 else none:Option Nat)=o at h;have e:sH (aB 1 (aB 2 nA)) (cS C) [some (.v x),some (.bor (.lst K)),some (.v (.lst T))]=o.map .ex:=by unfold sH;show(some [DV.bor (.lst K),.v (.lst T)]).bind _=_;rw[Ya,h]
 unfold iW;rw[e];cases o<;>rfl
def nT(e:g ρ=some (.nx ρ')):xOf g ρ=some (.go (.nx ρ')):=by unfold xOf;rw[e];rfl
def dI(r:List Int)(k:Int)(st pl:List Int)(b u a:List T4):List T4:=(bW (((b.filter (amB (aH k))).map (bB r)).map lf) (u.filter (amB st))).map (idT st)++a.map (bB pl)
def Iw(C:Addr)(R L W e:D)(r st pl:List Int)(b u a:List T4)(k:Int)(K:List D)(x7:Option DV)(h1:aL C "ties" W=some (.lst (u.map dT4)))(h2:aL az "left" R=some L)(w:aL C "ties" L=some (.lst (b.map dT4)))(q:aL az "kept" R=some (.int k))(p:aL az "right" R=some e)(o:aL C "ties" e=some (.lst (a.map dT4)))
  (j:0<=k/\k<=(r.length:Int)) (i:r.length<=100) (M:b.length<=12) (l:u.length<=12) (J:a.length<=12)
  (m:∀x,(((b.filter (amB (aH k))).map (bB r)).map lf).count x<=(u.filter (amB st)).count x) (c:∀t∈a,(0<=t.1/\t.1<(pl.length:Int))/\(0<=t.2.1/\t.2.1<(pl.length:Int))) :
  (aB 6 (aV (d2 bb (am (fi C) (aV (am (cH C) (aB 0 (aB 1 (aB 2 (aB 3 nA))))) (aB 4 nA))) (am (fi C) (aV (d1 (aL C "ties") (d1 (aL az "right") (aa 0))) (aB 5 nA)))) nA)) (cF R W (r.map .int) (some (.v (.lst (st.map .int)))) (some (.v (.dK (fC st 0)))) (some (.v (.lst (pl.map .int)))) (some (.own (.lst K) none)) x7)=some [.bor (.lst K),.v (.lst ((dI r k st pl b u a).map dT4))]:=by
 have H:=BD C R L W r st b u k h1 h2 w q j i (by omega) (by omega) m;have s:=ip (((b.filter (amB (aH k))).map (bB r)).map lf) (u.filter (amB st));have f:(u.filter (amB st)).length<=12:=YC (ZF ..) l;unfold dI;rw[YT];generalize bW (((b.filter (amB (aH k))).map (bB r)).map lf) (u.filter (amB st))=TO at *;have I:TO.length<=12:=YC s.length_le f;have E:=yt C TO st (by omega) (fun t g=>by
  have h:=(Zu.mp (s.subset g)).2;unfold amB at h;rw[dB,dB,Yg,Yu,Yu]at h;exact h)
 have z:=sQ C a pl (by omega) c;have y:=mP ((TO.map (idT st)).map dT4) ((a.map (bB pl)).map dT4) (by rw[Yb,Yb,Yb,Yb];omega);generalize cH C=Tl,fi C=Le,(TO.map (idT st)).map dT4=A,(a.map (bB pl)).map dT4=B,TO.map dT4=A0,a.map dT4=B0,fC st 0=NN,r.map D.int=RR,st.map D.int=SS,pl.map D.int=P at *;simp[H,E,z,y,p,o,gZ]
def ui(w:List Int)(t:T4):amB w (lf t)=amB w t:=by
 rcases v8 t with h|⟨h,e⟩
 ·rw[h]
 ·rw[e];unfold amB;exact Bool.and_comm ..
def uA(w:List Int)(ts:List T4):(ts.map lf).filter (amB w)=(ts.filter (amB w)).map lf:=by rw[List.filter_map,show amB w ∘ lf=amB w from funext fun t=>ui w t]
def wa(b:List Int)(t:T4):lf (bB b (lf t))=lf (bB b t):=EY (bx b) t
def yk{u:List T4}(w b:List Int)(p:u.Perm (tsL.map lf)):(((u.filter (amB w)).map (bB b)).map lf).Perm ((tsL.filter (amB w)).map fun t=>lf (bB b t)):=by have h:=((p.filter (amB w)).map (bB b)).map lf;rw[uA,YR,YR,YR]at h;rw[YR];refine h.trans (List.Perm.of_eq (Vj fun t _=>?_));exact wa b t
def yx{u ts2:List T4}(w:List Int)(p:u.Perm (ts2.map lf)):(u.filter (amB w)).Perm ((ts2.filter (amB w)).map lf):=by rw[<-uA];exact p.filter _
def uG{r:List Int}(a:r.Nodup){x y:Int}(hx:0<=x/\x<(r.length:Int))(b:0<=y/\y<(r.length:Int))(e:bx r x=bx r y):x=y:=by have h:=eJ hx;have c:=eJ b;rw[e,<-c]at h;have:=(List.getElem?_inj (i:=x.toNat) (j:=y.toNat) (by omega) a).mp h;omega
def E6{r:List Int}{x:Int}(hx:0<=x/\x<(r.length:Int)):bx r x∈r:=YB (eJ hx)
def jQ{r:List Int}(b:r.Nodup){k x:Int}(c:∀y∈r,0<=y/\y<N)(e:k<=(r.length:Int))(hx:0<=x/\x<k):bx r x∈al (r.drop k.toNat) N:=by
 have h:0<=x/\x<(r.length:Int):=⟨hx.1,by omega⟩
 refine gm.mpr ⟨c _ (E6 h),fun z=>?_⟩;obtain⟨i,a⟩:=Vc z;rw[List.getElem?_drop,<-eJ h]at a;have:=(List.getElem?_inj (i:=x.toNat) (j:=k.toNat+i) (by omega) b).mp a.symm;omega
def Dj{k:Int}{t:T4}(h:amB (aH k) t=true):(0<=t.1/\t.1<k)/\(0<=t.2.1/\t.2.1<k):=by unfold amB at h;rw[dB,dB,Yg,Yu,Yu,bT,bT]at h;exact h
def zB{w:List Int}{t:T4}:amB w t=true↔t.1∈w/\t.2.1∈w:=by unfold amB;rw[dB,dB,Yg,Yu,Yu]
def Ar{r:List Int}{n1 k:Int}{ts2:List T4}(c:r.Nodup)(q:(r.length:Int)=n1)(h:∀x∈r,0<=x/\x<N)(s:k<=n1)(l:∀t∈tsL,okT n1 t)
  (hw:∀i j,0<=i/\i<n1->0<=j/\j<n1->i≠j->bw (aR i j tsL) (aR (bx r i) (bx r j) ts2)=true) (x:T4) :
  ((tsL.filter (amB (aH k))).map fun t=>lf (bB r t)).count x<=((ts2.filter (amB (al (r.drop k.toNat) N))).map lf).count x:=by
 by_cases m:x∈(tsL.filter (amB (aH k))).map fun t=>lf (bB r t)
 ·obtain⟨t,g,rfl⟩:=Yv.mp m;obtain⟨a,b⟩:=Dj (Zu.mp g).2;rw[<-uA,List.count_filter (by
   rw[ui];exact zB.mpr ⟨jQ c h (by omega) a,jQ c h (by omega) b⟩)]
  exact E8 (f:=bx r) (n:=n1) (fun x y p o e=>uG c (by omega) (by omega) e) l hw (amB (aH k)) _
 ·rw[Vm.mpr m];exact YO _
def k7{b:List Str}{a ts2:List T4}{r:List Int}{n1:Int}(h:oJ b ks2 a ts2 r n1 N=true):(r.length:Int)=n1/\r.Nodup/\(∀x∈r,0<=x/\x<N)/\liB b ks2 a ts2 r n1=true/\∀i j,0<=i/\i<n1->0<=j/\j<n1->i≠j->bw (aR i j a) (aR (bx r i) (bx r j) ts2)=true:=by
 unfold oJ at h;rw[Yg,Yg,Yg,Yu,sO]at h;obtain⟨A,u,z,o⟩:=h;have f:∀x∈r,0<=x/\x<N:=fun x y=>YI (Yr.mp z x y)
 refine⟨A,u,f,o,fun i j m g s=>?_⟩;have l:∀i j:Int,0<=i/\i<n1->0<=j/\j<i->bw (aR i j a) (aR (bx r i) (bx r j) ts2)=true:=fun i j m g=>by
  unfold liB at o;have w:=Yr.mp o i.toNat (Zf.mpr (by omega))
  unfold oY at w;have p:=Yr.mp (Yg _ _ ▸ w).2 j.toNat (Zf.mpr (by omega))
  unfold wu at p;rw[show((i.toNat:Nat):Int)=i by omega,show((j.toNat:Nat):Int)=j by omega]at p;exact p
 by_cases q:j<i
 ·exact l i j m ⟨g.1,q⟩
 ·have c:bx r j≠bx r i:=fun e=>s (uG u (by omega) (by omega) e).symm
  have:=l j i g ⟨m.1,by omega⟩;rw[<-jx a ts2 (ZJ s) c]at this;exact this
def yo{r st:List Int}{k:Int}(a:0<=k/\k<=nR)(h:k<=(r.length:Int)):((aD r k nR st).length:Int)=nR:=by unfold aD;rw[Yn,Yb,Yb,YF,bq];omega
def zv{r st:List Int}{k x:Int}(h:k<=(r.length:Int))(hx:0<=x/\x<k):bx (aD r k nR st) x=(st.idxOf (bx r x):Int):=by unfold aD;unfold bx;rw[Zg (by rw[Yb,YF];omega),Yt,Zs (by omega),eJ (b:=r) ⟨hx.1,by omega⟩];rfl
def Ax{r st:List Int}{k x:Int}(a:0<=k)(h:k<=(r.length:Int))(hx:k<=x/\x<nR):bx (aD r k nR st) x=(st.length:Int)+(x-k):=by
 unfold aD;unfold bx;have l:((r.take k.toNat).map fun p=>(st.idxOf p:Int)).length=k.toNat:=by rw[Yb,YF];omega
 rw[YW (by rw[l];omega),l,Yt,Cf (by omega)];show(st.length:Int)+((x.toNat-k.toNat:Nat):Int)=_;omega
def pF{r st:List Int}{N k x:Int}(c:∀a,0<=a/\a<k->bx r a∈st)(e:0<=k/\k<=nR)(b:k<=(r.length:Int))(hx:0<=x/\x<nR):0<=bx (aD r k nR st) x/\bx (aD r k nR st) x<(st.length:Int)+(nR-k)/\(x<k->bx (aD r k nR st) x<(st.length:Int))/\(k<=x->(st.length:Int)<=bx (aD r k nR st) x):=by
 by_cases h:x<k
 ·rw[zv b ⟨hx.1,h⟩];have:=ZY.mpr (c x ⟨hx.1,h⟩);refine⟨by omega,by omega,fun _=>by omega,fun z=>by omega⟩
 ·rw[Ax e.1 b ⟨by omega,hx.2⟩];refine⟨by omega,by omega,fun z=>by omega,fun _=>by omega⟩
def vL{st:List Int}{x y:Int}(hx:x∈st)(e:(st.idxOf x:Int)=(st.idxOf y:Int)):x=y:=by
 have a:st.idxOf x=st.idxOf y:=by omega
 have h:=ZY.mpr hx;have c:st[st.idxOf x]'h=x:=List.getElem_idxOf h;have b:st[st.idxOf y]'(a ▸ h)=y:=List.getElem_idxOf (a ▸ h);rw[<-c,<-b]
 congr 1
def Fd{r st:List Int}{k x y:Int}(j:r.Nodup)(i:∀a,0<=a/\a<k->bx r a∈st)(c:0<=k/\k<=nR)(b:k<=(r.length:Int))(hx:0<=x/\x<nR)(f:0<=y/\y<nR)(e:bx (aD r k nR st) x=bx (aD r k nR st) y):x=y:=by
 obtain⟨_,_,m,l⟩:=pF (N:=0) i c b hx;obtain⟨_,_,b1,b2⟩:=pF (N:=0) i c b f;by_cases h:x<k<;>by_cases g:y<k
 ·rw[zv b ⟨hx.1,h⟩,zv b ⟨f.1,g⟩]at e;exact uG j (by omega) (by omega) (vL (i x ⟨hx.1,h⟩) e)
 ·have:=m h;have:=b2 (by omega);omega
 ·have:=l (by omega);have:=b1 g;omega
 ·rw[Ax c.1 b ⟨by omega,hx.2⟩,Ax c.1 b ⟨by omega,f.2⟩]at e;omega
def DG{r st:List Int}{k:Int}{f b c:List T4}(C:r.Nodup)(m:∀a,0<=a/\a<k->bx r a∈st)(p:0<=k/\k<=nR)(o:k<=(r.length:Int))(I:∀t∈b,okT N t)(J:∀t∈c,okT nR t)(H:(dI r k st (aD r k nR st) f b c).length<=12) :
  okS ((st.length:Int)+(nR-k)) (dI r k st (aD r k nR st) f b c):=by
 refine⟨H,fun t ht=>?_⟩;unfold dI at ht;rcases Zb.mp ht with ht|ht
 ·obtain⟨u,l,rfl⟩:=Yv.mp ht;have h:=Zu.mp ((ip _ _).subset l);obtain⟨q,E⟩:=zB.mp h.2;obtain⟨_,_,_,_,g,j,i⟩:=I u h.1;have L:=ZY.mpr q;have K:=ZY.mpr E;exact⟨by show(0:Int)<=(st.idxOf u.1:Int);omega,by show(st.idxOf u.1:Int)<_;omega,by show(0:Int)<=(st.idxOf u.2.1:Int);omega,by show(st.idxOf u.2.1:Int)<_;omega,fun e=>g (vL q e),j,i⟩
 ·obtain⟨u,l,rfl⟩:=Yv.mp ht;obtain⟨x,w,s,b1,g,j,i⟩:=J u l;obtain⟨B,A,_⟩:=pF (N:=N) m p o ⟨x,w⟩;obtain⟨z,y,_⟩:=pF (N:=N) m p o ⟨s,b1⟩;exact⟨B,A,z,y,fun e=>g (Fd C m p o ⟨x,w⟩ ⟨s,b1⟩ e),j,i⟩
def kkP(ks2 ksR:List Str)(r:List Int)(k nR:Int)(st:List Int):List Str:=om (aD r k nR st) ksR (aH k) (ms ks2 ksR st k)
def qB{r st:List Int}{k:Int}(a:(ksR.length:Int)=nR)(h:0<=k/\k<=nR):((kkP ks2 ksR r k nR st).length:Int)=(st.length:Int)+(nR-k):=by unfold kkP ms;rw[jG,Yn,Yb,ZH];omega
def FQ{r st:List Int}{k:Int}(h2:okK N ks2)(h:okK nR ksR)(e:0<=k/\k<=nR)(b:∀x∈st,0<=x/\x<N):okK ((st.length:Int)+(nR-k)) (kkP ks2 ksR r k nR st):=by
 refine⟨qB h.1 e,?_⟩;unfold kkP;refine yK _ _ _ (fun a f=>?_) fun x hx=>?_
 ·obtain⟨g,i⟩:=bT.mp f;exact pK h ⟨g,by omega⟩
 ·unfold ms at hx;rcases Zb.mp hx with hx|hx
  ·obtain⟨p,c,rfl⟩:=Yv.mp hx;exact pK h2 (b p c)
  ·exact h.2 x (List.mem_of_mem_drop hx)
section
variable   {ts2:List T4}{kv1 kv2:List (List Key×D)}{J3:D}{n1 k:Int}{r:List Int}
abbrev ruD(C:Addr)(ksL:List Str)(tsL:List T4)(J:D)(ksR:List Str)(tsR:List T4)(J3:D)(k:Int):D:=.ins az (rFs (.ins C (wFs ksL (.lst (srt tsL)) J)) (.ins C (wFs ksR (.lst (srt tsR)) J3)) k)
abbrev weD(C:Addr)(ks:List Str)(ts:List T4)(J:D):D:=.ins C (wFs ks (.lst (srt ts)) J)
def F_(h:1<=n1/\n1<=7)(c:okK n1 ksL)(o:okK N ks2)(s1:tsL.length<=12)(e:JOk kv1 tsL)(j:JOk kv2 ts2)(g:r.length<=8)(a:ρ[0]?=some (some (.v (ruD C ksL tsL (.dT kv1) ksR tsR J3 k))))(h1:ρ[1]?=some (some (.v (weD C ks2 ts2 (.dT kv2)))))(h2:ρ[2]?=some (some (.v (.lst (r.map .int))))) :
  (am (dO C) (aV (d1 (aL az "left") (aa 0)) (aB 1 (aB 2 nA)))) ρ=some (.bl (og ksL ks2 tsL ts2 r n1 N)):=by
 have f:=Fh C ksL ks2 tsL ts2 (.lst (srt tsL)) (.lst (srt ts2)) kv1 kv2 n1 N r h c o s1 e j g;have i:=rN az (.ins C (wFs ksL (.lst (srt tsL)) (.dT kv1))) (.ins C (wFs ksR (.lst (srt tsR)) J3)) k;generalize dO C=M at *;unfold ruD at a;unfold weD at h1;generalize rFs (.ins C (wFs ksL (.lst (srt tsL)) (.dT kv1))) (.ins C (wFs ksR (.lst (srt tsR)) J3)) k=F at *;generalize wFs ksL (.lst (srt tsL)) (.dT kv1)=F1,wFs ks2 (.lst (srt ts2)) (.dT kv2)=F2,az=A,r.map D.int=RR,og ksL ks2 tsL ts2 r n1 N=b at *;simp[a,h1,h2,i,f]
def wf(a:1<=n1/\n1<=7)(b:okK n1 ksL)(o:okK N ks2)(s1:tsL.length<=12)(c:JOk kv1 tsL)(j:JOk kv2 ts2)(e:r.length<=8)(hw:og ksL ks2 tsL ts2 r n1 N=false) :
  cW C [.v (ruD C ksL tsL (.dT kv1) ksR tsR J3 k),.v (weD C ks2 ts2 (.dT kv2)),.v (.lst (r.map .int))]=some 0:=by
 unfold cW rzX;rw[Yh (show([.v (ruD C ksL tsL (.dT kv1) ksR tsR J3 k),.v (weD C ks2 ts2 (.dT kv2)),.v (.lst (r.map .int))]:List DV).length=3 from rfl),show aP 8 3 [.v (ruD C ksL tsL (.dT kv1) ksR tsR J3 k),.v (weD C ks2 ts2 (.dT kv2)),.v (.lst (r.map .int))]=cF (ruD C ksL tsL (.dT kv1) ksR tsR J3 k) (weD C ks2 ts2 (.dT kv2)) (r.map .int) none none none none none from rfl];have h:=F_ (C:=C) (ksR:=ksR) (tsR:=tsR) (J3:=J3) (k:=k) (ρ:=cF (ruD C ksL tsL (.dT kv1) ksR tsR J3 k) (weD C ks2 ts2 (.dT kv2)) (r.map .int) none none none none none) a b o s1 c j e rfl rfl rfl;rw[hw]at h;rw[qJ (k:=0) (by rw[jo,jD,jg,h];rfl)]
def uO(Q:1<=n1/\n1<=7)(m:1<=nR/\nR<=7)(hN:1<=N/\N<=7)(o1:okK n1 ksL)(l:okK nR ksR)(B:okK N ks2)(s1:okS n1 tsL)(H:okS nR tsR)(s2:okS N ts2)(j1:JOk kv1 tsL)(j2:JOk kv2 ts2)(g:0<=k/\k<=n1/\k<=nR)(hr:r.length<=8)(hw:og ksL ks2 tsL ts2 r n1 N=true) :
  ∃j:List T4,j.length<=24/\(∃(e c f:List T4),e.Perm (tsL.map lf)/\c.Perm (ts2.map lf)/\f.Perm (tsR.map lf)/\j=dI r k (al (r.drop k.toNat) N) (aD r k nR (al (r.drop k.toNat) N)) e c f) /\
   cW C [.v (ruD C ksL tsL (.dT kv1) ksR tsR J3 k),.v (weD C ks2 ts2 (.dT kv2)),.v (.lst (r.map .int))]=(if ¬(1<=(kkP ks2 ksR r k nR (al (r.drop k.toNat) N)).length/\(kkP ks2 ksR r k nR (al (r.drop k.toNat) N)).length<=7)\/12<j.length then some 1 else none) /\
   (¬(¬(1<=(kkP ks2 ksR r k nR (al (r.drop k.toNat) N)).length/\(kkP ks2 ksR r k nR (al (r.drop k.toNat) N)).length<=7)\/12<j.length)->∃J,vn C [.v (ruD C ksL tsL (.dT kv1) ksR tsR J3 k),.v (weD C ks2 ts2 (.dT kv2)),.v (.lst (r.map .int))]=some (.own (.ins C (wFs (kkP ks2 ksR r k nR (al (r.drop k.toNat) N)) (.lst (srt j)) J)) none)):=by
 obtain⟨hl,L,s,_,hp⟩:=k7 ((mH ..).symm.trans hw);obtain⟨e,eL,K⟩:=hV tsL;obtain⟨c,eW,w⟩:=hV ts2;obtain⟨f,eR,A⟩:=hV tsR;have P:∀a,0<=a/\a<k->bx r a∈al (r.drop k.toNat) N:=fun a U=>jQ L s (by omega) U
 have hc:=Ar (k:=k) L hl s g.2.1 s1.2 hp;have T:∀x,(((e.filter (amB (aH k))).map (bB r)).map lf).count x<=(c.filter (amB (al (r.drop k.toNat) N))).count x:=fun x=>by
  rw[(yk (aH k) r K).count_eq,(yx _ w).count_eq];exact hc x
 have o:∀{n:Int}{us ts:List T4},us.Perm (ts.map lf)->(∀t∈ts,okT n t)->∀t∈us,okT n t:=fun p h t O=>by
  obtain⟨u,hu,rfl⟩:=Yv.mp (p.mem_iff.mp O);exact yX (h u hu)
 have lL:e.length<=12:=by rw[K.length_eq,Yb];exact s1.1
 have lW:c.length<=12:=by rw[w.length_eq,Yb];exact s2.1
 have lR:f.length<=12:=by rw[A.length_eq,Yb];exact H.1
 have sl:(al (r.drop k.toNat) N).length<=7:=by have:=pw (r.drop k.toNat) N;omega
 have sn:=rD (r.drop k.toNat) N;have sm:∀x∈al (r.drop k.toNat) N,0<=x/\x<N:=fun x M=>(gm.mp M).1
 have wo:okS ((al (r.drop k.toNat) N).length+(nR-k)) (dI r k (al (r.drop k.toNat) N) (aD r k nR (al (r.drop k.toNat) N)) e c f)\/12<(dI r k (al (r.drop k.toNat) N) (aD r k nR (al (r.drop k.toNat) N)) e c f).length:=by
  by_cases q:(dI r k (al (r.drop k.toNat) N) (aD r k nR (al (r.drop k.toNat) N)) e c f).length<=12
  ·exact .inl (DG L P ⟨g.1,g.2.2⟩ (by omega) (o w s2.2) (o A H.2) q)
  ·exact .inr (by omega)
 have tl:(dI r k (al (r.drop k.toNat) N) (aD r k nR (al (r.drop k.toNat) N)) e c f).length<=24:=by unfold dI;rw[Yn,Yb,Yb];have a:=(ip (((e.filter (amB (aH k))).map (bB r)).map lf) (c.filter (amB (al (r.drop k.toNat) N)))).length_le;have b:=ZF (amB (al (r.drop k.toNat) N)) c;omega
 refine⟨_,tl,⟨e,c,f,K,w,A,rfl⟩,?_⟩;have kW:=FQ (r:=r) (k:=k) B l ⟨g.1,g.2.2⟩ sm;have fl:=rN az (.ins C (wFs ksL (.lst (srt tsL)) (.dT kv1))) (.ins C (wFs ksR (.lst (srt tsR)) J3)) k;have E:=xg az (.ins C (wFs ksL (.lst (srt tsL)) (.dT kv1))) (.ins C (wFs ksR (.lst (srt tsR)) J3)) k;have fk:=At az (.ins C (wFs ksL (.lst (srt tsL)) (.dT kv1))) (.ins C (wFs ksR (.lst (srt tsR)) J3)) k;have t1:=iw C ksL (.lst (srt tsL)) (.dT kv1);have t2:=iw C ks2 (.lst (srt ts2)) (.dT kv2);have t3:=iw C ksR (.lst (srt tsR)) J3;have Z:=F_ (C:=C) (ksR:=ksR) (tsR:=tsR) (J3:=J3) (k:=k) (ρ:=cF (ruD C ksL tsL (.dT kv1) ksR tsR J3 k) (weD C ks2 ts2 (.dT kv2)) (r.map .int) none none none none none) Q o1 B s1.1 j1 j2 hr rfl rfl rfl;rw[hw]at Z;have e1:=HQ C (ruD C ksL tsL (.dT kv1) ksR tsR J3 k) ks2 (.lst (srt ts2)) (.dT kv2) N k r fk g.1 B.1 ⟨by omega,hN.2⟩;have e2:=HP C (ruD C ksL tsL (.dT kv1) ksR tsR J3 k) (weD C ks2 ts2 (.dT kv2)) r (al (r.drop k.toNat) N) sn sl;have e3:=IA C (ruD C ksL tsL (.dT kv1) ksR tsR J3 k) (weD C ks2 ts2 (.dT kv2)) ksR (.lst (srt tsR)) J3 r (al (r.drop k.toNat) N) k nR (some (.v (.dK (fC (al (r.drop k.toNat) N) 0)))) E fk l.1 ⟨g.1,g.2.2⟩ m.2 hr (fun x M=>by
  obtain⟨i,S⟩:=Vc M;have R:i<k.toNat:=by have:=(Yj.mp S).1;rw[YF]at this;omega
  rw[Zs R]at S;have:=P (i:Int) ⟨by omega,by omega⟩;unfold bx at this;rw[show((i:Int)).toNat=i by omega,S]at this;exact this)
 have e4:=Iv C (ruD C ksL tsL (.dT kv1) ksR tsR J3 k) ks2 ksR (.lst (srt ts2)) (.dT kv2) (.lst (srt tsR)) J3 r (al (r.drop k.toNat) N) k N (some (.v (.dK (fC (al (r.drop k.toNat) N) 0)))) (some (.v (.lst ((aD r k nR (al (r.drop k.toNat) N)).map .int)))) E fk g.1 (by have:=l.1;omega) sl B.1 sm;have I:=yo (r:=r) (st:=al (r.drop k.toNat) N) ⟨g.1,g.2.2⟩ (by omega);obtain⟨y,Y⟩:=IL C (ruD C ksL tsL (.dT kv1) ksR tsR J3 k) (weD C ks2 ts2 (.dT kv2)) ksR (ms ks2 ksR (al (r.drop k.toNat) N) k) (.lst (srt tsR)) J3 (r.map .int) (aD r k nR (al (r.drop k.toNat) N)) k nR (some (.v (.lst ((al (r.drop k.toNat) N).map .int)))) (some (.v (.dK (fC (al (r.drop k.toNat) N) 0)))) E fk ⟨g.1,g.2.2⟩ m.2 l.1 I (fun a U=>by
  obtain⟨p0,p1,_⟩:=pF (N:=N) (nR:=nR) (x:=a) P ⟨g.1,g.2.2⟩ (by omega) ⟨U.1,by omega⟩;have:=qB (ks2:=ks2) (r:=r) (st:=al (r.drop k.toNat) N) l.1 ⟨g.1,g.2.2⟩;unfold kkP at this;rw[jG]at this;omega)
 have e6:=Iw C (ruD C ksL tsL (.dT kv1) ksR tsR J3 k) _ (weD C ks2 ts2 (.dT kv2)) _ r (al (r.drop k.toNat) N) (aD r k nR (al (r.drop k.toNat) N)) e c f k ((kkP ks2 ksR r k nR (al (r.drop k.toNat) N)).map .str) y (by rw[<-eW];exact t2) fl (by rw[<-eL];exact t1) fk E (by rw[<-eR];exact t3) ⟨g.1,by omega⟩ (by omega) lL lW lR T (fun t O=>by
  obtain⟨a0,a1,b0,b1,_⟩:=o A H.2 t O;exact⟨⟨a0,by omega⟩,⟨b0,by omega⟩⟩)
 have km:(om (aD r k nR (al (r.drop k.toNat) N)) ksR (aH k) (ms ks2 ksR (al (r.drop k.toNat) N) k))=kkP ks2 ksR r k nR (al (r.drop k.toNat) N):=rfl;rw[km]at Y;have rk:=Em C (.ins C []) ((kkP ks2 ksR r k nR (al (r.drop k.toNat) N)).map .str) ((dI r k (al (r.drop k.toNat) N) (aD r k nR (al (r.drop k.toNat) N)) e c f).map dT4);rw[Yb,Yb]at rk;have hm:¬(¬(1<=(kkP ks2 ksR r k nR (al (r.drop k.toNat) N)).length/\(kkP ks2 ksR r k nR (al (r.drop k.toNat) N)).length<=7)\/12<(dI r k (al (r.drop k.toNat) N) (aD r k nR (al (r.drop k.toNat) N)) e c f).length)->∃J,g8 C (.ins C []) [.bor (.lst ((kkP ks2 ksR r k nR (al (r.drop k.toNat) N)).map .str)),.v (.lst ((dI r k (al (r.drop k.toNat) N) (aD r k nR (al (r.drop k.toNat) N)) e c f).map dT4))]=some (.ins C (wFs (kkP ks2 ksR r k nR (al (r.drop k.toNat) N)) (.lst (srt (dI r k (al (r.drop k.toNat) N) (aD r k nR (al (r.drop k.toNat) N)) e c f))) J),.non):=fun q=>by
  have X:¬12<(dI r k (al (r.drop k.toNat) N) (aD r k nR (al (r.drop k.toNat) N)) e c f).length:=fun z=>q (.inr z)
  have hkk:=kW.1;exact y0 C _ _ ((al (r.drop k.toNat) N).length+(nR-k)) (by
   have:1<=(kkP ks2 ksR r k nR (al (r.drop k.toNat) N)).length/\(kkP ks2 ksR r k nR (al (r.drop k.toNat) N)).length<=7:=Classical.byContradiction fun z=>q (.inl z)
   omega) kW (wo.resolve_right X)
 generalize dI r k (al (r.drop k.toNat) N) (aD r k nR (al (r.drop k.toNat) N)) e c f=TP,kkP ks2 ksR r k nR (al (r.drop k.toNat) N)=KP,(aD r k nR (al (r.drop k.toNat) N)).map D.int=PL,fC (al (r.drop k.toNat) N) 0=NU,(al (r.drop k.toNat) N).map D.int=SI at *;have w0:(dIf (cw (asB (am (dO C) (aV (d1 (aL az "left") (aa 0)) (aB 1 (aB 2 nA)))))) fg dNx) (cF (ruD C ksL tsL (.dT kv1) ksR tsR J3 k) (weD C ks2 ts2 (.dT kv2)) (r.map .int) none none none none none)=some (.nx (cF (ruD C ksL tsL (.dT kv1) ksR tsR J3 k) (weD C ks2 ts2 (.dT kv2)) (r.map .int) none none none none none)):=by rw[dw,jD,jg,Z];rfl
 have x0:(xIf (cw (asB (am (dO C) (aV (d1 (aL az "left") (aa 0)) (aB 1 (aB 2 nA)))))) (xEx 0) xNx) (cF (ruD C ksL tsL (.dT kv1) ksR tsR J3 k) (weD C ks2 ts2 (.dT kv2)) (r.map .int) none none none none none)=some (.go (.nx (cF (ruD C ksL tsL (.dT kv1) ksR tsR J3 k) (weD C ks2 ts2 (.dT kv2)) (r.map .int) none none none none none))):=by rw[jo,jD,jg,Z];rfl
 constructor
 ·unfold cW rzX;rw[Yh (show([.v (ruD C ksL tsL (.dT kv1) ksR tsR J3 k),.v (weD C ks2 ts2 (.dT kv2)),.v (.lst (r.map .int))]:List DV).length=3 from rfl),show aP 8 3 [.v (ruD C ksL tsL (.dT kv1) ksR tsR J3 k),.v (weD C ks2 ts2 (.dT kv2)),.v (.lst (r.map .int))]=cF (ruD C ksL tsL (.dT kv1) ksR tsR J3 k) (weD C ks2 ts2 (.dT kv2)) (r.map .int) none none none none none from rfl,
   fQ x0,fQ (nT e1),fQ (nT e2),fQ (nT e3),fQ (nT e4),fQ (nT Y)]
  unfold vI;rw[e6,Ya,rk];by_cases q:¬(1<=KP.length/\KP.length<=7)\/12<TP.length
  ·rw[Yh q];rfl
  ·rw[Yl q];rfl
 ·intro q;obtain⟨J,hJ⟩:=hm q;refine⟨J,?_⟩;have mk:cG C (g8 C) (aB 6 (aV (d2 bb (am (fi C) (aV (am (cH C) (aB 0 (aB 1 (aB 2 (aB 3 nA))))) (aB 4 nA))) (am (fi C) (aV (d1 (aL C "ties") (d1 (aL az "right") (aa 0))) (aB 5 nA)))) nA)) (cF (ruD C ksL tsL (.dT kv1) ksR tsR J3 k) (weD C ks2 ts2 (.dT kv2)) (r.map .int) (some (.v (.lst SI))) (some (.v (.dK NU))) (some (.v (.lst PL))) (some (.own (.lst (KP.map .str)) none)) y)=some (.ins C (wFs KP (.lst (srt TP)) J)):=by unfold cG;rw[e6,Ya,hJ];rfl
  unfold vn GM;rw[j6,show aP 8 3 [.v (ruD C ksL tsL (.dT kv1) ksR tsR J3 k),.v (weD C ks2 ts2 (.dT kv2)),.v (.lst (r.map .int))]=cF (ruD C ksL tsL (.dT kv1) ksR tsR J3 k) (weD C ks2 ts2 (.dT kv2)) (r.map .int) none none none none none from rfl,
   aj w0,aj e1,aj e2,aj e3,aj e4,aj Y,fK,mk]
  rfl
end
abbrev twD(ks:List Str)(ts:List T4):D:=.tup [.lst (ks.map .str),.lst (ts.map dT4)]
abbrev lF(L R:D)(k:Int)(W:D)(r:List D)(x5 x6 x7 x8 x9 x10 x11 x12 x13 x14:Option DV):DF:=[some (.v L),some (.v R),some (.v (.int k)),some (.v W),some (.v (.lst r)),x5,x6,x7,x8,x9,x10,x11,x12,x13,x14]
def tw0(ks:List Str)(ts:List T4):ixD (twD ks ts) (.int 0)=some (.lst (ks.map .str)):=rfl
def tw1(ks:List Str)(ts:List T4):ixD (twD ks ts) (.int 1)=some (.lst (ts.map dT4)):=rfl
section
variable   {ts2:List T4}{k:Int}{r st:List Int}  
def HR(h:0<=k):(aF 5 (asO (asL (slL (aa 4) (bI (getV 2)) bNo)))) (lF L R k W (r.map .int) none none none none none none none none none none)=some (.nx (lF L R k W (r.map .int) (some (.v (.lst ((r.drop k.toNat).map .int)))) none none none none none none none none none)):=by have c:=zX r h;generalize (r.drop k.toNat).map D.int=A,r.map D.int=B at *;simp[fY,c,gZ]
def Ip{o:List Int}(hN:(ks2.length:Int)=N)(h:0<=N/\N<=7):(aF 6 (asO (asL (aw 1 [5] (bJ (d1 aG (d2 ixD (aa 3) (cI 0)))) (setV 0) (asB (d2 cn (ak 0) (ak 1))) (getV 0))))) (lF L R k (twD ks2 ts2) RR (some (.v (.lst (o.map .int)))) none none none none none none none none none)=some (.nx (lF L R k (twD ks2 ts2) RR (some (.v (.lst (o.map .int)))) (some (.v (.lst ((al o N).map .int)))) none none none none none none none none)):=by
 have g:=tw0 ks2 ts2;have l:((ks2.map D.str).length:Int)=N:=by rw[Yb];exact hN
 have c:(bJ (d1 aG (d2 ixD (aa 3) (cI 0)))) (lF L R k (twD ks2 ts2) RR (some (.v (.lst (o.map .int)))) none none none none none none none none none)=some ((aH N).map .int):=dq (by
  generalize twD ks2 ts2=X,ks2.map D.str=K at *;simp[g,l]) ⟨h.1,by omega⟩
 have i:cD (setV 0) (asB (d2 cn (ak 0) (ak 1))) (getV 0) [none,some (.v (.lst (o.map .int)))] ((aH N).map .int)=some ((al o N).map .int):=by refine fP (fun p=>!(o.any fun z=>decide (z=p))) (aH N) (fun x _=>?_) (XW _);have e:=mO x o;generalize o.map D.int=A,(!(o.any fun z=>decide (z=x)))=b at *;simp[e]
 have a:((aH N).map D.int).length<=16777216:=by rw[Yb,bq];omega
 generalize (asB (d2 cn (ak 0) (ak 1)))=E,(bJ (d1 aG (d2 ixD (aa 3) (cI 0))))=I,(aH N).map D.int=A,(al o N).map D.int=B,o.map D.int=O at *;have f:aw 1 [5] I (setV 0) E (getV 0) (lF L R k (twD ks2 ts2) RR (some (.v (.lst O))) none none none none none none none none none)=some B:=by rw[bc,c,Ya,Yh a];exact i
 rw[gH,da,cz,f];rfl
def nc(o:List Int)(t:T4):Bool:=!(o.any fun z=>decide (z=t.1))&&!(o.any fun z=>decide (z=t.2.1))
def Io{o:List Int}(m:ts2.length<=12):∃us:List T4,us.Perm ((ts2.filter (nc o)).map lf)/\(bt 7 (lY (aJ C) (aV (asO (asL (aw 1 [5] (bK (d2 ixD (aa 3) (cI 1))) (setV 0) (dN (asB (d2 cn (d2 ixD (aa 0) (cI 0)) (ak 1))) (asB (d2 cn (d2 ixD (aa 0) (cI 1)) (ak 1)))) (getV 0)))) nA))) (lF L R k (twD ks2 ts2) RR (some (.v (.lst (o.map .int)))) x6 none none none none none none none none)=some (.nx (lF L R k (twD ks2 ts2) RR (some (.v (.lst (o.map .int)))) x6 (some (.own (.lst (us.map dT4)) none)) none none none none none none none)):=by
 obtain⟨us,g,p⟩:=hV (ts2.filter (nc o));refine⟨us,p,?_⟩;have e:=tw1 ks2 ts2;have c:=nu C (ts2.filter (nc o)) (by have:=ZF (nc o) ts2;omega);have h:aJ C [.v (.lst ((ts2.filter (nc o)).map dT4))]=some (.own (.lst (us.map dT4)) none):=by rw[<-g];exact c
 have j:cD (setV 0) (dN (asB (d2 cn (d2 ixD (aa 0) (cI 0)) (ak 1))) (asB (d2 cn (d2 ixD (aa 0) (cI 1)) (ak 1)))) (getV 0) [none,some (.v (.lst (o.map .int)))] (ts2.map dT4)=some ((ts2.filter (nc o)).map dT4):=by
  refine qG dT4 dT4 (nc o) ts2 fun t _=>⟨[some (.v (dT4 t)),some (.v (.lst (o.map .int)))],rfl,?_,fun _=>rfl⟩
  have e:=mO t.1 o;have i:=mO t.2.1 o;have b:=T0 t;have a:=T1 t;unfold nc;generalize dT4 t=d,o.map D.int=W,(o.any fun z=>decide (z=t.1))=b1,(o.any fun z=>decide (z=t.2.1))=b2 at *;cases b1<;>cases b2<;>simp[b,a,e,i]
 have l:(ts2.map dT4).length<=16777216:=by rw[Yb];omega
 generalize (dN (asB (d2 cn (d2 ixD (aa 0) (cI 0)) (ak 1))) (asB (d2 cn (d2 ixD (aa 0) (cI 1)) (ak 1))))=E,aJ C=M,twD ks2 ts2=X,(ts2.filter (nc o)).map dT4=A,ts2.map dT4=B,o.map D.int=O,us.map dT4=U at *;have f:aw 1 [5] (bK (d2 ixD (aa 3) (cI 1))) (setV 0) E (getV 0) (lF L R k X RR (some (.v (.lst O))) x6 none none none none none none none none)=some A:=by rw[bc,show bK (d2 ixD (aa 3) (cI 1)) (lF L R k X RR (some (.v (.lst O))) x6 none none none none none none none none)=some B from by simp[e],Ya,Yh l];exact j
 rw[kt,yD,CU,da,cz,f];show((some [DV.v (.lst A)]).bind fun x=>(M x).bind dvO).map _=_;rw[Ya,h];rfl
def BC(C:Addr)(t:T4):aJ C [.v (.lst [dT4 t])]=some (.own (.lst [dT4 (lf t)]) none):=by have h:=nu C [t] (show 1<=24 from by decide);obtain⟨u,b,p⟩:=hV [t];have e:u=[lf t]:=List.perm_singleton.mp p;subst e;have a:aJ C [.v (.lst ([t].map dT4))]=some (.own (.lst (srt [t])) none):=h;rw[b]at a;exact a
def ltB(k:Int)(t:T4):Bool:=decide (t.1<k)&&decide (t.2.1<k)
def IP{B:List T4}(E:∀t∈tsL,okT (r.length:Int) t)(A:∀x,((tsL.filter (ltB k)).map fun t=>lf (bB r t)).count x<=B.count x):∃j i g f,(cP (bK (d2 ixD (aa 0) (cI 1))) (b5 [8,9,10,11]) (dIf (dN (asB (d2 ltd (ak 8) (ak 2))) (asB (d2 ltd (ak 9) (ak 2)))) (qO 7 (d2 ixD (am (aJ C) (aV (asO (asL (ae (asT (ae (d2 ixD (aa 4) (aa 8)) (ae (d2 ixD (aa 4) (aa 9)) (ae (getV 10) (ae (getV 11) aC))))) aC))) nA)) (cI 0))) dNx)) (lF (twD ksL tsL) R k W (r.map .int) x5 x6 (some (.own (.lst (B.map dT4)) none)) none none none none none none none)=some (.nx (lF (twD ksL tsL) R k W (r.map .int) x5 x6 (some (.own (.lst ((bW ((tsL.filter (ltB k)).map fun t=>lf (bB r t)) B).map dT4)) none)) j i g f none none none)):=by
 have L:=tw1 ksL tsL;have w:=BC C;obtain⟨⟨j,i,g,f⟩,e⟩:=kT (σ:=Option DV×Option DV×Option DV×Option DV) (st:=b5 [8,9,10,11]) (body:=(dIf (dN (asB (d2 ltd (ak 8) (ak 2))) (asB (d2 ltd (ak 9) (ak 2)))) (qO 7 (d2 ixD (am (aJ C) (aV (asO (asL (ae (asT (ae (d2 ixD (aa 4) (aa 8)) (ae (d2 ixD (aa 4) (aa 9)) (ae (getV 10) (ae (getV 11) aC))))) aC))) nA)) (cI 0))) dNx)) (fun t=>lf (bB r t)) (ltB k) (okT (r.length:Int))
  (fun B y=>lF (twD ksL tsL) R k W (r.map .int) x5 x6 (some (.own (.lst (B.map dT4)) none)) y.1 y.2.1 y.2.2.1 y.2.2.2 none none none) (fun t B y u z=>by
   obtain⟨a,b,c,o⟩:=t;obtain⟨P,O,N,b1,_⟩:=u;have K:=gl (b:=r) (x:=a) ⟨P,O⟩;have J:=gl (b:=r) (x:=b) ⟨N,b1⟩;refine⟨lF (twD ksL tsL) R k W (r.map .int) x5 x6 (some (.own (.lst (B.map dT4)) none)) (some (.v (.int a))) (some (.v (.int b))) (some (.v (.int c))) (some (.v (.bl o))) none none none,(some (.v (.int a)),some (.v (.int b)),some (.v (.int c)),some (.v (.bl o))),rfl,?_⟩;have q:=w (bB r (a,b,c,o));have p:dT4 (bB r (a,b,c,o))=.tup [.int (bx r a),.int (bx r b),.int c,.bl o]:=rfl;rw[p]at q;have l:(dN (asB (d2 ltd (ak 8) (ak 2))) (asB (d2 ltd (ak 9) (ak 2)))) (lF (twD ksL tsL) R k W (r.map .int) x5 x6 (some (.own (.lst (B.map dT4)) none)) (some (.v (.int a))) (some (.v (.int b))) (some (.v (.int c))) (some (.v (.bl o))) none none none)=some (ltB k (a,b,c,o)):=by unfold ltB;by_cases I:a<k<;>by_cases H:b<k<;>simp[I,H]
   have m:(d2 ixD (am (aJ C) (aV (asO (asL (ae (asT (ae (d2 ixD (aa 4) (aa 8)) (ae (d2 ixD (aa 4) (aa 9)) (ae (getV 10) (ae (getV 11) aC))))) aC))) nA)) (cI 0)) (lF (twD ksL tsL) R k W (r.map .int) x5 x6 (some (.own (.lst (B.map dT4)) none)) (some (.v (.int a))) (some (.v (.int b))) (some (.v (.int c))) (some (.v (.bl o))) none none none)=some (dT4 (lf (bB r (a,b,c,o)))):=by generalize aJ C=M at *;generalize dT4 (lf (bB r (a,b,c,o)))=d,r.map D.int=RR,B.map dT4=BB,twD ksL tsL=X at *;have s:ixD (.lst [d]) (.int 0)=some d:=rfl;simp[K,J,q,gZ,s]
   rw[dw,l,Ya];by_cases h:ltB k (a,b,c,o)=true
   ·rw[Yh h,zR (B:=B) (x:=lf (bB r (a,b,c,o))) (t:=none) rfl m (z h),Yh h];rfl
   ·rw[Yl h,Yl h];rfl) tsL B (none,none,none,none) E A
 exact⟨j,i,g,f,bC (by
  generalize twD ksL tsL=X,tsL.map dT4=T at *;simp[L]) e⟩
end
section
variable   {ts2:List T4}{k:Int}{r st:List Int}  
def IG(b:0<=k)(p:ksR.length<=7)(o:st.length<=7)(hN:(ks2.length:Int)=N)(h:∀x∈st,0<=x/\x<N) :
  (bt 12 (asL (mw (asO (asL (aw 1 [3] (bA 6) (setV 0) aX (d2 ixD (d2 ixD (aa 1) (cI 0)) (aa 0))))) (asO (asL (slL (d2 ixD (aa 1) (cI 0)) (bI (getV 2)) bNo)))))) (lF L (twD ksR tsR) k (twD ks2 ts2) RR x5 (some (.v (.lst (st.map .int)))) x7 x8 x9 x10 x11 none none none)=some (.nx (lF L (twD ksR tsR) k (twD ks2 ts2) RR x5 (some (.v (.lst (st.map .int)))) x7 x8 x9 x10 x11 (some (.own (.lst ((ms ks2 ksR st k).map .str)) none)) none none)):=by
 have i:=tw0 ks2 ts2;have g:=tw0 ksR tsR;have j:cE (ksR.map D.str) (some k) none=(ksR.drop k.toNat).map .str:=by rw[lh _ b,Vt]
 have m:cD (setV 0) aX (d2 ixD (d2 ixD (aa 1) (cI 0)) (aa 0)) [none,some (.v (twD ks2 ts2))] (st.map .int)=some ((st.map (kAt ks2)).map .str):=Fp hN h fun x s e=>by
  generalize twD ks2 ts2=F2,ks2.map D.str=K at *;simp[i,e]
 have a:(st.map D.int).length<=16777216:=by rw[Yb];omega
 have l:((st.map (kAt ks2)).map D.str).length+((ksR.drop k.toNat).map D.str).length<=16777216:=by rw[Yb,Yb,Yb,ZH];omega
 unfold ms;rw[YT];generalize (d2 ixD (d2 ixD (aa 1) (cI 0)) (aa 0))=E,(st.map (kAt ks2)).map D.str=A,(ksR.drop k.toNat).map D.str=B,twD ks2 ts2=F2,twD ksR tsR=F3,ksR.map D.str=KR,st.map D.int=S at *;have c:aw 1 [3] (bA 6) (setV 0) aX E (lF L F3 k F2 RR x5 (some (.v (.lst S))) x7 x8 x9 x10 x11 none none none)=some A:=by rw[bc,show bA 6 (lF L F3 k F2 RR x5 (some (.v (.lst S))) x7 x8 x9 x10 x11 none none none)=some S from rfl,Ya,Yh a];exact m
 have f:(asO (asL (slL (d2 ixD (aa 1) (cI 0)) (bI (getV 2)) bNo))) (lF L F3 k F2 RR x5 (some (.v (.lst S))) x7 x8 x9 x10 x11 none none none)=some (.lst B):=by simp[fY,g,j,gZ]
 rw[kt,cz,rg,da,cz,c,f];show Option.map _ (Option.map _ (if A.length+B.length<=16777216 then some (A++B)else none))=_;rw[Yh l];rfl
def Hx(j:0<=k/\k<=nR)(H:nR<=7)(m:(ksR.length:Int)=nR)(E:r.length<=8)(g:∀x∈r.take k.toNat,x∈st) :
  (aF 13 (d2 bb (asO (asL (aw 1 [6] (bK (asO (asL (slL (aa 4) bNo (bI (getV 2)))))) (setV 0) aX (d2 f8 (ak 1) (ak 0))))) (asO (asL (aw 1 [6] (bJ (d2 ff (d1 aG (d2 ixD (aa 1) (cI 0))) (aa 2))) (setV 0) aX (d2 bb (d1 aG (ak 1)) (aa 0))))))) (lF L (twD ksR tsR) k W (r.map .int) x5 (some (.v (.lst (st.map .int)))) x7 x8 x9 x10 x11 x12 none none)=some (.nx (lF L (twD ksR tsR) k W (r.map .int) x5 (some (.v (.lst (st.map .int)))) x7 x8 x9 x10 x11 x12 (some (.v (.lst ((aD r k nR st).map .int)))) none)):=by
 have s:=tw0 ksR tsR;have l:((ksR.map D.str).length:Int)=nR:=by rw[Yb];exact m
 have y:=plA st (r.take k.toNat) g;have w:=plB st (aH (nR-k));have C:((r.take k.toNat).map D.int).length<=8:=by rw[Yb,YF];omega
 have z:((aH (nR-k)).map D.int).length<=7:=by rw[Yb,bq];omega
 have b:(((r.take k.toNat).map fun p=>(st.idxOf p:Int)).map D.int).length<=8:=by rw[Yb,Yb,YF];omega
 have a:(((aH (nR-k)).map fun i=>(st.length:Int)+i).map D.int).length<=7:=by rw[Yb,Yb,bq];omega
 have u:cE (r.map D.int) none (some k)=(r.take k.toNat).map .int:=by rw[iL _ j.1,List.map_take]
 have h:(bJ (d2 ff (d1 aG (d2 ixD (aa 1) (cI 0))) (aa 2))) (lF L (twD ksR tsR) k W (r.map .int) x5 (some (.v (.lst (st.map .int)))) x7 x8 x9 x10 x11 x12 none none)=some ((aH (nR-k)).map .int):=dq (by
  generalize twD ksR tsR=X,ksR.map D.str=K at *;simp[s,l]) ⟨by omega,by omega⟩
 unfold aD;rw[YT];generalize (bJ (d2 ff (d1 aG (d2 ixD (aa 1) (cI 0))) (aa 2)))=RG,(d2 f8 (ak 1) (ak 0))=E1,(d2 bb (d1 aG (ak 1)) (aa 0))=E2,((r.take k.toNat).map fun p=>(st.idxOf p:Int)).map D.int=A,((aH (nR-k)).map fun i=>(st.length:Int)+i).map D.int=B,(r.take k.toNat).map D.int=A0,(aH (nR-k)).map D.int=B0,r.map D.int=RR,st.map D.int=SS,twD ksR tsR=X at *;have f:A0.length<=16777216:=by omega
 have e:B0.length<=16777216:=by omega
 have c:=mP A B (by omega);have q:aw 1 [6] (bK (asO (asL (slL (aa 4) bNo (bI (getV 2)))))) (setV 0) aX E1 (lF L X k W RR x5 (some (.v (.lst SS))) x7 x8 x9 x10 x11 x12 none none)=some A:=by rw[bc,show bK (asO (asL (slL (aa 4) bNo (bI (getV 2))))) (lF L X k W RR x5 (some (.v (.lst SS))) x7 x8 x9 x10 x11 x12 none none)=some A0 from by simp[fY,u,gZ],Ya,Yh f];exact y
 have o:aw 1 [6] RG (setV 0) aX E2 (lF L X k W RR x5 (some (.v (.lst SS))) x7 x8 x9 x10 x11 x12 none none)=some B:=by rw[bc,h,Ya,Yh e];exact w
 rw[gH,vJ,da,cz,q];show((some (D.lst A)).bind _).map _=_;rw[Ya,da,cz,o];show((some (D.lst B)).bind _).map _=_;rw[Ya,c];rfl
def Ia{ks0:List Str}(g:0<=k/\k<=nR)(w:nR<=7)(j:(ksR.length:Int)=nR)(A:(pl.length:Int)=nR)(h:∀a,0<=a/\a<k->0<=bx pl a/\bx pl a<(ks0.length:Int)) :
  ∃y,(cP (bJ (aa 2)) (setV 14) (cr 12 (d2 ixD (aa 13) (aa 14)) (d2 ixD (d2 ixD (aa 1) (cI 0)) (aa 14)))) (lF L (twD ksR tsR) k W RR x5 x6 x7 x8 x9 x10 x11 (some (.own (.lst (ks0.map .str)) none)) (some (.v (.lst (pl.map .int)))) none)=some (.nx (lF L (twD ksR tsR) k W RR x5 x6 x7 x8 x9 x10 x11 (some (.own (.lst ((om pl ksR (aH k) ks0).map .str)) none)) (some (.v (.lst (pl.map .int)))) y)):=by
 have l:=tw0 ksR tsR;obtain⟨y,e⟩:=k8 (st:=setV 14) (body:=(cr 12 (d2 ixD (aa 13) (aa 14)) (d2 ixD (d2 ixD (aa 1) (cI 0)) (aa 14)))) pl ksR ks0.length (fun ks y=>lF L (twD ksR tsR) k W RR x5 x6 x7 x8 x9 x10 x11 (some (.own (.lst (ks.map .str)) none)) (some (.v (.lst (pl.map .int)))) y) (aH k) ks0 none rfl (fun a i ks y z=>by
  obtain⟨c,q⟩:=bT.mp i;have o:=gl (b:=pl) (x:=a) ⟨c,by omega⟩;have m:=nW j (x:=a) ⟨c,by omega⟩;obtain⟨f,u⟩:=h a ⟨c,q⟩;refine⟨lF L (twD ksR tsR) k W RR x5 x6 x7 x8 x9 x10 x11 (some (.own (.lst (ks.map .str)) none)) (some (.v (.lst (pl.map .int)))) (some (.v (.int a))),some (.v (.int a)),rfl,?_⟩;rw[pf (ks:=ks) (p:=bx pl a) (s:=kAt ksR a) (t:=none) rfl (by
   generalize pl.map D.int=P at *;simp[o]) (by
   generalize twD ksR tsR=F,ksR.map D.str=KK at *;simp[l,m]) f (by omega)]
  rfl)
 exact⟨y,bC (dq (by simp) ⟨g.1,by omega⟩) e⟩
def HM{TO:List T4}(i:TO.length<=100)(h:∀t∈TO,t.1∈st/\t.2.1∈st):(kS 7 (bt 7 (asL (aw 4 [6] (bK (getV 7)) (b5 [0,1,2,3]) aX (asT (ae (d2 f8 (ak 4) (ak 0)) (ae (d2 f8 (ak 4) (ak 1)) (ae (getV 2) (ae (getV 3) aC))))))))) (lF L R k W RR x5 (some (.v (.lst (st.map .int)))) (some (.own (.lst (TO.map dT4)) none)) x8 x9 x10 x11 x12 x13 x14)=some (.nx (lF L R k W RR x5 (some (.v (.lst (st.map .int)))) (some (.own (.lst ((TO.map (idT st)).map dT4)) none)) x8 x9 x10 x11 x12 x13 x14)):=by
 have g:cD (b5 [0,1,2,3]) aX (asT (ae (d2 f8 (ak 4) (ak 0)) (ae (d2 f8 (ak 4) (ak 1)) (ae (getV 2) (ae (getV 3) aC))))) [none,none,none,none,some (.v (.lst (st.map .int)))] (TO.map dT4)=some ((TO.map (idT st)).map dT4):=by
  rw[YR];refine bN dT4 _ TO fun t b=>⟨[some (.v (.int t.1)),some (.v (.int t.2.1)),some (.v (.int t.2.2.1)),some (.v (.bl t.2.2.2)),some (.v (.lst (st.map .int)))],rfl,rfl,?_⟩
  have f:=rB (h t b).1;have e:=rB (h t b).2;generalize st.map D.int=S at *;simp[f,e,dT4,idT]
 have l:(TO.map dT4).length<=16777216:=by rw[Yb];omega
 generalize (asT (ae (d2 f8 (ak 4) (ak 0)) (ae (d2 f8 (ak 4) (ak 1)) (ae (getV 2) (ae (getV 3) aC)))))=E,(TO.map (idT st)).map dT4=A,TO.map dT4=T,st.map D.int=a at *;show kS 7 (bt 7 (asL (aw 4 [6] (bK (getV 7)) (b5 [0,1,2,3]) aX E))) _=_;have c:aw 4 [6] (bK (getV 7)) (b5 [0,1,2,3]) aX E (lF L R k W RR x5 (some (.v (.lst a))) (some (.v (.lst T))) x8 x9 x10 x11 x12 x13 x14)=some A:=by rw[bc,show bK (getV 7) (lF L R k W RR x5 (some (.v (.lst a))) (some (.v (.lst T))) x8 x9 x10 x11 x12 x13 x14)=some T from rfl,Ya,Yh l];exact g
 rw[Bd];show bt 7 (asL (aw 4 [6] (bK (getV 7)) (b5 [0,1,2,3]) aX E)) (lF L R k W RR x5 (some (.v (.lst a))) (some (.v (.lst T))) x8 x9 x10 x11 x12 x13 x14)=_;rw[kt,cz,c];rfl
def HU{A:List T4}(j:A.length<=12)(i:tsR.length<=12)(h:∀t∈tsR,(0<=t.1/\t.1<(pl.length:Int))/\(0<=t.2.1/\t.2.1<(pl.length:Int))):(tY 7 (aw 4 [13] (bK (d2 ixD (aa 1) (cI 1))) (b5 [0,1,2,3]) aX (asT (ae (d2 ixD (aa 4) (aa 0)) (ae (d2 ixD (aa 4) (aa 1)) (ae (getV 2) (ae (getV 3) aC))))))) (lF L (twD ksR tsR) k W RR x5 x6 (some (.own (.lst (A.map dT4)) none)) x8 x9 x10 x11 x12 (some (.v (.lst (pl.map .int)))) x14)=some (.nx (lF L (twD ksR tsR) k W RR x5 x6 (some (.own (.lst ((A++tsR.map (bB pl)).map dT4)) none)) x8 x9 x10 x11 x12 (some (.v (.lst (pl.map .int)))) x14)):=by
 have e:=tw1 ksR tsR;have f:cD (b5 [0,1,2,3]) aX (asT (ae (d2 ixD (aa 4) (aa 0)) (ae (d2 ixD (aa 4) (aa 1)) (ae (getV 2) (ae (getV 3) aC))))) [none,none,none,none,some (.v (.lst (pl.map .int)))] (tsR.map dT4)=some ((tsR.map (bB pl)).map dT4):=by
  rw[YR];refine bN dT4 _ tsR fun t a=>⟨[some (.v (.int t.1)),some (.v (.int t.2.1)),some (.v (.int t.2.2.1)),some (.v (.bl t.2.2.2)),some (.v (.lst (pl.map .int)))],rfl,rfl,?_⟩
  have e:=gl (h t a).1;have c:=gl (h t a).2;generalize pl.map D.int=S at *;simp[e,c,dT4,bB]
 have l:(tsR.map dT4).length<=16777216:=by rw[Yb];omega
 have g:(A.map dT4).length+((tsR.map (bB pl)).map dT4).length<=1000:=by rw[Yb,Yb,Yb];omega
 rw[YT];generalize (asT (ae (d2 ixD (aa 4) (aa 0)) (ae (d2 ixD (aa 4) (aa 1)) (ae (getV 2) (ae (getV 3) aC)))))=E,(tsR.map (bB pl)).map dT4=B,tsR.map dT4=T,A.map dT4=AA,pl.map D.int=SS,twD ksR tsR=X at *;have b:aw 4 [13] (bK (d2 ixD (aa 1) (cI 1))) (b5 [0,1,2,3]) aX E (lF L X k W RR x5 x6 (some (.own (.lst AA) none)) x8 x9 x10 x11 x12 (some (.v (.lst SS))) x14)=some B:=by rw[bc,show bK (d2 ixD (aa 1) (cI 1)) (lF L X k W RR x5 x6 (some (.own (.lst AA) none)) x8 x9 x10 x11 x12 (some (.v (.lst SS))) x14)=some T from by simp[e],Ya,Yh l];exact f
 rw[Bh (ds:=AA) (es:=B) (t:=none) rfl b (by omega)];rfl
def Iy{K:List D}{X:List T4}(a:X.length<=24):dG ((kS 12 (bu (asT (ae (getV 12) (ae (am (aJ C) (aB 7 nA)) aC))))) (lF L R k W RR x5 x6 (some (.own (.lst (X.map dT4)) none)) x8 x9 x10 x11 (some (.own (.lst K) none)) x13 x14))=some (.v (.tup [.lst K,.lst (srt X)])):=by have h:aJ C [.bor (.lst (X.map dT4))]=some (.own (.lst (srt X)) none):=vA C X _ (fun _=>rfl) a;generalize aJ C=M,X.map dT4=XX,srt X=S at *;simp[h,gZ]
end
def zH{n:Nat}{a b c d e:DV}:mOf n 5 g [a,b,c,d,e]=dG (g (aP n 5 [a,b,c,d,e])):=rfl
def Dg{u:List T4}(b:List Int)(p:u.Perm (tsR.map lf)):((u.map (bB b)).map lf).Perm ((tsR.map (bB b)).map lf):=by have h:=(p.map (bB b)).map lf;rw[YR,YR,YR]at h;rw[YR,YR];refine h.trans (List.Perm.of_eq (Vj fun t _=>?_));exact wa b t
def xT{n k:Int}(h:∀t∈tsL,okT n t):tsL.filter (ltB k)=tsL.filter (amB (aH k)):=List.filter_congr fun t a=>by
 obtain⟨f,_,e,_⟩:=h t a;unfold ltB amB;rw[dB,dB];by_cases c:t.1<k<;>by_cases b:t.2.1<k<;>simp[c,b,bT,f,e]
def Cn{ts2:List T4}{o:List Int}(h:∀t∈ts2,okT N t):ts2.filter (nc o)=ts2.filter (amB (al o N)):=List.filter_congr fun t a=>by
 obtain⟨g,f,e,b1,_⟩:=h t a;unfold nc amB;rw[dB,dB,dB,dB];by_cases c:t.1∈o<;>by_cases b:t.2.1∈o<;>simp[c,b,gm,g,f,e,b1]
def sq(C:Addr){ts2:List T4}{n1 k:Int}{r:List Int}(q:1<=nR/\nR<=7)(hN:1<=N/\N<=7)(w:okK nR ksR)(Z:okK N ks2)(s1:okS n1 tsL)(E:okS nR tsR)(H:okS N ts2)(h:0<=k/\k<=n1/\k<=nR)(hr:r.length<=8)(hw:og ksL ks2 tsL ts2 r n1 N=true) :
  ∃X:List T4,cx C [.v (twD ksL tsL),.v (twD ksR tsR),.v (.int k),.v (twD ks2 ts2),.v (.lst (r.map .int))]=some (.v (.tup [.lst ((kkP ks2 ksR r k nR (al (r.drop k.toNat) N)).map .str),.lst (srt X)])) /\
   ∀c b j:List T4,c.Perm (tsL.map lf)->b.Perm (ts2.map lf)->j.Perm (tsR.map lf)->((dI r k (al (r.drop k.toNat) N) (aD r k nR (al (r.drop k.toNat) N)) c b j).map lf).Perm (X.map lf):=by
 obtain⟨hl,nd,s,_,hp⟩:=k7 ((mH ..).symm.trans hw);have hs:∀a,0<=a/\a<k->bx r a∈al (r.drop k.toNat) N:=fun a U=>jQ nd s (by omega) U
 have hc:=Ar (k:=k) nd hl s h.2.1 s1.2 hp;have sl:(al (r.drop k.toNat) N).length<=7:=by have:=pw (r.drop k.toNat) N;omega
 have sm:∀x∈al (r.drop k.toNat) N,0<=x/\x<N:=fun x O=>(gm.mp O).1
 have e0:=HR (L:=twD ksL tsL) (R:=twD ksR tsR) (W:=twD ks2 ts2) (r:=r) h.1;have e1:=Ip (L:=twD ksL tsL) (R:=twD ksR tsR) (k:=k) (ts2:=ts2) (o:=r.drop k.toNat) (RR:=r.map .int) Z.1 ⟨by omega,hN.2⟩;obtain⟨f,p,e2⟩:=Io (C:=C) (L:=twD ksL tsL) (R:=twD ksR tsR) (k:=k) (ks2:=ks2) (ts2:=ts2) (o:=r.drop k.toNat) (RR:=r.map .int) (x6:=some (.v (.lst ((al (r.drop k.toNat) N).map .int)))) H.1;rw[Cn H.2]at p;have T:∀x,((tsL.filter (ltB k)).map fun t=>lf (bB r t)).count x<=f.count x:=fun x=>by
  rw[xT s1.2,p.count_eq];exact hc x
 obtain⟨m,l,e,y,e3⟩:=IP (C:=C) (ksL:=ksL) (tsL:=tsL) (R:=twD ksR tsR) (W:=twD ks2 ts2) (k:=k) (r:=r) (B:=f) (x5:=some (.v (.lst ((r.drop k.toNat).map .int)))) (x6:=some (.v (.lst ((al (r.drop k.toNat) N).map .int)))) (by rw[hl];exact s1.2) T;have Y:(bW ((tsL.filter (ltB k)).map fun t=>lf (bB r t)) f).Sublist f:=ip _ _;have z:f.length<=12:=by rw[p.length_eq,Yb];have:=ZF (amB (al (r.drop k.toNat) N)) ts2;have:=H.1;omega
 have pm:∀c b:List T4,c.Perm (tsL.map lf)->b.Perm (ts2.map lf)->(bW (((c.filter (amB (aH k))).map (bB r)).map lf) (b.filter (amB (al (r.drop k.toNat) N)))).Perm (bW ((tsL.filter (ltB k)).map fun t=>lf (bB r t)) f):=fun c b M J=>by
  rw[xT s1.2];exact wT (yk _ _ M) ((yx _ J).trans p.symm)
 have hT:∀t∈bW ((tsL.filter (ltB k)).map fun t=>lf (bB r t)) f,t.1∈al (r.drop k.toNat) N/\t.2.1∈al (r.drop k.toNat) N:=fun t P=>by
  obtain⟨u,hu,rfl⟩:=Yv.mp (p.mem_iff.mp (Y.subset P));exact zB.mp ((ui _ u).trans (Zu.mp hu).2)
 have lT:(bW ((tsL.filter (ltB k)).map fun t=>lf (bB r t)) f).length<=12:=YC Y.length_le z;generalize bW ((tsL.filter (ltB k)).map fun t=>lf (bB r t)) f=TO at *;have e4:=IG (L:=twD ksL tsL) (ksR:=ksR) (tsR:=tsR) (ks2:=ks2) (ts2:=ts2) (k:=k) (st:=al (r.drop k.toNat) N) (RR:=r.map .int) (x5:=some (.v (.lst ((r.drop k.toNat).map .int)))) (x7:=some (.own (.lst (TO.map dT4)) none)) (x8:=m) (x9:=l) (x10:=e) (x11:=y) h.1 (by have:=w.1;omega) sl Z.1 sm;have e5:=Hx (L:=twD ksL tsL) (W:=twD ks2 ts2) (ksR:=ksR) (tsR:=tsR) (k:=k) (nR:=nR) (r:=r) (st:=al (r.drop k.toNat) N) (x5:=some (.v (.lst ((r.drop k.toNat).map .int)))) (x7:=some (.own (.lst (TO.map dT4)) none)) (x8:=m) (x9:=l) (x10:=e) (x11:=y) (x12:=some (.own (.lst ((ms ks2 ksR (al (r.drop k.toNat) N) k).map .str)) none)) ⟨h.1,h.2.2⟩ q.2 w.1 hr (fun x O=>by
  obtain⟨i,S⟩:=Vc O;have Q:i<k.toNat:=by have:=(Yj.mp S).1;rw[YF]at this;omega
  rw[Zs Q]at S;have:=hs (i:Int) ⟨by omega,by omega⟩;unfold bx at this;rw[show((i:Int)).toNat=i by omega,S]at this;exact this)
 have I:=yo (r:=r) (st:=al (r.drop k.toNat) N) ⟨h.1,h.2.2⟩ (by omega);obtain⟨g,e6⟩:=Ia (L:=twD ksL tsL) (W:=twD ks2 ts2) (ksR:=ksR) (tsR:=tsR) (k:=k) (nR:=nR) (pl:=aD r k nR (al (r.drop k.toNat) N)) (ks0:=ms ks2 ksR (al (r.drop k.toNat) N) k) (RR:=r.map .int) (x5:=some (.v (.lst ((r.drop k.toNat).map .int)))) (x6:=some (.v (.lst ((al (r.drop k.toNat) N).map .int)))) (x7:=some (.own (.lst (TO.map dT4)) none)) (x8:=m) (x9:=l) (x10:=e) (x11:=y) ⟨h.1,h.2.2⟩ q.2 w.1 I (fun a U=>by
  obtain⟨p0,p1,_⟩:=pF (N:=N) (nR:=nR) (x:=a) hs ⟨h.1,h.2.2⟩ (by omega) ⟨U.1,by omega⟩;have:=qB (ks2:=ks2) (r:=r) (st:=al (r.drop k.toNat) N) w.1 ⟨h.1,h.2.2⟩;unfold kkP at this;rw[jG]at this;omega)
 have km:(om (aD r k nR (al (r.drop k.toNat) N)) ksR (aH k) (ms ks2 ksR (al (r.drop k.toNat) N) k))=kkP ks2 ksR r k nR (al (r.drop k.toNat) N):=rfl;rw[km]at e6;have e7:=HM (L:=twD ksL tsL) (R:=twD ksR tsR) (k:=k) (W:=twD ks2 ts2) (RR:=r.map .int) (st:=al (r.drop k.toNat) N) (TO:=TO) (x5:=some (.v (.lst ((r.drop k.toNat).map .int)))) (x8:=m) (x9:=l) (x10:=e) (x11:=y) (x12:=some (.own (.lst ((kkP ks2 ksR r k nR (al (r.drop k.toNat) N)).map .str)) none)) (x13:=some (.v (.lst ((aD r k nR (al (r.drop k.toNat) N)).map .int)))) (x14:=g) (by omega) hT;have e8:=HU (L:=twD ksL tsL) (ksR:=ksR) (tsR:=tsR) (k:=k) (W:=twD ks2 ts2) (RR:=r.map .int) (pl:=aD r k nR (al (r.drop k.toNat) N)) (A:=TO.map (idT (al (r.drop k.toNat) N))) (x5:=some (.v (.lst ((r.drop k.toNat).map .int)))) (x6:=some (.v (.lst ((al (r.drop k.toNat) N).map .int)))) (x8:=m) (x9:=l) (x10:=e) (x11:=y) (x12:=some (.own (.lst ((kkP ks2 ksR r k nR (al (r.drop k.toNat) N)).map .str)) none)) (x14:=g) (by rw[Yb];exact lT) E.1 (fun t P=>by
  obtain⟨a0,a1,b0,b1,_⟩:=E.2 t P;exact⟨⟨a0,by omega⟩,⟨b0,by omega⟩⟩)
 have lX:(TO.map (idT (al (r.drop k.toNat) N))++tsR.map (bB (aD r k nR (al (r.drop k.toNat) N)))).length<=24:=by rw[Yn,Yb,Yb];have:=E.1;omega
 have e9:=Iy (C:=C) (L:=twD ksL tsL) (R:=twD ksR tsR) (k:=k) (W:=twD ks2 ts2) (RR:=r.map .int) (K:=(kkP ks2 ksR r k nR (al (r.drop k.toNat) N)).map .str) (X:=TO.map (idT (al (r.drop k.toNat) N))++tsR.map (bB (aD r k nR (al (r.drop k.toNat) N)))) (x5:=some (.v (.lst ((r.drop k.toNat).map .int)))) (x6:=some (.v (.lst ((al (r.drop k.toNat) N).map .int)))) (x8:=m) (x9:=l) (x10:=e) (x11:=y) (x13:=some (.v (.lst ((aD r k nR (al (r.drop k.toNat) N)).map .int)))) (x14:=g) lX;refine⟨TO.map (idT (al (r.drop k.toNat) N))++tsR.map (bB (aD r k nR (al (r.drop k.toNat) N))),?_,fun c b j M J pR=>?_⟩
 ·unfold cx i7;rw[zH,show aP 15 5 [.v (twD ksL tsL),.v (twD ksR tsR),.v (.int k),.v (twD ks2 ts2),.v (.lst (r.map .int))]=lF (twD ksL tsL) (twD ksR tsR) k (twD ks2 ts2) (r.map .int) none none none none none none none none none none from rfl,
   aj e0,aj e1,aj e2,aj e3,aj e4,aj e5,aj e6,aj e7,aj e8]
  exact e9
 ·unfold dI;rw[YT,YT];exact((pm c b M J).map _ |>.map _).append (Dg _ pR)
abbrev uX:DF->Option RES:=(dIf (asB (d2 eqD (ak 5) (cI 0))) (cr 3 (getV 4) (d2 aW (d2 bh (aa 1) (cI 60)) (aa 2))) (dIf (asB (d2 eqD (ak 5) (cI 1))) (cr 3 (getV 4) (d2 ixD (aa 3) (d2 ff (aa 4) (cI 1)))) (dIf (asB (d2 eqD (ak 5) (cI 2))) (cr 3 (getV 4) (d2 ff (d2 ixD (aa 3) (aa 4)) (aa 2))) (dIf (asB (d2 eqD (ak 5) (cI 3))) (cr 3 (getV 4) (d2 bb (aa 2) (d2 aW (d2 bh (aa 1) (cI 60)) (cI 3)))) (dIf (asB (d2 eqD (ak 5) (cI 4))) (eD 3 (d2 aW (d2 bh (aa 1) (cI 60)) (aa 2))) (pN 3 (getV 4)))))))
def CB(w:List Int)(s N a h:Int)(W:List D)(hw:1<=w.length/\w.length<=7)(hN:1<=N)(g:0<=a/\a<(w.length:Int))(A:h=0\/h=1\/h=2\/h=3\/h=4\/h=5) :
  ∃r:List Int,uX (hdF W (w.map .int) s N a h)=some (.nx (hdF W (r.map .int) s N a h))/\r.length<=8:=by
 have f:ixN w.length a=some a.toNat:=yV g.1 g.2;have e:a.toNat<w.length:=by omega
 obtain⟨j,C,p⟩:=yw (l:=w.length) (i:=a-1) (by omega) (by omega) (by omega);have H:=tK f e;have E:=tK C p;have b:=bF s 60 (by decide);have m:=aI (s/60) N (by omega);have o:=aI (s/60) 3 (by decide);have c:(w.map D.int).length=w.length:=Yb ..;generalize w[a.toNat]=x,w[j]=y at *;rcases A with rfl|rfl|rfl|rfl|rfl|rfl
 ·refine⟨w.set a.toNat (s/60%N),?_,by rw[YQ];omega⟩;rw[Vn];generalize w.map D.int=R at *;unfold uX;rw[dJ rfl,Yh rfl];simp -implicitDefEqProofs [hdF,fw,b,m,c,f]
 ·refine⟨w.set a.toNat y,?_,by rw[YQ];omega⟩;rw[Vn];generalize w.map D.int=R at *;unfold uX;rw[dJ rfl,Yl (by decide)];rw[dJ rfl,Yh rfl];simp -implicitDefEqProofs [hdF,fw,ix1,E,c,f]
 ·refine⟨w.set a.toNat (x-N),?_,by rw[YQ];omega⟩;rw[Vn];generalize w.map D.int=R at *;unfold uX;rw[dJ rfl,Yl (by decide)];rw[dJ rfl,Yl (by decide)];rw[dJ rfl,Yh rfl];simp -implicitDefEqProofs [hdF,fw,ix1,H,c,f]
 ·refine⟨w.set a.toNat (N+s/60%3),?_,by rw[YQ];omega⟩;rw[Vn];generalize w.map D.int=R at *;unfold uX;rw[dJ rfl,Yl (by decide)];rw[dJ rfl,Yl (by decide)];rw[dJ rfl,Yl (by decide)];rw[dJ rfl,Yh rfl];simp -implicitDefEqProofs [hdF,fw,b,o,c,f]
 ·refine⟨w++[s/60%N],?_,by rw[Yn,YN];omega⟩;have u:w.length<16777216:=by omega
  rw[YT];generalize w.map D.int=R at *;unfold uX;rw[dJ rfl,Yl (by decide)];rw[dJ rfl,Yl (by decide)];rw[dJ rfl,Yl (by decide)];rw[dJ rfl,Yl (by decide)];rw[dJ rfl,Yh rfl];simp -implicitDefEqProofs [hdF,b,m,c,u]
 ·refine⟨w.eraseIdx a.toNat,?_,by rw[Xr e];omega⟩;have q:=t4 (n:=w.length) g.1 g.2 (by omega);have B:(w.map D.int)[a.toNat]?=some (.int (w[a.toNat]'e)):=by rw[Yt,Yi e];rfl
  rw[<-kH];generalize w[a.toNat]'e=z,w.map D.int=R at *;unfold uX;rw[dJ rfl,Yl (by decide)];rw[dJ rfl,Yl (by decide)];rw[dJ rfl,Yl (by decide)];rw[dJ rfl,Yl (by decide)];rw[dJ rfl,Yl (by decide)];simp -implicitDefEqProofs [hdF,yp,c,q,B]
def wH(C:Addr)(w:List Int)(s N:Int)(hw:1<=w.length/\w.length<=7)(hN:1<=N):∃r:List Int,d4 C [.v (.lst (w.map .int)),.v (.int s),.v (.int N)]=some (.own (.lst (r.map .int)) none)/\r.length<=8:=by
 have i:0<=s/6%(w.length:Int)/\s/6%(w.length:Int)<(w.length:Int):=⟨YS _ (by omega),YJ _ (by omega)⟩
 have j:=bF s 6 (by decide);have g:=aI s 6 (by decide);have m:=aI (s/6) (w.length:Int) (by omega);obtain⟨r,e,h⟩:=CB w s N (s/6%(w.length:Int)) (s%6) (w.map .int) hw hN i (by have p:=YS s (by decide:(6:Int)≠0);have o:=YJ s (by decide:(0:Int)<6);omega);refine⟨r,?_,h⟩;unfold d4 kA;have l:(w.map D.int).length=w.length:=Yb ..;rw[j6,show aP 6 3 [.v (.lst (w.map .int)),.v (.int s),.v (.int N)]=[some (.v (.lst (w.map .int))),some (.v (.int s)),some (.v (.int N)),none,none,none]from rfl];have f:bt 3 (asL (eh (aa 0))) [some (.v (.lst (w.map .int))),some (.v (.int s)),some (.v (.int N)),none,none,none]=some (.nx [some (.v (.lst (w.map .int))),some (.v (.int s)),some (.v (.int N)),some (.own (.lst (w.map .int)) none),none,none]):=rfl;have c:aF 4 (d2 aW (d2 bh (aa 1) (cI 6)) (d1 aG (ak 3))) [some (.v (.lst (w.map .int))),some (.v (.int s)),some (.v (.int N)),some (.own (.lst (w.map .int)) none),none,none]=some (.nx [some (.v (.lst (w.map .int))),some (.v (.int s)),some (.v (.int N)),some (.own (.lst (w.map .int)) none),some (.v (.int (s/6%(w.length:Int)))),none]):=by generalize s/6%(w.length:Int)=a at *;generalize w.map D.int=R at *;simp -implicitDefEqProofs [j,l,m]
 have b:aF 5 (d2 aW (aa 1) (cI 6)) [some (.v (.lst (w.map .int))),some (.v (.int s)),some (.v (.int N)),some (.own (.lst (w.map .int)) none),some (.v (.int (s/6%(w.length:Int)))),none]=some (.nx (hdF (w.map .int) (w.map .int) s N (s/6%(w.length:Int)) (s%6))):=by generalize s/6%(w.length:Int)=a at *;generalize w.map D.int=R at *;simp -implicitDefEqProofs [hdF,g]
 rw[aj f,aj c,aj b,aj e];rfl
abbrev dF(L R:D)(k:Int)(W:D)(r:List D)(x5 x6:Option DV):DF:=[some (.v L),some (.v R),some (.v (.int k)),some (.v W),some (.v (.lst r)),x5,x6]
section
variable   {ts2:List T4}{n1 k:Int}{r:List Int}  
def GF(b:(ksL.length:Int)=n1)(e:r.length<=8):(orT (asB (d2 neD (d1 aG (ak 4)) (d1 aG (d2 ixD (aa 0) (cI 0))))) (asB (d2 neD (d1 jY (aa 4)) (d1 aG (ak 4))))) (dF (twD ksL tsL) R k W (r.map .int) none none)=some (!(decide ((r.length:Int)=n1)&&uI r)):=by
 have h:=Br r e;have i:=tw0 ksL tsL;have a:((ksL.map D.str).length:Int)=n1:=by rw[Yb];exact b
 have c:((r.map D.int).length:Int)=(r.length:Int):=by rw[Yb]
 unfold uI;generalize ((fW r).length:Int)=l2,(r.length:Int)=l,r.map D.int=RR,ksL.map D.str=K1,twD ksL tsL=X at *;by_cases g:l=n1<;>by_cases f:l2=l<;>simp -implicitDefEqProofs [i,a,c,h,g,f]
def Gq(c:(ks2.length:Int)=N)(u:r.length<=8):(asB (d2 gtI (d1 aG (asO (asL (aw 1 [3] (bA 4) (setV 0) (cw (asB (chD leA ltI (cI 0) (ak 0) (d1 aG (d2 ixD (aa 1) (cI 0)))))) (getV 0))))) (cI 0))) (dF L R k (twD ks2 ts2) (r.map .int) none none)=some (!(r.all fun p=>decide (0<=p/\p<N))):=by
 have o:=tw0 ks2 ts2;have f:((ks2.map D.str).length:Int)=N:=by rw[Yb];exact c
 have s:cD (setV 0) (cw (asB (chD leA ltI (cI 0) (ak 0) (d1 aG (d2 ixD (aa 1) (cI 0)))))) (getV 0) [none,some (.v (twD ks2 ts2))] (r.map .int)=some ((r.filter fun p=>!decide (0<=p/\p<N)).map .int):=by
  refine fP (fun p=>!decide (0<=p/\p<N)) r (fun x _=>?_) (XW _);have e:=zd x N (ak 0) (d1 aG (d2 ixD (aa 1) (cI 0))) [some (.v (.int x)),some (.v (twD ks2 ts2))] rfl (by
   generalize twD ks2 ts2=X,ks2.map D.str=K at *;simp -implicitDefEqProofs [o,f])
  show cw (asB _) [some (.v (.int x)),some (.v (twD ks2 ts2))]=_;rw[jD,jg,e];rfl
 have i:(r.map D.int).length<=16777216:=by rw[Yb];omega
 have g:(decide ((0:Int)<(((r.filter fun p=>!decide (0<=p/\p<N)).map D.int).length:Int)))=!(r.all fun p=>decide (0<=p/\p<N)):=by
  rw[Yb,ZQ,Yu,Vr,<-Bool.not_eq_true,Yr];constructor
  ·intro h q;obtain⟨a,m⟩:=List.exists_mem_of_length_pos (l:=r.filter fun p=>!decide (0<=p/\p<N)) (by omega);have:=Zu.mp m;rw[q a this.1]at this;exact absurd this.2 (by decide)
  ·intro h;by_cases q:(r.filter fun p=>!decide (0<=p/\p<N))=[]
   ·exact absurd (fun x j=>by
     have:=List.filter_eq_nil_iff.mp q x j;simpa using this) h
   ·have:=List.length_pos_iff.mpr q;omega
 generalize (cw (asB (chD leA ltI (cI 0) (ak 0) (d1 aG (d2 ixD (aa 1) (cI 0))))))=E,(r.filter fun p=>!decide (0<=p/\p<N)).map D.int=A,r.map D.int=RR,(!(r.all fun p=>decide (0<=p/\p<N)))=b at *;have e:aw 1 [3] (bA 4) (setV 0) E (getV 0) (dF L R k (twD ks2 ts2) RR none none)=some A:=by rw[bc,show bA 4 (dF L R k (twD ks2 ts2) RR none none)=some RR from rfl,Ya,Yh i];exact s
 rw[jg,vJ,FW,da,cz,e];show(match gtI (.int (A.length:Int)) (.int 0)with|some (.bl b)=>some b|_=>none)=_;rw[Bg,g]
def Bo(f:1<=n1/\n1<=7)(hN:1<=N/\N<=7)(m:okK n1 ksL)(o:okK N ks2)(s1:tsL.length<=12)(I:ts2.length<=12)(E:r.length<=8)(h:oJ ksL ks2 tsL ts2 r n1 N=false):fy C [.v (twD ksL tsL),.v R,.v (.int k),.v (twD ks2 ts2),.v (.lst (r.map .int))]=some (.v (.str "way")):=by
 have c:=GF (k:=k) (R:=R) (W:=twD ks2 ts2) (tsL:=tsL) m.1 E;have g:=Gq (k:=k) (L:=twD ksL tsL) (R:=R) (ts2:=ts2) o.1 E;unfold fy k_;rw[zH,show aP 7 5 [.v (twD ksL tsL),.v R,.v (.int k),.v (twD ks2 ts2),.v (.lst (r.map .int))]=dF (twD ksL tsL) R k (twD ks2 ts2) (r.map .int) none none from rfl];unfold oJ at h;by_cases e:(decide ((r.length:Int)=n1)&&uI r)=true
 ·rw[e]at c;rw[aj (ρ':=dF (twD ksL tsL) R k (twD ks2 ts2) (r.map .int) none none) (by rw[dw,c];rfl)];by_cases i:(r.all fun p=>decide (0<=p/\p<N))=true
  ·rw[i]at g;rw[aj (ρ':=dF (twD ksL tsL) R k (twD ks2 ts2) (r.map .int) none none) (by rw[dw,g];rfl)];obtain⟨b,z,B⟩:=j0 C n1 tsL f s1;obtain⟨a,y,A⟩:=j0 C N ts2 hN I;rw[Yg]at e;have H:=nE C ksL ks2 (.lst (tsL.map dT4)) (.lst (ts2.map dT4)) tsL ts2 b a r n1 N f m o B A (YI e.1) fun x K=>YI (Yr.mp i x K)
   rw[e.1,e.2,i,Ze,Ze,Ze]at h;rw[h]at H;have S:=tw0 ksL tsL;have Q:=tw1 ksL tsL;have P:=tw0 ks2 ts2;have b1:=tw1 ks2 ts2;have u:((ksL.map D.str).length:Int)=n1:=by rw[Yb];exact m.1
   have s:((ks2.map D.str).length:Int)=N:=by rw[Yb];exact o.1
   have J:∀q,OD.d (.dT q)=.dT q:=fun _=>rfl
   have w:cg C [.v (twD ksL tsL),.v (twD ks2 ts2),.v (.lst [.dT b,.dT a]),.v (.lst (r.map .int))]=some (.v (.bl false)):=H;have O:(aF 5 (asO (asL (ae (am (ce C) (aV (d1 aG (d2 ixD (aa 0) (cI 0))) (aV (d2 ixD (aa 0) (cI 1)) nA))) (ae (am (ce C) (aV (d1 aG (d2 ixD (aa 3) (cI 0))) (aV (d2 ixD (aa 3) (cI 1)) nA))) aC))))) (dF (twD ksL tsL) R k (twD ks2 ts2) (r.map .int) none none)=some (.nx (dF (twD ksL tsL) R k (twD ks2 ts2) (r.map .int) (some (.v (.lst [.dT b,.dT a]))) none)):=by generalize ce C=U at *;generalize twD ksL tsL=X,twD ks2 ts2=Y,ksL.map D.str=K1,ks2.map D.str=K2,tsL.map dT4=T1,ts2.map dT4=T2,r.map D.int=T at *;simp -implicitDefEqProofs [S,Q,P,b1,u,s,z,y,J,gZ]
   rw[aj O,fN (x:=.v (.str "way")) (ρ':=dF (twD ksL tsL) R k (twD ks2 ts2) (r.map .int) (some (.v (.lst [.dT b,.dT a]))) none) (by
    generalize cg C=M,twD ksL tsL=X,twD ks2 ts2=Y,r.map D.int=T at *;simp -implicitDefEqProofs [w])]
   rfl
  ·have j:(r.all fun p=>decide (0<=p/\p<N))=false:=by simpa using i
   rw[j]at g;rw[fN (x:=.v (.str "way")) (ρ':=dF (twD ksL tsL) R k (twD ks2 ts2) (r.map .int) none none) (by rw[dw,g];rfl)];rfl
 ·have l:(decide ((r.length:Int)=n1)&&uI r)=false:=by simpa using e
  rw[l]at c;rw[fN (x:=.v (.str "way")) (ρ':=dF (twD ksL tsL) R k (twD ks2 ts2) (r.map .int) none none) (by rw[dw,c];rfl)];rfl
def yW{K S:List D}(e:1<=n1/\n1<=7)(hN:1<=N/\N<=7)(j:okK n1 ksL)(o:okK N ks2)(s1:tsL.length<=12)(P:ts2.length<=12)(E:r.length<=8)(h:oJ ksL ks2 tsL ts2 r n1 N=true)(hc:cx C [.v (twD ksL tsL),.v R,.v (.int k),.v (twD ks2 ts2),.v (.lst (r.map .int))]=some (.v (.tup [.lst K,.lst S]))) :
  fy C [.v (twD ksL tsL),.v R,.v (.int k),.v (twD ks2 ts2),.v (.lst (r.map .int))]=some (.v (.str (if 7<K.length\/12<S.length then "great" else ""))):=by
 have c:=GF (k:=k) (R:=R) (W:=twD ks2 ts2) (tsL:=tsL) j.1 E;have g:=Gq (k:=k) (L:=twD ksL tsL) (R:=R) (ts2:=ts2) o.1 E;have y:=h;unfold oJ at y;rw[Yg,Yg,Yg]at y;obtain⟨B,T,A,Q⟩:=y;obtain⟨b,w,i⟩:=j0 C n1 tsL e s1;obtain⟨a,u,f⟩:=j0 C N ts2 hN P;have s:=nE C ksL ks2 (.lst (tsL.map dT4)) (.lst (ts2.map dT4)) tsL ts2 b a r n1 N e j o i f (YI B) fun x hx=>YI (Yr.mp A x hx)
 rw[B,T]at c;rw[A]at g;rw[Q]at s;have a0:=tw0 ksL tsL;have a1:=tw1 ksL tsL;have b0:=tw0 ks2 ts2;have b1:=tw1 ks2 ts2;have m:((ksL.map D.str).length:Int)=n1:=by rw[Yb];exact j.1
 have l:((ks2.map D.str).length:Int)=N:=by rw[Yb];exact o.1
 have U:∀q,OD.d (.dT q)=.dT q:=fun _=>rfl
 have p:cg C [.v (twD ksL tsL),.v (twD ks2 ts2),.v (.lst [.dT b,.dT a]),.v (.lst (r.map .int))]=some (.v (.bl true)):=s;unfold fy k_;rw[zH,show aP 7 5 [.v (twD ksL tsL),.v R,.v (.int k),.v (twD ks2 ts2),.v (.lst (r.map .int))]=dF (twD ksL tsL) R k (twD ks2 ts2) (r.map .int) none none from rfl,
  aj (ρ':=dF (twD ksL tsL) R k (twD ks2 ts2) (r.map .int) none none) (by rw[dw,c];rfl),aj (ρ':=dF (twD ksL tsL) R k (twD ks2 ts2) (r.map .int) none none) (by rw[dw,g];rfl)]
 clear c g i f s;generalize ce C=Tb,cg C=M,cx C=Ch,twD ksL tsL=X,twD ks2 ts2=Y,ksL.map D.str=K1,ks2.map D.str=K2,tsL.map dT4=T1,ts2.map dT4=T2,r.map D.int=z at *;have O:ixD (.tup [.lst K,.lst S]) (.int 0)=some (.lst K):=rfl;have J:ixD (.tup [.lst K,.lst S]) (.int 1)=some (.lst S):=rfl;rw[aj (ρ':=dF X R k Y z (some (.v (.lst [.dT b,.dT a]))) none) (by simp -implicitDefEqProofs [a0,a1,b0,b1,m,l,w,u,U,gZ]),
  aj (ρ':=dF X R k Y z (some (.v (.lst [.dT b,.dT a]))) none) (by simp -implicitDefEqProofs [p]),
  aj (ρ':=dF X R k Y z (some (.v (.lst [.dT b,.dT a]))) (some (.v (.tup [.lst K,.lst S])))) (by simp -implicitDefEqProofs [hc])]
 have I:(7:Int)<(K.length:Int)↔7<K.length:=by omega
 have H:(12:Int)<(S.length:Int)↔12<S.length:=by omega
 generalize hd:D.tup [.lst K,.lst S]=Z at *;by_cases c1:7<K.length<;>by_cases c2:12<S.length<;>simp -implicitDefEqProofs [O,J,I,H,c1,c2]
end
def rX{rz:DF->Option Nat}{it:Nat}{ts:Nat->Str}{g:Dw} :vZ rz ie it io ts g ρ=match rz ρ with
 |some k=>(match ρ[ie]? with|some none=>some (.nx ((ρ.set it (some (.v (.str (ts k))))).set io (some (.v (.bl false)))))|_=>none)
 |none=>g ρ:=rfl
def tZ(C:Addr)(R W:D)(r:List D)(j:Nat)(h:cW C [.v R,.v W,.v (.lst r)]=some j):rV C [.v R,.v W,.v (.lst r)]=some (.v (.tup [.non,.str (ts2 j),.bl false])):=by
 unfold rV C8;generalize cW C=Rx,vn C=b at *;generalize a:ts2=TS;rw[j6,show aP 7 3 [.v R,.v W,.v (.lst r)]=[some (.v R),some (.v W),some (.v (.lst r)),none,none,none,none]from rfl,
  aj (ρ':=[some (.v R),some (.v W),some (.v (.lst r)),some (.v .non),none,none,none]) rfl,
  aj (ρ':=[some (.v R),some (.v W),some (.v (.lst r)),some (.v .non),some (.v (.str "")),none,none]) rfl,
  aj (ρ':=[some (.v R),some (.v W),some (.v (.lst r)),some (.v .non),some (.v (.str "")),some (.v (.bl false)),none]) rfl,
  aj (ρ':=[some (.v R),some (.v W),some (.v (.lst r)),some (.v .non),some (.v (.str (TS j))),some (.v (.bl false)),none]) (by
   rw[rX,show(aB 0 (aB 1 (aB 2 nA))) [some (.v R),some (.v W),some (.v (.lst r)),some (.v .non),some (.v (.str "")),some (.v (.bl false)),none]=some [.v R,.v W,.v (.lst r)]from rfl,Ya,h];rfl)]
 rfl
def xI(C:Addr)(R W:D)(r:List D)(F:List (Str×D))(h:cW C [.v R,.v W,.v (.lst r)]=none)(a:vn C [.v R,.v W,.v (.lst r)]=some (.own (.ins C F) none)):rV C [.v R,.v W,.v (.lst r)]=some (.v (.tup [.ins C F,.str "",.bl false])):=by
 unfold rV C8;generalize cW C=Rx,vn C=b at *;generalize c:ts2=TS;rw[j6,show aP 7 3 [.v R,.v W,.v (.lst r)]=[some (.v R),some (.v W),some (.v (.lst r)),none,none,none,none]from rfl,
  aj (ρ':=[some (.v R),some (.v W),some (.v (.lst r)),some (.v .non),none,none,none]) rfl,
  aj (ρ':=[some (.v R),some (.v W),some (.v (.lst r)),some (.v .non),some (.v (.str "")),none,none]) rfl,
  aj (ρ':=[some (.v R),some (.v W),some (.v (.lst r)),some (.v .non),some (.v (.str "")),some (.v (.bl false)),none]) rfl,
  aj (ρ':=[some (.v R),some (.v W),some (.v (.lst r)),some (.v (.ins C F)),some (.v (.str "")),some (.v (.bl false)),none]) (by
   rw[rX,show(aB 0 (aB 1 (aB 2 nA))) [some (.v R),some (.v W),some (.v (.lst r)),some (.v .non),some (.v (.str "")),some (.v (.bl false)),none]=some [.v R,.v W,.v (.lst r)]from rfl,Ya,h];show aF 3 (am b (aB 0 (aB 1 (aB 2 nA)))) [some (.v R),some (.v W),some (.v (.lst r)),some (.v .non),some (.v (.str "")),some (.v (.bl false)),none]=_;rw[gH,tm,show(aB 0 (aB 1 (aB 2 nA))) [some (.v R),some (.v W),some (.v (.lst r)),some (.v .non),some (.v (.str "")),some (.v (.bl false)),none]=some [.v R,.v W,.v (.lst r)]from rfl,Ya,a];rfl)]
 rfl
abbrev oF(x x1 x2 x3 x4 x5 x6 x7 x8 x9 x10 x11 x12 x13 x14 x15 x16 x17 x18 x19 x20:Option DV):DF:=[x,x1,x2,x3,x4,x5,x6,x7,x8,x9,x10,x11,x12,x13,x14,x15,x16,x17,x18,x19,x20]
abbrev iV(n:Int):Option DV:=some (.v (.int n))
abbrev lV(l:List D):Option DV:=some (.v (.lst l))
abbrev sV(d:D):Option DV:=some (.v d)
section
variable  {Mi We Gr Hd Du Wi Ch As:Dm}{In Ir:Dz}{CS:List D}{s c0 c7 c8 c14 m2 m3 m4 m5 m6 n1 k:Int}{LD RD one oth web:D}{x1 x2 x3 x15 x16 x17 x18 x19 x20:Option DV}
def HH(e0:atI CS 0=some (.int c0))(h:Mi [.v (.int c0),.v (.int 1)]=some (.v (.int s))):(aF 1 (am Mi (aV (d2 ixD (aa 0) (cI 0)) (aV (cI 1) nA)))) (oF (lV CS) none x2 x3 x4 x5 x6 x7 x8 x9 x10 x11 x12 x13 x14 x15 x16 x17 x18 x19 x20)=some (.nx (oF (lV CS) (iV s) x2 x3 x4 x5 x6 x7 x8 x9 x10 x11 x12 x13 x14 x15 x16 x17 x18 x19 x20)):=by simp -implicitDefEqProofs [ix1,e0,h]
def IK{A:List D}(e0:atI CS 0=some (.int c0))(h:Mi [.v (.int c0),.v (.int 2)]=some (.v (.int m2)))(a:1+m2%4=n1)(c:cE CS (some 1) (some 4)=A)(b:We [.v (.lst A),.v (.int s),.v (.int n1)]=some (.v LD)):(aF 2 (am We (aV (asO (asL (slL (aa 0) (bI (cI 1)) (bI (cI 4))))) (aB 1 (aV (d2 bb (cI 1) (d2 aW (am Mi (aV (d2 ixD (aa 0) (cI 0)) (aV (cI 2) nA))) (cI 4))) nA))))) (oF (lV CS) (iV s) none x3 x4 x5 x6 x7 x8 x9 x10 x11 x12 x13 x14 x15 x16 x17 x18 x19 x20)=some (.nx (oF (lV CS) (iV s) (sV LD) x3 x4 x5 x6 x7 x8 x9 x10 x11 x12 x13 x14 x15 x16 x17 x18 x19 x20)):=by have m:=aI m2 4 (by decide);simp -implicitDefEqProofs [ix1,e0,h,m,a,fY,c,gZ,b]
def Ib{A:List D}(e0:atI CS 0=some (.int c0))(h:Mi [.v (.int c0),.v (.int 3)]=some (.v (.int m3)))(a:1+m3%5=nR)(c:cE CS (some 4) (some 7)=A)(b:We [.v (.lst A),.v (.int s),.v (.int nR)]=some (.v RD)):(aF 3 (am We (aV (asO (asL (slL (aa 0) (bI (cI 4)) (bI (cI 7))))) (aB 1 (aV (d2 bb (cI 1) (d2 aW (am Mi (aV (d2 ixD (aa 0) (cI 0)) (aV (cI 3) nA))) (cI 5))) nA))))) (oF (lV CS) (iV s) x2 none x4 x5 x6 x7 x8 x9 x10 x11 x12 x13 x14 x15 x16 x17 x18 x19 x20)=some (.nx (oF (lV CS) (iV s) x2 (sV RD) x4 x5 x6 x7 x8 x9 x10 x11 x12 x13 x14 x15 x16 x17 x18 x19 x20)):=by have m:=aI m3 5 (by decide);simp -implicitDefEqProofs [ix1,e0,h,m,a,fY,c,gZ,b]
def Ic(e:atI CS 7=some (.int c7))(h:Mi [.v (.int c7),.v (.int 4)]=some (.v (.int m4)))(g:ixD LD (.int 0)=some (.lst K1))(f:ixD RD (.int 0)=some (.lst K2))(l1:(K1.length:Int)=n1)(l2:(K2.length:Int)=nR)(h1:1<=n1)(h2:1<=nR)(c:m4%(1+mn n1 nR)=k):(aF 4 (d2 aW (am Mi (aV (d2 ixD (aa 0) (cI 7)) (aV (cI 4) nA))) (d2 bb (cI 1) (d2 j9 (d1 aG (d2 ixD (aa 2) (cI 0))) (d1 aG (d2 ixD (aa 3) (cI 0))))))) (oF (lV CS) x1 (sV LD) (sV RD) none x5 x6 x7 x8 x9 x10 x11 x12 x13 x14 x15 x16 x17 x18 x19 x20)=some (.nx (oF (lV CS) x1 (sV LD) (sV RD) (iV k) x5 x6 x7 x8 x9 x10 x11 x12 x13 x14 x15 x16 x17 x18 x19 x20)):=by
 have b:=v9 n1 nR;have a:0<1+mn n1 nR:=by unfold mn;split<;>omega
 have m:=aI m4 (1+mn n1 nR) a;rw[c]at m;generalize mn n1 nR=q at *;simp -implicitDefEqProofs [ix1,e,h,g,f,l1,l2,b,m]
def IH(e:atI CS 8=some (.int c8))(h:Mi [.v (.int c8),.v (.int 5)]=some (.v (.int m5)))(a:ixD LD (.int 0)=some (.lst K1))(l1:(K1.length:Int)=n1)(b:n1<=7)(hN:n1+m5%(8-n1)=N):(aF 5 (d2 bb (d1 aG (d2 ixD (aa 2) (cI 0))) (d2 aW (am Mi (aV (d2 ixD (aa 0) (cI 8)) (aV (cI 5) nA))) (d2 ff (cI 8) (d1 aG (d2 ixD (aa 2) (cI 0))))))) (oF (lV CS) x1 (sV LD) x3 x4 none x6 x7 x8 x9 x10 x11 x12 x13 x14 x15 x16 x17 x18 x19 x20)=some (.nx (oF (lV CS) x1 (sV LD) x3 x4 (iV N) x6 x7 x8 x9 x10 x11 x12 x13 x14 x15 x16 x17 x18 x19 x20)):=by have m:=aI m5 (8-n1) (by omega);simp -implicitDefEqProofs [ix1,e,h,a,l1,m,hN]
def IE{A R2:List D}(a:cE CS (some 9) (some 14)=A)(h:Gr [.v LD,.v (.lst A),.v (.int s),.v (.int N)]=some (.v (.tup [.lst K2,.lst T2,.lst R2]))):(gQ [6,7,8] (am Gr (aB 2 (aV (asO (asL (slL (aa 0) (bI (cI 9)) (bI (cI 14))))) (aB 1 (aB 5 nA)))))) (oF (lV CS) (iV s) (sV LD) x3 x4 (iV N) none none none x9 x10 x11 x12 x13 x14 x15 x16 x17 x18 x19 x20)=some (.nx (oF (lV CS) (iV s) (sV LD) x3 x4 (iV N) (lV K2) (lV T2) (lV R2) x9 x10 x11 x12 x13 x14 x15 x16 x17 x18 x19 x20)):=by
 have e:(am Gr (aB 2 (aV (asO (asL (slL (aa 0) (bI (cI 9)) (bI (cI 14))))) (aB 1 (aB 5 nA))))) (oF (lV CS) (iV s) (sV LD) x3 x4 (iV N) none none none x9 x10 x11 x12 x13 x14 x15 x16 x17 x18 x19 x20)=some (.tup [.lst K2,.lst T2,.lst R2]):=by generalize D.tup [.lst K2,.lst T2,.lst R2]=Z at *;simp -implicitDefEqProofs [fY,a,gZ,h]
 unfold gQ;rw[e];rfl
def Il{R2:List D}:(aF 9 (asO (asL (eh (aa 8))))) (oF (lV CS) x1 x2 x3 x4 x5 x6 x7 (lV R2) none x10 x11 x12 x13 x14 x15 x16 x17 x18 x19 x20)=some (.nx (oF (lV CS) x1 x2 x3 x4 x5 x6 x7 (lV R2) (lV R2) x10 x11 x12 x13 x14 x15 x16 x17 x18 x19 x20)):=rfl
def Ik(e:atI CS 14=some (.int c14))(h:Mi [.v (.int c14),.v (.int 6)]=some (.v (.int m6))):(aF 10 (am Mi (aV (d2 ixD (aa 0) (cI 14)) (aV (cI 6) nA)))) (oF (lV CS) x1 x2 x3 x4 x5 x6 x7 x8 x9 none x11 x12 x13 x14 x15 x16 x17 x18 x19 x20)=some (.nx (oF (lV CS) x1 x2 x3 x4 x5 x6 x7 x8 x9 (iV m6) x11 x12 x13 x14 x15 x16 x17 x18 x19 x20)):=by simp -implicitDefEqProofs [ix1,e,h]
def HB{w a:List Int}(h:Hd [.v (.lst (w.map .int)),.v (.int (m6/3)),.v (.int N)]=some (.own (.lst (a.map .int)) none))(hw:w.length<=8)(hd:a.length<=8):∃r:List Int,r.length<=8/\(dIf (asB (d2 eqD (d2 aW (aa 10) (cI 3)) (cI 0))) (aF 9 (am Hd (aB 8 (aV (d2 bh (aa 10) (cI 3)) (aB 5 nA))))) dNx) (oF (lV CS) x1 x2 x3 x4 (iV N) x6 x7 (lV (w.map .int)) (lV (w.map .int)) (iV m6) x11 x12 x13 x14 x15 x16 x17 x18 x19 x20)=some (.nx (oF (lV CS) x1 x2 x3 x4 (iV N) x6 x7 (lV (w.map .int)) (lV (r.map .int)) (iV m6) x11 x12 x13 x14 x15 x16 x17 x18 x19 x20)):=by
 have m:=aI m6 3 (by decide);have d:=bF m6 3 (by decide);generalize m6/3=q at *;by_cases z:m6%3=0
 ·refine⟨a,hd,?_⟩;generalize a.map D.int=A,w.map D.int=B at *;simp -implicitDefEqProofs [m,d,z,h,gZ]
 ·refine⟨w,hw,?_⟩;generalize w.map D.int=B at *;simp -implicitDefEqProofs [m,z]
def ES{t:Str}(h:Du [.v LD,.v RD,.v (.int k),.v (.tup [.lst K2,.lst T2]),.v (.lst RR)]=some (.v (.str t))):(aF 11 (am Du (aB 2 (aB 3 (aV (getV 4) (aV (asT (ae (getV 6) (ae (getV 7) aC))) (aB 9 nA))))))) (oF (lV CS) x1 (sV LD) (sV RD) (iV k) x5 (lV K2) (lV T2) x8 (lV RR) x10 none x12 x13 x14 x15 x16 x17 x18 x19 x20)=some (.nx (oF (lV CS) x1 (sV LD) (sV RD) (iV k) x5 (lV K2) (lV T2) x8 (lV RR) x10 (sV (.str t)) x12 x13 x14 x15 x16 x17 x18 x19 x20)):=by simp -implicitDefEqProofs [h]
def An{T1 K T:List D}{F1 F2 a:List (Str×D)}(a0:ixD LD (.int 0)=some (.lst K1))(i:ixD LD (.int 1)=some (.lst T1))(h:ixD RD (.int 0)=some (.lst K))(b1:ixD RD (.int 1)=some (.lst T))(M1:∀(g:Dv) (ρ:DF),g ρ=some [.v (.lst K1),.v (.lst T1)]->cG C In g ρ=some (.ins C F1))(M:∀(g:Dv) (ρ:DF),g ρ=some [.v (.lst K),.v (.lst T)]->cG C In g ρ=some (.ins C a))(M2:∀(g:Dv) (ρ:DF),g ρ=some [.v (.lst K2),.v (.lst T2)]->cG C In g ρ=some (.ins C F2)) :
  (nV 12 13 14 (asT (ae (asO (cG C In (aV (d2 ixD (aa 2) (cI 0)) (aV (d2 ixD (aa 2) (cI 1)) nA)))) (ae (asO (cG C In (aV (d2 ixD (aa 3) (cI 0)) (aV (d2 ixD (aa 3) (cI 1)) nA)))) (ae (asO (cG C In (aB 6 (aB 7 nA)))) aC))))) (oF (lV CS) x1 (sV LD) (sV RD) x4 x5 (lV K2) (lV T2) x8 x9 x10 x11 none none none x15 x16 x17 x18 x19 x20)=some (.nx (oF (lV CS) x1 (sV LD) (sV RD) x4 x5 (lV K2) (lV T2) x8 x9 x10 x11 (sV (.ins C F1)) (sV (.ins C a)) (sV (.ins C F2)) x15 x16 x17 x18 x19 x20)):=by
 have f:=M1 (aV (d2 ixD (aa 2) (cI 0)) (aV (d2 ixD (aa 2) (cI 1)) nA)) (oF (lV CS) x1 (sV LD) (sV RD) x4 x5 (lV K2) (lV T2) x8 x9 x10 x11 none none none x15 x16 x17 x18 x19 x20) (by simp -implicitDefEqProofs [a0,i]);have b:=M (aV (d2 ixD (aa 3) (cI 0)) (aV (d2 ixD (aa 3) (cI 1)) nA)) (oF (lV CS) x1 (sV LD) (sV RD) x4 x5 (lV K2) (lV T2) x8 x9 x10 x11 none none none x15 x16 x17 x18 x19 x20) (by simp -implicitDefEqProofs [h,b1]);have c:=M2 (aB 6 (aB 7 nA)) (oF (lV CS) x1 (sV LD) (sV RD) x4 x5 (lV K2) (lV T2) x8 x9 x10 x11 none none none x15 x16 x17 x18 x19 x20) rfl;have e:(asT (ae (asO (cG C In (aV (d2 ixD (aa 2) (cI 0)) (aV (d2 ixD (aa 2) (cI 1)) nA)))) (ae (asO (cG C In (aV (d2 ixD (aa 3) (cI 0)) (aV (d2 ixD (aa 3) (cI 1)) nA)))) (ae (asO (cG C In (aB 6 (aB 7 nA)))) aC)))) (oF (lV CS) x1 (sV LD) (sV RD) x4 x5 (lV K2) (lV T2) x8 x9 x10 x11 none none none x15 x16 x17 x18 x19 x20)=some (.tup [.ins C F1,.ins C a,.ins C F2]):=by rw[Db,mW,da,f,mW,da,b,mW,da,c];rfl
 unfold nV;rw[e];rfl
def zL:(aF 15 (asO (asL (eh (aa 9))))) (oF (lV CS) x1 x2 x3 x4 x5 x6 x7 x8 (lV RR) x10 x11 x12 x13 x14 none x16 x17 x18 x19 x20)=some (.nx (oF (lV CS) x1 x2 x3 x4 x5 x6 x7 x8 (lV RR) x10 x11 x12 x13 x14 (lV RR) x16 x17 x18 x19 x20)):=rfl
def ya{a:List (Str×D)}{m:D}{t:Str}{b:Bool}(M:∀(g:Dv) (ρ:DF),g ρ=some [.v one,.v oth,.v (.int k)]->cG az Ir g ρ=some (.ins az a))(h:As [.v (.ins az a),.v web,.v (.lst RR)]=some (.v (.tup [m,.str t,.bl b]))) :
  (gQ [16,17,18] (am As (aV (asO (cG az Ir (aB 12 (aB 13 (aV (getV 4) nA))))) (aB 14 (aB 15 nA))))) (oF (lV CS) x1 x2 x3 (iV k) x5 x6 x7 x8 x9 x10 x11 (sV one) (sV oth) (sV web) (lV RR) none none none x19 x20)=some (.nx (oF (lV CS) x1 x2 x3 (iV k) x5 x6 x7 x8 x9 x10 x11 (sV one) (sV oth) (sV web) (lV RR) (sV m) (sV (.str t)) (sV (.bl b)) x19 x20)):=by
 have g:=M (aB 12 (aB 13 (aV (getV 4) nA))) (oF (lV CS) x1 x2 x3 (iV k) x5 x6 x7 x8 x9 x10 x11 (sV one) (sV oth) (sV web) (lV RR) none none none x19 x20) rfl;have e:(am As (aV (asO (cG az Ir (aB 12 (aB 13 (aV (getV 4) nA))))) (aB 14 (aB 15 nA)))) (oF (lV CS) x1 x2 x3 (iV k) x5 x6 x7 x8 x9 x10 x11 (sV one) (sV oth) (sV web) (lV RR) none none none x19 x20)=some (.tup [m,.str t,.bl b]):=by rw[tm,CU,da,g];show((some [DV.v (.ins az a),.v web,.v (.lst RR)]).bind _)=_;rw[Ya,h];rfl
 unfold gQ;rw[e];rfl
def Ah{t:Str}(n1:neD (.str t) (.str t)=some (.bl false))(n2:neD (.lst RR) (.lst RR)=some (.bl false)):(dIf (orT (asB (getV 18)) (orT (asB (d2 neD (ak 17) (ak 11))) (asB (d2 neD (ak 15) (ak 9))))) (bu (fun _=>some (.bl false))) dNx) (oF (lV CS) x1 x2 x3 x4 x5 x6 x7 x8 (lV RR) x10 (sV (.str t)) x12 x13 x14 (lV RR) x16 (sV (.str t)) (sV (.bl false)) x19 x20)=some (.nx (oF (lV CS) x1 x2 x3 x4 x5 x6 x7 x8 (lV RR) x10 (sV (.str t)) x12 x13 x14 (lV RR) x16 (sV (.str t)) (sV (.bl false)) x19 x20)):=by simp -implicitDefEqProofs [n1,n2]
def zm{T1:List D}(a0:ixD LD (.int 0)=some (.lst K1))(a:ixD LD (.int 1)=some (.lst T1))(h1:Wi [.v web,.v (.lst K2),.v (.lst T2)]=some (.v (.bl true)))(h2:Wi [.v one,.v (.lst K1),.v (.lst T1)]=some (.v (.bl true))):(dIf (orT (cw (asB (am Wi (aB 14 (aB 6 (aB 7 nA)))))) (cw (asB (am Wi (aB 12 (aV (d2 ixD (aa 2) (cI 0)) (aV (d2 ixD (aa 2) (cI 1)) nA))))))) (bu (fun _=>some (.bl false))) dNx) (oF (lV CS) x1 (sV LD) x3 x4 x5 (lV K2) (lV T2) x8 x9 x10 x11 (sV one) x13 (sV web) x15 x16 x17 x18 x19 x20)=some (.nx (oF (lV CS) x1 (sV LD) x3 x4 x5 (lV K2) (lV T2) x8 x9 x10 x11 (sV one) x13 (sV web) x15 x16 x17 x18 x19 x20)):=by simp -implicitDefEqProofs [a0,a,h1,h2]
def yQ{K T:List D}(b:ixD RD (.int 0)=some (.lst K))(b1:ixD RD (.int 1)=some (.lst T))(h:Wi [.v oth,.v (.lst K),.v (.lst T)]=some (.v (.bl true))):(dIf (cw (asB (am Wi (aB 13 (aV (d2 ixD (aa 3) (cI 0)) (aV (d2 ixD (aa 3) (cI 1)) nA)))))) (bu (fun _=>some (.bl false))) dNx) (oF (lV CS) x1 x2 (sV RD) x4 x5 x6 x7 x8 x9 x10 x11 x12 (sV oth) x14 x15 x16 x17 x18 x19 x20)=some (.nx (oF (lV CS) x1 x2 (sV RD) x4 x5 x6 x7 x8 x9 x10 x11 x12 (sV oth) x14 x15 x16 x17 x18 x19 x20)):=by simp -implicitDefEqProofs [b,b1,h]
def zK{t:Str}(h:neD (.str t) (.str "")=some (.bl true)):(dIf (asB (d2 neD (ak 11) (fun _=>some (.str "")))) (bu (d2 uS (ak 16) (fun _=>some .non))) dNx) (oF (lV CS) x1 x2 x3 x4 x5 x6 x7 x8 x9 x10 (sV (.str t)) x12 x13 x14 x15 (sV .non) x17 x18 x19 x20)=some (.rt (.v (.bl true)) (oF (lV CS) x1 x2 x3 x4 x5 x6 x7 x8 x9 x10 (sV (.str t)) x12 x13 x14 x15 (sV .non) x17 x18 x19 x20)):=by have e:uS .non .non=some (.bl true):=rfl;generalize a:D.str ""=E at *;simp -implicitDefEqProofs [h,e]
def Gn{t:Str}(h:neD (.str t) (.str "")=some (.bl false)):(dIf (asB (d2 neD (ak 11) (fun _=>some (.str "")))) (bu (d2 uS (ak 16) (fun _=>some .non))) dNx) (oF (lV CS) x1 x2 x3 x4 x5 x6 x7 x8 x9 x10 (sV (.str t)) x12 x13 x14 x15 x16 x17 x18 x19 x20)=some (.nx (oF (lV CS) x1 x2 x3 x4 x5 x6 x7 x8 x9 x10 (sV (.str t)) x12 x13 x14 x15 x16 x17 x18 x19 x20)):=by generalize a:D.str ""=E at *;simp -implicitDefEqProofs [h]
def Fx{KK S:List D}{m:D}(h:Ch [.v LD,.v RD,.v (.int k),.v (.tup [.lst K2,.lst T2]),.v (.lst RR)]=some (.v (.tup [.lst KK,.lst S])))(hw:Wi [.v m,.v (.lst KK),.v (.lst S)]=some (.v (.bl true))) :
  dG ((ap (gQ [19,20] (am Ch (aB 2 (aB 3 (aV (getV 4) (aV (asT (ae (getV 6) (ae (getV 7) aC))) (aB 9 nA))))))) (bu (am Wi (aB 16 (aB 19 (aB 20 nA)))))) (oF (lV CS) x1 (sV LD) (sV RD) (iV k) x5 (lV K2) (lV T2) x8 (lV RR) x10 x11 x12 x13 x14 x15 (sV m) x17 x18 none none))=some (.v (.bl true)):=by
 have e:(am Ch (aB 2 (aB 3 (aV (getV 4) (aV (asT (ae (getV 6) (ae (getV 7) aC))) (aB 9 nA)))))) (oF (lV CS) x1 (sV LD) (sV RD) (iV k) x5 (lV K2) (lV T2) x8 (lV RR) x10 x11 x12 x13 x14 x15 (sV m) x17 x18 none none)=some (.tup [.lst KK,.lst S]):=by generalize a:D.tup [.lst KK,.lst S]=Z at *;simp -implicitDefEqProofs [h]
 rw[aj (ρ':=oF (lV CS) x1 (sV LD) (sV RD) (iV k) x5 (lV K2) (lV T2) x8 (lV RR) x10 x11 x12 x13 x14 x15 (sV m) x17 x18 (lV KK) (lV S)) (by
  unfold gQ;rw[e];rfl)]
 simp -implicitDefEqProofs [hw]
end
def FJ{cs:List Int}(h:cs.length=16):(cE cs (some 1) (some 4)).length=3/\(cE cs (some 4) (some 7)).length=3:=by unfold cE;rw[YF,ZH,YF,ZH,h];exact⟨by decide+kernel,by decide+kernel⟩
def neI(r:List Int):neD (.lst (r.map .int)) (.lst (r.map .int))=some (.bl false):=by rw[kX (sM r) (sM r),r_ D.int (fun _ _=>rfl)];rfl
def neS{a b:Str}(c:okN 30 (.str a)=true)(h:okN 30 (.str b)=true):neD (.str a) (.str b)=some (.bl (!kEq a b)):=kX c h
def okw:okN 30 (.str "way")=true:=by decide+kernel
def okg:okN 30 (.str "great")=true:=by decide+kernel
def oke:okN 30 (.str "")=true:=by decide+kernel
def keq(a:Str):kEq a a=true:=mD.mpr rfl
def kne{a b:Str}(h:a≠b):kEq a b=false:=XO.mpr fun z=>h (mD.mp z)
def H0:neD (.str "way") (.str "way")=some (.bl false):=by rw[neS okw okw,keq];rfl
def HA:neD (.str "great") (.str "great")=some (.bl false):=by rw[neS okg okg,keq];rfl
def GG:neD (.str "") (.str "")=some (.bl false):=by rw[neS oke oke,keq];rfl
def GJ:neD (.str "way") (.str "")=some (.bl true):=by rw[neS okw oke,kne (by decide+kernel)];rfl
def Fz:neD (.str "great") (.str "")=some (.bl true):=by rw[neS okg oke,kne (by decide+kernel)];rfl
def D9{r:List Int}{k:Int}(e:(ksR.length:Int)=nR)(c:0<=k/\k<=nR)(h1:1<=nR)(b:∀a,0<=a/\a<k->bx r a∈al (r.drop k.toNat) N):1<=(kkP ks2 ksR r k nR (al (r.drop k.toNat) N)).length:=by
 have h:=qB (ks2:=ks2) (r:=r) (st:=al (r.drop k.toNat) N) e c;by_cases z:k=0
 ·omega
 ·have:=List.length_pos_of_mem (b 0 ⟨by omega,by omega⟩);omega
def De(C:Addr)(cs:List Int)(hc:cs.length=16):fz C [.v (.lst (cs.map .int))]=some (.v (.bl true)):=by
 have f:∀i:Nat,i<16->∃c:Int,atI (cs.map D.int) (i:Int)=some (.int c):=fun i hi=>by
  obtain⟨x,_,e⟩:=gI (l:=cs) D.int (i:=(i:Int)) (YL _) (by omega);exact⟨x,e⟩
 obtain⟨c0,e0⟩:=f 0 (by decide);obtain⟨c7,e7⟩:=f 7 (by decide);obtain⟨c8,e8⟩:=f 8 (by decide);obtain⟨c14,e14⟩:=f 14 (by decide);obtain⟨s,h1,s0,s1⟩:=fX C c0 1 (by decide);obtain⟨m2,h2,m20,_⟩:=fX C c0 2 (by decide);obtain⟨m3,h3,m30,_⟩:=fX C c0 3 (by decide);obtain⟨m4,h4,m40,_⟩:=fX C c7 4 (by decide);obtain⟨m5,h5,m50,_⟩:=fX C c8 5 (by decide);obtain⟨m6,h6,m60,_⟩:=fX C c14 6 (by decide);obtain⟨n1,hn1⟩:∃n,1+m2%4=n:=⟨_,rfl⟩
 obtain⟨nR,hnR⟩:∃n,1+m3%5=n:=⟨_,rfl⟩
 have h:1<=n1/\n1<=7:=by omega
 have b:1<=nR/\nR<=7:=by omega
 obtain⟨l1,l2⟩:=FJ hc;obtain⟨ksL,tsL,hWL,kL,oL,tL,uL⟩:=yH C (cE cs (some 1) (some 4)) s n1 (by omega) ⟨s0,s1⟩ h;obtain⟨ksR,tsR,hWR,kR,oR,tR,uR⟩:=yH C (cE cs (some 4) (some 7)) s nR (by omega) ⟨s0,s1⟩ b;obtain⟨k,hk⟩:∃k,m4%(1+mn n1 nR)=k:=⟨_,rfl⟩
 have mp:0<1+mn n1 nR/\mn n1 nR<=n1/\mn n1 nR<=nR:=by unfold mn;split<;>omega
 have k0:0<=k:=by rw[<-hk];exact YS _ (by omega)
 have k1:k<1+mn n1 nR:=by rw[<-hk];exact YJ _ mp.1
 obtain⟨N,hN⟩:∃N,n1+m5%(8-n1)=N:=⟨_,rfl⟩
 have g0':0<=m5%(8-n1):=YS _ (by omega);have g1':m5%(8-n1)<8-n1:=YJ _ (by omega);have hN7:n1<=N/\N<=7:=by omega
 have j:1<=N/\N<=7:=by omega
 obtain⟨ks2,ts2,way,hGr,p,Q,lw⟩:=zl C (cE cs (some 9) (some 14)) ksL tsL s n1 N ⟨s0,s1⟩ h.1 hN7 ⟨kL,oL⟩ ⟨tL,uL⟩;obtain⟨rd,hH,lrd⟩:=wH C way (m6/3) N ⟨by omega,by omega⟩ (by omega);have w:okK n1 ksL:=⟨kL,oL⟩
 have S:okK nR ksR:=⟨kR,oR⟩
 have o:okS n1 tsL:=⟨tL,uL⟩
 have m:okS nR tsR:=⟨tR,uR⟩
 obtain⟨kv1,J1,H⟩:=p8 C ksL tsL n1 h w o;obtain⟨kv3,J3,B⟩:=p8 C ksR tsR nR b S m;obtain⟨kv2,J2,E⟩:=p8 C ks2 ts2 N j p Q;obtain⟨kw1,kw3,Jw1,_,hRu⟩:=ym C ksL ksR tsL tsR (.dT kv1) (.dT kv3) n1 nR k h b w o S m ⟨k0,by omega⟩;have A:=fun g ρ hg=>xO hRu g ρ hg
 have lK1:((ksL.map D.str).length:Int)=n1:=by rw[Yb];exact kL
 have lK3:((ksR.map D.str).length:Int)=nR:=by rw[Yb];exact kR
 have w1:cE (cs.map D.int) (some 1) (some 4)=(cE cs (some 1) (some 4)).map .int:=eU ..;have w2:cE (cs.map D.int) (some 4) (some 7)=(cE cs (some 4) (some 7)).map .int:=eU ..;have w3:cE (cs.map D.int) (some 9) (some 14)=(cE cs (some 9) (some 14)).map .int:=eU ..;unfold fz pG;rw[n4,show aP 21 1 [.v (.lst (cs.map .int))]=oF (lV (cs.map .int)) none none none none none none none none none none none none none none none none none none none none from rfl];rw[aj (HH e0 h1),aj (IK (LD:=twD ksL tsL) e0 h2 hn1 w1 hWL),aj (Ib (RD:=twD ksR tsR) e0 h3 hnR w2 hWR),aj (Ic e7 h4 (tw0 ksL tsL) (tw0 ksR tsR) lK1 lK3 h.1 b.1 hk),aj (IH e8 h5 (tw0 ksL tsL) lK1 h.2 hN),aj (IE w3 hGr),aj Il,aj (Ik e14 h6)];obtain⟨r,hr,e8'⟩:=HB (Hd:=d4 C) (CS:=cs.map .int) (x1:=iV s) (x2:=sV (twD ksL tsL)) (x3:=sV (twD ksR tsR)) (x4:=iV k) (x6:=lV (ks2.map .str)) (x7:=lV (ts2.map dT4)) (x11:=none) (x12:=none) (x13:=none) (x14:=none) (x15:=none) (x16:=none) (x17:=none) (x18:=none) (x19:=none) (x20:=none) hH (by omega) lrd;rw[aj e8'];have I:=iP C ks2 ts2 ts2 (.dT kv2) N p Q.1 rfl;have L:=iP C ksL tsL tsL (.dT kv1) n1 w tL rfl;have K:=iP C ksR tsR tsR (.dT kv3) nR S tR rfl;cases hw:og ksL ks2 tsL ts2 r n1 N with
 |false=>
  have hd:oJ ksL ks2 tsL ts2 r n1 N=false:=(mH ..).symm.trans hw;have O:=Bo (C:=C) (R:=twD ksR tsR) (k:=k) h j w p tL Q.1 hr hd;have u:=wf (C:=C) (ksR:=ksR) (tsR:=tsR) (J3:=.dT kw3) (k:=k) h w p tL Jw1 J2 hr hw;have M:rV C _=some (.v (.tup [.non,.str "way",.bl false])):=tZ C _ _ _ 0 u;rw[aj (ES O),aj (An (tw0 ksL tsL) (tw1 ksL tsL) (tw0 ksR tsR) (tw1 ksR tsR) H B E),aj zL,aj (ya A M),aj (Ah (t := "way") H0 (neI r)),aj (zm (tw0 ksL tsL) (tw1 ksL tsL) I L),aj (yQ (tw0 ksR tsR) (tw1 ksR tsR) K),fN (zK GJ)];rfl
 |true=>
  have hd:oJ ksL ks2 tsL ts2 r n1 N=true:=(mH ..).symm.trans hw;obtain⟨hl,nd,hin,_,_⟩:=k7 hd;have hs:∀a,0<=a/\a<k->bx r a∈al (r.drop k.toNat) N:=fun a M=>jQ nd hin (by omega) M
  obtain⟨X,hCh,hP⟩:=sq C (ksL:=ksL) (ksR:=ksR) (ks2:=ks2) (tsL:=tsL) (tsR:=tsR) (ts2:=ts2) (n1:=n1) (nR:=nR) (N:=N) (k:=k) (r:=r) b j S p o m Q ⟨k0,by omega,by omega⟩ hr hw;obtain⟨P,_,⟨Z,U,Y,pL,pW,pR,rfl⟩,u,hm⟩:=uO (C:=C) (J3:=.dT kw3) h b j w S p o m Q Jw1 J2 ⟨k0,by omega,by omega⟩ hr hw;have pX:=hP Z U Y pL pW pR;have kp:=D9 (ks2:=ks2) (N:=N) kR ⟨k0,by omega⟩ b.1 hs;have kW:=FQ (r:=r) (st:=al (r.drop k.toNat) N) p S ⟨k0,by omega⟩ (fun x u=>(gm.mp u).1);generalize dI r k (al (r.drop k.toNat) N) (aD r k nR (al (r.drop k.toNat) N)) Z U Y=P,kkP ks2 ksR r k nR (al (r.drop k.toNat) N)=kk at *;have lX:X.length=P.length:=by have:=pX.length_eq;rw[Yb,Yb]at this;exact this.symm
  have O:=yW (C:=C) h j w p tL Q.1 hr hd hCh;rw[Yb,vB,lX]at O;by_cases q:7<kk.length\/12<P.length
  ·rw[Yh q]at O;rw[Yh (q.imp (fun z=>fun y=>by omega) id)]at u;have M:rV C _=some (.v (.tup [.non,.str "great",.bl false])):=tZ C _ _ _ 1 u;rw[aj (ES O),aj (An (tw0 ksL tsL) (tw1 ksL tsL) (tw0 ksR tsR) (tw1 ksR tsR) H B E),aj zL,aj (ya A M),aj (Ah (t := "great") HA (neI r)),aj (zm (tw0 ksL tsL) (tw1 ksL tsL) I L),aj (yQ (tw0 ksR tsR) (tw1 ksR tsR) K),fN (zK Fz)];rfl
  ·have q':¬(¬(1<=kk.length/\kk.length<=7)\/12<P.length):=fun z=>q (z.imp (fun y=>by omega) id)
   rw[Yl q]at O;rw[Yl q']at u;obtain⟨J,hJ⟩:=hm q';have M:=xI C _ _ _ _ u hJ;obtain⟨T,eX,pU⟩:=hV X;have hwM:=iP C kk P T J _ kW (by rw[pU.length_eq,Yb];omega) ((pi X T pU).trans (Aa P X pX.symm));rw[<-eX]at hwM;rw[aj (ES O),aj (An (tw0 ksL tsL) (tw1 ksL tsL) (tw0 ksR tsR) (tw1 ksR tsR) H B E),aj zL,aj (ya A M),aj (Ah (t := "") GG (neI r)),aj (zm (tw0 ksL tsL) (tw1 ksL tsL) I L),aj (yQ (tw0 ksR tsR) (tw1 ksR tsR) K),aj (Gn GG)];exact Fx hCh hwM
def law_true(C:Addr)(ns:List Int)(A:ns.length<=63):Ab C [.v (.lst (ns.map L2.D.int))]=some (.v (.bl true)):=by
 have s:∀c:List Int,c.length=16->fz C [.v (.lst (c.map .int))]=some (.v (.bl true)):=De C;have u:∀a:Int,0<=a->∃c:List Int,dL C [.v (.lst (ns.map .int)),.v (.int a),.v (.int 16)]=some (.own (.lst (c.map .int)) none)/\c.length=16:=fun a B=>zS C ns a B A
 unfold Ab CL;generalize fz C=O at s ⊢;generalize dL C=H at u ⊢;have h:∃k,AI (cI 0) (d2 nH (cI 1) (d1 aG (ak 0))) (cI 16) [some (.v (.lst (ns.map .int))),none]=some (iM 0 16 k):=by
  have m:d2 nH (cI 1) (d1 aG (ak 0)) [some (.v (.lst (ns.map .int))),none]=some (.int (if(ns.length:Int) > 1 then(ns.length:Int)else 1)):=by
   have E:∀a b:Int,nH (.int a) (.int b)=some (.int (if b > a then b else a)):=fun _ _=>rfl
   simp[E]
  obtain⟨j,o⟩:∃j:Int,(if(ns.length:Int) > 1 then(ns.length:Int)else 1)=j:=⟨_,rfl⟩
  rw[o]at m;have I:1<=j/\j<=63:=by rw[<-o];split<;>omega
  refine⟨(Builtin.Range.rangeSize 0 j 16).toNat,?_⟩;unfold AI;rw[m];simp only;have l:Builtin.Range.small 0 j 16=true:=by
   have g:∀i:Fin 64,Builtin.Range.small 0 ((i:Nat):Int) 16=true:=by decide+kernel
   have:=g ⟨j.toNat,by omega⟩
   rwa [show(((⟨j.toNat,by omega⟩:Fin 64):Nat):Int)=j by simp only;omega]at this
  rw[Yh ⟨by decide,by decide,l⟩]
 obtain⟨k,h⟩:=h;obtain⟨z,e,x,rfl⟩:=dY (st:=setV 1) (body:=(dIf (cw (asB (am O (aV (am H (aB 0 (aV (getV 1) (aV (cI 16) nA)))) nA)))) (bu (fun _=>some (.bl false))) dNx)) (fun ρ=>∃x,ρ=[some (.v (.lst (ns.map .int))),x]) (ds:=iM 0 16 k) (ρ:=[some (.v (.lst (ns.map .int))),none]) ⟨_,rfl⟩ (by
  rintro d p _ ⟨x,rfl⟩;unfold iM at p;obtain⟨i,_,rfl⟩:=Yv.mp p;obtain⟨c,q,f⟩:=u (0+(i:Int)*16) (by omega);have y:=s c f;refine⟨[some (.v (.lst (ns.map .int))),some (.v (.int (0+(i:Int)*16)))],rfl,[some (.v (.lst (ns.map .int))),some (.v (.int (0+(i:Int)*16)))],?_,_,rfl⟩;generalize (0+(i:Int)*16)=a at q ⊢;generalize ns.map D.int=N,c.map D.int=Q at *;simp[q,y])
 rw[n4];have w:aP 2 1 [.v (.lst (ns.map .int))]=[some (.v (.lst (ns.map .int))),none]:=rfl;rw[w,aj (bC h e)];rfl
def spLaw(K:Kq):Sp:=fun c H Q _=>∃(a:Addr) (b:List Int),c=[.ref a]/\SqL K H a (b.map V.int)/\b.length<=63/\∀e,Q (.bl true) e
def iN:∀ns:List Int,Reps K H (ns.map V.int) (ns.map D.int)
 |[]=>.nil
 |_::ns=>.cons .int (iN ns)
def wy(h:∀ns:List Int,ns.length<=63->m [.v (.lst (ns.map D.int))]=some (.v (.bl true))):∀vs H Q E,spLaw K vs H Q E->spD K m vs H Q E:=by rintro vs H Q E ⟨a,ns,rfl,c,b,f⟩;refine⟨fun _=>none,H,_,_,h ns b,⟨fun _ _ e=>e,fun _ _ e=>(by cases e),fun _ _ e=>(by cases e)⟩,.cons rfl (show Rep K H _ _ from .lst c (iN ns)) .nil,fun v i g _ _ r=>?_⟩;cases r;exact f g
def gS(P:Params)(a n:Nat):List DictEntry:=(((rT.filter (·.i<1000)).drop a).take n).map fun r=>kE P (gt (top r.i)) (r.h+2) (.ref (r.a+1))
def kz:Str := "__doc__"
def KK:Params->PySem.W.Frag:=fun P=>(fun(_:kz = "__doc__")=>[(nat_lit 3,{cls:=.type "dict",data:=.dict ([kE P "__name__" 165 (.str "law_tieword_k35_whole_a_change" 618),kE P "__doc__" 166 (.none),kE P "__package__" 167 (.none),kE P "__loader__" 168 (.builtin "__main__.__loader__#opaque"),kE P "__spec__" 169 (.none),kE P "__annotations__" 170 (.ref 6),kE P "__builtins__" 171 (.ref 4),kE P "__file__" 173 (.str "/claim/cut.py" 172),kE P "__cached__" 174 (.none),kE P "_wall" 193 (.ref 21),kE P "WebError" 213 (.ref 31),kE P "TooGreat" 229 (.ref 44),kE P "BadPlace" 245 (.ref 56),kE P "BadTie" 261 (.ref 68),kE P "BadOrder" 277 (.ref 80),kE P "TooMany" 293 (.ref 92),kE P "BadText" 309 (.ref 104),kE P "BadName" 325 (.ref 116),kE P "Twice" 341 (.ref 128),kE P "NoWeb" 357 (.ref 140),kE P "BadRule" 373 (.ref 152),kE P "NoWay" 389 (.ref 164),kE P "MOST_PLACES" 393 (.int 7 392),kE P "MOST_TIES" 395 (.int 12 394),kE P "MOST_LETTERS" 397 (.int 3 396)]++gS P 0 7++[kE P "Web" 510 (.ref 249)]++gS P 7 5++[kE P "Rule" 581 (.ref 299)]++gS P 12 25).toArray 64}),
(nat_lit 30,{cls:=.type "dict",data:=.dict #[kE P "__module__" 203 (.str "tieword.errors" 194),kE P "__firstlineno__" 207 (.int 5 206),kE P "__static_attributes__" 208 (.ref 29),kE P "__weakref__" 210 (.ref 32),kE P "__doc__" 211 (.none)] 3}),
(nat_lit 31,{cls:=.type "type",data:=.cls {name := "WebError",bases:=[.type "ValueError"],mro:=[.ref 31,.type "ValueError",.type "Exception",.type "BaseException",.type "object"],ns:=30,qualname := "WebError",subclasses:=[.ref 44,.ref 56,.ref 68,.ref 80,.ref 92,.ref 104,.ref 116,.ref 128,.ref 140,.ref 152,.ref 164]},slots:=#[some (.ref 22),none,some (.str "WebError" 196),some (.str "WebError" 204),some (.builtin "ValueError.__new__"),some (.bool true)]}),
(nat_lit 43,{cls:=.type "dict",data:=.dict #[kE P "__module__" 221 (.str "tieword.errors" 194),kE P "__firstlineno__" 225 (.int 7 224),kE P "__static_attributes__" 226 (.ref 42),kE P "__doc__" 227 (.none)] 2}),
eO 31 44 "TooGreat" 43 35 214 222,
eO 31 56 "BadPlace" 55 47 230 238,
eO 31 68 "BadTie" 67 59 246 254,
eO 31 80 "BadOrder" 79 71 262 270,
eO 31 92 "TooMany" 91 83 278 286,
eO 31 104 "BadText" 103 95 294 302,
eO 31 116 "BadName" 115 107 310 318,
eO 31 128 "Twice" 127 119 326 334,
eO 31 140 "NoWeb" 139 131 342 350,
eO 31 152 "BadRule" 151 143 358 366,
(nat_lit 163,{cls:=.type "dict",data:=.dict #[kE P "__module__" 381 (.str "tieword.errors" 194),kE P "__firstlineno__" 385 (.int 27 384),kE P "__static_attributes__" 386 (.ref 162),kE P "__doc__" 387 (.none)] 2}),
eO 31 164 "NoWay" 163 155 374 382,
(nat_lit 248,{cls:=.type "dict",data:=.dict #[kE P "__module__" 465 (.str "tieword.webs" 390),kE P "__firstlineno__" 469 (.int 64 468),kE P "__init__" 475 (.ref 225),kE P "size" 482 (.ref 232),kE P "between" 491 (.ref 239),kE P "near" 499 (.ref 246),kE P "__static_attributes__" 503 (.ref 247),kE P "__dict__" 505 (.ref 250),kE P "__weakref__" 507 (.ref 251),kE P "__doc__" 508 (.none)] 4}),
(nat_lit 249,{cls:=.type "type",data:=.cls {name := "Web",bases:=[.type "object"],mro:=[.ref 249,.type "object"],ns:=248,qualname := "Web" },slots:=#[none,none,some (.str "Web" 458),some (.str "Web" 466),some (.builtin "object.__new__"),some (.bool true)]}),
(nat_lit 298,{cls:=.type "dict",data:=.dict #[kE P "__module__" 556 (.str "tieword.rules" 547),kE P "__firstlineno__" 560 (.int 99 559),kE P "__init__" 570 (.ref 296),kE P "__static_attributes__" 574 (.ref 297),kE P "__dict__" 576 (.ref 300),kE P "__weakref__" 578 (.ref 301),kE P "__doc__" 579 (.none)] 4}),
(nat_lit 299,{cls:=.type "type",data:=.cls {name := "Rule",bases:=[.type "object"],mro:=[.ref 299,.type "object"],ns:=298,qualname := "Rule" },slots:=#[none,none,some (.str "Rule" 549),some (.str "Rule" 557),some (.builtin "object.__new__"),some (.bool true)]})]++rT.flatMap fun r=>[(r.a,cO (gt (top r.i)) (qn r.i) r.t (lno (top r.i)) (fM (top r.i)).length (if r.c == 1 then r.a-5 else r.a-3) (r.c == 1) r.h 181),(r.a+1,fO (qn r.i) (top r.i) (mdl r.m) r.a)]) rfl
def lkA(P:Params):rT.map (fun r=>((KK P).lookup (r.a+1),PySem.W.codeIn (KK P) (.ref r.a) (qn r.i),PySem.W.keepIn (KK P) (.ref (r.a+1))))=rT.map fun r=>(some (fO (qn r.i) (top r.i) (mdl r.m) r.a),true,true):=by kernel_rfl
def glA(P:Params):rT.map (fun r=>if r.i<1000 then PySem.W.nsIn (KK P) mainGlobals (gt (top r.i))else none)=rT.map fun r=>if r.i<1000 then some (some (.ref (r.a+1)))else none:=by kernel_rfl
def bdA:∀r∈rT,GN (qn r.i) (top r.i) (mdl r.m) r.a:=by
 unfold rT
 repeat' refine List.forall_mem_cons.2 ⟨?_,?_⟩
 all_goals first|exact List.forall_mem_nil _|((repeat intro _);show _=_;kernel_rfl)
def dfA{P:Params}(X:(KK P).In h)(G:h.Ns mainGlobals mg)(i:Nat)(hi:(row i).isSome=true):Df (KK P) (qn i) (top i) (fA i) (dA i)/\(i<1000->mg (gt (top i))=some (.ref (fA i))):=by obtain⟨r,e⟩:=ZW.mp hi;have m:=List.mem_of_find?_eq_some e;have q:r.i=i:=Zz.mp (List.find?_some (p:=fun x:Rw=>x.i == i) (l:=rT) e);subst q;have a:=List.map_inj_left.mp (lkA P) r m;have b:=List.map_inj_left.mp (glA P) r m;simp only[XH]at a;unfold fA dA;rw[e];refine⟨Fn a.1 a.2.1 a.2.2 (bdA r m),fun z=>?_⟩;rw[Yh z,Yh z]at b;exact PySem.W.mg_of X G b
def all_mk{l:PySem.W.OpenLaw}{P:Params}{fa:Addr}(X:(KK P).In h)(G:h.Ns mainGlobals mg)(hfa:mg "law"=some (.ref fa)) :
  ∃fd:FuncData,(∀(s:Shared) (v:Value),BindsTo s fd ⟨[v],[]⟩ [("_law_script",v)])/\∀base:Heap,(KK P).In base->base.Ns mainGlobals mg->FnOk l.prog w (KK P) mg base CX0 10 fa fd ["_law_script"] (spLaw (KK P)):=by
 have e:=hfa.symm.trans ((dfA X G 60 rfl).2 (by decide));cases e;have T:Txt (KK P) mg ⟨249,392,394,396,31,164,44,116,80,56,152,104,68,140,92,128⟩:=by
  constructor
  ·exact dfA X G
  all_goals first
   |exact PySem.W.mg_none_of X G (by kernel_rfl)
   |exact PySem.W.mg_of X G (by kernel_rfl)
   |(delta NoAttr;kernel_rfl)
   |(constructor<;>kernel_rfl)
   |kernel_rfl
   |(intro k;cases k<;>constructor<;>kernel_rfl)
   |(intro k;cases k<;>first|exact Eq.trans (b:=some true) (by kernel_rfl) (by simp)|exact Eq.trans (b:=some false) (by kernel_rfl) (by simp)|kernel_rfl)
 exact⟨_,fun s v=>.of_eq rfl,fun base _ _=>(Ee T).imp (wy (law_true _))⟩
end My
structure PySem.W.Fast:Prop where
 (tw1676326454952206110 tw2682576552225282176 tw18380363037538203968 tw11275887256724360992 tw464012307917866593 tw10531645907125672549 tw5491759814789955590 tw12784155332645293544 tw459788969483919849 tw7989440077758045194 tw16125133397840901675 tw8378421278206813228 tw4674932546851709516 tw8970432865056571148 tw12852040321567296364 tw15200902792916181996 tw16108951770286765165 tw17130972114955473293 tw9524219527942300975 tw9304579008108869841 tw3380584913172516753 tw4588877108785932306 tw10382545142704452914 tw7696199695250332468 tw11168498738751729109 tw3538995317113098229 tw6519694325432713206 tw6340712619013670968 tw2483415679490104568 tw15075640859313338840 tw14476302711332840282 tw5118202663744567739 tw10518033792919680763 tw6855925804793113052 tw1481249586023207997 tw14091177454348706909 tw8977805480788358111 tw2175166010177295297 tw16860482220714328122 tw2215422822465345438 tw9295327870993479099 tw5057858509883517553 tw6018299475810606276 tw15251484045403554437 tw8717306096762360089 tw16029792699048617946 tw16657603567531189794 tw15842735568945323768 tw705266169353704551 tw9970653872590194715 tw11674043244736973014 tw14407496956870682974 tw12179174521046485677 tw15650451961078022404 tw15807254379032239381 tw6906346104058755008 tw4159626969302703637 tw16468781841265725723 tw2321977242270318462 tw16860791302356643964 tw6864167058776997518 tw2290892633958865267 tw16571285185424031917 tw10374113516730039939 tw17083063996734292856 tw159451823474710734 tw15116105110180446646 tw17292632614685229053 tw15864624509911812988 tw3450497342083893932 tw191806114722187267 tw2628384060270052321 tw13500463773082600582 tw16603563565620681321 tw18256680312774848229 tw10156683349523234442 tw4764280713045857764 tw5281437402580165647 tw4059639919321005967 tw14563386180545505680 tw6427909750650116628 tw5689625502089521111 tw13006656810534326199 tw16137631226854311583 tw13686330218398817267 tw3687789062584662235 tw13036683665736673192 tw15310352123478893130 tw3494486906566524770 tw15853770434058824293 tw287939013745351081 tw8670318201760026860 tw4813925332711500819 tw13964348602709689149 tw11204950999746824473 tw460156835687444590 tw5822512457353626961 tw12901709076819188340 tw13171820157536976286 tw3304275656290540325 tw860291697651454988 tw5347704682282852140 tw1185807580522583928 tw9687295024662938727 tw11514584043831865329 tw6792743705942432200 tw13958478679894832134 tw358262262077844493 tw7242425264010758980 tw339837464202711480 tw6366479638031604293 tw8759366143106320012 tw3726766916030443289 tw16484982680290118397 tw6411395122611973200 tw9341323602447147916 tw10442594182135713397 tw7942054346024224630 tw9931937528726563001 tw1145455844486652826 tw14148339205111074303 tw14651781116308790156 tw17320136190390626980 tw9123208544129239981 tw13578962804004413407 tw14959230191781256571 tw9431563228507516997 tw1317920854209326460 tw4941058564352123436 tw9776301814940074040 tw7236032978774202872 tw14990610810681168513 tw13651563866737076028 tw8804623609095341773 tw14791677201102361697 tw14289715782132305019 tw1471311436312646069 tw7342648578685153701 tw4988981469379830424 tw13398896177191761144 tw2272233313351389356 tw6676785084678508845 tw15329299321214411028 tw18184184694015213766 tw6082571797954256816 tw13121614247527980870 tw13524748960664117625 tw1467938105018294378 tw9331902706597561962 tw3980184551279730454 tw13823999939135025377 tw8185534929706990652 tw3043854801799408007 tw10407063263853358400 tw15466235359019016424 tw11221792793213526857 tw6614192140972023068 tw15896613599243160615 tw155540652145773765 tw4506321932856499622 tw10769613725449708547 tw565554738037726428 tw4713324756302314708 tw3039829534258109468 tw17204304074911121745 tw12221773382639154959 tw2566395563957833180 tw1329793246609526236 tw1741418012628889740 tw14691270714199998717 tw2063435243350977587 tw5263794618870607096 tw13949020950339455468 tw8020462282433827586 tw13594781919830760897 tw2313048026614478882 tw15880237893955564389 tw14571046499563289880 tw16258396683327749146 tw2554543788715967221 tw17926737248763964629 tw9375747717243347192 tw7783126520434483088 tw9632669162410866298 tw506862910954909435 tw9064349850494915066 tw4750417082670557114 tw11451865008781071444 tw13954893610686966841 tw1768145787294361005 tw6357098144819149826 tw1684799044913224291 tw5929780047097960527 tw16111580929674390692 tw425354428217526071 tw17964381336950089610 tw4701046067842338535 tw12226575687113931930 tw16912086605034254927 tw11547209982485720908 tw13929330757891599715 tw4683946360679828408 tw13383385649224683735 tw2902837041933029430 tw4516811373613955295 tw3758005785087799390 tw17274558425716448100 tw16341452440303063277 tw688594613181523727 tw5756651591406519262 tw12787461937079459799 tw762729998003074001 tw12571970514142327495 tw8465244986556857724 tw1204016274225091231 tw5968142487475208408 tw10035763471513196008 tw5158721760035775227 tw12903872269021029407 tw9146393320569625207 tw17569610600390366429 tw10620067387239766365 tw2731905358267504396 tw4030630930154591018 tw13447068678358343710 tw518731313711467341 tw2397284687144172628 tw9518055485057686036 tw14805429201309111826 tw4788660813125266621 tw5971979556620708588 tw1319719854300124430 tw4573419737158574809 tw11808342729811214001 tw14972431230955933879 tw10365598890006647952 tw8083054534561875410 tw13236939751289848468 tw2741113881177420606 tw1799885581045870558 tw7131344103966494353 tw13539507201286894651 tw18391161184188677566 tw8976376336543508426 tw12339692191549488535 tw17169323122549621673 tw10648266566489920713 tw4021316537448121759 tw12187965677293275154 tw14696114957693727137 tw3369776304763503219 tw17014380563223465221 tw11236854342130199652 tw4425683010511447392 tw10151005431754858669 tw13758411078026931043 tw1958660501139998114 tw15554524346077418600 tw5431424942672729760 tw18013240087934624897 tw981050245232560398 tw8160108775712580225 tw8331873028389716739 tw6692626481307871393 tw11656604264316303140 tw15110632508138923425 tw7715192765382927810 tw9150559360132569710 tw17346461527932255695 tw11672061978387772421 tw178405494954521994 tw17938684823845663893 tw1351023678964603449 tw6151956138567135044 tw7066386054050760938 tw7179696872343344346 tw15571283272794830290 tw12995523287198424978 tw7094388704302198605 tw18071760968970480369 tw13480580736007333134 tw17823048636938901069 tw4502747995483720530 tw13977903935555719532 tw13813677634678800170 tw5714335465528675795 tw3089976115953750420 tw4477347628943760767 tw12620794104312030702 tw12406314299017148061 tw6964530573286143558 tw18123198528922794427 tw15057296208879895639 tw12783252067835775886 tw12579448714981497472 tw18261059803489504545 tw14595672453906417525 tw15370137889882936183 tw1736724961290627346 tw3363178349878942537 tw6110884342532973592 tw12223282661978287347 tw10619816921233201301 tw13212160110802938529 tw13093275723392445842 tw13507915939265804274 tw6193196896185643190 tw7133358773326733041 tw5001858805450788478 tw12300158419575866777 tw6458324776878649073 tw12597737511489434136 tw9731904039670039528 tw2768210299167732952 tw13572742168736539221 tw9438887356652954308 tw13403512307855974501 tw9778959118993584157 tw6081190073590384274 tw3079006702005281806 tw11464799823057478174 tw14093754238063922427 tw13101206541417284031 tw9882841095808596279 tw8326884071682129969:True)
open PySem PySem.W PyProof.Rows
set_option maxRecDepth 100000 in
set_option maxHeartbeats 0 in
theorem PySem.Challenge.cw_tieword_k35_whole_a_change_holds : PySem.Challenge.rw_tieword_k35_whole_a_change.Holds := by
  w_on; o_law; o_head (PySem.W.kHook My.KK [3,30,31,43,44,56,68,80,92,104,116,128,140,152,163,164,248,249,298,299,170,171,177,178,184,185,191,192,198,199,205,206,212,213,224,225,231,232,238,239,259,260,266,267,271,272,276,277,281,282,295,296,307,308,312,313,319,320,324,325,329,330,336,337,343,344,350,351,355,356,362,363,369,370,374,375,379,380,386,387,393,394,400,401,405,406,412,413,419,420,424,425,431,432,436,437,443,444,450,451,457,458] (fun _=>by kernel_rfl)); (case hw=>w_witness2)
  k_fill
  refine L2.walk_ofK (l:=PySem.Challenge.rw_tieword_k35_whole_a_change) (n:=63) (k:=10) (x := "_law_script") (CX:=L2.CX0) (sp:=My.spLaw) rfl (by decide) rfl ⟨rfl,by decide,by decide⟩ (fun w h Y=>PySem.W.kIn_of Y) ?F (fun K H a ns hl _ hS=>⟨a,ns,rfl,hS,hl,fun _=>rfl⟩) fun _ _ _ _ z=>z
  case F=>
    intro w mg fa h KX G hmg
    exact My.all_mk KX G hmg
