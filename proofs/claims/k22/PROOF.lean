import PyProof.Rows.All
import Wide.All
import OpenK.AllK
import Wide.FinOn
import Lean
import PyProof.EqAt
import PyProof.EqKinds
import PyProof.TupleCall
import PyProof.ReprStr
import PyProof.Rows.FStr
import PyProof.Rows.SetFrom
import PyProof.EnumFor
import PyProof.EnumMake
import PyProof.ZipIter
import KE.KRevIter
import PyProof.ListRange
import PyProof.FactsAll.range_iterator_1
import KE.KIntText
import PyProof.CallStr
import PyProof.Rows.TupDisplay
import PyProof.Rows.MinMaxN
import PySem.SetOps
import PyProof.CollectWalk
import PyProof.Rows.SortShell
import PyProof.SetRoads
import PyProof.StrOps2
import PySem.Challenge.RW_tieword_k22_bad_texts
set_option Elab.async false
set_option linter.all false
set_option maxRecDepth 100000
set_option compiler.extract_closed false
set_option bootstrap.genMatcherCode false
set_option genSizeOf false
set_option genSizeOfSpec false
noncomputable section
namespace L2
def Ya:=@Option.bind_some
def Yb:=@List.length_append
def Yc:=@List.length_map
def Yd:=@Option.bind_eq_some_iff
def Ye:=@List.mem_cons_of_mem
def Yf:=@List.mem_cons_self
def Yg:=@List.length_cons
def Yh:=@if_pos
def Yi:=@decide_eq_false
def Yj:=@List.mem_append
def Yk:=@decide_eq_true
def Yl:=@List.append_nil
def Ym:=@Bool.false_ne_true
def Yn:=@Bool.and_eq_true
def Yo:=@List.mem_singleton
def Yp:=@if_neg
def Yq:=@List.append_assoc
def Yr:=@PySem.wpAny_bind
def Ys:=@Nat.lt_of_lt_of_le
def Yt:=@List.mem_map
def Yu:=@List.size_toArray
def Yv:=@Option.some.inj
def Yw:=@List.mem_cons
def Yx:=@PySem.Heap.get?_push_of_some
def Yy:=@Nat.le_refl
def Yz:=@List.getElem?_eq_getElem
def YA:=@List.length_replicate
def YB:=@List.map_append
def YC:=@PySem.Heap.lt_size
def YD:=@List.map_cons
def YE:=@List.all_eq_true
def YF:=@decide_eq_true_eq
def YG:=@List.nodup_cons
def YH:=@congrArg
def YI:=@List.getElem?_map
def YJ:=@Nat.ne_of_lt
def YK:=@PySem.Heap.get?_push_size
def YL:=@PySem.sizeLine_eq
def YM:=@List.getElem?_eq_some_iff
def YN:=@of_decide_eq_true
def YO:=@List.nodup_append
def YQ:=@Nat.zero_le
def YR:=@List.getElem?_set_ne
def YS:=@Nat.lt_of_le_of_lt
def YT:=@PySem.wpAny_pure
def YU:=@List.length_singleton
def YV:=@List.count_append
def YW:=@Nat.le_trans
def YX:=@List.getD_eq_getElem?_getD
def YY:=@PySem.F.plainAttrs_list
def YZ:=@List.mem_append_right
def Za:=@Int.emod_lt_of_pos
def Zb:=@List.flatMap_append
def Zc:=@List.length_nil
def Zd:=@List.mem_of_getElem?
def Ze:=@PySem.wpAny_truthy_bool
def Zf:=@List.length_set
def Zg:=@Int.emod_nonneg
def Zh:=@beq_eq_false_iff_ne
def Zi:=@decide_eq_false_iff_not
def Zj:=@List.find?_cons
def Zk:=@Nat.add_right_comm
def Zl:=@List.map_nil
def Zm:=@Nat.le_antisymm
def Zn:=@List.map_map
def Zo:=@Nat.lt_irrefl
def Zp:=@List.getElem?_set_self
def Zq:=@List.mem_range
def Zr:=@PySem.W.kia_one
def Zs:=@List.mem_flatMap
def Zt:=@PySem.mem_of_lookup
def Zu:=@PySem.F.slot_list_append
def Zv:=@Nat.le_of_lt_succ
def Zw:=@Nat.lt_of_le_of_ne
def Zx:=@List.nil_append
def Zy:=@List.getElem?_cons_zero
def Zz:=@Nat.le_of_lt
def ZA:=@Nat.lt_trans
def ZB:=@List.getElem?_append_right
def ZC:=@PySem.wpAny_mono
def ZD:=@Array.length_toList
def ZE:=@List.takeWhile_append_dropWhile
def ZF:=@List.getElem?_append_left
def ZG:=@Nat.le_add_left
def ZH:=@List.count_cons_of_ne
def ZI:=@PySem.F.type_list_append
def ZJ:=@List.pairwise_cons
def ZK:=@decide_eq_true_iff
def ZL:=@Nat.le_of_not_lt
def ZM:=@PySem.wpAny_loadName_local
def ZN:=@List.mem_singleton_self
def ZO:=@List.length_eq_zero_iff
def ZP:=@Nat.le_of_eq
def ZQ:=@Option.map_some
def ZR:=@List.length_pos_iff
def ZS:=@List.take_of_length_le
def ZT:=@beq_iff_eq
def ZU:=@PySem.Calls.spliced_cons
def ZV:=@PySem.Calls.evalArgs_plain
def ZW:=@Nat.le_sub_one_of_lt
def ZX:=@Ne.symm
def ZY:=@PySem.wpAny_passesOwn
def ZZ:=@Option.isSome_iff_exists
def Xa:=@List.map_inj_left
def Xb:=@PySem.wpAny_holding
def Xc:=@List.getElem?_replicate
def Xd:=@List.getElem?_cons_succ
def Xe:=@PySem.wpAny_execs_cons
def Xf:=@PySem.W.cellsFrom_some
def Xg:=@PySem.Calls.callWith_builtin
def Xh:=@List.Perm.append_right
def Xi:=@List.mem_filterMap
def Xj:=@PySem.wpAny_Call_Name_kw
def Xk:=@PySem.tupleKind_room_in1
def Xl:=@List.dropLast_concat_getLast
def Xm:=@PySem.wpAny_isTrue_Compare1
def Xn:=@PySem.wpAny_loadPart'
def Xo:=@Array.getD_eq_getD_getElem?
def Xp:=@List.takeWhile_prefix
def Xq:=@List.Perm.append_left
def Xr:=@List.perm_append_comm
def Xs:=@Nat.lt_succ_of_lt
def Xt:=@List.any_cons
def Xu:=@PySem.Heap.get?_push_ne
def Xv:=@Nat.add_assoc
def Xw:=@List.cons.inj
def Xx:=@List.dropWhile_cons_of_pos
def Xy:=@List.dropWhile_cons_of_neg
def Xz:=@List.takeWhile_cons_of_neg
def XA:=@List.mem_append_left
def XB:=@List.length_dropLast
def XD:=@List.mem_erase_of_ne
def XE:=@List.drop_eq_getElem_cons
def XF:=@List.extract_eq_take_drop
def XG:=@Nat.lt_succ_self
def XH:=@Nat.succ_le_succ
def XI:=@Nat.add_sub_cancel'
def XJ:=@List.replicate_succ
def XL:=@PySem.F.slot_list_extend
def XM:=@PySem.wpAny_Constant_int
def XN:=@PySem.wpAny_execs_nil
def XO:=@PySem.W.callWith_K
def XQ:=@Nat.lt_add_of_pos_right
def XS:=@PySem.codeAny_builtin
def XT:=@PySem.PassesOwn.never
def XU:=@Nat.add_sub_cancel_left
def XV:=@PySem.F.plainAttrs_str
def XW:=@PySem.wpAny_Name
def XX:=@List.reverse_cons
def XY:=@List.eraseIdxIfInBounds_toArray
def XZ:=@List.length_range
def Va:=@Nat.le_of_succ_le
def Vb:=@PySem.Heap.size_push
def Vc:=@List.nodup_nil
def Vd:=@List.tail_cons
def Ve:=@List.Perm.refl
def Vf:=@PySem.F.slot_list_pop
def Vg:=@PySem.F.slot_dict_get
def Vh:=@List.getElem?_eq_none
def Vi:=@PySem.Heap.size_update
def Vj:=@Bool.not_eq_true
def Vk:=@Bool.and_eq_true_iff
def Vl:=@List.dropLast_concat
def Vm:=@List.extract_toArray
def Vn:=@List.filterMap_cons
def Vo:=@PySem.W.plainGet_of
def Vp:=@PySem.pushCells_keeps
def Vq:=@List.getElem_of_mem
def Vr:=@List.replicate_zero
def Vs:=@PySem.codeAny_mono
def Vt:=@Bool.false_eq_true
def Vu:=@List.zip_cons_cons
def Vv:=@Nat.zero_add
def Vw:=@PySem.typeIs_str
def Vx:=@Option.isSome_map
def Vy:=@List.pairwise_map
def Vz:=@List.all_cons
def VA:=@Bool.true_and
def VB:=@Nat.sub_lt
def VC:=@if_true
end L2
namespace L2
open PySem PySem.Spec PyProof.Rows
abbrev Kq:=PySem.W.Frag
abbrev Kv:=Value->Shared->Prop
abbrev Kp:=List (Addr×Obj)
abbrev Ks:=Str->Option Value
abbrev Ka:=Array (Int×Value)
abbrev Kb:=Bool->Shared->Prop
abbrev Ko:=Option Value->Shared->Prop
abbrev Kl:=List Value->Shared->Prop
abbrev Kr:=Result->Shared->Prop
abbrev Key:=Sum Int Str
def pZ:Key->Value->Bool
 |.inl k,v=>Value.isInt k v
 |.inr x,v=>Value.isStrOf x v
def JL(w:World):Key->Int
 |.inl k=>hashInt k
 |.inr x=>hashStr w x
def cC:∀{k:Key}{v:Value},pZ k v=true->(∃i t,k=Sum.inl i/\v=Value.int i t)\/(∃x t,k=Sum.inr x/\v=Value.str x t)
 |.inl i,v,h=>by
  obtain⟨t,e⟩:=Value.isInt_shape (k:=i) (v:=v) h;exact .inl ⟨i,t,rfl,e⟩
 |.inr x,v,h=>by
  obtain⟨t,e⟩:=Value.isStrOf_shape (x:=x) (v:=v) h;exact .inr ⟨x,t,rfl,e⟩
def yI(i:Int)(t:Tok):pZ (.inl i) (.int i t)=true:=by simp[pZ,Value.isInt]
def gH(x:Str)(t:Tok):pZ (.inr x) (.str x t)=true:=by simp[pZ,Value.isStrOf]
def Gr(a b:Int):decide ((Sum.inl a:Key)=Sum.inl b)=(a == b):=by
 by_cases e:a=b
 ·subst e;simp
 ·have h:¬(Sum.inl a:Key)=Sum.inl b:=λq=>e (Sum.inl.inj q)
  rw[Yi h];exact(Zh.mpr e).symm
def v5(a b:Str):decide ((Sum.inr a:Key)=Sum.inr b)=decide (a=b):=by
 by_cases e:a=b
 ·subst e;simp
 ·have h:¬(Sum.inr a:Key)=Sum.inr b:=λq=>e (Sum.inr.inj q)
  rw[Yi h,Yi e]
def GP(a:Int)(b:Str):decide ((Sum.inl a:Key)=Sum.inr b)=false:=Yi (λq=>nomatch q)
def He(a:Str)(b:Int):decide ((Sum.inr a:Key)=Sum.inl b)=false:=Yi (λq=>nomatch q)
def bU(prog:Program)(w:World):PySem.KeyKind prog w Key where
 is:=pZ
 hash:=JL w
 inj:=λv a b m g=>by
  rcases cC m with⟨i,t,rfl,rfl⟩|⟨x,t,rfl,rfl⟩
  ·rcases cC g with⟨j,u,rfl,e⟩|⟨y,u,rfl,e⟩
   ·injection e with e1 _;rw[e1]
   ·exact nomatch e
  ·rcases cC g with⟨j,u,rfl,e⟩|⟨y,u,rfl,e⟩
   ·exact nomatch e
   ·injection e with e1 _;rw[e1]
 byValue:=λk v h=>by
  rcases cC h with⟨i,t,rfl,rfl⟩|⟨x,t,rfl,rfl⟩<;>rfl
 pyHash:=λf h=>by
  rcases cC f with⟨i,t,rfl,rfl⟩|⟨x,t,rfl,rfl⟩
  ·exact wpAny_pyHash_int h
  ·exact wpAny_pyHash_str h
 eqBool:=λl f h=>by
  rcases cC l with⟨i,t,rfl,rfl⟩|⟨x,t,rfl,rfl⟩
  ·rcases cC f with⟨j,u,rfl,rfl⟩|⟨y,u,rfl,rfl⟩
   ·rw[Gr]at h;exact wpAny_eqBool_int h
   ·rw[GP]at h;exact SeqAt.EqAt.int_str i t y u _ _ _ _ h
  ·rcases cC f with⟨j,u,rfl,rfl⟩|⟨y,u,rfl,rfl⟩
   ·rw[He]at h;exact SeqAt.EqAt.str_int x t j u _ _ _ _ h
   ·rw[v5]at h;exact wpAny_eqBool_str h
 «strs»:=λk x t v h=>by
  rcases cC h with⟨i,u,rfl,e⟩|⟨y,u,rfl,e⟩
  ·exact nomatch e
  ·injection e with e1 _;subst e1;cases v<;>rfl
def sU(prog:Program)(w:World)(i:Int)(t:Tok):(bU prog w).is (.inl i) (.int i t)=true:=yI i t
def uD(prog:Program)(w:World)(x:Str)(t:Tok):(bU prog w).is (.inr x) (.str x t)=true:=gH x t
inductive V where
 |non|bl (b:Bool)|int (i:Int)|str (x:Str)|byt (b:Array UInt8)|flt (b:UInt64)|ref (a:Addr)|ty (n:String)
def RelV:V->Value->Prop
 |.non,u=>u=Value.none
 |.bl b,u=>u=Value.bool b
 |.int i,u=>∃t,u=Value.int i t
 |.str x,u=>∃t,u=Value.str x t
 |.byt b,u=>∃t,u=Value.bytes b t
 |.flt b,u=>∃t,u=Value.float b t
 |.ref a,u=>u=Value.ref a
 |.ty n,u=>u=Value.type n
abbrev Vals:List V->List Value->Prop:=Paired RelV
def Vals.length{xs:List V}{us:List Value}(r:Vals xs us):xs.length=us.length:=Paired.length r
theorem Vals.get:∀{xs:List V}{us:List Value}{i:Nat}{x:V},Vals xs us->xs[i]?=some x->∃u,us[i]?=some u/\RelV x u
 |_,_,_,_,.nil,e=>by simp at e
 |_,_,0,_,.cons r _,e=>by simp at e;subst e;exact⟨_,rfl,r⟩
 |_,_,i+1,x,.cons _ t,e=>by
  obtain⟨u,a,h⟩:=Vals.get (i:=i) (x:=x) t (by simpa using e);exact⟨u,by simpa using a,h⟩
theorem Vals.set{x:V}{u:Value}(r:RelV x u):∀{xs:List V}{us:List Value} (i:Nat),Vals xs us->Vals (xs.set i x) (us.set i u)
 |_,_,_,.nil=>.nil
 |_,_,0,.cons _ t=>.cons r t
 |_,_,i+1,.cons q t=>.cons q (Vals.set r i t)
def Vals.append{xs ys:List V}{us w:List Value}(h:Vals xs us)(s:Vals ys w):Vals (xs++ys) (us++w):=by
 induction h with
 |nil=>exact s
 |cons r _ ih=>exact .cons r ih
def RelO:Option V->Option Value->Prop
 |some v,some u=>RelV v u
 |none,none=>True
 |_,_=>False
def KV{κ:Type}:List (κ×V)->List (κ×Value)->Prop:=Paired λ(p:κ×V) (q:κ×Value)=>p.1=q.1/\RelV p.2 q.2
noncomputable def kV:Key->V
 |.inl i=>.int i
 |.inr x=>.str x
inductive HO where
 /-- a list -/
 |lst (xs:List V)
 /-- a tuple (never changes) -/
 |tup (xs:List V)
 /-- a dict whose keys are ints and texts;one whose keys are tuples of ints and texts (the empty one is both) -/
 |dK (kvs:List (Key×V))|dT (kvs:List (List Key×V))
 /-- a set of ints: its members,its size -/
 |set (S:Int->Bool) (n:Nat)
 /-- an instance of the class at C,its dict at dx,its attributes -/
 |ins (C dx:Addr) (fs:List (Str×V))
 /-- the dict of the instance at x -/
 |own (x:Addr)
 /-- the dict of an exception -/
 |xd (fs:List (Str×V))
 /-- a bound method,f of x -/
 |met (f x:Addr)
 /-- a range object lo,lo+1,.. below hi -/
 |rng (lo hi:Int)
 /-- a thing that is known to the object (the script;a dict while a loop walks it): read,never written while it is so -/
 |frz (o:Obj) (u:HO)
 /-- a code object's table -/
 |tbl (ps:Array Value)
 /-- any other thing,by what is true of its one object (a def of one's own: SetO a S n:=HO.ext λh=>..) -/
 |ext (φ:Heap->Prop)
abbrev Hp:=Addr->Option HO
def upd(H:Hp)(a:Addr)(o:HO):Hp:=λb=>if b=a then some o else H b
def aE{H:Hp}{a:Addr}{o:HO}:upd H a o a=some o:=by unfold upd;rw[Yh rfl]
def aA{H:Hp}{a b:Addr}{o:HO}(h:b≠a):upd H a o b=H b:=by unfold upd;rw[Yp h]
def Ih{H:Hp}{a b:Addr}{o u:HO}(h:H a=some o)(h':H b=some u)(d:o≠u):a≠b:=by intro e;subst e;rw[h]at h';exact d (Yv h')
def aS{H:Hp}{a b:Addr}{o:HO}(h:H a=some o)(h':H b=none):a≠b:=by intro e;subst e;rw[h]at h';cases h'
def NoD(h:Heap)(a:Addr):Prop:=∃o,h.get? a=some o/\o.dict=none
def NoD.new(h:Heap)(i:Array Value):NoD (h.push {cls:=.type "tuple",data:=.seq i}) h.objs.size:=⟨_,YK _ rfl,rfl⟩
section
variable(P:Program) (w:World)
def ObjOk(H:Hp)(h:Heap)(a:Addr):HO->Prop
 |.lst b=>b.length<=sizeLine/\∃(i:List Value) (n:Nat),Vals b i/\h.get? a=some {cls:=.type "list",data:=.seq i.toArray n}
 |.tup b=>b.length<=sizeLine/\∃i:List Value,Vals b i/\IsTup h a i.toArray/\NoD h a
 |.dK kvs=>kvs.length<=sizeLine/\(a == sysModules)=false/\∃e,KV kvs e/\h.DictOf (bU P w) a e
 |.dT kvs=>kvs.length<=sizeLine/\(a == sysModules)=false/\∃b:List (List Key×Addr×Value),
   Paired (λ(p:List Key×V) (q:List Key×Addr×Value)=>p.1=q.1/\H q.2.1=some (.tup (p.1.map kV))/\RelV p.2 q.2.2) kvs b /\
   ∃o l s,h.get? a=some o/\o.ExactDict/\o.data=.dict l s/\l.toList=b.map (entryOfKey (tupleKind (bU P w)))/\(b.map (·.1)).Nodup
 |.set S n=>h.SetOf (intKind P w) a S n
 |.ins C dx fs=>H dx=some (.own a)/\fs.length<=1000/\dx≠a/\h.get? a=some (PySem.W.instObj C dx) /\
   ∃m,h.Ns1 dx m/\(∀f,RelO (fs.lookup f) (m f))/\PySem.Within m (fs.map (·.1))
 |.own _=>∃o,h.get? a=some o
 |.xd fs=>∃m,h.Ns1 a m/\∀f,RelO (fs.lookup f) (m f)
 |.rng lo hi=>∃t u v,h.get? a=some {cls:=.type "range",data:=.fields #[.int lo t,.int hi u,.int 1 v]}
 |.frz o u=>h.get? a=some o/\ObjOk H h a u
 |.tbl ps=>h.get? a=some {cls:=.none,data:=.fields ps}
 |.met f x=>h.get? a=some (PySem.W.methodObj (.ref f) (.ref x))
 |.ext φ=>φ h/\(∃o,h.get? a=some o)/\∀j g:Heap,φ j->(∀o,j.get? a=some o->g.get? a=some o)->φ g
def HOk(H:Hp)(h:Heap):Prop:=∀a o,H a=some o->ObjOk P w H h a o
end
section
variable{P:Program}{w:World}{H H':Hp}{h h':Heap}{a:Addr}{o:HO}
def ObjOk.lt(x:ObjOk P w H h a o):a<h.objs.size:=by
 cases o with
 |lst xs=>obtain⟨_,_,_,_,e⟩:=x;exact YC e
 |tup xs=>obtain⟨_,_,_,p,_⟩:=x;exact p.lt
 |dK kvs=>obtain⟨_,_,_,_,o,_,_,e,_⟩:=x;exact YC e
 |dT kvs=>obtain⟨_,_,_,_,o,_,_,e,_⟩:=x;exact YC e
 |set S n=>obtain⟨o,_,_,_,e,_⟩:=x;exact YC e
 |ins C dx fs=>obtain⟨_,_,_,e,_⟩:=x;exact YC e
 |own y=>obtain⟨_,e⟩:=x;exact YC e
 |xd fs=>obtain⟨_,⟨_,_,_,e,_⟩,_⟩:=x;exact YC e
 |rng lo hi=>obtain⟨_,_,_,e⟩:=x;exact YC e
 |frz ob u=>obtain⟨e,_⟩:=x;exact YC e
 |tbl ps=>exact YC (show h.get? a=some _ from x)
 |met f y=>exact YC (show h.get? a=some _ from x)
 |ext φ=>obtain⟨_,⟨_,e⟩,_⟩:=x;exact YC e
def Paired.mapP{α e:Type}{F G:α->e->Prop}{l₁:List α}{l₂:List e}(h:Paired F l₁ l₂)(f:∀a b,F a b->G a b):Paired G l₁ l₂:=by
 induction h with
 |nil=>exact .nil
 |cons r _ ih=>exact .cons (f _ _ r) ih
def ObjOk.stay(x:ObjOk P w H h a o)(k:∀b u,(b=a\/H b=some (.own a))->h.get? b=some u->h'.get? b=some u)
  (K:∀b,H b=some (.own a)->H' b=some (.own a)) (J:∀b xs,H b=some (.tup xs)->H' b=some (.tup xs)):ObjOk P w H' h' a o:=by
 induction o with
 |lst xs=>obtain⟨z,j,n,r,e⟩:=x;exact⟨z,j,n,r,k _ _ (.inl rfl) e⟩
 |tup xs=>obtain⟨z,j,r,⟨ob,e,c⟩,m,A,L⟩:=x;exact⟨z,j,r,⟨ob,k _ _ (.inl rfl) e,c⟩,m,k _ _ (.inl rfl) A,L⟩
 |dK kvs=>obtain⟨z,y,E,r,ob,g,i,e,c⟩:=x;exact⟨z,y,E,r,ob,g,i,k _ _ (.inl rfl) e,c⟩
 |dT kvs=>
  obtain⟨z,y,xs,r,ob,g,i,e,c⟩:=x;exact⟨z,y,xs,Paired.mapP r λp q z=>⟨z.1,J _ _ z.2.1,z.2.2⟩,ob,g,i,k _ _ (.inl rfl) e,c⟩
 |set S n=>obtain⟨ob,g,i,t,e,c⟩:=x;exact⟨ob,g,i,t,k _ _ (.inl rfl) e,c⟩
 |ins C dx fs=>
  obtain⟨d,z,I,e,s,⟨l,g,i,A,c⟩,r⟩:=x;exact⟨K _ d,z,I,k _ _ (.inl rfl) e,s,⟨l,g,i,k _ _ (.inr d) A,c⟩,r⟩
 |own y=>obtain⟨ob,e⟩:=x;exact⟨ob,k _ _ (.inl rfl) e⟩
 |xd fs=>obtain⟨s,⟨l,g,i,e,c⟩,r⟩:=x;exact⟨s,⟨l,g,i,k _ _ (.inl rfl) e,c⟩,r⟩
 |rng lo hi=>obtain⟨t,u,v,e⟩:=x;exact⟨t,u,v,k _ _ (.inl rfl) e⟩
 |frz ob u ih=>obtain⟨e,q⟩:=x;exact⟨k _ _ (.inl rfl) e,ih q⟩
 |tbl ps=>
  have e:h.get? a=some {cls:=.none,data:=.fields ps}:=x;show h'.get? a=some {cls:=.none,data:=.fields ps};exact k a _ (.inl rfl) e
 |met f y=>
  have e:h.get? a=some (PySem.W.methodObj (.ref f) (.ref y)):=x;show h'.get? a=some (PySem.W.methodObj (.ref f) (.ref y));exact k a _ (.inl rfl) e
 |ext φ=>obtain⟨p,⟨o,e⟩,B⟩:=x;exact⟨B _ _ p λo q=>k _ _ (.inl rfl) q,⟨o,k _ _ (.inl rfl) e⟩,B⟩
def HOk.lt(x:HOk P w H h)(e:H a=some o):a<h.objs.size:=(x a o e).lt
def HOk.fresh(x:HOk P w H h)(e:h.objs.size<=a):H a=none:=by
 cases q:H a with
 |none=>rfl
 |some u=>exact absurd (Ys (x.lt q) e) (Zo _)
def HOk.kept(x:HOk P w H h)(k:∀b u,h.get? b=some u->h'.get? b=some u):HOk P w H h':=λa o e=>
 (x a o e).stay (λb u _ q=>k b u q) (λ_ q=>q) λ_ _ q=>q
def HOk.laid(x:HOk P w H h)(k:∀b u,h.get? b=some u->h'.get? b=some u)(i:h.objs.size<=a)(new:ObjOk P w (upd H a o) h' a o):HOk P w (upd H a o) h':=λb u e=>by
 have f:=x.fresh i;by_cases g:b=a
 ·subst g;rw[aE]at e;cases e;exact new
 ·rw[aA g]at e;exact(x b u e).stay (λc v _ q=>k c v q) (λc q=>by rw[aA (aS q f)];exact q) λc j q=>by rw[aA (aS q f)];exact q
end
def Rd(H:Hp)(a:Addr)(u:HO):Prop:=H a=some u\/∃o,H a=some (.frz o u)
def Rd.ok{P:Program}{w:World}{H:Hp}{h:Heap}{a:Addr}{u:HO}(r:Rd H a u)(x:HOk P w H h):ObjOk P w H h a u:=by
 rcases r with r|⟨o,r⟩
 ·exact x a u r
 ·obtain⟨_,q⟩:=x a _ r;exact q
def Mut:Option HO->Prop
 |some (.lst _)=>True
 |some (.dK _)=>True
 |some (.dT _)=>True
 |some (.set _ _)=>True
 |some (.ins _ _ _)=>True
 |some (.ext _)=>True
 |_=>False
section
variable{P:Program}{w:World}{H:Hp}{h h':Heap}{x e:Addr}{o':HO}
def HOk.write(ok:HOk P w H h)(m:Mut (H x))(he:e=x\/H e=some (.own x))(k:∀b u,b≠e->h.get? b=some u->h'.get? b=some u)(l:∃u,h'.get? e=some u)
  (new:ObjOk P w (upd H x o') h' x o'):HOk P w (upd H x o') h':=λb u q=>by
 have f:∀c y,H c=some (.own y)->c≠x:=λc y r z=>by subst z;rw[r]at m;exact m
 have g:∀c i,H c=some (.tup i)->c≠x:=λc i r z=>by subst z;rw[r]at m;exact m
 by_cases j:b=x
 ·subst j;rw[aE]at q;cases q;exact new
 ·rw[aA j]at q;by_cases a:b=e
  ·have o:H b=some (.own x):=by
    rcases he with z|z
    ·exact absurd (a.trans z) j
    ·rw[a];exact z
   rw[q]at o;cases o;obtain⟨v,p⟩:=l;exact⟨v,by rw[a];exact p⟩
  ·refine(ok b u q).stay (λc v hc r=>k c v ?_ r) (λc r=>by rw[aA (f c b r)];exact r) λc i r=>by rw[aA (g c i r)];exact r
   rcases hc with rfl|hc
   ·exact a
   ·rintro rfl;rcases he with z|z
    ·exact f c b hc z
    ·rw[hc]at z;cases z;exact j rfl
end
structure Un (fs ex:List Addr) (H H':Hp) (h h':Heap):Prop where
 keep:∀b o,h.get? b=some o->H b=none->b∉fs->b∉ex->h'.get? b=some o
 slot:∀b o,h.get? b=some o->H b=none->b∈fs->b∉ex->∃sl,h'.get? b=some {o with slots:=sl}
 free:∀b o,h.get? b=some o->H b=none->b∉ex->H' b=none
 there:∀b o,h.get? b=some o->b∉ex->∃o',h'.get? b=some o'
 tups:∀b xs,H b=some (.tup xs)->H' b=some (.tup xs)
 frzs:∀b o u,H b=some (.frz o u)->H' b=some (.frz o u)
 tbls:∀b ps,H b=some (.tbl ps)->∃more,H' b=some (.tbl (ps++more))
section
variable{fs fs' ex ex':List Addr}{H H1 H2:Hp}{h h1 h2 h':Heap}{a x e:Addr}{o:HO}
def Un.any(u:Un fs ex H H1 h h1){b:Addr}{ob:Obj}(q:h.get? b=some ob)(n:H b=none)(hx:b∉ex):∃s,h1.get? b=some {ob with slots:=s}:=by
 by_cases a:b∈fs
 ·exact u.slot b ob q n a hx
 ·exact⟨ob.slots,u.keep b ob q n a hx⟩
def Un.kept(k:∀b u,h.get? b=some u->h'.get? b=some u):Un fs ex H H h h':=
 ⟨λb ob q _ _ _=>k b ob q,λb ob q _ _ _=>⟨ob.slots,k b ob q⟩,λ_ _ _ n _=>n,λb ob q _=>⟨ob,k b ob q⟩,λ_ _ q=>q,λ_ _ _ q=>q,λ_ p q=>⟨#[],by rw[q];simp⟩⟩
def Un.refl:Un fs ex H H h h:=Un.kept λ_ _ q=>q
def Un.laid(k:∀b u,h.get? b=some u->h'.get? b=some u)(f:h.objs.size<=a)(e:H a=none):Un fs ex H (upd H a o) h h' where
 keep:=λb u q _ _ _=>k b u q
 slot:=λb u q _ _ _=>⟨u.slots,k b u q⟩
 free:=λb u q n _=>by rw[aA (YJ (Ys (YC q) f))];exact n
 there:=λb u q _=>⟨u,k b u q⟩
 tups:=λb x q=>by rw[aA (aS q e)];exact q
 frzs:=λb u x q=>by rw[aA (aS q e)];exact q
 tbls:=λb p q=>⟨#[],by rw[aA (aS q e),q];simp⟩
def Un.write(m:Mut (H x))(he:e=x\/H e=some (.own x))(k:∀b u,b≠e->h.get? b=some u->h'.get? b=some u)(g:∃u,h'.get? e=some u):Un fs ex H (upd H x o) h h':=by
 have i:∀b,H b=none->b≠x:=λb n z=>by subst z;rw[n]at m;exact m
 have j:∀b,H b=none->b≠e:=λb n z=>by
  subst z;rcases he with r|r
  ·exact i b n r
  ·rw[n]at r;cases r
 have f:∀b u,H b=some u->¬Mut (some u)->b≠x:=λb u q p z=>by subst z;rw[q]at m;exact p m
 refine⟨λb u q n _ _=>k b u (j b n) q,λb u q n _ _=>⟨u.slots,k b u (j b n) q⟩,λb u q n _=>by rw[aA (i b n)];exact n,λb u q _=>?_,
  λb l q=>by rw[aA (f b _ q λz=>z)];exact q,λb u l q=>by rw[aA (f b _ q λz=>z)];exact q,λb s q=>⟨#[],by rw[aA (f b _ q λz=>z),q];simp⟩⟩
 by_cases a:b=e
 ·subst a;exact g
 ·exact⟨u,k b u a q⟩
end
def trk(h:Heap)(H:Hp):List Addr:=(List.range h.objs.size).filter λa=>(H a).isSome
def r6(h:Heap)(H:Hp):Heap:=PySem.W.hideAll h (trk h H)
def yL(h:Heap)(H:Hp):(r6 h H).objs.size=h.objs.size:=PySem.W.hideAll_size _ _
def zC{h:Heap}{H:Hp}{b:Addr}{o:Obj}(e:h.get? b=some o)(n:H b=none):(r6 h H).get? b=some o:=
 PySem.W.hideAll_get _ e λa=>by
  have q:(H b).isSome=true:=(List.mem_filter.mp a).2;rw[n]at q;simp at q
def Eh{h:Heap}{H:Hp}{b:Addr}{o:Obj}(e:(r6 h H).get? b=some o):h.get? b=some o/\H b=none:=by
 have a:h.get? b=some o:=PySem.W.of_hideAll (trk h H) e;refine⟨a,?_⟩;cases q:H b with
 |none=>rfl
 |some x=>
  have f:b∈trk h H:=List.mem_filter.mpr ⟨Zq.mpr (YC a),by simp[q]⟩;have z:(r6 h H).get? b=none:=PySem.W.hideAll_none (trk h H) f;rw[z]at e;cases e
def Da(g h:Heap)(L:Addr):List (Addr×Obj):=(List.range h.objs.size).filterMap λa=>if a=L\/(g.get? a).isSome=true then none else(h.get? a).map λo=>(a,o)
def aL(g h:Heap)(L d:Addr):List (Addr×Obj):=(Da g h L).filter λp=>decide (p.1≠d)
structure Mod (K:PySem.W.Frag) (mg:Str->Option Value) (base:Heap):Prop where
 kin:K.In base
 glob:base.Ns mainGlobals mg
 blt:∃mb,base.Ns builtinsNs mb/\∀x:Str,x ≠ "__name__"->mb x=bootBuiltins x
 nolimit:base.NoLimit
structure Cx where
 prog:Program
 w:World
 K:PySem.W.Frag
 mg:Str->Option Value
 base:Heap
 A:Around
 N:List Str
 s₀:Shared
 H₀:Hp
 env:Env
 outer:List Env
 stack:List Env
 ex:List Addr
 fn:Str->Bool
 calm:Bool
 pn:List (Addr×Obj)
 xe:Value->Shared->Prop
def frs(l:List Env):List Addr:=l.filterMap (·.frame)
abbrev Cx.fs(X:Cx):List Addr:=frs X.outer
def Vis(s:Scope)(x:Str):Prop:=s.names.lookup x=some .local\/s.names.lookup x=some .cell\/s.names.lookup x=some .free
def Loc(s:Scope)(x:Str):Prop:=s.names.lookup x=some .local\/s.names.lookup x=some .cell
def Ke(env:Env)(h:Heap)(m:Ks)(x:Str)(u:Value):Prop:=
 (env.kindOf x=some .local/\m x=some u)\/((env.kindOf x=some .cell\/env.kindOf x=some .free)/\∃c,env.cells.lookup x=some c/\h.IsCell c (some u))
structure Cx.Ok (X:Cx):Prop where
 mod:Mod X.K X.mg X.base
 kind:X.env.scope.kind=.function
 glob:X.env.globals=mainGlobals
 blt:X.env.builtins=builtinsNs
 above:X.s₀.heap.objs.size<=X.env.locals
 inj:∀x y c,X.env.cells.lookup x=some c->X.env.cells.lookup y=some c->x=y
 has:∀x,(X.env.kindOf x=some .cell\/X.env.kindOf x=some .free)->∃c,X.env.cells.lookup x=some c
 cab:∀x c,X.fn x=true->X.env.cells.lookup x=some c->X.s₀.heap.objs.size<=c
 hd:X.calm=true->X.A.handled=none
 frames:X.A.frames=some X.stack
 stk:X.stack=X.outer\/(X.stack=X.env::X.outer/\X.env.frame=some X.env.locals)
 exf:∀b∈X.ex,b≠X.env.locals/\∀x c,X.env.cells.lookup x=some c->c≠b
 bs:∀b o,X.base.get? b=some o->X.s₀.heap.get? b=some o/\X.H₀ b=none
 bsz:X.base.objs.size<=X.s₀.heap.objs.size
 noex:∀b o,X.base.get? b=some o->b∉X.ex
 exfs:∀b∈X.ex,b∉X.fs
 funs:X.s₀.heap.FunFrames X.base X.outer
 frf:∀b∈X.fs,X.H₀ b=none
structure Inv (X:Cx) (pz:List (Addr×Obj)) (σ:List (Option V)) (H:Hp) (s:Shared):Prop where
 ok:X.Ok
 os:s.os=X.s₀.os
 bare:AllBare s.gens
 base:Un X.fs X.ex X.H₀ H X.s₀.heap s.heap
 loc:∃m,s.heap.Ns X.env.locals m/\∀(i:Nat) (x:Str) (v:V),X.N[i]?=some x->σ[i]?=some (some v)->Vis X.env.scope x->∃u,RelV v u/\Ke X.env s.heap m x u
 cell:∀x c,X.env.cells.lookup x=some c->∃v,s.heap.IsCell c v
 free:H X.env.locals=none
 freeC:∀x c,X.env.cells.lookup x=some c->H c=none
 pin:∀p∈X.pn++pz,s.heap.get? p.1=some p.2/\H p.1=none/\p.1≠X.env.locals/\p.1∉X.fs/\∀v,p.2.data≠.cell v
 hok:HOk X.prog X.w H s.heap
 len:σ.length=X.N.length
section
variable{X:Cx}{pz:Kp}{σ:List (Option V)}{H H':Hp}{s:Shared}{h':Heap}
def Cx.Ok.nofr(ok:X.Ok){b:Addr}{o:Obj}(e:X.base.get? b=some o):b∉X.fs:=λh=>by
 have:=(ok.funs.mem h).1;rw[e]at this;cases this
def Inv.bs(I:Inv X pz σ H s):∀b o,X.base.get? b=some o->s.heap.get? b=some o/\H b=none:=λb o e=>
 ⟨I.base.keep b o (I.ok.bs b o e).1 (I.ok.bs b o e).2 (I.ok.nofr e) (I.ok.noex b o e),I.base.free b o (I.ok.bs b o e).1 (I.ok.bs b o e).2 (I.ok.noex b o e)⟩
def Inv.bk(I:Inv X pz σ H s):∀b o,X.base.get? b=some o->s.heap.get? b=some o:=λb o e=>(I.bs b o e).1
def Inv.mod(I:Inv X pz σ H s):Mod X.K X.mg X.base:=I.ok.mod
def Inv.kIn(I:Inv X pz σ H s):X.K.In s.heap:=I.ok.mod.kin.keeps I.bk
def Inv.lt(I:Inv X pz σ H s):X.env.locals<s.heap.objs.size:=let ⟨_,hn,_⟩:=I.loc;hn.lt
def Inv.sz(I:Inv X pz σ H s):X.s₀.heap.objs.size<=s.heap.objs.size:=YW I.ok.above (Zz I.lt)
def Inv.nofs(I:Inv X pz σ H s){a:Addr}(h:s.heap.objs.size<=a):a∉X.fs:=λe=>by
 obtain⟨_,o,b,_⟩:=I.ok.funs.mem e;exact absurd (Ys (YC b) (YW I.sz h)) (Zo _)
def Inv.cne(I:Inv X pz σ H s):∀x c,X.env.cells.lookup x=some c->c≠X.env.locals:=λx c e z=>by
 obtain⟨v,o,b,f⟩:=I.cell x c e;obtain⟨m,⟨g,i,j,h,a,_⟩,_⟩:=I.loc;rw[z,h]at b;cases b;rw[a]at f;cases f
def Inv.funs(I:Inv X pz σ H s):s.heap.FunFrames X.base X.outer:=by
 have all:∀(l:List Env),(∀b∈frs l,b∈X.fs)->X.s₀.heap.FunFrames X.base l->s.heap.FunFrames X.base l:=by
  intro l;induction l with
  |nil=>intro _ _;trivial
  |cons w r ih=>
   intro g p;obtain⟨q,⟨L,o,h,m,j,u⟩,i⟩:=p;have f:L∈X.fs:=g L (by unfold frs;rw[Vn,h];exact Yf);obtain⟨x,e⟩:=I.base.slot L o j (I.ok.frf L f) f λz=>I.ok.exfs L z f
   exact⟨q,⟨L,_,h,m,e,u⟩,ih (λb a=>g b (by unfold frs;rw[Vn,h];exact Ye _ a)) i⟩
 exact all X.outer (λ_ a=>a) I.ok.funs
def Inv.stack(I:Inv X pz σ H s):s.heap.FunFrames X.base X.stack:=by
 rcases I.ok.stk with e|⟨e,hf⟩
 ·rw[e];exact I.funs
 ·rw[e];obtain⟨m,h,_⟩:=I.loc;refine .cons (by rw[I.ok.kind];decide) hf h ?_ I.funs;exact Heap.get?_none_of_le (YW I.ok.bsz I.ok.above)
def Inv.stkSub(I:Inv X pz σ H s):∀b∈frs X.stack,b∈X.env.locals::X.fs:=λb h=>by
 rcases I.ok.stk with e|⟨e,hf⟩
 ·rw[e]at h;exact Ye _ h
 ·rw[e]at h;unfold frs at h;rw[Vn,hf]at h;exact h
def Inv.stkFree(I:Inv X pz σ H s):∀b∈frs X.stack,H b=none:=λb hb=>by
 rcases Yw.mp (I.stkSub b hb)with e|hb
 ·rw[e];exact I.free
 ·obtain⟨_,o,h,_⟩:=I.ok.funs.mem hb;exact I.base.free b o h (I.ok.frf b hb) λz=>I.ok.exfs b z hb
def Inv.step{g':Array GenState}{t':Nat}{d':Drawn}{ch:List Addr}(I:Inv X pz σ H s)
  (f:∀b∈ch,(b∈X.ex\/X.s₀.heap.objs.size<=b)/\b≠X.env.locals/\(∀x c,X.env.cells.lookup x=some c->c≠b)/\∀p∈X.pn++pz,p.1≠b)
  (keep:∀b o,b≠X.env.locals->b∉X.fs->b∉ch->s.heap.get? b=some o->H b=none->h'.get? b=some o)
  (slot:∀b o,b≠X.env.locals->b∈X.fs->b∉ch->s.heap.get? b=some o->H b=none->∃O,h'.get? b=some {o with slots:=O}) (free:∀b o,b∉ch->s.heap.get? b=some o->H b=none->H' b=none)
  (A:∀b o,b∉ch->s.heap.get? b=some o->∃o',h'.get? b=some o')
  (E:∀b xs,H b=some (.tup xs)->H' b=some (.tup xs)) (L:∀b o u,H b=some (.frz o u)->H' b=some (.frz o u)) (J:∀b ps,H b=some (.tbl ps)->∃more,H' b=some (.tbl (ps++more)))
  (ns:∀m,s.heap.Ns X.env.locals m->h'.Ns X.env.locals m) (P:HOk X.prog X.w H' h') (hg:AllBare g') :
  Inv X pz σ H' {s with heap:=h',gens:=g',drawn:=d',toks:=t' }:=by
 have K:∀b o,X.s₀.heap.get? b=some o->b≠X.env.locals:=λb o e=>YJ (Ys (YC e) I.ok.above)
 have j:∀b o,X.s₀.heap.get? b=some o->b∉X.ex->b∉ch:=λb o e h B=>by
  rcases(f b B).1 with z|z
  ·exact h z
  ·exact absurd (Ys (YC e) z) (Zo _)
 have g:∀x c,X.env.cells.lookup x=some c->∀v,s.heap.IsCell c v->h'.IsCell c v:=λx c e v Q=>by
  obtain⟨o,C,R⟩:=Q;have a:c∉ch:=λz=>(f c z).2.2.1 x c e rfl
  by_cases Y:c∈X.fs
  ·obtain⟨O,q⟩:=slot c o (I.cne x c e) Y a C (I.freeC x c e);exact⟨_,q,R⟩
  ·exact⟨o,keep c o (I.cne x c e) Y a C (I.freeC x c e),R⟩
 refine⟨I.ok,I.os,hg,⟨λb o e n B h=>?_,λb o e n B h=>?_,λb o e n h=>?_,λb o e h=>?_,λb xs e=>E b xs (I.base.tups b xs e),λb o xs e=>L b o xs (I.base.frzs b o xs e),λb ps e=>?_⟩,?_,λx c e=>?_,?_,λx c e=>?_,λp U=>?_,P,I.len⟩
 ·exact keep b o (K b o e) B (j b o e h) (I.base.keep b o e n B h) (I.base.free b o e n h)
 ·obtain⟨O,y⟩:=I.base.slot b o e n B h;obtain⟨N,M⟩:=slot b _ (K b o e) B (j b o e h) y (I.base.free b o e n h);exact⟨N,M⟩
 ·obtain⟨o',y⟩:=I.base.there b o e h;exact free b o' (j b o e h) y (I.base.free b o e n h)
 ·obtain⟨o',y⟩:=I.base.there b o e h;exact A b o' (j b o e h) y
 ·obtain⟨m1,y⟩:=I.base.tbls b ps e;obtain⟨Z,M⟩:=J b _ y;exact⟨m1++Z,by rw[M,Array.append_assoc]⟩
 ·obtain⟨m,hn,hl⟩:=I.loc;refine⟨m,ns m hn,λi x v y M e3=>?_⟩;obtain⟨u,r,l⟩:=hl i x v y M e3;refine⟨u,r,?_⟩;rcases l with l|⟨k,c,e,z⟩
  ·exact .inl l
  ·exact .inr ⟨k,c,e,g x c e _ z⟩
 ·obtain⟨v,z⟩:=I.cell x c e;exact⟨v,g x c e v z⟩
 ·obtain⟨m,⟨o,_,_,C,_⟩,_⟩:=I.loc;exact free _ o (λz=>(f _ z).2.1 rfl) C I.free
 ·obtain⟨v,o,C,R⟩:=I.cell x c e;exact free c o (λz=>(f c z).2.2.1 x c e rfl) C (I.freeC x c e)
 ·obtain⟨e,n,T,S,d⟩:=I.pin p U;have a:p.1∉ch:=λz=>(f p.1 z).2.2.2 p U rfl
  exact⟨keep p.1 p.2 T S a e n,free p.1 p.2 a e n,T,S,d⟩
def Inv.un{t':Nat}(I:Inv X pz σ H s)(u:Un X.fs [] H H' s.heap h')(a:HOk X.prog X.w H' h'):Inv X pz σ H' {s with heap:=h',toks:=t' }:=by
 obtain⟨m,⟨o,B,C,j,r⟩,_⟩:=id I.loc;obtain⟨x,q⟩:=u.any j I.free (by simp);exact I.step (g':=s.gens) (d':=s.drawn) (ch:=[]) (λ_ z=>nomatch z) (λb o _ f _ e n=>u.keep b o e n f (by simp)) (λb o _ f _ e n=>u.slot b o e n f (by simp)) (λb o _ e n=>u.free b o e n (by simp)) (λb o _ e=>u.there b o e (by simp)) u.tups u.frzs u.tbls (λA p=>by
  obtain⟨y,g,i,h,l⟩:=p;rw[j]at h;cases h;exact⟨_,g,i,q,l⟩) a I.bare
def Inv.call{g':Array GenState}{t':Nat}{d':Drawn}{ch:List Addr}(I:Inv X pz σ H s)(u:Un (frs X.stack) ch H H' s.heap h')(g:HOk X.prog X.w H' h')(B:AllBare g')
  (f:∀b∈ch,(b∈X.ex\/X.s₀.heap.objs.size<=b)/\b≠X.env.locals/\(∀x c,X.env.cells.lookup x=some c->c≠b)/\∀p∈X.pn++pz,p.1≠b) :
  Inv X pz σ H' {s with heap:=h',gens:=g',drawn:=d',toks:=t' }:=by
 obtain⟨m,⟨o,L,M,q,r⟩,_⟩:=id I.loc;obtain⟨E,i⟩:=u.any q I.free λz=>(f _ z).2.1 rfl
 exact I.step (ch:=ch) f (λb o i C h e n=>u.keep b o e n (λz=>(Yw.mp (I.stkSub b z)).elim i C) h) (λb o _ _ h e n=>u.any e n h) (λb o h e n=>u.free b o e n h) (λb o h e=>u.there b o e h) u.tups u.frzs u.tbls (λK A=>by
  obtain⟨J,j,l,a,y⟩:=A;rw[q]at a;cases a;exact⟨_,j,l,i,y⟩) g B
def Inv.turned{t':Nat}{it:Addr}(I:Inv X pz σ H s)(k:∀b o,b≠it->s.heap.get? b=some o->h'.get? b=some o)(i:H it=none)(f:it≠X.env.locals)
  (h1:it∈X.ex\/X.s₀.heap.objs.size<=it) (h2:∀x c,X.env.cells.lookup x=some c->c≠it) (w:∀p∈X.pn++pz,p.1≠it):Inv X pz σ H {s with heap:=h',toks:=t' }:=by
 have a:∀b u,H b=some u->b≠it:=λb u e z=>by rw[z,i]at e;cases e
 refine I.step (g':=s.gens) (d':=s.drawn) (ch:=[it]) (λb l=>?_) (λb o _ _ h e _=>k b o (λz=>h (by simp[z])) e) (λb o _ _ h e _=>⟨o.slots,k b o (λz=>h (by simp[z])) e⟩) (λ_ _ _ _ n=>n)
  (λb o h e=>⟨o,k b o (λz=>h (by simp[z])) e⟩) (λ_ _ e=>e) (λ_ _ _ e=>e) (λb B e=>⟨#[],by rw[e];simp⟩) (λm j=>?_) (λb u e=>?_) I.bare
 ·have e:b=it:=by simpa using l
  subst e;exact⟨h1,f,h2,w⟩
 ·obtain⟨o,y,A,g,r⟩:=j;exact⟨o,y,A,k _ o (ZX f) g,r⟩
 ·refine(I.hok b u e).stay (λc v h q=>k c v ?_ q) (λ_ q=>q) λ_ _ q=>q;rcases h with z|z
  ·rw[z];exact a b u e
  ·exact a c _ z
def Inv.tok(I:Inv X pz σ H s)(t:Nat):Inv X pz σ H {s with toks:=t}:=I.un (h':=s.heap) (t':=t) Un.refl I.hok
def Inv.kept{t':Nat}(I:Inv X pz σ H s)(k:∀b u,s.heap.get? b=some u->h'.get? b=some u):Inv X pz σ H {s with heap:=h',toks:=t' }:=I.un (Un.kept k) (I.hok.kept k)
def Inv.laid{a:Addr}{o:HO}{t':Nat}(I:Inv X pz σ H s)(k:∀b u,s.heap.get? b=some u->h'.get? b=some u)(h:s.heap.objs.size<=a)(new:ObjOk X.prog X.w (upd H a o) h' a o) :
  Inv X pz σ (upd H a o) {s with heap:=h',toks:=t' }:=I.un (Un.laid k h (I.hok.fresh h)) (I.hok.laid k h new)
def Inv.write{x e:Addr}{o:HO}{t':Nat}(I:Inv X pz σ H s)(m:Mut (H x))(he:e=x\/H e=some (.own x))(k:∀b u,b≠e->s.heap.get? b=some u->h'.get? b=some u)(h:∃u,h'.get? e=some u)
  (new:ObjOk X.prog X.w (upd H x o) h' x o):Inv X pz σ (upd H x o) {s with heap:=h',toks:=t' }:=I.un (Un.write m he k h) (I.hok.write m he k h new)
def Inv.weak{a:List (Option V)}(I:Inv X pz σ H s)(h:a.length=σ.length)(w:∀(i:Nat) v,a[i]?=some (some v)->σ[i]?=some (some v)):Inv X pz a H s:=
 ⟨I.ok,I.os,I.bare,I.base,let ⟨m,hn,hl'⟩:=I.loc;⟨m,hn,λi x v f b e=>hl' i x v f (w i v b) e⟩,I.cell,I.free,I.freeC,I.pin,I.hok,h.trans I.len⟩
def Inv.pins_of{a:Kp}(I:Inv X pz σ H s)(h:∀p∈a,s.heap.get? p.1=some p.2/\H p.1=none/\p.1≠X.env.locals/\p.1∉X.fs/\∀v,p.2.data≠.cell v):Inv X a σ H s:=
 ⟨I.ok,I.os,I.bare,I.base,I.loc,I.cell,I.free,I.freeC,λp b=>(Yj.mp b).elim (λz=>I.pin p (XA _ z)) (h p),I.hok,I.len⟩
def kY{N:List Str}(hN:N.Nodup){i j:Nat}{x:Str}(a:N[i]?=some x)(b:N[j]?=some x):i=j:=by obtain⟨g,f⟩:=YM.mp a;obtain⟨h,e⟩:=YM.mp b;exact(List.getElem_inj hN).mp (f.trans e.symm)
abbrev FnL(X:Cx)(x:Str):Prop:=X.fn x=true\/X.env.scope.names.lookup x=some .local
def za{M:Model}{A:Around}{E:Kv}{i:Nat}{x:Str}{v:V}{u:Value}{Q:Unit->Shared->Prop}(I:Inv X pz σ H s)(hN:X.N.Nodup)(hi:X.N[i]?=some x)(hx:Loc X.env.scope x)(r:RelV v u)
  (h:∀s',Inv X pz (σ.set i (some v)) H s'->(∃a,Heap.SameBut a s.heap s'.heap/\(a=X.env.locals\/X.env.cells.lookup x=some a))->Q () s') (hf:FnL X x:=by first|exact .inl rfl|exact .inr rfl|assumption):wpAny M A (storeName X.env x u) Q E s:=by
 obtain⟨m,hn,hl⟩:=id I.loc;have T:(X.env.scope.kind == .class||(X.env.scope.kind == .module&&X.env.locals != X.env.globals))=false:=by rw[I.ok.kind];rfl
 have J:i<σ.length:=by rw[I.len];exact(YM.mp hi).1
 have cne:=I.cne;have g:∀{a:Addr}{P:Heap},(∃o,s.heap.get? a=some o/\H a=none)->Heap.SameBut a s.heap P->HOk X.prog X.w H P:=λ{a P} ha f b ob e=>by
  obtain⟨_,_,B⟩:=ha;refine(I.hok b ob e).stay (λc Z hc q=>(f.2 c ?_).trans q) (λ_ q=>q) λ_ _ q=>q;rintro rfl;rcases hc with rfl|hc
  ·rw[B]at e;cases e
  ·rw[B]at hc;cases hc
 rcases hx with hk|hk
 ·refine wpAny_storeName_local hk hn (λP hn' f=>?_) T;obtain⟨oL,_,_,hoL,_⟩:=id hn;refine h _ ⟨I.ok,I.os,I.bare,⟨λb o e n O hx=>?_,λb o e n O hx=>?_,I.base.free,λb o e hx=>?_,I.base.tups,I.base.frzs,I.base.tbls⟩,⟨_,hn',λj y v' l C e3=>?_⟩,λy c e=>?_,I.free,I.freeC,λp hp=>?_,g ⟨oL,hoL,I.free⟩ f,by simpa using I.len⟩ ⟨_,f,.inl rfl⟩
  ·exact(f.2 b (YJ (Ys (YC e) I.ok.above))).trans (I.base.keep b o e n O hx)
  ·obtain⟨sl,l⟩:=I.base.slot b o e n O hx;exact⟨sl,(f.2 b (YJ (Ys (YC e) I.ok.above))).trans l⟩
  ·obtain⟨o',l⟩:=I.base.there b o e hx;exact⟨o',(f.2 b (YJ (Ys (YC e) I.ok.above))).trans l⟩
  ·by_cases K:j=i
   ·subst K;rw[hi]at l;cases l;rw[Zp J]at C;cases C;exact⟨u,r,.inl ⟨hk,by simp⟩⟩
   ·rw[YR (ZX K)]at C;obtain⟨u',r',q⟩:=hl j y v' l C e3;refine⟨u',r',?_⟩;rcases q with⟨k,e⟩|⟨k,c,e,z⟩
    ·refine .inl ⟨k,?_⟩;have:y≠x:=λe=>K (kY hN l (e ▸ hi))
     simp[this,e]
    ·exact .inr ⟨k,c,e,z.sameBut f (cne y c e)⟩
  ·obtain⟨Z,z⟩:=I.cell y c e;exact⟨Z,z.sameBut f (cne y c e)⟩
  ·obtain⟨e,n,ne,nf,d⟩:=I.pin p hp;exact⟨(f.2 p.1 ne).trans e,n,ne,nf,d⟩
 ·have L:X.fn x=true:=by
   rcases hf with z|z
   ·exact z
   ·rw[z]at hk;cases hk
  obtain⟨c,hc⟩:=I.ok.has x (.inl hk);obtain⟨Z,z⟩:=I.cell x c hc;refine wpAny_storeName_cell I.ok.kind hk hc z (λP Y f=>?_);obtain⟨oc,S,R⟩:=id z;refine h {s with heap:=P } ⟨I.ok,I.os,I.bare,⟨λb o e n O hx=>?_,λb o e n O hx=>?_,I.base.free,λb o e hx=>?_,I.base.tups,I.base.frzs,I.base.tbls⟩,⟨m,hn.sameBut f (ZX (cne x c hc)),λj y v' l C e3=>?_⟩,λy c' e=>?_,I.free,I.freeC,λp hp=>?_,g ⟨oc,S,I.freeC x c hc⟩ f,by simpa using I.len⟩ ⟨c,f,.inr hc⟩
  ·exact(f.2 b (YJ (Ys (YC e) (I.ok.cab x c L hc)))).trans (I.base.keep b o e n O hx)
  ·obtain⟨sl,l⟩:=I.base.slot b o e n O hx;exact⟨sl,(f.2 b (YJ (Ys (YC e) (I.ok.cab x c L hc)))).trans l⟩
  ·obtain⟨o',l⟩:=I.base.there b o e hx;exact⟨o',(f.2 b (YJ (Ys (YC e) (I.ok.cab x c L hc)))).trans l⟩
  ·by_cases K:j=i
   ·subst K;rw[hi]at l;cases l;rw[Zp J]at C;cases C;exact⟨u,r,.inr ⟨.inl hk,c,hc,Y⟩⟩
   ·rw[YR (ZX K)]at C;obtain⟨u',r',q⟩:=hl j y v' l C e3;refine⟨u',r',?_⟩;rcases q with q|⟨k,c',e,z'⟩
    ·exact .inl q
    ·refine .inr ⟨k,c',e,z'.sameBut f ?_⟩;rintro rfl;exact K (kY hN l (I.ok.inj _ _ _ e hc ▸ hi))
  ·by_cases U:c'=c
   ·subst U;exact⟨_,Y⟩
   ·obtain⟨w2,z2⟩:=I.cell y c' e;exact⟨w2,z2.sameBut f U⟩
  ·obtain⟨e,n,ne,nf,d⟩:=I.pin p hp;refine⟨(f.2 p.1 ?_).trans e,n,ne,nf,d⟩;intro q;rw[q,S]at e;have q':oc=p.2:=Yv e;exact d Z (by rw[<-q'];exact R)
def nj{M:Model}{A:Around}{E:Kv}{i:Nat}{x:Str}{v:V}{u:Value}{Q:Unit->Shared->Prop}(I:Inv X pz σ H s)(hN:X.N.Nodup)(hi:X.N[i]?=some x)(hx:Loc X.env.scope x)(r:RelV v u)
  (h:∀s',Inv X pz (σ.set i (some v)) H s'->Q () s') (a:FnL X x:=by first|exact .inl rfl|exact .inr rfl|assumption):wpAny M A (storeName X.env x u) Q E s:=
 za I hN hi hx r (λs' b _=>h s' b) a
def Inv.call'{s':Shared}{ch:List Addr}(I:Inv X pz σ H s)(f:s'.os=s.os)(u:Un (frs X.stack) ch H H' s.heap s'.heap)(h:HOk X.prog X.w H' s'.heap)(g:AllBare s'.gens)
  (a:∀b∈ch,(b∈X.ex\/X.s₀.heap.objs.size<=b)/\b≠X.env.locals/\(∀x c,X.env.cells.lookup x=some c->c≠b)/\∀p∈X.pn++pz,p.1≠b):Inv X pz σ H' s':=by
 obtain⟨i,g',d',t',o⟩:=s';have e:o=s.os:=f;subst e;exact I.call (g':=g') (t':=t') (d':=d') u h g a
end
abbrev XK:=Value->Option Addr->Hp->Prop
abbrev St:=List (Option V)
abbrev VK:=V->Hp->Prop
abbrev TE:=St->Hp->VK->Prop
abbrev TT:=St->Hp->(Bool->Hp->Prop)->Prop
abbrev TA:=St->Hp->(List V->Hp->Prop)->Prop
structure Ends where
 nx:St->Hp->Prop
 rt:VK
 bk:St->Hp->Prop:=λ_ _=>False
 ct:St->Hp->Prop:=λ_ _=>False
abbrev TS:=Ends->St->Hp->Prop
def EP(X:Cx)(pz:Kp)(σ:St)(Q:VK)(u:Value)(s':Shared):Prop:=∃v H,Inv X pz σ H s'/\RelV v u/\Q v H
def TP(X:Cx)(pz:Kp)(σ:St)(Q:Bool->Hp->Prop)(b:Bool)(s':Shared):Prop:=∃H,Inv X pz σ H s'/\Q b H
def AP(X:Cx)(pz:Kp)(σ:St)(Q:List V->Hp->Prop)(us:List Value)(s':Shared):Prop:=∃a H,Inv X pz σ H s'/\Vals a us/\Q a H
def SP(X:Cx)(pz:Kp)(D:Ends)(f:Flow)(s':Shared):Prop:=
 match f with
 |.next=>∃a H,Inv X pz a H s'/\D.nx a H
 |.brk=>∃a H,Inv X pz a H s'/\D.bk a H
 |.cont=>∃a H,Inv X pz a H s'/\D.ct a H
 |.ret u=>∃v a H,Inv X pz a H s'/\RelV v u/\D.rt v H
def PE(X:Cx)(e:Expr)(t:TE):Prop:=
 ∀(p:Kp) (s:Shared) (a:St) (H:Hp) (Q:VK),Inv X p a H s->t a H Q->wpAny (model X.prog X.w) X.A (eval e X.env) (EP X p a Q) X.xe s
def PT(X:Cx)(e:Expr)(t:TT):Prop:=
 ∀(p:Kp) (s:Shared) (a:St) (H:Hp) (Q:Bool->Hp->Prop),Inv X p a H s->t a H Q->wpAny (model X.prog X.w) X.A (isTrue e X.env (eval e X.env)) (TP X p a Q) X.xe s
def PW(X:Cx)(e:Expr)(t:TT):Prop:=
 ∀(a:Sem Value) (p:Kp) (s:Shared) (b:St) (H:Hp) (Q:Bool->Hp->Prop),Inv X p b H s->t b H Q->wpAny (model X.prog X.w) X.A (isTrue e X.env a) (TP X p b Q) X.xe s
def PW.pt{X:Cx}{e:Expr}{t:TT}(h:PW X e t):PT X e t:=h _
def PA(X:Cx)(es:List Expr)(t:TA):Prop:=
 ∀(p:Pos) (b:Kp) (s:Shared) (a:St) (H:Hp) (Q:List V->Hp->Prop),Inv X b a H s->t a H Q->wpAny (model X.prog X.w) X.A (spliced (backTo p (starEach es X.env))) (AP X b a Q) X.xe s
def PS(X:Cx)(st:Stmt)(t:TS):Prop:=
 ∀(p:Kp) (s:Shared) (a:St) (H:Hp) (D:Ends),Inv X p a H s->t D a H->wpAny (model X.prog X.w) X.A (exec st X.env) (SP X p D) X.xe s
def PSs(X:Cx)(st:List Stmt)(t:TS):Prop:=
 ∀(p:Kp) (s:Shared) (a:St) (H:Hp) (D:Ends),Inv X p a H s->t D a H->wpAny (model X.prog X.w) X.A (execs st X.env) (SP X p D) X.xe s
def thn{α:Type}{t:Sem α}{Q b:α->Shared->Prop}{M:Model}{A:Around}{E:Kv}{s:Shared}(h:wpAny M A t Q E s)(e:∀a s,Q a s->b a s):wpAny M A t b E s:=ZC h e λ_ _ x=>x
def a9{α e:Type}{X:Cx}{pz:Kp}{σ:St}{t:Sem e}{R:α->e->Prop}{Q:α->Hp->Prop}{T:e->Shared->Prop}{M:Model}{A:Around}{E:Kv}{s:Shared}
  (h:wpAny M A t (λu s1=>∃x H1,Inv X pz σ H1 s1/\R x u/\Q x H1) E s) (k:∀u s1 x H1,Inv X pz σ H1 s1->R x u->Q x H1->T u s1):wpAny M A t T E s:=
 thn h λu s1 z=>by obtain⟨x,H1,a,b,c⟩:=z;exact k u s1 x H1 a b c
def un7{g f e α:Type}{B A Z:g->f->e->α->Prop}{C:Prop}(k:∀P F ρ d,B P F ρ d->A P F ρ d->Z P F ρ d->C)(h:∃P F ρ d,B P F ρ d/\A P F ρ d/\Z P F ρ d):C:=by obtain⟨P,F,ρ,d,a,b,c⟩:=h;exact k P F ρ d a b c
end L2
open PySem L2
variable{H P H' F':Hp}{X:Cx}{K:PySem.W.Frag}{s s':Shared}{σ:L2.St}{pos apos pos' p tpos cpos:Pos}{pz:List (Addr×Obj)}{a C f dx l:Addr}{A:Around}{E Q:Value->Shared->Prop}{w:World}{e o tg b iter value elt:Expr}{x name m qual:Str}{u:Value}{i j t':Nat}{es ifs:List Expr}{ta te tb tv td to:TE}{y:V}{xs vs ys:List V}{us its:List Value}{prog q:Program}{h base h':Heap}{scope:Scope}{CX:CXT}{ps N loose:List Str}{fd:FuncData}{sp:Sp}{env:Env}{mg mA:Str->Option Value}{st:Stmt}{body:List Stmt}{fp:List Addr}{tc:TT}{ix:List Nat}{kw:List (Str×Value)}{XP:(Str->Option Value)->Heap->Prop}{YP:World->Heap->Prop}{cs:List (Str×Addr)}{ow':Addr->Prop}
namespace L2
open PySem PySem.Spec PyProof.Rows
section
def cB(i:Nat):TE:=λσ H Q=>∃v,σ[i]?=some (some v)/\Q v H
def tC(v:V):TE:=λ_ H Q=>Q v H
abbrev nDb(x:Str):Prop:=(x == ("__debug__":Str))=false
abbrev nDc(x:Str):Prop:=(x == ("__classdict__":Str))=false
def zN(hN:X.N[i]?=some x)(hv:Vis X.env.scope x)(hd:nDb x:=by decide)(hcd:nDc x:=by decide):PE X (.Name x pos) (cB i):=by
 intro p s f H Q I h;obtain⟨v,e,h⟩:=h;obtain⟨m,g,o⟩:=I.loc;obtain⟨u,r,l⟩:=o i x v hN e hv;have fin:EP X p f Q u s:=⟨v,H,I,r,h⟩
 rcases l with⟨hk,j⟩|⟨hk,c,b,a⟩
 ·exact XW (ZM I.ok.kind hk g j fin) hd
 ·rcases hk with hk|hk
  ·exact XW (wpAny_loadName_cell I.ok.kind hk b a fin) hd
  ·exact XW (wpAny_loadName_free I.ok.kind hk b a fin hcd) hd
def Bb{i j pos}:PE X (.Constant (.int i) j pos) (tC (.int i)):=λ_ _ _ H _ I h=>XM ⟨.int i,H,I.tok _,⟨_,rfl⟩,h⟩
def Ig{b j pos}:PE X (.Constant (.bool b) j pos) (tC (.bl b)):=λ_ _ _ H _ I h=>Constant_bool ⟨.bl b,H,I,rfl,h⟩
def Gm{j pos}:PE X (.Constant .none j pos) (tC .non):=λ_ _ _ H _ I h=>Constant_none ⟨.non,H,I,rfl,h⟩
def dI{x j pos}:PE X (.Constant (.str x) j pos) (tC (.str x)):=λ_ _ _ H _ I h=>Calls.Constant_str ⟨.str x,H,I.tok _,⟨_,rfl⟩,h⟩
def Gl(X:Cx)(x:Str):Prop:=X.env.kindOf x=some .globalImplicit
def fJ(I:Inv X pz σ H s)(b:Gl X x)(a:X.mg x=some u)(h:Q u s)
  (hd:nDb x:=by decide):wpAny (model X.prog X.w) X.A (eval (.Name x pos) X.env) Q E s:=
 Calls.Name_function_global I.ok.kind b (Calls.loadGlobal_global (by rw[I.ok.glob];exact I.mod.glob.keeps I.bk) a h) hd
def qK(I:Inv X pz σ H s)(e:Gl X x)(b:X.mg x=none)(hv:bootBuiltins x=some u)(h:Q u s)
  (a:x ≠ "__name__":=by decide) (hd:nDb x:=by decide):wpAny (model X.prog X.w) X.A (eval (.Name x pos) X.env) Q E s:=by
 obtain⟨m,g,f⟩:=I.mod.blt;exact Calls.Name_function_global I.ok.kind e (Calls.loadGlobal_builtin (by rw[I.ok.glob];exact I.mod.glob.keeps I.bk) b (by rw[I.ok.blt];exact g.keeps I.bk) ((f x a).trans hv) h) hd
def mV{v:V}(b:Gl X x)(a:X.mg x=some u)(r:RelV v u)(hd:nDb x:=by decide):PE X (.Name x pos) (tC v):=
 λ_ _ _ H _ I h=>fJ I b a ⟨v,H,I,r,h⟩ hd
def wC{v:V}(e:Gl X x)(b:X.mg x=none)(hv:bootBuiltins x=some u)(r:RelV v u)(a:x ≠ "__name__":=by decide)(hd:nDb x:=by decide):PE X (.Name x pos) (tC v):=
 λ_ _ _ H _ I h=>qK I e b hv ⟨v,H,I,r,h⟩ a hd
variable{a:Expr}  
def PC(X:Cx)(op:CmpOp)(a b:Expr)(t:TE):Prop:=
 ∀(p:Kp) (s:Shared) (g:St) (H:Hp) (Q:VK),Inv X p g H s->t g H Q->
  wpAny (model X.prog X.w) X.A (eval a X.env) (λv f=>wpAny (model X.prog X.w) X.A (eval b X.env) (λu e=>wpAny (model X.prog X.w) X.A (compareOp op v u) (EP X p g Q) X.xe e) X.xe f) X.xe s
def kf(b:Expr){op:CmpOp}(h:op≠.In)(h2:op≠.NotIn):behindInMarks op b=false:=by
 have a:(op == CmpOp.In)=false:=by cases op<;>first|rfl|exact absurd rfl h
 have e:(op == CmpOp.NotIn)=false:=by cases op<;>first|rfl|exact absurd rfl h2
 cases b<;>simp[behindInMarks,a,e]
instance (x:V):Decidable (x=.non):=by cases x<;>first|exact .isTrue rfl|exact .isFalse nofun
def tB(t:TE):TT:=λa H Q=>t a H λx b=>∃c,x=.bl c/\Q c b
def uW{op:CmpOp}{t:TE}(h:PC X op a b t)(h1:behindInMarks op b=false:=by first|exact kf _ (by decide) (by decide)|rfl):PT X (.Compare a [op] [b] pos) (tB t):=by intro p s f H Q I j;refine Xm (thn (h p s f H _ I j) λv z h1=>thn h1 λu y l=>thn l λc w e=>?_) h1;obtain⟨x,o,m,g,i⟩:=e;obtain⟨d,rfl,q⟩:=i;cases g;exact Ze ⟨o,m,q⟩
def Bc{t:TE}(h:PE X e t)(he:∀w,isTrue e X.env w=(do let v <-w;standAt e.pos;holding [v] (truthy v)):=by intro _;rfl):PT X e (tB t):=by intro p s a H Q I g;refine isTrue_plain (a9 (h p s a H _ I g) λv l x j i b f=>?_) (he _);obtain⟨d,rfl,q⟩:=f;cases b;exact Ze ⟨j,i,q⟩
variable{tA tB':TT}{aL:List Expr}
def Kz(t u:TT):TT:=λa H Q=>t a H λc b=>if c=true then u a b Q else Q false b
def tOr(t u:TT):TT:=λa H Q=>t a H λc b=>if c=true then Q true b else u a b Q
def Kg(t:TT):TT:=λσ H Q=>t σ H λc H1=>Q (!c) H1
def Es(f:PT X a tA):PW X (.BoolOp .And [a] pos) tA:=by
 intro w p s b H Q I h;refine isTrue_and (thn (f p s b H Q I h) λc g e=>?_);cases c with
 |true=>exact isTrue_and_nil e
 |false=>exact e
def BB(f:PT X a tA):PW X (.BoolOp .Or [a] pos) tA:=by
 intro w p s b H Q I h;refine isTrue_or (thn (f p s b H Q I h) λc g e=>?_);cases c with
 |false=>exact isTrue_or_nil e
 |true=>exact e
def GB(m:PT X a tA)(l:PW X (.BoolOp .And (b::aL) pos) tB'):PW X (.BoolOp .And (a::b::aL) pos) (Kz tA tB'):=by
 intro w p s f H Q I h;refine isTrue_and (thn (m p s f H _ I h) λc j e=>?_);obtain⟨i,g,q⟩:=e;cases c with
 |true=>exact l w p j f i Q g q
 |false=>exact⟨i,g,q⟩
def E3(m:PT X a tA)(l:PW X (.BoolOp .Or (b::aL) pos) tB'):PW X (.BoolOp .Or (a::b::aL) pos) (tOr tA tB'):=by
 intro w p s f H Q I h;refine isTrue_or (thn (m p s f H _ I h) λc j e=>?_);obtain⟨i,g,q⟩:=e;cases c with
 |true=>exact⟨i,g,q⟩
 |false=>exact l w p j f i Q g q
def AB(e:PT X a tA):PT X (.UnaryOp .Not a pos) (Kg tA):=by intro p s b H Q I h;exact isTrue_not (e p s b H (λc f=>Q (!c) f) I h)
def IC(ta tb:TE):TE:=λa H Q=>ta a H λx b=>∃c,x=.bl c/\if c=true then tb a b Q else Q (.bl false) b
def Kn(ta tb:TE):TE:=λa H Q=>ta a H λx b=>∃c,x=.bl c/\if c=true then Q (.bl true) b else tb a b Q
def Je(ta:TE):TE:=λa H Q=>ta a H λx b=>∃c,x=.bl c/\Q (.bl (!c)) b
def Hg{op}{t:TE}(h:PE X a t):PE X (.BoolOp op [a] pos) t:=λp s b H Q I e=>BoolOp_one (h p s b H Q I e)
def Hv(m:PE X a ta)(l:PE X (.BoolOp .And (b::aL) pos) tb):PE X (.BoolOp .And (a::b::aL) pos) (IC ta tb):=by
 intro p s e H Q I h;refine BoolOp_and (a9 (m p s e H _ I h) λv i x g f j q=>?_);obtain⟨c,rfl,q⟩:=q;cases j;refine Ze ?_;cases c with
 |true=>exact l p i e g Q f q
 |false=>exact⟨.bl false,g,f,rfl,q⟩
def IG(m:PE X a ta)(l:PE X (.BoolOp .Or (b::aL) pos) tb):PE X (.BoolOp .Or (a::b::aL) pos) (Kn ta tb):=by
 intro p s e H Q I h;refine BoolOp_or (a9 (m p s e H _ I h) λv i x g f j q=>?_);obtain⟨c,rfl,q⟩:=q;cases j;refine Ze ?_;cases c with
 |false=>exact l p i e g Q f q
 |true=>exact⟨.bl true,g,f,rfl,q⟩
def GU(f:PE X a ta):PE X (.UnaryOp .Not a pos) (Je ta):=by intro p s b H Q I h;refine UnaryOp_ (a9 (f p s b H _ I h) λv j x i g e q=>?_);obtain⟨c,rfl,q⟩:=q;cases e;exact not_of (Ze ⟨.bl (!c),i,g,rfl,q⟩)
def tIf(t:TT)(ta tb:TE):TE:=λa H Q=>t a H λc b=>if c=true then ta a b Q else tb a b Q
def Bs{c:Expr}(l:PT X c tA)(o:PE X a ta)(m:PE X b tb):PE X (.IfExp c a b pos) (tIf tA ta tb):=by
 intro p s e H Q I h;refine wpAny_IfExp (thn (l p s e H _ I h) λd g f=>?_);obtain⟨j,i,q⟩:=f;cases d with
 |true=>exact o p g e j Q i q
 |false=>exact m p g e j Q i q
end
def SqL(K:Kq)(H:Hp)(a:Addr)(xs:List V):Prop:=
 Rd H a (.lst xs) \/
  ∃(o:Obj) (i:Array Value) (n:Nat),K.lookup a=some o/\o.cls=.type "list"/\o.dict=none/\o.data=.seq i n/\i.size<=sizeLine/\Vals xs i.toList
def SqT(K:Kq)(H:Hp)(a:Addr)(xs:List V):Prop:=
 Rd H a (.tup xs) \/
  ∃(o:Obj) (i:Array Value) (n:Nat),K.lookup a=some o/\o.cls=.type "tuple"/\o.data=.seq i n/\i.size<=sizeLine/\Vals xs i.toList
noncomputable def Kx:Value->Option V
 |.none=>some .non
 |.bool b=>some (.bl b)
 |.int i _=>some (.int i)
 |.str x _=>some (.str x)
 |.bytes b _=>some (.byt b)
 |.float b _=>some (.flt b)
 |.ref a=>some (.ref a)
 |.type n=>some (.ty n)
 |_=>none
def RelV.abs{x:V}(r:RelV x u):Kx u=some x:=by
 cases x with
 |non=>cases r;rfl
 |bl _=>cases r;rfl
 |int _=>obtain⟨t,rfl⟩:=r;rfl
 |str _=>obtain⟨t,rfl⟩:=r;rfl
 |byt _=>obtain⟨t,rfl⟩:=r;rfl
 |flt _=>obtain⟨t,rfl⟩:=r;rfl
 |ref _=>cases r;rfl
 |ty _=>cases r;rfl
def RelV.inj{x:V}(r:RelV x u)(q:RelV y u):x=y:=Yv (r.abs.symm.trans q.abs)
def Vals.inj(h:Vals xs us):Vals ys us->xs=ys:=by
 induction h generalizing ys with
 |nil=>intro q;cases q;rfl
 |cons r _ ih=>
  intro q;cases q with
  |cons b a=>rw[r.inj b,ih a]
def SqL.of(h:H a=some (.lst xs)):SqL K H a xs:=.inl (.inl h)
def SqT.of(h:H a=some (.tup xs)):SqT K H a xs:=.inl (.inl h)
theorem Inv.list(I:Inv X pz σ H s)(h:SqL X.K H a xs):∃its:List Value,Vals xs its/\PlainL s.heap a its.toArray/\xs.length<=sizeLine:=by
 rcases h with h|⟨o,its,n,hk,hc,hd,hs,hz,r⟩
 ·obtain⟨z,its,n,r,e⟩:=h.ok I.hok;exact⟨its,r,⟨_,n,e,rfl,rfl,rfl⟩,z⟩
 ·refine⟨its.toList,r,⟨o,n,I.kIn a o hk,hc,hd,by simpa using hs⟩,?_⟩;have e:=r.length;simp only[ZD]at e;omega
def Inv.tuple(I:Inv X pz σ H s)(h:SqT X.K H a xs):∃its:List Value,Vals xs its/\IsTup s.heap a its.toArray/\xs.length<=sizeLine:=by
 rcases h with h|⟨o,its,n,hk,hc,hs,hz,r⟩
 ·obtain⟨z,its,r,p,_⟩:=h.ok I.hok;exact⟨its,r,p,z⟩
 ·refine⟨its.toList,r,⟨o,I.kIn a o hk,hc,n,by simpa using hs⟩,?_⟩;have e:=r.length;simp only[ZD]at e;omega
def Inv.list_inj(I:Inv X pz σ H s)(h:SqL X.K H a xs)(h':SqL X.K H a ys):xs=ys:=by
 obtain⟨b,r,⟨o,n,e,_,_,d⟩,_⟩:=I.list h;obtain⟨i,j,⟨l,m,f,_,_,g⟩,_⟩:=I.list h';rw[e]at f;cases f;rw[d]at g;injection g with d1 _;have:b=i:=by simpa using YH Array.toList d1
 subst this;exact r.inj j
noncomputable abbrev Cx.wish(X:Cx)(E:Kv):Cx:={X with xe:=E}
noncomputable abbrev Cx.nox(X:Cx):Cx:=X.wish λ_ _=>False
def Cx.Ok.wish(ok:X.Ok)(E:Kv):(X.wish E).Ok:=
 ⟨ok.mod,ok.kind,ok.glob,ok.blt,ok.above,ok.inj,ok.has,ok.cab,ok.hd,ok.frames,ok.stk,ok.exf,ok.bs,ok.bsz,ok.noex,ok.exfs,ok.funs,ok.frf⟩
def Cx.Ok.unwish(ok:(X.wish E).Ok):X.Ok:=
 ⟨ok.mod,ok.kind,ok.glob,ok.blt,ok.above,ok.inj,ok.has,ok.cab,ok.hd,ok.frames,ok.stk,ok.exf,ok.bs,ok.bsz,ok.noex,ok.exfs,ok.funs,ok.frf⟩
def Inv.wish(I:Inv X pz σ H s)(E:Kv):Inv (X.wish E) pz σ H s:=⟨I.ok.wish E,I.os,I.bare,I.base,I.loc,I.cell,I.free,I.freeC,I.pin,I.hok,I.len⟩
def Inv.unwish(I:Inv (X.wish E) pz σ H s):Inv X pz σ H s:=⟨I.ok.unwish,I.os,I.bare,I.base,I.loc,I.cell,I.free,I.freeC,I.pin,I.hok,I.len⟩
def SP.unwish{D:Ends}{f:Flow}(h:SP (X.wish E) pz D f s'):SP X pz D f s':=by
 cases f with
 |next=>obtain⟨a,H,I,q⟩:=h;exact⟨a,H,I.unwish,q⟩
 |brk=>obtain⟨a,H,I,q⟩:=h;exact⟨a,H,I.unwish,q⟩
 |cont=>obtain⟨a,H,I,q⟩:=h;exact⟨a,H,I.unwish,q⟩
 |ret u=>obtain⟨v,a,H,I,r,q⟩:=h;exact⟨v,a,H,I.unwish,r,q⟩
def PSs.nox{st:List Stmt}{t:TS}(h:PSs X.nox st t):PSs X st t:=λp s a H D I b=>
 ZC (h p s a H D (I.wish _) b) (λ_ _ q=>q.unwish) λ_ _ z=>False.elim z
section
variable   {aL:List Stmt}{t u:TS}   
def HZ:TS:=λD σ H=>D.nx σ H
def JM(t u:TS):TS:=λD σ H=>t {D with nx:=u D} σ H
def v_:PSs X [] HZ:=λ_ _ σ H _ I h=>XN ⟨σ,H,I,h⟩
def uO(h1:PS X st t)(h2:PSs X aL u):PSs X (st::aL) (JM t u):=by
 intro p s b H D I h;refine Xe<|thn (h1 p s b H {D with nx:=u D} I h) λf e q=>?_;cases f with
 |next=>
  obtain⟨a,i,g,q⟩:=q;exact h2 p e a i D g q
 |ret v=>exact q
 |brk=>exact q
 |cont=>exact q
def sJ(h1:PS X st t):PSs X [st] t:=by
 intro p s a H D I h;refine Xe<|thn (h1 p s a H D I h) λf b q=>?_;cases f with
 |next=>exact XN q
 |ret v=>exact q
 |brk=>exact q
 |cont=>exact q
def Inv.quiet(I:Inv X pz σ H s):interactive X.env=false:=by simp[interactive,I.ok.kind]
def Ja(te:TE):TS:=λD σ H=>te σ H λ_ H1=>D.nx σ H1
def dB(he:PE X e te)(b:swapsWith e none pos.line X.env=pure false:=by rfl):PS X (.Expr e pos) (Ja te):=by intro p s a H D I h;exact wpAny_Expr_any (a9 (he p s a H _ I h) λv i x g f j q=>⟨a,g,f,q⟩) I.quiet b
def JY(te:TE):TS:=λD σ H=>te σ H D.rt
def oY(he:PE X e te):PS X (.Return (some e) pos) (JY te):=by intro p s a H D I h;exact wpAny_Return_some<|a9 (he p s a H _ I h) λv i x g f b q=>⟨x,a,g,f,b,q⟩
def JH(c:TT)(t u:TS):TS:=λD a H=>c a H λb e=>if b=true then t D a e else u D a e
def Cc{a b}(l:PT X c tc)(o:PSs X a t)(m:PSs X b u):PS X (.If c a b pos) (JH tc t u):=by
 intro p s e H D I h;refine wpAny_If<|thn (l p s e H _ I h) λd g f=>?_;obtain⟨j,i,q⟩:=f;cases d with
 |true=>exact o p g e j D i q
 |false=>exact m p g e j D i q
def Gv:TS:=λ_ _ _=>False
def Ah:PS X st Gv:=λ_ _ _ _ _ _ h=>h.elim
end
abbrev TG:=V->St->Hp->(St->Hp->Prop)->Prop
abbrev TGs:=List V->St->Hp->(St->Hp->Prop)->Prop
def PG(X:Cx)(a:Expr)(t:TG):Prop:=
 ∀(p:Kp) s (e:St) H v u Q,Inv X p e H s->RelV v u->t v e H Q->
  wpAny (model X.prog X.w) X.A (assign a X.env u) (λ_ g=>∃b f,Inv X p b f g/\Q b f) X.xe s
def PGs(X:Cx)(g:List Expr)(t:TGs):Prop:=
 ∀(p:Kp) s (b:St) H e u Q,Inv X p b H s->Vals e u->t e b H Q->
  wpAny (model X.prog X.w) X.A (assignInOrder ((assignEach g X.env).map (·.2)) u) (λ_ h=>∃a f,Inv X p a f h/\Q a f) X.xe s
abbrev GI:=V->V->V->Hp->(Hp->Prop)->Prop
def Hy(X:Cx)(t:GI):Prop:=
 ∀(p:Kp) s (a:St) H o i v b e u Q,Inv X p a H s->RelV o b->RelV i e->RelV v u->t o i v H Q->
  wpAny (model X.prog X.w) X.A (setItem b e u) (λ_ g=>∃f,Inv X p a f g/\Q f) X.xe s
abbrev TIp:=V->V->Hp->VK->Prop
def PIp(X:Cx)(op:Operator)(t:TIp):Prop:=
 ∀(p:Kp) s (a:St) H x y v u Q,Inv X p a H s->RelV x v->RelV y u->t x y H Q->
  wpAny (model X.prog X.w) X.A (inplaceOp op v u) (EP X p a Q) X.xe s
def pG(i:Nat):TG:=λv σ H Q=>Q (σ.set i<|some v) H
def xy(hN:X.N.Nodup)(hi:X.N[i]?=some x)(hx:Loc X.env.scope x)(a:FnL X x:=by first|exact .inl rfl|exact .inr rfl|assumption):PG X (.Name x pos) (pG i):=by intro p s e H v u Q I r h;exact wpAny_assign_Name<|nj I hN hi hx r (λf b=>⟨_,H,b,h⟩) a
def Jf:TGs:=λvs σ H Q=>vs=[]/\Q σ H
def EX(t:TG)(u:TGs):TGs:=λe b H Q=>∃v r,e=v::r/\t v b H λa f=>u r a f Q
def j_:PGs X [] Jf:=by intro p s a H b u Q I r h;obtain⟨e,h⟩:=h;subst e;cases r;exact assignInOrder_nil ⟨a,H,I,h⟩
def cA{u}(h1:PG X e t)(h2:PGs X es u)
  (j:(assignEach (e::es) X.env).map (·.2)=assign e X.env::(assignEach es X.env).map (·.2):=by rfl):PGs X (e::es) (EX t u):=by
 intro p s f H w y Q I r h;obtain⟨v,x,l,h⟩:=h;subst l;cases r with
 |cons r i=>
  rw[j];refine assignInOrder_cons<|thn (h1 p s f H _ _ _ I r h) λ_ g b=>?_;obtain⟨a,o,m,q⟩:=b;exact h2 p g a o _ _ Q m i q
def Kt(K:Kq)(n:Nat)(t:TGs):TG:=λv b H Q=>∃a x,v=.ref a/\SqT K H a x/\x.length=n/\t x b H Q
def FH{k}(A:X.calm=true)(h:PGs X es t)
  (y:(assignEach es X.env).length=n:=by rfl) (g:(assignEach es X.env).findIdx? (·.1)=none:=by rfl):PG X (.Tuple es k pos) (Kt X.K n t):=by
 intro p s i H v u Q I r f;obtain⟨a,x,C,w,z,f⟩:=f;subst C;cases r;obtain⟨l,j,q,J⟩:=I.tuple w;refine assign_Tuple_tuple (I.ok.hd A) q (by simp[y,<-z,j.length]) g λB m=>?_;have E:=I.kept (t':=s.toks) λb o e=>m b o (YJ<|YC e) e
 exact h p _ i H x _ Q E (by simpa using j) f
def J1(to b:TE)(t:GI):TG:=λv a H Q=>to a H λo g=>b a g λi f=>t o i v f λe=>Q a e
def FQ{i}(C:PE X o to)(hi:PE X i g)(B:Hy X t)
  (E:∀v,assign (.Subscript o i pos) X.env v=(do
   let a <-holding [v]<|eval o X.env
   let b <-holding [v,a]<|eval i X.env
   standAt pos
   holding [v,a,b]<|setItem a b v
   release [v,a,b] []):=by intro _;rfl):PG X (.Subscript o i pos) (J1 to g t):=by
 intro p s e H v u Q I r h;rw[E];refine Yr<|Xb<|a9 (C p s e H _ I h) λa l x O L q A=>?_;refine Yr<|Xb<|a9 (hi p l e O _ L A) λb j y N K m z=>?_;refine Yr<|wpAny_standAt<|Yr<|Xb<|thn (B p j e N x y v a b u _ K q m r z) λ_ P f=>?_;obtain⟨M,J,w⟩:=f;exact wpAny_release ⟨e,M,J,w⟩
def DY(te:TE)(g:TG):TS:=λD a H=>te a H λx b=>g x a b D.nx
def BR(he:PE X e te)(l:PG X tg g)(j:swapsWithSole [tg] e pos.line X.env=pure false:=by rfl)(hw:swappedStores [tg] e X.env=pure none:=by rfl)
  (h1:(assignEach [tg] X.env).map (·.2)=[assign tg X.env]:=by rfl):PS X (.Assign [tg] e pos) (DY te g):=by
 intro p s a H D I h;refine wpAny_Assign_stores (a9 (he p s a H _ I h) λv b x o m f i=>?_) j hw;rw[h1];exact thn (l p b a o x v _ m f i) λ_ u q=>q
def om(hN:X.N.Nodup)(hi:X.N[i]?=some x)(hx:Loc X.env.scope x)(he:PE X e te)(f:swapsWith e (some (.Name x pos')) pos.line X.env=pure false:=by rfl)(g:FnL X x:=by first|exact .inl rfl|exact .inr rfl|assumption) :
  PS X (.Assign [.Name x pos'] e pos) (DY te<|pG i):=by
 intro p s a H D I h;refine wpAny_Assign_Name (a9 (he p s a H _ I h) λv u y m l b q=>?_) f;exact nj l hN hi hx b (λo j=>⟨_,m,j,q⟩) g
def ipI(f:Int->Int->Int):TIp:=λx y H Q=>∃i j,x=.int i/\y=.int j/\Q (.int<|f i j) H
def FN:PIp X .Add (ipI λi j=>i+j):=by intro p s g H x y v u Q I b a h;obtain⟨i,j,f,e,q⟩:=h;subst f;subst e;obtain⟨t,rfl⟩:=b;obtain⟨l,rfl⟩:=a;exact iadd_int ⟨.int _,H,I.tok _,⟨_,rfl⟩,q⟩
def Fz(c:TT)(tb:TS):TS:=λD a H=>∃W:Nat->St->Hp->Prop,(∃m,W m a H)/\∀m a H,W m a H->
 c a H λb g=>if b=true then ∃N:St->Hp->Prop,(∀e h,N e h->∃f,f < m/\W f e h)/\tb {D with nx:=N,ct:=N,bk:=D.nx} a g else D.nx a g
def uA{tb}(z:PassesOwn (model X.prog X.w) X.A X.env X.xe)(T:PT X c tc)(U:PSs X body tb):PS X (.While c body [] pos) (Fz tc tb):=by
 intro p s L H D I h;obtain⟨W,⟨S,O⟩,i⟩:=h;refine wpAny_While<|codeAny_whileLoop (λn R=>∃g K,Inv X p g K R/\W n g K) ?_ S ⟨L,H,I,O⟩;rintro n Q ⟨e,J,Y,M⟩;refine ZY z<|thn (T p Q e J _ Y<|i n e J M) λb P x=>?_;obtain⟨E,C,l⟩:=x;cases b with
 |true=>
  obtain⟨N,B,l⟩:=l;rw[Yh rfl];refine ZY z<|thn (U p P e E _ C l) λf Z q=>?_;cases f with
  |next=>
   obtain⟨a,j,y,n3⟩:=q;obtain⟨o,u,m⟩:=B a j n3;exact⟨o,u,a,j,y,m⟩
  |cont=>
   obtain⟨a,j,y,n3⟩:=q;obtain⟨o,u,m⟩:=B a j n3;exact⟨o,u,a,j,y,m⟩
  |brk=>exact q
  |ret v=>exact q
 |false=>
  rw[Yp Ym];exact XN ⟨e,E,C,l⟩
structure It where
 go:Nat->Hp->Prop
 yld:Nat->Hp->V->Hp->Prop
 stop:Nat->Hp->Prop
def lP(X:Cx)(pz:Kp)(H:Hp)(b:Addr):Prop:=
 H b=none/\b≠X.env.locals/\b∉X.fs/\(b∈X.ex\/X.s₀.heap.objs.size<=b)/\(∀x c,X.env.cells.lookup x=some c->c≠b)/\∀p∈X.pn++pz,p.1≠b
def Inv.fpOk{b:Addr}(I:Inv X pz σ H s)(h:s.heap.objs.size<=b)(f:H' b=none):lP X pz H' b:=by
 refine⟨f,Nat.ne_of_gt<|Ys I.lt h,I.nofs h,.inr<|YW I.sz h,λx c e z=>?_,λp a z=>?_⟩
 ·obtain⟨v,q⟩:=I.cell x c e;exact absurd (Ys q.lt<|by rwa[z])<|Zo _
 ·exact absurd (Ys (YC (I.pin p a).1)<|by rwa[z])<|Zo _
structure Turn (P:Program) (w:World) (K:PySem.W.Frag) (tg:Expr) (J:It) (fp:List Addr) (it:Addr) (tn:Nat->Heap->Prop):Prop where
 mem:it∈fp
 obj:∀i h,tn i h->∀b∈fp,∃o,h.get? b=some o/\∀v,o.data≠.cell v
 keep:∀i h h',tn i h->(∀b∈fp,∀o,h.get? b=some o->h'.get? b=some o)->tn i h'
 item:∀(X:Cx),X.prog=P->X.w=w->X.K=K->X.calm=true->∀(i:Nat) (pz:Kp) (s:Shared) (σ:St) (H:Hp) (E:Kv),Inv X pz σ H s->(∀b∈fp,lP X pz H b)->tn i s.heap->J.go i H->
  wpAny (model P w) X.A (pyNext (.ref it)) (λr s1=>∃u,r=some u /\
   wpAny (model P w) X.A (letOwnedTupleGo tg (.ref it) u) (λ_ s2=>∃x H',Inv X pz σ H' s2/\RelV x u/\J.yld i H x H'/\tn (i+1) s2.heap/\∀b∈fp,H' b=none) E s1) E s
 done:∀(X:Cx),X.prog=P->X.w=w->X.K=K->X.calm=true->∀(i:Nat) (pz:Kp) (s:Shared) (σ:St) (H:Hp) (E:Kv),Inv X pz σ H s->(∀b∈fp,lP X pz H b)->tn i s.heap->J.stop i H->
  wpAny (model P w) X.A (pyNext (.ref it)) (λr s1=>r=none/\Inv X pz σ H s1) E s
 self:∀(A:Around) (i:Nat) (s:Shared) (Q:Kv) (E:Kv),tn i s.heap->Q (.ref it) s->wpAny (model P w) A (pyIter (.ref it)) Q E s
abbrev TI:=St->Hp->(It->Hp->Prop)->Prop
def PIE(X:Cx)(pz:Kp)(σ:St)(tg:Expr)(R:It->Hp->Prop)(i:Value)(s:Shared):Prop:=
 ∃(e:Addr) (f:List Addr) (a:Nat->Heap->Prop) (J:It) (H:Hp),i=.ref e/\Inv X pz σ H s/\Turn X.prog X.w X.K tg J f e a/\a 0 s.heap/\(∀b∈f,lP X pz H b)/\R J H
def PI(X:Cx)(tg iter:Expr)(wi:TI):Prop:=
 ∀(p:Kp) s (a:St) H R,Inv X p a H s->wi a H R->
  wpAny (model X.prog X.w) X.A (eval iter X.env) (λv b=>wpAny (model X.prog X.w) X.A (pyIter v) (PIE X p a tg R) X.xe b) X.xe s
def zA{o}{vs}{Q}(b:s.heap.get? it=some o)(f:o.cls=.type n)(hd:o.data=.fields vs)
  (e:["enumerate","zip","dict_itemiterator","dict_reverseitemiterator","odict_iterator","itertools.zip_longest","itertools.pairwise"].contains n=false) (a:Q () s):wpAny M A (letOwnedTupleGo tg (.ref it) u) Q E s:=by
 unfold letOwnedTupleGo;cases tg<;>first
  |exact YT a
  |(cases u<;>first
    |exact YT a
    |(
     refine Yr<|wpAny_load b ?_;rw[f,hd];show wpAny M A (if(["enumerate","zip","dict_itemiterator","dict_reverseitemiterator","odict_iterator","itertools.zip_longest","itertools.pairwise"].contains n&&vs[0]? == some _)=true then _ else _) Q E s;rw[Yp<|by intro h;rw[e,Bool.false_and]at h;cases h];exact YT a))
def Itl(K:Kq)(a:Addr):It:=
 ⟨λi H=>∃b x,SqL K H a b/\b[i]?=some x,λi H x e=>e=H/\∀b,SqL K H a b->b[i]?=some x,λi H=>∃b,SqL K H a b/\b.length<=i⟩
def Itr(lo:Int)(n:Nat):It:=⟨λi _=>i<n,λi H x a=>a=H/\x=.int (lo+i),λi _=>n<=i⟩
theorem yo{P}a it:Turn P w K tg (Itl K a) [it] it (λi h=>h.IsListIter it a i) where
 mem:=by simp
 obj:=λi h f b g=>by
  have e:b=it:=by simpa using g
  subst e;obtain⟨o,e,c,d⟩:=f;exact⟨o,e,λv z=>by rw[d]at z;cases z⟩
 keep:=λi h q f k=>f.at λo e=>k it (by simp) o e
 item:=by intro X L C M Y i U s T H E I m f J;subst L C M;obtain⟨Z,x,l,B⟩:=J;obtain⟨A,y,p,hz⟩:=I.list l;obtain⟨u,hu,ru⟩:=y.get B;obtain⟨S,R,f2,Q,O,N⟩:=m it (by simp);refine wpAny_pyNext_list_item f p.isList (by simpa using hu) λq j sb=>?_;have I1:=I.turned (t':=s.toks) (λb o g e=>(sb.2 b g).trans e) S R Q O N;obtain⟨o,e,c,d⟩:=id j;exact⟨u,rfl,zA e c d (by decide) ⟨x,H,I1,ru,⟨rfl,λys hy=>by rwa[I.list_inj hy l]⟩,j,λb g=>(m b g).1⟩⟩
 done:=by intro X L C M Y i U s T H E I m f J;subst L C M;obtain⟨Z,l,B⟩:=J;obtain⟨A,y,p,hz⟩:=I.list l;obtain⟨S,R,f2,Q,O,N⟩:=m it (by simp);have hl:=y.length;exact wpAny_pyNext_list_end (I.ok.hd Y) f p.isList (by simp;omega) λq eb=>⟨rfl,I.turned (λb o g e=>eb b o g e) S R Q O N⟩
 self:=λ_ _ _ _ _ f h=>wpAny_pyIter_listiter f h
theorem vi{P}it lo n:Turn P w K tg (Itr lo n) [it] it (λi h=>IsRangeIter h it (lo+i*1) (n-i) 1) where
 mem:=by simp
 obj:=λi h a b f=>by
  have e:b=it:=by simpa using f
  subst e;exact⟨_,a,λv z=>by
   have O:=z;cases O⟩
 keep:=λi h l a k=>k it (by simp) _ a
 item:=by intro X u m x q i N s L H E I j a p;subst u m x;obtain⟨J,C,S,B,A,y⟩:=j it (by simp);have W:=Walks.range (prog:=X.prog) (w:=X.w) (I.ok.hd q) it lo 1 n;refine W.item i s _ _ p a λv l M R g Q=>?_;obtain⟨t,rfl⟩:=R;have U:Inv X N L H {s with heap:=l,toks:=M}:=I.turned (λb o f e=>Q b o (by simpa using f) e) J C B A y;refine⟨_,rfl,zA (n := "range_iterator") g rfl rfl (by decide) ⟨.int<|lo+i,H,U,⟨t,?_⟩,⟨rfl,rfl⟩,g,λb f=>(j b f).1⟩⟩;rw[Int.mul_one]
 done:=by intro X u m x q i N s L H E I j a p;subst u m x;obtain⟨J,C,S,B,A,y⟩:=j it (by simp);exact wpAny_pyNext_range_end (I.ok.hd q) a (by have:n<=i:=p;omega) λl T=>⟨rfl,I.turned (λb o f e=>T b o f e) J C B A y⟩
 self:=λ_ _ _ _ _ a h=>wpAny_pyIter_rangeiter a h
def IS(K:Kq)(tl:TE):TI:=λe H R=>tl e H λx b=>∃a,x=.ref a/\(∃f,SqL K b a f)/\R (Itl K a) b
def wv{l}(z:PE X l tl):PI X tg l (IS X.K tl):=by
 intro u s i H R I h;refine a9 (z u s i H _ I h) λv f x B g j m=>?_;obtain⟨a,e,⟨C,y⟩,q⟩:=m;subst e;cases j;obtain⟨w,E,p,J⟩:=g.list y;refine wpAny_pyIter_list p.isList ?_;refine⟨f.heap.objs.size,[f.heap.objs.size],_,_,B,rfl,g.kept λb o e=>Yx _ e,yo a _,⟨_,YK _ rfl,rfl,rfl⟩,λb A=>?_,q⟩;have e:b=f.heap.objs.size:=by simpa using A
 subst e;exact g.fpOk (Yy _)<|g.hok.fresh<|Yy _
theorem Ba{lo hi}{t u v}(I:Inv X pz σ H s)(h1:-(2^62)<=lo)(h2:lo<2^62)(g:-(2^62)<=hi)(f:hi<2^62)
  (q:R (Itr lo (hi-lo).toNat) H):wpAny (model X.prog X.w) X.A (pyIter<|.ref s.heap.objs.size) (PIE X pz σ tg R) E {s with heap:=s.heap.push {cls:=.type "range",data:=.fields #[.int lo t,.int hi u,.int 1 v]},toks:=tk}:=by
 refine wpAny_pyIter_range (IsRange.new ..) (small_one h1 h2 g f) ?_;have a:Inv X pz σ H {s with heap:=s.heap.push {cls:=.type "range",data:=.fields #[.int lo t,.int hi u,.int 1 v]},toks:=tk}:=I.kept λb o e=>Yx _ e
 refine⟨(s.heap.push {cls:=.type "range",data:=.fields #[.int lo t,.int hi u,.int 1 v]}).objs.size,[(s.heap.push {cls:=.type "range",data:=.fields #[.int lo t,.int hi u,.int 1 v]}).objs.size],_,_,H,rfl,
  a.kept λb o e=>Yx _ e,vi _ lo (hi-lo).toNat,?_,λb h=>?_,q⟩
 ·have j:lo+((0:Nat))*1=lo:=by simp
  have i:(((hi-lo).toNat))-((0:Nat))=Builtin.Range.rangeSize lo hi 1:=by rw[rangeSize_one];split<;>omega
  rw[j,i];exact YK _ rfl
 ·have e:b=(s.heap.push {cls:=.type "range",data:=.fields #[.int lo t,.int hi u,.int 1 v]}).objs.size:=by simpa using h
  subst e;exact a.fpOk (Yy _)<|a.hok.fresh<|Yy _
def Ix(ta:TA):TI:=λa H R=>ta a H λb e=>∃j:Int,b=[.int j]/\-(2^62)<=j/\j<2^62/\R (Itr 0 j.toNat) e
theorem yO{a}{ta}(w:Gl X "range")(u:X.mg "range"=none)(x:PA X [a] ta)(o:starEach [a] X.env=[(false,eval a X.env)]:=by rfl):PI X tg (.Call (.Name "range" p) [a] [] pos) (Ix ta):=by
 intro m s f H R I h;refine Call_<|qK I w u boot_range<|PyProof.Rows.callWith_type1 (a9 (x pos m s f H _ I h) λA B z C y i b=>?_) o rfl;obtain⟨j,e,b,l,q⟩:=b;subst e;cases i with
 |cons r g=>
  cases g;obtain⟨t,rfl⟩:=r;exact call_range_1<|Ba y (by omega) (by omega) b l<|by simpa using q
def JZ(wi:TI)(g:TG)(tb:TS):TS:=λD a H=>wi a H λJ l=>∃W:Nat->Nat->St->Hp->Prop,(∃m,W 0 m a l)/\∀i m a H,W i m a H->
 (J.stop i H/\D.nx a H)\/(J.go i H/\∃N:St->Hp->Prop,(∀b e,N b e->∃h,h < m/\W (i+1) h b e)/\∀x e,J.yld i H x e->g x a e λf j=>tb {D with nx:=N,ct:=N,bk:=D.nx} f j)
def oJ(fp:List Addr)(h:Heap):List (Addr×Obj):=fp.filterMap λb=>(h.get? b).map λo=>(b,o)
def iC{b}{o}(a:b∈fp)(e:h.get? b=some o):(b,o)∈oJ fp h:=Xi.mpr ⟨b,a,by rw[e];rfl⟩
def xO{p}(a:p∈oJ fp h):p.1∈fp/\h.get? p.1=some p.2:=by
 obtain⟨b,f,e⟩:=Xi.mp a;cases q:h.get? b with
 |none=>rw[q]at e;cases e
 |some o=>
  rw[q]at e;have g:=Yv e;subst g;exact⟨f,q⟩
def Inv.pinned(I:Inv X pz σ H s)(i:∀b∈fp,lP X pz H b)(g:∀b∈fp,∃o,s.heap.get? b=some o/\∀v,o.data≠.cell v):Inv X (pz++oJ fp s.heap) σ H s:=
 I.pins_of λp f=>(Yj.mp f).elim (λz=>I.pin p<|YZ _ z) λz=>by
  obtain⟨h,e⟩:=xO z;obtain⟨m,l,j,_⟩:=i p.1 h;obtain⟨o,a,d⟩:=g p.1 h;rw[e]at a;cases a;exact⟨e,m,l,j,d⟩
def Inv.unpinned{pl:Kp}(I:Inv X (pz++pl) σ H s):Inv X pz σ H s:=I.pins_of λp h=>I.pin p<|YZ _<|XA _ h
abbrev FsI(e:Expr)(X:Cx):Prop:=∀x,foldedSetIterable e X.env x=pure x
def F9{tb}(S:PassesOwn (model X.prog X.w) X.A X.env X.xe)(hc:X.calm=true)(hi:PI X tg iter wi)(hg:PG X tg g)(q:PSs X body tb)
  (hs:FsI iter X:=by intro _;rfl):PS X (.For tg iter body [] pos) (JZ wi g tb):=by
 intro L s σ H D I h;refine wpAny_For (thn (hi L s σ H _ I h) λv s1 h1=>thn h1 λitv s2 h2=>?_) hs;obtain⟨it,Y,tn,J,H2,e,I2,T,st2,f2,W,⟨m0,w0⟩,O⟩:=h2;subst e
 -- what stays true of the iterator's objects through the loop
 have p:∀{C},(∀b∈Y,C b=none)->∀b∈Y,lP X L C b:=λhn b q=>⟨hn b q,(f2 b q).2⟩
 refine codeAny_forLoop_any (λn s'=>∃i l C,Inv X L l C s'/\tn i s'.heap/\(∀b∈Y,C b=none)/\W i n l C) ?_ m0 ⟨0,σ,H2,I2,st2,λb q=>(f2 b q).1,w0⟩;rintro n s3 ⟨i,j,Z,I3,Q,U,w3⟩;rcases O i n j Z w3 with⟨P,qn⟩|⟨go,N,hN,step⟩
 ·refine ZY S<|thn (T.done X rfl rfl rfl hc i L s3 j Z X.xe I3 (p U) Q P) λr s4 ⟨hr,I4⟩=>?_;subst hr;exact XN ⟨j,Z,I4,qn⟩
 ·refine ZY S<|thn (T.item X rfl rfl rfl hc i L s3 j Z X.xe I3 (p U) Q go) λr s4 ⟨u,hr,h4⟩=>?_;subst hr;refine ZY S<|thn h4 λ_ s5 M=>?_;obtain⟨x,H5,I5,r5,y5,K,fr5⟩:=M;have I5':=I5.pinned (p fr5)<|T.obj _ _ K;refine ZY S<|thn (hg _ s5 j H5 x u _ I5' r5<|step x H5 y5) λ_ s6 M=>?_;obtain⟨σ6,H6,I6,q6⟩:=M;refine ZY S<|thn (q _ s6 σ6 H6 _ I6 q6) λf s7 E=>?_;have y:∀{a}{B},Inv X _ a B s7->N a B->∃m,m<n/\∃i l C,Inv X L l C s7/\tn i s7.heap/\(∀b∈Y,C b=none)/\W i m l C:=λ{a B} z R=>by
   obtain⟨m',hm,w7⟩:=hN a B R;refine⟨m',hm,i+1,a,B,z.unpinned,T.keep _ _ _ K λb q o e=>(z.pin (b,o)<|YZ _<|YZ _<|iC q e).1,λb q=>?_,w7⟩;obtain⟨o,e,d⟩:=T.obj _ _ K b q;exact(z.pin (b,o)<|YZ _<|YZ _<|iC q e).2.1
  cases f with
  |next=>obtain⟨a,B,z,R⟩:=E;exact y z R
  |cont=>obtain⟨a,B,z,R⟩:=E;exact y z R
  |brk=>obtain⟨a,B,z,E⟩:=E;exact⟨a,B,z.unpinned,E⟩
  |ret v=>obtain⟨x7,a,B,z,r7,E⟩:=E;exact⟨x7,a,B,z.unpinned,r7,E⟩
abbrev R2:=V->V->Hp->VK->Prop
def OpR(X:Cx)(f:Value->Value->Sem Value)(r:R2):Prop:=
 ∀(p:Kp) s (a:St) H x y v u Q,Inv X p a H s->RelV x v->RelV y u->r x y H Q->
  wpAny (model X.prog X.w) X.A (f v u) (EP X p a Q) X.xe s
def CallR(X:Cx)(f:Value)(r:List V->Hp->VK->Prop):Prop:=
 ∀(p:Kp) s (a:St) H x u Q,Inv X p a H s->Vals x u->r x H Q->
  wpAny (model X.prog X.w) X.A (call f u) (EP X p a Q) X.xe s
def Jy(X:Cx)(r:V->Hp->(Bool->Hp->Prop)->Prop):Prop:=
 ∀(p:Kp) s (a:St) H x v Q,Inv X p a H s->RelV x v->r x H Q->
  wpAny (model X.prog X.w) X.A (truthy v) (TP X p a Q) X.xe s
def tOp(r:R2)(ta tb:TE):TE:=λa H Q=>ta a H λx e=>tb a e λy b=>r x y b Q
def rI(C:Int->Int->Prop)(g:Int->Int->V):R2:=λx y H Q=>∃i j,x=.int i/\y=.int j/\C i j/\Q (g i j) H
def rI0(g:Int->Int->V):R2:=λx y H Q=>∃i j,x=.int i/\y=.int j/\Q (g i j) H
section
variable  {a c:Expr}{tc:TE} 
def FL(B:PE X a ta)(z:PE X b tb){R:V->V->Hp->Prop}(I:Inv X pz σ H s)
  (h:ta σ H λx H1=>tb σ H1 λy H2=>R x y H2)  {f:Value->Value->Sem Value}
  (p:∀v u i x y H2,Inv X pz σ H2 i->RelV x v->RelV y u->R x y H2->wpAny (model X.prog X.w) X.A (f v u) Q X.xe i) :
  wpAny (model X.prog X.w) X.A (eval a X.env) (λv g=>wpAny (model X.prog X.w) X.A (eval b X.env) (λu e=>wpAny (model X.prog X.w) X.A (f v u) Q X.xe e) X.xe g) X.xe s:=by
 refine a9 (B pz s σ H _ I h) λv j x H1 E m o=>?_;refine a9 (z pz j σ H1 _ E o) λu i y H2 C l q=>?_;exact p v u i x y H2 C m l q
def Ff(j:OpR X (binaryOp op) r)(m:PE X a ta)(l:PE X b tb):PE X (.BinOp a op b pos) (tOp r ta tb):=by intro p s e H Q I h;exact wpAny_BinOp<|FL m l I h λv u f x y w o i g q=>j p f e w x y v u Q o i g q
def opI{f}{C}{g:Int->Int->Int}
  (a:∀i j t u s (Q:Kv) (E:Kv),C i j->Q (.int (g i j) s.toks) {s with toks:=s.toks+1}->wpAny (model X.prog X.w) X.A (f (.int i t)<|.int j u) Q E s) :
  OpR X f (rI C λi j=>.int<|g i j):=by
 intro p s o H x y v u Q I l e h;obtain⟨i,j,rfl,rfl,m,q⟩:=h;obtain⟨t,rfl⟩:=l;obtain⟨b,rfl⟩:=e;exact a i j t b s _ _ m ⟨.int _,H,I.tok _,⟨_,rfl⟩,q⟩
def HJ{f}{g:Int->Int->Int}
  (a:∀i j t u s (Q:Kv) (E:Kv),Q (.int (g i j) s.toks) {s with toks:=s.toks+1}->wpAny (model X.prog X.w) X.A (f (.int i t)<|.int j u) Q E s) :
  OpR X f (rI0 λi j=>.int<|g i j):=by
 intro p s m H x y v u Q I l e h;obtain⟨i,j,rfl,rfl,q⟩:=h;obtain⟨t,rfl⟩:=l;obtain⟨b,rfl⟩:=e;exact a i j t b s _ _ ⟨.int _,H,I.tok _,⟨_,rfl⟩,q⟩
def FG{f}{g:Int->Int->Bool}
  (a:∀i j t u s (Q:Kv) (E:Kv),Q (.bool<|g i j) s->wpAny (model X.prog X.w) X.A (f (.int i t)<|.int j u) Q E s) :
  OpR X f (rI0 λi j=>.bl<|g i j):=by
 intro p s m H x y v u Q I l e h;obtain⟨i,j,rfl,rfl,q⟩:=h;obtain⟨t,rfl⟩:=l;obtain⟨b,rfl⟩:=e;exact a i j t b s _ _ ⟨.bl _,H,I,rfl,q⟩
def JS(i j:Int):Prop:=0<j/\j<1073741824
def JU(i j:Int):Prop:=0<=j/\j<=1000000/\i.natAbs<2^64
def CMul(i j:Int):Prop:=(-(2^64)<i/\i<2^64)\/(-(2^64)<j/\j<2^64)
def CMul.ok{i j}(h:CMul i j):IntMulOk i j:=by
 rcases h with⟨b,a⟩|⟨b,a⟩
 ·exact .of_left<|intBits_le_64 b a
 ·exact .of_right<|intBits_le_64 b a
def zz:OpR X (binaryOp .Add) (rI0 λi j=>.int (i+j)):=HJ λ_ _ _ _ _ _ _ q=>add_int q
def Ga:OpR X (binaryOp .Sub) (rI0 λi j=>.int (i-j)):=HJ λ_ _ _ _ _ _ _ q=>sub_int q
def GF:OpR X (binaryOp .Mult) (rI CMul λi j=>.int (i*j)):=opI λ_ _ _ _ _ _ _ h q=>mul_int q h.ok
theorem C_:OpR X (binaryOp .FloorDiv) (rI JS λi j=>.int (i/j)):=opI λi j _ _ _ _ _ h q=>by
 have b:=h.1;have a:=h.2;exact floordiv_int (by omega) (by rwa[Int.fdiv_eq_ediv_of_nonneg i<|by omega])<|.inl<|PyProof.noPylong_small<|by omega
theorem Bi:OpR X (binaryOp .Mod) (rI (λ_ j=>0<j) λi j=>.int (i%j)):=opI λi j _ _ _ _ _ h q=>by
 have a:=h;exact mod_int' (by omega)<|by rwa[Int.fmod_eq_emod_of_nonneg i<|by omega]
def FF:OpR X (binaryOp .Pow) (rI JU λi j=>.int (i^j.toNat)):=opI λ_ _ _ _ _ _ _ h q=>pow_int_small h.1 h.2.1 h.2.2 q
end
section
variable  {a c:Expr}{tc:TE} 
def IQ:OpR X (compareOp .Lt) (rI0 λi j=>.bl (decide (i<j))):=FG λ_ _ _ _ _ _ _ q=>lt_int q
def IN:OpR X (compareOp .LtE) (rI0 λi j=>.bl (decide (i<=j))):=FG λ_ _ _ _ _ _ _ q=>le_int q
def Fm:OpR X (compareOp .Gt) (rI0 λi j=>.bl (decide (j<i))):=FG λ_ _ _ _ _ _ _ q=>gt_int q
def OpR.or{f}(h:OpR X f r)(h':OpR X f r'):OpR X f (λx y H Q=>r x y H Q\/r' x y H Q):=by
 intro p s a H x y v u Q I e b q;rcases q with q|q
 ·exact h p s a H x y v u Q I e b q
 ·exact h' p s a H x y v u Q I e b q
def i5 b(h:op≠.In:=by decide)(h2:op≠.NotIn:=by decide):behindInMarks op b=false:=by
 have a:(op == CmpOp.In)=false:=by cases op<;>first|rfl|exact absurd rfl h
 have e:(op == CmpOp.NotIn)=false:=by cases op<;>first|rfl|exact absurd rfl h2
 cases b<;>simp[behindInMarks,a,e]
def wu(j:OpR X (compareOp op) r)(o:PE X a ta)(m:PE X b tb)(l:behindInMarks op b=false):PE X (.Compare a [op] [b] pos) (tOp r ta tb):=by intro p s e H Q I h;exact wpAny_Compare1 (FL o m I h λv u f x y z w i g q=>j p f e z x y v u Q w i g q) l
def z8(t:TE):TT:=λa H Q=>t a H λx b=>∃k,x=.bl k/\Q k b
def sF(A:OpR X (compareOp op) r)(E:PE X a ta)(C:PE X b tb)(B:behindInMarks op b=false):PT X (.Compare a [op] [b] pos) (z8 (tOp r ta tb)):=by
 intro p s f H Q I h;refine Xm (a9 (E p s f H _ I h) λv i x O L m w=>a9 (C p i f O _ L w) λu g y N K l o=>
  a9 (A p g f N x y v u _ K m l o) λc P z M J j ⟨k,e,q⟩=>?_) B
 subst e;cases j;exact Ze ⟨M,J,q⟩
def uX(r r':R2)(ta tb tc:TE):TE:=λa H Q=>ta a H λx g=>tb a g λy f=>r x y f λz b=>∃k,z=.bl k /\
 (if k=true then tc a b λw e=>r' y w e Q else Q (.bl false) b)
def um{op o}(P:OpR X (compareOp op) r)(g:OpR X (compareOp o) r')(U:PE X a ta)(T:PE X b tb)(S:PE X c tc)
  (R:lastMarks [op,o] [b,c]=false:=by with_unfolding_all rfl):PE X (.Compare a [op,o] [b,c] pos) (uX r r' ta tb tc):=by
 intro p s f H Q I h;refine Compare_chain (a9 (U p s f H _ I h) λv E x H1 I1 L O=>chain_link<|a9 (T p E f H1 _ I1 O) λu C y H2 Z i N=>
  a9 (P p C f H2 x y v u _ Z L i N) λd B z l j K ⟨k,e,q⟩=>?_) R
 subst e;cases K;refine Ze ?_;cases k with
 |false=>exact ite_ff ⟨.bl false,l,j,rfl,q⟩
 |true=>exact ite_tt<|chain_last<|a9 (S p B f l _ j q) λw A m H4 Y J M=>g p A f H4 y m u w Q Y i J M
def zO{op o}(U:OpR X (compareOp op) r)(g:OpR X (compareOp o) r')(ha:PE X a ta)(hb:PE X b tb)(Z:PE X c tc)
  (Y:lastMarks [op,o] [b,c]=false:=by with_unfolding_all rfl):PT X (.Compare a [op,o] [b,c] pos) (z8<|uX r r' ta tb tc):=by
 intro p s f H Q I h;refine isTrue_chain (a9 (ha p s f H _ I h) λv J x H1 I1 N S=>test_link<|a9 (hb p J f H1 _ I1 S) λu E y H2 I2 j R=>
  a9 (U p E f H2 x y v u _ I2 N j R) λd C z m l M ⟨k,e,q⟩=>?_) Y
 subst e;cases M;refine Ze ?_;cases k with
 |false=>
  obtain⟨k',e',T⟩:=q;cases e';exact ite_ff ⟨m,l,T⟩
 |true=>
  refine ite_tt<|test_last<|a9 (Z p C f m _ l q) λA B w H4 I4 L P=>a9 (g p B f H4 y w u A _ I4 j L P) λd' s5 z2 H5 I5 K i=>?_;obtain⟨k2,e2,O⟩:=i;subst e2;cases K;exact Ze ⟨H5,I5,O⟩
def Jh(K:Kq)(x:V)(H:Hp)(k:Bool):Prop:=
 match x with
 |.non=>k=false
 |.bl b=>k=b
 |.int i=>k=(i != 0)
 |.str y=>y.length<=sizeLine/\k=((y.length:Int) != 0)
 |.byt y=>y.size<=sizeLine/\k=((y.size:Int) != 0)
 |.ref p=>(∃a,SqL K H p a/\k=!a.isEmpty)\/(∃a,SqT K H p a/\k=!a.isEmpty)\/∃e,H p=some (.dK e)/\k=!e.isEmpty
 |_=>False
def vA{vs}(r:KV kvs vs):(!vs.isEmpty)=!kvs.isEmpty:=by cases r<;>rfl
def nq(r:Vals xs its):(!its.toArray.isEmpty)=!xs.isEmpty:=by cases r<;>simp
def jU:sizeLine<2^63:=by rw[YL];decide
theorem GY:Jy X (λx H Q=>∃k,Jh X.K x H k/\Q k H):=by
 intro J s E H x v Q I l h;obtain⟨k,e,q⟩:=h;have M:=jU;have L:=YL;cases x with
 |non=>
  cases l;have a:=e;subst a;exact truthy_none ⟨H,I,q⟩
 |bl b=>
  cases l;have a:=e;subst a;exact Ze ⟨H,I,q⟩
 |int i=>
  obtain⟨t,rfl⟩:=l;have a:=e;subst a;exact PySem.P.truthy_int ⟨H,I,q⟩
 |str y=>
  obtain⟨t,rfl⟩:=l;obtain⟨B,a⟩:y.length<=sizeLine/\k=((y.length:Int) != 0):=e;subst a;exact PySem.P.truthy_str (by omega) ⟨H,I.tok _,q⟩
 |byt y=>
  obtain⟨t,rfl⟩:=l;obtain⟨B,a⟩:y.size<=sizeLine/\k=((y.size:Int) != 0):=e;subst a;exact PySem.W.truthy_bytes (by omega) ⟨H,I.tok _,q⟩
 |ref p=>
  cases l;have a:=e;rcases a with⟨j,o,a⟩|⟨j,o,a⟩|⟨f,o,a⟩
  ·subst a;obtain⟨z,r,pl,A⟩:=I.list o;have g:=r.length;exact wpAny_truthy_list pl.isList (by simp[Yu];omega) ⟨H,I.tok _,by rwa[nq r]⟩
  ·subst a;obtain⟨z,r,pl,A⟩:=I.tuple o;have g:=r.length;exact truthy_tuple pl (by simp[Yu];omega) ⟨H,I.tok _,by rwa[nq r]⟩
  ·subst a;obtain⟨A,C,u,r,m⟩:f.length<=sizeLine/\(p == sysModules)=false/\∃u,KV f u/\s.heap.DictOf _ p u:=I.hok p _ o;have g:=Paired.length r;exact wpAny_truthy_dict C m (by omega) ⟨H,I.tok _,by rwa[vA r]⟩
 |_=>exact(show False from e).elim
def Ad(f:PE X a ta)(he:∀w,isTrue a X.env w=(do let v <-w;standAt a.pos;holding [v] (truthy v))) :
  PT X a (λσ H Q=>ta σ H λx H'=>∃k,Jh X.K x H' k/\Q k H'):=by
 intro p s σ H Q I h;exact isTrue_plain (a9 (f p s σ H _ I h) λv b x i g e q=>GY p b σ i x v Q g e q)<|he _
def oS:OpR X (binaryOp .Add) (λx y H Q=>∃i j,x=.str i/\y=.str j/\i.length+j.length<=sizeLine/\Q (.str (i++j)) H):=by intro p s g H x y v u Q I e b h;obtain⟨i,j,rfl,rfl,f,q⟩:=h;obtain⟨t,rfl⟩:=e;obtain⟨a,rfl⟩:=b;exact add_str (λa l=>⟨.str<|i++j,H,I.tok _,⟨_,rfl⟩,q⟩) f
def jM{x}(r:Vals [x] us):∃u,us=[u]/\RelV x u:=by
 cases r with
 |cons b a=>cases a;exact⟨_,rfl,b⟩
def qe{x}(r:Vals [x,y] us):∃u w,us=[u,w]/\RelV x u/\RelV y w:=by
 cases r with
 |cons f e=>
  cases e with
  |cons b a=>cases a;exact⟨_,_,rfl,f,b⟩
def yN(b:X.calm=true):CallR X (.builtin "max") (λxs H Q=>∃i j,xs=[.int i,.int j]/\Q (.int (if j > i then j else i)) H):=by
 intro p s e H xs f Q I r h;obtain⟨i,j,rfl,q⟩:=h;obtain⟨u,w,rfl,⟨t,rfl⟩,⟨l,rfl⟩⟩:=qe r;refine max_two_ints (I.ok.hd b) λm g k=>⟨_,H,I.kept k,?_,q⟩
 by_cases a:j > i
 ·rw[Yh a,Yh a];exact⟨_,rfl⟩
 ·rw[Yp a,Yp a];exact⟨_,rfl⟩
def yy(b:X.calm=true):CallR X (.builtin "min") (λxs H Q=>∃i j,xs=[.int i,.int j]/\Q (.int (if j<i then j else i)) H):=by
 intro p s e H xs f Q I r h;obtain⟨i,j,rfl,q⟩:=h;obtain⟨u,w,rfl,⟨t,rfl⟩,⟨l,rfl⟩⟩:=qe r;refine min_two_ints (I.ok.hd b) λm g k=>⟨_,H,I.kept k,?_,q⟩
 by_cases a:j<i
 ·rw[Yh a,Yh a];exact⟨_,rfl⟩
 ·rw[Yp a,Yp a];exact⟨_,rfl⟩
end
structure ObjM (h:Heap) (x dx C:Addr) (mA:Str->Option Value):Prop where
 obj:h.get? x=some (PySem.W.instObj C dx)
 ns:h.Ns1 dx mA
 ne:dx≠x
def xG(n:h.Ns1 dx mA):∃od,h.get? dx=some od/\∀name,PySem.W.lookIn name od=some (mA name):=by
 obtain⟨o,f,s,i,m,l,_,j⟩:=n;refine⟨o,i,λname=>?_⟩;have e:=j name;unfold nsFind findBy at e;rw[<-Array.find?_toList]at e;unfold PySem.W.lookIn;rw[m];dsimp only;split
 ·rename_i y q;rw[q]at e;exact YH some e
 ·rename_i q;rw[q]at e;have a:f.toList.any (·.refKey)=false:=by rw[List.any_eq_false];intro y g;obtain⟨z,t,b⟩:=l y<|Array.mem_toList_iff.mp g;simp[DictEntry.refKey,b]
  have p:¬f.toList.any (·.refKey)=true:=by rw[a];exact Ym
  rw[Yp p];exact YH some e
def ObjM.look{x}(I:ObjM h x dx C mA):∃od,PySem.W.InstAt h x (PySem.W.instObj C dx) C (some od)/\∀name,PySem.W.lookIn name od=some (mA name):=
 let ⟨od,ho,hl⟩:=xG I.ns
 ⟨od,⟨I.obj,rfl,rfl,ho⟩,hl⟩
section
variable       {x:Addr}   {v:Value}
def DR{e}(X:K.In s.heap)(I:ObjM s.heap x dx C mA)(g:PySem.W.plainGet K C name=true)(f:PySem.W.hasDictIn K C=true)
  (i:PySem.W.findIn K (.ref C) name=some none) (hv:mA name=some v) (a:PySem.W.handedIn v=true) (h:Q v {s with toks:=s.toks+1}) :
  wpAny (model prog w) A (getAttr (.ref x) name e) Q E s:=by
 obtain⟨o,J,b⟩:=I.look;exact PySem.W.get_value X J (Vo g).1 (PySem.W.findObj_own f i rfl<|by rw[b,hv]) a h
def zB{Q}(X:K.In s.heap)(I:ObjM s.heap x dx C mA)(a:PySem.W.plainGet K C name=true)
  (g:PySem.W.findIn K (.ref C) name=some (some<|.ref f)) (b:PySem.W.isFn K (.ref f)=true) (hv:mA name=none) (h:Q (.ref f,[.ref x]) s) :
  wpAny (model prog w) A (getMethod (.ref x) name pl) Q E s:=by
 obtain⟨o,J,e⟩:=I.look;exact PySem.W.method_fn X J (Vo a).1 (Vo a).2 g (ZT.mp b) (by show(PySem.W.lookIn name o).map _=some false;rw[e,hv];rfl) h
theorem EG{Q}(X:K.In s.heap)(I:ObjM s.heap x dx C mA)
  (p:PySem.W.findIn K (.ref C) "__setattr__"=some (some<|.builtin "object.__setattr__")) (q:PySem.W.plainOver K C=true) (o:PySem.W.takerIn K C name=some none) (u:PySem.W.hasDictIn K C=true)
  (hw:PySem.Within mA ns) (hsz:ns.length<=sizeLine)
  (h:∀h',ObjM h' x dx C (λy=>if y=name then some v else mA y)->Heap.SameBut dx s.heap h'->Q () {s with heap:=h',toks:=s.toks+2}) :
  wpAny (model prog w) A (setAttr (.ref x) name v) Q E s:=by
 obtain⟨L,J,N⟩:=I.look;refine PySem.W.set_plain X J p<|PySem.W.osa_open X J q o λb=>?_;obtain⟨O,z,j⟩:=PySem.W.any_some u;have m:=I.obj;refine Yr<|YT<|Yr<|Yr<|wpAny_loadPart m<|Yr<|PySem.W.Looks.here (PySem.W.looks_clsIn X z) ?_;rw[j];refine YT<|Yr<|YT<|Yr ?_;refine wpAny_nsSet1 I.ns λh' f e=>?_;obtain⟨M,B,H,g,i,l⟩:=f.count<|PySem.Within.cons name v hw;refine Yr<|wpAny_lookBehind g (by rw[i];exact pastItsLine_dict<|YW l<|by rw[Yg];omega) ?_;exact YT<|h _ ⟨(e.2 _<|ZX I.ne).trans I.obj,f,I.ne⟩ e
def Bh{R:Kr}{vs}(X:K.In s.heap)(b:PySem.W.makesIn K C=true)
  (hi:PySem.W.findIn K (.ref C) "__init__"=some (some<|.ref f)) (e:PySem.W.typeIn K (.ref f)=some (.type "function"))
  (h:codeAny (model prog w) (A.under<|.builtin "type.__call__" ⟨.ref C::vs,kw⟩) (.call (.ref f) ⟨.ref (s.heap.objs.size+1)::vs,kw⟩) (PySem.W.InitBack (s.heap.objs.size+1) R)
   {s with heap:=(s.heap.push PySem.W.emptyDict).push<|PySem.W.instObj C s.heap.objs.size}) :
  codeAny (model prog w) A (.call (.ref C) ⟨vs,kw⟩) R s:=by
 obtain⟨i,g,d,t,o⟩:=s;exact PySem.W.make_core (PySem.W.makes_of X b) (PySem.W.looks_findIn X hi) (λa=>PySem.W.bind_fn X a e) (.inl rfl) h
end
noncomputable def da(f:Str)(v:V):List (Str×V)->List (Str×V)
 |[]=>[(f,v)]
 |(g,x)::r=>if g=f then(g,v)::r else(g,x)::da f v r
theorem lZ f g v:∀fs:List (Str×V),(da f v fs).lookup g=if g=f then some v else fs.lookup g
 |[]=>by
  show List.lookup g [(f,v)]=_;by_cases h:g=f
  ·have a:=ZT.mpr h;simp[List.lookup,a,Yh h]
  ·have a:=Zh.mpr h;simp[List.lookup,a,Yp h]
 |(k,x)::r=>by
  have ih:=lZ f g v r;rw[show da f v _=(if k=f then(k,v)::r else(k,x)::da f v r)from rfl];by_cases b:k=f
  ·rw[Yh b];by_cases h:g=k
   ·have a:=ZT.mpr h;simp[List.lookup,a,Yh<|h.trans b]
   ·have a:=Zh.mpr h;simp[List.lookup,a,Yp (λe:g=f=>h<|e.trans b.symm)]
  ·rw[Yp b];by_cases h:g=k
   ·have a:=ZT.mpr h;simp[List.lookup,a,Yp (λe:g=f=>b<|h.symm.trans e)]
   ·have a:=Zh.mpr h;simp[List.lookup,a];exact ih
theorem lu f v:∀fs:List (Str×V),f∈(da f v fs).map (·.1)/\∀g,g∈fs.map (·.1)->g∈(da f v fs).map (·.1)
 |[]=>⟨by simp[da],λg h=>by simp at h⟩
 |(k,x)::r=>by
  obtain⟨b,i⟩:=lu f v r;rw[show da f v _=(if k=f then(k,v)::r else(k,x)::da f v r)from rfl];by_cases a:k=f
  ·rw[Yh a];subst a;exact⟨by simp,λg h=>by simpa using h⟩
  ·rw[Yp a];refine⟨?_,λg h=>?_⟩
   ·rw[YD];exact Ye _ b
   ·rw[YD]at h ⊢;rcases Yw.mp h with e|e
    ·exact Yw.mpr<|.inl e
    ·exact Ye _<|i g e
theorem lW f v:∀fs:List (Str×V),(da f v fs).length<=fs.length+1
 |[]=>by simp[da]
 |(k,x)::r=>by
  have ih:=lW f v r;rw[show da f v _=(if k=f then(k,v)::r else(k,x)::da f v r)from rfl];by_cases h:k=f
  ·rw[Yh h,Yg,Yg];omega
  ·rw[Yp h,Yg,Yg];omega
def RelO.some_of{o}(r:RelO (some v) o):∃u,o=some u/\RelV v u:=by
 cases o with
 |none=>exact(show False from r).elim
 |some u=>exact⟨u,rfl,r⟩
def RelO.none_of{o}(r:RelO none o):o=none:=by
 cases o with
 |none=>rfl
 |some u=>exact(show False from r).elim
def xT(r:RelV v u):PySem.W.handedIn u=true:=by
 cases v with
 |non=>cases(show u=Value.none from r);rfl
 |bl b=>cases(show u=Value.bool b from r);rfl
 |int i=>obtain⟨t,e⟩:=(show ∃t,u=Value.int i t from r);cases e;rfl
 |str x=>obtain⟨t,e⟩:=(show ∃t,u=Value.str x t from r);cases e;rfl
 |byt b=>obtain⟨t,e⟩:=(show ∃t,u=Value.bytes b t from r);cases e;rfl
 |flt b=>obtain⟨t,e⟩:=(show ∃t,u=Value.float b t from r);cases e;rfl
 |ref a=>cases(show u=Value.ref a from r);rfl
 |ty n=>cases(show u=Value.type n from r);rfl
section
variable{P:Program}     {fs fs':List (Str×V)}
def mL(b:HOk P w H h)(e:H a=some (.ins C dx fs)):∃mA,ObjM h a dx C mA/\(∀f,RelO (fs.lookup f) (mA f))/\PySem.Within mA (fs.map (·.1))/\fs.length<=1000/\H dx=some (.own a):=by
 obtain⟨d,z,g,ob,mA,n,r,q⟩:=(show ObjOk P w H h a (.ins C dx fs)from b a _ e)
 exact⟨mA,⟨ob,n,g⟩,r,q,z,d⟩
end
structure Cls (K:PySem.W.Frag) (C:Addr):Prop where
 pg:PySem.W.plainGet K C Str.empty=true
 hd:PySem.W.hasDictIn K C=true
 po:PySem.W.plainOver K C=true
 sa:PySem.W.findIn K (.ref C) "__setattr__"=some (some (.builtin "object.__setattr__"))
def Cls.get(c:Cls K C)f:PySem.W.plainGet K C f=true:=c.pg
def NoAttr(K:Kq)(C:Addr)(f:Str):Prop:=PySem.W.findIn K (.ref C) f=some none
def NoAttr.taker{f}(n:NoAttr K C f):PySem.W.takerIn K C f=some none:=by unfold PySem.W.takerIn;rw[show PySem.W.findIn K _ f=some none from n];rfl
structure Meth (K:PySem.W.Frag) (C:Addr) (m:Str) (f:Addr):Prop where
 at_:PySem.W.findIn K (.ref C) m=some (some (.ref f))
 fn:PySem.W.isFn K (.ref f)=true
 kp:PySem.W.keepIn K (.ref f)=true
section
variable       {fs:List (Str×V)}{f:Str}{v:V}  
def oF{b}(I:Inv X pz σ H s)(e:H a=some (.ins C dx fs))(c:Cls X.K C)(n:NoAttr X.K C f)(l:fs.lookup f=some v)
  (h:∀u s',Inv X pz σ H s'->RelV v u->Q u s'):wpAny (model X.prog X.w) A (getAttr (.ref a) f b) Q E s:=by
 obtain⟨m,O,r,_,_,_⟩:=mL I.hok e;obtain⟨u,i,g⟩:=RelO.some_of (v:=v) (o:=m f) (by rw[<-l];exact r f);exact DR I.kIn O (c.get f) c.hd n i (xT g)<|h u _ (I.tok _) g
def nn{Q}(I:Inv X pz σ H s)(e:H a=some (.ins C dx fs))(c:Cls X.K C)(k:Meth X.K C m g)(l:fs.lookup m=none)
  (h:Q (.ref g,[.ref a]) s):wpAny (model X.prog X.w) A (getMethod (.ref a) m pl) Q E s:=by
 obtain⟨b,O,r,_,_,_⟩:=mL I.hok e;have f:=RelO.none_of (by rw[<-l];exact r m);exact zB I.kIn O (c.get m) k.at_ k.fn f h
theorem n_{Q}(I:Inv X pz σ H s)(e:H a=some (.ins C dx fs))(c:Cls X.K C)(n:NoAttr X.K C f)(R:fs.length<1000)(B:RelV y u)
  (h:∀s',Inv X pz σ (upd H a<|.ins C dx<|da f y fs) s'->Q () s'):wpAny (model X.prog X.w) A (setAttr (.ref a) f u) Q E s:=by
 obtain⟨m,O,r,j,_,l⟩:=mL I.hok e;have J:(fs.map (·.1)).length<=sizeLine:=by rw[Yc,YL];omega
 refine EG I.kIn O c.sa c.po n.taker c.hd j J λP i p=>h _ ?_;have M:∃o,P.get? dx=some o:=let ⟨o,_,_,e',_⟩:=i.ns;⟨o,e'⟩
 refine I.write (by rw[e];exact True.intro) (.inr l) (λb q N z=>(p.2 b N).trans z) M ?_;refine⟨by rwa[aA O.ne],?_,O.ne,i.obj,_,i.ns,λg=>?_,λg L=>?_⟩
 ·have:=lW f y fs;omega
 ·rw[lZ];by_cases q:g=f
  ·rwa[Yh q,Yh q]
  ·rw[Yp q,Yp q];exact r g
 ·by_cases q:g=f
  ·rw[q];exact(lu f y fs).1
  ·refine(lu f y fs).2 g<|j g λz=>L ?_;show(if g=f then some u else m g)=none;rwa[Yp q]
def Inv.made(I:Inv X pz σ H s):Inv X pz σ (upd (upd H s.heap.objs.size (.own (s.heap.objs.size+1))) (s.heap.objs.size+1) (.ins C s.heap.objs.size []))
  {s with heap:=(s.heap.push PySem.W.emptyDict).push<|PySem.W.instObj C s.heap.objs.size}:=by
 have g:(s.heap.push PySem.W.emptyDict).get? s.heap.objs.size=some PySem.W.emptyDict:=YK s.heap rfl;have l:((s.heap.push PySem.W.emptyDict).push<|PySem.W.instObj C s.heap.objs.size).get? (s.heap.objs.size+1)=some (PySem.W.instObj C s.heap.objs.size):=by
  have:=YK (s.heap.push PySem.W.emptyDict) (o:=PySem.W.instObj C s.heap.objs.size) rfl
  rwa [Vb]at this
 have j:(s.heap.push PySem.W.emptyDict).Ns s.heap.objs.size _:=⟨PySem.W.emptyDict,#[],_,g,rfl,(λe i=>absurd i<|by simp),λ_=>rfl⟩
 have m:=I.laid (o:=.own<|s.heap.objs.size+1) (t':=s.toks) (λb u q=>Yx _ q) (Yy _) ⟨_,g⟩;refine m.laid (λb u q=>Yx _ q) (ZP<|Vb _ _) ?_;have f:s.heap.objs.size≠s.heap.objs.size+1:=YJ<|XG _;refine⟨by rw[aA f,aE],YQ _,f,l,λ_=>none,(Heap.Ns1.of_empty j).at λo q=>Yx _ q,λ_=>True.intro,λy h=>absurd rfl h⟩
def DH(b:attributeBase e f env (eval e env)=eval e env)
  (h:wpAny (model prog w) A (eval e env) (λo a=>wpAny (model prog w) A (getAttr o f true) Q E a) E s):wpAny (model prog w) A (eval (.Attribute e f pos) env) Q E s:=
 Attribute_any_ h<|by rw[arm_eval_Attribute,b]
end
def J3(K:Kq)(ta:TE)(f:Str):TE:=λe H Q=>ta e H λx b=>∃a C g fs v,x=.ref a/\b a=some (.ins C g fs)/\Cls K C/\NoAttr K C f/\fs.lookup f=some v/\Q v b
def Kf(K:Kq)(ta tv:TE)(f:Str):TS:=λD b H=>tv b H λy h=>ta b h λx g=>∃a C e fs,x=.ref a/\g a=some (.ins C e fs)/\Cls K C/\NoAttr K C f/\fs.length<1000 /\
 D.nx b (upd g a<|.ins C e<|da f y fs)
def Kc(X:Cx)(op:Operator)(rd:V->V->Hp->VK->Prop):Prop:=
 ∀(p:Kp) s (a:St) H x y u v Q,Inv X p a H s->RelV x u->RelV y v->rd x y H Q->wpAny (model X.prog X.w) X.A (inplaceOp op u v) (EP X p a Q) X.xe s
def Cz(K:Kq)(ta tv:TE)(rd:V->V->Hp->VK->Prop)(f:Str):TS:=λD g H=>ta g H λx i=>∃a C j fs v,x=.ref a/\i a=some (.ins C j fs)/\Cls K C/\NoAttr K C f/\fs.lookup f=some v /\
 tv g i λy l=>rd v y l λz h=>∃e b,h a=some (.ins C e b)/\b.length<1000/\D.nx g (upd h a<|.ins C e<|da f z b)
section
variable   {f:Str}  
def jN(he:PE X e ta)(m:attributeBase e f X.env (eval e X.env)=eval e X.env):PE X (.Attribute e f pos) (J3 X.K ta f):=by intro p s g H Q I h;refine DH m<|a9 (he p s g H _ I h) λu J x A z i b=>?_;obtain⟨a,C,L,fs,v,o,w,c,n,l,q⟩:=b;subst o;obtain rfl:u=Value.ref a:=i;exact oF z w c n l λB E y j=>⟨v,A,y,j,q⟩
def vk(A:PE X o ta)(hv:PE X value tv)(z:swapsWith value (some (.Attribute o f pos')) pos.line X.env=pure false):PS X (.Assign [.Attribute o f pos'] value pos) (Kf X.K ta tv f):=by intro p s b H D I h;refine plainObj_wpAny_Assign_Attribute (a9 (hv p s b H _ I h) λu g y N M i q=>a9 (A p g b N _ M q) λw P x R L j e=>?_) z;obtain⟨a,C,Q,fs,B,E,c,n,l,m⟩:=e;subst B;obtain rfl:w=Value.ref a:=j;exact n_ L E c n l i λO J=>⟨b,_,J,m⟩
def yY(P:PE X o ta)(hv:PE X value tv)(g:Kc X op rd):PS X (.AugAssign (.Attribute o f tpos) op value pos) (Cz X.K ta tv rd f):=by intro p s e H D I h;refine wpAny_AugAssign_AttributeAny<|a9 (P p s e H _ I h) λN s1 x H1 I1 E b=>?_;obtain⟨a,C,dx,fs,v,R,S,c,n,l,q⟩:=b;subst R;obtain rfl:N=Value.ref a:=E;refine oF I1 S c n l λu m I2 J=>a9 (hv p m e H1 _ I2 q) λw j y H2 Z B M=>a9 (g p j e H2 v y u w _ Z J B M) λw4 s4 z H3 Y A b=>?_;obtain⟨T,Q,i,O,L⟩:=b;exact n_ Y i c n O A λs5 U=>⟨e,_,U,L⟩
end
section
variable         {c:Value}{b:Bool}
inductive TyOf (K:PySem.W.Frag) (H:Hp):V->Value->Prop where
 |non:TyOf K H .non (.type "NoneType")
 |bl (x:Bool):TyOf K H (.bl x) (.type "bool")
 |int (i:Int):TyOf K H (.int i) (.type "int")
 |str (x:Str):TyOf K H (.str x) (.type "str")
 |flt (x:UInt64):TyOf K H (.flt x) (.type "float")
 |lst {a:Addr}{xs:List V} (e:H a=some (.lst xs)):TyOf K H (.ref a) (.type "list")
 |frz {a:Addr}{o:Obj}{xs:List V} (e:H a=some (.frz o (.lst xs))):TyOf K H (.ref a) (.type "list")
 |tup {a:Addr}{xs:List V} (e:H a=some (.tup xs)):TyOf K H (.ref a) (.type "tuple")
 |dK {a:Addr}{kvs:List (Key×V)} (e:H a=some (.dK kvs)):TyOf K H (.ref a) (.type "dict")
 |dT {a:Addr}{kvs:List (List Key×V)} (e:H a=some (.dT kvs)):TyOf K H (.ref a) (.type "dict")
 |ins {a C dx:Addr}{fs:List (Str×V)} (e:H a=some (.ins C dx fs)) (cl:Cls K C) (ha:PySem.W.findIn K (.ref C) "__class__"=some (some (.builtin "object.__class__")))
   (hn:PySem.W.specialIn K (.builtin "object.__class__") "__get__"=some (some (.builtin "getset_descriptor.__get__"))) (htk:PySem.W.takesIn K (.builtin "object.__class__")=some true)
   (hm:PySem.W.mroIn K C (.type "object")=some true):TyOf K H (.ref a) (.ref C)
def yW{x}(I:Inv X pz σ H s)(f:RelV x u)(ty:TyOf X.K H x t)(e:PySem.W.kitOne X.K t c=some b)(h:∀tk,Q (.bool b) {s with toks:=tk}) :
  wpAny (model X.prog X.w) A (call (.builtin "isinstance") [u,c]) Q E s:=by
 cases ty with
 |non=>cases(show u=Value.none from f);exact Zr PySem.W.kitx_none I.kIn True.intro e (λz=>nomatch z) h
 |bl y=>cases(show u=Value.bool y from f);exact Zr PySem.W.kitx_bool I.kIn True.intro e (λz=>nomatch z) h
 |int i=>obtain⟨t,q⟩:=(show ∃t,u=Value.int i t from f);cases q;exact Zr PySem.W.kitx_int I.kIn True.intro e (λz=>nomatch z) h
 |str y=>obtain⟨t,q⟩:=(show ∃t,u=Value.str y t from f);cases q;exact Zr PySem.W.kitx_str I.kIn True.intro e (λz=>nomatch z) h
 |flt y=>obtain⟨t,q⟩:=(show ∃t,u=Value.float y t from f);cases q;exact Zr PySem.W.kitx_float I.kIn True.intro e (λz=>nomatch z) h
 |@lst a j ea=>
  cases(show u=Value.ref a from f);obtain⟨_,_,n,_,g⟩:=(show ObjOk X.prog X.w H s.heap a (.lst j)from I.hok a _ ea)
  exact Zr PySem.W.kitx_list I.kIn ⟨_,g,rfl⟩ e (λz=>nomatch z) h
 |@frz a ob j ea=>
  cases(show u=Value.ref a from f);obtain⟨_,_,_,n,_,g⟩:=(show ObjOk X.prog X.w H s.heap a (.frz ob _)from I.hok a _ ea)
  exact Zr PySem.W.kitx_list I.kIn ⟨_,g,rfl⟩ e (λz=>nomatch z) h
 |@tup a j ea=>
  cases(show u=Value.ref a from f);obtain⟨_,_,_,p,_⟩:=(show ObjOk X.prog X.w H s.heap a (.tup j)from I.hok a _ ea)
  obtain⟨o,g,l,_⟩:=p;exact Zr PySem.W.kitx_tuple I.kIn ⟨o,g,l⟩ e (λz=>nomatch z) h
 |@dK a kvs ea=>
  cases(show u=Value.ref a from f);obtain⟨_,_,L,_,p⟩:=(show ObjOk X.prog X.w H s.heap a (.dK kvs)from I.hok a _ ea)
  obtain⟨o,m,B,g,l,_⟩:=p;exact Zr PySem.W.kitx_dict I.kIn ⟨o,g,l.1⟩ e (λz=>nomatch z) h
 |@dT a kvs ea=>
  cases(show u=Value.ref a from f);obtain⟨_,_,j,_,o,m,B,g,l,_⟩:=(show ObjOk X.prog X.w H s.heap a (.dT kvs)from I.hok a _ ea)
  exact Zr PySem.W.kitx_dict I.kIn ⟨o,g,l.1⟩ e (λz=>nomatch z) h
 |@ins a C dx fs ea cl ha hn htk hm=>
  cases(show u=Value.ref a from f);obtain⟨N,O,_⟩:=mL I.hok ea;obtain⟨M,J,_⟩:=O.look;exact Zr (PySem.W.kitx_own (cl.get _) cl.hd ha hn htk hm) I.kIn J e (λz=>nomatch z) h
end
structure Room (k:Nat) (A:Around):Prop where
 hd:A.handled=none
 dp:A.depth+3*k+5<recursionLimit
 un:A.units+16*k+200<cLine
theorem Room.mono(r:Room k A)(h:j<=k):Room j A:=⟨r.hd,by have:=r.dp;omega,by have:=r.un;omega⟩
theorem Room.deeper(r:Room (k+1) A)env:Room k (A.deeper env):=
 ⟨r.hd,by have:=r.dp;show A.depth+1+3*k+5<_;omega,by have:=r.un;show A.units+3+16*k+200<_;omega⟩
def vP:(A.under (.builtin "type.__call__" ⟨.ref C::us,kw⟩)).depth=A.depth+1:=by
 first|rfl|simp[Around.under,Code.weight,Code.isCreation,Code.isGuard,Code.isCaller,Code.frames,Code.isFrame,guardIds]
def vU:(A.under (.builtin "type.__call__" ⟨.ref C::us,kw⟩)).units=A.units+1:=by
 first|rfl|simp[Around.under,Code.cUnits,Code.frames,Code.isFrame]
theorem Room.make(r:Room (k+1) A)C us kw:Room k (A.under (.builtin "type.__call__" ⟨.ref C::us,kw⟩)):=
 ⟨r.hd,by have:=r.dp;rw[vP];omega,by have:=r.un;rw[vU];omega⟩
theorem Room.depth(r:Room k A):A.depth<recursionLimit:=by have:=r.dp;omega
def qN:TA:=λ_ H Q=>Q [] H
def nJ(ta:TE)(e:TA):TA:=λa H Q=>ta a H λx g=>e a g λb f=>Q (x::b) f
section
variable     {t:TA} 
def aZ:PA X [] qN:=λ_ _ _ _ H Q I h=>Calls.spliced_nil ⟨[],H,I,.nil,h⟩
def aI(w:PE X e te)(o:PA X es t)(m:starEach (e::es) X.env=(false,eval e X.env)::starEach es X.env:=by rfl):PA X (e::es) (nJ te t):=by intro p b s a H Q I h;rw[m];refine ZU<|a9 (w b s a H _ I h) λu g x B z j l=>?_;exact a9 (o p b g a B _ z l) λC E f A y i q=>⟨x::f,A,y,.cons j i,q⟩
def JK(t:TA):TE:=λb H Q=>t b H λx a=>x.length<=sizeLine/\∀p,a p=none->Q (.ref p) (upd a p<|.tup x)
def I_(t:TA):TE:=λb H Q=>t b H λx a=>x.length<=sizeLine/\∀p,a p=none->Q (.ref p) (upd a p<|.lst x)
def vm{x1}(h:PA X es t):PE X (.Tuple es x1 pos) (JK t):=by intro p s i H Q I l;refine wpAny_Tuple_spliced<|a9 (h pos p s i H _ I l) λj a x g f r ⟨z,q⟩=>⟨by rwa[<-r.length],?_⟩;have m:=f.hok.fresh<|Yy _;refine⟨.ref a.heap.objs.size,upd g a.heap.objs.size _,f.laid (λb u e=>Yx _ e) (Yy _) ?_,rfl,q _ m⟩;exact⟨z,j,r,⟨_,YK _ rfl,rfl,_,rfl⟩,_,YK _ rfl,rfl⟩
def jW(h:PA X es t):PE X (.List es pos) (I_ t):=by intro p s i H Q I l;refine wpAny_List_spliced<|a9 (h pos p s i H _ I l) λj a x g f r ⟨z,q⟩=>⟨by rwa[<-r.length],?_⟩;have m:=f.hok.fresh<|Yy _;refine⟨.ref a.heap.objs.size,upd g a.heap.objs.size _,f.laid (λb u e=>Yx _ e) (Yy _) ?_,rfl,q _ m⟩;exact⟨z,j,0,r,YK _ rfl⟩
end
abbrev Sp:=List V->Hp->VK->XK->Prop
abbrev CXT:=List Env->Hp->Shared->XK->Value->Shared->Prop
structure Env0 (P:Program) (w:World) (K:PySem.W.Frag) (mg:Str->Option Value) (base:Heap) (A:Around) (outer:List Env) (s:Shared) (H:Hp):Prop where
 frames:A.frames=some outer
 mod:Mod K mg base
 bs:∀b o,base.get? b=some o->s.heap.get? b=some o/\H b=none
 bsz:base.objs.size<=s.heap.objs.size
 funs:s.heap.FunFrames base outer
 frf:∀b∈frs outer,H b=none
 hok:HOk P w H s.heap
 bare:AllBare s.gens
def CE(outer:List Env)(P:Program)(w:World)(H:Hp)(s:Shared)(Q:VK)(u:Value)(s':Shared):Prop:=
 ∃v a,s'.os=s.os/\AllBare s'.gens/\Un (frs outer) [] H a s.heap s'.heap/\HOk P w a s'.heap/\RelV v u/\Q v a
def CR(CX:CXT)(outer:List Env)(P:Program)(w:World)(H:Hp)(s:Shared)(Q:VK)(E:XK)(r:Result)(s':Shared):Prop:=
 match r with
 |.ok (.ret u)=>CE outer P w H s Q u s'
 |.ok _=>False
 |.error e=>CX outer H s E e s'
structure FnOk (P:Program) (w:World) (K:PySem.W.Frag) (mg:Str->Option Value) (base:Heap) (CX:CXT) (k:Nat) (f:Addr) (fd:FuncData) (ps:List Str) (sp:Sp):Prop where
 len:∀vs H Q E,sp vs H Q E->vs.length=ps.length
 run:∀(A:Around) (outer:List Env) (s:Shared) (H:Hp) (args:Args) (us:List Value) (vs:List V) (Q:VK) (E:XK),Room k A->Env0 P w K mg base A outer s H->BindsTo s fd args (ps.zip us)->Vals vs us->sp vs H Q E->
  codeAny (model P w) A (.call (.ref f) args) (CR CX outer P w H s Q E) s
def FnOk.imp{P}{a}(F:FnOk P w K mg base CX k f fd ps sp)
  (h:∀vs H Q E,a vs H Q E->sp vs H Q E):FnOk P w K mg base CX k f fd ps a:=
 ⟨λvs H Q E q=>F.len vs H Q E<|h _ _ _ _ q,λA o s H b u vs Q E i j l e g=>F.run A o s H b u vs Q E i j l e<|h _ _ _ _ g⟩
def Env0.make{P}(e:Env0 P w K mg base A outer s H)C us kw :
  Env0 P w K mg base (A.under<|.builtin "type.__call__" ⟨.ref C::us,kw⟩) outer s H:=⟨by first|exact e.frames|(simpa[Around.under,Code.envs,Code.isFrame,pushEnvs]using e.frames),e.mod,e.bs,e.bsz,e.funs,e.frf,e.hok,e.bare⟩
def Inv.env0(I:Inv X pz σ H s):Env0 X.prog X.w X.K X.mg X.base X.A X.stack s H:=
 ⟨I.ok.frames,I.ok.mod,I.bs,YW I.ok.bsz I.sz,I.stack,I.stkFree,I.hok,I.bare⟩
def Inv.after{Q}(I:Inv X pz σ H s)(h:CE X.stack X.prog X.w H s Q u s'):EP X pz σ Q u s':=by obtain⟨v,j,f,a,un,e,r,q⟩:=h;obtain⟨i,g,d,t,o⟩:=s';obtain rfl:o=s.os:=f;exact⟨v,j,I.call un e a λb z=>absurd z<|by simp,r,q⟩
def wX(sp:Sp)(dvs:List V)(E:XK)(t:TA):TE:=λa H Q=>t a H λb e=>sp (b++dvs) e Q E
def nP(C:Addr)(m:Str)(sp:Sp)(dvs:List V)(E:XK)(ta:TE)(t:TA):TE:=λb H Q=>ta b H λx e=>∃a g fs,x=.ref a/\e a=some (.ins C g fs)/\fs.lookup m=none /\
 t b e λf h=>sp (x::(f++dvs)) h Q E
def Iz(C:Addr)(sp:Sp)(dvs:List V)(E:XK)(t:TA):TE:=λe H Q=>t e H λf b=>∀x a,b x=none->b a=none->a≠x->
 sp (.ref x::(f++dvs)) (upd (upd b a<|.own x) x<|.ins C a []) (λv g=>v=.non/\Q (.ref x) g) E
def Binds(K:Kq)(fd:FuncData)(ps:List Str)(ds:List Value):Prop:=
 ∀s u,K.In s.heap->(u++ds).length=ps.length->BindsTo s fd ⟨u,[]⟩ (ps.zip<|u++ds)
def Binds.all(h:∀us:List Value,us.length=ps.length->bindArgs fd ⟨us,[]⟩=pure (ps.zip us)):Binds K fd ps []:=λs us _ a=>by
 rw[Yl]at a ⊢;exact .of_eq<|h us a
def jc(CX:CXT)(X:Cx)(E:XK):Prop:=∀(p:Kp) (b:St) H s e a,Inv X p b H s->CX X.stack H s E e a->X.xe e a
section
variable   {k:Nat}     {dvs:List V}{ds:List Value}{E:XK}      {t:TA}
def v9{Q}(F:FnOk X.prog X.w X.K X.mg X.base CX k f fd ps sp)(i:Room k X.A)(l:Binds X.K fd ps ds)(hd:Vals dvs ds)(hx:jc CX X E)
  (I:Inv X pz σ H s) (r:Vals vs us) (h:sp (vs++dvs) H Q E):wpAny (model X.prog X.w) X.A (call (.ref f) us) (EP X pz σ Q) X.xe s:=by
 have b:=r.append hd;have j:(us++ds).length=ps.length:=by rw[<-b.length];exact F.len _ _ _ _ h
 refine wpAny_call<|Vs (F.run X.A X.stack s H ⟨us,[]⟩ _ _ Q E i I.env0 (l s us I.kIn j) b h) λr g a=>?_;cases r with
 |error e=>exact hx pz σ H s e g I a
 |ok m=>
  cases m with
  |ret u=>exact I.after a
  |next=>exact False.elim a
  |brk=>exact False.elim a
  |cont=>exact False.elim a
def mX(F:FnOk X.prog X.w X.K X.mg X.base CX k f fd ps sp)(l:Room k X.A)(u:Gl X x)(m:X.mg x=some (.ref f))(o:PySem.W.keepIn X.K (.ref f)=true)(y:Binds X.K fd ps ds)(hd:Vals dvs ds)(hx:jc CX X E)
  (z:PA X (e::es) t) (b:nDb x:=by decide) (he:starEach (e::es) X.env=(false,eval e X.env)::starEach es X.env:=by rfl) (a:(backTo pos<|starEach es X.env).any (·.1)=false:=by rfl) :
  PE X (.Call (.Name x p) (e::es) [] pos) (wX sp dvs E t):=by
 intro j s i H Q I h;refine Xj<|fJ I u m ?_ b;refine XO I.ok.mod.kin o (a9 (z pos j s i H _ I h) λC J B L g r q=>⟨g.kIn,?_⟩) he a;exact v9 F l y hd hx g r q
def wJ{pl}(he:PE X o ta)(c:Cls X.K C)(z:Meth X.K C m f)(F:FnOk X.prog X.w X.K X.mg X.base CX k f fd ps sp)(P:Room k X.A)(R:Binds X.K fd ps ds)(hd:Vals dvs ds)(hx:jc CX X E)(S:PA X (e::es) t)
  (b:starEach (e::es) X.env=(false,eval e X.env)::starEach es X.env:=by rfl) (g:(backTo pos<|starEach es X.env).any (·.1)=false:=by rfl)
  (O:eval (.Call (.Attribute o m apos) (e::es) [] pos) X.env=(do
   let y <-eval o X.env
   standAt apos.atName
   let (f,first) <-holding [y]<|getMethod y m pl
   callWith pos f first (backTo pos<|starEach (e::es) X.env)<|backToKw pos<|keywordEach [] X.env):=by rfl) :
  PE X (.Call (.Attribute o m apos) (e::es) [] pos) (nP C m sp dvs E ta t):=by
 intro p s j H Q I h;refine PySem.W.methodCall_KW (a9 (he p s j H _ I h) λu L x Y J M i=>?_) O;obtain⟨a,dx,fs,T,U,l,q⟩:=i;subst T;obtain rfl:u=Value.ref a:=M;refine nn J U c z l ?_;refine XO I.ok.mod.kin z.kp (a9 (S pos p L j Y _ J q) λus Z vs H2 B r N=>⟨B.kIn,?_⟩) b g;exact v9 (vs:=.ref a::vs) F P R hd hx B (.cons rfl r) N
def tT(he:PE X o ta)(c:Cls X.K C)(i:Meth X.K C m f)(F:FnOk X.prog X.w X.K X.mg X.base CX k f fd ps sp)(B:Room k X.A)(J:Binds X.K fd ps ds)(hd:Vals dvs ds)(hx:jc CX X E)
  (z:eval (.Call (.Attribute o m apos) [] [] pos) X.env=(do
   let g <-eval o X.env
   standAt apos.atName
   let (f,first) <-holding [g]<|getMethod g m pl
   callWith pos f first (backTo pos<|starEach [] X.env)<|backToKw pos<|keywordEach [] X.env):=by rfl) :
  PE X (.Call (.Attribute o m apos) [] [] pos) (nP C m sp dvs E ta qN):=by
 intro y s j H Q I h;refine PySem.W.methodCall_KW (a9 (he y s j H _ I h) λu N x P e p b=>?_) z;obtain⟨a,O,fs,L,M,l,q⟩:=b;subst L;obtain rfl:u=Value.ref a:=p;refine nn e M c i l ?_;exact PySem.W.callWith_K0 e.kIn i.kp<|v9 (vs:=[.ref a]) F B J hd hx e (.cons rfl .nil) q
structure Mk (K:PySem.W.Frag) (C f:Addr):Prop where
 makes:PySem.W.makesIn K C=true
 init:PySem.W.findIn K (.ref C) "__init__"=some (some (.ref f))
 fn:PySem.W.isFn K (.ref f)=true
 kp:PySem.W.keepIn K (.ref C)=true
def Bt{Q}(M:Mk X.K C f)(F:FnOk X.prog X.w X.K X.mg X.base CX k f fd ps sp)(m:Room (k+1) X.A)(p:Binds X.K fd ps ds)(hd:Vals dvs ds)
  (hx:jc CX X E) (I:Inv X pz σ H s) (r:Vals vs us)
  (h:∀x dx,H x=none->H dx=none->dx≠x->sp (.ref x::(vs++dvs)) (upd (upd H dx<|.own x) x<|.ins C dx []) (λv H2=>v=.non/\Q (.ref x) H2) E) :
  wpAny (model X.prog X.w) X.A (call (.ref C) us) (EP X pz σ Q) X.xe s:=by
 have i:=h _ s.heap.objs.size (I.hok.fresh<|Nat.le_succ _) (I.hok.fresh<|Yy _)<|YJ<|XG _;have b:=Inv.made (C:=C) I;have g:Vals (V.ref _::(vs++dvs)) (Value.ref (s.heap.objs.size+1)::(us++ds)):=.cons rfl<|r.append hd;have o:(Value.ref (s.heap.objs.size+1)::us++ds).length=ps.length:=by have e:=g.length;rw[F.len _ _ _ _ i]at e;exact e.symm
 refine wpAny_call<|Bh I.kIn M.makes M.init (ZT.mp M.fn)<|Vs (F.run _ X.stack _ _ ⟨Value.ref _::us,[]⟩ _ _ _ E (m.make C us [])
  (b.env0.make C us []) (p _ _ b.kIn o) g i) λr j a=>?_
 cases r with
 |error e=>exact hx pz σ _ _ e j b a
 |ok y=>
  cases y with
  |ret u=>
   obtain⟨v,J,B,l,z,q⟩:=b.after a;subst z;exact⟨l,⟨V.ref _,J,B,rfl,q⟩⟩
  |next=>exact False.elim a
  |brk=>exact False.elim a
  |cont=>exact False.elim a
def xA(M:Mk X.K C f)(F:FnOk X.prog X.w X.K X.mg X.base CX k f fd ps sp)(l:Room (k+1) X.A)(o:Gl X x)(m:X.mg x=some (.ref C))(u:Binds X.K fd ps ds)(hd:Vals dvs ds)(hx:jc CX X E)
  (y:PA X (e::es) t) (b:nDb x:=by decide) (he:starEach (e::es) X.env=(false,eval e X.env)::starEach es X.env:=by rfl) (a:(backTo pos<|starEach es X.env).any (·.1)=false:=by rfl) :
  PE X (.Call (.Name x p) (e::es) [] pos) (Iz C sp dvs E t):=by
 intro j s i H Q I h;refine Xj<|fJ I o m ?_ b;refine XO I.ok.mod.kin M.kp (a9 (y pos j s i H _ I h) λB J z L g r q=>⟨g.kIn,?_⟩) he a;exact Bt M F l u hd hx g r q
end
section
variable   {k:Nat}   {ks:List Str}  {E:XK}  {kpos:Pos}   {kws:List Keyword}  {t tk:TA}{nm:Option Str}
variable{g:List Value->List Value->List Value}{gV:List V->List V->List V}
end
structure FnScope (N P:List Str) (sc:Scope):Prop where
 kind:sc.kind=.function
 co:sc.isCoroutine=false
 gen:sc.isGenerator=false
 nd:N.Nodup
 pre:N.take P.length=P
 par:∀x∈P,sc.names.lookup x=some .local\/sc.names.lookup x=some .cell
 nofree:∀y∈sc.names,y.2≠.free
theorem pN{a} :∀{b}{m:Ks},(∀v,(x,v)∉b)->bindL a b m x=m x
 |[],_,_=>rfl
 |(n,v)::r,m,h=>by
  unfold bindL;rw[pN λw e=>h w<|Ye _ e];split
  ·have:x≠n:=by rintro rfl;exact h v Yf
   simp[this]
  ·rfl
theorem pS{a} :∀{b}{m:Ks},(∀v,(x,v)∉b)->bindC a b m x=m x
 |[],_,_=>rfl
 |(n,v)::r,m,h=>by
  unfold bindC;rw[pS λw e=>h w<|Ye _ e];split
  ·rfl
  ·have:x≠n:=by rintro rfl;exact h v Yf
   simp[this]
theorem pL{a}{v}:∀{P:List Str}{vs}{i:Nat}{m:Ks},P.Nodup->P[i]?=some x->vs[i]?=some v->a x=some .local->
  bindL a (P.zip vs) m x=some v
 |[],_,_,_,_,h,_,_=>by simp at h
 |_::_,[],_,_,_,_,h,_=>by simp at h
 |p::P,w::vs,0,m,nd,h1,h2,hk=>by
  simp at h1 h2;subst h1;subst h2;show bindL a ((p,w)::P.zip vs) m p=_;unfold bindL;rw[pN λv b=>(YG.mp nd).1 (List.of_mem_zip b).1,Yh hk];simp
 |p::P,w::vs,i+1,m,nd,h1,h2,hk=>by
  unfold bindL;exact pL (YG.mp nd).2 (by simpa using h1) (by simpa using h2) hk
theorem pM{a}{v}:∀{P:List Str}{vs}{i:Nat}{m:Ks},P.Nodup->P[i]?=some x->vs[i]?=some v->a x≠some .local->
  bindC a (P.zip vs) m x=some v
 |[],_,_,_,_,h,_,_=>by simp at h
 |_::_,[],_,_,_,_,h,_=>by simp at h
 |p::P,w::vs,0,m,nd,h1,h2,hk=>by
  simp at h1 h2;subst h1;subst h2;show bindC a ((p,w)::P.zip vs) m p=_;unfold bindC;rw[pS λv b=>(YG.mp nd).1 (List.of_mem_zip b).1,Yp hk];simp
 |p::P,w::vs,i+1,m,nd,h1,h2,hk=>by
  unfold bindC;exact pM (YG.mp nd).2 (by simpa using h1) (by simpa using h2) hk
def start(N:List Str)(vs:List V):St:=vs.map some++List.replicate (N.length-vs.length) none
noncomputable def cY(CX:CXT)(P:Program)(w:World)(K:Kq)(mg:Ks)(base:Heap)(N:List Str)(qual:Str)(scope:Scope)(f:Addr)(cd:Value)(A:Around)(outer:List Env)(s:Shared)(H:Hp)(E:XK):Cx where
 prog:=P
 w:=w
 K:=K
 mg:=mg
 base:=base
 A:=A.deeper<|envOfC qual scope s.heap.objs.size f cd
 N:=N
 s₀:=s
 H₀:=H
 env:=envOfC qual scope s.heap.objs.size f cd
 outer:=outer
 stack:=envOfC qual scope s.heap.objs.size f cd::outer
 ex:=[]
 calm:=true
 fn:=λ_=>true
 pn:=[]
 xe:=λe b=>wpAny (model P w) (A.deeper<|envOfC qual scope s.heap.objs.size f cd) (leaving (envOfC qual scope s.heap.objs.size f cd) e) (λ_ a=>CX outer H s E e a) (λg a=>CX outer H s E g a) b
def uM{s:Scope}(h:s.names.lookup x=some .cell):∃c,(cellsFrom n s.names []).lookup x=some c:=by have q:=Xf s.names n []<|.inl h;exact ZZ.mp q
theorem yR{P}{E}  
  (S:FnScope N ps scope) (hd:A.handled=none) (e0:Env0 P w K mg base A outer s H) (Q:vs.length=ps.length) (r:Vals vs us)
  (x:InCallC s s.heap.objs.size (bindL (envOfC qual scope s.heap.objs.size f cd).kindOf (ps.zip us) λ_=>none) (cellsFrom (s.heap.objs.size+1) scope.names []) (bindC (envOfC qual scope s.heap.objs.size f cd).kindOf (ps.zip us) λ_=>none) s1) :
  Inv (cY CX P w K mg base N qual scope f cd A outer s H E) [] (start N vs) H s1:=by
 have L:ps.length<=N.length:=by have:=YH List.length S.pre;rw[List.length_take]at this;omega
 obtain⟨B,O,rfl,I⟩:=x.done;have j:∀b:Addr,b∉(cY CX P w K mg base N qual scope f cd A outer s H E).ex:=λb z=>absurd (show b∈([])from z)<|by simp
 refine⟨⟨e0.mod,S.kind,rfl,rfl,Yy _,λy z c B g=>?_,λy hy=>?_,λy c _ h=>?_,λ_=>hd,Around.frames_deeper e0.frames,.inr ⟨rfl,rfl⟩,λb z=>absurd z<|j b,e0.bs,e0.bsz,λb _ _=>j b,λb z=>absurd z<|j b,e0.funs,e0.frf⟩,
  rfl,e0.bare,Un.kept I,⟨_,x.toInCall.ns,λi y v B g R=>?_⟩,λy c h=>⟨_,x.cell y c h⟩,e0.hok.fresh<|Yy _,λy c h=>?_,λp m=>absurd (show p∈([])from m)<|by simp,e0.hok.kept I,?_⟩
 ·exact name_of_addr x.apart (Zt B)<|Zt g
 ·have hy:=hy;rcases hy with hy|hy
  ·exact uM hy
  ·exact absurd rfl<|S.nofree _<|Zt hy
 ·exact Zz<|x.above y c<|Zt h
 ·have o:i<vs.length:=by
   unfold start at g;by_cases o:i<vs.length
   ·exact o
   ·rw[ZB<|by simpa using o]at g;rw[Xc]at g;split at g<;>cases g
  have M:vs[i]?=some v:=by
   unfold start at g;rw[ZF<|by simpa using o,YI]at g;cases e:vs[i]? with
   |none=>rw[e]at g;cases g
   |some a=>rw[e]at g;cases g;rfl
  obtain⟨u,C,J⟩:=r.get M;have m:ps[i]?=some y:=by rwa[<-S.pre,List.getElem?_take_of_lt<|by omega]
  have l:ps.Nodup:=by rw[<-S.pre];exact S.nd.sublist<|List.take_sublist _ _
  refine⟨u,J,?_⟩;rcases S.par y (Zd m)with k|k
  ·exact .inl ⟨k,pL l m C k⟩
  ·obtain⟨c,e⟩:=uM (n:=s.heap.objs.size+1) k;refine .inr ⟨.inl k,c,e,?_⟩;have q:=x.cell y c e;rwa[pM l m C<|by show scope.names.lookup y≠_;rw[k];decide]at q
 ·exact e0.hok.fresh<|Zz<|x.above y c<|Zt h
 ·unfold start;show _=N.length;rw[Yb,Yc,YA];omega
def B0{P}{p}{M kV doc pm cdv ct oc}
     (lk:K.lookup f=some ⟨oc,od,.func<|PySem.W.fnOf name qual p body scope M kV doc pm an cdv ct,osl⟩) (hcd:PySem.W.codeIn K cdv qual=true) (S:FnScope N ps scope)
  (len:∀vs H Q E,sp vs H Q E->vs.length=ps.length)
  (g:∀A outer s H vs Q E,Room k (A.deeper<|envOfC qual scope s.heap.objs.size f cdv)->sp vs H Q E->
   ∃t,PSs (cY CX P w K mg base N qual scope f cdv A outer s H E) body t/\t {nx:=λ_ H'=>Q .non H',rt:=Q} (start N vs) H) :
  FnOk P w K mg base CX (k+1) f (PySem.W.fnOf name qual p body scope M kV doc pm an cdv ct) ps sp:=by
 refine⟨len,λA outer s H O T vs Q E C l hb r j=>?_⟩;have Z:=len _ _ _ _ j;have R:=l.mod.kin.keeps λb o e=>(l.bs b o e).1
 have B:=l.mod.nolimit.keeps λb o e=>(l.bs b o e).1
 have h:∀y∈ps.zip T,scope.names.lookup y.1=some .local\/(scope.names.lookup y.1=some .cell/\((cellsFrom (s.heap.objs.size+1) scope.names []).lookup y.1).isSome=true):=λ⟨n,v⟩ U=>by
  rcases S.par n (List.of_mem_zip U).1 with q|q
  ·exact .inl q
  ·exact .inr ⟨q,Xf _ _ _<|.inl q⟩
 refine codeAny_call_function C.depth (R _ _ lk) rfl S.co S.gen rfl (PySem.W.codeRec_of R hcd)<|hb _ _ _ _ ?_;refine wpAny_newFunctionEnv_cells S.kind h λenv he L x=>?_;subst he;refine⟨B.keeps x.toInCall.keep,codeAny_func ?_⟩;obtain⟨t,X,Y⟩:=g A outer s H vs Q E (C.deeper _) j;have I:Inv (cY CX P w K mg base N qual scope f cdv A outer s H E) [] _ H L:=yR S C.hd l Z r x;refine ZC (X [] L _ H _ I Y) (λfl m i=>?_) λe m i=>i;have fin:∀{a}{H'}{v}{u},Inv (cY CX P w K mg base N qual scope f cdv A outer s H E) [] a H' m->RelV v u->Q v H'->CE outer P w H s Q u m:=
  λ{a H' v u} J z q=>⟨v,H',J.os,J.bare,J.base,J.hok,z,q⟩
 cases fl with
 |ret u=>
  obtain⟨v,a,H',J,z,q⟩:=i;exact fin J z q
 |next=>
  obtain⟨a,H',J,q⟩:=i;exact fin (v:=V.non) J rfl q
 |brk=>
  obtain⟨_,_,_,q⟩:=i;exact False.elim q
 |cont=>
  obtain⟨_,_,_,q⟩:=i;exact False.elim q
section
variable      {t:TA}{id T:String}{r:List V->Hp->VK->Prop}
def tCB(r:List V->Hp->VK->Prop)(t:TA):TE:=λa H Q=>t a H λb e=>r b e Q
def dh(y:CallR X (.builtin id) r)(w:Gl X x)(o:X.mg x=none)(hv:bootBuiltins x=some (.builtin id))(z:PA X (e::es) t)(m:x ≠ "__name__":=by decide)(b:nDb x:=by decide)
  (he:starEach (e::es) X.env=(false,eval e X.env)::starEach es X.env:=by rfl) (a:(backTo pos<|starEach es X.env).any (·.1)=false:=by rfl):PE X (.Call (.Name x p) (e::es) [] pos) (tCB r t):=by
 intro g s f H Q I h;refine Xj<|qK I w o hv ?_ m b;exact PyProof.Rows.callWith_builtin1 (a9 (z pos g s f H _ I h) λu j i B A l q=>y g j f B i u Q A l q) he a
def jp(y:CallR X (.type T) r)(w:Gl X x)(o:X.mg x=none)(hv:bootBuiltins x=some (.type T))(z:PA X (e::es) t)(m:x ≠ "__name__":=by decide)(b:nDb x:=by decide)
  (he:starEach (e::es) X.env=(false,eval e X.env)::starEach es X.env:=by rfl) (a:(backTo pos<|starEach es X.env).any (·.1)=false:=by rfl):PE X (.Call (.Name x p) (e::es) [] pos) (tCB r t):=by
 intro g s f H Q I h;refine Xj<|qK I w o hv ?_ m b;exact PyProof.Rows.callWith_type1 (a9 (z pos g s f H _ I h) λu j i B A l q=>y g j f B i u Q A l q) he a
end
end L2
namespace HT
open PySem PyProof.Rows
def rcLt_int A s a t c u prog w E Q(h:Q (.bool (decide (a<c))) s) :
  wpAny (model prog w) A (richCompare .Lt (.int a t)<|.int c u) Q E s:=
 PyProof.Rows.lt_int h
section
open PySem.SeqAt
open PySem.AutoSeq1 (wpAny_loadPart')
open PySem.MeetsSeq PySem.MeetsSeq2 PySem.MeetsSeq3
end
def cat_tup{t b}{vs a}(z:IsTup s.heap t vs.toArray)(B:IsTup s.heap b a.toArray)(hv:vs≠[])
  (h1:a=[]->Q (.ref t) s) (h2:a≠[]->Q (.ref s.heap.objs.size) {s with heap:=s.heap.push {cls:=.type "tuple",data:=.seq (vs++a).toArray} })
  (hsz:vs.length+a.length<=sizeLine):wpAny (model prog w) A (binaryOp .Add (.ref t)<|.ref b) Q E s:=by
 obtain⟨⟨cls,x,data,p⟩,m,u,n,q⟩:=id z;obtain⟨⟨y,j,o,f⟩,h,i,n2,g⟩:=id B;simp at u q i g;subst u q i g;have e:vs.toArray++a.toArray=(vs++a).toArray:=by simp
 by_cases l:a=[]
 ·exact concat_meets ⟨_,m,rfl⟩ ⟨_,h,rfl⟩ noFill_tuple_add seq_tuple_add PySem.F.slot_tuple_add PySem.F.entry_tuple_add (PySem.F.args_tuple_add_2 _ _)
   (tuple_addW1 t b vs.toArray a.toArray n n2 x j p f (by simpa using hv)<|by simp[l]) ⟨m,h,h1 l⟩
 ·refine concat_meets ⟨_,m,rfl⟩ ⟨_,h,rfl⟩ noFill_tuple_add seq_tuple_add PySem.F.slot_tuple_add PySem.F.entry_tuple_add (PySem.F.args_tuple_add_2 _ _)
   (tuple_addW2 t b vs.toArray a.toArray n n2 x j p f (by simpa using hv) (by simpa using l)<|by rwa[List.size_toArray,List.size_toArray]) ⟨m,h,?_⟩
  rw[e];exact h2 l
end HT
namespace L2
open PySem PySem.Spec PyProof.Rows
abbrev TO:=St->Hp->(Option Int->Hp->Prop)->Prop
def PO(X:Cx)(e:Option Expr)(t:TO):Prop:=
 ∀(p:Kp) s (a:St) H Q,Inv X p a H s->t a H Q->
  wpAny (model X.prog X.w) X.A (evalPart e X.env) (λu f=>∃o b,Inv X p a b f/\IsPart u o/\Q o b) X.xe s
def Cj:TO:=λ_ H Q=>Q none H
def HF(t:TE):TO:=λa H Q=>t a H λx b=>∃i,x=.int i/\Q (some i) b
section
variable    {lo hi:Option Expr}{tl th:TO}{p2:Pos}
def Cr:PO X none Cj:=by intro p s a H Q I h;rw[evalPart_none];exact YT ⟨none,H,I,.none,h⟩
def EN(h:PE X e te):PO X (some e) (HF te):=by intro p s a H Q I g;rw[evalPart_some];refine a9 (h p s a H _ I g) λu m x l j b f=>?_;obtain⟨i,rfl,q⟩:=f;obtain⟨t,rfl⟩:=b;exact⟨some i,l,j,.int i t,q⟩
def SlR(X:Cx)(r:V->Option Int->Option Int->Hp->VK->Prop):Prop:=
 ∀(p:Kp) s (a:St) H x v e b l h f Q,Inv X p a H s->RelV x v->s.heap.IsSliceOf f e b .none->IsPart e l->IsPart b h->r x l h H Q->
  ∃T i,typeLookup (.type T) "__getitem__"=pure (some<|.builtin i)/\s.TypeIs v T/\wpAny (model X.prog X.w) X.A (getItem v<|.ref f) (EP X p a Q) X.xe s
def tSl(r:V->Option Int->Option Int->Hp->VK->Prop)(te:TE)(tl th:TO):TE:=λa H Q=>te a H λx f=>tl a f λl e=>th a e λu b=>r x l u b Q
def Ai(L:SlR X r)(he:PE X e te)(M:PO X lo tl)(J:PO X hi th):PE X (.Subscript e (.Slice lo hi none p2) pos) (tSl r te tl th):=by
 intro p s f H Q I h;refine Subscript_<|a9 (he p s f H _ I h) λv o x Z U y C=>?_;refine wpAny_Slice<|a9 (M p o f Z _ U C) λi m l Y S pl B=>a9 (J p m f Y _ S B) λg a u j R E z=>?_;rw[evalPart_none];refine YT ?_;have P:Inv X p f j {a with heap:=a.heap.push {cls:=.type "slice",data:=.fields #[i,g,.none]} }:=R.kept λb ob q=>Yx _ q
 obtain⟨T,id,O,K,N⟩:=L p {a with heap:=a.heap.push {cls:=.type "slice",data:=.fields #[i,g,.none]} } f j x v i g l u a.heap.objs.size Q P y (Heap.IsSliceOf.new ..) pl E z;exact tail_any K O N<|by with_unfolding_all rfl
def IH(K:Kq):R2:=λx y H Q=>∃a b f e,x=.ref a/\y=.ref b/\SqT K H a f/\SqT K H b e/\f≠[]/\f.length+e.length<=sizeLine /\
 (e=[]->Q (.ref a) H)/\(e≠[]->∀p,H p=none->Q (.ref p) (upd H p<|.tup<|f++e))
def Vals.nil_iff(r:Vals xs us):us=[]↔xs=[]:=by
 cases r with
 |nil=>simp
 |cons _ _=>simp
def C5:OpR X (binaryOp .Add) (IH X.K):=by intro P s O H x y v u Q I p m h;obtain⟨a,b,l,j,rfl,rfl,N,M,L,g,B,A⟩:=h;cases p;cases m;obtain⟨J,f,E,_⟩:=I.tuple N;obtain⟨i,e,C,_⟩:=I.tuple M;refine HT.cat_tup E C (λz=>L<|f.nil_iff.mp z) (λz=>⟨.ref a,H,I,rfl,B<|e.nil_iff.mp z⟩) (λz=>?_) (by rwa[<-f.length,<-e.length]);refine⟨.ref s.heap.objs.size,_,I.laid (λb ob q=>Yx _ q) (Yy _) ?_,rfl,A (λw=>z<|e.nil_iff.mpr w) _<|I.hok.fresh<|Yy _⟩;exact⟨by rwa[Yb],_,f.append e,IsTup.new _ _,NoD.new _ _⟩
end
noncomputable def ixN(n:Nat)(i:Int):Option Nat:=if 0<=i then(if i<n then some i.toNat else none)else if -n<=i then some (i+n).toNat else none
def atI{α:Type}(xs:List α)(i:Int):Option α:=(ixN xs.length i).bind λj=>xs[j]?
theorem xx{i}(h:ixN n i=some j):seqIndex? i n=some j/\j<n/\-n<=i/\i<n:=by
 unfold ixN at h;by_cases b:0<=i
 ·rw[Yh b]at h;by_cases a:i<n
  ·rw[Yh a]at h;have e:=Yv h;exact⟨by rw[seqIndex_of b a,e],by omega,by omega,a⟩
  ·rw[Yp a]at h;cases h
 ·rw[Yp b]at h;by_cases a:-n<=i
  ·rw[Yh a]at h;have e:=Yv h;exact⟨by rw[seqIndex_neg (by omega) a,e],by omega,a,by omega⟩
  ·rw[Yp a]at h;cases h
def rJ{xs}{i}(h:atI xs i=some v):∃j,seqIndex? i xs.length=some j/\xs[j]?=some v/\j<xs.length/\-xs.length<=i/\i<xs.length:=by
 unfold atI at h;cases e:ixN xs.length i with
 |none=>rw[e]at h;cases h
 |some j=>
  rw[e]at h;obtain⟨g,f,b,a⟩:=xx e;exact⟨j,g,h,f,b,a⟩
def rZ(b:Expr):Prop:=∀o i,subscripted b false o i=operate [o,i] (getItem o i)
def IxR(X:Cx)(r:R2):Prop:=
 ∀b a (p:Kp) s (e:St) H x y v u Q,Inv X p e H s->RelV x v->RelV y u->r x y H Q->
  subscripted a false v u=operate [v,u] (getItem v u)->wpAny (model X.prog X.w) X.A (subscriptTail b a v u) (EP X p e Q) X.xe s
def MtR(X:Cx)(id:String)(r:V->List V->Hp->VK->Prop):Prop:=
 ∀(p:Kp) s (a:St) H x b v u Q,Inv X p a H s->RelV x v->Vals b u->r x b H Q->
  wpAny (model X.prog X.w) X.A (call (.builtin id) (v::u)) (EP X p a Q) X.xe s
section
variable  {a:Expr}  
def IxR.or(h:IxR X r)(h':IxR X r'):IxR X (λx y H Q=>r x y H Q\/r' x y H Q):=by
 intro a b p s e H x y v u Q I g f q i;rcases q with q|q
 ·exact h a b p s e H x y v u Q I g f q i
 ·exact h' a b p s e H x y v u Q I g f q i
def Fk(l:IxR X r)(o:PE X a ta)(m:PE X b tb)(j:rZ b):PE X (.Subscript a b pos) (tOp r ta tb):=by intro p s e H Q I h;exact Subscript_<|FL o m I h λv u f x y z w i g q=>l a b p f e z x y v u Q w i g q<|j _ _
def HK(K:Kq):R2:=λx y H Q=>∃p a i v,x=.ref p/\y=.int i/\SqL K H p a/\atI a i=some v/\Q v H
def IL(K:Kq):R2:=λx y H Q=>∃p a i v,x=.ref p/\y=.int i/\SqT K H p a/\atI a i=some v/\Q v H
def IV:R2:=λx y H Q=>∃z i c,x=.str z/\y=.int i/\z.length<=sizeLine/\atI z.cps.toList i=some c/\Q (.str ⟨#[c]⟩) H
theorem C3:IxR X (HK X.K):=by
 intro b e o s m H x y v u Q I L J h A;obtain⟨p,T,i,z,rfl,rfl,M,O,q⟩:=h;cases L;obtain⟨t,rfl⟩:=J;obtain⟨g,r,pl,U⟩:=I.list M;obtain⟨j,a,S,Z,R,P⟩:=rJ O;obtain⟨w,C,f⟩:=r.get S;have N:=r.length;have Y:=jU;have fin:EP X o m Q w s:=⟨z,H,I,f,q⟩
 by_cases B:0<=i
 ·have l:i.toNat=j:=by rw[seqIndex_of B P]at a;exact Yv a
  exact item_listR pl.isList B (by omega) (by rw[l];simpa using C) fin A
 ·have l:(i+g.toArray.size).toNat=j:=by rw[seqIndex_neg (by omega) R]at a;rw[Yu,<-N];exact Yv a
  exact subscriptTail_builtinR pl.isList.typeIs slot_list_getitem.lookup
   (wpAny_getItem_list_neg pl.isList (by omega) (by rw[Yu]<;>omega) (by omega) (by rw[l];simpa using C) ⟨rfl,fin⟩) A
theorem GM:IxR X (IL X.K):=by
 intro a b g s f H x y v u Q I o m h B;obtain⟨p,O,i,z,rfl,rfl,C,J,q⟩:=h;cases o;obtain⟨t,rfl⟩:=m;obtain⟨A,r,pl,P⟩:=I.tuple C;obtain⟨j,M,L,U,T,S⟩:=rJ J;obtain⟨w,N,e⟩:=r.get L;have E:=r.length;have R:=jU;have fin:EP X g f Q w s:=⟨z,H,I,e,q⟩
 exact subscriptTail_builtinR pl.typeIs slot_tuple_getitem.lookup
  (getItem_tuple pl (by omega) (by omega) (by rwa[Yu,<-E]) (by simpa using N) ⟨rfl,fin⟩) B
theorem GV:IxR X IV:=by
 intro a b K s E H x y v u Q I g f h l;obtain⟨z,i,c,rfl,rfl,L,o,q⟩:=h;obtain⟨t,rfl⟩:=g;obtain⟨J,rfl⟩:=f;obtain⟨j,e,A,N,w,p⟩:=rJ o;have m:z.cps.toList.length=z.length:=by simp[Str.length]
 rw[m]at e w p;have M:=jU;exact tail_any (Vw s z t) slot_str_getitem.lookup (getItem_str (by
  have C:decide (i < -(2^63))=false:=Yi (by omega);have B:decide (i ≥ 2^63)=false:=Yi (by omega);rw[C,B,Bool.or_false]) (by rw[e];simpa using A) ⟨.str ⟨#[c]⟩,H,I.tok _,⟨_,rfl⟩,q⟩) l
def rIx(K:Kq):R2:=λx y H Q=>HK K x y H Q\/IL K x y H Q\/IV x y H Q
def Aa:IxR X (rIx X.K):=C3.or<|GM.or GV
def vo(its:List Value)n j u:Obj.mapSeq (·.setIfInBounds j u) {cls:=.type "list",data:=.seq its.toArray n}={cls:=.type "list",data:=.seq (its.set j u).toArray n}:=by simp[Obj.mapSeq]
def Inv.lst{p}(I:Inv X pz σ H s)(h:H p=some (.lst xs)) :
  ∃(its:List Value) (n:Nat),Vals xs its/\s.heap.get? p=some {cls:=.type "list",data:=.seq its.toArray n}/\xs.length<=sizeLine:=by
 obtain⟨z,its,n,r,e⟩:=I.hok p _ h;exact⟨its,n,r,e,z⟩
def Inv.lstUpd{p}{n a}{f}(I:Inv X pz σ H s)(h:H p=some (.lst xs))
  (i:s.heap.get? p=some {cls:=.type "list",data:=.seq its.toArray n}) (g:f {cls:=.type "list",data:=.seq its.toArray n}={cls:=.type "list",data:=.seq its'.toArray a }) (r:Vals ys its') (hz:ys.length<=sizeLine) t :
  Inv X pz σ (upd H p<|.lst ys) {s with heap:=s.heap.update p f,toks:=t}:=by
 have e:(s.heap.update p f).get? p=some {cls:=.type "list",data:=.seq its'.toArray a }:=by rw[Heap.get?_update_self f i<|by rw[g]<;>rfl,g]
 refine I.write (by rw[h];trivial) (.inl rfl) (λb u j q=>(Heap.get?_update_other _ _<|ZX j).trans q) ⟨_,e⟩ ?_;exact⟨hz,its',a,r,e⟩
def IE:V->V->V->Hp->(Hp->Prop)->Prop:=λo i v H Q=>∃p x k j,o=.ref p/\i=.int k/\H p=some (.lst x)/\ixN x.length k=some j/\Q (upd H p<|.lst<|x.set j v)
theorem zG:Hy X IE:=by
 intro J s z H o i v M N u Q I C E B h;obtain⟨p,A,k,j,rfl,rfl,l,L,q⟩:=h;cases C;obtain⟨t,rfl⟩:=E;obtain⟨a,n,r,e,K⟩:=I.lst l;obtain⟨b,P,w,m⟩:=xx L;have f:=r.length;have O:=jU;have y:=
  I.lstUpd l e (vo a n j u) (r.set B j) (by rwa[Zf]) s.toks
 by_cases x:0<=k
 ·have g:k.toNat=j:=by rw[seqIndex_of x m]at b;exact Yv b
  exact PySem.W.ki_setAt e x (by omega) (by rwa[Yu,<-f])<|by rw[g];exact⟨_,y,q⟩
 ·have g:(k+a.toArray.size).toNat=j:=by rw[seqIndex_neg (by omega) w]at b;rw[Yu,<-f];exact Yv b
  exact PySem.W.ki_setBack e (by omega) (by rwa[Yu,<-f]) (by omega)<|by rw[g];exact⟨_,y,q⟩
theorem qG:CallR X (.builtin "len") (λxs H Q=>∃p ys,xs=[.ref p]/\(SqL X.K H p ys\/SqT X.K H p ys)/\Q (.int ys.length) H):=by
 intro l s g H xs j Q I r h;obtain⟨p,ys,rfl,hq,q⟩:=h;obtain⟨u,rfl,e⟩:=jM r;cases e;have m:=jU;rcases hq with hq|hq
 ·obtain⟨i,b,pl,f⟩:=I.list hq;have a:=b.length;exact Calls.call_len_list pl.isList (by simp[Yu]<;>omega) ⟨.int ys.length,H,I.tok _,⟨s.toks+1,by rw[Yu,a]⟩,q⟩
 ·obtain⟨i,b,pl,f⟩:=I.tuple hq;have a:=b.length;exact len_tuple pl (by simp[Yu]<;>omega) ⟨.int ys.length,H,I.tok _,⟨s.toks+1,by rw[Yu,a]⟩,q⟩
theorem rW:CallR X (.builtin "len") (λxs H Q=>∃z,xs=[.str z]/\z.length<=sizeLine/\Q (.int z.length) H):=by intro p s a H xs b Q I r h;obtain⟨z,rfl,e,q⟩:=h;obtain⟨u,rfl,t,rfl⟩:=jM r;have f:=jU;exact len_str (by omega) ⟨.int z.length,H,I.tok _,⟨_,rfl⟩,q⟩
def CallR.or{f}(h:CallR X f r)(h':CallR X f r'):CallR X f (λxs H Q=>r xs H Q\/r' xs H Q):=by
 intro p s a H xs u Q I b q;rcases q with q|q
 ·exact h p s a H xs u Q I b q
 ·exact h' p s a H xs u Q I b q
theorem sH:CallR X (.type "list") (λxs H Q=>∃p ys,xs=[.ref p]/\(SqL X.K H p ys\/SqT X.K H p ys)/\∀l,H l=none->Q (.ref l) (upd H l (.lst ys))):=by
 intro J s C H xs L Q I r h;obtain⟨p,ys,rfl,hq,q⟩:=h;obtain⟨u,rfl,E⟩:=jM r;cases E;have fin:∀i,Vals ys i->ys.length<=sizeLine->∀a g,(∀b B,s.heap.get? b=some B->a.get? b=some B)->
   a.get? s.heap.objs.size=some {cls:=.type "list",dict:=none,data:=.seq i.toArray g,slots:=#[]}->EP X J C Q _ {s with heap:=a }:=λi f m a g j e=>
  ⟨.ref s.heap.objs.size,_,I.laid j (Yy _)<|show ObjOk X.prog X.w _ a _ (.lst ys)from⟨m,i,g,f,e⟩,rfl,q _<|I.hok.fresh<|Yy _⟩
 rcases hq with hq|hq
 ·obtain⟨i,f,pl,m⟩:=I.list hq;have x:=f.length;obtain⟨o,y,A,n,z⟩:=pl.isList;exact call_list_seq p (.inl rfl) y A z (λa g j e=>fin i f m a g j e)<|by simp[Yu]<;>omega
 ·obtain⟨i,f,pl,m⟩:=I.tuple hq;have x:=f.length;obtain⟨o,y,A,n,z⟩:=pl;exact call_list_seq p (.inr rfl) y A z (λa g j e=>fin i f m a g j e)<|by simp[Yu]<;>omega
def o_:CallR X (.type "tuple") (λxs H Q=>∃p ys,xs=[.ref p]/\((SqL X.K H p ys/\∀l,H l=none->Q (.ref l) (upd H l (.tup ys)))\/(SqT X.K H p ys/\Q (.ref p) H))):=by
 intro m s j H xs E Q I r h;obtain⟨p,ys,rfl,h⟩:=h;obtain⟨u,rfl,A⟩:=jM r;cases A;rcases h with⟨g,q⟩|⟨g,q⟩
 ·have⟨i,f,pl,x⟩:=I.list g;have y:=f.length;refine call_tuple_list pl.isList (λa B=>?_) (by simp[Yu]<;>omega);have z:=I.kept (t':=s.toks) B;have C:=
   z.laid (t':=s.toks) (λb o e=>Yx _ e) (Yy _)<|show ObjOk X.prog X.w _ _ _ (.tup ys)from⟨x,i,f,IsTup.new _ _,NoD.new _ _⟩
  exact⟨.ref a.objs.size,_,C,rfl,q _<|z.hok.fresh<|Yy _⟩
 ·have⟨i,f,pl,x⟩:=I.tuple g;exact call_tuple_same pl ⟨.ref p,H,I,rfl,q⟩
def tyV(K:Kq)(T:String)(x:V)(H:Hp):Prop:=match x with
 |.str _=>T = "str"
 |.int _=>T = "int"
 |.ref p=>(T = "list"/\∃b,SqL K H p b)\/(T = "tuple"/\∃o,K.lookup p=some o/\o.cls=.type "tuple"/\o.dict=none) \/
   (T = "dict"/\((∃a,H p=some (.dK a))\/∃a,H p=some (.dT a)))\/(T = "set"/\∃S n,H p=some (.set S n))
 |_=>False
def AG{x}(I:Inv X pz σ H s)(r:RelV x v)(ty:tyV X.K T x H) :
  s.TypeIs v T/\∀a,v=.ref a->∃ob,s.heap.get? a=some ob/\ob.dict=none:=by
 cases x with
 |str z=>
  obtain⟨t,rfl⟩:=r;cases(show T = "str" from ty);exact⟨Vw s z t,λ_ e=>nomatch e⟩
 |int i=>
  obtain⟨t,rfl⟩:=r;cases(show T = "int" from ty);exact⟨typeIs_int s i t,λ_ e=>nomatch e⟩
 |ref p=>
  cases r;rcases ty with⟨rfl,u,m⟩|⟨rfl,o,h,q,g⟩|⟨rfl,h⟩|⟨rfl,S,n,h⟩
  ·obtain⟨l,_,pl,_⟩:=I.list m;refine⟨pl.isList.typeIs,λa e=>?_⟩;cases e;obtain⟨o,n,e,c,g,_⟩:=pl;exact⟨o,e,g⟩
  ·refine⟨⟨o,I.kIn p o h,q⟩,λa e=>?_⟩;cases e;exact⟨o,I.kIn _ o h,g⟩
  ·have z:∃o,s.heap.get? p=some o/\o.ExactDict:=by
    rcases h with⟨f,h⟩|⟨f,h⟩
    ·obtain⟨_,_,_,_,o,_,_,e,b,_⟩:=I.hok p _ h;exact⟨o,e,b⟩
    ·obtain⟨_,_,_,_,o,_,_,e,b,_⟩:=I.hok p _ h;exact⟨o,e,b⟩
   obtain⟨o,e,b⟩:=z;refine⟨⟨o,e,b.1⟩,λa j=>?_⟩;cases j;exact⟨o,e,b.2.1⟩
  ·obtain⟨o,_,_,_,e,b,_⟩:=I.hok p _ h;refine⟨⟨o,e,b.1⟩,λa j=>?_⟩;cases j;exact⟨o,e,b.2.1⟩
 |_=>exact False.elim ty
def JC(K:Kq)(T:String)(r:V->List V->Hp->VK->Prop)(to:TE):TE:=λb H Q=>to b H λx a=>tyV K T x a/\r x [] a Q
def tBM(K:Kq)(T:String)(r:V->List V->Hp->VK->Prop)(to:TE)(t:TA):TE:=λa H Q=>to a H λx b=>tyV K T x b/\t a b λe f=>r x e f Q
variable    {t:TA}   {T id:String}{r:V->List V->Hp->VK->Prop}
def u8(m:PlainAttrs T)(slot:Slot T name id)(e:typeOf (.builtin id)=pure (.type "method_descriptor"))(w:MtR X id r)(u:PE X o to)
  (b:attributeBase o name X.env (eval o X.env)=eval o X.env:=by rfl) (a:(apos.endLine == cpos.line)=true:=by rfl):PE X (.Call (.Attribute o name apos) [] [] cpos) (JC X.K T r to):=by
 intro p s g H Q I h;refine wpAny_Call_method0_late b a<|a9 (u p s g H _ I h) λv l x A j i f=>?_;obtain⟨ty,q⟩:=f;obtain⟨z,y⟩:=AG j i ty;exact⟨T,id,m,slot,e,z,y,Xg rfl<|PySem.evalArgs_none<|w p l g A x [] v [] Q j i .nil q⟩
def jJ(J:PlainAttrs T)(slot:Slot T name id)(j:typeOf (.builtin id)=pure (.type "method_descriptor"))(N:MtR X id r)(M:PE X o to)(O:PA X (e::es) t)
  (f:attributeBase o name X.env (eval o X.env)=eval o X.env:=by rfl)
  (g:((backTo cpos<|starEach (e::es) X.env).all (λx=>!x.1)&&(backToKw cpos<|keywordEach [] X.env).all (λx=>x.1.isSome)
   && decide ((e::es).length+([]:List Keyword).length+(if([]:List Keyword).isEmpty then 0 else 1)<30))=true:=by rfl)
  (b:(apos.endLine == cpos.line)=true:=by rfl) (L:starEach (e::es) X.env=(false,eval e X.env)::starEach es X.env:=by rfl) (a:(backTo cpos<|starEach es X.env).any (·.1)=false:=by rfl) :
  PE X (.Call (.Attribute o name apos) (e::es) [] cpos) (tBM X.K T r to t):=by
 intro p s i H Q I h;refine wpAny_Call_method_late f g b rfl<|a9 (M p s i H _ I h) λv A x Y u m l=>?_;obtain⟨ty,E⟩:=l;obtain⟨R,P⟩:=AG u m ty;refine⟨T,id,J,slot,j,R,P,?_⟩;have q:=O cpos p A i Y _ u E;rw[L]at q ⊢;refine Xg (by show(false||(backTo cpos _).any (·.1))=false;rw[a]<;>rfl)<|ZV ?_;exact a9 q λy z w U S B C=>N p z i U x w v y Q S m B C
end
def MtM(X:Cx)(id:String)(r:V->List V->Hp->VK->Prop):Prop:=
 ∀(p:Kp) s (a:St) H x b v u Q,Inv X p a H s->RelV x v->Vals b u->r x b H Q->
  wpAny (model X.prog X.w) X.A (call (.builtin id) (v::u)) (EP X p a Q) X.xe s
def Vals.one{x}(h:Vals [x] us):∃u,us=[u]/\RelV x u:=jM h
def Vals.zero:∀{us},Vals [] us->us=[]
 |_,.nil=>rfl
def Vals.dropLast(h:Vals xs us):Vals xs.dropLast us.dropLast:=by
 induction h with
 |nil=>exact .nil
 |cons r t ih=>
  cases t with
  |nil=>exact .nil
  |cons q a=>exact .cons r ih
theorem Vals.eraseIdx:∀{xs}{us} i,Vals xs us->Vals (xs.eraseIdx i) (us.eraseIdx i)
 |_,_,_,.nil=>.nil
 |_,_,0,.cons _ t=>t
 |_,_,i+1,.cons r t=>.cons r<|Vals.eraseIdx i t
def Vals.reverse(h:Vals xs us):Vals xs.reverse us.reverse:=by
 induction h with
 |nil=>exact .nil
 |cons r t ih=>rw[XX,XX];exact Vals.append ih<|.cons r .nil
theorem vV{α:Type}(l:List α):l.eraseIdx (l.length-1)=l.dropLast:=by
 induction l with
 |nil=>rfl
 |cons a r ih=>
  cases r with
  |nil=>rfl
  |cons b r=>
   have e:(a::b::r).length-1=((b::r).length-1)+1:=by have f:(a::b::r).length=r.length+2:=rfl;have h:(b::r).length=r.length+1:=rfl;omega
   rw[e,List.eraseIdx_cons_succ,ih]
   all_goals rfl
theorem pW{α:Type}:∀(l:List α) i,(l.eraseIdx i).length<=l.length
 |[],_=>Yy _
 |_::_,0=>Nat.le_succ _
 |_::r,i+1=>XH<|pW r i
section
variable      {b:Addr}{zs:List V}
def Inv.lset{f}(I:Inv X pz σ H s)(g:H l=some (.lst xs))
  (e:s.heap.get? l=some {cls:=.type "list",data:=.seq its.toArray n}) (a:f its.toArray=its'.toArray) (hv:Vals ys its') (hz:ys.length<=sizeLine) :
  Inv X pz σ (upd H l<|.lst ys) {s with heap:=s.heap.update l<|Obj.mapSeq f,toks:=t' }:=by
 have q:=PySem.IsL.update e f;rw[a]at q;refine I.write (by rw[g];exact trivial) (.inl rfl) (λi u b h=>(Heap.get?_update_other s.heap _<|ZX b).trans h) ⟨_,q⟩ ?_;exact⟨hz,its',_,hv,q⟩
def Inv.lnew(I:Inv X pz σ H s)(hv:Vals ys its)(hz:ys.length<=sizeLine) :
  Inv X pz σ (upd H s.heap.objs.size<|.lst ys) {s with heap:=s.heap.push {cls:=.type "list",data:=.seq its.toArray},toks:=t' }:=
 I.laid (λ_ _ q=>Yx _ q) (Yy _) ⟨hz,its,0,hv,YK _ rfl⟩
def Inv.fresh(I:Inv X pz σ H s):H s.heap.objs.size=none:=I.hok.fresh<|Yy _
def Inv.lstM(I:Inv X pz σ H s)(h:H l=some (.lst xs)):xs.length<=sizeLine/\∃(its:List Value) (n:Nat),Vals xs its/\xs.length=its.length/\s.heap.get? l=some {cls:=.type "list",data:=.seq its.toArray n}:=by obtain⟨z,its,n,r,e⟩:=I.hok l _ h;exact⟨z,its,n,r,r.length,e⟩
theorem zS(h:n<=sizeLine):Builtin.List.listTooLong n=false:=by unfold Builtin.List.listTooLong;exact Yi<|by omega
end
def CB:V->List V->Hp->VK->Prop:=λx b H Q=>∃l a y,x=.ref l/\b=[y]/\H l=some (.lst a)/\a.length<sizeLine/\Q .non (upd H l<|.lst<|a++[y])
theorem fK:MtM X "list.append" CB:=by intro w s j H x o v p Q I b f h;obtain⟨l,m,y,rfl,rfl,a,A,q⟩:=h;cases b;obtain⟨u,rfl,g⟩:=f.one;obtain⟨z,i,n,r,B,e⟩:=I.lstM a;refine call_meets Zu ⟨_,e,rfl⟩ PySem.F.entry_list_append (PySem.F.args_list_append_2 _ _) (PySem.list_append l i.toArray n u<|by rw[Yu];omega) ⟨e,?_⟩;refine⟨.non,_,I.lset a e (by simp) (r.append<|.cons g .nil) ?_,rfl,q⟩;rw[Yb,YU];omega
def EA:V->List V->Hp->VK->Prop:=λx e H Q=>∃l b a z,x=.ref l/\e=[.ref b]/\H l=some (.lst a)/\H b=some (.lst z)/\a.length+z.length<=sizeLine/\Q .non (upd H l<|.lst<|a++z)
theorem pO:MtM X "list.extend" EA:=by
 intro N s C H x L v M Q I m o h;obtain⟨l,b,K,E,rfl,rfl,j,A,O,q⟩:=h;cases m;obtain⟨u,rfl,p⟩:=o.one;cases p;obtain⟨z,a,n,r,P,e⟩:=I.lstM j;obtain⟨J,i,n2,w,y,B⟩:=I.lstM A;have g:a.toArray.size+i.toArray.size<=sizeLine:=by rw[Yu,Yu];omega
 have f:¬(!a.toArray.isEmpty&&Builtin.List.listTooLong (a.toArray.size+i.toArray.size))=true:=by rw[zS g,Bool.and_false];exact Ym
 refine call_meets XL ⟨_,e,rfl⟩ PySem.F.entry_list_extend (PySem.F.args_list_extend_2 _ _)
  (AutoSeq1.list_extend_list_list_0 l a.toArray n b i.toArray n2 f (by rw[Yu];omega)<|by omega) ⟨e,B,?_⟩
 refine⟨.non,_,I.lset j e (by simp) (r.append w) ?_,rfl,q⟩;rw[Yb];omega
def JV:V->List V->Hp->VK->Prop:=λx b H Q=>∃l a y,x=.ref l/\b=[]/\H l=some (.lst a)/\a[a.length-1]?=some y/\Q y (upd H l<|.lst a.dropLast)
theorem AH:MtM X "list.pop" JV:=by
 intro J s A H x C v E Q I g j h;obtain⟨l,B,y,rfl,rfl,f,o,q⟩:=h;cases g;have b:=j.zero;subst b;obtain⟨z,i,n,r,w,e⟩:=I.lstM f;obtain⟨u,p,m⟩:=r.get o;have a:i.toArray[i.toArray.size-1]?=some u:=by show i.toArray[i.length-1]?=some u;rwa[<-Array.getElem?_toList,<-w]
 refine call_meets Vf ⟨_,e,rfl⟩ PySem.F.entry_list_pop (PySem.F.args_list_pop_1 _) (MeetsSeq.list_pop_last l i.toArray n u a<|by rw[Yu];omega) ⟨e,?_⟩;refine⟨y,_,I.lset f e ?_ r.dropLast ?_,m,q⟩
 ·rw[Yu,XY,vV]
 ·rw[XB];omega
def z_:V->List V->Hp->VK->Prop:=λx b H Q=>∃l a,x=.ref l/\b=[]/\H l=some (.lst a)/\Q .non (upd H l<|.lst a.reverse)
def u7:MtM X "list.reverse" z_:=by intro p s j H x o v u Q I f g h;obtain⟨l,m,rfl,rfl,b,q⟩:=h;cases f;have a:=g.zero;subst a;have⟨z,i,n,r,w,e⟩:=I.lstM b;refine call_meets PySem.F.slot_list_reverse ⟨_,e,rfl⟩ PySem.F.entry_list_reverse (PySem.F.args_list_reverse_1 _) (AutoSeq1.list_reverse_list_0 l i.toArray n<|by rw[Yu];omega) ⟨e,?_⟩;refine⟨.non,_,I.lset b e (by simp) r.reverse ?_,rfl,q⟩;rw[List.length_reverse];omega
end L2
namespace Att
open PySem PySem.W PySem.Calls PyProof.Rows
def mo{P} :∀ns vs,WellAll P h vs (ns.map WData.int)->IntsAre vs ns:=by
 intro ns;induction ns with
 |nil=>
  intro vs w;rw[List.map_nil]at w;cases w;exact .nil
 |cons n ns ih=>
  intro vs w;rw[List.map_cons]at w;cases w with
  |cons a b=>
   cases a;exact .cons _ _<|ih _ b
theorem xJ{l:OpenLaw}(u:l.most=some n){P}{b}
  (e:l.row.toRowW.claim.pre args=true) (j:WellAll P h b args) :
  ∃a vs ns,b=[Value.ref a]/\args=[WData.list<|ns.map WData.int]/\h.get? a=some {cls:=.type "list",data:=.seq vs.toArray}/\IntsAre vs ns/\ns.length<=n:=by
 have m:=(pre_splitW e).1;have o:l.pre.holds [] {args:=args}=true:=(pre_splitW e).2;obtain⟨d,r,rfl,z,y⟩:=hasAllW_cons m;obtain rfl:=hasAllW_nil y;obtain⟨A,rfl,x⟩:=hasW_list z;obtain⟨ns,rfl⟩:=items_int x;have f:ns.length<=n:=by
  unfold OpenLaw.pre at o;have i:(WTm.not<|.lt (.lit<|.int n)<|.len<|.arg 0).holds [] {args:=[.list<|ns.map .int]}=true:=by have i:=(holds_andW o).1;rwa[u]at i
  have g:=condW_of i<|w_not<|w_lt w_lit<|w_len_list<|w_arg rfl;rw[List.length_map]at g;refine Nat.le_of_not_lt λq=>?_;have s:n<(ns.length):=by omega
  first
   |(rw[decide_eq_true s]at g;exact absurd g _)
   |(simp at g;omega)
 cases j with
 |cons p w=>
  cases w;cases p with
  |list ho hall=>exact⟨_,_,ns,rfl,rfl,ho,mo ns _ hall,f⟩
def yF(l:OpenLaw)args:l.row.toRowW.claim.post args (.bool true) args=true:=
 postW_of 
  (show WShape.has [] _ .bool=true by first|rfl|decide|simp[WShape.has,WShape.arms,WShape.armsAll])
  (show(WTm.eq .res _).value [] {args:=args,res:=some _,after:=args}=some (.bool _)from w_eq_bool (w_res rfl) w_lit) rfl
def attach_call{l:OpenLaw}
  (I:l.most=some n) (u:d.params.defaults=[])
  (call:∀w b s mg m fa o pm cd doc a vs ns,
   Ground q loose [] XP w b mg m s.heap->YP w s.heap->
   s.heap.get? fa=some o->o.data=.func (docDef d.name d.params d.body d.scope pm cd doc)->s.heap.CodeRec cd d.name->mg d.name=some (.ref fa)->
   s.heap.get? a=some {cls:=.type "list",data:=.seq vs.toArray}->IntsAre vs ns->ns.length<=n->s.gens=#[]->
   codeAny (model l.prog w) callerA (.call (.ref fa) ⟨[.ref a],[]⟩) (λr s'=>r=.ok (.ret<|.bool true)/\OldK s.heap s'.heap/\s'.os=s.os/\AllBare s'.gens) s) :
  WalkO q loose XP YP l.row.toRowW d [] (λf vs=>PySem.call f vs):=by
 intro w b s mg m G Y fa o pm cd doc Q kV H M x A p L B y R e z C j K;obtain rfl:Q=.none:=Dflts.none A u;obtain rfl:kV=.none:=Dflts.noKw A;obtain⟨a,vs,ns,rfl,rfl,g,h,i⟩:=xJ I e j;refine enter_call<|codeAny_mono (call w b s mg m fa o pm cd doc a vs ns G Y H (fd_plain M) x p g h i L) λr s' E=>?_;obtain⟨rfl,P,O,N⟩:=E;exact⟨.inl ⟨.bool true,.bool true,[],rfl,λ_=>rfl,.bool true,yF l _,λ_=>⟨List.Pairwise.nil,λ_ J=>(nomatch J)⟩⟩,P,O,N⟩
section
variable      {K:Frag}
end
end Att
namespace L2
open PySem PySem.Spec PyProof.Rows
theorem pF:∀{vs}{ns},IntsAre vs ns->Vals (ns.map V.int) vs
 |_,_,.nil=>.nil
 |_,_,.cons n t h=>.cons ⟨t,rfl⟩<|pF h
def DZ(H:Hp):Prop:=∀b,H b=none\/∃o x,H b=some (.frz o<|.lst x)
def AQ{P}{R:Ks}{f}{vs}
  (KX:K.In f.heap) (E:f.heap.Ns mainGlobals mg) (i:f.heap.Ns builtinsNs R) (U:∀x:Str,x ≠ "__name__"->R x=bootBuiltins x) (I:f.heap.NoLimit) (hg:f.gens=#[])
  (O:f.heap.get? a=some {cls:=.type "list",data:=.seq vs.toArray}) (hi:IntsAre vs ns) (hl:ns.length<=sizeLine) (hr:Room k callerA)
  (F:∀base:Heap,K.In base->base.Ns mainGlobals mg->FnOk P w K mg base CX k fa fd [x] sp) (p:∀s u,BindsTo s fd ⟨[u],[]⟩ [(x,u)])
  (S:∀H:Hp,DZ H->SqL K H a (ns.map V.int)->sp [.ref a] H (λv _=>v=.bl true) λ_ _ _=>False)
  (X:∀H e s',CX [] H f (λ_ _ _=>False) e s'->False) :
  codeAny (model P w) callerA (.call (.ref fa) ⟨[.ref a],[]⟩) (λr s'=>r=.ok (.ret<|.bool true)/\OldK f.heap s'.heap/\s'.os=f.os/\AllBare s'.gens) f:=by
 have Z:=pF hi;have A:=hi.length
 -- from an abstract heap in which nothing but the script may be tracked
 have l:∀H:Hp,DZ H->SqL K H a (ns.map V.int)->HOk P w H f.heap->(∀b,H b≠none->b=a)->(H a≠none->K.lookup a=none)->
   codeAny (model P w) callerA (.call (.ref fa) ⟨[.ref a],[]⟩) (λr s'=>r=.ok (.ret<|.bool true)/\OldK f.heap s'.heap/\s'.os=f.os/\AllBare s'.gens) f:=by
  intro H hO hS C hA hK;have g:∀{b}{o},f.heap.get? b=some o->H b=none->(r6 f.heap H).get? b=some o:=λe n=>zC e n
  have Q:∀{b}{o}{L}{M},f.heap.get? b=some o->o.data=.dict L M->H b=none:=λ{b o L M} e d=>by
   cases q:H b with
   |none=>rfl
   |some u=>
    have Y:=hA b (by rw[q];simp);subst Y;rw[O]at e;cases e;have d':=d;cases d'
  have j:∀{b}{m},f.heap.Ns b m->(r6 f.heap H).Ns b m:=λ{b m} ⟨o,L,M,e,d,r⟩=>⟨o,L,M,g e<|Q e d,d,r⟩
  have J:=λb o e=>g (KX b o e) (by
   cases q:H b with
   |none=>rfl
   |some u=>
    have Y:=hA b (by rw[q];simp);subst Y;rw[hK<|by rw[q];simp]at e;cases e)
  have hM:Mod K mg _:=⟨J,j E,⟨R,j i,U⟩,let ⟨mc,h1,h2⟩:=I;⟨mc,j h1,h2⟩⟩
  have e0:Env0 P w K mg _ callerA [] f H:=⟨rfl,hM,λb o e=>Eh e,ZP<|yL _ _,trivial,λb i=>absurd (show b∈([])from i)<|by simp,C,.of_eq hg⟩
  refine Vs ((F _ J<|j E).run callerA [] f H ⟨[.ref a],[]⟩ [.ref a] [.ref a] _ _ hr e0 (p f _) (.cons rfl .nil)<|S H hO hS) λr s' h=>?_;cases r with
  |error e=>exact(X H e s' h).elim
  |ok fl=>
   cases fl with
   |next=>exact False.elim h
   |brk=>exact False.elim h
   |cont=>exact False.elim h
   |ret u=>
    obtain⟨v,H',os,N,un,B,r',q⟩:=h;have q':=q;subst q';obtain rfl:u=Value.bool true:=r';refine⟨rfl,OldK.of_keep λb o e=>?_,os,N⟩;cases q:H b with
    |none=>exact un.keep b o e q (by intro z;exact absurd (show b∈([])from z)<|by simp)<|by simp
    |some u=>
     rcases hO b with z|⟨ob,xs,z⟩
     ·rw[q]at z;cases z
     ·have z2:=un.frzs b ob _ z;obtain⟨e1,_⟩:=C b _ z;obtain⟨e2,_⟩:=B b _ z2;rw[e]at e1;cases e1;exact e2
 cases T:K.lookup a with
 |some o=>
  -- the script is one of the module's own objects
  have e:=KX a o T;rw[O]at e;cases e;refine l _ (λ_=>.inl rfl) (.inr ⟨_,vs.toArray,_,T,rfl,rfl,rfl,by rwa[Yu,A],by simpa using Z⟩) (λb u z=>by have y:=z;cases y) (λb z=>absurd rfl z) λz=>absurd rfl z
 |none=>
  refine l (λb=>if b=a then some (.frz {cls:=.type "list",data:=.seq vs.toArray} _)else none) (λb=>?_) (.inl<|.inr ⟨{cls:=.type "list",data:=.seq vs.toArray},Yh rfl⟩) (λb u z=>?_) (λb z=>?_) λ_=>T
  ·by_cases i:b=a
   ·exact .inr ⟨_,_,Yh i⟩
   ·exact .inl<|Yp i
  ·by_cases i:b=a
   ·have y:=(Yh i).symm.trans z;cases y;subst i;exact⟨O,by rwa[Yc],vs,_,Z,O⟩
   ·have y:=(Yp i).symm.trans z;cases y
  ·by_cases i:b=a
   ·exact i
   ·exact absurd (Yp i) z
def DQ{l:PySem.W.OpenLaw}{K:Params->PySem.W.Frag}{CX:World->CXT}{sp:World->Sp} 
  (L:l.most=some n) (z:n<=sizeLine) (B:d.params.defaults=[]) (J:Room k callerA)
  (P:∀w h,YP w h->(K w.params).In h)
  (F:∀w (mg:Ks) fa h,(K w.params).In h->h.Ns mainGlobals mg->mg d.name=some (.ref fa)->
   ∃fd:FuncData,(∀s u,BindsTo s fd ⟨[u],[]⟩ [(x,u)]) /\
    ∀base:Heap,(K w.params).In base->base.Ns mainGlobals mg->FnOk l.prog w (K w.params) mg base (CX w) k fa fd [x] (sp w))
  (y:∀w H a (ns:List Int),ns.length<=n->DZ H->SqL (K w.params) H a (ns.map V.int)->sp w [.ref a] H (λv _=>v=.bl true) λ_ _ _=>False)
  (C:∀w H s e s',CX w [] H s (λ_ _ _=>False) e s'->False) :
  PySem.W.WalkO q loose XP YP l.row.toRowW d [] (λf vs=>PySem.call f vs):=by
 refine Att.attach_call L B λw E m mg Z fa o X cd U a vs ns G Y ho hd N A p j i M=>?_;have I:=P w _ Y;obtain⟨fd,O,S⟩:=F w mg fa _ I G.T.g A;exact AQ I G.T.g G.T.b G.T.builtins G.T.nolimit M p j (YW i z) J S O (λH R Q=>y w H a ns i R Q) λH e s'=>C w H m e s'
def walk_ofK{l:PySem.W.OpenLaw}{K:Params->PySem.W.Frag}{sp:PySem.W.Frag->Sp} 
  (o:l.most=some n) (g:n<=sizeLine) (i:d.params.defaults=[]) (m:Room k callerA)
  (p:∀w h,YP w h->(K w.params).In h)
  (F:∀w (mg:Ks) fa h,(K w.params).In h->h.Ns mainGlobals mg->mg d.name=some (.ref fa)->
   ∃fd:FuncData,(∀s u,BindsTo s fd ⟨[u],[]⟩ [(x,u)]) /\
    ∀base:Heap,(K w.params).In base->base.Ns mainGlobals mg->FnOk l.prog w (K w.params) mg base CX k fa fd [x] (sp<|K w.params))
  (b:∀K H a (ns:List Int),ns.length<=n->DZ H->SqL K H a (ns.map V.int)->sp K [.ref a] H (λv _=>v=.bl true) λ_ _ _=>False)
  (j:∀H s e s',CX [] H s (λ_ _ _=>False) e s'->False) :
  PySem.W.WalkO q loose XP YP l.row.toRowW d [] (λf vs=>PySem.call f vs):=
 DQ o g i m p F (λw H a ns A z y=>b _ H a ns A z y) λ_ H s e s'=>j H s e s'
def CF(s:Stmt)(j:Nat):Stmt:=match s with
 |.ClassDef _ _ _ body _ _ _ _ _ _ _=>body.getD j<|.Pass ⟨0,0,0,0⟩
 |_=>.Pass ⟨0,0,0,0⟩
def defArgs(s:Stmt):Arguments:=match s with
 |.FunctionDef _ a _ _ _ _ _ _ _ _=>a
 |_=>{posonlyargs:=[],args:=[],vararg:=none,kwonlyargs:=[],kw_defaults:=[],kwarg:=none,defaults:=[]}
def defBody(s:Stmt):List Stmt:=match s with
 |.FunctionDef _ _ b _ _ _ _ _ _ _=>b
 |_=>[]
def defScope(s:Stmt):Scope:=match s with
 |.FunctionDef _ _ _ _ _ _ sc _ _ _=>sc
 |_=>{kind:=.function,names:=[],isGenerator:=false,isCoroutine:=false}
abbrev CX0:CXT:=λ_ _ _ _ _ _=>False
abbrev E0:XK:=λ_ _ _=>False
def mf:jc CX0 X E0:=λ_ _ _ _ _ _ _ h=>h.elim
structure Fun (K:PySem.W.Frag) (x qual:Str) (st:Stmt) (f:Addr) (fd:FuncData):Prop where
 ex:∃(oc:Value) (od:Option Addr) (kV doc pm:Value) (an:Option Addr) (cdv ct:Value) (osl:Array (Option Value)),
  fd=PySem.W.fnOf x qual (defArgs st) (defBody st) (defScope st) .none kV doc pm an cdv ct/\K.lookup f=some ⟨oc,od,.func fd,osl⟩/\PySem.W.codeIn K cdv qual=true
 kp:PySem.W.keepIn K (.ref f)=true
section
variable{P:Program}    
def Fun.ok(F:Fun K x qual st f fd)(S:FnScope N ps (defScope st))(len:∀vs H Q E,sp vs H Q E->vs.length=ps.length)
  (a:∀cdv A outer s H vs Q E,Room k (A.deeper<|envOfC qual (defScope st) s.heap.objs.size f cdv)->sp vs H Q E->
   ∃t,PSs (cY CX0 P w K mg base N qual (defScope st) f cdv A outer s H E).nox (defBody st) t/\t {nx:=λ_ H'=>Q .non H',rt:=Q} (start N vs) H):FnOk P w K mg base CX0 (k+1) f fd ps sp:=by
 obtain⟨l,j,kV,i,p,u,cdv,m,o,rfl,lk,e⟩:=F.ex;refine B0 lk e S len λA outer s H vs Q E g b=>?_;obtain⟨t,h,q⟩:=a cdv A outer s H vs Q E g b;exact⟨t,h.nox,q⟩
def Ha{kV doc pm cdv ct}(l:K.lookup f=some ⟨oc,od,.func (PySem.W.fnOf x qual (defArgs st) (defBody st) (defScope st) .none kV doc pm an cdv ct),osl⟩)
  (c:PySem.W.codeIn K cdv qual=true) (k:PySem.W.keepIn K (.ref f)=true):Fun K x qual st f (PySem.W.fnOf x qual (defArgs st) (defBody st) (defScope st) .none kV doc pm an cdv ct):=⟨⟨oc,od,kV,doc,pm,an,cdv,ct,osl,rfl,l,c⟩,k⟩
end
def pv i(hN:X.N[i]?=some x:=by rfl)(hv:Vis X.env.scope x:=by first|exact Or.inl rfl|exact Or.inr (Or.inl rfl)|exact Or.inr (Or.inr rfl))(hd:nDb x:=by decide)
  (hcd:nDc x:=by decide):PE X (.Name x pos) (cB i):=zN hN hv hd hcd
def Same(H H':Hp):Prop:=∀b o,H b=some o->H' b=some o
def Same.refl H:Same H H:=λ_ _ h=>h
def Same.trans(a:Same H H1)(b:Same H1 H2):Same H H2:=λc o h=>b c o<|a c o h
def Same.free(e:Same H H')(h:H' l=Option.none):H l=Option.none:=by
 cases q:H l with
 |none=>rfl
 |some o=>
  rw[e l o q]at h;cases h
def Same.seq(e:Same H H')(h:SqL K H a xs):SqL K H' a xs:=by
 rcases h with (h|⟨o,h⟩)|h
 ·exact .inl<|.inl<|e _ _ h
 ·exact .inl<|.inr ⟨o,e _ _ h⟩
 ·exact .inr h
end L2
set_option maxHeartbeats 4000000
namespace L2
open PySem PySem.Spec PyProof.Rows
noncomputable def dH(cs:List (Str×Addr)):List (Str×NameKind)->List (Str×Addr)->List (Str×Addr)
 |[],acc=>acc
 |(n,k)::r,acc=>if k == .free then dH cs r ((n,(cs.lookup n).getD 0)::acc)else dH cs r acc
def vD(h:∀x∈scope.names,x.2=.free->∃c,env.cells.lookup x.1=some c):closureFor scope env=pure (dH env.cells scope.names []):=by
 have i:∀a b f,
   (∀n k r,f (n,k) r=if k == .free then(cellOf env n>>=λc=>pure<|.yield ((n,c)::r))else pure<|.yield r)->
   (∀x∈a,x.2=.free->∃c,env.cells.lookup x.1=some c)->forIn a b f=pure (dH env.cells a b):=by
  intro a;induction a with
  |nil=>intro b f _ _;rfl
  |cons x r ih=>
   intro b f m l;obtain⟨n,k⟩:=x;rw[List.forIn_cons,m];unfold dH;by_cases g:(k == NameKind.free)=true
   ·rw[Yh g,Yh g];obtain⟨c,o⟩:=l (n,k) Yf (by simpa using g);have e:cellOf env n=pure c:=by unfold cellOf;rw[o]
    rw[e,pure_bind,pure_bind,o];exact ih _ f m λy j=>l y<|Ye _ j
   ·rw[Yp g,Yp g,pure_bind];exact ih _ f m λy j=>l y<|Ye _ j
 unfold closureFor;show(forIn scope.names _ _>>=λp=>pure p)=_;rw[i scope.names [] _ (λn k r=>by
  by_cases g:(k == NameKind.free)=true
  ·simp[g,VC]
  ·simp[g]) h]
 rfl
def aT{α:Type}y n c(l:List (Str×α)):((n,c)::l).lookup y=if y=n then some c else l.lookup y:=by
 rw[List.lookup_cons];by_cases h:y=n
 ·subst h;simp
 ·have:(y == n)=false:=by simpa using h
  rw[this,Yp h]
theorem dS:∀names a y c,
  (∀x∈names,x.2=.free->∃c,cs.lookup x.1=some c)->(∀y c,a.lookup y=some c->cs.lookup y=some c)->(dH cs names a).lookup y=some c->cs.lookup y=some c
 |[],a,y,c,_,h,e=>h y c e
 |(n,k)::r,a,y,c,hx,h,e=>by
  unfold dH at e;have i:=λx j=>hx x<|Ye _ j
  by_cases f:(k == NameKind.free)=true
  ·rw[Yh f]at e;refine dS r _ y c i (λz d b=>?_) e;obtain⟨l,g⟩:=hx (n,k) Yf (by simpa using f);rw[aT]at b;split at b
   ·rename_i q;subst q;cases b;rw[g];rfl
   ·exact h z d b
  ·rw[Yp f]at e;exact dS r a y c i h e
theorem ii:∀names a y c,
  (dH cs names a).lookup y=some c->(y,NameKind.free)∈names\/a.lookup y=some c
 |[],a,y,c,e=>.inr e
 |(n,k)::r,a,y,c,e=>by
  unfold dH at e;by_cases b:(k == NameKind.free)=true
  ·rw[Yh b]at e;have h:k=.free:=by simpa using b
   rcases ii r _ y c e with q|q
   ·exact .inl<|Ye _ q
   ·rw[aT]at q;split at q
    ·rename_i z;subst z;subst h;exact .inl Yf
    ·exact .inr q
  ·rw[Yp b]at e;rcases ii r a y c e with q|q
   ·exact .inl<|Ye _ q
   ·exact .inr q
theorem hV:∀names a y,
  ((y,NameKind.free)∈names\/∃c,a.lookup y=some c)->∃c,(dH cs names a).lookup y=some c
 |[],a,y,h=>h.elim (λz=>by cases z) id
 |(n,k)::r,a,y,h=>by
  unfold dH;by_cases b:(k == NameKind.free)=true
  ·rw[Yh b];refine hV r _ y ?_;rcases h with h|⟨c,h⟩
   ·rcases Yw.mp h with q|q
    ·cases q;exact .inr ⟨_,by rw[aT,Yh rfl]⟩
    ·exact .inl q
   ·refine .inr ?_;by_cases q:y=n
    ·exact⟨_,by rw[aT,Yh q]⟩
    ·exact⟨c,by rwa[aT,Yp q]⟩
  ·rw[Yp b];refine hV r a y ?_;rcases h with h|h
   ·rcases Yw.mp h with q|q
    ·cases q;exact absurd rfl b
    ·exact .inl q
   ·exact .inr h
theorem qM:∀names (h:Heap) a y c,(cellsFrom h.objs.size names a).lookup y=some c->
  (h.objs.size<=c/\(pushCells h names).IsCell c none/\(y,NameKind.cell)∈names)\/a.lookup y=some c
 |[],_,_,_,_,e=>.inr e
 |(n,k)::r,h,a,y,c,e=>by
  unfold cellsFrom at e;unfold pushCells;by_cases j:(k == NameKind.cell)=true
  ·rw[Yh j]at e ⊢;have i:k=.cell:=by simpa using j
   have l:(h.push {cls:=.type "cell",data:=.cell none}).objs.size=h.objs.size+1:=Vb ..;rw[<-l]at e;rcases qM r _ _ y c e with⟨g,f,b⟩|q
   ·exact .inl ⟨by rw[l]at g;omega,f,Ye _ b⟩
   ·rw[aT]at q;split at q
    ·rename_i z;subst z;cases q;subst i;exact .inl ⟨Yy _,⟨_,Vp r _ _ _<|YK _ rfl,rfl⟩,Yf⟩
    ·exact .inr q
  ·rw[Yp j]at e ⊢;rcases qM r h a y c e with⟨g,f,b⟩|q
   ·exact .inl ⟨g,f,Ye _ b⟩
   ·exact .inr q
theorem vY{y}:∀names n a,(∀k,(y,k)∈names->k≠.cell)->(cellsFrom n names a).lookup y=a.lookup y
 |[],_,_,_=>rfl
 |(m,k)::r,n,a,h=>by
  unfold cellsFrom;have e:=λk b=>h k<|Ye _ b
  by_cases b:(k == NameKind.cell)=true
  ·rw[Yh b,vY r _ _ e,aT,Yp];rintro rfl;exact h k Yf<|by simpa using b
  ·rw[Yp b];exact vY r n a e
theorem u6:∀names (n:Nat) (f:List (Str×Addr)),(∀y c,f.lookup y=some c->c<n)->(∀y z c,f.lookup y=some c->f.lookup z=some c->y=z)->
  ∀y z c,(cellsFrom n names f).lookup y=some c->(cellsFrom n names f).lookup z=some c->y=z
 |[],_,_,_,h=>h
 |(m,k)::r,n,f,hlt,h=>by
  unfold cellsFrom;by_cases i:(k == NameKind.cell)=true
  ·rw[Yh i];refine u6 r (n+1) _ (λy c e=>?_) λy z c e g=>?_
   ·rw[aT]at e;split at e
    ·cases e;exact XG _
    ·exact Xs<|hlt y c e
   ·rw[aT]at e g;split at e<;>split at g
    ·rename_i a b;rw[a,b]
    ·cases e;exact absurd (hlt z _ g)<|Zo _
    ·cases g;exact absurd (hlt y _ e)<|Zo _
    ·exact h y z c e g
  ·rw[Yp i];exact u6 r n f hlt h
noncomputable def i7(env:Env)(scope:Scope)(C:Addr):Env:=
 {scope:=relabel scope env,locals:=C,globals:=env.globals,cells:=cellsFrom (C+1) scope.names<|dH env.cells scope.names [],qual:=env.qual,func:=none,code:=env.code,frame:=env.frame,builtins:=env.builtins}
noncomputable def blk(X:Cx)(scope:Scope)(N:List Str)(s:Shared)(H:Hp)(fp:List Addr)(pz:Kp):Cx where
 prog:=X.prog
 w:=X.w
 K:=X.K
 mg:=X.mg
 base:=X.base
 A:=X.A
 N:=N
 s₀:=s
 H₀:=H
 env:=i7 X.env scope s.heap.objs.size
 outer:=X.stack
 stack:=X.stack
 ex:=fp
 fn:=λx=>scope.names.lookup x == some .local||scope.names.lookup x == some .cell
 calm:=X.calm
 pn:=X.pn++pz
 xe:=λ_ _=>False
structure BlkScope (X:Cx) (scope:Scope):Prop where
 kind:scope.kind=.function
 nd:(scope.names.map (·.1)).Nodup
 free:∀x∈scope.names,x.2=.free->X.env.kindOf x.1=some .cell\/X.env.kindOf x.1=some .free
theorem gA{α:Type}:∀{l:List (Str×α)}{n}{c},(l.map (·.1)).Nodup->(n,c)∈l->l.lookup n=some c
 |[],_,_,_,h=>by cases h
 |(k,v)::r,n,c,nd,h=>by
  rw[aT];rcases Yw.mp h with q|q
  ·cases q;rw[Yh rfl]
  ·have a:=YG.mp nd;rw[Yp]
   ·exact gA a.2 q
   ·rintro rfl;exact a.1<|Yt.mpr ⟨_,q,rfl⟩
theorem kF:∀(names:List (Str×NameKind)),
  (names.map λ(n,k)=>if(k == NameKind.free&&env.scope.kind == .function&&env.kindOf n == some .cell)then(n,NameKind.cell)else(n,k)).lookup x =
   (names.lookup x).map λk=>if(k == NameKind.free&&env.scope.kind == .function&&env.kindOf x == some .cell)then NameKind.cell else k
 |[]=>rfl
 |(n,k)::r=>by
  show List.lookup x ((if(k == NameKind.free&&env.scope.kind == .function&&env.kindOf n == some .cell)=true then(n,NameKind.cell)else(n,k))::_)=_;have e:(if(k == NameKind.free&&env.scope.kind == .function&&env.kindOf n == some .cell)=true then(n,NameKind.cell)else(n,k)) =
    (n,if(k == NameKind.free&&env.scope.kind == .function&&env.kindOf n == some .cell)=true then NameKind.cell else k):=by split<;>rfl
  rw[e,aT,aT];split
  ·rename_i q;subst q;rfl
  ·exact kF r
def oC x:(i7 env scope C).kindOf x =
  (scope.names.lookup x).map λk=>if(k == NameKind.free&&env.scope.kind == .function&&env.kindOf x == some .cell)then NameKind.cell else k:=kF scope.names
def BlkScope.cl(b:BlkScope X scope)(ok:X.Ok):∀x∈scope.names,x.2=.free->∃c,X.env.cells.lookup x.1=some c:=λx h e=>ok.has x.1<|b.free x h e
theorem gX(b:BlkScope X scope)(I:Inv X pz σ H s){y}(e:(i7 X.env scope s.heap.objs.size).cells.lookup y=some c) :
  (s.heap.objs.size<c/\(pushCells (s.heap.push {cls:=.type "dict",data:=.dict #[]}) scope.names).IsCell c none/\(y,NameKind.cell)∈scope.names)\/(X.env.cells.lookup y=some c/\(y,NameKind.free)∈scope.names):=by
 have a:(s.heap.push {cls:=.type "dict",data:=.dict #[]}).objs.size=s.heap.objs.size+1:=Vb ..;have j:(cellsFrom (s.heap.push {cls:=.type "dict",data:=.dict #[]}).objs.size scope.names<|dH X.env.cells scope.names []).lookup y=some c:=by rwa[a]
 rcases qM _ _ _ _ _ j with⟨i,g,f⟩|h
 ·exact .inl ⟨by rw[a]at i;omega,g,f⟩
 ·refine .inr ⟨dS _ _ y c (b.cl I.ok) (λ_ _ z=>by cases z) h,?_⟩;rcases ii _ _ _ _ h with q|q
  ·exact q
  ·cases q
def G3(b:BlkScope X scope)(I:Inv X pz σ H s)(j:∀a∈fp,lP X pz H a)(g:∀a∈fp,a<s.heap.objs.size):(blk X scope N s H fp pz).Ok:=by
 have m:∀y c,X.env.cells.lookup y=some c->c<s.heap.objs.size:=λy c e=>by obtain⟨v,q⟩:=I.cell y c e;exact q.lt
 refine⟨I.ok.mod,b.kind,I.ok.glob,I.ok.blt,Yy _,λx y c e C=>?_,λx l=>?_,λx c l e=>?_,I.ok.hd,I.ok.frames,.inl rfl,λa f=>⟨YJ<|g a f,λx c e=>?_⟩,I.bs,YW I.ok.bsz I.sz,λa o e f=>?_,λa f=>?_,I.stack,I.stkFree⟩
 ·refine u6 scope.names _ _ (λy c q=>?_) (λy z c q p=>?_) x y c e C
  ·exact Xs<|m y c<|dS _ _ y c (b.cl I.ok) (λ_ _ z=>by cases z) q
  ·exact I.ok.inj y z c (dS _ _ y c (b.cl I.ok) (λ_ _ z=>by cases z) q)<|dS _ _ z c (b.cl I.ok) (λ_ _ z=>by cases z) p
 ·have h:(i7 X.env scope s.heap.objs.size).kindOf x=some .cell\/(i7 X.env scope s.heap.objs.size).kindOf x=some .free:=l;rw[oC]at h;cases q:scope.names.lookup x with
  |none=>rw[q]at h;rcases h with z|z<;>cases z
  |some k=>
   have u:=Zt q;cases k with
   |cell=>exact ZZ.mp<|Xf scope.names _ _<|.inl q
   |free=>
    obtain⟨c,w⟩:=hV (cs:=X.env.cells) scope.names [] x<|.inl u;exact ZZ.mp<|Xf scope.names _ _<|.inr<|by rw[w];rfl
   |_=>rw[q]at h;exfalso;revert h;simp
 ·rcases gX b I e with⟨i,_,_⟩|⟨_,B⟩
  ·exact Zz i
  ·exfalso;have q:=gA b.nd B;have h:(scope.names.lookup x == some .local||scope.names.lookup x == some .cell)=true:=l;rw[q]at h;revert h;decide
 ·rcases gX b I e with⟨i,_,_⟩|⟨i,_⟩
  ·intro z;subst z;exact absurd (ZA (g _ f) i)<|Zo _
  ·exact(j a f).2.2.2.2.1 x c i
 ·have A:=(j a f).2.2.2.1;rcases A with z|z
  ·exact I.ok.noex a o e z
  ·exact absurd (Ys (YC e)<|YW I.ok.bsz z)<|Zo _
 ·intro z;rcases Yw.mp (I.stkSub a z)with q|q
  ·exact(j a f).2.1 q
  ·exact(j a f).2.2.1 q
def fu(own:Nat)(ix:List Nat)(σ:St):St:=List.replicate own none++ix.map λj=>(σ[j]?).join
def jm own ix σ:(fu own ix σ).length=own+ix.length:=by unfold fu;rw[Yb,YA,Yc]
theorem pE(h:(fu own ix σ)[i]?=some (some v)):own<=i/\∃j,ix[i-own]?=some j/\σ[j]?=some (some v):=by
 unfold fu at h;by_cases b:i<own
 ·rw[ZF<|by rwa[YA],Xc,Yh b]at h;cases h
 ·rw[ZB<|by rw[YA];omega,YA,YI]at h;refine⟨by omega,?_⟩;cases q:ix[i-own]? with
  |none=>rw[q]at h;cases h
  |some j=>
   rw[q]at h;refine⟨j,rfl,?_⟩;cases a:σ[j]? with
   |none=>rw[ZQ,a]at h;cases h
   |some o=>
    rw[ZQ,a]at h;cases o with
    |none=>cases h
    |some e=>rw[Option.join_some]at h;cases h;rfl
structure Caps (X:Cx) (scope:Scope) (N:List Str) (own:Nat) (ix:List Nat):Prop where
 len:N.length=own+ix.length
 cap:∀(i:Nat) (j:Nat) (x:Str),N[own+i]?=some x->ix[i]?=some j->X.N[j]?=some x/\scope.names.lookup x=some .free
theorem zg(b:BlkScope X scope)(cp:Caps X scope N own ix)(I:Inv X pz σ H s)(P:∀a∈fp,lP X pz H a)(A:∀a∈fp,a<s.heap.objs.size) :
  Inv (blk X scope N s H fp pz) [] (fu own ix σ) H {s with heap:=pushCells (s.heap.push {cls:=.type "dict",data:=.dict #[]}) scope.names}:=by
 have f:∀a o,s.heap.get? a=some o->(pushCells (s.heap.push {cls:=.type "dict",data:=.dict #[]}) scope.names).get? a=some o:=λa o e=>Vp _ _ a o<|Yx _ e
 refine⟨G3 b I P A,rfl,I.bare,Un.kept f,⟨_,(Heap.Ns.new s.heap _).keeps<|Vp _ _,λi x v Z Y e3=>?_⟩,λy c e=>?_,I.fresh,λy c e=>?_,λp M=>?_,I.hok.kept f,?_⟩
 ·obtain⟨ho,j,T,S⟩:=pE Y;have E:N[own+(i-own)]?=some x:=by rwa[show own+(i-own)=i by omega]
  obtain⟨Q,h⟩:=cp.cap _ j x E T;obtain⟨m,hn,O⟩:=I.loc;have C:=b.free _ (Zt h) rfl;have L:Vis X.env.scope x:=C.elim (λz=>.inr<|.inl z) λz=>.inr<|.inr z
  obtain⟨u,r,lk⟩:=O j x v Q S L;refine⟨u,r,.inr ⟨?_,?_⟩⟩
  ·show(i7 X.env scope s.heap.objs.size).kindOf x=some .cell\/(i7 X.env scope s.heap.objs.size).kindOf x=some .free;rw[oC,h];show some (if _ then NameKind.cell else NameKind.free)=some .cell\/some (if _ then NameKind.cell else NameKind.free)=some .free;split
   ·exact .inl rfl
   ·exact .inr rfl
  ·rcases lk with⟨k,_⟩|⟨_,c,U,z⟩
   ·rw[k]at C;rcases C with z|z<;>cases z
   ·refine⟨c,?_,z.keeps f⟩;show(cellsFrom _ scope.names _).lookup x=some c;rw[vY]
    ·obtain⟨c',g⟩:=hV (cs:=X.env.cells) scope.names [] x<|.inl<|Zt h;have:=dS _ _ x c' (b.cl I.ok) (λ_ _ z=>by cases z) g;rw[U]at this;cases this;exact g
    ·intro k B z;rw[gA b.nd B]at h;cases h;cases z
 ·rcases gX b I e with⟨_,R,_⟩|⟨l,_⟩
  ·exact⟨_,R⟩
  ·obtain⟨v,z⟩:=I.cell y c l;exact⟨v,z.keeps f⟩
 ·rcases gX b I e with⟨l,_,_⟩|⟨l,_⟩
  ·exact I.hok.fresh<|Zz l
  ·exact I.freeC y c l
 ·have w:p∈X.pn++pz:=by
   have:p∈(X.pn++pz)++[]:=M
   rwa [Yl]at this
  obtain⟨e,n,K,J,d⟩:=I.pin p w;refine⟨f _ _ e,n,YJ<|YC e,λz=>?_,d⟩;rcases Yw.mp (I.stkSub p.1 z)with q|q
  ·exact K q
  ·exact J q
 ·rw[jm];exact cp.len.symm
def zn{f:St}{pl:Kp}(I:Inv X pz σ H s)(p:∀a∈fp,lP X pz H a)(J:Inv (blk X scope N s H fp pz) pl f H' s')(b:Heap.SameBut s.heap.objs.size s'.heap h') :
  Inv X pz σ H' {s' with heap:=h' }:=by
 have j:H' s.heap.objs.size=none:=J.free;have g:∀a o,s.heap.get? a=some o->a≠s.heap.objs.size:=λa o e=>YJ<|YC e
 have u:=J.base;refine I.call' J.os ⟨λa o e n i h=>(b.2 a<|g a o e).trans<|u.keep a o e n i h,λa o e n i h=>?_,λa o e n h=>u.free a o e n h,λa o e h=>?_,u.tups,u.frzs,u.tbls⟩ (λa o e=>?_) J.bare λa w=>?_
 ·obtain⟨l,q⟩:=u.slot a o e n i h;exact⟨l,(b.2 a<|g a o e).trans q⟩
 ·obtain⟨m,q⟩:=u.there a o e h;exact⟨m,(b.2 a<|g a o e).trans q⟩
 ·refine(J.hok a o e).stay (λc v hc q=>(b.2 c ?_).trans q) (λ_ q=>q) λ_ _ q=>q;rintro rfl;rcases hc with rfl|hc
  ·rw[j]at e;cases e
  ·rw[j]at hc;cases hc
 ·obtain⟨_,h,_,z,y,x⟩:=p a w;exact⟨z,h,y,x⟩
def zv{pl:Kp}{H'}(b:BlkScope X scope)(I:Inv X pz σ H s)(l:∀a∈fp,lP X pz H a)(h:∀a∈fp,a<s.heap.objs.size)(j:∀a∈fp,H' a=none) :
  ∀a∈fp,lP (blk X scope N s H fp pz) [] H' a:=λa f=>by
 obtain⟨_,w,u,y,o,m⟩:=l a f;refine⟨j a f,YJ<|h a f,λz=>?_,.inl f,λx c e=>?_,λp i=>?_⟩
 ·rcases Yw.mp (I.stkSub a z)with q|q
  ·exact w q
  ·exact u q
 ·rcases gX b I e with⟨q,_,_⟩|⟨q,_⟩
  ·intro z;subst z;exact absurd (ZA (h _ f) q)<|Zo _
  ·exact o x c q
 ·have g:p∈X.pn++pz:=by
   have:p∈(X.pn++pz)++[]:=i
   rwa [Yl]at this
  exact m p g
def v8{Q}cl
  (h:∀a:Env,a={scope:=scope,locals:=s.heap.objs.size,globals:=env.globals,cells:=cellsFrom (s.heap.objs.size+1) scope.names cl,qual:=env.qual,func:=none,code:=env.code,frame:=env.frame,builtins:=env.builtins}->
   Q a {s with heap:=pushCells (s.heap.push {cls:=.type "dict",data:=.dict #[]}) scope.names}) :
  wpAny M A (newFunctionEnv scope env.globals cl [] env.qual none .none<|some env) Q E s:=by
 simp only[newFunctionEnv,Option.isSome_some,VC];refine Yr<|wpAny_alloc ?_;refine Yr<|wpAny_layCells _ (λf b cells=>by cases e:b == NameKind.cell<;>simp[e]) _ _ _ _ ?_;rw[show({s with heap:=s.heap.push {cls:=.type "dict",data:=.dict #[]} }:Shared).heap.objs.size=s.heap.objs.size+1 from Vb ..];refine Yr ?_;rw[List.forIn_nil];exact YT<|YT<|h _ rfl
def y6{R:Kr}{a}{it q}(I:Nat->Shared->Prop)
  (turn:∀n s,I n s->wpAny (model prog w) A (pyNext it) (λr b=>match r with
   |none=>R (.ok .next) b
   |some v=>wpAny (model prog w) A (letOwnedTupleGo a it v) (λ_ b=>wpAny (model prog w) A (assign a env v) (λ_ l=>
     wpAny (model prog w) A (forIn ifs true λc r=>if r=true then do let ok <-isTrue c env<|eval c env;pure (ForInStep.yield ok)else pure<|ForInStep.yield r) (λok f=>
      if ok=true then wpAny (model prog w) A (eval elt env) (λx j=>
       wpAny (model prog w) A (call (.builtin "list.append") [q,x]) (λ_ i=>∃m,m<n/\I m i) (λ_ _=>False) j) (λ_ _=>False) f
      else ∃m,m<n/\I m f) (λ_ _=>False) l) (λ_ _=>False) b) (λ_ _=>False) b) (λ_ _=>False) s)
  n (h:I n s) :
  codeAny (model prog w) A (.compLoop (.ListComp elt [⟨a,iter,ifs,0⟩] scope pos) 0 it q env) R s:=by
 refine codeAny_loop rfl I (λn s C=>?_) n h;refine wpAny_noted ?_;rw[compTurn_list];refine Yr<|wpAny_standAt<|Yr<|ZC (turn n s C) (λr b o=>?_) λ_ _ g=>g.elim;cases r with
 |none=>exact YT o
 |some v=>
  refine Yr<|ZC o (λ_ B p=>?_) λ_ _ g=>g.elim;refine Yr<|ZC p (λ_ l z=>Yr<|ZC z (λok f e=>?_) λ_ _ g=>g.elim) λ_ _ g=>g.elim;cases ok with
  |true=>
   rw[Yh rfl]at e;simp only[VC];exact Yr<|Yr<|ZC e (λx j y=>Yr<|ZC y (λ_ i u=>YT<|YT ⟨rfl,u⟩) λ_ _ g=>g.elim) λ_ _ g=>g.elim
  |false=>
   rw[Yp Ym]at e;simp[Vt,if_false];exact YT ⟨rfl,e⟩
def J_:TT:=λ_ H Q=>Q true H
def yp(X:Cx)(ifs:List Expr)(t:TT):Prop:=
 ∀(p:Kp) s (a:St) H Q,Inv X p a H s->t a H Q->
  wpAny (model X.prog X.w) X.A (forIn ifs true λc r=>if r=true then do let ok <-isTrue c X.env<|eval c X.env;pure (ForInStep.yield ok)else pure<|ForInStep.yield r) (TP X p a Q) X.xe s
def Bj:yp X [] J_:=λ_ _ _ H _ I h=>YT ⟨H,I,h⟩
def Fl(own:Nat)(ix:List Nat)(wi:TI)(g:TG)(tc:TT)(te:TE):TE:=λl H Q=>wi l H λJ s=>∀a,s a=none->∃W:Nat->Nat->List V->Hp->Prop,
 (∃m,W 0 m []<|upd s a<|.lst [])/\∀i m e H,W i m e H->
  (J.stop i H/\Q (.ref a) H)\/(J.go i H/\∃N:List V->Hp->Prop,(∀f h,N f h->∃o,o < m/\W (i+1) o f h)/\∀x h,J.yld i H x h->g x (fu own ix l) h λb u=>
   (b.length=own+ix.length/\∀(j:Nat) v,(fu own ix l)[j]?=some (some v)->b[j]?=some (some v)) /\
   tc b u λok q=>if ok=true then te b q λy p=>p a=some (.lst e)/\e.length<sizeLine/\N (e++[y]) (upd p a<|.lst<|e++[y])else N e q)
section
variable       {own:Nat}  {wi:TI}{g:TG}  
theorem vn{Q:VK}{RR:Value->Addr->Result->Shared->Prop}(hcalm:X.calm=true)(b:BlkScope X scope)(cp:Caps X scope N own ix)
  (hg:∀s H fp pz,PG (blk X scope N s H fp pz) tg g) (hc:∀s H fp pz,yp (blk X scope N s H fp pz) ifs tc) (he:∀s H fp pz,PE (blk X scope N s H fp pz) elt te)
  (hp:PIE X pz σ tg (λJ H1=>∀f,H1 f=none->∃W:Nat->Nat->List V->Hp->Prop,
   (∃m,W 0 m []<|upd H1 f<|.lst [])/\∀i m ys H,W i m ys H->
    (J.stop i H/\Q (.ref f) H)\/(J.go i H/\∃N:List V->Hp->Prop,(∀ys' H',N ys' H'->∃m',m' < m/\W (i+1) m' ys' H')/\∀x H',J.yld i H x H'->g x (fu own ix σ) H' λL H2=>
     (L.length=own+ix.length/\∀(j:Nat) v,(fu own ix σ)[j]?=some (some v)->L[j]?=some (some v)) /\
     tc L H2 λok p=>if ok=true then te L p λy H4=>H4 f=some (.lst ys)/\ys.length<sizeLine/\N (ys++[y]) (upd H4 f<|.lst<|ys++[y])else N ys p)) itv s)
  (hR:∀h p fp f (σ':St) H' s',Inv X pz σ p h->(∀a∈fp,lP X pz p a)->Inv (blk X scope N h p fp pz) [] σ' H' s'->Q (.ref f) H'->RR (.ref f) h.heap.objs.size (.ok .next) s') :
  wpAny (model X.prog X.w) X.A (newList []) (λf s₃=>wpAny (model X.prog X.w) X.A (newFunctionEnv scope X.env.globals (dH X.env.cells scope.names []) [] X.env.qual none .none<|some X.env) (λK s₄=>
   codeAny (model X.prog X.w) X.A (.compStart (.ListComp elt [⟨tg,iter,ifs,0⟩] scope pos) 0 itv f {K with scope:=relabel scope X.env}) (RR f K.locals) s₄) E s₃) E s:=by
 obtain⟨it,fp,tn,J,H1,rfl,I1,T,st1,f1,hacc⟩:=hp;refine wpAny_newObj_type ?_
 -- the list
 have Z:Inv X pz σ _ {s with heap:=s.heap.push {cls:=.type "list",dict:=none,data:=.seq ([]).toArray} }:=I1.lnew (ys:=[]) (its:=[]) .nil<|YQ _;generalize hs3:({s with heap:=s.heap.push {cls:=.type "list",dict:=none,data:=.seq ([]:List Value).toArray} }:Shared)=h at Z ⊢;have kp3:∀a o,s.heap.get? a=some o->h.heap.get? a=some o:=λa o e=>by rw[<-hs3];exact Yx _ e
 have st3:tn 0 h.heap:=T.keep _ _ _ st1 λa _ o e=>kp3 a o e
 have lt1:∀a∈fp,a<s.heap.objs.size:=λa C=>by obtain⟨o,e,_⟩:=T.obj _ _ st1 a C;exact YC e
 have Y:∀a∈fp,lP X pz (upd H1 s.heap.objs.size<|.lst []) a:=λa C=>⟨by rw[aA<|YJ<|lt1 a C];exact(f1 a C).1,(f1 a C).2⟩
 have R:∀a∈fp,a<h.heap.objs.size:=λa C=>by obtain⟨o,e,_⟩:=T.obj _ _ st3 a C;exact YC e
 obtain⟨W,⟨m0,w0⟩,M⟩:=hacc s.heap.objs.size I1.fresh;generalize hH3:upd H1 s.heap.objs.size (.lst [])=p at Z Y w0;generalize hacc':s.heap.objs.size=f at w0 M ⊢;refine v8 _ λK hc'=>?_;subst hc';have J0:=zg (N:=N) (fp:=fp) b cp Z Y R;have st4:tn 0 (pushCells (h.heap.push {cls:=.type "dict",data:=.dict #[]}) scope.names):=T.keep _ _ _ st3 λa _ o e=>Vp _ _ a o<|Yx _ e
 generalize hs4:({h with heap:=pushCells (h.heap.push {cls:=.type "dict",data:=.dict #[]}) scope.names}:Shared)=s4 at J0 ⊢;have O:tn 0 s4.heap:=by rw[<-hs4];exact st4
 -- the I
 have I:codeAny (model X.prog X.w) X.A (.compLoop (.ListComp elt [⟨tg,iter,ifs,0⟩] scope pos) 0 (.ref it) (.ref f)<|i7 X.env scope h.heap.objs.size) (RR (.ref f) h.heap.objs.size) s4:=by
  refine y6 (λn s'=>∃i ys H',Inv (blk X scope N h p fp pz) [] (fu own ix σ) H' s'/\tn i s'.heap/\(∀a∈fp,H' a=none)/\W i n ys H') ?_ m0 ⟨0,[],p,J0,O,λa C=>(Y a C).1,w0⟩;rintro n s5 ⟨i,ys,H5,J5,st5,fr5,w5⟩;have fp5:=zv (pl:=[]) (N:=N) b Z Y R fr5;rcases M i n ys H5 w5 with⟨stop,q⟩|⟨go,NN,hN,step⟩
  ·refine thn (T.done (blk X scope N h p fp pz) rfl rfl rfl hcalm i [] s5 _ H5 _ J5 fp5 st5 stop) λr s6 ⟨hr,J6⟩=>?_;subst hr;exact hR h p fp f _ H5 s6 Z Y J6 q
  ·refine thn (T.item (blk X scope N h p fp pz) rfl rfl rfl hcalm i [] s5 _ H5 _ J5 fp5 st5 go) λr s6 ⟨u,hr,h6⟩=>?_;subst hr;refine thn h6 λ_ s7 l=>?_;obtain⟨x,H7,J7,r7,y7,P,fr7⟩:=l;have fp7:=zv (pl:=[]) (N:=N) b Z Y R fr7;have J7':=J7.pinned fp7<|T.obj _ _ P;have back:∀{B:St}{S:Hp}{U:Shared}{zs:List V},Inv (blk X scope N h p fp pz) ([]++oJ fp s7.heap) B S U->(B.length=own+ix.length/\∀(j:Nat) v,(fu own ix σ)[j]?=some (some v)->B[j]?=some (some v))->NN zs S->
     ∃m,m<n/\∃i ys H',Inv (blk X scope N h p fp pz) [] (fu own ix σ) H' U/\tn i U.heap/\(∀a∈fp,H' a=none)/\W i m ys H':=λ{B S U zs} J8 hw n8=>by
    obtain⟨m',hm,w8⟩:=hN zs S n8;refine⟨m',hm,i+1,zs,S,(J8.unpinned).weak (by rw[jm,hw.1]) hw.2,T.keep _ _ _ P λa C o e=>(J8.pin (a,o)<|YZ _<|YZ _<|iC C e).1,λa C=>?_,w8⟩;obtain⟨o,e,d⟩:=T.obj _ _ P a C;exact(J8.pin (a,o)<|YZ _<|YZ _<|iC C e).2.1
   refine thn (hg h p fp pz _ s7 _ H7 x u _ J7' r7<|step x H7 y7) λ_ U l=>?_;obtain⟨B,S,J8,hw,q8⟩:=l;refine thn (hc h p fp pz _ U B S _ J8 q8) λok s9 l=>?_;obtain⟨H9,J9,q9⟩:=l;cases ok with
   |false=>
    rw[Yp Ym]at q9 ⊢;exact back J9 hw q9
   |true=>
    rw[Yh rfl]at q9 ⊢;refine thn (he h p fp pz _ s9 B H9 _ J9 q9) λy s10 l=>?_;obtain⟨z,H10,J10,rz,e10,hlt,n10⟩:=l;refine thn (fK (X:=blk X scope N h p fp pz) _ s10 B H10 (.ref f) [z] (.ref f) [y] (λv H'=>v=.non/\H'=upd H10 f (.lst<|ys++[z])) J10 rfl (.cons rz .nil) ⟨f,ys,z,rfl,rfl,e10,hlt,rfl,rfl⟩) λ_ s11 l=>?_;obtain⟨_,H11,J11,_,_,e11⟩:=l;subst e11;exact back J11 hw n10
 subst hs4;exact codeAny_compStart_list I<|T.self _ _ _ _ _ O I
def C4(hcalm:X.calm=true)(b:BlkScope X scope)(cp:Caps X scope N own ix)(hi:PI X tg iter wi)
  (p:∀s H fp pz,PG (blk X scope N s H fp pz) tg g) (u:∀s H fp pz,yp (blk X scope N s H fp pz) ifs tc) (he:∀s H fp pz,PE (blk X scope N s H fp pz) elt te)
  (hnames:∀y∈scope.names,y.2=.local->scope.names.lookup y.1=some .local:=by decide)
  (l:FsI iter X:=by intro _;rfl):PE X (.ListComp elt [⟨tg,iter,ifs,0⟩] scope pos) (Fl own ix wi g tc te):=by
 intro pz s f H Q I h;rw[eval_ListComp];refine wpAny_comprehension_free rfl l (vD<|b.cl I.ok) b.kind hnames<|thn (hi pz s f H _ I h) λv O z=>thn z λj M x=>?_;refine vn hcalm b cp p u he x ?_;intro L S fp a i K P E B J q;obtain⟨m,o,_⟩:=id J.loc;exact⟨m,o,λR e=>⟨.ref a,K,zn E B J e,rfl,q⟩⟩
end
section
variable{κ:Type} [DecidableEq κ]
noncomputable def d4(kvs:List (κ×V))(k:κ):Option V:=(kvs.find? λa=>decide<|a.1=k).map (·.2)
def fL(kvs:List (κ×V))(k:κ)(v:V):List (κ×V):=
 if(kvs.any λa=>decide<|a.1=k)=true then kvs.map (λa=>if a.1=k then(a.1,v)else a)else kvs++[(k,v)]
def m_{p}{k:κ}(e:p.1=k):d4 (p::r) k=some p.2:=by simp[d4,Zj,e]
def nX{p}{k:κ}(e:¬p.1=k):d4 (p::r) k=d4 r k:=by simp[d4,Zj,e]
theorem tY k:∀kvs:List (κ×V),(kvs.any λa=>decide (a.1=k))=(d4 kvs k).isSome
 |[]=>rfl
 |p::r=>by
  rw[Xt];by_cases e:p.1=k
  ·simp[m_ e,Yk e,Bool.true_or,Option.isSome_some]
  ·rw[nX e,Yi e,Bool.false_or];exact tY k r
theorem i8 kvs(k:κ)v:(fL kvs k v).length<=kvs.length+1:=by
 unfold fL;split
 ·rw[Yc];omega
 ·rw[Yb,Yg,Zc];omega
def RelO.isSome_eq{o}{u}(r:RelO o u):o.isSome=u.isSome:=by
 cases o with
 |none=>cases u with
  |none=>rfl
  |some _=>exact(show False from r).elim
 |some _=>cases u with
  |none=>exact(show False from r).elim
  |some _=>rfl
def RelO.getD{o}{u}(r:RelO o u)(rd:RelV d d'):RelV (o.getD d) (u.getD d'):=by
 cases o with
 |none=>cases u with
  |none=>exact rd
  |some _=>exact(show False from r).elim
 |some _=>cases u with
  |none=>exact(show False from r).elim
  |some _=>exact r
def KV.val{vs}(r:KV kvs vs)(k:κ):RelO (d4 kvs k) (valueAt vs k):=by
 unfold KV at r;induction r with
 |nil=>exact True.intro
 |@cons p q j a h t ih=>
  obtain⟨g,i⟩:=h;by_cases e:p.1=k
  ·have f:=g.symm.trans e;have b:valueAt (q::a) k=some q.2:=by simp[valueAt,Zj,f]
   rwa[m_ e,b]
  ·have f:¬q.1=k:=λz=>e<|g.trans z
   have b:valueAt (q::a) k=valueAt a k:=by simp[valueAt,Zj,f]
   rwa[nX e,b]
def KV.any{vs}(r:KV kvs vs)(k:κ):(kvs.any λa=>decide (a.1=k))=vs.any λa=>decide (a.1=k):=by
 unfold KV at r;induction r with
 |nil=>rfl
 |cons h t ih=>rw[Xt,Xt,ih,h.1]
def KV.repl{vs}(r:KV kvs vs)(k:κ)(f:RelV y u) :
  KV (kvs.map λa=>if a.1=k then(a.1,y)else a) (vs.map λa=>if a.1=k then(a.1,u)else a):=by
 unfold KV at r ⊢;induction r with
 |nil=>exact .nil
 |@cons p q j i h t ih=>
  rw[YD,YD];refine .cons ?_ ih;have⟨b,g⟩:=h;by_cases e:p.1=k
  ·rw[Yh e,Yh<|b.symm.trans e];exact⟨b,f⟩
  ·rw[Yp e,Yp λz=>e<|b.trans z];exact⟨b,g⟩
def KV.put{vs}(r:KV kvs vs)(k:κ)(a:RelV y u):KV (fL kvs k y) (stored vs k u):=by
 unfold fL stored;rw[r.any];by_cases e:(vs.any λb=>decide<|b.1=k)=true
 ·rw[Yh e,Yh e];exact r.repl k a
 ·rw[Yp e,Yp e];exact Paired.snoc r ⟨rfl,a⟩
def KV.length{vs}(r:KV kvs vs):kvs.length=vs.length:=Paired.length r
end
def oR{P}(r:RelV (kV k) u):(bU P w).is k u=true:=by
 cases k with
 |inl i=>obtain⟨t,e⟩:=(show ∃t,u=Value.int i t from r);subst e;exact sU P w i t
 |inr x=>obtain⟨t,e⟩:=(show ∃t,u=Value.str x t from r);subst e;exact uD P w x t
theorem pB{P} :∀{ks}{us},Vals (ks.map kV) us->ItemsAre (bU P w) ks us
 |[],_,r=>by rw[Zl]at r;cases r;exact .nil
 |k::ks,_,r=>by
  rw[YD]at r;cases r with
  |cons h t=>exact .cons (oR h)<|pB t
abbrev KT(H:Hp):List (List Key×V)->List (List Key×Addr×Value)->Prop:=Paired λp q=>p.1=q.1/\H q.2.1=some (.tup<|p.1.map kV)/\RelV p.2 q.2.2
def KT.val{xs}(r:KT H kvs xs)k:RelO (d4 kvs k) ((atKey xs k).map (·.2)):=by
 induction r with
 |nil=>exact True.intro
 |@cons p q j a h t ih=>
  obtain⟨g,_,i⟩:=h;by_cases e:p.1=k
  ·have f:=g.symm.trans e;have b:atKey (q::a) k=some q.2:=by simp[atKey,Zj,f]
   rwa[m_ e,b]
  ·have f:¬q.1=k:=λz=>e<|g.trans z
   have b:atKey (q::a) k=atKey a k:=by simp[atKey,Zj,f]
   rwa[nX e,b]
def KT.repl{xs}(r:KT H kvs xs)k(g:RelV y u) :
  KT H (kvs.map λb=>if b.1=k then(b.1,y)else b) (xs.map<|putAt k u):=by
 induction r with
 |nil=>exact .nil
 |@cons p q l j h t ih=>
  rw[YD,YD];refine .cons ?_ ih;have⟨a,f,i⟩:=h;unfold putAt;by_cases e:p.1=k
  ·rw[Yh e,Yh<|a.symm.trans e];exact⟨a,f,g⟩
  ·rw[Yp e,Yp λz=>e<|a.trans z];exact⟨a,f,i⟩
def KT.put{xs}(r:KT H kvs xs)k{b}(h:H b=some (.tup (k.map kV)))(a:RelV y u) :
  KT H (fL kvs k y) (storedH xs k b u):=by
 have e:(kvs.any λf=>decide<|f.1=k)=(atKey xs k).isSome:=by rw[tY,(r.val k).isSome_eq,Vx]
 unfold fL storedH;rw[e];by_cases q:(atKey xs k).isSome=true
 ·rw[Yh q,Yh q];exact r.repl k a
 ·rw[Yp q,Yp q];exact Paired.snoc r ⟨rfl,h,a⟩
def KT.keeps{xs}(r:KT H kvs xs)(h:∀b ys,H b=some (.tup ys)->H' b=some (.tup ys)):KT H' kvs xs:=
 Paired.mapP r λ_ _ z=>⟨z.1,h _ _ z.2.1,z.2.2⟩
section
variable{P:Program}    
def ET{u}(ok:HOk P w H h)(e:Rd H a u):ObjOk P w H h a u:=e.ok ok
def l4(ok:HOk P w H h)(e:Rd H a (.dK kvs)):kvs.length<=sizeLine/\(a == sysModules)=false/\∃vs,KV kvs vs/\h.DictOf (bU P w) a vs:=
 show ObjOk P w H h a (.dK kvs)from ET ok e
def EZ(ok:HOk P w H h)(e:H a=some (.dK kvs)):kvs.length<=sizeLine/\(a == sysModules)=false/\∃vs,KV kvs vs/\h.DictOf (bU P w) a vs:=l4 ok<|.inl e
def lC(ok:HOk P w H h)(e:H a=some (.tup (ks.map kV))):(tupleKind (bU P w)).is h ks a:=by
 obtain⟨_,i,r,⟨o,g,f,n,b⟩,_⟩:=(show ObjOk P w H h a (.tup _)from ok a _ e)
 exact⟨o,i.toArray,n,g,f,b,by simpa using pB r⟩
def oX(ok:HOk P w H h)(e:Rd H a (.dT kvs)):kvs.length<=sizeLine/\(a == sysModules)=false /\
  ∃xs,KT H kvs xs/\h.DictOfH (tupleKind<|bU P w) a xs:=by
 obtain⟨z,y,xs,r,o,u,A,s,j,i,g,f⟩:=(show ObjOk P w H h a (.dT kvs)from ET ok e)
 refine⟨z,y,xs,r,o,u,A,s,j,i,g,λx hx=>?_,f⟩;have all:∀{l}{m},KT H l m->∀x∈m,(tupleKind<|bU P w).is h x.1 x.2.1:=by
  intro l m q;induction q with
  |nil=>intro x hx;exact nomatch hx
  |@cons p q C B b t ih=>
   intro x hx;rcases Yw.mp hx with e|hx
   ·subst e;exact lC ok<|by rw[<-b.1];exact b.2.1
   ·exact ih x hx
 exact all r x hx
def HY(ok:HOk P w H h)(e:H a=some (.dT kvs)):kvs.length<=sizeLine/\(a == sysModules)=false /\
  ∃xs,KT H kvs xs/\h.DictOfH (tupleKind<|bU P w) a xs:=oX ok<|.inl e
end
def DGet(H:Hp)(a:Addr)(y:V)(r:Option V):Prop:=
 (∃e k,Rd H a (.dK e)/\y=kV k/\r=d4 e k)\/∃e k b,Rd H a (.dT e)/\y=.ref b/\H b=some (.tup<|k.map kV)/\r=d4 e k
def DPut(H:Hp)(a:Addr)(y v:V)(H':Hp):Prop:=
 (∃e k,H a=some (.dK e)/\y=kV k/\e.length<sizeLine/\H'=upd H a (.dK<|fL e k v)) \/
 ∃e k b,H a=some (.dT e)/\y=.ref b/\H b=some (.tup<|k.map kV)/\e.length<sizeLine/\H'=upd H a (.dT<|fL e k v)
def DGet.k{k}(e:H a=some (.dK kvs)):DGet H a (kV k) (d4 kvs k):=.inl ⟨kvs,k,.inl e,rfl,rfl⟩
def DGet.t{b}{k}(e:H a=some (.dT kvs))(f:H b=some (.tup (k.map kV))):DGet H a (.ref b) (d4 kvs k):=.inr ⟨kvs,k,b,.inl e,rfl,f,rfl⟩
def DPut.k{k}(e:H a=some (.dK kvs))(h:kvs.length<sizeLine):DPut H a (kV k) v (upd H a (.dK (fL kvs k v))):=.inl ⟨kvs,k,e,rfl,h,rfl⟩
def DPut.t{b}{k}(e:H a=some (.dT kvs))(f:H b=some (.tup (k.map kV)))(h:kvs.length<sizeLine) :
  DPut H a (.ref b) v (upd H a<|.dT<|fL kvs k v):=.inr ⟨kvs,k,b,e,rfl,f,h,rfl⟩
section
variable       {v:V}{r:Value}{o:Option V}  
def Inv.big(I:Inv X pz σ H s):sysModules<s.heap.objs.size:=by have h:=(I.mod.glob.keeps I.bk).lt;exact ZA (by decide) h
def zf(M:A.units+1<cLine)(I:Inv X pz σ H s)(g:DGet H a y (some v))(J:RelV y u)(h:∀j s',Inv X pz σ H s'->RelV v j->Q j s') :
  wpAny (model X.prog X.w) A (getItem (.ref a) u) Q E s:=by
 rcases g with⟨m,k,e,B,l⟩|⟨m,k,b,e,B,P,l⟩
 ·subst B;obtain⟨z,O,L,i,C⟩:=l4 I.hok e;obtain⟨j,q,f⟩:=RelO.some_of (v:=v) (o:=valueAt L k) (by rw[l];exact i.val k);exact wpAny_getItem_of (oR J) C.mapOf q<|h j _ (I.tok _) f
 ·subst B;cases(show u=Value.ref b from J);obtain⟨z,O,K,i,C⟩:=oX I.hok e;obtain⟨j,q,f⟩:=RelO.some_of (v:=v) (o:=(atKey K k).map (·.2)) (by rw[l];exact i.val k);obtain⟨p,N,x⟩:=Option.map_eq_some_iff.mp q;refine wpAny_getItem_heap (Xk M) (lC I.hok P) C N ?_;rw[x];exact h j _ (I.tok _) f
def Jx(B:A.units+1<cLine)(I:Inv X pz σ H s)(g:DGet H a y o)(x:RelV y u)(h:∀s',Inv X pz σ H s'->Q (.bool o.isSome) s') :
  wpAny (model X.prog X.w) A (compareOp .In u<|.ref a) Q E s:=by
 rcases g with⟨i,k,e,m,l⟩|⟨i,k,b,e,m,C,l⟩
 ·subst m;obtain⟨z,j,K,f,p⟩:=l4 I.hok e;refine wpAny_in_of (oR x) j p.mapOf ?_;rw[<-(f.val k).isSome_eq,<-l];exact h _<|I.tok _
 ·subst m;cases(show u=Value.ref b from x);obtain⟨z,j,J,f,p⟩:=oX I.hok e;refine wpAny_in_heap (Xk B) (lC I.hok C) j p ?_;have q:=(f.val k).isSome_eq;rw[Vx]at q;rw[<-q,<-l];exact h _<|I.tok _
def Ez(B:A.units+1<cLine)(I:Inv X pz σ H s)(g:DGet H a y o)(x:RelV y u)(h:∀s',Inv X pz σ H s'->Q (.bool (!o.isSome)) s') :
  wpAny (model X.prog X.w) A (compareOp .NotIn u<|.ref a) Q E s:=by
 rcases g with⟨i,k,e,m,l⟩|⟨i,k,b,e,m,C,l⟩
 ·subst m;have⟨z,j,K,f,p⟩:=l4 I.hok e;refine wpAny_notIn_of (oR x) j p.mapOf ?_;rw[<-(f.val k).isSome_eq,<-l];exact h _<|I.tok _
 ·subst m;cases(show u=Value.ref b from x);have⟨z,j,J,f,p⟩:=oX I.hok e;refine wpAny_notIn_heap (Xk B) (lC I.hok C) j p ?_;have q:=(f.val k).isSome_eq;rw[Vx]at q;rw[<-q,<-l];exact h _<|I.tok _
def rq(I:Inv X pz σ H s)(m:Mut (H a))(h:Heap.SameBut a s.heap h')(he:∃q,h'.get? a=some q)(new:ObjOk X.prog X.w (upd H a ob) h' a ob) :
  Inv X pz σ (upd H a ob) {s with heap:=h',toks:=t' }:=
 I.write m (.inl rfl) (λb q f z=>(h.2 b f).trans z) he new
def BI{P}{vs}(z:kvs.length<=sizeLine)(hd:(a == sysModules)=false)(b:KV kvs vs)(dd:h'.DictOf (bU P w) a vs) :
  ObjOk P w H' h' a (.dK kvs):=⟨z,hd,vs,b,dd⟩
theorem xM{Q}(T:A.units+1<cLine)(I:Inv X pz σ H s)(g:DPut H a y v H')(L:RelV y u)(M:RelV v r)(h:∀s',Inv X pz σ H' s'->Q () s') :
  wpAny (model X.prog X.w) A (setItem (.ref a) u r) Q E s:=by
 rcases g with⟨i,k,e,C,l,J⟩|⟨i,k,b,e,C,P,l,J⟩
 ·subst C J;obtain⟨z,B,S,f,K⟩:=EZ I.hok e;have o:S.length<=sizeLine:=by rwa[<-f.length]
  have x:(fL i k v).length<=sizeLine:=by have:=i8 i k v;omega
  refine wpAny_setItem_pairs (oR L) K λN j p=>h _ ?_;have U:∃q,N.get? a=some q:=let ⟨q,_,_,m,_⟩:=j;⟨q,m⟩
  exact rq I (by rw[e];exact True.intro) p U<|BI x B (f.put k M) j
 ·subst C J;cases(show u=Value.ref b from L);obtain⟨z,B,R,f,K⟩:=HY I.hok e;have o:R.length<=sizeLine:=by rwa[<-Paired.length f]
  have x:(fL i k v).length<=sizeLine:=by have:=i8 i k v;omega
  refine wpAny_setItem_heap (Xk T) (lC I.hok P) K λN j p=>h _ ?_;obtain⟨q,es,ep,m,h2,h3,Z,_,Y⟩:=j;refine rq I (by rw[e];exact True.intro) p ⟨q,m⟩ ⟨x,B,_,(f.put k P M).keeps λc ys O=>?_,q,es,ep,m,h2,h3,Z,Y⟩;rwa[aA<|Ih O e λz=>nomatch z]
end
section
variable       {kvs:List (Key×V)}{k:Key}   
theorem HR(I:Inv X pz σ H s)(e:Rd H a (.dK kvs))(h:∀t s',Inv X pz σ H s'->Q (.int kvs.length t) s'):wpAny (model X.prog X.w) A (call (.builtin "len") [.ref a]) Q E s:=by have⟨z,f,i,b,g⟩:=l4 I.hok e;refine call_len_dict f g (by rw[<-b.length];rw[YL]at z;omega) ?_;rw[<-b.length];exact h _ _<|I.tok _
end
def rS(i:Expr):Prop:=∀o a,subscripted i false o a=operate [o,a] (getItem o a)
def xb{a}{T id} 
  (q:typeLookup (.type T) "__getitem__"=pure (some<|.builtin id)) (p:rS a)
  (h:wpAny (model prog w) A (eval value env) (λo g=>wpAny (model prog w) A (eval a env) (λi b=>b.TypeIs o T/\wpAny (model prog w) A (getItem o i) Q E b) E g) E s) :
  wpAny (model prog w) A (eval (.Subscript value a pos) env) Q E s:=by
 refine Subscript_<|ZC h (λo g l=>ZC l (λi b e=>?_) λ_ _ x=>x) λ_ _ x=>x;obtain⟨m,e⟩:=e;unfold subscriptTail;refine Yr ?_;rw[getitemInPython_of_ne m.not_modules];refine Yr<|wpAny_specialOf m q ?_;have fin:wpAny (model prog w) A (subscripted a false o i) (λr f=>wpAny (model prog w) A (letTemporaryGo value o r>>=λ_=>pure r) Q E f) E b:=by rw[p];exact wpAny_operating<|ZC e (λr f j=>Yr<|wpAny_letTemporaryGo<|YT j) λ_ _ x=>x
 first
  |exact YT<|Yr fin
  |exact Yr _
  |exact Yr fin
def tK{o}(I:Inv X pz σ H s)(g:DGet H a y o):s.TypeIs (.ref a) "dict":=by
 rcases g with⟨f,k,e,_,_⟩|⟨f,k,b,e,_,_,_⟩
 ·have⟨_,_,i,_,h⟩:=l4 I.hok e;exact h.typeIs
 ·have⟨_,_,x,_,h⟩:=oX I.hok e;exact h.typeIs
def Il(td ty:TE):TE:=λb H Q=>td b H λx f=>ty b f λy e=>∃a v,x=.ref a/\DGet e a y (some v)/\Q v e
def JB(ty td:TE):TE:=λb H Q=>ty b H λy f=>td b f λx e=>∃a o,x=.ref a/\DGet e a y o/\Q (.bl o.isSome) e
def DL(ty td:TE):TE:=λb H Q=>ty b H λy f=>td b f λx e=>∃a o,x=.ref a/\DGet e a y o/\Q (.bl<|!o.isSome) e
def Ij(td ty tv:TE):TS:=λD b H=>tv b H λv h=>td b h λx g=>ty b g λy f=>∃a e,x=.ref a/\DPut f a y v e/\D.nx b e
section
variable  {i:Expr}  {ty:TE}
def jq(B:X.A.units+1<cLine)(E:PE X o td)(hi:PE X i ty)(C:rS i):PE X (.Subscript o i pos) (Il td ty):=by intro p s f H Q I h;refine xb PySem.F.slot_dict_getitem.lookup C<|a9 (E p s f H _ I h) λu l x N L q z=>a9 (hi p l f N _ L z) λS R y M j m e=>?_;obtain⟨a,v,J,g,w⟩:=e;subst J;obtain rfl:u=Value.ref a:=q;exact⟨tK j g,zf B j g m λO P K b=>⟨v,M,K,b,w⟩⟩
def Gw(z:X.A.units+1<cLine)(hi:PE X i ty)(B:PE X o td):PC X .In i o (JB ty td):=by intro p s e H Q I h;refine a9 (hi p s e H _ I h) λP f y M K j m=>a9 (B p f e M _ K m) λu O x L J l b=>?_;obtain⟨a,w,C,g,q⟩:=b;subst C;obtain rfl:u=Value.ref a:=l;exact Jx z J g j λN E=>⟨.bl w.isSome,L,E,rfl,q⟩
def yS(z:X.A.units+1<cLine)(hi:PE X i ty)(B:PE X o td):PC X .NotIn i o (DL ty td):=by intro p s e H Q I h;refine a9 (hi p s e H _ I h) λP f y M K j m=>a9 (B p f e M _ K m) λu O x L J l b=>?_;obtain⟨a,w,C,g,q⟩:=b;subst C;obtain rfl:u=Value.ref a:=l;exact Ez z J g j λN E=>⟨.bl _,L,E,rfl,q⟩
def mY(C:X.A.units+1<cLine)(J:PE X o td)(hi:PE X i ty)(hv:PE X value tv)(E:swapsWith value (some (.Subscript o i pos')) pos.line X.env=pure false) :
  PS X (.Assign [.Subscript o i pos'] value pos) (Ij td ty tv):=by
 intro p s b H D I h;refine wpAny_Assign_Subscript (a9 (hv p s b H _ I h) λr j v R O q B=>a9 (J p j b R _ O B) λu f x Q N m z=>a9 (hi p f b Q _ N z) λU T y Y M l e=>?_) E;obtain⟨a,P,K,g,w⟩:=e;subst K;obtain rfl:u=Value.ref a:=m;exact xM C M g l q λS L=>⟨b,P,L,w⟩
end
def tu{P}(h:Heap)(a:sysModules<h.objs.size):ObjOk P w H (h.push {cls:=.type "dict",data:=.dict #[]}) h.objs.size (.dK []):=
 ⟨YQ _,Zh.mpr<|ZX<|YJ a,[],.nil,Heap.DictOf.new h⟩
def AC{P}(h:Heap)(a:sysModules<h.objs.size):ObjOk P w H (h.push {cls:=.type "dict",data:=.dict #[]}) h.objs.size (.dT []):=
 ⟨YQ _,Zh.mpr<|ZX<|YJ a,[],.nil,_,#[],0,YK _ rfl,⟨rfl,rfl,rfl⟩,rfl,rfl,Vc⟩
def GJ:TE:=λ_ H Q=>∀p,H p=none->Q (.ref p) (upd H p<|.dK [])
def Gu:TE:=λ_ H Q=>∀p,H p=none->Q (.ref p) (upd H p<|.dT [])
def Bo:PE X (.Dict [] [] pos) GJ:=λp s b H Q I h=>
 wpAny_Dict_empty ⟨.ref s.heap.objs.size,_,I.laid (λ_ _ q=>Yx _ q) (Yy _)<|tu s.heap I.big,rfl,h _<|I.hok.fresh<|Yy _⟩
def zx:PE X (.Dict [] [] pos) Gu:=λp s b H Q I h=>
 wpAny_Dict_empty ⟨.ref s.heap.objs.size,_,I.laid (λ_ _ q=>Yx _ q) (Yy _)<|AC s.heap I.big,rfl,h _<|I.hok.fresh<|Yy _⟩
def sB:List (TE×TE)->St->Hp->(List (V×V)->Hp->Prop)->Prop
 |[],_,H,Q=>Q [] H
 |(tk,tv)::r,σ,H,Q=>tk σ H λx e=>tv σ e λy b=>sB r σ b λp a=>Q ((x,y)::p) a
abbrev VV:List (V×V)->List (Value×Value)->Prop:=Paired λp q=>RelV p.1 q.1/\RelV p.2 q.2
def PPs(X:Cx)(pos:Pos)(keys:List (Option Expr))(values:List Expr)(b:List (TE×TE)):Prop:=
 ∀(p:Kp) s (a:St) H Q,Inv X p a H s->sB b a H Q->
  wpAny (model X.prog X.w) X.A (evalPairs<|pairTrees keys values X.env pos) (λg h=>∃e f,Inv X p a f h/\VV e g/\Q e f) X.xe s
def Dn:PPs X pos [] [] []:=λp s a H Q I h=>pairTrees_nil_walk ⟨[],H,I,.nil,h⟩
def gZ{vs}{a}(z:PE X k tk)(hv:PE X v tv)(w:PPs X pos ks vs a) :
  PPs X pos (some k::ks) (v::vs) ((tk,tv)::a):=λp s b H Q I h=>
 pairTrees_cons_walk<|a9 (z p s b H _ I h) λu g x K C j m=>a9 (hv p g b K _ C m) λM f y J B i l=>
  a9 (w p f b J _ B l) λL N o E A e q=>⟨(x,y)::o,E,A,.cons ⟨j,i⟩ e,q⟩
def iY(kvs more:List (Key×V)):List (Key×V):=more.foldl (λa b=>fL a b.1 b.2) kvs
def KV.merge:∀{more}{a}{kvs}{vs},KV more a->KV kvs vs->KV (iY kvs more) (merged vs a):=by
 intro more a kvs vs r;unfold KV at r;induction r generalizing kvs vs with
 |nil=>intro q;exact q
 |@cons p q g f h t ih=>
  intro b;have e:KV (fL kvs p.1 p.2) (stored vs q.1 q.2):=by have:=b.put p.1 h.2;rwa[<-h.1]
  exact ih e
theorem jI:∀more kvs,(iY kvs more).length<=kvs.length+more.length
 |[],kvs=>by show kvs.length<=kvs.length+0;omega
 |p::r,kvs=>by
  have a:=jI r<|fL kvs p.1 p.2;have h:=i8 kvs p.1 p.2;show(iY (fL kvs p.1 p.2) r).length<=_;rw[Yg];omega
theorem nv{P}{w}:∀{kvs}{f},VV (kvs.map λg=>(kV g.1,g.2)) f->∃e,Carries (bU P w) f e/\KV kvs e
 |[],_,r=>by rw[Zl]at r;cases r;exact⟨[],True.intro,.nil⟩
 |p::kvs,_,r=>by
  rw[YD]at r;cases r with
  |@cons a b i bs h t=>
   obtain⟨e,c,q⟩:=nv (P:=P) (w:=w) t;obtain⟨b1,b2⟩:=b;exact⟨(p.1,b2)::e,⟨oR h.1,rfl,c⟩,.cons ⟨rfl,h.2⟩ q⟩
def Iu(b:List (TE×TE)):TE:=λg H Q=>∀p,H p=none->sB b g (upd H p<|.dK []) λh f=>f p=some (.dK [])/\∃a:List _,h=a.map (λe=>(kV e.1,e.2))/\a.length<=15/\Q (.ref p) (upd f p<|.dK<|iY [] a)
theorem EO{b}(h:PPs X pos keys values b)(g:keys.all (·.isSome)=true)(M:keys.length=values.length)(S:keys≠[])
  (m:keys.length<=15):PE X (.Dict keys values pos) (Iu b):=by
 intro E s u H Q I q;have L:=I.hok.fresh<|Yy s.heap.objs.size;have Y:=I.laid (t':=s.toks) (λ_ _ q=>Yx _ q) (Yy _)<|tu s.heap I.big;refine wpAny_Dict_walk (knd:=bU X.prog X.w) g M S m<|a9 (h E _ u _ _ Y<|q _ L) λZ s2 ps H2 p j l=>?_;obtain⟨e,f,T,lk,C⟩:=l;subst T;obtain⟨y,c,A⟩:=nv (P:=X.prog) (w:=X.w) j;obtain⟨z,O,x,B,U⟩:=EZ p.hok e;cases B;refine⟨y,c,U,λh' i K=>⟨.ref s.heap.objs.size,_,?_,rfl,C⟩⟩;have J:(iY [] f).length<=sizeLine:=by have R:=jI f [];rw[Zc]at R;rw[YL];omega
 have N:∃q,h'.get? s.heap.objs.size=some q:=let ⟨q,_,_,hq,_⟩:=i;⟨q,hq⟩
 exact rq p (by rw[e];exact True.intro) K N<|BI J O (A.merge .nil) i
structure M2 (X:Cx) (o:Expr) (m:Str) (apos:Pos) (e f:Expr) (cpos:Pos):Prop where
 base:attributeBase o m X.env (eval o X.env)=eval o X.env
 few:((backTo cpos (starEach [e,f] X.env)).all (λx=>!x.1)&&(backToKw cpos (keywordEach [] X.env)).all (λx=>x.1.isSome)
  && decide (([e,f]:List Expr).length+([]:List Keyword).length+(if([]:List Keyword).isEmpty then 0 else 1)<30))=true
 line:(apos.endLine == cpos.line)=true
 trees:backTo cpos (starEach [e,f] X.env)=[(false,eval e X.env),(false,eval f X.env)]
def IsD(H:Hp)(a:Addr):Prop:=(∃b,Rd H a<|.dK b)\/∃b,Rd H a<|.dT b
def FB(I:Inv X pz σ H s)(d:IsD H a) :
  s.TypeIs (.ref a) "dict"/\(∀b,Value.ref a=.ref b->∃ob,s.heap.get? b=some ob/\ob.dict=none)/\(a == sysModules)=false:=by
 rcases d with⟨g,e⟩|⟨g,e⟩
 ·obtain⟨_,h,l,_,f⟩:=l4 I.hok e;refine⟨f.typeIs,λb q=>?_,h⟩;cases q;obtain⟨ob,_,_,j,i,_⟩:=f;exact⟨ob,j,i.2.1⟩
 ·obtain⟨_,h,x,_,f⟩:=oX I.hok e;refine⟨f.typeIs,λb q=>?_,h⟩;cases q;obtain⟨ob,_,_,j,i,_⟩:=f;exact⟨ob,j,i.2.1⟩
section
variable       {d:V}{r:Value}{o:Option V}  
def Gp(C:A.units+1<cLine)(I:Inv X pz σ H s)(g:DGet H a y o)(x:RelV y u)(rd:RelV d r)(h:∀q s',Inv X pz σ H s'->RelV (o.getD d) q->Q q s') :
  wpAny (model X.prog X.w) A (call (.builtin "dict.get") [.ref a,u,r]) Q E s:=by
 rcases g with⟨j,k,e,p,l⟩|⟨j,k,b,e,p,J,l⟩
 ·subst p;have⟨z,m,K,f,i⟩:=l4 I.hok e;refine call_meetsIn Vg i.typeIs PySem.F.entry_dict_get (PySem.F.args_dict_get_3 _ _ _) (meets_dict_get_default _ a (oR x) m r) ⟨_,i.mapOf,h _ _ (I.tok _) ?_⟩;rw[l];exact(f.val k).getD rd
 ·subst p;cases(show u=Value.ref b from x);have⟨z,m,B,f,i⟩:=oX I.hok e;refine call_meetsIn Vg i.typeIs PySem.F.entry_dict_get (PySem.F.args_dict_get_3 _ _ _) (meetsH_dict_get_default _ a b m r) ⟨Xk C,k,B,lC I.hok J,i,h _ _ (I.tok _) ?_⟩;rw[l];exact(f.val k).getD rd
end
def Gd(td ty tx:TE):TE:=λb H Q=>td b H λx f=>∃a,x=.ref a/\IsD f a/\ty b f λy g=>tx b g λz e=>∃o,DGet e a y o/\Q (o.getD z) e
section
variable  {f:Expr}  {ty tx:TE}
def zW(O:X.A.units+1<cLine)(P:PE X o td)(he:PE X e ty)(R:PE X f tx)(m:M2 X o "get" apos e f cpos):PE X (.Call (.Attribute o "get" apos) [e,f] [] cpos) (Gd td ty tx):=by
 intro p s b H Q I h;refine wpAny_Call_method m.base m.few m.line PySem.F.plainAttrs_dict Vg PySem.F.type_dict_get<|a9 (P p s b H _ I h) λu C x H1 l K j=>?_;obtain⟨a,S,d,N⟩:=j;subst S;obtain rfl:u=Value.ref a:=K;obtain⟨w,q,_⟩:=FB l d;refine⟨w,q,?_⟩;rw[m.trees];refine Xg rfl<|ZV<|ZU<|a9 (he p C b H1 _ l N) λiv B y H2 Y J M=>
  ZU<|a9 (R p B b H2 _ Y M) λfv s3 z Z U E ⟨ov,g,L⟩=>Calls.spliced_nil ?_
 exact Gp O U g J E λw' s4 T i=>⟨_,Z,T,i,L⟩
end
section
variable       {kvs:List (Key×V)}  
end
section
variable{κ:Type} [DecidableEq κ]
end
inductive D where
 |non|bl (b:Bool)|int (i:Int)|str (x:Str)
 |tup (xs:List D)|lst (xs:List D)
 |dT (kvs:List (List Key×D))|dK (kvs:List (Key×D))
 |ins (C:Addr) (fs:List (Str×D))
 |fn (a:Addr) (v:V) (d:D)
 |exn (C:Addr)
def ExA(a C:Addr)(h:Heap):Prop:=∃o,h.get? a=some o/\o.cls=.ref C
mutual
inductive Rep (K:PySem.W.Frag) (H:Hp):V->D->Prop
 |non:Rep K H .non .non
 |bl {b:Bool}:Rep K H (.bl b) (.bl b)
 |int {i:Int}:Rep K H (.int i) (.int i)
 |str {x:Str}:Rep K H (.str x) (.str x)
 |tup {a:Addr}{vs:List V}{ds:List D}:H a=some (.tup vs)->Reps K H vs ds->Rep K H (.ref a) (.tup ds)
 |lst {a:Addr}{vs:List V}{ds:List D}:SqL K H a vs->Reps K H vs ds->Rep K H (.ref a) (.lst ds)
 |dT {a:Addr}{vs:List (List Key×V)}{ds:List (List Key×D)}:H a=some (.dT vs)->RepsT K H vs ds->Rep K H (.ref a) (.dT ds)
 |dK {a:Addr}{vs:List (Key×V)}{ds:List (Key×D)}:H a=some (.dK vs)->RepsK K H vs ds->Rep K H (.ref a) (.dK ds)
 |ins {a C dx:Addr}{vs:List (Str×V)}{ds:List (Str×D)}:H a=some (.ins C dx vs)->RepsF K H vs ds->Rep K H (.ref a) (.ins C ds)
 /-- a lambda at a: what it takes from without is v -/
 |fn {a:Addr}{v:V}{d:D}:Rep K H v d->Rep K H (.ref a) (.fn a v d)
 |exn {a C:Addr}:H a=some (.ext (ExA a C))->Rep K H (.ref a) (.exn C)
inductive Reps (K:PySem.W.Frag) (H:Hp):List V->List D->Prop
 |nil:Reps K H [] []
 |cons {v:V}{d:D}{vs:List V}{ds:List D}:Rep K H v d->Reps K H vs ds->Reps K H (v::vs) (d::ds)
inductive RepsT (K:PySem.W.Frag) (H:Hp):List (List Key×V)->List (List Key×D)->Prop
 |nil:RepsT K H [] []
 |cons {k:List Key}{v:V}{d:D}{vs:List (List Key×V)}{ds:List (List Key×D)}:Rep K H v d->RepsT K H vs ds->RepsT K H ((k,v)::vs) ((k,d)::ds)
inductive RepsK (K:PySem.W.Frag) (H:Hp):List (Key×V)->List (Key×D)->Prop
 |nil:RepsK K H [] []
 |cons {k:Key}{v:V}{d:D}{vs:List (Key×V)}{ds:List (Key×D)}:Rep K H v d->RepsK K H vs ds->RepsK K H ((k,v)::vs) ((k,d)::ds)
inductive RepsF (K:PySem.W.Frag) (H:Hp):List (Str×V)->List (Str×D)->Prop
 |nil:RepsF K H [] []
 |cons {k:Str}{v:V}{d:D}{vs:List (Str×V)}{ds:List (Str×D)}:Rep K H v d->RepsF K H vs ds->RepsF K H ((k,v)::vs) ((k,d)::ds)
end
def Rep.same(e:Same H H')(h:Rep K H v d):Rep K H' v d:=
 Rep.rec .non .bl .int .str (λh _ i=>.tup (e _ _ h) i) (λh _ i=>.lst (e.seq h) i) (λh _ i=>.dT (e _ _ h) i) (λh _ i=>.dK (e _ _ h) i) (λh _ i=>.ins (e _ _ h) i) (λ_ i=>.fn i) (λh=>.exn<|e _ _ h) .nil (λ_ _ a b=>.cons a b) .nil (λ_ _ a b=>.cons a b) .nil (λ_ _ a b=>.cons a b) .nil (λ_ _ a b=>.cons a b) h
def Reps.same(e:Same H H')(h:Reps K H v d):Reps K H' v d:=
 Reps.rec .non .bl .int .str (λh _ i=>.tup (e _ _ h) i) (λh _ i=>.lst (e.seq h) i) (λh _ i=>.dT (e _ _ h) i) (λh _ i=>.dK (e _ _ h) i) (λh _ i=>.ins (e _ _ h) i) (λ_ i=>.fn i) (λh=>.exn<|e _ _ h) .nil (λ_ _ a b=>.cons a b) .nil (λ_ _ a b=>.cons a b) .nil (λ_ _ a b=>.cons a b) .nil (λ_ _ a b=>.cons a b) h
def RepsT.same(e:Same H H')(h:RepsT K H v d):RepsT K H' v d:=
 RepsT.rec .non .bl .int .str (λh _ i=>.tup (e _ _ h) i) (λh _ i=>.lst (e.seq h) i) (λh _ i=>.dT (e _ _ h) i) (λh _ i=>.dK (e _ _ h) i) (λh _ i=>.ins (e _ _ h) i) (λ_ i=>.fn i) (λh=>.exn<|e _ _ h) .nil (λ_ _ a b=>.cons a b) .nil (λ_ _ a b=>.cons a b) .nil (λ_ _ a b=>.cons a b) .nil (λ_ _ a b=>.cons a b) h
def RepsK.same(e:Same H H')(h:RepsK K H v d):RepsK K H' v d:=
 RepsK.rec .non .bl .int .str (λh _ i=>.tup (e _ _ h) i) (λh _ i=>.lst (e.seq h) i) (λh _ i=>.dT (e _ _ h) i) (λh _ i=>.dK (e _ _ h) i) (λh _ i=>.ins (e _ _ h) i) (λ_ i=>.fn i) (λh=>.exn<|e _ _ h) .nil (λ_ _ a b=>.cons a b) .nil (λ_ _ a b=>.cons a b) .nil (λ_ _ a b=>.cons a b) .nil (λ_ _ a b=>.cons a b) h
def RepsF.same(e:Same H H')(h:RepsF K H v d):RepsF K H' v d:=
 RepsF.rec .non .bl .int .str (λh _ i=>.tup (e _ _ h) i) (λh _ i=>.lst (e.seq h) i) (λh _ i=>.dT (e _ _ h) i) (λh _ i=>.dK (e _ _ h) i) (λh _ i=>.ins (e _ _ h) i) (λ_ i=>.fn i) (λh=>.exn<|e _ _ h) .nil (λ_ _ a b=>.cons a b) .nil (λ_ _ a b=>.cons a b) .nil (λ_ _ a b=>.cons a b) .nil (λ_ _ a b=>.cons a b) h
def Reps.ind{M:List V->List D->Prop}(n:M [] [])(c:∀{v}{d}{vs}{ds},Rep K H v d->Reps K H vs ds->M vs ds->M (v::vs) (d::ds)){ds}(h:Reps K H vs ds):M vs ds:=
 Reps.rec (motive_1:=λ_ _ _=>True) (motive_3:=λ_ _ _=>True) (motive_4:=λ_ _ _=>True) (motive_5:=λ_ _ _=>True) trivial trivial trivial trivial (λ_ _ _=>trivial) (λ_ _ _=>trivial) (λ_ _ _=>trivial) (λ_ _ _=>trivial) (λ_ _ _=>trivial) (λ_ _=>trivial) (λ_=>trivial) n (λh q _ ih=>c h q ih) trivial (λ_ _ _ _=>trivial) trivial (λ_ _ _ _=>trivial) trivial (λ_ _ _ _=>trivial) h
def RepsT.ind{M:List (List Key×V)->List (List Key×D)->Prop}(n:M [] [])(c:∀{k}{v}{d}{vs}{ds},Rep K H v d->RepsT K H vs ds->M vs ds->M ((k,v)::vs) ((k,d)::ds)){vs}{ds}(h:RepsT K H vs ds):M vs ds:=
 RepsT.rec (motive_1:=λ_ _ _=>True) (motive_2:=λ_ _ _=>True) (motive_4:=λ_ _ _=>True) (motive_5:=λ_ _ _=>True) trivial trivial trivial trivial (λ_ _ _=>trivial) (λ_ _ _=>trivial) (λ_ _ _=>trivial) (λ_ _ _=>trivial) (λ_ _ _=>trivial) (λ_ _=>trivial) (λ_=>trivial) trivial (λ_ _ _ _=>trivial) n (λh q _ ih=>c h q ih) trivial (λ_ _ _ _=>trivial) trivial (λ_ _ _ _=>trivial) h
def RepsK.ind{M:List (Key×V)->List (Key×D)->Prop}(n:M [] [])(c:∀{k}{v}{d}{vs}{ds},Rep K H v d->RepsK K H vs ds->M vs ds->M ((k,v)::vs) ((k,d)::ds)){vs}{ds}(h:RepsK K H vs ds):M vs ds:=
 RepsK.rec (motive_1:=λ_ _ _=>True) (motive_2:=λ_ _ _=>True) (motive_3:=λ_ _ _=>True) (motive_5:=λ_ _ _=>True) trivial trivial trivial trivial (λ_ _ _=>trivial) (λ_ _ _=>trivial) (λ_ _ _=>trivial) (λ_ _ _=>trivial) (λ_ _ _=>trivial) (λ_ _=>trivial) (λ_=>trivial) trivial (λ_ _ _ _=>trivial) trivial (λ_ _ _ _=>trivial) n (λh q _ ih=>c h q ih) trivial (λ_ _ _ _=>trivial) h
def RepsF.ind{M:List (Str×V)->List (Str×D)->Prop}(n:M [] [])(c:∀{k}{v}{d}{vs}{ds},Rep K H v d->RepsF K H vs ds->M vs ds->M ((k,v)::vs) ((k,d)::ds)){vs}{ds}(h:RepsF K H vs ds):M vs ds:=
 RepsF.rec (motive_1:=λ_ _ _=>True) (motive_2:=λ_ _ _=>True) (motive_3:=λ_ _ _=>True) (motive_4:=λ_ _ _=>True) trivial trivial trivial trivial (λ_ _ _=>trivial) (λ_ _ _=>trivial) (λ_ _ _=>trivial) (λ_ _ _=>trivial) (λ_ _ _=>trivial) (λ_ _=>trivial) (λ_=>trivial) trivial (λ_ _ _ _=>trivial) trivial (λ_ _ _ _=>trivial) trivial (λ_ _ _ _=>trivial) n (λh q _ ih=>c h q ih) h
def Reps.length(h:Reps K H vs ds):vs.length=ds.length:=Reps.ind (M:=λvs ds=>vs.length=ds.length) rfl (λ_ _ ih=>YH Nat.succ ih) h
def Reps.get(h:Reps K H vs ds):ds[i]?=some d->∃v,vs[i]?=some v/\Rep K H v d:=
 Reps.ind (M:=λvs ds=>∀i:Nat,ds[i]?=some d->∃v,vs[i]?=some v/\Rep K H v d) (λ_ e=>nomatch e) (λr _ ih i e=>by
  cases i with
  |zero=>obtain rfl:=Yv e;exact⟨_,rfl,r⟩
  |succ i=>exact ih i e) h i
def Reps.getV(h:Reps K H vs ds):vs[i]?=some v->∃d,ds[i]?=some d/\Rep K H v d:=
 Reps.ind (M:=λvs ds=>∀i:Nat,vs[i]?=some v->∃d,ds[i]?=some d/\Rep K H v d) (λ_ e=>nomatch e) (λr _ ih i e=>by
  cases i with
  |zero=>obtain rfl:=Yv e;exact⟨_,rfl,r⟩
  |succ i=>exact ih i e) h i
def Reps.append{w}{ds es}(h:Reps K H vs ds)(s:Reps K H w es):Reps K H (vs++w) (ds++es):=Reps.ind (M:=λvs ds=>Reps K H (vs++w)<|ds++es) s (λr _ ih=>.cons r ih) h
def Reps.take n(h:Reps K H vs ds):Reps K H (vs.take n) (ds.take n):=Reps.ind (M:=λvs ds=>∀n,Reps K H (vs.take n)<|ds.take n) (λn=>by cases n<;>exact .nil) (λr _ ih n=>by
  cases n with
  |zero=>exact .nil
  |succ n=>exact .cons r<|ih n) h n
def Reps.set(r:Rep K H v d)i(h:Reps K H vs ds):Reps K H (vs.set i v) (ds.set i d):=Reps.ind (M:=λvs ds=>∀i,Reps K H (vs.set i v)<|ds.set i d) (λ_=>.nil) (λq t ih i=>by
  cases i with
  |zero=>exact .cons r t
  |succ i=>exact .cons q<|ih i) h i
def Reps.eraseIdx i(h:Reps K H vs ds):Reps K H (vs.eraseIdx i) (ds.eraseIdx i):=Reps.ind (M:=λvs ds=>∀i,Reps K H (vs.eraseIdx i)<|ds.eraseIdx i) (λ_=>.nil) (λq t ih i=>by
  cases i with
  |zero=>exact t
  |succ i=>exact .cons q<|ih i) h i
def Reps.one(r:Rep K H v d):Reps K H [v] [d]:=.cons r .nil
inductive FO where
 |d (x:D)|lst (ds:List D)|dK (kvs:List (Key×D))
noncomputable def FO.dat:FO->D
 |.d x=>x
 |.lst ds=>.lst ds
 |.dK kvs=>.dK kvs
inductive OD where
 |lst (ds:List D)|lst2 (dss:List (List D))|tup2 (dss:List (List D))|dT (kvs:List (List Key×D))|dK (kvs:List (Key×D))|ins (C:Addr) (fs:List (Str×D))|obj (C:Option Addr) (fs:List (Str×FO))
noncomputable def OD.d:OD->D
 |.lst ds=>.lst ds
 |.lst2 dss=>.lst<|dss.map .lst
 |.tup2 dss=>.tup<|dss.map .lst
 |.dT kvs=>.dT kvs
 |.dK kvs=>.dK kvs
 |.ins C fs=>.ins C fs
 |.obj (some C) fs=>.ins C<|fs.map λp=>(p.1,p.2.dat)
 |.obj none fs=>.dK<|fs.map λp=>(Sum.inr p.1,p.2.dat)
def OD.flat:OD->Bool
 |.obj _ _=>false
 |.lst2 _=>false
 |.tup2 _=>false
 |_=>true
inductive All2 {α β:Type} (R:α->β->Prop):List α->List β->Prop
 |nil:All2 R [] []
 |cons {a:α}{b:β}{as:List α}{bs:List β}:R a b->All2 R as bs->All2 R (a::as) (b::bs)
def All2.imp{α e}{R S}(f:∀a b,R a b->S a b){as:List α}{bs:List e}(h:All2 R as bs):All2 S as bs:=by
 induction h with
 |nil=>exact .nil
 |cons h _ ih=>exact .cons (f _ _ h) ih
def All2.length{α a}{R}{as:List α}{bs:List a}(h:All2 R as bs):as.length=bs.length:=by
 induction h with
 |nil=>rfl
 |cons _ _ ih=>exact YH Nat.succ ih
def ORep1(K:Kq)(F:Hp):OD->HO->Prop
 |.lst ds,.lst vs=>Reps K F vs ds
 |.dT ds,.dT vs=>RepsT K F vs ds
 |.dK ds,.dK vs=>RepsK K F vs ds
 |.ins C fs,.ins C' _ vs=>C=C'/\RepsF K F vs fs
 |_,_=>False
def FRep(K:Kq)(F H:Hp)(ow:Addr->Prop):FO->V->Prop
 |.d d,v=>Rep K F v d
 |.lst ds,v=>∃b,v=.ref b/\ow b/\∃u,H b=some u/\ORep1 K F (.lst ds) u
 |.dK ds,v=>∃b,v=.ref b/\ow b/\∃u,H b=some u/\ORep1 K F (.dK ds) u
def ph:FO->V->List Addr
 |.d _,_=>[]
 |_,.ref b=>[b]
 |_,_=>[]
def bxO:Option Addr->Addr->List (Str×V)->HO
 |some C,dx,vs=>.ins C dx vs
 |none,_,vs=>.dK<|vs.map λp=>(Sum.inr p.1,p.2)
def eS(vs:List (Str×V))(fs:List (Str×FO)):List Addr:=(vs.zip fs).flatMap λp=>ph p.2.2 p.1.2
def ORep(K:Kq)(F H:Hp)(ow:Addr->Prop):OD->Addr->Prop
 |.lst2 dss,a=>ow a/\∃bs,H a=some (.lst<|bs.map .ref)/\(a::bs).Nodup/\All2 (λb f=>ow b/\∃u,H b=some u/\ORep1 K F (.lst f) u) bs dss
 |.tup2 dss,a=>ow a/\∃bs,H a=some (.tup<|bs.map .ref)/\(a::bs).Nodup/\All2 (λb f=>ow b/\∃u,H b=some u/\ORep1 K F (.lst f) u) bs dss
 |.obj C fs,a=>ow a/\∃g e,H a=some (bxO C g e)/\(a::eS e fs).Nodup/\All2 (λp q=>p.1=q.1/\FRep K F H ow q.2 p.2) e fs
 |o,a=>ow a/\∃u,H a=some u/\ORep1 K F o u
def FRep.mono(e:Same F F')(k:∀b u,ow b->H b=some u->H' b=some u/\ow' b)(s:∀{o}{u},ORep1 K F o u->ORep1 K F' o u){o}(h:FRep K F H ow o v):FRep K F' H' ow' o v:=by
 cases o with
 |d x=>exact Rep.same e h
 |lst ds=>obtain⟨b,rfl,f,u,a,g⟩:=h;exact⟨b,rfl,(k b u f a).2,u,(k b u f a).1,s g⟩
 |dK ds=>obtain⟨b,rfl,f,u,a,g⟩:=h;exact⟨b,rfl,(k b u f a).2,u,(k b u f a).1,s g⟩
def ORep1.same(e:Same F F'){o}{u}(h:ORep1 K F o u):ORep1 K F' o u:=by cases o<;>cases u<;>first|exact h.elim|exact Reps.same e h|exact RepsT.same e h|exact RepsK.same e h|exact⟨h.1,RepsF.same e h.2⟩
def ORep.flat{o}(f:o.flat=true):ORep K F H ow o a↔ow a/\∃u,H a=some u/\ORep1 K F o u:=by cases o<;>first|exact Iff.rfl|cases f
def ORep.mono{o}(e:Same F F')(k:∀b u,ow b->H b=some u->H' b=some u/\ow' b)(h:ORep K F H ow o a):ORep K F' H' ow' o a:=by
 by_cases f:o.flat=true
 ·obtain⟨m,u,l,j⟩:=(ORep.flat f).mp h;obtain⟨i,g⟩:=k a u m l;exact(ORep.flat f).mpr ⟨g,u,i,j.same e⟩
 ·cases o with
  |lst2 dss=>
   obtain⟨m,bs,l,j,s⟩:=h;obtain⟨i,g⟩:=k a _ m l;exact⟨g,bs,i,j,s.imp λb L ⟨A,u,y,w⟩=>by obtain⟨E,B⟩:=k b u A y;exact⟨B,u,E,w.same e⟩⟩
  |tup2 dss=>
   obtain⟨m,bs,l,j,s⟩:=h;obtain⟨i,g⟩:=k a _ m l;exact⟨g,bs,i,j,s.imp λb L ⟨A,u,y,w⟩=>by obtain⟨E,B⟩:=k b u A y;exact⟨B,u,E,w.same e⟩⟩
  |obj C fs=>
   obtain⟨m,J,I,l,j,s⟩:=h;obtain⟨i,g⟩:=k a _ m l;exact⟨g,J,I,i,j,s.imp λp q z=>⟨z.1,z.2.mono e k λx=>x.same e⟩⟩
  |_=>exact absurd rfl f
def FRep.rep(e:Same F G)(k:∀b u,ow b->H b=some u->G b=some u){o}(h:FRep K F H ow o v):Rep K G v o.dat:=by
 cases o with
 |d x=>exact Rep.same e h
 |lst ds=>obtain⟨b,rfl,g,u,f,a⟩:=h;cases u with|lst vs=>exact .lst (SqL.of<|k b _ g f) (Reps.same e a)|_=>exact a.elim
 |dK ds=>obtain⟨b,rfl,g,u,f,a⟩:=h;cases u with|dK vs=>exact .dK (k b _ g f) (RepsK.same e a)|_=>exact a.elim
def ORep1.rep{o}{u}(f:o.flat=true)(h:ORep1 K F o u)(b:H a=some u)(e:Same F H):Rep K H (.ref a) o.d:=by
 cases o with
 |lst ds=>cases u with|lst vs=>exact .lst (SqL.of b) (Reps.same e h)|_=>exact h.elim
 |dT ds=>cases u with|dT vs=>exact .dT b (RepsT.same e h)|_=>exact h.elim
 |dK ds=>cases u with|dK vs=>exact .dK b (RepsK.same e h)|_=>exact h.elim
 |ins C fs=>cases u with|ins C' dx vs=>(obtain⟨rfl,h⟩:=h;exact .ins b<|RepsF.same e h)|_=>exact h.elim
 |obj _ _=>cases f
 |lst2 _=>cases f
 |tup2 _=>cases f
def ORep.rep{o}(h:ORep K F H ow o a)(e:Same F G)(k:∀b u,ow b->H b=some u->G b=some u):Rep K G (.ref a) o.d:=by
 by_cases f:o.flat=true
 ·obtain⟨i,u,g,j⟩:=(ORep.flat f).mp h;exact j.rep f (k a u i g) e
 ·cases o with
  |lst2 dss=>
   obtain⟨i,bs,g,j,s⟩:=h;refine .lst (SqL.of<|k a _ i g) ?_;clear g i j f;induction s with
   |nil=>exact .nil
   |cons q r ih=>
    obtain⟨m,u,l,w⟩:=q;exact .cons (w.rep rfl (k _ u m l) e) ih
  |tup2 dss=>
   obtain⟨i,bs,g,j,s⟩:=h;refine .tup (k a _ i g) ?_;clear g i j f;induction s with
   |nil=>exact .nil
   |cons q r ih=>
    obtain⟨m,u,l,w⟩:=q;exact .cons (w.rep rfl (k _ u m l) e) ih
  |obj C fs=>
   obtain⟨i,B,A,g,j,s⟩:=h;cases C with
   |some C=>
    refine .ins (k a _ i g) ?_;clear g i j f;induction s with
    |nil=>exact .nil
    |@cons p q _ _ z r ih=>
     obtain⟨m,l⟩:=z;obtain⟨x,v⟩:=p;obtain⟨y,o⟩:=q;cases m;exact .cons (l.rep e k) ih
   |none=>
    refine .dK (k a _ i g) ?_;clear g i j f;induction s with
    |nil=>exact .nil
    |@cons p q _ _ z r ih=>
     obtain⟨m,l⟩:=z;obtain⟨x,v⟩:=p;obtain⟨y,o⟩:=q;cases m;exact .cons (l.rep e k) ih
  |_=>exact absurd rfl f
inductive DV where
 |v (d:D)|own (o:OD) (t:Option Addr)|bor (o:OD)
abbrev DF:=List<|Option DV
abbrev cI(n:Int):DF->Option D:=λ_=>some<|.int n
@[simp] theorem KC n ρ:cI n ρ=some (.int n):=rfl
abbrev nA:DF->Option (List DV):=λ_=>some []
@[simp] theorem KB ρ:nA ρ=some []:=rfl
def DVRep(K:Kq)(P F H:Hp)(ow:Addr->Prop):DV->V->Prop
 |.v d,x=>Rep K F x d
 |.own o t,x=>∃a,x=.ref a/\ORep K F H (λb=>F b=none/\P b=none/\ow b) o a/\∀b,t=some b->b=a
 |.bor o,x=>∃a,x=.ref a/\ORep K F P (λ_=>True) o a
def tE:Addr->Prop:=λ_=>True
structure DHp (P F H:Hp):Prop where
 sub:Same F H
 pro:Same P H
 dis:∀a o,P a=some o->F a=none
structure DInv (K:PySem.W.Frag) (P F H:Hp) (ρ:DF) (σ:St):Prop extends DHp P F H where
 len:ρ.length=σ.length
 rep:∃O:Addr->Option Nat,∀(i:Nat) (x:DV),ρ[i]?=some (some x)->∃v,σ[i]?=some (some v)/\DVRep K P F H (λb=>O b=some i) x v
structure Evo (P F H F' H':Hp):Prop where
 ext:Same F F'
 hp:DHp P F' H'
 keep:∀a o,H a=some o->F a=none->H' a=some o/\F' a=none
def Evo.same(h:DHp P F H)(e:Evo P F H F' H'):Same H H':=λa o q=>by
 cases c:F a with
 |none=>exact(e.keep a o q c).1
 |some u=>
  have:=h.sub a u c;rw[q]at this;cases this;exact e.hp.sub a o<|e.ext a o c
def DVRep.evo(e:Evo P F H F' H'){x}(r:DVRep K P F H ow x v):DVRep K P F' H' ow x v:=by
 cases x with
 |v d=>exact Rep.same e.ext r
 |own o t=>
  obtain⟨a,rfl,h,p⟩:=r;exact⟨a,rfl,h.mono e.ext λb u ⟨j,i,g⟩ f=>by(obtain⟨m,l⟩:=e.keep b u f j;exact⟨m,l,i,g⟩),p⟩
 |bor o=>
  obtain⟨a,rfl,h⟩:=r;exact⟨a,rfl,h.mono e.ext λb u q f=>⟨f,q⟩⟩
def DVRep.imp(f:∀b u,F b=none->P b=none->H b=some u->ow b->ow' b){x}(r:DVRep K P F H ow x v):DVRep K P F H ow' x v:=by
 cases x with
 |v d=>exact r
 |own o t=>
  obtain⟨a,rfl,h,j⟩:=r;exact⟨a,rfl,h.mono (Same.refl _) λb u ⟨e,q,i⟩ g=>⟨g,e,q,f b u e q g i⟩,j⟩
 |bor o=>exact r
def DInv.evo(I:DInv K P F H ρ σ)(e:Evo P F H F' H'):DInv K P F' H' ρ σ:=
 ⟨e.hp,I.len,by obtain⟨O,h⟩:=I.rep;exact⟨O,λi x a=>by obtain⟨v,f,b⟩:=h i x a;exact⟨v,f,b.evo e⟩⟩⟩
def DInv.at(I:DInv K P F H ρ σ){x}(h:ρ[i]?=some (some x)):∃v,σ[i]?=some (some v)/\DVRep K P F H tE x v:=by obtain⟨O,k⟩:=I.rep;obtain⟨v,b,a⟩:=k i x h;exact⟨v,b,a.imp λ_ _ _ _ _ _=>trivial⟩
def Evo.refl(h:DHp P F H):Evo P F H F H:=⟨Same.refl _,h,λ_ _ a b=>⟨a,b⟩⟩
def Evo.trans(a:Evo P F H F1 H1)(b:Evo P F1 H1 F2 H2):Evo P F H F2 H2:=
 ⟨a.ext.trans b.ext,b.hp,λc o h n=>by obtain⟨e,n1⟩:=a.keep c o h n;exact b.keep c o e n1⟩
def Evo.laid(h:DHp P F H){o}(f:H a=none):Evo P F H (upd F a o) (upd H a o) where
 ext:=λb u e=>by rwa[aA λz=>by subst z;rw[h.sub _ _ e]at f;cases f]
 hp:=⟨λb u e=>by
   by_cases g:b=a
   ·subst g;rw[aE]at e ⊢;exact e
   ·rw[aA g]at e ⊢;exact h.sub b u e,
  λb u e=>by rw[aA λz=>by subst z;rw[h.pro _ _ e]at f;cases f];exact h.pro b u e,
  λb u e=>by rw[aA λz=>by subst z;rw[h.pro _ _ e]at f;cases f];exact h.dis b u e⟩
 keep:=λb u e n=>by
  have g:b≠a:=λz=>by subst z;rw[e]at f;cases f
  rw[aA g,aA g];exact⟨e,n⟩
def Evo.side(h:DHp P F H){o}(f:H a=none):Evo P F H F (upd H a o) where
 ext:=Same.refl _
 hp:=⟨λb u e=>by rw[aA λz=>by subst z;rw[h.sub _ _ e]at f;cases f];exact h.sub b u e,
  λb u e=>by rw[aA λz=>by subst z;rw[h.pro _ _ e]at f;cases f];exact h.pro b u e,h.dis⟩
 keep:=λb u e n=>by
  have g:b≠a:=λz=>by subst z;rw[e]at f;cases f
  rw[aA g];exact⟨e,n⟩
def DHp.free(h:DHp P F H)(b:H a=none):F a=none/\P a=none:=⟨h.sub.free b,h.pro.free b⟩
def RepS(K:Kq)(H F:Hp)(v:V)(d:D):Prop:=
 Rep K F v d\/∃(a:Addr) (o:OD) (u:HO),v=.ref a/\F a=none/\H a=some u/\ORep1 K F o u/\o.flat=true/\d=o.d
def RepS.evo(r:RepS K H F v d)(e:Evo P F H F' H'):RepS K H' F' v d:=
 r.imp (Rep.same e.ext) λ⟨a,o,u,i,b,h,g,f⟩=>⟨a,o,u,i,(e.keep a u h b).2,(e.keep a u h b).1,g.same e.ext,f⟩
def DInv.slot(I:DInv K P F H ρ σ){o}(hv:σ[i]?=some (some v))(h:(∃t,ρ[i]?=some (some (.own o t)))\/ρ[i]?=some (some (.bor o))):∃a,v=.ref a/\ORep K F H (λb=>F b=none) o a:=by
 rcases h with⟨t,h⟩|h
 ·obtain⟨j,e,a,rfl,g,_⟩:=I.at h;rw[hv]at e;cases e;exact⟨a,rfl,g.mono (Same.refl _) λb u q f=>⟨f,q.1⟩⟩
 ·obtain⟨j,e,a,rfl,g⟩:=I.at h;rw[hv]at e;cases e;exact⟨a,rfl,g.mono (Same.refl _) λb u q f=>⟨I.pro b u f,I.dis b u f⟩⟩
def RepS.now(I:Same F H)(r:RepS K H F v d):Rep K H v d:=by
 rcases r with r|⟨a,o,u,rfl,_,h3,h4,hfl,rfl⟩
 ·exact r.same I
 ·exact h4.rep hfl h3 I
def RepS.slot(I:DInv K P F H ρ σ){o}(hv:σ[i]?=some (some v))(h:(∃t,ρ[i]?=some (some (.own o t)))\/ρ[i]?=some (some (.bor o)))(b:o.flat=true):RepS K H F v o.d:=by obtain⟨a,rfl,j⟩:=I.slot hv h;obtain⟨g,u,f,e⟩:=(ORep.flat b).mp j;exact .inr ⟨a,o,u,rfl,g,f,e,b,rfl⟩
def tD(K:Kq)(f:DF->Option D):TE:=λg H Q=>∃P F a d,f a=some d/\DInv K P F H a g/\∀v e b,Evo P F H e b->Rep K e v d->Q v b
def tR(K:Kq)(f:DF->Option D):TE:=λg H Q=>∃P F b d,f b=some d/\DInv K P F H b g/\∀v e a,Evo P F H e a->RepS K a e v d->Q v a
def tN(K:Kq)(f:DF->Option D):TE:=λe H Q=>∃P F b d,f b=some d/\DInv K P F H b e/\∀v g a,Evo P F H g a->Rep K a v d->Q v a
def tB'(K:Kq)(f:DF->Option Bool):TT:=λg H Q=>∃P F a b,f a=some b/\DInv K P F H a g/\∀h e,Evo P F H h e->Q b e
def tL(K:Kq)(f:DF->Option (List D)):TA:=λi H Q=>∃P F a e,f a=some e/\DInv K P F H a i/\∀b h g,Evo P F H h g->Reps K h b e->Q b g
def PDE(X:Cx)(e:Expr)(f:DF->Option D):Prop:=PE X e<|tD X.K f
def PDR(X:Cx)(e:Expr)(f:DF->Option D):Prop:=PE X e<|tR X.K f
def PDN(X:Cx)(e:Expr)(f:DF->Option D):Prop:=PE X e<|tN X.K f
def PDT(X:Cx)(e:Expr)(f:DF->Option Bool):Prop:=PT X e<|tB' X.K f
def PDA(X:Cx)(es:List Expr)(f:DF->Option (List D)):Prop:=PA X es<|tL X.K f
section
variable  {a c:Expr}  
def PE.imp{t t'}(h:PE X e t)(i:∀σ H Q,t' σ H Q->t σ H Q):PE X e t':=λp s σ H Q I q=>h p s σ H Q I<|i σ H Q q
def PT.imp{t t'}(h:PT X e t)(i:∀σ H Q,t' σ H Q->t σ H Q):PT X e t':=λp s σ H Q I q=>h p s σ H Q I<|i σ H Q q
def PA.imp{t t'}(h:PA X es t)(i:∀σ H Q,t' σ H Q->t σ H Q):PA X es t':=λp a s σ H Q I q=>h p a s σ H Q I<|i σ H Q q
noncomputable def getV (i:Nat)(ρ:DF):Option D:=match ρ[i]? with
 |some (some<|.v d)=>some d
 |_=>none
noncomputable def ag (i:Nat)(ρ:DF):Option D:=match ρ[i]? with
 |some (some<|.v d)=>some d
 |some (some<|.own o _)=>if o.flat=true then some o.d else none
 |some (some<|.bor o)=>if o.flat=true then some o.d else none
 |_=>none
noncomputable def ar (i:Nat)(ρ:DF):Option D:=match ρ[i]? with
 |some (some<|.v d)=>some d
 |some (some<|.own o _)=>some o.d
 |some (some<|.bor o)=>some o.d
 |_=>none
def D6(h:getV i ρ=some d):ρ[i]?=some (some (.v d)):=by
 unfold getV at h;split at h
 ·rename_i q;cases h;exact q
 ·cases h
def GK i(h:PE X e (cB i)):PDE X e (getV i):=h.imp λg H Q=>un7 λP F j d a I k=>by
 obtain⟨v,f,b⟩:=I.at<|D6 a
 exact⟨v,f,k v F H (Evo.refl I.toDHp) b⟩
def Hk i(h:PE X e (cB i)):PDR X e (ag i):=h.imp λj H Q=>un7 λP F l d a I k=>by
 unfold ag at a;split at a
 ·rename_i m q;cases a;obtain⟨v,f,g⟩:=I.at q;exact⟨v,f,k v F H (Evo.refl I.toDHp)<|.inl g⟩
 ·rename_i o t q;split at a
  ·rename_i b;cases a;obtain⟨v,f,g⟩:=I.at q;exact⟨v,f,k v F H (Evo.refl I.toDHp)<|RepS.slot I f (.inl ⟨t,q⟩) b⟩
  ·cases a
 ·rename_i o q;split at a
  ·rename_i b;cases a;obtain⟨v,f,g⟩:=I.at q;exact⟨v,f,k v F H (Evo.refl I.toDHp)<|RepS.slot I f (.inr q) b⟩
  ·cases a
 ·cases a
def Gk i(h:PE X e (cB i)):PDN X e (ar i):=h.imp λj H Q=>un7 λP F l d f I k=>by
 unfold ar at f;split at f
 ·rename_i m q;cases f;obtain⟨v,b,g⟩:=I.at q;exact⟨v,b,k v F H (Evo.refl I.toDHp)<|Rep.same I.sub g⟩
 ·rename_i o t q;cases f;obtain⟨v,b,_⟩:=I.at q;obtain⟨a,rfl,g⟩:=I.slot b<|.inl ⟨t,q⟩;exact⟨_,b,k _ F H (Evo.refl I.toDHp)<|g.rep I.sub λ_ _ _ q=>q⟩
 ·rename_i o q;cases f;obtain⟨v,b,_⟩:=I.at q;obtain⟨a,rfl,g⟩:=I.slot b<|.inr q;exact⟨_,b,k _ F H (Evo.refl I.toDHp)<|g.rep I.sub λ_ _ _ q=>q⟩
 ·cases f
def PDE.r{f}(h:PDE X e f):PDR X e f:=PE.imp h λl H Q=>un7 λP F a d b I k=>⟨P,F,a,d,b,I,λv j i g r=>k v j i g<|.inl r⟩
def PDR.n{f}(h:PDR X e f):PDN X e f:=PE.imp h λl H Q=>un7 λP F b d g I k=>⟨P,F,b,d,g,I,λv j i a r=>k v j i a<|r.now a.hp.sub⟩
def PDE.n{f}(h:PDE X e f):PDN X e f:=h.r.n
def tF(h:PE X e (tC v))(r:∀F,Rep X.K F v d):PDE X e (λ_=>some d):=h.imp λb H Q=>un7 λP F f g a I k=>by
 cases a;exact k v F H (Evo.refl I.toDHp)<|r F
def ae{i j p}:PDE X (.Constant (.int i) j p) (λ_=>some (.int i)):=tF Bb λ_=>.int
def jK{i j p}:PDE X (.Constant (.bool i) j p) (λ_=>some (.bl i)):=tF Ig λ_=>.bl
def am{i j p}:PDE X (.Constant (.str i) j p) (λ_=>some (.str i)):=tF dI λ_=>.str
def Ht{j p}:PDE X (.Constant .none j p) (λ_=>some .non):=tF Gm λ_=>.non
def OpN2(K:Kq)(r:R2)(f:D->D->Option D):Prop:=
 ∀P F H x y b a d Q,f b a=some d->DHp P F H->Rep K H x b->Rep K H y a->(∀v g e,Evo P F H g e->Rep K g v d->Q v e)->r x y H Q
noncomputable def d2 (f:D->D->Option D)(fa fb:DF->Option D):DF->Option D:=λa=>(fa a).bind λx=>(fb a).bind λy=>f x y
def vh{f}{fa fb}(q:OpN2 K r f):∀σ H Q,tD K (d2 f fa fb) σ H Q->tOp r (tN K fa) (tN K fb) σ H Q:=λσ H Q=>un7 λP F a d h I k=>by
 unfold d2 at h;cases e:fa a with
 |none=>rw[e]at h;cases h
 |some l=>
  rw[e]at h;cases b:fb a with
  |none=>rw[Ya,b]at h;cases h
  |some j=>
   rw[Ya,b,Ya]at h;refine⟨P,F,a,l,e,I,λx B C i o=>⟨P,B,a,j,b,I.evo i,λy A w g m=>?_⟩⟩;exact q P A w x y l j d Q h g.hp (o.same<|g.same i.hp) m λv z u s p=>k v z u ((i.trans g).trans s) p
def Cf{f}(h:OpR X (compareOp op) r)(g:OpN2 X.K r f)(j:PDN X a fa)(i:PDN X b fb)(e:behindInMarks op b=false):PDE X (.Compare a [op] [b] pos) (d2 f fa fb):=
 (wu h j i e).imp<|vh g
def nY(K:Kq)(r:R2)(f:D->D->Option D):Prop:=
 ∀P F H i h x y b a d Q,f b a=some d->DInv K P F H i h->RepS K H F x b->RepS K H F y a->(∀v g e,Evo P F H g e->Rep K g v d->Q v e)->r x y H Q
def sN{f}{fa fb}(q:nY K r f):∀σ H Q,tD K (d2 f fa fb) σ H Q->tOp r (tR K fa) (tR K fb) σ H Q:=λσ H Q=>un7 λP F a d h I k=>by
 unfold d2 at h;cases e:fa a with
 |none=>rw[e]at h;cases h
 |some l=>
  rw[e]at h;cases b:fb a with
  |none=>rw[Ya,b]at h;cases h
  |some j=>
   rw[Ya,b,Ya]at h;refine⟨P,F,a,l,e,I,λx B C i o=>⟨P,B,a,j,b,I.evo i,λy A w g m=>?_⟩⟩;exact q P A w a σ x y l j d Q h ((I.evo i).evo g) (o.evo g) m λv z u s p=>k v z u ((i.trans g).trans s) p
def jO{f}(h:OpR X (binaryOp op) r)(e:nY X.K r f)(i:PDR X a fa)(g:PDR X b fb):PDE X (.BinOp a op b pos) (d2 f fa fb):=
 (Ff h i g).imp<|sN e
def Hw{f}(h:OpR X (compareOp op) r)(g:nY X.K r f)(j:PDR X a fa)(i:PDR X b fb)(e:behindInMarks op b=false):PDE X (.Compare a [op] [b] pos) (d2 f fa fb):=
 (wu h j i e).imp<|sN g
noncomputable def asB (f:DF->Option D):DF->Option Bool:=λa=>match f a with
 |some (.bl b)=>some b
 |_=>none
def qH{f}{b}(h:asB f ρ=some b):f ρ=some (.bl b):=by
 unfold asB at h;split at h
 ·rename_i q;cases h;exact q
 ·cases h
def k9{f}(h:∀σ H Q,tD K f σ H Q->t σ H Q):∀σ H Q,tB' K (asB f) σ H Q->z8 t σ H Q:=λσ H Q=>un7 λP F a b e I k=>by
 refine h σ H _ ⟨P,F,a,.bl b,qH e,I,λv j i g r=>?_⟩;cases r;exact⟨b,rfl,k j i g⟩
def Er{f}(h:OpR X (compareOp op) r)(g:nY X.K r f)(j:PDR X a fa)(i:PDR X b fb)(e:behindInMarks op b=false):PDT X (.Compare a [op] [b] pos) (asB (d2 f fa fb)):=
 (sF h j i e).imp<|k9<|sN g
def mT{f}(h:OpR X (compareOp op) r)(g:OpN2 X.K r f)(j:PDN X a fa)(i:PDN X b fb)(e:behindInMarks op b=false):PDT X (.Compare a [op] [b] pos) (asB (d2 f fa fb)):=
 (sF h j i e).imp<|k9<|vh g
def cg{f}(h:PDE X e f)(he:∀w,isTrue e X.env w=(do let v <-w;standAt e.pos;holding [v] (truthy v)):=by intro _;rfl):PDT X e (asB f):=
 (Bc h he).imp<|k9 λ_ _ _ q=>q
def d_{x}{i}(r:RepS K H F x (.int i)):x=.int i:=by
 rcases r with r|⟨_,o,_,_,_,_,_,_,z⟩
 ·cases r;rfl
 ·cases o<;>first|(cases z;done)|(rename_i C _;cases C<;>cases z)
def k4{x}{i}(r:RepS K H F x (.str i)):x=.str i:=by
 rcases r with r|⟨_,o,_,_,_,_,_,_,z⟩
 ·cases r;rfl
 ·cases o<;>first|(cases z;done)|(rename_i C _;cases C<;>cases z)
def im{x}(I:DInv K P F H ρ σ)(r:RepS K H F x (.lst ds)):∃a vs,x=.ref a/\SqL K H a vs/\Reps K F vs ds:=by
 rcases r with r|⟨a,o,u,rfl,_,h3,h4,hfl,z⟩
 ·cases r with|lst h q=>exact⟨_,_,rfl,I.sub.seq h,q⟩
 ·cases o with
  |lst ds'=>
   cases z;cases u with
   |lst vs=>exact⟨a,vs,rfl,SqL.of h3,h4⟩
   |_=>exact h4.elim
  |obj _ _=>cases hfl
  |lst2 _=>cases hfl
  |tup2 _=>cases hfl
  |_=>cases z
def kI{x}(I:DInv K P F H ρ σ)(r:RepS K H F x (.tup ds)):∃a vs,x=.ref a/\SqT K H a vs/\Reps K F vs ds:=by
 rcases r with r|⟨a,o,u,rfl,_,h3,h4,hfl,z⟩
 ·cases r with|tup h q=>exact⟨_,_,rfl,SqT.of<|I.sub _ _ h,q⟩
 ·cases o<;>first|(cases z;done)|cases hfl
def B_{x}(I:DInv K P F H ρ σ)(r:RepS K H F x (.dT ds)):∃a vs,x=.ref a/\H a=some (.dT vs)/\RepsT K F vs ds:=by
 rcases r with r|⟨a,o,u,rfl,_,h3,h4,hfl,z⟩
 ·cases r with|dT h q=>exact⟨_,_,rfl,I.sub _ _ h,q⟩
 ·cases o with
  |dT ds'=>
   cases z;cases u with
   |dT vs=>exact⟨a,vs,rfl,h3,h4⟩
   |_=>exact h4.elim
  |obj _ _=>cases hfl
  |lst2 _=>cases hfl
  |tup2 _=>cases hfl
  |_=>cases z
def qR{x}(I:DInv K P F H ρ σ)(r:RepS K H F x (.ins C fs)):∃a dx vs,x=.ref a/\H a=some (.ins C dx vs)/\RepsF K F vs fs:=by
 rcases r with r|⟨a,o,u,rfl,_,h3,b,hfl,z⟩
 ·cases r with|ins h q=>exact⟨_,_,_,rfl,I.sub _ _ h,q⟩
 ·cases o with
  |ins C' fs'=>
   cases z;cases u with
   |ins C'' dx vs=>(obtain⟨rfl,b⟩:=b;exact⟨a,dx,vs,rfl,h3,b⟩)
   |_=>exact b.elim
  |obj _ _=>cases hfl
  |lst2 _=>cases hfl
  |tup2 _=>cases hfl
  |_=>cases z
noncomputable def fI(C:Int->Int->Bool)(g:Int->Int->D):D->D->Option D
 |.int i,.int j=>if C i j=true then some (g i j)else none
 |_,_=>none
def oG{C}{a}(m:∀i j,a i j=true->C i j)(f:∀F i j,Rep K F (g i j) (g' i j)):nY K (rI C g) (fI a g'):=by
 intro P F H p o x y s q d Q h I e b k;unfold fI at h;split at h
 ·rename_i i j;split at h
  ·rename_i l;cases h;exact⟨i,j,d_ e,d_ b,m i j l,k _ F H (Evo.refl I.toDHp)<|f F i j⟩
  ·cases h
 ·cases h
noncomputable def fI0(g:Int->Int->D):D->D->Option D
 |.int i,.int j=>some<|g i j
 |_,_=>none
def qD(e:∀F i j,Rep K F (g i j) (g' i j)):nY K (rI0 g) (fI0 g'):=by
 intro P F H l f x y o m d Q h I b a k;unfold fI0 at h;split at h
 ·rename_i i j;cases h;exact⟨i,j,d_ b,d_ a,k _ F H (Evo.refl I.toDHp)<|e F i j⟩
 ·cases h
def kZ:=fI0 λi j=>.int<|i-j
noncomputable def fC:=fI (λi j=>decide<|(-(2^64)<i/\i<2^64)\/(-(2^64)<j/\j<2^64)) λi j=>.int<|i*j
def aR:=fI (λ_ j=>decide<|0<j/\j<1073741824) λi j=>.int<|i/j
def aJ:=fI (λ_ j=>decide<|0<j) λi j=>.int<|i%j
def pd:=fI (λi j=>decide<|0<=j/\j<=1000000/\i.natAbs<2^64) λi j=>.int<|i^j.toNat
def ltI:=fI0 λi j=>.bl<|decide<|i<j
def leI:=fI0 λi j=>.bl<|decide<|i<=j
def gtI:=fI0 λi j=>.bl<|decide<|j<i
def lA(e:PDR X a fa)(h:PDR X b fb):PDE X (.BinOp a .Sub b pos) (d2 kZ fa fb):=jO Ga (qD λ_ _ _=>.int) e h
def ig(f:PDR X a fa)(e:PDR X b fb):PDE X (.BinOp a .Mult b pos) (d2 fC fa fb):=jO GF (oG (λ_ _ h=>by have q:=YN h;exact q) λ_ _ _=>.int) f e
def cf(f:PDR X a fa)(e:PDR X b fb):PDE X (.BinOp a .FloorDiv b pos) (d2 aR fa fb):=jO C_ (oG (λ_ _ h=>by have q:=YN h;exact q) λ_ _ _=>.int) f e
def bD(f:PDR X a fa)(e:PDR X b fb):PDE X (.BinOp a .Mod b pos) (d2 aJ fa fb):=jO Bi (oG (λ_ _ h=>by have q:=YN h;exact q) λ_ _ _=>.int) f e
def rl(f:PDR X a fa)(e:PDR X b fb):PDE X (.BinOp a .Pow b pos) (d2 pd fa fb):=jO FF (oG (λ_ _ h=>by have q:=YN h;exact q) λ_ _ _=>.int) f e
end
def tO(K:Kq)(f:DF->Option OD):TE:=λi H Q=>∃P F h o,f h=some o/\DInv K P F H h i /\
 ∀a g e,Evo P F H g e->ORep K g e (λb=>H b=none/\g b=none) o a->Q (.ref a) e
def PDO(X:Cx)(e:Expr)(f:DF->Option OD):Prop:=PE X e<|tO X.K f
def asO(f:DF->Option OD):DF->Option D:=λa=>(f a).map OD.d
def Evo.back(h:DHp P F H)(e:Evo P F H F' H')(n:H' a=none):H a=none:=by
 cases q:H a with
 |none=>rfl
 |some o=>rw[e.same h a o q]at n;cases n
open Classical in
noncomputable def zI (F H:Hp)(ow:Addr->Prop):Hp:=λb=>if ow b then H b else F b
def gM{b}(h:ow b):zI F H ow b=H b:=Yh h
def ia{b}(h:¬ow b):zI F H ow b=F b:=Yp h
def dq(h:∀b,ow b->F b=none):Same F (zI F H ow):=λb u e=>by
 by_cases q:ow b
 ·rw[h b q]at e;cases e
 ·rwa[ia q]
def Evo.freeze(i:DHp P F H)(e:Evo P F H F' H')ow(a:∀b,ow b->H b=none/\F' b=none):Evo P F H (zI F' H' ow) H' where
 ext:=e.ext.trans<|dq λb q=>(a b q).2
 hp:=⟨λb u h=>by
   by_cases q:ow b
   ·rwa[gM q]at h
   ·rw[ia q]at h;exact e.hp.sub b u h,e.hp.pro,λb u h=>by
   rw[ia λq=>by rw[(i.pro.free (a b q).1)]at h;cases h];exact e.hp.dis b u h⟩
 keep:=λb u h n=>by
  obtain⟨g,f⟩:=e.keep b u h n;refine⟨g,?_⟩;rwa[ia λq=>by rw[(a b q).1]at h;cases h]
def fj{o}(h:F a=none):Same F (upd F a o):=λb u e=>by rwa[aA<|aS e h]
section
variable     {sts aL:List Stmt} 
def PDO.v{f}(h:PDO X e f):PDE X e (asO f):=PE.imp h λx H Q=>un7 λP F j d g I k=>by
 unfold asO at g;cases q:f j with
 |none=>rw[q]at g;cases g
 |some o=>
  rw[q]at g;cases g;refine⟨P,F,j,o,q,I,λa i w s l=>?_⟩;have m:∀b,(H b=none/\i b=none)->H b=none/\i b=none:=λ_ q=>q
  exact k _ _ w (s.freeze I.toDHp _ m)<|l.rep (dq λb q=>q.2) λb u q p=>by rwa[gM q]
noncomputable def asL(f:DF->Option (List D)):DF->Option OD:=λa=>(f a).map .lst
inductive RES where
 |nx (ρ:DF)|rt (x:DV) (ρ:DF)|bk (ρ:DF)|ct (ρ:DF)
abbrev Dd:=DF->Option D
abbrev Dw:=DF->Option RES
abbrev Dk:=DF->Option Bool
abbrev Dv:=DF->Option (List DV)
abbrev Dl:=DF->Option (List D)
abbrev Dm:=List DV->Option DV
abbrev Dq:=D->DF->Option DF
abbrev Do:=DF->Option OD
abbrev Dz:=OD->List DV->Option (OD×D)
abbrev Dy:=D->D->Option D
def EndsD(K:Kq)(P F:Hp)(E:Ends):RES->Prop
 |.nx ρ=>∀b a H,Same F a->DInv K P a H ρ b->E.nx b H
 |.bk ρ=>∀b a H,Same F a->DInv K P a H ρ b->E.bk b H
 |.ct ρ=>∀b a H,Same F a->DInv K P a H ρ b->E.ct b H
 |.rt x ρ=>∀v b a H,Same F a->DInv K P a H ρ b->DVRep K P a H tE x v->E.rt v H
def EndsD.ext{E}(h:EndsD K P F E r)(e:Same F F1):EndsD K P F1 E r:=by
 cases r with
 |nx ρ=>exact λa f H b I=>h a f H (e.trans b) I
 |bk ρ=>exact λa f H b I=>h a f H (e.trans b) I
 |ct ρ=>exact λa f H b I=>h a f H (e.trans b) I
 |rt x ρ=>exact λv a f H b I r=>h v a f H (e.trans b) I r
def tS(K:Kq)(g:Dw):TS:=λE b H=>∃P F a r,g a=some r/\DInv K P F H a b/\EndsD K P F E r
def PD1(X:Cx)(st:Stmt)(g:Dw):Prop:=PS X st<|tS X.K g
def PDS(X:Cx)(sts:List Stmt)(g:Dw):Prop:=PSs X sts<|tS X.K g
def PS.imp{t t'}(h:PS X st t)(i:∀E σ H,t' E σ H->t E σ H):PS X st t':=λp s σ H E I q=>h p s σ H E I<|i E σ H q
def PSs.imp{t t'}(h:PSs X sts t)(i:∀E σ H,t' E σ H->t E σ H):PSs X sts t':=λp s σ H E I q=>h p s σ H E I<|i E σ H q
def dNx:DF->Option RES:=λρ=>some<|.nx ρ
def Iy:∀E σ H,tS K dNx E σ H->E.nx σ H:=λE σ H=>un7 λP F a r h I k=>by
 cases h;exact k σ F H (Same.refl _) I
def a7:PDS X [] dNx:=PSs.imp v_ Iy
noncomputable def al (g h:Dw):DF->Option RES:=λa=>match g a with
 |some (.nx ρ')=>h ρ'
 |r=>r
def ac{g h}(h1:PD1 X st g)(h2:PDS X aL h):PDS X (st::aL) (al g h):=PSs.imp (uO h1 h2) λE m H=>un7 λP F b r f I k=>by
 unfold al at f;split at f
 ·rename_i a q;exact⟨P,F,b,_,q,I,λi l o e j=>⟨P,l,a,r,f,j,k.ext e⟩⟩
 ·rename_i q;refine⟨P,F,b,r,f,I,?_⟩;cases r with
  |nx a=>exact absurd f<|q a
  |bk b=>exact k
  |ct b=>exact k
  |rt x b=>exact k
def ap(h1:PD1 X st g):PDS X [st] g:=PSs.imp (sJ h1) λ_ _ _ q=>q
noncomputable def bb (f:Dd):DF->Option RES:=λa=>(f a).map λd=>.rt (.v d) a
def aQ{f:Dd}(h:PDE X e f):PD1 X (.Return (some e) pos) (bb f):=PS.imp (oY h) λE i H=>un7 λP F b r a I k=>by
 unfold bb at a;cases q:f b with
 |none=>rw[q]at a;cases a
 |some d=>
  rw[q]at a;cases a;exact⟨P,F,b,d,q,I,λv m l g j=>k v i m l g.ext (I.evo g) j⟩
noncomputable def mh(f:Do):DF->Option RES:=λa=>(f a).map λo=>.rt (.own o none) a
def qT{f:Do}(h:PDO X e f):PD1 X (.Return (some e) pos) (mh f):=PS.imp (oY h) λE l H=>un7 λP F i r g I k=>by
 unfold mh at g;cases q:f i with
 |none=>rw[q]at g;cases g
 |some o=>
  rw[q]at g;cases g;exact⟨P,F,i,o,q,I,λa w s j m=>k _ l w s j.ext (I.evo j) ⟨a,rfl,m.mono (Same.refl _) λb u q p=>⟨p,q.2,I.pro.free q.1,trivial⟩,λ_ z=>nomatch z⟩⟩
noncomputable def l8(i:Nat):DF->Option RES:=λa=>match a[i]? with
 |some (some x)=>some<|.rt x a
 |_=>none
def qX i(h:PE X e (cB i)):PD1 X (.Return (some e) pos) (l8 i):=PS.imp (oY h) λE b H=>un7 λP F j r a I k=>by
 unfold l8 at a;split at a
 ·rename_i x q;cases a;obtain⟨v,g,f⟩:=I.at q;exact⟨v,g,k v b F H (Same.refl _) I f⟩
 ·cases a
def gx{α:Type}{l:List α}{x y}(h:(l.set i x)[j]?=some y):(i=j/\y=x/\i<l.length)\/(i≠j/\l[j]?=some y):=by
 by_cases a:i=j
 ·subst a;have b:i<l.length:=by have:=(YM.mp h).1;rwa [Zf]at this
  rw[Zp b]at h;exact .inl ⟨rfl,(Yv h).symm,b⟩
 ·rw[YR a]at h;exact .inr ⟨a,h⟩
def DInv.setO(I:DInv K P F H ρ σ)i{x}g(l:∀j y w (O:Addr->Option Nat),j≠i->ρ[j]?=some (some y)->DVRep K P F H (λb=>O b=some j) y w->DVRep K P F H (λb=>O b=some j/\¬g b) y w)(r:DVRep K P F H g x v) :
  DInv K P F H (ρ.set i<|some x) (σ.set i<|some v):=by
 obtain⟨O,h⟩:=I.rep;refine⟨I.toDHp,by rw[Zf,Zf];exact I.len,?_⟩
 classical
 refine⟨λb=>if g b then some i else if O b=some i then none else O b,λj y o=>?_⟩;rcases gx o with⟨rfl,e,m⟩|⟨a,f⟩
 ·cases e;refine⟨v,by rw[Zp<|by rwa[<-I.len]],r.imp λb u _ _ _ q=>Yh q⟩
 ·obtain⟨w,s,p⟩:=h j y f;refine⟨w,by rwa[YR a],(l j y w O (ZX a) f p).imp λb u _ _ _ q=>?_⟩;show(if g b then some i else if O b=some i then none else O b)=some j;rw[Yp q.2,Yp<|by rw[q.1];intro z;exact a (Yv z).symm,q.1]
def DInv.setV(I:DInv K P F H ρ σ)i(r:Rep K F v d):DInv K P F H (ρ.set i (some (.v d))) (σ.set i (some v)):=
 I.setO i (λ_=>False) (λj y w O _ _ q=>q.imp λb u _ _ _ z=>⟨z,id⟩) r
def DInv.setN(I:DInv K P F H ρ σ)(ev:Evo P F H F' H')i{o}(m:ORep K F' H' (λb=>H b=none/\F' b=none) o a):DInv K P F' H' (ρ.set i (some (.own o none))) (σ.set i (some (.ref a))):=by
 have⟨O,h⟩:=I.rep;refine⟨ev.hp,by rw[Zf,Zf];exact I.len,?_⟩
 classical
 refine⟨λb=>if H b=none then some i else if O b=some i then none else O b,λj y s=>?_⟩;rcases gx s with⟨rfl,e,p⟩|⟨f,g⟩
 ·cases e;refine⟨.ref a,by rw[Zp<|by rwa[<-I.len]],a,rfl,m.mono (Same.refl _) λb u q l=>⟨l,q.2,I.pro.free q.1,Yh q.1⟩,λ_ z=>nomatch z⟩
 ·have⟨w,B,A⟩:=h j y g;refine⟨w,by rwa[YR f],?_⟩;have x:=A.imp λb u _ _ l q=>by
   show(if H b=none then some i else if O b=some i then none else O b)=some j;rw[Yp<|by rw[l];simp,Yp<|by rw[q];intro z;exact f (Yv z).symm,q]
  exact x.evo ev
def setV(i:Nat)(d:D)(ρ:DF):Option DF:=some<|ρ.set i<|some<|.v d
noncomputable def aY (i:Nat)(f:Dd):DF->Option RES:=λa=>(f a).map λd=>.nx<|a.set i<|some<|.v d
def G8{f}:∀E σ H,tS K (aY i f) E σ H->DY (tD K f) (pG i) E σ H:=λE σ H=>un7 λP F a r h I k=>by
 unfold aY at h;cases q:f a with
 |none=>rw[q]at h;cases h
 |some d=>
  rw[q]at h;cases h;exact⟨P,F,a,d,q,I,λv j g e b=>k _ j g e.ext<|(I.evo e).setV i b⟩
def GS{f:Dd}(hN:X.N.Nodup)(hi:X.N[i]?=some x)(hx:Loc X.env.scope x)(he:PDE X e f)(h:swapsWith e (some (.Name x pos')) pos.line X.env=pure false:=by rfl)(a:FnL X x:=by first|exact .inl rfl|exact .inr rfl|assumption) :
  PD1 X (.Assign [.Name x pos'] e pos) (aY i f):=PS.imp (om hN hi hx he h a) G8
noncomputable def dF(i:Nat)(f:Do):DF->Option RES:=λa=>(f a).map λo=>.nx<|a.set i<|some<|.own o none
def Fw{f}:∀E σ H,tS K (dF i f) E σ H->DY (tO K f) (pG i) E σ H:=λE σ H=>un7 λP F b r h I k=>by
 unfold dF at h;cases q:f b with
 |none=>rw[q]at h;cases h
 |some o=>
  rw[q]at h;cases h;exact⟨P,F,b,o,q,I,λa l j e g=>k _ l j e.ext<|I.setN e i g⟩
def wA{f:Do}(hN:X.N.Nodup)(hi:X.N[i]?=some x)(hx:Loc X.env.scope x)(he:PDO X e f)(h:swapsWith e (some (.Name x pos')) pos.line X.env=pure false:=by rfl)(a:FnL X x:=by first|exact .inl rfl|exact .inr rfl|assumption) :
  PD1 X (.Assign [.Name x pos'] e pos) (dF i f):=PS.imp (om hN hi hx he h a) Fw
noncomputable def u3(i:Nat)(g:Dw):DF->Option RES:=λa=>match a[i]? with
 |some (some<|.own o none)=>g<|a.set i<|some<|.v o.d
 |some (some<|.v d)=>g a
 |_=>none
def DInv.frz(I:DInv K P F H ρ σ){o}(h:ρ[i]?=some (some (.own o t))):∃F',Same F F'/\DInv K P F' H (ρ.set i (some (.v o.d))) σ:=by
 have⟨O,x⟩:=I.rep;have f:∀b,(F b=none/\P b=none/\O b=some i)->F b=none:=λb q=>q.1
 refine⟨zI F H _,dq f,⟨λb u q=>?_,I.pro,λb u q=>?_⟩,by rw[Zf];exact I.len,O,λj y A=>?_⟩
 ·by_cases c:F b=none/\P b=none/\O b=some i
  ·rwa[gM c]at q
  ·rw[ia c]at q;exact I.sub b u q
 ·rw[ia λc=>by rw[c.2.1]at q;cases q];exact I.dis b u q
 ·rcases gx A with⟨rfl,e,B⟩|⟨p,m⟩
  ·cases e;obtain⟨v,w,a,rfl,l,_⟩:=x i _ h;exact⟨_,w,l.rep (dq f) λb u q g=>by rwa[gM q]⟩
  ·have⟨v,w,l⟩:=x j y m;refine⟨v,w,?_⟩;cases y with
   |v d=>exact Rep.same (dq f) l
   |own o' t'=>
    obtain⟨a,rfl,s,z⟩:=l;exact⟨a,rfl,s.mono (dq f) λb u q g=>⟨g,by
     rw[ia λc=>by rw[q.2.2]at c;exact p (Yv c.2.2).symm];exact q.1,q.2⟩,z⟩
   |bor o'=>
    obtain⟨a,rfl,s⟩:=l;exact⟨a,rfl,s.mono (dq f) λb u q g=>⟨g,q⟩⟩
def GC:∀E σ H,tS K (u3 i g) E σ H->tS K g E σ H:=λE σ H=>un7 λP F a r h I k=>by
 unfold u3 at h;split at h
 ·rename_i o q;obtain⟨f,e,b⟩:=I.frz q;exact⟨P,f,_,r,h,b,k.ext e⟩
 ·exact⟨P,F,a,r,h,I,k⟩
 ·cases h
def xl i(h:PD1 X st g):PD1 X st (u3 i g):=PS.imp h GC
def k_:DF->Option RES:=λ_=>none
def kN:PD1 X st k_:=PS.imp Ah λ_ _ _ ⟨_,_,_,_,h,_⟩=>by cases h
noncomputable def wH(f:Dd):DF->Option RES:=λρ=>(f ρ).map λ_=>.nx ρ
def Ea{f:Dd}(h:PDE X e f)(j:swapsWith e none pos.line X.env=pure false:=by rfl):PD1 X (.Expr e pos) (wH f):=PS.imp (dB h j) λE i H=>un7 λP F b r a I k=>by
 unfold wH at a;cases q:f b with
 |none=>rw[q]at a;cases a
 |some d=>
  rw[q]at a;cases a;exact⟨P,F,b,d,q,I,λv m l g _=>k i m l g.ext<|I.evo g⟩
def dIf(c:Dk)(g h:Dw):DF->Option RES:=λa=>(c a).bind λb=>if b=true then g a else h a
def cw{a b}{fc:Dk}{g h}(l:PDT X c fc)(o:PDS X a g)(m:PDS X b h):PD1 X (.If c a b pos) (dIf fc g h):=PS.imp (Cc l o m) λE p H=>un7 λP F f r e I k=>by
 unfold dIf at e;cases q:fc f with
 |none=>rw[q]at e;cases e
 |some b=>
  rw[q,Ya]at e;refine⟨P,F,f,b,q,I,λj s i=>?_⟩;cases b with
  |true=>
   rw[Yh rfl]at e ⊢;exact⟨P,j,f,r,e,I.evo i,k.ext i.ext⟩
  |false=>
   rw[Yp Ym]at e ⊢;exact⟨P,j,f,r,e,I.evo i,k.ext i.ext⟩
def DP(K:Kq)(P:Hp)(J:It)(F:Hp)(ds:List D):Prop:=
 ∀a H,Same F a->DHp P a H->∀i:Nat,(∀d,ds[i]?=some d->J.go i H/\∀x b,J.yld i H x b->∃e,Evo P a H e b/\Rep K e x d)/\(ds.length<=i->J.stop i H)
def tI(K:Kq)(f:Dl):TI:=λe H R=>∃P F a b,f a=some b/\DInv K P F H a e/\∀J F' H',Evo P F H F' H'->DP K P J F' b->R J H'
def PDI(X:Cx)(tg iter:Expr)(f:Dl):Prop:=PI X tg iter<|tI X.K f
def PI.imp{t t'}(h:PI X tg iter t)(i:∀σ H R,t' σ H R->t σ H R):PI X tg iter t':=λp s σ H R I q=>h p s σ H R I<|i σ H R q
def tG(K:Kq)(is:List Nat)(st:Dq):TG:=λv e H Q=>∃P F g d b,st d g=some b/\DInv K P F H g e/\Rep K F v d/\∀a h f,Evo P F H h f->DInv K P h f b a->a.length=e.length->(∀j,j∉is->a[j]?=e[j]?)->Q a f
def PDG(X:Cx)(tg:Expr)(is:List Nat)(st:Dq):Prop:=PG X tg<|tG X.K is st
def PG.imp{t t'}(h:PG X tg t)(i:∀v σ H Q,t' v σ H Q->t v σ H Q):PG X tg t':=λp s σ H v u Q I r q=>h p s σ H v u Q I r<|i v σ H Q q
def AR(hN:X.N.Nodup)(hi:X.N[i]?=some x)(hx:Loc X.env.scope x)(f:FnL X x:=by first|exact .inl rfl|exact .inr rfl|assumption):PDG X (.Name x pos) [i] (setV i):=
 PG.imp (xy hN hi hx f) λv g H Q h=>by
  obtain⟨P,F,l,d,a,b,I,r,k⟩:=h;cases b;exact k _ F H (Evo.refl I.toDHp) (I.setV i r) (Zf ..) λj e=>by rw[YR λz=>e<|by rw[z];exact ZN _]
noncomputable def cN (st:Dq)(body:Dw):List D->DF->Option RES
 |[],ρ=>some<|.nx ρ
 |d::ds,ρ=>match st d ρ with
  |none=>none
  |some a=>match body a with
   |some (.nx ρ')=>cN st body ds ρ'
   |some (.ct ρ')=>cN st body ds ρ'
   |some (.bk ρ')=>some<|.nx ρ'
   |r=>r
def j7(it:Dl)(st:Dq)(body:Dw):DF->Option RES:=λa=>(it a).bind λb=>cN st body b a
theorem F8{f}{st}(hp:PassesOwn (model X.prog X.w) X.A X.env X.xe)(hc:X.calm=true)(hi:PDI X tg iter f)(hg:PDG X tg is st)(hb:PDS X body g)
  (hs:FsI iter X:=by intro _;rfl):PD1 X (.For tg iter body [] pos) (j7 f st g):=PS.imp (F9 hp hc hi hg hb hs) λE σ H=>un7 λP F ρ r R I k=>by
 unfold j7 at R;cases q:f ρ with
 |none=>rw[q]at R;cases R
 |some a=>
  rw[q,Ya]at R;refine⟨P,F,ρ,a,q,I,λJ F1 H1 T ok=>?_⟩;refine⟨λi m l H'=>m=a.length-i/\i<=a.length/\∃N e,Same F1 N/\DInv X.K P N H' e l/\cN st g (a.drop i) e=some r,⟨_,rfl,YQ _,F1,ρ,Same.refl _,I.evo T,R⟩,?_⟩;rintro i m l H' ⟨rfl,hil,N,e,Y,I',h⟩;obtain⟨ok1,ok2⟩:=ok N H' Y I'.toDHp i;by_cases u:i<a.length
  ·have hd:=Yz u;obtain⟨go,yl⟩:=ok1 _ hd;have y:=XE u;rw[y]at h;unfold cN at h;cases p:st a[i] e with
   |none=>rw[p]at h;cases h
   |some o=>
    rw[p]at h;dsimp only at h;have hE:=T.ext.trans Y;refine .inr ⟨go,λO Z=>∃M j,Same F1 M/\DInv X.K P M Z j O/\cN st g _ j=some r,λO Z ⟨M,j,s2,I2,hf2⟩=>⟨a.length-(i+1),by omega,rfl,u,M,j,s2,I2,hf2⟩,λx Z hy=>?_⟩;obtain⟨M,S,rx⟩:=yl x Z hy;refine⟨P,M,e,a[i],o,p,I'.evo S,rx,λσ3 F3 H3 ev3 I3 _ _=>?_⟩;have s:=Y.trans<|S.ext.trans ev3.ext;cases z:g o with
    |none=>rw[z]at h;cases h
    |some Q=>
     rw[z]at h;refine⟨P,F3,o,Q,z,I3,?_⟩;cases Q with
     |nx ρ4=>exact λb L U B C=>⟨L,ρ4,s.trans B,C,h⟩
     |ct ρ4=>exact λb L U B C=>⟨L,ρ4,s.trans B,C,h⟩
     |bk ρ4=>
      cases h;exact λb L U B C=>k b L U (T.ext.trans<|s.trans B) C
     |rt x4 ρ4=>
      cases h;exact λv4 b L U B C r4=>k v4 b L U (T.ext.trans<|s.trans B) C r4
  ·have hz:a.drop i=[]:=List.drop_eq_nil_of_le (by omega);rw[hz]at h;cases h;exact .inl ⟨ok2<|by omega,k l N H' (T.ext.trans Y) I'⟩
noncomputable def cD (c:Dk)(body:Dw):Nat->DF->Option RES
 |0,_=>none
 |n+1,ρ=>match c ρ with
  |none=>none
  |some false=>some<|.nx ρ
  |some true=>match body ρ with
   |some (.nx ρ')=>cD c body n ρ'
   |some (.ct ρ')=>cD c body n ρ'
   |some (.bk ρ')=>some<|.nx ρ'
   |r=>r
def kC n{fc:Dk}(Y:PassesOwn (model X.prog X.w) X.A X.env X.xe)(Z:PDT X c fc)(hb:PDS X body g):PD1 X (.While c body [] pos) (cD fc g n):=PS.imp (uA Y Z hb) λE σ H=>un7 λP F R r U I k=>by
 refine⟨λm j O=>∃C a,Same F C/\DInv X.K P C O a j/\cD fc g m a=some r,⟨n,F,R,Same.refl _,I,U⟩,?_⟩;rintro m j O ⟨C,a,M,J,e⟩;cases m with
 |zero=>cases e
 |succ m=>
  unfold cD at e;cases l:fc a with
  |none=>rw[l]at e;cases e
  |some b=>
   rw[l]at e;refine⟨P,C,a,b,l,J,λL H2 i=>?_⟩;cases b with
   |false=>
    rw[Yp Ym];cases e;exact k j L H2 (M.trans i.ext)<|J.evo i
   |true=>
    rw[Yh rfl];refine⟨λu N=>∃Q x,Same F Q/\DInv X.K P Q N x u/\cD fc g m x=some r,λu N h=>⟨m,XG m,h⟩,?_⟩;have B:=M.trans i.ext;dsimp only at e;cases o:g a with
    |none=>rw[o]at e;cases e
    |some y=>
     rw[o]at e;refine⟨P,L,a,y,o,J.evo i,?_⟩;cases y with
     |nx ρ4=>exact λf s z p q=>⟨s,ρ4,B.trans p,q,e⟩
     |ct ρ4=>exact λf s z p q=>⟨s,ρ4,B.trans p,q,e⟩
     |bk ρ4=>
      cases e;exact λf s z p q=>k f s z (B.trans p) q
     |rt x4 ρ4=>
      cases e;exact λS f s z p q T=>k S f s z (B.trans p) q T
end
end L2
variable{ρ ρ':DF}{a e1 e2 e0 e3 e4:Expr}{f fa fb fe fc fv fx f1 f4 f2:DF->Option L2.D}{ds T U O as sg:List L2.D}{g gs:DF->Option RES}{l is kd r':List Nat}{xs:List DV}{ns:List Int}{mn q y er tn on c1 c2:Str}{h dy DD d':L2.D}{spos p2 p1 pos2 p' p3 p4 rpos:Pos}{m:List DV->Option DV}{mM:OD->List DV->Option (OD×L2.D)}{k' ep ie kk lo hi it io:Nat}{I f0 c0 A1 A2 f':Addr}{outer:List Env}{t1 t2:Option Addr}{o' A' st':OD}{cd a0 pm:Value}{wr:List Addr}{elts:List Expr}{gR:Addr->V->L2.D->DF->Option RES}{B Q:List (Key×L2.D)}{here oth z:Int}{H1 F1 H2 F2:Hp}{fo:DF->Option OD}{S:DV}{sts ss:List Stmt}{sd:Stmt}{bg:List (Int×Int)}{x0 x1:Option DV}{rz:DF->Option Nat}{cs:List V}
namespace L2
open PySem PySem.Spec PyProof.Rows
def gd(F H:Hp):Hp:=λa=>match F a with
 |none=>H a
 |some _=>none
def ja{a}{o}:gd F H a=some o↔F a=none/\H a=some o:=by
 unfold gd;cases q:F a with
 |none=>simp
 |some u=>simp
def iI(s:Same F H):DHp (gd F H) F H:=⟨s,λa o e=>(ja.mp e).2,λa o e=>(ja.mp e).1⟩
def DHp.gd(h:DHp P F H)(e:Same F F')(g:DHp (gd F H) F' H'):Evo P F H F' H' where
 ext:=e
 hp:=⟨g.sub,λa o q=>g.pro a o<|ja.mpr ⟨h.dis a o q,h.pro a o q⟩,λa o q=>g.dis a o<|ja.mpr ⟨h.dis a o q,h.pro a o q⟩⟩
 keep:=λa o q n=>⟨g.pro a o<|ja.mpr ⟨n,q⟩,g.dis a o<|ja.mpr ⟨n,q⟩⟩
def Evo.change{b F}(e:Evo P F H F' H')(h:DHp b F H):Evo b F H F' H':=
 ⟨e.ext,⟨e.hp.sub,λa o q=>(e.keep a o (h.pro a o q)<|h.dis a o q).1,λa o q=>(e.keep a o (h.pro a o q)<|h.dis a o q).2⟩,e.keep⟩
def EY:DV->Bool
 |.own _ _=>true
 |_=>false
inductive DVs (K:PySem.W.Frag) (P F H:Hp):List DV->List V->Prop
 |nil:DVs K P F H [] []
 |cons {x:DV}{v:V}{xs:List DV}{vs:List V}:EY x=false->DVRep K P F H tE x v->DVs K P F H xs vs->DVs K P F H (x::xs) (v::vs)
def DVs.length(h:DVs K P F H xs vs):xs.length=vs.length:=by
 induction h with
 |nil=>rfl
 |cons _ _ _ ih=>exact YH Nat.succ ih
def DVs.get{x}(h:DVs K P F H xs vs)(e:xs[i]?=some x):EY x=false/\∃v,vs[i]?=some v/\DVRep K P F H tE x v:=by
 induction h generalizing i with
 |nil=>exact nomatch e
 |cons h r _ ih=>
  cases i with
  |zero=>obtain rfl:=Yv e;exact⟨h,_,rfl,r⟩
  |succ i=>exact ih e
def spD(K:Kq)(m:Dm):Sp:=λf H Q _=>∃P F e x,m e=some x/\DHp P F H/\DVs K P F H e f/\∀v b a,Same F b->DHp P b a->DVRep K P b a tE x v->Q v a
def bn(n p:Nat)(xs:List DV):DF:=xs.map some++List.replicate (n-p) none
noncomputable def c9:Option RES->Option DV
 |some (.rt x _)=>some x
 |some (.nx _)=>some<|.v .non
 |_=>none
noncomputable def mOf (n p:Nat)(g:Dw):List DV->Option DV:=λx=>if x.length=p then c9 (g<|bn n p x)else none
def iA{n p}{x}(h:(bn n p xs)[i]?=some (some x)):xs[i]?=some x:=by
 unfold bn at h;by_cases a:i<xs.length
 ·rw[ZF<|by simpa using a,YI]at h;cases q:xs[i]? with
  |none=>rw[q]at h;cases h
  |some y=>rw[q]at h;cases h;rfl
 ·rw[ZB<|by simpa using a,Xc]at h;split at h<;>cases h
def eV(h:vs[i]?=some v):(start N vs)[i]?=some (some v):=by unfold start;have a:=(YM.mp h).1;rw[ZF<|by simpa using a,YI,h];rfl
def DInv.start N p(h:DHp P F H)(r:DVs K P F H xs vs)(b:xs.length=p):DInv K P F H (bn N.length p xs) (start N vs):=by
 refine⟨h,?_,λ_=>none,λi x e=>?_⟩
 ·unfold bn L2.start;rw[Yb,Yb,Yc,Yc,YA,YA,r.length,<-r.length,b]
 ·obtain⟨f,v,g,a⟩:=r.get<|iA e;refine⟨v,eV g,?_⟩;cases x with
  |own o t=>cases f
  |v d=>exact a
  |bor o=>exact a
def Fun.okD{P}{f}(F:Fun K x qual st f fd)(S:FnScope N ps (defScope st))
  (b:∀cdv A outer s H E,Room k (A.deeper<|envOfC qual (defScope st) s.heap.objs.size f cdv)->
   PDS (cY CX0 P w K mg base N qual (defScope st) f cdv A outer s H E).nox (defBody st) g):FnOk P w K mg base CX0 (k+1) f fd ps (spD K<|mOf N.length ps.length g):=by
 have l:∀i H Q E,spD K (mOf N.length ps.length g) i H Q E->i.length=ps.length:=λi H Q E o=>by
  obtain⟨p,B,j,M,a,C,m,_⟩:=o;unfold mOf at a;split at a
  ·rename_i h;rwa[<-m.length]
  ·cases a
 refine F.ok S l λcdv A outer s H i Q E O h=>?_;refine⟨_,b cdv A outer s H E O,?_⟩;obtain⟨p,B,j,M,a,C,m,J⟩:=h;unfold mOf at a;split at a
 ·rename_i R;have I:=DInv.start N ps.length C m R;cases q:g (bn N.length ps.length j)with
  |none=>rw[q]at a;cases a
  |some r=>
   rw[q]at a;refine⟨p,B,_,r,q,I,?_⟩;cases r with
   |rt y ρ=>cases a;exact λv L z u e h r=>J v z u e h.toDHp r
   |nx ρ=>cases a;exact λL z u e T=>J .non z u e T.toDHp .non
   |bk ρ=>cases a
   |ct ρ=>cases a
 ·cases a
inductive ArgsS (K:PySem.W.Frag) (ρ:DF) (σ:St) (F:Hp):List DV->List V->Prop
 |nil:ArgsS K ρ σ F [] []
 |v {d:D}{v:V}{xs:List DV}{vs:List V}:Rep K F v d->ArgsS K ρ σ F xs vs->ArgsS K ρ σ F (.v d::xs) (v::vs)
 |b {o:OD}{v:V}{xs:List DV}{vs:List V} (i:Nat):σ[i]?=some (some v)->((∃t,ρ[i]?=some (some (.own o t)))\/ρ[i]?=some (some (.bor o)))->ArgsS K ρ σ F xs vs->ArgsS K ρ σ F (.bor o::xs) (v::vs)
def ArgsS.dvs(I:DInv K P F H ρ σ)(h:ArgsS K ρ σ F xs vs):DVs K (gd F H) F H xs vs:=by
 induction h with
 |nil=>exact .nil
 |v h _ ih=>exact .cons rfl h ih
 |b i h1 h2 _ ih=>
  obtain⟨a,rfl,f⟩:=I.slot h1 h2;exact .cons rfl ⟨a,rfl,f.mono (Same.refl _) λb u q e=>⟨ja.mpr ⟨q,e⟩,trivial⟩⟩ ih
def tLV(K:Kq)(f:Dv):TA:=λb H Q=>∃P F a x,f a=some x/\DInv K P F H a b/\∀e h g,Evo P F H h g->ArgsS K a b h x e->Q e g
def jR(X:Cx)(es:List Expr)(f:Dv):Prop:=PA X es<|tLV X.K f
def bh:jR X [] nA:=PA.imp aZ λa H Q=>un7 λP F b x h I k=>by
 cases h;exact k [] F H (Evo.refl I.toDHp) .nil
noncomputable def aV (f:Dd)(g:Dv):DF->Option (List DV):=λa=>(f a).bind λd=>(g a).map λx=>.v d::x
def cq{g}(h:PDE X e f)(u:jR X es g)(s:starEach (e::es) X.env=(false,eval e X.env)::starEach es X.env:=by rfl):jR X (e::es) (aV f g):=PA.imp (aI h u s) λA H Q=>un7 λP F b B a I k=>by
 unfold aV at a;cases q:f b with
 |none=>rw[q]at a;cases a
 |some d=>
  rw[q,Ya]at a;cases i:g b with
  |none=>rw[i]at a;cases a
  |some y=>
   rw[i]at a;cases a;exact⟨P,F,b,d,q,I,λv z C l p=>⟨P,z,b,y,i,I.evo l,λm x w j o=>k (v::m) x w (l.trans j)<|.v (p.same j.ext) o⟩⟩
noncomputable def aB (i:Nat)(g:Dv):DF->Option (List DV):=λa=>match a[i]? with
 |some (some<|.own o _)=>(g a).map λx=>.bor o::x
 |some (some<|.bor o)=>(g a).map λx=>.bor o::x
 |some (some<|.v d)=>(g a).map λx=>.v d::x
 |_=>none
def Ji i{g}(h:PE X e (cB i))(A:jR X es g)(z:starEach (e::es) X.env=(false,eval e X.env)::starEach es X.env:=by rfl):jR X (e::es) (aB i g):=PA.imp (aI h A z) λB H Q=>un7 λP F l C a I k=>by
 unfold aB at a;split at a
 ·rename_i o t q;have⟨v,j,x⟩:=I.at q;cases f:g l with
  |none=>rw[f]at a;cases a
  |some y=>
   rw[f]at a;cases a;exact⟨v,j,P,F,l,y,f,I,λp w u m s=>k (v::p) w u m<|.b i j (.inl ⟨t,q⟩) s⟩
 ·rename_i o q;have⟨v,j,x⟩:=I.at q;cases f:g l with
  |none=>rw[f]at a;cases a
  |some y=>
   rw[f]at a;cases a;exact⟨v,j,P,F,l,y,f,I,λp w u m s=>k (v::p) w u m<|.b i j (.inr q) s⟩
 ·rename_i d q;have⟨v,j,x⟩:=I.at q;cases f:g l with
  |none=>rw[f]at a;cases a
  |some y=>
   rw[f]at a;cases a;exact⟨v,j,P,F,l,y,f,I,λp w u m s=>k (v::p) w u m<|.v (Rep.same m.ext x) s⟩
 ·cases a
noncomputable def dvD:DV->Option D
 |.v d=>some d
 |.own o _=>some o.d
 |.bor _=>none
def bv(m:Dm)(g:Dv):DF->Option D:=λa=>(g a).bind λx=>(m x).bind dvD
def dvO:DV->Option OD
 |.own o _=>some o
 |_=>none
def oO(m:Dm)(g:Dv):DF->Option OD:=λa=>(g a).bind λx=>(m x).bind dvO
def FP{a}(e:Same F F')(h1:F' a=none)(h2:gd F H a=none):H a=none:=by
 unfold gd at h2;have:F a=none:=by
  cases q:F a with
  |none=>rfl
  |some o=>rw[e a o q]at h1;cases h1
 rwa[this]at h2
def sK{o}{a}(e2:Same F1 F2)(h:ORep K F2 H2 (λb=>F2 b=none/\gd F1 H1 b=none/\tE b) o a):ORep K F2 H2 (λb=>H1 b=none/\F2 b=none) o a:=
 h.mono (Same.refl _) λb u q e=>⟨e,FP e2 q.1 q.2.1,q.1⟩
def Dt{g}{E}:∀σ H Q,tD K (bv m g) σ H Q->wX (spD K m) [] E (tLV K g) σ H Q:=λσ H Q=>un7 λP F A d h I k=>by
 unfold bv at h;cases q:g A with
 |none=>rw[q]at h;cases h
 |some f=>
  rw[q,Ya]at h;cases i:m f with
  |none=>rw[i]at h;cases h
  |some x=>
   rw[i,Ya]at h;refine⟨P,F,A,f,q,I,λO z w p L=>?_⟩;have e:=I.evo p;refine⟨gd z w,z,f,x,i,iI e.sub,by rw[Yl];exact L.dvs e,λv y s J j B=>?_⟩;have C:=e.toDHp.gd J j;cases x with
   |v d'=>cases h;exact k v y s (p.trans C) B
   |own o t=>
    cases h;obtain⟨a,rfl,M,_⟩:=B;have l:=sK J M;exact k _ _ s (p.trans<|C.freeze e.toDHp _ λ_ q=>q)<|l.rep (dq λb q=>q.2) λb u q N=>by rwa[gM q]
   |bor o=>cases h
def De{g}{E}:∀σ H Q,tO K (oO m g) σ H Q->wX (spD K m) [] E (tLV K g) σ H Q:=λσ H Q=>un7 λP F s d h I k=>by
 unfold oO at h;cases q:g s with
 |none=>rw[q]at h;cases h
 |some e=>
  rw[q,Ya]at h;cases f:m e with
  |none=>rw[f]at h;cases h
  |some x=>
   rw[f,Ya]at h;refine⟨P,F,s,e,q,I,λN p z j C=>?_⟩;have l:=I.evo j;refine⟨gd p z,p,e,x,f,iI l.sub,by rw[Yl];exact C.dvs l,λv A y w i B=>?_⟩;have M:=l.toDHp.gd w i;cases x with
   |own o t=>
    cases h;obtain⟨a,rfl,J,_⟩:=B;exact k a A y (j.trans M)<|(sK w J).mono (Same.refl _) λb u q L=>⟨L,j.back I.toDHp q.1,q.2⟩
   |_=>cases h
section
variable{k:Nat}{f:Addr}      {g:Dv}
def EF(F:FnOk X.prog X.w X.K X.mg X.base CX0 k f fd ps (spD X.K m))(a:Room k X.A)(j:Gl X x)(b:X.mg x=some (.ref f))(i:PySem.W.keepIn X.K (.ref f)=true)(l:Binds X.K fd ps [])(o:jR X (e::es) g)
  (hd:nDb x:=by decide) (he:starEach (e::es) X.env=(false,eval e X.env)::starEach es X.env:=by rfl) (h:(backTo pos<|starEach es X.env).any (·.1)=false:=by rfl):PDE X (.Call (.Name x p) (e::es) [] pos) (bv m g):=
 (mX F a j b i l .nil mf o hd he h).imp Dt
def BV(F:FnOk X.prog X.w X.K X.mg X.base CX0 k f fd ps (spD X.K m))(a:Room k X.A)(j:Gl X x)(b:X.mg x=some (.ref f))(i:PySem.W.keepIn X.K (.ref f)=true)(l:Binds X.K fd ps [])(o:jR X (e::es) g)
  (hd:nDb x:=by decide) (he:starEach (e::es) X.env=(false,eval e X.env)::starEach es X.env:=by rfl) (h:(backTo pos<|starEach es X.env).any (·.1)=false:=by rfl):PDO X (.Call (.Name x p) (e::es) [] pos) (oO m g):=
 (mX F a j b i l .nil mf o hd he h).imp De
end
noncomputable def yj:Option DV->Option DV
 |some (.v d)=>some<|.v d
 |some (.own o _)=>some<|.bor o
 |some (.bor o)=>some<|.bor o
 |_=>none
def jw(own:Nat)(ix:List Nat)(ρ:DF):DF:=List.replicate own none++ix.map λj=>yj (ρ[j]?).join
noncomputable def gf(st:Dq)(c:Dk)(e:Dd)(ρ:DF):List D->Option (List D)
 |[]=>some []
 |d::ds=>(st d ρ).bind λa=>(c a).bind λb=>if b=true then(e a).bind λy=>(gf st c e ρ ds).map λr=>y::r else gf st c e ρ ds
noncomputable def fB(own:Nat)(ix:List Nat)(it:Dl)(st:Dq)(c:Dk)(e:Dd):DF->Option (List D):=
 λa=>(it a).bind λb=>if b.length<=16777216 then gf st c e (jw own ix a) b else none
def iM:DF->Option Bool:=λ_=>some true
def tz{x}(h:(jw own ix ρ)[i]?=some (some x)):own<=i/\∃j y,ix[i-own]?=some j/\ρ[j]?=some (some y)/\yj (some y)=some x:=by
 unfold jw at h;by_cases e:i<own
 ·rw[ZF<|by rwa[YA],Xc,Yh e]at h;cases h
 ·rw[ZB<|by rw[YA];omega,YA,YI]at h;refine⟨by omega,?_⟩;cases q:ix[i-own]? with
  |none=>rw[q]at h;cases h
  |some j=>
   rw[q,ZQ]at h;have a:=Yv h;cases b:ρ[j]? with
   |none=>rw[b]at a;cases a
   |some o=>
    rw[b,Option.join_some]at a;cases o with
    |none=>cases a
    |some y=>exact⟨j,y,rfl,b,a⟩
def zF(hi:own<=i)(h:ix[i-own]?=some j)(hv:σ[j]?=some (some v)):(fu own ix σ)[i]?=some (some v):=by unfold fu;rw[ZB<|by rwa[YA],YA,YI,h,ZQ,hv];rfl
def DInv.cap(I:DInv K P F H ρ σ)own ix:DInv K (gd F H) F H (jw own ix ρ) (fu own ix σ):=by
 refine⟨iI I.sub,?_,λ_=>none,λi x h=>?_⟩
 ·rw[jm];unfold jw;rw[Yb,YA,Yc]
 ·obtain⟨s,j,y,z,f,e⟩:=tz h;obtain⟨v,g,m⟩:=I.at f;refine⟨v,zF s z g,?_⟩;have l:∀o,((∃t,ρ[j]?=some _)\/ρ[j]?=some (some<|.bor o))->DVRep K _ F H (λb=>none=some i) (.bor o) v:=λo p=>by
   obtain⟨a,rfl,e⟩:=I.slot g p;exact⟨a,rfl,e.mono (Same.refl _) λb u q w=>⟨ja.mpr ⟨q,w⟩,trivial⟩⟩
  cases y with
  |v d=>cases e;exact m
  |own o t=>cases e;exact l o<|.inl ⟨t,f⟩
  |bor o=>cases e;exact l o<|.inr f
def BW{g}(B:DInv K G F H (jw own ix ρ) g)(e:Same F F2)(p:DHp G F2 H2):DInv K G F2 H2 (jw own ix ρ) g:=by
 obtain⟨O,h⟩:=B.rep;refine⟨p,B.len,O,λi x l=>?_⟩;obtain⟨v,w,m⟩:=h i x l;refine⟨v,w,?_⟩;cases x with
 |v d=>exact Rep.same e m
 |bor o=>obtain⟨a,rfl,f⟩:=m;exact⟨a,rfl,f.mono e λb u q s=>⟨s,q⟩⟩
 |own o t=>(obtain⟨_,j,y,_,_,f⟩:=tz l;cases y<;>cases f)
section
variable       {own:Nat}  {f:Dl}{st:Dq}{c:Dk}{e:Dd}
theorem CG(his:∀j∈is,j<own):∀σ H Q,tO K (asL (fB own ix f st c e)) σ H Q->Fl own ix (tI K f) (tG K is st) (tB' K c) (tD K e) σ H Q:=λσ H Q=>un7 λP F M ob z I k=>by
 unfold asL at z;cases E:fB own ix f st c e M with
 |none=>rw[E]at z;cases z
 |some out=>
 rw[E]at z;cases z;have z:=E;unfold fB at z;cases q:f M with
 |none=>rw[q]at z;cases z
 |some p=>
  rw[q,Ya]at z;split at z
  rotate_left
  ·cases z
  rename_i hlen;refine⟨P,F,M,p,q,I,λJ o A ev ok g l=>?_⟩;have I1:=I.evo ev;have hp1:=iI I1.sub;have hg:gd o A g=none:=by unfold gd;rwa[I1.sub.free l]
  have B1:=I1.cap own ix;have hP:∀{w R},Same o w->DHp _ w R->DHp P w R:=λs h=>(I1.toDHp.gd s h).hp
  refine⟨λi m ys R=>m=p.length-i/\i<=p.length/\∃w,Same o w/\DHp _ w R/\w g=none/\R g=some (.lst ys)/\ys.length<=i/\∃C,Reps K w ys C/\(gf st c e _<|p.drop i).map (λr=>C++r)=some out,
   ⟨_,rfl,YQ _,o,Same.refl _,(Evo.side hp1 l).hp,I1.sub.free l,aE,Yy _,[],.nil,by rw[List.drop_zero,z];rfl⟩,?_⟩
  rintro i m ys R ⟨rfl,hi,w,se,Z,fa,ha,hy,C,rp,a⟩;obtain⟨ok1,ok2⟩:=ok w R se (hP se Z) i;by_cases hlt:i<p.length
  ·have hd:=Yz hlt;obtain⟨go,yl⟩:=ok1 _ hd;have hdrop:=XE hlt;rw[hdrop]at a;unfold gf at a;cases Y:st p[i] (jw own ix M)with
   |none=>rw[Y]at a;cases a
   |some B=>
    rw[Y,Ya]at a;refine .inr ⟨go,λN H2=>∃U,Same o U/\DHp _ U H2/\U g=none/\H2 g=some _/\N.length<=i+1/\∃S,Reps K U N S/\(gf st c e _ _).map _=some out,
     λN H2 h=>⟨p.length-(i+1),by omega,rfl,hlt,h⟩,λx H2 hyl=>?_⟩
    obtain⟨U,ev2,rx⟩:=yl x H2 hyl;have T:=ev2.change Z;obtain⟨a2,fa2⟩:=T.keep g _ ha fa;have B2:=BW B1 (se.trans ev2.ext) T.hp;refine⟨gd o A,U,jw own ix M,p[i],B,Y,B2,rx,λσ3 F3 H3 ev3 I3 hl3 hσ=>?_⟩;refine⟨⟨?_,λj v hj=>?_⟩,?_⟩
    ·rw[hl3,jm]
    ·rw[hσ]
     ·exact hj
     ·intro hj';obtain⟨ho,_⟩:=pE hj;have:=his j hj';omega
    obtain⟨a3,fa3⟩:=ev3.keep g _ a2 fa2;cases hc:c B with
    |none=>rw[hc]at a;cases a
    |some b=>
     rw[hc,Ya]at a;refine⟨gd o A,F3,B,b,hc,I3,λF4 H4 O=>?_⟩;obtain⟨a4,fa4⟩:=O.keep g _ a3 fa3;have X:=ev2.ext.trans<|ev3.ext.trans O.ext;cases b with
     |false=>
      rw[Yp Ym]at a ⊢;exact⟨F4,se.trans X,O.hp,fa4,a4,by omega,C,rp.same X,a⟩
     |true=>
      rw[Yh rfl]at a ⊢;cases he:e B with
      |none=>rw[he]at a;cases a
      |some y=>
       rw[he,Ya]at a;refine⟨gd o A,F4,B,y,he,I3.evo O,λv F5 H5 L rv=>?_⟩;obtain⟨a5,fa5⟩:=L.keep g _ a4 fa4;have s15:=X.trans L.ext;refine⟨a5,by rw[YL];omega,F5,se.trans s15,⟨λb u h=>by rw[aA<|aS h fa5];exact L.hp.sub b u h,λb u h=>by rw[aA<|aS h hg];exact L.hp.pro b u h,L.hp.dis⟩,fa5,aE,by rw[Yb,YU];omega,C++[y],(rp.same s15).append<|.one rv,?_⟩;cases hmm:gf st c e _ (p.drop<|i+1)with
       |none=>rw[hmm]at a;cases a
       |some r=>
        rw[hmm]at a;simp only[ZQ]at a ⊢;rwa[Yq]
  ·have hz:p.drop i=[]:=List.drop_eq_nil_of_le (by omega);rw[hz]at a;unfold gf at a;rw[ZQ,Yl]at a;cases a;exact .inl ⟨ok2<|by omega,k g w R (ev.trans<|I1.toDHp.gd se Z) ⟨⟨ev.back I.toDHp l,fa⟩,_,ha,rp⟩⟩
def BF(hcalm:X.calm=true)(b:BlkScope X scope)(cp:Caps X scope N own ix)(his:∀j∈is,j<own)(hi:PDI X tg iter f)
  (a:∀s H fp pz,PDG (blk X scope N s H fp pz) tg is st) (i:∀s H fp pz,yp (blk X scope N s H fp pz) ifs<|tB' X.K c) (he:∀s H fp pz,PDE (blk X scope N s H fp pz) elt e)
  (hnames:∀y∈scope.names,y.2=.local->scope.names.lookup y.1=some .local:=by decide)
  (h:FsI iter X:=by intro _;rfl):PDO X (.ListComp elt [⟨tg,iter,ifs,0⟩] scope pos) (asL<|fB own ix f st c e):=
 (C4 (g:=tG X.K is st) (te:=tD X.K e) hcalm b cp hi a i he hnames h).imp<|CG his
end
section
variable  {c:Expr}  
def Hz(n:Nat)(f:Dl):Prop:=∀ρ ds,f ρ=some ds->ds.length=n
def PDL(X:Cx)(es:List Expr)(n:Nat)(f:Dl):Prop:=PDA X es f/\Hz n f
def bA:DF->Option (List D):=λ_=>some []
noncomputable def ao (f:Dd)(g:Dl):DF->Option (List D):=λa=>(f a).bind λd=>(g a).map λr=>d::r
def aO:PDL X [] 0 bA:=⟨PA.imp aZ λe H Q=>un7 λP F a x b I k=>by
 cases b;exact k [] F H (Evo.refl I.toDHp) .nil,λa f h=>by cases h;rfl⟩
def ak{g}(h:PDE X e f)(j:PDL X es n g)(u:starEach (e::es) X.env=(false,eval e X.env)::starEach es X.env:=by rfl):PDL X (e::es) (n+1) (ao f g):=
 ⟨PA.imp (aI h j.1 u) λA H Q=>un7 λP F b B a I k=>by
  unfold ao at a;cases q:f b with
  |none=>rw[q]at a;cases a
  |some d=>
   rw[q,Ya]at a;cases i:g b with
   |none=>rw[i]at a;cases a
   |some y=>
    rw[i]at a;cases a;exact⟨P,F,b,d,q,I,λv z E m s=>⟨P,z,b,y,i,I.evo m,λo x w l p=>k (v::o) x w (m.trans l)<|.cons (s.same l.ext) p⟩⟩,λb C a=>by
  unfold ao at a;cases q:f b with
  |none=>rw[q]at a;cases a
  |some d=>
   rw[q,Ya]at a;cases i:g b with
   |none=>rw[i]at a;cases a
   |some y=>
    rw[i]at a;cases a;rw[Yg,j.2 b y i]⟩
def asT(f:Dl):DF->Option D:=λρ=>(f ρ).map .tup
def cX{x1}{f}(h:PDL X es n f)(l:n<=16777216:=by decide):PDE X (.Tuple es x1 pos) (asT f):=(vm h.1).imp λm H Q=>un7 λP F b d a I k=>by
 unfold asT at a;cases q:f b with
 |none=>rw[q]at a;cases a
 |some j=>
  rw[q]at a;cases a;refine⟨P,F,b,j,q,I,λo u s e g=>⟨by rwa[g.length,h.2 b j q,YL],λp i=>?_⟩⟩;exact k _ _ _ (e.trans<|Evo.laid e.hp i)<|.tup aE<|g.same<|fj (e.hp.free i).1
def bZ{f}(h:PDL X es n f)(l:n<=16777216:=by decide):PDO X (.List es pos) (asL f):=(jW h.1).imp λo H Q=>un7 λP F b ob a I k=>by
 unfold asL at a;cases q:f b with
 |none=>rw[q]at a;cases a
 |some j=>
 rw[q]at a;cases a;refine⟨P,F,b,j,q,I,λs m u e i=>⟨by rwa[i.length,h.2 b j q,YL],λp g=>?_⟩⟩;exact k p m _ (e.trans<|Evo.side e.hp g) ⟨⟨e.back I.toDHp g,(e.hp.free g).1⟩,_,aE,i⟩
def Reps.atI{i}(r:Reps K F vs ds)(h:atI ds i=some d):∃v,atI vs i=some v/\Rep K F v d:=by
 unfold L2.atI at h ⊢;rw[r.length];cases q:ixN ds.length i with
 |none=>rw[q]at h;cases h
 |some j=>
  rw[q,Ya]at h;obtain⟨v,b,a⟩:=r.get h;exact⟨v,b,a⟩
noncomputable def ixD:D->D->Option D
 |.lst ds,.int i=>atI ds i
 |.tup ds,.int i=>atI ds i
 |.str z,.int i=>if z.length<=16777216 then(atI z.cps.toList i).map λc=>.str ⟨#[c]⟩else none
 |_,_=>none
def E8:nY K (rIx K) ixD:=by
 intro P F H s o x y w u d Q h I e b k;unfold ixD at h;split at h
 ·obtain⟨p,a,rfl,l,j⟩:=im I e;obtain⟨v,g,f⟩:=j.atI h;exact .inl ⟨p,a,_,v,rfl,d_ b,l,g,k v F H (Evo.refl I.toDHp) f⟩
 ·obtain⟨p,a,rfl,l,j⟩:=kI I e;obtain⟨v,g,f⟩:=j.atI h;exact .inr<|.inl ⟨p,a,_,v,rfl,d_ b,l,g,k v F H (Evo.refl I.toDHp) f⟩
 ·split at h
  ·rename_i z i m;cases q:atI z.cps.toList i with
   |none=>rw[q]at h;cases h
   |some c=>
    rw[q]at h;cases h;exact .inr<|.inr ⟨z,i,c,k4 e,d_ b,by rwa[YL],q,k _ F H (Evo.refl I.toDHp) .str⟩
  ·cases h
 ·cases h
def bB(f:PDR X a fa)(e:PDR X b fb)(h:rZ b:=by exact λ_ _=>rfl):PDE X (.Subscript a b pos) (d2 ixD fa fb):=(Fk Aa f e h).imp<|sN E8
def HQ:R2:=λx y H Q=>(∃i j,x=.int i/\y=.int j/\Q (.int<|i+j) H)\/∃i j,x=.str i/\y=.str j/\i.length+j.length<=sizeLine/\Q (.str<|i++j) H
def HX(e:PDR X a fa)(h:PDR X b fb):PDE X (.Compare a [.Gt] [b] pos) (d2 gtI fa fb):=Hw Fm (qD λ_ _ _=>.bl) e h<|i5 _
def l5(e:PDR X a fa)(h:PDR X b fb):PDT X (.Compare a [.Gt] [b] pos) (asB (d2 gtI fa fb)):=Er Fm (qD λ_ _ _=>.bl) e h<|i5 _
def fD(f g:Dk):DF->Option Bool:=λa=>(f a).bind λb=>if b=true then g a else some false
def orT(f g:Dk):DF->Option Bool:=λa=>(f a).bind λb=>if b=true then some true else g a
noncomputable def c_(f:Dk):DF->Option Bool:=λρ=>(f ρ).map λb=>!b
def PDW(X:Cx)(e:Expr)(f:Dk):Prop:=PW X e<|tB' X.K f
def PDW.t{f}(h:PDW X e f):PDT X e f:=PW.pt h
def PW.imp{t t'}(h:PW X e t)(i:∀σ H Q,t' σ H Q->t σ H Q):PW X e t':=λw p s σ H Q I q=>h w p s σ H Q I<|i σ H Q q
def gT{f:Dk}(h:PDT X a f):PDW X (.BoolOp .And [a] pos) f:=Es h
def g_{f:Dk}(h:PDT X a f):PDW X (.BoolOp .Or [a] pos) f:=BB h
def jt{aL}{f g:Dk}(m:PDT X a f)(l:PDW X (.BoolOp .And (b::aL) pos) g):PDW X (.BoolOp .And (a::b::aL) pos) (fD f g):=PW.imp (GB m l) λw H Q=>un7 λP F e r h I k=>by
 unfold fD at h;cases q:f e with
 |none=>rw[q]at h;cases h
 |some x=>
  rw[q,Ya]at h;refine⟨P,F,e,x,q,I,λj s i=>?_⟩;cases x with
  |true=>rw[Yh rfl]at h ⊢;exact⟨P,j,e,r,h,I.evo i,λu p o=>k u p<|i.trans o⟩
  |false=>rw[Yp Ym]at h ⊢;cases h;exact k j s i
def gE{aL}{f g:Dk}(m:PDT X a f)(l:PDW X (.BoolOp .Or (b::aL) pos) g):PDW X (.BoolOp .Or (a::b::aL) pos) (orT f g):=PW.imp (E3 m l) λw H Q=>un7 λP F e r h I k=>by
 unfold orT at h;cases q:f e with
 |none=>rw[q]at h;cases h
 |some x=>
  rw[q,Ya]at h;refine⟨P,F,e,x,q,I,λj s i=>?_⟩;cases x with
  |true=>rw[Yh rfl]at h ⊢;cases h;exact k j s i
  |false=>rw[Yp Ym]at h ⊢;exact⟨P,j,e,r,h,I.evo i,λu p o=>k u p<|i.trans o⟩
def ce{f:Dk}(e:PDT X a f):PDT X (.UnaryOp .Not a pos) (c_ f):=(AB e).imp λl H Q=>un7 λP F b r h I k=>by
 unfold c_ at h;cases q:f b with
 |none=>rw[q]at h;cases h
 |some x=>rw[q]at h;cases h;exact⟨P,F,b,x,q,I,λj i g=>k j i g⟩
def km(f g:Dd):DF->Option D:=λa=>match f a with
 |some (.bl true)=>g a
 |some (.bl false)=>some<|.bl false
 |_=>none
def orV(f g:Dd):DF->Option D:=λa=>match f a with
 |some (.bl false)=>g a
 |some (.bl true)=>some<|.bl true
 |_=>none
noncomputable def zQ(f:Dd):DF->Option D:=λa=>match f a with
 |some (.bl b)=>some<|.bl<|!b
 |_=>none
def ji{op}(h:PDE X a f):PDE X (.BoolOp op [a] pos) f:=Hg h
def gC{aL}{g:Dd}(s:PDE X a f)(p:PDE X (.BoolOp .And (b::aL) pos) g):PDE X (.BoolOp .And (a::b::aL) pos) (km f g):=(Hv s p).imp λy H Q=>un7 λP F i r h I k=>by
 unfold km at h;split at h
 ·rename_i q;refine⟨P,F,i,_,q,I,λv l m e j=>?_⟩;cases j;exact⟨true,rfl,by rw[Yh rfl];exact⟨P,l,i,r,h,I.evo e,λv x w u o=>k v x w (e.trans u) o⟩⟩
 ·rename_i q;refine⟨P,F,i,_,q,I,λv l m e j=>?_⟩;cases j;cases h;exact⟨false,rfl,by rw[Yp Ym];exact k _ l m e .bl⟩
 ·cases h
def Ie{aL}{g:Dd}(s:PDE X a f)(p:PDE X (.BoolOp .Or (b::aL) pos) g):PDE X (.BoolOp .Or (a::b::aL) pos) (orV f g):=(IG s p).imp λy H Q=>un7 λP F i r h I k=>by
 unfold orV at h;split at h
 ·rename_i q;refine⟨P,F,i,_,q,I,λv l m e j=>?_⟩;cases j;exact⟨false,rfl,by rw[Yp Ym];exact⟨P,l,i,r,h,I.evo e,λv x w u o=>k v x w (e.trans u) o⟩⟩
 ·rename_i q;refine⟨P,F,i,_,q,I,λv l m e j=>?_⟩;cases j;cases h;exact⟨true,rfl,by rw[Yh rfl];exact k _ l m e .bl⟩
 ·cases h
def Cb(g:PDE X a f):PDE X (.UnaryOp .Not a pos) (zQ f):=(GU g).imp λm H Q=>un7 λP F b r h I k=>by
 unfold zQ at h;split at h
 ·rename_i q;cases h;refine⟨P,F,b,_,q,I,λv l j i e=>?_⟩;cases e;exact⟨_,rfl,k _ l j i .bl⟩
 ·cases h
def ifV(c:Dk)(f g:Dd):DF->Option D:=λa=>(c a).bind λb=>if b=true then f a else g a
def zP{fc:Dk}{g:Dd}(s:PDT X c fc)(w:PDE X a f)(u:PDE X b g):PDE X (.IfExp c a b pos) (ifV fc f g):=(Bs s w u).imp λy H Q=>un7 λP F e r h I k=>by
 unfold ifV at h;cases q:fc e with
 |none=>rw[q]at h;cases h
 |some x=>
  rw[q,Ya]at h;refine⟨P,F,e,x,q,I,λp z i=>?_⟩;cases x with
  |true=>rw[Yh rfl]at h ⊢;exact⟨P,p,e,r,h,I.evo i,λv o m l j=>k v o m (i.trans l) j⟩
  |false=>rw[Yp Ym]at h ⊢;exact⟨P,p,e,r,h,I.evo i,λv o m l j=>k v o m (i.trans l) j⟩
def Is(K:Kq)(r:List V->Hp->VK->Prop)(f:D->Option D):Prop:=
 ∀P F H h g x a d Q,f a=some d->DInv K P F H h g->RepS K H F x a->(∀v e b,Evo P F H e b->Rep K e v d->Q v b)->r [x] H Q
noncomputable def d1 (f:D->Option D)(fa:Dd):DF->Option D:=λa=>(fa a).bind f
def Fs{f}(l:Is K r f):∀σ H Q,tD K (d1 f fa) σ H Q->tCB r (nJ (tR K fa) qN) σ H Q:=λσ H Q=>un7 λP F a d h I k=>by
 unfold d1 at h;cases b:fa a with
 |none=>rw[b]at h;cases h
 |some g=>
  rw[b,Ya]at h;exact⟨P,F,a,g,b,I,λx s p e i=>l P s p a σ x g d Q h (I.evo e) i λv q o m j=>k v q o (e.trans m) j⟩
noncomputable def aK:D->Option D
 |.lst ds=>some<|.int ds.length
 |.tup ds=>some<|.int ds.length
 |.str z=>if z.length<=16777216 then some (.int z.length)else none
 |_=>none
def HW(K:Kq):List V->Hp->VK->Prop:=λx H Q=>(∃p y,x=[.ref p]/\(SqL K H p y\/SqT K H p y)/\Q (.int y.length) H)\/∃z,x=[.str z]/\z.length<=sizeLine/\Q (.int z.length) H
end
mutual
def dL:D->PyData
 |.non=>.none
 |.bl b=>.bool b
 |.int i=>.int i
 |.str x=>.str x
 |.tup xs=>.tuple (eA xs)
 |.lst xs=>.list (eA xs)
 |.dT _=>.none
 |.dK _=>.none
 |.ins _ _=>.none
 |.fn _ _ _=>.none
 |.exn _=>.none
def eA:List D->List PyData
 |[]=>[]
 |d::ds=>dL d::eA ds
end
noncomputable def okN:Nat->D->Bool
 |_,.non=>true
 |_,.bl _=>true
 |_,.int _=>true
 |_,.str x=>PyData.strOk x
 |n+1,.tup xs=>xs.all<|okN n
 |n+1,.lst xs=>xs.all<|okN n
 |_,_=>false
def cz:∀{ds:List D},ds.all (okN n)=true->∀d∈ds,okN n d=true:=λh d a=>YE.mp h d a
theorem eK:∀n d,okN n d=true->(dL d).canLay0=true/\(dL d).depth<=n+1:=by
 intro n;induction n with
 |zero=>
  intro d h;cases d with
  |non=>exact⟨rfl,by simp[dL,PyData.depth]⟩
  |bl b=>exact⟨rfl,by simp[dL,PyData.depth]⟩
  |int b=>exact⟨rfl,by simp[dL,PyData.depth]⟩
  |str b=>exact⟨h,by simp[dL,PyData.depth]⟩
  |_=>cases h
 |succ n ih=>
  have all:∀e:List D,e.all (okN n)=true->PyData.canLayAll0 (eA e)=true/\PyData.depthAll (eA e)<=n+1:=by
   intro e;induction e with
   |nil=>intro _;exact⟨rfl,by simp[eA,PyData.depthAll]⟩
   |cons x r i=>
    intro h;rw[Vz,Yn]at h;obtain⟨a,f⟩:=ih x h.1;obtain⟨g,j⟩:=i h.2;refine⟨?_,?_⟩
    ·show(PyData.canLay0 (dL x)&&PyData.canLayAll0 (eA r))=true;rw[a,g];rfl
    ·show PyData.depthAll (dL x::eA r)<=n+1;simp[PyData.depthAll];omega
  intro d h;cases d with
  |non=>exact⟨rfl,by simp[dL,PyData.depth]⟩
  |bl b=>exact⟨rfl,by simp[dL,PyData.depth]⟩
  |int b=>exact⟨rfl,by simp[dL,PyData.depth]⟩
  |str b=>exact⟨h,by simp[dL,PyData.depth]⟩
  |tup xs=>
   obtain⟨a,f⟩:=all xs h;exact⟨a,by simp[dL,PyData.depth];omega⟩
  |lst xs=>
   obtain⟨a,f⟩:=all xs h;exact⟨a,by simp[dL,PyData.depth];omega⟩
  |_=>cases h
def Reps.readsOf(ih:∀{v}{d}{u},Rep X.K H v d->okN n d=true->RelV v u->∃as,Reads s.heap u (dL d) as)(h:Reps X.K H vs ds):∀us:List Value,(∀d∈ds,okN n d=true)->Vals vs us->∃as,ReadsAll s.heap us (eA ds) as:=
 Reps.ind (M:=λvs ds=>∀us:List Value,(∀d∈ds,okN n d=true)->Vals vs us->∃as,ReadsAll s.heap us (eA ds) as) (λus _ r=>by cases r;exact⟨_,.nil⟩) (λh _ i us a r=>by
  cases r with
  |cons r t=>
   obtain⟨j,e⟩:=ih h (a _ Yf) r;obtain⟨g,b⟩:=i _ (λd f=>a d<|Ye _ f) t;exact⟨_,.cons e b⟩) h
def Rep.reads1(I:Inv X pz σ H s)n(ih:∀m,n=m+1->∀{v}{d}{u},Rep X.K H v d->okN m d=true->RelV v u->∃as,Reads s.heap u (dL d) as)(h:Rep X.K H v d)(a:okN n d=true)(r:RelV v u):∃as,Reads s.heap u (dL d) as:=by
 cases h with
 |non=>cases(show u=Value.none from r);exact⟨_,.none⟩
 |bl=>cases(show u=Value.bool _ from r);exact⟨_,.bool _⟩
 |int=>obtain⟨t,rfl⟩:=(show ∃t,u=Value.int _ t from r);exact⟨_,.int _ _⟩
 |str=>obtain⟨t,rfl⟩:=(show ∃t,u=Value.str _ t from r);exact⟨_,.str _ _⟩
 |tup h q=>
  cases n with
  |zero=>cases a
  |succ m=>
   cases(show u=Value.ref _ from r);obtain⟨i,b,f,_⟩:=I.tuple<|SqT.of h;obtain⟨as,e⟩:=Reps.readsOf (ih m rfl) q _ (cz a) b;have⟨o,l,j,m,g⟩:=f;exact⟨_,.tuple l j g<|by simpa using e⟩
 |lst h q=>
  cases n with
  |zero=>cases a
  |succ m=>
   cases(show u=Value.ref _ from r);obtain⟨i,b,f,_⟩:=I.list h;obtain⟨as,e⟩:=Reps.readsOf (ih m rfl) q _ (cz a) b;have⟨o,m,l,j,_,g⟩:=f;exact⟨_,.list l j g<|by simpa using e⟩
 |_=>cases n<;>cases a
def Rep.reads(I:Inv X pz σ H s)n:∀{v}{d}{u},Rep X.K H v d->okN n d=true->RelV v u->∃as,Reads s.heap u (dL d) as:=by
 induction n with
 |zero=>exact λh a r=>Rep.reads1 I 0 (λm e=>by cases e) h a r
 |succ n ih=>exact λh a r=>Rep.reads1 I (n+1) (λm e=>by cases e;exact ih) h a r
def eqd(x y:D):Bool:=PyData.eqv (dL x)<|dL y
def eqD(x y:D):Option D:=if(okN 30 x&&okN 30 y)=true then some (.bl<|eqd x y)else none
noncomputable def neD(x y:D):Option D:=if(okN 30 x&&okN 30 y)=true then some (.bl<|!eqd x y)else none
def CT(K:Kq)(g:Bool->Bool):R2:=λx y H Q=>∃b a,Rep K H x b/\Rep K H y a/\okN 30 b=true/\okN 30 a=true/\Q (.bl<|g<|eqd b a) H
section
variable  {c:Expr}  
theorem uY(m:X.A.units+64<cLine):OpR X (compareOp .Eq) (CT X.K λb=>b):=by
 intro E s C H x y v u Q I f e h;obtain⟨B,z,w,p,a,o,q⟩:=h;obtain⟨N,i⟩:=w.reads I 30 a f;obtain⟨M,g⟩:=p.reads I 30 o e;obtain⟨j,L⟩:=eK 30 B a;obtain⟨l,J⟩:=eK 30 z o;refine PySem.SeqAt.compareEq_shaped i g ?_ ?_ m ⟨.bl _,H,I,rfl,q⟩
 ·unfold PySem.SeqAt.shaped;rw[j,VA,YF];omega
 ·unfold PySem.SeqAt.shaped;rw[l,VA,YF];omega
def AN(m:X.A.units+64<cLine):OpR X (compareOp .NotEq) (CT X.K λb=>!b):=by
 intro E s C H x y v u Q I f e h;obtain⟨B,z,w,p,a,o,q⟩:=h;obtain⟨N,i⟩:=w.reads I 30 a f;obtain⟨M,g⟩:=p.reads I 30 o e;obtain⟨j,L⟩:=eK 30 B a;obtain⟨l,J⟩:=eK 30 z o;refine PySem.SeqAt.compareNe_shaped i g ?_ ?_ m ⟨.bl _,H,I,rfl,q⟩
 ·unfold PySem.SeqAt.shaped;rw[j,VA,YF];omega
 ·unfold PySem.SeqAt.shaped;rw[l,VA,YF];omega
def uT:OpN2 K (CT K λb=>b) eqD:=by
 intro P F H x y j i d Q a g f e k;unfold eqD at a;split at a
 ·rename_i h;rw[Yn]at h;cases a;exact⟨j,i,f,e,h.1,h.2,k _ F H (Evo.refl g) .bl⟩
 ·cases a
def Ar:OpN2 K (CT K λb=>!b) neD:=by
 intro P F H x y j i d Q a g f e k;unfold neD at a;split at a
 ·rename_i h;rw[Yn]at h;cases a;exact⟨j,i,f,e,h.1,h.2,k _ F H (Evo.refl g) .bl⟩
 ·cases a
def wo(h:X.A.units+64<cLine)(f:PDN X a fa)(e:PDN X b fb):PDE X (.Compare a [.Eq] [b] pos) (d2 eqD fa fb):=Cf (uY h) uT f e<|i5 _
def E4(h:X.A.units+64<cLine)(f:PDN X a fa)(e:PDN X b fb):PDE X (.Compare a [.NotEq] [b] pos) (d2 neD fa fb):=Cf (AN h) Ar f e<|i5 _
def eF(h:X.A.units+64<cLine)(f:PDN X a fa)(e:PDN X b fb):PDT X (.Compare a [.Eq] [b] pos) (asB (d2 eqD fa fb)):=mT (uY h) uT f e<|i5 _
def Ae(h:X.A.units+64<cLine)(f:PDN X a fa)(e:PDN X b fb):PDT X (.Compare a [.NotEq] [b] pos) (asB (d2 neD fa fb)):=mT (AN h) Ar f e<|i5 _
noncomputable def fU:D->Option (List D)
 |.lst ds=>some ds
 |.tup ds=>some ds
 |_=>none
noncomputable def inD(x y:D):Option D:=(fU y).bind λa=>if(okN 30 x&&a.all (okN 29))=true then some (.bl<|a.any λz=>eqd z x)else none
def HA(K:Kq)(g:Bool->Bool):R2:=λx y H Q=>∃a e b,Rep K H x a/\Rep K H y e/\fU e=some b/\okN 30 a=true/\b.all (okN 29)=true/\Q (.bl<|g<|b.any λz=>eqd z a) H
theorem lG x:∀ds:List D,(eA ds).any (λy=>PyData.eqv y (dL x))=ds.any λz=>eqd z x
 |[]=>rfl
 |d::ds=>by
  show((PyData.eqv (dL d)<|dL x)||(eA ds).any _)=_;rw[lG];rfl
theorem F0(O:X.A.units+64<cLine):OpR X (compareOp .In) (HA X.K λb=>b):=by
 intro N s M H x y v u Q I z g h;obtain⟨w,J,a,E,p,f,j,o,q⟩:=h;obtain⟨R,i⟩:=E.reads I 30 j z;obtain⟨m,C⟩:=eK 30 w j;have P:min (PyData.depthAll<|eA a) (dL w).depth<=31:=YW (Nat.min_le_right _ _) C;cases J with
 |lst xs=>
  cases f;obtain⟨L,e⟩:=p.reads I 30 o g;obtain⟨l,B⟩:=eK 30 (.lst a) o;exact PySem.SeqAt.in_list_reads e i l m (by omega) ⟨.bl _,H,I,(by show Value.bool _=Value.bool _;rw[lG]),q⟩
 |tup xs=>
  cases f;obtain⟨L,e⟩:=p.reads I 30 o g;obtain⟨l,B⟩:=eK 30 (.tup a) o;exact PySem.SeqAt.in_tuple_reads e i l m (by omega) ⟨.bl _,H,I,(by show Value.bool _=Value.bool _;rw[lG]),q⟩
 |_=>cases f
def F7:OpN2 K (HA K λb=>b) inD:=by
 intro P F H x y j e d Q a i g f k;unfold inD at a;cases q:fU e with
 |none=>rw[q]at a;cases a
 |some l=>
  rw[q,Ya]at a;split at a
  ·rename_i h;rw[Yn]at h;cases a;exact⟨j,e,l,g,f,q,h.1,h.2,k _ F H (Evo.refl i) .bl⟩
  ·cases a
def E_(h:X.A.units+64<cLine)(g:PDN X a fa)(f:PDN X b fb)(e:behindInMarks .In b=false:=by with_unfolding_all rfl):PDT X (.Compare a [.In] [b] pos) (asB (d2 inD fa fb)):=mT (F0 h) F7 g f e
end
section
variable  {l:Expr} 
noncomputable def me(f:Dd):DF->Option (List D):=λa=>match f a with
 |some (.lst ds)=>some ds
 |_=>none
def Bl(h:me f ρ=some ds):f ρ=some (.lst ds):=by
 unfold me at h;split at h
 ·rename_i q;cases h;exact q
 ·cases h
def qq{a}(h:SqL K F a vs)(r:Reps K F vs ds):DP K P (Itl K a) F ds:=by intro q H e f i;have b:=f.sub.seq<|e.seq h;refine⟨λd o=>?_,λm=>⟨vs,b,by rwa[r.length]⟩⟩;obtain⟨v,g,p⟩:=r.get o;refine⟨⟨vs,v,b,g⟩,λx s j=>?_⟩;obtain⟨rfl,l⟩:=j;have:=l vs b;rw[g]at this;cases this;exact⟨q,Evo.refl f,p.same e⟩
def qI(h:PDE X l f):PDI X tg l (me f):=PI.imp (wv h) λm H R=>un7 λP F a o g I k=>by
 refine⟨P,F,a,_,Bl g,I,λv j i e b=>?_⟩;cases b with
 |lst h1 h2=>exact⟨_,rfl,⟨_,e.hp.sub.seq h1⟩,k _ j i e<|qq h1 h2⟩
noncomputable def i9(i:Nat):DF->Option (List D):=λa=>match a[i]? with
 |some (some<|.bor<|.lst ds)=>some ds
 |some (some<|.v<|.lst ds)=>some ds
 |_=>none
def Aw{a}(h:P a=some (.lst vs))(r:Reps K F vs ds):DP K P (Itl K a) F ds:=by intro q H e f i;have b:SqL K H a vs:=SqL.of<|f.pro _ _ h;refine⟨λd o=>?_,λm=>⟨vs,b,by rwa[r.length]⟩⟩;obtain⟨v,g,p⟩:=r.get o;refine⟨⟨vs,v,b,g⟩,λx s j=>?_⟩;have⟨rfl,l⟩:=j;have:=l vs b;rw[g]at this;cases this;exact⟨q,Evo.refl f,p.same e⟩
def DT i(h:PE X l (cB i)):PDI X tg l (i9 i):=PI.imp (wv h) λo H R=>un7 λP F p s b I k=>by
 unfold i9 at b;split at b
 ·rename_i j q;cases b;obtain⟨v,g,a,rfl,_,u,e,f⟩:=I.at q;cases u with
  |lst vs=>exact⟨_,g,a,rfl,⟨vs,SqL.of<|I.pro _ _ e⟩,k _ F H (Evo.refl I.toDHp)<|Aw e f⟩
  |_=>exact f.elim
 ·rename_i j q;cases b;obtain⟨v,g,m⟩:=I.at q;cases m with
  |lst e f=>exact⟨_,g,_,rfl,⟨_,I.sub.seq e⟩,k _ F H (Evo.refl I.toDHp)<|qq e f⟩
 ·cases b
def iw(lo:Int)(n:Nat):List D:=(List.range n).map λi:Nat=>.int<|lo+i
def vj{lo}(h:(iw lo n)[i]?=some d):i<n/\d=.int (lo+i):=by
 unfold iw at h;rw[YI]at h;by_cases a:i<n
 ·rw[List.getElem?_range a,ZQ]at h;cases h;exact⟨a,rfl⟩
 ·rw[Vh<|by rw[XZ];omega]at h;cases h
def vO lo n:(iw lo n).length=n:=by unfold iw;rw[Yc,XZ]
def vT lo n:DP K P (Itr lo n) F (iw lo n):=by intro j l e b i;refine⟨λd g=>?_,λh=>by rwa[vO]at h⟩;obtain⟨f,rfl⟩:=vj g;refine⟨f,λx H a=>?_⟩;obtain⟨rfl,rfl⟩:=a;exact⟨j,Evo.refl b,.int⟩
noncomputable def ol(f:Dd):DF->Option (List D):=λa=>match f a with
 |some (.int j)=>if -(2^62)<=j/\j<2^62 then some (iw 0 j.toNat)else none
 |_=>none
def f_(m:Gl X "range")(l:X.mg "range"=none)(o:PDR X a f)(b:starEach [a] X.env=[(false,eval a X.env)]:=by rfl):PDI X tg (.Call (.Name "range" p) [a] [] pos) (ol f):=
 PI.imp (yO m l (aI o aZ b) b) λx H R=>un7 λP F g y h I k=>by
  unfold ol at h;split at h
  ·rename_i j q;split at h
   ·rename_i e;cases h;refine⟨P,F,g,_,q,I,λv w u s i=>⟨j,by rw[d_ i],e.1,e.2,k _ w u s<|vT 0 _⟩⟩
   ·cases h
  ·cases h
noncomputable def wZ:List Nat->List D->DF->Option DF
 |[],[],ρ=>some ρ
 |i::is,d::ds,ρ=>wZ is ds<|ρ.set i<|some<|.v d
 |_,_,_=>none
def j9(is:List Nat)(d:D)(ρ:DF):Option DF:=match d with
 |.tup ds=>wZ is ds ρ
 |_=>none
def uZ:List Nat->TGs
 |[]=>Jf
 |i::is=>EX (pG i)<|uZ is
theorem pw{Q}:∀is vs ds ρ ρ' σ,Reps K F vs ds->wZ is ds ρ=some ρ'->DInv K P F H ρ σ->
  (∀a,DInv K P F H ρ' a->a.length=σ.length->(∀j,j∉is->a[j]?=σ[j]?)->Q a H)->uZ is vs σ H Q
 |[],vs,ds,ρ,ρ',σ,r,hs,I,k=>by
  cases r with
  |nil=>cases hs;exact⟨rfl,k σ I rfl λ_ _=>rfl⟩
  |cons _ _=>cases hs
 |i::is,vs,ds,ρ,ρ',σ,r,hs,I,k=>by
  cases r with
  |nil=>cases hs
  |cons h q=>
   refine⟨_,_,rfl,pw is _ _ _ ρ' _ q hs (I.setV i h) λa g e f=>k a g (by rw[e,Zf]) λj b=>?_⟩;rw[f j λz=>b<|Ye _ z,YR λz=>b<|by rw[z];exact Yf]
theorem pV:∀is ds ρ ρ',wZ is ds ρ=some ρ'->ds.length=is.length
 |[],[],_,_,_=>rfl
 |[],_::_,_,_,h=>by cases h
 |_::_,[],_,_,h=>by cases h
 |i::is,d::ds,ρ,ρ',h=>by rw[Yg,Yg,pV is ds _ _ h]
def kQ{k}(q:X.calm=true)(h:PGs X es (uZ is))(m:(assignEach es X.env).length=is.length:=by rfl)(e:(assignEach es X.env).findIdx? (·.1)=none:=by rfl):PDG X (.Tuple es k pos) is (j9 is):=
 PG.imp (FH q h m e) λv j H Q g=>by
  obtain⟨P,F,i,d,a,f,I,r,l⟩:=g;cases d with
  |tup ds=>
   cases r with
   |tup h1 h2=>
    exact⟨_,_,rfl,SqT.of<|I.sub _ _ h1,by rw[h2.length];exact pV is ds i a f,pw is _ ds i a j h2 f I λb s o p=>l b F H (Evo.refl I.toDHp) s o p⟩
  |_=>cases f
noncomputable def wY(is:List Nat)(f:Dd):DF->Option RES:=λa=>(f a).bind λd=>(j9 is d a).map .nx
def Du(p:PDG X (.Tuple es k pos') is (j9 is))(he:PDE X e f)(o:swapsWithSole [.Tuple es k pos'] e pos.line X.env=pure false:=by rfl)(hw:swappedStores [.Tuple es k pos'] e X.env=pure none:=by rfl)
  (h1:(assignEach [.Tuple es k pos'] X.env).map (·.2)=[assign (.Tuple es k pos') X.env]:=by rfl):PD1 X (.Assign [.Tuple es k pos'] e pos) (wY is f):=PS.imp (BR he p o hw h1) λE z H=>un7 λP F a r h I m=>by
 unfold wY at h;cases q:f a with
 |none=>rw[q]at h;cases h
 |some d=>
  rw[q,Ya]at h;cases i:j9 is d a with
  |none=>rw[i]at h;cases h
  |some g=>
   rw[i]at h;cases h;exact⟨P,F,a,d,q,I,λv y A j l=>⟨P,y,a,d,g,i,I.evo j,l,λb x w s u _ _=>m b x w (j.ext.trans s.ext) u⟩⟩
end
def DInv.mut(I:DInv K P F H ρ σ){o}{a}{u}(h:ρ[i]?=some (some (.own o t)))(M:o.flat=true)(p:o'.flat=true)(A:σ[i]?=some (some (.ref a)))(J:ORep1 K F o' u) :
  DInv K P F (upd H a u) (ρ.set i<|some<|.own o' t) σ:=by
 obtain⟨O,B⟩:=I.rep;obtain⟨v,C,b,rfl,Q,E⟩:=B i _ h;rw[A]at C;cases C;obtain⟨⟨y,x,f⟩,U,X,_⟩:=(ORep.flat M).mp Q;refine⟨⟨λc w e=>by rw[aA<|aS e y];exact I.sub c w e,λc w e=>by rw[aA<|aS e x];exact I.pro c w e,I.dis⟩,by rw[Zf];exact I.len,O,λj z L=>?_⟩;rcases gx L with⟨rfl,e,Y⟩|⟨m,l⟩
 ·cases e;exact⟨_,A,a,rfl,(ORep.flat p).mpr ⟨⟨y,x,f⟩,u,aE,J⟩,E⟩
 ·obtain⟨w,S,s⟩:=B j z l;refine⟨w,S,?_⟩;cases z with
  |v d'=>exact s
  |own od t'=>(obtain⟨c,rfl,R,g⟩:=s;exact⟨c,rfl,R.mono (Same.refl _) λb T q N=>⟨by rwa[aA λz=>by subst z;rw[q.2.2]at f;exact m (Yv f).symm],q⟩,g⟩)
  |bor od=>exact s
noncomputable def dU(i:Nat)(f:Dd):DF->Option RES:=λa=>match a[i]? with
 |some (some<|.own (.lst ds) t)=>(f a).bind λd=>if ds.length<16777216 then some (.nx<|a.set i<|some<|.own (.lst<|ds++[d]) t)else none
 |_=>none
def jf(I:DInv K P F H ρ σ)(q:ρ[i]?=some (some (.own (.lst ds) t))):∃a vs,σ[i]?=some (some (.ref a))/\F a=none/\P a=none/\H a=some (.lst vs)/\Reps K F vs ds:=by
 obtain⟨v,h,a,rfl,⟨⟨g,f,_⟩,u,e,b⟩,_⟩:=I.at q;cases u with
 |lst vs=>exact⟨a,vs,h,g,f,e,b⟩
 |_=>exact b.elim
def b7 i(h:PE X o (cB i))(N:PDE X e f)(j:attributeBase o "append" X.env (eval o X.env)=eval o X.env:=by rfl)
  (l:((backTo cpos<|starEach [e] X.env).all (λx=>!x.1)&&(backToKw cpos<|keywordEach [] X.env).all (λx=>x.1.isSome)
   && decide (([e]).length+([]:List Keyword).length+(if([]:List Keyword).isEmpty then 0 else 1)<30))=true:=by rfl)
  (g:(apos.endLine == cpos.line)=true:=by rfl) (z:starEach [e] X.env=[(false,eval e X.env)]:=by rfl) (s:swapsWith (.Call (.Attribute o "append" apos) [e] [] cpos) none pos.line X.env=pure false:=by rfl) :
  PD1 X (.Expr (.Call (.Attribute o "append" apos) [e] [] cpos) pos) (dU i f):=
 PS.imp (dB (jJ YY Zu ZI fK h (aI N aZ z) j l g z rfl) s) λE J H=>un7 λP F w r b I k=>by
  unfold dU at b;split at b
  ·rename_i U t q;cases p:f w with
   |none=>rw[p]at b;cases b
   |some d=>
    rw[p,Ya]at b;split at b
    ·rename_i M;cases b;obtain⟨a,y,C,O,T,B,A⟩:=jf I q;refine⟨_,C,.inl ⟨rfl,y,SqL.of B⟩,P,F,w,d,p,I,λv R Y m K=>?_⟩;obtain⟨L,S⟩:=m.keep a _ B O;have Q:=I.evo m;refine⟨a,y,v,rfl,rfl,L,by rwa[YL,A.length],k J R _ m.ext ?_⟩;exact Q.mut q rfl rfl C<|(A.same m.ext).append<|.one K
    ·cases b
  ·cases b
noncomputable def nW(i:Nat)(f g:Dd):DF->Option RES:=λa=>match a[i]? with
 |some (some<|.own (.lst ds) t)=>(g a).bind λd=>(f a).bind λ
  |.int k=>(ixN ds.length k).map λj=>.nx<|a.set i<|some<|.own (.lst<|ds.set j d) t
  |_=>none
 |_=>none
def uE i{ix}{g:Dd}(h:PE X o (cB i))(R:PDE X ix f)(Q:PDE X e g)
  (S:∀v,assign (.Subscript o ix apos) X.env v=(do
   let p <-holding [v]<|eval o X.env
   let z <-holding [v,p]<|eval ix X.env
   standAt apos
   holding [v,p,z]<|setItem p z v
   release [v,p,z] []):=by intro _;rfl) (O:swapsWithSole [.Subscript o ix apos] e pos.line X.env=pure false:=by rfl) (hw:swappedStores [.Subscript o ix apos] e X.env=pure none:=by rfl)
  (h1:(assignEach [.Subscript o ix apos] X.env).map (·.2)=[assign (.Subscript o ix apos) X.env]:=by rfl) :
  PD1 X (.Assign [.Subscript o ix apos] e pos) (nW i f g):=
 PS.imp (BR Q (FQ h R zG S) O hw h1) λE J H=>un7 λP F m r b I k=>by
  unfold nW at b;split at b
  ·rename_i Y t q;cases y:g m with
   |none=>rw[y]at b;cases b
   |some d=>
    rw[y,Ya]at b;cases x:f m with
    |none=>rw[x]at b;cases b
    |some Z=>
     rw[x,Ya]at b;cases Z with
     |int kk=>
      dsimp only at b;cases s:ixN Y.length kk with
      |none=>rw[s]at b;cases b
      |some j=>
       rw[s]at b;cases b;obtain⟨a,K,h1,U,h3,T,A⟩:=jf I q;refine⟨P,F,m,d,y,I,λv F1 H1 C M=>⟨_,h1,P,F1,m,_,x,I.evo C,λw F2 H2 B L=>?_⟩⟩;cases L;have l:=C.trans B;obtain⟨N,k2⟩:=l.keep a _ T U;refine⟨a,K,kk,j,rfl,rfl,N,by rwa[A.length],k J F2 _ l.ext ?_⟩;exact(I.evo l).mut q rfl rfl h1<|(A.same l.ext).set (M.same B.ext) j
     |_=>cases b
  ·cases b
mutual
def ltD:D->D->Bool
 |.int i,.int j=>decide (i<j)
 |.bl a,.bl b=>!a&&b
 |.str x,.str y=>decide (x.cps.toList<y.cps.toList)
 |.tup xs,.tup ys=>cE xs ys
 |_,_=>false
def cE:List D->List D->Bool
 |[],[]=>false
 |[],_::_=>true
 |_::_,[]=>false
 |x::xs,y::ys=>if eqd x y=true then cE xs ys else ltD x y
end
mutual
def aF:D->D->Bool
 |.int _,.int _=>true
 |.bl _,.bl _=>true
 |.str _,.str _=>true
 |.tup xs,.tup ys=>b5 xs ys
 |_,_=>false
def b5:List D->List D->Bool
 |x::xs,y::ys=>aF x y&&b5 xs ys
 |_,_=>true
end
def zV(A:Around)(s:Shared)(y x:Value)(b:Bool):Prop:=
 ∀p w (E:Kv) (Q:Kv),Q (.bool b) s->wpAny (model p w) A (richCompare .Lt y x) Q E s
inductive LexOk (A:Around) (s:Shared):List Value->List Value->List D->List D->Prop
 |nl {ws:List Value}{es:List D}:ws.length=es.length->LexOk A s [] ws [] es
 |nr {vs:List Value}{ds:List D}:vs.length=ds.length->LexOk A s vs [] ds []
 |cons {v w:Value}{d e:D}{vs ws:List Value}{ds es:List D}:SeqAt.EqAt A s v w (eqd d e)->(eqd d e=false->zV A s v w (ltD d e))->LexOk A s vs ws ds es->LexOk A s (v::vs) (w::ws) (d::ds) (e::es)
def LexOk.len{vs w}{es}(h:LexOk A s vs w ds es):vs.length=ds.length/\w.length=es.length:=by
 induction h with
 |nl h=>exact⟨rfl,h⟩
 |nr h=>exact⟨h,rfl⟩
 |cons _ _ _ ih=>exact⟨YH Nat.succ ih.1,YH Nat.succ ih.2⟩
section
open PySem.SeqAt
open PySem.AutoSeq1 (wpAny_loadPart')
open PySem.MeetsSeq PySem.MeetsSeq2 PySem.MeetsSeq3
theorem qE(l b:Addr)(i fP:Array Value)(n n2:Nat)(dd X:Option Addr)(sl O:Array (Option Value))(ds es:List D) :
  Meets (Builtin.«tuple.__lt__» ⟨[.ref l,.ref b],[]⟩)
   (λA R s=>LexOk A.in1 s i.toList fP.toList ds es/\s.heap.get? l=some {cls:=.type "tuple",dict:=dd,data:=.seq i n,slots:=sl}/\s.heap.get? b=some {cls:=.type "tuple",dict:=X,data:=.seq fP n2,slots:=O} /\
    R (.ok (.ret (.bool (cE ds es)))) s):=
 .of_wp λp w A R s h=>by
  obtain⟨H,g,d,C,E⟩:=s;obtain⟨j,hl,hb,h⟩:=h;have f2:=AutoSeq1.sub_tuple_tuple;have z1:i.size=ds.length:=by rw[<-j.len.1];simp
  have z2:fP.size=es.length:=by rw[<-j.len.2];simp
  wp_walk using Xn hl,Xn hb,wpAny_forIn_list _ (λaL b P=>b.1=none/\P=⟨H,g,d,C,E⟩/\∃(N M:List Value) (f e:List D),aL=N.zip M /\
   LexOk A.in1 ⟨H,g,d,C,E⟩ N M f e/\f.length+fP.size=e.length+i.size/\R (.ok (.ret (.bool (cE f e)))) ⟨H,g,d,C,E⟩) _
  case turn=>
   rintro⟨y,x⟩ aL b P ⟨o,rfl,N,M,f,e,m,S,a,B⟩;cases S with
   |nl _=>rw[List.zip_nil_left]at m;cases m
   |nr _=>rw[List.zip_nil_right]at m;cases m
   |@cons v w' L J Z Y K I he U Q=>
    rw[Vu]at m;injection m with hyx hrest;injection hyx with hy hxx;subst hy hxx;simp only[Yg]at a;refine Yr (he p w _ _ ?_);cases q:eqd L J with
    |true=>
     have z:R (.ok (.ret (.bool (cE K I)))) ⟨H,g,d,C,E⟩:=by rw[cE,Yh q]at B;exact B
     wp_walk
     exact⟨rfl,rfl,_,_,_,_,hrest,Q,by omega,z⟩
    |false=>
     have z:R (.ok (.ret (.bool (ltD L J)))) ⟨H,g,d,C,E⟩:=by rw[cE,Yp (by rw[q];exact Ym)]at B;exact B
     have T:=U q p w
     wp_walk using T
     exact⟨_,rfl,by simpa using z⟩
  case fin=>
   rintro⟨b1,b2⟩ P ⟨o,rfl,N,M,f,e,m,S,a,B⟩;simp only at o;subst o;have hv:cE f e=decide (i.size<fP.size):=by
    cases S with
    |nl hw=>
     cases e with
     |nil=>
      simp only[Zc]at a;rw[show cE [] []=false by simp[cE]];exact(Yi (by omega)).symm
     |cons c u=>
      simp only[Zc,Yg]at a;rw[show cE [] (c::u)=true by simp[cE]];exact(Yk (by omega)).symm
    |nr hw=>
     cases f with
     |nil=>
      simp only[Zc]at a;rw[show cE [] []=false by simp[cE]];exact(Yi (by omega)).symm
     |cons c u=>
      simp only[Zc,Yg]at a;rw[show cE (c::u) []=false by simp[cE]];exact(Yi (by omega)).symm
    |cons _ _ _=>
     rw[Vu]at m;cases m
   rw[hv]at B
   wp_walk
   exact⟨_,rfl,by simpa[Builtin.Tuple.tupleCompareSizes]using B⟩
  case h=>
   exact⟨rfl,rfl,i.toList,fP.toList,ds,es,rfl,j,by omega,h⟩
end
def yJ{l b}{i fP}{es}(H:IsTup s.heap l i)(I:IsTup s.heap b fP)(hx:LexOk A.in1 s i.toList fP.toList ds es)(C:A.units<cLine) :
  zV A s (.ref l) (.ref b) (cE ds es):=by
 intro p w E Q h;obtain⟨⟨K,J,y,B⟩,o,u,n,q⟩:=id H;obtain⟨⟨z,j,m,g⟩,a,f,n2,e⟩:=id I;simp at u q f e;subst u q f e;exact richCompare_meets_room ⟨_,o,rfl⟩ ⟨_,a,rfl⟩ PySem.F.slot_tuple_lt PySem.F.entry_tuple_lt (PySem.F.args_tuple_lt_2 _ _) (qE l b i fP n n2 J j B g ds es)
  ⟨hx,o,a,show Value.bool _≠Value.notImplemented/\Q _ s from⟨(λx=>nomatch x),h⟩⟩ C
def kD:D->Bool
 |.tup _=>true
 |_=>false
def Rep.ltS A{x y}{d e}{w}(h1:Rep X.K H x d)(h2:Rep X.K H y e)(c:aF d e=true)(hd:kD d=false)(f:RelV x u)(b:RelV y w):zV A s u w (ltD d e):=by
 cases d with
 |int i=>
  cases e with
  |int j=>
   cases h1;cases h2;obtain⟨t,rfl⟩:=(show ∃t,u=Value.int _ t from f)
   obtain⟨g,rfl⟩:=(show ∃t,w=Value.int _ t from b)
   intro p a E Q h;exact HT.rcLt_int A s _ _ _ _ p a E Q<|by rwa[ltD]at h
  |_=>exact absurd c Ym
 |bl b1=>
  cases e with
  |bl b2=>
   cases h1;cases h2;cases(show u=Value.bool _ from f);cases(show w=Value.bool _ from b);intro p a E Q h;exact(PyProof.Rows.lt_bool<|by cases b1<;>cases b2<;>(rwa[ltD]at h))
  |_=>exact absurd c Ym
 |str x1=>
  cases e with
  |str x2=>
   cases h1;cases h2;obtain⟨t,rfl⟩:=(show ∃t,u=Value.str _ t from f)
   obtain⟨g,rfl⟩:=(show ∃t,w=Value.str _ t from b)
   intro p a E Q h;exact(PyProof.Rows.lt_str<|by rwa[ltD]at h)
  |_=>exact absurd c Ym
 |tup xs=>cases hd
 |_=>exact absurd c Ym
theorem Reps.lex(I:Inv X pz σ H s)n A(S:A.units+n+2<cLine)
  (ih:∀{x y}{d e}{u w},Rep X.K H x d->Rep X.K H y e->okN n d=true->okN n e=true->aF d e=true->RelV x u->RelV y w->zV A s u w (ltD d e)) :
  ∀{xs ys}{ds es}{us a},Reps X.K H xs ds->Reps X.K H ys es->(∀d∈ds,okN n d=true)->(∀d∈es,okN n d=true)->b5 ds es=true->Vals xs us->Vals ys a->LexOk A s us a ds es:=by
 intro xs ys ds;induction ds generalizing xs ys with
 |nil=>
  intro es us a i g _ _ _ f b;cases i;cases f;exact .nl<|by rw[<-b.length,g.length]
 |cons d ds j=>
  intro es us a i g B z c f b;cases es with
  |nil=>
   cases g;cases b;exact .nr<|by rw[<-f.length,i.length]
  |cons e es=>
   cases i with
   |cons h q=>
    cases g with
    |cons C J=>
     cases f with
     |cons r t=>
      cases b with
      |cons p E=>
       rw[b5,Yn]at c;have o:=B _ Yf;have m:=z _ Yf;obtain⟨Q,M⟩:=h.reads I n o r;obtain⟨x2,L⟩:=C.reads I n m p;obtain⟨P,N⟩:=eK n _ o;obtain⟨O,R⟩:=eK n _ m;refine .cons (PySem.SeqAt.eqAt_reads _ _ A s _ _ _ _ M L P O ?_) (λ_=>ih h C o m c.1 r p)<|j q J (λd l=>B d<|Ye _ l) (λd l=>z d<|Ye _ l) c.2 t E;have:min (dL d).depth (dL e).depth<=n+1:=YW (Nat.min_le_left _ _) N;omega
theorem Rep.lt(I:Inv X pz σ H s):∀n A,A.units+n+2<cLine->∀{x y}{d e}{u w},Rep X.K H x d->Rep X.K H y e->okN n d=true->okN n e=true->aF d e=true->RelV x u->RelV y w->zV A s u w (ltD d e):=by
 intro n;induction n with
 |zero=>
  intro A E x y d e u w a h o q c g f;refine a.ltS A h c ?_ g f;cases d<;>first|rfl|(simp[okN]at o)
 |succ n l=>
  intro A E x y d e u w a h o q c g f;cases C:kD d with
  |false=>exact a.ltS A h c C g f
  |true=>
   cases d with
   |tup ds=>
    cases e with
    |tup es=>
     cases a with
     |tup a q1=>
      cases h with
      |tup h q2=>
       cases(show u=Value.ref _ from g);cases(show w=Value.ref _ from f);have⟨B,j,p,_⟩:=I.tuple<|SqT.of a;have⟨z,i,m,_⟩:=I.tuple<|SqT.of h;rw[ltD];have b:A.in1.units+n+2<cLine:=by show A.units+1+n+2<cLine;omega
       exact yJ p m (Reps.lex I n A.in1 b (l A.in1 b) q1 q2 (cz o) (cz q) (by rwa[aF]at c) j i)<|by omega
    |_=>exact absurd c Ym
   |_=>cases C
noncomputable def ltd(x y:D):Option D:=if(okN 30 x&&okN 30 y&&aF x y)=true then some (.bl<|ltD x y)else none
def Ir(K:Kq):R2:=λx y H Q=>∃b a,Rep K H x b/\Rep K H y a/\okN 30 b=true/\okN 30 a=true/\aF b a=true/\Q (.bl<|ltD b a) H
theorem Hc(j:X.A.units+64<cLine):OpR X (compareOp .Lt) (Ir X.K):=by intro p s i H x y v u Q I b a h;obtain⟨m,l,g,f,e,o,c,q⟩:=h;exact Rep.lt I 30 X.A (by omega) g f e o c b a X.prog X.w X.xe _ ⟨.bl _,H,I,rfl,q⟩
def Gy:OpN2 K (Ir K) ltd:=by
 intro P F H x y i g d Q a f e b k;unfold ltd at a;split at a
 ·rename_i h;rw[Yn,Yn]at h;cases a;exact⟨i,g,e,b,h.1.1,h.1.2,h.2,k _ F H (Evo.refl f) .bl⟩
 ·cases a
def iN(h:X.A.units+64<cLine)(f:PDN X a fa)(e:PDN X b fb):PDT X (.Compare a [.Lt] [b] pos) (asB (d2 ltd fa fb)):=mT (Hc h) Gy f e<|i5 _
end L2
namespace L2
open PySem PySem.Spec PyProof.Rows PySem.W
def kok(n:Nat)(lt:Nat->Nat->Bool):KasT α->(α->Prop)->Prop
 |.ret a,Q=>Q a
 |.ask i j k,Q=>i<n/\j<n/\kok n lt (k<|lt i j) Q
def je{α b}{f}{Q:b->Prop}(t:KasT α):kok n lt t (λa=>kok n lt (f a) Q)->kok n lt (t.bind f) Q:=by
 induction t with
 |ret a=>exact λh=>h
 |ask i j k ih=>exact λh=>⟨h.1,h.2.1,ih _ h.2.2⟩
def eE{Q b}(e:∀a,Q a->b a)(t:KasT α):kok n lt t Q->kok n lt t b:=by
 induction t with
 |ret a=>exact e a
 |ask i j k ih=>exact λh=>⟨h.1,h.2.1,ih _ h.2.2⟩
def G4{b}{Q}{G}(e:∀i j C,i<n->j<n->C (lt i j) s->b i j C s)(f:∀a,Q a->G a s)(t:KasT α):kok n lt t Q->t.kasWp b G s:=by
 induction t with
 |ret a=>exact f a
 |ask i j k ih=>exact λh=>e i j _ h.1 h.2.1<|ih _ h.2.2
structure Ord (lt:Nat->Nat->Bool):Prop where
 asym:∀i j,lt i j=true->lt j i=false
 trans:∀i j k,lt j i=false->lt k j=false->lt k i=false
section
variable{n:Nat}{lt:Nat->Nat->Bool}
structure PermN (n:Nat) (p:Array Nat):Prop where
 size:p.size=n
 perm:p.toList.Perm (List.range n)
def PermN.bd{p}(h:PermN n p)(hi:i<n):p.getD i 0<n:=by
 have a:i<p.size:=by rwa[h.size]
 have e:p.getD i 0=p[i]:=by simp[Array.getD,a]
 rw[e];have b:p[i]∈p.toList:=by simp
 exact Zq.mp<|h.perm.mem_iff.mp b
def PermN.rev{p}(h:PermN n p)i j:PermN n (kas_rev p i j):=
 ⟨by unfold kas_rev;rw[mirror_size,h.size],((Array.perm_iff_toList_perm.mp<|mirror_perm _ _ _ _).trans h.perm)⟩
def PermN.bub{p}(h:PermN n p)i j:PermN n (bubble p i j):=
 ⟨by rw[bubble_size,h.size],((Array.perm_iff_toList_perm.mp<|bubble_perm _ _ _).trans h.perm)⟩
def kS{p q:Array Nat}(h:p[i]?=q[j]?):p.getD i 0=q.getD j 0:=by simp[Xo,h]
def gj{p}(h:PermN n p)(a:j<=n)k:(kas_rev p i j).getD k 0=if i<=k/\k<j then p.getD (i+j-1-k) 0 else p.getD k 0:=by
 have e:=getElem?_mirror_all (i:=i) (by rwa[h.size]) k;unfold kas_rev;split
 ·rename_i q;rw[Yh q]at e;exact kS e
 ·rename_i q;rw[Yp q]at e;exact kS e
def Ris(lt:Nat->Nat->Bool)(p:Array Nat)(b:Nat):Prop:=∀i j,i<=j->j<b->lt (p.getD j 0) (p.getD i 0)=false
def Fal(lt:Nat->Nat->Bool)(p:Array Nat)(b:Nat):Prop:=∀i j,i<=j->j<b->lt (p.getD i 0) (p.getD j 0)=false
def Eqs(lt:Nat->Nat->Bool)(p:Array Nat)(a b:Nat):Prop:=∀i j,a<=i->i<b->a<=j->j<b->lt (p.getD i 0) (p.getD j 0)=false
def Ord.irr(o:Ord lt)i:lt i i=false:=by
 cases q:lt i i with
 |false=>rfl
 |true=>have:=o.asym i i q;rw[q]at this;cases this
theorem mr{a b}(h:a<=i/\i<b):a<=a+b-1-i/\a+b-1-i<b:=by omega
def AY(o:Ord lt){p}(w:PermN n p):∀f k,1<=k->k+f<=n->Ris lt p k->kok n lt (kas_asc p f k) (λm=>k<=m/\m<=k+f/\Ris lt p m/\(m=k+f\/lt (p.getD m 0) (p.getD (m-1) 0)=true)):=by
 intro f;induction f with
 |zero=>exact λk _ _ a=>⟨Yy _,Yy _,a,.inl rfl⟩
 |succ f ih=>
  intro k z x a;have s:=Ys (XQ<|Nat.succ_pos f) x;have u:=VB z Nat.one_pos;have q:=Zk k 1 f;unfold kas_asc;refine⟨w.bd s,w.bd<|ZA u s,?_⟩;cases c:lt _ (p.getD (k-1) 0)with
  |true=>
   (try dsimp only);rw[Yh rfl]
   exact⟨Yy _,Nat.le_add_right _ _,a,.inr c⟩
  |false=>
   (try dsimp only);rw[Yp Ym]
   refine eE (λm h=>⟨Va h.1,YW h.2.1<|ZP q,h.2.2.1,h.2.2.2.imp (λe=>e.trans q) id⟩) _<|ih (k+1) (ZG 1 k) (YW (ZP q) x) λi j l y=>?_;by_cases b:j<k
   ·exact a i j l b
   ·have:j=k:=Zm (Zv y)<|ZL b;subst this;by_cases g:i=j
    ·subst g;exact o.irr _
    ·exact o.trans _ _ _ (a i (j-1) (ZW<|Zw l g) u) c
def wm{p}(m:PermN n p){a b}(s:b<=n)(he:Eqs lt p a b)(o:Ord lt)(q:Fal lt p b):Fal lt (kas_rev p a b) b:=by
 intro i j e g;rw[gj m s,gj m s];by_cases f:a<=i/\i<b
 ·rw[Yh f];have h:a<=j/\j<b:=⟨YW f.1 e,g⟩
  rw[Yh h];exact he _ _ (mr f).1 (mr f).2 (mr h).1 (mr h).2
 ·rw[Yp f];have l:=Nat.lt_of_not_le λz=>f ⟨z,YS e g⟩
  by_cases h:a<=j/\j<b
  ·rw[Yh h];exact q _ _ (YW (Zz l) (mr h).1) (mr h).2
  ·rw[Yp h];exact q i j e g
def ng(o:Ord lt){p'}(h1:1<=k)(e:Fal lt p' k)(g:lt (p'.getD (k-1) 0) (p'.getD k 0)=false):Fal lt p' (k+1):=by
 intro i j b f;by_cases h:j<k
 ·exact e i j b h
 ·have:j=k:=Zm (Zv f)<|ZL h;subst this;by_cases a:i=j
  ·subst a;exact o.irr _
  ·exact o.trans _ _ _ g<|e i (j-1) (ZW<|Zw b a)<|VB h1 Nat.one_pos
def sq(o:Ord lt)p' k:Eqs lt p' (k+1-(0+1)) (k+1):=by intro i j h g f b;have a:=Zm (Zv g) h;have e:=Zm (Zv b) f;subst a;subst e;exact o.irr _
def Ac(o:Ord lt){p}{k q}(a:k-(q+1)<=k-1/\k-1<k)(he:Eqs lt p (k-(q+1)) k)(c:lt (p.getD k 0) (p.getD (k-1) 0)=false)(d:lt (p.getD (k-1) 0) (p.getD k 0)=false):Eqs lt p (k+1-(q+1+1)) (k+1):=by
 have e:∀i,k+1-(q+1+1)<=i->i<k+1->lt (p.getD i 0) _=false/\lt _ (p.getD i 0)=false:=λi b1 b2=>by
  rw[Nat.add_sub_add_right]at b1;by_cases h:i=k
  ·subst h;exact⟨o.irr _,o.irr _⟩
  ·have b:=Zw (Zv b2) h;exact⟨o.trans _ _ _ d<|he i (k-1) b1 b a.1 a.2,o.trans _ _ _ (he (k-1) i a.1 a.2 b1 b) c⟩
 exact λi j m l g f=>o.trans _ _ _ (e j g f).2 (e i m l).1
def Dx(o:Ord lt):∀f p k q,PermN n p->1<=k->k+f<=n->q+1<=k->Fal lt p k->Eqs lt p (k-(q+1)) k->
  kok n lt (kas_desc f p k q) (λr=>PermN n r.1/\k<=r.2.1/\r.2.1<=n/\r.2.2+1<=r.2.1/\Fal lt r.1 r.2.1/\Eqs lt r.1 (r.2.1-(r.2.2+1)) r.2.1):=by
 intro f;induction f with
 |zero=>exact λp k q a m u s g i=>⟨a,Yy _,u,s,g,i⟩
 |succ f ih=>
  intro p k q a m u s g i;have b:=Ys (XQ<|Nat.succ_pos f) u;have w:=VB m Nat.one_pos;have e:=YW (ZP<|Zk k 1 f) u;have j:k-(q+1)<=k-1/\k-1<k:=⟨Nat.sub_le_sub_left (XH<|YQ q) k,w⟩
  unfold kas_desc;refine⟨a.bd b,a.bd<|ZA w b,?_⟩;cases c:lt _ (p.getD (k-1) 0)with
  |true=>
   (try dsimp only);rw[Yh rfl]
   have A:=o.asym _ _ c;by_cases l:q > 0
   ·rw[Yh l];have x:=wm a (Zz b) i o g;have y:lt ((kas_rev p (k-(q+1)) k).getD (k-1) 0) ((kas_rev p (k-(q+1)) k).getD k 0)=false:=by rw[gj a<|Zz b,gj a<|Zz b,Yh j,Yp λz=>Zo _ z.2];exact o.trans _ _ _ A<|i _ _ (mr j).1 (mr j).2 j.1 j.2
    exact eE (λr h=>⟨h.1,Va h.2.1,h.2.2⟩) _<|ih _ (k+1) 0 (a.rev _ _) (ZG 1 k) e (ZG 1 k) (ng o m x y)<|sq o _ k
   ·rw[Yp l];exact eE (λr h=>⟨h.1,Va h.2.1,h.2.2⟩) _<|ih _ (k+1) 0 a (ZG 1 k) e (ZG 1 k) (ng o m g A)<|sq o _ k
  |false=>
   (try dsimp only);rw[Yp Ym]
   refine⟨a.bd<|ZA w b,a.bd b,?_⟩;cases d:lt _ (p.getD k 0)with
   |true=>
    (try dsimp only);rw[Yh rfl]
    exact⟨a,Yy _,Zz b,s,g,i⟩
   |false=>
    (try dsimp only);rw[Yp Ym]
    exact eE (λr h=>⟨h.1,Va h.2.1,h.2.2⟩) _<|ih p (k+1) (q+1) a (ZG 1 k) e (XH s) (ng o m g d)<|Ac o j i c d
def Cs{p}(a:PermN n p){b}(g:b<=n)(l:Fal lt p b):Ris lt (kas_rev p 0 b) b:=by
 intro i j h e;have f:0<=i/\i<b:=⟨YQ _,YS h e⟩
 rw[gj a g,gj a g,Yh ⟨YQ _,e⟩,Yh f];exact l _ _ (Nat.sub_le_sub_left h _) (mr f).2
def uj(o:Ord lt){p}(a:PermN n p)(h1:1<=k)(b:k<=n)(f:Fal lt p k):kok n lt (kas_tail3 k n p) (λr=>1<=r.1/\r.1<=n/\PermN n r.2/\Ris lt r.2 r.1):=by unfold kas_tail3;have e:=ZP<|XI b;exact je _<|eE (λm h=>⟨YW h1 h.1,YW h.2.1 e,a.rev _ _,h.2.2.1⟩) _<|AY o (a.rev 0 k) (n-k) k h1 e<|Cs a b f
def l6(o:Ord lt){p}(i:PermN n p)(h1:1<=k)(j:k<n)(l:Fal lt p (k+1)):kok n lt (kas_descPart k n p) (λr=>1<=r.1/\r.1<=n/\PermN n r.2/\Ris lt r.2 r.1):=by
 unfold kas_descPart;refine je _<|eE ?_ _<|Dx o _ p (k+1) 0 i (ZG 1 k) (ZP<|XI j) (ZG 1 k) l<|sq o p k;intro r h;obtain⟨e,q,b,s,g,m⟩:=h;have a:=YW (ZG 1 k) q;by_cases f:r.2.2 > 0
 ·rw[Yh f];exact uj o (e.rev _ _) a b<|wm e b m o g
 ·rw[Yp f];exact uj o e a b g
def BM(o:Ord lt){p}(f:PermN n p)(L:1<=n):kok n lt (kas_count n p) (λr=>1<=r.1/\r.1<=n/\PermN n r.2/\Ris lt r.2 r.1):=by
 unfold kas_count;have H:=XI L;refine je _<|eE (λk C=>?_) _ (AY o f (n-1) 1 (Yy _) (ZP H) λi j a l=>by
  have I:=Nat.lt_one_iff.mp l;subst I;have J:=Nat.le_zero.mp a;subst J;exact o.irr _)
 obtain⟨s,m,w,P⟩:=C;have m:=YW m<|ZP H;by_cases B:(k == n)=true
 ·rw[Yh B];exact⟨s,m,f,w⟩
 ·rw[Yp B];have q:k≠n:=by simpa using B
  have x:=Zw m q;have y:=VB s Nat.one_pos;have A:lt (p.getD k 0) (p.getD (k-1) 0)=true:=by
   rcases P with e|e
   ·exact absurd (e.trans H) q
   ·exact e
  have M:=o.asym _ _ A;by_cases E:k > 1
  ·rw[Yh E];refine⟨f.bd<|Ys Nat.one_pos L,f.bd<|ZA y x,?_⟩;cases c:lt _ (p.getD (k-1) 0)with
   |true=>
    (try dsimp only);rw[Yh rfl]
    exact⟨s,m,f,w⟩
   |false=>
    (try dsimp only);rw[Yp Ym]
    have b:=λi j u l=>
     o.trans _ _ _ (o.trans _ _ _ (w j (k-1) (ZW l) y) c)<|w 0 i (YQ _) u
    refine l6 o (f.rev _ _) s x λi j a l=>?_;rw[gj f m,gj f m];by_cases g:j<k
    ·have u:0<=i/\i<k:=⟨YQ _,YS a g⟩
     rw[Yh u,Yh ⟨YQ _,g⟩];exact b _ _ (mr u).2 (mr ⟨YQ _,g⟩).2
    ·have O:=Zm (Zv l)<|ZL g;subst O;rw[Yp (λz:0<=j/\j<j=>Zo _ z.2)];by_cases h:i<j
     ·rw[Yh ⟨YQ _,h⟩];exact o.trans _ _ _ M<|b _ _ (mr ⟨YQ _,h⟩).2 y
     ·rw[Yp λz=>h z.2];have:i=j:=Zm a<|ZL h;subst this;exact o.irr _
  ·rw[Yp E];have N:=Zm (ZL E) s;subst N;refine l6 o f (Yy _) x λi j a l=>?_;by_cases h:i=j
   ·subst h;exact o.irr _
   ·have K:=Zw a h;have I:=Zm (Zv l)<|YS (YQ i) K;subst I;have J:=Nat.lt_one_iff.mp K;subst J;exact M
theorem nO(o:Ord lt){p}(w:PermN n p){k}(x:k<n)(u:Ris lt p k):∀f l r,l<=r->r<=k->r-l<=f->(∀i,i<l->lt (p.getD k 0) (p.getD i 0)=false)->(∀i,r<=i->i<k->lt (p.getD k 0) (p.getD i 0)=true)->
  kok n lt (kas_place p k f l r) (λm=>m<=k/\(∀i,i<m->lt (p.getD k 0) (p.getD i 0)=false)/\∀i,m<=i->i<k->lt (p.getD k 0) (p.getD i 0)=true):=by
 intro f;induction f with
 |zero=>
  intro l r y h A g b;have e:=Zm y<|Nat.le_of_sub_eq_zero<|Nat.le_zero.mp A;subst e;exact⟨h,g,b⟩
 |succ f ih=>
  intro l r y h A g b;unfold kas_place;by_cases a:l ≥ r
  ·rw[Yh a];have e:=Zm y a;subst e;exact⟨h,g,b⟩
  ·rw[Yp a];have s:l<=(l+r)/2/\(l+r)/2<r/\(l+r)/2-l<=f/\r-((l+r)/2+1)<=f:=by clear g b u w ih h x;omega
   obtain⟨E,j,C,B⟩:=s;refine⟨w.bd x,w.bd<|ZA (Ys j h) x,?_⟩;cases c:lt _ (p.getD _ 0)with
   |true=>
    (try dsimp only);rw[Yh rfl]
    refine ih l _ E (YW (Zz j) h) C g λi z H=>?_;cases q:lt _ (p.getD i 0)with
    |true=>rfl
    |false=>
     have:=o.trans _ _ _ (u _ i z H) q;rw[c]at this;cases this
   |false=>
    (try dsimp only);rw[Yp Ym]
    exact ih _ r j h B (λi z=>o.trans _ _ _ (u i _ (Zv z)<|Ys j h) c) b
def wl{p}(b:PermN n p){k l}(g:k<n)(f:l<=k)i:(bubble p k (k-l)).getD i 0=if i=l then p.getD k 0 else if l<i/\i<=k then p.getD (i-1) 0 else p.getD i 0:=by
 have e:=getElem?_bubble (by rwa[b.size]) (k-l) (Nat.sub_le _ _) i;rw[Nat.sub_sub_self f]at e;by_cases a:i=l
 ·rw[Yh a]at e ⊢;exact kS e
 ·rw[Yp a]at e ⊢;by_cases h:l<i/\i<=k
  ·rw[Yh h]at e ⊢;exact kS e
  ·rw[Yp h]at e ⊢;exact kS e
def Et(o:Ord lt){p}(x:PermN n p){k l}(kn:k<n)(s:Ris lt p k)(u:l<=k)(B:∀i,i<l->lt (p.getD k 0) (p.getD i 0)=false)(A:∀i,l<=i->i<k->lt (p.getD k 0) (p.getD i 0)=true):Ris lt (bubble p k (k-l)) (k+1):=by
 intro i j h y;have b:=Zv y;have q:=λz=>Ys (VB (YS (YQ l) z) Nat.one_pos) b
 rw[wl x kn u,wl x kn u];by_cases g:i=l
 ·rw[Yh g];by_cases e:j=l
  ·rw[Yh e];exact o.irr _
  ·have a:=Zw (g ▸ h)<|ZX e;rw[Yp e,Yh ⟨a,b⟩];exact o.asym _ _<|A (j-1) (ZW a)<|q a
 ·rw[Yp g];by_cases e:j=l
  ·have w:=e ▸ h;rw[Yh e,Yp λz=>Zo _<|Ys z.1 w];exact B i<|Zw w g
  ·rw[Yp e];by_cases m:l<i/\i<=k
   ·have a:=Ys m.1 h;rw[Yh m,Yh ⟨a,b⟩];exact s _ _ (Nat.sub_le_sub_right h 1)<|q a
   ·rw[Yp m];by_cases f:l<j/\j<=k
    ·rw[Yh f];exact s _ _ (ZW<|YS (ZL λz=>m ⟨z,YW h b⟩) f.1)<|q f.1
    ·rw[Yp f];exact s _ _ h<|Ys (Zw (ZL λz=>f ⟨z,b⟩) e) u
def FI(o:Ord lt):∀f p k,PermN n p->k+f=n->Ris lt p k->kok n lt (kas_bin f p k) (λr=>PermN n r/\Ris lt r n):=by
 intro f;induction f with
 |zero=>exact λp k h b a=>⟨h,by rwa[<-b]⟩
 |succ f ih=>
  intro p k h b a;have g:=b ▸ XQ<|Nat.succ_pos f;unfold kas_bin;refine je _<|eE (λl e=>?_) _<|nO o h g a k 0 k (YQ _) (Yy _) (Yy _) (λi j=>absurd j<|Nat.not_lt_zero _) λi q m=>absurd m<|Nat.not_lt_of_le q;obtain⟨w,u,s⟩:=e;exact ih _ (k+1) (h.bub _ _) ((Zk k 1 f).trans b)<|Et o h g a w u s
def nM n:PermN n (List.toArray (List.range n)):=⟨by simp,by simp⟩
def tH(o:Ord lt)(i:1<=n):kok n lt (kas_sort n) (λr=>PermN n r/\Ris lt r n):=by
 unfold kas_sort;refine je _<|eE (λr a=>?_) _<|BM o (nM n) i;obtain⟨j,g,f,b⟩:=a;by_cases h:r.1<n
 ·rw[Yh h];have e:=Nat.max_eq_left j;rw[e];exact FI o _ _ _ f (XI g) b
 ·rw[Yp h];have e:=Zm g<|ZL h;rw[e]at b;exact⟨f,b⟩
end
def lU(vs:List Value)(p:Array Nat):Array Value:=(p.toList.map λi=>vs.getD i Value.none).toArray
theorem ze vs(h:vs.length<2):lU vs (List.toArray (List.range vs.length))=(vs.toArray.zip vs.toArray).map (·.2):=by
 cases vs with
 |nil=>simp[lU]
 |cons v r=>
  cases r with
  |nil=>simp[lU,List.range,List.range.loop]
  |cons _ _=>simp at h;omega
theorem pr{a}{vs}{P}(H:s.heap.get? a=some (seqObj "list" vs.toArray n))(h64:vs.length<64)κ lt(o:Ord lt)
  (O:2<=vs.length->∀h',(∀b u,b≠a->s.heap.get? b=some u->h'.get? b=some u)->∀Q:SortKind->Shared->Prop,Q κ {s with heap:=h' }->wpAny (model prog w) A (keyKind' vs.toArray) Q E {s with heap:=h' })
  (T:∀h',(∀b u,b≠a->s.heap.get? b=some u->h'.get? b=some u)->∀i j C,i<vs.length->j<vs.length->C (lt i j) {s with heap:=h' }->kas_ask prog w A κ vs i j C {s with heap:=h' })
  (h:∀p,PermN vs.length p->Ris lt p vs.length->P (.done<|.ret .none) {s with heap:=sortedHeap s.heap a vs<|lU vs p}) :
  wpAny (model prog w) A (Builtin.«list.sort» ⟨[.ref a],[]⟩) P E s:=by
 rw[list_sort_plain];have L:=YC H;refine Yr<|listItems_at H rfl ?_;refine Yr<|listUpdate_at H rfl ?_ (by rw[Yu,YL];omega)<|YQ _;obtain⟨B,x⟩:∃B,(s.heap.update a _).get? a=some (seqObj "list" #[] B):=⟨_,get?_update_seq H λ_=>#[]⟩
 refine Yr<|seqEpoch_at x rfl ?_;refine Yr<|wpAny_newTuple ?_ (by show vs.length<=_;rw[YL];omega);refine Yr<|wpAny_newList ?_<|YQ _;refine Xb ?_;have g:(((s.heap.update a<|Obj.mapSeq λ_=>(#[])).push<|seqObj "tuple" vs.toArray 0).push<|seqObj "list" #[] 0).get? a=some (seqObj "list" #[] B):=by rwa[Xu _ _ _<|by rw[size_push',Vi];exact YJ<|Xs L,Xu _ _ _<|by rw[Vi];exact YJ L]
 have kept:∀b u,b≠a->s.heap.get? b=some u->(((s.heap.update a<|Obj.mapSeq λ_=>(#[])).push<|seqObj "tuple" vs.toArray 0).push<|seqObj "list" #[] 0).get? b=some u:=λb u U e=>by
  have y:=YC e;rwa[Xu _ _ _<|by rw[size_push',Vi];exact YJ<|Xs y,Xu _ _ _<|by rw[Vi];exact YJ y,Heap.get?_update_ne _ _ _ _ U]
 dsimp only;have M:vs.toArray.size=vs.length:=by simp
 by_cases I:vs.toArray.size<2
 ·rw[Yh I,Yh I];refine Yr<|YT ?_;rw[StateT.run_pure];refine Yr<|YT ?_;dsimp only;refine Yr<|seqEpoch_at g rfl ?_;refine Yr<|listUpdate_at g rfl ?_ (YQ _) (by rw[Array.size_map];show(pairsOf vs).size<=_;rw[pairsOf_size,YL];omega);simp only[bne_self_eq_false,Vt,if_false];have q:=h _ (nM _) (λi j R Z=>by
   have B:i=j:=by omega
   subst B;exact o.irr _)
  have e:lU vs (List.toArray<|List.range vs.length)=(vs.toArray.zip vs.toArray).map (·.2):=by exact ze vs<|by omega
  rw[e]at q;exact YT q
 ·rw[Yp I,Yp I];have z:2<=vs.length:=by omega
  refine Yr<|O z _ kept _ ?_;refine Yr<|ZC (kat_run (Q:=λf l=>l={s with heap:=((s.heap.update a _).push _).push _}/\∃p:Array Nat,PermN vs.length p/\Ris lt p vs.length/\arrOf f=p.map _/\failedOf f=none)
   (G:=λp l=>l={s with heap:=((s.heap.update a _).push _).push _}/\PermN vs.length p/\Ris lt p vs.length)
   rfl z h64 (λp f l a1 Y X ⟨b1,b2,b3⟩=>⟨b1,p,b2,b3,Y,X⟩)<|G4 (T _ kept) (λp ⟨b2,b3⟩=>⟨rfl,b2,b3⟩) _<|tH o<|by omega) ?_ λ_ _ e=>e
  rintro⟨⟨⟩,f⟩ l ⟨rfl,p,K,N,J,S⟩;dsimp only;have m:=kat_snds rfl J;rw[m];refine Yr<|seqEpoch_at g rfl ?_;refine Yr<|listUpdate_at g rfl ?_ (YQ _) (by rw[Yu,Yc,ZD,K.size,YL];omega);rw[S];simp[bne_self_eq_false,Vt,if_false];exact YT<|h p K N
def EM(h:x.cps.toList=y.cps.toList):x=y:=by
 cases x;cases y
 congr
 exact Array.toList_inj.mp h
mutual
theorem dD:∀x y:D,aF x y=true->(eqd x y=true↔x=y)
 |.int i,.int j,_=>by simp[eqd,dL,PyData.eqv]
 |.bl a,.bl b,_=>by simp[eqd,dL,PyData.eqv]
 |.str a,.str b,_=>by simp[eqd,dL,PyData.eqv]
 |.tup xs,.tup ys,h=>by
  have:=oW xs ys (by simpa[aF]using h);simp only[eqd,dL,PyData.eqv,D.tup.injEq];exact this
 |.non,y,h=>by cases y<;>simp[aF]at h
 |.lst _,y,h=>by cases y<;>simp[aF]at h
 |.dT _,y,h=>by cases y<;>simp[aF]at h
 |.dK _,y,h=>by cases y<;>simp[aF]at h
 |.ins _ _,y,h=>by cases y<;>simp[aF]at h
 |.int _,.non,h=>by simp[aF]at h
 |.int _,.bl _,h=>by simp[aF]at h
 |.int _,.str _,h=>by simp[aF]at h
 |.int _,.tup _,h=>by simp[aF]at h
 |.int _,.lst _,h=>by simp[aF]at h
 |.int _,.dT _,h=>by simp[aF]at h
 |.int _,.dK _,h=>by simp[aF]at h
 |.int _,.ins _ _,h=>by simp[aF]at h
 |.bl _,.non,h=>by simp[aF]at h
 |.bl _,.int _,h=>by simp[aF]at h
 |.bl _,.str _,h=>by simp[aF]at h
 |.bl _,.tup _,h=>by simp[aF]at h
 |.bl _,.lst _,h=>by simp[aF]at h
 |.bl _,.dT _,h=>by simp[aF]at h
 |.bl _,.dK _,h=>by simp[aF]at h
 |.bl _,.ins _ _,h=>by simp[aF]at h
 |.str _,.non,h=>by simp[aF]at h
 |.str _,.bl _,h=>by simp[aF]at h
 |.str _,.int _,h=>by simp[aF]at h
 |.str _,.tup _,h=>by simp[aF]at h
 |.str _,.lst _,h=>by simp[aF]at h
 |.str _,.dT _,h=>by simp[aF]at h
 |.str _,.dK _,h=>by simp[aF]at h
 |.str _,.ins _ _,h=>by simp[aF]at h
 |.tup _,.non,h=>by simp[aF]at h
 |.tup _,.bl _,h=>by simp[aF]at h
 |.tup _,.int _,h=>by simp[aF]at h
 |.tup _,.str _,h=>by simp[aF]at h
 |.tup _,.lst _,h=>by simp[aF]at h
 |.tup _,.dT _,h=>by simp[aF]at h
 |.tup _,.dK _,h=>by simp[aF]at h
 |.tup _,.ins _ _,h=>by simp[aF]at h
theorem oW:∀xs ys:List D,b5 xs ys=true->(PyData.eqvAll (eA xs) (eA ys)=true↔xs=ys)
 |[],[],_=>by simp[eA,PyData.eqvAll]
 |[],_::_,_=>by simp[eA,PyData.eqvAll]
 |_::_,[],_=>by simp[eA,PyData.eqvAll]
 |x::xs,y::ys,h=>by
  rw[b5,Yn]at h;have a:=dD x y h.1;have b:=oW xs ys h.2;simp only[eA,PyData.eqvAll,Yn,List.cons.injEq];rw[b];unfold eqd at a;rw[a]
end
structure Fc2 {α:Type} (l:α->α->Bool) (x y:α):Prop where
 as:l x y=true->l y x=false
 an:l x y=false->l y x=false->x=y
def Fc3{α:Type}(l:α->α->Bool)(x y z:α):Prop:=l x y=true->l y z=true->l x z=true
def bx{x y}(h:aF x y=true):(∃i j,x=.int i/\y=.int j)\/(∃i j,x=.bl i/\y=.bl j)\/(∃i j,x=.str i/\y=.str j)\/∃i j,x=.tup i/\y=.tup j/\b5 i j=true:=by
 cases x with
 |int i=>
  refine .inl ?_;cases y with
  |int j=>exact⟨_,_,rfl,rfl⟩
  |_=>exact absurd h Ym
 |bl i=>
  refine .inr<|.inl ?_;cases y with
  |bl j=>exact⟨_,_,rfl,rfl⟩
  |_=>exact absurd h Ym
 |str i=>
  refine .inr<|.inr<|.inl ?_;cases y with
  |str j=>exact⟨_,_,rfl,rfl⟩
  |_=>exact absurd h Ym
 |tup i=>
  refine .inr<|.inr<|.inr ?_;cases y with
  |tup j=>exact⟨_,_,rfl,rfl,h⟩
  |_=>exact absurd h Ym
 |_=>exact absurd h Ym
def yq{a b:List Nat}(h:a<b):¬b<a:=λe=>List.lt_irrefl a<|List.lt_trans h e
theorem kR{x y}(h1:aF x y=true)(b:kD x=false):Fc2 ltD x y:=by
 rcases bx h1 with⟨i,j,rfl,rfl⟩|⟨i,j,rfl,rfl⟩|⟨i,j,rfl,rfl⟩|⟨i,j,rfl,rfl,_⟩
 ·refine⟨λh=>?_,λh a=>?_⟩
  ·simp[ltD,YF,Zi]at h ⊢;omega
  ·simp[ltD,Zi]at h a;rw[show i=j by omega]
 ·refine⟨λh=>?_,λh a=>?_⟩
  ·cases i<;>cases j<;>simp_all [ltD]
  ·cases i<;>cases j<;>simp_all [ltD]
 ·refine⟨λh=>?_,λh a=>?_⟩
  ·simp[ltD,YF,Zi]at h ⊢;exact yq h
  ·simp[ltD,Zi]at h a;rw[EM<|List.le_antisymm a h]
 ·cases b
theorem kx{x y z}(h1:aF x y=true)(h2:aF y z=true)(f:kD x=false):Fc3 ltD x y z:=by
 rcases bx h1 with⟨i,j,rfl,rfl⟩|⟨i,j,rfl,rfl⟩|⟨i,j,rfl,rfl⟩|⟨i,j,rfl,rfl,_⟩
 ·rcases bx h2 with⟨a,k,e,rfl⟩|⟨a,k,e,rfl⟩|⟨a,k,e,rfl⟩|⟨a,k,e,rfl,_⟩<;>cases e;intro h b;simp[ltD,YF]at h b ⊢;omega
 ·rcases bx h2 with⟨a,k,e,rfl⟩|⟨a,k,e,rfl⟩|⟨a,k,e,rfl⟩|⟨a,k,e,rfl,_⟩<;>cases e;intro h b;cases i<;>cases j<;>cases k<;>simp_all [ltD]
 ·rcases bx h2 with⟨a,k,e,rfl⟩|⟨a,k,e,rfl⟩|⟨a,k,e,rfl⟩|⟨a,k,e,rfl,_⟩<;>cases e;intro h b;simp[ltD,YF]at h b ⊢;exact List.lt_trans h b
 ·cases f
def zd n:∀x y:D,okN n x=true->aF x y=true->aF y x=true:=by
 induction n with
 |zero=>
  intro x y o h;rcases bx h with⟨i,j,rfl,rfl⟩|⟨i,j,rfl,rfl⟩|⟨i,j,rfl,rfl⟩|⟨i,j,rfl,rfl,_⟩
  ·rfl
  ·rfl
  ·rfl
  ·simp[okN]at o
 |succ n ih=>
  intro x y o h;rcases bx h with⟨i,j,rfl,rfl⟩|⟨i,j,rfl,rfl⟩|⟨i,j,rfl,rfl⟩|⟨i,j,rfl,rfl,e⟩
  ·rfl
  ·rfl
  ·rfl
  ·have f:∀b a,(∀d∈b,okN n d=true)->b5 b a=true->b5 a b=true:=by
    intro b;induction b with
    |nil=>intro a _ _;cases a<;>simp[b5]
    |cons x b g=>
     intro a l e;cases a with
     |nil=>simp[b5]
     |cons y a=>
      rw[b5,Yn]at e ⊢;exact⟨ih x y (l x Yf) e.1,g a (λd m=>l d<|Ye _ m) e.2⟩
   rw[aF];exact f i j (cz o) e
def CP(ih:∀x y:D,okN n x=true->okN n y=true->aF x y=true->Fc2 ltD x y) :
  ∀xs ys,(∀d∈xs,okN n d=true)->(∀d∈ys,okN n d=true)->b5 xs ys=true->Fc2 cE xs ys:=by
 intro xs;induction xs with
 |nil=>
  intro ys _ _ _;refine⟨λh=>?_,λh f=>?_⟩
  ·cases ys<;>simp_all [cE]
  ·cases ys<;>simp_all [cE]
 |cons x xs i=>
  intro ys m o g;cases ys with
  |nil=>
   refine⟨λh=>?_,λh f=>?_⟩
   ·simp[cE]at h
   ·simp[cE]at f
  |cons y ys=>
   rw[b5,Yn]at g;have p:=m x Yf;have l:=o y Yf;have b:=dD x y g.1;have e:=dD y x<|zd n x y p g.1;have G:=i ys (λd j=>m d<|Ye _ j) (λd j=>o d<|Ye _ j) g.2;refine⟨λh=>?_,λh f=>?_⟩
   ·rw[cE]at h ⊢;by_cases a:x=y
    ·rw[Yh<|b.mpr a]at h;rw[Yh<|e.mpr a.symm];exact G.as h
    ·rw[Yp λq=>a<|b.mp q]at h;rw[Yp λq=>a (e.mp q).symm];exact(ih x y p l g.1).as h
   ·rw[cE]at h f;by_cases a:x=y
    ·rw[Yh<|b.mpr a]at h;rw[Yh<|e.mpr a.symm]at f;rw[a,G.an h f]
    ·rw[Yp λq=>a<|b.mp q]at h;rw[Yp λq=>a (e.mp q).symm]at f;exact absurd ((ih x y p l g.1).an h f) a
def kO n:∀x y:D,okN n x=true->okN n y=true->aF x y=true->Fc2 ltD x y:=by
 induction n with
 |zero=>
  intro x y o b a;refine kR a ?_;cases x<;>first|rfl|(simp[okN]at o)
 |succ n ih=>
  intro x y o b a;rcases bx a with⟨i,j,rfl,rfl⟩|⟨i,j,rfl,rfl⟩|⟨i,j,rfl,rfl⟩|⟨i,j,rfl,rfl,d1⟩
  iterate 3 exact kR a rfl
  ·have F:=CP ih i j (cz o) (cz b) d1;refine⟨λh=>?_,λh e=>?_⟩
   ·rw[ltD]at h ⊢;exact F.as h
   ·rw[ltD]at h e;rw[F.an h e]
def EC(ih:∀x y z:D,okN n x=true->okN n y=true->okN n z=true->aF x y=true->aF y z=true->aF x z=true->Fc3 ltD x y z) :
  ∀xs ys zs,(∀d∈xs,okN n d=true)->(∀d∈ys,okN n d=true)->(∀d∈zs,okN n d=true)->b5 xs ys=true->b5 ys zs=true->b5 xs zs=true->Fc3 cE xs ys zs:=by
 intro xs;induction xs with
 |nil=>
  intro ys zs _ _ _ _ _ _ h e;cases ys<;>cases zs<;>simp_all [cE]
 |cons x xs p=>
  intro ys zs C B A l o m h e;cases ys with
  |nil=>simp[cE]at h
  |cons y ys=>
   rw[b5,Yn]at l;have w:=C x Yf;have u:=B y Yf;have j:=dD x y l.1;cases zs with
   |nil=>simp[cE]at e
   |cons z zs=>
    rw[b5,Yn]at o m;have H:=A z Yf;have g:=dD y z o.1;have f:=dD x z m.1;have F:=ih x y z w u H l.1 o.1 m.1;rw[cE]at h e ⊢;by_cases b:x=y
    ·rw[Yh<|j.mpr b]at h;by_cases a:y=z
     ·rw[Yh<|g.mpr a]at e;rw[Yh<|f.mpr<|b.trans a];exact p ys zs (λd i=>C d<|Ye _ i) (λd i=>B d<|Ye _ i) (λd i=>A d<|Ye _ i) l.2 o.2 m.2 h e
     ·rw[Yp λq=>a<|g.mp q]at e;rw[Yp λq=>a<|b.symm.trans<|f.mp q];rwa[b]
    ·rw[Yp λq=>b<|j.mp q]at h;by_cases a:y=z
     ·rw[Yp λq=>b<|(f.mp q).trans a.symm];rwa[<-a]
     ·rw[Yp λq=>a<|g.mp q]at e;have s:=F h e;by_cases E:x=z
      ·subst E;have:=(kO n x y w u l.1).as h;rw[e]at this;cases this
      ·rwa[Yp λq=>E<|f.mp q]
def CC n:∀x y z:D,okN n x=true->okN n y=true->okN n z=true->aF x y=true->aF y z=true->aF x z=true->Fc3 ltD x y z:=by
 induction n with
 |zero=>
  intro x y z o l g b a p;refine kx b a ?_;cases x<;>first|rfl|(simp[okN]at o)
 |succ n ih=>
  intro x y z o l g b a p;rcases bx b with⟨i,j,rfl,rfl⟩|⟨i,j,rfl,rfl⟩|⟨i,j,rfl,rfl⟩|⟨i,j,rfl,rfl,d1⟩
  iterate 3 exact kx b a rfl
  ·rcases bx a with⟨f,k,e,rfl⟩|⟨f,k,e,rfl⟩|⟨f,k,e,rfl⟩|⟨f,k,e,rfl,d2⟩<;>cases e;have F:=EC ih i j k (cz o) (cz l) (cz g) d1 d2 (by simpa[aF]using p);intro h m;rw[ltD]at h m ⊢;exact F h m
noncomputable def zb(x:D):List D->List D
 |[]=>[x]
 |y::r=>if ltD x y=true then x::y::r else y::zb x r
def ff:List D->List D
 |[]=>[]
 |x::r=>zb x<|ff r
theorem li x:∀l:List D,(zb x l).Perm (x::l)
 |[]=>.refl _
 |y::r=>by
  unfold zb;split
  ·exact .refl _
  ·exact((li x r).cons y).trans<|.swap x y r
theorem eU:∀l:List D,(ff l).Perm l
 |[]=>.refl _
 |x::r=>(li x<|ff r).trans<|(eU r).cons x
def Cmps(n:Nat)(ds:List D):Prop:=(∀d∈ds,okN n d=true)/\∀x∈ds,∀y∈ds,aF x y=true
def uv:∀{as bs},as.Perm bs->Cmps n as->as.Pairwise (λx y=>ltD y x=false)->bs.Pairwise (λx y=>ltD y x=false)->as=bs:=by
 intro as;induction as with
 |nil=>intro bs f _ _ _;exact(List.Perm.nil_eq f)
 |cons a as ih=>
  intro bs f g i p;cases bs with
  |nil=>exact absurd f.symm<|List.not_perm_nil_cons _ _
  |cons b bs=>
   have j:=f.mem_iff.mp Yf;have m:=f.mem_iff.mpr Yf;have e:a=b:=by
    rcases Yw.mp j with h|h
    ·exact h
    ·rcases Yw.mp m with h'|h'
     ·exact h'.symm
     ·have o:=(ZJ.mp i).1 b h';have l:=(ZJ.mp p).1 a h;exact(kO n a b (g.1 a Yf) (g.1 b m)<|g.2 a Yf b m).an l o
   subst e;rw[ih (List.Perm.cons_inv f) ⟨λd u=>g.1 d<|Ye _ u,λx s y q=>g.2 x (Ye _ s) y<|Ye _ q⟩ (ZJ.mp i).2 (ZJ.mp p).2]
def Cmps.perm(h:Cmps n as)(p:as.Perm bs):Cmps n bs:=⟨λd e=>h.1 d<|p.mem_iff.mpr e,λx b y a=>h.2 x (p.mem_iff.mpr b) y<|p.mem_iff.mpr a⟩
def qp{x y z}(g:okN n x=true)(o:okN n y=true)(i:okN n z=true)(a:aF x y=true)(j:aF y z=true)(m:aF x z=true)(l:aF y x=true)(b:aF z y=true)(f:aF z x=true)
  (h1:ltD y x=false) (h2:ltD z y=false):ltD z x=false:=by
 cases q:ltD z x with
 |false=>rfl
 |true=>
  -- z<x;x<=y
  by_cases h:ltD x y=true
  ·have:=CC n z x y i g o f a b q h;rw[h2]at this;cases this
  ·have e:=(kO n x y g o a).an (by simpa using h) h1;subst e;rw[h2]at q;cases q
theorem lV{x}:∀{l},Cmps n (x::l)->l.Pairwise (λa b=>ltD b a=false)->(zb x l).Pairwise (λa b=>ltD b a=false)
 |[],_,_=>List.pairwise_singleton _ _
 |y::r,hc,hp=>by
  have m:x∈x::y::r:=Yf;have e:y∈x::y::r:=Ye _ Yf;obtain⟨g,i⟩:=ZJ.mp hp;unfold zb;split
  ·rename_i q;refine ZJ.mpr ⟨λz hz=>?_,hp⟩;have h:=(kO n x y (hc.1 x m) (hc.1 y e)<|hc.2 x m y e).as q;rcases Yw.mp hz with rfl|hz
   ·exact h
   ·have f:z∈x::y::r:=Ye _<|Ye _ hz;exact qp (hc.1 x m) (hc.1 y e) (hc.1 z f) (hc.2 x m y e) (hc.2 y e z f) (hc.2 x m z f) (hc.2 y e x m) (hc.2 z f y e) (hc.2 z f x m) h<|g z hz
  ·rename_i q;refine ZJ.mpr ⟨λz hz=>?_,lV ⟨λd hd=>hc.1 d ?_,λa ha b hb=>hc.2 a ?_ b ?_⟩ i⟩
   ·rcases Yw.mp ((li x r).mem_iff.mp hz)with rfl|hz
    ·simpa using q
    ·exact g z hz
   all_goals
    first
     |(
      rcases Yw.mp hd with rfl|hd
      ·exact m
      ·exact Ye _<|Ye _ hd)
     |(
      rcases Yw.mp ha with rfl|ha
      ·exact m
      ·exact Ye _<|Ye _ ha)
     |(
      rcases Yw.mp hb with rfl|hb
      ·exact m
      ·exact Ye _<|Ye _ hb)
def Cmps.sub(h:Cmps n bs)(k:∀x∈as,x∈bs):Cmps n as:=⟨λd e=>h.1 d<|k d e,λx b y a=>h.2 x (k x b) y<|k y a⟩
theorem iu:∀{l},Cmps n l->(ff l).Pairwise (λa b=>ltD b a=false)
 |[],_=>.nil
 |x::r,hc=>lV (hc.sub λy hy=>by
   rcases Yw.mp hy with rfl|hy
   ·exact Yf
   ·exact Ye _<|(eU r).mem_iff.mp hy)<|iu<|hc.sub λy hy=>Ye _ hy
def oT(h:as.Perm bs)(a:Cmps n bs)(b:as.Pairwise (λx y=>ltD y x=false)):as=ff bs:=
 uv (h.trans (eU bs).symm) (a.perm h.symm) b<|iu a
def vg(h:as.Perm bs)(a:Cmps n bs):ff as=ff bs:=
 oT ((eU as).trans h) a<|iu<|a.perm h.symm
end L2
namespace L2
open PySem PySem.Spec PyProof.Rows
section
variable  {c:Expr}  
def sW{x}{i}(r:Rep K H x (.int i)):x=.int i:=by cases r;rfl
def nh{x}{i}(r:Rep K H x (.str i)):x=.str i:=by cases r;rfl
def wP{g}(f:∀F i j,Rep K F (g i j) (g' i j)):OpN2 K (rI0 g) (fI0 g'):=by
 intro P F H x y m l d Q h e b a k;unfold fI0 at h;split at h
 ·rename_i i j;cases h;exact⟨i,j,sW b,sW a,k _ F H (Evo.refl e)<|f F i j⟩
 ·cases h
def OpN2.or{r r'}{f g:Dy}(h:OpN2 K r f)(h':OpN2 K r' g):OpN2 K (λx y H Q=>r x y H Q\/r' x y H Q) (λx y=>(f x y).or (g x y)):=by
 intro P F H x y e b d Q a l j i k;dsimp only at a;cases q:f e b with
 |some m=>rw[q]at a;have a:=Yv a;subst a;exact .inl<|h P F H x y e b _ Q q l j i k
 |none=>rw[q]at a;exact .inr<|h' P F H x y e b d Q a l j i k
noncomputable def leS:D->D->Option D
 |.str x,.str y=>some<|.bl<|!decide (y.cps.toList<x.cps.toList)
 |_,_=>none
def C8:R2:=λx y H Q=>∃i j,x=.str i/\y=.str j/\Q (.bl<|!decide (j.cps.toList<i.cps.toList)) H
def yV:OpR X (compareOp .LtE) C8:=by intro p s e H x y v u Q I b a h;obtain⟨i,j,rfl,rfl,q⟩:=h;obtain⟨t,rfl⟩:=b;obtain⟨f,rfl⟩:=a;exact PySem.P.le_str ⟨.bl _,H,I,rfl,q⟩
def GQ:OpN2 K C8 leS:=by
 intro P F H x y g f d Q h e b a k;unfold leS at h;split at h
 ·cases h;exact⟨_,_,nh b,nh a,k _ F H (Evo.refl e) .bl⟩
 ·cases h
def leA(x y:D):Option D:=(leI x y).or<|leS x y
def oA:OpR X (compareOp .LtE) (λx y H Q=>rI0 (λi j=>.bl (decide (i<=j))) x y H Q\/C8 x y H Q):=IN.or yV
def oK:OpN2 K (λx y H Q=>rI0 (λi j=>.bl (decide (i<=j))) x y H Q\/C8 x y H Q) leA:=(wP λ_ _ _=>.bl).or GQ
noncomputable def chD(f g:Dy)(fa fb fc:Dd):DF->Option D:=λa=>(fa a).bind λx=>(fb a).bind λy=>match f x y with
 |some (.bl true)=>(fc a).bind λz=>g y z
 |some (.bl false)=>some<|.bl false
 |_=>none
def nQ{r r'}{f g:Dy}(N:OpN2 K r f)(A:OpN2 K r' g):∀σ H Q,tD K (chD f g fa fb fc) σ H Q->uX r r' (tN K fa) (tN K fb) (tN K fc) σ H Q:=λσ H Q=>un7 λP F a d h I k=>by
 unfold chD at h;cases m:fa a with
 |none=>rw[m]at h;cases h
 |some u=>
 cases s:fb a with
 |none=>rw[m,Ya,s]at h;cases h
 |some p=>
 rw[m,Ya,s,Ya]at h;split at h
 ·rename_i i;cases B:fc a with
  |none=>rw[B]at h;cases h
  |some O=>
   rw[B,Ya]at h;refine⟨P,F,a,u,m,I,λx M Y j w=>⟨P,M,a,p,s,I.evo j,λy L E e q=>?_⟩⟩;refine N P L E x y u p _ _ i e.hp (w.same<|e.same j.hp) q λv J R o l=>?_;cases l;refine⟨true,rfl,?_⟩;rw[Yh rfl];have b:=(j.trans e).trans o;refine⟨P,J,a,O,B,I.evo b,λz F4 X C S=>?_⟩;exact A P F4 X y z p O d Q h C.hp ((q.same<|o.same e.hp).same<|C.same o.hp) S λv Z U T l=>k v Z U ((b.trans C).trans T) l
 ·rename_i i;cases h;refine⟨P,F,a,u,m,I,λx M Y j w=>⟨P,M,a,p,s,I.evo j,λy L E e q=>?_⟩⟩;refine N P L E x y u p _ _ i e.hp (w.same<|e.same j.hp) q λv J R o l=>?_;cases l;refine⟨false,rfl,?_⟩;rw[Yp Ym];exact k _ J R ((j.trans e).trans o) .bl
 ·cases h
def si(g:PDN X a fa)(f:PDN X b fb)(e:PDN X c fc)(h:lastMarks [CmpOp.LtE,CmpOp.LtE] [b,c]=false:=by with_unfolding_all rfl):PDE X (.Compare a [.LtE,.LtE] [b,c] pos) (chD leA leA fa fb fc):=(um oA oA g f e h).imp<|nQ oK oK
def qP(g:PDN X a fa)(f:PDN X b fb)(e:PDN X c fc)(h:lastMarks [CmpOp.LtE,CmpOp.Lt] [b,c]=false:=by with_unfolding_all rfl):PDE X (.Compare a [.LtE,.Lt] [b,c] pos) (chD leA ltI fa fb fc):=(um oA IQ g f e h).imp<|nQ oK<|wP λ_ _ _=>.bl
def qu(g:PDN X a fa)(f:PDN X b fb)(e:PDN X c fc)(h:lastMarks [CmpOp.LtE,CmpOp.LtE] [b,c]=false:=by with_unfolding_all rfl):PDT X (.Compare a [.LtE,.LtE] [b,c] pos) (asB (chD leA leA fa fb fc)):=(zO oA oA g f e h).imp<|k9<|nQ oK oK
def Cm(K:Kq)(r:List V->Hp->VK->Prop)(f:D->Option D):Prop:=
 ∀P F H x a d Q,f a=some d->DHp P F H->Rep K H x a->(∀v e b,Evo P F H e b->Rep K e v d->Q v b)->r [x] H Q
def q_{f}(l:Cm K r f):∀σ H Q,tD K (d1 f fa) σ H Q->tCB r (nJ (tN K fa) qN) σ H Q:=λσ H Q=>un7 λP F b d h I k=>by
 unfold d1 at h;cases a:fa b with
 |none=>rw[a]at h;cases h
 |some g=>
  rw[a,Ya]at h;exact⟨P,F,b,g,a,I,λx s p e i=>l P s p x g d Q h e.hp i λv q o m j=>k v q o (e.trans m) j⟩
def FY:Cm K (HW K) aK:=by
 intro P F H x f d Q a e b k;unfold aK at a;split at a
 ·cases a;cases b with|lst h1 h2=>exact .inl ⟨_,_,rfl,.inl h1,by rw[h2.length];exact k _ F H (Evo.refl e) .int⟩
 ·cases a;cases b with|tup h1 h2=>exact .inl ⟨_,_,rfl,.inr<|SqT.of h1,by rw[h2.length];exact k _ F H (Evo.refl e) .int⟩
 ·split at a
  ·rename_i h;cases a;exact .inr ⟨_,by rw[nh b],by rwa[YL],k _ F H (Evo.refl e) .int⟩
  ·cases a
 ·cases a
def bf(f:Gl X "len")(b:X.mg "len"=none)(g:PDN X e fa)(a:starEach [e] X.env=[(false,eval e X.env)]:=by rfl)(h:(backTo pos (starEach [] X.env)).any (·.1)=false:=by rfl) :
  PDE X (.Call (.Name "len" p) [e] [] pos) (d1 aK fa):=
 (dh (qG.or rW) f b PySem.boot_len (aI g aZ a) (by decide) (by decide) a h).imp<|q_ FY
def boot_int:bootBuiltins "int"=some (.type "int"):=by rfl
def boot_list:bootBuiltins "list"=some (.type "list"):=by rfl
def boot_tuple:bootBuiltins "tuple"=some (.type "tuple"):=by rfl
def boot_bool:bootBuiltins "bool"=some (.type "bool"):=by rfl
def boot_str:bootBuiltins "str"=some (.type "str"):=by rfl
def cV:bootBuiltins "isinstance"=some (.builtin "isinstance"):=by rfl
def BK:bootBuiltins "all"=some (.builtin "all"):=by rfl
def zR:bootBuiltins "min"=some (.builtin "min"):=by rfl
def AI:bootBuiltins "max"=some (.builtin "max"):=by rfl
def uq:bootBuiltins "sorted"=some (.builtin "sorted"):=by rfl
def A9:D->Option D
 |.lst ds=>some<|.tup ds
 |.tup ds=>some<|.tup ds
 |_=>none
def Hd:Is K (λxs H Q=>∃p ys,xs=[.ref p]/\((SqL K H p ys/\∀l,H l=none->Q (.ref l) (upd H l (.tup ys)))\/(SqT K H p ys/\Q (.ref p) H))) A9:=by
 intro P F H j i x m d Q h I a k;unfold A9 at h;split at h
 ·cases h;obtain⟨p,g,rfl,b,e⟩:=im I a;refine⟨p,g,rfl,.inl ⟨b,λl f=>?_⟩⟩;exact k _ _ _ (Evo.laid I.toDHp f)<|.tup aE<|e.same<|fj (I.toDHp.free f).1
 ·cases h;rcases a with a|⟨_,ob,_,_,_,_,_,hfl,z⟩
  ·cases a with|tup b e=>exact⟨_,_,rfl,.inr ⟨SqT.of<|I.sub _ _ b,k _ F H (Evo.refl I.toDHp)<|.tup b e⟩⟩
  ·cases ob<;>first|(cases z;done)|cases hfl
 ·cases h
def AX(b:Gl X "tuple")(a:X.mg "tuple"=none)(f:PDR X e fa)(h:starEach [e] X.env=[(false,eval e X.env)]:=by rfl) :
  PDE X (.Call (.Name "tuple" p) [e] [] pos) (d1 A9 fa):=
 (jp o_ b a boot_tuple (aI f aZ h) (he:=h)).imp<|Fs Hd
def oE(f:Dd):DF->Option (List D):=λρ=>(f ρ).bind fU
def sZ(C:Gl X "list")(B:X.mg "list"=none)(f:PDR X e fa)(w:starEach [e] X.env=[(false,eval e X.env)]:=by rfl) :
  PDO X (.Call (.Name "list" p) [e] [] pos) (asL<|oE fa):=
 (jp sH C B boot_list (aI f aZ w) (he:=w)).imp λJ H Q=>un7 λP F s ob h I k=>by
  unfold asL oE at h;cases f:fa s with
  |none=>rw[f]at h;cases h
  |some o=>
   rw[f,Ya]at h;cases b:fU o with
   |none=>rw[b]at h;cases h
   |some E=>
    rw[b]at h;cases h;refine⟨P,F,s,o,f,I,λx A z g u=>?_⟩;have y:=I.evo g;have fin:∀a,Reps X.K A a E->∀l,z l=none->Q _ (upd z l<|.lst a):=λa r l i=>
     k l A _ (g.trans<|Evo.side g.hp i) ⟨⟨g.back I.toDHp i,(g.hp.free i).1⟩,_,aE,r⟩
    cases o with
    |lst ds'=>
     cases b;obtain⟨q,a,rfl,m,j⟩:=im y u;exact⟨q,a,rfl,.inl m,fin a j⟩
    |tup ds'=>
     cases b;obtain⟨q,a,rfl,m,j⟩:=kI y u;exact⟨q,a,rfl,.inr m,fin a j⟩
    |_=>cases b
def E9(K:Kq):R2:=λx y H Q=>∃l b a z,x=.ref l/\y=.ref b/\SqL K H l a/\SqL K H b z/\a.length+z.length<=sizeLine/\∀p,H p=none->Q (.ref p) (upd H p<|.lst<|a++z)
theorem w9:OpR X (binaryOp .Add) (E9 X.K):=by
 intro pz s Z H x y v u Q I M L h;obtain⟨l,b,xs,zs,rfl,rfl,R,S,hz,q⟩:=h;cases M;cases L;obtain⟨a,r,O,_⟩:=I.list R;obtain⟨i,p,N,_⟩:=I.list S;obtain⟨⟨Y,U,C,J⟩,n,w,B,P,A⟩:=O;obtain⟨⟨E,m,o,j⟩,n2,e,g,z,f⟩:=N;simp at B A g f;subst B A g f;have e1:=r.length;have e2:=p.length;refine concat_meets ⟨_,w,rfl⟩ ⟨_,e,rfl⟩ PySem.noFill_list_add PySem.seq_list_add PySem.F.slot_list_add PySem.F.entry_list_add (PySem.F.args_list_add_2 _ _) (list_addW l b a.toArray i.toArray n n2 U m J j<|by rw[Yu,Yu];omega) ⟨w,e,?_⟩;have T:a.toArray++i.toArray=(a++i).toArray:=by simp
 rw[T];exact⟨.ref _,_,I.lnew (r.append p)<|by rw[Yb];omega,rfl,q _ I.fresh⟩
end
def spM(K:Kq)(f:Dz):Sp:=λj H Q _=>∃P F a b o x g d,j=.ref a::b/\f o x=some (g,d)/\DHp P F H/\F a=none/\P a=none/\o.flat=true/\(∃u,H a=some u/\ORep1 K F o u)/\DVs K P F H x b /\
 ∀v e h,Same F e->DHp P e h->e a=none->(∃i,h a=some i/\ORep1 K e g i)->g.flat=true->Rep K e v d->Q v h
def ku(a:Addr)(o':OD)(d:D):RES->Prop
 |.nx ρ=>ρ[0]?=some (some<|.own o'<|some a)/\d=.non
 |.rt x ρ=>x=.v d/\ρ[0]?=some (some<|.own o'<|some a)
 |_=>False
def DInv.startM{a}{o}N p(h:DHp P F H)(s:F a=none)(l:P a=none)(fl:o.flat=true)(m:∃u,H a=some u/\ORep1 K F o u)(r:DVs K P F H xs vs)(q:xs.length+1=p) :
  DInv K P F H (bn N.length p (.own o (some a)::xs)) (L2.start N (.ref a::vs)):=by
 refine⟨h,?_,λb=>if b=a then some 0 else none,λi x e=>?_⟩
 ·unfold bn L2.start;rw[Yb,Yb,Yc,Yc,YA,YA,Yg,Yg,<-r.length,q]
 ·have j:=iA e;cases i with
  |zero=>
   cases j;refine⟨.ref a,eV rfl,a,rfl,(ORep.flat fl).mpr ⟨⟨s,l,Yh rfl⟩,m⟩,λb z=>by cases z;rfl⟩
  |succ i=>
   obtain⟨f,v,w,g⟩:=r.get j;refine⟨v,eV<|by simpa using w,?_⟩;cases x with
   |own o t=>cases f
   |v d=>exact g
   |bor o=>exact g
def Fun.okM{P}{f}{m}(F:Fun K x qual st f fd)(S:FnScope N ps (defScope st))
  (U:∀a o xs o' d,m o xs=some (o',d)->xs.length+1=ps.length/\o'.flat=true/\∃r,g (bn N.length ps.length (.own o (some a)::xs))=some r/\ku a o' d r)
  (l:∀cdv A outer s H E,Room k (A.deeper<|envOfC qual (defScope st) s.heap.objs.size f cdv)->
   PDS (cY CX0 P w K mg base N qual (defScope st) f cdv A outer s H E).nox (defBody st) g):FnOk P w K mg base CX0 (k+1) f fd ps (spM K m):=by
 refine F.ok S (λX H Q E M=>?_) λcdv A outer s H X Q E hr h=>?_
 ·obtain⟨R,T,a,C,o,xs,o',d,e,O,_,_,_,_,_,L,_⟩:=M;rw[e,Yg,<-L.length];exact(U 0 o xs o' d O).1
 ·refine⟨_,l cdv A outer s H E hr,?_⟩;obtain⟨R,T,a,C,o,xs,o',d,rfl,O,hp,hf,hP,fl,ho,L,hQ⟩:=h;obtain⟨hl,z,r,hg,B⟩:=U a o xs o' d O;have I:=DInv.startM N ps.length hp hf hP fl ho L hl;refine⟨R,T,_,r,hg,I,?_⟩;have fin:∀b p i j v,b[0]?=some (some<|.own o'<|some a)->Same T i->DInv K R i j b p->Rep K i v d->Q v j:=λb p i j v y e q J=>by
   obtain⟨v',_,a',rfl,h3,h4⟩:=q.at y;have ea:=h4 a rfl;subst ea;obtain⟨⟨q1,q2,_⟩,u,Z,Y⟩:=(ORep.flat z).mp h3;exact hQ v i j e q.toDHp q1 ⟨u,Z,Y⟩ z J
  cases r with
  |nx b=>(obtain⟨y,rfl⟩:=B;exact λp i j e q=>fin b p i j .non y e q .non)
  |rt x b=>(obtain⟨rfl,y⟩:=B;exact λv p i j e q J=>fin b p i j v y e q J)
  |bk b=>exact B.elim
  |ct b=>exact B.elim
def gdx(F H:Hp)(a:Addr):Hp:=λb=>if b=a then none else gd F H b
def sE{a b}{o}:gdx F H a b=some o↔b≠a/\F b=none/\H b=some o:=by
 unfold gdx;by_cases h:b=a
 ·rw[Yh h];simp[h]
 ·rw[Yp h,ja];simp[h]
def Gb(s:Same F H)a:DHp (gdx F H a) F H:=⟨s,λb o e=>(sE.mp e).2.2,λb o e=>(sE.mp e).2.1⟩
def ArgsS.dvx(I:DInv K P F H ρ σ){o}{t}{a}(hi:ρ[i]?=some (some (.own o t)))(g:σ[i]?=some (some (.ref a)))(fl:o.flat=true):∀{xs}{vs},ArgsS K ρ σ F xs vs->(∀x∈xs,∃d,x=.v d)->DVs K (gdx F H a) F H xs vs:=by
 intro xs vs h;induction h with
 |nil=>exact λ_=>.nil
 |v h _ ih=>exact λf=>.cons rfl h<|ih λx m=>f x<|Ye _ m
 |b j h1 h2 _ ih=>
  intro f;obtain⟨d,e⟩:=f _ Yf;cases e
def Ct(xs:List DV):Bool:=xs.all λx=>match x with
 |.v _=>true
 |_=>false
def G2(h:Ct xs=true):∀x∈xs,∃d,x=.v d:=λx m=>by
 have:=YE.mp h x m;cases x with
 |v d=>exact⟨d,rfl⟩
 |_=>cases this
noncomputable def rO(K:Kq)(i:Nat)(m:Dz)(g:Dv):DF->Option (DF×D):=λa=>match a[i]? with
 |some (some<|.own o t)=>if o.flat=true then(g a).bind λx=>if Ct x=true then(m o x).map λr=>(a.set i<|some<|.own r.1 t,r.2)else none else none
 |_=>none
noncomputable def i6(K:Kq)(i:Nat)(m:Dz)(g:Dv):DF->Option RES:=λa=>(rO K i m g a).map λr=>.nx r.1
def uR{o}{a}(I:DInv K P F1 H1 ρ σ)(hi:ρ[i]?=some (some (.own o t)))(C:σ[i]?=some (some (.ref a)))(fl:o.flat=true)(x:o'.flat=true)
  (e2:Same F1 F2) (h:DHp (gdx F1 H1 a) F2 H2) (f2:F2 a=none) (Q:∃B,H2 a=some B/\ORep1 K F2 o' B):DInv K P F2 H2 (ρ.set i<|some<|.own o' t) σ:=by
 obtain⟨O,E⟩:=I.rep;obtain⟨v,H,b,rfl,S,N⟩:=E i _ hi;rw[C]at H;cases H;obtain⟨⟨X,l,g⟩,u,U,_⟩:=(ORep.flat fl).mp S;have keep:∀b u,b≠a->F1 b=none->H1 b=some u->H2 b=some u/\F2 b=none:=λb u f n q=>⟨h.pro b u<|sE.mpr ⟨f,n,q⟩,h.dis b u<|sE.mpr ⟨f,n,q⟩⟩
 refine⟨⟨h.sub,λb u q=>(keep b u (λz=>by subst z;rw[l]at q;cases q) (I.dis b u q)<|I.pro b u q).1,λb u q=>(keep b u (λz=>by subst z;rw[l]at q;cases q) (I.dis b u q)<|I.pro b u q).2⟩,by rw[Zf];exact I.len,O,λj z R=>?_⟩;rcases gx R with⟨rfl,e,Y⟩|⟨s,p⟩
 ·cases e;exact⟨_,C,a,rfl,(ORep.flat x).mpr ⟨⟨f2,l,g⟩,Q⟩,N⟩
 ·obtain⟨w,T,A⟩:=E j z p;refine⟨w,T,?_⟩;cases z with
  |v d'=>exact Rep.same e2 A
  |own od t'=>
   obtain⟨c,rfl,y,m⟩:=A;refine⟨c,rfl,y.mono e2 λb J q f=>?_,m⟩;obtain⟨M,L⟩:=keep b J (λz=>by subst z;rw[q.2.2]at g;exact s (Yv g).symm) q.1 f;exact⟨M,L,q.2⟩
  |bor od=>(obtain⟨c,rfl,y⟩:=A;exact⟨c,rfl,y.mono e2 λb u q f=>⟨f,q⟩⟩)
section
variable  {k:Nat}{f:Addr}         {g:Dv}
def t9 i(G:FnOk X.prog X.w X.K X.mg X.base CX0 k f fd ps (spM X.K mM))(h:Room k X.A)(hg:Gl X x)(hm:X.mg x=some (.ref f))(hk:PySem.W.keepIn X.K (.ref f)=true)(hb:Binds X.K fd ps [])(h0:PE X e (cB i))(ha:jR X es g)
  (hd:nDb x:=by decide) (he:starEach (e::es) X.env=(false,eval e X.env)::starEach es X.env:=by rfl) (z:(backTo pos<|starEach es X.env).any (·.1)=false:=by rfl) (y:swapsWith (.Call (.Name x p) (e::es) [] pos) none spos.line X.env=pure false:=by rfl) :
  PD1 X (.Expr (.Call (.Name x p) (e::es) [] pos) spos) (i6 X.K i mM g):=
 PS.imp (dB (mX G h hg hm hk hb .nil mf (aI h0 ha he) hd he z) y) λE R H=>un7 λP F M r h I k=>by
  unfold i6 rO at h;split at h
  ·rename_i N t q;split at h
   ·rename_i j;cases s:g M with
    |none=>rw[s]at h;cases h
    |some m=>
     rw[s,Ya]at h;split at h
     ·rename_i av;cases o:mM N m with
      |none=>rw[o]at h;cases h
      |some b=>
       rw[o]at h;cases h;obtain⟨v,C,a,rfl,h2,h3⟩:=I.at q;obtain⟨⟨a1,a2,_⟩,u,a3,a4⟩:=(ORep.flat j).mp h2;refine⟨_,C,P,F,M,m,s,I,λS Q H1 l T=>?_⟩;have L:=I.evo l;obtain⟨Y,U⟩:=l.keep a u a3 a1;refine⟨gdx Q H1 a,Q,a,S,N,m,b.1,b.2,by simp,o,Gb L.sub a,U,by unfold gdx;rw[Yh rfl],j,⟨u,Y,a4.same l.ext⟩,T.dvx L q C j<|G2 av,λv F2 H2 O B f2 Z J rv=>?_⟩;exact k R F2 H2 (l.ext.trans O)<|uR L q C j J O B f2 Z
     ·cases h
   ·cases h
  ·cases h
def RepsF.look{vs}{ds}(h:RepsF K H vs ds):ds.lookup n=some d->∃v,vs.lookup n=some v/\Rep K H v d:=
 RepsF.ind (M:=λvs ds=>ds.lookup n=some d->∃v,vs.lookup n=some v/\Rep K H v d) (λe=>by cases e) (λh _ ih e=>by
  rw[aT]at e ⊢;split at e
  ·rename_i q;cases e;rw[Yh q];exact⟨_,rfl,h⟩
  ·rename_i q;rw[Yp q];exact ih e) h
def RepsF.no{vs}{ds}(h:RepsF K H vs ds):ds.lookup n=none->vs.lookup n=none:=
 RepsF.ind (M:=λvs ds=>ds.lookup n=none->vs.lookup n=none) (λ_=>rfl) (λ_ _ ih e=>by
  rw[aT]at e ⊢;split at e
  ·cases e
  ·rename_i q;rw[Yp q];exact ih e) h
def fF(C:Addr)(n:Str):D->Option D
 |.ins C' fs=>if C'=C then fs.lookup n else none
 |_=>none
def h8(c:Cls X.K C)(o:NoAttr X.K C n)(h:PDR X e fa)(p:attributeBase e n X.env (eval e X.env)=eval e X.env:=by rfl):PDE X (.Attribute e n pos) (d1 (fF C n) fa):=
 (jN h p).imp λE H Q=>un7 λP F i d f I k=>by
  unfold d1 at f;cases q:fa i with
  |none=>rw[q]at f;cases f
  |some g=>
   rw[q,Ya]at f;refine⟨P,F,i,g,q,I,λy B A j m=>?_⟩;cases g with
   |ins C' fs=>
    have b:(if C'=C then fs.lookup n else none)=some d:=f;split at b
    ·rename_i s;subst s;obtain⟨a,g,l,rfl,z,x⟩:=qR (I.evo j) m;obtain⟨v,w,u⟩:=x.look b;exact⟨a,C',g,l,v,rfl,z,c,o,w,k v B A j u⟩
    ·cases b
   |_=>cases f
noncomputable def oH(f:Str)(v:D):List (Str×D)->List (Str×D)
 |[]=>[(f,v)]
 |(g,x)::r=>if g=f then(g,v)::r else(g,x)::oH f v r
def RepsF.put(a:Rep K H v d){vs}{ds}(h:RepsF K H vs ds):RepsF K H (da n v vs) (oH n d ds):=
 RepsF.ind (M:=λvs ds=>RepsF K H (da n v vs)<|oH n d ds) (.cons a .nil) (λ{k _ _ _ _} h r ih=>by
  unfold da oH;by_cases q:k=n
  ·rw[Yh q,Yh q];exact .cons a r
  ·rw[Yp q,Yp q];exact .cons h ih) h
def RepsF.length{vs}{ds}(h:RepsF K H vs ds):vs.length=ds.length:=RepsF.ind (M:=λvs ds=>vs.length=ds.length) rfl (λ_ _ ih=>YH Nat.succ ih) h
noncomputable def pI(C:Addr)(i:Nat)(n:Str)(fv:Dd):DF->Option RES:=λa=>match a[i]? with
 |some (some<|.own (.ins C' fs) t)=>if C'=C then(fv a).bind λd=>if fs.length<1000 then some (.nx<|a.set i<|some<|.own (.ins C<|oH n d fs) t)else none else none
 |_=>none
def rD i(c:Cls X.K C)(x:NoAttr X.K C n)(w:PE X o (cB i))(hv:PDE X value fv)(s:swapsWith value (some (.Attribute o n pos')) pos.line X.env=pure false:=by rfl) :
  PD1 X (.Assign [.Attribute o n pos'] value pos) (pI C i n fv):=PS.imp (vk w hv s) λE m H=>un7 λP F j r h I k=>by
 unfold pI at h;split at h
 ·rename_i g fs t q;split at h
  ·rename_i A;subst A;cases f:fv j with
   |none=>rw[f]at h;cases h
   |some d=>
    rw[f,Ya]at h;split at h
    ·rename_i z;cases h;obtain⟨v,l,a,rfl,⟨⟨J,M,_⟩,u,B,b⟩,_⟩:=I.at q;cases u with
     |ins C'' dx vs=>
      obtain⟨rfl,b⟩:=b;refine⟨P,F,j,d,f,I,λy L N e p=>⟨_,l,a,g,dx,vs,rfl,(e.keep a _ B J).1,c,x,by rwa[b.length],k m L _ e.ext ?_⟩⟩;exact(I.evo e).mut q rfl rfl l ⟨rfl,(RepsF.same e.ext b).put p⟩
     |_=>exact b.elim
    ·cases h
  ·cases h
 ·cases h
noncomputable def xa(C:Addr):DV->Option (List (Str×D))
 |.v (.ins C' fs)=>if C'=C then some fs else none
 |.bor (.ins C' fs)=>if C'=C then some fs else none
 |.bor (.obj (some C') fs)=>if C'=C then some (fs.map λp=>(p.1,p.2.dat))else none
 |_=>none
def uu(C:Addr)(mn:Str):List DV->Bool
 |x::_=>match xa C x with
  |some fs=>(fs.lookup mn).isNone
  |none=>false
 |[]=>false
noncomputable def fZ(C:Addr)(mn:Str)(m:Dm)(g:Dv):DF->Option D:=λa=>(g a).bind λx=>if uu C mn x=true then(m x).bind dvD else none
end
def DVs.heap(h:DVs K P F H xs vs):DVs K P F H' xs vs:=by
 induction h with
 |nil=>exact .nil
 |@cons x _ _ _ h r _ ih=>
  refine .cons h ?_ ih;cases x with
  |v d=>exact r
  |bor o=>exact r
  |own o t=>cases h
noncomputable def jb(i:Nat):DF->Option DV:=λa=>match a[i]? with
 |some (some<|.own o _)=>some<|.bor o
 |some (some<|.bor o)=>some<|.bor o
 |some (some<|.v d)=>some<|.v d
 |_=>none
noncomputable def gK(s:DF->Option DV)(g:Dv):DF->Option (List DV):=λa=>(s a).bind λx=>(g a).map λb=>x::b
def g0:DF->Option (List DV):=λ_=>some []
def Self1(K:Kq)(ρ:DF)(σ:St)(F:Hp)(x:DV)(v:V):Prop:=ArgsS K ρ σ F [x] [v]
def Self1.cons{x}(h:Self1 K ρ σ F x v)(e:Same F F')(r:ArgsS K ρ σ F' xs vs):ArgsS K ρ σ F' (x::xs) (v::vs):=by
 cases h with
 |v h _=>exact .v (h.same e) r
 |b i h1 h2 _=>exact .b i h1 h2 r
def Dh{vs}(h:All2 (λp (q:Str×FO)=>p.1=q.1/\FRep K F H ow q.2 p.2) vs fs):(fs.map λp=>(p.1,p.2.dat)).lookup n=none->vs.lookup n=none:=by
 induction h with
 |nil=>exact λ_=>rfl
 |@cons p q _ _ h _ ih=>
  obtain⟨x,v⟩:=p;obtain⟨y,o⟩:=q;obtain⟨e,r⟩:=h;cases e;intro e;rw[YD,aT]at e;rw[aT];split at e
  ·cases e
  ·rename_i z;rw[Yp z];exact ih e
def Self1.ins{x}(I:DInv K P F H ρ σ)(h:Self1 K ρ σ F x v)(hi:xa C x=some fs):∃a dx vs,v=.ref a/\H a=some (.ins C dx vs)/\∀n,fs.lookup n=none->vs.lookup n=none:=by
 cases h with
 |@v d _ _ _ h _=>
  cases d with
  |ins l fs'=>
   have e:(if l=C then some fs' else none)=some fs:=hi;split at e
   ·rename_i j;subst j;cases e;obtain⟨a,dx,vs,g,f,m⟩:=qR I<|.inl h;exact⟨a,dx,vs,g,f,λn=>m.no⟩
   ·cases e
  |_=>cases hi
 |@b o _ _ _ i g f _=>
  cases o with
  |ins l fs'=>
   have e:(if l=C then some fs' else none)=some fs:=hi;split at e
   ·rename_i j;subst j;cases e;obtain⟨a,dx,vs,g,f,m⟩:=qR I<|RepS.slot I g f rfl;exact⟨a,dx,vs,g,f,λn=>m.no⟩
   ·cases e
  |obj C0 fs'=>
   cases C0 with
   |none=>cases hi
   |some l=>
   have e:(if l=C then some (fs'.map λp=>(p.1,p.2.dat))else none)=some fs:=hi;split at e
   ·rename_i j;subst j;cases e;obtain⟨a,rfl,_,dx,vs,s,_,q⟩:=I.slot g f;exact⟨a,dx,vs,rfl,s,λn=>Dh q⟩
   ·cases e
  |_=>cases hi
def zh(K:Kq)(s:DF->Option DV):TE:=λb H Q=>∃P F a x,s a=some x/\DInv K P F H a b/\∀v f e,Evo P F H f e->Self1 K a b f x v->Q v e
def uS(X:Cx)(e:Expr)(s:DF->Option DV):Prop:=PE X e<|zh X.K s
section
variable  {k:Nat}{f:Addr}         {g:Dv}{s:DF->Option DV}
def CN i(h:PE X e (cB i)):uS X e (jb i):=PE.imp h λj H Q=>un7 λP F l x f I k=>by
 unfold jb at f;split at f
 ·rename_i o t q;cases f;have⟨v,a,_⟩:=I.at q;exact⟨v,a,k v F H (Evo.refl I.toDHp)<|.b i a (.inl ⟨t,q⟩) .nil⟩
 ·rename_i o q;cases f;have⟨v,a,_⟩:=I.at q;exact⟨v,a,k v F H (Evo.refl I.toDHp)<|.b i a (.inr q) .nil⟩
 ·rename_i d q;cases f;have⟨v,a,g⟩:=I.at q;exact⟨v,a,k v F H (Evo.refl I.toDHp)<|.v g .nil⟩
 ·cases f
def ve{x}(h:uu C mn (x::xs)=true):∃fs,xa C x=some fs/\fs.lookup mn=none:=by
 unfold uu at h;cases q:xa C x with
 |none=>simp[q]at h
 |some fs=>exact⟨fs,rfl,by simpa[q]using h⟩
def Ay{E}{Q}{F}{y}(h:gK s g ρ=some xs)(B:uu C mn xs=true)(J:m xs=some y)(I:DInv K P F H ρ σ)
  (k:∀v F1 H1 F2 H2,Evo P F H F1 H1->Same F1 F2->DHp (gd F1 H1) F2 H2->DVRep K (gd F1 H1) F2 H2 tE y v->Q v H2):nP C mn (spD K m) [] E (zh K s) (tLV K g) σ H Q:=by
 unfold gK at h;cases q:s ρ with
 |none=>rw[q]at h;cases h
 |some x=>
  rw[q,Ya]at h;cases b:g ρ with
  |none=>rw[b]at h;cases h
  |some j=>
   rw[b]at h;cases h;obtain⟨fs,M,L⟩:=ve B;refine⟨P,F,ρ,x,q,I,λv F1 H1 o l=>?_⟩;have i:=I.evo o;obtain⟨a,S,u,rfl,O,N⟩:=l.ins i M;refine⟨a,S,u,rfl,O,N _ L,P,F1,ρ,j,b,i,λX F2 H2 f A=>?_⟩;have p:=i.evo f;refine⟨gd F2 H2,F2,x::j,y,J,iI p.sub,by rw[Yl];exact(l.cons f.ext A).dvs p,λw U T R e z=>k w F2 H2 U T (o.trans f) R e z⟩
def Eu{E}:∀σ H Q,tD K (fZ C mn m (gK s g)) σ H Q->nP C mn (spD K m) [] E (zh K s) (tLV K g) σ H Q:=λσ H Q=>un7 λP F J d h I k=>by
 unfold fZ at h;cases q:gK s g J with
 |none=>rw[q]at h;cases h
 |some L=>
  rw[q,Ya]at h;split at h
  ·rename_i M;cases e:m L with
   |none=>rw[e]at h;cases h
   |some y=>
    rw[e,Ya]at h;refine Ay q M e I λv R B p l j z f w=>?_;have A:=I.evo j;have x:=A.toDHp.gd z f;cases y with
    |v d'=>cases h;exact k v p l (j.trans x) w
    |own o t=>
     cases h;obtain⟨a,rfl,N,_⟩:=w;have i:=sK z N;exact k _ _ l (j.trans<|x.freeze A.toDHp _ λ_ q=>q)<|i.rep (dq λb q=>q.2) λb u q O=>by rwa[gM q]
    |bor o=>cases h
  ·cases h
def gc(he:uS X o s)(c:Cls X.K C)(y:Meth X.K C mn f)(G:FnOk X.prog X.w X.K X.mg X.base CX0 k f fd ps (spD X.K m))(u:Room k X.A)(z:Binds X.K fd ps [])
  (q:eval (.Call (.Attribute o mn apos) [] [] pos) X.env=(do
   let b <-eval o X.env
   standAt apos.atName
   let (f,first) <-holding [b]<|getMethod b mn pl
   callWith pos f first (backTo pos<|starEach [] X.env)<|backToKw pos<|keywordEach [] X.env):=by rfl):PDE X (.Call (.Attribute o mn apos) [] [] pos) (fZ C mn m<|gK s g0):=
 (tT he c y G u z .nil mf q).imp λg H Q h=>by
  have:=Eu (E:=E0) g H Q h;obtain⟨P,F,j,x,L,J,I⟩:=this;refine⟨P,F,j,x,L,J,λv U e N r=>?_⟩;obtain⟨a,R,fs,M,O,l,Z,T,i,Y,p,S,B⟩:=I v U e N r;cases p;exact⟨a,R,fs,M,O,l,B [] T e (Evo.refl S.toDHp) .nil⟩
noncomputable def pY(C:Addr)(mM:Dz)(g:Dv):DF->Option OD:=λa=>(g a).bind λx=>match mM (.ins C []) x with
 |some (o',.non)=>if o'.flat=true then some o' else none
 |_=>none
def BS(M:Mk X.K C f)(G:FnOk X.prog X.w X.K X.mg X.base CX0 k f fd ps (spM X.K mM))(Y:Room (k+1) X.A)(hg:Gl X x)(hm:X.mg x=some (.ref C))(hb:Binds X.K fd ps [])(ha:jR X (e::es) g)
  (o:nDb x:=by decide) (he:starEach (e::es) X.env=(false,eval e X.env)::starEach es X.env:=by rfl) (j:(backTo pos<|starEach es X.env).any (·.1)=false:=by rfl):PDO X (.Call (.Name x p) (e::es) [] pos) (pY C mM g):=
 (xA M G Y hg hm hb .nil mf ha o he j).imp λσ H Q=>un7 λP F E ob h I k=>by
  unfold pY at h;cases q:g E with
  |none=>rw[q]at h;cases h
  |some J=>
   rw[q,Ya]at h;split at h
   ·rename_i o' U;split at h
    ·rename_i fl;cases h;refine⟨P,F,E,J,q,I,λR O B s T y N i m hne=>?_⟩;have a:=I.evo s;have L:Same B (upd (upd B N<|.own y) y<|.ins C N []):=λb u z=>by rwa[aA<|aS z i,aA<|aS z m]
     refine⟨gd O B,O,y,R,.ins C [],J,ob,.non,by simp,U,⟨a.sub.trans L,λb u z=>L b u<|(iI a.sub).pro b u z,(iI a.sub).dis⟩,a.sub.free i,(iI a.sub).pro.free i,rfl,⟨_,aE,rfl,.nil⟩,(T.dvs a).heap,λv F2 H2 e2 l f2 Z fl' S=>?_⟩;cases S;exact⟨rfl,k y F2 H2 (s.trans<|a.toDHp.gd e2 l)<|(ORep.flat fl).mpr ⟨⟨s.back I.toDHp i,f2⟩,Z⟩⟩
    ·cases h
   ·cases h
end
section
variable{κ:Type} [DecidableEq κ]
noncomputable def dC(kvs:List (κ×D))(k:κ):Option D:=(kvs.find? λa=>decide<|a.1=k).map (·.2)
def iL(kvs:List (κ×D))(k:κ)(v:D):List (κ×D):=
 if(kvs.any λa=>decide<|a.1=k)=true then kvs.map (λa=>if a.1=k then(a.1,v)else a)else kvs++[(k,v)]
end
def ye{k k'}{vs:List (List Key×V)}:d4 ((k',v)::vs) k=if k'=k then some v else d4 vs k:=by unfold d4;by_cases q:k'=k<;>simp[Zj,q]
def jr[DecidableEq κ]{k k'}{vs:List (κ×D)}:dC ((k',v)::vs) k=if k'=k then some v else dC vs k:=by unfold dC;by_cases q:k'=k<;>simp[Zj,q]
def RepsT.val{vs}{ds}(h:RepsT K H vs ds):(d4 vs k=none/\dC ds k=none)\/∃v d,d4 vs k=some v/\dC ds k=some d/\Rep K H v d:=
 RepsT.ind (M:=λvs ds=>(d4 vs k=none/\dC ds k=none)\/∃v d,d4 vs k=some v/\dC ds k=some d/\Rep K H v d) (.inl ⟨rfl,rfl⟩) (λ{a v d vs ds} h _ ih=>by
  rw[ye,jr];by_cases q:a=k
  ·rw[Yh q,Yh q];exact .inr ⟨v,d,rfl,rfl,h⟩
  ·rwa[Yp q,Yp q]) h
def RepsT.any{vs}{ds}(h:RepsT K H vs ds):(vs.any λa=>decide (a.1=k))=ds.any λa=>decide (a.1=k):=
 RepsT.ind (M:=λvs ds=>(vs.any λa=>decide<|a.1=k)=ds.any λa=>decide<|a.1=k) rfl (λ_ _ ih=>by rw[Xt,Xt,ih]) h
def RepsT.map(g:Rep K H v d){vs}{ds}(h:RepsT K H vs ds):RepsT K H (vs.map λa=>if a.1=k then(a.1,v)else a) (ds.map λa=>if a.1=k then(a.1,d)else a):=
 RepsT.ind (M:=λvs ds=>RepsT K H (vs.map λa=>if a.1=k then(a.1,v)else a)<|ds.map λa=>if a.1=k then(a.1,d)else a) .nil (λ{b e f vs ds} h _ ih=>by
  rw[YD,YD];by_cases q:b=k
  ·rw[Yh<|show(b,e).1=k from q,Yh<|show(b,f).1=k from q];exact .cons g ih
  ·rw[Yp<|show ¬(b,e).1=k from q,Yp<|show ¬(b,f).1=k from q];exact .cons h ih) h
def RepsT.snoc(a:Rep K H v d){vs}{ds}(h:RepsT K H vs ds):RepsT K H (vs++[(k,v)]) (ds++[(k,d)]):=
 RepsT.ind (M:=λvs ds=>RepsT K H (vs++[(k,v)])<|ds++[(k,d)]) (.cons a .nil) (λh _ ih=>.cons h ih) h
def RepsT.put{vs}{ds}(a:Rep K H v d)(r:RepsT K H vs ds):RepsT K H (fL vs k v) (iL ds k d):=by
 unfold fL iL;rw[r.any];split
 ·exact r.map a
 ·exact r.snoc a
def RepsT.length{vs}{ds}(h:RepsT K H vs ds):vs.length=ds.length:=RepsT.ind (M:=λvs ds=>vs.length=ds.length) rfl (λ_ _ ih=>YH Nat.succ ih) h
noncomputable def lD:D->Option Key
 |.int i=>some<|.inl i
 |.str x=>some<|.inr x
 |_=>none
noncomputable def jS:List D->Option (List Key)
 |[]=>some []
 |d::ds=>(lD d).bind λk=>(jS ds).map λr=>k::r
def uI:D->Option (List Key)
 |.tup ds=>jS ds
 |_=>none
def Reps.keys(h:Reps K H vs ds):jS ds=some ks->vs=ks.map kV:=
 Reps.ind (M:=λvs ds=>∀ks:List Key,jS ds=some ks->vs=ks.map kV) (λks e=>by cases e;rfl) (λ{v d vs ds} h _ ih ks e=>by
  unfold jS at e;cases q:lD d with
  |none=>rw[q]at e;cases e
  |some k=>
   rw[q,Ya]at e;cases a:jS ds with
   |none=>rw[a]at e;cases e
   |some b=>
    rw[a]at e;cases e;rw[ih _ a,YD];cases d with
    |int i=>cases q;cases h;rfl
    |str i=>cases q;cases h;rfl
    |_=>cases q) h ks
def xc{y}(a:DHp P F H)(r:Rep K F y dy)(h:uI dy=some ks):∃b,y=.ref b/\H b=some (.tup (ks.map kV)):=by
 cases dy with
 |tup ds=>cases r with|tup h1 h2=>exact⟨_,rfl,by rw[a.sub _ _ h1,h2.keys h]⟩
 |_=>cases h
section
variable  {i f:Expr}  {fd fk:Dd}
noncomputable def mQ(fd fk fx:Dd):DF->Option D:=λa=>match fd a with
 |some (.dT kvs)=>(fk a).bind λy=>(uI y).bind λk=>(fx a).map λx=>(dC kvs k).getD x
 |_=>none
theorem Af(hu:X.A.units+64<cLine)(ho:PDR X o fd)(hi:PDE X e fk)(hx:PDE X f fx)(m:M2 X o "get" apos e f cpos:=by exact⟨rfl,rfl,rfl,rfl⟩):PDE X (.Call (.Attribute o "get" apos) [e,f] [] cpos) (mQ fd fk fx):=(zW (by omega) ho hi hx m).imp λσ H Q=>un7 λP F b d h I k=>by
 unfold mQ at h;split at h
 ·rename_i g qa;cases E:fk b with
  |none=>rw[E]at h;cases h
  |some dy=>
   rw[E,Ya]at h;cases C:uI dy with
   |none=>rw[C]at h;cases h
   |some J=>
    rw[C,Ya]at h;cases B:fx b with
    |none=>rw[B]at h;cases h
    |some O=>
     rw[B]at h;cases h;refine⟨P,F,b,_,qa,I,λx F1 H1 j N=>?_⟩;obtain⟨p,U,rfl,h1,h2⟩:=B_ (I.evo j) N;refine⟨p,rfl,.inr ⟨U,.inl h1⟩,P,F1,b,_,E,I.evo j,λy F2 H2 l Z=>⟨P,F2,b,_,B,(I.evo j).evo l,λz s R i Y=>?_⟩⟩;have I3:=((I.evo j).evo l).evo i;obtain⟨p',T,ep,M,L⟩:=B_ I3<|(N.evo l).evo i;cases ep;obtain⟨q,rfl,h3⟩:=xc i.hp (Z.same i.ext) C;refine⟨_,DGet.t M h3,?_⟩;have a:=(j.trans l).trans i;rcases L.val with⟨w,u⟩|⟨v,d',w,u,S⟩
     ·rw[w];exact k _ s R a<|by rwa[u]
     ·rw[w];exact k _ s R a<|by rwa[u]
 ·cases h
def xI:PDO X (.Dict [] [] pos) (λ_=>some (.dT [])):=zx.imp λb H Q=>un7 λP F e ob a I k=>by
 cases a;exact λp h=>k p F _ (Evo.side I.toDHp h) ⟨⟨h,(I.toDHp.free h).1⟩,_,aE,.nil⟩
noncomputable def xB(j:Nat)(fk fv:Dd):DF->Option RES:=λa=>match a[j]? with
 |some (some<|.own (.dT kvs) t)=>(fv a).bind λv=>(fk a).bind λy=>(uI y).bind λk=>if kvs.length<16777216 then some (.nx<|a.set j<|some<|.own (.dT<|iL kvs k v) t)else none
 |_=>none
def Dp j(hu:X.A.units+64<cLine)(N:PE X o (cB j))(hi:PDE X i fk)(hv:PDE X e fv)(M:swapsWith e (some (.Subscript o i pos')) pos.line X.env=pure false:=by rfl):PD1 X (.Assign [.Subscript o i pos'] e pos) (xB j fk fv):=
 PS.imp (mY (by omega) N hi hv M) λE B H=>un7 λP F f r h I k=>by
  unfold xB at h;split at h
  ·rename_i s t q;cases g:fv f with
   |none=>rw[g]at h;cases h
   |some dv=>
   rw[g,Ya]at h;cases m:fk f with
   |none=>rw[m]at h;cases h
   |some R=>
   rw[m,Ya]at h;cases l:uI R with
   |none=>rw[l]at h;cases h
   |some Z=>
   rw[l,Ya]at h;split at h
   ·rename_i O;cases h;obtain⟨v,w,p,rfl,⟨⟨T,a2,_⟩,u,S,b⟩,_⟩:=I.at q;cases u with
    |dT vs=>
     have b:=b;refine⟨P,F,f,_,g,I,λv Y H1 z J=>⟨_,w,P,Y,f,_,m,I.evo z,λy U H2 x C=>?_⟩⟩;have a:=z.trans x;obtain⟨L,k2⟩:=a.keep p _ S T;obtain⟨b',rfl,Q⟩:=xc a.hp C l;refine⟨p,_,rfl,DPut.t L Q<|by rwa[YL,b.length],k B U _ a.ext ?_⟩;exact(I.evo a).mut q rfl rfl w<|(RepsT.same a.ext b).put<|J.same x.ext
    |_=>exact b.elim
   ·cases h
  ·cases h
end
end L2
namespace L2
open PySem PySem.Spec PyProof.Rows PySem.W
def sh(prog:Program)(w:World)(A:Around)(Q:Kv)(vs:List Value)(s1:Shared):Prop:=
 vs.length<64/\∃(f:SortKind) (lt:Nat->Nat->Bool),Ord lt /\
  (2<=vs.length->∀h,(∀b u,s1.heap.get? b=some u->h.get? b=some u)->∀Q (E:Kv),Q f {s1 with heap:=h }->wpAny (model prog w) A.in1.in1 (keyKind' vs.toArray) Q E {s1 with heap:=h }) /\
  (∀h,(∀b u,s1.heap.get? b=some u->h.get? b=some u)->∀i j C,i<vs.length->j<vs.length->C (lt i j) {s1 with heap:=h }->kas_ask prog w A.in1.in1 f vs i j C {s1 with heap:=h }) /\
  ∀p,PermN vs.length p->Ris lt p vs.length->∀(a:Addr) h e,(∀b u,s1.heap.get? b=some u->h.get? b=some u)->s1.heap.objs.size<=a->h.get? a=some (seqObj "list" (lU vs p) e)->Q (.ref a) {s1 with heap:=h }
def tm{Q}(x:wpAny (model prog w) A.in1 (collect v) (sh prog w A Q) E s) :
  wpAny (model prog w) A (call (.builtin "sorted") [v]) Q E s:=by
 refine Calls.call_function_entry kind_sorted plain_sorted entry_sorted (args_sorted1 _) ?_;unfold Builtin.«sorted»;refine Yr<|YT ?_;refine Yr<|ZC x (λf a y=>?_) λ_ _ e=>e;obtain⟨h64,z,lt,o,H,J,h⟩:=y;refine Yr<|wpAny_newList ?_ (by rw[YL];omega);have i:(a.heap.push _).get? a.heap.objs.size=some (seqObj "list" f.toArray 0):=YK _ rfl;have keep:∀b u,a.heap.get? b=some u->(a.heap.push<|seqObj "list" f.toArray 0).get? b=some u:=λb u q=>Yx _ q
 have l:∀g:Heap,(∀b u,b≠a.heap.objs.size->(a.heap.push _).get? b=some u->g.get? b=some u)->∀b u,a.heap.get? b=some u->g.get? b=some u:=λg k b u e=>
  k b u (YJ<|YC e)<|keep b u e
 refine Yr<|Xb<|wpAny_call_entry slot_list_sort ⟨_,i,rfl⟩ entry_list_sort ?body<|args_list_sort _
 case body=>
  refine pr i h64 z lt o (λK g k Q q=>H K g (l g k) Q _ q) (λg k=>J g<|l g k) λp C B=>⟨_,rfl,?_⟩
  obtain⟨e,I⟩:=sortedHeap_at (out:=lU f p) i;refine YT ⟨_,rfl,h p C B a.heap.objs.size _ e (λb u q=>?_) (Yy _) I⟩;have j:=YC q;show(sortedHeap _ a.heap.objs.size f _).get? b=some u;rw[sortedHeap_old (YJ j)<|by rw[size_push'];exact Xs j];exact keep b u q
theorem o9{l}{vs}{Q:Kl}(f:IsTup s.heap l vs.toArray)
  (h:Q vs {s with heap:=(s.heap.push<|seqObj "list" #[] 0).update s.heap.objs.size<|Obj.mapSeq (·++vs.toArray)}) (hsz:vs.length<=sizeLine) :
  wpAny (model prog w) A (collect<|.ref l) Q E s:=by
 have⟨o,e,i,n,g⟩:=id f;unfold collect;refine Yr<|wpAny_runValue<|XS entry_proto_collect' ?_;refine Yr<|wpAny_newList<|YT ⟨Code.quiet_builtin _<|by decide+kernel,XS entry_list_iadd' ?_⟩;show wpAny _ _ (Builtin.List.listExtendWith _ _ _) _ _ {s with heap:=s.heap.push _};unfold Builtin.List.listExtendWith;have a:(s.heap.push<|seqObj "list" #[] 0).get? l=some o:=Yx _ e;refine Yr<|wpAny_typeOf (T := "tuple") ⟨o,a,i⟩ ?_;have b:(Value.type "tuple" == Value.type "tuple")=true:=by rfl
 rw[Yh<|by rw[b];simp];refine Yr<|listItems_at a g ?_;refine Yr<|listItems_at (YK _ rfl) rfl ?_;rw[Yp<|by simp];refine Yr<|listUpdate_at (YK _ rfl) rfl ?_ (YQ _) (by show(#[]++vs.toArray).size<=sizeLine+1;simp[Array.size_append,Yu,Zc];omega);refine YT ?_
 refine Yr<|wpAny_load (get?_update_seq (YK _ rfl) _) ?_;show wpAny _ _ (pure ((#[])++vs.toArray).toList) Q E _;rw[show((#[]:Array Value)++vs.toArray).toList=vs by simp];exact YT h
def nI{h:Heap}{vs:List Value}{b}{u}(q:h.get? b=some u):((h.push (seqObj "list" #[] 0)).update h.objs.size (Obj.mapSeq (·++vs.toArray))).get? b=some u:=by have a:=YC q;rwa[Heap.get?_update_ne _ _ _ _<|YJ a,Xu _ _ _<|YJ a]
def sk:D->Bool
 |.int _=>true
 |.str _=>true
 |.tup (_::_)=>true
 |_=>false
def fk:D->Bool
 |.int _=>true
 |.str _=>true
 |.tup _=>true
 |_=>false
def wS:D->Bool
 |.tup (d::_)=>fk d
 |_=>true
noncomputable def eJ(ds:List D):Bool:=decide (ds.length<64)&&ds.all (okN 28)&&(ds.all λx=>ds.all λy=>aF x y)&&ds.all sk&&ds.all wS
def jP(h:eJ ds=true):ds.length<64/\Cmps 28 ds/\(∀d∈ds,sk d=true)/\∀d∈ds,wS d=true:=by unfold eJ at h;simp only[Yn,YF]at h;obtain⟨⟨⟨⟨l,j⟩,i⟩,g⟩,f⟩:=h;exact⟨l,⟨λd a=>YE.mp j d a,λx e y b=>YE.mp (YE.mp i x e) y b⟩,λd a=>YE.mp g d a,λd a=>YE.mp f d a⟩
def dAt(ds:List D)(i:Nat):D:=ds.getD i<|ds.headD<|.int 0
def r8(h:ds≠[])i:dAt ds i∈ds:=by
 unfold dAt;cases ds with
 |nil=>exact absurd rfl h
 |cons d r=>
  rw[YX];cases q:(d::r)[i]? with
  |none=>exact Yf
  |some x=>exact Zd q
def rG(h:i<ds.length):ds[i]?=some (dAt ds i):=by unfold dAt;rw[YX,Yz h];rfl
def Hu(a:Cmps n ds):Ord λi j=>ltD (dAt ds i) (dAt ds j):=by
 by_cases b:ds=[]
 ·subst b;have e:∀i,dAt [] i=.int 0:=λi=>by simp[dAt]
  refine⟨λi j h=>?_,λi j k g f=>?_⟩
  ·rw[e,e]at h;simp[ltD]at h
  ·rw[e,e];simp[ltD]
 ·have m:=λi=>r8 b i
  refine⟨λi j h=>?_,λi j k g f=>?_⟩
  ·exact(kO n _ _ (a.1 _<|m i) (a.1 _<|m j)<|a.2 _ (m i) _<|m j).as h
  ·exact qp (a.1 _<|m i) (a.1 _<|m j) (a.1 _<|m k) (a.2 _ (m i) _<|m j) (a.2 _ (m j) _<|m k) (a.2 _ (m i) _<|m k) (a.2 _ (m j) _<|m i) (a.2 _ (m k) _<|m j) (a.2 _ (m k) _<|m i) g f
theorem vN(o:Cmps n ds){p}(b:PermN ds.length p)(m:Ris (λi j=>ltD (dAt ds i) (dAt ds j)) p ds.length):p.toList.map (dAt ds)=ff ds:=by
 refine oT ?_ o ?_
 ·have l:(p.toList.map _).Perm ((List.range ds.length).map<|dAt ds):=b.perm.map _;have q:(List.range ds.length).map (dAt ds)=ds:=by
   apply List.ext_getElem?;intro i;rw[YI];by_cases h:i<ds.length
   ·rw[List.getElem?_range h,ZQ,rG h]
   ·rw[Vh<|by rw[XZ];omega,Vh<|by omega];rfl
  rwa[q]at l
 ·rw[Vy,List.pairwise_iff_getElem];intro i j g f a;have s:=b.size;rw[ZD]at g f;have:=m i j (Zz a) (by omega);have e:∀k _,p.getD k 0=p[k]:=λk h=>by simp[Array.getD,h]
  rw[e,e]at this;simpa using this
theorem Reps.perm(r:Reps K H vs ds)(a:ds≠[]):∀(l:List Nat),(∀i∈l,i<ds.length)->Reps K H (l.map λi=>vs.getD i .non) (l.map (dAt ds))
 |[],_=>.nil
 |i::l,h=>by
  obtain⟨v,g,f⟩:=r.get<|rG<|h i Yf;have e:vs.getD i .non=v:=by rw[YX,g];rfl
  rw[YD,YD];rw[e];exact .cons f<|Reps.perm r a l λj b=>h j<|Ye _ b
theorem Vals.perm(r:Vals vs us):∀(l:List Nat),(∀i∈l,i<vs.length)->Vals (l.map λi=>vs.getD i .non) (l.map λi=>us.getD i Value.none)
 |[],_=>.nil
 |i::l,h=>by
  have a:=h i Yf;obtain⟨u,f,e⟩:=r.get<|Yz a;have m:vs.getD i .non=vs[i]:=by rw[YX,Yz];rfl
  have g:us.getD i Value.none=u:=by rw[YX,f];rfl
  rw[YD,YD];rw[m,g];exact .cons e<|Vals.perm r l λj b=>h j<|Ye _ b
noncomputable def tyD:D->Value
 |.int _=>.type "int"
 |.str _=>.type "str"
 |_=>.type "tuple"
def Rep.ty(I:Inv X pz σ H s)(h:Rep X.K H v d)(e:fk d=true)(r:RelV v u)M:Looks M s.heap (typeOf u) (tyD d):=by
 cases d with
 |int i=>cases h;obtain⟨t,rfl⟩:=(show ∃t,u=Value.int _ t from r);exact Looks.of_pure rfl
 |str i=>cases h;obtain⟨t,rfl⟩:=(show ∃t,u=Value.str _ t from r);exact Looks.of_pure rfl
 |tup ds=>
  cases h with
  |tup h1 h2=>
   cases(show u=Value.ref _ from r);obtain⟨a,j,⟨o,b,g,n,l⟩,_⟩:=I.tuple<|SqT.of h1;have:=(Looks.ld (M:=M) (part:=none) b).andThen (f:=λo=>pure o.cls) .now;rwa[g]at this
 |_=>cases e
def u_{x y}(h:aF x y=true)(hx:fk x=true):tyD x=tyD y:=by
 rcases bx h with⟨i,j,rfl,rfl⟩|⟨i,j,rfl,rfl⟩|⟨i,j,rfl,rfl⟩|⟨i,j,rfl,rfl,_⟩
 ·rfl
 ·cases hx
 ·rfl
 ·rfl
noncomputable def pD:List D->SortKind
 |.tup (d::_)::_=>tuples'<|tyD d != .type "tuple"
 |_=>oneType'
def vL(I:Inv X pz σ H s):∀{vs}{ds}{us},Reps X.K H vs ds->Vals vs us->(∀d∈ds,∃x r,d=.tup (x::r)/\fk x=true)->∀T:Value,(∀x r,.tup (x::r)∈ds->tyD x=T)->
  ∃fs:List Value,KatTups s.heap us fs/\fs.length=us.length/\∀M,∀v∈fs,Looks M s.heap (typeOf v) T:=by
 intro vs ds us h;exact Reps.ind (M:=λvs ds=>∀us:List Value,Vals vs us->(∀d∈ds,∃x r,d=.tup (x::r)/\fk x=true)->∀T:Value,(∀x r,.tup (x::r)∈ds->tyD x=T) ->     ∃fs:List Value,KatTups s.heap us fs/\fs.length=us.length/\∀M,∀v∈fs,Looks M s.heap (typeOf v) T) (λus r _ _ _=>by cases r;exact⟨[],.nil,rfl,λ_ _ h=>by cases h⟩) (λh _ ih us i b T e=>by
  cases i with
  |cons r t=>
  obtain⟨x,g,rfl,p⟩:=b _ Yf;obtain⟨fs,A,z,y⟩:=ih _ t (λd m=>b d<|Ye _ m) T λx r m=>e x r<|Ye _ m
  cases h with
  |tup h1 h2=>
   cases(show _=Value.ref _ from r);obtain⟨l,f,⟨o,q,u,n,a⟩,_⟩:=I.tuple<|SqT.of h1;cases h2 with
   |cons w C=>
    cases f with
    |cons j B=>
     refine⟨_::fs,KatTups.cons q u a (by simp;rfl) A,by rw[Yg,Yg,z],λM v hv=>?_⟩;rcases Yw.mp hv with rfl|hv
     ·rw[<-e x g Yf];exact w.ty I p j M
     ·exact y M v hv) h us
def sv(h:sk d=true)(a:kD d=false):fk d=true:=by cases d<;>first|rfl|cases h|cases a
theorem CI(I:Inv X pz σ H s)(r:Reps X.K H vs ds)(w:Vals vs us)(ok:eJ ds=true)(h2:2<=us.length){Q}(z:Q (pD ds) s) :
  wpAny M A (keyKind' us.toArray) Q E s:=by
 obtain⟨hl,N,q,J⟩:=jP ok;have S:=r.length;have l2:=w.length;cases ds with
 |nil=>rw[Zc]at S;omega
 |cons d C=>
  have g:d∈d::C:=Yf;cases l:kD d with
  |true=>
   cases d with
   |tup xs=>
    cases xs with
    |nil=>have:=q _ g;cases this
    |cons x P=>
     have T:=J _ g;have all:∀f∈(D.tup (x::P)::C),∃y b,f=.tup (y::b)/\fk y=true/\tyD y=tyD x:=λf m=>by
      have a:=N.2 _ g _ m;rcases bx a with⟨i,j,e,_⟩|⟨i,j,e,_⟩|⟨i,j,e,_⟩|⟨i,j,e,B,p⟩
      ·cases e
      ·cases e
      ·cases e
      ·cases e;subst B;cases j with
       |nil=>have:=q _ m;cases this
       |cons y b=>
        rw[b5,Yn]at p;exact⟨y,b,rfl,J _ m,(u_ p.1 T).symm⟩
     obtain⟨fs,f1,f2,f3⟩:=vL I r w (λf m=>by obtain⟨y,b,e,h,_⟩:=all f m;exact⟨y,b,e,h⟩) (tyD x) λy b m=>by
      obtain⟨y',R,e,_,h⟩:=all _ m;cases e;exact h
     exact kat_kind f1 (by omega) (f3 M) (by cases x<;>rfl) z
   |_=>cases l
  |false=>
   have L:=sv (q d g) l;have e:pD (d::C)=oneType':=by cases d<;>first|rfl|cases l
   rw[e]at z;have Z:∀u∈us,Looks M s.heap _ (tyD d):=λu U=>by
    obtain⟨i,Y,eu⟩:=Vq U;have o:i<vs.length:=by omega
    obtain⟨u',O,B⟩:=w.get<|Yz o;rw[Yz Y,eu]at O;cases O;obtain⟨f,e3,e4⟩:=r.getV<|Yz o;have m:=Zd e3;have a:=N.2 _ g _ m;rw[u_ a L];refine e4.ty I ?_ B M;refine sv (q f m) ?_;rcases bx a with⟨i,j,rfl,rfl⟩|⟨i,j,rfl,rfl⟩|⟨i,j,rfl,rfl⟩|⟨i,j,rfl,rfl,_⟩
    ·rfl
    ·rfl
    ·rfl
    ·cases l
   refine kas_kind h2 Z ?_ ?_ z
   ·cases d<;>first|rfl|(simp[fk]at L;done)|(simp[kD]at l;done)
   ·cases d<;>rfl
theorem CQ{b}{Q:Kb}{n1 n2}:∀{us f}{ds es} i,LexOk A s us f ds es->(b=true->i=0->∀u j d e o wr y er,us=u::o->f=j::wr->ds=d::y->es=e::er->∀(Q:Kb) (E:Kv),Q (ltD d e) s->wpAny (model prog w) A (oneLt' true u j) Q E s)->
  us.length+n2=f.length+n1->Q (cE ds es) s->KatLex prog w A b (decide<|n1<n2) Q (us.zip f) i s:=by
 intro us f ds es i h;induction h generalizing i with
 |@nl f es hl=>
  intro _ g a;rw[List.zip_nil_left];refine kat_nil ?_;rw[Zc]at g;cases es with
  |nil=>
   rw[Zc]at hl;rw[show cE [] []=false by simp[cE]]at a;rwa[Yi<|by omega]
  |cons c r=>
   rw[Yg]at hl;rw[show cE [] (c::r)=true by simp[cE]]at a;rwa[Yk<|by omega]
 |@nr vs ds hl=>
  intro _ g a;rw[List.zip_nil_right];refine kat_nil ?_;rw[Zc]at g;cases ds with
  |nil=>
   rw[Zc]at hl;rw[show cE [] []=false by simp[cE]]at a;rwa[Yi<|by omega]
  |cons c r=>
   rw[Yg]at hl;rw[show cE (c::r) []=false by simp[cE]]at a;rwa[Yi<|by omega]
 |@cons v j d e _ _ _ _ p l B ih=>
  intro x g a;rw[Vu];rw[Yg,Yg]at g;refine kat_cons<|p prog w _ _ ?_;cases q:eqd d e with
  |true=>
   rw[cE,Yh q]at a;exact kat_yes<|ih (i+1) (λ_ z=>by omega) (by omega) a
  |false=>
   rw[cE,Yp<|by rw[q];exact Ym]at a;refine kat_no ?_;cases m:(b&&i == 0)with
   |true=>
    rw[Yn]at m;exact x m.1 (by simpa using m.2) _ _ _ _ _ _ _ _ rfl rfl rfl rfl _ _ a
   |false=>exact kat_one _ _<|l q prog w _ _ a
def B7{x y}{d e}(h1:Rep X.K H x d)(h2:Rep X.K H y e)(c:aF d e=true)(hd:fk d=true)(g:kD d=false)(b:RelV x u)(a:RelV y v){Q:Kb}(h:Q (ltD d e) s) :
  wpAny (model prog w) A (oneLt' true u v) Q E s:=by
 rcases bx c with⟨i,j,rfl,rfl⟩|⟨i,j,rfl,rfl⟩|⟨i,j,rfl,rfl⟩|⟨i,j,rfl,rfl,_⟩
 ·cases h1;cases h2;obtain⟨t,rfl⟩:=(show ∃t,u=Value.int _ t from b)
  obtain⟨f,rfl⟩:=(show ∃t,v=Value.int _ t from a)
  exact oneLt_int<|by rwa[ltD]at h
 ·cases hd
 ·cases h1;cases h2;obtain⟨t,rfl⟩:=(show ∃t,u=Value.str _ t from b)
  obtain⟨f,rfl⟩:=(show ∃t,v=Value.str _ t from a)
  exact oneLt_str<|by rwa[ltD]at h
 ·cases g
theorem Hf(I:Inv X pz σ H s)(r:Reps X.K H vs ds)(B:Vals vs us)(ok:eJ ds=true)(hu:A.units+60<cLine){C:Kb}(hi:i<us.length)(hj:j<us.length)(P:C (ltD (dAt ds i) (dAt ds j)) s) :
  kas_ask prog w A (pD ds) us i j C s:=by
 obtain⟨hl,l,J,hf⟩:=jP ok;have l1:=r.length;have l2:=B.length;obtain⟨v,e1,T⟩:=r.get<|rG (show i<ds.length by omega);obtain⟨v',e2,S⟩:=r.get<|rG (show j<ds.length by omega);obtain⟨u,e3,Z⟩:=B.get e1;obtain⟨R,e4,Y⟩:=B.get e2;have p:ds≠[]:=λz=>by rw[z,Zc]at l1;omega
 have m:=r8 p i;have U:=r8 p j;have g:=l.2 _ m _ U;unfold kas_ask;have g1:us.getD i Value.none=u:=by rw[YX,e3];rfl
 have g2:us.getD j Value.none=R:=by rw[YX,e4];rfl
 rw[g1,g2];generalize hx:dAt ds i=x,hy:dAt ds j=y at *;cases o:kD x with
 |false=>
  have e:pD ds=oneType':=by
   cases ds with
   |nil=>exact absurd rfl p
   |cons d dr=>
    have:=l.2 _ m d Yf;rcases bx this with⟨i,j,rfl,rfl⟩|⟨i,j,rfl,rfl⟩|⟨i,j,rfl,rfl⟩|⟨i,j,rfl,rfl,_⟩
    ·rfl
    ·rfl
    ·rfl
    ·cases o
  rw[e,keyLt'_oneType];exact B7 T S g (sv (J _ m) o) o Z Y P
 |true=>
  cases x with
  |tup xs=>
   cases xs with
   |nil=>have:=J _ m;cases this
   |cons q xr=>
    rcases bx g with⟨_,_,e,_⟩|⟨_,_,e,_⟩|⟨_,_,e,_⟩|⟨xs',ys,e,rfl,h⟩
    ·cases e
    ·cases e
    ·cases e
    ·cases e;have ek:pD ds=tuples' (tyD q != .type "tuple"):=by
      cases ds with
      |nil=>exact absurd rfl p
      |cons d dr=>
       have:=l.2 _ m d Yf;rcases bx this with⟨_,_,e,_⟩|⟨_,_,e,_⟩|⟨_,_,e,_⟩|⟨_,zs,e,rfl,hz⟩
       ·cases e
       ·cases e
       ·cases e
       ·cases e;cases zs with
        |nil=>have:=J _ Yf;cases this
        |cons z0 zr=>
         rw[b5,Yn]at hz;show tuples' _=_;rw[u_ hz.1<|hf _ m]
     rw[ek];cases T with
     |tup a1 a2=>
      cases S with
      |tup b1 b2=>
       cases(show u=Value.ref _ from Z);cases(show R=Value.ref _ from Y);obtain⟨its1,b,⟨o1,M,hc1,n1,O⟩,_⟩:=I.tuple<|SqT.of a1;obtain⟨its2,a,⟨o2,L,hc2,n2,N⟩,_⟩:=I.tuple<|SqT.of b1;have oi:=l.1 _ m;have oj:=l.1 _ U;have f:=Reps.lex I 27 A (by omega) (Rep.lt I 27 A<|by omega) a2 b2 (cz oi) (cz oj) h b a;refine kat_lt M O L N ?_;simp[Yu];refine CQ 0 f (λhb _ u0 w0 d0 e0 ur wr dr er q1 q2 q3 q4 Q E hq=>?_) (by omega) (by rwa[ltD]at P);subst q1 q2 q4;cases q3;cases a2 with
       |cons a3 a4=>
        cases b2 with
        |cons b3 b4=>
         cases b with
         |cons c1 c2=>
          cases a with
          |cons c3 c4=>
           rw[b5,Yn]at h;refine B7 a3 b3 h.1 (hf _ m) ?_ c1 c3 hq;cases q<;>first|rfl|(simp[tyD]at hb)
  |_=>cases o
theorem Al(I:Inv X pz σ H s)(r:Reps X.K H vs ds)(m:Vals vs us)(ok:eJ ds=true)(T:X.A.units+64<cLine){Q}
  (P:∀a (p:List Nat) s',H a=none->(∀i∈p,i<ds.length)->p.length=ds.length->p.map (dAt ds)=ff ds->Inv X pz σ (upd H a<|.lst<|p.map λi=>vs.getD i .non) s'->Q (.ref a) s'):sh X.prog X.w X.A Q us s:=by
 obtain⟨U,B,_,_⟩:=jP ok;have o:=r.length;have z:=m.length;refine⟨by omega,pD ds,_,Hu B,λR J k Q E q=>CI (I.kept k) r m ok R q,λJ k i j C f O M=>?_,λp N L a J e k b g=>?_⟩
 ·have u:X.A.in1.in1.units+60<cLine:=by show X.A.units+1+1+60<cLine;omega
  exact Hf (I.kept k) r m ok u f O M
 ·have h:PermN ds.length p:=by rwa[<-o,z]
  have x:Ris (λi j=>ltD (dAt ds i)<|dAt ds j) p ds.length:=by rwa[<-o,z]
  have S:=vN B h x;have bd:∀i∈p.toList,i<ds.length:=λi f=>Zq.mp<|h.perm.mem_iff.mp f
  have y:=I.hok.fresh b;have l:p.toList.length=ds.length:=by rw[ZD];exact h.size
  refine P a p.toList _ y bd l S<|I.laid k b ⟨?_,p.toList.map λi=>us.getD i Value.none,e,Vals.perm m p.toList λi f=>by rw[o];exact bd i f,?_⟩
  ·rw[Yc,l,YL];omega
  ·exact g
def uL(y:X.A.units+64<cLine):CallR X (.builtin "sorted") (λxs H Q=>∃a vs ds,xs=[.ref a]/\(SqL X.K H a vs\/SqT X.K H a vs)/\Reps X.K H vs ds/\eJ ds=true/\∀l (p:List Nat),H l=none->(∀i∈p,i<ds.length)->p.length=ds.length->p.map (dAt ds)=ff ds->Q (.ref l) (upd H l (.lst (p.map λi=>vs.getD i .non)))):=by
 intro x s m H xs E Q I r h;obtain⟨a,vs,ds,rfl,hq,z,ok,q⟩:=h;obtain⟨u,rfl,o⟩:=jM r;cases o;refine tm ?_;have fin:∀f:List Value,Vals vs f->sh X.prog X.w X.A (EP X x m Q) f {s with heap:=(s.heap.push _).update s.heap.objs.size<|Obj.mapSeq (·++f.toArray)}:=λf g=>
  Al (I.kept λb u e=>nI e) z g ok y λl p J B b1 b2 b3 C=>⟨.ref l,_,C,rfl,q l p B b1 b2 b3⟩
 rcases hq with hq|hq
 ·have⟨f,g,pl,j⟩:=I.list hq;exact collect_list pl.isList (fin f g)<|by rwa[<-g.length]
 ·have⟨f,g,pl,j⟩:=I.tuple hq;exact o9 pl (fin f g)<|by rwa[<-g.length]
noncomputable def pH(fa:Dd):DF->Option (List D):=λb=>(fa b).bind λd=>(fU d).bind λa=>if eJ a=true then some (ff a)else none
def jZ(M:X.A.units+64<cLine)(O:Gl X "sorted")(N:X.mg "sorted"=none)(g:PDR X e fa)(E:starEach [e] X.env=[(false,eval e X.env)]:=by rfl)(s:(backTo pos (starEach [] X.env)).any (·.1)=false:=by rfl) :
  PDO X (.Call (.Name "sorted" p) [e] [] pos) (asL<|pH fa):=
 (dh (uL M) O N uq (aI g aZ E) (by decide) (by decide) E s).imp λR H Q=>un7 λP F B ob h I k=>by
  unfold asL pH at h;cases g:fa B with
  |none=>rw[g]at h;cases h
  |some y=>
  rw[g,Ya]at h;cases f:fU y with
  |none=>rw[f]at h;cases h
  |some b=>
  rw[f,Ya]at h;split at h
  ·rename_i ok;cases h;refine⟨P,F,B,y,g,I,λx z L m C=>?_⟩;have o:=I.evo m;have fin:∀a,Reps X.K z a b->∀l (p:List Nat),L l=none->(∀i∈p,i<b.length)->p.length=b.length->p.map _=ff b->Q _ (upd L l<|.lst<|p.map λi=>a.getD i .non):=λa r l p u b1 b2 b3=>by
    refine k l z _ (m.trans<|Evo.side m.hp u) ⟨⟨m.back I.toDHp u,(m.hp.free u).1⟩,_,aE,?_⟩;by_cases J:b=[]
    ·subst J;have:p=[]:=ZO.mp b2;rw[this];exact .nil
    ·rw[<-b3];exact r.perm J p b1
   cases y with
   |lst ds'=>
    cases f;obtain⟨q,a,rfl,w,j⟩:=im o C;exact⟨q,a,b,rfl,.inl w,j.same o.sub,ok,fin a j⟩
   |tup ds'=>
    cases f;obtain⟨q,a,rfl,w,j⟩:=kI o C;exact⟨q,a,b,rfl,.inr w,j.same o.sub,ok,fin a j⟩
   |_=>cases f
  ·cases h
end L2
namespace L2
open PySem PySem.Spec PyProof.Rows
def tOI(K:Kq)(f:DF->Option (Option Int)):TO:=λg H Q=>∃P F a b,f a=some b/\DInv K P F H a g/\∀h e,Evo P F H h e->Q b e
def PDB(X:Cx)(e:Option Expr)(f:DF->Option (Option Int)):Prop:=PO X e<|tOI X.K f
def bNo:DF->Option (Option Int):=λ_=>some none
noncomputable def bI(f:Dd):DF->Option (Option Int):=λa=>match f a with
 |some (.int i)=>some<|some i
 |_=>none
section
variable  {c:Expr}   {lo hi:Option Expr}  {fl fh:DF->Option (Option Int)}
def PO.imp{t t'}{e}(h:PO X e t)(i:∀σ H Q,t' σ H Q->t σ H Q):PO X e t':=λp s σ H Q I q=>h p s σ H Q I<|i σ H Q q
def nD:PDB X none bNo:=PO.imp Cr λa H Q=>un7 λP F e b h I k=>by
 cases h;exact k F H<|Evo.refl I.toDHp
def kA(h:PDE X e f):PDB X (some e) (bI f):=PO.imp (EN h) λo H Q=>un7 λP F g b a I k=>by
 unfold bI at a;split at a
 ·rename_i i q;cases a;refine⟨P,F,g,_,q,I,λv m l j r=>?_⟩;cases r;exact⟨i,rfl,k m l j⟩
 ·cases a
def JI:V->Option Int->Option Int->Hp->VK->Prop:=λx l h H Q=>∃z,x=.str z/\z.length<=sizeLine/\Q (.str<|Txt.slice z l h) H
def wp{o}(h:IsPart v o):∃l:Option (Int×Tok),v=partValue l/\l.map (·.1)=o:=by
 cases h with
 |none=>exact⟨none,rfl,rfl⟩
 |int i t=>exact⟨some (i,t),rfl,rfl⟩
def F6:SlR X JI:=by
 intro C s w H x v A y b f B Q I g j pl p h;obtain⟨z,rfl,i,q⟩:=h;have a:=Txt.slice_le z b f;obtain⟨t,rfl⟩:=g;obtain⟨l,rfl,o⟩:=wp pl;obtain⟨u,rfl,m⟩:=wp p;refine⟨"str",_,PySem.F.slot_str_getitem.lookup,Vw s z t,wpAny_getItem_str_slice (st:=none) j rfl ?_⟩;have e:slicePicked z l u none=Builtin.Str.strSliceIndices b f 1 z.length:=by unfold slicePicked;rw[o,m];rfl
 unfold sliceMade;rw[e];unfold Txt.slice at q a;show(if(1 == 1&&(Builtin.Str.strSliceIndices b f 1 z.length).length == z.length)=true then Made.val (.str z t)else Made.str ⟨((Builtin.Str.strSliceIndices b f 1 z.length).filterMap _).toArray⟩).post _ _;split
 ·rename_i c;rw[Yh c]at q;exact⟨.str z,H,I,⟨t,rfl⟩,q⟩
 ·rename_i c;rw[Yp c]at q a;exact⟨YW a i,⟨.str _,H,I.tok _,⟨_,rfl⟩,q⟩⟩
noncomputable def slS(fe:Dd)(fl fh:DF->Option (Option Int)):DF->Option D:=λa=>match fe a with
 |some (.str x)=>if x.length<=16777216 then(fl a).bind λl=>(fh a).map λh=>.str (Txt.slice x l h)else none
 |_=>none
def eX(he:PDR X e fe)(p:PDB X lo fl)(s:PDB X hi fh):PDE X (.Subscript e (.Slice lo hi none p2) pos) (slS fe fl fh):=(Ai F6 he p s).imp λC H Q=>un7 λP F a d q I k=>by
 unfold slS at q;split at q
 ·rename_i x m;split at q
  rotate_left
  ·cases q
  rename_i o;cases f:fl a with
  |none=>rw[f]at q;cases q
  |some l=>
  rw[f,Ya]at q;cases b:fh a with
  |none=>rw[b]at q;cases q
  |some h=>
  rw[b]at q;cases q;refine⟨P,F,a,_,m,I,λy B J g j=>⟨P,B,a,l,f,I.evo g,λA E i=>⟨P,A,a,h,b,(I.evo g).evo i,λz w u=>?_⟩⟩⟩;exact⟨x,k4 j,by rwa[YL],k _ z w ((g.trans i).trans u) .str⟩
 ·cases q
def B3(K:Kq):R2:=λx y H Q=>∃a b e f,x=.ref a/\y=.ref b/\SqT K H a e/\SqT K H b f/\e.length+f.length<=sizeLine /\
 (e=[]->Q (.ref b) H)/\(e≠[]->f=[]->Q (.ref a) H)/\(e≠[]->f≠[]->∀p,H p=none->Q (.ref p) (upd H p<|.tup<|e++f))
def t6:OpR X (binaryOp .Add) (B3 X.K):=by
 intro Y s N H x y v u Q I z w h;obtain⟨a,b,q,O,rfl,rfl,J,E,hz,U,T,S⟩:=h;by_cases f:q=[]
 ·cases z;cases w;obtain⟨e,R,p1,_⟩:=I.tuple J;obtain⟨i,r2,Z,_⟩:=I.tuple E;have hi:=R.nil_iff.mpr f;obtain⟨⟨cls,dd,L,P⟩,A,C,n,B⟩:=id p1;obtain⟨⟨M,o,p,m⟩,g,l,n2,j⟩:=id Z;simp at C B l j;subst C B l j;exact concat_meets ⟨_,A,rfl⟩ ⟨_,g,rfl⟩ noFill_tuple_add seq_tuple_add PySem.F.slot_tuple_add PySem.F.entry_tuple_add (PySem.F.args_tuple_add_2 _ _)
   (tuple_addW0 a b e.toArray i.toArray n n2 dd o P m<|by simp[hi]) ⟨A,g,⟨.ref b,H,I,rfl,U f⟩⟩
 ·exact C5 Y s N H _ _ v u Q I z w ⟨a,b,q,O,rfl,rfl,J,E,f,hz,T f,S f⟩
noncomputable def af:D->D->Option D
 |.int i,.int j=>some<|.int<|i+j
 |.str x,.str y=>if x.length+y.length<=16777216 then some (.str<|x++y)else none
 |.lst xs,.lst ys=>if xs.length+ys.length<=16777216 then some (.lst<|xs++ys)else none
 |.tup xs,.tup ys=>if xs.length+ys.length<=16777216 then some (.tup<|xs++ys)else none
 |_,_=>none
def Reps.nil_iff(r:Reps K H vs ds):vs=[]↔ds=[]:=by
 cases r with
 |nil=>simp
 |cons _ _=>simp
def ww:nY K (λx y H Q=>HQ x y H Q\/(E9 K x y H Q\/B3 K x y H Q)) af:=by
 intro P F H J E x y M L d Q a I i g k;unfold af at a;split at a
 ·cases a;exact .inl<|.inl ⟨_,_,d_ i,d_ g,k _ F H (Evo.refl I.toDHp) .int⟩
 ·split at a
  ·rename_i h;cases a;exact .inl<|.inr ⟨_,_,k4 i,k4 g,by rwa[YL],k _ F H (Evo.refl I.toDHp) .str⟩
  ·cases a
 ·split at a
  ·rename_i q;cases a;obtain⟨l,m,rfl,u,f⟩:=im I i;obtain⟨o,b,rfl,s,e⟩:=im I g;exact .inr<|.inl ⟨l,o,m,b,rfl,rfl,u,s,by rwa[f.length,e.length,YL],λp j=>k _ _ _ (Evo.laid I.toDHp j)<|.lst (SqL.of aE)<|(f.append e).same<|fj (I.toDHp.free j).1⟩
  ·cases a
 ·split at a
  ·rename_i C B q;cases a;obtain⟨l,m,rfl,u,f⟩:=kI I i;obtain⟨o,b,rfl,s,e⟩:=kI I g;have w:∀{y}{A},RepS K H F y _->Rep K F y (.tup A):=λh=>by
    rcases h with h|⟨_,ob,_,_,_,_,_,hfl,z⟩
    ·exact h
    ·cases ob<;>first|(cases z;done)|cases hfl
   refine .inr<|.inr ⟨l,o,m,b,rfl,rfl,u,s,by rwa[f.length,e.length,YL],λz=>?_,λ_ z=>?_,λ_ _ p j=>?_⟩
   ·have:C=[]:=f.nil_iff.mp z;subst this;exact k _ F H (Evo.refl I.toDHp)<|w g
   ·have:B=[]:=e.nil_iff.mp z;subst this;rw[Yl]at k;exact k _ F H (Evo.refl I.toDHp)<|w i
   ·exact k _ _ _ (Evo.laid I.toDHp j)<|.tup aE<|(f.append e).same<|fj (I.toDHp.free j).1
  ·cases a
 ·cases a
def ah(e:PDR X a fa)(h:PDR X b fb):PDE X (.BinOp a .Add b pos) (d2 af fa fb):=jO ((zz.or oS).or<|w9.or t6) ww e h
noncomputable def isT:String->D->Option Bool
 | "int",.int _=>some true
 | "bool",.int _=>some false
 | "bool",.bl _=>some true
 | "str",.str _=>some true
 | "list",.lst _=>some true
 | "tuple",.tup _=>some true
 |_,_=>none
def JW(K:Kq):List V->Hp->VK->Prop:=λa H Q=>∃x T d b,a=[x,.ty T]/\Rep K H x d/\isT T d=some b/\Q (.bl b) H
def Bg:CallR X (.builtin "isinstance") (JW X.K):=by
 intro p s j H z A Q I r h;obtain⟨x,T,d,b,rfl,m,g,q⟩:=h;obtain⟨u,w,rfl,a,l⟩:=qe r;cases(show w=Value.type T from l);have f:EP X p j Q _ s:=⟨.bl b,H,I,rfl,q⟩
 have y:EP X p j Q _ {s with toks:=s.toks+1}:=⟨.bl b,H,I.tok _,rfl,q⟩
 unfold isT at g;split at g<;>cases g<;>cases m
 ·obtain⟨t,rfl⟩:=(show ∃t,u=Value.int _ t from a);exact PySem.IsiPair.int_int f
 ·obtain⟨t,rfl⟩:=(show ∃t,u=Value.int _ t from a);exact PySem.IsiPair.int_bool y
 ·cases(show u=Value.bool _ from a);exact PySem.IsiPair.bool_bool f
 ·obtain⟨t,rfl⟩:=(show ∃t,u=Value.str _ t from a);exact PySem.IsiPair.str_str f
 ·cases(show u=Value.ref _ from a);rename_i i _;obtain⟨_,_,⟨o,n,e,c,_⟩,_⟩:=I.list i;exact PySem.IsiPair.list_list e c f
 ·cases(show u=Value.ref _ from a);rename_i i _;obtain⟨_,_,⟨o,e,c,_⟩,_⟩:=I.tuple<|SqT.of i;exact PySem.IsiPair.tuple_tuple e c f
noncomputable def kW(T:String)(d:D):Option D:=(isT T d).map .bl
def jQ{T}(z:Gl X "isinstance")(w:X.mg "isinstance"=none)(j:Gl X x)(i:X.mg x=none)(hv:bootBuiltins x=some (.type T))(A:PDN X a fa)(u:x ≠ "__name__":=by decide)(hd:nDb x:=by decide)
  (o:starEach [a,.Name x p1] X.env=[(false,eval a X.env),(false,eval (.Name x p1) X.env)]:=by rfl) (e:starEach [.Name x p1] X.env=[(false,eval (.Name x p1) X.env)]:=by rfl) (g:(backTo pos<|starEach [.Name x p1] X.env).any (·.1)=false:=by rfl) :
  PDE X (.Call (.Name "isinstance" p) [a,.Name x p1] [] pos) (d1 (kW T) fa):=
 (dh Bg z w cV (aI A (aI (wC (v:=.ty T) j i hv rfl u hd) aZ e)<|by rw[o,e]) (by decide) (by decide) (by rw[o,e]) g).imp λJ H Q=>un7 λP F m d h I k=>by
  unfold d1 kW at h;cases q:fa m with
  |none=>rw[q]at h;cases h
  |some l=>
   rw[q,Ya]at h;cases f:isT T l with
   |none=>rw[f]at h;cases h
   |some b=>
    rw[f]at h;cases h;exact⟨P,F,m,l,q,I,λy E C B s=>⟨y,T,l,b,rfl,s,f,k _ E C B .bl⟩⟩
end
def uF(I:Inv X pz σ H s){a}{xs}(h1:SqT X.K H a xs)(h2:SqL X.K H a ys):False:=by obtain⟨_,_,⟨o,e,c,_⟩,_⟩:=I.tuple h1;obtain⟨_,_,⟨g,n,b,f,_⟩,_⟩:=I.list h2;rw[e]at b;cases b;rw[c]at f;injection f with z;exact absurd z<|by decide
def Reps.detOf(ih:∀{v}{d d'},okN n d=true->okN n d'=true->Rep X.K H v d->Rep X.K H v d'->d=d')(h:Reps X.K H vs ds):∀b:List D,(∀d∈ds,okN n d=true)->(∀d∈b,okN n d=true)->Reps X.K H vs b->ds=b:=
 Reps.ind (M:=λvs ds=>∀b:List D,(∀d∈ds,okN n d=true)->(∀d∈b,okN n d=true)->Reps X.K H vs b->ds=b) (λb _ _ r=>by cases r;rfl) (λa _ i b h e r=>by
  cases r with
  |cons g f=>rw[ih (h _ Yf) (e _ Yf) a g,i _ (λd m=>h d<|Ye _ m) (λd m=>e d<|Ye _ m) f]) h
def Rep.det1(I:Inv X pz σ H s)n(ih:∀m,n=m+1->∀{v}{d d'},okN m d=true->okN m d'=true->Rep X.K H v d->Rep X.K H v d'->d=d')(h:okN n d=true)(h':okN n d'=true)(q:Rep X.K H v d)(r:Rep X.K H v d'):d=d':=by
 cases q with
 |non=>cases r;rfl
 |bl=>cases r;rfl
 |int=>cases r;rfl
 |str=>cases r;rfl
 |tup a1 a2=>
  cases r with
  |tup b1 b2=>
   rw[a1]at b1;cases b1;cases n with
   |zero=>cases h
   |succ n=>rw[Reps.detOf (ih n rfl) a2 _ (cz h) (cz h') b2]
  |lst b1 b2=>exact(uF I (SqT.of a1) b1).elim
  |dT b1 b2=>rw[a1]at b1;cases b1
  |dK b1 b2=>rw[a1]at b1;cases b1
  |ins b1 b2=>rw[a1]at b1;cases b1
  |fn b=>cases n<;>cases h'
  |exn b=>cases n<;>cases h'
 |lst a1 a2=>
  cases r with
  |tup b1 b2=>exact(uF I (SqT.of b1) a1).elim
  |lst b1 b2=>
   have e:=I.list_inj a1 b1;subst e;cases n with
   |zero=>cases h
   |succ n=>rw[Reps.detOf (ih n rfl) a2 _ (cz h) (cz h') b2]
  |_=>cases n<;>cases h'
 |_=>cases n<;>cases h
def Rep.det(I:Inv X pz σ H s)n:∀{v}{d d'},okN n d=true->okN n d'=true->Rep X.K H v d->Rep X.K H v d'->d=d':=by
 induction n with
 |zero=>exact λh a q r=>Rep.det1 I 0 (λm e=>by cases e) h a q r
 |succ n ih=>exact λh a q r=>Rep.det1 I (n+1) (λm e=>by cases e;exact ih) h a q r
def AA{v a}(h:RelV v u)(h':RelV a u):v=a:=RelV.inj h h'
open Classical in
noncomputable def Ap (us:List Value)(ds:List D)(dy:D)(u:Value):Bool:=decide (∃(i:Nat) (d:D),us[i]?=some u/\ds[i]?=some d/\eqd d dy=true)
open Classical in
def xo(I:Inv X pz σ H s){n:Nat}(r:Reps X.K H vs ds)(a:Vals vs us)(ok:∀d∈ds,okN n d=true){d:D}(h:us[i]?=some u)(hd:ds[i]?=some d):Ap us ds dy u=eqd d dy:=by
 unfold Ap;cases q:eqd d dy with
 |true=>exact Yk ⟨i,d,h,hd,q⟩
 |false=>
  refine Yi ?_;rintro⟨j,o,m,b,l⟩;obtain⟨v,y,x⟩:=r.get hd;obtain⟨z,b1,b2⟩:=r.get b;obtain⟨B,g,w⟩:=a.get y;obtain⟨A,f,p⟩:=a.get b1;rw[h]at g;cases g;rw[m]at f;cases f;have e:=AA w p;subst e;have:=x.det I n (ok d (Zd hd)) (ok o (Zd b)) b2;rw[this,l]at q;cases q
theorem A_(I:Inv X pz σ H s){y}{f}(r:Reps X.K H vs ds)(a:Vals vs us)(ok:∀d∈ds,okN 29 d=true)(w:Rep X.K H y dy)(o:okN 30 dy=true)(E:RelV y f)(P:A.units+60<cLine) :
  ∀u∈us,SeqAt.EqAt A s u f (Ap us ds dy u):=λu e=>by
 obtain⟨i,j,m⟩:=Vq e;have O:=r.length;have N:=a.length;have h:i<vs.length:=by omega
 obtain⟨L,q,J⟩:=a.get<|Yz h;rw[Yz j,m]at q;cases q;obtain⟨d,p,x⟩:=r.getV<|Yz h;rw[xo I r a ok (by rw[Yz j,m]) p];have g:=ok d<|Zd p;obtain⟨R,B⟩:=x.reads I 29 g J;obtain⟨Q,z⟩:=w.reads I 30 o E;obtain⟨b,C⟩:=eK 29 d g;obtain⟨l,M⟩:=eK 30 dy o;refine PySem.SeqAt.eqAt_reads _ _ A s _ _ _ _ B z b l ?_;have:min (dL d).depth (dL dy).depth<=30:=YW (Nat.min_le_left _ _) C;omega
noncomputable def sA(dy:D):List D->Option Nat
 |[]=>none
 |d::r=>if eqd d dy=true then some 0 else(sA dy r).map (· + 1)
theorem pK:∀{ds}{j},sA dy ds=some j->(∃d,ds[j]?=some d/\eqd d dy=true)/\∀m,m<j->∃d,ds[m]?=some d/\eqd d dy=false
 |[],_,h=>by cases h
 |d::r,j,h=>by
  unfold sA at h;split at h
  ·rename_i q;cases h;exact⟨⟨d,rfl,q⟩,λm b=>by omega⟩
  ·rename_i q;cases a:sA dy r with
   |none=>rw[a]at h;cases h
   |some k=>
    rw[a]at h;have h:=Yv h;have h:k+1=j:=h;subst h;obtain⟨f,e⟩:=pK a;refine⟨by simpa using f,λm b=>?_⟩;cases m with
    |zero=>exact⟨d,rfl,by simpa using q⟩
    |succ m=>simpa using e m<|by omega
section
variable  {c:Expr}   
end
section
variable  {c l:Expr}   
def kg{i}(a:Gl X x)(h:X.mg x=some (.int i t))(hd:nDb x:=by decide):PDE X (.Name x pos) (λ_=>some (.int i)):=tF (mV a h (v:=.int i) ⟨t,rfl⟩ hd) λ_=>.int
noncomputable def yt:D->D->Option D
 |.int i,.int j=>some<|.int<|if j > i then j else i
 |_,_=>none
noncomputable def y_:D->D->Option D
 |.int i,.int j=>some<|.int<|if j<i then j else i
 |_,_=>none
def Ce{f:Dy}(a:OpN2 K (λx y=>r [x,y]) f):∀σ H Q,tD K (d2 f fa fb) σ H Q->tCB r (nJ (tN K fa) (nJ (tN K fb) qN)) σ H Q:=λσ H Q h=>vh a σ H Q h
def GX:OpN2 K (λx y H Q=>∃i j,[x,y]=[V.int i,.int j]/\Q (.int (if j > i then j else i)) H) yt:=by
 intro P F H x y g f d Q h e b a k;unfold yt at h;split at h
 ·cases h;cases b;cases a;exact⟨_,_,rfl,k _ F H (Evo.refl e) .int⟩
 ·cases h
def FV:OpN2 K (λx y H Q=>∃i j,[x,y]=[V.int i,.int j]/\Q (.int (if j<i then j else i)) H) y_:=by
 intro P F H x y g f d Q h e b a k;unfold y_ at h;split at h
 ·cases h;cases b;cases a;exact⟨_,_,rfl,k _ F H (Evo.refl e) .int⟩
 ·cases h
def CS(j:X.calm=true)(i:Gl X "max")(g:X.mg "max"=none)(m:PDN X a fa)(l:PDN X b fb)(f:starEach [a,b] X.env=[(false,eval a X.env),(false,eval b X.env)]:=by rfl)(h:starEach [b] X.env=[(false,eval b X.env)]:=by rfl)(e:(backTo pos (starEach [b] X.env)).any (·.1)=false:=by rfl) :
  PDE X (.Call (.Name "max" p) [a,b] [] pos) (d2 yt fa fb):=
 (dh (yN j) i g AI (aI m (aI l aZ h)<|by rw[f,h]) (by decide) (by decide) (by rw[f,h]) e).imp<|Ce GX
def D4(j:X.calm=true)(i:Gl X "min")(g:X.mg "min"=none)(m:PDN X a fa)(l:PDN X b fb)(f:starEach [a,b] X.env=[(false,eval a X.env),(false,eval b X.env)]:=by rfl)(h:starEach [b] X.env=[(false,eval b X.env)]:=by rfl)(e:(backTo pos (starEach [b] X.env)).any (·.1)=false:=by rfl) :
  PDE X (.Call (.Name "min" p) [a,b] [] pos) (d2 y_ fa fb):=
 (dh (yy j) i g zR (aI m (aI l aZ h)<|by rw[f,h]) (by decide) (by decide) (by rw[f,h]) e).imp<|Ce FV
def rA:D->Bool
 |.bl _=>true
 |_=>false
def trD:D->Bool
 |.bl b=>b
 |_=>false
noncomputable def vd:D->Option D
 |.lst ds=>if ds.all rA=true then some (.bl<|ds.all trD)else none
 |_=>none
def fN(K:Kq):List V->Hp->VK->Prop:=λx H Q=>∃l b a,x=[.ref l]/\SqL K H l b/\Reps K H b a/\a.all rA=true/\Q (.bl<|a.all trD) H
def xK:(List.range ds.length).all (λi=>trD (ds.getD i .non))=ds.all trD:=by
 rw[Bool.eq_iff_iff,YE,YE];constructor
 ·intro h d b;obtain⟨i,a,e⟩:=Vq b;have:=h i<|Zq.mpr a;rwa[YX,Yz a,e]at this
 ·intro h i a;have a:=Zq.mp a;rw[YX,Yz a];exact h _<|List.getElem_mem a
theorem xX(N:X.calm=true):CallR X (.builtin "all") (fN X.K):=by
 intro pz s Y H Z us Q I r h;obtain⟨l,vs,j,rfl,M,B,O,q⟩:=h;obtain⟨u,rfl,L⟩:=jM r;cases L;obtain⟨a,y,pl,hz⟩:=I.list M;have p:=pl.isList;have l1:=B.length;have l2:=y.length;refine call_all_walk<|wpAny_pyIter_list p ?_;have w:l<s.heap.objs.size:=by obtain⟨o,e,_⟩:=p;exact YC e
 refine⟨s.heap.objs.size,[s.heap.objs.size,l],[s.heap.objs.size],a.toArray.size,_,_,λi=>trD<|j.getD i .non,rfl,Walks.list (by exact I.ok.hd N) s.heap.objs.size l (YJ w) a.toArray,⟨⟨_,YK _ rfl,rfl,rfl⟩,p.at λo e=>Yx _ e⟩,λi v J U E' m f=>?_,λh' E k=>?_⟩
 ·have m:a[i]?=some v:=by simpa using m
  have hi:=(YM.mp m).1;have g:i<j.length:=by omega
  obtain⟨w',T,S⟩:=B.get<|Yz g;obtain⟨u',C,R⟩:=y.get T;rw[m]at C;cases C;have x:=YE.mp O _<|List.getElem_mem g;have P:j.getD i .non=j[i]:=by rw[YX,Yz];rfl
  have f:U (trD _) J:=f;rw[P]at f;generalize j[i]=d at *;cases d with
  |bl b=>cases S;cases(show v=Value.bool _ from R);exact Ze f
  |_=>cases x
 ·have e:a.toArray.size=j.length:=by rw[Yu];omega
  rw[e,xK];refine⟨.bl _,H,I.kept λb o e=>k b o (λz=>?_)<|Yx _ e,rfl,q⟩;have z:b=s.heap.objs.size:=by simpa using z
  rw[z]at e;exact absurd (YC e)<|Zo _
def vE(l:X.calm=true)(j:Gl X "all")(i:X.mg "all"=none)(o:PDN X e fa)(b:starEach [e] X.env=[(false,eval e X.env)]:=by rfl)(a:(backTo pos (starEach [] X.env)).any (·.1)=false:=by rfl) :
  PDE X (.Call (.Name "all" p) [e] [] pos) (d1 vd fa):=
 (dh (xX l) j i BK (aI o aZ b) (by decide) (by decide) b a).imp (q_ λP F H x q d Q h g f k=>by
  cases q with
  |lst ds=>
   have h:(if ds.all rA=true then some (D.bl _)else none)=some d:=h;split at h
   ·rename_i m;cases h;cases f with|lst h1 h2=>exact⟨_,_,ds,rfl,h1,h2,m,k _ F H (Evo.refl g) .bl⟩
   ·cases h
  |_=>cases h)
def Its(x:Str):It:=⟨λi _=>i<x.cps.size,λi H v a=>a=H/\v=.str ⟨#[x.cps.getD i 0]⟩,λi _=>x.cps.size<=i⟩
def BJ{P}it x t ty(C:["enumerate","zip","dict_itemiterator","dict_reverseitemiterator","odict_iterator","itertools.zip_longest","itertools.pairwise"].contains ty=false)(W:∀A:Around,A.handled=none->Walks P w A it [it] [it] x.cps.size (SignAt x) (λi h=>h.IsStrIter it ty x t i))
  (g:∀A i s (Q:Kv) (E:Kv),s.heap.IsStrIter it ty x t i->Q (.ref it) s->wpAny (model P w) A (pyIter<|.ref it) Q E s):Turn P w K tg (Its x) [it] it (λi h=>h.IsStrIter it ty x t i/\i<=x.cps.size) where
 mem:=by simp
 obj:=λi h a b j=>by
  have e:b=it:=by simpa using j
  subst e;obtain⟨⟨o,e,c,d⟩,_⟩:=a;exact⟨o,e,λv z=>by rw[d]at z;cases z⟩
 keep:=λi h p a k=>by obtain⟨⟨o,e,r⟩,hl⟩:=a;exact⟨⟨o,k it (by simp) o e,r⟩,hl⟩
 item:=by
  intro X O B R N i pz s σ H E I m a f;subst O B R;obtain⟨Z,Y,f2,U,T,S⟩:=m it (by simp);have f:=f;refine(W X.A<|I.ok.hd N).item i s _ _ f a.1 λv p q hv l y=>?_;obtain⟨c,u,M,rfl⟩:=hv;have I1:Inv X pz σ H {s with heap:=p,toks:=q}:=I.turned (λb o j e=>y b o (by simpa using j) e) Z Y U T S;obtain⟨o,ho,L,J⟩:=id l;have ec:x.cps.getD i 0=c:=by simp[Xo,M]
  refine⟨_,rfl,zA ho L J C ⟨.str ⟨#[c]⟩,H,I1,⟨u,rfl⟩,⟨rfl,by rw[ec]⟩,⟨l,f⟩,λb j=>(m b j).1⟩⟩
 done:=by intro X O B R N i pz s σ H E I m a f;subst O B R;obtain⟨Z,Y,f2,U,T,S⟩:=m it (by simp);have f:=f;have hi:=Zm a.2 f;subst hi;exact(W X.A<|I.ok.hd N).done s _ _ a.1 λp q y=>⟨rfl,I.turned (λb o j e=>y b o (by simpa using j) e) Z Y U T S⟩
 self:=λA i s Q E a h=>g A i s Q E a.1 h
def Kh(tl:TE):TI:=λa H R=>tl a H λx b=>∃z,x=.str z/\R (Its z) b
def Hi(C:PE X l tl):PI X tg l (Kh tl):=by
 intro u s p H R I h;refine a9 (C u s p H _ I h) λv a x O m B g=>?_;obtain⟨z,e,q⟩:=g;subst e;obtain⟨t,rfl⟩:=B;have fin:∀ob ty,["enumerate","zip","dict_itemiterator","dict_reverseitemiterator","odict_iterator","itertools.zip_longest","itertools.pairwise"].contains ty=false->(∀A:Around,A.handled=none->Walks X.prog X.w A a.heap.objs.size [a.heap.objs.size] [a.heap.objs.size] z.cps.size _ _)->
   _->
   (a.heap.push ob).IsStrIter a.heap.objs.size ty z t 0->PIE X u p tg R _ {a with heap:=a.heap.push ob}:=λob ty N M L K=>by
  refine⟨a.heap.objs.size,[a.heap.objs.size],_,_,O,rfl,m.kept λb o e=>Yx _ e,BJ _ z t ty N M L,⟨K,YQ _⟩,λb J=>?_,q⟩;have e:b=a.heap.objs.size:=by simpa using J
  subst e;exact m.fpOk (Yy _)<|m.hok.fresh<|Yy _
 cases y:z.cps.all _
 ·exact wpAny_pyIter_wide y<|fin _ "str_iterator" (by decide) (λP j=>Walks.strWide j _ z t) (λA i s Q E f h=>wpAny_pyIter_striter_wide f h) ⟨_,YK _ rfl,rfl,rfl⟩
 ·exact wpAny_pyIter_ascii y<|fin _ "str_ascii_iterator" (by decide) (λP j=>Walks.strAscii j _ z t) (λA i s Q E f h=>wpAny_pyIter_striter_ascii f h) ⟨_,YK _ rfl,rfl,rfl⟩
def signs(x:Str):List D:=x.cps.toList.map λc=>.str ⟨#[c]⟩
noncomputable def pA(f:Dd):DF->Option (List D):=λa=>match f a with
 |some (.str x)=>some<|signs x
 |_=>none
def Ey(h:PDE X l fa):PDI X tg l (pA fa):=PI.imp (Hi h) λC H R=>un7 λP F j E f I k=>by
 unfold pA at f;split at f
 ·rename_i x q;cases f;refine⟨P,F,j,_,q,I,λv A z w m=>?_⟩;cases m;refine⟨x,rfl,k _ A z w λB K e p i=>⟨λd a=>?_,λg=>?_⟩⟩
  ·unfold signs at a;rw[YI]at a;cases b:x.cps.toList[i]? with
   |none=>rw[b]at a;cases a
   |some c=>
    rw[b]at a;cases a;have s:i<x.cps.size:=by have:=(YM.mp b).1;simpa using this
    refine⟨s,λy J o=>?_⟩;obtain⟨rfl,rfl⟩:=o;have u:x.cps.getD i 0=c:=by
     have:x.cps[i]?=some c:=by rwa[<-Array.getElem?_toList]
     simp[Xo,this]
    rw[u];exact⟨B,Evo.refl p,.str⟩
  ·unfold signs at g;rwa[Yc,ZD]at g
 ·cases f
def By:D->Bool
 |.str _=>true
 |_=>false
def txt:D->Str
 |.str x=>x
 |_=>⟨#[]⟩
noncomputable def iV(x:Str)(ds:List D):Bool:=ds.all By&&decide (((ds.map txt).map (·.length)).sum+(ds.map txt).length*x.length<=16777216)
noncomputable def n9:D->D->Option D
 |.str x,.lst ds=>if iV x ds=true then some (.str<|Txt.join x<|ds.map txt)else none
 |_,_=>none
def Ib(K:Kq):V->List V->Hp->VK->Prop:=λx e H Q=>∃z l b a,x=.str z/\e=[.ref l]/\SqL K H l b/\Reps K H b a/\iV z a=true/\Q (.str<|Txt.join z<|a.map txt) H
def Cg(h:Reps K H vs ds):Vals vs us->ds.all By=true->StrsAre us (ds.map txt):=
 Reps.ind (M:=λvs ds=>∀us:List Value,Vals vs us->ds.all By=true->StrsAre us (ds.map txt)) (λus r _=>by cases r;exact .nil) (λ{v d vs ds} h _ ih us b a=>by
  cases b with
  |cons r t=>
   rw[Vz,Yn]at a;cases d with
   |str x=>
    cases h;obtain⟨e,rfl⟩:=(show ∃t,_=Value.str _ t from r)
    exact .cons _ _<|ih _ t a.2
   |_=>cases a.1) h us
def Dg:MtR X "str.join" (Ib X.K):=by intro y s j H x o v p Q I b a h;obtain⟨z,l,m,B,rfl,rfl,g,r,ok,q⟩:=h;obtain⟨t,rfl⟩:=b;obtain⟨u,rfl,f⟩:=a.one;cases f;have⟨i,e,pl,A⟩:=I.list g;unfold iV at ok;rw[Yn,YF]at ok;exact join_list pl.isList (Cg r (by simpa using e) ok.1) ok.2 λw k=>⟨.str _,H,I.tok _,⟨_,rfl⟩,q⟩
def wc(s:PDN X o fa)(f:PDN X e fb)(b:attributeBase o "join" X.env (eval o X.env)=eval o X.env:=by rfl)
  (g:((backTo cpos<|starEach [e] X.env).all (λx=>!x.1)&&(backToKw cpos<|keywordEach [] X.env).all (λx=>x.1.isSome)
   && decide (([e]).length+([]:List Keyword).length+(if([]:List Keyword).isEmpty then 0 else 1)<30))=true:=by rfl)
  (a:(apos.endLine == cpos.line)=true:=by rfl) (l:starEach [e] X.env=[(false,eval e X.env)]:=by rfl) :
  PDE X (.Call (.Attribute o "join" apos) [e] [] cpos) (d2 n9 fa fb):=
 (jJ XV PySem.F.slot_str_join PySem.F.type_str_join Dg s (aI f aZ l) b g a l rfl).imp λE H Q=>un7 λP F i d h I k=>by
  unfold d2 at h;cases f:fa i with
  |none=>rw[f]at h;cases h
  |some z=>
   cases j:fb i with
   |none=>rw[f,Ya,j]at h;cases h
   |some w=>
    rw[f,Ya,j,Ya]at h;cases z with
    |str x=>
     cases w with
     |lst ds=>
      have h:(if iV x ds=true then some (D.str _)else none)=some d:=h;split at h
      ·rename_i ok;cases h;refine⟨P,F,i,_,f,I,λv C J m q=>?_⟩;cases q;refine⟨rfl,P,C,i,_,j,I.evo m,λy B A u p=>?_⟩;cases p with
       |lst h1 h2=>exact⟨x,_,_,ds,rfl,rfl,h1,h2,ok,k _ B A (m.trans u) .str⟩
      ·cases h
     |_=>cases h
    |_=>cases h
end
section
variable  {c l r:Expr}  {apos' cpos':Pos} 
noncomputable def jA(i:Nat)(g:Dl):DF->Option RES:=λa=>match a[i]? with
 |some (some<|.own (.lst ds) t)=>(g a).bind λe=>if ds.length+e.length<=16777216 then some (.nx<|a.set i<|some<|.own (.lst<|ds++e) t)else none
 |_=>none
def gU i{g:Dl}(h:PE X o (cB i))(U:PDO X e (asL g))(l:attributeBase o "extend" X.env (eval o X.env)=eval o X.env:=by rfl)
  (p:((backTo cpos<|starEach [e] X.env).all (λx=>!x.1)&&(backToKw cpos<|keywordEach [] X.env).all (λx=>x.1.isSome)
   && decide (([e]).length+([]:List Keyword).length+(if([]:List Keyword).isEmpty then 0 else 1)<30))=true:=by rfl)
  (j:(apos.endLine == cpos.line)=true:=by rfl) (C:starEach [e] X.env=[(false,eval e X.env)]:=by rfl) (z:swapsWith (.Call (.Attribute o "extend" apos) [e] [] cpos) none pos.line X.env=pure false:=by rfl) :
  PD1 X (.Expr (.Call (.Attribute o "extend" apos) [e] [] cpos) pos) (jA i g):=
 PS.imp (dB (jJ YY XL PySem.F.type_list_extend pO h (aI U aZ C) l p j C rfl) z) λE O H=>un7 λP F A r f I k=>by
  unfold jA at f;split at f
  ·rename_i ds t q;cases y:g A with
   |none=>rw[y]at f;cases f
   |some s=>
    rw[y,Ya]at f;split at f
    ·rename_i T;cases f;obtain⟨a,B,M,Y,h3,L,J⟩:=jf I q;refine⟨_,M,.inl ⟨rfl,B,SqL.of L⟩,P,F,A,.lst s,by unfold asL;rw[y];rfl,I,λb N H1 w S=>?_⟩;obtain⟨⟨n1,n2⟩,u,Q,m⟩:=S;cases u with
     |lst ws=>
      have m:=m;obtain⟨R,k2⟩:=w.keep a _ L Y;have Z:=I.evo w;refine⟨a,b,B,ws,rfl,rfl,R,Q,by rwa[YL,J.length,m.length],k O N _ w.ext ?_⟩;exact Z.mut q rfl rfl M<|(J.same w.ext).append m
     |_=>exact m.elim
    ·cases f
  ·cases f
end
def yz{k k'}{vs:List (Key×V)}:d4 ((k',v)::vs) k=if k'=k then some v else d4 vs k:=by unfold d4;by_cases q:k'=k<;>simp[Zj,q]
def RepsK.val{vs}{ds}(h:RepsK K H vs ds):(d4 vs k=none/\dC ds k=none)\/∃v d,d4 vs k=some v/\dC ds k=some d/\Rep K H v d:=
 RepsK.ind (M:=λvs ds=>(d4 vs k=none/\dC ds k=none)\/∃v d,d4 vs k=some v/\dC ds k=some d/\Rep K H v d) (.inl ⟨rfl,rfl⟩) (λ{a v d vs ds} h _ ih=>by
  rw[yz,jr];by_cases q:a=k
  ·rw[Yh q,Yh q];exact .inr ⟨v,d,rfl,rfl,h⟩
  ·rwa[Yp q,Yp q]) h
def RepsK.any{vs}{ds}(h:RepsK K H vs ds):(vs.any λa=>decide (a.1=k))=ds.any λa=>decide (a.1=k):=
 RepsK.ind (M:=λvs ds=>(vs.any λa=>decide<|a.1=k)=ds.any λa=>decide<|a.1=k) rfl (λ_ _ ih=>by rw[Xt,Xt,ih]) h
def RepsK.map(g:Rep K H v d){vs}{ds}(h:RepsK K H vs ds):RepsK K H (vs.map λa=>if a.1=k then(a.1,v)else a) (ds.map λa=>if a.1=k then(a.1,d)else a):=
 RepsK.ind (M:=λvs ds=>RepsK K H (vs.map λa=>if a.1=k then(a.1,v)else a)<|ds.map λa=>if a.1=k then(a.1,d)else a) .nil (λ{b e f vs ds} h _ ih=>by
  rw[YD,YD];by_cases q:b=k
  ·rw[Yh<|show(b,e).1=k from q,Yh<|show(b,f).1=k from q];exact .cons g ih
  ·rw[Yp<|show ¬(b,e).1=k from q,Yp<|show ¬(b,f).1=k from q];exact .cons h ih) h
def RepsK.snoc(a:Rep K H v d){vs}{ds}(h:RepsK K H vs ds):RepsK K H (vs++[(k,v)]) (ds++[(k,d)]):=
 RepsK.ind (M:=λvs ds=>RepsK K H (vs++[(k,v)])<|ds++[(k,d)]) (.cons a .nil) (λh _ ih=>.cons h ih) h
def RepsK.put{vs}{ds}(a:Rep K H v d)(r:RepsK K H vs ds):RepsK K H (fL vs k v) (iL ds k d):=by
 unfold fL iL;rw[r.any];split
 ·exact r.map a
 ·exact r.snoc a
def RepsK.length{vs}{ds}(h:RepsK K H vs ds):vs.length=ds.length:=RepsK.ind (M:=λvs ds=>vs.length=ds.length) rfl (λ_ _ ih=>YH Nat.succ ih) h
def xh{y}(r:Rep K F y dy)(h:lD dy=some k):y=kV k:=by
 cases dy with
 |int i=>cases h;cases r;rfl
 |str i=>cases h;cases r;rfl
 |_=>cases h
def rL{x}{ds}(I:DInv K P F H ρ σ)(r:RepS K H F x (.dK ds)):∃a vs,x=.ref a/\H a=some (.dK vs)/\RepsK K F vs ds:=by
 rcases r with r|⟨a,o,u,rfl,_,h3,h4,hfl,z⟩
 ·cases r with|dK h q=>exact⟨_,_,rfl,I.sub _ _ h,q⟩
 ·cases o with
  |dK ds'=>
   cases z;cases u with
   |dK vs=>exact⟨a,vs,rfl,h3,h4⟩
   |_=>exact h4.elim
  |lst2 _=>cases hfl
  |tup2 _=>cases hfl
  |obj _ _=>cases hfl
  |_=>cases z
section
variable  {c i f:Expr}  {fd fk:Dd}
def aW:D->D->Option D
 |.dK kvs,y=>(lD y).bind λk=>dC kvs k
 |_,_=>none
def fw(Y:X.A.units+64<cLine)(J:PDR X o fd)(hi:PDE X i fk)(E:rS i:=by exact λ_ _=>rfl):PDE X (.Subscript o i pos) (d2 aW fd fk):=(jq (by omega) J hi E).imp λT H Q=>un7 λP F b d a I k=>by
 unfold d2 at a;cases e:fd b with
 |none=>rw[e]at a;cases a
 |some N=>
 cases g:fk b with
 |none=>rw[e,Ya,g]at a;cases a
 |some p=>
 rw[e,Ya,g,Ya]at a;cases N with
 |dK kvs=>
  have h:((lD p).bind λk=>dC kvs k)=some d:=a;cases f:lD p with
  |none=>rw[f]at h;cases h
  |some m=>
   rw[f,Ya]at h;refine⟨P,F,b,_,e,I,λx S H1 l C=>⟨P,S,b,_,g,I.evo l,λy R O j B=>?_⟩⟩;obtain⟨q,U,rfl,L,K⟩:=rL ((I.evo l).evo j)<|C.evo j;have M:=xh B f;subst M;rcases K.val with⟨_,z⟩|⟨v,Z,w,u,s⟩
   ·rw[z]at h;cases h
   ·rw[u]at h;cases h;exact⟨q,v,rfl,by have:=DGet.k (k:=m) L;rwa[w]at this,k v R O (l.trans j) s⟩
 |_=>cases a
def pX:PDO X (.Dict [] [] pos) (λ_=>some (.dK [])):=Bo.imp λb H Q=>un7 λP F e ob a I k=>by
 cases a;exact λp h=>k p F _ (Evo.side I.toDHp h) ⟨⟨h,(I.toDHp.free h).1⟩,_,aE,.nil⟩
end
theorem Room.h64(r:Room k A):A.units+64<cLine:=by have:=r.un;omega
noncomputable def C7(sc0 scope:Scope):Bool:=scope.kind == .function&&(scope.names.map (·.1)).Nodup&&(scope.names.all λx=>x.2 != .free||(sc0.names.lookup x.1 == some .cell||sc0.names.lookup x.1 == some .free))
def HM s(e:X.env.scope=s)(h:C7 s scope=true):BlkScope X scope:=by
 unfold C7 at h;simp only[Yn,YF]at h;obtain⟨⟨i,g⟩,f⟩:=h;refine⟨by simpa using i,g,λx a b=>?_⟩;have:=YE.mp f x a;rw[b]at this;have j:X.env.kindOf x.1=s.names.lookup x.1:=by show X.env.scope.names.lookup x.1=_;rw[e]
 rw[j];simpa using this
def Cw(a:List Str)(scope:Scope)(N:List Str)(own:Nat)(ix:List Nat):Bool:=
 decide (N.length=own+ix.length)&&(List.range ix.length).all λi=>match N[own+i]?,ix[i]? with
  |some x,some j=>a[j]? == some x&&scope.names.lookup x == some .free
  |_,_=>true
def H_ b(e:X.N=b)(h:Cw b scope N own ix=true):Caps X scope N own ix:=by unfold Cw at h;rw[Yn,YF]at h;refine⟨h.1,λi j x g a=>?_⟩;have f:=(YM.mp a).1;have:=YE.mp h.2 i<|Zq.mpr f;rw[g,a]at this;simp[Yn,ZT]at this;rwa[e]
def pC:yp X [] (tB' X.K iM):=λp s a H Q I h=>by
 obtain⟨P,F,f,b,e,J,k⟩:=h;cases e;exact Bj p s a H Q I<|k F H<|Evo.refl J.toDHp
def FJ(h:(is.all λj=>decide (j<own))=true):∀j∈is,j<own:=λj m=>YN<|YE.mp h j m
section
variable       {own:Nat}  {f:Dl}{st:Dq}{c:Dk}{e:Dd}
end
def HE(n p:Nat)(g:Dw)(o:OD)(xs:List DV)(q:OD×D):Prop:=xs.length+1=p/\q.1.flat=true/\∀a,∃r,g (bn n p (.own o (some a)::xs))=some r/\ku a q.1 q.2 r
noncomputable def vq (n p:Nat)(g:Dw)(o:OD)(xs:List DV):Option (OD×D):=
 open Classical in if h:∃q,HE n p g o xs q then some h.choose else none
def DJ{n p} :∀a o xs o' d,vq n p g o xs=some (o',d)->xs.length+1=p/\o'.flat=true/\∃r,g (bn n p (.own o (some a)::xs))=some r/\ku a o' d r:=by
 intro a o xs o' d h;unfold vq at h;split at h
 ·rename_i f;obtain⟨i,e,b⟩:=f.choose_spec;rw[Yv h]at e b;exact⟨i,e,b a⟩
 ·cases h
def lL{a}{o}(h:ku a o d r)(h':ku a o' d' r):(o,d)=(o',d'):=by
 cases r with
 |nx ρ=>obtain⟨g,f⟩:=h;obtain⟨b,e⟩:=h';rw[g]at b;cases b;rw[f,e]
 |rt x ρ=>obtain⟨g,f⟩:=h;obtain⟨b,e⟩:=h';rw[f]at e;cases e;rw[g]at b;cases b;rfl
 |bk ρ=>cases h
 |ct ρ=>cases h
def wj{n p}{o}(i:xs.length+1=p)(j:o'.flat=true)(h:∀a,∃r,g (bn n p (.own o (some a)::xs))=some r/\ku a o' d r):vq n p g o xs=some (o',d):=by
 have b:∃q,HE n p g o xs q:=⟨(o',d),i,j,h⟩
 unfold vq;rw[dif_pos b];obtain⟨_,_,l⟩:=b.choose_spec;obtain⟨r,e,q⟩:=l 0;obtain⟨s,m,f⟩:=h 0;rw[m]at e;cases e;exact YH some<|lL q f
end L2
namespace L2
open PySem PySem.Spec PySem.Calls PySem.W PyProof.Rows Builtin Builtin.ObjectAttr Builtin.Getset_descriptor
def ExAt(e C:Addr)(h:Heap):Prop:=∃o,h.get? e=some o/\o.cls=.ref C
def ExAt.type{e}{h}(x:ExAt e C h):Looks M h (typeOf (.ref e)) (.ref C):=by obtain⟨o,b,a⟩:=x;exact a ▸ (Looks.ld b).andThen .now
structure ExC (K:PySem.W.Frag) (C:Addr):Prop where
 ga:findIn K (.ref C) "__getattribute__"=some (some (.builtin "BaseException.__getattribute__"))
 noga:findIn K (.ref C) "__getattr__"=some none
 ha:findIn K (.ref C) "__class__"=some (some (.builtin "object.__class__"))
 hn:specialIn K (.builtin "object.__class__") "__get__"=some (some (.builtin "getset_descriptor.__get__"))
 htk:takesIn K (.builtin "object.__class__")=some true
 hm:mroIn K C (.type "object")=some true
 hb:mroIn K C (.type "BaseException")=some true
section
variable  {e:Addr}     
def D3{h}(X:K.In h)(x:ExC K C):Looks M h (find (.ref e) (.ref C) "__class__") (.bind (.builtin "getset_descriptor.__get__") (.builtin "object.__class__")):=by have b:=looks_findIn (M:=M) X x.ha;have a:Looks M h (getOf<|some _) _:=looks_specialIn X x.hn;have L:=looks_takesIn (M:=M) X x.htk;refine b.andThen<|a.andThen ?_;exact(show Looks M h _ (some _)from L.andThen .now).andThen<|Looks.tag .now
theorem FM{R:Kr}{a}(X:K.In s.heap)(x:ExC K C)(I:ExAt e C s.heap)(h:R (.ok (.ret (.ref C))) s) :
  codeAny (model prog w) A (.call (.builtin "getset_descriptor.__get__") ⟨[.builtin "object.__class__",.ref e,a],[]⟩) R s:=by
 obtain⟨f,g,i,t,o⟩:=s;have j:=I.type (M:=model prog w);have L:=looks_mroIn (M:=model prog w) X x.hm;refine codeAny_call_builtin KF.slot_gs.plain KF.entry_gs ?_;refine KF.slot_gs.check _ _ _ _ _ _ _ _ KF.type_class (KF.args_gs _ _ _) ?_
 (unfold Builtin.«getset_descriptor.__get__» descrGet;rw[dga_obj];refine Yr<|YT ?_)
 (unfold descrGetter descrCheckInstance descrNameAndClass isInstance;simp[KF.owner_class];repeat lk)
 have b:Code.quiet (.builtin "object.__class__" ⟨[.ref e],[]⟩)=true:=Code.quiet_builtin _<|by decide+kernel
 (refine⟨b,XS KF.entry_class ?_⟩;unfold Builtin.«object.__class__» shownTypeOf;repeat lk)
 exact h
theorem BN{a:Value}{M:Model}{Q:Unit->Shared->Prop}(X:K.In s.heap)(x:ExC K C)(I:ExAt e C s.heap)(b:Q () s):wpAny M A (checkBuiltinCall "BaseException.__getattribute__" ⟨[.ref e,a],[]⟩) Q E s:=by
 have f:builtinKind "BaseException.__getattribute__"=some .slot:=by decide+kernel
 have h:splitId "BaseException.__getattribute__"=some ("BaseException","__getattribute__"):=by decide+kernel
 have l:=PySem.F.args_bexc_ga (.ref e) a;obtain⟨j,g,m,t,o⟩:=s;have i:=I.type (M:=M);have L:=looks_mroIn (M:=M) X x.hb;simp only[checkBuiltinCall,f,h];refine Yr ?_
 ·unfold isInstance;refine Yr (i.at (L.at ?_))
  repeat (first|wp_step)
  exact b
def BZ{Q}(X:K.In s.heap)(x:ExC K C)(I:ExAt e C s.heap)(h:Q (.done (.ret (.ref C))) s) :
  wpAny (model prog w) A (Builtin.«object.__getattribute__» ⟨[.ref e,.str "__class__" tk],[]⟩) Q E s:=by
 obtain⟨a,g,d,t,o⟩:=s;have b:=I.type (M:=model prog w);have L:=D3 (e:=e) (M:=model prog w) X x;refine Yr<|YT<|Yr<|YT<|Yr<|b.at<|Yr<|L.at ?_;exact Yr<|Xb<|wpAny_call<|FM X x I<|YT h
theorem As s:bindSpecial (.builtin "BaseException.__getattribute__") s=pure (.builtin "BaseException.__getattribute__",[s]):=by
 have b:builtinKind "BaseException.__getattribute__"=some .slot:=by decide+kernel
 have a:withoutEnding? "BaseException.__getattribute__" "#opaque"=none:=by decide+kernel
 have h:withoutEnding? "BaseException.__getattribute__" "#data"=none:=by decide+kernel
 simp only[bindSpecial,typeOf,builtinType,a,h,b];rfl
theorem H0{f a}{Q:Kv}(X:K.In s.heap)(x:ExC K C)(I:ExAt e C s.heap)(l:Q (.ref C) s) :
  wpAny (model prog w) A (getAttrBy (.ref e) (.str "__class__" tk) f a) Q E s:=by
 obtain⟨j,g,d,t,o⟩:=s;have p:=I.type (M:=model prog w);have m:=looks_findIn (M:=model prog w) X x.ga;have L:=looks_findIn (M:=model prog w) X x.noga;have i:(a&&onTheHeap (Value.builtin "BaseException.__getattribute__"))=false:=by cases a<;>rfl
 have h:(Value.builtin "BaseException.__getattribute__" == Value.builtin "object.__getattribute__")=false:=by decide+kernel
 have b:(onTheHeap (Value.ref C)&&Value.builtin "BaseException.__getattribute__" == Value.builtin "object.__getattribute__")=false:=by rw[h];rfl
 unfold getAttrBy;refine Xb<|Yr<|p.at<|Yr<|m.at ?_;dsimp only;rw[b,Yp Ym];unfold getAttrByItsOwn;refine Yr ?_;refine L.at<|Yr<|wpAny_attempt<|Xb ?_
 unfold callGetattribute boundAndCalled;rw[i,Yp Ym,As];refine Yr<|YT ?_;refine wpAny_call<|codeAny_call_builtin (by decide+kernel) PySem.F.entry_bexc_ga<|BN X x I<|BZ X x I ?_;exact YT l
def Jj{Q:Ko}(X:K.In s.heap)(x:ExC K C)(I:ExAt e C s.heap)(h:Q (some (.ref C)) {s with toks:=s.toks+1}):wpAny (model prog w) A (getAttr? (.ref e) "__class__") Q E s:=by obtain⟨a,g,d,t,o⟩:=s;unfold getAttr? getAttrBy?;refine Yr<|wpAny_mkText<|Yr<|wpAny_attempt ?_;exact H0 X x I<|YT h
def tQ(x:ExC K C):KitX K (.ref e) (.ref C) (ExAt e C) where
 ty:=λ_ _ _ p=>p.type
 it:=λ_ _ X _=>by
  obtain⟨o,a,b⟩:=Yd.mp x.hm;unfold clsIn at a;split at a
  ·rename_i u m i s g;intro A Q E y k q;unfold isType loadHead;exact Yr<|wpAny_loadPart (k _ _<|X _ _ g)<|YT q
  ·cases a
 ne:=λh j z l n w X f=>by
  obtain⟨o,a,b⟩:=Yd.mp x.hm;refine Bool.eq_false_iff.mpr λq=>?_;have e:=Value.ref.inj<|ZT.mp q;subst e;unfold clsIn at a;split at a
  ·rename_i u m i s g;rw[X _ _ g]at f;cases f
  ·cases a
 ca:=λX p k=>Jj X x p k
end
end L2
namespace L2
open PySem PySem.Spec PySem.Calls PySem.W PyProof.Rows
def ObjOk.isAt{P}{h}{a}{o}(x:ObjOk P w H h a o):∃u,h.get? a=some u:=by
 cases o with
 |lst xs=>obtain⟨_,_,_,_,e⟩:=x;exact⟨_,e⟩
 |tup xs=>obtain⟨_,_,_,⟨_,e,_⟩,_⟩:=x;exact⟨_,e⟩
 |dK kvs=>obtain⟨_,_,_,_,_,_,_,e,_⟩:=x;exact⟨_,e⟩
 |dT kvs=>obtain⟨_,_,_,_,_,_,_,e,_⟩:=x;exact⟨_,e⟩
 |set S n=>obtain⟨_,_,_,_,e,_⟩:=x;exact⟨_,e⟩
 |ins C dx fs=>obtain⟨_,_,_,e,_⟩:=x;exact⟨_,e⟩
 |own y=>exact x
 |xd fs=>obtain⟨_,⟨_,_,_,e,_⟩,_⟩:=x;exact⟨_,e⟩
 |rng lo hi=>obtain⟨_,_,_,e⟩:=x;exact⟨_,e⟩
 |frz ob u=>obtain⟨e,_⟩:=x;exact⟨_,e⟩
 |tbl ps=>exact⟨_,(show h.get? a=some _ from x)⟩
 |met f y=>exact⟨_,(show h.get? a=some _ from x)⟩
 |ext φ=>exact x.2.1
def HOk.miss{P}{h}{a}(x:HOk P w H h)(n:h.get? a=none):H a=none:=by
 cases q:H a with
 |none=>rfl
 |some o=>
  obtain⟨u,e⟩:=(x a o q).isAt;rw[n]at e;cases e
structure Thr (P:Program) (w:World) (C:Addr) (outer:List Env) (H:Hp) (s:Shared) (a:Addr) (a0:Value) (B:Heap) (H':Hp) (s':Shared):Prop where
 os:s'.os=s.os
 bare:AllBare s'.gens
 keep:∀b o,s.heap.get? b=some o->H b=none->b∉frs outer->B.get? b=some o
 slot:∀b o,s.heap.get? b=some o->H b=none->b∈frs outer->(∀vs,o.data≠.fields vs)/\∃sl,s'.heap.get? b=some {o with slots:=sl}
 free:∀b o,s.heap.get? b=some o->H b=none->H' b=none
 there:∀b o,s.heap.get? b=some o->b∉frs outer->∃o',B.get? b=some o'
 tups:∀b xs,H b=some (.tup xs)->H' b=some (.tup xs)
 frzs:∀b o u,H b=some (.frz o u)->H' b=some (.frz o u)
 tbls:∀b ps,H b=some (.tbl ps)->∃more,H' b=some (.tbl (ps++more))
 hok:HOk P w H' B
 fly:Heap.FlyingW B outer a (.ref C) a0 s'.heap
def Thr.un{P}{a}{B}{h}(t:Thr P w C outer H s a a0 B H' s')(j:∀b∈frs outer,H b=none)(u:B.StaysIn h)(p:s'.heap.UpToSlots h) :
  Un (frs outer) [] H H' s.heap h where
 keep:=λb o q n f _=>u _ _<|t.keep b o q n f
 slot:=λb o q n f _=>by
  obtain⟨i,x,m⟩:=t.slot b o q n f;obtain⟨g,l⟩:=p b _ m i;exact⟨g,l⟩
 free:=λb o q n _=>t.free b o q n
 there:=λb o q _=>by
  by_cases f:b∈frs outer
  ·obtain⟨i,x,m⟩:=t.slot b o q (j b f) f;obtain⟨g,l⟩:=p b _ m i;exact⟨_,l⟩
  ·obtain⟨y,e⟩:=t.there b o q f;exact⟨y,u _ _ e⟩
 tups:=t.tups
 frzs:=t.frzs
 tbls:=t.tbls
section
variable{P:Program}        {f:Addr}      {E:XK}
end
def vM:List Value:=[.type "ValueError",.type "Exception",.type "BaseException",.type "object"]
def wO{h}(X:K.In h)(q:excIn K C vM "ValueError.__new__"=true) :
  ∃bm N nm qn bs hdct sn sub ab col dd k0 k1 k2 k3 k5 mN,h.get? C=some (excClassObj nm qn C N bs bm hdct sn sub ab col dd k0 k1 k2 k3 k5 "ValueError.__new__")/\h.Ns N mN/\mN "__init__"=none/\OwnTail h vM bm:=by
 unfold excIn at q;split at q
 case h_1 dd cd sl ho=>
  split at q
  case h_1 C' bm k0 k1 k2 k3 n k5 hm hs=>
   (rw[Yn,Yn,Yn,Yn,Yn,ZT,ZT,ZT]at q;obtain⟨⟨⟨⟨⟨rfl,rfl⟩,f⟩,g⟩,a⟩,e⟩:=q)
   rcases cd with⟨nm,bs,m,p,qn,s,sn,sub,ab,col,b⟩
   have o:m=.ref C'::bm:=hm;have j:b=false:=by cases b with|false=>rfl|true=>cases f
   have i:sl=#[k0,k1,k2,k3,some<|.builtin "ValueError.__new__",k5]:=by rcases sl with⟨l⟩;exact YH Array.mk hs
   rw[o,j,i]at ho;exact⟨_,_,_,_,_,_,_,_,_,_,_,_,_,_,_,_,_,X _ _ ho,.of_isNs<|isNs_of_in X a,nsMap_none_of_in X a e,tail_of_in X g⟩
  case h_2=>cases q
 case h_2=>cases q
def oh(X:Cx)(C:Addr)(R:Hp->Prop):Prop:=∀(p:Kp) (a:St) H s h e b,Inv X p a H s->Heap.MadeExcOf s.heap h e (.ref C) b->R H->X.xe (.ref e) {s with heap:=h }
def A8{t}{i np p2 cpos pos}(E:X.calm=true)(J:oh X C R)(B:Gl X x)(A:X.mg x=some (.ref C))(q:excIn X.K C vM "ValueError.__new__"=true)
  (hd:nDb x:=by decide) (b:starEach [.Constant (.str t) i p2] X.env=[(false,eval (.Constant (.str t) i p2) X.env)]:=by rfl) :
  PS X (.Raise (some<|.Call (.Name x np) [.Constant (.str t) i p2] [] cpos) none pos) (λ_ _ H=>R H):=by
 intro p s j H D I h;obtain⟨bm,N,nm,qn,bs,hdct,sn,sub,ab,col,dd,k0,k1,k2,k3,k5,mN,M,L,f,T⟩:=wO I.mod.kin q;refine wpAny_Raise_call_subT (nm:=nm) (q:=qn) (N:=N) (bs:=bs) (hdct:=hdct) (sn:=sn) (sub:=sub) (ab:=ab) (col:=col) (dd:=dd) (k0:=k0) (k1:=k1) (k2:=k2) (k3:=k3) (k5:=k5) PySem.F.excBase_ValueError (T.hasType rfl) (I.ok.hd E) (by rw[b];rfl) f<|fJ I B A ⟨rfl,?_⟩ hd;have y:=aI dI aZ b;have go:=y cpos p s j H (λl g=>l.length=1/\R g) I ⟨rfl,h⟩;rw[b]at go ⊢;refine ZV<|a9 go λu o l g a w m=>⟨rfl,?_,a.bk _ _ M,L.keeps a.bk,T.keeps a.bk,λO e z=>J p j g o O e u a z m.2⟩;rw[<-w.length,m.1];decide
noncomputable def Cx.caught(X:Cx)(a:Addr)(ob:Obj):Cx:={X with A:=X.A.mark<|some<|.ref a,calm:=false,pn:=(a,ob)::X.pn,xe:=λ_ _=>False}
section
variable  {a:Addr}{ob:Obj}    
def Inv.caught(I:Inv X pz σ H s)(h1:s.heap.get? a=some ob)(h2:H a=none)(f:a≠X.env.locals)(e:a∉X.fs)(b:∀v,ob.data≠.cell v):Inv (X.caught a ob) pz σ H s:=
  ⟨⟨I.ok.mod,I.ok.kind,I.ok.glob,I.ok.blt,I.ok.above,I.ok.inj,I.ok.has,I.ok.cab,(λz=>nomatch z),I.ok.frames,I.ok.stk,I.ok.exf,I.ok.bs,I.ok.bsz,I.ok.noex,I.ok.exfs,I.ok.funs,I.ok.frf⟩,
   I.os,I.bare,I.base,I.loc,I.cell,I.free,I.freeC,λp h=>(Yw.mp h).elim (λz=>z ▸ ⟨h1,h2,f,e,b⟩)<|I.pin p,I.hok,I.len⟩
def Inv.uncaught(ok:X.Ok)(I:Inv (X.caught a ob) pz σ H s):Inv X pz σ H s:=⟨ok,I.os,I.bare,I.base,I.loc,I.cell,I.free,I.freeC,λp h=>I.pin p<|Ye _ h,I.hok,I.len⟩
def Inv.atEx(I:Inv (X.caught a ob) pz σ H s):s.heap.get? a=some ob:=(I.pin (a,ob)<|Yf ..).1
def Dj{Q}(I:Inv X pz σ H s)(hN:X.N.Nodup)(hi:X.N[i]?=some x)(hk:X.env.scope.names.lookup x=some .local)(h:∀s',Inv X pz (σ.set i none) H s'->Q () s') :
  wpAny M A (do bindName X.env x .none;unbindBehindTheSuite X.env x pos) Q E s:=by
 obtain⟨m,Z,hl⟩:=id I.loc;have w:(X.env.scope.kind == .class||(X.env.scope.kind == .module&&X.env.locals != X.env.globals))=false:=by rw[I.ok.kind];rfl
 refine wpAny_nameGoes_keeps hk Z w λh' v C a=>?_;have B:∀b o,X.s₀.heap.get? b=some o->b≠X.env.locals:=λb o e=>YJ<|Ys (YC e) I.ok.above
 refine h _ ⟨I.ok,I.os,I.bare,⟨λb o e n J l=>(a.2 b<|B b o e).trans<|I.base.keep b o e n J l,λb o e n J l=>(I.base.slot b o e n J l).imp λsl g=>(a.2 b<|B b o e).trans g,I.base.free,λb o e l=>(I.base.there b o e l).imp λo' g=>(a.2 b<|B b o e).trans g,I.base.tups,I.base.frzs,I.base.tbls⟩,
  ⟨_,C,λj y P g f e3=>?_⟩,λy c e=>(I.cell y c e).imp λO z=>z.sameBut a<|I.cne y c e,I.free,I.freeC,λp Y=>?_,λb u q=>?_,by simpa using I.len⟩
 ·have L:j≠i:=λz=>by
   subst z;rw[List.getElem?_set]at f;split at f
   ·split at f<;>cases f
   ·rename_i z;exact z rfl
  rw[YR<|ZX L]at f;obtain⟨R,S,q⟩:=hl j y P g f e3;refine⟨R,S,q.imp (λz=>⟨z.1,?_⟩) λ⟨k,c,e,z⟩=>⟨k,c,e,z.sameBut a<|I.cne y c e⟩⟩;have T:y≠x:=λe=>L<|kY hN g<|e ▸ hi
  show(if y=x then v else m y)=_;rw[Yp T];exact z.2
 ·obtain⟨e,n,K,U,d⟩:=I.pin p Y;exact⟨(a.2 p.1 K).trans e,n,K,U,d⟩
 ·refine(I.hok b u q).stay (λc O hc e=>(a.2 c ?_).trans e) (λ_ q=>q) λ_ _ q=>q;rintro rfl;rcases hc with rfl|hc
  ·rw[I.free]at q;cases q
  ·rw[I.free]at hc;cases hc
end
section
variable  {a:Addr}{ob:Obj} 
end
def DInv.other{a}(I:DInv K P F H ρ σ)(hi:ρ[i]?=some none)(e:a.length=σ.length)(h:∀j,j≠i->a[j]?=σ[j]?):DInv K P F H ρ a:=
 ⟨I.toDHp,I.len.trans e.symm,by
  obtain⟨O,k⟩:=I.rep;refine⟨O,λj x b=>?_⟩;obtain⟨v,g,f⟩:=k j x b;exact⟨v,(h j λz=>by subst z;rw[hi]at b;cases b).trans g,f⟩⟩
def CXc(P:Program)(w:World)(cl:Nat->Addr):CXT:=λo H s E e f=>∃k a g B b,e=.ref a/\Thr P w (cl k) o H s a g B b f/\E (.ref<|cl k) none b
section
variable{P:Program}        {f:Addr}{cl:Nat->Addr}      {E:XK}
def Inv.throwsC{g}{e}{vs}k(I:Inv (cY (CXc P w cl) P w K mg base N qual scope f cd A outer s H E) pz σ H1 g)(hx:Heap.MadeExcOf g.heap h' e (.ref (cl k)) vs)(Q:E (.ref (cl k)) none H1) :
  (cY (CXc P w cl) P w K mg base N qual scope f cd A outer s H E).xe (.ref e) {g with heap:=h' }:=by
 have nil:∀b:Addr,b∉([]):=λb z=>absurd z<|by simp
 have y:∀env∈(cY _ P w K mg base N qual scope f cd A outer s H E).stack,∀b,env.frame=some b->b∈frs (cY (CXc P w cl) P w K mg base N qual scope f cd A outer s H E).stack:=λenv M b O=>Xi.mpr ⟨env,M,O⟩
 have J:∀b o,s.heap.get? b=some o->b∉frs outer->b∉frs (cY _ P w K mg base N qual scope f cd A outer s H E).stack:=λb o q a z=>by
  rcases Yw.mp (I.stkSub b z)with z|z
  ·exact absurd z<|YJ<|Ys (YC q) I.ok.above
  ·exact a z
 refine wpAny_leaves_madeW I.ok.frames rfl (λb o q=>of_hideAll _ q) (funFrames_hide I.stack y) hx λR t B _ _ L=>?_;refine⟨k,e,.ref t,_,H1,rfl,⟨I.os,I.bare,λb o q n a=>?_,λb o q n a=>?_,λb o q n=>I.base.free b o q n<|nil b,λb o q a=>?_,I.base.tups,I.base.frzs,I.base.tbls,λb o q=>?_,B⟩,Q⟩
 ·exact hideAll_get _ (I.base.keep b o q n a<|nil b)<|J b o q a
 ·obtain⟨T,l⟩:=I.base.slot b o q n a<|nil b;obtain⟨_,p,x,i⟩:=I.ok.funs.mem a;have j:s.heap.get? b=some p:=x;rw[q]at j;cases j;obtain⟨m,S⟩:=L b _ (hx.keeps _ _ l) i;exact⟨i,m,S⟩
 ·obtain⟨p,l⟩:=I.base.there b o q<|nil b;exact⟨p,hideAll_get _ l<|J b o q a⟩
 ·refine(I.hok b o q).stay (λc u hc l=>hideAll_get _ l λz=>?_) (λ_ z=>z) λ_ _ z=>z;have C:=I.stkFree c z;rcases hc with rfl|hc
  ·rw[C]at q;cases q
  ·rw[C]at hc;cases hc
def Inv.passesC{s1 C}{a}{B}k(I:Inv (cY (CXc P w cl) P w K mg base N qual scope f cd A outer s H E) pz σ H1 s1)(t:Thr P w (cl k) (cY (CXc P w cl) P w K mg base N qual scope f cd A outer s H E).stack H1 s1 a a0 B H2 C)(Z:E (.ref (cl k)) none H2) :
  (cY (CXc P w cl) P w K mg base N qual scope f cd A outer s H E).xe (.ref a) C:=by
 have nil:∀b:Addr,b∉([]):=λb z=>absurd z<|by simp
 have J:∀b o,s.heap.get? b=some o->b∉frs outer->b∉frs (cY _ P w K mg base N qual scope f cd A outer s H E).stack:=λb o q g z=>by
  rcases Yw.mp (I.stkSub b z)with z|z
  ·exact absurd z<|YJ<|Ys (YC q) I.ok.above
  ·exact g z
 have U:∀b,b∈frs outer->b∈frs (cY (CXc P w cl) P w K mg base N qual scope f cd A outer s H E).stack:=λb z=>by
  obtain⟨e,X,Y⟩:=Xi.mp z;exact Xi.mpr ⟨e,Ye _ X,Y⟩
 have x:∀b o,s.heap.get? b=some o->H b=none->∃j,s1.heap.get? b=some j:=λb o q n=>by
  by_cases L:b∈frs outer
  ·obtain⟨Q,h⟩:=I.base.slot b o q n L<|nil b;exact⟨_,h⟩
  ·exact⟨_,I.base.keep b o q n L<|nil b⟩
 refine wpAny_leaves_onW I.ok.frames rfl t.fly λh' m M=>?_;refine⟨k,a,a0,B,H2,rfl,⟨t.os.trans I.os,t.bare,λb o q n g=>?_,λb o q n g=>?_,λb o q n=>?_,λb o q g=>?_,λb y e=>t.tups b y<|I.base.tups b y e,λb o u e=>t.frzs b o u<|I.base.frzs b o u e,λb R e=>?_,t.hok,m⟩,Z⟩
 ·exact t.keep b o (I.base.keep b o q n g<|nil b) (I.base.free b o q n<|nil b)<|J b o q g
 ·obtain⟨Q,h⟩:=I.base.slot b o q n g<|nil b;obtain⟨l,O,p⟩:=t.slot b _ h (I.base.free b o q n<|nil b)<|U b g;obtain⟨i,e3⟩:=M b _ p l;exact⟨l,i,e3⟩
 ·obtain⟨j,h⟩:=x b o q n;exact t.free b j h<|I.base.free b o q n<|nil b
 ·obtain⟨j,h⟩:=I.base.there b o q<|nil b;exact t.there b j h<|J b o q g
 ·obtain⟨T,h⟩:=I.base.tbls b R e;obtain⟨S,p⟩:=t.tbls b _ h;exact⟨T++S,by rwa[<-Array.append_assoc]⟩
def Fo:jc (CXc P w cl) (cY (CXc P w cl) P w K mg base N qual scope f cd A outer s H E) E:=λ_ _ _ _ _ _ I h=>by
 obtain⟨k,a,e,B,g,rfl,t,b⟩:=h;exact I.passesC k t b
def Gs:PassesOwn (model P w) (cY (CXc P w cl) P w K mg base N qual scope f cd A outer s H E).A (cY (CXc P w cl) P w K mg base N qual scope f cd A outer s H E).env (cY (CXc P w cl) P w K mg base N qual scope f cd A outer s H E).xe:=PassesOwn.leaving
def eD k:oh (cY (CXc P w cl) P w K mg base N qual scope f cd A outer s H E) (cl k) λH'=>E (.ref (cl k)) none H':=λ_ _ _ _ _ _ _ I h a=>I.throwsC k h a
end
inductive XR where
 |go (r:RES)
 |ex (k:Nat)
def EndsX(K:Kq)(cl:Nat->Addr)(E:XK)(P F:Hp)(D:Ends):XR->Prop
 |.go r=>EndsD K P F D r
 |.ex k=>∀a H,Same F a->DHp P a H->E (.ref<|cl k) none H
def EndsX.ext{E}{D}(h:EndsX K cl E P F D r)(e:Same F F1):EndsX K cl E P F1 D r:=by
 cases r with
 |go r=>exact EndsD.ext h e
 |ex k=>exact λf H b a=>h f H (e.trans b) a
def tSX(K:Kq)(cl:Nat->Addr)(E:XK)(g:DF->Option XR):TS:=λD b H=>∃P F a r,g a=some r/\DInv K P F H a b/\EndsX K cl E P F D r
def PX1(X:Cx)(cl:Nat->Addr)(E:XK)(st:Stmt)(g:DF->Option XR):Prop:=PS X st<|tSX X.K cl E g
def PXS(X:Cx)(cl:Nat->Addr)(E:XK)(sts:List Stmt)(g:DF->Option XR):Prop:=PSs X sts<|tSX X.K cl E g
noncomputable def xOf(g:Dw):DF->Option XR:=λρ=>(g ρ).map .go
def xNx:DF->Option XR:=λρ=>some<|.go<|.nx ρ
def xEx(k:Nat):DF->Option XR:=λ_=>some<|.ex k
def bq(g h:DF->Option XR):DF->Option XR:=λa=>match g a with
 |some (.go<|.nx ρ')=>h ρ'
 |r=>r
def xIf(c:Dk)(g h:DF->Option XR):DF->Option XR:=λa=>(c a).bind λb=>if b=true then g a else h a
section
variable  {cl:Nat->Addr}{E:XK}  {aL:List Stmt} 
def dG(h:PD1 X st g):PX1 X cl E st (xOf g):=PS.imp h λD f H=>un7 λP F b r a I k=>by
 unfold xOf at a;cases q:g b with
 |none=>rw[q]at a;cases a
 |some e=>
  rw[q]at a;cases a;exact⟨P,F,b,e,q,I,k⟩
def cZ:PXS X cl E [] xNx:=PSs.imp v_ λD a H=>un7 λP F b r h I k=>by
 cases h;exact k a F H (Same.refl _) I
def aG{g h}(h1:PX1 X cl E st g)(h2:PXS X cl E aL h):PXS X cl E (st::aL) (bq g h):=PSs.imp (uO h1 h2) λD m H=>un7 λP F b r f I k=>by
 unfold bq at f;split at f
 ·rename_i a q;exact⟨P,F,b,_,q,I,λi l o e j=>⟨P,l,a,r,f,j,k.ext e⟩⟩
 ·rename_i q;refine⟨P,F,b,r,f,I,?_⟩;cases r with
  |ex k'=>exact k
  |go r=>
   cases r with
   |nx a=>exact absurd f<|q a
   |bk b=>exact k
   |ct b=>exact k
   |rt x b=>exact k
def a8{g}(h1:PX1 X cl E st g):PXS X cl E [st] g:=PSs.imp (sJ h1) λ_ _ _ q=>q
def fR{a b}{fc:Dk}{g h}(l:PDT X c fc)(o:PXS X cl E a g)(m:PXS X cl E b h):PX1 X cl E (.If c a b pos) (xIf fc g h):=PS.imp (Cc l o m) λD p H=>un7 λP F f r e I k=>by
 unfold xIf at e;cases q:fc f with
 |none=>rw[q]at e;cases e
 |some b=>
  rw[q,Ya]at e;refine⟨P,F,f,b,q,I,λj s i=>?_⟩;cases b with
  |true=>
   rw[Yh rfl]at e ⊢;exact⟨P,j,f,r,e,I.evo i,k.ext i.ext⟩
  |false=>
   rw[Yp Ym]at e ⊢;exact⟨P,j,f,r,e,I.evo i,k.ext i.ext⟩
def oq{t}{i np p2 cpos}(g:X.calm=true)(j:oh X (cl k) λH'=>E (.ref (cl k)) none H')(e:Gl X x)(b:X.mg x=some (.ref (cl k)))(q:excIn X.K (cl k) vM "ValueError.__new__"=true)
  (hd:nDb x:=by decide) (h:starEach [.Constant (.str t) i p2] X.env=[(false,eval (.Constant (.str t) i p2) X.env)]:=by rfl) :
  PX1 X cl E (.Raise (some<|.Call (.Name x np) [.Constant (.str t) i p2] [] cpos) none pos) (xEx k):=PS.imp (A8 g j e b q hd h) λD l H=>un7 λP F m r f I a=>by
 cases f;exact a F H (Same.refl _) I.toDHp
end
def DE(K:Kq)(cl:Nat->Addr)(rz:List DV->Option Nat):Sp:=λe H _ E=>∃P F x k,rz x=some k/\DHp P F H/\DVs K P F H x e/\∀b a,Same F b->DHp P b a->E (.ref<|cl k) none a
end L2
namespace L2
open PySem PySem.Spec PyProof.Rows
end L2
namespace L2
open PySem PySem.Spec PySem.Calls PySem.W PyProof.Rows PySem.Builtin PySem.Builtin.Str
def yb{np cpos}(z:X.calm=true)(A:oh X C R)(y:Gl X x)(w:X.mg x=some (.ref C))(q:excIn X.K C vM "ValueError.__new__"=true)(he:PE X e te)
  (hd:nDb x:=by decide) (b:starEach [e] X.env=[(false,eval e X.env)]:=by rfl) :
  PS X (.Raise (some<|.Call (.Name x np) [e] [] cpos) none pos) (λ_ σ H=>te σ H λv H1=>[v].length=1/\R H1):=by
 intro p s σ H D I h;obtain⟨bm,N,nm,qn,bs,hdct,sn,sub,ab,col,dd,k0,k1,k2,k3,k5,mN,E,B,f,T⟩:=wO I.mod.kin q;refine wpAny_Raise_call_subT (nm:=nm) (q:=qn) (N:=N) (bs:=bs) (hdct:=hdct) (sn:=sn) (sub:=sub) (ab:=ab) (col:=col) (dd:=dd) (k0:=k0) (k1:=k1) (k2:=k2) (k3:=k3) (k5:=k5) PySem.F.excBase_ValueError (T.hasType rfl) (I.ok.hd z) (by rw[b];rfl) f<|fJ I y w ⟨rfl,?_⟩ hd;have m:=aI he aZ b;have go:=m cpos p s σ H (λg H1=>g.length=1/\R H1) I h;rw[b]at go ⊢;refine ZV<|a9 go λu j g H1 a l i=>⟨rfl,?_,a.bk _ _ E,B.keeps a.bk,T.keeps a.bk,λJ e o=>A p σ H1 j J e u a o i.2⟩;rw[<-l.length,i.1];decide
end L2
namespace L2
open PySem PySem.Spec PySem.Calls PySem.W PyProof.Rows
section
variable  {e':Expr}{k0 k1:_}{p0 s0 s1:Pos}
end
section
variable  {k:Nat}{f:Addr}      
end
def Io(X:Cx)(body:List Stmt)(cl:Nat->Addr)(rz:DF->Option Nat):Prop:=
 ∀(p:Kp) s (e:St) H P F g k Q (E:Kv),Inv X p e H s->rz g=some k->DInv X.K P F H g e->
  (∀a m B f b i l j h,Inv X p e b i->Evo P F H f b->Thr X.prog X.w (cl k) X.stack b i a m B j h->Same f l->DHp (gd f b) l j->E (.ref a) h)->wpAny (model X.prog X.w) X.A (execs body X.env) Q E s
section
variable  {a A3:Addr}{ob:Obj}   {c3:Str}{b1 b2 b3:Bool}
end
end L2
namespace L2
open PySem PySem.Spec PyProof.Rows
end L2
namespace L2
open PySem PySem.Spec PySem.Calls PySem.W PyProof.Rows
section
variable  {a:Addr}{ob:Obj}    {b1 b2:Bool}{t t0 t1 t2 t3:Str}
end
end L2
namespace L2
open PySem PySem.Spec PyProof.Rows
def isI:D->Bool
 |.int _=>true
 |_=>false
def toI:D->Int
 |.int i=>i
 |_=>0
def lI:∀{vs}{ds},Reps K F vs ds->ds.all isI=true->vs=(ds.map toI).map V.int:=by
 intro vs ds h;refine Reps.ind (M:=λvs ds=>ds.all isI=true->vs=(ds.map toI).map V.int) (λ_=>rfl) (λ{v d vs ds} r _ ih q=>?_) h;rw[Vz,Yn]at q;cases d with
 |int i=>
  cases r;rw[ih q.2];rfl
 |_=>cases q.1
def fW:Stmt->Str
 |.FunctionDef n _ _ _ _ _ _ _ _ _=>n
 |_=>Str.empty
def bK(s:Stmt):List Str:=(defArgs s).args.map (·.arg)
def GW{α:Type}:Nat->(List α->Prop)->Prop
 |0,P=>P []
 |n+1,P=>∀a,GW n λl=>P (a::l)
theorem zE:∀{n}{P:List α->Prop},GW n P->∀us,us.length=n->P us
 |0,_,h,us,e=>by rwa[ZO.mp e]
 |n+1,_,h,us,e=>by
  cases us with
  |nil=>cases e
  |cons a l=>exact zE (h a) l<|Nat.succ.inj e
def fnD(q:Str)(st:Stmt)(pm:Value)(c:Addr):FuncData:=PySem.W.fnOf (fW st) q (defArgs st) (defBody st) (defScope st) .none .none .none pm none (.ref c) .none
def fO(q:Str)(st:Stmt)(pm:Value)(c:Addr):Obj:=⟨.type "function",none,.func<|fnD q st pm c,#[]⟩
def Iq(q:Str)(st:Stmt)(pm:Value)(c:Addr):Prop:=GW (bK st).length λu=>bindArgs (fnD q st pm c) ⟨u,[]⟩=pure ((bK st).zip u)
structure Df (K:PySem.W.Frag) (q:Str) (st:Stmt) (f:Addr) (d:FuncData):Prop where
 fn:Fun K (fW st) q st f d
 bd:Binds K d (bK st) []
def IP{c f}(l:K.lookup f=some (fO q st pm c))(h:PySem.W.codeIn K (.ref c) q=true)(k:PySem.W.keepIn K (.ref f)=true)(b:Iq q st pm c):Df K q st f (fnD q st pm c):=
 ⟨Ha l h k,.all<|zE b⟩
noncomputable def qF(N P:List Str)(sc:Scope):Bool:=decide (sc.kind=.function)&&!sc.isCoroutine&&!sc.isGenerator&&decide N.Nodup&&decide (N.take P.length=P)&&(P.all λx=>sc.names.lookup x == some .local||sc.names.lookup x == some .cell)&&sc.names.all λy=>y.2 != .free
def scI N{P}{s}(h:qF N P s=true:=by kernel_rfl):FnScope N P s:=by unfold qF at h;simp only[Yn,YF,Bool.not_eq_true',YE,Bool.or_eq_true,ZT,bne_iff_ne]at h;obtain⟨⟨⟨⟨⟨⟨j,i⟩,g⟩,f⟩,e⟩,b⟩,a⟩:=h;exact⟨j,i,g,f,e,b,a⟩
section
variable{P:Program}       {f:Addr}  {k:Nat} 
def Df.okI(F:Df K q st f fd) N (b:∀{cdv}{A}{outer}{s}{H}{E},Room k (A.deeper (envOfC q (defScope st) s.heap.objs.size f cdv))->
      PDS (cY CX0 P w K mg base N q (defScope st) f cdv A outer s H E).nox (defBody st) g) (h:qF N (bK st) (defScope st)=true:=by kernel_rfl):FnOk P w K mg base CX0 (k+1) f fd (bK st) (spD K (mOf N.length (bK st).length g)):=
  F.fn.okD (scI N h) λ_ _ _ _ _ _ a=>b a
def Df.okJ(F:Df K q st f fd) N (b:∀{cdv}{A}{outer}{s}{H}{E},Room k (A.deeper (envOfC q (defScope st) s.heap.objs.size f cdv))->
      PDS (cY CX0 P w K mg base N q (defScope st) f cdv A outer s H E).nox (defBody st) g) (h:qF N (bK st) (defScope st)=true:=by kernel_rfl):FnOk P w K mg base CX0 (k+1) f fd (bK st) (spM K (vq N.length (bK st).length g)):=
  F.fn.okM (scI N h) DJ λ_ _ _ _ _ _ a=>b a
end
section
variable    (i:Nat)
def ndI(h:decide N.Nodup=true:=by kernel_rfl):N.Nodup:=YN h
section
variable(hN:X.N[i]?=some x:=by rfl) (hv:Vis X.env.scope x:=by first|exact Or.inl rfl|exact Or.inr (Or.inl rfl)|exact Or.inr (Or.inr rfl)) (hd:nDb x:=by decide) (hcd:nDc x:=by decide)
include hN hv hd hcd
def aC:PDE X (.Name x pos) (getV i):=GK i<|pv i hN hv hd hcd
def au:PDR X (.Name x pos) (ag i):=Hk i<|pv i hN hv hd hcd
def bu:PDN X (.Name x pos) (ar i):=Gk i<|pv i hN hv hd hcd
def vv:uS X (.Name x pos) (jb i):=CN i<|pv i hN hv hd hcd
def vC:PDI X tg (.Name x pos) (i9 i):=DT i<|pv i hN hv hd hcd
end
def uH{g}(a:jR X es g)(hN:X.N[i]?=some x:=by rfl)(hv:Vis X.env.scope x:=by first|exact Or.inl rfl|exact Or.inr (Or.inl rfl)|exact Or.inr (Or.inr rfl))(hd:nDb x:=by decide)(hcd:nDc x:=by decide)
  (h:starEach (.Name x pos::es) X.env=(false,eval (.Name x pos) X.env)::starEach es X.env:=by rfl):jR X (.Name x pos::es) (aB i g):=Ji i (pv i hN hv hd hcd) a h
def cP(he:PDE X e f)(hi:X.N[i]?=some x:=by rfl)(hx:Loc X.env.scope x:=by first|exact .inl rfl|exact .inr rfl)(h:swapsWith e (some (.Name x pos')) pos.line X.env=pure false:=by rfl)(a:FnL X x:=by first|exact .inl rfl|exact .inr rfl|assumption)(hN:decide X.N.Nodup=true:=by kernel_rfl) :
  PD1 X (.Assign [.Name x pos'] e pos) (aY i f):=GS (ndI hN) hi hx he h a
def t4(he:PDO X e fo)(hi:X.N[i]?=some x:=by rfl)(hx:Loc X.env.scope x:=by first|exact .inl rfl|exact .inr rfl)(h:swapsWith e (some (.Name x pos')) pos.line X.env=pure false:=by rfl)(a:FnL X x:=by first|exact .inl rfl|exact .inr rfl|assumption)(hN:decide X.N.Nodup=true:=by kernel_rfl) :
  PD1 X (.Assign [.Name x pos'] e pos) (dF i fo):=wA (ndI hN) hi hx he h a
def mE(hi:X.N[i]?=some x:=by rfl)(hx:Loc X.env.scope x:=by first|exact .inl rfl|exact .inr rfl)(h:FnL X x:=by first|exact .inl rfl|exact .inr rfl|assumption)(hN:decide X.N.Nodup=true:=by kernel_rfl):PDG X (.Name x pos) [i] (setV i):=AR (ndI hN) hi hx h
def pgI(hi:X.N[i]?=some x:=by rfl)(hx:Loc X.env.scope x:=by first|exact .inl rfl|exact .inr rfl)(h:FnL X x:=by first|exact .inl rfl|exact .inr rfl|assumption)(hN:decide X.N.Nodup=true:=by kernel_rfl):PG X (.Name x pos) (pG i):=xy (ndI hN) hi hx h
end
section
variable      {f:Dl}{st:Dq}{c:Dk}{e:Dd}  {py:Pos} (i:Nat) (N:List Str) (own:Nat) (ix is:List Nat) (hi:PDI X tg iter f)
  (hg:∀{s H fp pz},PDG (blk X scope N s H fp pz) tg is st) (hc:∀{s H fp pz},yp (blk X scope N s H fp pz) ifs (tB' X.K c)) (he:∀{s H fp pz},PDE (blk X scope N s H fp pz) elt e)
section
variable(hcalm:X.calm=true:=by rfl) (b:C7 X.env.scope scope=true:=by kernel_rfl) (cp:Cw X.N scope N own ix=true:=by kernel_rfl) (his:(is.all λj=>decide (j < own))=true:=by kernel_rfl) (hnames:decide (∀y∈scope.names,y.2=.local->scope.names.lookup y.1=some .local)=true:=by kernel_rfl)
  (hs:FsI iter X:=by intro _;rfl)
include hi hg hc he hcalm b cp his hnames hs
def xY:PDO X (.ListComp elt [⟨tg,iter,ifs,0⟩] scope pos) (asL (fB own ix f st c e)):=
 BF hcalm (HM _ rfl b) (H_ _ rfl cp) (FJ his) hi (λ_ _ _ _=>hg) (λ_ _ _ _=>hc) (λ_ _ _ _=>he) (YN hnames) hs
end
section
variable(hiN:X.N[i]?=some y:=by rfl) (hx:Loc X.env.scope y:=by first|exact .inl rfl|exact .inr rfl) (hN:decide X.N.Nodup=true:=by kernel_rfl) (hcalm:X.calm=true:=by rfl) (b:C7 X.env.scope scope=true:=by kernel_rfl) (cp:Cw X.N scope N own ix=true:=by kernel_rfl) (his:(is.all λj=>decide (j < own))=true:=by kernel_rfl) (hnames:decide (∀y∈scope.names,y.2=.local->scope.names.lookup y.1=some .local)=true:=by kernel_rfl)
  (hsw:swapsWith (.ListComp elt [⟨tg,iter,ifs,0⟩] scope pos) (some (.Name y py)) spos.line X.env=pure true:=by rfl)
  (hs:FsI iter X:=by intro _;rfl) (hf:FnL X y:=by first|exact .inl rfl|exact .inr rfl|assumption)
include hf hiN hx hN hi hg hc he hcalm b cp his hnames hs hsw
end
end
section
variable  {k:Nat}{f:Addr}     {g:Dv}    
def pcI(G:FnOk X.prog X.w X.K X.mg X.base CX0 k f fd (bK sd) (spD X.K m))(D:Df X.K q sd f fd/\X.mg (fW sd)=some (.ref f))(a:Room k' X.A)(j:jR X (e::es) g)(hx:fW sd=x:=by rfl)(b:k<=k':=by decide)(i:Gl X x:=by rfl)
  (hd:nDb x:=by decide) (he:starEach (e::es) X.env=(false,eval e X.env)::starEach es X.env:=by rfl) (h:(backTo pos<|starEach es X.env).any (·.1)=false:=by rfl):PDE X (.Call (.Name x p) (e::es) [] pos) (bv m g):=
 EF G (a.mono b) i (hx ▸ D.2) D.1.fn.kp D.1.bd j hd he h
def poI(G:FnOk X.prog X.w X.K X.mg X.base CX0 k f fd (bK sd) (spD X.K m))(D:Df X.K q sd f fd/\X.mg (fW sd)=some (.ref f))(a:Room k' X.A)(j:jR X (e::es) g)(hx:fW sd=x:=by rfl)(b:k<=k':=by decide)(i:Gl X x:=by rfl)
  (hd:nDb x:=by decide) (he:starEach (e::es) X.env=(false,eval e X.env)::starEach es X.env:=by rfl) (h:(backTo pos<|starEach es X.env).any (·.1)=false:=by rfl):PDO X (.Call (.Name x p) (e::es) [] pos) (oO m g):=
 BV G (a.mono b) i (hx ▸ D.2) D.1.fn.kp D.1.bd j hd he h
end
def pfI{f}{st}(hi:PDI X tg iter f)(b:PDG X tg is st)(i:PDS X body g)(a:PassesOwn (model X.prog X.w) X.A X.env X.xe:=by exact XT)(e:X.calm=true:=by rfl)
  (h:FsI iter X:=by intro _;rfl):PD1 X (.For tg iter body [] pos) (j7 f st g):=F8 a e hi b i h
structure Rw where
 (i a m t h c:Nat)
def lno:Stmt->Int
 |.FunctionDef _ _ _ _ _ _ _ _ _ p=>p.line
 |_=>0
def kE(P:Params)(x:Str)(t:Nat)(v:Value):DictEntry:=⟨PyData.keyHash P x,.str x t,v⟩
noncomputable def cO(n q:Str)(t:Nat)(l a:Int)(r:Nat)(c:Bool)(h:Nat)(f:Int):Obj:={cls:=.type "code",data:=.fields #[.str n t,.str q<|t+1,.str "/claim/cut.py"<|t+2,.int l 0,.int a 0,.int 0 0,.int 0 0,.int 3 0,.ref r,.bool true,.int f 0,.ref<|r+1,.none,if c then .ref (r+2)else .none,if c then .ref (r+3)else .none,.ref<|if c then r+4 else r+2,.int h 0,.int l 0,.str "/claim/cut.py"<|h+1]}
noncomputable def eO(w a:Nat)(n:Str)(s x t u:Nat):Addr×Obj:=(a,{cls:=.type "type",data:=.cls {name:=n,bases:=[.ref w],mro:=[.ref a,.ref w,.type "ValueError",.type "Exception",.type "BaseException",.type "object"],ns:=s,qualname:=n},slots:=#[some<|.ref x,none,some<|.str n t,some<|.str n u,some<|.builtin "ValueError.__new__",some<|.bool true]})
abbrev DX:=DF->Option (D×DF)
def tX(K:Kq)(f:DX):TE:=λb H Q=>∃P F e r,f e=some r/\DInv K P F H e b/\∀v a g,Same F a->DInv K P a g r.2 b->Rep K a v r.1->Q v g
def PX(X:Cx)(e:Expr)(f:DX):Prop:=PE X e<|tX X.K f
noncomputable def ai (f:Dd):DX:=λρ=>(f ρ).map (·,ρ)
def aw{α e:Type}{o}{f:α->e}{b}(h:o.map f=some b):∃a,o=some a/\b=f a:=by obtain⟨a,i,g⟩:=Option.map_eq_some_iff.mp h;exact⟨a,i,g.symm⟩
section
variable    {f:DX}
def ay{g:Dd}(h:PDE X e g):PX X e (ai g):=PE.imp h λm H Q=>un7 λP F b r i I k=>by
 obtain⟨d,q,rfl⟩:=aw i;exact⟨P,F,b,d,q,I,λv l j a f=>k v l j a.ext (I.evo a) f⟩
noncomputable def bC(i:Nat)(f:DX):DF->Option RES:=λa=>(f a).map λr=>.nx<|r.2.set i<|some<|.v r.1
def jd i(he:PX X e f)(hi:X.N[i]?=some x:=by rfl)(hx:Loc X.env.scope x:=by first|exact .inl rfl|exact .inr rfl)(h:swapsWith e (some (.Name x pos')) pos.line X.env=pure false:=by rfl)(j:FnL X x:=by first|exact .inl rfl|exact .inr rfl|assumption)(hN:decide X.N.Nodup=true:=by kernel_rfl) :
  PD1 X (.Assign [.Name x pos'] e pos) (bC i f):=PS.imp (om (ndI hN) hi hx he h j) λE s H=>un7 λP F a r g I k=>by
 obtain⟨d,q,rfl⟩:=aw g;exact⟨P,F,a,d,q,I,λv p o l m b=>k _ p o l<|m.setV i b⟩
noncomputable def iW(f:DX):DF->Option RES:=λa=>(f a).map λr=>.rt (.v r.1) r.2
def sG(h:PX X e f):PD1 X (.Return (some e) pos) (iW f):=PS.imp (oY h) λE a H=>un7 λP F b r i I k=>by
 obtain⟨d,q,rfl⟩:=aw i;exact⟨P,F,b,d,q,I,λv o m j l g=>k v a o m j l g⟩
noncomputable def nL(f:DX):DF->Option RES:=λa=>(f a).map λr=>.nx r.2
def ue(h:PX X e f)(g:swapsWith e none pos.line X.env=pure false:=by rfl):PD1 X (.Expr e pos) (nL f):=PS.imp (dB h g) λE a H=>un7 λP F b r i I k=>by
 obtain⟨d,q,rfl⟩:=aw i;exact⟨P,F,b,d,q,I,λv o m j l _=>k a o m j l⟩
end
def spO(K:Kq)(f:Dz):Sp:=λj H Q _=>∃P F a e o x i d,j=.ref a::e/\f o x=some (i,d)/\DHp P F H/\ORep K F H (λb=>F b=none/\P b=none) o a/\DVs K P F H x e /\
 ∀v g h,Same F g->DHp P g h->ORep K g h (λb=>g b=none/\P b=none) i a->Rep K g v d->Q v h
def Ge(n p:Nat)(g:Dw)(o:OD)(xs:List DV)(q:OD×D):Prop:=xs.length+1=p/\∀a,∃r,g (bn n p (.own o (some a)::xs))=some r/\ku a q.1 q.2 r
noncomputable def qQ (n p:Nat)(g:Dw)(o:OD)(xs:List DV):Option (OD×D):=
 open Classical in if h:∃q,Ge n p g o xs q then some h.choose else none
def we{n p}{o}{q}(h:qQ n p g o xs=some q):Ge n p g o xs q:=by
 unfold qQ at h;split at h
 ·rename_i a;rw[<-Yv h];exact a.choose_spec
 ·cases h
def rP{n p}{o}(i:xs.length+1=p)(h:∀a,∃r,g (bn n p (.own o (some a)::xs))=some r/\ku a o' d r):qQ n p g o xs=some (o',d):=by
 have b:∃q,Ge n p g o xs q:=⟨(o',d),i,h⟩
 unfold qQ;rw[dif_pos b];obtain⟨_,j⟩:=b.choose_spec;obtain⟨r,e,q⟩:=j 0;obtain⟨m,l,f⟩:=h 0;rw[l]at e;cases e;exact YH some<|lL q f
def DInv.startO{a}{o}N p(h:DHp P F H)(l:ORep K F H (λb=>F b=none/\P b=none) o a)(r:DVs K P F H xs vs)(m:xs.length+1=p) :
  DInv K P F H (bn N.length p (.own o (some a)::xs)) (L2.start N (.ref a::vs)):=by
 refine⟨h,?_,λ_=>some 0,λi x e=>?_⟩
 ·unfold bn L2.start;rw[Yb,Yb,Yc,Yc,YA,YA,Yg,Yg,<-r.length,m]
 ·have j:=iA e;cases i with
  |zero=>
   cases j;exact⟨.ref a,eV rfl,a,rfl,l.mono (Same.refl _) λb u q s=>⟨s,q.1,q.2,rfl⟩,λb z=>by cases z;rfl⟩
  |succ i=>
   obtain⟨f,v,w,g⟩:=r.get j;refine⟨v,eV<|by simpa using w,?_⟩;cases x with
   |own o t=>cases f
   |v d=>exact g
   |bor o=>exact g
def Fun.okO{P}{f}(F:Fun K x qual st f fd)(S:FnScope N ps (defScope st))
  (m:∀{cdv}{A}{outer}{s}{H}{E},Room k (A.deeper<|envOfC qual (defScope st) s.heap.objs.size f cdv)->
   PDS (cY CX0 P w K mg base N qual (defScope st) f cdv A outer s H E).nox (defBody st) g):FnOk P w K mg base CX0 (k+1) f fd ps (spO K<|qQ N.length ps.length g):=by
 refine F.ok S (λY H Q E M=>?_) λcdv A outer s H Y Q E Z h=>?_
 ·obtain⟨R,T,a,C,o,X,U,d,e,O,_,_,L,_⟩:=M;rw[e,Yg,<-L.length];exact(we O).1
 ·refine⟨_,m Z,?_⟩;obtain⟨R,T,a,C,o,X,U,d,rfl,O,hp,ho,L,hQ⟩:=h;obtain⟨hl,hq⟩:=we O;obtain⟨r,hg,B⟩:=hq a;have I:=DInv.startO N ps.length hp ho L hl;refine⟨R,T,_,r,hg,I,?_⟩;have fin:∀i p j l v,i[0]?=some (some<|.own U<|some a)->Same T j->DInv K R j l i p->Rep K j v d->Q v l:=λi p j l v z e y J=>by
   obtain⟨v',_,a',rfl,h3,h4⟩:=y.at z;have ea:=h4 a rfl;subst ea;exact hQ v j l e y.toDHp (h3.mono (Same.refl _) λb u q hb=>⟨hb,q.1,q.2.1⟩) J
  cases r with
  |nx i=>(obtain⟨z,rfl⟩:=B;exact λp j l e y=>fin i p j l .non z e y .non)
  |rt x i=>(obtain⟨rfl,z⟩:=B;exact λv p j l e y J=>fin i p j l v z e y J)
  |bk i=>exact B.elim
  |ct i=>exact B.elim
def Df.okO{P}       {f}    (F:Df K q st f fd) N (a:∀{cdv}{A}{outer}{s}{H}{E},Room k (A.deeper (envOfC q (defScope st) s.heap.objs.size f cdv))->
      PDS (cY CX0 P w K mg base N q (defScope st) f cdv A outer s H E).nox (defBody st) g) (h:qF N (bK st) (defScope st)=true:=by kernel_rfl):FnOk P w K mg base CX0 (k+1) f fd (bK st) (spO K (qQ N.length (bK st).length g)):=
  F.fn.okO (scI N h) a
noncomputable def gdS (F H:Hp)(S:Addr->Prop):Hp:=λb=>open Classical in if S b then none else gd F H b
def gB{S}{b}{o}:gdS F H S b=some o↔¬S b/\F b=none/\H b=some o:=by
 unfold gdS;by_cases h:S b
 ·rw[Yh h];simp[h]
 ·rw[Yp h,ja];simp[h]
def vK(s:Same F H)S:DHp (gdS F H S) F H:=⟨s,λb o e=>(gB.mp e).2.2,λb o e=>(gB.mp e).2.1⟩
def DInv.hand{o}(I:DInv K P F H ρ σ)(hi:ρ[i]?=some (some (.own o t))) :
  ∃(a:Addr) (S:Addr->Prop),σ[i]?=some (some<|.ref a)/\ORep K F H (λb=>F b=none/\gdS F H S b=none) o a/\DHp (gdS F H S) F H /\
   ∀{F2 H2}{o'},Same F F2->DHp (gdS F H S) F2 H2->ORep K F2 H2 (λb=>F2 b=none/\gdS F H S b=none) o' a->DInv K P F2 H2 (ρ.set i<|some<|.own o' t) σ:=by
 obtain⟨O,B⟩:=I.rep;obtain⟨v,C,a,rfl,R,M⟩:=B i _ hi;refine⟨a,λb=>O b=some i/\P b=none,C,R.mono (Same.refl _) λb u q h=>⟨h,q.1,?_⟩,vK I.sub _,λ{F2 H2 o'} g f N=>?_⟩
 ·unfold gdS;exact Yh ⟨q.2.2,q.2.1⟩
 ·have keep:∀b u,¬(O b=some i/\P b=none)->F b=none->H b=some u->H2 b=some u/\F2 b=none:=λb u h n q=>⟨f.pro b u<|gB.mpr ⟨h,n,q⟩,f.dis b u<|gB.mpr ⟨h,n,q⟩⟩
  have A:=λb u q=>keep b u (λz=>by rw[z.2]at q;cases q) (I.dis b u q)<|I.pro b u q
  refine⟨⟨f.sub,λb u q=>(A b u q).1,λb u q=>(A b u q).2⟩,by rw[Zf];exact I.len,λb=>open Classical in if H b=none then some i else O b,λj z Q=>?_⟩;rcases gx Q with⟨rfl,e,U⟩|⟨p,m⟩
  ·cases e;refine⟨_,C,a,rfl,N.mono (Same.refl _) λb u q h=>⟨h,q.1,?_⟩,M⟩;have n:F b=none:=by
    cases c:F b with
    |none=>rfl
    |some w=>have:=g b w c;rw[q.1]at this;cases this
   cases c:H b with
   |none=>exact⟨I.pro.free c,Yh c⟩
   |some w=>
    by_cases s:O b=some i/\P b=none
    ·exact⟨s.2,(Yp<|by rw[c];simp).trans s.1⟩
    ·have:=(gB (S:=λb=>O b=some i/\P b=none)).mpr ⟨s,n,c⟩;rw[q.2]at this;cases this
  ·obtain⟨w,T,y⟩:=B j z m;refine⟨w,T,?_⟩;cases z with
   |v d'=>exact Rep.same g y
   |own od t'=>
    obtain⟨c,rfl,x,l⟩:=y;refine⟨c,rfl,x.mono g λb E q h=>?_,l⟩;obtain⟨L,J⟩:=keep b E (λz=>by rw[q.2.2]at z;exact p (Yv z.1).symm) q.1 h;exact⟨L,J,q.2.1,(Yp<|by rw[h];simp).trans q.2.2⟩
   |bor od=>(obtain⟨c,rfl,x⟩:=y;exact⟨c,rfl,x.mono g λb u q h=>⟨h,q⟩⟩)
def dN{vs}(h:All2 (λp (q:Str×FO)=>p.1=q.1/\FRep K F H ow q.2 p.2) vs fs):(fs.lookup n=none->vs.lookup n=none)/\∀o,fs.lookup n=some o->∃v,vs.lookup n=some v/\FRep K F H ow o v:=by
 induction h with
 |nil=>exact⟨λ_=>rfl,λ_ e=>by cases e⟩
 |@cons p q _ _ h _ ih=>
  have⟨x,v⟩:=p;have⟨y,o⟩:=q;have⟨e,r⟩:=h;cases e;simp[aT];by_cases e:n=x
  ·rw[Yh e,Yh e];exact⟨λz=>by(cases z),λa z=>by(cases z;exact⟨v,rfl,r⟩)⟩
  ·rwa[Yp e,Yp e]
section
variable  {k:Nat}{f:Addr}        {g:Dv}
end
noncomputable def fS(n:Str)(o:FO):List (Str×FO)->List (Str×FO)
 |[]=>[(n,o)]
 |(m,x)::r=>if m=n then(m,o)::r else(m,x)::fS n o r
abbrev Kids(K:Kq)(F H:Hp)(ow:Addr->Prop)(vs:List (Str×V))(fs:List (Str×FO)):Prop:=All2 (λp q=>p.1=q.1/\FRep K F H ow q.2 p.2) vs fs
def FO.own:FO->Bool
 |.d _=>false
 |_=>true
section
variable  {F:Hp}{ow:Addr->Prop}{n:Str}{vs:List (Str×V)}{fs:List (Str×FO)}{o o':FO}{v:V}{b:Addr}{u:HO}
def FRep.keep(h:FRep K F H ow o v)(k:∀c∈ph o v,H' c=H c):FRep K F H' ow o v:=by
 cases o with
 |d x=>exact h
 |lst ds=>obtain⟨c,rfl,e,w,b,a⟩:=h;exact⟨c,rfl,e,w,(k c<|ZN c).trans b,a⟩
 |dK ds=>obtain⟨c,rfl,e,w,b,a⟩:=h;exact⟨c,rfl,e,w,(k c<|ZN c).trans b,a⟩
def b_ p q vs fs:eS (p::vs) (q::fs)=ph q.2 p.2++eS vs fs:=rfl
def Kids.keep(h:Kids K F H ow vs fs):(∀c∈eS vs fs,H' c=H c)->Kids K F H' ow vs fs:=by
 induction h with
 |nil=>exact λ_=>.nil
 |cons r _ ih=>
  intro k;rw[b_]at k;exact .cons ⟨r.1,r.2.keep λc m=>k c<|XA _ m⟩<|ih λc m=>k c<|YZ _ m
def Kids.mem(h:Kids K F H ow vs fs):fs.lookup n=some o->vs.lookup n=some v->∀c∈ph o v,c∈eS vs fs:=by
 induction h with
 |nil=>exact λe=>by cases e
 |@cons p q _ _ r _ ih=>
  have⟨x,w⟩:=p;have⟨y,z⟩:=q;have⟨e,r⟩:=r;cases e;intro b a c m;rw[aT]at b a;rw[b_];by_cases e:n=x
  ·rw[Yh e]at b a;cases b;cases a;exact XA _ m
  ·rw[Yp e]at b a;exact YZ _<|ih b a c m
def Kids.upd(h:Kids K F H ow vs fs):(eS vs fs).Nodup->fs.lookup n=some o->o.own=true->vs.lookup n=some (.ref b)->FRep K F (upd H b u) ow o' (.ref b)->o'.own=true->Kids K F (L2.upd H b u) ow vs (fS n o' fs)/\eS vs (fS n o' fs)=eS vs fs:=by
 have j:∀{o},o.own=true->ph o (.ref b)=[b]:=λ{o} z=>by cases o<;>first|rfl|cases z
 induction h with
 |nil=>exact λ_ e=>by cases e
 |@cons p q vs fs r t ih=>
  obtain⟨x,w⟩:=p;obtain⟨y,z⟩:=q;obtain⟨e,r⟩:=r;cases e;intro g f i a s l;rw[aT]at f a;rw[b_]at g ⊢;unfold fS;by_cases e:n=x
  ·rw[Yh e]at f a;cases f;cases a;rw[Yh e.symm,b_];rw[j i]at g ⊢;rw[j l];exact⟨.cons ⟨rfl,s⟩<|Kids.keep t λc m=>aA λz=>by subst z;exact(YG.mp g).1 m,rfl⟩
  ·rw[Yp e]at f a;rw[Yp λz=>e z.symm,b_];obtain⟨C,B⟩:=ih (YO.mp g).2.1 f i a s l;have m:=Kids.mem t f a b (by rw[j i];exact ZN b);exact⟨.cons ⟨rfl,r.keep λc A=>aA λz=>by subst z;exact(YO.mp g).2.2 _ A _ m rfl⟩ C,by rw[B]⟩
def Kids.put{b}(h:Kids K F H ow vs fs):fs.lookup n=some (.d d)->Rep K F b d'->Kids K F H ow (da n b vs) (fS n (.d d') fs)/\eS (da n b vs) (fS n (.d d') fs)=eS vs fs:=by
 induction h with
 |nil=>exact λe=>by cases e
 |@cons p q vs fs r t ih=>
  obtain⟨x,w⟩:=p;obtain⟨y,z⟩:=q;obtain⟨e,r⟩:=r;cases e;intro a f;rw[aT]at a;unfold da fS;by_cases e:n=x
  ·rw[Yh e]at a;cases a;rw[Yh e.symm,Yh e.symm];exact⟨.cons ⟨rfl,f⟩ t,rfl⟩
  ·rw[Yp e]at a;rw[Yp λz=>e z.symm,Yp λz=>e z.symm,b_,b_];obtain⟨i,g⟩:=ih a f;exact⟨.cons ⟨rfl,r⟩ i,by rw[g]⟩
end
section
variable  {F:Hp}    {C:Option Addr}{fs:List (Str×FO)}{t:Option Addr}{n:Str}
def DInv.one(I:DInv K P F H ρ σ){b}{u}{o}(hi:ρ[i]?=some (some (.own o t)))(O:Addr->Option Nat)(p:∀j x,ρ[j]?=some (some x)->∃v,σ[j]?=some (some v)/\DVRep K P F H (λc=>O c=some j) x v)
  (J:F b=none) (B:P b=none) (s:O b=some i) {a} (m:σ[i]?=some (some<|.ref a)) (C:ORep K F (upd H b u) (λc=>F c=none/\P c=none/\O c=some i) o' a):DInv K P F (upd H b u) (ρ.set i<|some<|.own o' t) σ:=by
 refine⟨⟨λc w q=>?_,λc w q=>?_,I.dis⟩,by rw[Zf];exact I.len,O,λj z E=>?_⟩
 ·rw[aA λz=>by subst z;rw[J]at q;cases q];exact I.sub c w q
 ·rw[aA λz=>by subst z;rw[B]at q;cases q];exact I.pro c w q
 ·rcases gx E with⟨rfl,e,R⟩|⟨g,f⟩
  ·cases e;obtain⟨v,y,U,rfl,S,A⟩:=p i _ hi;rw[m]at y;cases y;exact⟨_,m,a,rfl,C,A⟩
  ·have⟨w,N,l⟩:=p j z f;refine⟨w,N,?_⟩;cases z with
   |v d=>exact l
   |own od t'=>
    obtain⟨c,rfl,M,h⟩:=l;exact⟨c,rfl,M.mono (Same.refl _) λT Q q L=>⟨by rwa[aA λz=>by subst z;rw[q.2.2]at s;exact g (Yv s).symm],q⟩,h⟩
   |bor od=>exact l
def DInv.kid(I:DInv K P F H ρ σ)(hi:ρ[i]?=some (some (.own (.obj C fs) t))){o}(h:o.own=true)(p:fs.lookup n=some o) :
  ∃a dx vs b,σ[i]?=some (some<|.ref a)/\H a=some (bxO C dx vs)/\F a=none/\vs.lookup n=some (.ref b)/\F b=none/\FRep K F H (λ_=>True) o (.ref b) /\
   ∀u o',o'.own=true->(∀ow,ow b->FRep K F (upd H b u) ow o' (.ref b))->DInv K P F (upd H b u) (ρ.set i<|some<|.own (.obj C<|fS n o' fs) t) σ:=by
 obtain⟨O,y⟩:=I.rep;obtain⟨v,B,a,rfl,⟨s,dx,vs,A,j,f⟩,Q⟩:=y i _ hi;obtain⟨w,l,g⟩:=(dN f).2 o p;have M:∃b,w=.ref b/\(F b=none/\P b=none/\O b=some i):=by
  cases o with
  |d x=>cases h
  |lst ds=>obtain⟨b,e,q,_⟩:=g;exact⟨b,e,q⟩
  |dK ds=>obtain⟨b,e,q,_⟩:=g;exact⟨b,e,q⟩
 obtain⟨b,rfl,ob⟩:=M;have N:ph o (.ref b)=[b]:=by cases o<;>first|rfl|cases h
 have E:b≠a:=λz=>(YG.mp j).1<|z ▸ Kids.mem f p l b (by rw[N];exact ZN b)
 refine⟨a,dx,vs,b,B,A,s.1,l,ob.1,?_,λu o' m new=>?_⟩
 ·cases o with
  |d x=>cases h
  |lst ds=>obtain⟨c,e,_,q⟩:=g;exact⟨c,e,trivial,q⟩
  |dK ds=>obtain⟨c,e,_,q⟩:=g;exact⟨c,e,trivial,q⟩
 ·obtain⟨L,J⟩:=Kids.upd f (YG.mp j).2 p h l (new _ ob) m;exact I.one hi O y ob.1 ob.2.1 ob.2.2 B ⟨s,dx,vs,by rwa[aA λz=>E z.symm],by rwa[J],L⟩
def DInv.fld(I:DInv K P F H ρ σ)(hi:ρ[i]?=some (some (.own (.obj C fs) t)))(h:fs.lookup n=some (.d d)) :
  ∃a dx vs v,σ[i]?=some (some<|.ref a)/\H a=some (bxO C dx vs)/\F a=none/\vs.lookup n=some v/\Rep K F v d/\vs.length=fs.length /\
   ∀f d',Rep K F f d'->DInv K P F (upd H a<|bxO C dx<|da n f vs) (ρ.set i<|some<|.own (.obj C<|fS n (.d d') fs) t) σ:=by
 obtain⟨O,j⟩:=I.rep;obtain⟨v,l,a,rfl,⟨o,dx,vs,x,g,b⟩,A⟩:=j i _ hi;obtain⟨w,q,y⟩:=(dN b).2 _ h;refine⟨a,dx,vs,w,l,x,o.1,q,y,b.length,λf d' p=>?_⟩;have e:Kids K F (upd H a<|bxO C dx<|da n f vs) _ vs fs:=Kids.keep b λc m=>aA λz=>by subst z;exact(YG.mp g).1 m
 obtain⟨u,s⟩:=Kids.put e h p;exact I.one hi O j o.1 o.2.1 o.2.2 l ⟨o,dx,da n f vs,aE,by rwa[s],u⟩
end
noncomputable def iO(C:Option Addr)(i:Nat)(ρ:DF):Option (List (Str×FO)):=match ρ[i]? with
 |some (some<|.own (.obj C' fs) _)=>if C'=C then some fs else none
 |some (some<|.bor<|.obj C' fs)=>if C'=C then some fs else none
 |_=>none
def Be{C}(h:iO C i ρ=some fs):(∃t,ρ[i]?=some (some (.own (.obj C fs) t)))\/ρ[i]?=some (some (.bor (.obj C fs))):=by
 unfold iO at h;split at h
 ·rename_i a f t q;split at h
  ·rename_i e;subst e;cases h;exact .inl ⟨t,q⟩
  ·cases h
 ·rename_i a f q;split at h
  ·rename_i e;subst e;cases h;exact .inr q
  ·cases h
 ·cases h
noncomputable def dR (C:Option Addr)(i:Nat)(n:Str):DF->Option D:=λa=>(iO C i a).bind λfs=>match fs.lookup n with
 |some (.d d)=>some d
 |_=>none
noncomputable def aP (C:Option Addr)(i:Nat)(n:Str):DF->Option D:=λa=>(iO C i a).bind λfs=>match fs.lookup n with
 |some (.lst ds)=>some<|.lst ds
 |some (.dK ds)=>some<|.dK ds
 |_=>none
def DInv.obj{C}(I:DInv K P F H ρ σ)(h:iO C i ρ=some fs):∃a dx vs,σ[i]?=some (some (.ref a))/\H a=some (bxO C dx vs)/\F a=none/\Kids K F H (λb=>F b=none) vs fs:=by
 have g:=Be h;have e:∃v,σ[i]?=some (some v):=by
  rcases g with⟨t,q⟩|q
  ·obtain⟨v,f,_⟩:=I.at q;exact⟨v,f⟩
  ·obtain⟨v,f,_⟩:=I.at q;exact⟨v,f⟩
 obtain⟨v,e⟩:=e;obtain⟨a,rfl,o,dx,vs,l,_,j⟩:=I.slot e g;exact⟨a,dx,vs,e,l,o,j⟩
section
variable   {n:Str}  
def pfB i(c:Cls X.K C)(j:NoAttr X.K C n)(h:PE X e (cB i))(m:attributeBase e n X.env (eval e X.env)=eval e X.env:=by rfl):PDE X (.Attribute e n pos) (dR (some C) i n):=
 (jN h m).imp λy H Q=>un7 λP F z d b I k=>by
  obtain⟨fs,q,b⟩:=Yd.mp b;split at b
  ·rename_i A g;cases b;obtain⟨a,x,f,s,p,_,o⟩:=I.obj q;obtain⟨w,l,u⟩:=(dN o).2 _ g;exact⟨_,s,a,C,x,f,w,rfl,p,c,j,l,k w F H (Evo.refl I.toDHp) u⟩
  ·cases b
def prB i(c:Cls X.K C)(x:NoAttr X.K C n)(h:PE X e (cB i))(E:attributeBase e n X.env (eval e X.env)=eval e X.env:=by rfl):PDR X (.Attribute e n pos) (aP (some C) i n):=
 (jN h E).imp λJ H Q=>un7 λP F L d f I k=>by
  obtain⟨fs,q,f⟩:=Yd.mp f;obtain⟨a,B,s,A,z,_,y⟩:=I.obj q;split at f
  ·rename_i p l;cases f;obtain⟨w,m,b,rfl,o,u,j,g⟩:=(dN y).2 _ l;exact⟨_,A,a,C,B,s,_,rfl,z,c,x,m,k _ F H (Evo.refl I.toDHp)<|.inr ⟨b,.lst p,u,rfl,o,j,g,rfl,rfl⟩⟩
  ·rename_i p l;cases f;obtain⟨w,m,b,rfl,o,u,j,g⟩:=(dN y).2 _ l;exact⟨_,A,a,C,B,s,_,rfl,z,c,x,m,k _ F H (Evo.refl I.toDHp)<|.inr ⟨b,.dK p,u,rfl,o,j,g,rfl,rfl⟩⟩
  ·cases f
noncomputable def eB(C:Option Addr)(i:Nat)(n:Str)(k:FO->Option FO):DF->Option DF:=λa=>match a[i]? with
 |some (some<|.own (.obj C' fs) t)=>if C'=C/\fs.length<1000 then(fs.lookup n).bind λo=>(k o).map λb=>a.set i (some<|.own (.obj C<|fS n b fs) t)else none
 |_=>none
def eW{C}(h:eB C i n k ρ=some ρ'):∃fs t o o',ρ[i]?=some (some (.own (.obj C fs) t))/\fs.lookup n=some o/\k o=some o'/\fs.length<1000/\ρ'=ρ.set i (some (.own (.obj C (fS n o' fs)) t)):=by
 unfold eB at h;split at h
 ·rename_i g fs t q;split at h
  ·rename_i e;obtain⟨rfl,f⟩:=e;obtain⟨o,b,h⟩:=Yd.mp h;obtain⟨o',a,rfl⟩:=aw h;exact⟨fs,t,o,o',q,b,a,f,rfl⟩
  ·cases h
 ·cases h
noncomputable def jL(C:Option Addr)(i:Nat)(n:Str)(fe:Dd):DF->Option RES:=λe=>(fe e).bind λy=>(eB C i n (λo=>match o,y with|.d<|.int a,.int b=>some (.d<|.int<|a+b)|_,_=>none) e).map .nx
def mR i(c:Cls X.K C)(S:NoAttr X.K C n)(h:PE X o (cB i))(he:PDE X e fe):PD1 X (.AugAssign (.Attribute o n tpos) .Add e pos) (jL (some C) i n fe):=
 PS.imp (yY h he FN) λE L H=>un7 λP F N r g I k=>by
  obtain⟨y,R,g⟩:=Yd.mp g;obtain⟨M,q,rfl⟩:=aw g;obtain⟨fs,t,o1,o2,u,s,f,j,rfl⟩:=eW q;split at f
  ·rename_i a b;cases f;obtain⟨p,J,m,v,z,x,Z,Y,U,T,_⟩:=I.fld u s;cases U;refine⟨_,z,p,C,J,m,_,rfl,x,c,S,Y,P,F,N,_,R,I,λy F1 H1 l Q=>?_⟩;cases Q;obtain⟨p',dx',O,v',B,A,g3,g4,g5,gl,back⟩:=(I.evo l).fld u s;rw[z]at B;cases B;have w:=(l.keep p _ x Z).1;rw[w]at A;cases A;exact⟨a,b,rfl,rfl,J,m,w,by rwa[T],k L F1 _ l.ext<|back _ _ .int⟩
  ·cases f
def qz{C}{g}{vs f}(h:bxO C dx vs=bxO C g f):vs=f:=by
 cases C with
 |some C=>injection h
 |none=>
  injection h with h;exact(List.map_inj_right (λa b e=>by obtain⟨_,_⟩:=a;obtain⟨_,_⟩:=b;cases e;rfl)).mp h
def DInv.kid2{C}(I:DInv K P F H ρ σ)(hi:ρ[i]?=some (some (.own (.obj C fs) t))){o}(h:o.own=true)(e:fs.lookup n=some o) :
  ∃a dx vs b,σ[i]?=some (some<|.ref a)/\H a=some (bxO C dx vs)/\vs.lookup n=some (.ref b)/\F b=none/\FRep K F H (λ_=>True) o (.ref b)/\(∀{F1 H1},Evo P F H F1 H1->FRep K F1 H1 (λ_=>True) o (.ref b) /\
   ∀u o',o'.own=true->(∀ow,ow b->FRep K F1 (upd H1 b u) ow o' (.ref b))->DInv K P F1 (upd H1 b u) (ρ.set i<|some<|.own (.obj C<|fS n o' fs) t) σ):=by
 obtain⟨a,dx,vs,b,j,g,y,f,x,w,_⟩:=I.kid hi h e;refine⟨a,dx,vs,b,j,g,f,x,w,λ{F1 H1} q=>?_⟩;obtain⟨E,A,s,B,p,m,_,l,_,z,back⟩:=(I.evo q).kid hi h e;rw[j]at p;cases p;rw[(q.keep a _ g y).1]at m;cases qz<|Yv m;rw[f]at l;cases l;exact⟨z,back⟩
noncomputable def o4(d:D):FO->Option FO
 |.lst ds=>if ds.length<16777216 then some (.lst<|ds++[d])else none
 |_=>none
noncomputable def cm(C:Option Addr)(i:Nat)(n:Str)(f:Dd):DF->Option RES:=λa=>(f a).bind λd=>(eB C i n (o4 d) a).map .nx
def xk i(c:Cls X.K C)(U:NoAttr X.K C n)(h:PE X o (cB i))(ha:PDE X e f)(Z:attributeBase o n X.env (eval o X.env)=eval o X.env:=by rfl)(j:attributeBase (.Attribute o n pos') "append" X.env (eval (.Attribute o n pos') X.env)=eval (.Attribute o n pos') X.env:=by rfl)
  (m:((backTo cpos<|starEach [e] X.env).all (λx=>!x.1)&&(backToKw cpos<|keywordEach [] X.env).all (λx=>x.1.isSome)
   && decide (([e]).length+([]:List Keyword).length+(if([]:List Keyword).isEmpty then 0 else 1)<30))=true:=by rfl)
  (g:(apos.endLine == cpos.line)=true:=by rfl) (B:starEach [e] X.env=[(false,eval e X.env)]:=by rfl) (y:swapsWith (.Call (.Attribute (.Attribute o n pos') "append" apos) [e] [] cpos) none pos.line X.env=pure false:=by rfl) :
  PD1 X (.Expr (.Call (.Attribute (.Attribute o n pos') "append" apos) [e] [] cpos) pos) (cm (some C) i n f):=
 PS.imp (dB (jJ YY Zu ZI fK (jN h Z) (aI ha aZ B) j m g B rfl) y) λE L H=>un7 λP F N r z I k=>by
  obtain⟨d,R,z⟩:=Yd.mp z;obtain⟨M,q,rfl⟩:=aw z;obtain⟨fs,t,o1,o2,T,S,l,_,rfl⟩:=eW q;unfold o4 at l;split at l
  ·rename_i A;split at l
   ·rename_i Y;cases l;obtain⟨a,dx,O,b,h1,h2,h4,h5,⟨_,e0,_,u,J,p⟩,w⟩:=I.kid2 T rfl S;cases e0;cases u with
    |lst us=>
     refine⟨_,h1,a,C,dx,O,_,rfl,h2,c,U,h4,.inl ⟨rfl,us,SqL.of J⟩,P,F,N,d,R,I,λv F1 H1 s Q=>?_⟩;obtain⟨_,back⟩:=w s;have p:=p;refine⟨b,us,v,rfl,rfl,(s.keep b _ J h5).1,by rwa[YL,p.length],k L F1 _ s.ext ?_⟩;exact back _ _ rfl λow ob=>⟨b,rfl,ob,_,aE,(p.same s.ext).append<|.one Q⟩
    |_=>exact p.elim
   ·cases l
  ·cases l
noncomputable def GZ(es:List D):FO->Option FO
 |.lst ds=>if ds.length+es.length<=16777216 then some (.lst<|ds++es)else none
 |_=>none
noncomputable def sX(C:Option Addr)(i:Nat)(n:Str)(g:Dl):DF->Option RES:=λa=>(g a).bind λe=>(eB C i n (GZ e) a).map .nx
def CO i{g:Dl}(c:Cls X.K C)(hn:NoAttr X.K C n)(h:PE X o (cB i))(ha:PDO X e (asL g))(hb:attributeBase o n X.env (eval o X.env)=eval o X.env:=by rfl)(j:attributeBase (.Attribute o n pos') "extend" X.env (eval (.Attribute o n pos') X.env)=eval (.Attribute o n pos') X.env:=by rfl)
  (p:((backTo cpos<|starEach [e] X.env).all (λx=>!x.1)&&(backToKw cpos<|keywordEach [] X.env).all (λx=>x.1.isSome)
   && decide (([e]).length+([]:List Keyword).length+(if([]:List Keyword).isEmpty then 0 else 1)<30))=true:=by rfl)
  (f:(apos.endLine == cpos.line)=true:=by rfl) (M:starEach [e] X.env=[(false,eval e X.env)]:=by rfl) (A:swapsWith (.Call (.Attribute (.Attribute o n pos') "extend" apos) [e] [] cpos) none pos.line X.env=pure false:=by rfl) :
  PD1 X (.Expr (.Call (.Attribute (.Attribute o n pos') "extend" apos) [e] [] cpos) pos) (sX (some C) i n g):=
 PS.imp (dB (jJ YY XL PySem.F.type_list_extend pO (jN h hb) (aI ha aZ M) j p f M rfl) A) λE Q H=>un7 λP F S r B I k=>by
  obtain⟨J,Y,B⟩:=Yd.mp B;obtain⟨R,q,rfl⟩:=aw B;obtain⟨fs,t,o1,o2,q1,Z,l,_,rfl⟩:=eW q;unfold GZ at l;split at l
  ·rename_i L;split at l
   ·rename_i hl;cases l;obtain⟨a,dx,U,b,h1,h2,h4,h5,⟨_,e0,_,u,N,s⟩,z⟩:=I.kid2 q1 rfl Z;cases e0;cases u with
    |lst us=>
     refine⟨_,h1,a,C,dx,U,_,rfl,h2,c,hn,h4,.inl ⟨rfl,us,SqL.of N⟩,P,F,S,.lst J,by unfold asL;rw[Y];rfl,I,λb' O H1 y ho=>?_⟩;obtain⟨⟨n1,n2⟩,w,T,m⟩:=ho;obtain⟨_,back⟩:=z y;have s:=s;cases w with
     |lst ws=>
      have m:=m;refine⟨b,b',us,ws,rfl,rfl,(y.keep b _ N h5).1,T,by rwa[YL,s.length,m.length],k Q O _ y.ext ?_⟩;exact back _ _ rfl λow ob=>⟨b,rfl,ob,_,aE,(s.same y.ext).append m⟩
     |_=>exact m.elim
    |_=>exact s.elim
   ·cases l
  ·cases l
def Ax{C}(h:aP C i n ρ=some (.lst ds))(hi:ρ[i]?=some (some (.own (.obj C fs) t))):fs.lookup n=some (.lst ds):=by
 obtain⟨f,q,a⟩:=Yd.mp h;have:f=fs:=by unfold iO at q;rw[hi]at q;have b:(if C=C then some fs else none)=some f:=q;rw[Yh rfl]at b;exact(Yv b).symm
 subst this;split at a
 ·rename_i x e;cases a;exact e
 ·cases a
 ·cases a
noncomputable def wx(y v:D):FO->Option FO
 |.dK kvs=>(lD y).bind λa=>if kvs.length<16777216 then some (.dK<|iL kvs a v)else none
 |_=>none
noncomputable def l_(C:Option Addr)(i:Nat)(n:Str)(fk fv:Dd):DF->Option RES:=λa=>(fv a).bind λv=>(fk a).bind λy=>(eB C i n (wx y v) a).map .nx
def wU j{fk:Dd}{i}(c:Cls X.K C)(Z:NoAttr X.K C n)(hu:X.A.units+64<cLine)(Y:PE X o (cB j))(hi:PDE X i fk)(hv:PDE X e fv)(hb:attributeBase o n X.env (eval o X.env)=eval o X.env:=by rfl)(U:swapsWith e (some (.Subscript (.Attribute o n apos) i pos')) pos.line X.env=pure false:=by rfl) :
  PD1 X (.Assign [.Subscript (.Attribute o n apos) i pos'] e pos) (l_ (some C) j n fk fv):=
 PS.imp (mY (by omega) (jN Y hb) hi hv U) λE z H=>un7 λP F w r h I k=>by
  obtain⟨dv,O,h⟩:=Yd.mp h;obtain⟨dy,N,h⟩:=Yd.mp h;obtain⟨B,q,rfl⟩:=aw h;obtain⟨fs,t,o1,o2,S,R,f,_,rfl⟩:=eW q;unfold wx at f;split at f
  ·rename_i g;obtain⟨T,Q,f⟩:=Yd.mp f;split at f
   ·rename_i hl;cases f;refine⟨P,F,w,_,O,I,λv x H1 s M=>?_⟩;obtain⟨a,dx,J,b,h1,h2,h4,h5,⟨_,e0,_,u,h6,l⟩,p⟩:=(I.evo s).kid2 S rfl R;cases e0;cases u with
    |dK ws=>
     have l:=l;refine⟨_,h1,a,C,dx,J,_,rfl,h2,c,Z,h4,P,x,w,_,N,I.evo s,λy F2 H2 m L=>?_⟩;obtain⟨_,back⟩:=p m;have ey:=xh L Q;subst ey;refine⟨b,_,rfl,DPut.k (m.keep b _ h6 h5).1<|by rwa[YL,l.length],k z F2 _ (s.ext.trans m.ext) ?_⟩;exact back _ _ rfl λow ob=>⟨b,rfl,ob,_,aE,(RepsK.same m.ext l).put<|M.same m.ext⟩
    |_=>exact l.elim
   ·cases f
  ·cases f
end
def Kids.add{vs}{fs}{o}{v}(h:Kids K F H ow vs fs):fs.lookup n=none->FRep K F H ow o v->Kids K F H ow (da n v vs) (fS n o fs)/\eS (da n v vs) (fS n o fs)=eS vs fs++ph o v:=by
 induction h with
 |nil=>exact λ_ r=>⟨.cons ⟨rfl,r⟩ .nil,by show ph o v++[]=[]++ph o v;simp⟩
 |@cons p q vs fs r t ih=>
  obtain⟨x,w⟩:=p;obtain⟨y,z⟩:=q;obtain⟨e,r⟩:=r;cases e;intro a b;rw[aT]at a;unfold da fS;by_cases e:n=x
  ·rw[Yh e]at a;cases a
  ·rw[Yp e]at a;rw[Yp λz=>e z.symm,Yp λz=>e z.symm,b_,b_];obtain⟨g,f⟩:=ih a b;exact⟨.cons ⟨rfl,r⟩ g,by rw[f,Yq]⟩
def Kids.mono{vs}(e:Same F F')(k:∀b u,ow b->H b=some u->H' b=some u/\ow' b)(h:Kids K F H ow vs fs):Kids K F' H' ow' vs fs:=h.imp λp q z=>⟨z.1,z.2.mono e k λx=>x.same e⟩
def Kids.adr{vs}(h:Kids K F H ow vs fs):∀b∈eS vs fs,H b≠none:=by
 induction h with
 |nil=>exact λ_ m=>nomatch m
 |@cons p q _ _ r _ ih=>
  intro b m;rw[b_]at m;rcases Yj.mp m with m|m
  ·obtain⟨x,v⟩:=p;obtain⟨y,o⟩:=q;cases o with
   |d x=>cases m
   |lst ds=>obtain⟨_,c,rfl,_,u,a,_⟩:=r;cases Yo.mp m;rw[a];simp
   |dK ds=>obtain⟨_,c,rfl,_,u,a,_⟩:=r;cases Yo.mp m;rw[a];simp
  ·exact ih b m
def DInv.addF{C}{o}(I:DInv K P F H ρ σ)(ev:Evo P F H F1 H1)(hi:ρ[i]?=some (some (.own (.obj C fs) t)))(T:fs.lookup n=none)(hv:FRep K F1 H1 (λb=>H b=none/\F1 b=none) o v) :
  ∃a dx vs,σ[i]?=some (some<|.ref a)/\H1 a=some (bxO C dx vs)/\vs.length=fs.length/\DInv K P F1 (upd H1 a<|bxO C dx<|da n v vs) (ρ.set i<|some<|.own (.obj C<|fS n o fs) t) σ:=by
 obtain⟨O,L⟩:=I.rep;obtain⟨w,M,a,rfl,⟨p,dx,vs,B,N,e⟩,ht⟩:=L i _ hi;obtain⟨R,J⟩:=ev.keep a _ B p.1;refine⟨a,dx,vs,M,R,e.length,?_⟩;have I1:=I.evo ev
 let l:Addr->Option Nat:=λb=>open Classical in if H b=none then some i else O b
 have A:∀j x,ρ[j]?=some _->∃v,σ[j]?=some _/\DVRep K P F1 H1 (λc=>l c=some j) x v:=λj x S=>by
  obtain⟨v,Z,Y⟩:=L j x S;exact⟨v,Z,(Y.imp λb u _ _ h q=>(Yp<|by rw[h];simp).trans q).evo ev⟩
 have E:l a=some i:=(Yp<|by rw[B];simp).trans p.2.2;have f:Kids K F1 H1 (λc=>F1 c=none/\P c=none/\l c=some i) vs fs:=Kids.mono ev.ext (λb u q h=>⟨(ev.keep b u h q.1).1,(ev.keep b u h q.1).2,q.2.1,(Yp<|by rw[h];simp).trans q.2.2⟩) e;have s:FRep K F1 H1 (λc=>F1 c=none/\P c=none/\l c=some i) o v:=FRep.mono (Same.refl _) (λb u q h=>⟨h,q.2,I.pro.free q.1,Yh q.1⟩) (λx=>x) hv;have new:∀b∈ph o v,H b=none:=λb m=>by
  cases o with
  |d x=>cases m
  |lst ds=>obtain⟨c,rfl,q,_⟩:=hv;cases Yo.mp m;exact q.1
  |dK ds=>obtain⟨c,rfl,q,_⟩:=hv;cases Yo.mp m;exact q.1
 obtain⟨X,U⟩:=Kids.add f T s;have g:(a::eS (da n v vs) (fS n o fs)).Nodup:=by
  rw[U,<-List.cons_append];refine YO.mpr ⟨N,?_,λx m y Q=>?_⟩
  ·cases o with
   |d x=>exact Vc
   |lst ds=>obtain⟨c,rfl,_⟩:=hv;exact YG.mpr ⟨nofun,.nil⟩
   |dK ds=>obtain⟨c,rfl,_⟩:=hv;exact YG.mpr ⟨nofun,.nil⟩
  ·rintro rfl;have z:=new _ Q;rcases Yw.mp m with rfl|m
   ·rw[B]at z;cases z
   ·exact Kids.adr e _ m z
 exact I1.one hi l A J p.2.1 E M ⟨⟨J,p.2.1,E⟩,dx,_,aE,g,Kids.keep X λc m=>aA λz=>by subst z;exact(YG.mp g).1 m⟩
noncomputable def JG:OD->Option FO
 |.lst ds=>some<|.lst ds
 |.dK kvs=>some<|.dK kvs
 |_=>none
noncomputable def addF(C:Option Addr)(i:Nat)(n:Str)(o:FO):DF->Option RES:=λa=>match a[i]? with
 |some (some<|.own (.obj C' fs) t)=>if C'=C/\fs.lookup n=none/\fs.length<1000 then some (.nx<|a.set i<|some<|.own (.obj C<|fS n o fs) t)else none
 |_=>none
def wQ{C}{o}(h:addF C i n o ρ=some r):∃fs t,ρ[i]?=some (some (.own (.obj C fs) t))/\fs.lookup n=none/\fs.length<1000/\r=.nx (ρ.set i (some (.own (.obj C (fS n o fs)) t))):=by
 unfold addF at h;split at h
 ·rename_i f fs t q;split at h
  ·rename_i e;obtain⟨rfl,b,a⟩:=e;cases h;exact⟨fs,t,q,b,a,rfl⟩
  ·cases h
 ·cases h
section
variable   {n:Str}  
noncomputable def Ao(C:Addr)(i:Nat)(n:Str)(f:Dd):DF->Option RES:=λa=>(f a).bind λd=>addF (some C) i n (.d d) a
def wT i(c:Cls X.K C)(x:NoAttr X.K C n)(w:PE X o (cB i))(hv:PDE X value f)(u:swapsWith value (some (.Attribute o n pos')) pos.line X.env=pure false:=by rfl) :
  PD1 X (.Assign [.Attribute o n pos'] value pos) (Ao C i n f):=PS.imp (vk w hv u) λE b H=>un7 λP F g r h I k=>by
 obtain⟨d,q,h⟩:=Yd.mp h;obtain⟨fs,t,s,p,m,rfl⟩:=wQ h;refine⟨P,F,g,d,q,I,λv L M e l=>?_⟩;obtain⟨a,B,j,A,z,y,J⟩:=I.addF e s p (o:=.d d) l;exact⟨_,A,a,C,B,j,rfl,z,c,x,by rwa[y],k b L _ e.ext J⟩
noncomputable def lE(C:Addr)(i:Nat)(n:Str)(f:Do):DF->Option RES:=λa=>(f a).bind λo=>(JG o).bind λx=>addF (some C) i n x a
def iT i{f:Do}(c:Cls X.K C)(L:NoAttr X.K C n)(B:PE X o (cB i))(hv:PDO X value f)(A:swapsWith value (some (.Attribute o n pos')) pos.line X.env=pure false:=by rfl) :
  PD1 X (.Assign [.Attribute o n pos'] value pos) (lE C i n f):=PS.imp (vk B hv A) λE p H=>un7 λP F s r h I k=>by
 obtain⟨l,q,h⟩:=Yd.mp h;obtain⟨x,g,h⟩:=Yd.mp h;obtain⟨fs,t,z,y,w,rfl⟩:=wQ h;refine⟨P,F,s,l,q,I,λb j S m e=>?_⟩;have Q:FRep X.K j S (λb=>H b=none/\j b=none) x (.ref b):=by
  cases l with
  |lst ds=>cases g;exact⟨b,rfl,e.1,e.2⟩
  |dK ds=>cases g;exact⟨b,rfl,e.1,e.2⟩
  |_=>cases g
 obtain⟨a,R,u,O,N,M,J⟩:=I.addF m z y Q;exact⟨_,O,a,C,R,u,rfl,N,c,L,by rwa[M],k p j _ m.ext J⟩
end
noncomputable def tq(C:Addr)(m:Dz)(g:Dv):DF->Option OD:=λa=>(g a).bind λx=>match m (.obj (some C) []) x with
 |some (o',.non)=>some o'
 |_=>none
section
variable  {k:Nat}{f:Addr}        {g:Dv}
def yZ(M:Mk X.K C f)(G:FnOk X.prog X.w X.K X.mg X.base CX0 k f fd ps (spO X.K mM))(hr:Room (k+1) X.A)(hg:Gl X x)(hm:X.mg x=some (.ref C))(E:Binds X.K fd ps [])(ha:jR X (e::es) g)
  (B:nDb x:=by decide) (he:starEach (e::es) X.env=(false,eval e X.env)::starEach es X.env:=by rfl) (m:(backTo pos<|starEach es X.env).any (·.1)=false:=by rfl):PDO X (.Call (.Name x p) (e::es) [] pos) (tq C mM g):=
 (xA M G hr hg hm E .nil mf ha B he m).imp λσ H Q=>un7 λP F S ob h I k=>by
  obtain⟨N,q,h⟩:=Yd.mp h;split at h
  ·rename_i o' Z;cases h;refine⟨P,F,S,N,q,I,λT j i J Y y L l s hne=>?_⟩;have a:=I.evo J;have O:Same i (upd (upd i L<|.own y) y<|.ins C L []):=λb u z=>by rwa[aA<|aS z l,aA<|aS z s]
   refine⟨gd j i,j,y,T,.obj _ [],N,ob,.non,by simp,Z,⟨a.sub.trans O,λb u z=>O b u<|(iI a.sub).pro b u z,(iI a.sub).dis⟩,⟨⟨a.sub.free l,(iI a.sub).pro.free l⟩,L,[],aE,YG.mpr ⟨nofun,.nil⟩,.nil⟩,(Y.dvs a).heap,λv F2 H2 R o ho U=>?_⟩;cases U;refine⟨rfl,k y F2 H2 (J.trans<|a.toDHp.gd R o)<|ho.mono (Same.refl _) λb u q E=>⟨E,?_,q.1⟩⟩;cases c:i b with
   |none=>exact J.back I.toDHp c
   |some w=>
    have n:j b=none:=by
     cases d:j b with
     |none=>rfl
     |some z=>have:=R b z d;rw[q.1]at this;cases this
    have:=ja.mpr ⟨n,c⟩;rw[q.2]at this;cases this
  ·cases h
end
abbrev DXs:=DF->Option (List D×DF)
def tLX(K:Kq)(g:DXs):TA:=λb H Q=>∃P F e r,g e=some r/\DInv K P F H e b/\∀f a h,Same F a->DInv K P a h r.2 b->Reps K a f r.1->Q f h
def PAX(X:Cx)(es:List Expr)(g:DXs):Prop:=PA X es<|tLX X.K g
def rc:DXs:=λρ=>some ([],ρ)
noncomputable def db(f:DX)(g:DXs):DXs:=λe=>(f e).bind λa=>(g a.2).map λb=>(a.1::b.1,b.2)
section
variable     {f:DX}{g:DXs}  
def kL:PAX X [] rc:=aZ.imp λa H Q=>un7 λP F b r h I k=>by
 cases h;exact k [] F H (Same.refl _) I .nil
def cG(h:PX X e f)(t:PAX X es g)(u:starEach (e::es) X.env=(false,eval e X.env)::starEach es X.env:=by rfl):PAX X (e::es) (db f g):=PA.imp (aI h t u) λC H Q=>un7 λP F l r i I k=>by
 obtain⟨a,s,i⟩:=Yd.mp i;obtain⟨b,q,rfl⟩:=aw i;exact⟨P,F,l,a,s,I,λv B E w y p=>⟨P,B,a.2,b,q,y,λm A z j x o=>k (v::m) A z (w.trans j) x<|.cons (p.same j) o⟩⟩
def Reps.dvs(h:Reps K F vs ds):DVs K P F H (ds.map .v) vs:=Reps.ind (M:=λvs ds=>DVs K P F H (ds.map .v) vs) .nil (λr _ ih=>.cons rfl r ih) h
noncomputable def ge(C:Addr)(mn:Str)(i:Nat)(m:Dz)(g:DXs):DX:=λb=>(iO (some C) i b).bind λfs=>if fs.lookup mn=none then(g b).bind λa=>match a.2[i]? with
  |some (some<|.own o t)=>(m o<|a.1.map .v).map λr=>(r.2,a.2.set i<|some<|.own r.1 t)
  |_=>none else none
variable{k:Nat}    
def Bm{E}:∀σ H Q,tX K (ge C mn i mM g) σ H Q->nP C mn (spO K mM) [] E (cB i) (tLX K g) σ H Q:=λσ H Q=>un7 λP F o r h I k=>by
 obtain⟨fs,q,h⟩:=Yd.mp h;split at h
 ·rename_i L;obtain⟨a,A,h⟩:=Yd.mp h;split at h
  ·rename_i B t z;obtain⟨b,y,rfl⟩:=aw h;obtain⟨p,U,s,f,N,_,M⟩:=I.obj q;refine⟨_,f,p,U,s,rfl,N,(dN M).1 L,P,F,o,a,A,I,λu m Z T X x=>?_⟩;obtain⟨p',S,j,R,O,back⟩:=X.hand z;rw[f]at j;cases j;refine⟨gdS m Z S,m,p,u,B,a.1.map .v,b.1,b.2,by simp,y,O,R,x.dvs,λv F2 Y l e J w=>?_⟩;exact k v F2 Y (T.trans l) (back l e J) w
  ·cases h
 ·cases h
def Cy i{pl}(c:Cls X.K C)(m:Meth X.K C mn f')(G:FnOk X.prog X.w X.K X.mg X.base CX0 k f' fd ps (spO X.K mM))(l:Room k' X.A)(q:Binds X.K fd ps [])(he:PE X o (cB i))(s:PAX X (e::es) g)(p:k<=k':=by decide)
  (h:starEach (e::es) X.env=(false,eval e X.env)::starEach es X.env:=by rfl) (a:(backTo pos<|starEach es X.env).any (·.1)=false:=by rfl)
  (j:eval (.Call (.Attribute o mn apos) (e::es) [] pos) X.env=(do
   let b <-eval o X.env
   standAt apos.atName
   let (f,first) <-holding [b]<|getMethod b mn pl
   callWith pos f first (backTo pos<|starEach (e::es) X.env)<|backToKw pos<|keywordEach [] X.env):=by rfl):PX X (.Call (.Attribute o mn apos) (e::es) [] pos) (ge C mn i mM g):=
 (wJ he c m G (l.mono p) q .nil mf s h a j).imp Bm
noncomputable def ug(j:Nat)(f:DX):DF->Option RES:=λb=>match b[j]? with
 |some (some<|.own (.lst _) _)=>(f b).bind λa=>match a.2[j]? with
  |some (some<|.own (.lst ds) t)=>if ds.length<16777216 then some (.nx<|a.2.set j<|some<|.own (.lst<|ds++[a.1]) t)else none
  |_=>none
 |_=>none
def D_ j(h:PE X o (cB j))(Q:PX X e f)(i:attributeBase o "append" X.env (eval o X.env)=eval o X.env:=by rfl)
  (l:((backTo cpos<|starEach [e] X.env).all (λx=>!x.1)&&(backToKw cpos<|keywordEach [] X.env).all (λx=>x.1.isSome)
   && decide (([e]).length+([]:List Keyword).length+(if([]:List Keyword).isEmpty then 0 else 1)<30))=true:=by rfl)
  (g:(apos.endLine == cpos.line)=true:=by rfl) (y:starEach [e] X.env=[(false,eval e X.env)]:=by rfl) (s:swapsWith (.Call (.Attribute o "append" apos) [e] [] cpos) none pos.line X.env=pure false:=by rfl) :
  PD1 X (.Expr (.Call (.Attribute o "append" apos) [e] [] cpos) pos) (ug j f):=
 PS.imp (dB (jJ YY Zu ZI fK h (aI Q aZ y) i l g y rfl) s) λE C H=>un7 λP F J r b I k=>by
  unfold ug at b;split at b
  ·rename_i U Z N;obtain⟨a,M,b⟩:=Yd.mp b;split at b
   ·rename_i ds t q;split at b
    ·rename_i O;cases b;obtain⟨p,K,w,h2,h3,R,h5⟩:=jf I N;refine⟨_,w,.inl ⟨rfl,K,SqL.of R⟩,P,F,J,a,M,I,λv Y H1 T B L=>?_⟩;obtain⟨p',m,A,g2,g3,S,z⟩:=jf B q;rw[w]at A;cases A;refine⟨p,m,v,rfl,rfl,S,by rwa[YL,z.length],k C Y _ T ?_⟩;exact B.mut q rfl rfl w<|z.append<|.one L
    ·cases b
   ·cases b
  ·cases b
end
section
variable   {σ:List (Option V)}   
end
section
variable  {l:Expr}   
end
section
variable     {R:Kr}
variable   {n:Nat}{P:Nat->Value->Prop}{St:Nat->Heap->Prop}{T:String}
end
section
variable   {n:Nat}{P:Nat->Value->Prop}{St:Nat->Heap->Prop}{T:String}
end
section
variable    {t:TA}
theorem Reps.app:∀{as bs}{cs es},Reps K F as cs->Reps K F bs es->Reps K F (as++bs) (cs++es)
 |_,_,_,_,.nil,h=>h
 |_,_,_,_,.cons r q,h=>.cons r<|Reps.app q h
theorem Reps.rev:∀{vs}{ds},Reps K F vs ds->Reps K F vs.reverse ds.reverse
 |_,_,.nil=>.nil
 |_,_,.cons r q=>by
  rw[XX,XX];exact Reps.app (Reps.rev q)<|.cons r .nil
end
end L2
namespace L2
open PySem PySem.Spec PySem.W PyProof.Rows
section
variable  {k:Nat}{f:Addr}       {f0:Dd}
end
section
variable  {k:Nat}{f:Addr}   {m:List (List D)->List D->List DV->Option (List (List D))}    {f0:Dd}
end
section
variable  {y:Expr} 
end
structure LamS where
 qual:Str
 params:Arguments
 body:Expr
 scope:Scope
 p:Str
 x:Str
 cell:Bool:=false
section
variable  {L:LamS}{f c' c:Addr}{uc:Value}
end
structure LamW where
 L:LamS
 t:Addr
 pos:Pos
section
variable  {W:LamW}{c:Addr}     {Q:Kv}
end
section
variable  {W:LamW}{F c:Hp}  
end
section
variable  {W:LamW}  {aL:List Stmt}{h:Dw} 
end
section
variable  {W:LamW}{k n:Nat}{c:Addr}       
end
section
variable  {W:LamW}{k n:Nat}{c:Addr}     {pos1:Pos}  
end
section
variable  {W:LamW}{k:Nat}{f:Addr}        {g:Dv}{f0:Dd}
end
end L2
namespace L2
open PySem PySem.Spec PyProof.Rows
section
variable   {G:Array GenState->Array GenState->Prop}{n:Nat}{P:Nat->Value->Prop}{St:Nat->Shared->Prop}{R:Kr}
end
end L2
namespace L2
open PySem PySem.Spec PySem.W PyProof.Rows
def ux(r:Rep K F v d)(h:lD d=some k):v=kV k:=by
 cases d with
 |int i=>cases h;cases r;rfl
 |str x=>cases h;cases r;rfl
 |_=>cases h
section
variable  {i:Expr}  {fk fd:Dd}
noncomputable def va:D->D->Option D
 |y,.dK kvs=>(lD y).map λk=>.bl<|!(dC kvs k).isSome
 |_,_=>none
def AO(T:X.A.units+64<cLine)(hi:PDE X i fk)(E:PDR X o fd)(h1:behindInMarks .NotIn o=false:=by first|exact kf _ (by decide) (by decide)|rfl):PDT X (.Compare i [.NotIn] [o] pos) (asB (d2 va fk fd)):=(uW (yS (by omega) hi E) h1).imp λR H Q=>un7 λP F e b h I k=>by
 have h:=qH h;unfold d2 at h;cases q:fk e with
 |none=>rw[q]at h;cases h
 |some u=>
 cases j:fd e with
 |none=>rw[q,Ya,j]at h;cases h
 |some L=>
 rw[q,Ya,j,Ya]at h;cases L with
 |dK kvs=>
  have a:((lD u).map λk=>D.bl _)=some _:=h;cases g:lD u with
  |none=>rw[g]at a;cases a
  |some l=>
   rw[g]at a;cases a;refine⟨P,F,e,_,q,I,λy O Y s B=>⟨P,O,e,_,j,I.evo s,λx N M m C=>?_⟩⟩;obtain⟨p,w,rfl,h1,J⟩:=rL ((I.evo s).evo m) C;have K:=ux (B.same m.ext) g;subst K;refine⟨p,_,rfl,DGet.k h1,_,rfl,?_⟩;have:(d4 w l).isSome=(dC kvs l).isSome:=by
    rcases J.val with⟨f,z⟩|⟨v,U,f,z,S⟩
    ·rw[f,z];rfl
    ·rw[f,z];rfl
   rw[this];exact k N M<|s.trans m
 |_=>cases h
end
end L2
namespace L2
open PySem PySem.Spec PyProof.Rows
def yK:CallR X (.builtin "len") (λxs H Q=>∃a kvs,xs=[V.ref a]/\H a=some (.dK kvs)/\Q (.int kvs.length) H):=by intro p s g H xs i Q I r h;obtain⟨a,kvs,rfl,e,q⟩:=h;obtain⟨u,rfl,b⟩:=jM r;cases b;exact HR I (.inl e) λt j f=>⟨.int kvs.length,H,f,⟨t,rfl⟩,q⟩
section
variable  {i:Expr}   {f:DX}{g:DXs}{fd fk:Dd}
def DInv.laid(I:DInv K P F H ρ σ){a}{o}(h:H a=none):DInv K P (upd F a o) (upd H a o) ρ σ:=I.evo<|Evo.laid I.toDHp h
noncomputable def t7:D->D->Option D
 |y,.dK kvs=>(lD y).map λk=>.bl (dC kvs k).isSome
 |_,_=>none
def xp(R:X.A.units+64<cLine)(hi:PDE X i fk)(B:PDR X o fd)(h1:behindInMarks .In o=false:=by first|exact kf _ (by decide) (by decide)|rfl):PDT X (.Compare i [.In] [o] pos) (asB (d2 t7 fk fd)):=(uW (Gw (by omega) hi B) h1).imp λN H Q=>un7 λP F j b h I k=>by
 have h:=qH h;obtain⟨S,u,h⟩:=Yd.mp h;obtain⟨J,w,h⟩:=Yd.mp h;cases J with
 |dK kvs=>
  obtain⟨e,s,h⟩:=aw h;cases h;refine⟨P,F,j,_,u,I,λy M U g m=>⟨P,M,j,_,w,I.evo g,λx L K f q=>?_⟩⟩;obtain⟨p,l,rfl,h1,C⟩:=rL ((I.evo g).evo f) q;have E:=ux (m.same f.ext) s;subst E;refine⟨p,_,rfl,DGet.k h1,_,rfl,?_⟩;have:(d4 l e).isSome=(dC kvs e).isSome:=by
   rcases C.val with⟨a,z⟩|⟨v,T,a,z,O⟩
   ·rw[a,z];rfl
   ·rw[a,z];rfl
  rw[this];exact k L K<|g.trans f
 |_=>cases h
noncomputable def vf:D->Option D
 |.dK kvs=>some<|.int kvs.length
 |_=>none
def xu(o:Gl X "len")(m:X.mg "len"=none)(s:PDR X e fd)(f:starEach [e] X.env=[(false,eval e X.env)]:=by rfl)(b:(backTo pos (starEach [] X.env)).any (·.1)=false:=by rfl) :
  PDE X (.Call (.Name "len" p) [e] [] pos) (d1 vf fd):=
 (dh yK o m PySem.boot_len (aI s aZ f) (by decide) (by decide) f b).imp λB H Q=>un7 λP F i d h I k=>by
  obtain⟨y,q,h⟩:=Yd.mp h;cases y with
  |dK kvs=>
   cases h;refine⟨P,F,i,_,q,I,λx A z g l=>?_⟩;obtain⟨a,j,rfl,w,u⟩:=rL (I.evo g) l;exact⟨a,j,rfl,w,k _ A z g<|by rw[u.length];exact .int⟩
  |_=>cases h
end
abbrev GL:=List<|Str×Nat×Int×Nat
noncomputable def glE(P:Params)(p:Str×Nat×Int×Nat):DictEntry:=⟨PyData.keyHash P p.1,.str p.1 p.2.1,.int p.2.2.1 p.2.2.2⟩
structure KD (K:PySem.W.Frag) (P:Params) (d:Addr) (L:GL) (ep:Nat):Prop where
 look:K.lookup d=some {cls:=.type "dict",data:=.dict (L.map (glE P)).toArray ep}
 nd:(L.map (·.1)).Nodup
 ns:(d == sysModules)=false
def glV(L:GL):List (Key×Value):=L.map λp=>(Sum.inr p.1,.int p.2.2.1 p.2.2.2)
noncomputable def glN(L:GL)(x:Str):Option Int:=(L.find? (·.1 == x)).map (·.2.2.1)
def KD.dict{h}(k:KD K w.params d L ep)(X:K.In h):h.DictOf (bU prog w) d (glV L):=by
 refine⟨_,_,ep,X _ _ k.look,⟨rfl,rfl,rfl⟩,rfl,λe m=>?_,?_,?_⟩
 ·obtain⟨p,_,rfl⟩:=Yt.mp<|Array.mem_toList_iff.mpr m;exact⟨.inr p.1,gH p.1 p.2.1,rfl⟩
 ·have z:∀L:GL,Pairs (bU prog w) (L.map<|glE w.params) (glV L):=λL=>by
   induction L with
   |nil=>exact .nil
   |cons p r ih=>exact .cons (gH p.1 p.2.1) rfl ih
  simpa using z L
 ·have e:(glV L).map (·.1)=(L.map (·.1)).map Sum.inr:=by unfold glV;rw[Zn,Zn];rfl
  rw[e];exact List.Pairwise.map _ (λa b n z=>n<|Sum.inr.inj z) k.nd
def AT L x:(∃n t,glN L x=some n/\valueAt (glV L) (.inr x)=some (.int n t))\/(glN L x=none/\valueAt (glV L) (.inr x)=none):=by
 induction L with
 |nil=>exact .inr ⟨rfl,rfl⟩
 |cons p r ih=>
  unfold glN glV valueAt at ih ⊢;rw[YD,Zj,Zj];by_cases e:p.1=x
  ·rw[show(p.1 == x)=true from ZT.mpr e,show decide _=true from by rw[e];simp];exact .inl ⟨_,_,rfl,rfl⟩
  ·rwa[show(p.1 == x)=false from Zh.mpr e,show decide _=false from by rw[v5,Yi e]]
def inG(L:GL):D->Option D
 |.str x=>some<|.bl (glN L x).isSome
 |_=>none
noncomputable def Ab(L:GL):D->Option D
 |.str x=>(glN L x).map .int
 |_=>none
section
variable  {i:Expr}    {d:Addr}{L:GL} 
def AV(O:Gl X x)(N:X.mg x=some (.ref d))(k:KD X.K X.w.params d L ep)(hi:PDE X i f)(hd:nDb x:=by decide)(h1:behindInMarks .In (.Name x p)=false:=by first|exact kf _ (by decide) (by decide)|rfl):PDT X (.Compare i [.In] [.Name x p] pos) (asB (d1 (inG L) f)):=by
 have J:PC X .In i (.Name x p) (λj H Q=>tD X.K f j H λy g=>∃t,y=.str t/\Q (.bl (glN L t).isSome) g):=by
  intro E s j H Q I h;refine a9 (hi E s j H _ I h) λU T y g o l C=>fJ o O N ?_ hd;obtain⟨t,rfl,q⟩:=C;obtain⟨A,rfl⟩:=l;refine wpAny_in_of (k:=Sum.inr t) (gH t A) k.ns (k.dict o.kIn).mapOf ⟨_,g,o.tok _,?_,q⟩;rcases AT L t with⟨n,u,e,m⟩|⟨e,m⟩
  ·rw[e,m];rfl
  ·rw[e,m];rfl
 refine PT.imp (uW J h1) λj H Q=>un7 λP F z b a I M=>?_;have a:=qH a;obtain⟨R,B,a⟩:=Yd.mp a;cases R with
 |str t=>
  cases a;refine⟨P,F,z,_,B,I,λy S g e l=>?_⟩;cases l;exact⟨t,rfl,_,rfl,M S g e⟩
 |_=>cases a
def D1(T:Gl X x)(S:X.mg x=some (.ref d))(k:KD X.K X.w.params d L ep)(hi:PDE X i f)(hd:nDb x:=by decide)(R:rS i:=by exact λ_ _=>rfl):PDE X (.Subscript (.Name x p) i pos) (d1 (Ab L) f):=by
 have N:PE X (.Subscript (.Name x p) i pos) (λg H Q=>tD X.K f g H λy z=>∃t n,y=.str t/\glN L t=some n/\Q (.int n) z):=by
  intro M s g H Q I h;refine xb PySem.F.slot_dict_getitem.lookup R<|fJ I T S (a9 (hi M s g H _ I h) λiv s2 y Y o l m=>?_) hd;obtain⟨t,n,rfl,A,q⟩:=m;obtain⟨E,rfl⟩:=l;refine⟨(k.dict (prog:=X.prog) o.kIn).typeIs,?_⟩;rcases AT L t with⟨n',u,a,B⟩|⟨a,B⟩
  ·rw[A]at a;cases a;exact wpAny_getItem_of (gH t E) (k.dict o.kIn).mapOf B ⟨.int n,Y,o.tok _,⟨u,rfl⟩,q⟩
  ·rw[A]at a;cases a
 refine N.imp λg H Q=>un7 λP F C b j I O=>?_;obtain⟨U,J,j⟩:=Yd.mp j;cases U with
 |str t=>
  obtain⟨n,e,rfl⟩:=aw j;refine⟨P,F,C,_,J,I,λy Z z a l=>?_⟩;cases l;exact⟨t,n,rfl,e,O _ Z z a .int⟩
 |_=>cases j
end
noncomputable def zk:D->Option D
 |.str x=>if x.length<=640 then(intText? x).map .int else none
 |_=>none
def yU:CallR X (.type "int") (λxs H Q=>∃x n,xs=[.str x]/\intText? x=some n/\x.length<=640/\Q (.int n) H):=by intro p s e H xs f Q I r h;obtain⟨x,n,rfl,b,a,q⟩:=h;obtain⟨u,rfl,t,rfl⟩:=jM r;exact PySem.W.KIN.call_text b a ⟨.int n,H,I.tok _,⟨_,rfl⟩,q⟩
def CL(j:Gl X "int")(g:X.mg "int"=none)(l:PDN X e fa)(a:starEach [e] X.env=[(false,eval e X.env)]:=by rfl) :
  PDE X (.Call (.Name "int" p) [e] [] pos) (d1 zk fa):=
 (jp yU j g boot_int (aI l aZ a) (he:=a)).imp<|q_ (show Cm X.K _ zk from by
  intro P F H x o d Q h f b k;unfold zk at h;split at h
  ·split at h
   ·rename_i x i;obtain⟨n,m,rfl⟩:=aw h;cases b;exact⟨_,n,rfl,m,i,k _ F H (Evo.refl f) .int⟩
   ·cases h
  ·cases h)
noncomputable def eQ:D->Option D
 |.int n=>if n.natAbs.log2<1920 then some (.str<|toString n)else none
 |_=>none
def xQ:CallR X (.type "str") (λxs H Q=>∃n,xs=[.int n]/\n.natAbs.log2<1920/\Q (.str (toString n)) H):=by intro p s b H xs e Q I r h;obtain⟨n,rfl,a,q⟩:=h;obtain⟨u,rfl,t,rfl⟩:=jM r;exact PySem.P.str_of_int a ⟨.str _,H,I.tok _,⟨_,rfl⟩,q⟩
def ib(j:Gl X "str")(g:X.mg "str"=none)(l:PDN X e fa)(a:starEach [e] X.env=[(false,eval e X.env)]:=by rfl) :
  PDE X (.Call (.Name "str" p) [e] [] pos) (d1 eQ fa):=
 (jp xQ j g boot_str (aI l aZ a) (he:=a)).imp<|q_<|show Cm X.K _ eQ from by
  intro P F H x m d Q h f b k;unfold eQ at h;split at h
  ·split at h
   ·rename_i n i;cases h;cases b;exact⟨_,rfl,i,k _ F H (Evo.refl f) .str⟩
   ·cases h
  ·cases h
def xv(x y:Str):Int:=match Builtin.Str.occurrences x y 0 x.length 1 with|i::_=>i|[]=>-1
noncomputable def wa:D->D->Option D
 |.str x,.str y=>some<|.int<|xv x y
 |_,_=>none
def Ei:MtR X "str.find" (λx vs H Q=>∃a b,x=.str a/\vs=[.str b]/\Q (.int (xv a b)) H):=by intro p s i H x vs v j Q I g e h;obtain⟨a,b,rfl,rfl,q⟩:=h;obtain⟨t,rfl⟩:=g;obtain⟨u,rfl,f,rfl⟩:=e.one;exact call_gives PySem.F.slot_str_find rfl PySem.F.entry_str_find (PySem.F.args_str_find_2 _ _) (gives_str_find a b t f) ⟨.int _,H,I.tok _,⟨_,rfl⟩,q⟩
def Ed(s:PDN X o fa)(u:PDN X e fb)(b:attributeBase o "find" X.env (eval o X.env)=eval o X.env:=by rfl)
  (f:((backTo cpos<|starEach [e] X.env).all (λx=>!x.1)&&(backToKw cpos<|keywordEach [] X.env).all (λx=>x.1.isSome)
   && decide (([e]).length+([]:List Keyword).length+(if([]:List Keyword).isEmpty then 0 else 1)<30))=true:=by rfl)
  (a:(apos.endLine == cpos.line)=true:=by rfl) (i:starEach [e] X.env=[(false,eval e X.env)]:=by rfl) :
  PDE X (.Call (.Attribute o "find" apos) [e] [] cpos) (d2 wa fa fb):=
 (jJ XV PySem.F.slot_str_find PySem.F.type_str_find Ei s (aI u aZ i) b f a i rfl).imp λC H Q=>un7 λP F g d h I k=>by
  obtain⟨J,p,h⟩:=Yd.mp h;obtain⟨E,q,h⟩:=Yd.mp h;unfold wa at h;split at h
  ·cases h;refine⟨P,F,g,_,p,I,λx B K j m=>?_⟩;cases m;refine⟨rfl,P,B,g,_,q,I.evo j,λy A z w l=>?_⟩;cases l;exact⟨_,_,rfl,rfl,k _ A z (j.trans w) .int⟩
  ·cases h
abbrev AW:=Nat ⊕ D
noncomputable def awX(ρ:DF):List AW->Option (List DV)
 |[]=>some []
 |.inl i::r=>match ρ[i]? with
  |some (some<|.own o _)=>(awX ρ r).map (.own o none::·)
  |_=>none
 |.inr d::r=>(awX ρ r).map (.v d::·)
noncomputable def awS:List AW->List Nat
 |[]=>[]
 |.inl i::r=>i::awS r
 |.inr _::r=>awS r
noncomputable def awB(ρ:DF):List AW->List DV->Option DF
 |[],[]=>some ρ
 |.inl i::r,.own o _::xs=>match ρ[i]? with
  |some (some<|.own _ t)=>awB (ρ.set i<|some<|.own o t) r xs
  |_=>none
 |.inr _::r,_::xs=>awB ρ r xs
 |_,_=>none
inductive ArgsW (K:PySem.W.Frag) (F:Hp) (σ:St):List AW->List V->Prop
 |nil:ArgsW K F σ [] []
 |slot {i:Nat}{v:V}{L:List AW}{vs:List V}:σ[i]?=some (some v)->ArgsW K F σ L vs->ArgsW K F σ (.inl i::L) (v::vs)
 |val {d:D}{v:V}{L:List AW}{vs:List V}:Rep K F v d->ArgsW K F σ L vs->ArgsW K F σ (.inr d::L) (v::vs)
theorem jo:∀{L}{k i:Nat},L[k]?=some (.inl i)->i∈awS L
 |[],k,i,h=>by cases k<;>cases h
 |.inl j::r,0,i,h=>by cases h;exact Yf
 |.inl j::r,k+1,i,h=>Ye _<|jo h
 |.inr d::r,0,i,h=>by cases h
 |.inr d::r,k+1,i,h=>jo (L:=r) h
theorem qV:∀{L}{k k' i:Nat},(awS L).Nodup->L[k]?=some (.inl i)->L[k']?=some (.inl i)->k=k'
 |[],k,k',i,_,h,_=>by cases k<;>cases h
 |.inl j::r,0,0,i,_,_,_=>rfl
 |.inl j::r,0,k' + 1,i,nd,h,h'=>by cases h;exact absurd (jo (k:=k') h') (YG.mp nd).1
 |.inl j::r,k+1,0,i,nd,h,h'=>by cases h';exact absurd (jo (k:=k) h) (YG.mp nd).1
 |.inl j::r,k+1,k' + 1,i,nd,h,h'=>YH Nat.succ<|qV (YG.mp nd).2 h h'
 |.inr d::r,0,_,i,_,h,_=>by cases h
 |.inr d::r,k+1,0,i,_,_,h'=>by cases h'
 |.inr d::r,k+1,k' + 1,i,nd,h,h'=>YH Nat.succ<|qV (L:=r) nd h h'
def CK(A:ArgsW K F σ L vs):∀{xs},awX ρ L=some xs->xs.length=vs.length/\∀(k:Nat) x,xs[k]?=some x->
  (∃i o t v,L[k]?=some (.inl i)/\ρ[i]?=some (some<|.own o t)/\x=.own o none/\vs[k]?=some v/\σ[i]?=some (some v))\/∃d v,L[k]?=some (.inr d)/\x=.v d/\vs[k]?=some v/\Rep K F v d:=by
 induction A with
 |nil=>intro xs h;cases h;exact⟨rfl,λk x h=>by cases k<;>cases h⟩
 |@slot i v L vs hs A ih=>
  intro xs h;unfold awX at h;split at h
  ·rename_i o t q;obtain⟨y,b,rfl⟩:=aw h;obtain⟨l,ih⟩:=ih b;refine⟨YH Nat.succ l,λk x a=>?_⟩;cases k with
   |zero=>cases a;exact .inl ⟨i,o,t,v,rfl,q,rfl,rfl,hs⟩
   |succ k=>exact ih k x a
  ·cases h
 |@val d v L vs r A ih=>
  intro xs h;obtain⟨y,b,rfl⟩:=aw h;obtain⟨l,ih⟩:=ih b;refine⟨YH Nat.succ l,λk x a=>?_⟩;cases k with
  |zero=>cases a;exact .inr ⟨d,v,rfl,rfl,rfl,r⟩
  |succ k=>exact ih k x a
theorem qr:∀{L}{ρ ρ'}{xs},(awS L).Nodup->awB ρ L xs=some ρ'->ρ'.length=ρ.length/\∀j x,ρ'[j]?=some (some x)->
  (∃(k:Nat) (o A:OD) (t t':Option Addr),L[k]?=some (Sum.inl j)/\xs[k]?=some (DV.own o t')/\ρ[j]?=some (some<|DV.own A t)/\x=DV.own o t)\/(j∉awS L/\ρ[j]?=some (some x))
 |[],ρ,ρ',xs,_,h=>by
  cases xs with
  |nil=>cases h;exact⟨rfl,λj x f=>.inr ⟨nofun,f⟩⟩
  |cons _ _=>cases h
 |.inl i::r,ρ,ρ',xs,nd,h=>by
  cases xs with
  |nil=>cases h
  |cons y xs=>
   cases y with
   |own o t0=>
    have h:(match ρ[i]? with|some (some<|.own _ t)=>awB _ r xs|_=>none)=some ρ':=h;split at h
    ·rename_i A t q;obtain⟨l,ih⟩:=qr (YG.mp nd).2 h;refine⟨by rw[l,Zf],λj x f=>?_⟩;rcases ih j x f with⟨k,w,u,s,p,b,g,a,E⟩|⟨b,g⟩
     ·have C:i≠j:=λz=>(YG.mp nd).1<|z ▸ jo b
      rw[YR C]at a;exact .inl ⟨k+1,w,u,s,p,b,g,a,E⟩
     ·rcases gx g with⟨rfl,e,_⟩|⟨B,a⟩
      ·cases e;exact .inl ⟨0,o,A,t,t0,rfl,rfl,q,rfl⟩
      ·exact .inr ⟨λm=>(Yw.mp m).elim (λz=>B z.symm) b,a⟩
    ·cases h
   |v d=>cases h
   |bor o=>cases h
 |.inr d::r,ρ,ρ',xs,nd,h=>by
  cases xs with
  |nil=>cases h
  |cons y xs=>
   have h:awB ρ r xs=some ρ':=by cases y<;>exact h
   obtain⟨l,ih⟩:=qr (L:=r) nd h;refine⟨l,λj x f=>?_⟩;rcases ih j x f with⟨k,w,u,s,p,b,g,a⟩|h
   ·exact .inl ⟨k+1,w,u,s,p,b,g,a⟩
   ·exact .inr h
def DInv.handW(I:DInv K P F H ρ σ)(A:ArgsW K F σ L vs)(hx:awX ρ L=some xs)(nd:(awS L).Nodup) :
  ∃S:Addr->Prop,DInv K (gdS F H S) F H (xs.map some) (vs.map some)/\∀{F2 H2}{l}{ρ'},Same F F2->DInv K (gdS F H S) F2 H2 (l.map some) (vs.map some)->awB ρ L l=some ρ'->DInv K P F2 H2 ρ' σ:=by
 obtain⟨O,T⟩:=I.rep;obtain⟨hl,hg⟩:=CK A hx;refine⟨λb=>∃i∈awS L,O b=some i/\P b=none,⟨vK I.sub _,by rw[Yc,Yc,hl],λb=>open Classical in if h:∃k i,L[k]?=some (Sum.inl i)/\O b=some i then some h.choose else none,λk x hk=>?_⟩,λ{F2 H2 l ρ'} Q J f=>?_⟩
 ·rw[YI]at hk;obtain⟨x',p,e⟩:=aw hk;cases e;rcases hg k _ p with⟨i,o,t,v,g,M,rfl,E,U⟩|⟨d,v,_,rfl,E,U⟩
  ·obtain⟨v',N,a,rfl,g2,_⟩:=T i _ M;rw[U]at N;cases N;refine⟨_,by rw[YI,E];rfl,a,rfl,g2.mono (Same.refl _) λb u q f=>⟨f,q.1,?_,?_⟩,λ_ z=>by cases z⟩
   ·unfold gdS;exact Yh ⟨i,jo g,q.2.2,q.2.1⟩
   ·have ex:∃k i,L[k]?=some (Sum.inl i)/\O b=some i:=⟨k,i,g,q.2.2⟩
    refine(dif_pos ex).trans ?_;obtain⟨i',B,c2⟩:=ex.choose_spec;rw[q.2.2]at c2;cases c2;exact YH some<|qV nd B g
  ·exact⟨v,by rw[YI,E];rfl,U⟩
 ·obtain⟨l',f⟩:=qr nd f;obtain⟨O2,hJ⟩:=J.rep;have keep:∀b u,(¬∃i∈awS L,O b=some i/\P b=none)->F b=none->H b=some u->H2 b=some u/\F2 b=none:=λb u f n q=>⟨J.pro b u<|gB.mpr ⟨f,n,q⟩,J.dis b u<|gB.mpr ⟨f,n,q⟩⟩
  have kp:=λb u q=>keep b u (λ⟨_,_,_,z⟩=>by rw[z]at q;cases q) (I.dis b u q)<|I.pro b u q
  refine⟨⟨J.sub,λb u q=>(kp b u q).1,λb u q=>(kp b u q).2⟩,by rw[l'];exact I.len,λb=>open Classical in if H b=none\/∃i∈awS L,O b=some i/\P b=none then(O2 b).bind λk=>match L[k]? with|some (.inl i)=>some i|_=>none else O b,λj z hj=>?_⟩;rcases f j z hj with⟨k,o,o0,t,t',g,M,E,rfl⟩|⟨g,M⟩
  ·obtain⟨v,N,a,rfl,g2,gt⟩:=T j _ E;obtain⟨w,C,a',rfl,Z,_⟩:=hJ k _ (by rw[YI,M];rfl);have hv:vs[k]?=some (.ref a):=by
    have:∃x,xs[k]?=some x:=by
     have:k<xs.length:=by rw[YI]at C;obtain⟨y,hy,_⟩:=aw C;rw[hl];exact(YM.mp hy).1
     exact⟨_,Yz this⟩
    obtain⟨x,p⟩:=this;rcases hg k x p with⟨i,o1,t1,v,B,c2,_,c3,c4⟩|⟨d,v,B,_⟩
    ·rw[g]at B;cases B;rw[N]at c4;cases c4;exact c3
    ·rw[g]at B;cases B
   rw[YI,hv]at C;cases C;refine⟨_,N,a,rfl,Z.mono (Same.refl _) λb u q f=>⟨f,q.1,?_⟩,gt⟩;have n:F b=none:=by
    cases c:F b with
    |none=>rfl
    |some w=>have:=Q b w c;rw[q.1]at this;cases this
   have s:H b=none\/∃i∈awS L,O b=some i/\P b=none:=by
    cases c:H b with
    |none=>exact .inl rfl
    |some w=>
     refine .inr<|Classical.byContradiction λs=>?_;have:=(gB (S:=λb=>∃i∈awS L,O b=some i/\P b=none)).mpr ⟨s,n,c⟩;rw[q.2.1]at this;cases this
   refine⟨s.elim (λc=>I.pro.free c) λ⟨_,_,_,z⟩=>z,(Yh s).trans ?_⟩;rw[q.2.2,Ya,g]
  ·obtain⟨w,C,Y⟩:=T j z M;refine⟨w,C,?_⟩;cases z with
   |v d'=>exact Rep.same Q Y
   |own od t'=>
    obtain⟨c,rfl,X,R⟩:=Y;refine⟨c,rfl,X.mono Q λb w' q f=>?_,R⟩;have s:¬∃i∈awS L,O b=some i/\P b=none:=λ⟨i,m,z,_⟩=>by rw[q.2.2]at z;cases z;exact g m
    obtain⟨k1,k2⟩:=keep b w' s q.1 f;exact⟨k1,k2,q.2.1,(Yp λz=>z.elim (λc=>by rw[f]at c;cases c) s).trans q.2.2⟩
   |bor od=>(obtain⟨c,rfl,X⟩:=Y;exact⟨c,rfl,X.mono Q λb u q f=>⟨f,q⟩⟩)
abbrev MW:=List DV->Option (List DV×D)
def spW(K:Kq)(f:MW):Sp:=λb H Q _=>∃P F x r,f x=some r/\DInv K P F H (x.map some) (b.map some)/\∀v a e,Same F a->DInv K P a e (r.1.map some) (b.map some)->Rep K a v r.2->Q v e
noncomputable def u4(as:Nat->Addr):Nat->List DV->List DV
 |_,[]=>[]
 |k,.own o _::r=>.own o (some<|as k)::u4 as (k+1) r
 |k,x::r=>x::u4 as (k+1) r
noncomputable def gW(as:Nat->Addr)(ρ:DF):Nat->List DV->Option (List DV)
 |_,[]=>some []
 |k,.own _ _::r=>match ρ[k]? with
  |some (some<|.own o t)=>if t=some (as k)then(gW as ρ (k+1) r).map (.own o none::·)else none
  |_=>none
 |k,x::r=>(gW as ρ (k+1) r).map (x::·)
theorem uJ as:∀n xs,(u4 as n xs).length=xs.length
 |_,[]=>rfl
 |n,x::r=>by cases x<;>exact YH Nat.succ<|uJ as (n+1) r
theorem j8 as:∀n xs k (x:DV),(u4 as n xs)[k]?=some x->(∃o t,xs[k]?=some (.own o t)/\x=.own o (some (as (n+k))))\/((∀o t,x≠.own o t)/\xs[k]?=some x)
 |n,[],k,x,h=>by cases k<;>cases h
 |n,.own o t::r,0,x,h=>by cases h;exact .inl ⟨o,t,rfl,rfl⟩
 |n,.v d::r,0,x,h=>by cases h;exact .inr ⟨nofun,rfl⟩
 |n,.bor o::r,0,x,h=>by cases h;exact .inr ⟨nofun,rfl⟩
 |n,.own o t::r,k+1,x,h=>by have:=j8 as (n+1) r k x h;rwa[Zk,Xv]at this
 |n,.v d::r,k+1,x,h=>by have:=j8 as (n+1) r k x h;rwa[Zk,Xv]at this
 |n,.bor o::r,k+1,x,h=>by have:=j8 as (n+1) r k x h;rwa[Zk,Xv]at this
theorem js{as} :∀{n}{xs ys},gW as ρ n xs=some ys->ys.length=xs.length/\∀k y,ys[k]?=some y->(∃o f t0,xs[k]?=some (.own f t0)/\ρ[n+k]?=some (some (.own o (some (as (n+k)))))/\y=.own o none)\/((∀o t,y≠.own o t)/\xs[k]?=some y)
 |n,[],ys,h=>by cases h;exact⟨rfl,λk y h=>by cases k<;>cases h⟩
 |n,.own f t0::r,ys,h=>by
  have h:(match ρ[n]? with|some (some<|.own o t)=>if t=some (as n)then(gW as ρ (n+1) r).map (.own o none::·)else none|_=>none)=some ys:=h;split at h
  ·rename_i o t q;split at h
   ·rename_i e;obtain⟨z,b,rfl⟩:=aw h;obtain⟨l,ih⟩:=js b;refine⟨YH Nat.succ l,λk y a=>?_⟩;cases k with
    |zero=>cases a;exact .inl ⟨o,f,t0,rfl,by rw[Nat.add_zero,q,e],rfl⟩
    |succ k=>have:=ih k y a;rwa[Zk,Xv]at this
   ·cases h
  ·cases h
 |n,.v d::r,ys,h=>by
  obtain⟨z,b,rfl⟩:=aw h;obtain⟨l,ih⟩:=js b;refine⟨YH Nat.succ l,λk y a=>?_⟩;cases k with
  |zero=>cases a;exact .inr ⟨nofun,rfl⟩
  |succ k=>have:=ih k y a;rwa[Zk,Xv]at this
 |n,.bor o::r,ys,h=>by
  obtain⟨z,b,rfl⟩:=aw h;obtain⟨l,ih⟩:=js b;refine⟨YH Nat.succ l,λk y a=>?_⟩;cases k with
  |zero=>cases a;exact .inr ⟨nofun,rfl⟩
  |succ k=>have:=ih k y a;rwa[Zk,Xv]at this
noncomputable def nE(as:Nat->Addr)(xs:List DV):RES->Option (List DV×D)
 |.nx ρ=>(gW as ρ 0 xs).map (·,.non)
 |.rt (.v d) ρ=>(gW as ρ 0 xs).map (·,d)
 |_=>none
def Hh(n p:Nat)(g:Dw)(xs:List DV)(q:List DV×D):Prop:=xs.length=p/\∀a,(g<|bn n p<|u4 a 0 xs).bind (nE a xs)=some q
noncomputable def kj (n p:Nat)(g:Dw):MW:=λx=>open Classical in if h:∃q,Hh n p g x q then some h.choose else none
def wE{n p}{q}(h:kj n p g xs=some q):Hh n p g xs q:=by
 unfold kj at h;split at h
 ·rename_i a;rw[<-Yv h];exact a.choose_spec
 ·cases h
def gk{n p}{q}(e:xs.length=p)(h:∀as,(g (bn n p (u4 as 0 xs))).bind (nE as xs)=some q):kj n p g xs=some q:=by
 have a:∃q,Hh n p g xs q:=⟨q,e,h⟩
 unfold kj;rw[dif_pos];have b:=a.choose_spec.2 λ_=>0
 rw[h]at b;exact b.symm
def Fun.okW{P}{f}(F:Fun K x qual st f fd)(S:FnScope N ps (defScope st))
  (T:∀{cdv}{A}{outer}{s}{H}{E},Room k (A.deeper<|envOfC qual (defScope st) s.heap.objs.size f cdv)->
   PDS (cY CX0 P w K mg base N qual (defScope st) f cdv A outer s H E).nox (defBody st) g):FnOk P w K mg base CX0 (k+1) f fd ps (spW K<|kj N.length ps.length g):=by
 refine F.ok S (λM H Q E hh_=>?_) λcdv A outer s H M Q E hr h=>?_
 ·obtain⟨P',F',Y,r,h1,J,_⟩:=hh_;have l:=J.len;rw[Yc,Yc]at l;rw[<-l];exact(wE h1).1
 ·refine⟨_,T hr,?_⟩;obtain⟨P',F',Y,q,h1,J,hQ⟩:=h;obtain⟨hl,hq⟩:=wE h1;obtain⟨O,hR⟩:=J.rep;have lv:Y.length=M.length:=by have l:=J.len;rwa[Yc,Yc]at l
  let as:Nat->Addr:=λk=>match M[k]? with|some (.ref a)=>a|_=>0
  have C:∀j x,Y[j]?=some x->∃v,M[j]?=some v/\DVRep K P' F' H _ x v:=λj x hx=>by
   obtain⟨v,e1,e2⟩:=hR j x (by rw[YI,hx];rfl);rw[YI]at e1;obtain⟨v',hv,e⟩:=aw e1;cases e;exact⟨_,hv,e2⟩
  have asv:∀j a,M[j]?=some (.ref a)->as j=a:=λj a e=>by show(match M[j]? with|some (.ref a)=>a|_=>0)=a;rw[e]
  obtain⟨r,hg,Z⟩:=Yd.mp<|hq as;have I:DInv K P' F' H (bn N.length ps.length<|u4 as 0 Y) (L2.start N M):=by
   refine⟨J.toDHp,?_,O,λi y e=>?_⟩
   ·unfold bn L2.start;rw[Yb,Yb,Yc,Yc,YA,YA,uJ,lv,<-hl,lv]
   ·have e':=iA e;rcases j8 as 0 Y i y e' with⟨o,t,U,rfl⟩|⟨_,U⟩
    ·obtain⟨v,d1,a,rfl,d2,d3⟩:=C i _ U;exact⟨_,eV d1,a,rfl,d2,λb z=>by rw[Vv,asv i a d1]at z;exact(Yv z).symm⟩
    ·obtain⟨v,d1,d2⟩:=C i _ U;exact⟨v,eV d1,d2⟩
  refine⟨P',F',_,r,hg,I,?_⟩;have fin:∀p X m L R,gW as p 0 Y=some R->Same F' m->DInv K P' m L p X->DInv K P' m L (R.map some) (M.map some):=λp X m L R B e I2=>by
   obtain⟨l,B⟩:=js B;obtain⟨O2,hI⟩:=I2.rep;refine⟨I2.toDHp,by rw[Yc,Yc,l,lv],O2,λj z hj=>?_⟩;rw[YI]at hj;obtain⟨z',hz,ez⟩:=aw hj;cases ez;rcases B j _ hz with⟨o,o0,t0,U,c2,rfl⟩|⟨no,U⟩
   ·obtain⟨v,d1,a,rfl,_,_⟩:=C j _ U;rw[Vv]at c2;obtain⟨v',_,a',rfl,d2,d3⟩:=hI j _ c2;have ea:=d3 _ rfl;rw[asv j a d1]at ea;subst ea;exact⟨_,by rw[YI,d1];rfl,a,rfl,d2,λ_ z=>by cases z⟩
   ·obtain⟨v,d1,d2⟩:=C j _ U;refine⟨v,by rw[YI,d1];rfl,?_⟩;cases z with
    |v d=>exact Rep.same e d2
    |own o t=>exact absurd rfl<|no o t
    |bor o=>obtain⟨a,rfl,d3⟩:=d2;exact⟨a,rfl,d3.mono e λb u q B=>⟨B,q⟩⟩
  cases r with
  |nx p=>
   obtain⟨R,B,rfl⟩:=aw Z;exact λX m L e I2=>hQ .non m L e (fin p X m L R B e I2) .non
  |rt x p=>
   cases x with
   |v d=>
    obtain⟨R,B,rfl⟩:=aw Z;exact λv X m L e I2 rv=>hQ v m L e (fin p X m L R B e I2) rv
   |own o t=>cases Z
   |bor o=>cases Z
  |bk p=>cases Z
  |ct p=>cases Z
def Df.okW{P}       {f}    (F:Df K q st f fd) N (a:∀{cdv}{A}{outer}{s}{H}{E},Room k (A.deeper (envOfC q (defScope st) s.heap.objs.size f cdv))->
      PDS (cY CX0 P w K mg base N q (defScope st) f cdv A outer s H E).nox (defBody st) g) (h:qF N (bK st) (defScope st)=true:=by kernel_rfl):FnOk P w K mg base CX0 (k+1) f fd (bK st) (spW K (kj N.length (bK st).length g)):=
  F.fn.okW (scI N h) a
abbrev DWs:=DF->Option (List AW×DF)
def tLW(K:Kq)(g:DWs):TA:=λa H Q=>∃P F e r,g e=some r/\DInv K P F H e a/\∀f b h,Same F b->DInv K P b h r.2 a->ArgsW K b a r.1 f->Q f h
def PAW(X:Cx)(es:List Expr)(g:DWs):Prop:=PA X es<|tLW X.K g
def ba:DWs:=λρ=>some ([],ρ)
noncomputable def aD(i:Nat)(g:DWs):DWs:=λa=>match a[i]? with
 |some (some<|.own _ _)=>(g a).map λr=>(.inl i::r.1,r.2)
 |_=>none
noncomputable def aH(f:DX)(g:DWs):DWs:=λe=>(f e).bind λa=>(g a.2).map λb=>(.inr a.1::b.1,b.2)
noncomputable def ax(m:MW)(g:DWs):DX:=λe=>(g e).bind λa=>if(awS a.1).Nodup then(awX a.2 a.1).bind λx=>(m x).bind λr=>(awB a.2 a.1 r.1).map λb=>(r.2,b)else none
section
variable    {g:DWs}{f:DX}
def bz:PAW X [] ba:=aZ.imp λa H Q=>un7 λP F b r h I k=>by
 cases h;exact k [] F H (Same.refl _) I .nil
def aN i(h:PE X e (cB i))(t:PAW X es g)(s:starEach (e::es) X.env=(false,eval e X.env)::starEach es X.env:=by rfl):PAW X (e::es) (aD i g):=PA.imp (aI h t s) λz H Q=>un7 λP F j r a I k=>by
 unfold aD at a;split at a
 ·rename_i o t q;obtain⟨b,p,rfl⟩:=aw a;have⟨v,f,_⟩:=I.at q;exact⟨v,f,P,F,j,b,p,I,λl y x u w m=>k (v::l) y x u w<|.slot f m⟩
 ·cases a
def aU(h:PX X e f)(t:PAW X es g)(u:starEach (e::es) X.env=(false,eval e X.env)::starEach es X.env:=by rfl):PAW X (e::es) (aH f g):=PA.imp (aI h t u) λC H Q=>un7 λP F l r i I k=>by
 obtain⟨a,s,i⟩:=Yd.mp i;obtain⟨b,q,rfl⟩:=aw i;exact⟨P,F,l,a,s,I,λv B E w y p=>⟨P,B,a.2,b,q,y,λm A z j x o=>k (v::m) A z (w.trans j) x<|.val (p.same j) o⟩⟩
variable{k:Nat}     {m:MW}  
def Cp{E}:∀σ H Q,tX K (ax m g) σ H Q->wX (spW K m) [] E (tLW K g) σ H Q:=λσ H Q=>un7 λP F i r h I u=>by
 obtain⟨a,p,h⟩:=Yd.mp h;split at h
 ·rename_i s;obtain⟨x,o,h⟩:=Yd.mp h;obtain⟨b,l,h⟩:=Yd.mp h;obtain⟨f,q,rfl⟩:=aw h;refine⟨P,F,i,a,p,I,λM L N w z A=>?_⟩;obtain⟨S,J,back⟩:=z.handW A o s;rw[Yl];exact⟨_,L,x,b,l,J,λv C B e y j=>u v C B (w.trans e) (back e y q) j⟩
 ·cases h
def pxc(G:FnOk X.prog X.w X.K X.mg X.base CX0 k f' fd (bK sd) (spW X.K m))(D:Df X.K q sd f' fd/\X.mg (fW sd)=some (.ref f'))(a:Room k' X.A)(i:PAW X (e::es) g)(hx:fW sd=x:=by rfl)(b:k<=k':=by decide)(f:Gl X x:=by rfl)
  (hd:nDb x:=by decide) (he:starEach (e::es) X.env=(false,eval e X.env)::starEach es X.env:=by rfl) (h:(backTo pos<|starEach es X.env).any (·.1)=false:=by rfl):PX X (.Call (.Name x p) (e::es) [] pos) (ax m g):=
 (mX G (a.mono b) f (hx ▸ D.2) D.1.fn.kp D.1.bd .nil mf i hd he h).imp Cp
end
noncomputable def x2(f:Dy)(fa fb:DX):DX:=λe=>(fa e).bind λa=>(fb a.2).bind λb=>(f a.1 b.1).map (·,b.2)
def zo{f:Dy}{fa fb}(u:nY K r f):∀σ H Q,tX K (x2 f fa fb) σ H Q->tOp r (tX K fa) (tX K fb) σ H Q:=λσ H Q=>un7 λP F j d h I k=>by
 obtain⟨a,s,h⟩:=Yd.mp h;obtain⟨b,p,h⟩:=Yd.mp h;obtain⟨c,q,rfl⟩:=aw h;exact⟨P,F,j,a,s,I,λx J L w z m=>⟨P,J,a.2,b,p,z,λy E B g i l=>u P E B b.2 σ x y _ _ c Q q i (.inl<|m.same g) (.inl l) λv C A e o=>k v C A ((w.trans g).trans e.ext) (i.evo e) o⟩⟩
section
variable    {fa fb:DX}{op:Operator}{r:R2}{f:Dy}
def Cd(o:OpR X (binaryOp op) r)(h:nY X.K r f)(g:PX X a fa)(e:PX X b fb):PX X (.BinOp a op b pos) (x2 f fa fb):=(Ff o g e).imp<|zo h
def gz(e:PX X a fa)(h:PX X b fb):PX X (.BinOp a .Add b pos) (x2 af fa fb):=Cd ((zz.or oS).or<|w9.or t6) ww e h
def j5(f:PX X a fa)(e:PX X b fb):PX X (.BinOp a .Mod b pos) (x2 aJ fa fb):=Cd Bi (oG (λ_ _ h=>by have q:=YN h;exact q) λ_ _ _=>.int) f e
def EV(f:PX X a fa)(e:PX X b fb)(h:rZ b:=by exact λ_ _=>rfl):PX X (.Subscript a b pos) (x2 ixD fa fb):=(Fk Aa f e h).imp<|zo E8
end
abbrev kM(vs:List (Str×V)):List (Key×V):=vs.map λp=>(Sum.inr p.1,p.2)
def kq x v r:kM ((x,v)::r)=(Sum.inr x,v)::kM r:=rfl
def g7 vs n:d4 (kM vs) (Sum.inr n)=vs.lookup n:=by
 induction vs with
 |nil=>rfl
 |cons p r ih=>
  obtain⟨x,v⟩:=p;rw[aT];unfold d4 at ih ⊢;rw[kq,Zj];by_cases e:n=x
  ·rw[Yh e,show decide _=true from by rw[e];simp];rfl
  ·rwa[Yp e,show decide _=false from by rw[v5,Yi λz=>e z.symm]]
theorem rR:∀{vs},n∉vs.map (·.1)->da n v vs=vs++[(n,v)]
 |[],_=>rfl
 |(x,w)::r,h=>by
  unfold da;rw[Yp λz=>h<|by rw[z];exact Yf,rR λm=>h<|Ye _ m];rfl
theorem E7:∀{vs},n∉vs.map (·.1)->(kM vs).map (λa=>if a.1=Sum.inr n then(a.1,v)else a)=kM vs
 |[],_=>rfl
 |(x,w)::r,h=>by
  rw[kq,YD,E7 λm=>h<|Ye _ m,Yp λz=>h<|by cases z;exact Yf]
theorem B4:∀{vs},(vs.map (·.1)).Nodup->n∈vs.map (·.1)->(kM vs).map (λa=>if a.1=Sum.inr n then(a.1,v)else a)=kM (da n v vs)
 |[],_,m=>nomatch m
 |(x,w)::r,nd,m=>by
  unfold da;by_cases e:x=n
  ·subst e;rw[Yh rfl,kq,YD,E7 (YG.mp nd).1,Yh rfl];rfl
  ·rw[Yp e,kq,YD,kq,B4 (YG.mp nd).2<|(Yw.mp m).elim (λz=>absurd z.symm e) id,Yp λz=>e<|Sum.inr.inj z]
def lM{vs}(b:(vs.map (·.1)).Nodup):fL (kM vs) (Sum.inr n) v=kM (da n v vs):=by
 unfold fL;have e:(kM vs).any (λa=>decide<|a.1=Sum.inr n)=true↔n∈vs.map (·.1):=by
  rw[List.any_eq_true];constructor
  ·rintro⟨a,m,z⟩;obtain⟨p,h,rfl⟩:=Yt.mp m;cases YN z;exact List.mem_map_of_mem h
  ·intro m;obtain⟨p,h,rfl⟩:=Yt.mp m;exact⟨_,List.mem_map_of_mem h,by simp⟩
 by_cases m:n∈vs.map (·.1)
 ·rw[Yh<|e.mpr m];exact B4 b m
 ·rw[Yp λz=>m<|e.mp z,rR m];simp
def Kids.keys{vs}(h:Kids K F H ow vs fs):vs.map (·.1)=fs.map (·.1):=by
 induction h with
 |nil=>rfl
 |cons r _ ih=>rw[YD,YD,ih,r.1]
section
variable  {n:Str}  
def pfD{j kp}i(z:X.A.units+64<cLine)(h:PE X o (cB i))(f:rS (.Constant (.str n) j kp):=by exact λ_ _=>rfl):PDE X (.Subscript o (.Constant (.str n) j kp) pos) (dR none i n):=
 (jq (by omega) h dI f).imp λu H Q=>un7 λP F x d b I k=>by
  obtain⟨fs,q,b⟩:=Yd.mp b;split at b
  ·rename_i C e;cases b;obtain⟨a,B,y,p,m,_,g⟩:=I.obj q;obtain⟨w,l,s⟩:=(dN g).2 _ e;exact⟨_,p,a,w,rfl,by have:=DGet.k (k:=Sum.inr n) m;rwa[g7,l]at this,k w F H (Evo.refl I.toDHp) s⟩
  ·cases b
def prD{j kp}i(M:X.A.units+64<cLine)(h:PE X o (cB i))(E:rS (.Constant (.str n) j kp):=by exact λ_ _=>rfl):PDR X (.Subscript o (.Constant (.str n) j kp) pos) (aP none i n):=
 (jq (by omega) h dI E).imp λK H Q=>un7 λP F L d e I k=>by
  obtain⟨fs,q,e⟩:=Yd.mp e;obtain⟨a,N,C,B,J,_,z⟩:=I.obj q;have g:∀w,C.lookup n=some w->DGet H a _ _:=λw l=>by have:=DGet.k (k:=Sum.inr n) J;rwa[g7,l]at this
  split at e
  ·rename_i y p;cases e;obtain⟨w,s,b,rfl,x,u,m,f⟩:=(dN z).2 _ p;exact⟨_,B,a,_,rfl,g _ s,k _ F H (Evo.refl I.toDHp)<|.inr ⟨b,.lst y,u,rfl,x,m,f,rfl,rfl⟩⟩
  ·rename_i y p;cases e;obtain⟨w,s,b,rfl,x,u,m,f⟩:=(dN z).2 _ p;exact⟨_,B,a,_,rfl,g _ s,k _ F H (Evo.refl I.toDHp)<|.inr ⟨b,.dK y,u,rfl,x,m,f,rfl,rfl⟩⟩
  ·cases e
def kb{j kp}i(hu:X.A.units+64<cLine)(h:PE X o (cB i))(Z:PDE X e f)(B:rS (.Constant (.str n) j kp):=by exact λ_ _=>rfl)(l:attributeBase (.Subscript o (.Constant (.str n) j kp) pos') "append" X.env (eval (.Subscript o (.Constant (.str n) j kp) pos') X.env)=eval (.Subscript o (.Constant (.str n) j kp) pos') X.env:=by rfl)
  (p:((backTo cpos<|starEach [e] X.env).all (λx=>!x.1)&&(backToKw cpos<|keywordEach [] X.env).all (λx=>x.1.isSome)
   && decide (([e]).length+([]:List Keyword).length+(if([]:List Keyword).isEmpty then 0 else 1)<30))=true:=by rfl)
  (g:(apos.endLine == cpos.line)=true:=by rfl) (L:starEach [e] X.env=[(false,eval e X.env)]:=by rfl) (z:swapsWith (.Call (.Attribute (.Subscript o (.Constant (.str n) j kp) pos') "append" apos) [e] [] cpos) none pos.line X.env=pure false:=by rfl) :
  PD1 X (.Expr (.Call (.Attribute (.Subscript o (.Constant (.str n) j kp) pos') "append" apos) [e] [] cpos) pos) (cm none i n f):=
 PS.imp (dB (jJ YY Zu ZI fK (jq (by omega) h dI B) (aI Z aZ L) l p g L rfl) z) λE N H=>un7 λP F Q r C I k=>by
  obtain⟨d,S,C⟩:=Yd.mp C;obtain⟨O,q,rfl⟩:=aw C;obtain⟨fs,t,o1,o2,U,T,m,_,rfl⟩:=eW q;unfold o4 at m;split at m
  ·rename_i J;split at m
   ·rename_i Y;cases m;obtain⟨a,dx,vs,b,h1,h2,h4,h5,⟨_,e0,_,u,M,s⟩,y⟩:=I.kid2 U rfl T;cases e0;cases u with
    |lst us=>
     refine⟨_,h1,a,.ref b,rfl,by have:=DGet.k (k:=Sum.inr n) h2;rwa[g7,h4]at this,.inl ⟨rfl,us,SqL.of M⟩,P,F,Q,d,S,I,λv F1 H1 w R=>?_⟩;obtain⟨_,back⟩:=y w;have s:=s;refine⟨b,us,v,rfl,rfl,(w.keep b _ M h5).1,by rwa[YL,s.length],k N F1 _ w.ext ?_⟩;exact back _ _ rfl λow ob=>⟨b,rfl,ob,_,aE,(s.same w.ext).append<|.one R⟩
    |_=>exact s.elim
   ·cases m
  ·cases m
noncomputable def jE(i:Nat)(n:Str)(f:DX):DF->Option RES:=λb=>(f b).bind λa=>match a.2[i]? with
 |some (some<|.own (.obj none fs) t)=>if(fs.map (·.1)).Nodup/\fs.length<16777216 then(match fs.lookup n with
  |some (.d _)=>some<|.nx<|a.2.set i<|some<|.own (.obj none<|fS n (.d a.1) fs) t
  |_=>none)else none
 |_=>none
def rF{f}{j kp}i(hu:X.A.units+64<cLine)(Q:PE X o (cB i))(hv:PX X e f)(O:swapsWith e (some (.Subscript o (.Constant (.str n) j kp) pos')) pos.line X.env=pure false:=by rfl) :
  PD1 X (.Assign [.Subscript o (.Constant (.str n) j kp) pos'] e pos) (jE i n f):=PS.imp (mY (by omega) Q dI hv O) λE B H=>un7 λP F J r h I k=>by
 obtain⟨a,q,h⟩:=Yd.mp h;split at h
 ·rename_i fs t g;split at h
  ·rename_i m;split at h
   ·rename_i d0 M;cases h;refine⟨P,F,J,a,q,I,λv Y H1 T z L=>?_⟩;obtain⟨p,dx,b,w,u,s,h3,h4,h5,R,back⟩:=z.fld g M;obtain⟨Z,U,K,y,x,_,S⟩:=z.obj (C:=none) (i:=i) (fs:=fs) (by unfold iO;rw[g];exact Yh rfl);rw[u]at y;cases y;rw[s]at x;cases qz<|Yv x;have N:(b.map (·.1)).Nodup:=by rw[Kids.keys S];exact m.1
    have l:=DPut.k (k:=Sum.inr n) (v:=v) s (by show(b.map _).length<_;rw[Yc,R,YL];exact m.2);rw[lM N]at l;exact⟨_,u,p,_,rfl,l,k B Y _ T<|back v a.1 L⟩
   ·cases h
  ·cases h
 ·cases h
end
abbrev DB:=DF->Option (Bool×DF)
def tBX(K:Kq)(f:DB):TT:=λa H Q=>∃P F b r,f b=some r/\DInv K P F H b a/\∀g e,Same F g->DInv K P g e r.2 a->Q r.1 e
def PTX(X:Cx)(e:Expr)(f:DB):Prop:=PT X e<|tBX X.K f
def PWX(X:Cx)(e:Expr)(f:DB):Prop:=PW X e<|tBX X.K f
def PWX.t{f}(h:PWX X e f):PTX X e f:=PW.pt h
noncomputable def nK(f:Dk):DB:=λρ=>(f ρ).map (·,ρ)
noncomputable def uh(f:Dy)(fa fb:DX):DB:=λa=>(x2 f fa fb a).bind λr=>match r.1 with
 |.bl b=>some (b,r.2)
 |_=>none
noncomputable def bOr(f g:DB):DB:=λa=>(f a).bind λr=>if r.1=true then some (true,r.2)else g r.2
def n4(c:DB)(g h:Dw):DF->Option RES:=λa=>(c a).bind λr=>if r.1=true then g r.2 else h r.2
section
variable  {c:Expr}{aL:List Expr}  {fa fb:DX}{f g:DB}
def FC{f:Dk}(h:PDT X e f):PTX X e (nK f):=PT.imp h λl H Q=>un7 λP F b r g I k=>by
 obtain⟨d,q,rfl⟩:=aw g;exact⟨P,F,b,d,q,I,λj i a=>k j i a.ext<|I.evo a⟩
def C1{f:Dy}(B:OpR X (compareOp op) r)(E:OpN2 X.K r f)(L:PX X a fa)(J:PX X b fb)(C:behindInMarks op b=false):PTX X (.Compare a [op] [b] pos) (uh f fa fb):=
 PT.imp (sF B L J C) λY H Q=>un7 λP F l r h I k=>by
  obtain⟨x,q,h⟩:=Yd.mp h;obtain⟨u,A,q⟩:=Yd.mp q;obtain⟨v,s,q⟩:=Yd.mp q;obtain⟨d,p,rfl⟩:=aw q;cases d with
  |bl z=>
   cases h;refine⟨P,F,l,u,A,I,λx U Z M N o=>⟨P,U,u.2,v,s,N,λy T R j e m=>?_⟩⟩;refine E P T R x y _ _ _ _ p e.toDHp ((o.same j).same e.sub) (m.same e.sub) λw S O i g=>?_;cases g;exact⟨z,rfl,k S O ((M.trans j).trans i.ext)<|e.evo i⟩
  |_=>cases h
def Gq(h:X.A.units+64<cLine)(f:PX X a fa)(e:PX X b fb):PTX X (.Compare a [.Eq] [b] pos) (uh eqD fa fb):=C1 (uY h) uT f e<|i5 _
def DN(h:PTX X a f):PWX X (.BoolOp .Or [a] pos) f:=BB h
def FA(p:PTX X a f)(o:PWX X (.BoolOp .Or (b::aL) pos) g):PWX X (.BoolOp .Or (a::b::aL) pos) (bOr f g):=PW.imp (E3 p o) λA H Q=>un7 λP F m r h I k=>by
 obtain⟨x,q,h⟩:=Yd.mp h;refine⟨P,F,m,x,q,I,λl y i j=>?_⟩;obtain⟨x,e⟩:=x;cases x with
 |true=>cases h;exact k l y i j
 |false=>exact⟨P,l,e,r,h,j,λz w s u=>k z w (i.trans s) u⟩
def Bx{as bs}{g h}(m:PTX X c f)(p:PDS X as g)(o:PDS X bs h):PD1 X (.If c as bs pos) (n4 f g h):=PS.imp (Cc m p o) λE s H=>un7 λP F l r a I k=>by
 obtain⟨x,q,a⟩:=Yd.mp a;refine⟨P,F,l,x,q,I,λj u e i=>?_⟩;obtain⟨x,b⟩:=x;cases x with
 |true=>
  rw[Yh rfl]at a ⊢;exact⟨P,j,b,r,a,i,k.ext e⟩
 |false=>
  rw[Yp Ym]at a ⊢;exact⟨P,j,b,r,a,i,k.ext e⟩
noncomputable def Cu(g:DXs):DX:=λa=>(g a).bind λr=>if r.1.length<=16777216 then some (.lst r.1,r.2)else none
def Hl{g}(h:PAX X es g):PX X (.List es pos) (Cu g):=(jW h).imp λo H Q=>un7 λP F j d a I k=>by
 obtain⟨r,q,a⟩:=Yd.mp a;split at a
 ·rename_i l;cases a;refine⟨P,F,j,r,q,I,λs w u m i b=>⟨by rwa[b.length,YL],λp e=>?_⟩⟩;have f:=(i.toDHp.free e).1;exact k _ _ _ (m.trans<|fj f) (i.laid e)<|.lst (SqL.of aE)<|b.same<|fj f
 ·cases a
end
end L2
namespace L2
open PySem PySem.Spec PyProof.Rows PySem.MeetsSeq PySem.SeqAt
open PySem.AutoSeq1 (wpAny_loadPart')
theorem pk l a n x(e:Value->Bool)j J(C:e a[j]=true)k(q:a.size<=sizeLine) :
  ∀i:Nat,j-i=k->i<=j->(∀m I,i<=m->m<j->e a[m]=false)->Meets (Builtin.«list.remove.loop» ⟨[.ref l,x,rawInt i],[]⟩)
   (λA R s=>s.heap.get? l=some {cls:=.type "list",dict:=none,data:=.seq a n,slots:=#[]}/\(∀y,y∈a->EqAt A.in1 s y x (e y))/\R (.ok<|.ret .none) {s with heap:=s.heap.update l<|Obj.mapSeq λxs=>xs.eraseIdxIfInBounds j}):=by
 induction k with
 |zero=>
  intro i N E b p w A R s h;obtain⟨M,g,d,K,L⟩:=s;obtain⟨o,z,h⟩:=h;have u:i=j:=by omega
  subst u
  wp_walk using Xn o
  have H:a[(i:Int).toNat]?=some a[i]:=by simp[J]
  rw[H];refine Yr<|z _ (Array.getElem_mem J) p w _ _ ?_;rw[C];have B:(a.eraseIdxIfInBounds i).size<=sizeLine+1:=YW (size_erased a _)<|Nat.le_succ_of_le q
  wp_walk using (wpAny_updateSeq o rfl (hz:=q) (_hz':=B)),Xn o
  simpa using h
 |succ k ih=>
  intro i N E b p w A R s h;obtain⟨M,g,d,K,L⟩:=s;obtain⟨o,z,h⟩:=h;have f:i<a.size:=by omega
  wp_walk using Xn o
  have H:a[((i:Nat):Int).toNat]?=some a[i]:=by simp[f]
  have O:((i:Int)+1)=((i+1:Nat):Int):=by push_cast;rfl
  rw[H];refine Yr<|z _ (Array.getElem_mem f) p w _ _ ?_;rw[b i f (Yy _)<|by omega]
  wp_walk
  rw[O];exact⟨plainId_quiet plain_remove_loop _,XS entry_remove_loop<|by
   rw[Around.under_plainId plain_remove_loop _];exact ih (i+1) (by omega) (by omega) (λm I Q P=>b m I (by omega) P) p w A R _ ⟨o,z,h⟩⟩
def pj l i n x(e:Value->Bool)j u(f:e i[j]=true)(b:∀m o,m<j->e i[m]=false)(a:i.size<=sizeLine) :
  Meets (Builtin.«list.remove» ⟨[.ref l,x],[]⟩)
   (λA R s=>s.heap.get? l=some {cls:=.type "list",dict:=none,data:=.seq i n,slots:=#[]}/\(∀y,y∈i->EqAt A.in1 s y x (e y))/\R (.ok<|.ret .none) {s with heap:=s.heap.update l<|Obj.mapSeq λxs=>xs.eraseIdxIfInBounds j}):=by
 intro p w A R s h;have⟨H,g,d,C,E⟩:=s;have⟨q,z,h⟩:=h
 wp_walk using Xn q
 exact⟨plainId_quiet plain_remove_loop _,XS entry_remove_loop<|by
  rw[Around.under_plainId plain_remove_loop _];exact pk l i n x e j u f _ a 0 rfl (YQ _) (λm o _ B=>b m o B) p w A R _ ⟨q,z,h⟩⟩
theorem yP(hu:X.A.units+64<cLine):MtM X "list.remove" (λx vs H Q=>∃l xs ds y dy j,x=.ref l/\vs=[y]/\H l=some (.lst xs)/\Reps X.K H xs ds/\Rep X.K H y dy/\ds.all (okN 29)=true/\okN 30 dy=true/\sA dy ds=some j/\Q .non (upd H l (.lst (xs.eraseIdx j)))):=by
 intro pz s σ H x vs v us Q I J f h;obtain⟨l,xs,ds,y,dy,j,rfl,rfl,C,r,E,ok,M,S,q⟩:=h;cases J;obtain⟨u,rfl,L⟩:=f.one;obtain⟨z,i,n,e,hl,g⟩:=I.lstM C;obtain⟨⟨Z,B,O⟩,N⟩:=pK S;have l1:=r.length;have l2:=e.length;have R:=(YM.mp B).1;have a:j<i.toArray.size:=by rw[Yu];omega
 have o:=cz ok;have b:∀m (w:m<i.toArray.size) d,ds[m]?=some d->Ap i ds dy i.toArray[m]=eqd d dy:=λm w d T=>xo I r e o (by simp) T
 refine call_meets PySem.F.slot_list_remove ⟨_,g,rfl⟩ PySem.F.entry_list_remove (PySem.F.args_list_remove_2 _ _)
  (pj l i.toArray n u _ j a (by rwa[b j a Z B]) (λm w p=>?_)<|by rw[Yu];omega) ⟨g,λz P=>A_ I r e o E M L (by show X.A.units+1+60<cLine;omega) z<|by simpa using P,?_⟩
 ·obtain⟨d,Y,U⟩:=N m p;rwa[b m w d Y]
 ·refine⟨.non,_,I.lset C g ?_ (e.eraseIdx j) ?_,rfl,q⟩
  ·rw[XY]
  ·have:=pW xs j;omega
end L2
namespace L2
open PySem PySem.Spec PyProof.Rows
def nR(C:Option Addr)(i:Nat)(n:Str):DX:=λb=>(aP C i n b).bind λx=>match x with
 |.lst ds=>(ds[ds.length-1]?).bind λd=>(eB C i n (λ_=>some<|.lst ds.dropLast) b).map λa=>(d,a)
 |_=>none
def DInv.popK{C}(I:DInv K P F H ρ σ)(h:nR C i n ρ=some r) :
  ∃a dx vs b us y,σ[i]?=some (some<|.ref a)/\H a=some (bxO C dx vs)/\vs.lookup n=some (.ref b)/\H b=some (.lst us)/\us[us.length-1]?=some y/\Rep K F y r.1/\DInv K P F (upd H b<|.lst us.dropLast) r.2 σ:=by
 obtain⟨x,w,h⟩:=Yd.mp h;cases x with
 |lst ds=>
  obtain⟨d,p,h⟩:=Yd.mp h;obtain⟨j,q,rfl⟩:=aw h;obtain⟨fs,t,N,M,g,f,s,_,rfl⟩:=eW q;cases s;have f:=Ax w g;obtain⟨a,dx,vs,b,J,E,Q,B,O,⟨_,L,_,u,A,e⟩,back⟩:=I.kid g rfl f;cases L;cases u with
  |lst us=>
   have e:=e;obtain⟨y,m,l⟩:=e.get p;refine⟨a,dx,vs,b,us,y,J,E,B,A,by rwa[e.length],l,back _ _ rfl λow ob=>⟨b,rfl,ob,.lst us.dropLast,aE,?_⟩⟩;have z:=e.take (n:=us.length-1);rwa[List.dropLast_eq_take,List.dropLast_eq_take,<-e.length]
  |_=>exact e.elim
 |_=>cases h
section
variable  {n:Str}   
def Cn i(c:Cls X.K C)(m:NoAttr X.K C n)(h:PE X o (cB i))(p:attributeBase o n X.env (eval o X.env)=eval o X.env:=by rfl)(f:attributeBase (.Attribute o n pos') "pop" X.env (eval (.Attribute o n pos') X.env)=eval (.Attribute o n pos') X.env:=by rfl)(e:(apos.endLine == cpos.line)=true:=by rfl) :
  PX X (.Call (.Attribute (.Attribute o n pos') "pop" apos) [] [] cpos) (nR (some C) i n):=
 (u8 YY Vf PySem.F.type_list_pop AH (jN h p) f e).imp λB H Q=>un7 λP F E r l I k=>by
  obtain⟨a,A,j,b,u,y,z,x,w,g,s,q,J⟩:=I.popK l;exact⟨_,z,a,C,A,j,_,rfl,x,c,m,w,.inl ⟨rfl,u,SqL.of g⟩,b,u,y,rfl,rfl,g,s,k y F _ (Same.refl _) J q⟩
def Ec{j kp}i(E:X.A.units+64<cLine)(h:PE X o (cB i))(g:rS (.Constant (.str n) j kp):=by exact λ_ _=>rfl)(f:attributeBase (.Subscript o (.Constant (.str n) j kp) pos') "pop" X.env (eval (.Subscript o (.Constant (.str n) j kp) pos') X.env)=eval (.Subscript o (.Constant (.str n) j kp) pos') X.env:=by rfl)(e:(apos.endLine == cpos.line)=true:=by rfl) :
  PX X (.Call (.Attribute (.Subscript o (.Constant (.str n) j kp) pos') "pop" apos) [] [] cpos) (nR none i n):=
 (u8 YY Vf PySem.F.type_list_pop AH (jq (by omega) h dI g) f e).imp λz H Q=>un7 λP F B r m I k=>by
  obtain⟨a,K,C,b,u,y,x,w,s,l,q,p,J⟩:=I.popK m;exact⟨_,x,a,.ref b,rfl,by have:=DGet.k (k:=Sum.inr n) w;rwa[g7,s]at this,.inl ⟨rfl,u,SqL.of l⟩,b,u,y,rfl,rfl,l,q,k y F _ (Same.refl _) J p⟩
noncomputable def tf(i:Nat)(n:Str)(f:DX):DF->Option RES:=λb=>(f b).bind λa=>match a.2[i]? with
 |some (some<|.own (.obj none fs) t)=>if(fs.map (·.1)).Nodup/\fs.length<1000/\fs.lookup n=none then some (.nx<|a.2.set i<|some<|.own (.obj none<|fS n (.d a.1) fs) t)else none
 |_=>none
theorem wz{f:DX}{j kp}(i:Nat)(Z:X.A.units+64<cLine)(O:PE X o (cB i))(hv:PX X e f)(N:swapsWith e (some (.Subscript o (.Constant (.str n) j kp) pos')) pos.line X.env=pure false:=by rfl) :
  PD1 X (.Assign [.Subscript o (.Constant (.str n) j kp) pos'] e pos) (tf i n f):=PS.imp (mY (by omega) O dI hv N) λE z H=>un7 λP F B r h I k=>by
 obtain⟨a,q,h⟩:=Yd.mp h;split at h
 ·rename_i fs t l;split at h
  ·rename_i s;cases h;refine⟨P,F,B,a,q,I,λv U H1 S b L=>?_⟩;obtain⟨p,dx,g,w,u,Q,J⟩:=b.addF (Evo.refl b.toDHp) l s.2.2 (o:=.d a.1) (v:=v) L;obtain⟨Y,T,K,y,x,_,R⟩:=b.obj (C:=none) (i:=i) (fs:=fs) (by unfold iO;rw[l];exact Yh rfl);rw[w]at y;cases y;rw[u]at x;cases qz (Yv x);have M:(g.map (·.1)).Nodup:=by rw[Kids.keys R];exact s.1
   have m:=DPut.k (k:=Sum.inr n) (v:=v) u (by show(g.map _).length<_;rw[Yc,Q,YL];omega);rw[lM M]at m;exact⟨_,w,p,_,rfl,m,k z U _ S J⟩
  ·cases h
 ·cases h
end
noncomputable def BU(y:D):FO->Option FO
 |.lst ds=>if(ds.all (okN 29)&&okN 30 y)=true then(sA y ds).map λj=>.lst (ds.eraseIdx j)else none
 |_=>none
noncomputable def pP(i:Nat)(n:Str)(f:Dd):DF->Option RES:=λa=>(f a).bind λd=>(eB none i n (BU d) a).map .nx
section
variable  {n:Str}  
def C6{j kp}(i:Nat)(hu:X.A.units+64<cLine)(h:PE X o (cB i))(ha:PDE X e f)(C:rS (.Constant (.str n) j kp):=by exact λ_ _=>rfl)(l:attributeBase (.Subscript o (.Constant (.str n) j kp) pos') "remove" X.env (eval (.Subscript o (.Constant (.str n) j kp) pos') X.env)=eval (.Subscript o (.Constant (.str n) j kp) pos') X.env:=by rfl)
  (w:((backTo cpos (starEach [e] X.env)).all (λx=>!x.1)&&(backToKw cpos (keywordEach [] X.env)).all (λx=>x.1.isSome)
   && decide (([e]:List Expr).length+([]:List Keyword).length+(if([]:List Keyword).isEmpty then 0 else 1)<30))=true:=by rfl)
  (g:(apos.endLine == cpos.line)=true:=by rfl) (N:starEach [e] X.env=[(false,eval e X.env)]:=by rfl) (B:swapsWith (.Call (.Attribute (.Subscript o (.Constant (.str n) j kp) pos') "remove" apos) [e] [] cpos) none pos.line X.env=pure false:=by rfl) :
  PD1 X (.Expr (.Call (.Attribute (.Subscript o (.Constant (.str n) j kp) pos') "remove" apos) [e] [] cpos) pos) (pP i n f):=
 PS.imp (dB (jJ YY PySem.F.slot_list_remove PySem.F.type_list_remove (yP hu) (jq (by omega) h dI C) (aI ha aZ N) l w g N rfl) B) λE S H=>un7 λP F U r J I k=>by
  obtain⟨d,qd,J⟩:=Yd.mp J;obtain⟨T,q,rfl⟩:=aw J;obtain⟨fs,t,o1,o2,q1,q2,p,_,rfl⟩:=eW q;unfold BU at p;split at p
  ·rename_i y;split at p
   ·rename_i L;rw[Yn]at L;obtain⟨m,Z,rfl⟩:=aw p;obtain⟨a,dx,vs,b,h1,h2,h4,h5,⟨_,e0,_,u,Q,O⟩,z⟩:=I.kid2 q1 (o:=.lst y) rfl q2;cases e0;cases u with
    |lst us=>
     refine⟨_,h1,a,.ref b,rfl,by have:=DGet.k (k:=Sum.inr n) h2;rw[g7,h4]at this;exact this,.inl ⟨rfl,us,SqL.of Q⟩,P,F,U,d,qd,I,λv R H1 s Y=>?_⟩;obtain⟨_,back⟩:=z s;have M:Reps X.K R us y:=Reps.same s.ext O;refine⟨b,us,y,v,d,m,rfl,rfl,(s.keep b _ Q h5).1,M.same s.hp.sub,Rep.same s.hp.sub Y,L.1,L.2,Z,k S R _ s.ext ?_⟩;exact back _ (.lst (y.eraseIdx m)) rfl λow ob=>⟨b,rfl,ob,_,aE,M.eraseIdx m⟩
    |_=>exact O.elim
   ·cases p
  ·cases p
end
end L2
namespace L2
open PySem PySem.Spec PySem.W PyProof.Rows
section
variable  {W:LamW}  
end
section
variable    {f:Addr}{oc:Value}{od an:Option Addr}{osl:Array (Option Value)}{kV doc cdv ct:Value}
end
section
variable  {W:LamW}{k n j2:Nat}{c:Addr}    {x2:Str}   
def bs{α b:Type}{o:Option α}{f:α->Option b}{y:b}(h:o.bind f=some y):∃a,o=some a/\f a=some y:=by
 cases o with
 |none=>cases h
 |some a=>exact⟨a,rfl,h⟩
end
section
variable      {a b:Addr}{v:V}{r:Value}  
end
section
variable  {ek ev i:Expr}  {fk fd:Dd}{tk:TE}
def Evo.setNew{F:Hp}(h:DHp P F H)(e:Evo P F H F' H'){p:Addr}{u:HO}(f:H p=none)(m:F' p=none):Evo P F H F' (upd H' p u):=by
 have a:∀{b:Addr}{o:HO}{G:Hp},G b=some o->G p=none->b≠p:=λs i z=>by subst z;rw[s]at i;cases i
 have l:P p=none:=by cases z:P p with|none=>rfl|some o=>rw[h.pro p o z]at f;cases f
 exact⟨e.ext,⟨λb o q=>by rw[aA (a q m)];exact e.hp.sub b o q,λb o q=>by rw[aA (a q l)];exact e.hp.pro b o q,e.hp.dis⟩,λb o g j=>by rw[aA (a g f)];exact e.keep b o g j⟩
noncomputable def IF:D->Option D
 |.dT kvs=>some (.int kvs.length)
 |_=>none
end
end L2
namespace L2
open PySem PySem.Spec PyProof.Rows
abbrev DSP:=List (Str×Option Int)
def rf(L:DSP):List (Str×FO):=L.map λp=>(p.1,match p.2 with|none=>.lst []|some n=>.d (.int n))
noncomputable def Ee:DSP->List (TE×TE)
 |[]=>[]
 |(k,none)::r=>(tC (.str k),I_ qN)::Ee r
 |(k,some n)::r=>(tC (.str k),tC (.int n))::Ee r
def Kids.own{F:Hp}{ow:Addr->Prop}{vs:List (Str×V)}{fs:List (Str×FO)}(h:Kids K F H ow vs fs):∀b∈eS vs fs,ow b:=by
 induction h with
 |nil=>exact λ_ m=>nomatch m
 |@cons p q _ _ r _ ih=>
  intro b m;rw[b_]at m;rcases Yj.mp m with m|m
  ·obtain⟨x,v⟩:=p;obtain⟨y,o⟩:=q;cases o with
   |d x=>cases m
   |lst ds=>obtain⟨_,c,rfl,z,_⟩:=r;cases Yo.mp m;exact z
   |dK ds=>obtain⟨_,c,rfl,z,_⟩:=r;cases Yo.mp m;exact z
  ·exact ih b m
theorem qJ{K:Kq}{P F H:Hp}{σ:St}{p:Addr}:∀(L:DSP) {H1:Hp} (h:Evo P F H F H1) (f:H1 p=some (.dK [])) (R:List (V×V)->Hp->Prop),
  (∀vs H2,Evo P F H F H2->(∀c,H1 c≠none->H2 c=H1 c)->Kids K F H2 (λb=>H1 b=none/\F b=none) vs (rf L)->(eS vs (rf L)).Nodup->R (vs.map λq=>(.str q.1,q.2)) H2)->sB (Ee L) σ H1 R
 |[],H1,h,f,R,k=>k [] H1 h (λ_ _=>rfl) .nil .nil
 |(n,some i)::r,H1,h,f,R,k=>qJ (K:=K) r h f _ λvs H2 x j a o=>k ((n,.int i)::vs) H2 x j (.cons ⟨rfl,.int⟩ a) o
 |(n,none)::r,H1,h,f,R,k=>by
  refine⟨by simp,λl g=>qJ (K:=K) (p:=p) r (h.trans (Evo.side h.hp g)) ((aA (λz=>by subst z;rw[g]at f;cases f)).trans f) _ λvs H2 x j a o=>?_⟩;have s:H2 l=some (.lst []):=(j l (by rw[aE];simp)).trans aE;have y:∀b,upd H1 l (.lst []) b=none->H1 b=none:=λb z=>by
   by_cases e:b=l
   ·subst e;exact g
   ·rw[aA e]at z;exact z
  refine k ((n,.ref l)::vs) H2 x (λc w=>(j c (by rw[aA λz=>by subst z;exact w g];exact w)).trans (aA λz=>by subst z;exact w g)) (.cons ⟨rfl,l,rfl,⟨g,(h.hp.free g).1⟩,_,s,.nil⟩ (Kids.mono (Same.refl _) (λb u q A=>⟨A,y b q.1,q.2⟩) a)) ?_;show([l]++eS vs (rf r)).Nodup;refine YG.mpr ⟨λm=>?_,o⟩;have:=(Kids.own a l m).1;rw[aE]at this;cases this
theorem ni:∀(vs:List (Str×V)) (a:List (Str×V)),((a++vs).map (·.1)).Nodup->iY (kM a) (kM vs)=kM (a++vs)
 |[],a,_=>by rw[Yl];rfl
 |(x,v)::r,a,nd=>by
  have h:x∉a.map (·.1):=λm=>by
   rw[YB]at nd;exact(YO.mp nd).2.2 _ m _ Yf rfl
  have b:(a.map (·.1)).Nodup:=by rw[YB]at nd;exact(YO.mp nd).1
  show iY (fL (kM a) (Sum.inr x) v) (kM r)=_;rw[lM b,rR h,ni r (a++[(x,v)]) (by rw[Yq];exact nd),Yq];rfl
def yk(L:DSP):(rf L).map (·.1)=L.map (·.1):=by unfold rf;rw[Zn];rfl
structure PDOw (X:Cx) (e:Expr) (fo:DF->Option OD):Prop where
 h:PDO X e fo
section
variable   {keys:List (Option Expr)}{values:List Expr}
def zi(L:DSP){j:List (TE×TE)}(h:PPs X pos keys values j)(S:j=Ee L:=by kernel_rfl)(l:decide (L.map (·.1)).Nodup=true:=by kernel_rfl)(g:decide (L.length<=15)=true:=by kernel_rfl)(o:keys.all (·.isSome)=true:=by kernel_rfl)(M:keys.length=values.length:=by kernel_rfl)(T:keys.isEmpty=false:=by kernel_rfl)
  (N:decide (keys.length<=15)=true:=by kernel_rfl):PDOw X (.Dict keys values pos) (λ_=>some (.obj none (rf L))):=.mk <| (EO h o M (λz=>by subst z;cases T) (YN N)).imp λσ H Q=>un7 λP F ρ ob O I k=>by
 subst S;have g:=YN g;cases O;intro p s;have Y:Evo P F H F (upd H p (.dK [])):=Evo.side I.toDHp s;have B:F p=none:=(I.toDHp.free s).1;refine qJ (K:=X.K) L Y aE _ λi Z U E a C=>?_;have x:Z p=some (.dK []):=(E p (by rw[aE];simp)).trans aE;have w:=Kids.keys a;rw[yk]at w;refine⟨x,kM i,by rw[Zn];rfl,by rw[Yc,<-Yc (f:=(·.1)),w,Yc];exact g,?_⟩;rw[show iY [] (kM i)=kM i from ni i [] (by rw[Zx,w];exact YN l)];have y:∀b,upd H p (.dK []) b=none->H b=none/\b≠p:=λb z=>by
  by_cases e:b=p
  ·subst e;rw[aE]at z;cases z
  ·rw[aA e]at z;exact⟨z,e⟩
 have A:p∉eS i (rf L):=λm=>(y p (Kids.own a p m).1).2 rfl
 have J:F p=none:=B;refine k p F _ (U.setNew I.toDHp s J) ⟨⟨s,B⟩,0,i,aE,YG.mpr ⟨A,C⟩,?_⟩;refine Kids.keep (Kids.mono (Same.refl _) (λb u q R=>⟨R,(y b q.1).1,q.2⟩) a) λc m=>aA λz=>by subst z;exact A m
structure PD1w (X:Cx) (s:Stmt) (g:DF->Option RES):Prop where
 h:PD1 X s g
structure PDSw (X:Cx) (ss:List Stmt) (g:DF->Option RES):Prop where
 h:PDS X ss g
def xV{s:Stmt}(h:PD1w X s g)(r:PDS X ss gs):PDSw X (s::ss) (al g gs):=⟨ac h.h r⟩
def yT{s:Stmt}(h:PD1 X s g)(r:PDSw X ss gs):PDS X (s::ss) (al g gs):=ac h r.h
def HD(i:Nat)(he:PDOw X e fo)(hi:X.N[i]?=some x:=by rfl)(hx:Loc X.env.scope x:=by first|exact .inl rfl|exact .inr rfl)(a:swapsWith e (some (.Name x pos')) pos.line X.env=pure false:=by rfl)(b:FnL X x:=by first|exact .inl rfl|exact .inr rfl|assumption)(hN:decide X.N.Nodup=true:=by kernel_rfl) :
  PD1w X (.Assign [.Name x pos'] e pos) (dF i fo):=⟨wA (ndI hN) hi hx he.h a b⟩
end
def DInv.handX{F:Hp}{o:OD}{t:Option Addr}(I:DInv K P F H ρ σ)(hi:ρ[i]?=some (some (.own o t))) :
  ∃(a:Addr) (S:Addr->Prop),σ[i]?=some (some (.ref a))/\ORep K F H (λb=>F b=none/\gdS F H S b=none) o a/\DHp (gdS F H S) F H /\
   ∀{F2 H2:Hp},Same F F2->DHp (gdS F H S) F2 H2->DHp P F2 H2:=by
 obtain⟨O,g⟩:=I.rep;obtain⟨v,l,a,rfl,j,m⟩:=g i _ hi;refine⟨a,λb=>O b=some i/\P b=none,l,j.mono (Same.refl _) λb u q e=>⟨e,q.1,?_⟩,vK I.sub _,λ{F2 H2} p h=>?_⟩
 ·unfold gdS;exact Yh ⟨q.2.2,q.2.1⟩
 ·have keep:∀b u,¬(O b=some i/\P b=none)->F b=none->H b=some u->H2 b=some u/\F2 b=none:=λb u e n q=>⟨h.pro b u (gB.mpr ⟨e,n,q⟩),h.dis b u (gB.mpr ⟨e,n,q⟩)⟩
  have f:∀b u,P b=some u->H2 b=some u/\F2 b=none:=λb u q=>keep b u (λz=>by rw[z.2]at q;cases q) (I.dis b u q) (I.pro b u q)
  exact⟨h.sub,λb u q=>(f b u q).1,λb u q=>(f b u q).2⟩
section
variable  {cl:Nat->Addr}{E:XK}    
noncomputable def zJ(i:Nat)(g:DF->Option XR):DF->Option XR:=λa=>match a[i]? with
 |some (some (.own o none))=>g (a.set i (some (.v o.d)))
 |some (some (.v _))=>g a
 |_=>none
def FS(i:Nat){g:DF->Option XR}(h:PX1 X cl E st g):PX1 X cl E st (zJ i g):=PS.imp h λD l H=>un7 λP F b r a I k=>by
 unfold zJ at a;split at a
 ·rename_i o q;obtain⟨j,e,f⟩:=I.frz q;exact⟨P,j,_,r,a,f,k.ext e⟩
 ·exact⟨P,F,b,r,a,I,k⟩
 ·cases a
noncomputable def cK(c:Dk)(body:DF->Option XR):Nat->DF->Option XR
 |0,_=>none
 |n+1,ρ=>match c ρ with
  |none=>none
  |some false=>some (.go (.nx ρ))
  |some true=>match body ρ with
   |some (.go (.nx ρ'))=>cK c body n ρ'
   |some (.go (.ct ρ'))=>cK c body n ρ'
   |some (.go (.bk ρ'))=>some (.go (.nx ρ'))
   |r=>r
def oU(n:Nat){c:Expr}{fc:Dk}{g:DF->Option XR}(Z:PassesOwn (model X.prog X.w) X.A X.env X.xe)(hc:PDT X c fc)(hb:PXS X cl E body g):PX1 X cl E (.While c body [] pos) (cK fc g n):=PS.imp (uA Z hc hb) λD σ H=>un7 λP F S r Y I k=>by
 refine⟨λm p Q=>∃C a,Same F C/\DInv X.K P C Q a p/\cK fc g m a=some r,⟨n,F,S,Same.refl _,I,Y⟩,?_⟩;rintro m p Q ⟨C,a,N,L,e⟩;cases m with
 |zero=>cases e
 |succ m=>
  unfold cK at e;cases q:fc a with
  |none=>rw[q]at e;cases e
  |some b=>
   rw[q]at e;refine⟨P,C,a,b,q,L,λM H2 j=>?_⟩;cases b with
   |false=>
    rw[Yp Ym];cases e;exact k p M H2 (N.trans j.ext) (L.evo j)
   |true=>
    rw[Yh rfl];refine⟨λy O=>∃R z,Same F R/\DInv X.K P R O z y/\cK fc g m z=some r,λy O h=>⟨m,XG m,h⟩,?_⟩;have B:Same F M:=N.trans j.ext;dsimp only at e;cases s:g a with
    |none=>rw[s]at e;cases e
    |some i=>
     rw[s]at e;refine⟨P,M,a,i,s,L.evo j,?_⟩;cases i with
     |ex k'=>
      cases e;exact λo x l J=>k o x (B.trans l) J
     |go i=>
     cases i with
     |nx ρ4=>exact λf o x l u=>⟨o,ρ4,B.trans l,u,e⟩
     |ct ρ4=>exact λf o x l u=>⟨o,ρ4,B.trans l,u,e⟩
     |bk ρ4=>
      cases e;exact λf o x l u=>k f o x (B.trans l) u
     |rt x4 ρ4=>
      cases e;exact λT f o x l u U=>k T f o x (B.trans l) u U
end
section
variable  {cl:Nat->Addr}{E:XK}   {rz:OD->List DV->Option Nat}{g:DXs}
variable{P:Program}       {f:Addr}      {k:Nat}     
abbrev XC(P:Program)(w:World)(K:Kq)(mg:Ks)(base:Heap)(N:List Str)(qual:Str)(scope:Scope)(f0:Addr)(cd:Value)(A:Around)(outer:List Env)(s:Shared)(H:Hp)(E:XK)(cl:Nat->Addr):Cx:=cY (CXc P w cl) P w K mg base N qual scope f0 cd A outer s H E
end
end L2
namespace L2
open PySem PySem.Spec PySem.Calls PySem.W PyProof.Rows
def yh{k:Nat}{f:Addr}{cl:Nat->Addr}{rz:List DV->Option Nat}{g:Dv}(hX:∀e s,X.xe e s->False)
  (F:FnOk X.prog X.w X.K X.mg X.base (CXc X.prog X.w cl) k f fd ps (DE X.K cl rz)) (hr:Room k X.A) (hg:Gl X x) (hm:X.mg x=some (.ref f)) (hk:PySem.W.keepIn X.K (.ref f)=true) (hb:Binds X.K fd ps []) (ha:jR X (e::es) g)
  (hd:nDb x:=by decide) (he:starEach (e::es) X.env=(false,eval e X.env)::starEach es X.env:=by rfl) (T:(backTo pos (starEach es X.env)).any (·.1)=false:=by rfl)
  (hs:swapsWith (.Call (.Name x p) (e::es) [] pos) none p2.line X.env=pure false:=by rfl) :
  Io X [.Expr (.Call (.Name x p) (e::es) [] pos) p2] cl (λρ=>(g ρ).bind rz):=by
 intro pz s σ H P Fr ρ S Q E I h ID go;cases q:g ρ with
 |none=>simp only[q]at h;cases h
 |some O=>
  simp only[q,Ya]at h;have Z:=ha pos pz s σ H (λl i=>∃b,Evo P Fr H b i/\ArgsS X.K ρ σ b O l) I ⟨P,Fr,ρ,O,q,ID,λl b i e1 R=>⟨b,e1,R⟩⟩;refine Xe (wpAny_Expr_any (Xj (fJ I hg hm ?_ hd)) I.quiet hs);refine XO (h₀:=X.base) I.ok.mod.kin hk (ZC Z (λL s1 z=>?_) λe s z=>(hX e s z).elim) he T;obtain⟨l,i,M,rv,b,C,R⟩:=z;refine⟨M.kIn,?_⟩;have J:=ID.evo C;have m:DE X.K cl rz l i (λ_ _=>False) (λc _ N=>c=.ref (cl S)/\∃j,Same b j/\DHp (gd b i) j N):=⟨gd b i,b,O,S,h,iI J.sub,R.dvs J,λj N e2 U=>⟨rfl,j,e2,U⟩⟩
  have hl:(L++[]).length=ps.length:=by rw[Yl,<-rv.length];exact F.len _ _ _ _ m
  have y:=hb s1 L M.kIn hl;rw[Yl]at y;refine wpAny_call (Vs (F.run X.A X.stack s1 i ⟨L,[]⟩ L l _ _ hr M.env0 y rv m) λrr s' o=>?_);cases rr with
  |ok fl=>
   cases fl with
   |ret u=>obtain⟨_,_,_,_,_,_,_,z⟩:=o;exact z.elim
   |next=>exact False.elim o
   |brk=>exact False.elim o
   |cont=>exact False.elim o
  |error ev=>
   obtain⟨k2,a,a0,B,N,rfl,t,Y,j,z1,z2⟩:=o;have ek:cl k2=cl S:=Value.ref.inj Y;rw[ek]at t;exact go a a0 B _ _ _ j N s' M C t z1 z2
def Thr.new{P:Program}{a:Addr}{B:Heap}(t:Thr P w C outer H s a a0 B H' s')(g:∀b∈frs outer,H b=none):s.heap.get? a=none:=by
 have l:B.get? a=none:=t.fly.2.1;cases e:s.heap.get? a with
 |none=>rfl
 |some o=>
  by_cases f:a∈frs outer
  ·obtain⟨h,p,m⟩:=t.slot a o e (g a f) f;obtain⟨q,j,i,_,d1,_⟩:=t.fly.first;rw[m]at i;cases i;exact absurd d1 (h j)
  ·obtain⟨u,h⟩:=t.there a o e f;rw[l]at h;cases h
def G7{P:Program}{h:Heap}{a:Addr}{o:Obj}(e:h.get? a=some o)(b:o.cls=.ref C):ObjOk P w H h a (.ext (ExA a C)):=
 ⟨⟨o,e,b⟩,⟨o,e⟩,λ_ _ q k=>by obtain⟨o,e,b⟩:=q;exact⟨o,k o e,b⟩⟩
def Inv.lay{a:Addr}{o:HO}(I:Inv X pz σ H s)(h:H a=none)(h0:X.s₀.heap.get? a=none\/a∈X.ex)(A:a≠X.env.locals)(B:∀v,¬s.heap.IsCell a v)(y:∀p∈X.pn++pz,p.1≠a)(new:ObjOk X.prog X.w (upd H a o) s.heap a o):Inv X pz σ (upd H a o) s where
 ok:=I.ok
 os:=I.os
 bare:=I.bare
 base:=⟨I.base.keep,I.base.slot,λb u q n g=>by
   have:b≠a:=λz=>by
    subst z;rcases h0 with h0|h0
    ·rw[h0]at q;cases q
    ·exact g h0
   rw[aA this];exact I.base.free b u q n g,I.base.there,λb f q=>by
   have:=I.base.tups b f q;rw[aA (aS this h)];exact this,λb u v q=>by
   have:=I.base.frzs b u v q;rw[aA (aS this h)];exact this,λb j q=>by
   obtain⟨m,this⟩:=I.base.tbls b j q;exact⟨m,by rw[aA (aS this h)];exact this⟩⟩
 loc:=I.loc
 cell:=I.cell
 free:=by rw[aA (ZX A)];exact I.free
 freeC:=λx c e=>by
  have:c≠a:=λz=>by
   subst z;obtain⟨v,l⟩:=I.cell x c e;exact B v l
  rw[aA this];exact I.freeC x c e
 pin:=λp q=>by
  obtain⟨J,E,C⟩:=I.pin p q;exact⟨J,by rw[aA (y p q)];exact E,C⟩
 hok:=λb u e=>by
  by_cases i:b=a
  ·subst i;rw[aE]at e;cases e;exact new
  ·rw[aA i]at e;exact(I.hok b u e).stay (λ_ _ _ q=>q) (λc q=>by rw[aA (aS q h)];exact q) λc f q=>by rw[aA (aS q h)];exact q
 len:=I.len
def Ic(ie ic:Nat)(a:Addr):TS:=λD b H=>b[ie]?=some (some (.ref a))/\D.nx (b.set ic (some (.ref a))) H
def DM{a:Addr}{ob:Obj}{ic:Nat}{e:Str}{m o:Pos}(hN:X.N.Nodup)(g:X.N[ie]?=some er)(i:X.N[ic]?=some e)(f:X.env.scope.names.lookup er=some .local)(b:X.env.scope.names.lookup e=some .local)
  (j:nDb er:=by decide) (l:nDc er:=by decide) (p:swapsWith (.Name er o) (some (.Name e m)) apos.line X.env=pure false:=by rfl) :
  PSs (X.caught a ob) [.Assign [.Name e m] (.Name er o) apos] (Ic ie ic a):=
 PSs.imp (sJ (om (X:=X.caught a ob) hN i (.inl b) (zN (X:=X.caught a ob) g (.inl f) j l) p (.inr b))) λD q H h=>⟨_,h.1,h.2⟩
noncomputable def wt(rz:DF->Option Nat)(cl:Nat->Addr)(ie ic:Nat):DF->Option RES:=λa=>match rz a with
 |some k=>(match a[ie]? with|some none=>some (.nx (a.set ic (some (.v (.exn (cl k))))))|_=>none)
 |none=>none
def D9{W:Addr}{cl:Nat->Addr}{wn:Str}{ic:Nat}{np hpos:Pos}{b0:Stmt}{g:List Stmt}
  (hR:Io X body cl rz)
  (A:X.stack=X.env::X.outer) (hfr:X.env.frame=some X.env.locals) (hgw:Gl X wn) (hmw:X.mg wn=some (.ref W)) (hxm:∀k,exmOne X.K (.ref (cl k)) (.ref W)=some true)
  (hN:X.N.Nodup) (T:X.N[ie]?=some er) (R:X.env.scope.names.lookup er=some .local) (hne:ie≠ic) (hsu:∀a ob,PSs (X.caught a ob) (b0::g) (Ic ie ic a)) (hdw:nDb wn:=by decide) :
  PD1 X (.Try body [.ExceptHandler (some (.Name wn np)) (some er) (b0::g) hpos] [] [] tpos) (wt rz cl ie ic):=by
 intro Y s U H D I h;obtain⟨P,Fr,ρ,r,hf,ID,kk⟩:=h;unfold wt at hf;split at hf
 ·rename_i Q hrz;split at hf
  ·rename_i hne0;cases hf;refine wpAny_Try_except (hR Y s U H P Fr ρ Q _ _ I hrz ID λa a0 B F1 H1 s1 F2 x s' I1 ev1 t L hp2=>?_);have ID1:=ID.evo ev1;have fly:Heap.FlyingW B (X.env::X.outer) a (.ref (cl Q)) a0 s'.heap:=A ▸ t.fly;have frf:∀b∈frs X.stack,H1 b=none:=I1.stkFree;have O:s1.heap.get? a=none:=t.new frf;have inv:∀(C:Heap),B.StaysIn C->s'.heap.UpToSlots C->Inv X Y U x {s' with heap:=C}:=λC hb5 y=>
    I1.call' (s':={s' with heap:=C}) t.os (t.un frf hb5 y) (t.hok.kept hb5) t.bare (λ_ z=>nomatch z)
   have nb:x a=none:=t.hok.miss fly.2.1;refine wpAny_looks_onW (by rw[I.ok.frames,A]) hfr fly λh4 held sm4=>?_;refine wpAny_landsW held λC q y=>?_;have J5:=inv C q.1 (sm4.trans y);have mk:∀(h:Heap) (ob:Obj),Inv X Y U x {s' with heap:=h}->h.get? a=some ob->(∃vs,ob.data=.fields vs)->Inv (X.caught a ob) Y U x {s' with heap:=h}:=λh ob J e1 L=>by
    obtain⟨vs',L⟩:=L;refine J.caught e1 nb (λz=>?_) (λz=>?_) λv z=>by rw[L]at z;cases z
    ·obtain⟨m,⟨o,es',ep',Z,hd',_⟩,_⟩:=J.loc;have l:h.get? X.env.locals=some o:=Z;rw[<-z,e1]at l;cases l;rw[L]at hd';cases hd'
    ·obtain⟨_,o,Z,nf⟩:=J.funs.mem z;have l:h.get? a=some o:=Z;rw[e1]at l;cases l;exact nf _ L
   obtain⟨oe5,vs5,g5,c5,d5,_⟩:=q.first;have K5:=mk C oe5 J5 g5 ⟨_,d5⟩;refine wpAny_handleBy_cons (codeAny_handlers_test (fJ K5 hgw hmw ?_ hdw)) (by intro z;cases z);refine(exm_one (M:=model X.prog X.w) (e:=a) K5.kIn (ExAt.type ⟨oe5,g5,c5⟩) (hxm Q)).here ?_;refine codeAny_handlers_suite_as (lands_againW q λh6 E sm6=>?_);obtain⟨f,vs6,g6,c6,d6,_⟩:=E.first;have K6:=mk h6 f (inv h6 E.1 ((sm4.trans y).trans sm6)) g6 ⟨_,d6⟩;refine nj (X:=X.caught a f) (v:=.ref a) K6 hN T (.inl R) rfl (λs7 K7=>?_) (.inr R);have su:=hsu a f Y s7 (U.set ie (some (.ref a))) x {nx:=λσ' H'=>σ'=(U.set ie (some (.ref a))).set ic (some (.ref a))/\H'=x,rt:=λ_ _=>False} K7
    ⟨Zp (by rw[I.len];exact(YM.mp T).1),rfl,rfl⟩
   refine ZC su (λfl s8 z=>?_) λ_ _ z=>z.elim;cases fl with
   |ret u=>obtain⟨_,_,_,_,_,z⟩:=z;exact z.elim
   |brk=>obtain⟨_,_,_,z⟩:=z;exact z.elim
   |cont=>obtain⟨_,_,_,z⟩:=z;exact z.elim
   |next=>
    obtain⟨σ',H',K8,rfl,eH⟩:=z;rw[eH]at K8;refine Dj (X:=X.caught a f) K8 hN T R λs9 K9=>?_;have e9:s9.heap.get? a=some f:=K9.atEx;have p9:=K9.pin (a,f) (Yf ..);have J9:=K9.uncaught I.ok;have J10:Inv X Y _ (upd x a (.ext (ExA a (cl Q)))) s9:=J9.lay nb (by
     by_cases hx:a∈X.ex
     ·exact .inr hx
     ·refine .inl ?_;cases e0:X.s₀.heap.get? a with
      |none=>rfl
      |some o=>
       obtain⟨o',e1⟩:=I1.base.there a o e0 hx;rw[O]at e1;cases e1) p9.2.2.1 (λv ⟨o,Z,hd⟩=>by
      rw[e9]at Z;cases Z;exact p9.2.2.2.2 v hd) (λp hp z=>by
      have:=(I1.pin p hp).1;rw[z,O]at this;cases this) (G7 e9 c6)
    refine⟨_,_,J10,?_⟩;have E2:Evo P F1 H1 F2 x:=ID1.toDHp.gd L hp2;have ID2:=ID1.evo E2;have EL:Evo P F2 x (upd F2 a (.ext (ExA a (cl Q)))) (upd x a (.ext (ExA a (cl Q)))):=Evo.laid ID2.toDHp nb;have ID3:=ID2.evo EL;refine kk _ _ _ (ev1.ext.trans (L.trans EL.ext)) ?_;have ID4:=ID3.setV ic (v:=.ref a) (d:=.exn (cl Q)) (.exn aE);refine ID4.other (i:=ie) (by rw[YR (ZX hne)];exact hne0) (by simp) λj hj=>?_;rw[YR (ZX hj)];by_cases S:j=ic
    ·subst S;simp only[List.getElem?_set,Zf,VC]
    ·rw[YR (ZX S),YR (ZX hj),YR (ZX S)]
  ·cases hf
 ·cases hf
end L2
namespace L2
open PySem PySem.Spec PyProof.Rows
structure IsC (K:PySem.W.Frag) (C:Addr):Prop where
 ha:PySem.W.findIn K (.ref C) "__class__"=some (some (.builtin "object.__class__"))
 hn:PySem.W.specialIn K (.builtin "object.__class__") "__get__"=some (some (.builtin "getset_descriptor.__get__"))
 htk:PySem.W.takesIn K (.builtin "object.__class__")=some true
 hm:PySem.W.mroIn K C (.type "object")=some true
 one:PySem.W.kitOne K (.ref C) (.ref C)=some true
def GD(C:Addr):D->Option D
 |.ins C' _=>if C'=C then some (.bl true)else none
 |_=>none
def BQ(cl:Cls X.K C)(ic:IsC X.K C):CallR X (.builtin "isinstance") (λxs H Q=>∃l dx fs,xs=[.ref l,.ref C]/\H l=some (.ins C dx fs)/\Q (.bl true) H):=by intro p s f H xs g Q I r h;obtain⟨l,dx,fs,rfl,e,q⟩:=h;obtain⟨u,w,rfl,b,a⟩:=qe r;cases(show w=Value.ref C from a);exact yW I b (.ins e cl ic.ha ic.hn ic.htk ic.hm) ic.one λi=>⟨.bl true,H,I.tok _,rfl,q⟩
def G9(cl:Cls X.K C)(ic:IsC X.K C)(s:Gl X "isinstance")(o:X.mg "isinstance"=none)(i:Gl X x)(g:X.mg x=some (.ref C))(u:PDN X a fa)(hd:nDb x:=by decide)
  (l:starEach [a,.Name x p1] X.env=[(false,eval a X.env),(false,eval (.Name x p1) X.env)]:=by rfl) (h:starEach [.Name x p1] X.env=[(false,eval (.Name x p1) X.env)]:=by rfl) (f:(backTo pos (starEach [.Name x p1] X.env)).any (·.1)=false:=by rfl) :
  PDE X (.Call (.Name "isinstance" p) [a,.Name x p1] [] pos) (d1 (GD C) fa):=
 (dh (BQ cl ic) s o cV (aI u (aI (mV (v:=.ref C) i g rfl hd) aZ h) (by rw[l,h])) (by decide) (by decide) (by rw[l,h]) f).imp λJ H Q=>un7 λP F j d e I k=>by
  unfold d1 at e;cases q:fa j with
  |none=>rw[q]at e;cases e
  |some A=>
   rw[q,Ya]at e;cases A with
   |ins C' fs=>
    have b:(if C'=C then some (D.bl true)else none)=some d:=e;split at b
    ·rename_i w;subst w;cases b;refine⟨P,F,j,_,q,I,λy E B z m=>?_⟩;cases m with
     |ins h1 h2=>exact⟨_,_,_,rfl,h1,k _ E B z .bl⟩
    ·cases b
   |_=>cases e
end L2
namespace L2
open PySem PySem.Spec PySem.Calls PySem.W PyProof.Rows
noncomputable def isE(f:Addr->Option Bool):D->Option D
 |.exn C=>(f C).map .bl
 |_=>none
def fX(a b:Addr)(u v:Bool):Addr->Option Bool:=λC=>if C=a then some u else if C=b then some v else none
def wb{a b:Addr}{u v:Bool}{p:Addr->Bool->Prop}(f:p a u)(h1:p b v):∀C w,fX a b u v C=some w->p C w:=λC w h=>by
 unfold fX at h;split at h
 ·rename_i e;cases h;rw[e];exact f
 ·split at h
  ·rename_i e;cases h;rw[e];exact h1
  ·cases h
section
variable     {f:Addr->Option Bool}
def ua{c:V}{g:Value}(o:∀C b,f C=some b->ExC X.K C/\kitOne X.K (.ref C) g=some b)(a:∀u,RelV c u->u=g):CallR X (.builtin "isinstance") (λxs H Q=>∃l C b,xs=[.ref l,c]/\H l=some (.ext (ExA l C))/\f C=some b/\Q (.bl b) H):=by intro E s w H xs A Q I r h;obtain⟨l,C,b,rfl,m,p,q⟩:=h;obtain⟨u,y,rfl,j,i⟩:=qe r;cases(show u=Value.ref l from j);cases a _ i;obtain⟨x,e⟩:=o C b p;exact kia_one (tQ x) I.kIn (show ObjOk _ _ H s.heap l (.ext (ExA l C))from I.hok l _ m).1 e (λz=>nomatch z) λB=>⟨.bl b,H,I.tok _,rfl,q⟩
def xH{cvs:List Value}(L:∀C b,f C=some b->ExC X.K C/\kitAny X.K (.ref C) cvs=some b)(g:∀us,Vals cs us->us=cvs):CallR X (.builtin "isinstance") (λxs H Q=>∃l a C b,xs=[.ref l,.ref a]/\H l=some (.ext (ExA l C))/\H a=some (.tup cs)/\f C=some b/\Q (.bl b) H):=by
 intro T s R H xs us Q I r h;obtain⟨l,a,C,b,rfl,J,E,M,q⟩:=h;obtain⟨u,w,rfl,m,j⟩:=qe r;cases(show u=Value.ref l from m);cases(show w=Value.ref a from j);obtain⟨_,B,i,⟨p,P,O,n,N⟩,_⟩:=(show ObjOk _ _ H s.heap a (.tup cs)from I.hok a _ E)
 cases g _ i;rcases p with⟨A,U,o,y⟩
 cases(show A=_ from O);cases(show o=_ from N);obtain⟨x,e⟩:=L C b M;exact kia_tup (tQ x) I.kIn (show ObjOk _ _ H s.heap l (.ext (ExA l C))from I.hok l _ J).1 P e (λz=>nomatch z) λS=>⟨.bl b,H,I.tok _,rfl,q⟩
def vW{dx d:D}(h:isE f dx=some d):∃C b,dx=.exn C/\f C=some b/\d=.bl b:=by
 cases dx with
 |exn C=>obtain⟨b,q,rfl⟩:=aw h;exact⟨C,b,rfl,q,rfl⟩
 |_=>cases h
def FU{g:Addr}(e:∀C b,f C=some b->ExC X.K C/\kitOne X.K (.ref C) (.ref g)=some b)(w:Gl X "isinstance")(u:X.mg "isinstance"=none)(l:Gl X x)(j:X.mg x=some (.ref g))(A:PDN X a fa)(hd:nDb x:=by decide)
  (m:starEach [a,.Name x p1] X.env=[(false,eval a X.env),(false,eval (.Name x p1) X.env)]:=by rfl) (h:starEach [.Name x p1] X.env=[(false,eval (.Name x p1) X.env)]:=by rfl) (i:(backTo pos (starEach [.Name x p1] X.env)).any (·.1)=false:=by rfl) :
  PDE X (.Call (.Name "isinstance" p) [a,.Name x p1] [] pos) (d1 (isE f) fa):=
 (dh (ua (c:=.ref g) e λ_ r=>r) w u cV (aI A (aI (mV (v:=.ref g) l j rfl hd) aZ h) (by rw[m,h])) (by decide) (by decide) (by rw[m,h]) i).imp λL H Q=>un7 λP F o d e I k=>by
  obtain⟨M,q,e⟩:=Yd.mp e;obtain⟨C,b,rfl,z,rfl⟩:=vW e;refine⟨P,F,o,_,q,I,λy J E B s=>?_⟩;cases s with
  |exn h1=>exact⟨_,C,b,rfl,h1,z,k _ J E B .bl⟩
def Cq(e:∀C b,f C=some b->ExC X.K C/\kitOne X.K (.ref C) (.type "ValueError")=some b)(w:Gl X "isinstance")(u:X.mg "isinstance"=none)(l:Gl X "ValueError")(j:X.mg "ValueError"=none)(z:PDN X a fa)
  (m:starEach [a,.Name "ValueError" p1] X.env=[(false,eval a X.env),(false,eval (.Name "ValueError" p1) X.env)]:=by rfl) (h:starEach [.Name "ValueError" p1] X.env=[(false,eval (.Name "ValueError" p1) X.env)]:=by rfl) (i:(backTo pos (starEach [.Name "ValueError" p1] X.env)).any (·.1)=false:=by rfl) (g:bootBuiltins "ValueError"=some (.type "ValueError"):=by decide+kernel) :
  PDE X (.Call (.Name "isinstance" p) [a,.Name "ValueError" p1] [] pos) (d1 (isE f) fa):=
 (dh (ua (c:=.ty "ValueError") e λ_ r=>r) w u cV (aI z (aI (wC (v:=.ty "ValueError") l j g rfl (by decide) (by decide)) aZ h) (by rw[m,h])) (by decide) (by decide) (by rw[m,h]) i).imp λJ H Q=>un7 λP F o d e I k=>by
  obtain⟨L,q,e⟩:=Yd.mp e;obtain⟨C,b,rfl,x,rfl⟩:=vW e;refine⟨P,F,o,_,q,I,λy E B A s=>?_⟩;cases s with
  |exn h1=>exact⟨_,C,b,rfl,h1,x,k _ E B A .bl⟩
def wy{cvs:List Value}{e:List Expr}{x1}(i:∀C b,f C=some b->ExC X.K C/\kitAny X.K (.ref C) cvs=some b)(o:∀us,Vals cs us->us=cvs)(s:cs.length<=sizeLine)(j:PA X e (λσ H Q=>Q cs H))(J:Gl X "isinstance")(E:X.mg "isinstance"=none)(M:PDN X a fa)
  (u:starEach [a,.Tuple e x1 p1] X.env=[(false,eval a X.env),(false,eval (.Tuple e x1 p1) X.env)]:=by rfl) (h:starEach [.Tuple e x1 p1] X.env=[(false,eval (.Tuple e x1 p1) X.env)]:=by rfl) (m:(backTo pos (starEach [.Tuple e x1 p1] X.env)).any (·.1)=false:=by rfl) :
  PDE X (.Call (.Name "isinstance" p) [a,.Tuple e x1 p1] [] pos) (d1 (isE f) fa):=
 (dh (xH (cs:=cs) i o) J E cV (aI M (aI (vm (x1:=x1) (pos:=p1) j) aZ h) (by rw[u,h])) (by decide) (by decide) (by rw[u,h]) m).imp λσ H Q=>un7 λP F z d i I k=>by
  obtain⟨R,q,i⟩:=Yd.mp i;obtain⟨C,b,rfl,L,rfl⟩:=vW i;refine⟨P,F,z,_,q,I,λy O N x B=>⟨s,λA g=>?_⟩⟩;cases B with
  |@exn l _ h1=>
   have w:N l=some (.ext (ExA l C)):=h1;exact⟨l,A,C,b,rfl,by rw[aA (aS w g)];exact w,aE,L,k _ O _ (x.trans (Evo.side x.hp g)) .bl⟩
end
end L2
namespace L2
open PySem PySem.Spec PyProof.Rows
noncomputable def y0(f:DX):DB:=λa=>(f a).bind λr=>match r.1 with
 |.bl b=>some (b,r.2)
 |_=>none
noncomputable def xN(f:DB):DB:=λρ=>(f ρ).map λr=>(!r.1,r.2)
section
variable    {fa:DX}{f:DB}
def DU(h:PX X e fa)(he:∀w,isTrue e X.env w=(do let v <-w;standAt e.pos;holding [v] (truthy v)):=by intro _;rfl):PTX X e (y0 fa):=
 PT.imp (Bc h he) λo H Q=>un7 λP F f r a I k=>by
  obtain⟨⟨d,b⟩,q,a⟩:=Yd.mp a;cases d with
  |bl z=>
   cases a;refine⟨P,F,f,_,q,I,λv m l i j g=>?_⟩;cases g;exact⟨z,rfl,k m l i j⟩
  |_=>cases a
def C9(h:PTX X a f):PTX X (.UnaryOp .Not a pos) (xN f):=PT.imp (AB h) λm H Q=>un7 λP F b r e I k=>by
 obtain⟨x,q,rfl⟩:=aw e;exact⟨P,F,b,x,q,I,λl j g i=>k l j g i⟩
end
end L2
namespace L2
open PySem PySem.Spec PySem.Calls PyProof.Rows
def I8{b e:Type}(R:Hp->b->e->Prop)(K:Kq)(cl:Nat->Addr)(E:XK)(P F:Hp)(σ:St)(Q:b->Hp->Prop):Except Nat (e×DF)->Prop
 |.ok r=>∀v a H,Same F a->DInv K P a H r.2 σ->R a v r.1->Q v H
 |.error k=>∀a H,Same F a->DHp P a H->E (.ref (cl k)) none H
abbrev UX:=DF->Option (Except Nat (D×DF))
abbrev UXs:=DF->Option (Except Nat (List D×DF))
def tU(K:Kq)(cl:Nat->Addr)(E:XK)(f:UX):TE:=λa H Q=>∃P F b r,f b=some r/\DInv K P F H b a/\I8 (Rep K) K cl E P F a Q r
def tLU(K:Kq)(cl:Nat->Addr)(E:XK)(g:UXs):TA:=λa H Q=>∃P F b r,g b=some r/\DInv K P F H b a/\I8 (Reps K) K cl E P F a Q r
def PU(X:Cx)(cl:Nat->Addr)(E:XK)(e:Expr)(f:UX):Prop:=PE X e (tU X.K cl E f)
def PAU(X:Cx)(cl:Nat->Addr)(E:XK)(es:List Expr)(g:UXs):Prop:=PA X es (tLU X.K cl E g)
noncomputable def de{α b:Type}(o:Option (Except Nat α))(f:α->Option (Except Nat b)):Option (Except Nat b):=match o with
 |some (.ok a)=>f a
 |some (.error k)=>some (.error k)
 |none=>none
def iZ{α b:Type}{o:Option (Except Nat α)}{f:α->Option (Except Nat b)}{r:Except Nat b}(h:de o f=some r):(∃a,o=some (.ok a)/\f a=some r)\/∃k,o=some (.error k)/\r=.error k:=by
 cases o with
 |none=>cases h
 |some x=>cases x with
  |ok a=>exact .inl ⟨a,rfl,h⟩
  |error k=>cases h;exact .inr ⟨k,rfl,rfl⟩
noncomputable def uOf(f:DX):UX:=λρ=>(f ρ).map .ok
def cS:UXs:=λρ=>some (.ok ([],ρ))
def bY(f:UX)(g:UXs):UXs:=λe=>de (f e) λa=>de (g a.2) λb=>some (.ok (a.1::b.1,b.2))
noncomputable def ya(g:UXs):UX:=λa=>de (g a) λr=>if r.1.length<=16777216 then some (.ok (.tup r.1,r.2))else none
section
variable  {cl:Nat->Addr}{E:XK}    {f:UX}{g:UXs}
def iH{f:DX}(h:PX X e f):PU X cl E e (uOf f):=PE.imp h λg H Q=>un7 λP F a r b I k=>by
 obtain⟨d,q,rfl⟩:=aw b;exact⟨P,F,a,d,q,I,k⟩
def eZ:PAU X cl E [] cS:=aZ.imp λa H Q=>un7 λP F b r h I k=>by
 cases h;exact k [] F H (Same.refl _) I .nil
def cy(h:PU X cl E e f)(t:PAU X cl E es g)(B:starEach (e::es) X.env=(false,eval e X.env)::starEach es X.env:=by rfl):PAU X cl E (e::es) (bY f g):=PA.imp (aI h t B) λK H Q=>un7 λP F s r i I k=>by
 rcases iZ i with⟨a,m,i⟩|⟨j,m,rfl⟩
 ·refine⟨P,F,s,_,m,I,λv x L u w A=>?_⟩;rcases iZ i with⟨b,q,i⟩|⟨j,q,rfl⟩
  ·cases i;exact⟨P,x,a.2,_,q,w,λy p o l J z=>k (v::y) p o (u.trans l) J (.cons (A.same l) z)⟩
  ·exact⟨P,x,a.2,_,q,w,λp o l C=>k p o (u.trans l) C⟩
 ·exact⟨P,F,s,_,m,I,k⟩
def Fu{x1}(h:PAU X cl E es g):PU X cl E (.Tuple es x1 pos) (ya g):=(vm h).imp λu H Q=>un7 λP F b d a I k=>by
 rcases iZ a with⟨r,q,a⟩|⟨j,m,rfl⟩
 ·split at a
  ·rename_i o;cases a;refine⟨P,F,b,_,q,I,λw y x s l e=>⟨by rw[e.length,YL];exact o,λp f=>?_⟩⟩;have i:=(l.toDHp.free f).1;exact k (.ref p) _ _ (s.trans (fj i)) (l.laid f) (.tup aE (e.same (fj i)))
  ·cases a
 ·exact⟨P,F,b,_,m,I,k⟩
noncomputable def xU(c:D->DF->Option RES)(f:UX):DF->Option XR:=λa=>match f a with
 |some (.ok r)=>(c r.1 r.2).map .go
 |some (.error k)=>some (.ex k)
 |none=>none
def xE{c:D->DF->Option RES}{r:XR}(h:xU c f ρ=some r):(∃a r',f ρ=some (.ok a)/\c a.1 a.2=some r'/\r=.go r')\/∃k,f ρ=some (.error k)/\r=.ex k:=by
 unfold xU at h;split at h
 ·rename_i a q;obtain⟨r',b,rfl⟩:=aw h;exact .inl ⟨a,r',q,b,rfl⟩
 ·rename_i k q;cases h;exact .inr ⟨k,q,rfl⟩
 ·cases h
def uo(i:Nat):D->DF->Option RES:=λd a=>some (.nx (a.set i (some (.v d))))
def gI:D->DF->Option RES:=λ_ ρ=>some (.nx ρ)
def xZ:D->DF->Option RES:=λd ρ=>some (.rt (.v d) ρ)
def kB(i:Nat)(he:PU X cl E e f)(hi:X.N[i]?=some x:=by rfl)(hx:Loc X.env.scope x:=by first|exact .inl rfl|exact .inr rfl)(l:swapsWith e (some (.Name x pos')) pos.line X.env=pure false:=by rfl)(o:FnL X x:=by first|exact .inl rfl|exact .inr rfl|assumption)(hN:decide X.N.Nodup=true:=by kernel_rfl) :
  PX1 X cl E (.Assign [.Name x pos'] e pos) (xU (uo i) f):=PS.imp (om (ndI hN) hi hx he l o) λD y H=>un7 λP F b r m I k=>by
 rcases xE m with⟨a,z,q,h,rfl⟩|⟨j,q,rfl⟩
 ·cases h;exact⟨P,F,b,_,q,I,λv w u p s g=>k _ w u p (s.setV i g)⟩
 ·exact⟨P,F,b,_,q,I,k⟩
def fT(he:PU X cl E e f)(i:swapsWith e none pos.line X.env=pure false:=by rfl):PX1 X cl E (.Expr e pos) (xU gI f):=PS.imp (dB he i) λD g H=>un7 λP F b r l I k=>by
 rcases xE l with⟨a,u,q,h,rfl⟩|⟨j,q,rfl⟩
 ·cases h;exact⟨P,F,b,_,q,I,λv s p m o _=>k g s p m o⟩
 ·exact⟨P,F,b,_,q,I,k⟩
def r9(he:PU X cl E e f):PX1 X cl E (.Return (some e) pos) (xU xZ f):=PS.imp (oY he) λD g H=>un7 λP F b r l I k=>by
 rcases xE l with⟨a,u,q,i,rfl⟩|⟨j,q,rfl⟩
 ·cases i;exact⟨P,F,b,_,q,I,λv s p m o h=>k v g s p m o h⟩
 ·exact⟨P,F,b,_,q,I,k⟩
noncomputable def Eo(j:Nat):D->DF->Option RES:=λd a=>match a[j]? with
 |some (some (.own (.lst ds) t))=>if ds.length<16777216 then some (.nx (a.set j (some (.own (.lst (ds++[d])) t))))else none
 |_=>none
noncomputable def wD(j:Nat)(f:UX):DF->Option XR:=λa=>match a[j]? with
 |some (some (.own (.lst _) _))=>xU (Eo j) f a
 |_=>none
def Em(j:Nat)(h:PE X o (cB j))(R:PU X cl E e f)(g:attributeBase o "append" X.env (eval o X.env)=eval o X.env:=by rfl)
  (l:((backTo cpos (starEach [e] X.env)).all (λx=>!x.1)&&(backToKw cpos (keywordEach [] X.env)).all (λx=>x.1.isSome)
   && decide (([e]:List Expr).length+([]:List Keyword).length+(if([]:List Keyword).isEmpty then 0 else 1)<30))=true:=by rfl)
  (b:(apos.endLine == cpos.line)=true:=by rfl) (B:starEach [e] X.env=[(false,eval e X.env)]:=by rfl) (w:swapsWith (.Call (.Attribute o "append" apos) [e] [] cpos) none pos.line X.env=pure false:=by rfl) :
  PX1 X cl E (.Expr (.Call (.Attribute o "append" apos) [e] [] cpos) pos) (wD j f):=
 PS.imp (dB (jJ YY Zu ZI fK h (aI R aZ B) g l b B rfl) w) λD L H=>un7 λP F z r m I k=>by
  unfold wD at m;split at m
  ·rename_i Y t0 O;obtain⟨p,M,y,h2,h3,S,h5⟩:=jf I O;refine⟨_,y,.inl ⟨rfl,M,SqL.of S⟩,?_⟩;rcases xE m with⟨a,r',q,i,rfl⟩|⟨j',q,rfl⟩
   ·refine⟨P,F,z,_,q,I,λv Z H1 U K N=>?_⟩;unfold Eo at i;split at i
    ·rename_i ds t A;split at i
     ·rename_i Q;cases i;obtain⟨p',s,J,g2,g3,T,C⟩:=jf K A;rw[y]at J;cases J;refine⟨p,s,v,rfl,rfl,T,by rw[YL,C.length];exact Q,k L Z _ U ?_⟩;exact K.mut (o':=.lst _) (u:=.lst _) A rfl rfl y (C.append (.one N))
     ·cases i
    ·cases i
   ·exact⟨P,F,z,_,q,I,k⟩
  ·cases m
end
def spU(K:Kq)(cl:Nat->Addr)(m:OD->List DV->Option (Except Nat (OD×D))):Sp:=λh H Q E=>∃P F a g o x r,h=.ref a::g/\m o x=some r/\DHp P F H/\ORep K F H (λb=>F b=none/\P b=none) o a/\DVs K P F H x g/\(match r with
 |.ok q=>∀v e f,Same F e->DHp P e f->ORep K e f (λb=>e b=none/\P b=none) q.1 a->Rep K e v q.2->Q v f
 |.error k=>∀e f,Same F e->DHp P e f->E (.ref (cl k)) none f)
def E6(a:Addr):Except Nat (OD×D)->XR->Prop
 |.ok q,.go r=>ku a q.1 q.2 r
 |.error k,.ex j=>k=j
 |_,_=>False
def FZ(n p:Nat)(g:DF->Option XR)(o:OD)(xs:List DV)(q:Except Nat (OD×D)):Prop:=xs.length+1=p/\∀a,∃r,g (bn n p (.own o (some a)::xs))=some r/\E6 a q r
noncomputable def ip (n p:Nat)(g:DF->Option XR)(o:OD)(xs:List DV):Option (Except Nat (OD×D)):=
 open Classical in if h:∃q,FZ n p g o xs q then some h.choose else none
def xn{n p:Nat}{g:DF->Option XR}{o:OD}{q:Except Nat (OD×D)}(h:ip n p g o xs=some q):FZ n p g o xs q:=by
 unfold ip at h;split at h
 ·rename_i a;rw[<-Yv h];exact a.choose_spec
 ·cases h
def mU{n p:Nat}{g:DF->Option XR}{o:OD}{z:Except Nat (OD×D)}(i:xs.length+1=p)(h:∀a,∃r,g (bn n p (.own o (some a)::xs))=some r/\E6 a z r):ip n p g o xs=some z:=by
 have f:∃q,FZ n p g o xs q:=⟨z,i,h⟩
 unfold ip;rw[dif_pos f];obtain⟨_,j⟩:=f.choose_spec;obtain⟨r,e,q⟩:=j 0;obtain⟨m,l,b⟩:=h 0;rw[l]at e;cases e;refine YH some ?_;generalize f.choose=y at q;cases y<;>cases z<;>cases r<;>first|exact q.elim|exact b.elim|skip
 ·exact YH _ (q.trans b.symm)
 ·exact YH _ (lL q b)
section
variable{P:Program}       {f:Addr}  {k:Nat}{cl:Nat->Addr}{g:DF->Option XR}
def Fun.okU(F:Fun K x qual st f fd)(S:FnScope N ps (defScope st))
  (h:∀(cdv:Value) (A:Around) (outer:List Env) (s:Shared) (H:Hp) (E:XK),Room k (A.deeper (envOfC qual (defScope st) s.heap.objs.size f cdv))->PXS (cY (CXc P w cl) P w K mg base N qual (defScope st) f cdv A outer s H E) cl E (defBody st) g) :
  FnOk P w K mg base (CXc P w cl) (k+1) f fd ps (spU K cl (ip N.length ps.length g)):=by
 have B:∀J H Q E,spU K cl (ip N.length ps.length g) J H Q E->J.length=ps.length:=λJ H Q E z=>by
  obtain⟨X,Y,a,L,o,xs,r,e,O,Z,_,R,_⟩:=z;rw[e,Yg,<-R.length];exact(xn O).1
 obtain⟨oc,od,kV,doc,pm,an,cdv,ct,osl,rfl,lk,U⟩:=F.ex;refine B0 lk U S B λA outer s H J Q E hr T=>⟨_,h cdv A outer s H E hr,?_⟩
 obtain⟨X,Y,a,L,o,xs,z,rfl,O,Z,ho,R,hE⟩:=T;obtain⟨hl,hq⟩:=xn O;obtain⟨r,hg,p⟩:=hq a;refine⟨X,Y,_,_,hg,DInv.startO N ps.length Z ho R hl,?_⟩;cases z with
 |error k=>
  cases r with
  |ex j=>cases p;exact hE
  |go r=>exact p.elim
 |ok z=>
  cases r with
  |ex j=>exact p.elim
  |go r=>
   have fin:∀(i:DF) (y:St) (l m:Hp) (v:V),i[0]?=some (some (.own z.1 (some a)))->Same Y l->DInv K X l m i y->Rep K l v z.2->Q v m:=λi y l m v C e I M=>by
    obtain⟨v',_,a',rfl,h3,h4⟩:=I.at C;have ea:=h4 a rfl;subst ea;exact hE v l m e I.toDHp (h3.mono (Same.refl _) λb u q hb=>⟨hb,q.1,q.2.1⟩) M
   cases r with
   |nx i=>(obtain⟨C,hn⟩:=p;exact λy l m e I=>fin i y l m .non C e I (hn ▸ .non))
   |rt x i=>(obtain⟨rfl,C⟩:=p;exact λv y l m e I M=>fin i y l m v C e I M)
   |bk i=>exact p.elim
   |ct i=>exact p.elim
def Df.okU(F:Df K q st f fd) (N:List Str) (b:∀{cdv:Value}{A:Around}{outer:List Env}{s:Shared}{H:Hp}{E:XK},Room k (A.deeper (envOfC q (defScope st) s.heap.objs.size f cdv))->
      PXS (cY (CXc P w cl) P w K mg base N q (defScope st) f cdv A outer s H E) cl E (defBody st) g) (h:qF N (bK st) (defScope st)=true:=by kernel_rfl):FnOk P w K mg base (CXc P w cl) (k+1) f fd (bK st) (spU K cl (ip N.length (bK st).length g)):=
  F.fn.okU (scI N h) λ_ _ _ _ _ _ a=>b a
noncomputable def vG(n p:Nat)(g:DF->Option XR):List DV->Option (Except Nat DV):=λx=>if x.length=p then(match g (bn n p x)with
 |some (.go r)=>(c9 (some r)).map .ok
 |some (.ex k)=>some (.error k)
 |none=>none)else none
def spV(K:Kq)(cl:Nat->Addr)(m:List DV->Option (Except Nat DV)):Sp:=λf H Q E=>∃P F e r,m e=some r/\DHp P F H/\DVs K P F H e f/\(match r with
 |.ok x=>∀v b a,Same F b->DHp P b a->DVRep K P b a tE x v->Q v a
 |.error k=>∀b a,Same F b->DHp P b a->E (.ref (cl k)) none a)
def Df.okV(F:Df K q st f fd) (N:List Str) (Y:∀{cdv:Value}{A:Around}{outer:List Env}{s:Shared}{H:Hp}{E:XK},Room k (A.deeper (envOfC q (defScope st) s.heap.objs.size f cdv))->
      PXS (cY (CXc P w cl) P w K mg base N q (defScope st) f cdv A outer s H E) cl E (defBody st) g) (h:qF N (bK st) (defScope st)=true:=by kernel_rfl):FnOk P w K mg base (CXc P w cl) (k+1) f fd (bK st) (spV K cl (vG N.length (bK st).length g)):=by
  have l:∀b H Q E,spV K cl (vG N.length (bK st).length g) b H Q E->b.length=(bK st).length:=λb H Q E z=>by
    obtain⟨J,O,T,r,a,R,o,_⟩:=z;unfold vG at a;split at a
    · rename_i u;rw[<-o.length];exact u
    · cases a
  obtain⟨oc,od,kV,Z,pm,an,cdv,ct,U,rfl,lk,B⟩:=F.fn.ex;refine B0 lk B (scI N h) l λA outer s H b Q E X p=>⟨_,Y X,?_⟩
  obtain⟨J,O,T,z,a,R,o,C⟩:=p;unfold vG at a;split at a
  · rename_i u
    have I:=DInv.start N (bK st).length R o u;split at a
    · rename_i r m
      obtain⟨x,i,rfl⟩:=aw a;refine⟨J,O,_,_,m,I,?_⟩;cases r with
      |rt y ρ=>cases i;exact λv S M L e h r=>C v M L e h.toDHp r
      |nx ρ=>cases i;exact λS M L e I2=>C .non M L e I2.toDHp .non
      |bk ρ=>cases i
      |ct ρ=>cases i
    · rename_i j m
      cases a;exact⟨J,O,_,_,m,I,C⟩
    · cases a
  · cases a
noncomputable def Bw(m:List DV->Option (Except Nat DV)):List DV->Option DV:=λa=>match m a with|some (.ok x)=>some x|_=>none
noncomputable def CA(m:List DV->Option (Except Nat DV)):List DV->Option Nat:=λx=>match m x with|some (.error k)=>some k|_=>none
variable  {m:List DV->Option (Except Nat DV)}
def FnOk.exn(G:FnOk P w K mg base (CXc P w cl) k f fd ps (spV K cl m)):FnOk P w K mg base (CXc P w cl) k f fd ps (DE K cl (CA m)):=G.imp λl H Q E z=>by
 obtain⟨g,i,x,j,h,b,a,e⟩:=z;unfold CA at h;split at h
 ·rename_i k q;cases h;exact⟨g,i,x,_,q,b,a,e⟩
 ·cases h
def FnOk.val(G:FnOk P w K mg base (CXc P w cl) k f fd ps (spV K cl m)):FnOk P w K mg base CX0 k f fd ps (spD K (Bw m)):=by
 have g:∀a H Q E i,spD K (Bw m) a H Q E->spV K cl m a H Q i:=λa H Q E i z=>by
  obtain⟨M,N,j,x,h,B,e,I⟩:=z;unfold Bw at h;split at h
  ·rename_i y q;cases h;exact⟨M,N,j,_,q,B,e,I⟩
  ·cases h
 refine⟨λa H Q E z=>G.len _ _ _ _ (g a H Q E E z),λA o s H b u a Q E p L C e l=>?_⟩;refine Vs (G.run A o s H b u a Q (λ_ _ _=>False) p L C e (g a H Q E _ l)) λr O z=>?_;cases r with
 |ok J=>cases J<;>exact z
 |error R=>(obtain⟨_,_,_,_,_,_,_,z⟩:=z;exact z.elim)
end
noncomputable def bN(C:Addr)(mn:Str)(i:Nat)(m:OD->List DV->Option (Except Nat (OD×D)))(g:UXs):UX:=λb=>(iO (some C) i b).bind λfs=>if fs.lookup mn=none then de (g b) λa=>match a.2[i]? with
  |some (some (.own o t))=>de (m o (a.1.map .v)) λr=>some (.ok (r.2,a.2.set i (some (.own r.1 t))))
  |_=>none else none
section
variable  {cl:Nat->Addr}{E:XK}   {m:OD->List DV->Option (Except Nat (OD×D))}{g:UXs}
def xf:∀σ H Q,tU K cl E (bN C mn i m g) σ H Q->nP C mn (spU K cl m) [] E (cB i) (tLU K cl E g) σ H Q:=λσ H Q=>un7 λP F B r h I k=>by
 obtain⟨fs,q,h⟩:=Yd.mp h;split at h
 ·rename_i hn;obtain⟨p,dx,U,w,h2,_,h4⟩:=I.obj q;refine⟨_,w,p,dx,U,rfl,h2,(dN h4).1 hn,?_⟩;rcases iZ h with⟨a,u,h⟩|⟨j,u,rfl⟩
  ·refine⟨P,F,B,_,u,I,λJ o T O R L=>?_⟩;split at h
   ·rename_i N t M;rcases iZ h with⟨b,s,h⟩|⟨j,s,rfl⟩
    ·cases h;obtain⟨Y,S,f,y,x,back⟩:=R.hand M;rw[w]at f;cases f;exact⟨gdS o T S,o,p,J,N,a.1.map .v,_,by simp,s,x,y,L.dvs,λv A z l e Z X=>k v A z (O.trans l) (back l e Z) X⟩
    ·obtain⟨Y,S,f,y,x,back⟩:=R.handX M;rw[w]at f;cases f;exact⟨gdS o T S,o,p,J,N,a.1.map .v,_,by simp,s,x,y,L.dvs,λA z l e=>k A z (O.trans l) (back l e)⟩
   ·cases h
  ·exact⟨P,F,B,_,u,I,k⟩
 ·cases h
def BD:∀σ H Q,tU K cl E (bN C mn i m cS) σ H Q->nP C mn (spU K cl m) [] E (cB i) qN σ H Q:=λσ H Q h=>by
 obtain⟨v,g,a,j,fs,rfl,f,e,P,F,l,x,q,I,b⟩:=xf σ H Q h;cases q;exact⟨_,g,a,j,fs,rfl,f,e,b [] F H (Same.refl _) I .nil⟩
variable{P:Program}       {f:Addr}      {k:Nat}     
def pum(i:Nat){pl:Sem Bool}(c:Cls K C)(p:Meth K C mn f)(G:FnOk P w K mg base (CXc P w cl) k f fd ps (spU K cl m))(l:Room k' (XC P w K mg base N qual scope f0 cd A outer s H E cl).A)(u:Binds K fd ps [])(he:PE (XC P w K mg base N qual scope f0 cd A outer s H E cl) o (cB i))(x:PAU (XC P w K mg base N qual scope f0 cd A outer s H E cl) cl E (e::es) g)(q:k<=k':=by decide)
  (h:starEach (e::es) (XC P w K mg base N qual scope f0 cd A outer s H E cl).env=(false,eval e (XC P w K mg base N qual scope f0 cd A outer s H E cl).env)::starEach es (XC P w K mg base N qual scope f0 cd A outer s H E cl).env:=by rfl) (a:(backTo pos (starEach es (XC P w K mg base N qual scope f0 cd A outer s H E cl).env)).any (·.1)=false:=by rfl)
  (j:eval (.Call (.Attribute o mn apos) (e::es) [] pos) (XC P w K mg base N qual scope f0 cd A outer s H E cl).env=(do
   let b <-eval o (XC P w K mg base N qual scope f0 cd A outer s H E cl).env
   standAt apos.atName
   let (f,first) <-holding [b] (getMethod b mn pl)
   callWith pos f first (backTo pos (starEach (e::es) (XC P w K mg base N qual scope f0 cd A outer s H E cl).env)) (backToKw pos (keywordEach [] (XC P w K mg base N qual scope f0 cd A outer s H E cl).env))):=by rfl):PU (XC P w K mg base N qual scope f0 cd A outer s H E cl) cl E (.Call (.Attribute o mn apos) (e::es) [] pos) (bN C mn i m g):=
 (wJ (X:=XC P w K mg base N qual scope f0 cd A outer s H E cl) he c p G (l.mono q) u .nil Fo x h a j).imp xf
def tP(i:Nat){pl:Sem Bool}(c:Cls K C)(e:Meth K C mn f)(G:FnOk P w K mg base (CXc P w cl) k f fd ps (spU K cl m))(b:Room k' (XC P w K mg base N qual scope f0 cd A outer s H E cl).A)(j:Binds K fd ps [])(he:PE (XC P w K mg base N qual scope f0 cd A outer s H E cl) o (cB i))(g:k<=k':=by decide)
  (h:eval (.Call (.Attribute o mn apos) [] [] pos) (XC P w K mg base N qual scope f0 cd A outer s H E cl).env=(do
   let a <-eval o (XC P w K mg base N qual scope f0 cd A outer s H E cl).env
   standAt apos.atName
   let (f,first) <-holding [a] (getMethod a mn pl)
   callWith pos f first (backTo pos (starEach [] (XC P w K mg base N qual scope f0 cd A outer s H E cl).env)) (backToKw pos (keywordEach [] (XC P w K mg base N qual scope f0 cd A outer s H E cl).env))):=by rfl):PU (XC P w K mg base N qual scope f0 cd A outer s H E cl) cl E (.Call (.Attribute o mn apos) [] [] pos) (bN C mn i m cS):=
 (tT (X:=XC P w K mg base N qual scope f0 cd A outer s H E cl) he c e G (b.mono g) j .nil Fo h).imp BD
end
def JP(X:Cx)(es:List Expr)(n:Nat)(c:St->Prop):Prop:=∀pz s σ H acc (Q:Str->Shared->Prop),Inv X pz σ H s->c σ->acc.length+n<=sizeLine->(∀o a,o.length<=sizeLine->Inv X pz σ H a->Q o a)->Joins (model X.prog X.w) X.A X.xe (evalEach es X.env) acc Q s
def isR(i:Nat):St->Prop:=λa=>∃x,a[i]?=some (some (.str x))/\(reprText x).length<=5000000
def isJ(i:Nat):St->Prop:=λa=>∃j,a[i]?=some (some (.int j))/\j.natAbs.log2<1920/\(Str.ofString (toString j)).length<=5000000
section
variable  {c:St->Prop}  {n:Nat}{kn t:Str}
def iU:JP X [] 0 c:=λ_ _ _ _ acc _ I _ h k=>k acc _ h I
theorem f8{ci}(h:JP X es n c):JP X (.Constant (.str t) ci p4::es) (t.length+n) c:=λp s b H m Q I l y k=>by
 refine a9 (dI (X:=X) (x:=t) (j:=ci) (pos:=p4) p _ b H (λv e=>v=.str t/\e=H) I ⟨rfl,rfl⟩) λu g w e o i q=>?_;obtain⟨rfl,rfl⟩:=q;obtain⟨a,rfl⟩:=(show ∃f,u=Value.str t f from i)
 refine⟨t,a,rfl,?_,h p g b _ _ Q o l ?_ k⟩<;>rw[strLen_append]<;>omega
theorem rQ(hv:PE X (.Name kn p1) (cB i))(h:JP X es n (isR i)):JP X (.FormattedValue (.Name kn p1) 114 none p3::es) (5000000+n) (isR i):=λp s b H w Q I e C k=>by
 have a:=e;obtain⟨x,m,o⟩:=e;have z:(reprText x).length<=sizeLine:=by omega
 refine wpAny_FormattedValue_repr (a9 (hv p s b H (λv f=>v=.str x/\f=H) I ⟨_,m,rfl,rfl⟩) λu B v f y l q=>?_);obtain⟨rfl,rfl⟩:=q;obtain⟨A,rfl⟩:=(show ∃t,u=Value.str x t from l)
 refine wpAny_pyReprObj_str ?_ z;refine formatField_str (λj g=>⟨reprText x,j,rfl,?_,h p _ b _ _ Q (y.tok _) a ?_ k⟩) z<;>rw[strLen_append]<;>omega
theorem rK(hv:PE X (.Name kn p1) (cB i))(h:JP X es n (isJ i)):JP X (.FormattedValue (.Name kn p1) (-1) none p3::es) (5000000+n) (isJ i):=λp s b H w Q I e A k=>by
 have a:=e;obtain⟨j,l,o,m⟩:=e;refine FormattedValue_plain (a9 (hv p s b H (λv f=>v=.int j/\f=H) I ⟨_,l,rfl,rfl⟩) λu z v f x g q=>?_);obtain⟨rfl,rfl⟩:=q;obtain⟨y,rfl⟩:=(show ∃t,u=Value.int j t from g)
 refine formatField_int_small o ⟨_,_,rfl,?_,h p _ b _ _ Q (x.tok _) a ?_ k⟩<;>rw[strLen_append]<;>omega
theorem Ku{b a:Expr}(h:JP X (b::a::es) n c)(j:n<=sizeLine):PE X (.JoinedStr (b::a::es) pos) (λσ H Q=>c σ/\∀y,Q (.str y) H):=λp s σ H Q I e=>by
 refine wpAny_JoinedStr (h p s σ H _ _ I e.1 (by show 0+n<=_;omega) λo i f g=>⟨f,.str o,H,g.tok _,⟨_,rfl⟩,e.2 o⟩)
def jx(b:DF->Bool)(k:Nat):DF->Option XR:=λa=>if b a=true then some (.ex k)else none
noncomputable def bR(i:Nat):DF->Bool:=λa=>match a[i]? with
 |some (some (.v (.str x)))=>decide ((reprText x).length<=5000000)
 |_=>false
noncomputable def bJ(i:Nat):DF->Bool:=λa=>match a[i]? with
 |some (some (.v (.int j)))=>decide (j.natAbs.log2<1920)&&decide ((Str.ofString (toString j)).length<=5000000)
 |_=>false
def xg{F:Hp}(h:bR i ρ=true)(I:DInv K P F H ρ σ):isR i σ:=by
 unfold bR at h;split at h
 ·rename_i y q;obtain⟨v,b,a⟩:=I.at q;cases(show Rep K F v (.str y)from a);exact⟨y,b,YN h⟩
 ·cases h
def xC{F:Hp}(h:bJ i ρ=true)(I:DInv K P F H ρ σ):isJ i σ:=by
 unfold bJ at h;split at h
 ·rename_i y q;obtain⟨v,b,a⟩:=I.at q;cases(show Rep K F v (.int y)from a);exact⟨y,b,YN (Vk.mp h).1,YN (Vk.mp h).2⟩
 ·cases h
def dW{cl:Nat->Addr}{E:XK}{k:Nat}{e a:Expr}{np cpos p5}{b:DF->Bool}(u:JP X (e::a::es) n c)(p:∀{P F H ρ σ},b ρ=true->DInv X.K P F H ρ σ->c σ)(s:oh X (cl k) λH'=>E (.ref (cl k)) none H')(l:X.mg x=some (.ref (cl k)))(q:PySem.W.excIn X.K (cl k) vM "ValueError.__new__"=true)
  (j:n<=sizeLine:=by decide) (o:X.calm=true:=by rfl) (m:Gl X x:=by rfl) (hd:nDb x:=by decide) (i:starEach [.JoinedStr (e::a::es) p5] X.env=[(false,eval (.JoinedStr (e::a::es) p5) X.env)]:=by rfl) :
  PX1 X cl E (.Raise (some (.Call (.Name x np) [.JoinedStr (e::a::es) p5] [] cpos)) none pos) (jx b k):=PS.imp (yb o s m l q (Ku u j) hd i) λD σ H=>un7 λP F ρ r f I g=>by
 unfold jx at f;split at f
 ·rename_i h;cases f;exact⟨p h I,λ_=>⟨rfl,g F H (Same.refl _) I.toDHp⟩⟩
 ·cases f
end
noncomputable def zp:List Expr->Option (List Str)
 |[]=>some []
 |.Constant (.str s) _ _::es=>(zp es).map (s::·)
 |_=>none
def sL(ss:List Str):DF->Option (List D):=λ_=>some (ss.map .str)
theorem gO:∀{es:List Expr} (ss:List Str),zp es=some ss->PDL X es ss.length (sL ss)
 |[],ss,h=>by cases h;exact aO
 |e::es,ss,h=>by
  unfold zp at h;split at h
  ·cases ‹_::_=[]›
  ·rename_i s _ _ f q;obtain⟨a,b,rfl⟩:=aw h;cases q;exact ak am (gO a b)
  ·cases h
section
variable    {n:Nat}{s:Stmt}  
def wM{f:Dl}(h:PDL X es n f)(a:n<=16777216:=by decide):PDOw X (.List es pos) (asL f):=⟨bZ h a⟩
def sf(h:PD1w X s g)(r:PDSw X ss gs):PDSw X (s::ss) (al g gs):=⟨ac h.h r.h⟩
def Im(h:PDS X ss g):PDSw X ss g:=⟨h⟩
def Df.okIw{P:Program}       {f:Addr}  {k:Nat} (F:Df K q st f fd) (N:List Str) (b:∀{cdv:Value}{A:Around}{outer:List Env}{s:Shared}{H:Hp}{E:XK},Room k (A.deeper (envOfC q (defScope st) s.heap.objs.size f cdv))->
      PDSw (cY CX0 P w K mg base N q (defScope st) f cdv A outer s H E).nox (defBody st) g) (h:qF N (bK st) (defScope st)=true:=by kernel_rfl):FnOk P w K mg base CX0 (k+1) f fd (bK st) (spD K (mOf N.length (bK st).length g)):=
  F.okI N (λa=>(b a).h) h
def Gi(i:Nat){f:Dl}(h:PE X o (cB i))(m:PDOw X e (asL f))(b:attributeBase o "extend" X.env (eval o X.env)=eval o X.env:=by rfl)
  (g:((backTo cpos (starEach [e] X.env)).all (λx=>!x.1)&&(backToKw cpos (keywordEach [] X.env)).all (λx=>x.1.isSome)
   && decide (([e]:List Expr).length+([]:List Keyword).length+(if([]:List Keyword).isEmpty then 0 else 1)<30))=true:=by rfl)
  (a:(apos.endLine == cpos.line)=true:=by rfl) (l:starEach [e] X.env=[(false,eval e X.env)]:=by rfl) (j:swapsWith (.Call (.Attribute o "extend" apos) [e] [] cpos) none pos.line X.env=pure false:=by rfl) :
  PD1w X (.Expr (.Call (.Attribute o "extend" apos) [e] [] cpos) pos) (jA i f):=⟨gU i h m.h b g a l j⟩
end
end L2
namespace L2
open PySem PySem.Spec PySem.Calls PyProof.Rows PySem.Builtin PySem.Builtin.Str
def lT(x:Str)(c:Nat):List Nat:=occurrences x ⟨#[c]⟩ 0 x.length 1
def oZ(x:Str)(c:Nat):Str:=glued "" (partsBetween x (lT x c) 1)
noncomputable def ke(i w t:Nat)(a:Str)(f:Dd):DF->Option RES:=λb=>match f b,b[w]?,b[t]? with
 |some (.int j),some (some (.v (.int n))),some (some (.v (.str x)))=>match a.cps[(j%3).toNat]? with
  |some c=>if n=4/\(lT x c).isEmpty=false then(if x.length<=16777216/\(oZ x c).length<=16777216 then some (.rt (.v (.str (oZ x c))) (b.set i (some (.v (.str ⟨#[c]⟩)))))else none)else some (.nx (b.set i (some (.v (.str ⟨#[c]⟩)))))
  |none=>none
 |_,_,_=>none
theorem uU(x:Str)(c:Nat)(t u v w:Tok)(b:(lT x c).isEmpty=false)(a:u≠0)(hv:v≠0)(h:u≠v)(i:x.length<=16777216):Gives («str.replace» ⟨[.str x t,.str ⟨#[c]⟩ u,.str "" v,.int 1 w],[]⟩) (.str (oZ x c)):=by
  show Gives (if((occurrences x ⟨#[c]⟩ 0 x.length 1).isEmpty||((⟨#[c]⟩:Str).length == 0&&("":Str).length == 0))=true then(do rule "str.replace.nothing";ret (.str x t))else
          (do let same <-isSame (.str ⟨#[c]⟩ u) (.str "" v)
              if same=true then(do rule "str.replace.old-is-new";ret (.str x t))else
              if tooLong (x.length+(occurrences x ⟨#[c]⟩ 0 x.length 1).length*("":Str).length)=true then unsupported "str.replace:memory" else
              retStr (glued "" (partsBetween x (occurrences x ⟨#[c]⟩ 0 x.length 1) (⟨#[c]⟩:Str).length)))) _
  have g:((occurrences x ⟨#[c]⟩ 0 x.length 1).isEmpty||((⟨#[c]⟩:Str).length == 0&&("":Str).length == 0))=false:=by rw[show(occurrences x ⟨#[c]⟩ 0 x.length 1).isEmpty=false from b];rfl
  have f:tooLong (x.length+(occurrences x ⟨#[c]⟩ 0 x.length 1).length*("":Str).length)=false:=by rw[show("":Str).length=0 from rfl,Nat.mul_zero];unfold tooLong sizeLine;exact Yi (by omega)
  have e:((⟨#[c]⟩:Str) == "")=false:=Zh.mpr λz=>absurd (YH Str.length z) (by show(1:Nat)≠0;decide)
  rw[g,isSame_str_other ⟨#[c]⟩ "" u v (by simp[a,hv]) (by simp[h]) e,f];exact .of_eq rfl
def yD{M:Model}{v:V}{Q:Unit->Shared->Prop}(I:Inv X pz σ H s)(hN:X.N.Nodup)(hi:X.N[i]?=some x)(hk:X.env.scope.names.lookup x=some .local)(r:RelV v u)
  (h:∀h' m,Inv X pz (σ.set i (some v)) H {s with heap:=h',toks:=s.toks+1}->h'.Ns X.env.locals m->m x=some u->(∀j y l,X.N[j]?=some y->σ[j]?=some (some l)->j≠i->X.env.scope.names.lookup y=some .local->∃u,RelV l u/\m y=some u)->Q () {s with heap:=h',toks:=s.toks+1}):wpAny M A (storeName X.env x u) Q E s:=by
 obtain⟨m,Y,Z⟩:=id I.loc;have O:(X.env.scope.kind == .class||(X.env.scope.kind == .module&&X.env.locals != X.env.globals))=false:=by rw[I.ok.kind];rfl
 have L:i<σ.length:=by rw[I.len];exact(YM.mp hi).1
 have cne:=I.cne;have B:∀j y,X.N[j]?=some y->j≠i->y≠x:=λj y a g e=>g (kY hN a (e ▸ hi))
 refine wpAny_storeName_local hk Y (λh' J f=>h h' _ ?_ J (by simp) λj y l a w g K=>?_) O
 ·obtain⟨oL,_,_,hoL,_⟩:=id Y;refine⟨I.ok,I.os,I.bare,⟨λb o e n S C=>?_,λb o e n S C=>?_,I.base.free,λb o e C=>?_,I.base.tups,I.base.frzs,I.base.tbls⟩,⟨_,J,λj y l a w e3=>?_⟩,λy c e=>?_,I.free,I.freeC,λp hp=>?_,λb ob e=>?_,by simpa using I.len⟩
  ·exact(f.2 b (YJ (Ys (YC e) I.ok.above))).trans (I.base.keep b o e n S C)
  ·obtain⟨sl,a⟩:=I.base.slot b o e n S C;exact⟨sl,(f.2 b (YJ (Ys (YC e) I.ok.above))).trans a⟩
  ·obtain⟨o',a⟩:=I.base.there b o e C;exact⟨o',(f.2 b (YJ (Ys (YC e) I.ok.above))).trans a⟩
  ·by_cases g:j=i
   ·subst g;rw[hi]at a;cases a;rw[Zp L]at w;cases w;exact⟨u,r,.inl ⟨hk,by simp⟩⟩
   ·rw[YR (ZX g)]at w;obtain⟨P,R,q⟩:=Z j y l a w e3;refine⟨P,R,?_⟩;rcases q with⟨k,e⟩|⟨k,c,e,z⟩
    ·exact .inl ⟨k,by simp[B j y a g,e]⟩
    ·exact .inr ⟨k,c,e,z.sameBut f (cne y c e)⟩
  ·obtain⟨T,z⟩:=I.cell y c e;exact⟨T,z.sameBut f (cne y c e)⟩
  ·obtain⟨e,n,U,nf,d⟩:=I.pin p hp;exact⟨(f.2 p.1 U).trans e,n,U,nf,d⟩
  ·refine(I.hok b ob e).stay (λc T hc q=>(f.2 c ?_).trans q) (λ_ q=>q) λ_ _ q=>q;rintro rfl;have hf:=I.free;rcases hc with rfl|hc
   ·rw[hf]at e;cases e
   ·rw[hf]at hc;cases hc
 ·obtain⟨P,R,q⟩:=Z j y l a w (.inl K);rcases q with⟨k,e⟩|⟨k,_⟩
  ·exact⟨P,R,by simp[B j y a g,e]⟩
  ·rcases k with k|k<;>(rw[show X.env.kindOf y=some .local from K]at k;cases k)
def B5{w t:Nat}{a:Str}{r:RES}(h:ke i w t a f ρ=some r):∃j n x c,f ρ=some (.int j)/\ρ[w]?=some (some (.v (.int n)))/\ρ[t]?=some (some (.v (.str x)))/\a.cps[(j%3).toNat]?=some c /\
  ((n=4/\(lT x c).isEmpty=false/\x.length<=16777216/\(oZ x c).length<=16777216/\r=.rt (.v (.str (oZ x c))) (ρ.set i (some (.v (.str ⟨#[c]⟩)))))\/(¬(n=4/\(lT x c).isEmpty=false)/\r=.nx (ρ.set i (some (.v (.str ⟨#[c]⟩)))))):=by
 unfold ke at h;split at h
 ·rename_i j n x m l g;split at h
  ·rename_i c q;refine⟨j,n,x,c,m,l,g,q,?_⟩;split at h
   ·rename_i b;split at h
    ·rename_i e;cases h;exact .inl ⟨b.1,b.2,e.1,e.2,rfl⟩
    ·cases h
   ·rename_i b;cases h;exact .inr ⟨b,rfl⟩
  ·cases h
 ·cases h
theorem B8(i w t:Nat){a xs T o:Str}{aL:List Stmt}{h:Dw}{p5 p6 p7 p8 p9 p10 p11 J p13 E C B p p18 p19 Z Y:Pos}{c1 c2 c3 c4 c5}
  (he:PDE X e f) (hr:PDS X aL h) (hiw:i≠w:=by decide) (hit:i≠t:=by decide) (hi:X.N[i]?=some xs:=by rfl) (hw:X.N[w]?=some T:=by rfl) (ht:X.N[t]?=some o:=by rfl) (ki:X.env.scope.names.lookup xs=some .local:=by rfl) (kw:X.env.scope.names.lookup T=some .local:=by rfl) (kt:X.env.scope.names.lookup o=some .local:=by rfl)
  (hN:decide X.N.Nodup=true:=by kernel_rfl) (ds:nDb xs:=by decide) (dw:nDb T:=by decide) (dt:nDb o:=by decide)
  (hsw:swapsWith (.Subscript (.Constant (.str a) c1 p2) (.BinOp e .Mod (.Constant (.int 3) c5 Z) Y) p3) (some (.Name xs p1)) p4.line X.env=pure false:=by rfl)
  (O:attributeBase (.Name o J) "replace" X.env (eval (.Name o J) X.env)=eval (.Name o J) X.env:=by rfl)
  (hfew:((backTo p (starEach [.Name xs E,.Constant (.str "") c3 C,.Constant (.int 1) c4 B] X.env)).all (λx=>!x.1)&&(backToKw p (keywordEach [] X.env)).all (λx=>x.1.isSome)
   && decide (([.Name xs E,.Constant (.str "") c3 C,.Constant (.int 1) c4 B]:List Expr).length+([]:List Keyword).length+(if([]:List Keyword).isEmpty then 0 else 1)<30))=true:=by rfl)
  (M:(p13.endLine == p.line)=true:=by rfl) :
  PDS X (.Assign [.Name xs p1] (.Subscript (.Constant (.str a) c1 p2) (.BinOp e .Mod (.Constant (.int 3) c5 Z) Y) p3) p4::.If (.BoolOp .And [.Compare (.Name T p5) [.Eq] [.Constant (.int 4) c2 p6] p7,.Compare (.Name xs p8) [.In] [.Name o p9] p10] p11) [.Return (some (.Call (.Attribute (.Name o J) "replace" p13) [.Name xs E,.Constant (.str "") c3 C,.Constant (.int 1) c4 B] [] p)) p18] [] p19::aL) (al (ke i w t a f) h):=by
 intro pz s σ H D I hh;obtain⟨P,F,ρ,r,l,ID,kk⟩:=hh;obtain⟨U,q0,l⟩:∃U,ke i w t a f ρ=some U/\((∃b,U=.nx b/\h b=some r)\/(r=U/\∀b,U≠.nx b)):=by
  unfold al at l;split at l
  ·rename_i b q;exact⟨_,q,.inl ⟨b,rfl,l⟩⟩
  ·rename_i q;exact⟨r,l,.inr ⟨rfl,λb z=>q b (z ▸ l)⟩⟩
 obtain⟨j,n,x,c,qf,qw,qt,qc,alt⟩:=B5 q0;refine Xe (wpAny_Assign_Name ?_ hsw);refine Subscript_ (Calls.Constant_str ?_);refine wpAny_BinOp (a9 (he pz _ σ H (λv H'=>∃F',Evo P F H F' H'/\Rep X.K F' v (.int j)) (I.tok _) ⟨P,F,ρ,_,qf,ID,λv F' H' ev rv=>⟨F',ev,rv⟩⟩) λu s2 y H2 I2 r2 q2=>?_);obtain⟨F2,R,rv2⟩:=q2;cases rv2;obtain⟨tj,rfl⟩:=r2;refine XM (mod_int' (by decide) ?_);have em:j.fmod 3=j%3:=Int.fmod_eq_emod_of_nonneg j (by decide);have l0:0<=j%3:=Zg j (by decide);have l3:j%3<3:=Za j (by decide);have lc:(j%3).toNat<a.length:=(Array.getElem?_eq_some_iff.mp qc).1;rw[em];refine tail_any (Vw _ a _) slot_str_getitem.lookup (getItem_str (c:=c) (by
  have e1:decide (j%3 < -(2^63:Int))=false:=Yi (by omega);have e2:decide (j%3 ≥ 2^63)=false:=Yi (by omega);rw[e1,e2]<;>rfl) (by rw[PySem.StrLaws.seqIndex_nonneg l0 (by omega)];exact qc) ?_) rfl
 refine yD (v:=.str ⟨#[c]⟩) (I2.tok _) (ndI hN) hi ki ⟨_,rfl⟩ λh4 m I4 g hm4 ot=>?_;have S:=(ID.evo R)
 have ID3:=S.setV i (v:=.str ⟨#[c]⟩) (d:=.str ⟨#[c]⟩) .str;obtain⟨vw,sw,rw'⟩:=S.at qw;cases(show Rep X.K F2 vw (.int n)from rw');obtain⟨vt,st,rt'⟩:=S.at qt;cases(show Rep X.K F2 vt (.str x)from rt');obtain⟨uw,rw2,mw⟩:=ot w T _ hw sw (ZX hiw) kw;obtain⟨tw,rfl⟩:=rw2;obtain⟨ut,rt2,mt⟩:=ot t o _ ht st (ZX hit) kt;obtain⟨tt,rfl⟩:=rt2;refine Xe (wpAny_If (isTrue_and (Xm (XW (ZM I.ok.kind kw g mw (XM (eq_int (Ze ?_)))) dw) rfl)));have on:∀tk,¬(n=4/\(lT x c).isEmpty=false)->wpAny (model X.prog X.w) X.A (execs [] X.env) (λf s'=>match f with|.next=>wpAny (model X.prog X.w) X.A (execs aL X.env) (SP X pz D) X.xe s'|f=>SP X pz D f s') X.xe {s2 with heap:=h4,toks:=tk}:=λtk L=>by
  refine XN ?_;rcases alt with⟨h4',h5,_⟩|⟨_,rfl⟩
  ·exact absurd ⟨h4',h5⟩ L
  ·rcases l with⟨b,e,l⟩|e
   ·cases e;exact hr pz _ _ _ D (I4.tok _) ⟨P,F2,_,r,l,ID3,kk.ext R.ext⟩
   ·exact absurd rfl (e.2 _)
 have ne0:s2.toks+1+1≠0:=Nat.succ_ne_zero _;by_cases Q:n=4
 ·subst Q;rw[Yh (show((4:Int) == 4)=true from rfl)];refine isTrue_and (Xm (XW (ZM I.ok.kind ki g hm4 (XW (ZM I.ok.kind kt g mt (PyProof.Rows.in_str (Ze ?_))) dt)) ds) rfl);cases ho:(lT x c).isEmpty with
  |true=>
   rw[show(occurrences x ⟨#[c]⟩ 0 x.length 1).isEmpty=true from ho,Yp (by decide)];exact on _ λz=>by rw[ho]at z;cases z.2
  |false=>
   rw[show(occurrences x ⟨#[c]⟩ 0 x.length 1).isEmpty=false from ho,Yh (by rfl)];refine isTrue_and_nil ?_;rw[Yh (by rfl)];rcases alt with⟨_,_,hl1,hl2,rfl⟩|⟨L,_⟩
   ·rcases l with⟨b,e,_⟩|⟨rfl,_⟩
    ·cases e
    ·refine Xe (wpAny_Return_some (wpAny_Call_method_late O hfew M rfl (XW (ZM I.ok.kind kt g mt ?_) dt)));refine⟨"str","str.replace",XV,PySem.F.slot_str_replace,PySem.F.type_str_replace,Vw _ x tt,λ_ z=>(nomatch z),?_⟩;refine Xg rfl (ZV (ZU (XW (pos:=E) (ZM I.ok.kind ki g hm4 (ZU (Calls.Constant_str (k:=c3) (pos:=C) (ZU (XM (k:=c4) (pos:=B) (Calls.spliced_nil ?_)))))) ds)));refine call_gives PySem.F.slot_str_replace (Vw _ _ _) PySem.F.entry_str_replace (PySem.F.args_str_replace_4 _ _ _ _) (uU x c _ _ _ _ ho ne0 (Nat.succ_ne_zero _) (show s2.toks+1+1≠s2.toks+1+1+1+1+1 by omega) hl1) ⟨by rw[YL];exact hl2,?_⟩;exact⟨.str (oZ x c),_,_,I4.tok _,⟨_,rfl⟩,kk _ _ _ _ R.ext ID3 .str⟩
   ·exact absurd ⟨rfl,ho⟩ L
 ·rw[Yp (by rw[Zh.mpr Q];exact Ym)];rw[Yp Ym];exact on _ λz=>Q z.1
end L2
namespace L2
open PySem PySem.Spec PyProof.Rows
noncomputable def jT(f:Dd):DF->Option Bool:=λa=>match f a with
 |some (.lst ds)=>some (!ds.isEmpty)
 |_=>none
def mG(a:PDR X e fa)(he:∀w,isTrue e X.env w=(do let v <-w;standAt e.pos;holding [v] (truthy v)):=by intro _;rfl):PDT X e (jT fa):=
 (Ad a he).imp λu H Q=>un7 λP F b d h I k=>by
  unfold jT at h;cases a:fa b with
  |none=>rw[a]at h;cases h
  |some o=>
  rw[a]at h;cases o with
  |lst ds=>
   cases h;refine⟨P,F,b,_,a,I,λx s q g i=>?_⟩;have p:=I.evo g;obtain⟨l,f,rfl,m,j⟩:=im p i;refine⟨!ds.isEmpty,.inl ⟨f,m,?_⟩,k s q g⟩;have:=j.length;cases f<;>cases ds<;>first|rfl|cases this
  |_=>cases h
end L2
namespace L2
open PySem PySem.Spec PySem.W PyProof.Rows
section
variable      {G:Array GenState->Array GenState->Prop}{P:Nat->Value->Prop}{St:Nat->Shared->Prop}{R:Kr}
end
section
variable       {own:Nat}  {f:Dl}{st:Dq}{c:Dk}{e:Dl}
end
section
variable  {c:Expr}{st1:Stmt}{aL:List Stmt}{fc fc2:Dk}{w:Bool}{ipos zpos:Pos}    {st:Dq}
end
end L2
namespace L2
open PySem PySem.Spec PySem.Calls PySem.W PyProof.Rows
section
variable  {a:Addr}{ob:Obj}    
end
section
variable  {a:Addr}{ob:Obj}
end
end L2
namespace L2
open PySem PySem.SetTable
noncomputable def JX(m:Nat)(p:Probe):Probe:=
 if p.more > 0 then{p with j:=p.j+1,more:=p.more-1}else
 let (i,perturb):=leap m p.i p.perturb
 {p with j:=i,more:=runEnd m i-i,i,perturb}
def startM(m:Nat)(h:Int):Probe:=
 let i:=bits h%(m+1)
 {j:=i,more:=runEnd m i-i,i,perturb:=bits h,dummy:=none}
def Fg(m:Nat)(p:Probe):Nat->Probe
 |0=>p
 |n+1=>JX m (Fg m p n)
def at_(m:Nat)(h:Int)(n:Nat):Nat:=(Fg m (startM m h) n).j
def own(o:Array (Option Nat))(j:Nat):Option Nat:=o.getD j (some 0)
def ow(o:Array (Option Nat))(j:Nat):Option Nat:=o.getD j none
end L2
namespace L2
open PySem PySem.Spec PyProof.Rows PySem.SetTable
section
variable{S:Addr}{es:Ka}  {t:SetTable}
end
section
variable{S:Addr}{es:Ka}  {t:SetTable}
end
end L2
namespace L2
open PySem PySem.Spec PyProof.Rows
noncomputable def Ek(i:Nat):DF->Option RES:=λa=>match a[i]? with
 |some (some (.own (.lst ds) t))=>some (.nx (a.set i (some (.own (.lst ds.reverse) t))))
 |_=>none
def Gg(i:Nat)(h:PE X o (cB i))(e:attributeBase o "reverse" X.env (eval o X.env)=eval o X.env:=by rfl)(b:(apos.endLine == cpos.line)=true:=by rfl)(g:swapsWith (.Call (.Attribute o "reverse" apos) [] [] cpos) none pos.line X.env=pure false:=by rfl) :
  PD1 X (.Expr (.Call (.Attribute o "reverse" apos) [] [] cpos) pos) (Ek i):=
 PS.imp (dB (u8 YY PySem.F.slot_list_reverse PySem.F.type_list_reverse u7 h e b) g) λE p H=>un7 λP F w r f I k=>by
  unfold Ek at f;split at f
  ·rename_i z t q;cases f;obtain⟨a,j,m,y,x,l,s⟩:=jf I q;exact⟨_,m,.inl ⟨rfl,j,SqL.of l⟩,a,j,rfl,rfl,l,k p F _ (Same.refl _) (I.mut (o':=.lst _) (u:=.lst _) q rfl rfl m s.rev)⟩
  ·cases f
section
variable      {r:Addr}{a b c:Int}{t u v:Tok}{n:Nat}
end
noncomputable def x_(x:Str)(n:Int):Str:=if n<1 then Str.empty else if(n == 1||x.length == 0)=true then x else⟨(List.replicate n.toNat x.cps).foldl (·++·) #[]⟩
noncomputable def o6:D->D->Option D
 |.str x,.int n=>if -(2^62)<=n/\n<1000/\x.length<=1000 then some (.str (x_ x n))else none
 |_,_=>none
def E5:R2:=λx y H Q=>∃z n,x=.str z/\y=.int n/\(-(2^62)<=n/\n<1000/\z.length<=1000)/\Q (.str (x_ z n)) H
theorem tZ(c:Array Nat):∀(k:Nat) (a:Array Nat),((List.replicate k c).foldl (·++·) a).size=a.size+k*c.size
 |0,a=>by simp
 |k+1,a=>by
  rw[XJ,List.foldl_cons,tZ c k,Array.size_append,Nat.succ_mul];omega
theorem CW:OpR X (binaryOp .Mult) E5:=by
 intro p s i H x y v u Q I g f h;obtain⟨z,n,rfl,rfl,⟨b1,b2,b3⟩,q⟩:=h;obtain⟨t,rfl⟩:=g;obtain⟨j,rfl⟩:=f;refine PySem.P.mul_str (by rw[Yi (show ¬n < -(2^63:Int)by omega),Yi (show ¬n ≥ 2^63 by omega)];rfl) (λa _=>?_) (λa _=>?_) ?_
 ·have e:1000<=(2^63-1:Int)/n:=Int.le_ediv_of_mul_le (by omega) (by omega);have l:(z.length:Int)<=1000:=Int.ofNat_le.mpr b3;omega
 ·have e:z.length*n.toNat<=1000*1000:=Nat.mul_le_mul b3 (by omega);show decide (z.length*n.toNat > sizeLine)=false;rw[Zi,YL];omega
 ·unfold x_ at q;split
  ·rename_i a;rw[Yh a]at q;exact⟨by decide,⟨.str Str.empty,H,I.tok _,⟨_,rfl⟩,q⟩⟩
  ·rename_i a;rw[Yp a]at q;split
   ·rename_i b;rw[Yh b]at q;exact⟨.str z,H,I,⟨_,rfl⟩,q⟩
   ·rename_i b;rw[Yp b]at q;refine⟨?_,⟨.str _,H,I.tok _,⟨_,rfl⟩,q⟩⟩;show((List.replicate n.toNat z.cps).foldl (·++·) #[]).size<=sizeLine;rw[tZ,YL];have e:n.toNat*z.cps.size<=1000*1000:=Nat.mul_le_mul (by omega) b3;show 0+n.toNat*z.cps.size<=_;omega
def D8:nY K E5 o6:=by
 intro P F H g f x y j i d Q h I b a k;unfold o6 at h;split at h
 ·rename_i z n;split at h
  ·rename_i e;cases h;exact⟨z,n,k4 b,d_ a,e,k _ F H (Evo.refl I.toDHp) .str⟩
  ·cases h
 ·cases h
def m7(e:PDR X a fa)(h:PDR X b fb):PDE X (.BinOp a .Mult b pos) (d2 o6 fa fb):=jO CW D8 e h
theorem lR:∀(as:List Addr) (us:List Value),Vals (as.map V.ref) us->us=as.map Value.ref
 |[],_,.nil=>rfl
 |_::as,_,.cons r h=>by
  cases(show _=Value.ref _ from r);exact YH _ (lR as _ h)
def Fa:PA X [] (λ_ H Q=>Q [] H):=aZ
def jG{a:Addr}(f:Gl X x)(e:X.mg x=some (.ref a))(h:PA X es (λ_ H Q=>Q cs H))(hd:nDb x:=by decide)
  (b:starEach (.Name x p::es) X.env=(false,eval (.Name x p) X.env)::starEach es X.env:=by rfl):PA X (.Name x p::es) (λ_ H Q=>Q (.ref a::cs) H):=aI (mV (v:=.ref a) f e rfl hd) h b
end L2
namespace My
open PySem PySem.Spec PyProof.Rows L2
noncomputable section
def HU(i:Nat):Stmt:=PySem.Challenge.pw_tieword_k22_bad_texts.main.body.getD i (.Pass ⟨0,0,0,0⟩)
def top(i:Nat):Stmt:=if i<1000 then HU i else CF (HU (i/1000)) (i%1000)
noncomputable def rT:List Rw:=[⟨18,170,0,398,401,0⟩,⟨19,177,0,404,408,1⟩,⟨20,184,0,411,417,1⟩,⟨21,191,0,420,427,1⟩,⟨22,198,0,430,434,1⟩,⟨23,205,0,437,443,1⟩,⟨24,212,0,446,455,1⟩,⟨25000,224,0,470,473,0⟩,⟨30,260,1,527,531,1⟩,⟨31,267,1,534,541,1⟩,⟨32000,281,1,556,561,1⟩,⟨32001,288,1,564,568,1⟩,⟨32002,295,1,571,576,1⟩,⟨32003,302,1,579,586,1⟩,⟨32004,309,1,589,594,1⟩,⟨32005,316,1,597,603,1⟩,⟨32006,321,1,606,609,0⟩,⟨32007,328,1,612,618,1⟩,⟨32008,335,1,621,628,1⟩,⟨32009,342,1,631,637,1⟩,⟨32010,349,1,640,646,1⟩,⟨32011,356,1,649,656,1⟩,⟨32012,363,1,659,665,1⟩,⟨32013,370,1,668,673,1⟩,⟨33,384,1,691,696,1⟩,⟨35,391,2,701,707,1⟩,⟨36,398,2,710,716,1⟩,⟨37,405,2,719,725,1⟩,⟨38,410,2,728,731,0⟩,⟨39,417,2,734,749,1⟩,⟨40,424,2,752,766,1⟩,⟨41,431,2,769,779,1⟩,⟨42,438,2,782,790,1⟩,⟨43,445,2,793,802,1⟩,⟨44,452,2,805,809,1⟩,⟨45,459,2,812,817,1⟩,⟨46,464,2,820,823,0⟩,⟨47,471,2,826,835,1⟩,⟨48,478,2,838,843,1⟩,⟨49,485,2,846,860,1⟩,⟨50,492,2,863,869,1⟩,⟨51,499,2,872,880,1⟩]
def row(i:Nat):Option Rw:=rT.find? (·.i == i)
noncomputable def qn(i:Nat):Str:=(([(25000,"Web.__init__"),(32000,"Reader.__init__"),(32001,"Reader.sign"),(32002,"Reader.skip"),(32003,"Reader.taken"),(32004,"Reader.number"),(32005,"Reader.marks"),(32006,"Reader.join_by"),(32007,"Reader.begin_ring"),(32008,"Reader.close_ring"),(32009,"Reader.ring_sign"),(32010,"Reader.place"),(32011,"Reader.follow"),(32012,"Reader.go_on"),(32013,"Reader.read_all")]:List (Nat×Str)).lookup i).getD (fW (top i))
noncomputable def mdl(m:Nat):Value:=match m with
 |0=>.str "tieword.webs" 390
 |1=>.str "tieword.reading" 511
 |_=>.str "law_tieword_k22_bad_texts" 699
def fA(i:Nat):Addr:=((row i).map (·.a+1)).getD 0
noncomputable def dA(i:Nat):FuncData:=((row i).map λr=>fnD (qn i) (top i) (mdl r.m) r.a).getD (fnD "" (top 0) .none 0)
def aa:Addr:=374
set_option genInjectivity false
set_option genSizeOf false
set_option genSizeOfSpec false
noncomputable def bQ:GL:=[("~",517,0,518),(">",519,1,520),("<",521,2,522)]
def bp:Addr:=104
def cJ:Addr:=44
structure Adr where
 w:World
 C:Addr
 tk_MOST_PLACES:Tok
 tk_MOST_TIES:Tok
 tk_MOST_LETTERS:Tok
 tk_MOST_FIGURES:Tok
 tk_MOST_RING:Tok
 x_WebError:Addr
 x_BadName:Addr
 x_BadOrder:Addr
 x_BadPlace:Addr
 x_BadRule:Addr
 x_BadTie:Addr
 x_NoWay:Addr
 x_NoWeb:Addr
 x_TooMany:Addr
 x_Twice:Addr
def cl2(a b:Addr):Nat->Addr
 |0=>a
 |_=>b
abbrev Adr.cl(t:Adr):Nat->Addr:=cl2 bp cJ
structure Txt (K:PySem.W.Frag) (mg:Str->Option Value) (t:Adr):Prop where
 dd:∀i,(row i).isSome=true->Df K (qn i) (top i) (fA i) (dA i)/\(i<1000->mg (fW (top i))=some (.ref (fA i)))
 cl:Cls K t.C
 mkC:Mk K t.C (fA 25000)
 mgC:mg "Web"=some (.ref t.C)
 na_joins:NoAttr K t.C "joins"
 na_kinds:NoAttr K t.C "kinds"
 na_ties:NoAttr K t.C "ties"
 naR_at:NoAttr K aa "at"
 naR_begun:NoAttr K aa "begun"
 naR_closed:NoAttr K aa "closed"
 naR_hung:NoAttr K aa "hung"
 naR_kinds:NoAttr K aa "kinds"
 naR_text:NoAttr K aa "text"
 naR_ties:NoAttr K aa "ties"
 cl_Reader:Cls K aa
 mk_Reader:Mk K aa (fA 32000)
 mg_Reader:mg "Reader"=some (.ref aa)
 ic_Reader:IsC K aa
 mt_Reader_sign:Meth K aa "sign" (fA 32001)
 mt_Reader_taken:Meth K aa "taken" (fA 32003)
 mt_Reader_skip:Meth K aa "skip" (fA 32002)
 mt_Reader_number:Meth K aa "number" (fA 32004)
 mt_Reader_join_by:Meth K aa "join_by" (fA 32006)
 mt_Reader_close_ring:Meth K aa "close_ring" (fA 32008)
 mt_Reader_marks:Meth K aa "marks" (fA 32005)
 mt_Reader_begin_ring:Meth K aa "begin_ring" (fA 32007)
 mt_Reader_ring_sign:Meth K aa "ring_sign" (fA 32009)
 mt_Reader_place:Meth K aa "place" (fA 32010)
 mt_Reader_follow:Meth K aa "follow" (fA 32011)
 mt_Reader_go_on:Meth K aa "go_on" (fA 32012)
 mt_Reader_read_all:Meth K aa "read_all" (fA 32013)
 b_ValueError:mg "ValueError"=none
 b_all:mg "all"=none
 b_bool:mg "bool"=none
 b_int:mg "int"=none
 b_isinstance:mg "isinstance"=none
 b_len:mg "len"=none
 b_list:mg "list"=none
 b_max:mg "max"=none
 b_min:mg "min"=none
 b_range:mg "range"=none
 b_sorted:mg "sorted"=none
 b_str:mg "str"=none
 b_tuple:mg "tuple"=none
 c_MOST_PLACES:mg "MOST_PLACES"=some (.int 7 t.tk_MOST_PLACES)
 c_MOST_TIES:mg "MOST_TIES"=some (.int 12 t.tk_MOST_TIES)
 c_MOST_LETTERS:mg "MOST_LETTERS"=some (.int 3 t.tk_MOST_LETTERS)
 c_MOST_FIGURES:mg "MOST_FIGURES"=some (.int 30 t.tk_MOST_FIGURES)
 c_MOST_RING:mg "MOST_RING"=some (.int 99 t.tk_MOST_RING)
 icC:IsC K t.C
 mx_WebError:mg "WebError"=some (.ref t.x_WebError)
 mx_BadText:mg "BadText"=some (.ref bp)
 mx_TooGreat:mg "TooGreat"=some (.ref cJ)
 mx_BadName:mg "BadName"=some (.ref t.x_BadName)
 mx_BadOrder:mg "BadOrder"=some (.ref t.x_BadOrder)
 mx_BadPlace:mg "BadPlace"=some (.ref t.x_BadPlace)
 mx_BadRule:mg "BadRule"=some (.ref t.x_BadRule)
 mx_BadTie:mg "BadTie"=some (.ref t.x_BadTie)
 mx_NoWay:mg "NoWay"=some (.ref t.x_NoWay)
 mx_NoWeb:mg "NoWeb"=some (.ref t.x_NoWeb)
 mx_TooMany:mg "TooMany"=some (.ref t.x_TooMany)
 mx_Twice:mg "Twice"=some (.ref t.x_Twice)
 exC:∀k,ExC K (t.cl k)
 k0:∀k,PySem.W.kitOne K (.ref (t.cl k)) (.ref bp)=some (decide (k=0))
 k1:∀k,PySem.W.kitOne K (.ref (t.cl k)) (.ref cJ)=some (decide (1<=k))
 k3:∀k,PySem.W.kitOne K (.ref (t.cl k)) (.type "ValueError")=some true
 kt3:PySem.W.kitAny K (.ref (t.cl 0)) [.ref cJ,.ref t.x_TooMany,.ref t.x_Twice]=some false
 kt7:PySem.W.kitAny K (.ref (t.cl 0)) [.ref t.x_BadName,.ref t.x_BadOrder,.ref t.x_BadPlace,.ref t.x_BadRule,.ref t.x_BadTie,.ref t.x_NoWay,.ref t.x_NoWeb]=some false
 xm:∀k,PySem.W.exmOne K (.ref (t.cl k)) (.ref t.x_WebError)=some true
 xi:∀k,PySem.W.excIn K (t.cl k) vM "ValueError.__new__"=true
 g_LEADS:mg "LEADS"=some (.ref (nat_lit 254))
 kd_LEADS:KD K t.w.params (nat_lit 254) bQ 3
def Txt.F{t:Adr}(T:Txt K mg t)(i:Nat)(h:(row i).isSome=true:=by kernel_rfl):Df K (qn i) (top i) (fA i) (dA i):=(T.dd i h).1
def Txt.G{t:Adr}(T:Txt K mg t)(i:Nat)(h:(row i).isSome=true:=by kernel_rfl)(h2:decide (i<1000)=true:=by kernel_rfl):Df K (qn i) (top i) (fA i) (dA i)/\mg (fW (top i))=some (.ref (fA i)):=⟨(T.dd i h).1,(T.dd i h).2 (YN h2)⟩
variable{P:Program}    {t:Adr}
abbrev K0:PySem.W.Frag:=[]
abbrev Ok(P:Program)(w:World)(K:Kq)(mg:Ks)(base:Heap)(t:Adr)(i k:Nat)(m:Addr->List DV->Option DV):Prop:=FnOk P w K mg base CX0 k (fA i) (dA i) (bK (top i)) (spD K (m t.C))
def iQ(C:Addr):DF->Option RES:=
  (al (aY 1 (cI 7))
  (al (j7 (i9 0) (setV 2) (aY 1 (d2 aJ (d2 af (d2 af (d2 fC (ag 1) (cI 69621)) (d2 aJ (ag 2) (cI 2147483647))) (cI 11)) (cI 2147483647))))
  (mh (asL (ao (cI 0) (ao (getV 1) bA))))))
def di(C:Addr):List DV->Option DV:=mOf 3 1 (iQ C)
def kP(T:Txt K mg t):Ok P t.w K mg base t 35 1 di:=
 (T.F 35).okI ["_law_script","_law_number","_law_cell"] λh=>(ac (cP 1 ae) (ac (pfI (vC 0) (mE 2) (ap (cP 1 (bD (PDE.r (ah (PDE.r (ah (PDE.r (ig (au 1) (PDE.r ae))) (PDE.r (bD (au 2) (PDE.r ae))))) (PDE.r ae))) (PDE.r ae))))) (ap (qT (bZ (ak ae (ak (aC 1) aO)))))))
def h_(C:Addr):DF->Option RES:=
  (al (nW 1 (cI 0) (d2 af (d2 ixD (ag 1) (cI 0)) (cI 1)))
  (al (aY 2 (cI 0))
  (al (dIf (asB (d2 gtI (d1 aK (ar 0)) (cI 0))) (aY 2 (d2 ixD (ag 0) (d2 aJ (d2 ixD (ag 1) (cI 0)) (d1 aK (ar 0))))) dNx)
  (al (nW 1 (cI 1) (d2 aJ (d2 fC (d2 af (d2 af (d2 ixD (ag 1) (cI 1)) (d2 aJ (ag 2) (cI 2147483647))) (d2 fC (d2 ixD (ag 1) (cI 0)) (d2 ixD (ag 1) (cI 0)))) (cI 48271)) (cI 2147483629)))
  (bb (d2 aR (d2 ixD (ag 1) (cI 1)) (cI 3)))))))
def az(C:Addr):MW:=kj 3 2 (h_ C)
def bF(T:Txt K mg t):FnOk P t.w K mg base CX0 1 (fA 36) (dA 36) (bK (top 36)) (spW K (az t.C)):=
 (T.F 36).okW ["_law_script","_law_at","_law_cell"] λh=>(ac (uE 1 (pv 1) ae (ah (PDE.r (bB (au 1) (PDE.r ae))) (PDE.r ae))) (ac (cP 2 ae) (ac (cw (l5 (PDE.r (bf rfl T.b_len (bu 0))) (PDE.r ae)) (ap (cP 2 (bB (au 0) (PDE.r (bD (PDE.r (bB (au 1) (PDE.r ae))) (PDE.r (bf rfl T.b_len (bu 0)))))))) a7) (ac (uE 1 (pv 1) ae (bD (PDE.r (ig (PDE.r (ah (PDE.r (ah (PDE.r (bB (au 1) (PDE.r ae))) (PDE.r (bD (au 2) (PDE.r ae))))) (PDE.r (ig (PDE.r (bB (au 1) (PDE.r ae))) (PDE.r (bB (au 1) (PDE.r ae))))))) (PDE.r ae))) (PDE.r ae))) (ap (aQ (cf (PDE.r (bB (au 1) (PDE.r ae))) (PDE.r ae))))))))
def jV(C:Addr):DF->Option RES:=
  (al (aY 2 (λ_=>some (.str "abcdefghijklmnopqrstuvwxyz")))
  (al (bC 3 (ax (az C) (aH (ai (getV 0)) (aD 1 ba))))
  (al (aY 4 (d2 af (cI 1) (d2 aJ (ag 3) (cI 3))))
  (al (aY 5 (d2 n9 (λ_=>some (.str "")) (asO (asL (fB 1 [2,3] (ol (ag 4)) (setV 0) iM (d2 ixD (ag 1) (d2 aJ (d2 af (d2 aR (ag 2) (cI 3)) (d2 fC (ag 0) (d2 aR (ag 2) (cI 7)))) (cI 26))))))))
  (al (aY 6 (d2 aJ (d2 aR (ag 3) (cI 11)) (ag 4)))
  (al (aY 7 (d2 af (d2 af (d2 wa (ar 2) (d2 ixD (ag 5) (ag 6))) (cI 1)) (d2 aJ (d2 aR (ag 3) (cI 13)) (cI 25))))
  (al (aY 8 (d2 af (d2 af (slS (ag 5) bNo (bI (getV 6))) (d2 ixD (ag 2) (d2 aJ (ag 7) (cI 26)))) (slS (ag 5) (bI (d2 af (ag 6) (cI 1))) bNo)))
  (al (aY 9 (slS (ag 5) bNo (bI (cI 2))))
  (al (dIf (asB (d2 ltd (ar 4) (cI 3))) (aY 9 (d2 af (ag 5) (d2 ixD (ag 2) (d2 aJ (d2 aR (ag 3) (cI 17)) (cI 26))))) dNx)
  (bb (asO (asL (ao (getV 5) (ao (getV 8) (ao (getV 9) bA)))))))))))))))
def iX(C:Addr):MW:=kj 10 2 (jV C)
def tV(T:Txt K mg t):FnOk P t.w K mg base CX0 2 (fA 38) (dA 38) (bK (top 38)) (spW K (iX t.C)):=
 (T.F 38).okW ["_law_script","_law_at","_law_letters","_law_n","_law_size","_law_base","_law_spot","_law_step_here","_law_other","_law_last"] λh=>(ac (cP 2 am) (ac (jd 3 (pxc (bF T) (T.G 36) h (aU (ay (aC 0)) (aN 1 (pv 1) bz)))) (ac (cP 4 (ah (PDE.r ae) (PDE.r (bD (au 3) (PDE.r ae))))) (ac (cP 5 (wc (PDE.n am) (PDE.n (PDO.v (xY ["_law_k","_law_letters","_law_n"] 1 [2,3] [0] (f_ rfl T.b_range (au 4)) (mE 0) pC (bB (au 1) (PDE.r (bD (PDE.r (ah (PDE.r (cf (au 2) (PDE.r ae))) (PDE.r (ig (au 0) (PDE.r (cf (au 2) (PDE.r ae))))))) (PDE.r ae))))))))) (ac (cP 6 (bD (PDE.r (cf (au 3) (PDE.r ae))) (au 4))) (ac (cP 7 (ah (PDE.r (ah (PDE.r (Ed (bu 2) (PDE.n (bB (au 5) (au 6))))) (PDE.r ae))) (PDE.r (bD (PDE.r (cf (au 3) (PDE.r ae))) (PDE.r ae))))) (ac (cP 8 (ah (PDE.r (ah (PDE.r (eX (au 5) nD (kA (aC 6)))) (PDE.r (bB (au 2) (PDE.r (bD (au 7) (PDE.r ae))))))) (PDE.r (eX (au 5) (kA (ah (au 6) (PDE.r ae))) nD)))) (ac (cP 9 (eX (au 5) nD (kA ae))) (ac (cw (iN h.h64 (bu 4) (PDE.n ae)) (ap (cP 9 (ah (au 5) (PDE.r (bB (au 2) (PDE.r (bD (PDE.r (cf (au 3) (PDE.r ae))) (PDE.r ae)))))))) a7) (ap (aQ (PDO.v (bZ (ak (aC 5) (ak (aC 8) (ak (aC 9) aO))))))))))))))))
def gh(C:Addr):DF->Option RES:=
  (al (bC 2 (ax (az C) (aH (ai (getV 0)) (aD 1 ba))))
  (al (dIf (asB (d2 eqD (d2 aJ (ag 2) (cI 9)) (cI 0))) (bb (cI 0)) dNx)
  (al (dIf (asB (d2 eqD (d2 aJ (ag 2) (cI 9)) (cI 1))) (bb (d2 kZ (d2 pd (cI 10) (cI 30)) (cI 1))) dNx)
  (bb (d2 aJ (d2 fC (d2 fC (d2 fC (d2 fC (ag 2) (ag 2)) (ag 2)) (ag 2)) (cI 7919)) (d2 ixD (asO (asL (ao (cI 10) (ao (d2 pd (cI 10) (cI 6)) (ao (d2 pd (cI 10) (cI 30)) bA))))) (d2 aJ (ag 2) (cI 3))))))))
def cR(C:Addr):MW:=kj 3 2 (gh C)
def kT(T:Txt K mg t):FnOk P t.w K mg base CX0 2 (fA 37) (dA 37) (bK (top 37)) (spW K (cR t.C)):=
 (T.F 37).okW ["_law_script","_law_at","_law_number"] λh=>(ac (jd 2 (pxc (bF T) (T.G 36) h (aU (ay (aC 0)) (aN 1 (pv 1) bz)))) (ac (cw (eF h.h64 (PDE.n (bD (au 2) (PDE.r ae))) (PDE.n ae)) (ap (aQ ae)) a7) (ac (cw (eF h.h64 (PDE.n (bD (au 2) (PDE.r ae))) (PDE.n ae)) (ap (aQ (lA (PDE.r (rl (PDE.r ae) (PDE.r ae))) (PDE.r ae)))) a7) (ap (aQ (bD (PDE.r (ig (PDE.r (ig (PDE.r (ig (PDE.r (ig (au 2) (au 2))) (au 2))) (au 2))) (PDE.r ae))) (PDE.r (bB (PDE.r (PDO.v (bZ (ak ae (ak (rl (PDE.r ae) (PDE.r ae)) (ak (rl (PDE.r ae) (PDE.r ae)) aO)))))) (PDE.r (bD (au 2) (PDE.r ae)))))))))))
def gi(C:Addr):DF->Option RES:=
  (al (aY 6 (λ_=>some (.str "")))
  (al (bC 7 (ax (az C) (aH (ai (getV 0)) (aD 1 ba))))
  (al (j7 (ol (d2 yt (cI 1) (d2 y_ (d2 af (cI 1) (d2 fC (d2 aR (d2 aJ (d2 aR (ag 7) (cI 4)) (cI 3)) (cI 2)) (d2 aJ (d2 aR (ag 7) (cI 12)) (cI 3)))) (ar 5)))) (setV 8) (al (bC 9 (x2 ixD (ai (dR none 2 "some")) (x2 aJ (ax (az C) (aH (ai (getV 0)) (aD 1 ba))) (ai (cI 3)))))
  (al (bC 10 (x2 aJ (ax (az C) (aH (ai (getV 0)) (aD 1 ba))) (ai (cI 3))))
  (al (aY 6 (d2 af (d2 af (ag 6) (d2 ixD (λ_=>some (.str "~><")) (ag 10))) (d1 eQ (ar 9))))
  (al (aY 11 (d2 ixD (asO (asL (ao (asT (ao (getV 3) (ao (getV 4) bA))) (ao (asT (ao (getV 3) (ao (getV 4) bA))) (ao (asT (ao (getV 4) (ao (getV 3) bA))) bA))))) (ag 10)))
  (cm none 2 "ties" (asT (ao (d2 ixD (ag 11) (cI 0)) (ao (d2 ixD (ag 11) (cI 1)) (ao (getV 9) (ao (d2 gtI (ag 10) (cI 0)) bA)))))))))))
  (bb (getV 6)))))
def br(C:Addr):MW:=kj 12 6 (gi C)
def kU(T:Txt K mg t):FnOk P t.w K mg base CX0 2 (fA 39) (dA 39) (bK (top 39)) (spW K (br t.C)):=
 (T.F 39).okW ["_law_script","_law_at","_law_state","_law_one","_law_other","_law_room","_law_text_here","_law_n","_law_k","_law_kind","_law_lead","_law_ends"] λh=>(ac (cP 6 am) (ac (jd 7 (pxc (bF T) (T.G 36) h (aU (ay (aC 0)) (aN 1 (pv 1) bz)))) (ac (pfI (f_ rfl T.b_range (PDE.r (CS rfl rfl T.b_max (PDE.n ae) (PDE.n (D4 rfl rfl T.b_min (PDE.n (ah (PDE.r ae) (PDE.r (ig (PDE.r (cf (PDE.r (bD (PDE.r (cf (au 7) (PDE.r ae))) (PDE.r ae))) (PDE.r ae))) (PDE.r (bD (PDE.r (cf (au 7) (PDE.r ae))) (PDE.r ae))))))) (bu 5)))))) (mE 8) (ac (jd 9 (EV (ay (pfD 2 h.h64 (pv 2))) (j5 (pxc (bF T) (T.G 36) h (aU (ay (aC 0)) (aN 1 (pv 1) bz))) (ay ae)))) (ac (jd 10 (j5 (pxc (bF T) (T.G 36) h (aU (ay (aC 0)) (aN 1 (pv 1) bz))) (ay ae))) (ac (cP 6 (ah (PDE.r (ah (au 6) (PDE.r (bB (PDE.r am) (au 10))))) (PDE.r (ib rfl T.b_str (bu 9))))) (ac (cP 11 (bB (PDE.r (PDO.v (bZ (ak (cX (ak (aC 3) (ak (aC 4) aO))) (ak (cX (ak (aC 3) (ak (aC 4) aO))) (ak (cX (ak (aC 4) (ak (aC 3) aO))) aO)))))) (au 10))) (ap (kb 2 h.h64 (pv 2) (cX (ak (bB (au 11) (PDE.r ae)) (ak (bB (au 11) (PDE.r ae)) (ak (aC 9) (ak (HX (au 10) (PDE.r ae)) aO)))))))))))) (ap (aQ (aC 6))))))
def gr(C:Addr):DF->Option RES:=
  (al (aY 3 (d1 aK (aP none 2 "kinds")))
  (al (bC 4 (ax (az C) (aH (ai (getV 0)) (aD 1 ba))))
  (al (aY 5 (d2 ixD (dR none 2 "pool") (d2 aJ (ag 4) (cI 3))))
  (al (cm none 2 "kinds" (getV 5))
  (al (dF 6 (asL bA))
  (al (j7 (me (asO (asL (oE (aP none 2 "open"))))) (j9 [7,8]) (n4 (bOr (nK (asB (d2 eqD (ar 3) (cI 6)))) (uh eqD (x2 aJ (ax (az C) (aH (ai (getV 0)) (aD 1 ba))) (ai (cI 3))) (ai (cI 0)))) (al (pP 2 "open" (asT (ao (getV 7) (ao (getV 8) bA))))
  (al (aY 9 (d2 kZ (d2 kZ (cI 12) (d1 aK (aP none 2 "ties"))) (d1 aK (aP none 2 "open"))))
  (ug 6 (x2 af (x2 af (ai (d2 af (d2 af (λ_=>some (.str "{")) (d1 eQ (ar 7))) (λ_=>some (.str ":")))) (ax (br C) (aH (ai (getV 0)) (aD 1 (aD 2 (aH (ai (getV 8)) (aH (ai (getV 3)) (aH (ai (getV 9)) ba)))))))) (ai (λ_=>some (.str "}"))))))) dNx))
  (al (j7 (ol (d2 kZ (d2 aJ (d2 aR (ag 4) (cI 3)) (cI 6)) (cI 2))) (setV 10) (dIf (fD (asB (d2 ltd (ar 3) (cI 6))) (asB (d2 ltd (d2 af (d1 aK (aP none 2 "ties")) (d1 aK (aP none 2 "open"))) (cI 12)))) (al (bC 7 (x2 af (ai (cI 1)) (x2 aJ (ax (az C) (aH (ai (getV 0)) (aD 1 ba))) (ai (cI 99)))))
  (al (cD (asB (d2 inD (ar 7) (aP none 2 "used"))) (aY 7 (d2 af (d2 aJ (ag 7) (cI 99)) (cI 1))) 100)
  (al (cm none 2 "used" (getV 7))
  (al (cm none 2 "open" (asT (ao (getV 7) (ao (getV 3) bA))))
  (dU 6 (d2 af (d2 af (λ_=>some (.str "{")) (d1 eQ (ar 7))) (λ_=>some (.str "}")))))))) dNx))
  (al (dIf (asB (d2 eqD (d2 aJ (d2 aR (ag 4) (cI 18)) (cI 2)) (cI 1))) (Ek 6) dNx)
  (bb (d2 af (ag 5) (d2 n9 (λ_=>some (.str "")) (ar 6))))))))))))
def a_(C:Addr):MW:=kj 11 3 (gr C)
def fE(T:Txt K mg t):FnOk P t.w K mg base CX0 3 (fA 40) (dA 40) (bK (top 40)) (spW K (a_ t.C)):=
 (T.F 40).okW ["_law_script","_law_at","_law_state","_law_here","_law_n","_law_kind","_law_signs","_law_number","_law_place_here","_law_room","_law_k"] λh=>(ac (cP 3 (bf rfl T.b_len (PDR.n (prD 2 h.h64 (pv 2))))) (ac (jd 4 (pxc (bF T) (T.G 36) h (aU (ay (aC 0)) (aN 1 (pv 1) bz)))) (ac (cP 5 (bB (PDE.r (pfD 2 h.h64 (pv 2))) (PDE.r (bD (au 4) (PDE.r ae))))) (ac (kb 2 h.h64 (pv 2) (aC 5)) (ac (t4 6 (bZ aO)) (ac (pfI (qI (PDO.v (sZ rfl T.b_list (prD 2 h.h64 (pv 2))))) (kQ (is:=[7,8]) rfl (cA (pgI 7) (cA (pgI 8) j_))) (ap (Bx (PWX.t (FA (FC (eF h.h64 (bu 3) (PDE.n ae))) (DN (Gq h.h64 (j5 (pxc (bF T) (T.G 36) h (aU (ay (aC 0)) (aN 1 (pv 1) bz))) (ay ae)) (ay ae))))) (ac (C6 2 h.h64 (pv 2) (cX (ak (aC 7) (ak (aC 8) aO)))) (ac (cP 9 (lA (PDE.r (lA (PDE.r ae) (PDE.r (bf rfl T.b_len (PDR.n (prD 2 h.h64 (pv 2))))))) (PDE.r (bf rfl T.b_len (PDR.n (prD 2 h.h64 (pv 2))))))) (ap (D_ 6 (pv 6) (gz (gz (ay (ah (PDE.r (ah (PDE.r am) (PDE.r (ib rfl T.b_str (bu 7))))) (PDE.r am))) (pxc (kU T) (T.G 39) h (aU (ay (aC 0)) (aN 1 (pv 1) (aN 2 (pv 2) (aU (ay (aC 8)) (aU (ay (aC 3)) (aU (ay (aC 9)) bz)))))))) (ay am)))))) a7))) (ac (pfI (f_ rfl T.b_range (PDE.r (lA (PDE.r (bD (PDE.r (cf (au 4) (PDE.r ae))) (PDE.r ae))) (PDE.r ae)))) (mE 10) (ap (cw (PDW.t (jt (iN h.h64 (bu 3) (PDE.n ae)) (gT (iN h.h64 (PDE.n (ah (PDE.r (bf rfl T.b_len (PDR.n (prD 2 h.h64 (pv 2))))) (PDE.r (bf rfl T.b_len (PDR.n (prD 2 h.h64 (pv 2))))))) (PDE.n ae))))) (ac (jd 7 (gz (ay ae) (j5 (pxc (bF T) (T.G 36) h (aU (ay (aC 0)) (aN 1 (pv 1) bz))) (ay ae)))) (ac (kC 100 XT (E_ h.h64 (bu 7) (PDR.n (prD 2 h.h64 (pv 2)))) (ap (cP 7 (ah (PDE.r (bD (au 7) (PDE.r ae))) (PDE.r ae))))) (ac (kb 2 h.h64 (pv 2) (aC 7)) (ac (kb 2 h.h64 (pv 2) (cX (ak (aC 7) (ak (aC 3) aO)))) (ap (b7 6 (pv 6) (ah (PDE.r (ah (PDE.r am) (PDE.r (ib rfl T.b_str (bu 7))))) (PDE.r am)))))))) a7))) (ac (cw (eF h.h64 (PDE.n (bD (PDE.r (cf (au 4) (PDE.r ae))) (PDE.r ae))) (PDE.n ae)) (ap (Gg 6 (pv 6))) a7) (ap (aQ (ah (au 5) (PDE.r (wc (PDE.n am) (bu 6))))))))))))))
def j0(C:Addr):DF->Option RES:=
  (al (bC 3 (x2 aJ (ax (az C) (aH (ai (getV 0)) (aD 1 ba))) (ai (cI 7))))
  (al (aY 4 (d2 kZ (d2 kZ (cI 12) (d1 aK (aP none 2 "ties"))) (d1 aK (aP none 2 "open"))))
  (al (dIf (fD (asB (d2 eqD (ar 3) (cI 0))) (asB (d2 gtI (d1 aK (aP none 2 "boughs")) (cI 0)))) (al (jE 2 "here" (nR none 2 "boughs"))
  (bb (λ_=>some (.str ")")))) dNx)
  (al (dIf (asB (d2 gtI (d1 aK (aP none 2 "kinds")) (cI 6))) (bb (λ_=>some (.str ""))) dNx)
  (al (dIf (fD (asB (d2 eqD (ar 3) (cI 1))) (asB (d2 eqD (d1 aK (aP none 2 "boughs")) (cI 0)))) (al (jE 2 "here" (ai (d1 aK (aP none 2 "kinds"))))
  (iW (x2 af (ai (λ_=>some (.str "."))) (ax (a_ C) (aH (ai (getV 0)) (aD 1 (aD 2 ba))))))) dNx)
  (al (dIf (orT (asB (d2 eqD (ar 3) (cI 0))) (orT (asB (d2 eqD (ar 3) (cI 1))) (asB (d2 ltd (ar 4) (cI 1))))) (bb (λ_=>some (.str ""))) dNx)
  (al (aY 5 (dR none 2 "here"))
  (al (jE 2 "here" (ai (d1 aK (aP none 2 "kinds"))))
  (al (bC 6 (ax (br C) (aH (ai (getV 0)) (aD 1 (aD 2 (aH (ai (getV 5)) (aH (ai (dR none 2 "here")) (aH (ai (getV 4)) ba))))))))
  (al (bC 6 (x2 af (ai (getV 6)) (ax (a_ C) (aH (ai (getV 0)) (aD 1 (aD 2 ba))))))
  (al (dIf (asB (d2 gtI (ag 3) (cI 4))) (al (cm none 2 "boughs" (getV 5))
  (aY 6 (d2 af (λ_=>some (.str "(")) (ag 6)))) dNx)
  (bb (getV 6)))))))))))))
def gw(C:Addr):MW:=kj 7 3 (j0 C)
def ub(T:Txt K mg t):FnOk P t.w K mg base CX0 4 (fA 41) (dA 41) (bK (top 41)) (spW K (gw t.C)):=
 (T.F 41).okW ["_law_script","_law_at","_law_state","_law_way","_law_room","_law_one","_law_text_here"] λh=>(ac (jd 3 (j5 (pxc (bF T) (T.G 36) h (aU (ay (aC 0)) (aN 1 (pv 1) bz))) (ay ae))) (ac (cP 4 (lA (PDE.r (lA (PDE.r ae) (PDE.r (bf rfl T.b_len (PDR.n (prD 2 h.h64 (pv 2))))))) (PDE.r (bf rfl T.b_len (PDR.n (prD 2 h.h64 (pv 2))))))) (ac (cw (PDW.t (jt (eF h.h64 (bu 3) (PDE.n ae)) (gT (l5 (PDE.r (bf rfl T.b_len (PDR.n (prD 2 h.h64 (pv 2))))) (PDE.r ae))))) (ac (rF 2 h.h64 (pv 2) (Ec 2 h.h64 (pv 2))) (ap (aQ am))) a7) (ac (cw (l5 (PDE.r (bf rfl T.b_len (PDR.n (prD 2 h.h64 (pv 2))))) (PDE.r ae)) (ap (aQ am)) a7) (ac (cw (PDW.t (jt (eF h.h64 (bu 3) (PDE.n ae)) (gT (eF h.h64 (PDE.n (bf rfl T.b_len (PDR.n (prD 2 h.h64 (pv 2))))) (PDE.n ae))))) (ac (rF 2 h.h64 (pv 2) (ay (bf rfl T.b_len (PDR.n (prD 2 h.h64 (pv 2)))))) (ap (sG (gz (ay am) (pxc (fE T) (T.G 40) h (aU (ay (aC 0)) (aN 1 (pv 1) (aN 2 (pv 2) bz)))))))) a7) (ac (cw (PDW.t (gE (eF h.h64 (bu 3) (PDE.n ae)) (gE (eF h.h64 (bu 3) (PDE.n ae)) (g_ (iN h.h64 (bu 4) (PDE.n ae)))))) (ap (aQ am)) a7) (ac (cP 5 (pfD 2 h.h64 (pv 2))) (ac (rF 2 h.h64 (pv 2) (ay (bf rfl T.b_len (PDR.n (prD 2 h.h64 (pv 2)))))) (ac (jd 6 (pxc (kU T) (T.G 39) h (aU (ay (aC 0)) (aN 1 (pv 1) (aN 2 (pv 2) (aU (ay (aC 5)) (aU (ay (pfD 2 h.h64 (pv 2))) (aU (ay (aC 4)) bz)))))))) (ac (jd 6 (gz (ay (aC 6)) (pxc (fE T) (T.G 40) h (aU (ay (aC 0)) (aN 1 (pv 1) (aN 2 (pv 2) bz)))))) (ac (cw (l5 (au 3) (PDE.r ae)) (ac (kb 2 h.h64 (pv 2) (aC 5)) (ap (cP 6 (ah (PDE.r am) (au 6))))) a7) (ap (aQ (aC 6))))))))))))))
def j4(C:Addr):DF->Option RES:=
  (al (dF 1 (oO (di C) (aB 0 nA)))
  (al (dF 2 (λ_=>some (.obj none (rf [("kinds",none),("ties",none),("open",none),("boughs",none),("used",none),("here",some 0)]))))
  (al (tf 2 "pool" (ax (iX C) (aH (ai (getV 0)) (aD 1 ba))))
  (al (tf 2 "some" (Cu (db (ax (cR C) (aH (ai (getV 0)) (aD 1 ba))) (db (ax (cR C) (aH (ai (getV 0)) (aD 1 ba))) (db (ai (cI 5)) rc)))))
  (al (bC 3 (ax (a_ C) (aH (ai (getV 0)) (aD 1 (aD 2 ba)))))
  (al (j7 (me (d2 af (ag 0) (asO (asL (ao (cI 1) (ao (cI 1) (ao (cI 1) bA))))))) (setV 4) (bC 3 (x2 af (ai (getV 3)) (ax (gw C) (aH (ai (getV 0)) (aD 1 (aD 2 ba)))))))
  (al (aY 3 (d2 af (ag 3) (d2 o6 (λ_=>some (.str ")")) (d1 aK (aP none 2 "boughs")))))
  (al (cD (asB (d2 gtI (d1 aK (aP none 2 "open")) (cI 0))) (bC 3 (x2 af (ai (d2 af (ag 3) (λ_=>some (.str ".")))) (ax (a_ C) (aH (ai (getV 0)) (aD 1 (aD 2 ba)))))) 100)
  (u3 2 (bb (asT (ao (getV 3) (ao (getV 2) bA)))))))))))))
def iB(C:Addr):List DV->Option DV:=mOf 5 1 (j4 C)
def uQ(T:Txt K mg t):Ok P t.w K mg base t 42 5 iB:=
 (T.F 42).okI ["_law_script","_law_at","_law_state","_law_text_here","_law_cell"] λh=>(yT (t4 1 (poI (kP T) (T.G 35) h (uH 0 bh))) (xV (HD 2 (by with_reducible exact zi [("kinds",none),("ties",none),("open",none),("boughs",none),("used",none),("here",some 0)] (gZ dI (jW aZ) (gZ dI (jW aZ) (gZ dI (jW aZ) (gZ dI (jW aZ) (gZ dI (jW aZ) (gZ dI Bb Dn)))))))) (ac (wz 2 h.h64 (pv 2) (pxc (tV T) (T.G 38) h (aU (ay (aC 0)) (aN 1 (pv 1) bz)))) (ac (wz 2 h.h64 (pv 2) (Hl (cG (pxc (kT T) (T.G 37) h (aU (ay (aC 0)) (aN 1 (pv 1) bz))) (cG (pxc (kT T) (T.G 37) h (aU (ay (aC 0)) (aN 1 (pv 1) bz))) (cG (ay ae) kL))))) (ac (jd 3 (pxc (fE T) (T.G 40) h (aU (ay (aC 0)) (aN 1 (pv 1) (aN 2 (pv 2) bz))))) (ac (pfI (qI (ah (au 0) (PDE.r (PDO.v (bZ (ak ae (ak ae (ak ae aO)))))))) (mE 4) (ap (jd 3 (gz (ay (aC 3)) (pxc (ub T) (T.G 41) h (aU (ay (aC 0)) (aN 1 (pv 1) (aN 2 (pv 2) bz)))))))) (ac (cP 3 (ah (au 3) (PDE.r (m7 (PDE.r am) (PDE.r (bf rfl T.b_len (PDR.n (prD 2 h.h64 (pv 2))))))))) (ac (kC 100 XT (l5 (PDE.r (bf rfl T.b_len (PDR.n (prD 2 h.h64 (pv 2))))) (PDE.r ae)) (ap (jd 3 (gz (ay (ah (au 3) (PDE.r am))) (pxc (fE T) (T.G 40) h (aU (ay (aC 0)) (aN 1 (pv 1) (aN 2 (pv 2) bz)))))))) (ap (xl 2 (aQ (cX (ak (aC 3) (ak (aC 2) aO))))))))))))))
def m8(C:Addr):DF->Option RES:=
  (al (Ao aa 0 "text" (getV 1))
  (al (Ao aa 0 "at" (cI 0))
  (al (lE aa 0 "kinds" (asL bA))
  (al (lE aa 0 "ties" (asL bA))
  (al (lE aa 0 "hung" (asL bA))
  (al (lE aa 0 "begun" (λ_=>some (.dK [])))
  (lE aa 0 "closed" (λ_=>some (.dK [])))))))))
def bV(C:Addr):OD->List DV->Option (OD×D):=qQ 2 2 (m8 C)
def mC(T:Txt K mg t):FnOk P t.w K mg base CX0 1 (fA 32000) (dA 32000) (bK (top 32000)) (spO K (bV t.C)):=
 (T.F 32000).okO ["self","text"] λh=>(ac (wT 0 T.cl_Reader T.naR_text (pv 0) (aC 1)) (ac (wT 0 T.cl_Reader T.naR_at (pv 0) ae) (ac (iT 0 T.cl_Reader T.naR_kinds (pv 0) (bZ aO)) (ac (iT 0 T.cl_Reader T.naR_ties (pv 0) (bZ aO)) (ac (iT 0 T.cl_Reader T.naR_hung (pv 0) (bZ aO)) (ac (iT 0 T.cl_Reader T.naR_begun (pv 0) pX) (ap (iT 0 T.cl_Reader T.naR_closed (pv 0) pX))))))))
def pi(C:Addr):DF->Option RES:=
  (bb (slS (dR (some aa) 0 "text") (bI (dR (some aa) 0 "at")) (bI (d2 af (dR (some aa) 0 "at") (cI 1)))))
def bj(C:Addr):List DV->Option DV:=mOf 1 1 (pi C)
def cb(T:Txt K mg t):Ok P t.w K mg base t 32001 1 bj:=
 (T.F 32001).okI ["self"] λh=>(ap (aQ (eX (PDE.r (pfB 0 T.cl_Reader T.naR_text (pv 0))) (kA (pfB 0 T.cl_Reader T.naR_at (pv 0))) (kA (ah (PDE.r (pfB 0 T.cl_Reader T.naR_at (pv 0))) (PDE.r ae))))))
def nT(C:Addr):DF->Option RES:=
  (al (aY 3 (dR (some aa) 0 "at"))
  (al (cD (asB (chD leA leA (ar 1) (fZ aa "sign" (bj C) (gK (jb 0) g0)) (ar 2))) (jL (some aa) 0 "at" (cI 1)) 500000)
  (bb (slS (dR (some aa) 0 "text") (bI (getV 3)) (bI (dR (some aa) 0 "at"))))))
def bG(C:Addr):OD->List DV->Option (OD×D):=qQ 4 3 (nT C)
def iF(T:Txt K mg t):FnOk P t.w K mg base CX0 2 (fA 32003) (dA 32003) (bK (top 32003)) (spO K (bG t.C)):=
 (T.F 32003).okO ["self","low","high","start"] λh=>(ac (cP 3 (pfB 0 T.cl_Reader T.naR_at (pv 0))) (ac (kC 500000 XT (qu (bu 1) (PDE.n (gc (vv 0) T.cl_Reader T.mt_Reader_sign (cb T) (h.mono (by decide)) (T.F 32001).bd)) (bu 2)) (ap (mR 0 T.cl_Reader T.naR_at (pv 0) ae))) (ap (aQ (eX (PDE.r (pfB 0 T.cl_Reader T.naR_text (pv 0))) (kA (aC 3)) (kA (pfB 0 T.cl_Reader T.naR_at (pv 0))))))))
def iE(C:Addr):DF->Option RES:=
  (al (aY 1 (d1 vd (asO (asL (fB 1 [] (pA (getV 0)) (setV 0) iM (chD leA leA (λ_=>some (.str "a")) (ar 0) (λ_=>some (.str "z"))))))))
  (bb (km (getV 1) (chD leA leA (cI 1) (d1 aK (ar 0)) (cI 3)))))
def bt(C:Addr):List DV->Option DV:=mOf 2 1 (iE C)
def gF(T:Txt K mg t):Ok P t.w K mg base t 18 1 bt:=
 (T.F 18).okI ["kind","letters_fit"] λh=>(ac (cP 1 (vE rfl rfl T.b_all (PDE.n (PDO.v (xY ["letter"] 1 [] [0] (Ey (aC 0)) (mE 0) pC (si (PDE.n am) (bu 0) (PDE.n am))))))) (ap (aQ (gC (aC 1) (ji (si (PDE.n ae) (PDE.n (bf rfl T.b_len (bu 0))) (PDE.n (kg rfl T.c_MOST_LETTERS))))))))
def o3(C:Addr):DF->Option XR:=
  (bq (xIf (asB (d2 neD (fZ aa "sign" (bj C) (gK (jb 0) g0)) (ar 1))) (jx (bR 1) 0) xNx)
  (xOf (jL (some aa) 0 "at" (cI 1))))
def b9(C:Addr):OD->List DV->Option (Except Nat (OD×D)):=ip 2 2 (o3 C)
def fY(T:Txt K mg t):FnOk P t.w K mg base (CXc P t.w t.cl) 2 (fA 32002) (dA 32002) (bK (top 32002)) (spU K t.cl (b9 t.C)):=
 (T.F 32002).okU ["self","sign"] λh=>(aG (fR (Ae h.h64 (PDE.n (gc (vv 0) T.cl_Reader T.mt_Reader_sign (cb T) (h.mono (by decide)) (T.F 32001).bd)) (bu 1)) (a8 (dW (k:=0) (rQ (pv 1) (f8 iU)) xg (eD 0) T.mx_BadText (T.xi 0))) cZ) (a8 (dG (mR 0 T.cl_Reader T.naR_at (pv 0) ae))))
def uC(C:Addr):DF->Option RES:=
  (bb (km (chD leA leA (cI 1) (d1 aK (ar 0)) (cI 30)) (orV (d2 eqD (ar 0) (λ_=>some (.str "0"))) (d2 neD (d2 ixD (ag 0) (cI 0)) (λ_=>some (.str "0"))))))
def fq(C:Addr):List DV->Option DV:=mOf 1 1 (uC C)
def qY(T:Txt K mg t):Ok P t.w K mg base t 30 1 fq:=
 (T.F 30).okI ["figures"] λh=>(ap (aQ (gC (si (PDE.n ae) (PDE.n (bf rfl T.b_len (bu 0))) (PDE.n (kg rfl T.c_MOST_FIGURES))) (ji (Ie (wo h.h64 (bu 0) (PDE.n am)) (ji (E4 h.h64 (PDE.n (bB (au 0) (PDE.r ae))) (PDE.n am))))))))
def mF(C:Addr):DF->Option XR:=
  (bq (xOf (bC 1 (ge aa "taken" 0 (bG C) (db (ai (λ_=>some (.str "0"))) (db (ai (λ_=>some (.str "9"))) rc)))))
  (bq (xIf (c_ (asB (bv (fq C) (aB 1 nA)))) (jx (bR 1) 0) xNx)
  (xOf (bb (d1 zk (ar 1))))))
def b6(C:Addr):OD->List DV->Option (Except Nat (OD×D)):=ip 2 1 (mF C)
def gP(T:Txt K mg t):FnOk P t.w K mg base (CXc P t.w t.cl) 3 (fA 32004) (dA 32004) (bK (top 32004)) (spU K t.cl (b6 t.C)):=
 (T.F 32004).okU ["self","figures"] λh=>(aG (dG (jd 1 (Cy 0 T.cl_Reader T.mt_Reader_taken (iF T) h (T.F 32003).bd (pv 0) (cG (ay am) (cG (ay am) kL))))) (aG (fR (ce (cg (pcI (qY T) (T.G 30) h (uH 1 bh)))) (a8 (dW (k:=0) (rQ (pv 1) (f8 iU)) xg (eD 0) T.mx_BadText (T.xi 0))) cZ) (a8 (dG (aQ (CL rfl T.b_int (bu 1)))))))
def Au(C:Addr):DF->Option RES:=
  (al (dIf (asB (d2 eqD (ar 3) (cI 2))) (bb (asT (ao (getV 1) (ao (getV 0) (ao (getV 2) (ao (λ_=>some (.bl true)) bA)))))) dNx)
  (bb (asT (ao (getV 0) (ao (getV 1) (ao (getV 2) (ao (d2 eqD (ar 3) (cI 1)) bA)))))))
def k6(C:Addr):List DV->Option DV:=mOf 4 4 (Au C)
def yH(T:Txt K mg t):Ok P t.w K mg base t 31 1 k6:=
 (T.F 31).okI ["ahead","behind","kind","lead"] λh=>(ac (cw (eF h.h64 (bu 3) (PDE.n ae)) (ap (aQ (cX (ak (aC 1) (ak (aC 0) (ak (aC 2) (ak jK aO))))))) a7) (ap (aQ (cX (ak (aC 0) (ak (aC 1) (ak (aC 2) (ak (wo h.h64 (bu 3) (PDE.n ae)) aO))))))))
def lH(C:Addr):DF->Option RES:=
  (sX (some aa) 0 "ties" (fB 2 [2,3] (i9 1) (j9 [0,1]) iM (bv (k6 C) (aV (getV 2) (aV (getV 3) (aV (getV 0) (aB 1 nA)))))))
def c7(C:Addr):OD->List DV->Option (OD×D):=qQ 4 4 (lH C)
def gq(T:Txt K mg t):FnOk P t.w K mg base CX0 2 (fA 32006) (dA 32006) (bK (top 32006)) (spO K (c7 t.C)):=
 (T.F 32006).okO ["self","marks","ahead","behind"] λh=>(ap (CO 0 T.cl_Reader T.naR_ties (pv 0) (xY ["kind","lead","ahead","behind"] 2 [2,3] [0,1] (vC 1) (kQ (is:=[0,1]) rfl (cA (pgI 0) (cA (pgI 1) j_))) pC (pcI (yH T) (T.G 31) h (cq (aC 2) (cq (aC 3) (cq (aC 0) (uH 1 bh))))))))
def jz(C:Addr):DF->Option XR:=
  (bq (xIf (orT (asB (d2 va (getV 1) (aP (some aa) 0 "begun"))) (asB (d2 t7 (getV 1) (aP (some aa) 0 "closed")))) (jx (bJ 1) 0) xNx)
  (bq (xIf (asB (d2 eqD (d2 aW (aP (some aa) 0 "begun") (getV 1)) (ar 2))) (jx (bJ 1) 0) xNx)
  (bq (xOf (l_ (some aa) 0 "closed" (getV 1) (λ_=>some (.bl true))))
  (xOf (nL (ge aa "join_by" 0 (c7 C) (db (ai (getV 3)) (db (ai (d2 aW (aP (some aa) 0 "begun") (getV 1))) (db (ai (getV 2)) rc)))))))))
def dm(C:Addr):OD->List DV->Option (Except Nat (OD×D)):=ip 4 4 (jz C)
def iP(T:Txt K mg t):FnOk P t.w K mg base (CXc P t.w t.cl) 3 (fA 32008) (dA 32008) (bK (top 32008)) (spU K t.cl (dm t.C)):=
 (T.F 32008).okU ["self","number","place","marks"] λh=>(aG (fR (PDW.t (gE (AO h.h64 (aC 1) (prB 0 T.cl_Reader T.naR_begun (pv 0))) (g_ (xp h.h64 (aC 1) (prB 0 T.cl_Reader T.naR_closed (pv 0)))))) (a8 (dW (k:=0) (f8 (rK (pv 1) (f8 iU))) xC (eD 0) T.mx_BadText (T.xi 0))) cZ) (aG (fR (eF h.h64 (PDE.n (fw h.h64 (prB 0 T.cl_Reader T.naR_begun (pv 0)) (aC 1))) (bu 2)) (a8 (dW (k:=0) (f8 (rK (pv 1) (f8 iU))) xC (eD 0) T.mx_BadText (T.xi 0))) cZ) (aG (dG (wU 0 T.cl_Reader T.naR_closed h.h64 (pv 0) (aC 1) jK)) (a8 (dG (ue (Cy 0 T.cl_Reader T.mt_Reader_join_by (gq T) h (T.F 32006).bd (pv 0) (cG (ay (aC 3)) (cG (ay (fw h.h64 (prB 0 T.cl_Reader T.naR_begun (pv 0)) (aC 1))) (cG (ay (aC 2)) kL))))))))))
def oM(C:Addr):DF->Option XR:=
  (bq (xOf (dF 1 (asL bA)))
  (bq (cK (asB (d1 (inG bQ) (fZ aa "sign" (bj C) (gK (jb 0) g0)))) (bq (xOf (aY 2 (d1 (Ab bQ) (fZ aa "sign" (bj C) (gK (jb 0) g0)))))
  (bq (xOf (jL (some aa) 0 "at" (cI 1)))
  (wD 1 (ya (bY (bN aa "number" 0 (b6 C) cS) (bY (uOf (ai (getV 2))) cS)))))) 500000)
  (bq (zJ 1 (xIf (c_ (jT (getV 1))) (xEx 0) xNx))
  (xOf (l8 1)))))
def bH(C:Addr):OD->List DV->Option (Except Nat (OD×D)):=ip 3 1 (oM C)
def iK(T:Txt K mg t):FnOk P t.w K mg base (CXc P t.w t.cl) 4 (fA 32005) (dA 32005) (bK (top 32005)) (spU K t.cl (bH t.C)):=
 (T.F 32005).okU ["self","found","lead"] λh=>(aG (dG (t4 1 (bZ aO))) (aG (oU 500000 Gs (AV rfl T.g_LEADS T.kd_LEADS (gc (vv 0) T.cl_Reader T.mt_Reader_sign (cb T) (h.mono (by decide)) (T.F 32001).bd)) (aG (dG (cP 2 (D1 rfl T.g_LEADS T.kd_LEADS (gc (vv 0) T.cl_Reader T.mt_Reader_sign (cb T) (h.mono (by decide)) (T.F 32001).bd)))) (aG (dG (mR 0 T.cl_Reader T.naR_at (pv 0) ae)) (a8 (Em 1 (pv 1) (Fu (cy (tP 0 T.cl_Reader T.mt_Reader_number (gP T) h (T.F 32004).bd (pv 0)) (cy (iH (ay (aC 2))) eZ)))))))) (aG (FS 1 (fR (ce (mG (PDE.r (aC 1)))) (a8 (oq (k:=0) rfl (eD 0) rfl T.mx_BadText (T.xi 0))) cZ)) (a8 (dG (qX 1 (pv 1)))))))
def jB(C:Addr):DF->Option XR:=
  (bq (xIf (asB (d2 t7 (getV 1) (aP (some aa) 0 "begun"))) (jx (bJ 1) 0) xNx)
  (xOf (l_ (some aa) 0 "begun" (getV 1) (getV 2))))
def df(C:Addr):OD->List DV->Option (Except Nat (OD×D)):=ip 3 3 (jB C)
def jh(T:Txt K mg t):FnOk P t.w K mg base (CXc P t.w t.cl) 1 (fA 32007) (dA 32007) (bK (top 32007)) (spU K t.cl (df t.C)):=
 (T.F 32007).okU ["self","number","place"] λh=>(aG (fR (xp h.h64 (aC 1) (prB 0 T.cl_Reader T.naR_begun (pv 0))) (a8 (dW (k:=0) (f8 (rK (pv 1) (f8 iU))) xC (eD 0) T.mx_BadText (T.xi 0))) cZ) (a8 (dG (wU 0 T.cl_Reader T.naR_begun h.h64 (pv 0) (aC 1) (aC 2)))))
def dQ(C:Addr):DF->Option XR:=
  (bq (xU gI (bN aa "skip" 0 (b9 C) (bY (uOf (ai (λ_=>some (.str "{")))) cS)))
  (bq (xU (uo 2) (bN aa "number" 0 (b6 C) cS))
  (bq (xIf (c_ (asB (chD leA leA (cI 1) (ar 2) (cI 99)))) (jx (bJ 2) 0) xNx)
  (bq (xIf (asB (d2 eqD (fZ aa "sign" (bj C) (gK (jb 0) g0)) (λ_=>some (.str ":")))) (bq (xU gI (bN aa "skip" 0 (b9 C) (bY (uOf (ai (λ_=>some (.str ":")))) cS)))
  (xU gI (bN aa "close_ring" 0 (dm C) (bY (uOf (ai (getV 2))) (bY (uOf (ai (getV 1))) (bY (bN aa "marks" 0 (bH C) cS) cS)))))) (xU gI (bN aa "begin_ring" 0 (df C) (bY (uOf (ai (getV 2))) (bY (uOf (ai (getV 1))) cS)))))
  (xU gI (bN aa "skip" 0 (b9 C) (bY (uOf (ai (λ_=>some (.str "}")))) cS)))))))
def cF(C:Addr):OD->List DV->Option (Except Nat (OD×D)):=ip 3 2 (dQ C)
def jy(T:Txt K mg t):FnOk P t.w K mg base (CXc P t.w t.cl) 5 (fA 32009) (dA 32009) (bK (top 32009)) (spU K t.cl (cF t.C)):=
 (T.F 32009).okU ["self","place","number"] λh=>(aG (fT (pum 0 T.cl_Reader T.mt_Reader_skip (fY T) h (T.F 32002).bd (pv 0) (cy (iH (ay am)) eZ))) (aG (kB 2 (tP 0 T.cl_Reader T.mt_Reader_number (gP T) h (T.F 32004).bd (pv 0))) (aG (fR (ce (qu (PDE.n ae) (bu 2) (PDE.n (kg rfl T.c_MOST_RING)))) (a8 (dW (k:=0) (rK (pv 2) (f8 iU)) xC (eD 0) T.mx_BadText (T.xi 0))) cZ) (aG (fR (eF h.h64 (PDE.n (gc (vv 0) T.cl_Reader T.mt_Reader_sign (cb T) (h.mono (by decide)) (T.F 32001).bd)) (PDE.n am)) (aG (fT (pum 0 T.cl_Reader T.mt_Reader_skip (fY T) h (T.F 32002).bd (pv 0) (cy (iH (ay am)) eZ))) (a8 (fT (pum 0 T.cl_Reader T.mt_Reader_close_ring (iP T) h (T.F 32008).bd (pv 0) (cy (iH (ay (aC 2))) (cy (iH (ay (aC 1))) (cy (tP 0 T.cl_Reader T.mt_Reader_marks (iK T) h (T.F 32005).bd (pv 0)) eZ))))))) (a8 (fT (pum 0 T.cl_Reader T.mt_Reader_begin_ring (jh T) h (T.F 32007).bd (pv 0) (cy (iH (ay (aC 2))) (cy (iH (ay (aC 1))) eZ)))))) (a8 (fT (pum 0 T.cl_Reader T.mt_Reader_skip (fY T) h (T.F 32002).bd (pv 0) (cy (iH (ay am)) eZ))))))))
def fM(C:Addr):DF->Option XR:=
  (bq (xOf (bC 1 (ge aa "taken" 0 (bG C) (db (ai (λ_=>some (.str "a"))) (db (ai (λ_=>some (.str "z"))) rc)))))
  (bq (xIf (c_ (asB (bv (bt C) (aV (getV 1) nA)))) (jx (bR 1) 0) xNx)
  (bq (xOf (aY 2 (d1 aK (aP (some aa) 0 "kinds"))))
  (bq (xOf (cm (some aa) 0 "kinds" (getV 1)))
  (bq (cK (asB (d2 eqD (fZ aa "sign" (bj C) (gK (jb 0) g0)) (λ_=>some (.str "{")))) (xU gI (bN aa "ring_sign" 0 (cF C) (bY (uOf (ai (getV 2))) cS))) 500000)
  (xOf (bb (getV 2))))))))
def cU(C:Addr):OD->List DV->Option (Except Nat (OD×D)):=ip 3 1 (fM C)
def fy(T:Txt K mg t):FnOk P t.w K mg base (CXc P t.w t.cl) 6 (fA 32010) (dA 32010) (bK (top 32010)) (spU K t.cl (cU t.C)):=
 (T.F 32010).okU ["self","kind","place"] λh=>(aG (dG (jd 1 (Cy 0 T.cl_Reader T.mt_Reader_taken (iF T) h (T.F 32003).bd (pv 0) (cG (ay am) (cG (ay am) kL))))) (aG (fR (ce (cg (pcI (gF T) (T.G 18) h (cq (aC 1) bh)))) (a8 (dW (k:=0) (rQ (pv 1) (f8 iU)) xg (eD 0) T.mx_BadText (T.xi 0))) cZ) (aG (dG (cP 2 (bf rfl T.b_len (PDR.n (prB 0 T.cl_Reader T.naR_kinds (pv 0)))))) (aG (dG (xk 0 T.cl_Reader T.naR_kinds (pv 0) (aC 1))) (aG (oU 500000 Gs (eF h.h64 (PDE.n (gc (vv 0) T.cl_Reader T.mt_Reader_sign (cb T) (h.mono (by decide)) (T.F 32001).bd)) (PDE.n am)) (a8 (fT (pum 0 T.cl_Reader T.mt_Reader_ring_sign (jy T) h (T.F 32009).bd (pv 0) (cy (iH (ay (aC 2))) eZ))))) (a8 (dG (aQ (aC 2)))))))))
def fz(C:Addr):DF->Option XR:=
  (bq (xU (uo 2) (bN aa "marks" 0 (bH C) cS))
  (bq (xU (uo 3) (bN aa "place" 0 (cU C) cS))
  (bq (xOf (nL (ge aa "join_by" 0 (c7 C) (db (ai (getV 2)) (db (ai (getV 1)) (db (ai (getV 3)) rc))))))
  (xOf (bb (getV 3))))))
def cL(C:Addr):OD->List DV->Option (Except Nat (OD×D)):=ip 4 2 (fz C)
def g8(T:Txt K mg t):FnOk P t.w K mg base (CXc P t.w t.cl) 7 (fA 32011) (dA 32011) (bK (top 32011)) (spU K t.cl (cL t.C)):=
 (T.F 32011).okU ["self","ahead","marks","behind"] λh=>(aG (kB 2 (tP 0 T.cl_Reader T.mt_Reader_marks (iK T) h (T.F 32005).bd (pv 0))) (aG (kB 3 (tP 0 T.cl_Reader T.mt_Reader_place (fy T) h (T.F 32010).bd (pv 0))) (aG (dG (ue (Cy 0 T.cl_Reader T.mt_Reader_join_by (gq T) h (T.F 32006).bd (pv 0) (cG (ay (aC 2)) (cG (ay (aC 1)) (cG (ay (aC 3)) kL)))))) (a8 (dG (aQ (aC 3)))))))
def fV(C:Addr):DF->Option XR:=
  (bq (xOf (aY 2 (fZ aa "sign" (bj C) (gK (jb 0) g0))))
  (bq (xIf (asB (d1 (inG bQ) (getV 2))) (xU xZ (bN aa "follow" 0 (cL C) (bY (uOf (ai (getV 1))) cS))) xNx)
  (bq (xOf (jL (some aa) 0 "at" (cI 1)))
  (bq (xIf (asB (d2 eqD (ar 2) (λ_=>some (.str "(")))) (bq (xOf (cm (some aa) 0 "hung" (getV 1)))
  (xU xZ (bN aa "follow" 0 (cL C) (bY (uOf (ai (getV 1))) cS)))) xNx)
  (bq (xIf (fD (asB (d2 eqD (ar 2) (λ_=>some (.str ")")))) (jT (aP (some aa) 0 "hung"))) (xOf (iW (nR (some aa) 0 "hung"))) xNx)
  (bq (xIf (fD (asB (d2 eqD (ar 2) (λ_=>some (.str ".")))) (c_ (jT (aP (some aa) 0 "hung")))) (xU xZ (bN aa "place" 0 (cU C) cS)) xNx)
  (jx (bR 2) 0)))))))
def dO(C:Addr):OD->List DV->Option (Except Nat (OD×D)):=ip 3 2 (fV C)
def mm(T:Txt K mg t):FnOk P t.w K mg base (CXc P t.w t.cl) 8 (fA 32012) (dA 32012) (bK (top 32012)) (spU K t.cl (dO t.C)):=
 (T.F 32012).okU ["self","here","sign"] λh=>(aG (dG (cP 2 (gc (vv 0) T.cl_Reader T.mt_Reader_sign (cb T) (h.mono (by decide)) (T.F 32001).bd))) (aG (fR (AV rfl T.g_LEADS T.kd_LEADS (aC 2)) (a8 (r9 (pum 0 T.cl_Reader T.mt_Reader_follow (g8 T) h (T.F 32011).bd (pv 0) (cy (iH (ay (aC 1))) eZ)))) cZ) (aG (dG (mR 0 T.cl_Reader T.naR_at (pv 0) ae)) (aG (fR (eF h.h64 (bu 2) (PDE.n am)) (aG (dG (xk 0 T.cl_Reader T.naR_hung (pv 0) (aC 1))) (a8 (r9 (pum 0 T.cl_Reader T.mt_Reader_follow (g8 T) h (T.F 32011).bd (pv 0) (cy (iH (ay (aC 1))) eZ))))) cZ) (aG (fR (PDW.t (jt (eF h.h64 (bu 2) (PDE.n am)) (gT (mG (prB 0 T.cl_Reader T.naR_hung (pv 0)))))) (a8 (dG (sG (Cn 0 T.cl_Reader T.naR_hung (pv 0))))) cZ) (aG (fR (PDW.t (jt (eF h.h64 (bu 2) (PDE.n am)) (gT (ce (mG (prB 0 T.cl_Reader T.naR_hung (pv 0))))))) (a8 (r9 (tP 0 T.cl_Reader T.mt_Reader_place (fy T) h (T.F 32010).bd (pv 0)))) cZ) (a8 (dW (k:=0) (rQ (pv 2) (f8 iU)) xg (eD 0) T.mx_BadText (T.xi 0)))))))))
def d8(C:Addr):DF->Option XR:=
  (bq (xU (uo 1) (bN aa "place" 0 (cU C) cS))
  (bq (cK (asB (d2 ltd (dR (some aa) 0 "at") (d1 aK (dR (some aa) 0 "text")))) (xU (uo 1) (bN aa "go_on" 0 (dO C) (bY (uOf (ai (getV 1))) cS))) 500000)
  (bq (xIf (jT (aP (some aa) 0 "hung")) (xEx 0) xNx)
  (xIf (asB (d2 ltd (d1 vf (aP (some aa) 0 "closed")) (d1 vf (aP (some aa) 0 "begun")))) (xEx 0) xNx))))
def b8(C:Addr):OD->List DV->Option (Except Nat (OD×D)):=ip 2 1 (d8 C)
def j6(T:Txt K mg t):FnOk P t.w K mg base (CXc P t.w t.cl) 9 (fA 32013) (dA 32013) (bK (top 32013)) (spU K t.cl (b8 t.C)):=
 (T.F 32013).okU ["self","here"] λh=>(aG (kB 1 (tP 0 T.cl_Reader T.mt_Reader_place (fy T) h (T.F 32010).bd (pv 0))) (aG (oU 500000 Gs (iN h.h64 (PDE.n (pfB 0 T.cl_Reader T.naR_at (pv 0))) (PDE.n (bf rfl T.b_len (PDE.n (pfB 0 T.cl_Reader T.naR_text (pv 0)))))) (a8 (kB 1 (pum 0 T.cl_Reader T.mt_Reader_go_on (mm T) h (T.F 32012).bd (pv 0) (cy (iH (ay (aC 1))) eZ))))) (aG (fR (mG (prB 0 T.cl_Reader T.naR_hung (pv 0))) (a8 (oq (k:=0) rfl (eD 0) rfl T.mx_BadText (T.xi 0))) cZ) (a8 (fR (iN h.h64 (PDE.n (xu rfl T.b_len (prB 0 T.cl_Reader T.naR_closed (pv 0)))) (PDE.n (xu rfl T.b_len (prB 0 T.cl_Reader T.naR_begun (pv 0))))) (a8 (oq (k:=0) rfl (eD 0) rfl T.mx_BadText (T.xi 0))) cZ)))))
def jC(C:Addr):DF->Option RES:=
  (bb (chD leA ltI (cI 0) (ar 0) (d2 pd (cI 10) (cI 30))))
def dM(C:Addr):List DV->Option DV:=mOf 1 1 (jC C)
def nN(T:Txt K mg t):Ok P t.w K mg base t 19 1 dM:=
 (T.F 19).okI ["kind"] λh=>(ap (aQ (qP (PDE.n ae) (bu 0) (PDE.n (rl (PDE.r ae) (PDE.r ae))))))
def uk(C:Addr):DF->Option RES:=
  (al (aY 2 (km (chD leA ltI (cI 0) (d2 ixD (ag 0) (cI 0)) (ar 1)) (chD leA ltI (cI 0) (d2 ixD (ag 0) (cI 1)) (ar 1))))
  (bb (km (getV 2) (km (d2 neD (d2 ixD (ag 0) (cI 0)) (d2 ixD (ag 0) (cI 1))) (bv (dM C) (aV (d2 ixD (ag 0) (cI 2)) nA))))))
def g9(C:Addr):List DV->Option DV:=mOf 3 2 (uk C)
def yi(T:Txt K mg t):Ok P t.w K mg base t 20 2 g9:=
 (T.F 20).okI ["tie","size","places_fit"] λh=>(ac (cP 2 (gC (qP (PDE.n ae) (PDE.n (bB (au 0) (PDE.r ae))) (bu 1)) (ji (qP (PDE.n ae) (PDE.n (bB (au 0) (PDE.r ae))) (bu 1))))) (ap (aQ (gC (aC 2) (gC (E4 h.h64 (PDE.n (bB (au 0) (PDE.r ae))) (PDE.n (bB (au 0) (PDE.r ae)))) (ji (pcI (nN T) (T.G 19) h (cq (bB (au 0) (PDE.r ae)) bh))))))))
def jg(C:Addr):DF->Option RES:=
  (al (dIf (c_ (asB (chD leA leA (cI 1) (d1 aK (ar 0)) (cI 7)))) k_ dNx)
  (al (dIf (asB (d2 gtI (d1 aK (ar 1)) (cI 12))) k_ dNx)
  (al (j7 (i9 0) (setV 2) (dIf (c_ (asB (bv (bt C) (aV (getV 2) nA)))) k_ dNx))
  (j7 (i9 1) (setV 3) (dIf (c_ (asB (bv (g9 C) (aB 3 (aV (d1 aK (ar 0)) nA))))) k_ dNx)))))
def dj(C:Addr):List DV->Option DV:=mOf 4 2 (jg C)
def mB(T:Txt K mg t):Ok P t.w K mg base t 21 3 dj:=
 (T.F 21).okI ["kinds","ties","kind","tie"] λh=>(ac (cw (ce (qu (PDE.n ae) (PDE.n (bf rfl T.b_len (bu 0))) (PDE.n (kg rfl T.c_MOST_PLACES)))) (ap kN) a7) (ac (cw (l5 (PDE.r (bf rfl T.b_len (bu 1))) (PDE.r (kg rfl T.c_MOST_TIES))) (ap kN) a7) (ac (pfI (vC 0) (mE 2) (ap (cw (ce (cg (pcI (gF T) (T.G 18) h (cq (aC 2) bh)))) (ap kN) a7))) (ap (pfI (vC 1) (mE 3) (ap (cw (ce (cg (pcI (yi T) (T.G 20) h (uH 3 (cq (bf rfl T.b_len (bu 0)) bh))))) (ap kN) a7)))))))
def iR(C:Addr):DF->Option RES:=
  (al (dIf (orT (asB (d2 ixD (ag 0) (cI 3))) (asB (d2 ltd (d2 ixD (ag 0) (cI 0)) (d2 ixD (ag 0) (cI 1))))) (bb (getV 0)) dNx)
  (bb (asT (ao (d2 ixD (ag 0) (cI 1)) (ao (d2 ixD (ag 0) (cI 0)) (ao (d2 ixD (ag 0) (cI 2)) (ao (d2 ixD (ag 0) (cI 3)) bA)))))))
def dn(C:Addr):List DV->Option DV:=mOf 1 1 (iR C)
def mq(T:Txt K mg t):Ok P t.w K mg base t 22 1 dn:=
 (T.F 22).okI ["tie"] λh=>(ac (cw (PDW.t (gE (cg (bB (au 0) (PDE.r ae))) (g_ (iN h.h64 (PDE.n (bB (au 0) (PDE.r ae))) (PDE.n (bB (au 0) (PDE.r ae))))))) (ap (aQ (aC 0))) a7) (ap (aQ (cX (ak (bB (au 0) (PDE.r ae)) (ak (bB (au 0) (PDE.r ae)) (ak (bB (au 0) (PDE.r ae)) (ak (bB (au 0) (PDE.r ae)) aO))))))))
def n5(C:Addr):DF->Option RES:=
  (xB 0 (getV 1) (d1 A9 (asO (asL (pH (d2 af (mQ (ag 0) (getV 1) (asT bA)) (asT (ao (getV 2) bA))))))))
def dY(C:Addr):OD->List DV->Option (OD×D):=vq 3 3 (n5 C)
def lY(T:Txt K mg t):FnOk P t.w K mg base CX0 1 (fA 23) (dA 23) (bK (top 23)) (spM K (dY t.C)):=
 (T.F 23).okJ ["joins","ends","pair"] λh=>(ap (Dp 0 h.h64 (pv 0) (aC 1) (AX rfl T.b_tuple (PDE.r (PDO.v (jZ h.h64 rfl T.b_sorted (PDE.r (ah (PDE.r (Af h.h64 (au 0) (aC 1) (cX aO))) (PDE.r (cX (ak (aC 2) aO)))))))))))
def oV(C:Addr):DF->Option RES:=
  (al (dF 1 (λ_=>some (.dT [])))
  (al (j7 (i9 0) (j9 [2,3,4,5]) (al (i6 K0 1 (dY C) (aV (asT (ao (getV 2) (ao (getV 3) bA))) (aV (asT (ao (getV 4) (ao (ifV (asB (getV 5)) (cI 1) (cI 0)) bA))) nA)))
  (i6 K0 1 (dY C) (aV (asT (ao (getV 3) (ao (getV 2) bA))) (aV (asT (ao (getV 4) (ao (ifV (asB (getV 5)) (cI 2) (cI 0)) bA))) nA)))))
  (l8 1)))
def f9(C:Addr):List DV->Option DV:=mOf 6 1 (oV C)
def t8(T:Txt K mg t):Ok P t.w K mg base t 24 2 f9:=
 (T.F 24).okI ["ties","joins","one","other","kind","oneway"] λh=>(ac (t4 1 xI) (ac (pfI (vC 0) (kQ (is:=[2,3,4,5]) rfl (cA (pgI 2) (cA (pgI 3) (cA (pgI 4) (cA (pgI 5) j_))))) (ac (t9 1 (lY T) (h.mono (by decide)) rfl (T.G 23).2 (T.F 23).fn.kp (T.F 23).bd (pv 1) (cq (cX (ak (aC 2) (ak (aC 3) aO))) (cq (cX (ak (aC 4) (ak (zP (cg (aC 5)) ae ae) aO))) bh))) (ap (t9 1 (lY T) (h.mono (by decide)) rfl (T.G 23).2 (T.F 23).fn.kp (T.F 23).bd (pv 1) (cq (cX (ak (aC 3) (ak (aC 2) aO))) (cq (cX (ak (aC 4) (ak (zP (cg (aC 5)) ae ae) aO))) bh)))))) (ap (qX 1 (pv 1)))))
def lX(C:Addr):DF->Option RES:=
  (al (wH (bv (dj C) (aB 1 (aB 2 nA))))
  (al (pI C 0 "kinds" (asO (asL (oE (ag 1)))))
  (al (pI C 0 "ties" (asO (asL (pH (asO (asL (fB 1 [] (i9 2) (setV 0) iM (bv (dn C) (aV (getV 0) nA)))))))))
  (pI C 0 "joins" (bv (f9 C) (aV (d1 (fF C "ties") (ag 0)) nA))))))
def eG(C:Addr):OD->List DV->Option (OD×D):=vq 3 3 (lX C)
def rC(T:Txt K mg t):FnOk P t.w K mg base CX0 4 (fA 25000) (dA 25000) (bK (top 25000)) (spM K (eG t.C)):=
 (T.F 25000).okJ ["self","kinds","ties"] λh=>(ac (Ea (pcI (mB T) (T.G 21) h (uH 1 (uH 2 bh)))) (ac (rD 0 T.cl T.na_kinds (pv 0) (PDO.v (sZ rfl T.b_list (au 1)))) (ac (rD 0 T.cl T.na_ties (pv 0) (PDO.v (jZ h.h64 rfl T.b_sorted (PDE.r (PDO.v (xY ["tie"] 1 [] [0] (vC 2) (mE 0) pC (pcI (mq T) (T.G 22) h (cq (aC 0) bh)))))))) (ap (rD 0 T.cl T.na_joins (pv 0) (pcI (t8 T) (T.G 24) h (cq (h8 T.cl T.na_ties (au 0)) bh)))))))
def fQ(C:Addr):DF->Option XR:=
  (bq (xOf (dF 1 (tq aa (bV C) (aV (getV 0) nA))))
  (bq (xU gI (bN aa "read_all" 1 (b8 C) cS))
  (xOf (u3 1 (mh (pY C (eG C) (aV (d1 (fF aa "kinds") (getV 1)) (aV (d1 (fF aa "ties") (getV 1)) nA))))))))
def e7(C:Addr):List DV->Option (Except Nat DV):=vG 2 1 (fQ C)
def kH(T:Txt K mg t):FnOk P t.w K mg base (CXc P t.w t.cl) 10 (fA 33) (dA 33) (bK (top 33)) (spV K t.cl (e7 t.C)):=
 (T.F 33).okV ["text","reader"] λh=>(aG (dG (t4 1 (yZ T.mk_Reader (mC T) (h.mono (by decide)) rfl T.mg_Reader (T.F 32000).bd (cq (aC 0) bh)))) (aG (fT (tP 1 T.cl_Reader T.mt_Reader_read_all (j6 T) h (T.F 32013).bd (pv 1))) (a8 (dG (xl 1 (qT (BS T.mkC (rC T) (h.mono (by decide)) rfl T.mgC (T.F 25000).bd (cq (h8 T.cl_Reader T.naR_kinds (PDE.r (aC 1))) (cq (h8 T.cl_Reader T.naR_ties (PDE.r (aC 1))) bh)))))))))
def cT(C:Addr):List DV->Option DV:=Bw (e7 C)
def sQ(T:Txt K mg t):Ok P t.w K mg base t 33 10 cT:=
 (kH T).val
def fg(C:Addr):List DV->Option Nat:=CA (e7 C)
def rN(T:Txt K mg t):FnOk P t.w K mg base (CXc P t.w t.cl) 10 (fA 33) (dA 33) (bK (top 33)) (DE K t.cl (fg t.C)):=
 (kH T).exn
def e6(C:Addr):DF->Option RES:=
  (al (aY 1 (λ_=>some .non))
  (al (wt (λa=>((aV (getV 0) nA) a).bind (fg C)) (cl2 bp cJ) 2 1)
  (al (dIf (orT (c_ (asB (d1 (isE (fX bp bp true true)) (ar 1)))) (c_ (asB (d1 (isE (fX bp bp true true)) (ar 1))))) (bb (λ_=>some (.bl false))) dNx)
  (al (dIf (asB (d1 (isE (fX bp bp false false)) (ar 1))) (bb (λ_=>some (.bl false))) dNx)
  (bb (zQ (d1 (isE (fX bp bp false false)) (ar 1))))))))
def cc(C:Addr):MW:=kj 3 1 (e6 C)
theorem oB(T:Txt K mg t):FnOk P t.w K mg base CX0 11 (fA 50) (dA 50) (bK (top 50)) (spW K (cc t.C)):=
 (T.F 50).okW ["_law_text_here","_law_caught","error"] λh=>(ac (cP 1 Ht) (ac (D9 (ie:=2) (ic:=1) (cl:=t.cl) (yh (λ_ _ z=>z) (rN T) (h.mono (by decide)) rfl (T.G 33).2 (T.F 33).fn.kp (T.F 33).bd (cq (aC 0) bh)) rfl rfl rfl T.mx_WebError T.xm ndI rfl rfl (by decide) (λa ob=>DM ndI rfl rfl rfl rfl)) (ac (cw (PDW.t (gE (ce (cg (FU (wb ⟨T.exC 0,T.k0 0⟩ ⟨T.exC 0,T.k0 0⟩) rfl T.b_isinstance rfl T.mx_BadText (bu 1)))) (g_ (ce (cg (Cq (wb ⟨T.exC 0,T.k3 0⟩ ⟨T.exC 0,T.k3 0⟩) rfl T.b_isinstance rfl T.b_ValueError (bu 1))))))) (ap (aQ jK)) a7) (ac (cw (cg (wy (cs:=[t.x_BadName,t.x_BadOrder,t.x_BadPlace,t.x_BadRule,t.x_BadTie,t.x_NoWay,t.x_NoWeb].map .ref) (cvs:=[t.x_BadName,t.x_BadOrder,t.x_BadPlace,t.x_BadRule,t.x_BadTie,t.x_NoWay,t.x_NoWeb].map .ref) (wb ⟨T.exC 0,T.kt7⟩ ⟨T.exC 0,T.kt7⟩) (lR _) (show 7<=sizeLine from by decide) (jG rfl T.mx_BadName (jG rfl T.mx_BadOrder (jG rfl T.mx_BadPlace (jG rfl T.mx_BadRule (jG rfl T.mx_BadTie (jG rfl T.mx_NoWay (jG rfl T.mx_NoWeb Fa))))))) rfl T.b_isinstance (bu 1))) (ap (aQ jK)) a7) (ap (aQ (Cb (wy (cs:=[cJ,t.x_TooMany,t.x_Twice].map .ref) (cvs:=[cJ,t.x_TooMany,t.x_Twice].map .ref) (wb ⟨T.exC 0,T.kt3⟩ ⟨T.exC 0,T.kt3⟩) (lR _) (show 3<=sizeLine from by decide) (jG rfl T.mx_TooGreat (jG rfl T.mx_TooMany (jG rfl T.mx_Twice Fa))) rfl T.b_isinstance (bu 1)))))))))
def ik(C:Addr):DF->Option RES:=
  (al (dF 1 (asL (sL ["(",")",".","~","~5",">","<3","{","}",":","..a",".abcd",".A"])))
  (al (jA 1 (sL [".a b",".a1",".a()",".a(b)",".a(~5)",".a(~5b",".a(~5b.c)",".a~5",".a~b"]))
  (al (jA 1 (ao (λ_=>some (.str ".a~05b")) (ao (d2 af (d2 af (λ_=>some (.str ".a~")) (d2 o6 (λ_=>some (.str "1")) (cI 31))) (λ_=>some (.str "b"))) (sL [".a(~5b)(",".a-5b",".a~-5b",".a~5.b",".a~5>b"]))))
  (al (jA 1 (ao (λ_=>some (.str ".a(~5b))")) (ao (λ_=>some (.str ".(~5a)")) (ao (λ_=>some (.str ".a~5 b")) (ao (λ_=>some (.str " ")) (ao (λ_=>some (.str "0")) (ao (d2 af (λ_=>some (.str "~0")) (d2 o6 (λ_=>some (.str "a")) (cI 4))) bA)))))))
  (bb (d2 ixD (ag 1) (d2 aJ (ag 0) (d1 aK (ar 1)))))))))
def du(C:Addr):List DV->Option DV:=mOf 2 1 (ik C)
def pf(T:Txt K mg t):Ok P t.w K mg base t 48 1 du:=
 (T.F 48).okIw ["_law_n","_law_some"] λh=>(sf (HD 1 (wM (gO ["(",")",".","~","~5",">","<3","{","}",":","..a",".abcd",".A"] (by kernel_rfl)))) (sf (Gi 1 (pv 1) (wM (gO [".a b",".a1",".a()",".a(b)",".a(~5)",".a(~5b",".a(~5b.c)",".a~5",".a~b"] (by kernel_rfl)))) (sf (Gi 1 (pv 1) (wM (ak am (ak (ah (PDE.r (ah (PDE.r am) (PDE.r (m7 (PDE.r am) (PDE.r ae))))) (PDE.r am)) (gO [".a(~5b)(",".a-5b",".a~-5b",".a~5.b",".a~5>b"] (by kernel_rfl)))))) (sf (Gi 1 (pv 1) (wM (ak am (ak am (ak am (ak am (ak am (ak (ah (PDE.r am) (PDE.r (m7 (PDE.r am) (PDE.r ae)))) aO)))))))) (Im (ap (aQ (bB (au 1) (PDE.r (bD (au 0) (PDE.r (bf rfl T.b_len (bu 1)))))))))))))
def e8(C:Addr):DF->Option RES:=
  (al (aY 2 (d2 af (cI 1) (d2 aJ (ag 0) (cI 99))))
  (al (cD (asB (d2 inD (ar 2) (d2 aW (ag 1) (λ_=>some (.str "used"))))) (aY 2 (d2 af (d2 aJ (ag 2) (cI 99)) (cI 1))) 100)
  (al (aY 3 (d2 af (λ_=>some (.str "{")) (d1 eQ (ar 2))))
  (al (dF 4 (asL (ao (d2 af (d2 af (λ_=>some (.str ".a")) (ag 3)) (λ_=>some (.str "}"))) (ao (d2 af (d2 af (λ_=>some (.str ".a")) (ag 3)) (λ_=>some (.str ":~5}"))) (ao (d2 af (d2 af (d2 af (d2 af (λ_=>some (.str ".a")) (ag 3)) (λ_=>some (.str "}"))) (ag 3)) (λ_=>some (.str ":~5}"))) bA)))))
  (al (dU 4 (d2 af (d2 af (d2 af (d2 af (d2 af (d2 af (λ_=>some (.str ".a")) (ag 3)) (λ_=>some (.str "}"))) (ag 3)) (λ_=>some (.str "}.b"))) (ag 3)) (λ_=>some (.str ":~5}"))))
  (al (dU 4 (d2 af (d2 af (d2 af (d2 af (λ_=>some (.str ".a")) (ag 3)) (λ_=>some (.str "}.b"))) (ag 3)) (λ_=>some (.str ":}"))))
  (al (dU 4 (d2 af (d2 af (d2 af (d2 af (λ_=>some (.str ".a")) (ag 3)) (λ_=>some (.str "}.b"))) (ag 3)) (λ_=>some (.str "}"))))
  (al (dU 4 (d2 af (d2 af (d2 af (d2 af (d2 af (d2 af (λ_=>some (.str ".a")) (ag 3)) (λ_=>some (.str "}.b"))) (ag 3)) (λ_=>some (.str ":~5}.c"))) (ag 3)) (λ_=>some (.str ":~5}"))))
  (al (dU 4 (d2 af (d2 af (d2 af (d2 af (d2 af (d2 af (d2 af (d2 af (λ_=>some (.str ".a")) (ag 3)) (λ_=>some (.str "}.b"))) (ag 3)) (λ_=>some (.str ":~5}.c"))) (ag 3)) (λ_=>some (.str "}.d"))) (ag 3)) (λ_=>some (.str ":~5}"))))
  (al (dU 4 (d2 af (d2 af (d2 af (d2 af (λ_=>some (.str ".a(~5b)")) (ag 3)) (λ_=>some (.str "}.c"))) (ag 3)) (λ_=>some (.str ":~5}"))))
  (al (jA 4 (ao (d2 af (d2 af (d2 af (d2 af (λ_=>some (.str ".a")) (ag 3)) (λ_=>some (.str ":~5}.b"))) (ag 3)) (λ_=>some (.str "}"))) (ao (d2 af (d2 af (d2 af (d2 af (λ_=>some (.str ".a")) (ag 3)) (λ_=>some (.str ":>5}~7b"))) (ag 3)) (λ_=>some (.str "}"))) bA)))
  (al (jA 4 (ao (d2 af (d2 af (d2 af (d2 af (λ_=>some (.str ".a")) (ag 3)) (λ_=>some (.str "}.b"))) (ag 3)) (λ_=>some (.str ":~05}"))) (ao (d2 af (d2 af (d2 af (d2 af (λ_=>some (.str ".a")) (ag 3)) (λ_=>some (.str "}.b"))) (ag 3)) (λ_=>some (.str ":~}"))) bA)))
  (al (dU 4 (d2 af (d2 af (d2 af (d2 af (d2 af (d2 af (λ_=>some (.str ".a")) (ag 3)) (λ_=>some (.str "}.b"))) (ag 3)) (λ_=>some (.str ":~"))) (d2 o6 (λ_=>some (.str "1")) (cI 31))) (λ_=>some (.str "}"))))
  (al (dU 4 (d2 af (d2 af (d2 af (d2 af (λ_=>some (.str ".a")) (ag 3)) (λ_=>some (.str "}.b"))) (ag 3)) (λ_=>some (.str ":~5"))))
  (al (dU 4 (d2 af (d2 af (d2 af (d2 af (λ_=>some (.str ".a")) (ag 3)) (λ_=>some (.str "}.b"))) (ag 3)) (λ_=>some (.str ":5}"))))
  (al (dU 4 (d2 af (d2 af (d2 af (d2 af (λ_=>some (.str ".a{0")) (d1 eQ (ar 2))) (λ_=>some (.str "}.b{0"))) (d1 eQ (ar 2))) (λ_=>some (.str ":~5}"))))
  (al (jA 4 (sL [".a{0}.b{0:~5}",".a{100}.b{100:~5}",".a{}",".a{}.b{:~5}"]))
  (al (dIf (asB (d2 gtI (d1 aK (d2 aW (ag 1) (λ_=>some (.str "used")))) (cI 0))) (al (aY 5 (d2 af (λ_=>some (.str "{")) (d1 eQ (d2 ixD (d2 aW (ag 1) (λ_=>some (.str "used"))) (d2 aJ (d2 aR (ag 0) (cI 99)) (d1 aK (d2 aW (ag 1) (λ_=>some (.str "used")))))))))
  (jA 4 (ao (d2 af (d2 af (d2 af (d2 af (λ_=>some (.str ".a")) (ag 5)) (λ_=>some (.str "}.b"))) (ag 5)) (λ_=>some (.str ":~5}"))) (ao (d2 af (d2 af (λ_=>some (.str ".a")) (ag 5)) (λ_=>some (.str ":~5}"))) bA)))) dNx)
  (l8 4)))))))))))))))))))
def dX(C:Addr):List DV->Option DV:=mOf 6 2 (e8 C)
def sx(T:Txt K mg t):Ok P t.w K mg base t 47 1 dX:=
 (T.F 47).okI ["_law_n","_law_state","_law_number","_law_one","_law_many","_law_told"] λh=>(ac (cP 2 (ah (PDE.r ae) (PDE.r (bD (au 0) (PDE.r ae))))) (ac (kC 100 XT (E_ h.h64 (bu 2) (PDE.n (fw h.h64 (au 1) am))) (ap (cP 2 (ah (PDE.r (bD (au 2) (PDE.r ae))) (PDE.r ae))))) (ac (cP 3 (ah (PDE.r am) (PDE.r (ib rfl T.b_str (bu 2))))) (ac (t4 4 (bZ (ak (ah (PDE.r (ah (PDE.r am) (au 3))) (PDE.r am)) (ak (ah (PDE.r (ah (PDE.r am) (au 3))) (PDE.r am)) (ak (ah (PDE.r (ah (PDE.r (ah (PDE.r (ah (PDE.r am) (au 3))) (PDE.r am))) (au 3))) (PDE.r am)) aO))))) (ac (b7 4 (pv 4) (ah (PDE.r (ah (PDE.r (ah (PDE.r (ah (PDE.r (ah (PDE.r (ah (PDE.r am) (au 3))) (PDE.r am))) (au 3))) (PDE.r am))) (au 3))) (PDE.r am))) (ac (b7 4 (pv 4) (ah (PDE.r (ah (PDE.r (ah (PDE.r (ah (PDE.r am) (au 3))) (PDE.r am))) (au 3))) (PDE.r am))) (ac (b7 4 (pv 4) (ah (PDE.r (ah (PDE.r (ah (PDE.r (ah (PDE.r am) (au 3))) (PDE.r am))) (au 3))) (PDE.r am))) (ac (b7 4 (pv 4) (ah (PDE.r (ah (PDE.r (ah (PDE.r (ah (PDE.r (ah (PDE.r (ah (PDE.r am) (au 3))) (PDE.r am))) (au 3))) (PDE.r am))) (au 3))) (PDE.r am))) (ac (b7 4 (pv 4) (ah (PDE.r (ah (PDE.r (ah (PDE.r (ah (PDE.r (ah (PDE.r (ah (PDE.r (ah (PDE.r (ah (PDE.r am) (au 3))) (PDE.r am))) (au 3))) (PDE.r am))) (au 3))) (PDE.r am))) (au 3))) (PDE.r am))) (ac (b7 4 (pv 4) (ah (PDE.r (ah (PDE.r (ah (PDE.r (ah (PDE.r am) (au 3))) (PDE.r am))) (au 3))) (PDE.r am))) (ac (gU 4 (pv 4) (bZ (ak (ah (PDE.r (ah (PDE.r (ah (PDE.r (ah (PDE.r am) (au 3))) (PDE.r am))) (au 3))) (PDE.r am)) (ak (ah (PDE.r (ah (PDE.r (ah (PDE.r (ah (PDE.r am) (au 3))) (PDE.r am))) (au 3))) (PDE.r am)) aO)))) (ac (gU 4 (pv 4) (bZ (ak (ah (PDE.r (ah (PDE.r (ah (PDE.r (ah (PDE.r am) (au 3))) (PDE.r am))) (au 3))) (PDE.r am)) (ak (ah (PDE.r (ah (PDE.r (ah (PDE.r (ah (PDE.r am) (au 3))) (PDE.r am))) (au 3))) (PDE.r am)) aO)))) (ac (b7 4 (pv 4) (ah (PDE.r (ah (PDE.r (ah (PDE.r (ah (PDE.r (ah (PDE.r (ah (PDE.r am) (au 3))) (PDE.r am))) (au 3))) (PDE.r am))) (PDE.r (m7 (PDE.r am) (PDE.r ae))))) (PDE.r am))) (ac (b7 4 (pv 4) (ah (PDE.r (ah (PDE.r (ah (PDE.r (ah (PDE.r am) (au 3))) (PDE.r am))) (au 3))) (PDE.r am))) (ac (b7 4 (pv 4) (ah (PDE.r (ah (PDE.r (ah (PDE.r (ah (PDE.r am) (au 3))) (PDE.r am))) (au 3))) (PDE.r am))) (ac (b7 4 (pv 4) (ah (PDE.r (ah (PDE.r (ah (PDE.r (ah (PDE.r am) (PDE.r (ib rfl T.b_str (bu 2))))) (PDE.r am))) (PDE.r (ib rfl T.b_str (bu 2))))) (PDE.r am))) (ac (gU 4 (pv 4) (bZ (gO [".a{0}.b{0:~5}",".a{100}.b{100:~5}",".a{}",".a{}.b{:~5}"] (by kernel_rfl)))) (ac (cw (l5 (PDE.r (bf rfl T.b_len (PDE.n (fw h.h64 (au 1) am)))) (PDE.r ae)) (ac (cP 5 (ah (PDE.r am) (PDE.r (ib rfl T.b_str (PDE.n (bB (PDE.r (fw h.h64 (au 1) am)) (PDE.r (bD (PDE.r (cf (au 0) (PDE.r ae))) (PDE.r (bf rfl T.b_len (PDE.n (fw h.h64 (au 1) am)))))))))))) (ap (gU 4 (pv 4) (bZ (ak (ah (PDE.r (ah (PDE.r (ah (PDE.r (ah (PDE.r am) (au 5))) (PDE.r am))) (au 5))) (PDE.r am)) (ak (ah (PDE.r (ah (PDE.r am) (au 5))) (PDE.r am)) aO)))))) a7) (ap (qX 4 (pv 4)))))))))))))))))))))
def ij(C:Addr):DF->Option RES:=
  (al (bC 4 (ax (az C) (aH (ai (getV 0)) (aD 1 ba))))
  (al (aY 5 (d2 aJ (ag 4) (cI 6)))
  (al (dIf (asB (d2 ltd (ar 5) (cI 2))) (bb (d2 af (ag 2) (bv (du C) (aV (d2 aR (ag 4) (cI 6)) nA)))) dNx)
  (al (dIf (asB (d2 eqD (ar 5) (cI 2))) (al (aY 6 (bv (dX C) (aV (d2 aR (ag 4) (cI 6)) (aB 3 nA))))
  (iW (x2 af (ai (getV 2)) (x2 ixD (ai (getV 6)) (x2 aJ (ax (az C) (aH (ai (getV 0)) (aD 1 ba))) (ai (d1 aK (ar 6)))))))) dNx)
  (al (dIf (asB (d2 eqD (ar 5) (cI 3))) (al (aY 7 (λ_=>some (.str " !#$&'*+,-/;=?@ABCDEFGHIJKLMNOPQRSTUVWXYZ[]^_|")))
  (al (bC 8 (x2 aJ (ax (az C) (aH (ai (getV 0)) (aD 1 ba))) (ai (d2 af (d1 aK (ar 2)) (cI 1)))))
  (al (aY 9 (d2 ixD (ag 7) (d2 aJ (d2 aR (ag 4) (cI 6)) (d1 aK (ar 7)))))
  (bb (d2 af (d2 af (slS (ag 2) bNo (bI (getV 8))) (ag 9)) (slS (ag 2) (bI (getV 8)) bNo)))))) dNx)
  (al (ke 9 5 2 "()}" (d2 aR (ag 4) (cI 6)))
  (al (aY 10 (asO (asL (sL ["~5","(",")",".","{1}","5","{",":"]))))
  (al (dIf (asB (d2 eqD (d2 aJ (d2 aR (ag 4) (cI 18)) (cI 9)) (cI 8))) (bb (λ_=>some (.str ""))) dNx)
  (bb (d2 af (d2 ixD (ag 10) (d2 aJ (d2 aR (ag 4) (cI 18)) (cI 9))) (ag 2)))))))))))
def bP(C:Addr):MW:=kj 11 4 (ij C)
def pq(T:Txt K mg t):FnOk P t.w K mg base CX0 2 (fA 49) (dA 49) (bK (top 49)) (spW K (bP t.C)):=
 (T.F 49).okW ["_law_script","_law_at","_law_text_here","_law_state","_law_n","_law_way","_law_rings_here","_law_strange","_law_place_here","_law_sign","_law_ahead"] λh=>(ac (jd 4 (pxc (bF T) (T.G 36) h (aU (ay (aC 0)) (aN 1 (pv 1) bz)))) (ac (cP 5 (bD (au 4) (PDE.r ae))) (ac (cw (iN h.h64 (bu 5) (PDE.n ae)) (ap (aQ (ah (au 2) (PDE.r (pcI (pf T) (T.G 48) h (cq (cf (au 4) (PDE.r ae)) bh)))))) a7) (ac (cw (eF h.h64 (bu 5) (PDE.n ae)) (ac (cP 6 (pcI (sx T) (T.G 47) h (cq (cf (au 4) (PDE.r ae)) (uH 3 bh)))) (ap (sG (gz (ay (aC 2)) (EV (ay (aC 6)) (j5 (pxc (bF T) (T.G 36) h (aU (ay (aC 0)) (aN 1 (pv 1) bz))) (ay (bf rfl T.b_len (bu 6))))))))) a7) (ac (cw (eF h.h64 (bu 5) (PDE.n ae)) (ac (cP 7 am) (ac (jd 8 (j5 (pxc (bF T) (T.G 36) h (aU (ay (aC 0)) (aN 1 (pv 1) bz))) (ay (ah (PDE.r (bf rfl T.b_len (bu 2))) (PDE.r ae))))) (ac (cP 9 (bB (au 7) (PDE.r (bD (PDE.r (cf (au 4) (PDE.r ae))) (PDE.r (bf rfl T.b_len (bu 7))))))) (ap (aQ (ah (PDE.r (ah (PDE.r (eX (au 2) nD (kA (aC 8)))) (au 9))) (PDE.r (eX (au 2) (kA (aC 8)) nD)))))))) a7) (B8 9 5 2 (cf (au 4) (PDE.r ae)) (ac (cP 10 (PDO.v (bZ (gO ["~5","(",")",".","{1}","5","{",":"] (by kernel_rfl))))) (ac (cw (eF h.h64 (PDE.n (bD (PDE.r (cf (au 4) (PDE.r ae))) (PDE.r ae))) (PDE.n ae)) (ap (aQ am)) a7) (ap (aQ (ah (PDE.r (bB (au 10) (PDE.r (bD (PDE.r (cf (au 4) (PDE.r ae))) (PDE.r ae))))) (au 2))))))))))))
def i_(C:Addr):DF->Option RES:=
  (al (dF 1 (asL bA))
  (al (j7 (i9 0) (j9 [2,3,4,5]) (dIf (fD (c_ (asB (getV 5))) (asB (d2 gtI (ag 2) (ag 3)))) (dU 1 (asT (ao (getV 3) (ao (getV 2) (ao (getV 4) (ao (getV 5) bA)))))) (dU 1 (asT (ao (getV 2) (ao (getV 3) (ao (getV 4) (ao (getV 5) bA))))))))
  (mh (asL (pH (ag 1))))))
def e_(C:Addr):List DV->Option DV:=mOf 6 1 (i_ C)
def sj(T:Txt K mg t):Ok P t.w K mg base t 43 1 e_:=
 (T.F 43).okI ["_law_ties","_law_found","_law_one","_law_other","_law_kind","_law_oneway"] λh=>(ac (t4 1 (bZ aO)) (ac (pfI (vC 0) (kQ (is:=[2,3,4,5]) rfl (cA (pgI 2) (cA (pgI 3) (cA (pgI 4) (cA (pgI 5) j_))))) (ap (cw (PDW.t (jt (ce (cg (aC 5))) (gT (l5 (au 2) (au 3))))) (ap (b7 1 (pv 1) (cX (ak (aC 3) (ak (aC 2) (ak (aC 4) (ak (aC 5) aO))))))) (ap (b7 1 (pv 1) (cX (ak (aC 2) (ak (aC 3) (ak (aC 4) (ak (aC 5) aO)))))))))) (ap (qT (jZ h.h64 rfl T.b_sorted (au 1))))))
def uP(C:Addr):DF->Option RES:=
  (bb (km (d1 (kW "int") (ar 0)) (zQ (d1 (kW "bool") (ar 0)))))
def dZ(C:Addr):List DV->Option DV:=mOf 1 1 (uP C)
def iq(T:Txt K mg t):Ok P t.w K mg base t 44 1 dZ:=
 (T.F 44).okI ["_law_found"] λh=>(ap (aQ (gC (jQ rfl T.b_isinstance rfl T.b_int L2.boot_int (bu 0)) (ji (Cb (jQ rfl T.b_isinstance rfl T.b_bool L2.boot_bool (bu 0)))))))
def ka(C:Addr):DF->Option RES:=
  (al (dIf (orT (c_ (asB (d1 (kW "tuple") (ar 0)))) (orT (asB (d2 neD (d1 aK (ar 0)) (cI 4))) (c_ (asB (d1 (kW "bool") (d2 ixD (ag 0) (cI 3))))))) (bb (λ_=>some (.bl false))) dNx)
  (bb (km (bv (dZ C) (aV (d2 ixD (ag 0) (cI 0)) nA)) (km (bv (dZ C) (aV (d2 ixD (ag 0) (cI 1)) nA)) (km (bv (dZ C) (aV (d2 ixD (ag 0) (cI 2)) nA)) (d2 eqD (ar 0) (ar 1)))))))
def cQ(C:Addr):List DV->Option DV:=mOf 2 2 (ka C)
def o8(T:Txt K mg t):Ok P t.w K mg base t 45 2 cQ:=
 (T.F 45).okI ["_law_found","_law_due"] λh=>(ac (cw (PDW.t (gE (ce (cg (jQ rfl T.b_isinstance rfl T.b_tuple L2.boot_tuple (bu 0)))) (gE (Ae h.h64 (PDE.n (bf rfl T.b_len (bu 0))) (PDE.n ae)) (g_ (ce (cg (jQ rfl T.b_isinstance rfl T.b_bool L2.boot_bool (PDE.n (bB (au 0) (PDE.r ae)))))))))) (ap (aQ jK)) a7) (ap (aQ (gC (pcI (iq T) (T.G 44) h (cq (bB (au 0) (PDE.r ae)) bh)) (gC (pcI (iq T) (T.G 44) h (cq (bB (au 0) (PDE.r ae)) bh)) (gC (pcI (iq T) (T.G 44) h (cq (bB (au 0) (PDE.r ae)) bh)) (ji (wo h.h64 (bu 0) (bu 1)))))))))
def k8(C:Addr):DF->Option RES:=
  (al (dIf (orT (c_ (asB (d1 (GD C) (ar 0)))) (orT (c_ (asB (d1 (kW "list") (d1 (fF C "kinds") (ag 0))))) (c_ (asB (d1 (kW "list") (d1 (fF C "ties") (ag 0))))))) (bb (λ_=>some (.bl false))) dNx)
  (al (dIf (orT (asB (d2 neD (d1 (fF C "kinds") (ag 0)) (ar 1))) (c_ (asB (d1 vd (asO (asL (fB 1 [] (me (d1 (fF C "kinds") (ag 0))) (setV 0) iM (d1 (kW "str") (ar 0))))))))) (bb (λ_=>some (.bl false))) dNx)
  (al (aY 3 (bv (e_ C) (aB 2 nA)))
  (bb (km (d2 eqD (d1 aK (d1 (fF C "ties") (ag 0))) (d1 aK (ar 3))) (d1 vd (asO (asL (fB 1 [0,3] (ol (d1 aK (ar 3))) (setV 0) iM (bv (cQ C) (aV (d2 ixD (d1 (fF C "ties") (ag 1)) (ag 0)) (aV (d2 ixD (ag 2) (ag 0)) nA))))))))))))
def bO(C:Addr):List DV->Option DV:=mOf 4 3 (k8 C)
def o5(T:Txt K mg t):Ok P t.w K mg base t 46 3 bO:=
 (T.F 46).okI ["_law_web","_law_kinds","_law_ties","_law_due"] λh=>(ac (cw (PDW.t (gE (ce (cg (G9 T.cl T.icC rfl T.b_isinstance rfl T.mgC (bu 0)))) (gE (ce (cg (jQ rfl T.b_isinstance rfl T.b_list L2.boot_list (PDE.n (h8 T.cl T.na_kinds (au 0)))))) (g_ (ce (cg (jQ rfl T.b_isinstance rfl T.b_list L2.boot_list (PDE.n (h8 T.cl T.na_ties (au 0)))))))))) (ap (aQ jK)) a7) (ac (cw (PDW.t (gE (Ae h.h64 (PDE.n (h8 T.cl T.na_kinds (au 0))) (bu 1)) (g_ (ce (cg (vE rfl rfl T.b_all (PDE.n (PDO.v (xY ["_law_kind"] 1 [] [0] (qI (h8 T.cl T.na_kinds (au 0))) (mE 0) pC (jQ rfl T.b_isinstance rfl T.b_str L2.boot_str (bu 0))))))))))) (ap (aQ jK)) a7) (ac (cP 3 (pcI (sj T) (T.G 43) h (uH 2 bh))) (ap (aQ (gC (wo h.h64 (PDE.n (bf rfl T.b_len (PDE.n (h8 T.cl T.na_ties (au 0))))) (PDE.n (bf rfl T.b_len (bu 3)))) (ji (vE rfl rfl T.b_all (PDE.n (PDO.v (xY ["_law_k","_law_web","_law_due"] 1 [0,3] [0] (f_ rfl T.b_range (PDE.r (bf rfl T.b_len (bu 3)))) (mE 0) pC (pcI (o8 T) (T.G 45) h (cq (bB (PDE.r (h8 T.cl T.na_ties (au 1))) (au 0)) (cq (bB (au 2) (au 0)) bh))))))))))))))
def BG(C:Addr):DF->Option RES:=
  (al (wY [1,2] (bv (iB C) (aV (getV 0) nA)))
  (al (dF 3 (oO (di C) (aV (d2 af (ag 0) (asO (asL (ao (cI 3) bA)))) nA)))
  (al (j7 (ol (cI 5)) (setV 4) (al (n4 (xN (y0 (ax (cc C) (aH (ax (bP C) (aH (ai (getV 0)) (aD 3 (aH (ai (getV 1)) (aH (ai (getV 2)) ba))))) ba)))) (bb (λ_=>some (.bl false))) dNx)
  (dIf (c_ (asB (bv (bO C) (aV (bv (cT C) (aV (getV 1) nA)) (aV (d2 aW (ag 2) (λ_=>some (.str "kinds"))) (aV (d2 aW (ag 2) (λ_=>some (.str "ties"))) nA)))))) (bb (λ_=>some (.bl false))) dNx)))
  (bb (λ_=>some (.bl true))))))
def Fj(C:Addr):List DV->Option DV:=mOf 5 1 (BG C)
def Fv(T:Txt K mg t):Ok P t.w K mg base t 51 12 Fj:=
 (T.F 51).okI ["_law_script","_law_text_here","_law_state","_law_at","_law_k"] λh=>(ac (Du (kQ (is:=[1,2]) rfl (cA (pgI 1) (cA (pgI 2) j_))) (pcI (uQ T) (T.G 42) h (cq (aC 0) bh))) (ac (t4 3 (poI (kP T) (T.G 35) h (cq (ah (au 0) (PDE.r (PDO.v (bZ (ak ae aO))))) bh))) (ac (pfI (f_ rfl T.b_range (PDE.r ae)) (mE 4) (ac (Bx (C9 (DU (pxc (oB T) (T.G 50) h (aU (pxc (pq T) (T.G 49) h (aU (ay (aC 0)) (aN 3 (pv 3) (aU (ay (aC 1)) (aU (ay (aC 2)) bz))))) bz)))) (ap (aQ jK)) a7) (ap (cw (ce (cg (pcI (o5 T) (T.G 46) h (cq (pcI (sQ T) (T.G 33) h (cq (aC 1) bh)) (cq (fw h.h64 (au 2) am) (cq (fw h.h64 (au 2) am) bh)))))) (ap (aQ jK)) a7)))) (ap (aQ jK)))))
end
theorem rU{st:Dq}{body:Dw}(I:Nat->DF->Prop):∀(ds:List D) (k:Nat) (ρ:DF),I k ρ->
  (∀j d ρ,ds[j]?=some d->I (k+j) ρ->∃a,st d ρ=some a/\∃ρ',body a=some (.nx ρ')/\I (k+j+1) ρ')->∃ρ',cN st body ds ρ=some (.nx ρ')/\I (k+ds.length) ρ'
 |[],k,ρ,h,_=>⟨ρ,rfl,h⟩
 |d::ds,k,ρ,h,hs=>by
  obtain⟨a,p,ρ',o,l⟩:=hs 0 d ρ rfl h;obtain⟨b,m,i⟩:=rU I ds (k+1) ρ' l λj q e f g=>by
   have:=hs (j+1) q e (by simpa using f) (by rw[<-Xv,Zk];exact g)
   rwa [show k+(j+1)+1=k+1+j+1 by omega]at this
  refine⟨b,?_,by rw[Yg,show k+(ds.length+1)=k+1+ds.length by omega];exact i⟩;unfold cN;rw[p];simp only[o];exact m
def tW{st:Dq}{body:Dw}(I:DF->Prop)(h:I ρ)
  (b:∀d∈ds,∀ρ,I ρ->∃a,st d ρ=some a/\∃ρ',body a=some (.nx ρ')/\I ρ'):∃ρ',cN st body ds ρ=some (.nx ρ')/\I ρ':=
 rU (λ_=>I) ds 0 ρ h λj d ρ e f=>b d (Zd e) ρ f
theorem gG{st:Dq}{c:Dk}{e:Dd}{α:Type}(f:α->D)(F:α->D):∀xs:List α,(∀x∈xs,∃a,st (f x) ρ=some a/\c a=some true/\e a=some (F x))->gf st c e ρ (xs.map f)=some (xs.map F)
 |[],_=>rfl
 |x::xs,h=>by
  obtain⟨a,j,i,g⟩:=h x Yf;rw[YD];unfold gf;rw[j,Ya,i,Ya,Yh rfl,g,Ya,gG f F xs λy b=>h y (Ye _ b)];rfl
theorem p_{st:Dq}{c:Dk}{e:Dd}{α:Type}(f:α->D)(G:α->Prop):∀ds:List D,(∀d∈ds,∃a,st d ρ=some a/\c a=some true/\∃y,e a=some (f y)/\G y)->∃ys:List α,gf st c e ρ ds=some (ys.map f)/\ys.length=ds.length/\∀y∈ys,G y
 |[],_=>⟨[],rfl,rfl,λ_ h=>by cases h⟩
 |x::xs,h=>by
  obtain⟨a,o,m,y,l,j⟩:=h x Yf;obtain⟨ys,g,b,q⟩:=p_ f G xs λy i=>h y (Ye _ i)
  refine⟨y::ys,?_,by simp[b],λz hz=>?_⟩
  ·unfold gf;rw[o,Ya,m,Ya,Yh rfl,l,Ya,g];rfl
  ·rcases Yw.mp hz with rfl|hz
   ·exact j
   ·exact q z hz
def mK(i j:Int):eqd (.int i) (.int j)=decide (i=j):=by
 have h:=dD (.int i) (.int j) rfl;by_cases e:i=j
 ·rw[Yk e,h,e]
 ·rw[Yi e];cases q:eqd (.int i) (.int j)with
  |false=>rfl
  |true=>exact absurd (by simpa using h.mp q) e
def Go(i j:Bool):eqd (.bl i) (.bl j)=decide (i=j):=by
 have h:=dD (.bl i) (.bl j) rfl;by_cases e:i=j
 ·rw[Yk e,h,e]
 ·rw[Yi e];cases q:eqd (.bl i) (.bl j)with
  |false=>rfl
  |true=>exact absurd (by simpa using h.mp q) e
@[simp] theorem eY(i j:Int):eqD (.int i) (.int j)=some (.bl (decide (i=j))):=by unfold eqD;rw[mK];rfl
@[simp] theorem Ki(i j:Bool):eqD (.bl i) (.bl j)=some (.bl (decide (i=j))):=by unfold eqD;rw[Go];rfl
@[simp] theorem Jl(i j:Int):neD (.int i) (.int j)=some (.bl (!decide (i=j))):=by unfold neD;rw[mK];rfl
@[simp] theorem Jn(i j:Int):ltd (.int i) (.int j)=some (.bl (decide (i<j))):=rfl
@[simp] theorem Jt(i j:Int):gtI (.int i) (.int j)=some (.bl (decide (j<i))):=rfl
@[simp] theorem sr(i j:Int):leA (.int i) (.int j)=some (.bl (decide (i<=j))):=rfl
@[simp] theorem Ju(i j:Int):ltI (.int i) (.int j)=some (.bl (decide (i<j))):=rfl
@[simp] theorem t5(i j:Int):af (.int i) (.int j)=some (.int (i+j)):=rfl
@[simp] theorem I0(i j:Int):kZ (.int i) (.int j)=some (.int (i-j)):=rfl
def gN(i j:Int)(h:(-(2^64)<i/\i<2^64)\/(-(2^64)<j/\j<2^64)):fC (.int i) (.int j)=some (.int (i*j)):=Yh (Yk h)
def aX(i j:Int)(h:0<j):aJ (.int i) (.int j)=some (.int (i%j)):=Yh (Yk h)
def bM(i j:Int)(h:0<j/\j<1073741824):aR (.int i) (.int j)=some (.int (i/j)):=Yh (Yk h)
@[simp] theorem Jr:pd (.int 10) (.int 30)=some (.int 1000000000000000000000000000000):=rfl
section
variable   {fl:Dl}{fv:Dv}{c c':Dk}{h:Dw}   
@[simp] theorem rB:al g h ρ=match g ρ with|some (.nx ρ')=>h ρ'|r=>r:=rfl
@[simp] theorem bi:aY i f ρ=(f ρ).map λd=>.nx (ρ.set i (some (.v d))):=rfl
@[simp] theorem nG:dF i fo ρ=(fo ρ).map λo=>.nx (ρ.set i (some (.own o none))):=rfl
@[simp] theorem d9:bb f ρ=(f ρ).map λd=>.rt (.v d) ρ:=rfl
@[simp] theorem ui:mh fo ρ=(fo ρ).map λo=>.rt (.own o none) ρ:=rfl
@[simp] theorem IY:l8 i ρ=match ρ[i]? with|some (some x)=>some (.rt x ρ)|_=>none:=rfl
@[simp] theorem dJ:dIf c g h ρ=(c ρ).bind λb=>if b=true then g ρ else h ρ:=rfl
@[simp] theorem Kd:dNx ρ=some (.nx ρ):=rfl
@[simp] theorem Ii:wH f ρ=(f ρ).map λ_=>.nx ρ:=rfl
@[simp] theorem bX{F:D->Option D}:d1 F fa ρ=(fa ρ).bind F:=rfl
@[simp] theorem aq{F:Dy}:d2 F fa fb ρ=(fa ρ).bind λx=>(fb ρ).bind λy=>F x y:=rfl
@[simp] theorem Ep:getV i ρ=match ρ[i]? with|some (some (.v d))=>some d|_=>none:=rfl
@[simp] theorem wL:ag i ρ=match ρ[i]? with|some (some (.v d))=>some d|some (some (.own o _))=>if o.flat=true then some o.d else none|some (some (.bor o))=>if o.flat=true then some o.d else none|_=>none:=rfl
@[simp] theorem mH:ar i ρ=match ρ[i]? with|some (some (.v d))=>some d|some (some (.own o _))=>some o.d|some (some (.bor o))=>some o.d|_=>none:=rfl
@[simp] theorem Jb:aB i fv ρ=match ρ[i]? with|some (some (.own o _))=>(fv ρ).map λxs=>.bor o::xs|some (some (.bor o))=>(fv ρ).map λxs=>.bor o::xs|some (some (.v d))=>(fv ρ).map λxs=>.v d::xs|_=>none:=rfl
@[simp] theorem jD:aV f fv ρ=(f ρ).bind λd=>(fv ρ).map λxs=>.v d::xs:=rfl
@[simp] theorem i4:bv m fv ρ=(fv ρ).bind λxs=>(m xs).bind dvD:=rfl
@[simp] theorem sP:oO m fv ρ=(fv ρ).bind λxs=>(m xs).bind dvO:=rfl
@[simp] theorem bw:asB f ρ=match f ρ with|some (.bl b)=>some b|_=>none:=rfl
@[simp] theorem vH:asL fl ρ=(fl ρ).map .lst:=rfl
@[simp] theorem zK:asO fo ρ=(fo ρ).map OD.d:=rfl
@[simp] theorem JQ:asT fl ρ=(fl ρ).map .tup:=rfl
@[simp] theorem HS:ao f fl ρ=(f ρ).bind λd=>(fl ρ).map λr=>d::r:=rfl
@[simp] theorem Jk:bA ρ=some []:=rfl
@[simp] theorem qW:c_ c ρ=(c ρ).map λb=>!b:=rfl
@[simp] theorem Jp:iM ρ=some true:=rfl
@[simp] theorem Jq{d:D}:setV i d ρ=some (ρ.set i (some (.v d))):=rfl
@[simp] theorem JA:ifV c f fa ρ=(c ρ).bind λb=>if b=true then f ρ else fa ρ:=rfl
@[simp] theorem yf:oE f ρ=(f ρ).bind fU:=rfl
def oQ:pH f ρ=(f ρ).bind λd=>(fU d).bind λds=>if eJ ds=true then some (ff ds)else none:=rfl
def gu{it:Dl}{st:Dq}:j7 it st g ρ=(it ρ).bind λds=>cN st g ds ρ:=rfl
@[simp] theorem Js:u3 i g ρ=match ρ[i]? with|some (some (.own o none))=>g (ρ.set i (some (.v o.d)))|some (some (.v d))=>g ρ|_=>none:=rfl
def gL{own:Nat}{it:Dl}{st:Dq}{e:Dd}:fB own ix it st c e ρ=(it ρ).bind λds=>if ds.length<=16777216 then gf st c e (jw own ix ρ) ds else none:=rfl
@[simp] theorem jv:fD c c' ρ=(c ρ).bind λb=>if b=true then c' ρ else some false:=rfl
@[simp] theorem Bu:orT c c' ρ=(c ρ).bind λb=>if b=true then some true else c' ρ:=rfl
@[simp] theorem qU:km f fa ρ=match f ρ with|some (.bl true)=>fa ρ|some (.bl false)=>some (.bl false)|_=>none:=rfl
@[simp] theorem GE:orV f fa ρ=match f ρ with|some (.bl false)=>fa ρ|some (.bl true)=>some (.bl true)|_=>none:=rfl
@[simp] theorem Jo:zQ f ρ=match f ρ with|some (.bl b)=>some (.bl (!b))|_=>none:=rfl
@[simp] theorem rY{F G:Dy}:chD F G fa fb fc ρ=(fa ρ).bind λx=>(fb ρ).bind λy=>match F x y with|some (.bl true)=>(fc ρ).bind λz=>G y z|some (.bl false)=>some (.bl false)|_=>none:=rfl
@[simp] theorem oP:me f ρ=match f ρ with|some (.lst ds)=>some ds|_=>none:=rfl
@[simp] theorem Ia:i9 i ρ=match ρ[i]? with|some (some (.bor (.lst ds)))=>some ds|some (some (.v (.lst ds)))=>some ds|_=>none:=rfl
def wK:ol f ρ=match f ρ with|some (.int j)=>if -(2^62)<=j/\j<2^62 then some (iw 0 j.toNat)else none|_=>none:=rfl
@[simp] theorem lQ{b a:DF->Option (Option Int)}:slS f b a ρ=match f ρ with|some (.str x)=>if x.length<=16777216 then(b ρ).bind λl=>(a ρ).map λh=>.str (Txt.slice x l h)else none|_=>none:=rfl
@[simp] theorem Jm:dU i f ρ=match ρ[i]? with|some (some (.own (.lst ds) t))=>(f ρ).bind λd=>if ds.length<16777216 then some (.nx (ρ.set i (some (.own (.lst (ds++[d])) t))))else none|_=>none:=rfl
@[simp] theorem zZ:wY is f ρ=(f ρ).bind λd=>(j9 is d ρ).map .nx:=rfl
@[simp] theorem qo:bI f ρ=match f ρ with|some (.int i)=>some (some i)|_=>none:=rfl
@[simp] theorem JO:bNo ρ=some none:=rfl
end
@[simp] theorem KY:(OD.lst ds).d=.lst ds:=rfl
@[simp] theorem K1{ds:List (List Key×D)}:(OD.dT ds).d=.dT ds:=rfl
@[simp] theorem KS{ds:List (Key×D)}:(OD.dK ds).d=.dK ds:=rfl
@[simp] theorem KM{ds:List (Str×D)}:(OD.ins C ds).d=.ins C ds:=rfl
@[simp] theorem KP:(OD.lst ds).flat=true:=rfl
@[simp] theorem KJ{ds:List (List Key×D)}:(OD.dT ds).flat=true:=rfl
@[simp] theorem KR{ds:List (Key×D)}:(OD.dK ds).flat=true:=rfl
@[simp] theorem KO{ds:List (Str×D)}:(OD.ins C ds).flat=true:=rfl
@[simp] theorem KH{d:D}:dvD (.v d)=some d:=rfl
@[simp] theorem K2{o:OD}{t:Option Addr}:dvD (.own o t)=some o.d:=rfl
@[simp] theorem KI{o:OD}{t:Option Addr}:dvO (.own o t)=some o:=rfl
@[simp] theorem KG{x:DV} :c9 (some (.rt x ρ))=some x:=rfl
@[simp] theorem KZ:c9 (some (.nx ρ))=some (.v .non):=rfl
@[simp] theorem KU{d:D}:yj (some (.v d))=some (.v d):=rfl
@[simp] theorem KQ{o:OD}{t:Option Addr}:yj (some (.own o t))=some (.bor o):=rfl
@[simp] theorem KN{o:OD}:yj (some (.bor o))=some (.bor o):=rfl
@[simp] theorem Jv{own:Nat}  :jw own ix ρ=List.replicate own none++ix.map λj=>yj (ρ[j]?).join:=rfl
@[simp] theorem JT:fU (.lst ds)=some ds:=rfl
@[simp] theorem fP:fU (.tup ds)=some ds:=rfl
@[simp] theorem KL:aK (.lst ds)=some (.int ds.length):=rfl
@[simp] theorem KW:aK (.tup ds)=some (.int ds.length):=rfl
def ix1{i:Int}:ixD (.lst ds) (.int i)=atI ds i:=rfl
def ix2{i:Int}:ixD (.tup ds) (.int i)=atI ds i:=rfl
@[simp] theorem Km{n p:Nat}  :mOf n p g xs=if xs.length=p then c9 (g (bn n p xs))else none:=rfl
@[simp] theorem Hx{n p:Nat} :bn n p xs=xs.map some++List.replicate (n-p) none:=rfl
def JR{x:Int}(h:0<=x/\x<3):x=0\/x=1\/x=2:=by
 obtain⟨m,rfl⟩:=Int.eq_ofNat_of_zero_le h.1;have a:∀m:Fin 3,((m:Nat):Int)=0\/((m:Nat):Int)=1\/((m:Nat):Int)=2:=by decide
 exact a ⟨m,Int.ofNat_lt.mp h.2⟩
def AU(s:Int):s%3=0\/s%3=1\/s%3=2:=JR ⟨Zg s (by decide),Za s (by decide)⟩
def okW(x:Str):Prop:=1<=x.cps.size/\x.cps.size<=3/\∀c∈x.cps.toList,97<=c/\c<=122
abbrev abc:Str := "abcdefghijklmnopqrstuvwxyz"
theorem vS(i:Int):∃c:Nat,ixD (.str abc) (.int (i%26))=some (.str ⟨#[c]⟩)/\97<=c/\c<=122:=by
 have h:∀j:Fin 26,∃c:Fin 123,ixD (.str abc) (.int (j:Nat))=some (.str ⟨#[(c:Nat)]⟩)/\97<=(c:Nat):=by
  intro j;refine⟨⟨97+j,by omega⟩,?_,by simp⟩;revert j;have:∀j:Fin 26,(atI abc.cps.toList ((j:Nat):Int))=some (97+(j:Nat)):=by decide+kernel
  intro j;show(if abc.length<=16777216 then(atI abc.cps.toList ((j:Nat):Int)).map λc=>D.str ⟨#[c]⟩else none)=_;rw[this j];rfl
 have f:0<=i%26:=Zg _ (by decide);have e:i%26<26:=Za _ (by decide);obtain⟨c,b,a⟩:=h ⟨(i%26).toNat,by omega⟩;refine⟨c,?_,a,by omega⟩;rw[<-b]
 congr 2
 simp only;omega
def gD(n:Int):List Int:=(List.range n.toNat).map λi:Nat=>(i:Int)
def fm(n:Int):(gD n).length=n.toNat:=by simp[gD]
def qh(n:Int):iw 0 n.toNat=(gD n).map D.int:=by unfold iw gD;simp
noncomputable def dP(p:Int×Int):D:=.tup [.int p.1,.int p.2]
def IZ{n:Nat}{a:DV}:mOf n 1 g [a]=c9 (g (bn n 1 [a])):=rfl
def Iw{n:Nat}{a b:DV}:mOf n 2 g [a,b]=c9 (g (bn n 2 [a,b])):=rfl
abbrev T4:=Int×Int×Int×Bool
noncomputable def dT4(t:T4):D:=.tup [.int t.1,.int t.2.1,.int t.2.2.1,.bl t.2.2.2]
def okT(n:Int)(t:T4):Prop:=0<=t.1/\t.1<n/\0<=t.2.1/\t.2.1<n/\t.1≠t.2.1/\0<=t.2.2.1/\t.2.2.1<1000000000000000000000000000000
def re{α:Type}{l:List α}{i:Int}(h:0<=i)(h1:i<l.length):atI l i=l[i.toNat]?:=by unfold atI ixN;rw[Yh h,Yh h1];rfl
theorem kJ{α a:Type}{l:List α}(f:α->a){i:Int}(b:0<=i)(h1:i<l.length):∃x,l[i.toNat]?=some x/\atI (l.map f) i=some (f x):=by
 have h:i.toNat<l.length:=by omega
 refine⟨l[i.toNat],Yz h,?_⟩;rw[re b (by rw[Yc];exact h1),YI,Yz h];rfl
theorem rh{n:Int}(h:f ρ=some (.int n))(b:0<=n/\n<=1000):ol f ρ=some ((gD n).map .int):=by
 have a:-(2^62)<=n/\n<2^62:=by omega
 rw[wK,h];simp only;rw[Yh a,qh]
def aj{h:Dw}(e:g ρ=some (.nx ρ')):al g h ρ=h ρ':=by rw[rB,e]
def fH{h:Dw}{x:DV}(e:g ρ=some (.rt x ρ')):al g h ρ=some (.rt x ρ'):=by rw[rB,e]
noncomputable def lf(t:T4):T4:=if t.2.2.2=true\/t.1<t.2.1 then t else(t.2.1,t.1,t.2.2.1,t.2.2.2)
def pT(b:List T4)(h:b.length<64):eJ (b.map dT4)=true:=by
 unfold eJ;simp only[Yn,YF,YE,Yc];refine⟨⟨⟨⟨h,?_⟩,?_⟩,?_⟩,?_⟩
 ·intro x a;obtain⟨t,_,rfl⟩:=Yt.mp a;rfl
 ·intro x a y e;obtain⟨t,_,rfl⟩:=Yt.mp a;obtain⟨u,_,rfl⟩:=Yt.mp e;rfl
 ·intro x a;obtain⟨t,_,rfl⟩:=Yt.mp a;rfl
 ·intro x a;obtain⟨t,_,rfl⟩:=Yt.mp a;rfl
def CM(a:List T4):Cmps 28 (a.map dT4):=
 ⟨λx h=>by obtain⟨t,_,rfl⟩:=Yt.mp h;rfl,λx h y b=>by obtain⟨t,_,rfl⟩:=Yt.mp h;obtain⟨u,_,rfl⟩:=Yt.mp b;rfl⟩
def kh{α:Type}(f:α->D)(g:D->α)(e:∀a,g (f a)=a){l:List D}{b:List α}(h:l.Perm (b.map f)):∃us:List α,l=us.map f/\us.Perm b:=by
 refine⟨l.map g,?_,?_⟩
 ·rw[Zn]
  conv=>lhs;rw[<-List.map_id l]
  refine List.map_congr_left λx i=>?_;obtain⟨t,_,rfl⟩:=Yt.mp (h.mem_iff.mp i);show _=f (g (f t));rw[e];rfl
 ·have:=h.map g;rw[Zn,show g ∘ f=id from funext e,List.map_id]at this;exact this
noncomputable def KA:D->T4
 |.tup [.int a,.int b,.int k,.bl o]=>(a,b,k,o)
 |_=>(0,0,0,false)
def rV(a:List T4):∃us:List T4,ff (a.map dT4)=us.map dT4/\us.Perm a:=kh dT4 KA (λ_=>rfl) (eU _)
def Bz{κ:Type}[DecidableEq κ](k:κ)(v:D)(kvs:List (κ×D)):(iL kvs k v).length<=kvs.length+1:=by
 unfold iL;split
 ·simp
 ·simp
def okK(n:Int)(ks:List Str):Prop:=(ks.length:Int)=n/\∀k∈ks,okW k
def okS(n:Int)(a:List T4):Prop:=a.length<=12/\∀t∈a,okT n t
def yB{g:Dd} :nW i f g ρ=match ρ[i]? with
 |some (some (.own (.lst ds) t))=>(g ρ).bind λd=>(f ρ).bind λ
  |.int k=>(ixN ds.length k).map λj=>.nx (ρ.set i (some (.own (.lst (ds.set j d)) t)))
  |_=>none
 |_=>none:=rfl
def sD{it:Dl}{st:Dq}{r:RES}(h:it ρ=some ds)(e:cN st g ds ρ=some r):j7 it st g ρ=some r:=by rw[gu,h];exact e
theorem AZ C x(h1:x.cps.size<400000)(g:∀c∈x.cps.toList,97<=c/\c<=122):bt C [.v (.str x)]=some (.v (.bl (decide (1<=x.cps.size)&&decide (x.cps.size<=3)))):=by
 have p:gf (setV 0) iM (chD leA leA (λ_=>some<|.str "a") (ar 0) λ_=>some<|.str "z") [none] (L2.signs x)=some (x.cps.toList.map λ_=>D.bl true):=by
  unfold L2.signs;refine gG _ _ _ λc f=>?_;obtain⟨w,u⟩:=g c f;refine⟨[some _],rfl,rfl,?_⟩;have e:leA (.str "a") (.str ⟨#[c]⟩)=some (.bl true):=by
   show some (D.bl<|!decide ([c] < [97]))=_;have:¬([c] < [97]):=λh=>by rcases List.cons_lt_cons_iff.mp h with h|⟨_,h⟩;omega;exact absurd h<|List.not_lt_nil _
   rw[Yi this];rfl
  have l:leA (.str ⟨#[c]⟩) (.str "z")=some (.bl true):=by
   show some (D.bl<|!decide ([122] < [c]))=_;have:¬([122] < [c]):=λh=>by rcases List.cons_lt_cons_iff.mp h with h|⟨_,h⟩;omega;exact absurd h<|List.not_lt_nil _
   rw[Yi this];rfl
  simp[e,l]
 have b:(L2.signs x).length<=16777216:=by unfold L2.signs;rw[Yc,ZD];omega
 have o:vd (.lst<|x.cps.toList.map λ_=>D.bl true)=some (.bl true):=by
  have s:((x.cps.toList.map λ_=>D.bl true).all rA)=true:=by simp[rA]
  have q:((x.cps.toList.map λ_=>D.bl true).all trD)=true:=by simp[trD]
  show(if((x.cps.toList.map λ_=>D.bl true).all rA)=true then some (D.bl _)else none)=_;rw[Yh s,q]
 have m:aK (.str x)=some (.int x.cps.size):=Yh (show x.cps.size<=16777216 by omega);have a:fB 1 [] (pA<|getV 0) (setV 0) iM (chD leA leA (λ_=>some<|.str "a") (ar 0) λ_=>some<|.str "z") [some<|.v<|.str x,none]=some (x.cps.toList.map λ_=>D.bl true):=by have:pA (getV 0) [some<|.v<|.str x,none]=some _:=rfl;rwa[gL,this,Ya,Yh b]
 unfold bt iE;have j:decide (1<=(x.cps.size:Int))=decide (1<=x.cps.size):=decide_eq_decide.mpr (by omega);have i:decide ((x.cps.size:Int)<=3)=decide (x.cps.size<=3):=decide_eq_decide.mpr (by omega);generalize (chD leA leA _ (ar 0) _)=E at a ⊢;generalize _=L at *;show c9 _=_;rw[aj (ρ':=[some<|.v<|.str x,some<|.v<|.bl true])<|by simp[a,o]];simp[d9,qU,rY,bX,mH,Ep,Zy,Xd,Ya,m,sr,j,i];cases decide (1<=x.cps.size)<;>rfl
theorem nO C x(h:okW x):bt C [.v (.str x)]=some (.v (.bl true)):=by obtain⟨e,b,a⟩:=h;rw[AZ C x (by omega) a,Yk e,Yk b];rfl
def FX C t n(h:okT n t):g9 C [.v (dT4 t),.v (.int n)]=some (.v (.bl true)):=by
 obtain⟨a,b,k,o⟩:=t;obtain⟨m,l,i,b1,j,f,e⟩:=h;simp at m l i b1 j f e;have s:atI [D.int a,.int b,.int k,.bl o] 0=some _:=rfl;have q:atI [D.int a,.int b,.int k,.bl o] 1=some _:=rfl;have p:atI [D.int a,.int b,.int k,.bl o] 2=some _:=rfl;have g:dM C [.v<|.int k]=some (.v<|.bl true):=by simp[dM,jC,f,e]
 unfold g9 uk;generalize dM C=M at g ⊢;simp[dT4,ix2,s,q,p,m,l,i,b1,j,g]
theorem zc C ks a n(i:1<=n/\n<=7)(j:okK n ks)(g:okS n a):dj C [.v (.lst (ks.map .str)),.v (.lst (a.map dT4))]=some (.v .non):=by
 have m:=nO C;have l:=λt h=>FX C t n h
 unfold dj jg;generalize bt C=P at m ⊢;generalize g9 C=T at l ⊢;have e:=j.1;have s:=i.1;have p:=i.2;have o:¬12<(a.length:Int):=by have:=g.1;omega
 have q:∀G,(al (dIf (c_<|asB<|chD leA leA (cI 1) (d1 aK<|ar 0)<|cI 7) k_ dNx)<|al (dIf (asB<|d2 gtI (d1 aK<|ar 1)<|cI 12) k_ dNx) G) (bn 4 2 [.v<|.lst<|ks.map .str,.v<|.lst<|a.map dT4])=G [some<|.v<|.lst<|ks.map .str,some<|.v<|.lst<|a.map dT4,none,none]:=by intro G;simp[e,s,p,o]
 obtain⟨A,w,y,rfl⟩:=tW (st:=setV 2) (body:=(dIf (c_<|asB<|bv P<|aV (getV 2) nA) k_ dNx)) (λρ=>∃x2,ρ=[some _,some _,x2,none]) (ρ:=[some _,some _,none,none]) ⟨_,rfl⟩ (by
  rintro d f _ ⟨x2,rfl⟩;obtain⟨k,b,rfl⟩:=Yt.mp f;have:=m k<|j.2 k b;refine⟨[some _,some _,some<|.v<|.str k,none],rfl,[some<|.v<|.lst<|ks.map .str,some<|.v<|.lst<|a.map dT4,some<|.v<|.str k,none],?_,_,rfl⟩;simp[this])
 obtain⟨z,u,B,rfl⟩:=tW (st:=setV 3) (body:=(dIf (c_<|asB<|bv T<|aB 3<|aV (d1 aK<|ar 0) nA) k_ dNx)) (λρ=>∃x,ρ=[some _,some _,y,x]) (ρ:=[some _,some _,y,none]) ⟨_,rfl⟩ (by
  rintro d f _ ⟨x2,rfl⟩;obtain⟨k,b,rfl⟩:=Yt.mp f;have:=l k<|g.2 k b;refine⟨[some _,some _,y,some<|.v<|dT4 k],rfl,[some<|.v<|.lst<|ks.map .str,some<|.v<|.lst<|a.map dT4,y,some<|.v<|dT4 k],?_,_,rfl⟩;simp[e,this])
 rw[Iw,q,aj<|sD (ds:=ks.map D.str) rfl w,sD (ds:=a.map dT4) rfl u];rfl
def yn C t:dn C [.v (dT4 t)]=some (.v (dT4 (lf t))):=by
 obtain⟨a,b,k,o⟩:=t;have i:atI [D.int a,.int b,.int k,.bl o] 0=some _:=rfl;have g:atI [D.int a,.int b,.int k,.bl o] 1=some _:=rfl;have f:atI [D.int a,.int b,.int k,.bl o] 2=some _:=rfl;have e:atI [D.int a,.int b,.int k,.bl o] 3=some _:=rfl;unfold dn iR;cases o with
 |true=>simp[dT4,ix2,i,g,f,e,lf]
 |false=>
  by_cases h:a<b
  ·simp[dT4,ix2,i,g,f,e,lf,h]
  ·simp[dT4,ix2,i,g,f,e,lf,h]
def okJ(m:Nat)(kvs:List (List Key×D)):Prop:=kvs.length<=m/\∀kv∈kvs,∃p:List _,kv.2=.tup (p.map dP)/\p.length<=m
def An(b:List (Int×Int))(h:b.length<64):eJ (b.map dP)=true:=by
 unfold eJ;simp only[Yn,YF,YE,Yc];refine⟨⟨⟨⟨h,?_⟩,?_⟩,?_⟩,?_⟩
 ·intro x a;obtain⟨t,_,rfl⟩:=Yt.mp a;rfl
 ·intro x a y e;obtain⟨t,_,rfl⟩:=Yt.mp a;obtain⟨u,_,rfl⟩:=Yt.mp e;rfl
 ·intro x a;obtain⟨t,_,rfl⟩:=Yt.mp a;rfl
 ·intro x a;obtain⟨t,_,rfl⟩:=Yt.mp a;rfl
noncomputable def unP:D->Int×Int
 |.tup [.int a,.int b]=>(a,b)
 |_=>(0,0)
def zX[DecidableEq κ]{k:κ}(h:dC kvs k=some d):∃a∈kvs,a.2=d:=by
 unfold dC at h;cases q:kvs.find? λa=>decide (a.1=k)with
 |none=>rw[q]at h;cases h
 |some a=>rw[q]at h;cases h;exact⟨a,List.mem_of_find?_eq_some q,rfl⟩
theorem Ex{m}(h:okJ m kvs)k(us:List (Int×Int))(f:us.length<=m+1):okJ (m+1) (iL kvs k (.tup (us.map dP))):=by
 refine⟨YW (Bz ..)<|XH h.1,λg a=>?_⟩;unfold iL at a;split at a
 ·obtain⟨b,h1,rfl⟩:=Yt.mp a;split
  ·exact⟨us,rfl,f⟩
  ·obtain⟨p,e,l⟩:=h.2 b h1;exact⟨p,e,by omega⟩
 ·rcases Yj.mp a with h1|h1
  ·obtain⟨p,e,l⟩:=h.2 g h1;exact⟨p,e,by omega⟩
  ·rw[Yo.mp h1];exact⟨us,rfl,f⟩
def Br{fk} :xB j fk fv ρ=match ρ[j]? with
 |some (some<|.own (.dT kvs) t)=>(fv ρ).bind λv=>(fk ρ).bind λy=>(uI y).bind λk=>if kvs.length<16777216 then some (.nx<|ρ.set j<|some<|.own (.dT<|iL kvs k v) t)else none
 |_=>none:=rfl
def vI{fd fk} :mQ fd fk fx ρ=match fd ρ with
 |some (.dT kvs)=>(fk ρ).bind λy=>(uI y).bind λk=>(fx ρ).map λx=>(dC kvs k).getD x
 |_=>none:=rfl
theorem FT C m kvs a b k f(H:m<=50)(h:okJ m kvs):∃g,dY C (.dT kvs) [.v (.tup [.int a,.int b]),.v (.tup [.int k,.int f])]=some (.dT g,.non)/\okJ (m+1) g:=by
 have x:∃p:List<|Int×Int,(dC kvs [.inl a,.inl b]).getD (.tup [])=.tup (p.map dP)/\p.length<=m:=by
  cases q:dC kvs [.inl a,.inl b]with
  |none=>exact⟨[],rfl,YQ _⟩
  |some d=>
   obtain⟨w,j,e⟩:=zX q;obtain⟨p,B,l⟩:=h.2 w j;exact⟨p,e.symm.trans B,l⟩
 obtain⟨p,y,pl⟩:=x;obtain⟨u,A,s⟩:=kh dP unP (λ_=>rfl)<|eU<|(p++[(k,f)]).map dP;have z:af (.tup<|p.map dP) (.tup [.tup [.int k,.int f]])=some (.tup<|(p++[(k,f)]).map dP):=by rw[YB];exact Yh<|by rw[Yc];show p.length+1<=_;omega
 have i:=An (p++[(k,f)]) (by rw[Yb,YU];omega);refine⟨iL kvs [.inl a,.inl b] _,wj rfl rfl λE=>⟨.nx [some _,some<|.v<|.tup [.int a,.int b],some<|.v<|.tup [.int k,.int f]],?_,rfl,rfl⟩,Ex h _ u<|by rw[s.length_eq,Yb,YU];omega⟩;have o:kvs.length<16777216:=by have:=h.1;omega
 generalize (p++[(k,f)]).map dP=L,p.map dP=I at *;unfold n5;simp[Br,vI,uI,jS,lD,y,z,oQ,i,A,A9,o]
theorem zt C(g:List T4)(P:g.length<=12):∃kvs,f9 C [.v (.lst (g.map dT4))]=some (.own (.dT kvs) none):=by
 have u:=FT C;unfold f9 oV;generalize dY C=M at u ⊢;obtain⟨z,e,kvs,O,N,L,K,rfl,A⟩:=rU (st:=j9 [2,3,4,5]) (body:=(al (i6 K0 1 M<|aV (asT<|ao (getV 2)<|ao (getV 3) bA)<|aV (asT<|ao (getV 4)<|ao (ifV (asB<|getV 5) (cI 1)<|cI 0) bA) nA)
 <|i6 K0 1 M<|aV (asT<|ao (getV 3)<|ao (getV 2) bA)<|aV (asT<|ao (getV 4)<|ao (ifV (asB<|getV 5) (cI 2)<|cI 0) bA) nA))
  (λj E=>∃(kvs:List _) (x2 y w x:Option DV),E=[some _,some<|.own (.dT kvs) none,x2,y,w,x]/\okJ (2*j) kvs) (g.map dT4) 0
  [some _,some _,none,none,none,none] ⟨[],_,_,_,_,rfl,Yy _,λ_ h=>by cases h⟩ (by
   rintro j d _ B ⟨kvs,x2,y,w,x,rfl,A⟩;have I:j<g.length:=by have:=(YM.mp B).1;rwa [Yc]at this
   obtain⟨⟨a,b,k,o⟩,_,rfl⟩:=Yt.mp<|Zd B;obtain⟨p,s,J⟩:=u _ kvs a b k (if o=true then 1 else 0) (by omega) A;obtain⟨i,q,Q⟩:=u _ p b a k (if o=true then 2 else 0) (by omega) J;refine⟨[some _,some _,some _,some _,some _,some _],rfl,[some<|.v<|.lst<|g.map dT4,some _,some<|.v<|.int a,some<|.v<|.int b,some<|.v<|.int k,some<|.v<|.bl o],?_,i,_,_,_,_,rfl,by rwa [show 2*(0+j+1)=2*(0+j)+1+1 by omega]⟩;cases o with
   |true=>
    simp[VC]at s q;simp[i6,rO,Ct,s,q]
   |false=>
    simp at s q;simp[i6,rO,Ct,s,q])
 refine⟨kvs,?_⟩;rw[IZ];have H:dF 1 (λ_=>some<|.dT []) (bn 6 1 [.v<|.lst<|g.map dT4])=some (.nx [some<|.v<|.lst<|g.map dT4,some<|.own (.dT []) none,none,none,none,none]):=rfl;rw[aj H,aj<|sD (ds:=g.map dT4) rfl e];rfl
def wFs(ks:List Str)(T J:D):List (Str×D):=[("kinds",.lst<|ks.map .str),("ties",T),("joins",J)]
theorem n1:¬(("kinds":Str) = "ties"):=by decide+kernel
theorem n2:¬(("kinds":Str) = "joins"):=by decide+kernel
theorem n3:¬(("ties":Str) = "joins"):=by decide+kernel
theorem b1:(("ties":Str) == "kinds")=false:=by decide+kernel
theorem b2:(("size":Str) == "kinds")=false:=by decide+kernel
theorem b3:(("size":Str) == "ties")=false:=by decide+kernel
theorem b4:(("size":Str) == "joins")=false:=by decide+kernel
def qB:fF C n (.ins C fs)=fs.lookup n:=Yh rfl
def yG C ks T J:fF C "kinds" (.ins C (wFs ks T J))=some (.lst (ks.map .str)):=by rw[qB];unfold wFs;simp
def zY C ks T J:fF C "ties" (.ins C (wFs ks T J))=some T:=by rw[qB];unfold wFs;simp[List.lookup,b1]
def BA  :pI C i n fv ρ=match ρ[i]? with
 |some (some<|.own (.ins C' fs) t)=>if C'=C then(fv ρ).bind λd=>if fs.length<1000 then some (.nx<|ρ.set i<|some<|.own (.ins C<|oH n d fs) t)else none else none
 |_=>none:=rfl
def srt(ts:List T4):List D:=ff<|(ts.map lf).map dT4
theorem CH C ks a n(s:1<=n/\n<=7)(w:okK n ks)(h:okS n a):∃J,eG C (.ins C []) [.v (.lst (ks.map .str)),.v (.lst (a.map dT4))]=some (.ins C (wFs ks (.lst (srt a)) J),.non):=by
 have i:=zc C ks a n s w h;have j:=yn C;obtain⟨u,m,p⟩:=rV<|a.map lf;obtain⟨b,l⟩:=zt C u (by rw[p.length_eq,Yc];exact h.1);have f:=pT (a.map lf) (by rw[Yc];have:=h.1;omega);refine⟨.dT b,wj rfl rfl λz=>⟨.nx [some _,some<|.v<|.lst<|ks.map .str,some<|.v<|.lst<|a.map dT4],?_,rfl,rfl⟩⟩;unfold lX;generalize dj C=R at i ⊢;generalize dn C=L at j ⊢;generalize f9 C=J at l ⊢;have e:srt a=u.map dT4:=m;rw[e];have o:gf (setV 0) iM (bv L<|aV (getV 0) nA) [none] (a.map dT4)=some ((a.map lf).map dT4):=by
  rw[Zn];refine gG dT4 _ a λt _=>⟨[some _],rfl,rfl,?_⟩
  simp[j]
 have q:a.length<=16777216:=by have:=h.1;omega
 generalize (bv L _)=E at o ⊢;generalize (a.map lf).map dT4=X at *;have x:∀fs:List<|Str×D,fF C "ties" (.ins C [("kinds",.lst<|ks.map .str),("ties",.lst<|u.map dT4)])=some (.lst<|u.map dT4):=by intro _;rw[qB];simp[List.lookup,b1]
 have g:=x [];generalize u.map dT4=Y,hX:a.map dT4=Z at *;have y:Z.length<=16777216:=by rwa[<-hX,Yc]
 simp[i,BA,oH,oQ,gL,y,o,f,m,g,l,n1,n2,n3,wFs]
def EK C ks a n(f:1<=n/\n<=7)(i:okK n ks)(b:okS n a):∃J,∀g ρ,g ρ=some [.v (.lst (ks.map .str)),.v (.lst (a.map dT4))]->pY C (eG C) g ρ=some (.ins C (wFs ks (.lst (srt a)) J)):=by obtain⟨J,e⟩:=CH C ks a n f i b;refine⟨J,λg ρ h=>?_⟩;unfold pY;rw[h,Ya,e];rfl
theorem og{α:Type}f(h:∀x y,aF (f x) (f y)=true):∀a b:List α,b5 (a.map f) (b.map f)=true
 |[],_=>rfl
 |_::_,[]=>rfl
 |x::a,y::b=>by
  rw[YD,YD];show(aF (f x) (f y)&&b5 _ _)=true;rw[og f h a b,h];rfl
def A0{α:Type}f(h:∀x y,aF (f x) (f y)=true)(a:List α):eqd (.lst (a.map f)) (.lst (a.map f))=true:=(oW _ _<|og f h a a).mpr rfl
theorem Fc(h:okK n ks):okN 30 (.lst (ks.map .str))=true:=by show(ks.map D.str).all _=true;rw[YE];intro x a;obtain⟨k,b,rfl⟩:=Yt.mp a;show PyData.strOk k=true;unfold PyData.strOk;rw[<-Array.all_toList,YE];intro c e;have:=(h.2 k b).2.2 c e;exact Yk<|by omega
def AL{x y}(hx:okN 30 x=true)(h:okN 30 y=true):eqD x y=some (.bl (eqd x y)):=Yh<|by rw[hx,h];rfl
def BX{x y}(hx:okN 30 x=true)(h:okN 30 y=true):neD x y=some (.bl (!eqd x y)):=Yh<|by rw[hx,h];rfl
def zj C i:dZ C [.v (.int i)]=some (.v (.bl true)):=rfl
def Fb t:okN 30 (dT4 t)=true:=rfl
def HI t:eqD (dT4 t) (dT4 t)=some (.bl true):=by rw[AL (Fb t)<|Fb t];have h:eqd _ (dT4 t)=true:=(dD _ _ rfl).mpr rfl;rw[h]
def EE a:(srt a).length=a.length:=by unfold srt;obtain⟨u,e,p⟩:=rV<|a.map lf;rw[e,Yc,p.length_eq,Yc]
def Hb a:∃us:List T4,srt a=us.map dT4/\us.Perm (a.map lf):=rV<|a.map lf
def wW[DecidableEq κ]{a}{k:κ}(h:∀p∈a,p.1≠k):iL a k v=a++[(k,v)]:=by unfold iL;rw[Yp];intro z;obtain⟨p,b,e⟩:=List.any_eq_true.mp z;exact h p b<|YN e
theorem pQ{α b:Type}(f:α->b):∀(l:List α) j,(l.eraseIdx j).map f=(l.map f).eraseIdx j
 |[],_=>rfl
 |_::_,0=>rfl
 |a::l,j+1=>YH _<|pQ f l j
def AM a us(p:(us.map lf).Perm (a.map lf)):srt us=srt a:=by unfold srt;exact vg (p.map dT4)<|CM _
end My
namespace My
open PySem PySem.Spec PyProof.Rows L2 Builtin Builtin.Str
noncomputable def sT (l:List Nat):Str:=⟨l.toArray⟩
abbrev sI(i:Int):Option DV:=some<|.v<|.int i
abbrev sS(l:List Nat):Option DV:=some<|.v<|.str<|sT l
abbrev sV(d:D):Option DV:=some<|.v d
abbrev sO(o:OD)(t:Option Addr):Option DV:=some<|.own o t
def vF a b:sT a++sT b=sT (a++b):=by show Str.append _ _=_;unfold Str.append sT;rw[List.append_toArray]
def bW a:(sT a).length=a.length:=Yu
def IX x:sT x.cps.toList=x:=rfl
def lJ a:(sT a).cps.toList=a:=rfl
theorem EI(a b n:Nat)(h:a<=n):strSliceIndices (some a) (some b) 1 n=strSliceIndices (some a) (some ((min b n:Nat))) 1 n:=by
 have f:¬((b:Int)<0):=by omega
 have e:¬(((min b n:Nat):Int)<0):=by omega
 have g:max 0 (min ((min b n:Nat):Int) n)=max 0 (min (b:Int) n):=by omega
 simp[strSliceIndices,f,e,if_false,g,show(1 > 0)=True from by simp,VC]
theorem jn l(a b:Nat)(o:a<=b)(p:a<=l.length):Txt.slice (sT l) (some a) (some b)=sT ((l.drop a).take (b-a)):=by
 have f:a<=min b l.length:=by omega
 have i:min b l.length<=(sT l).length:=by rw[bW];omega
 have e:=StrLaws.sliced_plain (sT l) f i;have j:=StrLaws.strSliceIndices_plain f i;have q:=EI a b l.length p;have m:(l.drop a).take (min b l.length-a)=(l.drop a).take (b-a):=by
  by_cases h:b<=l.length
  ·rw[Nat.min_eq_left h]
  ·rw[Nat.min_eq_right<|by omega,ZS<|by simp,ZS<|by simp;omega]
 unfold Txt.slice;rw[bW]at e j ⊢;rw[q];split
 ·rename_i g;rw[j]at g;simp at g;have:a=0:=by omega
  subst this;rw[List.drop_zero,ZS<|by omega]
 ·rw[e,lJ,m];rfl
def AK x y:leA (.str x) (.str y)=some (.bl (!decide (y.cps.toList<x.cps.toList))):=rfl
theorem Jz a c:leA (.str (sT [a])) (.str (sT [c]))=some (.bl (decide (a<=c))):=by
 rw[AK,lJ,lJ,StrLaws.lt_cons_cons];refine YH _ ?_;by_cases h:a<=c
 ·rw[Yi<|show ¬c<a by omega,StrLaws.lt_nil_nil,Yk h,Bool.and_false];rfl
 ·rw[Yk<|show c<a by omega,Yi h];rfl
def Ky a:leA (.str (sT [a])) (.str (sT []))=some (.bl false):=by rw[AK,lJ,lJ,StrLaws.lt_nil_cons];rfl
def wF x y:eqd (.str x) (.str y)=decide (x=y):=by
 by_cases h:x=y
 ·rw[Yk h,h];exact(dD _ _ rfl).mpr rfl
 ·rw[Yi h];cases e:eqd _ (.str y)with
  |false=>rfl
  |true=>exact absurd (D.str.inj<|(dD _ _ rfl).mp e) h
def dig(m:Nat):List Nat:=(Nat.toDigits 10 m).map Char.toNat
def wG m:(Str.ofString (toString ((m:Nat):Int)))=sT (dig m):=by rw[<-IX<|Str.ofString _,PySem.W.KIN.signs_num];rfl
def lm{m}(h:m<10):dig m=[m+48]:=by
 unfold dig;rw[Nat.toDigits_of_lt_base h];have:∀d:Nat,d<10->[(Nat.digitChar d).toNat]=[d+48]:=by decide
 exact this m h
theorem sC{m}(h:10<=m):dig m=dig (m/10)++[m%10+48]:=by have a:m%10<10:=Nat.mod_lt m (by decide);have t:Nat.toDigits 10 (m/10)++Nat.toDigits 10 (m%10)=Nat.toDigits 10 _:=Nat.toDigits_append_toDigits (by decide) (by omega) a;rw[Nat.div_add_mod]at t;rw[<-lm a];unfold dig;rw[<-YB,t]
theorem mZ{P:Nat->Prop}(a:∀m,m<10->P m)(h1:∀m,10<=m->P (m/10)->P m)m:P m:=by
 induction m using Nat.strongRecOn with
 |_ m ih=>
  by_cases h:m<10
  ·exact a m h
  ·exact h1 m (by omega)<|ih (m/10)<|by omega
theorem rb m:∀c∈dig m,48<=c/\c<=57:=mZ (P:=λm=>∀c∈dig m,48<=c/\c<=57) (λm h c hc=>by
 rw[lm h,Yo]at hc;omega) (λm h ih c hc=>by
 rw[sC h,Yj,Yo]at hc;rcases hc with hc|hc
 ·exact ih c hc
 ·omega) m
def vc m:dig m≠[]:=mZ (P:=λm=>dig m≠[]) (λm h=>by rw[lm h];simp) (λm h _=>by rw[sC h];simp) m
def DK m:PySem.NumText.digitsVal (dig m)=m:=PySem.W.KIN.val_back m
theorem fG m:∀k,1<=k->m<10^k->(dig m).length<=k:=mZ (P:=λm=>∀k,1<=k->m<10^k->(dig m).length<=k) (λm h k b _=>by rwa[lm h]) (λm h ih k b a=>by
 rw[sC h,Yb];obtain⟨j,rfl⟩:∃j,k=j+1:=⟨k-1,by omega⟩
 have hj:1<=j:=by
  rcases Nat.eq_zero_or_pos j with rfl|hj
  ·simp at a;omega
  ·exact hj
 have:=ih j hj (by rw[Nat.pow_succ]at a;omega);exact XH this) m
theorem zL m:m=0\/(dig m).head?≠some 48:=mZ (P:=λm=>m=0\/(dig m).head?≠some 48) (λm h=>by
 rw[lm h];by_cases e:m=0
 ·exact .inl e
 ·exact .inr<|by simp;omega) (λm h ih=>by
 rw[sC h];refine .inr ?_;rcases ih with ih|ih
 ·omega
 ·have:=vc<|m/10;rwa[List.head?_append,show(dig<|m/10).head?.or [m%10+48].head?=(dig<|m/10).head? from by cases a:dig (m/10)with|nil=>exact absurd a this|cons x r=>rfl]) m
end My
namespace My
open PySem PySem.Spec PyProof.Rows L2
def rdF(l:List Nat)(a:Nat)(K T G:List D)(B Q:List (Key×D)):List (Str×FO):=[("text",.d<|.str<|sT l),("at",.d<|.int a),("kinds",.lst K),("ties",.lst T),("hung",.lst G),("begun",.dK B),("closed",.dK Q)]
def rd(l:List Nat)(a:Nat)(K T G:List D)(B Q:List (Key×D)):OD:=.obj (some aa)<|rdF l a K T G B Q
abbrev sgn(C:Addr):DF->Option D:=fZ aa "sign" (bj C)<|gK (jb 0) g0
section
variable  {a:Nat}{K G:List D}  {t:Option Addr}{σ:DF}
def wB:dR (some aa) 0 "text" (sO (rd l a K T G B Q) t::σ)=some (.str (sT l)):=by kernel_rfl
def AD:dR (some aa) 0 "at" (sO (rd l a K T G B Q) t::σ)=some (.int a):=by kernel_rfl
def Av:dR (some aa) 0 "text" (some (.bor (rd l a K T G B Q))::σ)=some (.str (sT l)):=by kernel_rfl
def AF:dR (some aa) 0 "at" (some (.bor (rd l a K T G B Q))::σ)=some (.int a):=by kernel_rfl
def z6:aP (some aa) 0 "kinds" (sO (rd l a K T G B Q) t::σ)=some (.lst K):=by kernel_rfl
def wd:aP (some aa) 0 "hung" (sO (rd l a K T G B Q) t::σ)=some (.lst G):=by kernel_rfl
def kX:aP (some aa) 0 "begun" (sO (rd l a K T G B Q) t::σ)=some (.dK B):=by kernel_rfl
def pJ:aP (some aa) 0 "closed" (sO (rd l a K T G B Q) t::σ)=some (.dK Q):=by kernel_rfl
def G5:jL (some aa) 0 "at" (cI 1) (sO (rd l a K T G B Q) t::σ)=some (.nx (sO (rd l (a+1) K T G B Q) t::σ)):=by kernel_rfl
def lq{C}{o o'}(h1:fs.lookup n=some o)(h2:k o=some o')(h:fs.length<1000):eB C 0 n k (sO (.obj C fs) t::σ)=some (sO (.obj C (fS n o' fs)) t::σ):=by unfold eB;show(if C=C/\fs.length<1000 then _ else _)=_;rw[Yh ⟨rfl,h⟩,h1,Ya,h2];rfl
def DS(b:f (sO (rd l a K T G B Q) t::σ)=some d)(h:K.length<16777216):cm (some aa) 0 "kinds" f (sO (rd l a K T G B Q) t::σ)=some (.nx (sO (rd l a (K++[d]) T G B Q) t::σ)):=by
 unfold cm;rw[b,Ya];refine(YH _<|lq (n := "kinds") (o:=.lst K) (by kernel_rfl) (Yh h)<|by show 7<1000;decide).trans ?_
 kernel_rfl
def Ew(b:f (sO (rd l a K T G B Q) t::σ)=some d)(h:G.length<16777216):cm (some aa) 0 "hung" f (sO (rd l a K T G B Q) t::σ)=some (.nx (sO (rd l a K T (G++[d]) B Q) t::σ)):=by
 unfold cm;rw[b,Ya];refine(YH _<|lq (n := "hung") (o:=.lst G) (by kernel_rfl) (Yh h)<|by show 7<1000;decide).trans ?_
 kernel_rfl
def Gn{f}(b:f (sO (rd l a K T G B Q) t::σ)=some ds)(h:T.length+ds.length<=16777216):sX (some aa) 0 "ties" f (sO (rd l a K T G B Q) t::σ)=some (.nx (sO (rd l a K (T++ds) G B Q) t::σ)):=by
 unfold sX;rw[b,Ya];refine(YH _<|lq (n := "ties") (o:=.lst T) (by kernel_rfl) (Yh h)<|by show 7<1000;decide).trans ?_
 kernel_rfl
def Ck{g}(i:f (sO (rd l a K T G B Q) t::σ)=some (.int n))(e:g (sO (rd l a K T G B Q) t::σ)=some d)(b:B.length<16777216)(h:∀p∈B,p.1≠.inl n):l_ (some aa) 0 "begun" f g (sO (rd l a K T G B Q) t::σ)=some (.nx (sO (rd l a K T G (B++[(.inl n,d)]) Q) t::σ)):=by
 unfold l_;rw[e,Ya,i,Ya,<-wW h];refine(YH _<|lq (n := "begun") (o:=.dK B) (by kernel_rfl) (Yh b)<|by show 7<1000;decide).trans ?_
 kernel_rfl
def Dr{g}(i:f (sO (rd l a K T G B Q) t::σ)=some (.int n))(e:g (sO (rd l a K T G B Q) t::σ)=some d)(b:Q.length<16777216)(h:∀p∈Q,p.1≠.inl n):l_ (some aa) 0 "closed" f g (sO (rd l a K T G B Q) t::σ)=some (.nx (sO (rd l a K T G B (Q++[(.inl n,d)])) t::σ)):=by
 unfold l_;rw[e,Ya,i,Ya,<-wW h];refine(YH _<|lq (n := "closed") (o:=.dK Q) (by kernel_rfl) (Yh b)<|by show 7<1000;decide).trans ?_
 kernel_rfl
def Hs{m}{o}{g:DXs}{b:DF}(e:(rdF l a K T G B Q).lookup mn=none)
  (f:g (sO (rd l a K T G B Q) t::σ)=some (ds,sO o t::b)) (h:m o (ds.map .v)=some (o',d)):ge aa mn 0 m g (sO (rd l a K T G B Q) t::σ)=some (d,sO o' t::b):=by
 unfold ge;show(if List.lookup mn _=none then _ else _)=_;rw[Yh e,f,Ya];show(m o _).map _=_;rw[h];rfl
theorem Fy C(hd:l.drop a=r)(b:a<=l.length)(h:l.length<=16777216):sgn C (sO (rd l a K T G B Q) t::σ)=some (.str (sT (r.take 1))):=by
 have e:bj C [.bor<|rd l a K T G B Q]=sS (r.take 1):=by show c9 (bb _ [some _])=_;rw[d9,lQ,Av];show c9 (Option.map _<|if(sT l).length<=16777216 then _ else none)=_;rw[bW,Yh h,qo,AF,qo,aq,AF];show some (DV.v<|.str<|Txt.slice (sT l) _<|some<|(a+1:Nat))=_;rw[jn l a (a+1) (by omega) b,hd,XU]
 show(if uu aa "sign" [.bor<|rd l a K T G B Q]=true then(bj C [.bor _]).bind dvD else none)=_;rw[Yh<|by kernel_rfl,e];rfl
end
def gQ{body}(h:c ρ=some false):cD c body (k+1) ρ=some (.nx ρ):=by unfold cD;rw[h]
def lr{body}(h:c ρ=some true)(a:body ρ=some (.nx ρ')):cD c body (k+1) ρ=cD c body k ρ':=by
 conv=>lhs;unfold cD
 rw[h,a]
def lO{body}(h:c ρ=some false):cK c body (k+1) ρ=some (.go (.nx ρ)):=by unfold cK;rw[h]
def lB{body}(h:c ρ=some true)(a:body ρ=some (.go (.nx ρ'))):cK c body (k+1) ρ=cK c body k ρ':=by
 conv=>lhs;unfold cK
 rw[h,a]
def lF{body}(h:c ρ=some true)(a:body ρ=some (.ex j)):cK c body (k+1) ρ=some (.ex j):=by
 conv=>lhs;unfold cK
 rw[h,a]
def aM{g h}(e:g ρ=some (.go (.nx ρ'))):bq g h ρ=h ρ':=by unfold bq;rw[e]
def bL{g h}(e:g ρ=some (.ex k)):bq g h ρ=some (.ex k):=by unfold bq;rw[e]
def mW{g h}{x}(e:g ρ=some (.go (.rt x ρ'))):bq g h ρ=some (.go (.rt x ρ')):=by unfold bq;rw[e]
def cH(e:g ρ=some r):xOf g ρ=some (.go r):=by unfold xOf;rw[e];rfl
def eI{g h}(e:c ρ=some true):xIf c g h ρ=g ρ:=by unfold xIf;rw[e];rfl
def gy{g h}(e:c ρ=some false):xIf c g h ρ=h ρ:=by unfold xIf;rw[e];rfl
def jH{b}(h:b ρ=true):jx b k ρ=some (.ex k):=Yh h
def Jg{f}(h:f ρ=some (.ok (d,ρ'))):xU c f ρ=(c d ρ').map .go:=by unfold xU;rw[h]
def Fq{f}(h:f ρ=some (.error k)):xU c f ρ=some (.ex k):=by unfold xU;rw[h]
noncomputable def un{α b:Type}(o:Option α)(f:α->b):Option (Except Nat b):=some<|match o with|none=>.error 0|some a=>.ok<|f a
def TOk(l:List Nat):Prop:=l.length<400000/\∀c∈l,c<128
theorem mO(h:∀c∈l,c<128):PyData.strOk (sT l)=true:=by unfold PyData.strOk;rw[<-Array.all_toList,YE];intro c a;have:=h c a;exact Yk<|by omega
def uV{a b}:sT a=sT b↔a=b:=⟨λh=>by have:=YH (λx:Str=>x.cps.toList) h;exact this,λh=>h ▸ rfl⟩
def Gc{a b}(e:∀c∈a,c<128)(h:∀c∈b,c<128):eqD (.str (sT a)) (.str (sT b))=some (.bl (decide (a=b))):=by rw[AL (x:=.str<|sT a) (y:=.str<|sT b) (mO e)<|mO h,wF];simp[uV]
def Jc{a b}(e:∀c∈a,c<128)(h:∀c∈b,c<128):neD (.str (sT a)) (.str (sT b))=some (.bl (!decide (a=b))):=by rw[BX (x:=.str<|sT a) (y:=.str<|sT b) (mO e)<|mO h,wF];simp[uV]
def rg(lo hi c:Nat):Bool:=decide (lo<=c)&&decide (c<=hi)
def inR(lo hi:Nat):List Nat->Bool
 |c::_=>rg lo hi c
 |[]=>false
structure RS where
 K:List Str
 T:List T4
 G:List Int
 bg:List (Int×Int)
 cl:List Int
def bgD(bg:List (Int×Int)):List (Key×D):=bg.map λq=>(.inl q.1,.int q.2)
def clD(cl:List Int):List (Key×D):=cl.map λn=>(.inl n,.bl true)
def rdS(l:List Nat)(a:Nat)(S:RS):OD:=rd l a (S.K.map .str) (S.T.map dT4) (S.G.map .int) (bgD S.bg)<|clD S.cl
def ob(l r:List Nat)(S:RS):OD:=rdS l (l.length-r.length) S
section
variable{r w:List Nat}{S:RS}{t:Option Addr}{σ:DF} 
def tM(h:r <:+ l):l.drop (l.length-r.length)=r:=(List.suffix_iff_eq_drop.mp h).symm
def iD(h:w++r <:+ l):r <:+ l:=(List.suffix_append w r).trans h
theorem Bv(h:w++r <:+ l):l.length-(w++r).length+w.length=l.length-r.length:=by have:=h.length_le;rw[Yb]at this ⊢;omega
def TOk.sub(h:TOk l)(a:r <:+ l):∀c∈r,c<128:=λc b=>h.2 c<|a.mem b
def TOk.one(h:TOk l)(a:r <:+ l):∀c∈r.take 1,c<128:=λc b=>h.sub a c<|List.mem_of_mem_take b
theorem yw(a:TOk l)(h:r <:+ l):sgn C (sO (ob l r S) t::σ)=some (.str (sT (r.take 1))):=Fy C (tM h) (Nat.sub_le _ _) (by have:=a.1;omega)
def sY(h:c::r <:+ l):jL (some aa) 0 "at" (cI 1) (sO (ob l (c::r) S) t::σ)=some (.nx (sO (ob l r S) t::σ)):=by have e:=Bv (w:=[c]) h;unfold ob;rw[<-e];exact G5
def G0(b:TOk l)(a:r <:+ l):asB (chD leA leA (ar 1) (sgn C) (ar 2)) (sO (ob l r S) t::sS [lo]::sS [hi]::σ)=some (inR lo hi r):=by
 rw[bw,rY,yw b a];simp[mH,Xd,Zy,Ya];cases r with
 |nil=>simp[List.take_nil,Ky];rfl
 |cons c r=>
  simp[List.take_succ_cons,List.take_zero,Jz];show _=some (decide _&&decide _);by_cases h:lo<=c
  ·rw[Yk h];rfl
  ·rw[Yi h];rfl
theorem xP(e:TOk l):∀r n,r <:+ l->r.length<n->
  cD (asB<|chD leA leA (ar 1) (sgn C)<|ar 2) (jL (some aa) 0 "at"<|cI 1) n (sO (ob l r S) t::sS [lo]::sS [hi]::σ)=some (.nx (sO (ob l (r.dropWhile<|rg lo hi) S) t::sS [lo]::sS [hi]::σ)):=by
 intro r;induction r with
 |nil=>
  intro n a b;obtain⟨n,rfl⟩:∃m,n=m+1:=⟨n-1,by simp at b;omega⟩
  exact gQ<|G0 e a
 |cons c r ih=>
  intro n a b;rw[Yg]at b;obtain⟨n,rfl⟩:∃m,n=m+1:=⟨n-1,by omega⟩
  cases h:rg lo hi c with
  |true=>
   rw[Xx h,lr ((G0 e a).trans<|YH some h)<|sY a];exact ih n (iD (w:=[c]) a)<|by omega
  |false=>
   rw[Xy<|by rw[h];exact Ym];exact gQ<|(G0 e a).trans<|YH some h
def zT p(h:r <:+ l):r.dropWhile p <:+ l:=(List.dropWhile_suffix p).trans h
theorem xz(a:TOk l)(h:r <:+ l):bG C (ob l r S) [.v (.str (sT [lo])),.v (.str (sT [hi]))]=some (ob l (r.dropWhile (rg lo hi)) S,.str (sT (r.takeWhile (rg lo hi)))):=rP rfl λb=>by
 have j:=a.1;have g:=h.length_le;refine⟨.rt _ [sO _ _,sS [lo],sS [hi],sI<|(l.length-r.length:Nat)],?_,rfl,rfl⟩;show al _ _ [sO _ _,sS [lo],sS [hi],none]=_;rw[aj (ρ':=[sO (ob l r S) _,sS [lo],sS [hi],sI _])<|by unfold ob rdS;rw[bi,AD];rfl,aj<|xP a r 500000 h<|by omega,d9,lQ];have e:r.takeWhile _++r.dropWhile (rg lo hi)=r:=ZE;have f:=Bv (by rwa[e]);rw[e]at f;have i:=tM h;unfold ob rdS;rw[wB];show Option.map _ (if(sT l).length<=16777216 then _ else none)=_;rw[bW,Yh<|by omega,qo,qo,AD];show some (RES.rt (.v<|.str _) _)=_;rw[<-f,jn l _ _ (by omega)<|by omega,i,XU];have:r.take (r.takeWhile<|rg lo hi).length=r.takeWhile (rg lo hi):=by
  conv=>lhs;arg 2;rw[<-e]
  rw[List.take_left]
 rw[this]
end
def dg:Nat->Bool:=rg 48 57
noncomputable def jF(w:List Nat):Bool:=(decide (1<=w.length)&&decide (w.length<=30))&&(decide (w=[48])||!decide (w.head?=some 48))
def iz(r:List Nat):Option (Nat×List Nat):=if jF (r.takeWhile dg)=true then some (PySem.NumText.digitsVal<|r.takeWhile dg,r.dropWhile dg)else none
def s_0:("0")=sT [48]:=by kernel_rfl
def s_9:("9")=sT [57]:=by kernel_rfl
def nF{p}{r:List Nat}:∀c∈r.takeWhile p,p c=true:=λc h=>YE.mp List.all_takeWhile c h
def jY:rg lo hi c=true↔lo<=c/\c<=hi:=by unfold rg;rw[Yn,ZK,ZK]
theorem ER C{w}(f:∀c∈w,c<128)(p:w.length<400000):fq C [.v (.str (sT w))]=some (.v (.bl (jF w))):=by
 have e:aK (.str<|sT w)=some (.int w.length):=by show(if(sT w).length<=16777216 then some (D.int (sT w).length)else none)=_;rw[bW,Yh<|by omega]
 have l:eqD (.str<|sT w) (.str "0")=some (.bl<|decide<|w=[48]):=by rw[s_0,Gc f<|by decide]
 show c9 (bb _ [some _])=_;unfold jF;cases w with
 |nil=>simp[e]
 |cons c w=>
  have j:ixD (.str<|sT (c::w)) (.int 0)=some (.str<|sT [c]):=by show(if(sT (c::w)).length<=16777216 then(atI (sT (c::w)).cps.toList 0).map (λc=>D.str ⟨#[c]⟩)else none)=_;rw[bW,Yh<|by omega,lJ,re (by decide)<|by simp];rfl
  have g:neD (.str<|sT [c]) (.str "0")=some (.bl<|!decide (c=48)):=by rw[s_0,Jc (λx h=>f x<|by rw[Yo]at h;subst h;exact Yf)<|by decide];simp
  generalize sT (c::w)=X at *;have b:1<=((c::w).length:Int):=by rw[Yg];omega
  have o:decide (1<=(c::w).length)=true:=by simp
  have m:decide ((c::w).head?=some 48)=decide (c=48):=by simp
  rw[o,m];by_cases a:(c::w).length<=30
  ·have i:((c::w).length:Int)<=30:=by omega
   rw[Yk a];simp only[d9,qU,rY,bX,mH,Zy,Ya,e,sr,b,i,decide_true,GE,aq,wL,l,j,g];by_cases q:c::w=[48]
   ·simp[q]
   ·simp[q]
  ·have i:¬((c::w).length:Int)<=30:=by omega
   rw[Yi a];simp only[d9,qU,rY,bX,mH,Zy,Ya,e,sr,b,i,decide_true,decide_false];rfl
theorem DA{w}(h:ρ[i]?=some (sS w))(b:∀c∈w,c<128)(e:w.length<400000):bR i ρ=true:=by
 unfold bR;rw[h];have:=StrLaws.reprText_len (sT w) λc a=>ZA (b c a)<|by decide
 rw[bW]at this;exact Yk<|by omega
section
variable{r w:List Nat}{S:RS}{t:Option Addr}{σ:DF} 
def wR{a}{K G}(h:(rdF [] 0 [] [] [] [] []).lookup mn=none):(rdF l a K T G B Q).lookup mn=none:=by
 unfold rdF at h ⊢;simp[aT]at h ⊢
 repeat' split at h
 all_goals first|cases h|skip
 repeat' split
 all_goals first|contradiction|rfl
def wI{m}{g:DXs}{a:DF}(h:m (ob l r S) (ds.map .v)=some (o',d))(e:g (sO (ob l r S) t::σ)=some (ds,sO (ob l r S) t::a))(b:(rdF [] 0 [] [] [] [] []).lookup mn=none) :
  ge aa mn 0 m g (sO (ob l r S) t::σ)=some (d,sO o' t::a):=Hs (wR b) e h
theorem uB(f:TOk l)(h:r <:+ l):b6 C (ob l r S) []=un (iz r) λq=>(ob l q.2 S,.int (q.1:Int)):=mU rfl λb=>by
 have w:=f.1;have u:=(Xp dg (l:=r)).length_le;have p:=h.length_le;have j:∀c∈r.takeWhile dg,c<128:=λc g=>f.sub h c ((Xp dg).mem g)
 have s:bC 1 (ge aa "taken" 0 (bG C) (db (ai (λ_=>some (.str "0"))) (db (ai (λ_=>some (.str "9"))) rc))) [sO (ob l r S) (some b),none]=some (.nx [sO (ob l (r.dropWhile dg) S) (some b),sS (r.takeWhile dg)]):=by
  unfold bC;rw[wI (ds:=[.str "0",.str "9"]) (by
   show bG C _ [.v (.str "0"),.v (.str "9")]=_;rw[s_0,s_9];exact xz f h) rfl (by kernel_rfl)]
  rfl
 have m:=ER C j (by omega);have e:c_ (asB (bv (fq C) (aB 1 nA))) [sO (ob l (r.dropWhile dg) S) (some b),sS (r.takeWhile dg)]=some (!jF (r.takeWhile dg)):=by generalize fq C=M at m ⊢;simp[m]
 show ∃x,bq (xOf (bC 1 _)) (bq (xIf _ (jx (bR 1) 0) xNx) (xOf (bb (d1 zk (ar 1))))) [sO (ob l r S) (some b),none]=some x/\_;rw[aM (cH s)];unfold iz;cases a:jF (r.takeWhile dg)with
 |false=>
  rw[a]at e;refine⟨.ex 0,?_,rfl⟩;exact bL ((eI e).trans (jH (DA rfl j (by omega))))
 |true=>
  rw[a]at e;have i:=a;unfold jF at i;simp only[Yn,ZK]at i;have o:=PySem.intText_digits (x:=sT (r.takeWhile dg)) (λc g=>jY.mp (nF c g)) (ZR.mp i.1.1) (by rw[bW];omega);refine⟨.go (.rt (.v (.int (PySem.NumText.digitsVal (r.takeWhile dg):Int))) [sO (ob l (r.dropWhile dg) S) (some b),sS (r.takeWhile dg)]),?_,rfl,rfl⟩;rw[aM (gy e)];refine cH ?_;rw[d9,bX];show Option.map _ (if(sT (r.takeWhile dg)).length<=640 then(intText? (sT (r.takeWhile dg))).map D.int else none)=_;rw[bW,Yh (by omega),o];rfl
end
def ldN:Nat->Nat
 |0=>126
 |1=>62
 |_=>60
abbrev Mk:=Nat×Nat
def mkT(q:Mk):List Nat:=ldN q.2::dig q.1
def mtx(ms:List Mk):List Nat:=ms.flatMap mkT
noncomputable def dMk(q:Mk):D:=.tup [.int q.1,.int q.2]
def okM(q:Mk):Prop:=q.1<10^30/\q.2<3
def tJ q ms:mtx (q::ms)=ldN q.2::(dig q.1++mtx ms):=rfl
noncomputable def gl3(c:Nat):Option Int:=if c=126 then some 0 else if c=62 then some 1 else if c=60 then some 2 else none
def zU c:glN bQ (sT [c])=gl3 c:=by
 unfold glN bQ gl3;have e:∀a:Nat,(sT [a] == sT [c])=decide (c=a):=λa=>by
  rw[show(sT [a] == sT [c])=decide (sT [a]=sT [c])from rfl];simp[uV,eq_comm]
 rw[show("~")=sT [126]by kernel_rfl,show(">")=sT [62]by kernel_rfl,show("<")=sT [60]by kernel_rfl];simp[Zj,e,List.find?_nil];by_cases f:c=126
 ·subst f;rfl
 ·by_cases b:c=62
  ·subst b;rfl
  ·by_cases h:c=60
   ·subst h;rfl
   ·simp[f,b,h]
def Fx:glN bQ (sT [])=none:=by kernel_rfl
def Fd(h:j<3):gl3 (ldN j)=some (j:Int):=by
 have:∀j:Fin 3,gl3 (ldN j.val)=some j.val:=by decide
 exact this ⟨j,h⟩
def glR:List Nat->Option Int
 |c::_=>gl3 c
 |[]=>none
noncomputable def rMk:Nat->List Nat->Option (List Mk×List Nat)
 |0,_=>none
 |n+1,r=>match glR r with
  |none=>some ([],r)
  |some j=>(iz r.tail).bind λq=>(rMk n q.2).map λz=>((q.1,j.toNat)::z.1,z.2)
def vB(h:glR r=none):rMk (n+1) r=some ([],r):=by unfold rMk;rw[h]
def v3{j}(h:glR r=some j):rMk (n+1) r=(iz r.tail).bind λq=>(rMk n q.2).map λz=>((q.1,j.toNat)::z.1,z.2):=by
 conv=>lhs;unfold rMk
 rw[h]
noncomputable def xr{α:Type}(o:Option α)(f:α->DF):Option XR:=some<|match o with|none=>.ex 0|some a=>.go<|.nx<|f a
def N5:Nat:=499990
def cM(r:List Nat):Option (List Mk×List Nat):=(rMk (N5+10) r).bind λz=>if z.1=[]then none else some z
def uf{q}(h:iz r=some q):q.2=r.dropWhile dg/\jF (r.takeWhile dg)=true/\q.1=PySem.NumText.digitsVal (r.takeWhile dg):=by
 unfold iz at h;split at h
 ·rename_i z;cases h;exact⟨rfl,z,rfl⟩
 ·cases h
def Dc{j}(h:gl3 c=some j):(j.toNat)=j/\j.toNat<3:=by
 unfold gl3 at h;split at h
 ·cases h;decide
 ·split at h
  ·cases h;decide
  ·split at h
   ·cases h;decide
   ·cases h
section
variable{r:List Nat}{S:RS}{t:Option Addr}{σ:DF} 
def JJ(a:TOk l)(h:r <:+ l):d1 (inG bQ) (sgn C) (sO (ob l r S) t::σ)=some (.bl (glR r).isSome):=by
 rw[bX,yw a h];show some _=_;cases r with
 |nil=>rw[List.take_nil,Fx];rfl
 |cons c r=>rw[show(c::r).take 1=[c]from rfl,zU];rfl
def JF{j}(b:TOk l)(a:r <:+ l)(h:glR r=some j):d1 (Ab bQ) (sgn C) (sO (ob l r S) t::σ)=some (.int j):=by
 rw[bX,yw b a];show(glN bQ _).map D.int=_;cases r with
 |nil=>cases h
 |cons c r=>rw[show(c::r).take 1=[c]from rfl,zU,show gl3 c=some j from h];rfl
def BH{α:Type}{f:List (Str×FO)->Option α}(h:(rdF [] 0 [] [] [] [] []).lookup mn=none):((iO (some aa) 0 (sO (ob l r S) t::σ)).bind λfs=>if fs.lookup mn=none then f fs else none)=f (rdF l (l.length-r.length) (S.K.map .str) (S.T.map dT4) (S.G.map .int) (bgD S.bg) (clD S.cl)):=Yh<|wR h
def um0{m}{o}{f:α->OD×D}(h:m (ob l r S) []=un o f)(b:(rdF [] 0 [] [] [] [] []).lookup mn=none) :
  bN aa mn 0 m cS (sO (ob l r S) t::σ)=un o λa=>((f a).2,sO (f a).1 t::σ):=by
 refine(BH b).trans ?_;show de (m _ []) _=_;rw[h];cases o<;>rfl
def um1{m}{g}{o}{f:α->OD×D}(h:m (ob l r' S) (ds.map .v)=un o f)(e:g (sO (ob l r S) t::σ)=some (.ok (ds,sO (ob l r' S) t::σ)))(b:(rdF [] 0 [] [] [] [] []).lookup mn=none) :
  bN aa mn 0 m g (sO (ob l r S) t::σ)=un o λa=>((f a).2,sO (f a).1 t::σ):=by
 refine(BH b).trans ?_;rw[e];show de (m _ _) _=_;rw[h];cases o<;>rfl
theorem vz(s:TOk l):∀n r fs y,r <:+ l->r.length<n->fs.length+r.length<16777216->∃m,
  cK (asB<|d1 (inG bQ)<|sgn C) (bq (xOf<|aY 2<|d1 (Ab bQ)<|sgn C)<|bq (xOf<|jL (some aa) 0 "at"<|cI 1)<|wD 1<|ya<|bY (bN aa "number" 0 (b6 C) cS)<|bY (uOf<|ai<|getV 2) cS) n [sO (ob l r S) t,sO (.lst fs) none,y]
   = xr (rMk n r) λz=>[sO (ob l z.2 S) t,sO (.lst<|fs++z.1.map dMk) none,m]:=by
 intro n;induction n with
 |zero=>intro r fs y _ h;omega
 |succ n ih=>
  intro r fs y e x H;have g:asB (d1 (inG bQ)<|sgn C) [sO (ob l r S) t,sO (.lst fs) none,y]=some (glR r).isSome:=by rw[bw,JJ s e]
  cases a:glR r with
  |none=>
   rw[a]at g;refine⟨y,?_⟩;rw[lO g,vB a];show _=some (XR.go<|.nx [_,sO (.lst<|fs++[]) none,y]);rw[Yl]
  |some j=>
   rw[a]at g;cases r with
   |nil=>cases a
   |cons c r=>
   have B:=Dc<|show gl3 c=some j from a;have b:=iD (w:=[c]) e;rw[Yg]at x H;have I:=uB (C:=C) (S:=S) s b;have u:xOf (aY 2<|d1 _<|sgn C) [sO _ t,sO _ none,y]=some (.go<|.nx [sO (ob l (c::r) S) t,sO (.lst fs) none,sI j]):=cH (by rw[bi,JF s e a];rfl);have i:=um0 (mn := "number") (t:=t) (σ:=[sO (.lst fs) none,sI j]) I (by kernel_rfl);rw[v3 a,Vd];cases p:iz r with
   |none=>
    rw[p]at i;refine⟨none,lF g ?_⟩;rw[aM u,aM<|cH<|sY e];refine Fq ?_;unfold ya bY;rw[i];rfl
   |some q=>
    rw[p]at i;have f:=uf p;have o:=f.1 ▸ zT dg b;have A:q.2.length<=r.length:=by rw[f.1];exact(List.dropWhile_suffix dg).length_le
    obtain⟨m,E⟩:=ih q.2 (fs++[dMk (q.1,j.toNat)]) (sI j) o (by omega) (by rw[Yb];show fs.length+1+_<_;omega);refine⟨m,?_⟩;rw[lB g,E]
    ·rw[Ya];cases rMk n q.2 with
     |none=>rfl
     |some z=>show some (XR.go<|.nx [_,sO _ none,_])=some _;rw[Yq];rfl
    ·rw[aM u,aM<|cH<|sY e];show xU (Eo 1) _ _=_;have J:ya (bY (bN aa "number" 0 (b6 C) cS)<|bY (uOf<|ai<|getV 2) cS) [sO (ob l r S) t,sO (.lst fs) none,sI j]=some (.ok (dMk (q.1,j.toNat),[sO (ob l q.2 S) t,sO (.lst fs) none,sI j])):=by unfold ya bY dMk;rw[i,B.1];rfl
     rw[Jg J];show Option.map XR.go (if fs.length<16777216 then _ else _)=_;rw[Yh<|by omega];rfl
theorem w_(f:TOk l)(a:r <:+ l):bH C (ob l r S) []=un (cM r) λz=>(ob l z.2 S,.lst (z.1.map dMk)):=mU rfl λb=>by
 have j:=f.1;have i:=a.length_le;obtain⟨y,h⟩:=vz (C:=C) (S:=S) (t:=some b) f 500000 r [] none a (by omega) (by simp;omega);show ∃x,bq _ _ [sO _ _,none,none]=some x/\_;rw[aM (ρ':=[sO _ _,sO _ none,none])<|cH rfl];unfold cM;rw[show N5+10=500000 from rfl];cases e:rMk 500000 r with
 |none=>
  rw[e]at h;exact⟨.ex 0,bL h,rfl⟩
 |some z=>
  rw[e]at h;rw[aM h];obtain⟨m,g⟩:=z;cases m with
  |nil=>exact⟨.ex 0,rfl,rfl⟩
  |cons q m=>exact⟨.go _,rfl,rfl,rfl⟩
end
noncomputable def bS(a b:Int)(q:Mk):T4:=if q.2=2 then(b,a,q.1,true)else(a,b,q.1,decide<|q.2=1)
theorem Bq C a b q:k6 C [.v (.int a),.v (.int b),.v (.int q.1),.v (.int q.2)]=sV (dT4 (bS a b q)):=by
 show c9 (al (dIf (asB _) _ dNx) _ [sI a,sI b,sI q.1,sI q.2])=_;unfold bS;by_cases h:q.2=2
 ·rw[h];rfl
 ·have f:¬((q.2:Int)=2):=by omega
  have e:decide ((q.2:Int)=1)=decide (q.2=1):=by simp;omega
  rw[Yp h];simp[f,dT4,e]
section
variable{r:List Nat}{S:RS}{t:Option Addr}{σ:DF} 
theorem Ci{ms:List Mk}{p q}(h:S.T.length+ms.length<=16777216):c7 C (ob l r S) [.v (.lst (ms.map dMk)),.v (.int p),.v (.int q)]=some (ob l r {S with T:=S.T++ms.map (bS p q)},.non):=rP rfl λb=>by
 refine⟨.nx [sO _ _,sV<|.lst<|ms.map dMk,sI p,sI q],?_,rfl,rfl⟩;have e:ob l r {S with T:=S.T++ms.map (bS p q)}=rd l (l.length-r.length) (S.K.map .str) (S.T.map dT4++(ms.map<|bS p q).map dT4) (S.G.map .int) (bgD S.bg) (clD S.cl):=by unfold ob rdS;rw[<-YB]
 rw[e];refine Gn ?_ (by simpa using h);rw[gL];show(if(ms.map dMk).length<=16777216 then gf _ _ _ _ (ms.map dMk)else none)=_;rw[Yh<|by simp;omega,Zn];refine gG dMk _ ms λm a=>?_;have e:=Bq C p q m;generalize k6 C=M at e ⊢;refine⟨[sI m.1,sI m.2,sI p,sI q],rfl,rfl,?_⟩;simp[e]
end
def skp(c:Nat):List Nat->Option (List Nat)
 |d::r=>if d=c then some r else none
 |[]=>none
def lk(n:Int):List (Int×Int)->Option Int
 |[]=>none
 |q::bg=>if q.1=n then some q.2 else lk n bg
noncomputable def beg(p:Int)(S:RS)(n:Int):Option RS:=match lk n S.bg with
 |some _=>none
 |none=>some {S with bg:=S.bg++[(n,p)]}
noncomputable def clo(p:Int)(S:RS)(n:Int)(ms:List Mk):Option RS:=match lk n S.bg with
 |none=>none
 |some q=>if n∈S.cl\/q=p then none else some {S with T:=S.T++ms.map (bS q p),cl:=S.cl++[n]}
noncomputable def kK(p:Int)(S:RS)(n:Int)(r:List Nat):Option (RS×List Nat):=if r.take 1=[58]then(cM r.tail).bind λz=>(clo p S n z.1).map λa=>(a,z.2)else(beg p S n).map λa=>(a,r)
noncomputable def iJ(p:Int)(S:RS)(r:List Nat):Option (RS×List Nat):=(skp 123 r).bind λa=>(iz a).bind λq=>if 1<=q.1/\q.1<=99 then(kK p S q.1 q.2).bind λy=>(skp 125 y.2).map λb=>(y.1,b)else none
noncomputable def dc:Nat->Int->RS->List Nat->Option (RS×List Nat)
 |0,_,_,_=>none
 |n+1,p,S,r=>if r.take 1=[123]then(iJ p S r).bind λy=>dc n p y.1 y.2 else some (S,r)
def lt:Nat->Bool:=rg 97 122
def vZ(w:List Nat):Bool:=decide (1<=w.length)&&decide (w.length<=3)
def cu(S:RS)(r:List Nat):Option (RS×List Nat):=if vZ (r.takeWhile lt)=true then dc (N5+10) S.K.length {S with K:=S.K++[sT<|r.takeWhile lt]} (r.dropWhile lt)else none
def dE(h:Int)(S:RS)(r:List Nat):Option (RS×List Nat):=(cM r).bind λz=>(cu S z.2).map λy=>({y.1 with T:=y.1.T++z.1.map (bS h S.K.length)},y.2)
def rGo(h:Int)(S:RS)(r:List Nat):Option (Int×RS×List Nat):=match r with
 |[]=>none
 |c::r=>if(gl3 c).isSome=true then(dE h S (c::r)).map λy=>(S.K.length,y)else
  if c=40 then(dE h {S with G:=S.G++[h]} r).map λy=>(S.K.length,y)else
  if c=41/\S.G≠[]then some (S.G.getLastD 0,{S with G:=S.G.dropLast},r)else
  if c=46/\S.G=[]then(cu S r).map λy=>(S.K.length,y)else none
def fN:Nat->Int->RS->List Nat->Option RS
 |0,_,_,_=>none
 |_+1,_,S,[]=>if S.G=[]/\S.bg.length<=S.cl.length then some S else none
 |n+1,h,S,c::r=>(rGo h S (c::r)).bind λy=>fN n y.1 y.2.1 y.2.2
def S0:RS:=⟨[],[],[],[],[]⟩
def fi(l:List Nat):Option RS:=(cu S0 l).bind λy=>fN (N5+10) 0 y.1 y.2
noncomputable def okC(c:Nat):Bool:=dg c||lt c||[126,62,60,40,41,46,58,123,125].contains c
def sz(S:RS):Nat:=S.K.length+S.T.length+S.G.length+S.bg.length+S.cl.length
def pl(w:List Nat):Prop:=∀c∈w,okC c=true/\c≠40/\c≠41/\c≠123/\c≠125
structure Mv (S:RS) (r:List Nat) (S':RS) (r':List Nat) (w:List Nat):Prop where
 e:r=w++r'
 s:sz S'<=sz S+w.length
 a:∀c∈w,okC c=true
 g:w.count 40+S.G.length=w.count 41+S'.G.length
 b:w.count 123=w.count 125
 n:S.cl.Nodup->S'.cl.Nodup
theorem pl.c{w}(h:pl w):w.count 40=0/\w.count 41=0/\w.count 123=0/\w.count 125=0:=by refine⟨?_,?_,?_,?_⟩<;>exact List.count_eq_zero.mpr λz=>by have:=h _ z;omega
def pl.mv{S a}{w}(h:pl w)(f:a.G=S.G)(e:a.cl=S.cl)(b:sz a<=sz S+w.length):Mv S (w++r') a r' w:=by obtain⟨m,l,j,i⟩:=h.c;exact⟨rfl,b,λc g=>(h c g).1,by rw[m,l,f],by rw[j,i],λz=>e ▸ z⟩
theorem Mv.trans{S l j}{r i f w v}(h:Mv S r l i w)(k:Mv l i j f v):Mv S r j f (w++v):=by
 have p:=h.s;have o:=k.s;have u:=h.g;have q:=k.g;refine⟨by rw[h.e,k.e,Yq],by rw[Yb];omega,λc m=>(Yj.mp m).elim (h.a c)<|k.a c,?_,?_,λz=>k.n<|h.n z⟩
 ·rw[YV,YV];omega
 ·rw[YV,YV,h.b,k.b]
theorem Ip{w}(h:∀c∈w,dg c=true):pl w:=λc a=>by
 have:=jY.mp<|h c a;refine⟨by unfold okC;rw[h c a];rfl,?_⟩;omega
theorem IM{w}(h:∀c∈w,lt c=true):pl w:=λc a=>by
 have:=jY.mp<|h c a;refine⟨by unfold okC;rw[h c a,Bool.or_true];rfl,?_⟩;omega
def pl.app{w v}(h:pl w)(k:pl v):pl (w++v):=λc a=>(Yj.mp a).elim (h c)<|k c
theorem qC{q}(h:iz r=some q):∃w,r=w++q.2/\pl w/\1<=w.length/\q.1<10^30:=by
 obtain⟨l,b,j⟩:=uf h;refine⟨r.takeWhile dg,by rw[l,ZE],Ip nF,?_,?_⟩
 ·unfold jF at b;simp[Yn,ZK]at b;exact b.1.1
 ·rw[j];unfold jF at b;simp[Yn,ZK]at b;have i:=b.1.2;have:∀(w:List Nat) a,(∀c∈w,dg c=true)->w.foldl (λv c=>v*10+(c-48)) a<(a+1)*10^w.length:=by
   intro w;induction w with
   |nil=>intro a _;simp
   |cons c w ih=>
    intro a e;have:=jY.mp<|e c Yf;refine Ys (ih _ λx g=>e x<|Ye _ g) ?_;rw[Yg,Nat.pow_succ,Nat.mul_comm _ 10,<-Nat.mul_assoc];exact Nat.mul_le_mul_right _<|by show a*10+(c-48)+1<=(a+1)*10;omega
  have f:=this (r.takeWhile dg) 0 nF;rw[Vv,Nat.one_mul]at f;exact Ys (by exact f)<|Nat.pow_le_pow_right (by decide) i
def Hq{j}(h:glR r=some j):∃c r',r=c::r'/\pl [c]:=by
 cases r with
 |nil=>cases h
 |cons c r=>
  refine⟨c,r,rfl,λx a=>?_⟩;rw[Yo]at a;subst a;have:x=126\/x=62\/x=60:=by
   have h:gl3 x=some j:=h;unfold gl3 at h;by_cases f:x=126
   ·exact .inl f
   ·by_cases e:x=62
    ·exact .inr<|.inl e
    ·by_cases b:x=60
     ·exact .inr<|.inr b
     ·rw[Yp f,Yp e,Yp b]at h;cases h
  rcases this with rfl|rfl|rfl<;>decide
theorem AE:∀{n}{r}{z},rMk n r=some z->∃w,r=w++z.2/\pl w/\z.1.length<=w.length
 |0,r,z,h=>by cases h
 |n+1,r,z,h=>by
  cases a:glR r with
  |none=>rw[vB a]at h;cases h;exact⟨[],rfl,(λ_ h=>nomatch h),YQ _⟩
  |some j=>
   rw[v3 a]at h;obtain⟨c,m,rfl,f⟩:=Hq a;obtain⟨q,i,h⟩:=Yd.mp h;obtain⟨y,g,rfl⟩:=aw h;obtain⟨w,e,b,s,_⟩:=qC i;obtain⟨v,l,p,o⟩:=AE g;refine⟨[c]++(w++v),?_,f.app<|b.app p,?_⟩
   ·rw[Vd]at e;rw[e,l];simp
   ·rw[Yg,Yb,Yb,YU];omega
def ju{z}(h:cM r=some z):∃w,r=w++z.2/\pl w/\z.1.length<=w.length:=by
 obtain⟨y,a,h⟩:=Yd.mp h;split at h
 ·cases h
 ·cases h;exact AE a
def rH(h:skp c r=some r'):r=c::r':=by
 cases r with
 |nil=>cases h
 |cons d r=>
  by_cases e:d=c
  ·rw[show skp c (d::r)=some r from Yh e]at h;cases h;rw[e]
  ·rw[show skp c (d::r)=none from Yp e]at h;cases h
theorem Ft{p n}{S a}(h:beg p S n=some a):sz a=sz S+1/\(S.cl.Nodup->a.cl.Nodup)/\a.G=S.G/\a.K=S.K:=by
 unfold beg at h;split at h
 ·cases h
 ·cases h;refine⟨?_,id,rfl,rfl⟩;show S.K.length+S.T.length+S.G.length+(S.bg++[(n,p)]).length+S.cl.length=_;unfold sz;rw[Yb,YU];omega
theorem GG{p n}{S e}(h:clo p S n ms=some e):sz e=sz S+ms.length+1/\(S.cl.Nodup->e.cl.Nodup)/\e.G=S.G/\e.K=S.K:=by
 unfold clo at h;split at h
 ·cases h
 ·split at h
  ·cases h
  ·rename_i q _ i;cases h;refine⟨?_,λg=>YO.mpr ⟨g,by simp,λa j b f z=>i<|.inl<|by rw[Yo]at f;rwa[<-f,<-z]⟩,rfl,rfl⟩;show S.K.length+(S.T++ms.map _).length+S.G.length+S.bg.length+(S.cl++[n]).length=_;unfold sz;rw[Yb,Yb,YU,Yc];omega
theorem ud{p n}{S}{y}(h:kK p S n r=some y):∃w,r=w++y.2/\pl w/\sz y.1<=sz S+w.length+1/\(S.cl.Nodup->y.1.cl.Nodup)/\y.1.G=S.G/\y.1.K=S.K:=by
 unfold kK at h;split at h
 ·rename_i f;obtain⟨z,i,h⟩:=Yd.mp h;obtain⟨j,b,rfl⟩:=aw h;obtain⟨w,e,g,l⟩:=ju i;have a:=GG b;cases r with
  |nil=>cases f
  |cons c r=>
   cases(Xw f).1;refine⟨58::w,?_,(show pl ([58]++w)from pl.app (by intro c a;rw[Yo]at a;subst a;decide) g),?_,a.2⟩
   ·rw[Vd]at e;rw[e];rfl
   ·rw[a.1,Yg];omega
 ·obtain⟨j,b,rfl⟩:=aw h;have a:=Ft b;exact⟨[],rfl,(λ_ h=>nomatch h),by rw[a.1];exact Yy _,a.2⟩
theorem t_{p}{S}{y}(h:iJ p S r=some y):(∃w,Mv S r y.1 y.2 w/\1<=w.length)/\y.1.K=S.K:=by
 obtain⟨I,m,h⟩:=Yd.mp h;obtain⟨q,l,h⟩:=Yd.mp h;split at h
 ·obtain⟨a,j,h⟩:=Yd.mp h;obtain⟨J,i,rfl⟩:=aw h;have z:=rH m;have s:=rH i;obtain⟨w,x,f,L,_⟩:=qC l;obtain⟨v,u,e,H,n3,o,g⟩:=ud j;have b:=f.app e;obtain⟨E,C,B,A⟩:=b.c;refine⟨⟨123::((w++v)++[125]),⟨?_,?_,?_,?_,?_,n3⟩,by simp⟩,g⟩
  ·rw[z,x,u,s];simp
  ·rw[Yg,Yb,Yb];simp[YU];omega
  ·intro c hc;rcases Yw.mp hc with rfl|hc
   ·decide
   ·rcases Yj.mp hc with hc|hc
    ·exact(b c hc).1
    ·rw[Yo]at hc;subst hc;decide
  ·rw[o,ZH<|by decide,ZH<|by decide,YV,YV (l₂:=[125]),E,C];rfl
  ·rw[List.count_cons_self,ZH<|by decide,YV,YV (l₂:=[125]),B,A];rfl
 ·cases h
def Mv.nil{S}:Mv S r S r []:=⟨rfl,Yy _,(λ_ h=>nomatch h),rfl,rfl,id⟩
theorem pU:∀{n}{p}{S}{r}{y},dc n p S r=some y->(∃w,Mv S r y.1 y.2 w)/\y.1.K=S.K
 |0,_,_,_,_,h=>by cases h
 |n+1,p,S,r,y,h=>by
  unfold dc at h;split at h
  ·obtain⟨z,f,h⟩:=Yd.mp h;obtain⟨⟨w,a,_⟩,e⟩:=t_ f;obtain⟨⟨v,m⟩,b⟩:=pU h;exact⟨⟨_,a.trans m⟩,b.trans e⟩
  ·cases h;exact⟨⟨[],Mv.nil⟩,rfl⟩
theorem gY{S}{y}(h:cu S r=some y):(∃w,Mv S r y.1 y.2 w/\1<=w.length)/\y.1.K.length=S.K.length+1:=by
 unfold cu at h;split at h
 ·rename_i b;unfold vZ at b;simp[Yn,ZK]at b;obtain⟨⟨w,m⟩,k⟩:=pU h;have a:Mv S _ {S with K:=S.K++[sT _]} (r.dropWhile lt) (r.takeWhile lt):=(IM nF).mv rfl rfl<|by
   show(S.K++[sT<|r.takeWhile lt]).length+S.T.length+S.G.length+S.bg.length+S.cl.length<=sz S+_;unfold sz;rw[Yb,YU];omega
  rw[ZE]at a;refine⟨⟨_,a.trans m,by rw[Yb];omega⟩,?_⟩;rw[k,Yb];rfl
 ·cases h
theorem nH{h}{S}{y}(f:dE h S r=some y):(∃w,Mv S r y.1 y.2 w/\1<=w.length)/\y.1.K.length=S.K.length+1:=by
 obtain⟨z,q,f⟩:=Yd.mp f;obtain⟨u,o,rfl⟩:=aw f;obtain⟨w,x,p,I⟩:=ju q;obtain⟨⟨v,m,H⟩,k⟩:=gY o;obtain⟨E,C,B,A⟩:=p.c;have i:=m.s;have j:=m.g;refine⟨⟨w++v,⟨by rw[x,m.e,Yq],?_,λc l=>(Yj.mp l).elim (λz=>(p c z).1)<|m.a c,?_,?_,m.n⟩,by rw[Yb];omega⟩,k⟩
 ·show u.1.K.length+(u.1.T++z.1.map _).length+u.1.G.length+u.1.bg.length+u.1.cl.length<=_;unfold sz at i ⊢;rw[Yb,Yb,Yc];omega
 ·rw[YV,YV,E,C,Vv,Vv,j]
 ·rw[YV,YV,B,A,m.b]
theorem Ca{h}{S}{y}(f:rGo h S r=some y):∃w,Mv S r y.2.1 y.2.2 w/\1<=w.length:=by
 cases r with
 |nil=>cases f
 |cons c r=>
  rw[show rGo h S (c::r)=if(gl3 c).isSome=true then _ else _ from rfl]at f;split at f
  ·obtain⟨u,i,rfl⟩:=aw f;exact(nH i).1
  ·split at f
   ·rename_i hc;subst hc;obtain⟨u,i,rfl⟩:=aw f;obtain⟨⟨w,m,l⟩,_⟩:=nH i;have p:=m.s;have o:=m.g;refine⟨40::w,⟨by rw[m.e];rfl,?_,λc hc=>?_,?_,?_,m.n⟩,by simp⟩
    ·unfold sz at p ⊢;simp[Yb,Yg,Zc]at p ⊢;omega
    ·rcases Yw.mp hc with rfl|hc
     ·decide
     ·exact m.a c hc
    ·rw[List.count_cons_self,ZH<|by decide];rw[Yb,YU]at o;show List.count 40 w+1+S.G.length=List.count 41 w+u.1.G.length;omega
    ·rw[ZH<|by decide,ZH<|by decide];exact m.b
   ·split at f
    ·rename_i hc;obtain⟨rfl,j⟩:=hc;cases f;have x:=ZR.mpr j;refine⟨[41],⟨rfl,?_,by decide,?_,by decide,id⟩,by decide⟩
     ·show S.K.length+S.T.length+S.G.dropLast.length+S.bg.length+S.cl.length<=sz S+1;unfold sz;rw[XB];omega
     ·show 0+S.G.length=1+S.G.dropLast.length;rw[XB];omega
    ·split at f
     ·rename_i hc;obtain⟨rfl,z⟩:=hc;obtain⟨u,i,rfl⟩:=aw f;obtain⟨⟨w,m,l⟩,_⟩:=gY i;have q:Mv S _ S r [46]:=pl.mv (by unfold pl;decide) rfl rfl<|Nat.le_add_right _ _;exact⟨_,q.trans m,by simp⟩
     ·cases f
theorem wV:∀{n}{h}{S a}{r},fN n h S r=some a->a.G=[]/\Mv S r a [] r
 |0,_,_,_,_,h=>by cases h
 |n+1,_,S,a,[],h=>by
  unfold fN at h;split at h
  ·rename_i i;cases h;exact⟨i.1,Mv.nil⟩
  ·cases h
 |n+1,h,S,a,c::r,b=>by
  unfold fN at b;obtain⟨y,j,b⟩:=Yd.mp b;obtain⟨w,m,_⟩:=Ca j;obtain⟨g,f⟩:=wV b;have:=m.trans f;rw[<-m.e]at this;exact⟨g,this⟩
def kG{S}(h:fi l=some S):(∀c∈l,okC c=true)/\l.count 40=l.count 41/\l.count 123=l.count 125/\S.cl.Nodup:=by obtain⟨y,o,j⟩:=Yd.mp h;obtain⟨⟨w,m,_⟩,_⟩:=gY o;obtain⟨g,i⟩:=wV j;have:=m.trans i;rw[<-m.e]at this;refine⟨this.a,?_,this.b,this.n Vc⟩;have f:=this.g;rwa[g]at f
noncomputable def yr{α:Type}(o:Option α)(d:α->D)(f:α->DF):Option XR:=some<|match o with|none=>.ex 0|some a=>.go<|.rt (.v<|d a)<|f a
def uG{n p}{g}{j}{o}{f}(m:xs.length+1=p)(l:∀a,(f a).2=.non)(h:∀b,∃i:α->DF,g (bn n p (.own j (some b)::xs))=xr o λa=>sO (f a).1 (some b)::i a):ip n p g j xs=un o f:=mU m λb=>by
 obtain⟨i,e⟩:=h b;refine⟨_,e,?_⟩;cases o with
 |none=>rfl
 |some a=>exact⟨rfl,l a⟩
def B6{n p}{g}{j}{o}{f}(l:xs.length+1=p)(h:∀b,∃i:α->DF,g (bn n p (.own j (some b)::xs))=yr o (λa=>(f a).2) λa=>sO (f a).1 (some b)::i a):ip n p g j xs=un o f:=mU l λb=>by
 obtain⟨i,e⟩:=h b;refine⟨_,e,?_⟩;cases o with
 |none=>rfl
 |some a=>exact⟨rfl,rfl⟩
section
variable{α:Type}{f:UX}  {o:Option α}{g:α->D×DF}
def xD(h:f ρ=un o g):xU gI f ρ=xr o λa=>(g a).2:=by unfold xU;rw[h];cases o<;>rfl
def xS(h:f ρ=un o g):xU (uo i) f ρ=xr o λa=>(g a).2.set i (some (.v (g a).1)):=by unfold xU;rw[h];cases o<;>rfl
def xR(h:f ρ=un o g):xU xZ f ρ=yr o (λa=>(g a).1) λa=>(g a).2:=by unfold xU;rw[h];cases o<;>rfl
end
theorem z7{m:Nat}(h:ρ[i]?=some (sI m))(a:m<10^30):bJ i ρ=true:=by
 unfold bJ;rw[h];have e:=fG m 30 (by decide) a;refine Vk.mpr ⟨Yk ?_,Yk<|by rw[wG,bW];omega⟩;by_cases b:m=0
 ·subst b;decide
 ·exact ZA ((Nat.log2_lt b).mpr<|ZA a (by decide:10^30<2^100))<|by decide
theorem qO n:∀bg:List (Int×Int),dC (bgD bg) (.inl n)=(lk n bg).map D.int
 |[]=>rfl
 |q::bg=>by
  show dC ((.inl q.1,.int q.2)::bgD bg) _=Option.map D.int (if q.1=n then some q.2 else lk n bg);rw[jr];by_cases h:q.1=n
  ·rw[Yh h,Yh<|YH _ h];rfl
  ·rw[Yp h,Yp λz=>h<|Sum.inl.inj z];exact qO n bg
theorem BY n:∀cl:List Int,(dC (clD cl) (.inl n)).isSome=decide (n∈cl)
 |[]=>rfl
 |q::cl=>by
  show(dC ((.inl q,.bl true)::clD cl) _).isSome=_;rw[jr];by_cases h:q=n
  ·rw[Yh<|YH _ h,Yk<|Yw.mpr<|.inl h.symm];rfl
  ·rw[Yp λz=>h<|Sum.inl.inj z,BY];exact decide_eq_decide.mpr ⟨λz=>Ye _ z,λz=>(Yw.mp z).elim (λe=>absurd e.symm h) id⟩
theorem Aj:∀{bg},lk n bg=none->n∉bg.map (·.1)
 |[],_,h=>nomatch h
 |q::bg,e,h=>by
  unfold lk at e;split at e
  ·cases e
  ·rename_i a;rcases Yw.mp h with h|h
   ·exact a h.symm
   ·exact Aj e h
def s_o:("{")=sT [123]:=by kernel_rfl
def s_c:("}")=sT [125]:=by kernel_rfl
def s_p:(":")=sT [58]:=by kernel_rfl
section
variable{r:List Nat}{S:RS}{t:Option Addr}{σ:DF} 
def Hj(i:c<128)(g:TOk l)(f:r <:+ l):b9 C (ob l r S) [.v (.str (sT [c]))]=un (skp c r) λr'=>(ob l r' S,.non):=uG rfl (λ_=>rfl) λb=>by
 refine⟨λ_=>[sS [c]],?_⟩;have e:asB (d2 neD (sgn C)<|ar 1) [sO (ob l r S)<|some b,sS [c]]=some (!decide (r.take 1=[c])):=by rw[bw,aq,yw g f];show(match neD _ (.str _)with|some (.bl b)=>some b|_=>none)=_;rw[Jc (g.one f)<|by simpa using i]
 show bq _ _ [sO _ _,sS [c]]=_;have a:bR 1 [sO (ob l r S)<|some b,sS [c]]=true:=DA rfl (by simpa using i) (show 1<400000 by decide);cases r with
 |nil=>exact bL<|(eI e).trans<|jH a
 |cons d r=>
  by_cases h:d=c
  ·subst h;rw[show skp d (d::r)=some r from Yh rfl,aM<|gy<|e.trans<|by rw[show(d::r).take 1=[d]from rfl,Yk rfl];rfl];exact cH<|sY f
  ·rw[show skp c (d::r)=none from Yp h];exact bL<|(eI<|e.trans<|by rw[show(d::r).take 1=[d]from rfl,Yi λz=>h (Xw z).1];rfl).trans<|jH a
def CV{m:Nat}{p}(i:m<10^30)(j:S.bg.length<16777216):df C (ob l r S) [.v (.int m),.v (.int p)]=un (beg p S m) λs=>(ob l r s,.non):=uG rfl (λ_=>rfl) λb=>by
 refine⟨λ_=>[sI m,sI p],?_⟩;have e:asB (d2 t7 (getV 1)<|aP (some aa) 0 "begun") [sO (ob l r S)<|some b,sI m,sI p]=some (lk m S.bg).isSome:=by unfold ob rdS;rw[bw,aq,kX];show some (dC (bgD S.bg) _).isSome=_;rw[qO];cases lk _ S.bg<;>rfl
 show bq _ _ [sO _ _,sI m,sI p]=_;unfold beg;cases a:lk _ S.bg with
 |some q=>rw[a]at e;exact bL<|(eI e).trans<|jH<|z7 rfl i
 |none=>
  rw[a]at e;rw[aM<|gy e];refine cH ?_;have f:∀p∈bgD S.bg,p.1≠.inl _:=λp g z=>by
   obtain⟨q,h,rfl⟩:=Yt.mp g;exact Aj a<|Yt.mpr ⟨q,h,Sum.inl.inj z⟩
  have o:ob l r {S with bg:=S.bg++[((m:Int),p)]}=rd l (l.length-r.length) (S.K.map .str) (S.T.map dT4) (S.G.map .int) (bgD S.bg++[(.inl m,.int p)]) (clD S.cl):=by unfold ob rdS bgD;rw[YB];rfl
  show l_ _ 0 "begun" _ _ _=some (RES.nx (sO _ _::[sI m,sI p]));rw[o];exact Ck rfl rfl (by unfold bgD;rwa[Yc]) f
def EB{m:Nat}{p}(s:m<10^30)(x:S.cl.length<16777216)(y:S.T.length+ms.length<=16777216):dm C (ob l r S) [.v (.int m),.v (.int p),.v (.lst (ms.map dMk))]=un (clo p S m ms) λg=>(ob l r g,.non):=uG rfl (λ_=>rfl) λb=>by
 refine⟨λ_=>[sI m,sI p,sV<|.lst<|ms.map dMk],?_⟩;have e:orT (asB<|d2 va (getV 1)<|aP (some aa) 0 "begun") (asB<|d2 t7 (getV 1)<|aP (some aa) 0 "closed") [sO (ob l r S)<|some b,sI m,sI p,sV<|.lst<|ms.map dMk]=some (!(lk m S.bg).isSome||decide ((m:Int)∈S.cl)):=by unfold ob rdS;rw[Bu,bw,aq,kX,bw,aq,pJ];show((some _).bind λb=>if b=true then some true else some (dC (clD S.cl) _).isSome)=_;rw[qO,BY];cases lk _ S.bg<;>rfl
 show bq _ _ [sO _ _,sI m,sI p,sV _]=_;unfold clo;cases j:lk _ S.bg with
 |none=>rw[j]at e;exact bL<|(eI e).trans<|jH<|z7 rfl s
 |some q=>
  rw[j]at e;show _=xr (if(m:Int)∈S.cl\/q=p then none else some _) _;by_cases f:(m:Int)∈S.cl
  ·rw[Yh<|.inl f];exact bL<|(eI<|e.trans<|by rw[Yk f];rfl).trans<|jH<|z7 rfl s
  ·rw[aM<|gy<|e.trans<|by rw[Yi f];rfl];have u:∀g ,g.bg=S.bg->d2 aW (aP _ 0 "begun") (getV 1) [sO (ob l r g)<|some b,sI m,sI p,sV<|.lst<|ms.map dMk]=some _:=λg h=>by
    unfold ob rdS;rw[aq,kX,h];show dC (bgD S.bg) _=_;rw[qO,j];rfl
   have w:asB (d2 eqD (d2 aW (aP (some aa) 0 "begun")<|getV 1)<|ar 2) [sO (ob l r S)<|some b,sI m,sI p,sV<|.lst<|ms.map dMk]=some (decide<|q=p):=by rw[bw,aq,u S rfl,Ya];show(match eqD (.int q) (.int p)with|some (.bl b)=>some b|_=>none)=_;rw[eY]
   by_cases a:q=p
   ·rw[Yh<|.inr a];exact bL<|(eI<|w.trans<|by rw[Yk a]).trans<|jH<|z7 rfl s
   ·rw[aM<|gy<|w.trans<|by rw[Yi a],Yp<|not_or.mpr ⟨f,a⟩];have o:∀p∈clD S.cl,p.1≠.inl (m:Int):=λp a z=>by
     obtain⟨q,i,rfl⟩:=Yt.mp a;cases z;exact f i
    have A:ob l r {S with cl:=S.cl++[(m:Int)]}=rd l (l.length-r.length) (S.K.map .str) (S.T.map dT4) (S.G.map .int) (bgD S.bg) (clD S.cl++[(.inl (m:Int),.bl true)]):=by unfold ob rdS clD;rw[YB];rfl
    rw[aM (ρ':=[sO (ob l r {S with cl:=S.cl++[(m:Int)]})<|some b,sI m,sI p,sV<|.lst<|ms.map dMk])<|cH<|by
     rw[A];exact Dr (n:=(m:Int)) (d:=.bl true) rfl rfl (by unfold clD;rw[Yc];exact x) o]
    refine cH ?_;unfold nL;rw[wI (S:={S with cl:=S.cl++[(m:Int)]}) (ds:=[.lst<|ms.map dMk,.int q,.int p]) (Ci (S:={S with cl:=S.cl++[(m:Int)]}) y) (by
     unfold db ai;show Option.map _ ((Option.map _<|d2 aW (aP (some aa) 0 "begun") (getV 1) [sO (ob l r {S with cl:=S.cl++[(m:Int)]})<|some b,sI m,sI p,sV<|.lst<|ms.map dMk]).bind _)=_;rw[u {S with cl:=S.cl++[(m:Int)]} rfl];rfl)<|by kernel_rfl]
    rfl
def Fh(e:c<128)(a:TOk l)(h:r <:+ l):asB (d2 eqD (sgn C) (λ_=>some (.str (sT [c])))) (sO (ob l r S) t::σ)=some (decide (r.take 1=[c])):=by rw[bw,aq,yw a h];show(match eqD _ (.str _)with|some (.bl b)=>some b|_=>none)=_;rw[Gc (a.one h)<|by simpa using e]
def qL(b:c<128)(a:TOk l)(h:r <:+ l):xU gI (bN aa "skip" 0 (b9 C) (bY (uOf (ai (λ_=>some (.str (sT [c]))))) cS)) (sO (ob l r S) t::σ)=xr (skp c r) λr'=>sO (ob l r' S) t::σ:=xD<|um1 (ds:=[.str _]) (Hj b a h) rfl<|by kernel_rfl
def DC(h:skp c r=some r')(a:r <:+ l):r' <:+ l:=by rw[rH h]at a;exact iD (w:=[c]) a
theorem Hn{p}(s:TOk l)(R:r <:+ l)(hz:sz S+r.length<=l.length):cF C (ob l r S) [.v (.int p)]=un (iJ p S r) λy=>(ob l y.2 y.1,.non):=uG rfl (λ_=>rfl) λb=>by
 have h1:=s.1
 suffices h:∃H:Int->DF,dQ C [sO _ _,sI p,none]=xr (iJ p S r) λy=>sO (ob l y.2 y.1) _::H 0 from⟨λ_=>h.choose 0,h.choose_spec⟩
 unfold dQ;rw[s_o,s_c,s_p];unfold iJ;cases I:skp 123 r with
 |none=>exact⟨λ_=>[],bL<|by rw[qL (by decide) s R,I];rfl⟩
 |some r1=>
  have E:=DC I R;have e1:=YH List.length<|rH I;rw[Yg]at e1;rw[aM<|by rw[qL (by decide) s R,I];rfl,Ya];have eN:=xS (i:=2)<|um0 (mn := "number") (t:=some b) (σ:=[sI p,none]) (uB (C:=C) (S:=S) s E) (by kernel_rfl);cases M:iz r1 with
  |none=>exact⟨λ_=>[],bL<|by rw[eN,M];rfl⟩
  |some q=>
   obtain⟨m,f⟩:=q;obtain⟨w,ew,_,lw,U⟩:=qC M;have j:=iD (by rwa[<-ew]);have e2:=YH List.length ew;rw[Yb]at e2;rw[aM<|by rw[eN,M];rfl,Ya];have eT:c_ (asB<|chD leA leA (cI 1) (ar 2)<|cI 99) [sO (ob l f S)<|some b,sI p,sI m]=some (!decide (1<=m/\m<=99)):=by
    by_cases O:1<=(m:Int)
    ·have A:1<=m:=by omega
     by_cases i2:(m:Int)<=99
     ·have x:m<=99:=by omega
      simp[O,i2,A,x]
     ·have x:¬m<=99:=by omega
      simp[O,i2,x]
    ·have A:¬1<=m:=by omega
     simp[O,A]
   by_cases J:1<=m/\m<=99
   ·rw[aM<|gy<|eT.trans<|by rw[Yk J];rfl,Yh J];have eC:=Fh (C:=C) (c:=58) (t:=some b) (σ:=[sI p,sI m]) (S:=S) (by decide) s j;have N:∀(o:Option<|RS×List Nat) G,(∀y,o=some y->y.2 <:+ l)->G [sO (ob l f S)<|some b,sI p,sI m]=xr o (λy=>[sO (ob l y.2 y.1)<|some b,sI p,sI m])->∃H:Int->DF,bq G (xU gI<|bN aa "skip" 0 (b9 C)<|bY (uOf<|ai λ_=>some<|.str<|sT [125]) cS) [sO (ob l f S)<|some b,sI p,sI m]=xr (o.bind λy=>(skp 125 y.2).map λr'=>(y.1,r')) λy=>sO (ob l y.2 y.1) (some b)::H 0:=λo G hy hG=>by
     cases o with
     |none=>exact⟨λ_=>[],bL hG⟩
     |some y=>
      refine⟨λ_=>[sI p,sI m],?_⟩;rw[aM hG,qL (by decide) s<|hy y rfl,Ya];cases skp 125 y.2<;>rfl
    have P:∀y,kK p S (m:Int) f=some y->y.2 <:+ l:=λy h=>by
     obtain⟨w,e,_⟩:=ud h;exact iD (w:=w)<|by rw[<-e];exact j
    refine N _ _ P ?_;unfold kK;by_cases B:f.take 1=[58]
    ·rw[eI<|eC.trans<|by rw[Yk B],Yh B];cases f with
     |nil=>cases B
     |cons c u=>
      cases(Xw B).1;have Q:=iD (w:=[58]) j;rw[Yg]at e2;rw[aM (ρ':=[sO (ob l u S)<|some b,sI p,sI m])<|by rw[qL (by decide) s j];rfl,Vd];have K:=um0 (mn := "marks") (t:=some b) (σ:=[sI p,sI m]) (w_ (C:=C) (S:=S) s Q) (by kernel_rfl);cases L:cM u with
      |none=>
       rw[L]at K;refine Fq ?_;refine(BH (mn := "close_ring")<|by kernel_rfl).trans ?_;unfold bY;show de (de (some<|.ok (D.int (m:Int),[sO (ob l u S)<|some b,sI p,sI m])) _) _=_;show de (de (de (some<|.ok (D.int p,[sO (ob l u S)<|some b,sI p,sI m])) λa=>de (de (bN aa "marks" 0 (bH C) cS a.2) _) _) _) _=_;show de (de (de (de (bN aa "marks" 0 (bH C) cS [sO (ob l u S)<|some b,sI p,sI m]) _) _) _) _=_;rw[K];rfl
      |some z=>
       obtain⟨ms,Z⟩:=z;obtain⟨v,ev,_,lv⟩:=ju L;have e4:=YH List.length ev;rw[Yb]at e4;rw[L]at K;have hT:S.T.length+ms.length<=16777216:=by
        have:S.T.length<=sz S:=by unfold sz;omega
        have lv:ms.length<=v.length:=lv;omega
       have X:S.cl.length<16777216:=by
        have:S.cl.length<=sz S:=by unfold sz;omega
        omega
       have:=um1 (mn := "close_ring") (t:=some b) (σ:=[sI p,sI m]) (r:=u) (r':=Z) (ds:=[.int (m:Int),.int p,.lst<|ms.map dMk]) (g:=bY (uOf<|ai<|getV 2)<|bY (uOf<|ai<|getV 1)<|bY (bN aa "marks" 0 (bH C) cS) cS) (EB (C:=C) (l:=l) (r:=Z) (S:=S) (p:=p) (ms:=ms) U X hT) (by
        unfold bY;show de (de (de (bN aa "marks" 0 (bH C) cS [sO (ob l u S)<|some b,sI p,sI m]) _) _) _=_;rw[K];rfl)<|by kernel_rfl
       rw[xD this,Ya];show xr (clo p S (m:Int) ms) _=xr ((clo p S (m:Int) ms).map _) _;cases clo p S (m:Int) ms<;>rfl
    ·rw[gy<|eC.trans<|by rw[Yi B],Yp B];have Y:S.bg.length<16777216:=by
      have:S.bg.length<=sz S:=by unfold sz;omega
      omega
     rw[xD<|um1 (mn := "begin_ring") (ds:=[.int (m:Int),.int p]) (CV (C:=C) (l:=l) (r:=f) (S:=S) (p:=p) U Y) rfl<|by kernel_rfl];cases beg p S (m:Int)<;>rfl
   ·rw[Yp J];exact⟨λ_=>[],bL<|(eI<|eT.trans<|by rw[Yi J];rfl).trans<|jH<|z7 rfl U⟩
end
theorem Mv.fit{S a}{r w}(m:Mv S r a r' w):sz a + r'.length<=sz S+r.length/\r'.length+w.length=r.length:=by have h:=m.s;rw[m.e,Yb];omega
def Mv.suf{S a}{r w}(m:Mv S r a r' w)(h:r <:+ l):r' <:+ l:=iD<|by rwa[<-m.e]
def s_a:("a")=sT [97]:=by kernel_rfl
def s_z:("z")=sT [122]:=by kernel_rfl
def IA:("(")=sT [40]:=by kernel_rfl
def G_:(")")=sT [41]:=by kernel_rfl
def Gf:(".")=sT [46]:=by kernel_rfl
def ll{p}{S}(h:r.take 1=[123]):dc (n+1) p S r=(iJ p S r).bind λy=>dc n p y.1 y.2:=Yh h
def jj{p}{S}(h:¬r.take 1=[123]):dc (n+1) p S r=some (S,r):=Yp h
section
variable  {t:Option Addr} 
theorem u5(j:TOk l)p y:∀n S r,r <:+ l->r.length<n->sz S+r.length<=l.length->
  cK (asB<|d2 eqD (sgn C) λ_=>some<|.str<|sT [123]) (xU gI<|bN aa "ring_sign" 0 (cF C)<|bY (uOf<|ai<|getV 2) cS) n [sO (ob l r S) t,y,sI p]=xr (dc n p S r) λz=>[sO (ob l z.2 z.1) t,y,sI p]:=by
 intro n;induction n with
 |zero=>intro S r _ h;omega
 |succ n ih=>
  intro S r a s o;have i:=Fh (C:=C) (c:=123) (t:=t) (σ:=[y,sI p]) (S:=S) (by decide) j a;by_cases h:r.take 1=[123]
  ·rw[ll h];have e:=xD<|um1 (mn := "ring_sign") (t:=t) (σ:=[y,sI p]) (g:=bY (uOf<|ai<|getV 2) cS) (Hn (C:=C) j a o) rfl (by kernel_rfl);cases b:iJ p S r with
   |none=>
    rw[b]at e;exact lF (i.trans<|by rw[Yk h]) e
   |some z=>
    rw[b]at e;obtain⟨⟨w,m,q⟩,_⟩:=t_ b;have f:=m.fit;rw[lB (i.trans<|by rw[Yk h]) e];exact ih z.1 z.2 (m.suf a) (by omega)<|by omega
  ·rw[jj h,lO<|i.trans<|by rw[Yi h]];rfl
variable{r:List Nat}{S:RS}
theorem rE(f:TOk l)(e:r <:+ l)(hz:sz S+r.length<=l.length):cU C (ob l r S) []=un (cu S r) λy=>(ob l y.2 y.1,.int (S.K.length:Int)):=B6 rfl λb=>by
 have H:=f.1;have B:=(Xp lt (l:=r)).length_le;have s:=e.length_le;have u:=zT lt e;have q:∀c∈r.takeWhile lt,c<128:=λc j=>f.sub e c ((Xp lt).mem j)
 have A:xOf (bC 1 (ge aa "taken" 0 (bG C) (db (ai (λ_=>some (.str "a"))) (db (ai (λ_=>some (.str "z"))) rc)))) [sO (ob l r S) (some b),none,none]=some (.go (.nx [sO (ob l (r.dropWhile lt) S) (some b),sS (r.takeWhile lt),none])):=cH (by
  unfold bC;rw[wI (ds:=[.str "a",.str "z"]) (by
   show bG C _ [.v (.str "a"),.v (.str "z")]=_;rw[s_a,s_z];exact xz f e) rfl (by kernel_rfl)]
  rfl)
 have m:=AZ C (sT (r.takeWhile lt)) (by show(sT (r.takeWhile lt)).length<_;rw[bW];omega) (λc j=>jY.mp (nF c j));have i:c_ (asB (bv (bt C) (aV (getV 1) nA))) [sO (ob l (r.dropWhile lt) S) (some b),sS (r.takeWhile lt),none]=some (!vZ (r.takeWhile lt)):=by
  generalize bt C=M at m ⊢;have:(decide (1<=(sT (r.takeWhile lt)).cps.size)&&decide ((sT (r.takeWhile lt)).cps.size<=3))=vZ (r.takeWhile lt):=by unfold vZ;rw[show(sT (r.takeWhile lt)).cps.size=(r.takeWhile lt).length from bW _]
  rw[this]at m;simp[m]
 suffices h:∃p:Int->DF,fM C [sO (ob l r S) (some b),none,none]=yr (cu S r) (λ_=>.int (S.K.length:Int)) λy=>sO (ob l y.2 y.1) (some b)::p 0 from⟨λ_=>h.choose 0,h.choose_spec⟩
 unfold fM;rw[s_o,aM A];unfold cu;rw[show N5+10=500000 from rfl];cases a:vZ (r.takeWhile lt)with
 |false=>
  rw[a]at i;exact⟨λ_=>[],bL ((eI i).trans (jH (DA rfl q (by omega))))⟩
 |true=>
  rw[a]at i;rw[aM (gy i),Yh rfl];have E:S.K.length<=sz S:=by unfold sz;omega
  have x:ob l (r.dropWhile lt) {S with K:=S.K++[sT (r.takeWhile lt)]}=rd l (l.length-(r.dropWhile lt).length) (S.K.map .str++[.str (sT (r.takeWhile lt))]) (S.T.map dT4) (S.G.map .int) (bgD S.bg) (clD S.cl):=by unfold ob rdS;rw[YB];rfl
  rw[aM (ρ':=[sO (ob l (r.dropWhile lt) S) (some b),sS (r.takeWhile lt),sI (S.K.length:Int)]) (cH (by
   unfold ob rdS;rw[bi,bX,z6];show some (RES.nx [_,_,sI ((S.K.map D.str).length:Int)])=_;rw[Yc]))]
  rw[aM (ρ':=[sO (ob l (r.dropWhile lt) {S with K:=S.K++[sT (r.takeWhile lt)]}) (some b),sS (r.takeWhile lt),sI (S.K.length:Int)]) (cH (by
   rw[x];exact DS (d:=.str (sT (r.takeWhile lt))) rfl (by rw[Yc];omega)))]
  have I:(r.takeWhile lt).length+(r.dropWhile lt).length=r.length:=by rw[<-Yb,ZE]
  have w:1<=(r.takeWhile lt).length:=by unfold vZ at a;simp only[Yn,ZK]at a;exact a.1
  have g:=u5 (C:=C) (t:=some b) f (S.K.length:Int) (sS (r.takeWhile lt)) 500000 {S with K:=S.K++[sT (r.takeWhile lt)]} (r.dropWhile lt) u (by omega) (by
   show(S.K++[sT (r.takeWhile lt)]).length+S.T.length+S.G.length+S.bg.length+S.cl.length+_<=_;unfold sz at hz;rw[Yb,YU];omega)
  cases o:dc 500000 (S.K.length:Int) {S with K:=S.K++[sT (r.takeWhile lt)]} (r.dropWhile lt)with
  |none=>
   rw[o]at g;exact⟨λ_=>[],bL g⟩
  |some z=>
   rw[o]at g;exact⟨λ_=>[sS (r.takeWhile lt),sI (S.K.length:Int)],by rw[aM g];rfl⟩
theorem zy{h}(u:TOk l)(A:r <:+ l)(hz:sz S+r.length<=l.length):cL C (ob l r S) [.v (.int h)]=un (dE h S r) λy=>(ob l y.2 y.1,.int S.K.length):=B6 rfl λb=>by
 have I:=u.1;have o:=xS (i:=2)<|um0 (mn := "marks") (t:=some b) (σ:=[sI h,none,none]) (w_ (C:=C) (S:=S) u A)<|by kernel_rfl
 suffices hh:∃E:Int->DF,fz C [sO _ _,sI h,none,none]=yr (dE h S r) _ λy=>sO (ob l y.2 y.1) _::E 0 from⟨λ_=>hh.choose 0,hh.choose_spec⟩
 unfold fz dE;cases p:cM r with
 |none=>rw[p]at o;exact⟨λ_=>[],bL o⟩
 |some z=>
  rw[p]at o;obtain⟨a,g⟩:=z;obtain⟨w,B,_,x⟩:=ju p;have x:a.length<=w.length:=x;have s:=iD (by rwa[<-B]);have e:=YH List.length B;rw[Yb]at e;have e:r.length=w.length+g.length:=e;rw[aM (ρ':=[sO _ _,sI h,sV _,none]) o,Ya];have j:=xS (i:=3)<|um0 (mn := "place") (t:=some b) (σ:=[sI h,sV<|.lst<|a.map dMk,none]) (rE (C:=C) (S:=S) u s<|by omega) (by kernel_rfl);cases q:cu S g with
  |none=>rw[q]at j;exact⟨λ_=>[],bL<|j.trans<|by rfl⟩
  |some y=>
   rw[q]at j;obtain⟨⟨v,m,_⟩,_⟩:=gY q;have f:=m.fit;have H:y.1.T.length<=sz y.1:=by unfold sz;omega
   refine⟨λ_=>[sI h,sV<|.lst<|a.map dMk,sI S.K.length],?_⟩;rw[aM (ρ':=[sO _ _,sI h,sV _,sI _]) j];rw[aM<|cH<|by
    unfold nL;rw[wI (Ci<|by omega) rfl<|by kernel_rfl];rfl]
   rfl
def I9(h2:getV 2 ρ=some (.str (sT [c]))):asB (d1 (inG bQ) (getV 2)) ρ=some (gl3 c).isSome:=by rw[bw,bX,h2];show some _=_;rw[zU]
def BP(h2:ar 2 ρ=some (.str (sT [c])))(h:c<128)(hd:d<128):asB (d2 eqD (ar 2) (λ_=>some (.str (sT [d])))) ρ=some (decide (c=d)):=by rw[bw,aq,h2];show(match eqD _ (.str _)with|some (.bl b)=>some b|_=>none)=_;rw[Gc (by simpa using h)<|by simpa using hd];simp
def FE{a}{K G}{σ:DF}:nR (some aa) 0 "hung" (sO (rd l a K T (G++[d]) B Q) t::σ)=some (d,sO (rd l a K T G B Q) t::σ):=by
 unfold nR;rw[wd,Ya];show((G++[d])[(G++[d]).length-1]?).bind _=_;rw[show(G++[d])[(G++[d]).length-1]?=some d by simp,Ya,Vl];refine(YH _<|lq (n := "hung") (o:=.lst<|G++[d]) (o':=.lst G) (by kernel_rfl) rfl<|by show 7<1000;decide).trans ?_
 kernel_rfl
def EW{h}{y}(b:TOk l)(a:r <:+ l)(hz:sz S+r.length<=l.length):xU xZ (bN aa "follow" 0 (cL C) (bY (uOf (ai (getV 1))) cS)) [sO (ob l r S) t,sI h,y]=yr (dE h S r) (λ_=>.int S.K.length) λz=>[sO (ob l z.2 z.1) t,sI h,y]:=xR<|um1 (ds:=[.int h]) (zy b a hz) rfl<|by kernel_rfl
def B9{σ:DF}:jT (aP (some aa) 0 "hung") (sO (ob l r S) t::σ)=some (!decide (S.G=[])):=by unfold jT ob rdS;rw[wd];cases S.G<;>rfl
def v7{α b}{o}{g:α->b}{d}{f}:yr (o.map g) d f=yr o (λa=>d (g a)) λa=>f (g a):=by cases o<;>rfl
theorem J4{h}(o:TOk l)(s:r <:+ l)(hz:sz S+r.length<=l.length)(L:r≠[]):dO C (ob l r S) [.v (.int h)]=un (rGo h S r) λy=>(ob l y.2.2 y.2.1,.int y.1):=B6 rfl λb=>by
 have P:=o.1;cases r with
 |nil=>exact absurd rfl L
 |cons c r=>
 have B:=o.sub s c Yf;have p:=iD (w:=[c]) s;rw[Yg]at hz
 suffices hh:∃J:Int->DF,fV C [sO _ _,sI h,none]=yr (rGo h S (c::r)) _ λy=>sO (ob l y.2.2 y.2.1) _::J 0 from⟨λ_=>hh.choose 0,hh.choose_spec⟩
 refine⟨λ_=>[sI h,sS [c]],?_⟩;unfold fV;rw[IA,G_,Gf,aM<|cH<|by rw[bi];show Option.map _ (sgn C [sO _ _,sI h,none])=_;rw[yw o s];rfl];rw[show rGo h S (c::r)=if(gl3 c).isSome=true then _ else _ from rfl];have u:=I9 (ρ:=[sO (ob l (c::r) S)<|some b,sI h,sS [c]]) rfl;have f:=BP (d:=40) (ρ:=[sO (ob l r S)<|some b,sI h,sS [c]]) rfl B (by decide);have A:=BP (d:=41) (ρ:=[sO (ob l r S)<|some b,sI h,sS [c]]) rfl B (by decide);have x:=BP (d:=46) (ρ:=[sO (ob l r S)<|some b,sI h,sS [c]]) rfl B (by decide);have E:=B9 (l:=l) (r:=r) (S:=S) (t:=some b) (σ:=[sI h,sS [c]]);cases H:(gl3 c).isSome with
 |true=>
  rw[H]at u;rw[Yh rfl];have:=EW (C:=C) (t:=some b) (h:=h) (y:=sS [c]) o s (by rw[Yg];omega);rw[v7];cases j:dE h S (c::r)with
  |none=>rw[j]at this;exact bL<|(eI u).trans this
  |some y=>rw[j]at this;exact mW<|(eI u).trans this
 |false=>
  rw[H]at u;rw[Yp Ym,aM<|gy u,aM<|cH<|sY s];by_cases i:c=40
  ·rw[Yk i]at f;rw[Yh i];have O:S.G.length<=sz S:=by unfold sz;omega
   have M:ob l r {S with G:=S.G++[h]}=rd l (l.length-r.length) (S.K.map .str) (S.T.map dT4) (S.G.map .int++[.int h]) (bgD S.bg) (clD S.cl):=by unfold ob rdS;rw[YB];rfl
   have I:xOf (cm _ 0 "hung"<|getV 1) [sO _ _,sI h,sS [c]]=some (.go<|.nx [sO (ob l r {S with G:=S.G++[h]})<|some b,sI h,sS [c]]):=cH (by rw[M];exact Ew rfl<|by rw[Yc];omega);have:=EW (C:=C) (t:=some b) (h:=h) (y:=sS [c]) (S:={S with G:=S.G++[h]}) o p<|by
    show S.K.length+S.T.length+(S.G++[h]).length+S.bg.length+S.cl.length+_<=_;unfold sz at hz;rw[Yb,YU];omega
   rw[v7];cases j:dE h {S with G:=S.G++[h]} r with
   |none=>rw[j]at this;exact bL<|(eI f).trans<|(aM I).trans this
   |some y=>rw[j]at this;exact mW<|(eI f).trans<|(aM I).trans this
  ·rw[Yi i]at f;rw[Yp i,aM<|gy f];by_cases a:c=41/\S.G≠[]
   ·rw[Yh a];have m:fD (asB<|d2 eqD (ar 2) λ_=>some<|.str<|sT [41]) (jT<|aP (some aa) 0 "hung") [sO (ob l r S)<|some b,sI h,sS [c]]=some true:=by rw[jv,A,Yk a.1,E,Yi a.2];rfl
    refine mW<|(eI m).trans<|cH ?_;have e:S.G=S.G.dropLast++[S.G.getLastD 0]:=by rw[List.getLastD_eq_getLast?,List.getLast?_eq_some_getLast a.2];exact(Xl a.2).symm
    unfold iW;have N:ob l r S=rd l (l.length-r.length) (S.K.map .str) (S.T.map dT4) (S.G.dropLast.map .int++[.int<|S.G.getLastD 0]) (bgD S.bg) (clD S.cl):=by
     unfold ob rdS
     conv=>lhs;rw[e,YB]
     rfl
    rw[N,FE];rfl
   ·have m:fD (asB<|d2 eqD (ar 2) λ_=>some<|.str<|sT [41]) (jT<|aP (some aa) 0 "hung") [sO (ob l r S)<|some b,sI h,sS [c]]=some false:=by
     rw[jv,A,E];by_cases q:c=41
     ·rw[Yk q,Yk<|Classical.not_not.mp λz=>a ⟨q,z⟩];rfl
     ·rw[Yi q];rfl
    rw[Yp a,aM<|gy m];by_cases g:c=46/\S.G=[]
    ·rw[Yh g];have m:fD (asB<|d2 eqD (ar 2) λ_=>some<|.str<|sT [46]) (c_<|jT<|aP (some aa) 0 "hung") [sO (ob l r S)<|some b,sI h,sS [c]]=some true:=by rw[jv,x,Yk g.1,qW,E,Yk g.2];rfl
     have:=xR<|um0 (mn := "place") (t:=some b) (σ:=[sI h,sS [c]]) (rE (C:=C) (S:=S) o p<|by omega) (by kernel_rfl);rw[v7];cases j:cu S r with
     |none=>rw[j]at this;exact bL<|(eI m).trans this
     |some y=>rw[j]at this;exact mW<|(eI m).trans this
    ·have m:fD (asB<|d2 eqD (ar 2) λ_=>some<|.str<|sT [46]) (c_<|jT<|aP (some aa) 0 "hung") [sO (ob l r S)<|some b,sI h,sS [c]]=some false:=by
      rw[jv,x,qW,E];by_cases q:c=46
      ·rw[Yk q,Yi λz=>g ⟨q,z⟩];rfl
      ·rw[Yi q];rfl
     rw[Yp g,aM<|gy m];exact jH<|DA rfl (by simpa using B)<|show 1<400000 by decide
theorem BL(A:TOk l):∀n h S r,r <:+ l->r.length<n->sz S+r.length<=l.length->∃o:DF, 
  bq (cK (asB<|d2 ltd (dR (some aa) 0 "at")<|d1 aK<|dR (some aa) 0 "text") (xU (uo 1)<|bN aa "go_on" 0 (dO C)<|bY (uOf<|ai<|getV 1) cS) n)
  (bq (xIf (jT<|aP (some aa) 0 "hung") (xEx 0) xNx)
 <|xIf (asB<|d2 ltd (d1 vf<|aP (some aa) 0 "closed")<|d1 vf<|aP (some aa) 0 "begun") (xEx 0) xNx) [sO (ob l r S) t,sI h]=xr (fN n h S r) λJ=>sO (ob l [] J) t::o:=by
 intro n;induction n with
 |zero=>intro h S r _ h;omega
 |succ n ih=>
  intro h S r p H x;have L:=A.1;have u:asB (d2 ltd (dR (some aa) 0 "at")<|d1 aK<|dR (some aa) 0 "text") [sO (ob l r S) t,sI h]=some (decide<|((l.length-r.length:Nat))<(l.length:Int)):=by unfold ob rdS;rw[bw,aq,bX,AD,wB];show(match(if(sT l).length<=16777216 then some (D.int (sT l).length)else none).bind λy=>ltd _ y with|some (.bl b)=>some b|_=>none)=_;rw[bW,Yh<|by omega];rfl
  cases r with
  |nil=>
   refine⟨[sI h],?_⟩;rw[aM<|lO<|u.trans<|by rw[Yi];show ¬((l.length-0):Int)<_;omega];show _=xr (if S.G=[]/\S.bg.length<=S.cl.length then some S else none) _;have E:asB (d2 ltd (d1 vf<|aP (some aa) 0 "closed")<|d1 vf<|aP (some aa) 0 "begun") [sO (ob l [] S) t,sI h]=some (decide<|S.cl.length<(S.bg.length:Int)):=by unfold ob rdS;rw[bw,aq,bX,bX,pJ,kX];show some (decide _)=_;unfold clD bgD;rw[Yc,Yc]
   by_cases j:S.G=[]
   ·rw[aM<|gy<|B9.trans<|by rw[Yk j];rfl];by_cases B:S.bg.length<=S.cl.length
    ·rw[Yh ⟨j,B⟩,gy<|E.trans<|by rw[Yi];omega];rfl
    ·rw[Yp λz=>B z.2,eI<|E.trans<|by rw[Yk];omega];rfl
   ·rw[Yp λz=>j z.1];exact bL<|eI<|B9.trans<|by rw[Yi j];rfl
  |cons c r=>
   have s:=p.length_le;rw[Yg]at H s u;have a:=u.trans (by rw[Yk];omega);have e:=xS (i:=1)<|um1 (mn := "go_on") (t:=t) (σ:=[sI h]) (g:=bY (uOf<|ai<|getV 1) cS) (J4 (C:=C) A p x<|by exact λz=>nomatch z) rfl (by kernel_rfl);rw[show fN (n+1) h S (c::r)=(rGo h S (c::r)).bind λy=>fN n y.1 y.2.1 y.2.2 from rfl];cases q:rGo h S (c::r)with
   |none=>rw[q]at e;exact⟨[],bL<|lF a e⟩
   |some y=>
    rw[q]at e;obtain⟨w,m,K⟩:=Ca q;have f:=m.fit;rw[Yg]at f x;obtain⟨o,I⟩:=ih y.1 y.2.1 y.2.2 (m.suf p) (by omega) (by omega);refine⟨o,?_⟩;rw[Ya,<-I];unfold bq;rw[lB a e];rfl
theorem HC(g:TOk l):b8 C (rd l 0 [] [] [] [] []) []=un (fi l) λS=>(ob l [] S,.non):=uG rfl (λ_=>rfl) λb=>by
 have q:=g.1;have o:rd l 0 [] [] [] [] []=ob l l S0:=by unfold ob rdS S0;rw[Nat.sub_self];rfl
 rw[o];have e:=xS (i:=1)<|um0 (mn := "place") (t:=some b) (σ:=[none]) (rE (C:=C) (S:=S0) g (List.suffix_refl l)<|by show 0+l.length<=_;omega)<|by kernel_rfl
 suffices hh:∃a:Int->DF,d8 C [sO _ _,none]=xr (fi l) λy=>sO (ob l [] y) _::a 0 from⟨λ_=>hh.choose 0,hh.choose_spec⟩
 unfold d8 fi;rw[show N5+10=500000 from rfl];cases h:cu S0 l with
 |none=>rw[h]at e;exact⟨λ_=>[],bL e⟩
 |some y=>
  rw[h]at e;obtain⟨⟨w,m,p⟩,_⟩:=gY h;have f:=m.fit;have:sz S0=0:=rfl;obtain⟨a,j⟩:=BL (C:=C) (t:=some b) g 500000 0 y.1 y.2 (m.suf<|List.suffix_refl l) (by omega) (by omega);refine⟨λ_=>a,?_⟩;rw[aM e,Ya,<-j];rfl
def G6 C w:bV C (.obj (some aa) []) [.v (.str (sT w))]=some (rd w 0 [] [] [] [] [],.non):=rP rfl λb=>⟨.nx [sO _ _,sS w],by kernel_rfl,rfl,rfl⟩
def JD{a}{K G} :fF aa "kinds" (rd l a K T G B Q).d=some (.lst K):=by kernel_rfl
def Jw{a}{K G} :fF aa "ties" (rd l a K T G B Q).d=some (.lst T):=by kernel_rfl
def Ch(h:TOk l):bq (xOf (dF 1 (tq aa (bV C) (aV (getV 0) nA)))) (xU gI (bN aa "read_all" 1 (b8 C) cS)) [sS l,none]=xr (fi l) λS=>[sS l,sO (ob l [] S) none]:=by
 rw[aM<|cH<|by
  rw[nG];show Option.map _ (match bV C _ [.v _]with|some (o',.non)=>some o'|_=>none)=_;rw[G6];rfl]
 have a:=HC (C:=C) h;unfold xU bN;show(match(if(rdF l 0 [] [] [] [] []).lookup ("read_all":Str)=none then de (b8 C _ []) _ else none:Option<|Except Nat<|D×DF)with|some (.ok r)=>_|some (.error k)=>_|none=>_)=_;rw[Yh<|by kernel_rfl,a];cases fi l<;>rfl
noncomputable def vOf:XR->Option (Except Nat DV)
 |.go r=>(c9<|some r).map .ok
 |.ex k=>some<|.error k
def EU{g}{x}{r}(h:g [some x,none]=some r):vG 2 1 g [x]=vOf r:=by unfold vG;rw[Yh<|show[x].length=1 from rfl];show(match g [some x,none]with|some (.go r)=>(c9 _).map Except.ok|some (.ex k)=>some _|none=>none)=_;rw[h];cases r<;>rfl
def D7(a:TOk l)(h:fi l=none):fg C [.v (.str (sT l))]=some 0:=by
 have e:=Ch (C:=C) a;rw[h]at e;have:fQ C [sS l,none]=some (.ex 0):=by
  unfold fQ;unfold bq at e ⊢;revert e;cases xOf _ [sS l,none]with
  |none=>intro e;cases e
  |some z=>
   cases z with
   |ex k=>intro e;exact e
   |go z=>
    cases z with
    |nx ρ=>intro e;dsimp only at e ⊢;rw[e];rfl
    |_=>intro e;cases e
 unfold fg CA e7;rw[EU this];rfl
def zw(b:TOk l)(h:fi l=some S)(a:1<=n/\n<=7)(g:okK n S.K)(f:okS n S.T):∃J,cT C [.v (.str (sT l))]=sO (.ins C (wFs S.K (.lst (srt S.T)) J)) none:=by
 obtain⟨J,i⟩:=EK C S.K S.T n a g f;refine⟨J,?_⟩;have e:=Ch (C:=C) b;rw[h]at e;have:fQ C [sS l,none]=some (.go<|.rt (.own (.ins C<|wFs S.K (.lst<|srt S.T) J) none) [sS l,sV<|(ob l [] S).d]):=by
  unfold fQ;have j:xOf (u3 1<|mh<|pY C (eG C)<|aV (d1 (fF aa "kinds")<|getV 1)<|aV (d1 (fF aa "ties")<|getV 1) nA) [sS l,sO _ none]=some _:=cH<|by
   show mh _ [sS l,sV<|(ob l [] S).d]=_;rw[ui,i]
   ·rfl
   ·rw[jD,jD,bX,bX];show(fF aa "kinds" (ob l [] S).d).bind (λd=>(((fF aa "ties" (ob l [] S).d).bind λd=>some [DV.v d]).map λx=>DV.v d::x))=_;unfold ob rdS;rw[JD,Jw];rfl
  unfold bq at e ⊢;revert e;cases xOf _ [sS l,none]with
  |none=>intro e;cases e
  |some z=>
   cases z with
   |ex k=>intro e;cases e
   |go z=>
    cases z with
    |nx ρ=>intro e;dsimp only at e ⊢;rwa[e]
    |_=>intro e;cases e
 unfold cT Bw e7;rw[EU this];rfl
end
def brk(lo hi:Nat)(r:List Nat):Prop:=∀c∈r.head?,¬(lo<=c/\c<=hi)
theorem sy(a:brk lo hi r):∀{w},(∀c∈w,lo<=c/\c<=hi)->(w++r).takeWhile (rg lo hi)=w/\(w++r).dropWhile (rg lo hi)=r
 |[],_=>by
  cases r with
  |nil=>exact⟨rfl,rfl⟩
  |cons c r=>
   have h:=λz=>a c rfl<|jY.mp z
   exact⟨Xz h,Xy h⟩
 |c::w,hw=>by
  have h:=jY.mpr<|hw c Yf;obtain⟨f,e⟩:=sy a λx b=>hw x<|Ye _ b
  exact⟨(List.takeWhile_cons_of_pos h).trans<|YH (c::·) f,(Xx h).trans e⟩
theorem r_ m:∀c∈dig m,c<128:=λc h=>by have:=rb m c h;omega
def ko{m}(b:m<10^30)(a:brk 48 57 r):iz (dig m++r)=some (m,r):=by
 obtain⟨g,f⟩:=sy a<|rb m;have e:=fG m 30 (by decide) b;have i:1<=(dig m).length:=ZR.mpr<|vc m;unfold iz dg;rw[g,f,DK,Yh];unfold jF;rw[Yk i,Yk e];rcases zL m with h|h
 ·subst h;rw[lm<|by decide];rfl
 ·rw[Yi h,Bool.not_false,Bool.or_true];rfl
def brkM(r:List Nat):Prop:=∀c∈r.head?,97<=c/\c<=125
theorem brkM.no(h:brkM r):glR r=none:=by
 cases r with
 |nil=>rfl
 |cons c r=>
  have:=h c rfl;show gl3 c=none;unfold gl3;rw[Yp<|by omega,Yp<|by omega,Yp<|by omega]
theorem brkM.dig(h:brkM r):brk 48 57 r:=λc a=>by have:=h c a;omega
theorem wg(h:brkM r):∀{ms}{n},(∀q∈ms,okM q)->ms.length<n->rMk n (mtx ms++r)=some (ms,r)
 |[],n,_,hn=>by
  obtain⟨n,rfl⟩:∃m,n=m+1:=⟨n-1,by simp at hn;omega⟩
  exact vB h.no
 |q::ms,n,hq,hn=>by
  rw[Yg]at hn;obtain⟨n,rfl⟩:∃m,n=m+1:=⟨n-1,by omega⟩
  have ok:=hq q Yf;have bk:brk 48 57 (mtx ms++r):=by
   cases ms with
   |nil=>exact h.dig
   |cons b ms=>
    intro c a;have:c=ldN b.2:=by rw[tJ]at a;exact(Yv a).symm
    subst this;have:∀j:Nat,¬(48<=ldN j/\ldN j<=57):=λj=>by unfold ldN;split<;>decide
    exact this _
  rw[v3<|show glR (mtx (q::ms)++r)=some q.2 from Fd ok.2];show(iz<|(dig q.1++mtx ms)++r).bind _=_;rw[Yq,ko ok.1 bk,Ya,wg h (λx e=>hq x<|Ye _ e)<|by omega];rfl
def oI(h:brkM r)(a:∀q∈ms,okM q)(b:ms≠[])(h1:ms.length<200):cM (mtx ms++r)=some (ms,r):=by unfold cM;rw[wg h a<|ZA h1<|by decide,Ya,Yp b]
abbrev Ev:=Nat×Option (Int×List Mk)
noncomputable def evR:Option (Int×List Mk)->List Nat
 |none=>[125]
 |some m=>58::(mtx m.2++[125])
noncomputable def evT(e:Ev):List Nat:=123::(dig e.1++evR e.2)
noncomputable def evB(p:Int)(e:Ev):List (Int×Int):=match e.2 with|none=>[(e.1,p)]|some _=>[]
noncomputable def evC(e:Ev):List Int:=match e.2 with|none=>[]|some _=>[e.1]
def evS(p:Int)(e:Ev):List T4:=match e.2 with|none=>[]|some m=>m.2.map<|bS m.1 p
def okE(p:Int)(bg:List (Int×Int))(cl:List Int)(e:Ev):Prop:=(1<=e.1/\e.1<=99)/\match e.2 with|none=>(e.1:Int)∉bg.map (·.1)|some m=>((e.1:Int),m.1)∈bg/\m.1≠p/\(e.1:Int)∉cl/\m.2≠[]/\m.2.length<200/\∀q∈m.2,okM q
theorem ES:∀{bg}{p},(bg.map (·.1)).Nodup->(n,p)∈bg->lk n bg=some p
 |[],_,_,h=>nomatch h
 |q::bg,p,nd,h=>by
  unfold lk;rcases Yw.mp h with e|h
  ·rw[<-e,Yh rfl]
  ·rw[Yp λe=>(YG.mp nd).1<|Yt.mpr ⟨_,h,e.symm⟩];exact ES (YG.mp nd).2 h
theorem sM:∀{bg},n∉bg.map (·.1)->lk n bg=none
 |[],_=>rfl
 |q::bg,h=>by
  unfold lk;rw[Yp λe=>h<|Yw.mpr<|.inl e.symm];exact sM λz=>h<|Ye _ z
def yu{p}{S}{e}(s:(S.bg.map (·.1)).Nodup)(he:okE p S.bg S.cl e):iJ p S (evT e++r)=some (⟨S.K,S.T++evS p e,S.G,S.bg++evB p e,S.cl++evC e⟩,r):=by
 obtain⟨n,m⟩:=e;obtain⟨q,he⟩:=he;have u:n<10^30:=YS q.2 (by decide);have bk:brk 48 57 (evR m++r):=by cases m<;>(intro c o;cases o;decide)
 have x:evT (n,m)++r=123::(dig n++(evR m++r)):=by unfold evT;simp
 rw[x];show(iz _).bind _=_;rw[ko u bk,Ya];show(if 1<=n/\n<=99 then _ else none)=_;rw[Yh q];cases m with
 |none=>
  show(kK p S _ (125::r)).bind _=_;unfold kK;rw[Yp<|show ¬(125::r).take 1=[58]from λz=>absurd (Xw z).1<|by decide];unfold beg;rw[sM he];show some ((⟨S.K,S.T,S.G,S.bg++[((n:Int),p)],S.cl⟩:RS),r)=some (⟨S.K,S.T++[],S.G,S.bg++[((n:Int),p)],S.cl++[]⟩,r);rw[Yl,Yl]
 |some m=>
  obtain⟨b,a⟩:=m;obtain⟨l,j,i,g,f,h⟩:=he;have w:evR (some (b,a))++r=58::(mtx a++(125::r)):=by unfold evR;simp
  show(kK p S _ _).bind _=_;rw[w];unfold kK;rw[Yh<|show(58::(mtx a++(125::r))).take 1=[58]from rfl,Vd,oI (by intro c o;cases o;decide) h g f,Ya];unfold clo;rw[ES s l];show((if(n:Int)∈S.cl\/b=p then none else some _).map _).bind _=_;rw[Yp<|not_or.mpr ⟨i,j⟩];show some ((⟨S.K,S.T++a.map _,S.G,S.bg,S.cl++[(n:Int)]⟩:RS),r)=some (⟨S.K,S.T++a.map _,S.G,S.bg++[],S.cl++[(n:Int)]⟩,r);rw[Yl]
def mD(r:List Nat):Prop:=∀c∈r.head?,¬(97<=c/\c<=123)
theorem zH{p}{e e2}(h:okE p bg cl e2)(b:e.1≠e2.1):okE p (bg++evB p e) (cl++evC e) e2:=by
 obtain⟨n,m⟩:=e;obtain⟨n2,a⟩:=e2;refine⟨h.1,?_⟩;have f:=h.2;have i:(n2:Int)∉(evB p (n,m)).map (·.1):=by
  cases m with
  |none=>intro z;have:n2=(n:Int):=Yo.mp z;exact b<|by omega
  |some m=>exact λz=>nomatch z
 have g:(n2:Int)∉evC (n,m):=by
  cases m with
  |none=>exact λz=>nomatch z
  |some m=>intro z;have:n2=(n:Int):=Yo.mp z;exact b<|by omega
 cases a with
 |none=>
  show(n2:Int)∉(bg++evB p (n,m)).map (·.1);rw[YB,Yj];rintro (z|z)
  ·exact f z
  ·exact i z
 |some a=>
  obtain⟨q,o,l,j⟩:=f;refine⟨Yj.mpr<|.inl q,o,?_,j⟩;rw[Yj];rintro (z|z)
  ·exact l z
  ·exact g z
def yg{p}{e}(h:okE p bg cl e)(a:(bg.map (·.1)).Nodup):((bg++evB p e).map (·.1)).Nodup:=by
 obtain⟨n,m⟩:=e;cases m with
 |none=>
  show((bg++[((n:Int),p)]).map (·.1)).Nodup;rw[YB];refine YO.mpr ⟨a,by simp,λx f y b=>?_⟩;have:y=n:=Yo.mp b;subst this;exact λz=>h.2<|z ▸ f
 |some m=>show((bg++([]:List<|Int×Int)).map (·.1)).Nodup;rwa[Yl]
theorem vb{p}{r}(j:mD r):∀(evs:List Ev) n S,(S.bg.map (·.1)).Nodup->(∀e∈evs,okE p S.bg S.cl e)->(evs.map (·.1)).Nodup->evs.length<n->dc n p S (evs.flatMap evT++r)=some (⟨S.K,S.T++evs.flatMap (evS p),S.G,S.bg++evs.flatMap (evB p),S.cl++evs.flatMap evC⟩,r):=by
 intro evs;induction evs with
 |nil=>
  intro n S _ _ _ a;obtain⟨n,rfl⟩:∃m,n=m+1:=⟨n-1,by simp at a;omega⟩
  refine(jj λz=>?_).trans ?_
  ·cases r with
   |nil=>cases z
   |cons c r=>have:=(Xw z).1;exact j c rfl<|by omega
  ·show some (S,r)=some (⟨S.K,S.T++[],S.G,S.bg++[],S.cl++[]⟩,r);rw[Yl,Yl,Yl]
 |cons e evs ih=>
  intro n S f g l a;rw[Yg]at a;obtain⟨n,rfl⟩:∃m,n=m+1:=⟨n-1,by omega⟩
  have o:=g e Yf;have b:=YG.mp<|YD ▸ l;rw[List.flatMap_cons,Yq,ll<|show(evT e++_).take 1=[123]from rfl,yu f o,Ya,ih n _ (yg o f) (λi h=>zH (g i<|Ye _ h) λz=>b.1<|z ▸ Yt.mpr ⟨i,h,rfl⟩) b.2<|by omega];simp[List.flatMap_cons,Yq]
def plT(kd:List Nat)(evs:List Ev):List Nat:=kd++evs.flatMap evT
structure OkP (p:Int) (bg:List (Int×Int)) (cl:List Int) (kd:List Nat) (evs:List Ev):Prop where
 kd:okW (sT kd)
 ev:∀e∈evs,okE p bg cl e
 nd:(evs.map (·.1)).Nodup
 nb:(bg.map (·.1)).Nodup
 le:evs.length<200
 lb:bg.length<1000
 lc:cl.length<1000
 ls:(evs.flatMap (evS p)).length<1000
def Ds(h:okW (sT kd)):∃c k,kd=c::k/\97<=c/\c<=122:=by
 cases kd with
 |nil=>exact absurd h.1<|by decide
 |cons c k=>exact⟨c,k,rfl,h.2.2 c Yf⟩
theorem D5{evs:List Ev}(a:mD r):brk 97 122 (evs.flatMap evT++r):=by
 cases evs with
 |nil=>intro c h;have:=a c h;omega
 |cons e evs=>intro c h;have:c=123:=(Yv h).symm;omega
def plS(S:RS)(kd:List Nat)(evs:List Ev)(X:List T4)(G:List Int):RS:=⟨S.K++[sT kd],S.T++(evs.flatMap (evS S.K.length)++X),G,S.bg++evs.flatMap (evB S.K.length),S.cl++evs.flatMap evC⟩
structure OkR (S:RS) (kd:List Nat) (evs:List Ev):Prop where
 p:OkP (S.K.length:Int) S.bg S.cl kd evs
 k:S.K.length<1000
 t:S.T.length<1000
def jX{S}(h:mD r)(o:OkP S.K.length S.bg S.cl kd evs):cu S (plT kd evs++r)=some (plS S kd evs [] S.G,r):=by obtain⟨f,e⟩:=sy (D5 h) o.kd.2.2;have b:1<=kd.length:=o.kd.1;have a:kd.length<=3:=o.kd.2.1;unfold cu plT lt;rw[Yq,show(sT kd).cps.toList=kd from rfl]at *;rw[f,e,Yh<|by unfold vZ;rw[Yk b,Yk a];rfl,vb h evs _ {S with K:=S.K++[sT kd]} o.nb o.ev o.nd<|ZA o.le<|by decide];unfold plS;rw[Yl]
def GO(_:Addr)(h:Int)(w:List Nat)(S:RS)(h2:Int)(a:RS):Prop:=(mD w/\w≠[])/\∀r,mD r->rGo h S (w++r)=some (h2,a,r)
theorem l9{S}{h}(e:mD r)(o:OkP S.K.length S.bg S.cl kd evs)(f:∀q∈ms,okM q)(b:ms≠[])(m:ms.length<200):dE h S ((mtx ms++plT kd evs)++r)=some (plS S kd evs (ms.map (bS h S.K.length)) S.G,r):=by obtain⟨c,k,g,i⟩:=Ds o.kd;unfold dE;rw[Yq,oI (by intro x a;rw[plT,g]at a;have:x=c:=(Yv a).symm;omega) f b m,Ya,jX e o];show some ((⟨S.K++[sT kd],(S.T++(evs.flatMap _++[]))++ms.map _,S.G,S.bg++evs.flatMap _,S.cl++evs.flatMap evC⟩:RS),r)=_;unfold plS;rw[Yl,Yq]
section
variable{S:RS}{h:Int} 
def BE(h:∀q∈ms,okM q)(m:ms≠[]):∃c k,mtx ms=c::k/\(gl3 c).isSome=true/\(c=126\/c=62\/c=60):=by
 cases ms with
 |nil=>exact absurd rfl m
 |cons q ms=>
  refine⟨ldN q.2,_,tJ q ms,by rw[Fd (h q Yf).2];rfl,?_⟩;have:∀j:Nat,ldN j=126\/ldN j=62\/ldN j=60:=λj=>by unfold ldN;split<;>simp
  exact this _
theorem Eb(o:OkR S kd evs)(b:∀q∈ms,okM q)(m:ms≠[])(g:ms.length<200):GO C h (mtx ms++plT kd evs) S S.K.length (plS S kd evs (ms.map (bS h S.K.length)) S.G):=by
 obtain⟨c,k,e,j,l⟩:=BE b m;refine⟨⟨λx a=>?_,by rw[e];exact λz=>nomatch z⟩,λr i=>?_⟩
 ·rw[e]at a;have:x=c:=(Yv a).symm;omega
 ·have f:=l9 (h:=h) i o.p b m g;rw[e]at f ⊢;show(if(gl3 c).isSome=true then _ else _)=_;rw[Yh j];show(dE h S<|(c::k++plT kd evs)++r).map _=_;rw[f];rfl
theorem zM(o:OkR S kd evs)(i:S.G.length<1000)(f:∀q∈ms,okM q)(a:ms≠[])(m:ms.length<200):GO C h (40::(mtx ms++plT kd evs)) S S.K.length (plS S kd evs (ms.map (bS h S.K.length)) (S.G++[h])):=by
 refine⟨⟨λx b=>?_,λz=>nomatch z⟩,λr e=>?_⟩
 ·have:x=40:=(Yv b).symm;omega
 ·have g:=l9 (S:={S with G:=S.G++[h]}) (h:=h) e o.p f a m;show(dE h {S with G:=S.G++[h]}<|(mtx ms++plT kd evs)++r).map _=_;rw[g];rfl
theorem Ak(a:S.G=G++[h2]):GO C h [41] S h2 {S with G:=G}:=by
 refine⟨⟨λx b=>?_,λz=>nomatch z⟩,λr e=>?_⟩
 ·have:x=41:=(Yv b).symm;omega
 ·show(if 41=41/\S.G≠[]then some (S.G.getLastD 0,{S with G:=S.G.dropLast},r)else _)=_;rw[Yh ⟨rfl,by rw[a];simp⟩,a,Vl,List.getLastD_concat]
theorem zl(o:OkR S kd evs)(e:S.G=[]):GO C h (46::plT kd evs) S S.K.length (plS S kd evs [] S.G):=by
 refine⟨⟨λx a=>?_,λz=>nomatch z⟩,λr b=>?_⟩
 ·have:x=46:=(Yv a).symm;omega
 ·show(if 46=46/\S.G=[]then(cu S<|plT kd evs++r).map _ else none)=_;rw[Yh ⟨rfl,e⟩,jX b o.p];rfl
end
def Reads(_:Addr)(w:List Nat)(h:Int)(S:RS)(k:Nat):Prop:=∀r,mD r->∃y,cu S0 (w++r)=some y/\∀n,fN (n+k) 0 y.1 y.2=fN n h S r
def D2(o:OkP 0 [] [] kd evs):Reads C (plT kd evs) 0 (plS S0 kd evs [] []) 0:=λr h=>⟨_,jX h o,λn=>rfl⟩
theorem Reads.go{w a}{h h2}{S e}(i:Reads C w h S k)(g:GO C h a S h2 e):Reads C (w++a) h2 e (k+1):=λr f=>by
 obtain⟨⟨m,j⟩,l⟩:=g;cases a with
 |nil=>exact absurd rfl j
 |cons c b=>
  obtain⟨y,p,o⟩:=i (c::b++r) (by exact m);refine⟨y,by rwa[Yq],λn=>?_⟩;rw[show n+(k+1)=(n+1)+k by omega,o];show(rGo h S (c::b++r)).bind _=_;rw[l r f];rfl
def Reads.text{w r}{h}{S}(e:Reads C w h S k)(a:mD r)(b:k<900):fi (w++r)=fN (N5+10-k) h S r:=by obtain⟨y,g,f⟩:=e r a;unfold fi;rw[g,Ya,<-f,Nat.sub_add_cancel<|YW (Zz b)<|by decide]
end My
set_option maxHeartbeats 400000
namespace My
open PySem PySem.Spec PyProof.Rows L2
def At(A:OD)(b:Nat):Prop:=∃i x:Int,A=.lst [.int i,.int x]/\0<=i/\i<=b
theorem At.mono{A}{b c}(h:At A b)(f:b<=c):At A c:=by obtain⟨i,x,e,a,g⟩:=h;exact⟨i,x,e,a,by omega⟩
abbrev SC(ns:List Int):DV:=.v<|.lst<|ns.map .int
theorem Aq(h:f ρ=some (.int n))(b:-1000<=n/\n<=1000):ol f ρ=some ((gD n).map .int):=by
 have a:-(2^62)<=n/\n<2^62:=by omega
 rw[wK,h];simp only;rw[Yh a,qh]
def zD{as}{x d}{A}{σ:DF}:nE as [.v x,.own A t] (.rt (.v d) (sV x::sO A' (some (as 1))::σ))=some ([.v x,.own A' none],d):=by simp[nE,gW]
theorem d7 C ns(S:ns.length<=100){A}{b}(h:At A b)(T:b<=1000000000):∃(v:Int) (A':OD),At A' (b+1)/\0<=v/\v<1000000000/\az C [SC ns,.own A none]=some ([SC ns,.own A' none],.int v):=by
 obtain⟨i,x,rfl,Z,Y⟩:=h;have s:∃c:Int,∀a:Option Addr,al (aY 2<|cI 0) (al (dIf (asB<|d2 gtI (d1 aK<|ar 0)<|cI 0) (aY 2<|d2 ixD (ag 0)<|d2 aJ (d2 ixD (ag 1)<|cI 0)<|d1 aK<|ar 0) dNx) λg=>some<|.nx g) [some<|SC ns,sO (.lst [.int<|i+1,.int x]) a,none]=some (.nx [some<|SC ns,sO (.lst [.int<|i+1,.int x]) a,sI c]):=by
  by_cases z:0<(ns.length:Int)
  ·have H:=Zg (i+1) (show(ns.length:Int)≠0 by omega);have E:=Za (i+1) z;obtain⟨c,M,q⟩:=kJ D.int H E;refine⟨c,λa=>?_⟩;have J:=aX (i+1) _ z;have u:atI [D.int<|i+1,D.int x] 0=some _:=rfl;have f:0<ns.length:=by omega
   simp[f,J,ix1,q,u]
  ·refine⟨0,λa=>?_⟩;have f:¬0<ns.length:=by omega
   simp[f]
 obtain⟨c,s⟩:=s;have m:=gN (i+1) (i+1)<|.inl (by omega);have j:=λy=>gN y 48271<|.inr<|by decide
 have p:∀y:Int,aJ _ _=some (.int<|y%2147483647):=λy=>aX y _<|by decide
 have o:∀y:Int,aJ _ _=some (.int<|y%2147483629):=λy=>aX y _<|by decide
 have L:∀y:Int,aR _ _=some (.int<|y/3):=λy=>bM y _<|by decide
 let w:=(x+c%2147483647+(i+1)*(i+1))*48271%2147483629
 have R:0<=w:=Zg _ (by decide);have Q:w<2147483629:=Za _ (by decide);refine⟨w/3,.lst [.int<|i+1,.int w],⟨i+1,w,rfl,by omega,by omega⟩,by omega,by omega,gk rfl λa=>?_⟩;have e:h_ C [some<|SC ns,sO (.lst [.int i,.int x])<|some<|a 1,none]=some (.rt (.v<|.int<|w/3) [some<|SC ns,sO (.lst [.int<|i+1,.int w])<|some<|a 1,sI c]):=by
  unfold h_;rw[aj (ρ':=[some _,sO (.lst [.int<|i+1,.int x]) _,none]) rfl];have I:∀K,al (aY 2<|cI 0) (al (dIf _ _ dNx) K) [some _,sO _ _,none]=K [some _,sO _ _,sI c]:=λK=>by
   have h:=s<|some<|a 1;rw[aj (ρ':=[some _,sO _ _,sI 0]) rfl]at h ⊢;generalize U:dIf _ (aY 2<|d2 ixD (ag 0)<|d2 aJ (d2 ixD (ag 1)<|cI 0)<|d1 aK<|ar 0) dNx=X at h ⊢;rw[rB]at h ⊢;cases B:X [some<|SC ns,sO (.lst [.int<|i+1,.int x])<|some<|a 1,sI 0]with
   |none=>rw[B]at h;cases h
   |some r=>
    rw[B]at h;cases r with
    |nx g=>cases h;rfl
    |rt x g=>cases h
    |bk g=>cases h
    |ct g=>cases h
  rw[I];have u:atI [D.int<|i+1,D.int x] 0=some (.int<|i+1):=rfl;have P:atI [D.int<|i+1,D.int x] 1=some (.int x):=rfl;rw[aj (ρ':=[some<|SC ns,sO (.lst [.int<|i+1,.int w])<|some<|a 1,sI c]) (by
   have N:d2 aJ (d2 fC (d2 af (d2 af (d2 ixD (ag 1)<|cI 1)<|d2 aJ (ag 2)<|cI 2147483647)<|d2 fC (d2 ixD (ag 1)<|cI 0)<|d2 ixD (ag 1)<|cI 0)<|cI 48271) (cI 2147483629) [some<|SC ns,sO (.lst [.int<|i+1,.int x])<|some<|a 1,sI c]=some (.int w):=by simp[ix1,u,P,m,j,p,o,w]
   rw[yB];simp only[Xd,Zy];rw[N];rfl)]
  have O:atI [D.int<|i+1,D.int w] 1=some (.int w):=rfl;simp[ix1,O,L]
 show(h_ C [some<|SC ns,sO (.lst [.int i,.int x])<|some<|a 1,none]).bind _=_;rw[e];exact zD
def gm{A}{σ:DF}(b:∃x,S=.v x)(h:az C [S,.own A none]=some ([S,.own A' none],d)):ax (az C) (aH (ai (getV 0)) (aD 1 ba)) (some S::sO A t::σ)=some (d,some S::sO A' t::σ):=by obtain⟨x,rfl⟩:=b;unfold ax;show(if([1]).Nodup then(some [DV.v x,.own A none]).bind (λa=>(az C a).bind _)else none)=_;rw[Yh<|by decide,Ya,h];rfl
theorem uK C ns(I:ns.length<=100){A}{b}(h:At A b)(K:b<=1000000000):∃(k:Nat) (A':OD),At A' (b+1)/\k<10^30/\cR C [SC ns,.own A none]=some ([SC ns,.own A' none],.int k):=by
  obtain⟨v,A',L,Q,P,H⟩:=d7 C ns I h K;have i:∃k:Int,0<=k/\k<1000000000000000000000000000000/\∀a:Option Addr,gh C [some<|SC ns,sO A a,none]=some (.rt (.v<|.int k) [some<|SC ns,sO A' a,sI v]):=by
    unfold gh;have g:=aX v 9 (by decide);have B:=aX v 3 (by decide);have s:∀a:Option Addr,bC 2 (ax (az C) _) [some _,sO A a,none]=some _:=λa=>by
      unfold bC;rw[gm ⟨_,rfl⟩ H];rfl
    by_cases w:v%9=0
    · refine⟨0,by decide,by decide,λa=>?_⟩
      rw[aj<|s a];simp[g,w]
    · by_cases u:v%9=1
      · refine⟨999999999999999999999999999999,by decide,by decide,λa=>?_⟩
        rw[aj<|s a];simp[g,u]
      · have p:=λy z E=>gN y z<|.inr E
        have q:∀m:Int,0<m->aJ _ _=some (.int<|v*v*v*v*7919%m):=λm f=>aX _ m f
        have x:pd (.int 10) (.int 6)=some _:=rfl;have j:-(2^64)<v/\v<2^64:=by omega
        have O:atI [D.int 10,D.int 1000000,D.int 1000000000000000000000000000000] 0=some _:=rfl;have N:atI [D.int 10,D.int 1000000,D.int 1000000000000000000000000000000] 1=some _:=rfl;have M:atI [D.int 10,D.int 1000000,D.int 1000000000000000000000000000000] 2=some _:=rfl;have go:∀m:Int,0<m->m<=1000000000000000000000000000000->atI [D.int 10,D.int 1000000,D.int 1000000000000000000000000000000] (v%3)=some (.int m)->∃k:Int,0<=k/\k<1000000000000000000000000000000/\∀a:Option Addr,(al _
   <|al (dIf (asB<|d2 eqD (d2 aJ (ag 2)<|cI 9)<|cI 0) (bb<|cI 0) dNx)
   <|al (dIf (asB<|d2 eqD (d2 aJ (ag 2)<|cI 9)<|cI 1) (bb<|d2 kZ (d2 pd (cI 10)<|cI 30)<|cI 1) dNx)
   <|bb<|d2 aJ (d2 fC (d2 fC (d2 fC (d2 fC (ag 2)<|ag 2)<|ag 2)<|ag 2)<|cI 7919)<|d2 ixD (asO<|asL<|ao (cI 10)<|ao (d2 pd (cI 10)<|cI 6)<|ao (d2 pd (cI 10)<|cI 30) bA)<|d2 aJ (ag 2)<|cI 3) [some _,sO A a,none]=some (.rt (.v<|.int k) [some<|SC ns,sO A' a,sI v]):=λm f l o=>by
          refine⟨v*v*v*v*7919%m,Zg _<|by omega,Int.lt_of_lt_of_le (Za _ f) l,λa=>?_⟩;rw[aj<|s a];simp[g,B,w,u,p _ v j,p _ 7919 _,x,ix1,o,q m f]
        rcases AU v with h3|h3|h3
        · exact go 10 (by decide) (by decide)<|by rwa[h3]
        · exact go 1000000 (by decide) (by decide)<|by rwa[h3]
        · exact go 1000000000000000000000000000000 (by decide) (by decide)<|by rwa[h3]
  obtain⟨k,S,R,J⟩:=i;have e:k.toNat<10^30:=by omega
  refine⟨k.toNat,A',L,e,gk rfl λa=>?_⟩;show(gh C [some _,sO A<|some<|a 1,none]).bind _=_;rw[J<|some<|a 1];rw[show((k.toNat:Nat):Int)=k by omega];exact zD
noncomputable def stF(K T O G U:List D)(h p s:D):List (Str×FO):=[("kinds",.lst K),("ties",.lst T),("open",.lst O),("boughs",.lst G),("used",.lst U),("here",.d h),("pool",.d p),("some",.d s)]
def stO(K T O G U:List D)(h p s:D):OD:=.obj none<|stF K T O G U h p s
section
variable{K G:List D}{p s:D}{t:Option Addr}{σ:DF} 
def sR:aP none 2 "kinds" (x0::x1::sO (stO K T O G U h p s) t::σ)=some (.lst K):=by kernel_rfl
def qS:aP none 2 "ties" (x0::x1::sO (stO K T O G U h p s) t::σ)=some (.lst T):=by kernel_rfl
def m5:aP none 2 "open" (x0::x1::sO (stO K T O G U h p s) t::σ)=some (.lst O):=by kernel_rfl
def qi:aP none 2 "boughs" (x0::x1::sO (stO K T O G U h p s) t::σ)=some (.lst G):=by kernel_rfl
def El:aP none 2 "used" (x0::x1::sO (stO K T O G U h p s) t::σ)=some (.lst U):=by kernel_rfl
def wf:dR none 2 "here" (x0::x1::sO (stO K T O G U h p s) t::σ)=some h:=by kernel_rfl
def Co:dR none 2 "pool" (x0::x1::sO (stO K T O G U h p s) t::σ)=some p:=by kernel_rfl
def Di:dR none 2 "some" (x0::x1::sO (stO K T O G U h p s) t::σ)=some s:=by kernel_rfl
def ir{C:Option Addr}{fs:List (Str×FO)}{n:Str}{k:FO->Option FO}{o o':FO}(h1:fs.lookup n=some o)(h2:k o=some o')(h:fs.length<1000):eB C 2 n k (x0::x1::sO (.obj C fs) t::σ)=some (x0::x1::sO (.obj C (fS n o' fs)) t::σ):=by unfold eB;show(if C=C/\fs.length<1000 then _ else _)=_;rw[Yh ⟨rfl,h⟩,h1,Ya,h2];rfl
def DI{d:D}(b:f (x0::x1::sO (stO K T O G U h p s) t::σ)=some d)(a:K.length<16777216):cm none 2 "kinds" f (x0::x1::sO (stO K T O G U h p s) t::σ)=some (.nx (x0::x1::sO (stO (K++[d]) T O G U h p s) t::σ)):=by
 unfold cm;rw[b,Ya];refine(YH (Option.map RES.nx) (ir (C:=none) (x0:=x0) (x1:=x1) (t:=t) (σ:=σ) (fs:=stF K T O G U h p s) (n := "kinds") (k:=o4 d) (o:=.lst K) (o':=.lst (K++[d])) (by kernel_rfl) (Yh a) (by show 8<1000;decide))).trans ?_
 kernel_rfl
def EQ{d:D}(b:f (x0::x1::sO (stO K T O G U h p s) t::σ)=some d)(a:T.length<16777216):cm none 2 "ties" f (x0::x1::sO (stO K T O G U h p s) t::σ)=some (.nx (x0::x1::sO (stO K (T++[d]) O G U h p s) t::σ)):=by
 unfold cm;rw[b,Ya];refine(YH (Option.map RES.nx) (ir (C:=none) (x0:=x0) (x1:=x1) (t:=t) (σ:=σ) (fs:=stF K T O G U h p s) (n := "ties") (k:=o4 d) (o:=.lst T) (o':=.lst (T++[d])) (by kernel_rfl) (Yh a) (by show 8<1000;decide))).trans ?_
 kernel_rfl
def Db{d:D}(b:f (x0::x1::sO (stO K T O G U h p s) t::σ)=some d)(a:O.length<16777216):cm none 2 "open" f (x0::x1::sO (stO K T O G U h p s) t::σ)=some (.nx (x0::x1::sO (stO K T (O++[d]) G U h p s) t::σ)):=by
 unfold cm;rw[b,Ya];refine(YH (Option.map RES.nx) (ir (C:=none) (x0:=x0) (x1:=x1) (t:=t) (σ:=σ) (fs:=stF K T O G U h p s) (n := "open") (k:=o4 d) (o:=.lst O) (o':=.lst (O++[d])) (by kernel_rfl) (Yh a) (by show 8<1000;decide))).trans ?_
 kernel_rfl
def DG{d:D}(b:f (x0::x1::sO (stO K T O G U h p s) t::σ)=some d)(a:G.length<16777216):cm none 2 "boughs" f (x0::x1::sO (stO K T O G U h p s) t::σ)=some (.nx (x0::x1::sO (stO K T O (G++[d]) U h p s) t::σ)):=by
 unfold cm;rw[b,Ya];refine(YH (Option.map RES.nx) (ir (C:=none) (x0:=x0) (x1:=x1) (t:=t) (σ:=σ) (fs:=stF K T O G U h p s) (n := "boughs") (k:=o4 d) (o:=.lst G) (o':=.lst (G++[d])) (by kernel_rfl) (Yh a) (by show 8<1000;decide))).trans ?_
 kernel_rfl
def CJ{d:D}(b:f (x0::x1::sO (stO K T O G U h p s) t::σ)=some d)(a:U.length<16777216):cm none 2 "used" f (x0::x1::sO (stO K T O G U h p s) t::σ)=some (.nx (x0::x1::sO (stO K T O G (U++[d]) h p s) t::σ)):=by
 unfold cm;rw[b,Ya];refine(YH (Option.map RES.nx) (ir (C:=none) (x0:=x0) (x1:=x1) (t:=t) (σ:=σ) (fs:=stF K T O G U h p s) (n := "used") (k:=o4 d) (o:=.lst U) (o':=.lst (U++[d])) (by kernel_rfl) (Yh a) (by show 8<1000;decide))).trans ?_
 kernel_rfl
def FR{d:D}{O':List D}(b:f (x0::x1::sO (stO K T O G U h p s) t::σ)=some d)(a:BU d (.lst O)=some (.lst O')):pP 2 "open" f (x0::x1::sO (stO K T O G U h p s) t::σ)=some (.nx (x0::x1::sO (stO K T O' G U h p s) t::σ)):=by
 unfold pP;rw[b,Ya];refine(YH (Option.map RES.nx) (ir (C:=none) (x0:=x0) (x1:=x1) (t:=t) (σ:=σ) (fs:=stF K T O G U h p s) (n := "open") (k:=BU d) (o:=.lst O) (o':=.lst O') (by kernel_rfl) a (by show 8<1000;decide))).trans ?_
 kernel_rfl
end
def gv{f:Dy}{fa fb:DX}{g e:DF}{a b c:D}(j:fa ρ=some (a,g))(i:fb g=some (b,e))(h:f a b=some c):x2 f fa fb ρ=some (c,e):=by unfold x2;rw[j,Ya,i,Ya,h];rfl
def bE{d:D}(h:f ρ=some d):ai f ρ=some (d,ρ):=by unfold ai;rw[h];rfl
def cx{f:DX}{d:D}(h:f ρ=some (d,ρ')):bC i f ρ=some (.nx (ρ'.set i (sV d))):=by unfold bC;rw[h];rfl
def nZ{A:OD}{v m:Int}{t:Option Addr}{σ:DF}(a:0<m)(h:az C [SC ns,.own A none]=some ([SC ns,.own A' none],.int v)):x2 aJ (ax (az C) (aH (ai (getV 0)) (aD 1 ba))) (ai (λ_=>some (.int m))) (some (SC ns)::sO A t::σ)=some (.int (v%m),some (SC ns)::sO A' t::σ):=
 gv (gm ⟨_,rfl⟩ h) (bE rfl) (aX v m a)
def GN{n:Nat}(h:n<10^30):((n:Int)).natAbs.log2<1920:=by
 rw[Int.natAbs_natCast];by_cases a:n=0
 ·subst a;decide
 ·have b:n<2^100:=Ys h (by decide);exact Ys ((Nat.log2_lt a).mpr b) (by decide)
def mI{n:Nat}(h:n<10^30):eQ (.int (n:Int))=some (.str (sT (dig n))):=by show(if _ then _ else _)=_;rw[Yh (GN h),wG]
def cW{a b:List Nat}(h:a.length+b.length<=16777216):af (.str (sT a)) (.str (sT b))=some (.str (sT (a++b))):=by show(if(sT a).length+(sT b).length<=16777216 then some (D.str (sT a++sT b))else none)=_;rw[bW,bW,Yh h,vF]
def IK(j:Int)(h:j=0\/j=1\/j=2):ixD (.str "~><") (.int j)=some (.str (sT [ldN j.toNat])):=by rcases h with rfl|rfl|rfl<;>kernel_rfl
theorem xF{q:Mk}(h:okM q):(mkT q).length<=31:=by have:=fG q.1 30 (by decide) h.1;unfold mkT;rw[Yg];omega
theorem mS:∀{ms:List Mk},(∀q∈ms,okM q)->(mtx ms).length<=31*ms.length
 |[],_=>Yy _
 |q::ms,h=>by
  have e:=xF (h q Yf);have b:=mS (ms:=ms) λx a=>h x (Ye _ a)
  show(mkT q++mtx ms).length<=_;rw[Yb,Yg];omega
def okSm(s:D):Prop:=∃b a:Nat,b<10^30/\a<10^30/\s=.lst [.int (b:Int),.int (a:Int),.int 5]
def okSm.at{s:D}(h:okSm s)(v:Int):∃k:Nat,k<10^30/\ixD s (.int (v%3))=some (.int (k:Int)):=by
 obtain⟨b,a,g,f,rfl⟩:=h;rcases AU v with e|e|e
 ·exact⟨b,g,by rw[e];rfl⟩
 ·exact⟨a,f,by rw[e];rfl⟩
 ·exact⟨5,by decide,by rw[e];rfl⟩
section
variable   {K G:List D}{p s:D}{one:Int}{room n0:DV}
abbrev mkF(ns:List Int)(A:OD)(t1:Option Addr)(st:OD)(t2:Option Addr)(one oth:Int)(room:DV)(w:List Nat)(n:DV)(e b a x:Option DV):DF:=
 [some (SC ns),sO A t1,sO st t2,sI one,sI oth,some room,sS w,some n,e,b,a,x]
noncomputable abbrev mkB (C:Addr):DF->Option RES:=(al (bC 9 (x2 ixD (ai (dR none 2 "some")) (x2 aJ (ax (az C) (aH (ai (getV 0)) (aD 1 ba))) (ai (cI 3)))))
  (al (bC 10 (x2 aJ (ax (az C) (aH (ai (getV 0)) (aD 1 ba))) (ai (cI 3))))
  (al (aY 6 (d2 af (d2 af (ag 6) (d2 ixD (λ_=>some (.str "~><")) (ag 10))) (d1 eQ (ar 9))))
  (al (aY 11 (d2 ixD (asO (asL (ao (asT (ao (getV 3) (ao (getV 4) bA))) (ao (asT (ao (getV 3) (ao (getV 4) bA))) (ao (asT (ao (getV 4) (ao (getV 3) bA))) bA))))) (ag 10)))
  (cm none 2 "ties" (asT (ao (d2 ixD (ag 11) (cI 0)) (ao (d2 ixD (ag 11) (cI 1)) (ao (getV 9) (ao (d2 gtI (ag 10) (cI 0)) bA)))))))))) 
theorem Ef(L:ns.length<=100)(P:okSm s){A:OD}{b:Nat}(R:At A b)(X:b+2<=1000000000){w:List Nat}(hw:w.length<=100000)(Y:T.length<1000):∃(A':OD) (q:Mk) (M m l:Option DV),At A' (b+2)/\okM q/\∀(t1 t2:Option Addr) (e I f a:Option DV),
  mkB C (mkF ns A t1 (stO K T O G U h p s) t2 one oth room w n0 e I f a)=some (.nx (mkF ns A' t1 (stO K (T++[dT4 (bS one oth q)]) O G U h p s) t2 one oth room (w++mkT q) n0 e M m l)):=by
 obtain⟨v,S,H,_,_,N⟩:=d7 C ns L R (by omega);obtain⟨J,i,E,_,_,o⟩:=d7 C ns L H (by omega);obtain⟨k,u,B⟩:=P.at v;have g:=AU J;generalize z:J%3=j at g;have Z:((j.toNat:Nat):Int)=j:=by omega
 have Q:=fG k 30 (by decide) u;refine⟨i,(k,j.toNat),sI k,sI j,sV (if j=2 then .tup [.int oth,.int one]else .tup [.int one,.int oth]),E,⟨u,by show j.toNat<3;omega⟩,λt1 t2 e I f a=>?_⟩;unfold mkB;rw[aj (ρ':=mkF ns S t1 (stO K T O G U h p s) t2 one oth room w n0 e (sI k) f a) (by
  exact cx (gv (bE Di) (nZ (by decide) N) B))]
 rw[aj (ρ':=mkF ns i t1 (stO K T O G U h p s) t2 one oth room w n0 e (sI k) (sI j) a) (by
  rw[<-z];exact cx (nZ (by decide) o))]
 rw[aj (ρ':=mkF ns i t1 (stO K T O G U h p s) t2 one oth room (w++mkT (k,j.toNat)) n0 e (sI k) (sI j) a) (by
  rw[bi,aq,aq,bX];show Option.map _ (((ixD (.str "~><") (.int j)).bind λy=>af (.str (sT w)) y).bind λx=>(eQ (.int (k:Int))).bind λy=>af x y)=_;rw[IK j g,mI u,Ya,cW (by simp;omega),Ya,Ya,cW (by simp;omega),Yq];rfl)]
 rw[aj (ρ':=mkF ns i t1 (stO K T O G U h p s) t2 one oth room (w++mkT (k,j.toNat)) n0 e (sI k) (sI j) (sV (if j=2 then .tup [.int oth,.int one]else .tup [.int one,.int oth]))) (by
  rcases g with rfl|rfl|rfl<;>rfl)]
 refine(EQ (d:=dT4 (bS one oth (k,j.toNat))) ?_ (by omega)).trans rfl;rcases g with rfl|rfl|rfl<;>rfl
end
section
variable   {K G:List D}{p s:D}  {one:Int}
theorem FW(v room:Int)(s:1<=room):∃c:Int,1<=c/\c<=3/\c<=room/\∀ρ:DF,ag 7 ρ=some (.int v)->ar 5 ρ=some (.int room)->
  (d2 yt (cI 1) (d2 y_ (d2 af (cI 1) (d2 fC (d2 aR (d2 aJ (d2 aR (ag 7) (cI 4)) (cI 3)) (cI 2)) (d2 aJ (d2 aR (ag 7) (cI 12)) (cI 3)))) (ar 5))) ρ=some (.int c):=by
 have p:=bM v 4 (by decide);have f:=bM v 12 (by decide);have m:∀y:Int,aJ (.int y) (.int 3)=some (.int (y%3)):=λy=>aX y 3 (by decide)
 have q:∀y:Int,aR (.int y) (.int 2)=some (.int (y/2)):=λy=>bM y 2 (by decide)
 have j:v/4%3/2=0\/v/4%3/2=1:=by omega
 have u:0<=v/12%3/\v/12%3<=2:=by omega
 have g:=gN (v/4%3/2) (v/12%3) (.inr (by omega));generalize b:v/4%3/2*(v/12%3)=z at g;have i:0<=z/\z<=2:=by
  rcases j with e|e
  ·rw[e,Int.zero_mul]at b;omega
  ·rw[e,Int.one_mul]at b;omega
 have h:y_ (.int (1+z)) (.int room)=some (.int (if room<1+z then room else 1+z)):=rfl;have a:∀y:Int,yt (.int 1) (.int y)=some (.int (if y > 1 then y else 1)):=λy=>rfl
 refine⟨if(if room<1+z then room else 1+z) > 1 then(if room<1+z then room else 1+z)else 1,?_,?_,?_,λρ l o=>?_⟩
 ·split<;>split<;>omega
 ·split<;>split<;>omega
 ·split<;>split<;>omega
 ·simp only[aq,l,o,Ya,p,m,q,f,g,t5,h,a]
theorem qj(Z:ns.length<=100)(hs:okSm s){A:OD}{b:Nat}(H:At A b)(hb:b+10<=1000000000)(hT:T.length<900){room:Int}(hr:1<=room):∃(A':OD) (ms:List Mk),At A' (b+7)/\(∀q∈ms,okM q)/\ms≠[]/\ms.length<=3/\(ms.length:Int)<=room /\
  br C [SC ns,.own A none,.own (stO K T O G U h p s) none,.v (.int one),.v (.int oth),.v (.int room)]=some ([SC ns,.own A' none,.own (stO K (T++(ms.map (bS one oth)).map dT4) O G U h p s) none,.v (.int one),.v (.int oth),.v (.int room)],.str (sT (mtx ms))):=by
 obtain⟨v,I,B,_,_,hv⟩:=d7 C ns Z H (by omega);obtain⟨c,c1,c3,cr,hc⟩:=FW v room hr;have Q:∃(A':OD) (ms:List Mk),At A' (b+7)/\(∀q∈ms,okM q)/\ms.length=c.toNat/\∀l j:Option Addr,∃o m f a,cN (setV 8) (mkB C) ((gD c).map .int) (mkF ns I l (stO K T O G U h p s) j one oth (.v (.int room)) [] (.v (.int v)) none none none none)=some (.nx (mkF ns A' l (stO K (T++(ms.map (bS one oth)).map dT4) O G U h p s) j one oth (.v (.int room)) (mtx ms) (.v (.int v)) o m f a)):=by
  have go:∀(n:List Int) (A:OD) (b:Nat) (T:List D) (w:List Nat),n.length<=3->At A b->b+2*n.length<=1000000000->w.length<=100*(4-n.length)->T.length+n.length<1000->∃(A':OD) (ms:List Mk),At A' (b+2*n.length)/\(∀q∈ms,okM q)/\ms.length=n.length/\∀(l j:Option Addr) (o m f a:Option DV),∃P N u y,cN (setV 8) (mkB C) (n.map .int) (mkF ns A l (stO K T O G U h p s) j one oth (.v (.int room)) w (.v (.int v)) o m f a)=some (.nx (mkF ns A' l (stO K (T++(ms.map (bS one oth)).map dT4) O G U h p s) j one oth (.v (.int room)) (w++mtx ms) (.v (.int v)) P N u y)):=by
   intro n;induction n with
   |nil=>
    intro A b T w _ H _ _ _;refine⟨A,[],H,by simp,rfl,λl j o m f a=>⟨o,m,f,a,?_⟩⟩;rw[Zl,Zl,Zl,Yl,show mtx []=[]from rfl,Yl];rfl
   |cons i n ih=>
    intro A b T w E H hb hw hT;rw[Yg]at E hb hw hT;obtain⟨I,q,z9,M,L,B,Y,e1⟩:=Ef (C:=C) (K:=K) (T:=T) (O:=O) (G:=G) (U:=U) (h:=h) (p:=p) (one:=one) (oth:=oth) (room:=.v (.int room)) (n0:=.v (.int v)) Z hs H (by omega) (w:=w) (by omega) (by omega);have ql:=xF Y;obtain⟨A2,ms,R,hm,ml,e2⟩:=ih I (b+2) (T++[dT4 (bS one oth q)]) (w++mkT q) (by omega) B (by omega) (by rw[Yb];omega) (by rw[Yb,YU];omega);refine⟨A2,q::ms,R.mono (by rw[Yg];omega),λx hx=>?_,by rw[Yg,Yg,ml],λl j o m f a=>?_⟩
    ·rcases Yw.mp hx with rfl|hx
     ·exact Y
     ·exact hm x hx
    ·obtain⟨P,N,u,y,e3⟩:=e2 l j (sI i) z9 M L;refine⟨P,N,u,y,?_⟩;rw[YD];unfold cN;show(match mkB C (mkF ns A l (stO K T O G U h p s) j one oth (.v (.int room)) w (.v (.int v)) (sI i) m f a)with|some (.nx ρ)=>cN (setV 8) (mkB C) (n.map .int) ρ|some (.ct ρ)=>cN (setV 8) (mkB C) (n.map .int) ρ|some (.bk ρ)=>some (.nx ρ)|r=>r)=_;rw[e1];simp only;rw[e3,Yq,Yq];rfl
  obtain⟨A',ms,J,X,E,S⟩:=go (gD c) I (b+1) T [] (by rw[fm];omega) B (by rw[fm];omega) (by simp) (by rw[fm];omega);rw[fm]at J E;exact⟨A',ms,J.mono (by omega),X,E,λl j=>S l j none none none none⟩
 obtain⟨A',ms,J,X,E,S⟩:=Q;refine⟨A',ms,J,X,λz=>?_,by omega,by omega,gk rfl λg=>?_⟩
 ·rw[z,Zc]at E;omega
 ·obtain⟨o,m,f,a,e⟩:=S (some (g 1)) (some (g 2));have e0:gi C [some (SC ns),sO A (some (g 1)),sO (stO K T O G U h p s) (some (g 2)),sI one,sI oth,sI room,none,none,none,none,none,none]=some (.rt (.v (.str (sT (mtx ms)))) (mkF ns A' (some (g 1)) (stO K (T++(ms.map (bS one oth)).map dT4) O G U h p s) (some (g 2)) one oth (.v (.int room)) (mtx ms) (.v (.int v)) o m f a)):=by
   unfold gi;rw[show("":Str)=sT []by kernel_rfl];rw[aj (ρ':=[some (SC ns),sO A (some (g 1)),sO (stO K T O G U h p s) (some (g 2)),sI one,sI oth,sI room,sS [],none,none,none,none,none]) rfl];rw[aj (cx (gm ⟨_,rfl⟩ hv))];have ef:=rh (hc (mkF ns I (some (g 1)) (stO K T O G U h p s) (some (g 2)) one oth (.v (.int room)) [] (.v (.int v)) none none none none) rfl rfl) ⟨by omega,by omega⟩;rw[aj (ρ':=mkF ns A' (some (g 1)) (stO K (T++(ms.map (bS one oth)).map dT4) O G U h p s) (some (g 2)) one oth (.v (.int room)) (mtx ms) (.v (.int v)) o m f a) (by
    rw[gu];refine(YH (λz=>Option.bind z _) ef).trans ?_;exact e)]
   rfl
  show(gi C [some (SC ns),sO A (some (g 1)),sO (stO K T O G U h p s) (some (g 2)),sI one,sI oth,sI room,none,none,none,none,none,none]).bind _=_;rw[e0];simp[nE,gW]
def rX{f:DX}{g:DWs}{b a:DF}{d:D}{L:List AW}(e:f ρ=some (d,b))(h:g b=some (L,a)):aH f g ρ=some (.inr d::L,a):=by unfold aH;rw[e,Ya,h];rfl
def w6{A st:OD}{d d1 d2 d3:D}{σ:DF}{f:Dd}(b:∃x,S=.v x)(h1:f1 (some S::sO A t1::sO st t2::σ)=some d1)(h2:f2 (some S::sO A t1::sO st t2::σ)=some d2)(i:f (some S::sO A t1::sO st t2::σ)=some d3)
  (h:br C [S,.own A none,.own st none,.v d1,.v d2,.v d3]=some ([S,.own A' none,.own st' none,.v d1,.v d2,.v d3],d)):ax (br C) (aH (ai (getV 0)) (aD 1 (aD 2 (aH (ai f1) (aH (ai f2) (aH (ai f) ba)))))) (some S::sO A t1::sO st t2::σ)=some (d,some S::sO A' t1::sO st' t2::σ):=by
 obtain⟨x,rfl⟩:=b;have e:aH (ai (getV 0)) (aD 1 (aD 2 (aH (ai f1) (aH (ai f2) (aH (ai f) ba))))) (sV x::sO A t1::sO st t2::σ)=some ([.inr x,.inl 1,.inl 2,.inr d1,.inr d2,.inr d3],sV x::sO A t1::sO st t2::σ):=by have j:=rX (bE h1) (rX (bE h2) (rX (g:=ba) (bE i) rfl));show Option.map _ (Option.map _ (Option.map _ (aH (ai f1) (aH (ai f2) (aH (ai f) ba)) _)))=_;rw[j];rfl
 unfold ax;rw[e,Ya];show(if([1,2]:List Nat).Nodup then(some [DV.v x,.own A none,.own st none,.v d1,.v d2,.v d3]).bind (λa=>(br C a).bind _)else none)=_;rw[Yh (by decide),Ya,h];rfl
end
abbrev Op:=Nat×Int
noncomputable def dOp(o:Op):D:=.tup [.int (o.1:Int),.int o.2]
theorem zu(a b:Op):eqd (dOp a) (dOp b)=decide (a=b):=by
 by_cases h:a=b
 ·rw[Yk h,h];exact(dD _ _ rfl).mpr rfl
 ·rw[Yi h];cases e:eqd (dOp a) (dOp b)with
  |false=>rfl
  |true=>
   have:=(dD _ _ rfl).mp e;obtain⟨f,g⟩:=a;obtain⟨b1,b2⟩:=b;injection this with this;injection this with h1 h2;injection h2 with h2 _;injection h1 with h1;injection h2 with h2;exact absurd (Prod.ext (by show f=b1;omega) h2) h
theorem Bn{x:Op}{aL:List Op}:∀{kept:List Op},x∉kept->sA (dOp x) ((kept++x::aL).map dOp)=some kept.length
 |[],_=>by
  rw[Zx,YD];unfold sA;rw[zu,Yk rfl];rfl
 |y::kept,h=>by
  rw[List.cons_append,YD];unfold sA;have a:¬y=x:=λz=>h (by rw[z];exact Yf)
  rw[zu,Yi a,Bn λz=>h (Ye _ z)];rfl
def Hm{x:Op}{kept aL:List Op}(h:x∉kept):BU (dOp x) (.lst ((kept++x::aL).map dOp))=some (.lst ((kept++aL).map dOp)):=by
 show(if _ then _ else _)=_;rw[Yh,Bn h]
 ·show some (FO.lst (((kept++x::aL).map dOp).eraseIdx kept.length))=_;rw[<-pQ,List.eraseIdx_append_of_length_le (Yy _),Nat.sub_self];rfl
 ·rw[Yn,YE];exact⟨λd a=>by obtain⟨o,_,rfl⟩:=Yt.mp a;rfl,rfl⟩
def sgD(e:Ev):D:=.str (sT (evT e))
noncomputable def evO(e:Ev):List Op:=match e.2 with|none=>[]|some m=>[(e.1,m.1)]
def vx(ms:List Mk):Prop:=(∀q∈ms,okM q)/\ms≠[]/\ms.length<=3
def yc(e:Ev):Prop:=match e.2 with|none=>False|some m=>vx m.2
noncomputable abbrev clB (C:Addr):DF->Option RES:=(n4 (bOr (nK (asB (d2 eqD (ar 3) (cI 6)))) (uh eqD (x2 aJ (ax (az C) (aH (ai (getV 0)) (aD 1 ba))) (ai (cI 3))) (ai (cI 0)))) (al (pP 2 "open" (asT (ao (getV 7) (ao (getV 8) bA))))
  (al (aY 9 (d2 kZ (d2 kZ (cI 12) (d1 aK (aP none 2 "ties"))) (d1 aK (aP none 2 "open"))))
  (ug 6 (x2 af (x2 af (ai (d2 af (d2 af (λ_=>some (.str "{")) (d1 eQ (ar 7))) (λ_=>some (.str ":")))) (ax (br C) (aH (ai (getV 0)) (aD 1 (aD 2 (aH (ai (getV 8)) (aH (ai (getV 3)) (aH (ai (getV 9)) ba)))))))) (ai (λ_=>some (.str "}"))))))) dNx)
noncomputable abbrev plF(ns:List Int)(A:OD)(t1:Option Addr)(st:OD)(t2:Option Addr)(here:Int)(n k:D)(sg:List D)(e b a x:Option DV):DF:=
 [some (SC ns),sO A t1,sO st t2,sI here,sV n,sV k,sO (.lst sg) none,e,b,a,x]
section
variable   {K G:List D}{p s n k:D} 
theorem E1(z:ns.length<=100)(q:okSm s){op:Op}{kept aL:List Op}{A:OD}{b:Nat}(I:At A b)(H:b+10<=1000000000)(f:op.1<=99)(B:op∉kept)(Q:T.length+(kept++op::aL).length<=12)(o:sg.length<1000):∃(A':OD) (ms:List Mk),At A' (b+7)/\vx ms/\T.length+ms.length+(kept++aL).length<=12/\∀(t1 t2:Option Addr) (i e:Option DV),∃g,
  (al (pP 2 "open" (asT (ao (getV 7) (ao (getV 8) bA))))
  (al (aY 9 (d2 kZ (d2 kZ (cI 12) (d1 aK (aP none 2 "ties"))) (d1 aK (aP none 2 "open"))))
  (ug 6 (x2 af (x2 af (ai (d2 af (d2 af (λ_=>some (.str "{")) (d1 eQ (ar 7))) (λ_=>some (.str ":")))) (ax (br C) (aH (ai (getV 0)) (aD 1 (aD 2 (aH (ai (getV 8)) (aH (ai (getV 3)) (aH (ai (getV 9)) ba)))))))) (ai (λ_=>some (.str "}"))))))) (plF ns A t1 (stO K T ((kept++op::aL).map dOp) G U h p s) t2 here n k sg (sI op.1) (sI (op.2)) i e)
   = some (.nx (plF ns A' t1 (stO K (T++(ms.map (bS op.2 here)).map dT4) ((kept++aL).map dOp) G U h p s) t2 here n k (sg++[sgD (op.1,some (op.2,ms))]) (sI op.1) (sI (op.2)) g e)):=by
 have j:(kept++op::aL).length=(kept++aL).length+1:=by simp;omega
 have u:(1:Int)<=12-(T.length:Int)-(((kept++aL).map dOp).length:Int):=by rw[Yc];omega
 obtain⟨A',ms,N,m,M,L,J,l⟩:=qj (C:=C) (K:=K) (T:=T) (O:=(kept++aL).map dOp) (G:=G) (U:=U) (h:=h) (p:=p) (one:=op.2) (oth:=here) z q I H (by omega) u;rw[Yc]at J l;refine⟨A',ms,N,⟨m,M,L⟩,by omega,λt1 t2 i e=>⟨sI (12-(T.length:Int)-((kept++aL).length:Int)),?_⟩⟩;rw[aj (FR (d:=dOp op) rfl (Hm B))];rw[aj (ρ':=plF ns A t1 (stO K T ((kept++aL).map dOp) G U h p s) t2 here n k sg (sI op.1) (sI (op.2)) (sI (12-(T.length:Int)-((kept++aL).length:Int))) e) (by
  rw[bi,aq,aq,bX,bX,qS,m5];show some (RES.nx _)=_;rw[Yc];rfl)]
 have E:=fG op.1 30 (by decide) (YS f (by decide));have w:=mS m;have P:x2 af (x2 af (ai (d2 af (d2 af (λ_=>some (.str "{")) (d1 eQ (ar 7))) (λ_=>some (.str ":")))) (ax (br C) (aH (ai (getV 0)) (aD 1 (aD 2 (aH (ai (getV 8)) (aH (ai (getV 3)) (aH (ai (getV 9)) ba)))))))) (ai (λ_=>some (.str "}"))) (plF ns A t1 (stO K T ((kept++aL).map dOp) G U h p s) t2 here n k sg (sI op.1) (sI (op.2)) (sI (12-(T.length:Int)-((kept++aL).length:Int))) e)=some (sgD (op.1,some (op.2,ms)),plF ns A' t1 (stO K (T++(ms.map (bS op.2 here)).map dT4) ((kept++aL).map dOp) G U h p s) t2 here n k sg (sI op.1) (sI (op.2)) (sI (12-(T.length:Int)-((kept++aL).length:Int))) e):=by
  refine gv (a:=.str (sT (123::(dig op.1++58::mtx ms)))) (b:=.str (sT [125])) (gv (a:=.str (sT (123::(dig op.1++[58])))) (bE ?_) (w6 ⟨_,rfl⟩ rfl rfl rfl l) ?_) (bE (by rw[<-s_c])) ?_
  ·rw[aq,aq,bX,s_o,s_p];show(((eQ (.int (op.1:Int))).bind λy=>af (.str (sT [123])) y).bind λx=>af x (.str (sT [58])))=_;rw[mI (YS f (by decide)),Ya,cW (by simp;omega),Ya,cW (by simp;omega)];rfl
  ·rw[cW (by simp;omega)];simp
  ·rw[cW (by simp;omega)];unfold sgD evT evR;simp
 show(Option.bind (x2 af _ _ _) _)=_;rw[P,Ya];show(if sg.length<16777216 then _ else none)=_;rw[Yh (by omega)];rfl
theorem DW(o:ns.length<=100)(E:okSm s){op:Op}{kept aL:List Op}{A:OD}{b:Nat}(J:At A b)(N:b+11<=1000000000)(j:op.1<=99)(H:op∉kept)(I:T.length+(kept++op::aL).length<=12)(i:sg.length<1000):∃(A':OD) (evs:List Ev) (a:List Op),At A' (b+8)/\((evs=[]/\a=kept++[op]/\here≠6)\/(a=kept/\∃ms,evs=[(op.1,some (op.2,ms))]/\vx ms/\T.length+ms.length+(kept++aL).length<=12))/\∀(t1 t2:Option Addr) (f x:Option DV),∃g,
  clB C (plF ns A t1 (stO K T ((kept++op::aL).map dOp) G U h p s) t2 here n k sg (sI op.1) (sI (op.2)) f x)
   = some (.nx (plF ns A' t1 (stO K (T++(evs.flatMap (evS here)).map dT4) ((a++aL).map dOp) G U h p s) t2 here n k (sg++evs.map sgD) (sI op.1) (sI (op.2)) g x)):=by
 unfold clB;by_cases q:here=6
 ·obtain⟨A',ms,z,y,w,u⟩:=E1 (C:=C) (K:=K) (T:=T) (G:=G) (U:=U) (h:=h) (p:=p) (n:=n) (k:=k) (here:=here) o E J (by omega) j H I i;refine⟨A',[(op.1,some (op.2,ms))],kept,z.mono (by omega),.inr ⟨rfl,ms,rfl,y,w⟩,λt1 t2 f x=>?_⟩;obtain⟨g,e⟩:=u t1 t2 f x;refine⟨g,?_⟩;have m:(bOr (nK (asB (d2 eqD (ar 3) (cI 6)))) (uh eqD (x2 aJ (ax (az C) (aH (ai (getV 0)) (aD 1 ba))) (ai (cI 3))) (ai (cI 0)))) (plF ns A t1 (stO K T ((kept++op::aL).map dOp) G U h p s) t2 here n k sg (sI op.1) (sI (op.2)) f x)=some (true,plF ns A t1 (stO K T ((kept++op::aL).map dOp) G U h p s) t2 here n k sg (sI op.1) (sI (op.2)) f x):=by unfold bOr nK;rw[bw,aq];show(Option.map _ (match eqD (.int here) (.int 6)with|some (.bl b)=>some b|_=>none:Option Bool)).bind _=_;rw[eY,Yk q];rfl
  unfold n4;rw[m];refine Eq.trans e ?_;rw[show([(op.1,some (op.2,ms))]:List Ev).flatMap (evS here)=ms.map (bS op.2 here)from by simp[evS]];rfl
 ·obtain⟨v,L,l,_,_,M⟩:=d7 C ns o J (by omega);have m:∀(t1 t2:Option Addr) (f x:Option DV),(bOr (nK (asB (d2 eqD (ar 3) (cI 6)))) (uh eqD (x2 aJ (ax (az C) (aH (ai (getV 0)) (aD 1 ba))) (ai (cI 3))) (ai (cI 0)))) (plF ns A t1 (stO K T ((kept++op::aL).map dOp) G U h p s) t2 here n k sg (sI op.1) (sI (op.2)) f x)=some (decide (v%3=0),plF ns L t1 (stO K T ((kept++op::aL).map dOp) G U h p s) t2 here n k sg (sI op.1) (sI (op.2)) f x):=λt1 t2 f x=>by
   unfold bOr nK;rw[bw,aq];show(Option.map _ (match eqD (.int here) (.int 6)with|some (.bl b)=>some b|_=>none:Option Bool)).bind _=_;rw[eY,Yi q];show uh _ _ _ _=_;unfold uh;rw[gv (nZ (by decide) M) (bE rfl) (eY _ _)];rfl
  by_cases B:v%3=0
  ·obtain⟨A',ms,z,y,w,u⟩:=E1 (C:=C) (K:=K) (T:=T) (G:=G) (U:=U) (h:=h) (p:=p) (n:=n) (k:=k) (here:=here) o E l (by omega) j H I i;refine⟨A',[(op.1,some (op.2,ms))],kept,z.mono (by omega),.inr ⟨rfl,ms,rfl,y,w⟩,λt1 t2 f x=>?_⟩;obtain⟨g,e⟩:=u t1 t2 f x;refine⟨g,?_⟩;unfold n4;rw[m,Yk B];refine Eq.trans e ?_;rw[show([(op.1,some (op.2,ms))]:List Ev).flatMap (evS here)=ms.map (bS op.2 here)from by simp[evS]];rfl
  ·refine⟨L,[],kept++[op],l.mono (by omega),.inl ⟨rfl,rfl,q⟩,λt1 t2 f x=>⟨f,?_⟩⟩;unfold n4;rw[m,Yi B];show some (RES.nx _)=_;rw[show([]:List Ev).flatMap (evS here)=[]from rfl,Zl,Zl,Yl,Yl,Yq];rfl
end
section
variable   {K G:List D}{p s n k:D} 
theorem CD(hl:ns.length<=100)(hs:okSm s):∀(aL kept:List Op) (A:OD) (b:Nat) (T sg:List D),At A b->b+8*aL.length+11<=1000000000->(∀o∈aL,o.1<=99)->(kept++aL).Nodup->T.length+(kept++aL).length<=12->sg.length+aL.length<1000->
  ∃(A':OD) (evs:List Ev) (a:List Op),At A' (b+8*aL.length)/\(a++evs.flatMap evO).Perm (kept++aL)/\(∀e∈evs,yc e)/\T.length+(evs.flatMap (evS here)).length+a.length<=12/\(here=6->a=kept)/\evs.length<=aL.length/\∀(t1 t2:Option Addr) (B y q x:Option DV),∃H E i,
   cN (j9 [7,8]) (clB C) (aL.map dOp) (plF ns A t1 (stO K T ((kept++aL).map dOp) G U h p s) t2 here n k sg B y q x)=some (.nx (plF ns A' t1 (stO K (T++(evs.flatMap (evS here)).map dT4) (a.map dOp) G U h p s) t2 here n k (sg++evs.map sgD) H E i x)):=by
 intro aL;induction aL with
 |nil=>
  intro kept A b T sg R _ _ _ u _;refine⟨A,[],kept,R,?_,(λe he=>nomatch he),?_,λ_=>rfl,Yy _,λt1 t2 B y q x=>⟨B,y,q,?_⟩⟩
  ·rw[Yl];exact List.Perm.of_eq (by simp)
  ·rw[Yl]at u;simpa using u
  ·rw[Yl,show([]:List Ev).flatMap (evS here)=[]from rfl,Zl,Zl,Zl,Yl,Yl];rfl
 |cons g aL ih=>
  intro kept A b T sg R hb w L u N;rw[Yg]at hb N;have J:g∉kept:=λz=>by
   have:=(YO.mp L).2.2 g z g Yf;exact this rfl
  obtain⟨A1,f,j,Q,hc,l⟩:=DW (C:=C) (K:=K) (T:=T) (G:=G) (U:=U) (h:=h) (p:=p) (n:=n) (k:=k) (here:=here) (sg:=sg) hl hs R (by omega) (w g Yf) J u (by omega);have X:(kept++g::aL).length=(kept++aL).length+1:=by simp;omega
  have m:(j++aL).Nodup/\(T++(f.flatMap (evS here)).map dT4).length+(j++aL).length<=12/\(j++f.flatMap evO).Perm (kept++[g])/\(∀e∈f,yc e)/\(here=6->j=kept)/\f.length<=1/\(sg++f.map sgD).length+aL.length<1000:=by
   rcases hc with⟨rfl,rfl,h6⟩|⟨rfl,ms,rfl,hm,O⟩
   ·refine⟨by rw[Yq];exact L,?_,List.Perm.of_eq (by simp),(λe he=>nomatch he),λz=>absurd z h6,by simp,?_⟩
    ·rw[Yq];simpa using u
    ·simp;omega
   ·refine⟨?_,?_,List.Perm.of_eq (by simp[evO]),λe he=>?_,λ_=>rfl,by simp,?_⟩
    ·exact(List.Perm.nodup_iff List.perm_middle).mp L |> λz=>(YG.mp z).2
    ·simp[evS]at O ⊢;omega
    ·rw[Yo]at he;subst he;exact hm
    ·simp;omega
  obtain⟨f1,f2,f3,f4,f5,f7,f6⟩:=m;obtain⟨A2,S,M,P,p2,c2,I,s2,n2,l2⟩:=ih j A1 (b+8) (T++(f.flatMap (evS here)).map dT4) (sg++f.map sgD) Q (by omega) (λo ho=>w o (Ye _ ho)) f1 f2 f6;refine⟨A2,f++S,M,P.mono (by rw[Yg];omega),?_,λe he=>?_,?_,λz=>(s2 z).trans (f5 z),by rw[Yb,Yg];omega,λt1 t2 B y q x=>?_⟩
  ·rw[Zb];have q1:(M++(f.flatMap evO++S.flatMap evO)).Perm ((M++S.flatMap evO)++f.flatMap evO):=by rw[Yq];exact Xq _ Xr
   refine q1.trans ((Xh _ p2).trans ?_);have q2:(j++aL++f.flatMap evO).Perm ((j++f.flatMap evO)++aL):=by rw[Yq,Yq];exact Xq _ Xr
   refine q2.trans ((Xh _ f3).trans ?_);rw[Yq];exact Ve _
  ·rcases Yj.mp he with he|he
   ·exact f4 e he
   ·exact c2 e he
  ·rw[Zb,Yb];rw[Yb,Yc]at I;omega
  ·obtain⟨i,es⟩:=l t1 t2 q x;obtain⟨y7,Z,Y,el⟩:=l2 t1 t2 (sI g.1) (sI (g.2)) i x;refine⟨y7,Z,Y,?_⟩;rw[YD];unfold cN;show(match clB C (plF ns A t1 (stO K T ((kept++g::aL).map dOp) G U h p s) t2 here n k sg (sI g.1) (sI (g.2)) q x)with|some (.nx ρ)=>cN (j9 [7,8]) (clB C) (aL.map dOp) ρ|some (.ct ρ)=>cN (j9 [7,8]) (clB C) (aL.map dOp) ρ|some (.bk ρ)=>some (.nx ρ)|r=>r)=_;rw[es];simp only;rw[el,Zb,YB,YB,Yq,Yq]
end
theorem uz{α:Type}[DecidableEq α]:∀(l U:List α),l.Nodup->(∀x∈l,x∈U)->l.length<=U.length
 |[],_,_,_=>YQ _
 |x::l,U,nd,h=>by
  have b:=h x Yf;have:=uz l (U.erase x) (YG.mp nd).2 λy a=>(XD λz=>(YG.mp nd).1 (by rw[<-z];exact a)).mpr (h y (Ye _ a))
  rw[List.length_erase_of_mem b]at this;have e:0<U.length:=List.length_pos_of_mem b;rw[Yg];omega
theorem s_(P:Nat->Bool):∀N,(∀i,i<N->P i=true)\/∃j,j<N/\P j=false/\∀i,i<j->P i=true
 |0=>.inl λi h=>absurd h (by omega)
 |N+1=>by
  rcases s_ P N with h|⟨j,hj,h1,h2⟩
  ·cases a:P N with
   |true=>
    refine .inl λi b=>?_;rcases Nat.lt_or_ge i N with q|q
    ·exact h i q
    ·rw[show i=N by omega];exact a
   |false=>exact .inr ⟨N,by omega,a,h⟩
  ·exact .inr ⟨j,by omega,h1,h2⟩
def cyc(x i:Nat):Nat:=(x-1+i)%99+1
theorem wk(U:List Nat)(q:U.length<99)(x:Nat):∃j,j<99/\cyc x j∉U/\∀i,i<j->cyc x i∈U:=by
 rcases s_ (λi=>decide (cyc x i∈U)) 99 with h|⟨j,hj,h1,h2⟩
 ·have l:((List.range 99).map (cyc x)).Nodup:=by refine Vy.mpr (List.Pairwise.imp_of_mem ?_ (List.nodup_range (n:=99)));intro a b p o g e;rw[Zq]at p o;unfold cyc at e;exact g (by omega)
  have:=uz _ U l λy m=>by
   obtain⟨i,f,rfl⟩:=Yt.mp m;exact YN (h i (Zq.mp f))
  rw[Yc,XZ]at this;omega
 ·exact⟨j,hj,of_decide_eq_false h1,λi f=>YN (h2 i f)⟩
def dUs(U:List Nat):List D:=U.map λn:Nat=>D.int (n:Int)
theorem IW(x:Nat)(U:List Nat):inD (.int (x:Int)) (.lst (dUs U))=some (.bl (decide (x∈U))):=by
 have f:(dUs U).all (okN 29)=true:=by rw[YE];intro d h;obtain⟨n,_,rfl⟩:=Yt.mp h;rfl
 show(if(okN 30 (.int (x:Int))&&(dUs U).all (okN 29))=true then some (D.bl ((dUs U).any λz=>eqd z (.int (x:Int))))else none)=_;rw[f,Yh (show(okN 30 (D.int (x:Int))&&true)=true from rfl)];refine YH (λb=>some (D.bl b)) ?_;rw[Bool.eq_iff_iff,List.any_eq_true,YF];constructor
 ·rintro⟨d,h,e⟩;obtain⟨n,g,rfl⟩:=Yt.mp h;rw[mK,YF]at e;rw[show x=n by omega];exact g
 ·intro a;exact⟨_,Yt.mpr ⟨x,a,rfl⟩,by rw[mK];simp⟩
noncomputable abbrev opB (C:Addr):DF->Option RES:=(dIf (fD (asB (d2 ltd (ar 3) (cI 6))) (asB (d2 ltd (d2 af (d1 aK (aP none 2 "ties")) (d1 aK (aP none 2 "open"))) (cI 12)))) (al (bC 7 (x2 af (ai (cI 1)) (x2 aJ (ax (az C) (aH (ai (getV 0)) (aD 1 ba))) (ai (cI 99)))))
  (al (cD (asB (d2 inD (ar 7) (aP none 2 "used"))) (aY 7 (d2 af (d2 aJ (ag 7) (cI 99)) (cI 1))) 100)
  (al (cm none 2 "used" (getV 7))
  (al (cm none 2 "open" (asT (ao (getV 7) (ao (getV 3) bA))))
  (dU 6 (d2 af (d2 af (λ_=>some (.str "{")) (d1 eQ (ar 7))) (λ_=>some (.str "}")))))))) dNx)
section
variable   {K G:List D}{p s n k:D} 
theorem Bf(x i:Nat):1<=cyc x i/\cyc x i<=99:=by unfold cyc;omega
theorem Ag{U:List Nat}{x:Nat}{c:Dk}{body:Dw}{fr:Int->DF}(h:∀m:Nat,c (fr m)=some (decide (m∈U)))(g:∀m:Int,body (fr m)=some (.nx (fr (m%99+1))))(a:cyc x j∉U)(hi:∀i,i<j->cyc x i∈U):∀(d i f:Nat),i+d=j->d<f->cD c body f (fr (cyc x i:Int))=some (.nx (fr (cyc x j:Int))):=by
 intro d;induction d with
 |zero=>
  intro i f e b;obtain⟨f,rfl⟩:∃m,f=m+1:=⟨f-1,by omega⟩
  rw[show i=j by omega];exact gQ ((h _).trans (by rw[Yi a]))
 |succ d ih=>
  intro i f e b;obtain⟨f,rfl⟩:∃m,f=m+1:=⟨f-1,by omega⟩
  rw[lr ((h _).trans (by rw[Yk (hi i (by omega))])) (g _),show(cyc x i:Int)%99+1=(cyc x (i+1):Int)by unfold cyc;omega];exact ih (i+1) f (by omega) (by omega)
def Eg{U:List Nat}{x:Nat}{A:OD}{g e a:Option DV}(l:cyc x j∉U)(hi:∀i,i<j->cyc x i∈U):∀(d i f:Nat),i+d=j->d<f->
  cD (asB (d2 inD (ar 7) (aP none 2 "used"))) (aY 7 (d2 af (d2 aJ (ag 7) (cI 99)) (cI 1))) f (plF ns A t1 (stO K T O G (dUs U) h p s) t2 here n k sg (sI (cyc x i:Int)) g e a)=some (.nx (plF ns A t1 (stO K T O G (dUs U) h p s) t2 here n k sg (sI (cyc x j:Int)) g e a)):=
 Ag (fr:=λm=>plF ns A t1 (stO K T O G (dUs U) h p s) t2 here n k sg (sI m) g e a) (λm=>by
  rw[bw,aq,El];show(match inD (.int (m:Int)) (.lst (dUs U))with|some (.bl b)=>some b|_=>none:Option Bool)=_;rw[IW]) (λm=>by
  rw[bi,aq,aq];show Option.map _ ((aJ (.int m) (.int 99)).bind λy=>af y (.int 1))=_;rw[aX _ 99 (by decide)];rfl) l hi
noncomputable def evN(here:Int)(e:Ev):List Op:=match e.2 with|none=>[(e.1,here)]|some _=>[]
noncomputable def evU(e:Ev):List Nat:=match e.2 with|none=>[e.1]|some _=>[]
def ym(e:Ev):Prop:=e.2=none/\1<=e.1/\e.1<=99
theorem EH(Q:ns.length<=100){O:List Op}{U:List Nat}{A:OD}{b:Nat}(I:At A b)(hb:b+10<=1000000000)(Y:T.length+O.length<=12)(X:U.length<99)(P:sg.length<1000):∃(A':OD) (evs:List Ev),At A' (b+1)/\evs.length<=1/\(∀e∈evs,ym e/\here<6/\e.1∉U)/\T.length+(O++evs.flatMap (evN here)).length<=12/\∀(t1 t2:Option Addr) (i g f a:Option DV),∃w,
  opB C (plF ns A t1 (stO K T (O.map dOp) G (dUs U) h p s) t2 here n k sg i g f a)=some (.nx (plF ns A' t1 (stO K T ((O++evs.flatMap (evN here)).map dOp) G (dUs (U++evs.flatMap evU)) h p s) t2 here n k (sg++evs.map sgD) w g f a)):=by
 have L:∀(t1 t2:Option Addr) (i g f a:Option DV),(fD (asB (d2 ltd (ar 3) (cI 6))) (asB (d2 ltd (d2 af (d1 aK (aP none 2 "ties")) (d1 aK (aP none 2 "open"))) (cI 12)))) (plF ns A t1 (stO K T (O.map dOp) G (dUs U) h p s) t2 here n k sg i g f a)=some (decide (here<6)&&decide ((T.length:Int)+(O.length:Int)<12)):=λt1 t2 i g f a=>by
  rw[jv,bw,bw,aq,aq,aq,bX,bX,qS,m5];show(some (decide (here<6))).bind (λb=>if b=true then some (decide ((T.length:Int)+((O.map dOp).length:Int)<12))else some false)=_;rw[Yc];cases decide (here<6)<;>rfl
 by_cases B:(decide (here<6)&&decide ((T.length:Int)+(O.length:Int)<12))=true
 ·have o:=B;rw[Yn,YF,YF]at o;obtain⟨v,u,E,v0,_,N⟩:=d7 C ns Q I (by omega)
  let x:=(1+v%99).toNat
  have M:((x:Nat):Int)=1+v%99:=by show(((1+v%99).toNat:Nat):Int)=_;omega
  obtain⟨j,hj,J,Z⟩:=wk U X x;have z:cyc x 0=x:=by
   have:1<=x/\x<=99:=by omega
   unfold cyc;omega
  have l:=Bf x j;generalize H:cyc x j=m at *;have R:=fG m 30 (by decide) (YS l.2 (by decide));refine⟨u,[(m,none)],E,by simp,λe q=>?_,?_,λt1 t2 i g f a=>⟨sI m,?_⟩⟩
  ·rw[Yo]at q;subst q;exact⟨⟨rfl,l⟩,o.1,J⟩
  ·rw[Yb];show T.length+(O.length+1)<=12;omega
  ·unfold opB;rw[dJ,L,Ya,Yh B];rw[aj (ρ':=plF ns u t1 (stO K T (O.map dOp) G (dUs U) h p s) t2 here n k sg (sI (cyc x 0:Int)) g f a) (by
    rw[z,M];exact cx (gv (bE rfl) (nZ (by decide) N) rfl))]
   rw[aj (Eg (x:=x) (j:=j) (by rw[H];exact J) Z j 0 100 (by omega) (by omega)),H];have S:(dUs U).length=U.length:=Yc ..;rw[aj (CJ (d:=.int (m:Int)) rfl (by omega))];rw[aj (Db (d:=dOp (m,here)) rfl (by rw[Yc];omega))];have ed:(d2 af (d2 af (λ_=>some (.str "{")) (d1 eQ (ar 7))) (λ_=>some (.str "}"))) (plF ns u t1 (stO K T (O.map dOp++[dOp (m,here)]) G (dUs U++[.int (m:Int)]) h p s) t2 here n k sg (sI m) g f a)=some (sgD (m,none)):=by rw[aq,aq,bX,s_o,s_c];show(((eQ (.int (m:Int))).bind λy=>af (.str (sT [123])) y).bind λx=>af x (.str (sT [125])))=_;rw[mI (YS l.2 (by decide)),Ya,cW (by simp;omega),Ya,cW (by simp;omega)];rfl
   show(Option.bind ((d2 af (d2 af (λ_=>some (.str "{")) (d1 eQ (ar 7))) (λ_=>some (.str "}"))) (plF ns u t1 (stO K T (O.map dOp++[dOp (m,here)]) G (dUs U++[.int (m:Int)]) h p s) t2 here n k sg (sI m) g f a)) _)=_;rw[ed,Ya];show(if sg.length<16777216 then _ else none)=_;rw[Yh (by omega)];have e1:O.map dOp++[dOp (m,here)]=(O++([(m,none)]:List Ev).flatMap (evN here)).map dOp:=by rw[YB];rfl
   have e2:dUs U++[.int (m:Int)]=dUs (U++([(m,none)]:List Ev).flatMap evU):=by unfold dUs;rw[YB];rfl
   rw[e1,e2];rfl
 ·refine⟨A,[],I.mono (by omega),by simp,(λe q=>nomatch q),by simpa using Y,λt1 t2 i g f a=>⟨i,?_⟩⟩;unfold opB;rw[dJ,L,Ya,Yp B];show some (RES.nx _)=_;rw[show([]:List Ev).flatMap (evN here)=[]from rfl,show([]:List Ev).flatMap evU=[]from rfl,Zl,Yl,Yl,Yl]
theorem Cv(hl:ns.length<=100):∀(is:List Int) (O:List Op) (U:List Nat) (A:OD) (b:Nat) (sg:List D),At A b->b+is.length+10<=1000000000->T.length+O.length<=12->U.length+is.length<99->U.Nodup->sg.length+is.length<1000->
  ∃(A':OD) (evs:List Ev),At A' (b+is.length)/\evs.length<=is.length/\(∀e∈evs,ym e/\here<6)/\(U++evs.flatMap evU).Nodup/\T.length+(O++evs.flatMap (evN here)).length<=12/\∀(t1 t2:Option Addr) (o j g x:Option DV),∃l u,
   cN (setV 10) (opB C) (is.map .int) (plF ns A t1 (stO K T (O.map dOp) G (dUs U) h p s) t2 here n k sg o j g x)=some (.nx (plF ns A' t1 (stO K T ((O++evs.flatMap (evN here)).map dOp) G (dUs (U++evs.flatMap evU)) h p s) t2 here n k (sg++evs.map sgD) l j g u)):=by
 intro is;induction is with
 |nil=>
  intro O U A b sg N _ J _ w _;refine⟨A,[],N,by simp,(λe he=>nomatch he),?_,by simpa using J,λt1 t2 o j g x=>⟨o,x,?_⟩⟩
  ·rw[show([]:List Ev).flatMap evU=[]from rfl,Yl];exact w
  ·rw[show([]:List Ev).flatMap (evN here)=[]from rfl,show([]:List Ev).flatMap evU=[]from rfl,Zl,Zl,Yl,Yl,Yl];rfl
 |cons i is ih=>
  intro O U A b sg N hb J hU w I;rw[Yg]at hb hU I;obtain⟨A1,f,M,n1,H,E,X⟩:=EH (C:=C) (K:=K) (T:=T) (G:=G) (h:=h) (p:=p) (s:=s) (n:=n) (k:=k) (here:=here) (O:=O) (U:=U) (sg:=sg) hl N (by omega) J (by omega) (by omega);have S:(f.flatMap evU).length<=1/\(U++f.flatMap evU).Nodup:=by
   cases f with
   |nil=>exact⟨by simp,by simpa using w⟩
   |cons e r=>
    cases r with
    |cons e' r=>simp at n1
    |nil=>
     have:=H e Yf;obtain⟨m,q⟩:=e;have Y:q=none:=this.1.1;subst Y;refine⟨by simp[evU],?_⟩;show(U++[m]).Nodup;refine YO.mpr ⟨w,by simp,λa ha c Q z=>?_⟩;rw[Yo]at Q;exact this.2.2 (by rw[<-Q,<-z];exact ha)
  obtain⟨A2,e2,L,n2,Z,P,B,lp⟩:=ih (O++f.flatMap (evN here)) (U++f.flatMap evU) A1 (b+1) (sg++f.map sgD) M (by omega) E (by rw[Yb];omega) S.2 (by rw[Yb,Yc];omega);refine⟨A2,f++e2,L.mono (by rw[Yg];omega),by rw[Yb,Yg];omega,λe he=>?_,?_,?_,λt1 t2 o j g x=>?_⟩
  ·rcases Yj.mp he with he|he
   ·exact⟨(H e he).1,(H e he).2.1⟩
   ·exact Z e he
  ·rw[Zb,<-Yq];exact P
  ·rw[Zb,<-Yq];exact B
  ·obtain⟨l,es⟩:=X t1 t2 o j g (sI i);obtain⟨R,y,el⟩:=lp t1 t2 l j g (sI i);refine⟨R,y,?_⟩;rw[YD];unfold cN;show(match opB C (plF ns A t1 (stO K T (O.map dOp) G (dUs U) h p s) t2 here n k sg o j g (sI i))with|some (.nx ρ)=>cN (setV 10) (opB C) (is.map .int) ρ|some (.ct ρ)=>cN (setV 10) (opB C) (is.map .int) ρ|some (.bk ρ)=>some (.nx ρ)|r=>r)=_;rw[es];simp only;rw[el,Zb,Zb,YB (l₁:=f),<-Yq,<-Yq,<-Yq]
end
def nt{α a:Type}{f:α->List a}{l:List α}(h:∀e∈l,f e=[]):l.flatMap f=[]:=List.flatMap_eq_nil_iff.mpr h
theorem vR:∀L:List (List Nat),Str.join (sT []) (L.map sT)=sT L.flatten
 |[]=>rfl
 |[x]=>by rw[List.flatten_cons,List.flatten_nil,Yl];rfl
 |x::y::r=>by
  have ih:=vR (y::r);show sT x++sT []++Str.join (sT []) ((y::r).map sT)=_;rw[ih,vF,vF,Yl];rfl
theorem ED{e:Ev}(h:yc e\/ym e)(a:e.1<=99):(evT e).length<=200:=by
 obtain⟨n,m⟩:=e;have b:=fG n 30 (by decide) (YS a (by decide));cases m with
 |none=>unfold evT evR;simp;omega
 |some m=>
  rcases h with h|h
  ·have h:vx m.2:=h;have:=mS h.1;have:=h.2.2;unfold evT evR;simp;omega
  ·cases h.1
theorem rm:∀{L:List Nat}{c:Nat},(∀x∈L,x<=c)->L.sum<=c*L.length
 |[],_,_=>by simp
 |x::L,c,h=>by
  have e:=h x Yf;have b:=rm (L:=L) λy a=>h y (Ye _ a)
  rw[List.sum_cons,Yg,Nat.mul_succ];omega
theorem A7{evs:List Ev}(h:∀e∈evs,(evT e).length<=200)(i:evs.length<=100):n9 (.str (sT [])) (.lst (evs.map sgD))=some (.str (sT (evs.flatMap evT))):=by
 have b:(evs.map sgD).map txt=(evs.map evT).map sT:=by rw[Zn,Zn];rfl
 show(if iV (sT []) (evs.map sgD)=true then some (D.str (Txt.join (sT []) ((evs.map sgD).map txt)))else none)=_;rw[Yh,b]
 ·show some (D.str (Builtin.Str.glued (sT []) _))=_;rw[StrLaws.glued_eq_join,vR,List.flatMap_def]
 ·unfold iV;rw[Yn,YE,YF,b];refine⟨λd g=>by obtain⟨e,_,rfl⟩:=Yt.mp g;rfl,?_⟩;have:=rm (L:=((evs.map evT).map sT).map (·.length)) (c:=200) λx a=>by
   rw[Zn,Zn]at a;obtain⟨e,f,rfl⟩:=Yt.mp a;show(sT (evT e)).length<=200;rw[bW];exact h e f
  rw[Yc,Yc,Yc]at this;rw[Yc,Yc,show(sT []).length=0 from rfl,Nat.mul_zero];omega
def okPl(p:D):Prop:=∃a b c:List Nat,okW (sT a)/\okW (sT b)/\okW (sT c)/\p=.lst [.str (sT a),.str (sT b),.str (sT c)]
def okPl.at{p:D}(h:okPl p)(v:Int):∃k:List Nat,okW (sT k)/\ixD p (.int (v%3))=some (.str (sT k)):=by
 obtain⟨a,b,c,i,g,f,rfl⟩:=h;rcases AU v with e|e|e
 ·exact⟨a,i,by rw[e];rfl⟩
 ·exact⟨b,g,by rw[e];rfl⟩
 ·exact⟨c,f,by rw[e];rfl⟩
def lst(K:List Str)(T:List T4)(O:List Op)(G:List Int)(U:List Nat)(h p s:D):OD:=stO (K.map .str) (T.map dT4) (O.map dOp) (G.map .int) (dUs U) h p s
structure LS where
 K:List Str
 T:List T4
 O:List Op
 G:List Int
 U:List Nat
 h:Int
structure PlOk (L:LS) (kd:List Nat) (evs0 evs:List Ev) (O':List Op):Prop where
 kd:okW (sT kd)
 pm:evs.Perm evs0
 ok:∀e∈evs0,yc e\/ym e
 io:∀e∈evs0,∀m,e.2=some m->(e.1,m.1)∈L.O
 op:(O'++evs0.flatMap evO).Perm (L.O++evs0.flatMap (evN (L.K.length:Int)))
 nu:(L.U++evs0.flatMap evU).Nodup
 le:L.T.length+(evs0.flatMap (evS (L.K.length:Int))).length+O'.length<=12
 six:L.K.length=6->O'=[]
 n15:evs0.length<=15
 sg:(evs.flatMap evT).length<=3000
theorem yd{p s:D}(hl:ns.length<=100)(hs:okSm s)(hp:okPl p){A:OD}{b:Nat}(hA:At A b)(hb:b+200<=1000000000){K:List Str}{T:List T4}{O:List Op}{G:List Int}{U:List Nat}(hK:K.length<=7)(hO:O.Nodup)(P:∀o∈O,o.1<=99)(hT:T.length+O.length<=12)(hU:U.length<90)(nU:U.Nodup) :
  ∃(A':OD) (kd:List Nat) (evs0 evs:List Ev) (O':List Op),At A' (b+200)/\(∀h:Int,PlOk ⟨K,T,O,G,U,h⟩ kd evs0 evs O') /\
  a_ C [SC ns,.own A none,.own (lst K T O G U h p s) none]=some ([SC ns,.own A' none,.own (lst (K++[sT kd]) (T++evs0.flatMap (evS (K.length:Int))) O' G (U++evs0.flatMap evU) h p s) none],.str (sT (plT kd evs))):=by
 obtain⟨v,H,hA1,v0,_,hv⟩:=d7 C ns hl hA (by omega);obtain⟨kd,N,hat⟩:=hp.at v;have hO12:O.length<=12:=by omega
 obtain⟨A2,g,j,hA2,pc,oc,tc,c6,lc,eL⟩:=CD (C:=C) (K:=(K++[sT kd]).map .str) (G:=G.map .int) (U:=dUs U) (h:=h) (p:=p) (n:=.int v) (k:=.str (sT kd)) (here:=(K.length:Int)) hl hs O [] H (b+1) (T.map dT4) [] hA1 (by omega) P (by simpa using hO) (by simpa using hT) (by simp;omega);rw[Zx]at pc;rw[Yc]at tc;have hm:-2<=v/3%6-2/\v/3%6-2<=3:=by omega
 have hrl:=fm (v/3%6-2);obtain⟨R,i,hA3,lo,E,nu,to,eL2⟩:=Cv (C:=C) (K:=(K++[sT kd]).map .str) (T:=(T++g.flatMap (evS (K.length:Int))).map dT4) (G:=G.map .int) (h:=h) (p:=p) (s:=s) (n:=.int v) (k:=.str (sT kd)) (here:=(K.length:Int)) hl (gD (v/3%6-2)) j U A2 (b+1+8*O.length) ([]++g.map sgD) hA2 (by omega) (by rw[Yc,Yb];omega) (by omega) nU (by simp;omega);rw[Yc,Yb]at to;have z1:i.flatMap evO=[]:=nt λe he=>by obtain⟨n,m⟩:=e;have q:m=none:=(E _ he).1.1;subst q;rfl
 have z2:i.flatMap (evS (K.length:Int))=[]:=nt λe he=>by obtain⟨n,m⟩:=e;have q:m=none:=(E _ he).1.1;subst q;rfl
 have z3:g.flatMap (evN (K.length:Int))=[]:=nt λe he=>by
  obtain⟨n,m⟩:=e;cases m with
  |none=>exact absurd (oc _ he) id
  |some m=>rfl
 have z4:g.flatMap evU=[]:=nt λe he=>by
  obtain⟨n,m⟩:=e;cases m with
  |none=>exact absurd (oc _ he) id
  |some m=>rfl
 have hev:∃evs:List Ev,evs.Perm (g++i)/\∀(t1 t2:Option Addr) (st:OD) (x7 Z Y l:Option DV),dIf (asB (d2 eqD (d2 aJ (d2 aR (ag 4) (cI 18)) (cI 2)) (cI 1))) (Ek 6) dNx (plF ns R t1 st t2 (K.length:Int) (.int v) (.str (sT kd)) ((g++i).map sgD) x7 Z Y l)=some (.nx (plF ns R t1 st t2 (K.length:Int) (.int v) (.str (sT kd)) (evs.map sgD) x7 Z Y l)):=by
  have Q:=bM v 18 (by decide);have m2:=aX (v/18) 2 (by decide);by_cases q:v/18%2=1
  ·refine⟨(g++i).reverse,List.reverse_perm _,λt1 t2 st x7 Z Y l=>?_⟩;rw[dJ,bw,aq,aq,aq];show(match((aR (.int v) (.int 18)).bind λx=>aJ x (.int 2)).bind λx=>eqD x (.int 1)with|some (.bl b)=>some b|_=>none:Option Bool).bind _=_;rw[Q,Ya,m2,Ya,eY,Yk q,List.map_reverse];rfl
  ·refine⟨g++i,Ve _,λt1 t2 st x7 Z Y l=>?_⟩;rw[dJ,bw,aq,aq,aq];show(match((aR (.int v) (.int 18)).bind λx=>aJ x (.int 2)).bind λx=>eqD x (.int 1)with|some (.bl b)=>some b|_=>none:Option Bool).bind _=_;rw[Q,Ya,m2,Ya,eY,Yi q];rfl
 obtain⟨evs,u,M⟩:=hev;have B:∀e∈g++i,yc e\/ym e:=λe he=>by
  rcases Yj.mp he with he|he
  ·exact .inl (oc e he)
  ·exact .inr (E e he).1
 have J:∀e∈g++i,e.1<=99:=λe he=>by
  rcases Yj.mp he with he|he
  ·obtain⟨n,m⟩:=e;cases m with
   |none=>exact absurd (oc _ he) id
   |some m=>
    have:(n,m.1)∈j++g.flatMap evO:=Yj.mpr (.inr (Zs.mpr ⟨_,he,by simp[evO]⟩));exact P _ (pc.mem_iff.mp this)
  ·exact(E e he).1.2.2
 have w:∀e∈evs,(evT e).length<=200:=λe he=>ED (B e (u.mem_iff.mp he)) (J e (u.mem_iff.mp he))
 have elen:evs.length<=15:=by rw[u.length_eq,Yb];omega
 have hfl:(evs.flatMap evT).length<=3000:=by
  rw[List.length_flatMap];have:=rm (L:=evs.map λa=>(evT a).length) (c:=200) λx hx=>by obtain⟨e,he,rfl⟩:=Yt.mp hx;exact w e he
  rw[Yc]at this;omega
 refine⟨R,kd,g++i,evs,j++i.flatMap (evN (K.length:Int)),hA3.mono (by omega),λh=>⟨N,u,B,λe he m hm=>?_,?_,?_,?_,λz=>?_,by rw[Yb];omega,hfl⟩,gk rfl λf=>?_⟩
 ·rcases Yj.mp he with he|he
  ·exact pc.mem_iff.mp (Yj.mpr (.inr (Zs.mpr ⟨_,he,by unfold evO;rw[hm];simp⟩)))
  ·rw[(E e he).1.1]at hm;cases hm
 ·show(j++i.flatMap (evN (K.length:Int))++(g++i).flatMap evO).Perm (O++(g++i).flatMap (evN (K.length:Int)));rw[Zb,Zb,z1,z3,Yl,Zx];have q:(j++i.flatMap (evN (K.length:Int))++g.flatMap evO).Perm ((j++g.flatMap evO)++i.flatMap (evN (K.length:Int))):=by rw[Yq,Yq];exact Xq _ Xr
  exact q.trans (Xh _ pc)
 ·show(U++(g++i).flatMap evU).Nodup;rw[Zb,z4,Zx];exact nu
 ·show T.length+((g++i).flatMap (evS (K.length:Int))).length+(j++i.flatMap (evN (K.length:Int))).length<=12;rw[Zb,z2,Yl];omega
 ·have z:K.length=6:=z;rw[c6 (by omega),Zx];exact nt λe he=>by have:=(E e he).2;omega
 ·obtain⟨y7,X,S,f1⟩:=eL (some (f 1)) (some (f 2)) none none none none;obtain⟨w7,I,f2⟩:=eL2 (some (f 1)) (some (f 2)) y7 X S none;have hk3:kd.length<=3:=N.2.1;have e0:gr C [some (SC ns),sO A (some (f 1)),sO (lst K T O G U h p s) (some (f 2)),none,none,none,none,none,none,none,none]=some (.rt (.v (.str (sT (plT kd evs)))) (plF ns R (some (f 1)) (lst (K++[sT kd]) (T++(g++i).flatMap (evS (K.length:Int))) (j++i.flatMap (evN (K.length:Int))) G (U++(g++i).flatMap evU) h p s) (some (f 2)) (K.length:Int) (.int v) (.str (sT kd)) (evs.map sgD) w7 X S I)):=by
   unfold gr lst;rw[aj (ρ':=[some (SC ns),sO A (some (f 1)),sO (lst K T O G U h p s) (some (f 2)),sI K.length,none,none,none,none,none,none,none]) (by
    rw[bi,bX,sR];show some (RES.nx _)=_;rw[Yc];rfl)]
   rw[aj (cx (gm ⟨_,rfl⟩ hv))];rw[aj (ρ':=[some (SC ns),sO H (some (f 1)),sO (lst K T O G U h p s) (some (f 2)),sI K.length,sI v,sS kd,none,none,none,none,none]) (by
    rw[bi,aq,aq];show Option.map _ ((dR none 2 "pool" (some (SC ns)::sO H (some (f 1))::sO (stO (K.map .str) (T.map dT4) (O.map dOp) (G.map .int) (dUs U) h p s) (some (f 2))::_)).bind λx=>(aJ (.int v) (.int 3)).bind λy=>ixD x y)=_;rw[Co,aX v 3 (by decide),Ya,Ya,hat];rfl)]
   rw[aj (show cm none 2 "kinds" (getV 5) [some (SC ns),sO H (some (f 1)),sO (lst K T O G U h p s) (some (f 2)),sI K.length,sI v,sS kd,none,none,none,none,none]=some (RES.nx [some (SC ns),sO H (some (f 1)),sO (stO (K.map .str++[.str (sT kd)]) (T.map dT4) (O.map dOp) (G.map .int) (dUs U) h p s) (some (f 2)),sI K.length,sI v,sS kd,none,none,none,none,none])from DI rfl (by rw[Yc];omega))];rw[show K.map D.str++[.str (sT kd)]=(K++[sT kd]).map D.str by rw[YB];rfl];rw[aj (ρ':=plF ns H (some (f 1)) (stO ((K++[sT kd]).map .str) (T.map dT4) (O.map dOp) (G.map .int) (dUs U) h p s) (some (f 2)) (K.length:Int) (.int v) (.str (sT kd)) [] none none none none) rfl];rw[aj (ρ':=plF ns A2 (some (f 1)) (stO ((K++[sT kd]).map .str) (T.map dT4++(g.flatMap (evS (K.length:Int))).map dT4) (j.map dOp) (G.map .int) (dUs U) h p s) (some (f 2)) (K.length:Int) (.int v) (.str (sT kd)) ([]++g.map sgD) y7 X S none) (by
    rw[gu,oP,zK,vH,yf,m5];exact f1)]
   rw[<-YB];rw[aj (ρ':=plF ns R (some (f 1)) (stO ((K++[sT kd]).map .str) ((T++g.flatMap (evS (K.length:Int))).map dT4) ((j++i.flatMap (evN (K.length:Int))).map dOp) (G.map .int) (dUs (U++i.flatMap evU)) h p s) (some (f 2)) (K.length:Int) (.int v) (.str (sT kd)) ([]++g.map sgD++i.map sgD) w7 X S I) (by
    rw[gu];refine(YH (λz=>Option.bind z _) (Aq (n:=v/3%6-2) ?_ ⟨by omega,by omega⟩)).trans f2;rw[aq,aq,aq];show(((aR (.int v) (.int 3)).bind λx=>aJ x (.int 6)).bind λx=>kZ x (.int 2))=_;rw[bM v 3 (by decide),Ya,aX _ 6 (by decide)];rfl)]
   rw[Zx,<-YB (l₁:=g)];rw[aj (M _ _ _ _ _ _ _)];rw[Zb,z2,Yl,Zb,z4,Zx,show("":Str)=sT []by kernel_rfl,d9,aq,aq];show Option.map _ ((n9 (.str (sT [])) (.lst (evs.map sgD))).bind λy=>af (.str (sT kd)) y)=_;rw[A7 w (by omega),Ya,cW (by omega)];rfl
  show(gr C [some (SC ns),sO A (some (f 1)),sO (lst K T O G U h p s) (some (f 2)),none,none,none,none,none,none,none,none]).bind _=_;rw[e0];simp[nE,gW]
structure LOk (L:LS):Prop where
 kw:∀k∈L.K,okW k
 k7:L.K.length<=7
 o7:L.K.length=7->L.O=[]
 le:L.T.length+L.O.length<=12
 on:(L.O.map (·.1)).Nodup
 ou:∀o∈L.O,o.1∈L.U
 op:∀o∈L.O,0<=o.2/\o.2<(L.K.length:Int)
 un:L.U.Nodup
 u9:∀n∈L.U,1<=n/\n<=99
 ul:L.U.length<=L.T.length+L.O.length
structure Rel (L:LS) (R:RS) (X:List T4):Prop where
 k:R.K=L.K
 t:(R.T++X).Perm L.T
 b:(R.bg.map (·.1)).Perm (L.U.map λn:Nat=>(n:Int))
 o:∀o∈L.O,((o.1:Int),o.2)∈R.bg/\(o.1:Int)∉R.cl
 c:∀n∈R.cl,n∈R.bg.map (·.1)
 n:R.cl.length+L.O.length=R.bg.length
def plL(L:LS)(kd:List Nat)(evs0:List Ev)(O':List Op):LS:=⟨L.K++[sT kd],L.T++evs0.flatMap (evS (L.K.length:Int)),O',L.G,L.U++evs0.flatMap evU,L.h⟩
theorem vQ{n:Int}{t:T4}(h:okT n t):okT (n+1) t:=by unfold okT at h ⊢;omega
theorem wq{a b n:Int}{q:Mk}(i:0<=a/\a<n)(g:0<=b/\b<n)(f:a≠b)(h:okM q):okT n (bS a b q):=by
 have j:(q.1:Int)<1000000000000000000000000000000:=by
  have:=h.1;have e:(10:Nat)^30=1000000000000000000000000000000:=by decide
  omega
 unfold bS okT;split<;>simp only<;>omega
theorem lK:∀l:List Ev,(l.map (·.1)).Perm ((l.flatMap evO).map (·.1)++l.flatMap evU)
 |[]=>Ve _
 |(n,none)::l=>by
  show(n::l.map (·.1)).Perm ((l.flatMap evO).map (·.1)++n::l.flatMap evU);exact(List.Perm.cons _ (lK l)).trans List.perm_middle.symm
 |(n,some m)::l=>by
  show(n::l.map (·.1)).Perm (n::(l.flatMap evO).map (·.1)++l.flatMap evU);exact List.Perm.cons _ (lK l)
theorem gJ(p:Int):∀l:List Ev,(l.flatMap (evN p)).map (·.1)=l.flatMap evU
 |[]=>rfl
 |(n,none)::l=>YH (n::·) (gJ p l)
 |(n,some m)::l=>gJ p l
theorem oN(p:Int):∀l:List Ev,(l.flatMap (evB p)).map (·.1)=(l.flatMap evU).map λn:Nat=>(n:Int)
 |[]=>rfl
 |(n,none)::l=>YH ((n:Int)::·) (oN p l)
 |(n,some m)::l=>oN p l
theorem mJ(p:Int):∀l:List Ev,l.flatMap (evB p)=(l.flatMap (evN p)).map λo:Op=>((o.1:Int),o.2)
 |[]=>rfl
 |(n,none)::l=>YH (((n:Int),p)::·) (mJ p l)
 |(n,some m)::l=>mJ p l
theorem mP:∀l:List Ev,l.flatMap evC=(l.flatMap evO).map λo:Op=>(o.1:Int)
 |[]=>rfl
 |(n,none)::l=>mP l
 |(n,some m)::l=>YH ((n:Int)::·) (mP l)
theorem rn(p:Int):∀l:List Ev,(∀e∈l,yc e\/ym e)->(l.flatMap evO).length<=(l.flatMap (evS p)).length
 |[],_=>Yy _
 |(n,none)::l,h=>rn p l λe a=>h e (Ye _ a)
 |(n,some m)::l,h=>by
  have ih:=rn p l λe a=>h e (Ye _ a)
  have b:vx m.2:=by
   rcases h _ Yf with h|h
   ·exact h
   ·cases h.1
  have:0<m.2.length:=ZR.mpr b.2.1;show((n,m.1)::l.flatMap evO).length<=(m.2.map (bS m.1 p)++l.flatMap (evS p)).length;rw[Yg,Yb,Yc];omega
def Perm.flat{α e:Type}{f:α->List e}{a b:List α}(h:a.Perm b):(a.flatMap f).Perm (b.flatMap f):=List.Perm.flatMap_right f h
section
variable{L:LS}{R:RS}{X:List T4}  {evs0 evs:List Ev}{O':List Op}
def qA(e:LOk L)(h:PlOk L kd evs0 evs O'):((O'++evs0.flatMap evO).map (·.1)).Nodup:=by
 have f:=(h.op.map (·.1))
 rw[YB (l₁:=L.O),gJ]at f;refine(f.nodup_iff).mpr (YO.mpr ⟨e.on,(YO.mp h.nu).2.1,λa j b i z=>?_⟩);obtain⟨o,g,rfl⟩:=Yt.mp j;exact(YO.mp h.nu).2.2 _ (e.ou o g) b i z
theorem Kj(b:LOk L)(a:PlOk L kd evs0 evs O')(x:L.K.length<=6):LOk (plL L kd evs0 O'):=by
 have j:=qA b a;rw[YB]at j;have len:=a.op.length_eq;rw[Yb,Yb]at len;have w:(evs0.flatMap (evN (L.K.length:Int))).length=(evs0.flatMap evU).length:=by rw[<-gJ (L.K.length:Int),Yc]
 have u:=rn (L.K.length:Int) evs0 a.ok;have mem:∀o∈O',o∈L.O\/o∈evs0.flatMap (evN (L.K.length:Int)):=λo f=>Yj.mp (a.op.mem_iff.mp (Yj.mpr (.inl f)))
 have i:(plL L kd evs0 O').K.length=L.K.length+1:=by show(L.K++[sT kd]).length=_;rw[Yb];rfl
 refine⟨λk hk=>?_,by rw[i];omega,λz=>a.six (by rw[i]at z;omega),?_,(YO.mp j).1,λo f=>?_,λo f=>?_,a.nu,λn l=>?_,?_⟩
 ·rcases Yj.mp hk with hk|hk
  ·exact b.kw k hk
  ·rw[Yo]at hk;subst hk;exact a.kd
 ·have:=a.le;show(L.T++_).length+O'.length<=12;rw[Yb];exact this
 ·show o.1∈L.U++evs0.flatMap evU;rcases mem o f with h|h
  ·exact Yj.mpr (.inl (b.ou o h))
  ·refine Yj.mpr (.inr ?_);rw[<-gJ (L.K.length:Int)];exact Yt.mpr ⟨o,h,rfl⟩
 ·rw[i];rcases mem o f with h|h
  ·have:=b.op o h;omega
  ·obtain⟨e,_,g⟩:=Zs.mp h;obtain⟨n,m⟩:=e;cases m with
   |none=>have:=Yo.mp g;subst this;show 0<=(L.K.length:Int)/\_;simp only;omega
   |some m=>cases g
 ·rcases Yj.mp l with h|h
  ·exact b.u9 n h
  ·obtain⟨e,p,g⟩:=Zs.mp h;obtain⟨s,m⟩:=e;cases m with
   |none=>
    have:=Yo.mp g;subst this;rcases a.ok _ p with q|q
    ·exact absurd q id
    ·exact q.2
   |some m=>cases g
 ·have:=b.ul;show(L.U++evs0.flatMap evU).length<=(L.T++_).length+O'.length;rw[Yb,Yb];omega
theorem JE(p:LOk L)(f:PlOk L kd evs0 evs O')(o:∀t∈L.T,okT ((L.K.length:Int)+1) t):∀t∈(plL L kd evs0 O').T,okT ((L.K.length:Int)+1) t:=λt i=>by
 rcases Yj.mp i with h|h
 ·exact o t h
 ·obtain⟨e,g,b⟩:=Zs.mp h;obtain⟨n,m⟩:=e;cases m with
  |none=>cases b
  |some m=>
   obtain⟨q,j,rfl⟩:=Yt.mp b;have a:=p.op _ (f.io _ g m rfl);have l:vx m.2:=by
    rcases f.ok _ g with z|z
    ·exact z
    ·cases z.1
   exact wq ⟨a.1,by have:=a.2;simp only at this;omega⟩ ⟨by omega,by omega⟩ (by have:=a.2;simp only at this;omega) (l.1 q j)
theorem Kw(A:LOk L)(f:Rel L R X)(a:PlOk L kd evs0 evs O'):Rel (plL L kd evs0 O') (plS R kd evs X G') []:=by
 have s:=qA A a;rw[YB]at s;have j:R.K.length=L.K.length:=by rw[f.k]
 have len:=a.op.length_eq;rw[Yb,Yb]at len;refine⟨?_,?_,?_,λo w=>?_,λn i=>?_,?_⟩
 ·show R.K++[sT kd]=L.K++[sT kd];rw[f.k]
 ·show(R.T++(evs.flatMap (evS (R.K.length:Int))++X)++[]).Perm (L.T++evs0.flatMap (evS (L.K.length:Int)));rw[Yl,j];have y:(R.T++(evs.flatMap (evS (L.K.length:Int))++X)).Perm ((R.T++X)++evs.flatMap (evS (L.K.length:Int))):=by rw[Yq];exact Xq _ Xr
  exact y.trans (List.Perm.append f.t (Perm.flat a.pm))
 ·show((R.bg++evs.flatMap (evB (R.K.length:Int))).map (·.1)).Perm ((L.U++evs0.flatMap evU).map λn:Nat=>(n:Int));rw[YB,YB,oN];exact List.Perm.append f.b ((Perm.flat a.pm).map _)
 ·have mem:=Yj.mp (a.op.mem_iff.mp (Yj.mpr (.inl w)));have u:(o.1:Int)∉evs.flatMap evC:=by rw[mP];intro z;obtain⟨p,g,e⟩:=Yt.mp z;have B:p∈evs0.flatMap evO:=(Perm.flat a.pm).mem_iff.mp g;exact(YO.mp s).2.2 _ (Yt.mpr ⟨o,w,rfl⟩) _ (Yt.mpr ⟨p,B,rfl⟩) (by omega)
  show((o.1:Int),o.2)∈R.bg++evs.flatMap (evB (R.K.length:Int))/\(o.1:Int)∉R.cl++evs.flatMap evC;rw[Yj,Yj];rcases mem with h|h
  ·have:=f.o o h;exact⟨.inl this.1,λz=>z.elim this.2 u⟩
  ·refine⟨.inr ?_,λz=>z.elim (λz=>?_) u⟩
   ·rw[mJ,j];exact Yt.mpr ⟨o,(Perm.flat a.pm).mem_iff.mpr h,rfl⟩
   ·have l:=f.b.mem_iff.mp (f.c _ z);obtain⟨n,i,e⟩:=Yt.mp l;have g:o.1∈evs0.flatMap evU:=by rw[<-gJ (L.K.length:Int)];exact Yt.mpr ⟨o,h,rfl⟩
    exact(YO.mp a.nu).2.2 n i _ g (by omega)
 ·show n∈(R.bg++evs.flatMap (evB (R.K.length:Int))).map (·.1);rw[YB,Yj];rcases Yj.mp i with h|h
  ·exact .inl (f.c n h)
  ·obtain⟨e,l,x⟩:=Zs.mp h;obtain⟨m,q⟩:=e;cases q with
   |none=>cases x
   |some q=>
    have:=Yo.mp x;subst this;have g:=a.io _ (a.pm.mem_iff.mp l) q rfl;exact .inl (Yt.mpr ⟨_,(f.o _ g).1,rfl⟩)
 ·have E:(evs.flatMap evC).length=(evs0.flatMap evO).length:=by rw[mP,Yc];exact(Perm.flat a.pm).length_eq
  have C:(evs.flatMap (evB (R.K.length:Int))).length=(evs0.flatMap (evN (L.K.length:Int))).length:=by rw[mJ,Yc,j];exact(Perm.flat a.pm).length_eq
  have:=f.n;show(R.cl++evs.flatMap evC).length+O'.length=(R.bg++evs.flatMap (evB (R.K.length:Int))).length;rw[Yb,Yb,E,C];omega
theorem JN(g:LOk L)(i:Rel L R X)(f:PlOk L kd evs0 evs O'):OkR R kd evs:=by
 have u:=qA g f;rw[YB]at u;have w:R.K.length=L.K.length:=by rw[i.k]
 have J:R.bg.length=L.U.length:=by have:=i.b.length_eq;rwa [Yc,Yc]at this
 have I:R.T.length+X.length=L.T.length:=by have:=i.t.length_eq;rwa [Yb]at this
 have:=g.ul;have:=g.le;have:=g.k7;have:=i.n;refine⟨⟨f.kd,λe j=>?_,?_,?_,?_,by omega,by omega,?_⟩,by omega,by omega⟩
 ·have p:=f.pm.mem_iff.mp j;obtain⟨n,m⟩:=e;cases m with
  |none=>
   rcases f.ok _ p with q|q
   ·exact absurd q id
   ·refine⟨q.2,?_⟩;show(n:Int)∉R.bg.map (·.1);intro z;obtain⟨n2,E,e⟩:=Yt.mp (i.b.mem_iff.mp z);exact(YO.mp f.nu).2.2 n2 E n (Zs.mpr ⟨_,p,by simp[evU]⟩) (by omega)
  |some m=>
   have l:=f.io _ p m rfl;have s:vx m.2:=by
    rcases f.ok _ p with z|z
    ·exact z
    ·cases z.1
   have y:=g.op _ l;refine⟨g.u9 _ (g.ou _ l),(i.o _ l).1,?_,(i.o _ l).2,s.2.1,by have:=s.2.2;omega,s.1⟩;have:=y.2;simp only at this;rw[w];omega
 ·have x:=(f.pm.map (·.1)).trans (lK evs0);refine x.nodup_iff.mpr (YO.mpr ⟨(YO.mp u).2.1,(YO.mp f.nu).2.1,λa C b B z=>?_⟩);obtain⟨o,A,rfl⟩:=Yt.mp C;obtain⟨e,H,j⟩:=Zs.mp A;obtain⟨n,m⟩:=e;cases m with
  |none=>cases j
  |some m=>
   have:=Yo.mp j;subst this;exact(YO.mp f.nu).2.2 _ (g.ou _ (f.io _ H m rfl)) b B z
 ·refine i.b.nodup_iff.mpr (Vy.mpr (g.un.imp λh z=>h (by omega)))
 ·have:=f.n15;have:=f.pm.length_eq;omega
 ·have e:(evs.flatMap (evS (R.K.length:Int))).length=(evs0.flatMap (evS (L.K.length:Int))).length:=by rw[w];exact(Perm.flat f.pm).length_eq
  have:=f.le;omega
end
section
variable{K G:List D}{p s d:D}{t:Option Addr}{σ:DF} 
theorem Jd:((stF K T O G U h p s).map (·.1)).Nodup:=by show(["kinds","ties","open","boughs","used","here","pool","some"]:List Str).Nodup;decide+kernel
def qZ{f:DX}(a:f ρ=some (d,x0::x1::sO (stO K T O G U h p s) t::σ)):jE 2 "here" f ρ=some (.nx (x0::x1::sO (stO K T O G U d p s) t::σ)):=by
 unfold jE;rw[a,Ya];show(if((stF K T O G U h p s).map (·.1)).Nodup/\(stF K T O G U h p s).length<16777216 then _ else _)=_;rw[Yh ⟨Jd,by show 8<16777216;decide⟩]
 kernel_rfl
def Hr:nR none 2 "boughs" (x0::x1::sO (stO K T O (G++[d]) U h p s) t::σ)=some (d,x0::x1::sO (stO K T O G U h p s) t::σ):=by
 unfold nR;rw[qi,Ya];show((G++[d])[(G++[d]).length-1]?).bind (λe=>(eB none 2 "boughs" (λ_=>some (.lst (G++[d]).dropLast)) _).map λa=>(e,a))=_;rw[show(G++[d])[(G++[d]).length-1]?=some d by simp,Ya,Vl];refine(YH (Option.map λa=>(d,a)) (ir (C:=none) (x0:=x0) (x1:=x1) (t:=t) (σ:=σ) (fs:=stF K T O (G++[d]) U h p s) (n := "boughs") (k:=λ_=>some (.lst G)) (o:=.lst (G++[d])) (o':=.lst G) (by kernel_rfl) rfl (by show 8<1000;decide))).trans ?_
 kernel_rfl
def xq{A st:OD}(b:∃x,S=.v x)(h:a_ C [S,.own A none,.own st none]=some ([S,.own A' none,.own st' none],d)):ax (a_ C) (aH (ai (getV 0)) (aD 1 (aD 2 ba))) (some S::sO A t1::sO st t2::σ)=some (d,some S::sO A' t1::sO st' t2::σ):=by obtain⟨x,rfl⟩:=b;unfold ax;show(if([1,2]:List Nat).Nodup then(some [DV.v x,.own A none,.own st none]).bind (λa=>(a_ C a).bind _)else none)=_;rw[Yh (by decide),Ya,h];rfl
end
def bT(L:LS)(p s:D):OD:=lst L.K L.T L.O L.G L.U (.int L.h) p s
structure Inv (C:Addr) (L:LS) (w:List Nat) (k:Nat):Prop where
 l:LOk L
 n:1<=L.K.length
 t:∀t∈L.T,okT (L.K.length:Int) t
 h:0<=L.h/\L.h<(L.K.length:Int)
 g:∀g∈L.G,0<=g/\g<(L.K.length:Int)
 gl:L.G.length<=L.K.length
 a:∀c∈w,c<128
 r:∃R,Rel L R []/\R.G=L.G/\Reads C w L.h R k
def xj{ms:List Mk}:∀c∈mtx ms,c<128:=λc a=>by
 obtain⟨q,_,h⟩:=Zs.mp a;rcases Yw.mp h with rfl|h
 ·have:∀j:Nat,ldN j<128:=λj=>by unfold ldN;split<;>decide
  exact this _
 ·exact r_ _ c h
def Gh{e:Ev}:∀c∈evT e,c<128:=λc hc=>by
 obtain⟨n,m⟩:=e;rcases Yw.mp hc with rfl|hc
 ·decide
 ·rcases Yj.mp hc with h|h
  ·exact r_ _ c h
  ·cases m with
   |none=>rw[Yo.mp h];decide
   |some m=>
    rcases Yw.mp h with rfl|h
    ·decide
    ·rcases Yj.mp h with h|h
     ·exact xj c h
     ·rw[Yo.mp h];decide
theorem rM{evs:List Ev}(h:okW (sT kd)):∀c∈plT kd evs,c<128:=λc hc=>by
 rcases Yj.mp hc with hc|hc
 ·have:=h.2.2 c hc;omega
 ·obtain⟨e,_,a⟩:=Zs.mp hc;exact Gh c a
section
variable   {p s:D}
theorem iy(H:ns.length<=100)(z:okSm s)(B:okPl p){L:LS}{R:RS}{X:List T4}{A:OD}{b:Nat}(M:At A b)(I:b+200<=1000000000)(f:LOk L)(q:Rel L R X)(N:L.K.length<=6)(J:∀t∈L.T,okT ((L.K.length:Int)+1) t) :
  ∃(A':OD) (kd:List Nat) (evs:List Ev) (i:LS),At A' (b+200)/\OkR R kd evs/\LOk i/\i.K.length=L.K.length+1/\i.G=L.G/\i.h=L.h/\(∀t∈i.T,okT (i.K.length:Int) t)/\(∀w,Rel i (plS R kd evs X w) [])/\(plT kd evs).length<=3003/\a_ C [SC ns,.own A none,.own (bT L p s) none]=some ([SC ns,.own A' none,.own (bT i p s) none],.str (sT (plT kd evs))):=by
 have x:=f.ul;have l:=f.le;obtain⟨A',kd,g,evs,u,S,Q,P⟩:=yd (C:=C) (h:=.int L.h) (G:=L.G) H z B M I (K:=L.K) (T:=L.T) (O:=L.O) (U:=L.U) f.k7 (List.Pairwise.of_map (·.1) (λa b h e=>h (e ▸ rfl)) f.on) (λo E=>(f.u9 _ (f.ou o E)).2) l (by omega) f.un;have j:=Q L.h;have m:(plL L kd g u).K.length=L.K.length+1:=by show(L.K++[sT kd]).length=_;rw[Yb];rfl
 refine⟨A',kd,evs,plL L kd g u,S,JN f q j,Kj f j N,m,rfl,rfl,λt y=>?_,λw=>Kw f q j,?_,P⟩
 ·have:=JE f j J t y;rw[m];rw[show(((L.K.length+1:Nat)):Int)=(L.K.length:Int)+1 by omega];exact this
 ·have:=j.sg;have:=j.kd.2.1;unfold plT;rw[Yb];have:kd.length<=3:=this;omega
end
def HB{as:Nat->Addr}{x d:D}{A st:OD}{σ:DF}:nE as [.v x,.own A none,.own st none] (.rt (.v d) (sV x::sO A' (some (as 1))::sO st' (some (as 2))::σ))=some ([.v x,.own A' none,.own st' none],d):=by simp[nE,gW]
def BC{f:DX}{d:D}(h:f ρ=some (d,ρ')):iW f ρ=some (.rt (.v d) ρ'):=by unfold iW;rw[h];rfl
def iG{c:Dk}{h:Dw}{b:Bool}(e:c ρ=some b):dIf c g h ρ=if b=true then g ρ else h ρ:=by rw[dJ,e];rfl
def eqN{v m:Int}(h:ar i ρ=some (.int v)):asB (d2 eqD (ar i) (λ_=>some (.int m))) ρ=some (decide (v=m)):=by rw[bw,aq,h];show(match eqD (.int v) (.int m)with|some (.bl b)=>some b|_=>none:Option Bool)=_;rw[eY]
def zq{c d:Dk}{a b:Bool}(h1:c ρ=some a)(h2:d ρ=some b):fD c d ρ=some (a&&b):=by rw[jv,h1,h2];cases a<;>rfl
def Fi{c d:Dk}{a b:Bool}(h1:c ρ=some a)(h2:d ρ=some b):orT c d ρ=some (a||b):=by rw[Bu,h1,h2];cases a<;>rfl
section
variable   {p s:D}
noncomputable abbrev spF(ns:List Int)(A:OD)(t1:Option Addr)(st:OD)(t2:Option Addr)(w room:Int)(a x:Option DV):DF:=[some (SC ns),sO A t1,sO st t2,sI w,sI room,a,x]
def Gz{K G:List D}{A:OD}{σ:DF}{x:Option DV}:d1 aK (aP none 2 "boughs") (x::sO A t1::sO (stO K T O G U h p s) t2::σ)=some (.int (G.length:Int)):=by rw[bX,qi];rfl
def Az{K G:List D}{A:OD}{σ:DF}{x:Option DV}:d1 aK (aP none 2 "kinds") (x::sO A t1::sO (stO K T O G U h p s) t2::σ)=some (.int (K.length:Int)):=by rw[bX,sR];rfl
def IF{K G:List D}{A:OD}{σ:DF}{x:Option DV}:d1 aK (aP none 2 "ties") (x::sO A t1::sO (stO K T O G U h p s) t2::σ)=some (.int (T.length:Int)):=by rw[bX,qS];rfl
def IU{K G:List D}{A:OD}{σ:DF}{x:Option DV}:d1 aK (aP none 2 "open") (x::sO A t1::sO (stO K T O G U h p s) t2::σ)=some (.int (O.length:Int)):=by rw[bX,m5];rfl
theorem Bk(hl:ns.length<=100)(hs:okSm s)(hp:okPl p){L:LS}{w:List Nat}{k:Nat}(hI:Inv C L w k){A:OD}{b:Nat}(hA:At A b)(hb:b+300<=1000000000):∃(A':OD) (w2:List Nat) (L':LS) (k':Nat),At A' (b+300)/\w2.length<=4000/\Inv C L' (w++w2) k'/\k'<=k+1 /\
  gw C [SC ns,.own A none,.own (bT L p s) none]=some ([SC ns,.own A' none,.own (bT L' p s) none],.str (sT w2)):=by
 obtain⟨v,E,Y,v0,_,hv⟩:=d7 C ns hl hA (by omega);obtain⟨l,ln,lt,lh,lg,lgl,la,R,j,M,S⟩:=hI;have hw7:0<=v%7/\v%7<7:=by omega
 generalize hway:v%7=i at hw7;have lle:=l.le;have lk7:=l.k7
 let room:Int:=12-(L.T.length:Int)-(L.O.length:Int)
 have hroom:room=12-(L.T.length:Int)-(L.O.length:Int):=rfl;have key:∃(A':OD) (w2:List Nat) (L':LS) (k':Nat),At A' (b+300)/\w2.length<=4000/\Inv C L' (w++w2) k'/\k'<=k+1/\∀t1 t2:Option Addr,∃σ',(al (dIf (fD (asB (d2 eqD (ar 3) (cI 0))) (asB (d2 gtI (d1 aK (aP none 2 "boughs")) (cI 0)))) (al (jE 2 "here" (nR none 2 "boughs"))
  (bb (λ_=>some (.str ")")))) dNx)
  (al (dIf (asB (d2 gtI (d1 aK (aP none 2 "kinds")) (cI 6))) (bb (λ_=>some (.str ""))) dNx)
  (al (dIf (fD (asB (d2 eqD (ar 3) (cI 1))) (asB (d2 eqD (d1 aK (aP none 2 "boughs")) (cI 0)))) (al (jE 2 "here" (ai (d1 aK (aP none 2 "kinds"))))
  (iW (x2 af (ai (λ_=>some (.str "."))) (ax (a_ C) (aH (ai (getV 0)) (aD 1 (aD 2 ba))))))) dNx)
  (al (dIf (orT (asB (d2 eqD (ar 3) (cI 0))) (orT (asB (d2 eqD (ar 3) (cI 1))) (asB (d2 ltd (ar 4) (cI 1))))) (bb (λ_=>some (.str ""))) dNx)
  (al (aY 5 (dR none 2 "here"))
  (al (jE 2 "here" (ai (d1 aK (aP none 2 "kinds"))))
  (al (bC 6 (ax (br C) (aH (ai (getV 0)) (aD 1 (aD 2 (aH (ai (getV 5)) (aH (ai (dR none 2 "here")) (aH (ai (getV 4)) ba))))))))
  (al (bC 6 (x2 af (ai (getV 6)) (ax (a_ C) (aH (ai (getV 0)) (aD 1 (aD 2 ba))))))
  (al (dIf (asB (d2 gtI (ag 3) (cI 4))) (al (cm none 2 "boughs" (getV 5))
  (aY 6 (d2 af (λ_=>some (.str "(")) (ag 6)))) dNx)
  (bb (getV 6))))))))))) (spF ns E t1 (bT L p s) t2 i room none none)=some (.rt (.v (.str (sT w2))) (some (SC ns)::sO A' t1::sO (bT L' p s) t2::σ')):=by
  have c0:∀t1 t2:Option Addr,(fD (asB (d2 eqD (ar 3) (cI 0))) (asB (d2 gtI (d1 aK (aP none 2 "boughs")) (cI 0)))) (spF ns E t1 (bT L p s) t2 i room none none)=some (decide (i=0)&&decide ((0:Int)<(L.G.length:Int))):=λt1 t2=>zq (eqN rfl) (by
   rw[bw,aq];unfold bT lst;rw[Gz,Yc];rfl)
  by_cases q0:(decide (i=0)&&decide ((0:Int)<(L.G.length:Int)))=true
  ·-- a bough ends
   have q1:=q0;rw[Yn,YF,YF]at q1;obtain⟨G1,g,hG⟩:∃G1 g,L.G=G1++[g]:=by refine⟨L.G.dropLast,L.G.getLast (λz=>by rw[z]at q1;simp at q1),?_⟩;rw[Xl]
   have hg:=lg g (by rw[hG];simp);refine⟨E,[41],{L with G:=G1,h:=g},k+1,Y.mono (by omega),by simp,⟨⟨l.kw,l.k7,l.o7,l.le,l.on,l.ou,l.op,l.un,l.u9,l.ul⟩,ln,lt,hg,λx hx=>lg x (by rw[hG];exact Yj.mpr (.inl hx)),?_,λc hc=>?_,{R with G:=G1},⟨j.k,j.t,j.b,j.o,j.c,j.n⟩,rfl,?_⟩,by omega,λt1 t2=>⟨[sI i,sI room,none,none],?_⟩⟩
   ·rw[hG,Yb]at lgl;show G1.length<=L.K.length;omega
   ·rcases Yj.mp hc with hc|hc
    ·exact la c hc
    ·rw[Yo.mp hc];decide
   ·exact S.go (Ak (by rw[M];exact hG))
   ·rw[fH];rw[iG (c0 t1 t2),Yh q0,G_];unfold bT lst;rw[hG,show(G1++[g]).map D.int=G1.map D.int++[D.int g]from YB];rw[aj (ρ':=spF ns E t1 (stO (L.K.map .str) (L.T.map dT4) (L.O.map dOp) (G1.map .int) (dUs L.U) (.int g) p s) t2 i room none none) (qZ (f:=nR none 2 "boughs") Hr)];rfl
  rw[Vj]at q0;have n0:∀(t1 t2:Option Addr) (g K:Dw),al (dIf (fD (asB (d2 eqD (ar 3) (cI 0))) (asB (d2 gtI (d1 aK (aP none 2 "boughs")) (cI 0)))) g dNx) K (spF ns E t1 (bT L p s) t2 i room none none)=K (spF ns E t1 (bT L p s) t2 i room none none):=λt1 t2 g K=>aj (by rw[iG (c0 t1 t2),q0];rfl)
  have ck:∀t1 t2:Option Addr,asB (d2 gtI (d1 aK (aP none 2 "kinds")) (cI 6)) (spF ns E t1 (bT L p s) t2 i room none none)=some (decide ((6:Int)<(L.K.length:Int))):=λt1 t2=>by
   rw[bw,aq];unfold bT lst;rw[Az,Yc];rfl
  have H:Inv C L (w++[]) k:=by rw[Yl];exact⟨l,ln,lt,lh,lg,lgl,la,R,j,M,S⟩
  by_cases q6:(6:Int)<(L.K.length:Int)
  ·refine⟨E,[],L,k,Y.mono (by omega),by simp,H,by omega,λt1 t2=>⟨[sI i,sI room,none,none],?_⟩⟩;rw[n0,fH];rw[iG (ck t1 t2),Yk q6,show("":Str)=sT []by kernel_rfl];rfl
  have n6:∀(t1 t2:Option Addr) (g K:Dw),al (dIf (asB (d2 gtI (d1 aK (aP none 2 "kinds")) (cI 6))) g dNx) K (spF ns E t1 (bT L p s) t2 i room none none)=K (spF ns E t1 (bT L p s) t2 i room none none):=λt1 t2 g K=>aj (by rw[iG (ck t1 t2),Yi q6];rfl)
  have h6:L.K.length<=6:=by omega
  have c1:∀t1 t2:Option Addr,(fD (asB (d2 eqD (ar 3) (cI 1))) (asB (d2 eqD (d1 aK (aP none 2 "boughs")) (cI 0)))) (spF ns E t1 (bT L p s) t2 i room none none)=some (decide (i=1)&&decide ((L.G.length:Int)=0)):=λt1 t2=>zq (eqN rfl) (by
   rw[bw,aq];unfold bT lst;rw[Gz,Yc];show(match eqD (.int (L.G.length:Int)) (.int 0)with|some (.bl b)=>some b|_=>none:Option Bool)=_;rw[eY])
  by_cases q1:(decide (i=1)&&decide ((L.G.length:Int)=0))=true
  ·-- a new run
   have q2:=q1;rw[Yn,YF,YF]at q2;have hG:L.G=[]:=ZO.mp (by omega);obtain⟨Z,J,u,m,hA2,hO,y,B,N,Q,t2',P,pl2,hm⟩:=iy (C:=C) hl hs hp Y (by omega) (L:={L with h:=(L.K.length:Int)}) (R:=R) (X:=[]) ⟨l.kw,l.k7,l.o7,l.le,l.on,l.ou,l.op,l.un,l.u9,l.ul⟩ ⟨j.k,j.t,j.b,j.o,j.c,j.n⟩ h6 (λt ht=>vQ (lt t ht));have B:m.K.length=L.K.length+1:=B;have N:m.G=L.G:=N;have Q:m.h=(L.K.length:Int):=Q;have hk:R.K.length=L.K.length:=by rw[j.k]
   refine⟨Z,46::plT J u,m,k+1,hA2.mono (by omega),by rw[Yg];omega,⟨y,by omega,t2',by rw[Q,B];omega,(λx hx=>by rw[N,hG]at hx;exact(nomatch hx)),by rw[N,hG];exact YQ _,λc hc=>?_,plS R J u [] R.G,P R.G,by rw[N];exact M,?_⟩,by omega,λt1 t2=>⟨[sI i,sI room,none,none],?_⟩⟩
   ·rcases Yj.mp hc with hc|hc
    ·exact la c hc
    ·rcases Yw.mp hc with rfl|hc
     ·decide
     ·exact rM hO.p.kd c hc
   ·rw[Q,<-hk];exact S.go (zl hO (by rw[M];exact hG))
   ·rw[n0,n6,fH];rw[iG (c1 t1 t2),Yh q1,Gf];rw[aj (ρ':=spF ns E t1 (bT {L with h:=(L.K.length:Int)} p s) t2 i room none none) (by
     refine(qZ (f:=ai (d1 aK (aP none 2 "kinds"))) (K:=L.K.map .str) (T:=L.T.map dT4) (O:=L.O.map dOp) (G:=L.G.map .int) (U:=dUs L.U) (h:=.int L.h) (bE Az)).trans ?_;rw[Yc];rfl)]
    have hx:=gv (f:=af) (bE (f:=λ_=>some (D.str (sT [46]))) rfl) (xq (C:=C) (t1:=t1) (t2:=t2) (σ:=[sI i,sI room,none,none]) ⟨_,rfl⟩ hm) (cW (a:=[46]) (by simp;omega));exact BC hx
  rw[Vj]at q1;have n1:∀(t1 t2:Option Addr) (g K:Dw),al (dIf (fD (asB (d2 eqD (ar 3) (cI 1))) (asB (d2 eqD (d1 aK (aP none 2 "boughs")) (cI 0)))) g dNx) K (spF ns E t1 (bT L p s) t2 i room none none)=K (spF ns E t1 (bT L p s) t2 i room none none):=λt1 t2 g K=>aj (by rw[iG (c1 t1 t2),q1];rfl)
  have c3:∀t1 t2:Option Addr,(orT (asB (d2 eqD (ar 3) (cI 0))) (orT (asB (d2 eqD (ar 3) (cI 1))) (asB (d2 ltd (ar 4) (cI 1))))) (spF ns E t1 (bT L p s) t2 i room none none)=some (decide (i=0)||(decide (i=1)||decide (room<1))):=λt1 t2=>Fi (eqN rfl) (Fi (eqN rfl) rfl)
  by_cases q3:(decide (i=0)||(decide (i=1)||decide (room<1)))=true
  ·refine⟨E,[],L,k,Y.mono (by omega),by simp,H,by omega,λt1 t2=>⟨[sI i,sI room,none,none],?_⟩⟩;rw[n0,n6,n1,fH];rw[iG (c3 t1 t2),q3,show("":Str)=sT []by kernel_rfl];rfl
  -- marks and a place
  have q4:=q3;rw[Vj,Bool.or_eq_false_iff,Bool.or_eq_false_iff,Zi,Zi,Zi]at q4;rw[Vj]at q3;have n3:∀(t1 t2:Option Addr) (g K:Dw),al (dIf (orT (asB (d2 eqD (ar 3) (cI 0))) (orT (asB (d2 eqD (ar 3) (cI 1))) (asB (d2 ltd (ar 4) (cI 1))))) g dNx) K (spF ns E t1 (bT L p s) t2 i room none none)=K (spF ns E t1 (bT L p s) t2 i room none none):=λt1 t2 g K=>aj (by rw[iG (c3 t1 t2),q3];rfl)
  obtain⟨Am,I,hAm,m1,m2,m3,m4,hmk⟩:=qj (C:=C) (K:=L.K.map .str) (T:=L.T.map dT4) (O:=L.O.map dOp) (G:=L.G.map .int) (U:=dUs L.U) (h:=.int (L.K.length:Int)) (p:=p) (one:=L.h) (oth:=(L.K.length:Int)) hl hs Y (by omega) (by rw[Yc];omega) (room:=room) (by omega)
  let X:=I.map (bS L.h (L.K.length:Int))
  have hX:X.length=I.length:=Yc ..
  let L1:LS:={L with T:=L.T++X,h:=(L.K.length:Int)}
  have hL1:LOk L1:=⟨l.kw,l.k7,l.o7,by show(L.T++X).length+L.O.length<=12;rw[Yb];omega,l.on,l.ou,l.op,l.un,l.u9,by have:=l.ul;show L.U.length<=(L.T++X).length+L.O.length;rw[Yb];omega⟩
  have hRel1:Rel L1 R X:=⟨j.k,by have:=j.t;rw[Yl]at this;exact Xh X this,j.b,j.o,j.c,j.n⟩
  obtain⟨Z,J,u,m,hA2,hO,y,B,N,Q,t2',P,pl2,hm⟩:=iy (C:=C) hl hs hp hAm (by omega) (L:=L1) (R:=R) (X:=X) hL1 hRel1 h6 (λt ht=>by
   rcases Yj.mp ht with ht|ht
   ·exact vQ (lt t ht)
   ·obtain⟨q,hq,rfl⟩:=Yt.mp ht;exact wq ⟨lh.1,by show L.h<(L.K.length:Int)+1;omega⟩ ⟨by show(0:Int)<=(L.K.length:Int);omega,by show(L.K.length:Int)<(L.K.length:Int)+1;omega⟩ (by omega) (m1 q hq))
  have B:m.K.length=L.K.length+1:=B;have N:m.G=L.G:=N;have Q:m.h=(L.K.length:Int):=Q;have hk:R.K.length=L.K.length:=by rw[j.k]
  have mtl:=mS m1;have fr:∀t1 t2:Option Addr,∀Kk:DF->Option RES,(al (aY 5 (dR none 2 "here"))
  (al (jE 2 "here" (ai (d1 aK (aP none 2 "kinds"))))
  (al (bC 6 (ax (br C) (aH (ai (getV 0)) (aD 1 (aD 2 (aH (ai (getV 5)) (aH (ai (dR none 2 "here")) (aH (ai (getV 4)) ba))))))))
  (al (bC 6 (x2 af (ai (getV 6)) (ax (a_ C) (aH (ai (getV 0)) (aD 1 (aD 2 ba)))))) Kk)))) (spF ns E t1 (bT L p s) t2 i room none none)=Kk (spF ns Z t1 (bT m p s) t2 i room (sI (L.h)) (sS (mtx I++plT J u))):=λt1 t2 Kk=>by
   unfold bT lst;rw[aj (ρ':=spF ns E t1 (stO (L.K.map .str) (L.T.map dT4) (L.O.map dOp) (L.G.map .int) (dUs L.U) (.int L.h) p s) t2 i room (sI (L.h)) none) (by rw[bi,wf];rfl)];rw[aj (ρ':=spF ns E t1 (stO (L.K.map .str) (L.T.map dT4) (L.O.map dOp) (L.G.map .int) (dUs L.U) (.int (L.K.length:Int)) p s) t2 i room (sI (L.h)) none) (by
     refine(qZ (f:=ai (d1 aK (aP none 2 "kinds"))) (bE Az)).trans ?_;rw[Yc])]
   rw[aj (cx (w6 (C:=C) (d1:=.int L.h) (d2:=.int (L.K.length:Int)) (d3:=.int room) ⟨_,rfl⟩ rfl wf rfl hmk))];have hx:=gv (f:=af) (bE (f:=getV 6) (d:=.str (sT (mtx I))) (ρ:=spF ns Am t1 (bT L1 p s) t2 i room (sI (L.h)) (sS (mtx I))) rfl) (xq (C:=C) ⟨_,rfl⟩ hm) (cW (by omega));have hst:stO (L.K.map .str) (L.T.map dT4++X.map dT4) (L.O.map dOp) (L.G.map .int) (dUs L.U) (.int (L.K.length:Int)) p s=bT L1 p s:=by show _=stO (L.K.map .str) ((L.T++X).map dT4) _ _ _ _ _ _;rw[YB]
   show al _ Kk (spF ns Am t1 (stO (L.K.map .str) (L.T.map dT4++X.map dT4) (L.O.map dOp) (L.G.map .int) (dUs L.U) (.int (L.K.length:Int)) p s) t2 i room (sI (L.h)) (sS (mtx I)))=_;rw[hst,aj (cx hx)];rfl
  have ascw:∀c∈mtx I++plT J u,c<128:=λc hc=>by
   rcases Yj.mp hc with hc|hc
   ·exact xj c hc
   ·exact rM hO.p.kd c hc
  by_cases q5:(4:Int)<i
  ·refine⟨Z,40::(mtx I++plT J u),{m with G:=m.G++[L.h]},k+1,hA2.mono (by omega),by rw[Yg,Yb];omega,⟨⟨y.kw,y.k7,y.o7,y.le,y.on,y.ou,y.op,y.un,y.u9,y.ul⟩,by show 1<=m.K.length;omega,t2',by show 0<=m.h/\m.h<(m.K.length:Int);rw[Q,B];omega,λx hx=>?_,?_,λc hc=>?_,plS R J u X (R.G++[L.h]),?_,by show R.G++[L.h]=m.G++[L.h];rw[N,M],?_⟩,by omega,λt1 t2=>⟨[sI i,sI room,sI (L.h),sS (40::(mtx I++plT J u))],?_⟩⟩
   ·show 0<=x/\x<(m.K.length:Int);rw[B];rcases Yj.mp hx with hx|hx
    ·rw[N]at hx;have:=lg x hx;omega
    ·rw[Yo.mp hx];omega
   ·show(m.G++[L.h]).length<=m.K.length;rw[Yb,N,B];show L.G.length+1<=_;omega
   ·rcases Yj.mp hc with hc|hc
    ·exact la c hc
    ·rcases Yw.mp hc with rfl|hc
     ·decide
     ·exact ascw c hc
   ·have:=P (R.G++[L.h]);exact⟨this.k,this.t,this.b,this.o,this.c,this.n⟩
   ·show Reads C _ m.h _ _;rw[Q,<-hk];have:=zM (C:=C) (h:=L.h) hO (by rw[M];omega) m1 m2 (by omega);rw[hk]at this ⊢;exact S.go this
   ·rw[n0,n6,n1,n3,fr];rw[aj (ρ':=spF ns Z t1 (bT {m with G:=m.G++[L.h]} p s) t2 i room (sI (L.h)) (sS (40::(mtx I++plT J u)))) (by
     rw[iG (show asB (d2 gtI (ag 3) (cI 4)) (spF ns Z t1 (bT m p s) t2 i room (sI (L.h)) (sS (mtx I++plT J u)))=some (decide ((4:Int)<i))from rfl),Yk q5,Yh rfl];rw[aj (show cm none 2 "boughs" (getV 5) (spF ns Z t1 (bT m p s) t2 i room (sI (L.h)) (sS (mtx I++plT J u)))=some (.nx (spF ns Z t1 (stO (m.K.map .str) (m.T.map dT4) (m.O.map dOp) (m.G.map .int++[.int L.h]) (dUs m.U) (.int m.h) p s) t2 i room (sI (L.h)) (sS (mtx I++plT J u))))from DG rfl (by rw[Yc,N];omega))];rw[bi,aq,IA];show Option.map _ (af (.str (sT [40])) (.str (sT (mtx I++plT J u))))=_;rw[cW (by rw[Yb];simp;omega)];show some (RES.nx _)=some (RES.nx (spF ns Z t1 (stO (m.K.map .str) (m.T.map dT4) (m.O.map dOp) ((m.G++[L.h]).map .int) (dUs m.U) (.int m.h) p s) t2 i room _ _));rw[YB (l₁:=m.G)];rfl)]
    rfl
  ·refine⟨Z,mtx I++plT J u,m,k+1,hA2.mono (by omega),by rw[Yb];omega,⟨y,by omega,t2',by rw[Q,B];omega,λx hx=>?_,by rw[N,B];omega,λc hc=>?_,plS R J u X R.G,P R.G,by show R.G=m.G;rw[N,M],?_⟩,by omega,λt1 t2=>⟨[sI i,sI room,sI (L.h),sS (mtx I++plT J u)],?_⟩⟩
   ·rw[N]at hx;have:=lg x hx;rw[B];omega
   ·rcases Yj.mp hc with hc|hc
    ·exact la c hc
    ·exact ascw c hc
   ·rw[Q];have:=Eb (C:=C) (h:=L.h) hO m1 m2 (by omega);rw[hk]at this;exact S.go this
   ·rw[n0,n6,n1,n3,fr];rw[aj (by
     rw[iG (show asB (d2 gtI (ag 3) (cI 4)) (spF ns Z t1 (bT m p s) t2 i room (sI (L.h)) (sS (mtx I++plT J u)))=some (decide ((4:Int)<i))from rfl),Yi q5];rfl)]
    rfl
 obtain⟨A',w2,L',k',h1,Q,h3,h4,h5⟩:=key;refine⟨A',w2,L',k',h1,Q,h3,h4,gk rfl λas=>?_⟩;obtain⟨σ',e⟩:=h5 (some (as 1)) (some (as 2));show(j0 C [some (SC ns),sO A (some (as 1)),sO (bT L p s) (some (as 2)),none,none,none,none]).bind _=_;unfold j0;rw[aj (cx (nZ (by decide) hv)),hway];rw[aj (ρ':=spF ns E (some (as 1)) (bT L p s) (some (as 2)) i room none none) (by
  show aY 4 _ [some (SC ns),sO E (some (as 1)),sO (stO (L.K.map .str) (L.T.map dT4) (L.O.map dOp) (L.G.map .int) (dUs L.U) (.int L.h) p s) (some (as 2)),sI i,none,none,none]=_;rw[bi,aq,aq,IF,IU,Yc,Yc];rfl)]
 rw[e];exact HB
end
def ltr(l:List Nat):Prop:=∀c∈l,97<=c/\c<=122
def wN(h1:1<=l.length)(a:l.length<=3)(h:ltr l):okW (sT l):=⟨by rw[show(sT l).cps.size=l.length from Yu];exact h1,by rw[show(sT l).cps.size=l.length from Yu];exact a,h⟩
theorem GH{cs:List Nat}(h1:1<=cs.length)(f:cs.length<=3)(h:ltr cs)(hz:0<=z/\z<(cs.length:Int)):∃x y:List Nat,Txt.slice (sT cs) none (some z)=sT x/\Txt.slice (sT cs) (some (z+1)) none=sT y/\x.length+1+y.length=cs.length/\ltr x/\ltr y/\∃c,ixD (.str (sT cs)) (.int z)=some (.str (sT [c])):=by
 match cs,h1,f,h,hz with
 |[a],_,_,h,hz=>
  have:z=0:=by simp at hz;omega
  subst this;exact⟨[],[],by kernel_rfl,by kernel_rfl,rfl,(λc e=>nomatch e),(λc e=>nomatch e),a,rfl⟩
 |[a,b],_,_,h,hz=>
  have:z=0\/z=1:=by simp at hz;omega
  rcases this with rfl|rfl
  ·exact⟨[],[b],by kernel_rfl,by kernel_rfl,rfl,(λc e=>nomatch e),λc e=>h c (Ye _ e),a,rfl⟩
  ·exact⟨[a],[],by kernel_rfl,by kernel_rfl,rfl,λc e=>h c (by rw[Yo.mp e];exact Yf),(λc e=>nomatch e),b,rfl⟩
 |[a,b,c],_,_,h,hz=>
  have:z=0\/z=1\/z=2:=by simp at hz;omega
  rcases this with rfl|rfl|rfl
  ·exact⟨[],[b,c],by kernel_rfl,by kernel_rfl,rfl,(λc e=>nomatch e),λx hx=>h x (Ye _ hx),a,rfl⟩
  ·exact⟨[a],[c],by kernel_rfl,by kernel_rfl,rfl,λx hx=>h x (by rw[Yo.mp hx];exact Yf),λx hx=>h x (by rw[Yo.mp hx];simp),b,rfl⟩
  ·exact⟨[a,b],[],by kernel_rfl,by kernel_rfl,rfl,λx hx=>h x (by rcases Yw.mp hx with rfl|hx;simp;rw[Yo.mp hx];simp),(λc e=>nomatch e),c,rfl⟩
def CY{cs:List Nat}(h1:1<=cs.length)(e:cs.length<=3)(h:ltr cs):∃x:List Nat,Txt.slice (sT cs) none (some 2)=sT x/\1<=x.length/\x.length<=3/\ltr x:=by
 match cs,h1,e,h with
 |[a],_,_,h=>exact⟨[a],by kernel_rfl,by simp,by simp,h⟩
 |[a,b],_,_,h=>exact⟨[a,b],by kernel_rfl,by simp,by simp,h⟩
 |[a,b,c],_,_,h=>exact⟨[a,b],by kernel_rfl,by simp,by simp,λx hx=>h x (by rcases Yw.mp hx with rfl|hx;simp;rw[Yo.mp hx];simp)⟩
theorem FK(cs:List Nat)(h:cs.length<=100):n9 (.str (sT [])) (.lst (cs.map λc=>.str (sT [c])))=some (.str (sT cs)):=by
 have f:(cs.map λc=>D.str (sT [c])).map txt=(cs.map λc=>[c]).map sT:=by rw[Zn,Zn];rfl
 show(if iV (sT []) _=true then some (D.str (Txt.join (sT []) ((cs.map λc=>D.str (sT [c])).map txt)))else none)=_;rw[Yh,f]
 ·show some (D.str (Builtin.Str.glued (sT []) _))=_;rw[StrLaws.glued_eq_join,vR];have:∀l:List Nat,(l.map λc=>[c]).flatten=l:=λl=>by induction l with|nil=>rfl|cons a l ih=>rw[YD,List.flatten_cons,ih];rfl
  rw[this]
 ·unfold iV;rw[Yn,YE,YF,f];refine⟨λd g=>by obtain⟨e,_,rfl⟩:=Yt.mp g;rfl,?_⟩;have:=rm (L:=((cs.map λc=>[c]).map sT).map (·.length)) (c:=1) λx b=>by
   rw[Zn,Zn]at b;obtain⟨e,i,rfl⟩:=Yt.mp b;exact Yy _
  rw[Yc,Yc,Yc]at this;rw[Yc,Yc,show(sT []).length=0 from rfl,Nat.mul_zero];omega
theorem Fn{g:Dd}{x:List Nat}(a:f ρ=some (.str (sT l)))(b:l.length<=100)(h:g ρ=some (.int z))(hx:Txt.slice (sT l) none (some z)=sT x):slS f bNo (bI g) ρ=some (.str (sT x)):=by rw[lQ,a];show(if(sT l).length<=16777216 then _ else none)=_;rw[bW,Yh (by omega),qo,h,<-hx];rfl
def II{g:Dd}{x:List Nat}(a:f ρ=some (.str (sT l)))(b:l.length<=100)(h:g ρ=some (.int z))(hx:Txt.slice (sT l) (some z) none=sT x):slS f (bI g) bNo ρ=some (.str (sT x)):=by rw[lQ,a];show(if(sT l).length<=16777216 then _ else none)=_;rw[bW,Yh (by omega),qo,h,<-hx];rfl
theorem C2(C:Addr)(ns:List Int)(hl:ns.length<=100){A:OD}{b:Nat}(hA:At A b)(hb:b<=1000000000):∃(A':OD) (p:D),At A' (b+1)/\okPl p/\iX C [SC ns,.own A none]=some ([SC ns,.own A' none],p):=by
 obtain⟨v,j,X,v0,v1,hv⟩:=d7 C ns hl hA hb;have f3:=bM v 3 (by decide);have f7:=bM v 7 (by decide);have f11:=bM v 11 (by decide);have f13:=bM v 13 (by decide);have Y:=bM v 17 (by decide);have m:∀y:Int,aJ (.int y) (.int 26)=some (.int (y%26)):=λy=>aX y 26 (by decide)
 have R:1<=1+v%3/\1+v%3<=3:=by omega
 generalize hZ:1+v%3=Z at R;have u:∃a:List Nat,(a.length:Int)=Z/\ltr a/\gf (setV 0) iM (d2 ixD (ag 1) (d2 aJ (d2 af (d2 aR (ag 2) (cI 3)) (d2 fC (ag 0) (d2 aR (ag 2) (cI 7)))) (cI 26))) [none,sV (.str abc),sI v] ((gD Z).map .int)=some (a.map λc=>.str (sT [c])):=by
  obtain⟨xs,h1,h2,h3⟩:=p_ (st:=setV 0) (c:=iM) (e:=d2 ixD (ag 1) (d2 aJ (d2 af (d2 aR (ag 2) (cI 3)) (d2 fC (ag 0) (d2 aR (ag 2) (cI 7)))) (cI 26))) (ρ:=[none,sV (.str abc),sI v]) (λc:Nat=>D.str (sT [c])) (λc=>97<=c/\c<=122) ((gD Z).map .int) (λd hd=>by
   obtain⟨i,hi,rfl⟩:=Yt.mp hd;have hi2:0<=i/\i<1000:=by unfold gD at hi;obtain⟨n,hn,rfl⟩:=Yt.mp hi;rw[Zq]at hn;omega
   obtain⟨c,hc,c1,c2⟩:=vS (v/3+i*(v/7));refine⟨[sI i,sV (.str abc),sI v],rfl,rfl,c,?_,c1,c2⟩;have hm:=gN i (v/7) (.inl (by omega));simp only[aq,wL,Zy,Xd,Ya,f3,f7,hm,t5,m];exact hc)
  refine⟨xs,?_,h3,h1⟩;rw[h2,Yc,fm];omega
 obtain⟨a,csl,cl,N⟩:=u;have B:1<=a.length:=by omega
 have w:a.length<=3:=by omega
 have M:0<=v/11%Z/\v/11%Z<(a.length:Int):=⟨Zg _ (by omega),by rw[csl];exact Za _ (by omega)⟩
 generalize hS:v/11%Z=K at M;obtain⟨x,y,hx,hy,hxy,lx,ly,c0,U⟩:=GH B w cl M;obtain⟨J,Q,P,O,lz⟩:=CY B w cl
 let h:Int:=xv abc (sT [c0])
 obtain⟨o,ho,o1,o2⟩:=vS (h+1+v/13%25);obtain⟨q,hq,q1,q2⟩:=vS (v/17);have s:∃lst:List Nat,okW (sT lst)/\∀(t:Option Addr) (I H E:Option DV),(dIf (asB (d2 ltd (ar 4) (cI 3))) (aY 9 (d2 af (ag 5) (d2 ixD (ag 2) (d2 aJ (d2 aR (ag 3) (cI 17)) (cI 26))))) dNx) [some (SC ns),sO j t,sV (.str abc),sI v,sI Z,sS a,I,H,E,sS J]=some (.nx [some (SC ns),sO j t,sV (.str abc),sI v,sI Z,sS a,I,H,E,sS lst]):=by
  by_cases L:Z<3
  ·refine⟨a++[q],wN (by simp) (by rw[Yb];show a.length+1<=3;omega) λc hc=>?_,λt I H E=>?_⟩
   ·rcases Yj.mp hc with hc|hc
    ·exact cl c hc
    ·rw[Yo.mp hc];exact⟨q1,q2⟩
   ·rw[iG (show asB (d2 ltd (ar 4) (cI 3)) [some (SC ns),sO j t,sV (.str abc),sI v,sI Z,sS a,I,H,E,sS J]=some (decide (Z<3))from rfl),Yk L,Yh rfl];rw[bi,aq,aq,aq,aq];show Option.map _ ((((aR (.int v) (.int 17)).bind λx=>aJ x (.int 26)).bind λy=>ixD (.str abc) y).bind λy=>af (.str (sT a)) y)=_;rw[Y,Ya,m,Ya,hq,Ya,show(⟨#[q]⟩:Str)=sT [q]from rfl,cW (by simp;omega)];rfl
  ·refine⟨J,wN P O lz,λt I H E=>?_⟩;rw[iG (show asB (d2 ltd (ar 4) (cI 3)) [some (SC ns),sO j t,sV (.str abc),sI v,sI Z,sS a,I,H,E,sS J]=some (decide (Z<3))from rfl),Yi L];rfl
 obtain⟨lst,S,T⟩:=s;refine⟨j,.lst [.str (sT a),.str (sT (x++[o]++y)),.str (sT lst)],X,⟨a,x++[o]++y,lst,wN B w cl,wN (by simp;omega) (by simp;omega) λc hc=>?_,S,rfl⟩,gk rfl λl=>?_⟩
 ·rcases Yj.mp hc with hc|hc
  ·rcases Yj.mp hc with hc|hc
   ·exact lx c hc
   ·rw[Yo.mp hc];exact⟨o1,o2⟩
  ·exact ly c hc
 ·show(jV C [some (SC ns),sO A (some (l 1)),none,none,none,none,none,none,none,none]).bind _=_;unfold jV;rw[show("":Str)=sT []by kernel_rfl];rw[aj (ρ':=[some (SC ns),sO A (some (l 1)),sV (.str abc),none,none,none,none,none,none,none]) rfl];rw[aj (cx (gm ⟨_,rfl⟩ hv))];rw[aj (ρ':=[some (SC ns),sO j (some (l 1)),sV (.str abc),sI v,sI Z,none,none,none,none,none]) (by
   rw[bi,aq,aq];show Option.map _ ((aJ (.int v) (.int 3)).bind λy=>af (.int 1) y)=_;rw[aX v 3 (by decide),<-hZ];rfl)]
  rw[aj (ρ':=[some (SC ns),sO j (some (l 1)),sV (.str abc),sI v,sI Z,sS a,none,none,none,none]) (by
   rw[bi,aq,zK,vH,gL,rh (n:=Z) rfl ⟨by omega,by omega⟩];show Option.map _ ((Option.map _ (Option.map _ (if((gD Z).map D.int).length<=16777216 then gf _ _ _ [none,sV (.str abc),sI v] ((gD Z).map D.int)else none))).bind _)=_;rw[Yh (by rw[Yc,fm];omega),N];show Option.map _ (n9 (.str (sT [])) (.lst (a.map λc=>.str (sT [c]))))=_;rw[FK a (by omega)];rfl)]
  rw[aj (ρ':=[some (SC ns),sO j (some (l 1)),sV (.str abc),sI v,sI Z,sS a,sI K,none,none,none]) (by
   rw[bi,aq,aq];show Option.map _ ((aR (.int v) (.int 11)).bind λx=>aJ x (.int Z))=_;rw[f11,Ya,aX _ Z (by omega),hS];rfl)]
  rw[aj (ρ':=[some (SC ns),sO j (some (l 1)),sV (.str abc),sI v,sI Z,sS a,sI K,sI (h+1+v/13%25),none,none]) (by
   rw[bi,aq,aq,aq,aq,aq,aq];show Option.map _ ((((ixD (.str (sT a)) (.int K)).bind λy=>wa (.str abc) y).bind λx=>af x (.int 1)).bind λx=>((aR (.int v) (.int 13)).bind λx=>aJ x (.int 25)).bind λy=>af x y)=_;rw[U,f13,Ya,Ya,aX _ 25 (by decide)];rfl)]
  rw[aj (ρ':=[some (SC ns),sO j (some (l 1)),sV (.str abc),sI v,sI Z,sS a,sI K,sI (h+1+v/13%25),sS (x++[o]++y),none]) (by
   rw[bi,aq,aq,aq,aq,Fn (f:=ag 5) (g:=getV 6) rfl (by omega) rfl hx,II (f:=ag 5) rfl (by omega) rfl hy];show Option.map _ ((((aJ (.int (h+1+v/13%25)) (.int 26)).bind λy=>ixD (.str abc) y).bind λy=>af (.str (sT x)) y).bind λz=>af z (.str (sT y)))=_;rw[m,Ya,ho,Ya,show(⟨#[o]⟩:Str)=sT [o]from rfl,cW (by simp;omega),Ya,cW (by simp;omega)];rfl)]
  rw[aj (ρ':=[some (SC ns),sO j (some (l 1)),sV (.str abc),sI v,sI Z,sS a,sI K,sI (h+1+v/13%25),sS (x++[o]++y),sS J]) (by
   rw[bi,Fn (f:=ag 5) rfl (by omega) rfl Q];rfl)]
  rw[aj (T _ _ _ _)];exact zD
def pR(C:Addr)(ns:List Int):∃x:Int,di C [SC ns]=sO (.lst [.int 0,.int x]) none:=by
 have go:∀(l:List Int) (n:Int) (y:Option DV),∃(x:Int) (a:Option DV),cN (setV 2) (aY 1 (d2 aJ (d2 af (d2 af (d2 fC (ag 1) (cI 69621)) (d2 aJ (ag 2) (cI 2147483647))) (cI 11)) (cI 2147483647))) (l.map .int) [some (SC ns),sI n,y]=some (.nx [some (SC ns),sI x,a]):=by
  intro l;induction l with
  |nil=>exact λn y=>⟨n,y,rfl⟩
  |cons c l ih=>
   intro n y;obtain⟨x,a,e⟩:=ih ((n*69621+c%2147483647+11)%2147483647) (sI c);refine⟨x,a,?_⟩;rw[YD];unfold cN;have h:aY 1 (d2 aJ (d2 af (d2 af (d2 fC (ag 1) (cI 69621)) (d2 aJ (ag 2) (cI 2147483647))) (cI 11)) (cI 2147483647)) [some (SC ns),sI n,sI c]=some (.nx [some (SC ns),sI ((n*69621+c%2147483647+11)%2147483647),sI c]):=by
    have f:=gN n 69621 (.inr (by decide));have b:∀z:Int,aJ (.int z) (.int 2147483647)=some (.int (z%2147483647)):=λz=>aX z _ (by decide)
    simp[f,b]
   show(match aY 1 _ [some (SC ns),sI n,sI c]with|some (.nx ρ)=>cN _ _ (l.map .int) ρ|some (.ct ρ)=>cN _ _ (l.map .int) ρ|some (.bk ρ)=>some (.nx ρ)|r=>r)=_;rw[h];exact e
 obtain⟨x,y,e⟩:=go ns 7 none;refine⟨x,?_⟩;show c9 (iQ C [some (SC ns),none,none])=_;unfold iQ;rw[aj (ρ':=[some (SC ns),sI 7,none]) rfl,aj (ρ':=[some (SC ns),sI x,y]) (by rw[gu];exact e)];rfl
def nV{C:Addr}{m:MW}{A:OD}{d:D}{t:Option Addr}{σ:DF}(b:∃x,S=.v x)(h:m [S,.own A none]=some ([S,.own A' none],d)):ax m (aH (ai (getV 0)) (aD 1 ba)) (some S::sO A t::σ)=some (d,some S::sO A' t::σ):=by obtain⟨x,rfl⟩:=b;unfold ax;show(if([1]:List Nat).Nodup then(some [DV.v x,.own A none]).bind (λa=>(m a).bind _)else none)=_;rw[Yh (by decide),Ya,h];rfl
def rj{m:MW}{A st:OD}{d:D}{σ:DF}(b:∃x,S=.v x)(h:m [S,.own A none,.own st none]=some ([S,.own A' none,.own st' none],d)):ax m (aH (ai (getV 0)) (aD 1 (aD 2 ba))) (some S::sO A t1::sO st t2::σ)=some (d,some S::sO A' t1::sO st' t2::σ):=by obtain⟨x,rfl⟩:=b;unfold ax;show(if([1,2]:List Nat).Nodup then(some [DV.v x,.own A none,.own st none]).bind (λa=>(m a).bind _)else none)=_;rw[Yh (by decide),Ya,h];rfl
abbrev txF(ns:List Int)(A st:OD)(w:List Nat)(x:Option DV):DF:=[some (SC ns),sO A none,sO st none,sS w,x]
section
variable   {p s:D}
theorem yC(J:ns.length<=100)(E:okSm s)(H:okPl p):∀(is:List Int) (L:LS) (w:List Nat) (k:Nat) (A:OD) (b:Nat) (x:Option DV),Inv C L w k->At A b->b+300*is.length<=1000000000->w.length+4000*is.length<=10000000->∃(g:LS) (a:List Nat) (k':Nat) (A':OD) (h:Option DV),Inv C g a k'/\At A' (b+300*is.length)/\k'<=k+is.length/\a.length<=w.length+4000*is.length /\
  cN (setV 4) (bC 3 (x2 af (ai (getV 3)) (ax (gw C) (aH (ai (getV 0)) (aD 1 (aD 2 ba)))))) (is.map .int) (txF ns A (bT L p s) w x)=some (.nx (txF ns A' (bT g p s) a h)):=by
 intro is;induction is with
 |nil=>exact λL w k A b x l o _ _=>⟨L,w,k,A,x,l,o,by simp,by simp,rfl⟩
 |cons i is ih=>
  intro L w k A b x l o M B;rw[Yg]at M B;obtain⟨R,q,Q,u,m,z,j,K,I⟩:=Bk J E H l o (by omega);obtain⟨g,a,k',A',h,P,O,S,N,e⟩:=ih Q (w++q) u R (b+300) (sI i) j m (by omega) (by rw[Yb];omega);rw[Yb]at N;refine⟨g,a,k',A',h,P,O.mono (by rw[Yg];omega),by rw[Yg];omega,by rw[Yg];omega,?_⟩;rw[YD];unfold cN;have y:=gv (f:=af) (bE (f:=getV 3) (d:=.str (sT w)) (ρ:=txF ns A (bT L p s) w (sI i)) rfl) (rj ⟨_,rfl⟩ I) (cW (by omega));show(match bC 3 _ (txF ns A (bT L p s) w (sI i))with|some (.nx ρ)=>cN _ _ (is.map .int) ρ|some (.ct ρ)=>cN _ _ (is.map .int) ρ|some (.bk ρ)=>some (.nx ρ)|r=>r)=_;rw[cx y];exact e
theorem uN:∀(n:Nat) (R:RS) (h:Int) (w:List Nat) (k:Nat),R.G.length=n->Reads C w h R k->∃h':Int,Reads C (w++List.replicate n 41) h' {R with G:=[]} (k+n)
 |0,R,h,w,k,hn,hr=>by
  have:R.G=[]:=ZO.mp hn;refine⟨h,?_⟩;rw[Vr,Yl,<-this];exact hr
 |n+1,R,h,w,k,hn,hr=>by
  have a:R.G≠[]:=λz=>by rw[z]at hn;cases hn
  have e:R.G=R.G.dropLast++[R.G.getLast a]:=(Xl a).symm;have f:=hr.go (Ak e);obtain⟨h',b⟩:=uN n {R with G:=R.G.dropLast} _ _ _ (by show R.G.dropLast.length=n;rw[XB];omega) f;refine⟨h',?_⟩;rw[Yq]at b;rw[XJ,show k+(n+1)=k+1+n by omega];exact b
structure Inv2 (C:Addr) (L:LS) (w:List Nat) (k:Nat):Prop where
 l:LOk L
 n:1<=L.K.length
 t:∀t∈L.T,okT (L.K.length:Int) t
 a:∀c∈w,c<128
 r:∃R h,Rel L R []/\R.G=[]/\Reads C w h R k
theorem xL(hl:ns.length<=100)(hs:okSm s)(hp:okPl p)(x:Option DV):∀(m:Nat) (L:LS) (w:List Nat) (k:Nat) (A:OD) (b f:Nat),7<=L.K.length+m->m<f->Inv2 C L w k->At A b->b+200*m<=1000000000->w.length+4000*m<=15000000->∃(B:LS) (i:List Nat) (k':Nat) (A':OD),Inv2 C B i k'/\B.O=[]/\k'<=k+m/\i.length<=w.length+4000*m /\
  cD (asB (d2 gtI (d1 aK (aP none 2 "open")) (cI 0))) (bC 3 (x2 af (ai (d2 af (ag 3) (λ_=>some (.str (sT [46]))))) (ax (a_ C) (aH (ai (getV 0)) (aD 1 (aD 2 ba)))))) f (txF ns A (bT L p s) w x)=some (.nx (txF ns A' (bT B p s) i x)):=by
 have hc:∀(L:LS) (w:List Nat) (A:OD),asB (d2 gtI (d1 aK (aP none 2 "open")) (cI 0)) (txF ns A (bT L p s) w x)=some (decide ((0:Int)<(L.O.length:Int))):=λL w A=>by
  rw[bw,aq];unfold bT lst;rw[IU,Yc];rfl
 intro m;induction m with
 |zero=>
  intro L w k A b f hm hf a Z _ _;obtain⟨f,rfl⟩:∃n,f=n+1:=⟨f-1,by omega⟩
  have T:L.O=[]:=a.l.o7 (by have:=a.l.k7;omega);refine⟨L,w,k,A,a,T,by omega,by omega,gQ ((hc L w A).trans ?_)⟩;rw[T];rfl
 |succ m ih=>
  intro L w k A b f hm hf a Z hb hw;obtain⟨f,rfl⟩:∃n,f=n+1:=⟨f-1,by omega⟩
  by_cases E:L.O=[]
  ·refine⟨L,w,k,A,a,E,by omega,by omega,gQ ((hc L w A).trans ?_)⟩;rw[E];rfl
  ·have o:(0:Int)<(L.O.length:Int):=by have:=ZR.mpr E;omega
   have h6:L.K.length<=6:=by
    have:=a.l.k7;have T:L.K.length≠7:=λz=>E (a.l.o7 z)
    omega
   obtain⟨I,ln,lt,la,R,h,q,u,N⟩:=a;obtain⟨A2,J,g,L2,S,y,P,kl2,g2,h2,H,j,pl2,M⟩:=iy (C:=C) hl hs hp Z (by omega) (L:=L) (R:=R) (X:=[]) I q h6 (λt ht=>vQ (lt t ht));have Q:Inv2 C L2 (w++46::plT J g) (k+1):=⟨P,by omega,H,λc hc=>by
    rcases Yj.mp hc with hc|hc
    ·exact la c hc
    ·rcases Yw.mp hc with rfl|hc
     ·decide
     ·exact rM y.p.kd c hc,plS R J g [] R.G,_,j R.G,u,N.go (zl y u)⟩
   obtain⟨B,i,k',A',q1,q2,q3,q4,e⟩:=ih L2 (w++46::plT J g) (k+1) A2 (b+200) f (by omega) (by omega) Q S (by omega) (by rw[Yb,Yg];omega);rw[Yb,Yg]at q4;refine⟨B,i,k',A',q1,q2,by omega,by omega,?_⟩;have U:d2 af (ag 3) (λ_=>some (.str (sT [46]))) (txF ns A (bT L p s) w x)=some (.str (sT (w++[46]))):=by rw[aq];exact cW (by simp;omega)
   have Y:=gv (f:=af) (bE U) (rj (σ:=[sS w,x]) ⟨_,rfl⟩ M) (cW (by simp;omega));rw[Yq]at Y;rw[lr ((hc L w A).trans (by rw[Yk o])) (cx Y)];exact e
end
theorem HH(n:Nat):x_ (sT [41]) (n:Int)=sT (List.replicate n 41):=by
 unfold x_;by_cases b:(n:Int)<1
 ·have:n=0:=by omega
  subst this;rfl
 ·rw[Yp b];by_cases h:n=1
  ·subst h;rfl
  ·rw[Yp]
   ·have e:∀(m:Nat) (a:List Nat),(List.replicate m (#[41]:Array Nat)).foldl (·++·) a.toArray=(a++List.replicate m 41).toArray:=by
     intro m;induction m with
     |zero=>intro a;rw[Vr,Vr,Yl];rfl
     |succ m ih=>
      intro a;rw[XJ,List.foldl_cons,show a.toArray++#[41]=(a++[41]).toArray by simp,ih,Yq,XJ];rfl
    show Str.mk ((List.replicate ((n:Int)).toNat (#[41]:Array Nat)).foldl (·++·) #[])=_;rw[Int.toNat_natCast];have:=e n [];rw[Zx]at this;exact YH Str.mk this
   ·have:((n:Int) == 1)=false:=by rw[Zh];omega
    rw[this];exact λz=>nomatch z
theorem Ej(C:Addr)(ns:List Int)(hl:ns.length<=63):∃(L:LS) (w:List Nat) (k:Nat) (p s:D),Inv2 C L w k/\L.O=[]/\k<500/\w.length<=350000/\iB C [SC ns]=sV (.tup [.str (sT w),(bT L p s).d]):=by
 obtain⟨x,hb⟩:=pR C ns;have hA0:At (.lst [.int 0,.int x]) 0:=⟨0,x,rfl,by decide,by decide⟩
 obtain⟨A1,p,hA1,U,T⟩:=C2 C ns (by omega) hA0 (by decide);obtain⟨k0,A2,hA2,hk0,hg0⟩:=uK C ns (by omega) hA1 (by decide);obtain⟨k1,A3,hA3,Z,hg1⟩:=uK C ns (by omega) hA2 (by decide)
 let s:D:=.lst [.int (k0:Int),.int (k1:Int),.int 5]
 have S:okSm s:=⟨k0,k1,hk0,Z,rfl⟩
 let M:LS:=⟨[],[],[],[],[],0⟩
 have hL0:LOk M:=⟨(λ_ h=>nomatch h),by decide,λ_=>rfl,by decide,Vc,(λ_ h=>nomatch h),(λ_ h=>nomatch h),Vc,(λ_ h=>nomatch h),by decide⟩
 have hR0:Rel M S0 []:=⟨rfl,Ve _,Ve _,(λ_ h=>nomatch h),(λ_ h=>nomatch h),rfl⟩
 obtain⟨A4,H,g,E,hA4,z,hL1,j,B,J,P,q,pl1,Y⟩:=iy (C:=C) (ns:=ns) (p:=p) (by omega) S U hA3 (by decide) (L:=M) (R:=S0) (X:=[]) hL0 hR0 (by decide) (λ_ h=>nomatch h);have j:E.K.length=1:=j;have B:E.G=[]:=B;have J:E.h=0:=J;have hI1:Inv C E (plT H g) 0:=⟨hL1,by omega,P,by rw[J,j];decide,(λy hy=>by rw[B]at hy;exact(nomatch hy)),by rw[B];exact YQ _,rM z.p.kd,plS S0 H g [] [],q [],by rw[B];rfl,by rw[J];exact D2 z.p⟩
 obtain⟨f,i,I,A5,N,hI2,A,m,l,e2⟩:=yC (C:=C) (ns:=ns) (by omega) S U (ns++[1,1,1]) E (plT H g) 0 A4 _ none hI1 hA4 (by rw[Yb];show _+300*(ns.length+3)<=_;omega) (by rw[Yb];show _+4000*(ns.length+3)<=_;omega);rw[Yb]at m l A;have m:I<=0+(ns.length+3):=m;have l:i.length<=(plT H g).length+4000*(ns.length+3):=l;obtain⟨u,ln,lt,lh,lg,lgl,la,R,a,hRG,hRd⟩:=hI2;have l7:=u.k7;obtain⟨h',hR2⟩:=uN (C:=C) f.G.length R f.h i I (by rw[hRG]) hRd;have hI3:Inv2 C f (i++List.replicate f.G.length 41) (I+f.G.length):=⟨u,ln,lt,λc hc=>by
  rcases Yj.mp hc with hc|hc
  ·exact la c hc
  ·rw[List.eq_of_mem_replicate hc];decide,{R with G:=[]},h',⟨a.k,a.t,a.b,a.o,a.c,a.n⟩,rfl,hR2⟩
 obtain⟨L3,w3,k3,A6,hI4,hO3,hk3,Q,e3⟩:=xL (C:=C) (ns:=ns) (by omega) S U N 7 f (i++List.replicate f.G.length 41) (I+f.G.length) A5 _ 100 (by omega) (by decide) hI3 A (by show _+300*(ns.length+3)+1400<=_;omega) (by rw[Yb,YA];omega);rw[Yb,YA]at Q;refine⟨L3,w3,k3,p,s,hI4,hO3,by omega,by omega,?_⟩;show c9 (j4 C [some (SC ns),none,none,none,none])=_;unfold j4;rw[Gf,G_];rw[aj (ρ':=[some (SC ns),sO (.lst [.int 0,.int x]) none,none,none,none]) (by
  rw[nG,sP,Jb];show Option.map _ ((di C [SC ns]).bind dvO)=_;rw[hb];rfl)]
 rw[aj (ρ':=[some (SC ns),sO (.lst [.int 0,.int x]) none,sO (.obj none (rf [("kinds",none),("ties",none),("open",none),("boughs",none),("used",none),("here",some 0)])) none,none,none]) rfl];rw[aj (ρ':=[some (SC ns),sO A1 none,sO (.obj none [("kinds",.lst []),("ties",.lst []),("open",.lst []),("boughs",.lst []),("used",.lst []),("here",.d (.int 0)),("pool",.d p)]) none,none,none]) (by
  unfold tf;rw[nV (C:=C) ⟨_,rfl⟩ T]
  kernel_rfl)]
 rw[aj (ρ':=[some (SC ns),sO A3 none,sO (bT M p s) none,none,none]) (by
  have e:Cu (db (ax (cR C) (aH (ai (getV 0)) (aD 1 ba))) (db (ax (cR C) (aH (ai (getV 0)) (aD 1 ba))) (db (ai (cI 5)) rc))) [some (SC ns),sO A1 none,sO (.obj none [("kinds",.lst []),("ties",.lst []),("open",.lst []),("boughs",.lst []),("used",.lst []),("here",.d (.int 0)),("pool",.d p)]) none,none,none]=some (s,[some (SC ns),sO A3 none,sO (.obj none [("kinds",.lst []),("ties",.lst []),("open",.lst []),("boughs",.lst []),("used",.lst []),("here",.d (.int 0)),("pool",.d p)]) none,none,none]):=by unfold Cu db;rw[nV (C:=C) ⟨_,rfl⟩ hg0,Ya];show(Option.map _ ((ax (cR C) (aH (ai (getV 0)) (aD 1 ba)) [some (SC ns),sO A2 none,sO (.obj none [("kinds",.lst []),("ties",.lst []),("open",.lst []),("boughs",.lst []),("used",.lst []),("here",.d (.int 0)),("pool",.d p)]) none,none,none]).bind _)).bind _=_;rw[nV (C:=C) ⟨_,rfl⟩ hg1];rfl
  unfold tf;rw[e]
  kernel_rfl)]
 rw[aj (cx (rj ⟨_,rfl⟩ Y))];rw[aj (ρ':=txF ns A5 (bT f p s) i N) (by
  rw[gu,oP,aq];show(match(if(ns.map D.int).length+3<=16777216 then some (D.lst (ns.map D.int++[.int 1,.int 1,.int 1]))else none)with|some (.lst ds)=>some ds|_=>none:Option (List D)).bind _=_;rw[Yh (by rw[Yc];omega),show ns.map D.int++[D.int 1,.int 1,.int 1]=(ns++[1,1,1]).map D.int by rw[YB];rfl];exact e2)]
 rw[aj (ρ':=txF ns A5 (bT f p s) (i++List.replicate f.G.length 41) N) (by
  rw[bi,aq,aq];unfold bT lst;rw[Gz,Yc];show Option.map _ ((o6 (.str (sT [41])) (.int (f.G.length:Int))).bind λy=>af (.str (sT i)) y)=_;rw[show o6 (.str (sT [41])) (.int (f.G.length:Int))=some (.str (x_ (sT [41]) (f.G.length:Int)))from Yh ⟨by omega,by omega,by decide⟩,HH,Ya,cW (by rw[YA];omega)];rfl)]
 rw[aj e3];rfl
def ons:List Nat:=List.replicate 31 49
noncomputable def PB:List (List Nat):=[[40],[41],[46],[126],[126,53],[62],[60,51],[123],[125],[58],[46,46,97],[46,97,98,99,100],[46,65],[46,97,32,98],[46,97,49],[46,97,40,41],[46,97,40,98,41],[46,97,40,126,53,41],[46,97,40,126,53,98],[46,97,40,126,53,98,46,99,41],[46,97,126,53],[46,97,126,98],[46,97,126,48,53,98],[46,97,126]++(ons++[98]),[46,97,40,126,53,98,41,40],[46,97,45,53,98],[46,97,126,45,53,98],[46,97,126,53,46,98],[46,97,126,53,62,98],[46,97,40,126,53,98,41,41],[46,40,126,53,97,41],[46,97,126,53,32,98],[32],[48],[126,48,97,97,97,97]]
noncomputable def PR(d:List Nat):List (List Nat):=[46::97::123::(d++[125]),46::97::123::(d++[58,126,53,125]),46::97::123::(d++125::123::(d++[58,126,53,125])),46::97::123::(d++125::123::(d++125::46::98::123::(d++[58,126,53,125]))),46::97::123::(d++125::46::98::123::(d++[58,125])),46::97::123::(d++125::46::98::123::(d++[125])),46::97::123::(d++125::46::98::123::(d++58::126::53::125::46::99::123::(d++[58,126,53,125]))),46::97::123::(d++125::46::98::123::(d++58::126::53::125::46::99::123::(d++125::46::100::123::(d++[58,126,53,125])))),46::97::40::126::53::98::41::123::(d++125::46::99::123::(d++[58,126,53,125])),46::97::123::(d++58::126::53::125::46::98::123::(d++[125])),46::97::123::(d++58::62::53::125::126::55::98::123::(d++[125])),46::97::123::(d++125::46::98::123::(d++[58,126,48,53,125])),46::97::123::(d++125::46::98::123::(d++[58,126,125])),46::97::123::(d++125::46::98::123::(d++58::126::(ons++[125]))),46::97::123::(d++125::46::98::123::(d++[58,126,53])),46::97::123::(d++125::46::98::123::(d++[58,53,125])),46::97::123::48::(d++125::46::98::123::48::(d++[58,126,53,125])),[46,97,123,48,125,46,98,123,48,58,126,53,125],[46,97,123,49,48,48,125,46,98,123,49,48,48,58,126,53,125],[46,97,123,125],[46,97,123,125,46,98,123,58,126,53,125]]
noncomputable def PT(d:List Nat):List (List Nat):=[46::97::123::(d++125::46::98::123::(d++[58,126,53,125])),46::97::123::(d++[58,126,53,125])]
section
variable{h p:Int}{K:List Str}{T:List T4}  {cl:List Int}{n k:Nat}{S:RS}{r:List Nat}
def HL:∀p∈PB.erase [123],fN (n+9) h ⟨K,T,[],bg,cl⟩ p=none:=Xa.mp (show(PB.erase [123]).map (λp=>fN (n+9) h ⟨K,T,[],bg,cl⟩ p)=(PB.erase [123]).map (λ_=>none)by kernel_rfl)
def AS:rGo h ⟨K,T,[],bg,cl⟩ (46::r)=(cu ⟨K,T,[],bg,cl⟩ r).map λy=>((K.length:Int),y):=rfl
def HN{c d:Nat}(h:lt c=true)(hd:lt d=false):cu ⟨K,T,[],bg,cl⟩ (c::d::r)=dc (N5+10) (K.length:Int) ⟨K++[sT [c]],T,[],bg,cl⟩ (d::r):=by unfold cu;rw[List.takeWhile_cons_of_pos h,Xx h,Xz (by rw[hd];decide),Xy (by rw[hd];decide)];exact Yh rfl
def vJ:dc (n+1) p S (123::r)=(iJ p S (123::r)).bind λy=>dc n p y.1 y.2:=ll rfl
def HV:dc (n+1) p S []=some (S,[]):=jj (λz=>nomatch z)
def Ik{c:Nat}(h:c≠123):dc (n+1) p S (c::r)=some (S,c::r):=jj (λz=>h (Xw z).1)
def vX(h1:1<=k)(h:k<=99):iJ p S (123::(dig k++125::r))=(beg p S k).map λa=>(a,r):=by show(iz (dig k++125::r)).bind _=_;rw[ko (YS h (by decide)) (by intro c b;cases b;decide),Ya];show(if 1<=k/\k<=99 then _ else none)=_;rw[Yh ⟨h1,h⟩];show((beg p S k).map λa=>(a,125::r)).bind _=_;cases beg p S k<;>rfl
def vy(h1:1<=k)(h:k<=99):iJ p S (123::(dig k++58::r))=(cM r).bind λz=>(clo p S k z.1).bind λa=>(skp 125 z.2).map λr'=>(a,r'):=by
 show(iz (dig k++58::r)).bind _=_;rw[ko (YS h (by decide)) (by intro c b;cases b;decide),Ya];show(if 1<=k/\k<=99 then _ else none)=_;rw[Yh ⟨h1,h⟩];show((cM r).bind λz=>(clo p S k z.1).map λa=>(a,z.2)).bind _=_;cases cM r with
 |none=>rfl
 |some z=>show((clo p S k z.1).map λa=>(a,z.2)).bind _=(clo p S k z.1).bind _;cases clo p S k z.1<;>rfl
theorem AJ(h1:1<=k):iJ p S (123::48::(dig k++125::r))=none:=by
 show(iz (48::(dig k++125::r))).bind _=_;have e:=(sy (lo:=48) (hi:=57) (r:=125::r) (by intro c h;cases h;decide) (w:=48::dig k) (λc h=>(Yw.mp h).elim (λz=>by omega) (rb k c))).1;have:iz (48::(dig k++125::r))=none:=by
  unfold iz dg;rw[show 48::(dig k++125::r)=(48::dig k)++125::r from rfl,e];refine Yp ?_;unfold jF;have g:=vc k;cases f:dig k with
  |nil=>exact absurd f g
  |cons a b=>simp
 rw[this];rfl
def Gj:cM (126::53::125::r)=some ([(5,0)],125::r):=by kernel_rfl
def Fp:cM (62::53::125::r)=some ([(5,1)],125::r):=by kernel_rfl
def IJ:cM [126,53]=some ([(5,0)],[]):=by kernel_rfl
def IR:cM [125]=none/\cM [126,125]=none/\cM [126,48,53,125]=none/\cM [53,125]=none/\cM (126::(ons++[125]))=none:=by refine⟨?_,?_,?_,?_,?_⟩<;>kernel_rfl
theorem Bd{m:Int}:∀{bg:List (Int×Int)},lk m bg=none->lk m (bg++[(m,p)])=some p
 |[],_=>Yh rfl
 |q::bg,h=>by
  unfold lk at h;split at h
  ·cases h
  ·rename_i a;exact(Yp a).trans (Bd h)
def F_:∀p∈[[46,97,123,48,125,46,98,123,48,58,126,53,125],[46,97,123,49,48,48,125,46,98,123,49,48,48,58,126,53,125],[46,97,123,125],[46,97,123,125,46,98,123,58,126,53,125]],fN (n+9) h ⟨K,T,[],bg,cl⟩ p=none:=Xa.mp (by kernel_rfl)
def Gx{z:List Nat}:fN (n+9) h ⟨K,T,[],bg,cl⟩ (46::97::40::126::53::98::41::123::z)=none:=by kernel_rfl
theorem IB(h1:1<=k)(o:k<=99)(g:lk (k:Int) bg=none)(j:(k:Int)∉cl)(l:bg.length=cl.length):∀p∈PR (dig k),fN (n+9) h ⟨K,T,[],bg,cl⟩ p=none:=by
 have f:∀p,lk (k:Int) (bg++[((k:Int),p)])=some p:=λp=>Bd g
 have e:∀i:Int,¬i=i+1:=λi=>by omega
 obtain⟨m,q⟩:∃m,N5+10=m+5:=⟨499995,rfl⟩
 have pl:∀{c d:Nat}{r:List Nat}{K:List Str}{T:List T4}{bg:List (Int×Int)}{cl:List Int},lt c=true->lt d=false->cu ⟨K,T,[],bg,cl⟩ (c::d::r)=dc (m+5) (K.length:Int) ⟨K++[sT [c]],T,[],bg,cl⟩ (d::r):=λa b=>by rw[<-q];exact HN a b
 intro p hp;unfold PR at hp;simp only[Yw,List.not_mem_nil,or_false]at hp;rcases hp with rfl|rfl|rfl|rfl|rfl|rfl|rfl|rfl|rfl|rfl|rfl|rfl|rfl|rfl|rfl|rfl|rfl|hp
 rotate_right
 ·exact F_ p (by simpa using hp)
 all_goals first|exact Gx|(simp[fN,AS,pl,lt,rg,vJ,HV,Ik,vX,vy,AJ,h1,o,beg,clo,g,j,f,l,Gj,Fp,IJ,IR,skp,lk,e];done)|simp[fN,AS,pl,lt,rg,vJ,HV,Ik,vX,vy,AJ,h1,o,beg,clo,g,j,f,l,Gj,Fp,IJ,IR,skp,lk,e]
def HG{q:Int}(h1:1<=k)(j:k<=99)(g:lk (k:Int) bg=some q)(i:(k:Int)∈cl):∀p∈PT (dig k),fN (n+9) h ⟨K,T,[],bg,cl⟩ p=none:=by
 obtain⟨m,f⟩:∃m,N5+10=m+5:=⟨499995,rfl⟩
 have pl:∀{c d:Nat}{r:List Nat}{K:List Str}{T:List T4}{bg:List (Int×Int)}{cl:List Int},lt c=true->lt d=false->cu ⟨K,T,[],bg,cl⟩ (c::d::r)=dc (m+5) (K.length:Int) ⟨K++[sT [c]],T,[],bg,cl⟩ (d::r):=λa b=>by rw[<-f];exact HN a b
 intro p e;unfold PT at e;simp only[Yw,List.not_mem_nil,or_false]at e;rcases e with rfl|rfl<;>simp[fN,AS,pl,lt,rg,vJ,vX,vy,h1,j,beg,clo,g,i,Gj]
end
def dPs(L:List (List Nat)):List D:=L.map λp=>.str (sT p)
def FD{L:List (List Nat)}{i:Int}(h:0<=i)(h1:i<(L.length:Int)):∃p∈L,ixD (.lst (dPs L)) (.int i)=some (.str (sT p)):=by obtain⟨p,a,e⟩:=kJ (l:=L) (λp=>D.str (sT p)) h h1;exact⟨p,Zd a,e⟩
theorem yx(C:Addr)(n:Int):∃p∈PB,du C [.v (.int n)]=sS p:=by
 obtain⟨p,h,e⟩:=FD (L:=PB) (i:=n%35) (by omega) (show _<(35:Int)by omega);refine⟨p,h,?_⟩;have a:ik C [sI n,none]=bb (d2 ixD (ag 1) (d2 aJ (ag 0) (d1 aK (ar 1)))) [sI n,sO (.lst (dPs PB)) none]:=by kernel_rfl
 show c9 (ik C [sI n,none])=_;rw[a,d9,aq,aq,bX];show c9 (Option.map _ ((aJ (.int n) (.int 35)).bind λy=>ixD (.lst (dPs PB)) y))=_;rw[aX n 35 (by decide),Ya,e];rfl
def yv(n:Int)(DD:D)(G:Dw):∀k∈List.range 100,(al (aY 3 (d2 af (λ_=>some (.str "{")) (d1 eQ (ar 2))))
  (al (dF 4 (asL (ao (d2 af (d2 af (λ_=>some (.str ".a")) (ag 3)) (λ_=>some (.str "}"))) (ao (d2 af (d2 af (λ_=>some (.str ".a")) (ag 3)) (λ_=>some (.str ":~5}"))) (ao (d2 af (d2 af (d2 af (d2 af (λ_=>some (.str ".a")) (ag 3)) (λ_=>some (.str "}"))) (ag 3)) (λ_=>some (.str ":~5}"))) bA)))))
  (al (dU 4 (d2 af (d2 af (d2 af (d2 af (d2 af (d2 af (λ_=>some (.str ".a")) (ag 3)) (λ_=>some (.str "}"))) (ag 3)) (λ_=>some (.str "}.b"))) (ag 3)) (λ_=>some (.str ":~5}"))))
  (al (dU 4 (d2 af (d2 af (d2 af (d2 af (λ_=>some (.str ".a")) (ag 3)) (λ_=>some (.str "}.b"))) (ag 3)) (λ_=>some (.str ":}"))))
  (al (dU 4 (d2 af (d2 af (d2 af (d2 af (λ_=>some (.str ".a")) (ag 3)) (λ_=>some (.str "}.b"))) (ag 3)) (λ_=>some (.str "}"))))
  (al (dU 4 (d2 af (d2 af (d2 af (d2 af (d2 af (d2 af (λ_=>some (.str ".a")) (ag 3)) (λ_=>some (.str "}.b"))) (ag 3)) (λ_=>some (.str ":~5}.c"))) (ag 3)) (λ_=>some (.str ":~5}"))))
  (al (dU 4 (d2 af (d2 af (d2 af (d2 af (d2 af (d2 af (d2 af (d2 af (λ_=>some (.str ".a")) (ag 3)) (λ_=>some (.str "}.b"))) (ag 3)) (λ_=>some (.str ":~5}.c"))) (ag 3)) (λ_=>some (.str "}.d"))) (ag 3)) (λ_=>some (.str ":~5}"))))
  (al (dU 4 (d2 af (d2 af (d2 af (d2 af (λ_=>some (.str ".a(~5b)")) (ag 3)) (λ_=>some (.str "}.c"))) (ag 3)) (λ_=>some (.str ":~5}"))))
  (al (jA 4 (ao (d2 af (d2 af (d2 af (d2 af (λ_=>some (.str ".a")) (ag 3)) (λ_=>some (.str ":~5}.b"))) (ag 3)) (λ_=>some (.str "}"))) (ao (d2 af (d2 af (d2 af (d2 af (λ_=>some (.str ".a")) (ag 3)) (λ_=>some (.str ":>5}~7b"))) (ag 3)) (λ_=>some (.str "}"))) bA)))
  (al (jA 4 (ao (d2 af (d2 af (d2 af (d2 af (λ_=>some (.str ".a")) (ag 3)) (λ_=>some (.str "}.b"))) (ag 3)) (λ_=>some (.str ":~05}"))) (ao (d2 af (d2 af (d2 af (d2 af (λ_=>some (.str ".a")) (ag 3)) (λ_=>some (.str "}.b"))) (ag 3)) (λ_=>some (.str ":~}"))) bA)))
  (al (dU 4 (d2 af (d2 af (d2 af (d2 af (d2 af (d2 af (λ_=>some (.str ".a")) (ag 3)) (λ_=>some (.str "}.b"))) (ag 3)) (λ_=>some (.str ":~"))) (d2 o6 (λ_=>some (.str "1")) (cI 31))) (λ_=>some (.str "}"))))
  (al (dU 4 (d2 af (d2 af (d2 af (d2 af (λ_=>some (.str ".a")) (ag 3)) (λ_=>some (.str "}.b"))) (ag 3)) (λ_=>some (.str ":~5"))))
  (al (dU 4 (d2 af (d2 af (d2 af (d2 af (λ_=>some (.str ".a")) (ag 3)) (λ_=>some (.str "}.b"))) (ag 3)) (λ_=>some (.str ":5}"))))
  (al (dU 4 (d2 af (d2 af (d2 af (d2 af (λ_=>some (.str ".a{0")) (d1 eQ (ar 2))) (λ_=>some (.str "}.b{0"))) (d1 eQ (ar 2))) (λ_=>some (.str ":~5}"))))
  (al (jA 4 (sL [".a{0}.b{0:~5}",".a{100}.b{100:~5}",".a{}",".a{}.b{:~5}"]))
  G))))))))))))))) [sI n,sV DD,sI k,none,none,none]=G [sI n,sV DD,sI k,sS (123::dig k),sO (.lst (dPs (PR (dig k)))) none,none]:=Xa.mp (by kernel_rfl)
def zm(n:Int)(DD:D)(x2 a x:Option DV):∀u∈List.range 100,(ao (d2 af (d2 af (d2 af (d2 af (λ_=>some (.str ".a")) (ag 5)) (λ_=>some (.str "}.b"))) (ag 5)) (λ_=>some (.str ":~5}"))) (ao (d2 af (d2 af (λ_=>some (.str ".a")) (ag 5)) (λ_=>some (.str ":~5}"))) bA)) [sI n,sV DD,x2,a,x,sS (123::dig u)]=some (dPs (PT (dig u))):=Xa.mp (by kernel_rfl)
theorem BO(C:Addr)(n:Int){U:List Nat}(q:aW DD (.str "used")=some (.lst (dUs U)))(P:U.length<99)(S:∀u∈U,1<=u/\u<=99):∃(k:Nat) (L:List (List Nat)),(1<=k/\k<=99/\k∉U)/\(0<L.length/\L.length<100)/\(∀p∈L,p∈PR (dig k)\/∃u∈U,p∈PT (dig u))/\dX C [.v (.int n),.v DD]=sO (.lst (dPs L)) none:=by
 let x:=(1+n%99).toNat
 have M:((x:Nat):Int)=1+n%99:=by show(((1+n%99).toNat:Nat):Int)=_;omega
 obtain⟨j,Z,s,T⟩:=wk U P x;have o:cyc x 0=x:=by
  have:1<=x/\x<=99:=by omega
  unfold cyc;omega
 have h:=Bf x j;have E:=Ag (c:=asB (d2 inD (ar 2) (d2 aW (ag 1) (λ_=>some (.str "used"))))) (body:=aY 2 (d2 af (d2 aJ (ag 2) (cI 99)) (cI 1))) (fr:=λm=>[sI n,sV DD,sI m,none,none,none]) (λm=>by
  rw[bw,aq,aq];show(match(aW DD (.str "used")).bind λy=>inD (.int (m:Int)) y with|some (.bl b)=>some b|_=>none:Option Bool)=_;rw[q,Ya,IW]) (λm=>by
  rw[bi,aq,aq];show Option.map _ ((aJ (.int m) (.int 99)).bind λy=>af y (.int 1))=_;rw[aX _ 99 (by decide)];rfl) s T j 0 100 (by omega) (by omega)
 rw[o,M]at E;generalize cyc x j=k at *;have R:(PR (dig k)).length=21:=rfl;have O:=yv n DD (al (dIf (asB (d2 gtI (d1 aK (d2 aW (ag 1) (λ_=>some (.str "used")))) (cI 0))) (al (aY 5 (d2 af (λ_=>some (.str "{")) (d1 eQ (d2 ixD (d2 aW (ag 1) (λ_=>some (.str "used"))) (d2 aJ (d2 aR (ag 0) (cI 99)) (d1 aK (d2 aW (ag 1) (λ_=>some (.str "used")))))))))
  (jA 4 (ao (d2 af (d2 af (d2 af (d2 af (λ_=>some (.str ".a")) (ag 5)) (λ_=>some (.str "}.b"))) (ag 5)) (λ_=>some (.str ":~5}"))) (ao (d2 af (d2 af (λ_=>some (.str ".a")) (ag 5)) (λ_=>some (.str ":~5}"))) bA)))) dNx) (l8 4)) k (Zq.mpr (by omega))
 have I:e8 C [sI n,sV DD,none,none,none,none]=al (dIf (asB (d2 gtI (d1 aK (d2 aW (ag 1) (λ_=>some (.str "used")))) (cI 0))) (al (aY 5 (d2 af (λ_=>some (.str "{")) (d1 eQ (d2 ixD (d2 aW (ag 1) (λ_=>some (.str "used"))) (d2 aJ (d2 aR (ag 0) (cI 99)) (d1 aK (d2 aW (ag 1) (λ_=>some (.str "used")))))))))
  (jA 4 (ao (d2 af (d2 af (d2 af (d2 af (λ_=>some (.str ".a")) (ag 5)) (λ_=>some (.str "}.b"))) (ag 5)) (λ_=>some (.str ":~5}"))) (ao (d2 af (d2 af (λ_=>some (.str ".a")) (ag 5)) (λ_=>some (.str ":~5}"))) bA)))) dNx) (l8 4) [sI n,sV DD,sI k,sS (123::dig k),sO (.lst (dPs (PR (dig k)))) none,none]:=by
  unfold e8;rw[aj (ρ':=[sI n,sV DD,sI (1+n%99),none,none,none]) (by
   rw[bi,aq,aq];show Option.map _ ((aJ (.int n) (.int 99)).bind λy=>af (.int 1) y)=_;rw[aX _ 99 (by decide)];rfl),aj E]
  exact O
 have B:d1 aK (d2 aW (ag 1) (λ_=>some (.str "used"))) [sI n,sV DD,sI k,sS (123::dig k),sO (.lst (dPs (PR (dig k)))) none,none]=some (.int (U.length:Int)):=by rw[bX,aq];show(aW DD (.str "used")).bind aK=_;rw[q];show some (D.int ((dUs U).length:Int))=_;unfold dUs;rw[Yc]
 have f:asB (d2 gtI (d1 aK (d2 aW (ag 1) (λ_=>some (.str "used")))) (cI 0)) [sI n,sV DD,sI k,sS (123::dig k),sO (.lst (dPs (PR (dig k)))) none,none]=some (decide ((0:Int)<(U.length:Int))):=by rw[bw,aq,B];rfl
 by_cases H:U=[]
 ·refine⟨k,PR (dig k),⟨h.1,h.2,s⟩,⟨by omega,by omega⟩,λp g=>.inl g,?_⟩;show c9 (e8 C [sI n,sV DD,none,none,none,none])=_;rw[I,aj (ρ':=[sI n,sV DD,sI k,sS (123::dig k),sO (.lst (dPs (PR (dig k)))) none,none]) (by
   rw[dJ,f,H];rfl)]
  rfl
 ·have A:=ZR.mpr H;have K:0<=n/99%(U.length:Int):=Zg _ (by omega);have J:n/99%(U.length:Int)<(U.length:Int):=Za _ (by omega);obtain⟨u,Y,X⟩:=kJ (l:=U) (λn:Nat=>D.int (n:Int)) K J;have w:=Zd Y;have e:=S u w;have N:=zm n DD (sI k) (sS (123::dig k)) (sO (.lst (dPs (PR (dig k)))) none) u (Zq.mpr (by omega));have Q:(PT (dig u)).length=2:=rfl;refine⟨k,PR (dig k)++PT (dig u),⟨h.1,h.2,s⟩,⟨by rw[Yb];omega,by rw[Yb];omega⟩,λp g=>(Yj.mp g).elim .inl λz=>.inr ⟨u,w,z⟩,?_⟩;show c9 (e8 C [sI n,sV DD,none,none,none,none])=_;rw[I,aj (ρ':=[sI n,sV DD,sI k,sS (123::dig k),sO (.lst (dPs (PR (dig k)++PT (dig u)))) none,sS (123::dig u)]) (by
   rw[dJ,f,Yk (show(0:Int)<(U.length:Int)by omega),Ya,Yh rfl];rw[aj (ρ':=[sI n,sV DD,sI k,sS (123::dig k),sO (.lst (dPs (PR (dig k)))) none,sS (123::dig u)]) (by
    rw[bi,aq,bX,aq,aq,aq,B];show Option.map _ (((((aW DD (.str "used")).bind λy=>((aR (.int n) (.int 99)).bind λa=>aJ a (.int (U.length:Int))).bind λb=>ixD y b).bind eQ).bind λy=>af (.str "{") y))=_;rw[q,bM n 99 (by decide),Ya,Ya,aX _ _ (by omega),Ya,ix1];show Option.map _ (((atI (U.map λn:Nat=>D.int (n:Int)) (n/99%(U.length:Int))).bind eQ).bind λy=>af (.str "{") y)=_;rw[X,Ya,mI (YS e.2 (by decide)),Ya,s_o,cW (by have:=fG u 30 (by decide) (YS e.2 (by decide));simp;omega)];rfl)]
   unfold jA;show Option.bind (_) _=_;rw[N,Ya];show(if(dPs (PR (dig k))).length+(dPs (PT (dig u))).length<=16777216 then _ else none)=_;have i:(dPs (PR (dig k))).length+(dPs (PT (dig u))).length<=16777216:=(show 21+2<=16777216 by decide)
   rw[Yh i];show some (RES.nx [_,_,_,_,sO (.lst (dPs (PR (dig k))++dPs (PT (dig u)))) none,_])=_;unfold dPs;rw[<-YB])]
  rfl
def yQ(C:Addr)(t:T4):cQ C [.v (dT4 t),.v (dT4 t)]=some (.v (.bl true)):=by
 have e:=HI t;have h:=zj C;unfold cQ ka;generalize dZ C=W at h ⊢;have g:ixD (dT4 t) (.int 0)=some (.int t.1):=rfl;have f:ixD (dT4 t) (.int 1)=some (.int t.2.1):=rfl;have a:ixD (dT4 t) (.int 2)=some (.int t.2.2.1):=rfl;have i:ixD (dT4 t) (.int 3)=some (.bl t.2.2.2):=rfl;have l:aK (dT4 t)=some (.int 4):=rfl;have j:kW "tuple" (dT4 t)=some (.bl true):=rfl;have m:∀b,kW "bool" (.bl b)=some (.bl true):=λ_=>rfl
 generalize dT4 t=d at *;simp[g,f,a,i,l,j,m,h,e]
theorem DO(C:Addr)(g:List T4)(H:g.length<=12):e_ C [.v (.lst (g.map dT4))]=some (.own (.lst (srt g)) none):=by
 have go:∀(l:List T4) (f:List D) (u s q y:Option DV),f.length+l.length<1000->∃p m j z,cN (j9 [2,3,4,5]) (dIf (fD (c_ (asB (getV 5))) (asB (d2 gtI (ag 2) (ag 3)))) (dU 1 (asT (ao (getV 3) (ao (getV 2) (ao (getV 4) (ao (getV 5) bA)))))) (dU 1 (asT (ao (getV 2) (ao (getV 3) (ao (getV 4) (ao (getV 5) bA))))))) (l.map dT4) [some (.v (.lst (g.map dT4))),some (.own (.lst f) none),u,s,q,y]=some (.nx [some (.v (.lst (g.map dT4))),some (.own (.lst (f++(l.map lf).map dT4)) none),p,m,j,z]):=by
  intro l;induction l with
  |nil=>exact λf u s q y _=>⟨u,s,q,y,by rw[Zl,Zl,Zl,Yl];rfl⟩
  |cons t l ih=>
   intro f u s q y x;obtain⟨a,b,k,o⟩:=t;rw[Yg]at x;obtain⟨p,m,j,z,e⟩:=ih (f++[dT4 (lf (a,b,k,o))]) (some (.v (.int a))) (some (.v (.int b))) (some (.v (.int k))) (some (.v (.bl o))) (by rw[Yb];show f.length+1+l.length<1000;omega);refine⟨p,m,j,z,?_⟩;have i:f.length<16777216:=by omega
   have A:(dIf (fD (c_ (asB (getV 5))) (asB (d2 gtI (ag 2) (ag 3)))) (dU 1 (asT (ao (getV 3) (ao (getV 2) (ao (getV 4) (ao (getV 5) bA)))))) (dU 1 (asT (ao (getV 2) (ao (getV 3) (ao (getV 4) (ao (getV 5) bA))))))) [some (.v (.lst (g.map dT4))),some (.own (.lst f) none),some (.v (.int a)),some (.v (.int b)),some (.v (.int k)),some (.v (.bl o))]=some (.nx [some (.v (.lst (g.map dT4))),some (.own (.lst (f++[dT4 (lf (a,b,k,o))])) none),some (.v (.int a)),some (.v (.int b)),some (.v (.int k)),some (.v (.bl o))]):=by
    unfold lf;cases o with
    |true=>simp[i,dT4]
    |false=>
     by_cases h:b<a
     ·have E:¬a<b:=by omega
      simp[i,h,E,dT4]
     ·by_cases B:a<b
      ·simp[i,h,B,dT4]
      ·have:a=b:=by omega
       subst this;simp[i,dT4]
   rw[YD];unfold cN;show(match(dIf _ _ _:Dw) [some (.v (.lst (g.map dT4))),some (.own (.lst f) none),some (.v (.int a)),some (.v (.int b)),some (.v (.int k)),some (.v (.bl o))]with|some (.nx ρ)=>cN _ _ (l.map dT4) ρ|some (.ct ρ)=>cN _ _ (l.map dT4) ρ|some (.bk ρ)=>some (.nx ρ)|r=>r)=_;rw[A];show cN _ _ (l.map dT4) _=_;rw[e,Yq];rfl
 obtain⟨p,m,j,z,e⟩:=go g [] none none none none (by show 0+g.length<1000;omega);rw[Zx]at e;show c9 (i_ C [some (.v (.lst (g.map dT4))),none,none,none,none,none])=_;unfold i_;rw[aj (ρ':=[some (.v (.lst (g.map dT4))),some (.own (.lst []) none),none,none,none,none]) rfl];rw[aj (ρ':=[some (.v (.lst (g.map dT4))),some (.own (.lst ((g.map lf).map dT4)) none),p,m,j,z]) (by rw[gu];exact e)];have w:eJ ((g.map lf).map dT4)=true:=pT (g.map lf) (by rw[Yc];omega);rw[ui,vH,oQ];show c9 (Option.map _ (Option.map _ (if eJ ((g.map lf).map dT4)=true then some (ff ((g.map lf).map dT4))else none)))=_;rw[Yh w];rfl
def Fe{α:Type}(l:List α):vd (.lst (l.map λ_=>D.bl true))=some (.bl true):=by
 have b:((l.map λ_=>D.bl true).all rA)=true:=by simp[rA]
 have a:((l.map λ_=>D.bl true).all trD)=true:=by rw[List.all_map,YE];exact λ_ _=>rfl
 show(if((l.map λ_=>D.bl true).all rA)=true then some (D.bl ((l.map λ_=>D.bl true).all trD))else none)=_;rw[Yh b,a]
theorem yX(C:Addr)(ks:List Str)(a us:List T4)(J:D)(n:Int)(w:okK n ks)(P:ks.length<=7)(E:us.length<=12)(he:srt us=srt a) :
  bO C [.v (.ins C (wFs ks (.lst (srt a)) J)),.v (.lst (ks.map .str)),.v (.lst (us.map dT4))]=some (.v (.bl true)):=by
 have M:=yQ C;have I:e_ C [.v (.lst (us.map dT4))]=some (.own (.lst (srt a)) none):=by rw[<-he];exact DO C us E
 have fk:=yG C ks (.lst (srt a)) J;have p:=zY C ks (.lst (srt a)) J;have u:(srt a).length=us.length:=by rw[<-he,EE]
 obtain⟨b,z,_⟩:=Hb a;have B:neD (.lst (ks.map D.str)) (.lst (ks.map D.str))=some (.bl false):=by rw[BX (Fc w) (Fc w),A0 D.str (λ_ _=>rfl)];rfl
 have O:GD C (.ins C (wFs ks (.lst (srt a)) J))=some (.bl true):=Yh rfl;have N:∀l,kW "list" (.lst l)=some (.bl true):=λ_=>rfl
 have g:gf (setV 0) iM (d1 (kW "str") (ar 0)) [none] (ks.map D.str)=some (ks.map λ_=>D.bl true):=gG D.str (λ_=>D.bl true) ks λx _=>⟨[some (.v (.str x))],rfl,rfl,rfl⟩
 have A:b.length=us.length:=by rw[<-u,z,Yc]
 have h:gf (setV 0) iM (bv (cQ C) (aV (d2 ixD (d1 (fF C "ties") (ag 1)) (ag 0)) (aV (d2 ixD (ag 2) (ag 0)) nA))) [none,some (.v (.ins C (wFs ks (.lst (srt a)) J))),some (.v (.lst (srt a)))] ((gD (b.length:Int)).map .int)=some ((gD (b.length:Int)).map λ_=>D.bl true):=gG D.int (λ_=>D.bl true) _ λi y=>by
  refine⟨[some (.v (.int i)),some (.v (.ins C (wFs ks (.lst (srt a)) J))),some (.v (.lst (srt a)))],rfl,rfl,?_⟩;have f:0<=i/\i<(b.length:Int):=by unfold gD at y;obtain⟨m,K,rfl⟩:=Yt.mp y;rw[Zq]at K;omega
  obtain⟨t,H,e⟩:=kJ (l:=b) dT4 f.1 f.2;rw[<-z]at e;have o:=M t;generalize cQ C=Ti,wFs ks (.lst (srt a)) J=F at *;generalize srt a=S at *;simp[p,ix1,e,o]
 have s:=Fe ks;have q:=Fe (gD (b.length:Int));unfold bO k8;show c9 (al _ (al _ (al _ _)) [some (.v (.ins C (wFs ks (.lst (srt a)) J))),some (.v (.lst (ks.map D.str))),some (.v (.lst (us.map dT4))),none])=_;generalize L:cQ C=Ti,e_ C=Pl,hF:wFs ks (.lst (srt a)) J=F at *;rw[aj (ρ':=[some (.v (.ins C F)),some (.v (.lst (ks.map D.str))),some (.v (.lst (us.map dT4))),none]) (by simp[O,fk,p,N])];rw[aj (ρ':=[some (.v (.ins C F)),some (.v (.lst (ks.map D.str))),some (.v (.lst (us.map dT4))),none]) (by
  have j:fB 1 [] (me (d1 (fF C "kinds") (ag 0))) (setV 0) iM (d1 (kW "str") (ar 0)) [some (.v (.ins C F)),some (.v (.lst (ks.map D.str))),some (.v (.lst (us.map dT4))),none]=some (ks.map λ_=>D.bl true):=by rw[gL,oP,bX];show(match fF C "kinds" (.ins C F)with|some (.lst ds)=>some ds|_=>none:Option (List D)).bind _=_;rw[fk];show(if(ks.map D.str).length<=16777216 then gf _ _ _ [none] (ks.map D.str)else none)=_;rw[Yh (by rw[Yc];omega)];exact g
  simp[fk,B,j,s])]
 rw[aj (ρ':=[some (.v (.ins C F)),some (.v (.lst (ks.map D.str))),some (.v (.lst (us.map dT4))),some (.v (.lst (srt a)))]) (by
  generalize us.map dT4=Q at *;simp[I])]
 have j:fB 1 [0,3] (ol (d1 aK (ar 3))) (setV 0) iM (bv Ti (aV (d2 ixD (d1 (fF C "ties") (ag 1)) (ag 0)) (aV (d2 ixD (ag 2) (ag 0)) nA))) [some (.v (.ins C F)),some (.v (.lst (ks.map D.str))),some (.v (.lst (us.map dT4))),some (.v (.lst (srt a)))]=some ((gD (b.length:Int)).map λ_=>D.bl true):=by rw[gL,rh (n:=(b.length:Int)) (by rw[bX];show some (D.int ((srt a).length:Int))=_;rw[u,<-A]) ⟨by omega,by omega⟩];show(if((gD (b.length:Int)).map D.int).length<=16777216 then gf _ _ _ [none,some (.v (.ins C F)),some (.v (.lst (srt a)))] ((gD (b.length:Int)).map D.int)else none)=_;rw[Yh (by rw[Yc,fm];omega)];exact h
 generalize srt a=S at *;simp[p,j,q]
theorem IT:∀{cl ks:List Int},cl.Nodup->(∀n∈cl,n∈ks)->ks.length<=cl.length->∀n∈ks,n∈cl
 |[],ks,_,_,hl,n,hn=>by rw[ZO.mp (Nat.le_zero.mp hl)]at hn;exact nomatch hn
 |a::cl,ks,nd,hs,hl,n,hn=>by
  have f:=hs a Yf;have b:=YG.mp nd;by_cases e:n=a
  ·exact e ▸ Yf
  ·refine Ye _ (IT (ks:=ks.erase a) b.2 (λm h=>(XD (λz:m=a=>b.1 (by rw[<-z];exact h))).mpr (hs m (Ye _ h))) ?_ n ((XD e).mpr hn));rw[List.length_erase_of_mem f];rw[Yg]at hl;omega
theorem CU{c:Nat}(h:(lT (sT l) c).isEmpty=false):∃u v,l=u++c::v/\oZ (sT l) c=sT (u++v):=by
 have f:=PySem.StrLaws.occ_length_le (sT l) ⟨#[c]⟩ 0 (sT l).length 1;have e:=PySem.StrLaws.occ_spec (sT l) ⟨#[c]⟩ 0 (sT l).length 1;unfold oZ;change (lT (sT l) c).length<=1 at f;change ∀i∈lT (sT l) c,_ at e;cases g:lT (sT l) c with
 |nil=>rw[g]at h;cases h
 |cons i t=>
  rw[g]at f e;cases t with
  |cons _ _=>exact absurd f (by simp)
  |nil=>
   obtain⟨b,a⟩:=e i Yf;have b:i+1<=l.length:=by rw[bW]at b;exact b
   have a:l.toArray.extract i (i+1)=#[c]:=eq_of_beq a;rw[Vm,XF,XU]at a;have j:(l.drop i).take 1=[c]:=by have:=YH Array.toList a;exact this
   have m:l.drop i=c::l.drop (i+1):=by rw[XE (by omega)]at j ⊢;rw[(Xw j).1]
   refine⟨l.take i,l.drop (i+1),by rw[<-m,List.take_append_drop],?_⟩;show(⟨l.toArray.extract 0 i++("":Str).cps++l.toArray.extract (i+1) (sT l).length⟩:Str)=_;rw[bW,Vm,Vm,XF,XF,Nat.sub_zero,List.drop_zero,ZS (l:=l.drop (i+1)) (by rw[List.length_drop];omega),show("":Str).cps=#[]from rfl];unfold sT;simp
def Bad(w:List Nat):Prop:=TOk w/\fi w=none
structure GT (C:Addr) (L:LS) (w:List Nat) (h:Int) (R:RS) (k:Nat):Prop where
 rel:Rel L R []
 g:R.G=[]
 rd:Reads C w h R k
 k5:k<500
 o:L.O=[]
 lok:LOk L
 a:∀c∈w,c<128
 l:w.length<=350000
section
variable  {L:LS}{w:List Nat}{h:Int}{R:RS}{k:Nat}
def GT.bc(H:GT C L w h R k):R.bg.length=R.cl.length:=by have:=H.rel.n;rw[H.o]at this;exact this.symm
theorem GT.text(H:GT C L w h R k){p:List Nat}(a:mD p):fi (w++p)=fN (N5+1-k+9) h ⟨R.K,R.T,[],R.bg,R.cl⟩ p:=by
 rw[H.rd.text a (by have:=H.k5;omega),show N5+10-k=N5+1-k+9 by have:=H.k5;have:N5=499990:=rfl;omega];have:R=⟨R.K,R.T,[],R.bg,R.cl⟩:=by obtain⟨K,T,G,b,cl⟩:=R;rw[show G=[]from H.g]
 rw[<-this]
def GT.good(H:GT C L w h R k):fi w=some R:=by have e:=H.text (p:=[]) (λc a=>nomatch a);rw[Yl]at e;rw[e];show(if([]:List Int)=[]/\R.bg.length<=R.cl.length then some _ else none)=_;rw[Yh ⟨rfl,ZP H.bc⟩];obtain⟨K,T,G,b,cl⟩:=R;rw[show G=[]from H.g]
def GT.mv(H:GT C L w h R k):(∀c∈w,okC c=true)/\w.count 40=w.count 41/\w.count 123=w.count 125/\R.cl.Nodup:=kG H.good
theorem GT.tok(H:GT C L w h R k){p:List Nat}(e:∀c∈p,c<128)(f:p.length<=1000):TOk (w++p):=⟨by rw[Yb];have:=H.l;omega,λc b=>(Yj.mp b).elim (H.a c) (e c)⟩
def none_of(h:∀S,fi l=some S->False):fi l=none:=by
 cases e:fi l with
 |none=>rfl
 |some S=>exact(h S e).elim
theorem HP:∀p∈PB,p=[123]\/(p∈PB.erase [123]/\mD p):=λp h=>by
 by_cases e:p=[123]
 ·exact .inl e
 ·refine .inr ⟨(XD e).mpr h,?_⟩;have:∀p∈PB,p=[123]\/∀c∈p.head?,¬(97<=c/\c<=123):=by decide+kernel
  exact(this p h).resolve_left e
theorem vp(H:GT C L w h R k){p:List Nat}(a:p∈PB):Bad (w++p):=by
 have f:∀p∈PB,(∀c∈p,c<128)/\p.length<=1000:=by decide+kernel
 refine⟨H.tok (f p a).1 (f p a).2,?_⟩;rcases HP p a with rfl|⟨b,h2⟩
 ·refine none_of λS e=>?_;have b:=(kG e).2.2.1;rw[YV,YV,H.mv.2.2.1]at b;have:List.count 123 [123]=1/\List.count 125 [123]=0:=by decide
  omega
 ·rw[H.text h2];exact HL p b
theorem Ho{d:List Nat}(hd:∀c∈d,c<128)(m:d.length<=30):∀p∈PR d++PT d,(∀c∈p,c<128)/\p.length<=1000/\mD p:=by
 have f:ons.all (λc=>decide (c<128))=true:=by decide
 have g:d.all (λc=>decide (c<128))=true:=YE.mpr λc a=>Yk (hd c a)
 have e:ons.length=31:=rfl
 suffices h:∀p∈PR d++PT d,p.all (λc=>decide (c<128))=true/\p.length<=1000/\p.head?=some 46 from λp b=>by
  obtain⟨l,j,i⟩:=h p b;refine⟨λc a=>YN (YE.mp l c a),j,λc a=>?_⟩;rw[i]at a;cases a;decide
 intro p b;unfold PR PT at b;simp only[Yj,Yw,List.not_mem_nil,or_false]at b;rcases b with (rfl|rfl|rfl|rfl|rfl|rfl|rfl|rfl|rfl|rfl|rfl|rfl|rfl|rfl|rfl|rfl|rfl|rfl|rfl|rfl|rfl)|rfl|rfl
 all_goals (refine⟨?_,?_,rfl⟩;simp only[Vz,List.all_append,List.all_nil,g,f];decide;simp only[Yg,Yb,Zc,e];omega)
theorem yE(H:GT C L w h R k){m:Nat}(i:1<=m/\m<=99/\m∉L.U){p:List Nat}(f:p∈PR (dig m)\/∃u∈L.U,p∈PT (dig u)):Bad (w++p):=by
 have j:∀u,1<=u/\u<=99->∀p∈PR (dig u)++PT (dig u),(∀c∈p,c<128)/\p.length<=1000/\mD p:=λu l=>Ho (r_ u) (fG u 30 (by decide) (YS l.2 (by decide)))
 have keys:∀n:Int,n∈R.bg.map (·.1)↔n∈L.U.map λn:Nat=>(n:Int):=λn=>H.rel.b.mem_iff
 rcases f with f|⟨u,l,f⟩
 ·obtain⟨y,x,s⟩:=j m ⟨i.1,i.2.1⟩ p (Yj.mpr (.inl f));have g:(m:Int)∉R.bg.map (·.1):=λz=>by
   obtain⟨q,E,e⟩:=Yt.mp ((keys _).mp z);exact i.2.2 (by rw[show m=q by omega];exact E)
  refine⟨H.tok y x,?_⟩;rw[H.text s];exact IB i.1 i.2.1 (sM g) (λz=>g (H.rel.c _ z)) H.bc p f
 ·have a:=H.lok.u9 u l;obtain⟨y,x,s⟩:=j u a p (Yj.mpr (.inr f));have B:(u:Int)∈R.bg.map (·.1):=(keys _).mpr (Yt.mpr ⟨u,l,rfl⟩);refine⟨H.tok y x,?_⟩;rw[H.text s];have o:=IT (ks:=R.bg.map (·.1)) H.mv.2.2.2 H.rel.c (by rw[Yc];exact ZP H.bc) _ B;cases A:lk (u:Int) R.bg with
  |none=>exact absurd B (Aj A)
  |some q=>exact HG a.1 a.2 A o p f
theorem Bp(H:GT C L w h R k){c q:Nat}(f:okC c=false)(b:c<128):Bad (w.take q++[c]++w.drop q):=by
 refine⟨⟨?_,λx hx=>?_⟩,none_of λS e=>?_⟩
 ·have:=YH List.length (List.take_append_drop q w);rw[Yb]at this;rw[Yb,Yb,YU];have:=H.l;omega
 ·rcases Yj.mp hx with hx|hx
  ·rcases Yj.mp hx with hx|hx
   ·exact H.a x (List.mem_of_mem_take hx)
   ·rw[Yo.mp hx];exact b
  ·exact H.a x (List.mem_of_mem_drop hx)
 ·have:=(kG e).1 c (by simp);rw[f]at this;cases this
theorem CZ(H:GT C L w h R k){c:Nat}(j:c=40\/c=41\/c=125){u v:List Nat}(e:w=u++c::v):Bad (u++v):=by have g:=YH List.length e;rw[Yb,Yg]at g;refine⟨⟨by rw[Yb];have:=H.l;omega,λx i=>H.a x (by rw[e];exact(Yj.mp i).elim (λz=>Yj.mpr (.inl z)) λz=>Yj.mpr (.inr (Ye _ z)))⟩,none_of λS q=>?_⟩;obtain⟨_,o,m,_⟩:=kG q;obtain⟨_,f,b,_⟩:=H.mv;rw[YV,YV]at o m;rw[e,YV,YV]at f b;rcases j with rfl|rfl|rfl<;>simp only[List.count_cons]at f b<;>simp at f b<;>omega
theorem yA(H:GT C L w h R k){p:List Nat}(b:p∈[[126,53],[40],[41],[46],[123,49,125],[53],[123],[58]]):Bad (p++w):=by
 have f:∀p∈[[126,53],[40],[41],[46],[123,49,125],[53],[123],[58]],(∀c∈p,c<128)/\p.length<=3/\p≠[]/\∀c∈p.head?,lt c=false:=by decide
 obtain⟨j,m,i,g⟩:=f p b;refine⟨⟨by rw[Yb];have:=H.l;omega,λc e=>(Yj.mp e).elim (j c) (H.a c)⟩,?_⟩;cases p with
 |nil=>exact absurd rfl i
 |cons c p=>
  have:cu S0 (c::p++w)=none:=by unfold cu;rw[show(c::p++w).takeWhile lt=[]from Xz (by rw[g c rfl];decide)];rfl
  unfold fi;rw[this];rfl
def En:Bad []:=⟨⟨by decide,λ_ z=>nomatch z⟩,by kernel_rfl⟩
end
end My
namespace My
open PySem PySem.Spec PyProof.Rows L2 Builtin Builtin.Str
theorem EJ(l:List Nat)(q:Nat)(h:q<=l.length):Txt.slice (sT l) none (some (q:Int))=sT (l.take q)/\Txt.slice (sT l) (some (q:Int)) none=sT (l.drop q):=by
 have a:strSliceIndices none (some (q:Int)) 1 (sT l).length=strSliceIndices (some ((0:Nat):Int)) (some (q:Int)) 1 (sT l).length:=by unfold strSliceIndices;simp only[show((1:Int) > 0)=True from by simp,VC];rw[show(max 0 (min (if((0:Nat):Int)<0 then((0:Nat):Int)+((sT l).length:Int)else((0:Nat):Int)) ((sT l).length:Int)):Int)=0 by omega]
 have e:strSliceIndices (some (q:Int)) none 1 (sT l).length=strSliceIndices (some (q:Int)) (some ((l.length:Nat):Int)) 1 (sT l).length:=by unfold strSliceIndices;rw[bW];simp only[show((1:Int) > 0)=True from by simp,VC];rw[show(max 0 (min (if((l.length:Nat):Int)<0 then((l.length:Nat):Int)+((l.length:Nat):Int)else((l.length:Nat):Int)) ((l.length:Nat):Int)):Int)=(l.length:Int)by omega]
 refine⟨?_,?_⟩
 ·have:=jn l 0 q (YQ _) (YQ _);unfold Txt.slice at this ⊢;rw[a,this];rfl
 ·have:=jn l q l.length h h;unfold Txt.slice at this ⊢;rw[e,this,ZS (by rw[List.length_drop];omega)]
abbrev soF(ns:List Int)(A:OD)(t:Option Addr)(w:List Nat)(DD:D)(h g f e b a x:Option DV):DF:=[some (SC ns),sO A t,sS w,sV DD,h,g,f,e,b,a,x]
noncomputable def PA:List (List Nat):=[[126,53],[40],[41],[46],[123,49,125],[53],[123],[58]]
noncomputable def PS:List Nat:=[32,33,35,36,38,39,42,43,44,45,47,59,61,63,64,65,66,67,68,69,70,71,72,73,74,75,76,77,78,79,80,81,82,83,84,85,86,87,88,89,90,91,93,94,95,124]
def Iv:∀c∈PS,okC c=false/\c<128:=by decide
def GA:(" !#$&'*+,-/;=?@ABCDEFGHIJKLMNOPQRSTUVWXYZ[]^_|":Str)=sT PS:=by kernel_rfl
section
variable  {L:LS}{w:List Nat}{h:Int}{R:RS}{k:Nat}  
theorem yM(H:GT C L w h R k)(hD:aW DD (.str "used")=some (.lst (dUs L.U)))(hl:ns.length<=100){A:OD}{b:Nat}(hA:At A b)(hb:b<=1000000):∃(A':OD) (B:List Nat),At A' (b+2)/\Bad B/\bP C [SC ns,.own A none,.v (.str (sT w)),.v DD]=some ([SC ns,.own A' none,.v (.str (sT w)),.v DD],.str (sT B)):=by
 have hU:L.U.length<99:=by have h1:=H.lok.ul;have h2:=H.lok.le;omega
 have hwl:=H.l;obtain⟨v,j,s,v0,_,hv⟩:=d7 C ns hl hA (by omega);obtain⟨u,X,M,v20,_,J⟩:=d7 C ns hl s (by omega)
 suffices key:∃(A':OD) (B:List Nat),At A' (b+2)/\Bad B/\∀t,∃σ:DF,(al (dIf (asB (d2 ltd (ar 5) (cI 2))) (bb (d2 af (ag 2) (bv (du C) (aV (d2 aR (ag 4) (cI 6)) nA)))) dNx)
  (al (dIf (asB (d2 eqD (ar 5) (cI 2))) (al (aY 6 (bv (dX C) (aV (d2 aR (ag 4) (cI 6)) (aB 3 nA))))
  (iW (x2 af (ai (getV 2)) (x2 ixD (ai (getV 6)) (x2 aJ (ax (az C) (aH (ai (getV 0)) (aD 1 ba))) (ai (d1 aK (ar 6)))))))) dNx)
  (al (dIf (asB (d2 eqD (ar 5) (cI 3))) (al (aY 7 (λ_=>some (.str " !#$&'*+,-/;=?@ABCDEFGHIJKLMNOPQRSTUVWXYZ[]^_|")))
  (al (bC 8 (x2 aJ (ax (az C) (aH (ai (getV 0)) (aD 1 ba))) (ai (d2 af (d1 aK (ar 2)) (cI 1)))))
  (al (aY 9 (d2 ixD (ag 7) (d2 aJ (d2 aR (ag 4) (cI 6)) (d1 aK (ar 7)))))
  (bb (d2 af (d2 af (slS (ag 2) bNo (bI (getV 8))) (ag 9)) (slS (ag 2) (bI (getV 8)) bNo)))))) dNx)
  (al (ke 9 5 2 "()}" (d2 aR (ag 4) (cI 6)))
  (al (aY 10 (asO (asL (sL ["~5","(",")",".","{1}","5","{",":"]))))
  (al (dIf (asB (d2 eqD (d2 aJ (d2 aR (ag 4) (cI 18)) (cI 9)) (cI 8))) (bb (λ_=>some (.str ""))) dNx)
  (bb (d2 af (d2 ixD (ag 10) (d2 aJ (d2 aR (ag 4) (cI 18)) (cI 9))) (ag 2))))))))) (soF ns j t w DD (sI v) (sI (v%6)) none none none none none)=some (.rt (.v (.str (sT B))) (some (SC ns)::sO A' t::sS w::sV DD::σ))by
  obtain⟨A',B,h1,h2,h3⟩:=key;refine⟨A',B,h1,h2,gk rfl λT=>?_⟩;show(ij C (soF ns A (some (T 1)) w DD none none none none none none none)).bind _=_;unfold ij;obtain⟨σ,e⟩:=h3 (some (T 1));rw[aj (ρ':=soF ns j (some (T 1)) w DD (sI v) none none none none none none) (cx (gm ⟨_,rfl⟩ hv)),aj (ρ':=soF ns j (some (T 1)) w DD (sI v) (sI (v%6)) none none none none none) (by
   rw[bi,aq];show Option.map _ (aJ (.int v) (.int 6))=_;rw[aX v 6 (by decide)];rfl),e]
  rw[Ya];simp[nE,gW]
 have m0:0<=v%6:=Zg v (by decide);have m6:v%6<6:=Za v (by decide);have P:∀(i:Int) (t:Option Addr),asB (d2 eqD (ar 5) (λ_=>some (.int i))) (soF ns j t w DD (sI v) (sI (v%6)) none none none none none)=some (decide (v%6=i)):=λi t=>by
  rw[bw,aq];show(match eqD (.int (v%6)) (.int i)with|some (.bl b)=>some b|_=>none:Option Bool)=_;rw[eY]
 have fd:∀t,d2 aR (ag 4) (cI 6) (soF ns j t w DD (sI v) (sI (v%6)) none none none none none)=some (.int (v/6)):=λt=>by
  rw[aq];exact bM v 6 (by decide)
 by_cases c2:v%6<2
 ·obtain⟨p,K,e⟩:=yx C (v/6);have o:=vp H K;refine⟨j,w++p,s.mono (by omega),o,λt=>⟨[sI v,sI (v%6),none,none,none,none,none],fH ?_⟩⟩;rw[dJ,show asB (d2 ltd (ar 5) (cI 2)) (soF ns j t w DD (sI v) (sI (v%6)) none none none none none)=some true by
   rw[bw,aq];show some (decide (v%6<2))=_;rw[Yk c2],Ya,Yh rfl,d9,aq,i4,jD,fd]
  show Option.map _ (Option.bind (Option.bind (du C [.v (.int (v/6))]) dvD) λy=>af (.str (sT w)) y)=_;rw[e];show Option.map _ (af (.str (sT w)) (.str (sT p)))=_;rw[cW (by have:=o.1.1;rw[Yb]at this;omega)];rfl
 have O:∀t (g:Dw) ,dIf (asB (d2 ltd (ar 5) (cI 2))) g dNx (soF ns j t w DD (sI v) (sI (v%6)) none none none none none)=some (.nx (soF ns j t w DD (sI v) (sI (v%6)) none none none none none)):=λt g=>by
  rw[dJ,show asB (d2 ltd (ar 5) (cI 2)) (soF ns j t w DD (sI v) (sI (v%6)) none none none none none)=some false by
   rw[bw,aq];show some (decide (v%6<2))=_;rw[Yi c2]]
  rfl
 by_cases c3:v%6=2
 ·obtain⟨m,E,hm,hLs,K,e⟩:=BO C (v/6) hD hU H.lok.u9;obtain⟨p,hpL,ep⟩:=FD (L:=E) (i:=u%(E.length:Int)) (Zg _ (by omega)) (Za _ (by omega));have o:=yE H hm (K p hpL);refine⟨X,w++p,M,o,λt=>⟨[sI v,sI (v%6),sV (.lst (dPs E)),none,none,none,none],?_⟩⟩;rw[aj (O t _)];refine fH ?_;rw[dJ,P,Yk c3,Ya,Yh rfl];rw[aj (ρ':=soF ns j t w DD (sI v) (sI (v%6)) (sV (.lst (dPs E))) none none none none) (by
   rw[bi,i4,jD,fd];show Option.map _ (Option.bind (dX C [.v (.int (v/6)),.v DD]) dvD)=_;rw[e];rfl)]
  unfold iW;rw[gv (f:=af) (a:=.str (sT w)) (bE rfl) (gv (f:=ixD) (a:=.lst (dPs E)) (bE rfl) (gv (f:=aJ) (gm ⟨_,rfl⟩ J) (bE (f:=d1 aK (ar 6)) (d:=.int (E.length:Int)) (by rw[bX];show some (D.int ((dPs E).length:Int))=_;unfold dPs;rw[Yc])) (aX u _ (by omega))) ep) (cW (by have:=o.1.1;rw[Yb]at this;omega))];rfl
 have Y:∀t (g:Dw) ,dIf (asB (d2 eqD (ar 5) (cI 2))) g dNx (soF ns j t w DD (sI v) (sI (v%6)) none none none none none)=some (.nx (soF ns j t w DD (sI v) (sI (v%6)) none none none none none)):=λt g=>by
  rw[dJ,P,Yi c3];rfl
 by_cases c4:v%6=3
 ·let q:=(u%((w.length:Int)+1)).toNat
  have q0:=Zg u (b:=(w.length:Int)+1) (by omega);have q1:=Za u (b:=(w.length:Int)+1) (by omega);have hq:(q:Int)=u%((w.length:Int)+1):=by show((u%((w.length:Int)+1)).toNat:Int)=_;omega
  have hql:q<=w.length:=by omega
  obtain⟨c,ec,e3⟩:=kJ (l:=PS) (i:=v/6%46) (λc=>D.str ⟨#[c]⟩) (Zg _ (by decide)) (Za (b:=46) _ (by decide));have S:=Iv c (Zd ec);have o:=Bp (q:=q) H S.1 S.2;obtain⟨z1,z2⟩:=EJ w q hql;have lt1:(w.take q).length<=w.length:=by rw[List.length_take];omega
  have lt2:(w.drop q).length<=w.length:=by rw[List.length_drop];omega
  refine⟨X,w.take q++[c]++w.drop q,M,o,λt=>⟨[sI v,sI (v%6),none,sS PS,sI (q:Int),sS [c],none],?_⟩⟩;rw[aj (O t _),aj (Y t _)];refine fH ?_;rw[dJ,P,Yk c4,Ya,Yh rfl,GA];rw[aj (ρ':=soF ns j t w DD (sI v) (sI (v%6)) none (sS PS) none none none) rfl];rw[aj (ρ':=soF ns X t w DD (sI v) (sI (v%6)) none (sS PS) (sI (q:Int)) none none) (by
   rw[hq];exact cx (gv (f:=aJ) (gm ⟨_,rfl⟩ J) (bE (f:=d2 af (d1 aK (ar 2)) (cI 1)) (d:=.int ((w.length:Int)+1)) (by
    rw[aq,bX];show((if(sT w).length<=16777216 then some (D.int (sT w).length)else none).bind λx=>af x (.int 1))=_;rw[bW,Yh (by omega)];rfl)) (aX u _ (by omega))))]
  rw[aj (ρ':=soF ns X t w DD (sI v) (sI (v%6)) none (sS PS) (sI (q:Int)) (sS [c]) none) (by
   rw[bi,aq,aq,aq,bX];show Option.map _ ((Option.bind (Option.bind (aR (.int v) (.int 6)) λx=>aJ x (.int 46)) λy=>ixD (.str (sT PS)) y))=_;rw[bM v 6 (by decide),Ya,aX _ 46 (by decide),Ya];show Option.map _ (if(sT PS).length<=16777216 then(atI PS (v/6%46)).map (λc=>D.str ⟨#[c]⟩)else none)=_;rw[Yh (show(sT PS).length<=16777216 by decide),show(atI PS (v/6%46)).map (λc=>D.str ⟨#[c]⟩)=atI (PS.map λc=>D.str ⟨#[c]⟩) (v/6%46)from ?_,e3]
   ·rfl
   ·have Q:0<=v/6%46:=Zg _ (by decide);have Z:v/6%46<((PS.length:Nat):Int):=Za (b:=46) _ (by decide);rw[re Q Z,re Q (by rw[Yc];exact Z),YI])]
  rw[d9,aq,aq,lQ,lQ];show Option.map _ (Option.bind (Option.bind (if(sT w).length<=16777216 then some (D.str (Txt.slice (sT w) none (some (q:Int))))else none) λx=>af x (.str (sT [c]))) λx=>Option.bind (if(sT w).length<=16777216 then some (D.str (Txt.slice (sT w) (some (q:Int)) none))else none) λy=>af x y)=_;rw[bW,Yh (by omega),Yh (by omega),z1,z2,Ya,cW (by simp;omega),Ya,Ya,cW (by simp;omega)];rfl
 have s2:∀t (g:Dw) ,dIf (asB (d2 eqD (ar 5) (cI 3))) g dNx (soF ns j t w DD (sI v) (sI (v%6)) none none none none none)=some (.nx (soF ns j t w DD (sI v) (sI (v%6)) none none none none none)):=λt g=>by
  rw[dJ,P,Yi c4];rfl
 obtain⟨c,S,ec⟩:∃c:Nat,(c=40\/c=41\/c=125)/\("()}":Str).cps[(v/6%3).toNat]?=some c:=by
  rcases AU (v/6)with z|z|z<;>rw[z]
  ·exact⟨40,.inl rfl,by kernel_rfl⟩
  ·exact⟨41,.inr (.inl rfl),by kernel_rfl⟩
  ·exact⟨125,.inr (.inr rfl),by kernel_rfl⟩
 have eR:∀t,ke 9 5 2 "()}" (d2 aR (ag 4) (cI 6)) (soF ns j t w DD (sI v) (sI (v%6)) none none none none none)=if v%6=4/\(lT (sT w) c).isEmpty=false then(if(sT w).length<=16777216/\(oZ (sT w) c).length<=16777216 then some (.rt (.v (.str (oZ (sT w) c))) (soF ns j t w DD (sI v) (sI (v%6)) none none none (sS [c]) none))else none)else some (.nx (soF ns j t w DD (sI v) (sI (v%6)) none none none (sS [c]) none)):=λt=>by
  unfold ke;rw[fd];show(match("()}":Str).cps[(v/6%3).toNat]? with|some c=>_|none=>none)=_;rw[ec];rfl
 by_cases c5:v%6=4/\(lT (sT w) c).isEmpty=false
 ·obtain⟨u1,u2,ew,er⟩:=CU c5.2;have o:=CZ H S ew;refine⟨j,u1++u2,s.mono (by omega),o,λt=>⟨[sI v,sI (v%6),none,none,none,sS [c],none],?_⟩⟩;rw[aj (O t _),aj (Y t _),aj (s2 t _)];refine fH ?_;rw[eR,Yh c5,er,Yh ⟨by rw[bW];omega,by rw[bW];have:=o.1.1;omega⟩]
 ·have I:∀t (G:Dw) ,al (dIf (asB (d2 ltd (ar 5) (cI 2))) (bb (d2 af (ag 2) (bv (du C) (aV (d2 aR (ag 4) (cI 6)) nA)))) dNx) (al (dIf (asB (d2 eqD (ar 5) (cI 2))) (al (aY 6 (bv (dX C) (aV (d2 aR (ag 4) (cI 6)) (aB 3 nA))))
  (iW (x2 af (ai (getV 2)) (x2 ixD (ai (getV 6)) (x2 aJ (ax (az C) (aH (ai (getV 0)) (aD 1 ba))) (ai (d1 aK (ar 6)))))))) dNx) (al (dIf (asB (d2 eqD (ar 5) (cI 3))) (al (aY 7 (λ_=>some (.str " !#$&'*+,-/;=?@ABCDEFGHIJKLMNOPQRSTUVWXYZ[]^_|")))
  (al (bC 8 (x2 aJ (ax (az C) (aH (ai (getV 0)) (aD 1 ba))) (ai (d2 af (d1 aK (ar 2)) (cI 1)))))
  (al (aY 9 (d2 ixD (ag 7) (d2 aJ (d2 aR (ag 4) (cI 6)) (d1 aK (ar 7)))))
  (bb (d2 af (d2 af (slS (ag 2) bNo (bI (getV 8))) (ag 9)) (slS (ag 2) (bI (getV 8)) bNo)))))) dNx) (al (ke 9 5 2 "()}" (d2 aR (ag 4) (cI 6))) (al (aY 10 (asO (asL (sL ["~5","(",")",".","{1}","5","{",":"])))) G)))) (soF ns j t w DD (sI v) (sI (v%6)) none none none none none)=G (soF ns j t w DD (sI v) (sI (v%6)) none none none (sS [c]) (sV (.lst (dPs PA)))):=λt G=>by
   rw[aj (O t _),aj (Y t _),aj (s2 t _),aj (by rw[eR,Yp c5])];refine aj ?_
   kernel_rfl
  have ei:∀t,d2 aJ (d2 aR (ag 4) (cI 18)) (cI 9) (soF ns j t w DD (sI v) (sI (v%6)) none none none (sS [c]) (sV (.lst (dPs PA))))=some (.int (v/18%9)):=λt=>by
   rw[aq,aq];show Option.bind (aR (.int v) (.int 18)) (λx=>aJ x (.int 9))=_;rw[bM v 18 (by decide),Ya,aX _ 9 (by decide)]
  have N:∀t,asB (d2 eqD (d2 aJ (d2 aR (ag 4) (cI 18)) (cI 9)) (cI 8)) (soF ns j t w DD (sI v) (sI (v%6)) none none none (sS [c]) (sV (.lst (dPs PA))))=some (decide (v/18%9=8)):=λt=>by
   rw[bw,aq,ei];show(match eqD (.int (v/18%9)) (.int 8)with|some (.bl b)=>some b|_=>none:Option Bool)=_;rw[eY]
  by_cases c8:v/18%9=8
  ·refine⟨j,[],s.mono (by omega),En,λt=>⟨[sI v,sI (v%6),none,none,none,sS [c],sV (.lst (dPs PA))],(I t _).trans (fH ?_)⟩⟩;rw[dJ,N,Yk c8]
   kernel_rfl
  ·have Q:0<=v/18%9:=Zg _ (by decide);have Z:v/18%9<9:=Za _ (by decide);obtain⟨p,K,ep⟩:=FD (L:=PA) Q (show v/18%9<(8:Int)by omega);have o:=yA H K;refine⟨j,p++w,s.mono (by omega),o,λt=>⟨[sI v,sI (v%6),none,none,none,sS [c],sV (.lst (dPs PA))],(I t _).trans ?_⟩⟩;rw[aj (ρ':=soF ns j t w DD (sI v) (sI (v%6)) none none none (sS [c]) (sV (.lst (dPs PA)))) (by rw[dJ,N,Yi c8];rfl),d9,aq,aq,ei];show Option.map _ (Option.bind (ixD (.lst (dPs PA)) (.int (v/18%9))) λx=>af x (.str (sT w)))=_;rw[ep,Ya,cW (by have:=o.1.1;rw[Yb]at this;omega)];rfl
end
end My
namespace My
open PySem PySem.Spec PyProof.Rows L2
def v6{w:List Nat}(h:Bad w):cc C [.v (.str (sT w))]=some ([.v (.str (sT w))],.bl true):=gk rfl λf=>by
 have b:=D7 (C:=C) h.1 h.2;have i:∀a:Bool,isE (fX bp bp a a) (.exn (cl2 bp cJ 0))=some (.bl a):=λa=>by
  show(fX bp bp a a bp).map D.bl=_;unfold fX;rw[Yh rfl];rfl
 show(e6 C [sS w,none,none]).bind (nE f [.v (.str (sT w))])=_;have e:e6 C [sS w,none,none]=some (.rt (.v (.bl true)) [sS w,sV (.exn (cl2 bp cJ 0)),none]):=by
  unfold e6;rw[aj (ρ':=[sS w,sV .non,none]) rfl];rw[aj (ρ':=[sS w,sV (.exn (cl2 bp cJ 0)),none]) (by
   unfold wt;show(match fg C [.v (.str (sT w))]with|some k=>_|none=>none)=_;rw[b];rfl)]
  generalize D.exn (cl2 bp cJ 0)=g at *;simp[i]
 rw[e,Ya];simp[nE,gW]
def GR{m:MW}{f:DX}{d r:D}(a:f ρ=some (d,ρ'))(h:m [.v d]=some ([.v d],r)):ax m (aH f ba) ρ=some (r,ρ'):=by unfold ax aH;rw[a];show(if([]:List Nat).Nodup then(some [DV.v d]).bind (λx=>(m x).bind _)else none)=_;rw[Yh (by decide),Ya,h];rfl
abbrev lwF(ns:List Int)(w:List Nat)(DD:D)(A x:Option DV):DF:=[some (SC ns),sS w,sV DD,A,x]
theorem D0{L:LS}{w:List Nat}{h:Int}{R:RS}{k:Nat}{J:D}(H:GT C L w h R k)(u:aW DD (.str "used")=some (.lst (dUs L.U)))(h1:aW DD (.str "kinds")=some (.lst (L.K.map .str)))(h2:aW DD (.str "ties")=some (.lst (L.T.map dT4)))(s:ns.length<=100)
  (p:cT C [.v (.str (sT w))]=sO (.ins C (wFs L.K (.lst (srt R.T)) J)) none) (hw:bO C [.v (.ins C (wFs L.K (.lst (srt R.T)) J)),.v (.lst (L.K.map .str)),.v (.lst (L.T.map dT4))]=some (.v (.bl true))):∀(is:List Int) (A:OD) (b:Nat) (x:Option DV),At A b->b+2*is.length<=1000000->∃A' g,cN (setV 4) (al (n4 (xN (y0 (ax (cc C) (aH (ax (bP C) (aH (ai (getV 0)) (aD 3 (aH (ai (getV 1)) (aH (ai (getV 2)) ba))))) ba)))) (bb (λ_=>some (.bl false))) dNx)
  (dIf (c_ (asB (bv (bO C) (aV (bv (cT C) (aV (getV 1) nA)) (aV (d2 aW (ag 2) (λ_=>some (.str "kinds"))) (aV (d2 aW (ag 2) (λ_=>some (.str "ties"))) nA)))))) (bb (λ_=>some (.bl false))) dNx)) (is.map .int) (lwF ns w DD (sO A none) x)=some (.nx (lwF ns w DD (sO A' none) g)):=by
 intro is;induction is with
 |nil=>exact λA b x _ _=>⟨A,x,rfl⟩
 |cons i is ih=>
  intro A b x z j;rw[Yg]at j;obtain⟨f,m,l,y,o⟩:=yM (C:=C) (ns:=ns) H u s z (by omega);have q:=v6 (C:=C) y;obtain⟨A',g,e⟩:=ih f (b+2) (sI i) l (by omega);refine⟨A',g,?_⟩;rw[YD];unfold cN;have E:ax (bP C) (aH (ai (getV 0)) (aD 3 (aH (ai (getV 1)) (aH (ai (getV 2)) ba)))) (lwF ns w DD (sO A none) (sI i))=some (.str (sT m),lwF ns w DD (sO f none) (sI i)):=by unfold ax;show(if([3]:List Nat).Nodup then(some [SC ns,.own A none,.v (.str (sT w)),.v DD]).bind (λa=>(bP C a).bind _)else none)=_;rw[Yh (by decide),Ya,o];rfl
  have B:ax (cc C) (aH (ax (bP C) (aH (ai (getV 0)) (aD 3 (aH (ai (getV 1)) (aH (ai (getV 2)) ba))))) ba) (lwF ns w DD (sO A none) (sI i))=some (.bl true,lwF ns w DD (sO f none) (sI i)):=GR E q;have j:(al (n4 (xN (y0 (ax (cc C) (aH (ax (bP C) (aH (ai (getV 0)) (aD 3 (aH (ai (getV 1)) (aH (ai (getV 2)) ba))))) ba)))) (bb (λ_=>some (.bl false))) dNx)
  (dIf (c_ (asB (bv (bO C) (aV (bv (cT C) (aV (getV 1) nA)) (aV (d2 aW (ag 2) (λ_=>some (.str "kinds"))) (aV (d2 aW (ag 2) (λ_=>some (.str "ties"))) nA)))))) (bb (λ_=>some (.bl false))) dNx)) (lwF ns w DD (sO A none) (sI i))=some (.nx (lwF ns w DD (sO f none) (sI i))):=by
   rw[aj (ρ':=lwF ns w DD (sO f none) (sI i)) (by
    unfold n4 xN y0;rw[B];rfl)]
   rw[dJ,qW,bw,i4,jD,jD,jD,i4,jD,aq,aq];show Option.bind (Option.map not (match Option.bind (Option.bind (Option.bind (cT C [.v (.str (sT w))]) dvD) λd=>Option.map (λa=>DV.v d::a) (Option.bind (aW DD (.str "kinds")) λd=>Option.map (λa=>DV.v d::a) (Option.bind (aW DD (.str "ties")) λd=>some [DV.v d]))) (λa=>Option.bind (bO C a) dvD)with|some (.bl b)=>some b|_=>none:Option Bool)) _=_;rw[p,h1,h2];show Option.bind (Option.map not (match Option.bind (bO C [.v (.ins C (wFs L.K (.lst (srt R.T)) J)),.v (.lst (L.K.map .str)),.v (.lst (L.T.map dT4))]) dvD with|some (.bl b)=>some b|_=>none:Option Bool)) _=_;rw[hw];rfl
  show(match((al (n4 (xN (y0 (ax (cc C) (aH (ax (bP C) (aH (ai (getV 0)) (aD 3 (aH (ai (getV 1)) (aH (ai (getV 2)) ba))))) ba)))) (bb (λ_=>some (.bl false))) dNx)
  (dIf (c_ (asB (bv (bO C) (aV (bv (cT C) (aV (getV 1) nA)) (aV (d2 aW (ag 2) (λ_=>some (.str "kinds"))) (aV (d2 aW (ag 2) (λ_=>some (.str "ties"))) nA)))))) (bb (λ_=>some (.bl false))) dNx)):Dw) (lwF ns w DD (sO A none) (sI i))with|some (.nx ρ)=>cN _ _ (is.map .int) ρ|some (.ct ρ)=>cN _ _ (is.map .int) ρ|some (.bk ρ)=>some (.nx ρ)|r=>r)=_
  rw[j];exact e
theorem law_true(C:Addr)(ns:List Int)(Q:ns.length<=63):Fj C [.v (.lst (ns.map L2.D.int))]=sV (.bl true):=by
 obtain⟨L,w,k,p,s,hI,hO,S,M,O⟩:=Ej C ns Q;obtain⟨b,ln,lt,y,R,h,a,i,g⟩:=hI;have H:GT C L w h R k:=⟨a,i,g,S,hO,b,y,M⟩
 have P:=b.le;have k7:=b.k7;have f:R.T.Perm L.T:=by have:=a.t;rwa [Yl]at this
 have E:=f.length_eq;have hK:okK (L.K.length:Int) R.K:=⟨by rw[a.k],λx I=>b.kw x (by rw[<-a.k];exact I)⟩
 have Z:okS (L.K.length:Int) R.T:=⟨by rw[E];omega,λt N=>lt t (f.mem_iff.mp N)⟩
 obtain⟨J,z⟩:=zw (C:=C) (l:=w) ⟨by omega,y⟩ H.good (n:=(L.K.length:Int)) ⟨by omega,by omega⟩ hK Z;rw[a.k]at z;have Y:=yX C L.K R.T L.T J (L.K.length:Int) ⟨rfl,b.kw⟩ (by omega) (by omega) (AM _ _ (f.symm.map lf));have q:aW (bT L p s).d (.str "kinds")=some (.lst (L.K.map .str)):=by kernel_rfl
 have o:aW (bT L p s).d (.str "ties")=some (.lst (L.T.map dT4)):=by kernel_rfl
 have m:aW (bT L p s).d (.str "used")=some (.lst (dUs L.U)):=by kernel_rfl
 obtain⟨x,X⟩:=pR C (ns++[3]);have j:At (.lst [.int 0,.int x]) 0:=⟨0,x,rfl,by decide,by decide⟩
 generalize hDD:(bT L p s).d=u at *;obtain⟨A',B,e⟩:=D0 (C:=C) (ns:=ns) (J:=J) H m q o (by omega) z Y [0,1,2,3,4] _ 0 none j (by decide);show c9 (BG C [some (SC ns),none,none,none,none])=_;unfold BG;rw[aj (ρ':=lwF ns w u none none) (by
  rw[zZ,i4,jD];show Option.bind (Option.bind (iB C [SC ns]) dvD) _=_;rw[O];rfl)]
 rw[aj (ρ':=lwF ns w u (sO (.lst [.int 0,.int x]) none) none) (by
  rw[nG,sP,jD,aq];show Option.map _ (Option.bind (Option.bind (if(ns.map D.int).length+1<=16777216 then some (D.lst (ns.map D.int++[.int 3]))else none) λd=>some [DV.v d]) λA=>Option.bind (di C A) dvO)=_;rw[Yh (by rw[Yc];omega),show ns.map D.int++[D.int 3]=(ns++[3]).map D.int by rw[YB];rfl];show Option.map _ (Option.bind (di C [SC (ns++[3])]) dvO)=_;rw[X];rfl)]
 rw[aj (ρ':=lwF ns w u (sO A' none) B) (by
  rw[gu];exact e)]
 rfl
def spLaw(K:Kq):Sp:=λe H Q _=>∃(a:Addr) (b:List Int),e=[.ref a]/\SqL K H a (b.map V.int)/\b.length<=63/\∀f,Q (.bl true) f
theorem lI:∀ns:List Int,Reps K H (ns.map V.int) (ns.map D.int)
 |[]=>.nil
 |_::ns=>.cons .int (lI ns)
def xW(h:∀ns:List Int,ns.length<=63->m [.v (.lst (ns.map D.int))]=some (.v (.bl true))):∀vs H Q E,spLaw K vs H Q E->spD K m vs H Q E:=by rintro vs H Q E ⟨a,ns,rfl,f,b,g⟩;refine⟨λ_=>none,H,_,_,h ns b,⟨λ_ _ e=>e,λ_ _ e=>(by cases e),λ_ _ e=>(by cases e)⟩,.cons rfl (show Rep K H _ _ from .lst f (lI ns)) .nil,λv j i _ _ r=>?_⟩;cases r;exact g i
def gS(P:Params)(a n:Nat):List DictEntry:=(((rT.filter (·.i<1000)).drop a).take n).map λr=>kE P (fW (top r.i)) (r.h+2) (.ref (r.a+1))
def kz:Str := "__doc__"
noncomputable def KK:Params->PySem.W.Frag:=λP=>(λ(_:kz = "__doc__")=>[(nat_lit 3,{cls:=.type "dict",data:=.dict ([kE P "__name__" 165 (.str "law_tieword_k22_bad_texts" 699),kE P "__doc__" 166 (.none),kE P "__package__" 167 (.none),kE P "__loader__" 168 (.builtin "__main__.__loader__#opaque"),kE P "__spec__" 169 (.none),kE P "__annotations__" 170 (.ref 6),kE P "__builtins__" 171 (.ref 4),kE P "__file__" 173 (.str "/claim/cut.py" 172),kE P "__cached__" 174 (.none),kE P "_wall" 193 (.ref 21),kE P "WebError" 213 (.ref 31),kE P "TooGreat" 229 (.ref 44),kE P "BadPlace" 245 (.ref 56),kE P "BadTie" 261 (.ref 68),kE P "BadOrder" 277 (.ref 80),kE P "TooMany" 293 (.ref 92),kE P "BadText" 309 (.ref 104),kE P "BadName" 325 (.ref 116),kE P "Twice" 341 (.ref 128),kE P "NoWeb" 357 (.ref 140),kE P "BadRule" 373 (.ref 152),kE P "NoWay" 389 (.ref 164),kE P "MOST_PLACES" 393 (.int 7 392),kE P "MOST_TIES" 395 (.int 12 394),kE P "MOST_LETTERS" 397 (.int 3 396)]++gS P 0 7++[kE P "Web" 510 (.ref 249),kE P "MOST_FIGURES" 514 (.int 30 513),kE P "MOST_RING" 516 (.int 99 515),kE P "LEADS" 526 (.ref 254)]++gS P 7 2++[kE P "Reader" 690 (.ref 374)]++gS P 9 18).toArray 57}),
(nat_lit 30,{cls:=.type "dict",data:=.dict #[kE P "__module__" 203 (.str "tieword.errors" 194),kE P "__firstlineno__" 207 (.int 5 206),kE P "__static_attributes__" 208 (.ref 29),kE P "__weakref__" 210 (.ref 32),kE P "__doc__" 211 (.none)] 3}),
(nat_lit 31,{cls:=.type "type",data:=.cls {name := "WebError",bases:=[.type "ValueError"],mro:=[.ref 31,.type "ValueError",.type "Exception",.type "BaseException",.type "object"],ns:=30,qualname := "WebError",subclasses:=[.ref 44,.ref 56,.ref 68,.ref 80,.ref 92,.ref 104,.ref 116,.ref 128,.ref 140,.ref 152,.ref 164]},slots:=#[some (.ref 22),none,some (.str "WebError" 196),some (.str "WebError" 204),some (.builtin "ValueError.__new__"),some (.bool true)]}),
(nat_lit 43,{cls:=.type "dict",data:=.dict #[kE P "__module__" 221 (.str "tieword.errors" 194),kE P "__firstlineno__" 225 (.int 7 224),kE P "__static_attributes__" 226 (.ref 42),kE P "__doc__" 227 (.none)] 2}),
eO 31 44 "TooGreat" 43 35 214 222,
eO 31 56 "BadPlace" 55 47 230 238,
eO 31 68 "BadTie" 67 59 246 254,
eO 31 80 "BadOrder" 79 71 262 270,
eO 31 92 "TooMany" 91 83 278 286,
(nat_lit 103,{cls:=.type "dict",data:=.dict #[kE P "__module__" 301 (.str "tieword.errors" 194),kE P "__firstlineno__" 305 (.int 17 304),kE P "__static_attributes__" 306 (.ref 102),kE P "__doc__" 307 (.none)] 2}),
eO 31 104 "BadText" 103 95 294 302,
eO 31 116 "BadName" 115 107 310 318,
eO 31 128 "Twice" 127 119 326 334,
eO 31 140 "NoWeb" 139 131 342 350,
eO 31 152 "BadRule" 151 143 358 366,
eO 31 164 "NoWay" 163 155 374 382,
(nat_lit 248,{cls:=.type "dict",data:=.dict #[kE P "__module__" 465 (.str "tieword.webs" 390),kE P "__firstlineno__" 469 (.int 64 468),kE P "__init__" 475 (.ref 225),kE P "size" 482 (.ref 232),kE P "between" 491 (.ref 239),kE P "near" 499 (.ref 246),kE P "__static_attributes__" 503 (.ref 247),kE P "__dict__" 505 (.ref 250),kE P "__weakref__" 507 (.ref 251),kE P "__doc__" 508 (.none)] 4}),
(nat_lit 249,{cls:=.type "type",data:=.cls {name := "Web",bases:=[.type "object"],mro:=[.ref 249,.type "object"],ns:=248,qualname := "Web" },slots:=#[none,none,some (.str "Web" 458),some (.str "Web" 466),some (.builtin "object.__new__"),some (.bool true)]}),
(nat_lit 254,{cls:=.type "dict",data:=.dict #[kE P "~" 517 (.int 0 518),kE P ">" 519 (.int 1 520),kE P "<" 521 (.int 2 522)] 3}),
(nat_lit 373,{cls:=.type "dict",data:=.dict #[kE P "__module__" 551 (.str "tieword.reading" 511),kE P "__firstlineno__" 555 (.int 90 554),kE P "__init__" 563 (.ref 282),kE P "sign" 570 (.ref 289),kE P "skip" 578 (.ref 296),kE P "taken" 588 (.ref 303),kE P "number" 596 (.ref 310),kE P "marks" 605 (.ref 317),kE P "join_by" 611 (.ref 322),kE P "begin_ring" 620 (.ref 329),kE P "close_ring" 630 (.ref 336),kE P "ring_sign" 639 (.ref 343),kE P "place" 648 (.ref 350),kE P "follow" 658 (.ref 357),kE P "go_on" 667 (.ref 364),kE P "read_all" 675 (.ref 371),kE P "__static_attributes__" 683 (.ref 372),kE P "__dict__" 685 (.ref 375),kE P "__weakref__" 687 (.ref 376),kE P "__doc__" 688 (.none)] 4}),
(nat_lit 374,{cls:=.type "type",data:=.cls {name := "Reader",bases:=[.type "object"],mro:=[.ref 374,.type "object"],ns:=373,qualname := "Reader" },slots:=#[none,none,some (.str "Reader" 544),some (.str "Reader" 552),some (.builtin "object.__new__"),some (.bool true)]})]++rT.flatMap λr=>[(r.a,cO (fW (top r.i)) (qn r.i) r.t (lno (top r.i)) (bK (top r.i)).length (if r.c == 1 then r.a-5 else r.a-3) (r.c == 1) r.h 181),(r.a+1,fO (qn r.i) (top r.i) (mdl r.m) r.a)]) rfl
def lkA(P:Params):rT.map (λr=>((KK P).lookup (r.a+1),PySem.W.codeIn (KK P) (.ref r.a) (qn r.i),PySem.W.keepIn (KK P) (.ref (r.a+1))))=rT.map λr=>(some (fO (qn r.i) (top r.i) (mdl r.m) r.a),true,true):=by kernel_rfl
def glA(P:Params):rT.map (λr=>if r.i<1000 then PySem.W.nsIn (KK P) mainGlobals (fW (top r.i))else none)=rT.map λr=>if r.i<1000 then some (some (.ref (r.a+1)))else none:=by kernel_rfl
def bdA:∀r∈rT,Iq (qn r.i) (top r.i) (mdl r.m) r.a:=by
 unfold rT
 repeat' refine List.forall_mem_cons.2 ⟨?_,?_⟩
 all_goals first|exact List.forall_mem_nil _|((repeat intro _);show _=_;kernel_rfl)
def dfA{P:Params}{h:Heap}(X:(KK P).In h)(G:h.Ns mainGlobals mg)(i:Nat)(hi:(row i).isSome=true):Df (KK P) (qn i) (top i) (fA i) (dA i)/\(i<1000->mg (fW (top i))=some (.ref (fA i))):=by obtain⟨r,e⟩:=ZZ.mp hi;have m:=List.mem_of_find?_eq_some e;have q:r.i=i:=ZT.mp (List.find?_some (p:=λx:Rw=>x.i == i) (l:=rT) e);subst q;have a:=Xa.mp (lkA P) r m;have b:=Xa.mp (glA P) r m;simp only[Prod.mk.injEq]at a;unfold fA dA;rw[e];refine⟨IP a.1 a.2.1 a.2.2 (bdA r m),λz=>?_⟩;rw[Yh z,Yh z]at b;exact PySem.W.mg_of X G b
def all_mk{l:PySem.W.OpenLaw}{h:Heap}{fa:Addr}(X:(KK w.params).In h)(G:h.Ns mainGlobals mg)(hfa:mg "law"=some (.ref fa)) :
  ∃fd:FuncData,(∀(s:Shared) (v:Value),BindsTo s fd ⟨[v],[]⟩ [("_law_script",v)])/\∀base:Heap,(KK w.params).In base->base.Ns mainGlobals mg->FnOk l.prog w (KK w.params) mg base CX0 12 fa fd ["_law_script"] (spLaw (KK w.params)):=by
 have e:=hfa.symm.trans ((dfA X G 51 rfl).2 (by decide));cases e;have T:Txt (KK w.params) mg ⟨w,249,392,394,396,513,515,31,116,80,56,152,68,164,140,92,128⟩:=by
  constructor
  ·exact dfA X G
  all_goals first
   |exact PySem.W.mg_none_of X G (by kernel_rfl)
   |exact PySem.W.mg_of X G (by kernel_rfl)
   |(delta NoAttr;kernel_rfl)
   |exact KD.mk (by kernel_rfl) (by decide) (by kernel_rfl)
   |(constructor<;>kernel_rfl)
   |kernel_rfl
   |(intro k;cases k<;>constructor<;>kernel_rfl)
   |(intro k;cases k<;>first|exact Eq.trans (b:=some true) (by kernel_rfl) (by simp)|exact Eq.trans (b:=some false) (by kernel_rfl) (by simp)|kernel_rfl)
 exact⟨_,λs v=>.of_eq rfl,λbase _ _=>(Fv T).imp (xW (law_true _))⟩
end My
structure PySem.W.Fast:Prop where
 (tw393963105737981626 tw14577631176288064283 tw17504965183053889284 tw344052725345984526 tw14150166753011594806 tw17685042740016006702 tw17185116299436208397 tw16376805534300440625 tw9085576621083781710 tw3033701451621562700 tw16496244927037602158 tw13053442632901837836 tw12073352325024270217 tw1615333140701296481 tw2116342806850557452 tw12741914607450664112 tw9826568063018330720 tw7937581354507098760 tw7441552129398658545 tw2187177554880333200 tw2062906093870363615 tw3186286296623919789 tw17265906411966116076 tw15911700082506336031 tw11404465356911468011 tw9268490170694297391 tw7620231547286289117 tw9338466250952041353 tw8736477128556980102 tw1568491646596706770 tw10408539775086446104 tw17924628120361294746 tw18067235403550230321 tw4213065628182061311 tw14319198176582561333 tw14693418684865978343 tw9928091238266983738 tw16949816523299122488 tw1259432356351716406 tw2337010040854369314 tw18121692650369300283 tw11139641710795057710 tw2163873878925104612 tw12311430240312281811 tw10649822207953644813 tw8798443111641549588 tw12030873798713368200 tw7517815258952266860 tw6059899859125638571 tw4341172765832319806 tw287947951996284227 tw15029129870968947295 tw14053344888656174393 tw1119685935306222110 tw15367436975258486632 tw2203422705361318616 tw6406887215782703200 tw9047823084956562629 tw526494678042255575 tw2526897428148027545 tw12035843744484840147 tw2554506536725559463 tw13253722952204521883 tw10721311059937961561 tw7657207191619738477 tw17508692043661211112 tw12006213672859107934 tw11024840688906951228 tw8532592032269904289 tw7095640866944352642 tw5097763197617789183 tw15887904666203766165 tw9082109824150129910 tw12656069897257150676 tw11255898534649294557 tw4677608166341210943 tw13294454196355070540 tw11652285806817590655 tw3374583077015513978 tw18060059717616278097 tw10814010523325047666 tw2547445951042934120 tw7912766476190575594 tw4581364860459160831 tw10888487833853732867 tw9700973575684615170 tw8511242512041536084 tw4309724794791405941 tw1588257998738851501 tw17762792023558653795 tw14155969272000324365 tw8784256865217157574 tw377625398328800163 tw983946277725234120 tw4516873901958570130 tw16168121613093792098 tw12900041194349196971 tw12120165301735477444 tw10485712399291062162 tw2055975058447795255 tw13635826847943176060 tw15984227673088306268 tw6265437157945262571 tw870109600706167846 tw3144229338591669427 tw5286958878472268564 tw10062236992818691615 tw6996150487805776773 tw5278806575289919809 tw3765608441418602888 tw625379729552418673 tw481037614152965441 tw13667150695857753198 tw5310335450229272636 tw8770842006035279154 tw14546887015810860273 tw17305885973400830772 tw4394993115487271706 tw3011753642994232911 tw18092482227075483322 tw461074365395940821 tw1790127233130172720 tw3918661452040965396 tw15734713761521693232 tw17833262796256476859 tw5173147122517342837 tw3951946071861137121 tw15031378729808335543 tw14502736658523949946 tw16542872893673256239 tw8187986313115611548 tw4144258487312575173 tw6675828878092259001 tw14280358107295368562 tw13578618382875226366 tw92437729202687411 tw10183696710489905194 tw4550583711667680267 tw14941632356562485345 tw18012139782468473395 tw230315587476171402 tw11202247772767410967 tw7792676536483229480 tw3081204693349344086 tw14742668755148603416 tw16929319864008425544 tw16704241687183577862 tw7268155662559069900 tw15005007934217228017 tw14180996429017368675 tw648095612700257774 tw11246784315165293585 tw17029607894539242415 tw11773759334496111780 tw12875753871686893370 tw2955944498795352162 tw4849372144862899851 tw17886651241701551211 tw16875329904238811987 tw11872001661239624002 tw1375808819755728731 tw4329218848110953870 tw4665639814136089883 tw9683582491046718820 tw10142325501552182679 tw732762925092251385 tw2231959510352552098 tw1080066541515556922 tw4913158467321614203 tw2301037224113518212 tw8321857781880736952 tw327422366404144294 tw15179588727487087090 tw17242819077124678822 tw10653970125084592722 tw6575700159169181518 tw9350575532044887883 tw4612208632113893391 tw2027959963467975767 tw1873001718558335391 tw17722902429589682897 tw2988848602866248938 tw13540809330046655017 tw8137609944449815328 tw2392150917747890364 tw17804416709603711908 tw759258918897719147 tw11978934470716242688 tw3387693840133251221 tw8966031541780399866 tw16668640184624974822 tw15675049286310081696 tw11030324997603055497 tw8197599703761445507 tw4017444077504515470 tw17266733628585451086 tw17976756091473338570 tw11713773092380529008 tw2437350871365892131 tw15940322807524839341 tw15400129573969307849 tw1268963898648209667 tw16905090905598998127 tw3597989291502268990 tw11157664416222347531 tw11844249772036700106 tw6188166684784434906 tw16590020721342342399 tw10822320762600547994 tw12490184818666053498 tw8523551370006309514 tw12336238769047092740 tw9294852958283617 tw10423136636997877850 tw9753613269090566948 tw1605399078124018380 tw7477279651349002103 tw11202690645065749433 tw4405013626789209068 tw17271913068292285846 tw16752298255007479516 tw10776634507635056341 tw1771805056138256301 tw16079078028521787039 tw8945434178923323959 tw960945714900344482 tw17062221265726087868 tw481620567526592673 tw1988544442280629661 tw16203206974778882299 tw6422591977444133882 tw17581643145802233505 tw15299816339668594957 tw798320516992664270 tw4269880261978378982 tw16632024160790558035 tw9517992326058663145 tw7559274190837222915 tw364581048071195989 tw979958648071630927 tw9647931765206898248 tw13049319139034252467 tw4807091366109200016 tw861007361948572303 tw10487050819130412682 tw4385364081586708816 tw11597908052927741730 tw16248750892748433683 tw1960574937969563438 tw18063394819768777882 tw18438680527698159157 tw341513344826947021 tw7745154967403523599 tw3676967131822316947 tw6806411998629250401 tw16049992389044992123 tw303341776273650817 tw4772243641618017086 tw15772617737486654436 tw9901125965144036009 tw4102326711907188474 tw8120122438112562239 tw11961666100662325399 tw9778501441861019240 tw15347112152229746129 tw7081317008132872900 tw13291518233295725361 tw13898659711147302496 tw3372225976490739238 tw10647518421502579275 tw7583798215344713280 tw16531489340265985968 tw1433745832465626821 tw7207903171161621381 tw3954308203279324982 tw8948030768364312149 tw13992591356689791905 tw7596367517918459925 tw7987816656401760401 tw18173789545063190151 tw8314937519594474882 tw14654929842244244381 tw16554843632005988062 tw18238598789316261390 tw5093363331592617077 tw797425735833175642 tw4529858989675299770 tw9136853324681218056 tw18359835404902032505 tw15096981396024028750 tw1312570050228776565 tw11292749421552552785 tw6330601518878094637 tw17705346812403269908 tw6109654184267765558 tw6173005619827857088 tw4561535760501408931 tw4025321553671274669 tw8777746215041346477 tw7309928058418944285 tw6933362022363658716 tw783673564533376435 tw18403063107917591057 tw10577113942353687962 tw15703925733019265283 tw7198968940243148912 tw1019046707559129827 tw11983486227561996088 tw10105565492038693838 tw2300754081389821853 tw16180954099322754205 tw13640303957122934931 tw4350440319613589955 tw95377568300390330 tw13171212702433379261 tw15444539110509834050 tw7553555434763293066 tw4893647023872284799 tw18253056893474663686 tw12719719220559975406 tw10538813779826909890 tw6232620065372409618 tw12806219137027181173 tw10502651530960658768 tw6572195142835749165 tw17554442742816119770 tw636921126952290829 tw4651991196705834377 tw14435704215981024235 tw18391485295923047721 tw12591285171591832501 tw3373020582411525832 tw8741683661290752795 tw8746026881555377725 tw11198661269958416725 tw3093566429725217688 tw437957489014401352 tw4220641343247629905 tw12812967326743242007 tw12199495876489513295 tw1138409775727122733:True)
open PySem PySem.W PyProof.Rows
set_option maxRecDepth 100000 in
set_option maxHeartbeats 0 in
theorem PySem.Challenge.cw_tieword_k22_bad_texts_holds : PySem.Challenge.rw_tieword_k22_bad_texts.Holds := by
  w_on; o_law; o_head (PySem.W.kHook My.KK [3,30,31,43,44,56,68,80,92,103,104,116,128,140,152,164,248,249,254,373,374,170,171,177,178,184,185,191,192,198,199,205,206,212,213,224,225,260,261,267,268,281,282,288,289,295,296,302,303,309,310,316,317,321,322,328,329,335,336,342,343,349,350,356,357,363,364,370,371,384,385,391,392,398,399,405,406,410,411,417,418,424,425,431,432,438,439,445,446,452,453,459,460,464,465,471,472,478,479,485,486,492,493,499,500] (λ_=>by kernel_rfl)); (case hw=>w_witness2)
  k_fill
  refine L2.walk_ofK (l:=PySem.Challenge.rw_tieword_k22_bad_texts) (n:=63) (k:=12) (x := "_law_script") (CX:=L2.CX0) (sp:=My.spLaw) rfl (by decide) rfl ⟨rfl,by decide,by decide⟩ (λw h Y=>PySem.W.kIn_of Y) ?F (λK H a ns hl _ hS=>⟨a,ns,rfl,hS,hl,λ_=>rfl⟩) λ_ _ _ _ z=>z
  case F=>
    intro w mg fa h KX G hmg
    exact My.all_mk KX G hmg
